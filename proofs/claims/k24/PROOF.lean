import PyProof.Rows.All
import Wide.All
import OpenK.AllK
import Wide.FinOn
import Lean
import PyProof.EqAt
import PyProof.EqKinds
import PyProof.TupleCall
import PyProof.Draws
import PyProof.ListRange
import PySem.Challenge.RW_stillflow_k24_whole_one_giver
set_option Elab.async false
set_option linter.all false
set_option maxRecDepth 100000
set_option maxHeartbeats 4000000
abbrev _root_.zA:=@Option.bind_some
abbrev _root_.zB:=@Option.map_some
abbrev _root_.zC:=@List.mem_cons_of_mem
abbrev _root_.zD:=@List.length_map
abbrev _root_.zE:=@List.mem_cons_self
abbrev _root_.zF:=@Bool.and_eq_true
abbrev _root_.zG:=@List.getD_eq_getElem?_getD
abbrev _root_.zH:=@List.size_toArray
abbrev _root_.zI:=@List.map_cons
abbrev _root_.zJ:=@decide_eq_true_eq
abbrev _root_.zK:=@List.getElem?_eq_getElem
abbrev _root_.zL:=@List.length_cons
abbrev _root_.zM:=@List.map_map
abbrev _root_.zN:=@List.length_append
abbrev _root_.zO:=@List.getElem?_map
abbrev _root_.zP:=@Nat.lt_of_lt_of_le
abbrev _root_.zQ:=@List.mem_map
abbrev _root_.zR:=@List.mem_cons
abbrev _root_.zS:=@List.length_range
abbrev _root_.zT:=@List.mem_range
abbrev _root_.zU:=@List.getElem?_eq_some_iff
abbrev _root_.zV:=@PySem.Heap.get?_push_of_some
abbrev _root_.zW:=@PySem.wpAny_bind
abbrev _root_.zX:=@PySem.wpAny_pure
abbrev _root_.zY:=@PySem.Heap.get?_push_size
abbrev _root_.zZ:=@PySem.Heap.lt_size
abbrev _root_.yA:=@decide_eq_false
abbrev _root_.yB:=@decide_eq_true
abbrev _root_.yC:=@List.lookup_cons
abbrev _root_.yD:=@List.length_set
abbrev _root_.yE:=@Nat.le_trans
abbrev _root_.yF:=@List.mem_append_right
abbrev _root_.yG:=@List.not_mem_nil
abbrev _root_.yH:=@Int.toNat_natCast
abbrev _root_.yI:=@List.map_congr_left
abbrev _root_.yJ:=@List.foldl_cons
abbrev _root_.yK:=@List.mem_singleton
abbrev _root_.yL:=@Option.some.injEq
namespace L2
open PySem PySem.Spec PyProof.Rows
noncomputable abbrev wc:=Sum Int Str
noncomputable def Hh:wc->Value->Bool
 | .inl k,v=>Value.isInt k v
 | .inr x,v=>Value.isStrOf x v
noncomputable def MP(w:World):wc->Int
 | .inl k=>hashInt k
 | .inr x=>hashStr w x
theorem bJ:∀ {k:wc}{v:Value},Hh k v=true->(∃i t,k=Sum.inl i/\v=Value.int i t)\/(∃x t,k=Sum.inr x/\v=Value.str x t)
 | .inl i,v,h=>by
  obtain⟨t,e⟩:=Value.isInt_shape (k:=i) (v:=v) h
  exact .inl ⟨i,t,rfl,e⟩
 | .inr x,v,h=>by
  obtain⟨t,e⟩:=Value.isStrOf_shape (x:=x) (v:=v) h
  exact .inr ⟨x,t,rfl,e⟩
theorem JR(a b:Int):decide ((Sum.inl a:wc)=Sum.inl b)=(a == b):=by
 by_cases e:a=b
 ·subst e;simp
 ·have h:¬ (Sum.inl a:wc)=Sum.inl b:=fun q=>e (Sum.inl.inj q)
  rw[yA h]
  exact (beq_eq_false_iff_ne.mpr e).symm
theorem Ja(a b:Str):decide ((Sum.inr a:wc)=Sum.inr b)=decide (a=b):=by
 by_cases e:a=b
 ·subst e;simp
 ·have h:¬ (Sum.inr a:wc)=Sum.inr b:=fun q=>e (Sum.inr.inj q)
  rw[yA h,yA e]
theorem II(a:Int)(b:Str):decide ((Sum.inl a:wc)=Sum.inr b)=false:=yA (fun q=>nomatch q)
theorem IM(a:Str)(b:Int):decide ((Sum.inr a:wc)=Sum.inl b)=false:=yA (fun q=>nomatch q)
noncomputable def yq(prog:Program)(w:World):PySem.KeyKind prog w wc where
 is:=Hh
 hash:=MP w
 inj:=fun v a b ha hb=>by
  rcases bJ ha with ⟨i,t,rfl,rfl⟩|⟨x,t,rfl,rfl⟩
  ·rcases bJ hb with ⟨j,u,rfl,e⟩|⟨y,u,rfl,e⟩
   ·injection e with e1 _;rw[e1]
   ·exact nomatch e
  ·rcases bJ hb with ⟨j,u,rfl,e⟩|⟨y,u,rfl,e⟩
   ·exact nomatch e
   ·injection e with e1 _;rw[e1]
 byValue:=fun k v h=>by
  rcases bJ h with ⟨i,t,rfl,rfl⟩|⟨x,t,rfl,rfl⟩<;>rfl
 pyHash:=fun hv h=>by
  rcases bJ hv with ⟨i,t,rfl,rfl⟩|⟨x,t,rfl,rfl⟩
  ·exact wpAny_pyHash_int h
  ·exact wpAny_pyHash_str h
 eqBool:=fun hu hv h=>by
  rcases bJ hu with ⟨i,t,rfl,rfl⟩|⟨x,t,rfl,rfl⟩
  ·rcases bJ hv with ⟨j,u,rfl,rfl⟩|⟨y,u,rfl,rfl⟩
   ·rw[JR] at h;exact wpAny_eqBool_int h
   ·rw[II] at h;exact SeqAt.EqAt.int_str i t y u _ _ _ _ h
  ·rcases bJ hv with ⟨j,u,rfl,rfl⟩|⟨y,u,rfl,rfl⟩
   ·rw[IM] at h;exact SeqAt.EqAt.str_int x t j u _ _ _ _ h
   ·rw[Ja] at h;exact wpAny_eqBool_str h
 «strs»:=fun k x t v h=>by
  rcases bJ h with ⟨i,u,rfl,e⟩|⟨y,u,rfl,e⟩
  ·exact nomatch e
  ·injection e with e1 _
   subst e1
   cases v<;>rfl
inductive V where
 | non|bl (b:Bool)|int (i:Int)|str (x:Str)|byt (b:Array UInt8)|flt (b:UInt64)|ref (a:Addr)|ty (n:String)
 deriving DecidableEq
noncomputable def RelV:V->Value->Prop
 | .non,u=>u=Value.none
 | .bl b,u=>u=Value.bool b
 | .int i,u=>∃t,u=Value.int i t
 | .str x,u=>∃t,u=Value.str x t
 | .byt b,u=>∃t,u=Value.bytes b t
 | .flt b,u=>∃t,u=Value.float b t
 | .ref a,u=>u=Value.ref a
 | .ty n,u=>u=Value.type n
noncomputable abbrev az:List V->List Value->Prop:=Paired RelV
theorem az.length{xs:List V}{us:List Value}(r:az xs us):xs.length=us.length:=Paired.length r
theorem az.get:∀ {xs:List V}{us:List Value}{i:Nat}{x:V},az xs us->xs[i]?=some x->∃u,us[i]?=some u/\RelV x u
 | _,_,_,_,.nil,e=>by simp at e
 | _,_,0,_,.cons r _,e=>by simp at e;subst e;exact⟨_,rfl,r⟩
 | _,_,i+1,x,.cons _ t,e=>by
  obtain⟨u,h1,h2⟩:=az.get (i:=i) (x:=x) t (by simpa using e)
  exact⟨u,by simpa using h1,h2⟩
theorem az.set{x:V}{u:Value}(r:RelV x u):∀ {xs:List V}{us:List Value}(i:Nat),az xs us->az (xs.set i x) (us.set i u)
 | _,_,_,.nil=>.nil
 | _,_,0,.cons _ t=>.cons r t
 | _,_,i+1,.cons q t=>.cons q (az.set r i t)
theorem az.append:∀ {xs ys:List V}{us ws:List Value},az xs us->az ys ws->az (xs++ys) (us++ws)
 | _,_,_,_,.nil,s=>s
 | _,_,_,_,.cons r t,s=>.cons r (az.append t s)
theorem az.take:∀ {xs:List V}{us:List Value}(n:Nat),az xs us->az (xs.take n) (us.take n)
 | _,_,0,_=>.nil
 | _,_,_+1,.nil=>.nil
 | _,_,n+1,.cons r t=>.cons r (az.take n t)
theorem az.drop:∀ {xs:List V}{us:List Value}(n:Nat),az xs us->az (xs.drop n) (us.drop n)
 | _,_,0,r=>r
 | _,_,_+1,.nil=>.nil
 | _,_,n+1,.cons _ t=>az.drop n t
noncomputable def KP:Option V->Option Value->Prop
 | some v,some u=>RelV v u
 | none,none=>True
 | _,_=>False
noncomputable def KV{κ:Type}:List (κ×V)->List (κ×Value)->Prop:=Paired fun (p:κ×V) (q:κ×Value)=>p.1=q.1/\RelV p.2 q.2
noncomputable def kV:wc->V
 | .inl i=>.int i
 | .inr x=>.str x
inductive HO where
  | lst (xs:List V)
  | tup (xs:List V)
  | dK (kvs:List (wc×V))|dT (kvs:List (List wc×V))
  | set (S:Int->Bool) (n:Nat)
  | ins (C dx:Addr) (fs:List (Str×V))
  | own (x:Addr)
  | xd (fs:List (Str×V))
  | met (f x:Addr)
  | rng (lo hi:Int)
  | frz (o:Obj) (u:HO)
  | tab (q:Str)
 | cod (q:Str)
  | ext (φ:Heap->Prop)
noncomputable abbrev Hp:=Addr->Option HO
noncomputable def upd(H:Hp)(a:Addr)(o:HO):Hp:=fun b=>if b=a then some o else H b
theorem aC{H:Hp}{a:Addr}{o:HO}:upd H a o a=some o:=by unfold upd;rw[if_pos rfl]
theorem ay{H:Hp}{a b:Addr}{o:HO}(h:b≠a):upd H a o b=H b:=by unfold upd;rw[if_neg h]
theorem aK{H:Hp}{a b:Addr}{o:HO}(h:H a=some o)(h':H b=none):a≠b:=by
 intro e;subst e;rw[h] at h';cases h'
def l7(h:Heap)(a:Addr)(its:Array Value):Prop:=IsTup h a its/\∃o,h.get? a=some o/\o.dict=none
theorem l7.new(h:Heap)(its:Array Value):l7 (h.push { cls:=.type "tuple",data:=.seq its }) h.objs.size its:=⟨IsTup.new _ _,_,zY _ rfl,rfl⟩
section
variable (P:Program) (w:World)
noncomputable def dU(H:Hp)(h:Heap)(a:Addr):HO->Prop
 | .lst xs=>xs.length<=sizeLine/\∃ (its:List Value) (n:Nat),az xs its/\h.get? a=some { cls:=.type "list",data:=.seq its.toArray n }
 | .tup xs=>xs.length<=sizeLine/\∃its:List Value,az xs its/\l7 h a its.toArray
 | .dK kvs=>kvs.length<=sizeLine/\(a == sysModules)=false/\∃vs,KV kvs vs/\h.DictOf (yq P w) a vs
 | .dT kvs=>kvs.length<=sizeLine/\(a == sysModules)=false/\∃xs:List (List wc×Addr×Value),
   Paired (fun (p:List wc×V) (q:List wc×Addr×Value)=>p.1=q.1/\H q.2.1=some (.tup (p.1.map kV))/\RelV p.2 q.2.2) kvs xs /\
   ∃o es ep,h.get? a=some o/\o.ExactDict/\o.data=.dict es ep/\es.toList=xs.map (entryOfKey (tupleKind (yq P w)))/\(xs.map (·.1)).Nodup
 | .set S n=>h.SetOf (intKind P w) a S n
 | .ins C dx fs=>H dx=some (.own a)/\fs.length<=1000/\dx≠a/\h.get? a=some (W.instObj C dx) /\
   ∃mA,h.Ns1 dx mA/\(∀f,KP (fs.lookup f) (mA f))/\PySem.Within mA (fs.map (·.1))
 | .own _=>∃o,h.get? a=some o
 | .xd fs=>∃mA,h.Ns1 a mA/\∀f,KP (fs.lookup f) (mA f)
 | .rng lo hi=>∃t u v,h.get? a=some { cls:=.type "range",data:=.fields #[.int lo t,.int hi u,.int 1 v] }
 | .frz o u=>h.get? a=some o/\dU H h a u
 | .tab q=>∃ps:Array Value,h.get? a=some { cls:=.none,data:=.fields ps }/\TriplesOk ps.toList/\∀pos v,codeAmong pos ps.toList=some v->∃c,v=.ref c/\H c=some (.cod q)
 | .cod q=>h.CodeRec (.ref a) q
 | .met f x=>h.get? a=some (W.methodObj (.ref f) (.ref x))
 | .ext φ=>φ h/\(∃o,h.get? a=some o)/\∀h1 h2:Heap,φ h1->(∀o,h1.get? a=some o->h2.get? a=some o)->φ h2
def nM(H:Hp)(h:Heap):Prop:=∀a o,H a=some o->dU P w H h a o
end
section
variable {P:Program}{w:World}{H H':Hp}{h h':Heap}{a:Addr}{o:HO}
theorem dU.lt(x:dU P w H h a o):a < h.objs.size:=by
 cases o with
 | lst xs=>obtain⟨_,_,_,_,e⟩:=x;exact zZ e
 | tup xs=>obtain⟨_,_,_,p⟩:=x;exact p.1.lt
 | dK kvs=>obtain⟨_,_,_,_,o,_,_,e,_⟩:=x;exact zZ e
 | dT kvs=>obtain⟨_,_,_,_,o,_,_,e,_⟩:=x;exact zZ e
 | set S n=>obtain⟨o,_,_,_,e,_⟩:=x;exact zZ e
 | ins C dx fs=>obtain⟨_,_,_,e,_⟩:=x;exact zZ e
 | own y=>obtain⟨_,e⟩:=x;exact zZ e
 | xd fs=>obtain⟨_,⟨_,_,_,e,_⟩,_⟩:=x;exact zZ e
 | rng lo hi=>obtain⟨_,_,_,e⟩:=x;exact zZ e
 | frz ob u=>obtain⟨e,_⟩:=x;exact zZ e
 | tab q=>obtain⟨_,e,_⟩:=x;exact zZ e
 | cod q=>obtain⟨_,_,_,_,e0,e,_⟩:=x;cases e0;exact zZ e
 | met f y=>exact zZ (show h.get? a=some _ from x)
 | ext φ=>obtain⟨_,⟨_,e⟩,_⟩:=x;exact zZ e
theorem Paired.mapP{α β:Type}{F G:α->β->Prop}:∀ {l₁:List α}{l₂:List β},Paired F l₁ l₂->(∀a b,F a b->G a b)->Paired G l₁ l₂
 | _,_,.nil,_=>.nil
 | _,_,.cons r t,f=>.cons (f _ _ r) (Paired.mapP t f)
noncomputable def M7:HO->Prop
 | .tup _=>True
 | .cod _=>True
 | _=>False
theorem dU.stay(x:dU P w H h a o)(k:∀b u,(b=a\/H b=some (.own a))->h.get? b=some u->h'.get? b=some u)
  (ho:∀b,H b=some (.own a)->H' b=some (.own a)) (ht:∀b u,H b=some u->M7 u->H' b=some u):dU P w H' h' a o:=by
 induction o with
 | lst xs=>obtain⟨z,its,n,r,e⟩:=x;exact⟨z,its,n,r,k _ _ (.inl rfl) e⟩
 | tup xs=>obtain⟨z,its,r,⟨ob,e,c⟩,o2,e2,d2⟩:=x;exact⟨z,its,r,⟨ob,k _ _ (.inl rfl) e,c⟩,o2,k _ _ (.inl rfl) e2,d2⟩
 | dK kvs=>obtain⟨z,y,vs,r,ob,es,ep,e,c⟩:=x;exact⟨z,y,vs,r,ob,es,ep,k _ _ (.inl rfl) e,c⟩
 | dT kvs =>
  obtain⟨z,y,xs,r,ob,es,ep,e,c⟩:=x
  exact⟨z,y,xs,Paired.mapP r fun p q z=>⟨z.1,ht _ _ z.2.1 trivial,z.2.2⟩,ob,es,ep,k _ _ (.inl rfl) e,c⟩
 | set S n=>obtain⟨ob,es,ep,t,e,c⟩:=x;exact⟨ob,es,ep,t,k _ _ (.inl rfl) e,c⟩
 | ins C dx fs =>
  obtain⟨d,z,ne,e,mA,⟨od,es,ep,e2,c⟩,r⟩:=x
  exact⟨ho _ d,z,ne,k _ _ (.inl rfl) e,mA,⟨od,es,ep,k _ _ (.inr d) e2,c⟩,r⟩
 | own y=>obtain⟨ob,e⟩:=x;exact⟨ob,k _ _ (.inl rfl) e⟩
 | xd fs=>obtain⟨mA,⟨od,es,ep,e,c⟩,r⟩:=x;exact⟨mA,⟨od,es,ep,k _ _ (.inl rfl) e,c⟩,r⟩
 | rng lo hi=>obtain⟨t,u,v,e⟩:=x;exact⟨t,u,v,k _ _ (.inl rfl) e⟩
 | frz ob u ih=>obtain⟨e,q⟩:=x;exact⟨k _ _ (.inl rfl) e,ih q⟩
 | tab q=>obtain⟨ps,e,t,c⟩:=x;exact⟨ps,k a _ (.inl rfl) e,t,fun pos v z=>let ⟨c0,z1,z2⟩:=c pos v z;⟨c0,z1,ht _ _ z2 trivial⟩⟩
 | cod q=>obtain⟨c,oc,vs,t,e0,e,r⟩:=x;cases e0;exact⟨_,oc,vs,t,rfl,k _ _ (.inl rfl) e,r⟩
 | met f y =>
  have e:h.get? a=some (W.methodObj (.ref f) (.ref y)):=x
  show h'.get? a=some (W.methodObj (.ref f) (.ref y))
  exact k a _ (.inl rfl) e
 | ext φ=>obtain⟨p,⟨o,e⟩,st⟩:=x;exact⟨st _ _ p fun o q=>k _ _ (.inl rfl) q,⟨o,k _ _ (.inl rfl) e⟩,st⟩
theorem nM.lt(x:nM P w H h)(e:H a=some o):a < h.objs.size:=(x a o e).lt
theorem nM.fresh(x:nM P w H h)(e:h.objs.size<=a):H a=none:=by
 cases q:H a with
 | none=>rfl
 | some u=>exact absurd (zP (x.lt q) e) (Nat.lt_irrefl _)
theorem nM.kept(x:nM P w H h)(k:∀b u,h.get? b=some u->h'.get? b=some u):nM P w H h':=fun a o e =>
 (x a o e).stay (fun b u _ q=>k b u q) (fun _ q=>q) fun _ _ q _=>q
theorem nM.laid(x:nM P w H h)(k:∀b u,h.get? b=some u->h'.get? b=some u)(hp:h.objs.size<=a)(new:dU P w (upd H a o) h' a o):nM P w (upd H a o) h':=fun b u e=>by
 have hn:=x.fresh hp
 by_cases hb:b=a
 ·subst hb;rw[aC] at e;cases e;exact new
 ·rw[ay hb] at e
  exact (x b u e).stay (fun c v _ q=>k c v q) (fun c q=>by rw[ay (aK q hn)];exact q) fun c xs q _=>by rw[ay (aK q hn)];exact q
end
def Rd(H:Hp)(a:Addr)(u:HO):Prop:=H a=some u\/∃o,H a=some (.frz o u)
theorem Rd.ok{P:Program}{w:World}{H:Hp}{h:Heap}{a:Addr}{u:HO}(r:Rd H a u)(x:nM P w H h):dU P w H h a u:=by
 rcases r with r|⟨o,r⟩
 ·exact x a u r
 ·obtain⟨_,q⟩:=x a _ r
  exact q
noncomputable def LJ:Option HO->Prop
 | some (.lst _)=>True
 | some (.dK _)=>True
 | some (.dT _)=>True
 | some (.set _ _)=>True
 | some (.ins _ _ _)=>True
 | some (.ext _)=>True
 | _=>False
section
variable {P:Program}{w:World}{H:Hp}{h h':Heap}{x e:Addr}{o':HO}
theorem nM.write(ok:nM P w H h)(mu:LJ (H x))(he:e=x\/H e=some (.own x))(k:∀b u,b≠e->h.get? b=some u->h'.get? b=some u)(heo:∃u,h'.get? e=some u)
  (new:dU P w (upd H x o') h' x o'):nM P w (upd H x o') h':=fun b u q=>by
 have nown:∀c y,H c=some (.own y)->c≠x:=fun c y r z=>by subst z;rw[r] at mu;exact mu
 have ntup:∀c u,H c=some u->M7 u->c≠x:=fun c u r hr z=>by subst z;rw[r] at mu;cases u<;>first|exact mu|exact hr
 by_cases hb:b=x
 ·subst hb;rw[aC] at q;cases q;exact new
 ·rw[ay hb] at q
  by_cases hbe:b=e
  ·have q':H b=some (.own x):=by
    rcases he with z|z
    ·exact absurd (hbe.trans z) hb
    ·rw[hbe];exact z
   rw[q] at q';cases q'
   obtain⟨v,hv⟩:=heo
   exact⟨v,by rw[hbe];exact hv⟩
  ·refine (ok b u q).stay (fun c v hc r=>k c v ?_ r) (fun c r=>by rw[ay (nown c b r)];exact r) fun c xs r hr=>by rw[ay (ntup c xs r hr)];exact r
   rcases hc with rfl|hc
   ·exact hbe
   ·rintro rfl
    rcases he with z|z
    ·exact nown c b hc z
    ·rw[hc] at z;cases z;exact hb rfl
end
noncomputable def LR:HO->Prop
 | .tab _=>True
 | .cod _=>True
 | _=>False
theorem LR.not_mut{u:HO}(h:LR u):¬ LJ (some u):=by cases u<;>first|exact fun z=>z|exact h.elim
structure HI(H H':Hp)(h h':Heap):Prop where
 st:∀b u,H b=some u->LR u->H' b=some u
 gr:∀b q ps,H b=some (.tab q)->h.get? b=some { cls:=.none,data:=.fields ps }->∃more:Array Value,h'.get? b=some { cls:=.none,data:=.fields (ps++more) }
theorem HI.kept{H H':Hp}{h h':Heap}(k:∀b u,(∃q,H b=some (.tab q))->h.get? b=some u->h'.get? b=some u)(st:∀b u,H b=some u->LR u->H' b=some u):HI H H' h h' :=
 ⟨st,fun b q ps e z=>⟨#[],by rw[Array.append_empty];exact k b _ ⟨q,e⟩ z⟩⟩
theorem HI.trans{H H1 H2:Hp}{h h1 h2:Heap}(a:HI H H1 h h1)(b:HI H1 H2 h1 h2):HI H H2 h h2 :=
 ⟨fun c u q t=>b.st c u (a.st c u q t) t,fun c q ps e z=>by
  obtain⟨m1,z1⟩:=a.gr c q ps e z
  obtain⟨m2,z2⟩:=b.gr c q _ (a.st c _ e trivial) z1
  exact⟨m1++m2,by rw[z2,Array.append_assoc]⟩⟩
structure Un(fs ex:List Addr)(H H':Hp)(h h':Heap):Prop where
 keep:∀b o,h.get? b=some o->H b=none->b∉fs->b∉ex->h'.get? b=some o
 slot:∀b o,h.get? b=some o->H b=none->b∈fs->b∉ex->∃sl,h'.get? b=some { o with slots:=sl }
 free:∀b o,h.get? b=some o->H b=none->b∉ex->H' b=none
 there:∀b o,h.get? b=some o->b∉ex->∃o',h'.get? b=some o'
 tups:∀b xs,H b=some (.tup xs)->H' b=some (.tup xs)
 frzs:∀b o u,H b=some (.frz o u)->H' b=some (.frz o u)
 tbls:HI H H' h h'
section
variable {fs fs' ex ex':List Addr}{H H1 H2:Hp}{h h1 h2 h':Heap}{a x e:Addr}{o:HO}
theorem Un.any(u:Un fs ex H H1 h h1){b:Addr}{ob:Obj}(q:h.get? b=some ob)(n:H b=none)(hx:b∉ex):∃sl,h1.get? b=some { ob with slots:=sl }:=by
 by_cases hb:b∈fs
 ·exact u.slot b ob q n hb hx
 ·exact⟨ob.slots,u.keep b ob q n hb hx⟩
theorem Un.kept(k:∀b u,h.get? b=some u->h'.get? b=some u):Un fs ex H H h h' :=
 ⟨fun b ob q _ _ _=>k b ob q,fun b ob q _ _ _=>⟨ob.slots,k b ob q⟩,fun _ _ _ n _=>n,fun b ob q _=>⟨ob,k b ob q⟩,fun _ _ q=>q,fun _ _ _ q=>q,.kept (fun b u _ e=>k b u e) fun _ _ e _=>e⟩
theorem Un.refl:Un fs ex H H h h:=Un.kept fun _ _ q=>q
theorem Un.laid(k:∀b u,h.get? b=some u->h'.get? b=some u)(hp:h.objs.size<=a)(hn:H a=none):Un fs ex H (upd H a o) h h' where
 keep:=fun b u q _ _ _=>k b u q
 slot:=fun b u q _ _ _=>⟨u.slots,k b u q⟩
 free:=fun b u q n _=>by rw[ay (Nat.ne_of_lt (zP (zZ q) hp))];exact n
 there:=fun b u q _=>⟨u,k b u q⟩
 tups:=fun b xs q=>by rw[ay (aK q hn)];exact q
 frzs:=fun b u xs q=>by rw[ay (aK q hn)];exact q
 tbls:=.kept (fun b u _ e=>k b u e) fun b u q _=>by rw[ay (aK q hn)];exact q
theorem Un.write(mu:LJ (H x))(he:e=x\/H e=some (.own x))(k:∀b u,b≠e->h.get? b=some u->h'.get? b=some u)(heo:∃u,h'.get? e=some u):Un fs ex H (upd H x o) h h':=by
 have hx:∀b,H b=none->b≠x:=fun b n z=>by subst z;rw[n] at mu;exact mu
 have hb:∀b,H b=none->b≠e:=fun b n z=>by
  subst z
  rcases he with r|r
  ·exact hx b n r
  ·rw[n] at r;cases r
 have hm:∀b u,H b=some u->¬ LJ (some u)->b≠x:=fun b u q nm z=>by subst z;rw[q] at mu;exact nm mu
 refine⟨fun b u q n _ _=>k b u (hb b n) q,fun b u q n _ _=>⟨u.slots,k b u (hb b n) q⟩,fun b u q n _=>by rw[ay (hx b n)];exact n,fun b u q _=>?_,
  fun b xs q=>by rw[ay (hm b _ q fun z=>z)];exact q,fun b u xs q=>by rw[ay (hm b _ q fun z=>z)];exact q,.kept (fun b u z e=>k b u (fun r=>by subst r;rcases he with r|r<;>first|(subst r;rcases z with ⟨q,z⟩;rw[z] at mu;exact mu)|(rcases z with ⟨q,z⟩;rw[z] at r;cases r)) e) fun b u q nm=>by rw[ay (hm b _ q (nm.not_mut))];exact q⟩
 by_cases hbe:b=e
 ·subst hbe;exact heo
 ·exact⟨u,k b u hbe q⟩
end
noncomputable def LY(h:Heap)(H:Hp):List Addr:=(List.range h.objs.size).filter fun a=>(H a).isSome
noncomputable def sH(h:Heap)(H:Hp):Heap:=W.hideAll h (LY h H)
theorem Ba(h:Heap)(H:Hp):(sH h H).objs.size=h.objs.size:=W.hideAll_size _ _
theorem B8{h:Heap}{H:Hp}{b:Addr}{o:Obj}(e:h.get? b=some o)(n:H b=none):(sH h H).get? b=some o :=
 W.hideAll_get _ e fun hm=>by
  have q:(H b).isSome=true:=(List.mem_filter.mp hm).2
  rw[n] at q;simp at q
theorem FB{h:Heap}{H:Hp}{b:Addr}{o:Obj}(e:(sH h H).get? b=some o):h.get? b=some o/\H b=none:=by
 have e':h.get? b=some o:=W.of_hideAll (LY h H) e
 refine⟨e',?_⟩
 cases q:H b with
 | none=>rfl
 | some x =>
  have hm:b∈LY h H:=List.mem_filter.mpr ⟨zT.mpr (zZ e'),by simp[q]⟩
  have z:(sH h H).get? b=none:=W.hideAll_none (LY h H) hm
  rw[z] at e;cases e
def LO(mg:Str->Option Value)(base:Heap):Prop:=∃bm o,mg "__builtins__"=some (.ref bm)/\bm≠builtinsNs/\bm≠mainGlobals/\base.get? bm=some o/\o.cls=.type "module"/\o.dict=some builtinsNs/\o.data=.plain
structure Mod(K:W.Frag)(mg:Str->Option Value)(base:Heap):Prop where
 kin:K.In base
 glob:base.Ns mainGlobals mg
 blt:∃mb,base.Ns builtinsNs mb/\∀x:Str,x≠"__name__"->mb x=bootBuiltins x
 nolimit:base.NoLimit
 bmd:LO mg base
structure Cx where
 prog:Program
 w:World
 K:W.Frag
 mg:Str->Option Value
 base:Heap
 A:Around
 N:List Str
 s₀:Shared
 H₀:Hp
 env:Env
 outer:List Env
 stack:List Env
 ex:List Addr
 fn:Str->Bool
 calm:Bool
 pn:List (Addr×Obj)
 xe:Value->Shared->Prop
noncomputable def C5(l:List Env):List Addr:=l.filterMap (·.frame)
noncomputable abbrev Cx.fs(X:Cx):List Addr:=C5 X.outer
def Hu(sc:Scope)(x:Str):Prop:=sc.names.lookup x=some .local \/ sc.names.lookup x=some .cell\/sc.names.lookup x=some .free
def Loc(sc:Scope)(x:Str):Prop:=sc.names.lookup x=some .local \/ sc.names.lookup x=some .cell
noncomputable def Look(env:Env)(h:Heap)(m:Str->Option Value)(x:Str)(u:Value):Prop :=
 (env.kindOf x=some .local /\ m x=some u)\/((env.kindOf x=some .cell\/env.kindOf x=some .free)/\∃c,env.cells.lookup x=some c/\h.IsCell c (some u))
structure Cx.Ok(X:Cx):Prop where
 mod:Mod X.K X.mg X.base
 kind:X.env.scope.kind=.function
 glob:X.env.globals=mainGlobals
 blt:X.env.builtins=builtinsNs
 above:X.s₀.heap.objs.size<=X.env.locals
 inj:∀x y c,X.env.cells.lookup x=some c->X.env.cells.lookup y=some c->x=y
 has:∀x,(X.env.kindOf x=some .cell\/X.env.kindOf x=some .free)->∃c,X.env.cells.lookup x=some c
 cab:∀x c,X.fn x=true->X.env.cells.lookup x=some c->X.s₀.heap.objs.size<=c
 hd:X.calm=true->X.A.handled=none
 frames:X.A.frames=some X.stack
 stk:X.stack=X.outer\/(X.stack=X.env::X.outer/\X.env.frame=some X.env.locals)
 exf:∀b∈X.ex,b≠X.env.locals/\∀x c,X.env.cells.lookup x=some c->c≠b
 bs:∀b o,X.base.get? b=some o->X.s₀.heap.get? b=some o/\X.H₀ b=none
 bsz:X.base.objs.size<=X.s₀.heap.objs.size
 noex:∀b o,X.base.get? b=some o->b∉X.ex
 exfs:∀b∈X.ex,b∉X.fs
 funs:X.s₀.heap.FunFrames X.base X.outer
 frf:∀b∈X.fs,X.H₀ b=none
structure Inv(X:Cx)(pins:List (Addr×Obj))(σ:List (Option V))(H:Hp)(s:Shared):Prop where
 ok:X.Ok
 os:s.os=X.s₀.os
 bare:AllBare s.gens
 base:Un X.fs X.ex X.H₀ H X.s₀.heap s.heap
 loc:∃m,s.heap.Ns X.env.locals m/\∀ (i:Nat) (x:Str) (v:V),X.N[i]?=some x->σ[i]?=some (some v)->Hu X.env.scope x->∃u,RelV v u/\Look X.env s.heap m x u
 cell:∀x c,X.env.cells.lookup x=some c->∃v,s.heap.IsCell c v
 free:H X.env.locals=none
 freeC:∀x c,X.env.cells.lookup x=some c->H c=none
 pin:∀p∈X.pn++pins,s.heap.get? p.1=some p.2/\H p.1=none/\p.1≠X.env.locals/\p.1∉X.fs/\∀v,p.2.data≠.cell v
 hok:nM X.prog X.w H s.heap
 len:σ.length=X.N.length
section
variable {X:Cx}{pins:List (Addr×Obj)}{σ:List (Option V)}{H H':Hp}{s:Shared}{h':Heap}
theorem Cx.Ok.nofr(ok:X.Ok){b:Addr}{o:Obj}(e:X.base.get? b=some o):b∉X.fs:=fun hb=>by
 have:=(ok.funs.mem hb).1
 rw[e] at this;cases this
theorem Inv.bs(I:Inv X pins σ H s):∀b o,X.base.get? b=some o->s.heap.get? b=some o/\H b=none:=fun b o e =>
 ⟨I.base.keep b o (I.ok.bs b o e).1 (I.ok.bs b o e).2 (I.ok.nofr e) (I.ok.noex b o e),I.base.free b o (I.ok.bs b o e).1 (I.ok.bs b o e).2 (I.ok.noex b o e)⟩
theorem Inv.bk(I:Inv X pins σ H s):∀b o,X.base.get? b=some o->s.heap.get? b=some o:=fun b o e=>(I.bs b o e).1
theorem Inv.mod(I:Inv X pins σ H s):Mod X.K X.mg X.base:=I.ok.mod
theorem Inv.kIn(I:Inv X pins σ H s):X.K.In s.heap:=I.ok.mod.kin.keeps I.bk
theorem Inv.nolimit(I:Inv X pins σ H s):s.heap.NoLimit:=I.ok.mod.nolimit.keeps I.bk
theorem Inv.lt(I:Inv X pins σ H s):X.env.locals < s.heap.objs.size:=let ⟨_,hn,_⟩:=I.loc;hn.lt
theorem Inv.sz(I:Inv X pins σ H s):X.s₀.heap.objs.size<=s.heap.objs.size:=yE I.ok.above (Nat.le_of_lt I.lt)
theorem Inv.nofs(I:Inv X pins σ H s){a:Addr}(h:s.heap.objs.size<=a):a∉X.fs:=fun hb=>by
 obtain⟨_,o,ho,_⟩:=I.ok.funs.mem hb
 exact absurd (zP (zZ ho) (yE I.sz h)) (Nat.lt_irrefl _)
theorem Inv.cne(I:Inv X pins σ H s):∀x c,X.env.cells.lookup x=some c->c≠X.env.locals:=fun x c e z=>by
 obtain⟨v,o,ho,hd⟩:=I.cell x c e
 obtain⟨m,⟨o',es,ep,ho',hd',_⟩,_⟩:=I.loc
 rw[z,ho'] at ho;cases ho;rw[hd'] at hd;cases hd
theorem Inv.funs(I:Inv X pins σ H s):s.heap.FunFrames X.base X.outer:=by
 have all:∀ (l:List Env),(∀b∈C5 l,b∈X.fs)->X.s₀.heap.FunFrames X.base l->s.heap.FunFrames X.base l:=by
  intro l
  induction l with
  | nil=>intro _ _;trivial
  | cons env r ih =>
   intro hs hl
   obtain⟨hk,⟨L,o,hf,hn,ho,hd⟩,hr⟩:=hl
   have hL:L∈X.fs:=hs L (by unfold C5;rw[List.filterMap_cons,hf];exact zE)
   obtain⟨sl,e⟩:=I.base.slot L o ho (I.ok.frf L hL) hL fun z=>I.ok.exfs L z hL
   exact⟨hk,⟨L,_,hf,hn,e,hd⟩,ih (fun b hb=>hs b (by unfold C5;rw[List.filterMap_cons,hf];exact zC _ hb)) hr⟩
 exact all X.outer (fun _ hb=>hb) I.ok.funs
theorem Inv.stack(I:Inv X pins σ H s):s.heap.FunFrames X.base X.stack:=by
 rcases I.ok.stk with e|⟨e,hf⟩
 ·rw[e];exact I.funs
 ·rw[e]
  obtain⟨m,hn,_⟩:=I.loc
  refine .cons (by rw[I.ok.kind];decide) hf hn ?_ I.funs
  exact Heap.get?_none_of_le (yE I.ok.bsz I.ok.above)
theorem Inv.stkSub(I:Inv X pins σ H s):∀b∈C5 X.stack,b∈X.env.locals::X.fs:=fun b hb=>by
 rcases I.ok.stk with e|⟨e,hf⟩
 ·rw[e] at hb;exact zC _ hb
 ·rw[e] at hb
  unfold C5 at hb
  rw[List.filterMap_cons,hf] at hb
  exact hb
theorem Inv.stkFree(I:Inv X pins σ H s):∀b∈C5 X.stack,H b=none:=fun b hb=>by
 rcases zR.mp (I.stkSub b hb) with e|hb
 ·rw[e];exact I.free
 ·obtain⟨_,o,ho,_⟩:=I.ok.funs.mem hb
  exact I.base.free b o ho (I.ok.frf b hb) fun z=>I.ok.exfs b z hb
theorem Inv.step{g':Array GenState}{t':Nat}{d':Drawn}{ch:List Addr}(I:Inv X pins σ H s)
  (hch:∀b∈ch,(b∈X.ex\/X.s₀.heap.objs.size<=b)/\b≠X.env.locals/\(∀x c,X.env.cells.lookup x=some c->c≠b)/\∀p∈X.pn++pins,p.1≠b)
  (keep:∀b o,b≠X.env.locals->b∉X.fs->b∉ch->s.heap.get? b=some o->H b=none->h'.get? b=some o)
  (slot:∀b o,b≠X.env.locals->b∈X.fs->b∉ch->s.heap.get? b=some o->H b=none->∃sl,h'.get? b=some { o with slots:=sl }) (free:∀b o,b∉ch->s.heap.get? b=some o->H b=none->H' b=none)
  (there:∀b o,b∉ch->s.heap.get? b=some o->∃o',h'.get? b=some o')
  (tups:∀b xs,H b=some (.tup xs)->H' b=some (.tup xs)) (frzs:∀b o u,H b=some (.frz o u)->H' b=some (.frz o u)) (tbls:HI H H' s.heap h')
  (ns:∀m,s.heap.Ns X.env.locals m->h'.Ns X.env.locals m) (hok:nM X.prog X.w H' h') (hg:AllBare g') :
  Inv X pins σ H' { s with heap:=h',gens:=g',drawn:=d',toks:=t' }:=by
 have neL:∀b o,X.s₀.heap.get? b=some o->b≠X.env.locals:=fun b o e=>Nat.ne_of_lt (zP (zZ e) I.ok.above)
 have neC:∀b o,X.s₀.heap.get? b=some o->b∉X.ex->b∉ch:=fun b o e hx hb=>by
  rcases (hch b hb).1 with z|z
  ·exact hx z
  ·exact absurd (zP (zZ e) z) (Nat.lt_irrefl _)
 have cellK:∀x c,X.env.cells.lookup x=some c->∀v,s.heap.IsCell c v->h'.IsCell c v:=fun x c e v ⟨o,ho,hd⟩=>by
  have nch:c∉ch:=fun z=>(hch c z).2.2.1 x c e rfl
  by_cases hc:c∈X.fs
  ·obtain⟨sl,q⟩:=slot c o (I.cne x c e) hc nch ho (I.freeC x c e)
   exact⟨_,q,hd⟩
  ·exact⟨o,keep c o (I.cne x c e) hc nch ho (I.freeC x c e),hd⟩
 refine⟨I.ok,I.os,hg,⟨fun b o e n hb hx=>?_,fun b o e n hb hx=>?_,fun b o e n hx=>?_,fun b o e hx=>?_,fun b xs e=>tups b xs (I.base.tups b xs e),fun b o xs e=>frzs b o xs (I.base.frzs b o xs e),I.base.tbls.trans tbls⟩,?_,fun x c e=>?_,?_,fun x c e=>?_,fun p hp=>?_,hok,I.len⟩
 ·exact keep b o (neL b o e) hb (neC b o e hx) (I.base.keep b o e n hb hx) (I.base.free b o e n hx)
 ·obtain⟨sl,e1⟩:=I.base.slot b o e n hb hx
  obtain⟨sl',e2⟩:=slot b _ (neL b o e) hb (neC b o e hx) e1 (I.base.free b o e n hx)
  exact⟨sl',e2⟩
 ·obtain⟨o',e1⟩:=I.base.there b o e hx
  exact free b o' (neC b o e hx) e1 (I.base.free b o e n hx)
 ·obtain⟨o',e1⟩:=I.base.there b o e hx
  exact there b o' (neC b o e hx) e1
 ·obtain⟨m,hn,hl⟩:=I.loc
  refine⟨m,ns m hn,fun i x v e1 e2 e3=>?_⟩
  obtain⟨u,r,l⟩:=hl i x v e1 e2 e3
  refine⟨u,r,?_⟩
  rcases l with l|⟨k,c,e,z⟩
  ·exact .inl l
  ·exact .inr ⟨k,c,e,cellK x c e _ z⟩
 ·obtain⟨v,z⟩:=I.cell x c e
  exact⟨v,cellK x c e v z⟩
 ·obtain⟨m,⟨o,_,_,ho,_⟩,_⟩:=I.loc
  exact free _ o (fun z=>(hch _ z).2.1 rfl) ho I.free
 ·obtain⟨v,o,ho,hd⟩:=I.cell x c e
  exact free c o (fun z=>(hch c z).2.2.1 x c e rfl) ho (I.freeC x c e)
 ·obtain⟨e,n,ne,nf,d⟩:=I.pin p hp
  have nch:p.1∉ch:=fun z=>(hch p.1 z).2.2.2 p hp rfl
  exact⟨keep p.1 p.2 ne nf nch e n,free p.1 p.2 nch e n,ne,nf,d⟩
theorem Inv.un{t':Nat}(I:Inv X pins σ H s)(u:Un X.fs [] H H' s.heap h')(hok:nM X.prog X.w H' h'):Inv X pins σ H' { s with heap:=h',toks:=t' }:=by
 obtain⟨m,⟨o,es,ep,ho,r⟩,_⟩:=id I.loc
 obtain⟨sl,hL⟩:=u.any ho I.free (by simp)
 exact I.step (g':=s.gens) (d':=s.drawn) (ch:=[]) (fun _ z=>nomatch z) (fun b o _ hb _ e n=>u.keep b o e n hb (by simp)) (fun b o _ hb _ e n=>u.slot b o e n hb (by simp)) (fun b o _ e n=>u.free b o e n (by simp)) (fun b o _ e=>u.there b o e (by simp)) u.tups u.frzs u.tbls (fun m' hm=>by
  obtain⟨o',es',ep',ho',r'⟩:=hm
  rw[ho] at ho';cases ho'
  exact⟨_,es',ep',hL,r'⟩) hok I.bare
theorem Inv.call{g':Array GenState}{t':Nat}{d':Drawn}{ch:List Addr}(I:Inv X pins σ H s)(u:Un (C5 X.stack) ch H H' s.heap h')(hok:nM X.prog X.w H' h')(hg:AllBare g')
  (hch:∀b∈ch,(b∈X.ex\/X.s₀.heap.objs.size<=b)/\b≠X.env.locals/\(∀x c,X.env.cells.lookup x=some c->c≠b)/\∀p∈X.pn++pins,p.1≠b) :
  Inv X pins σ H' { s with heap:=h',gens:=g',drawn:=d',toks:=t' }:=by
 obtain⟨m,⟨o,es,ep,ho,r⟩,_⟩:=id I.loc
 obtain⟨sl,hL⟩:=u.any ho I.free fun z=>(hch _ z).2.1 rfl
 exact I.step (ch:=ch) hch (fun b o hL hb hc e n=>u.keep b o e n (fun z=>(zR.mp (I.stkSub b z)).elim hL hb) hc) (fun b o _ _ hc e n=>u.any e n hc) (fun b o hc e n=>u.free b o e n hc) (fun b o hc e=>u.there b o e hc) u.tups u.frzs u.tbls (fun m' hm=>by
  obtain⟨o',es',ep',ho',r'⟩:=hm
  rw[ho] at ho';cases ho'
  exact⟨_,es',ep',hL,r'⟩) hok hg
theorem Inv.turned{t':Nat}{it:Addr}(I:Inv X pins σ H s)(k:∀b o,b≠it->s.heap.get? b=some o->h'.get? b=some o)(hn:H it=none)(hL:it≠X.env.locals)
  (h1:it∈X.ex\/X.s₀.heap.objs.size<=it) (h2:∀x c,X.env.cells.lookup x=some c->c≠it) (h3:∀p∈X.pn++pins,p.1≠it):Inv X pins σ H { s with heap:=h',toks:=t' }:=by
 have nit:∀b u,H b=some u->b≠it:=fun b u e z=>by rw[z,hn] at e;cases e
 refine I.step (g':=s.gens) (d':=s.drawn) (ch:=[it]) (fun b hb=>?_) (fun b o _ _ hc e _=>k b o (fun z=>hc (by simp[z])) e) (fun b o _ _ hc e _=>⟨o.slots,k b o (fun z=>hc (by simp[z])) e⟩) (fun _ _ _ _ n=>n)
  (fun b o hc e=>⟨o,k b o (fun z=>hc (by simp[z])) e⟩) (fun _ _ e=>e) (fun _ _ _ e=>e) (.kept (fun b u z e=>k b u (fun r=>by subst r;rcases z with ⟨q,z⟩;rw[hn] at z;cases z) e) fun _ _ e _=>e) (fun m hm=>?_) (fun b u e=>?_) I.bare
 ·have e:b=it:=by simpa using hb
  subst e
  exact⟨h1,hL,h2,h3⟩
 ·obtain⟨o,es,ep,ho,r⟩:=hm
  exact⟨o,es,ep,k _ o (Ne.symm hL) ho,r⟩
 ·refine (I.hok b u e).stay (fun c v hc q=>k c v ?_ q) (fun _ q=>q) fun _ _ q _=>q
  rcases hc with z|z
  ·rw[z];exact nit b u e
  ·exact nit c _ z
theorem Inv.tok(I:Inv X pins σ H s)(t:Nat):Inv X pins σ H { s with toks:=t }:=I.un (h':=s.heap) (t':=t) Un.refl I.hok
theorem Inv.kept{t':Nat}(I:Inv X pins σ H s)(k:∀b u,s.heap.get? b=some u->h'.get? b=some u):Inv X pins σ H { s with heap:=h',toks:=t' }:=I.un (Un.kept k) (I.hok.kept k)
theorem Inv.laid{a:Addr}{o:HO}{t':Nat}(I:Inv X pins σ H s)(k:∀b u,s.heap.get? b=some u->h'.get? b=some u)(hp:s.heap.objs.size<=a)(new:dU X.prog X.w (upd H a o) h' a o) :
  Inv X pins σ (upd H a o) { s with heap:=h',toks:=t' }:=I.un (Un.laid k hp (I.hok.fresh hp)) (I.hok.laid k hp new)
theorem Inv.write{x e:Addr}{o:HO}{t':Nat}(I:Inv X pins σ H s)(mu:LJ (H x))(he:e=x\/H e=some (.own x))(k:∀b u,b≠e->s.heap.get? b=some u->h'.get? b=some u)(heo:∃u,h'.get? e=some u)
  (new:dU X.prog X.w (upd H x o) h' x o):Inv X pins σ (upd H x o) { s with heap:=h',toks:=t' }:=I.un (Un.write mu he k heo) (I.hok.write mu he k heo new)
theorem Inv.pins_of{pins':List (Addr×Obj)}(I:Inv X pins σ H s)(h:∀p∈pins',s.heap.get? p.1=some p.2/\H p.1=none/\p.1≠X.env.locals/\p.1∉X.fs/\∀v,p.2.data≠.cell v):Inv X pins' σ H s :=
 ⟨I.ok,I.os,I.bare,I.base,I.loc,I.cell,I.free,I.freeC,fun p hp=>(List.mem_append.mp hp).elim (fun z=>I.pin p (List.mem_append_left _ z)) (h p),I.hok,I.len⟩
theorem uY{N:List Str}(hN:N.Nodup){i j:Nat}{x:Str}(a:N[i]?=some x)(b:N[j]?=some x):i=j:=by
 obtain⟨h1,e1⟩:=zU.mp a
 obtain⟨h2,e2⟩:=zU.mp b
 exact (List.getElem_inj hN).mp (e1.trans e2.symm)
theorem rz{M:Model}{A:Around}{E:Value->Shared->Prop}{i:Nat}{x:Str}{v:V}{u:Value}{Q:Unit->Shared->Prop}(I:Inv X pins σ H s)(hN:X.N.Nodup)(hi:X.N[i]?=some x)(hx:Loc X.env.scope x)(r:RelV v u)
  (h:∀s',Inv X pins (σ.set i (some v)) H s'->(∃a,Heap.SameBut a s.heap s'.heap/\(a=X.env.locals\/X.env.cells.lookup x=some a))->Q () s') (hf:X.fn x=true\/X.env.scope.names.lookup x=some .local:=by first|exact .inl rfl|exact .inr rfl|assumption):wpAny M A (storeName X.env x u) Q E s:=by
 obtain⟨m,hn,hl⟩:=id I.loc
 have hcls:(X.env.scope.kind == .class||(X.env.scope.kind == .module&&X.env.locals != X.env.globals))=false:=by rw[I.ok.kind];rfl
 have hiσ:i < σ.length:=by rw[I.len];exact (zU.mp hi).1
 have cne:=I.cne
 have tracked:∀ {a:Addr}{h':Heap},(∃o,s.heap.get? a=some o/\H a=none)->Heap.SameBut a s.heap h'->nM X.prog X.w H h':=fun {a h'} ha hs b ob e=>by
  obtain⟨_,_,hfree⟩:=ha
  refine (I.hok b ob e).stay (fun c w' hc q=>(hs.2 c ?_).trans q) (fun _ q=>q) fun _ _ q _=>q
  rintro rfl
  rcases hc with rfl|hc
  ·rw[hfree] at e;cases e
  ·rw[hfree] at hc;cases hc
 rcases hx with hk|hk
 ·refine wpAny_storeName_local hk hn (fun h' hn' hs=>?_) hcls
  obtain⟨oL,_,_,hoL,_⟩:=id hn
  refine h _ ⟨I.ok,I.os,I.bare,⟨fun b o e n hb hx=>?_,fun b o e n hb hx=>?_,I.base.free,fun b o e hx=>?_,I.base.tups,I.base.frzs,I.base.tbls.trans (.kept (fun b u z e=>(hs.2 b (fun r=>by rcases z with ⟨q,z⟩;rw[r,I.free] at z;cases z)).trans e) fun _ _ e _=>e)⟩,⟨_,hn',fun j y v' e1 e2 e3=>?_⟩,fun y c e=>?_,I.free,I.freeC,fun p hp=>?_,tracked ⟨oL,hoL,I.free⟩ hs,by simpa using I.len⟩ ⟨_,hs,.inl rfl⟩
  ·exact (hs.2 b (Nat.ne_of_lt (zP (zZ e) I.ok.above))).trans (I.base.keep b o e n hb hx)
  ·obtain⟨sl,e1⟩:=I.base.slot b o e n hb hx
   exact⟨sl,(hs.2 b (Nat.ne_of_lt (zP (zZ e) I.ok.above))).trans e1⟩
  ·obtain⟨o',e1⟩:=I.base.there b o e hx
   exact⟨o',(hs.2 b (Nat.ne_of_lt (zP (zZ e) I.ok.above))).trans e1⟩
  ·by_cases hj:j=i
   ·subst hj
    rw[hi] at e1;cases e1
    rw[List.getElem?_set_self hiσ] at e2
    cases e2
    exact⟨u,r,.inl ⟨hk,by simp⟩⟩
   ·rw[List.getElem?_set_ne (Ne.symm hj)] at e2
    obtain⟨u',r',q⟩:=hl j y v' e1 e2 e3
    refine⟨u',r',?_⟩
    rcases q with ⟨k,e⟩|⟨k,c,e,z⟩
    ·refine .inl ⟨k,?_⟩
     have:y≠x:=fun e=>hj (uY hN e1 (e ▸ hi))
     simp[this,e]
    ·exact .inr ⟨k,c,e,z.sameBut hs (cne y c e)⟩
  ·obtain⟨w',z⟩:=I.cell y c e
   exact⟨w',z.sameBut hs (cne y c e)⟩
  ·obtain⟨e,n,ne,nf,d⟩:=I.pin p hp
   exact⟨(hs.2 p.1 ne).trans e,n,ne,nf,d⟩
 ·have hfn:X.fn x=true:=by
   rcases hf with z|z
   ·exact z
   ·rw[z] at hk;cases hk
  obtain⟨c,hc⟩:=I.ok.has x (.inl hk)
  obtain⟨w',z⟩:=I.cell x c hc
  refine wpAny_storeName_cell I.ok.kind hk hc z (fun h' hc' hs=>?_)
  obtain⟨oc,hoc,hocd⟩:=id z
  refine h { s with heap:=h' } ⟨I.ok,I.os,I.bare,⟨fun b o e n hb hx=>?_,fun b o e n hb hx=>?_,I.base.free,fun b o e hx=>?_,I.base.tups,I.base.frzs,I.base.tbls.trans (.kept (fun b u z e=>(hs.2 b (fun r=>by rcases z with ⟨q,z⟩;rw[r,I.freeC x c hc] at z;cases z)).trans e) fun _ _ e _=>e)⟩,⟨m,hn.sameBut hs (Ne.symm (cne x c hc)),fun j y v' e1 e2 e3=>?_⟩,fun y c' e=>?_,I.free,I.freeC,fun p hp=>?_,tracked ⟨oc,hoc,I.freeC x c hc⟩ hs,by simpa using I.len⟩ ⟨c,hs,.inr hc⟩
  ·exact (hs.2 b (Nat.ne_of_lt (zP (zZ e) (I.ok.cab x c hfn hc)))).trans (I.base.keep b o e n hb hx)
  ·obtain⟨sl,e1⟩:=I.base.slot b o e n hb hx
   exact⟨sl,(hs.2 b (Nat.ne_of_lt (zP (zZ e) (I.ok.cab x c hfn hc)))).trans e1⟩
  ·obtain⟨o',e1⟩:=I.base.there b o e hx
   exact⟨o',(hs.2 b (Nat.ne_of_lt (zP (zZ e) (I.ok.cab x c hfn hc)))).trans e1⟩
  ·by_cases hj:j=i
   ·subst hj
    rw[hi] at e1;cases e1
    rw[List.getElem?_set_self hiσ] at e2
    cases e2
    exact⟨u,r,.inr ⟨.inl hk,c,hc,hc'⟩⟩
   ·rw[List.getElem?_set_ne (Ne.symm hj)] at e2
    obtain⟨u',r',q⟩:=hl j y v' e1 e2 e3
    refine⟨u',r',?_⟩
    rcases q with q|⟨k,c',e,z'⟩
    ·exact .inl q
    ·refine .inr ⟨k,c',e,z'.sameBut hs ?_⟩
     rintro rfl
     exact hj (uY hN e1 (I.ok.inj _ _ _ e hc ▸ hi))
  ·by_cases hcc:c'=c
   ·subst hcc;exact⟨_,hc'⟩
   ·obtain⟨w2,z2⟩:=I.cell y c' e
    exact⟨w2,z2.sameBut hs hcc⟩
  ·obtain⟨e,n,ne,nf,d⟩:=I.pin p hp
   refine⟨(hs.2 p.1 ?_).trans e,n,ne,nf,d⟩
   intro q
   rw[q,hoc] at e
   have q':oc=p.2:=Option.some.inj e
   exact d w' (by rw[<- q'];exact hocd)
theorem uI{M:Model}{A:Around}{E:Value->Shared->Prop}{i:Nat}{x:Str}{v:V}{u:Value}{Q:Unit->Shared->Prop}(I:Inv X pins σ H s)(hN:X.N.Nodup)(hi:X.N[i]?=some x)(hx:Loc X.env.scope x)(r:RelV v u)
  (h:∀s',Inv X pins (σ.set i (some v)) H s'->Q () s') (hf:X.fn x=true\/X.env.scope.names.lookup x=some .local:=by first|exact .inl rfl|exact .inr rfl|assumption):wpAny M A (storeName X.env x u) Q E s :=
 rz I hN hi hx r (fun s' I' _=>h s' I') hf
theorem Inv.call'{s':Shared}{ch:List Addr}(I:Inv X pins σ H s)(ho:s'.os=s.os)(u:Un (C5 X.stack) ch H H' s.heap s'.heap)(hok:nM X.prog X.w H' s'.heap)(hg:AllBare s'.gens)
  (hch:∀b∈ch,(b∈X.ex\/X.s₀.heap.objs.size<=b)/\b≠X.env.locals/\(∀x c,X.env.cells.lookup x=some c->c≠b)/\∀p∈X.pn++pins,p.1≠b):Inv X pins σ H' s':=by
 obtain⟨h',g',d',t',o'⟩:=s'
 have e:o'=s.os:=ho
 subst e
 exact I.call (g':=g') (t':=t') (d':=d') u hok hg hch
end
noncomputable abbrev XK:=Value->Option Addr->Hp->Prop
noncomputable abbrev St:=List (Option V)
noncomputable abbrev VK:=V->Hp->Prop
noncomputable abbrev TE:=St->Hp->VK->Prop
noncomputable abbrev TT:=St->Hp->(Bool->Hp->Prop)->Prop
noncomputable abbrev TA:=St->Hp->(List V->Hp->Prop)->Prop
structure Ends where
 nx:St->Hp->Prop
 rt:VK
 bk:St->Hp->Prop:=fun _ _=>False
 ct:St->Hp->Prop:=fun _ _=>False
noncomputable abbrev TS:=Ends->St->Hp->Prop
def EP(X:Cx)(pins:List (Addr×Obj))(σ:St)(Q:VK)(u:Value)(s':Shared):Prop:=∃v H',Inv X pins σ H' s'/\RelV v u/\Q v H'
def TP(X:Cx)(pins:List (Addr×Obj))(σ:St)(Q:Bool->Hp->Prop)(b:Bool)(s':Shared):Prop:=∃H',Inv X pins σ H' s'/\Q b H'
def AP(X:Cx)(pins:List (Addr×Obj))(σ:St)(Q:List V->Hp->Prop)(us:List Value)(s':Shared):Prop:=∃vs H',Inv X pins σ H' s'/\az vs us/\Q vs H'
noncomputable def SP(X:Cx)(pins:List (Addr×Obj))(D:Ends)(f:Flow)(s':Shared):Prop :=
 match f with
 | .next=>∃σ' H',Inv X pins σ' H' s'/\D.nx σ' H'
 | .brk=>∃σ' H',Inv X pins σ' H' s'/\D.bk σ' H'
 | .cont=>∃σ' H',Inv X pins σ' H' s'/\D.ct σ' H'
 | .ret u=>∃v σ' H',Inv X pins σ' H' s'/\RelV v u/\D.rt v H'
noncomputable def PE(X:Cx)(e:Expr)(t:TE):Prop :=
 ∀ (pins:List (Addr×Obj)) (s:Shared) (σ:St) (H:Hp) (Q:VK),Inv X pins σ H s->t σ H Q->wpAny (model X.prog X.w) X.A (eval e X.env) (EP X pins σ Q) X.xe s
noncomputable def PT(X:Cx)(e:Expr)(t:TT):Prop :=
 ∀ (pins:List (Addr×Obj)) (s:Shared) (σ:St) (H:Hp) (Q:Bool->Hp->Prop),Inv X pins σ H s->t σ H Q->wpAny (model X.prog X.w) X.A (isTrue e X.env (eval e X.env)) (TP X pins σ Q) X.xe s
noncomputable def PW(X:Cx)(e:Expr)(t:TT):Prop :=
 ∀ (whole:Sem Value) (pins:List (Addr×Obj)) (s:Shared) (σ:St) (H:Hp) (Q:Bool->Hp->Prop),Inv X pins σ H s->t σ H Q->wpAny (model X.prog X.w) X.A (isTrue e X.env whole) (TP X pins σ Q) X.xe s
theorem PW.pt{X:Cx}{e:Expr}{t:TT}(h:PW X e t):PT X e t:=h _
noncomputable def PA(X:Cx)(es:List Expr)(t:TA):Prop :=
 ∀ (pos:Pos) (pins:List (Addr×Obj)) (s:Shared) (σ:St) (H:Hp) (Q:List V->Hp->Prop),Inv X pins σ H s->t σ H Q->wpAny (model X.prog X.w) X.A (spliced (backTo pos (starEach es X.env))) (AP X pins σ Q) X.xe s
noncomputable def PS(X:Cx)(st:Stmt)(t:TS):Prop :=
 ∀ (pins:List (Addr×Obj)) (s:Shared) (σ:St) (H:Hp) (D:Ends),Inv X pins σ H s->t D σ H->wpAny (model X.prog X.w) X.A (exec st X.env) (SP X pins D) X.xe s
noncomputable def xJ(X:Cx)(st:List Stmt)(t:TS):Prop :=
 ∀ (pins:List (Addr×Obj)) (s:Shared) (σ:St) (H:Hp) (D:Ends),Inv X pins σ H s->t D σ H->wpAny (model X.prog X.w) X.A (execs st X.env) (SP X pins D) X.xe s
theorem bO{α:Type}{t:Sem α}{Q Q':α->Shared->Prop}{M:Model}{A:Around}{E:Value->Shared->Prop}{s:Shared}(h:wpAny M A t Q E s)(hQ:∀a s,Q a s->Q' a s):wpAny M A t Q' E s:=wpAny_mono h hQ fun _ _ x=>x
section
variable {X:Cx}
def MU(i:Nat):TE:=fun σ H Q=>∃v,σ[i]?=some (some v)/\Q v H
def tC(v:V):TE:=fun _ H Q=>Q v H
theorem oi{i:Nat}{x:Str}{pos:Pos}(hN:X.N[i]?=some x)(hv:Hu X.env.scope x)(hd:(x == ("__debug__":Str))=false:=by decide)(hcd:(x == ("__classdict__":Str))=false:=by decide):PE X (.Name x pos) (MU i):=by
 intro pins s σ H Q I h
 obtain⟨v,e,h⟩:=h
 obtain⟨m,hn,hl⟩:=I.loc
 obtain⟨u,r,l⟩:=hl i x v hN e hv
 have fin:EP X pins σ Q u s:=⟨v,H,I,r,h⟩
 rcases l with ⟨hk,hm⟩|⟨hk,c,hc,hcell⟩
 ·exact wpAny_Name (wpAny_loadName_local I.ok.kind hk hn hm fin) hd
 ·rcases hk with hk|hk
  ·exact wpAny_Name (wpAny_loadName_cell I.ok.kind hk hc hcell fin) hd
  ·exact wpAny_Name (wpAny_loadName_free I.ok.kind hk hc hcell fin hcd) hd
theorem so{i j pos}:PE X (.Constant (.int i) j pos) (tC (.int i)):=fun _ _ _ H _ I h=>wpAny_Constant_int ⟨.int i,H,I.tok _,⟨_,rfl⟩,h⟩
theorem LD{b j pos}:PE X (.Constant (.bool b) j pos) (tC (.bl b)):=fun _ _ _ H _ I h=>Constant_bool ⟨.bl b,H,I,rfl,h⟩
theorem Kn{j pos}:PE X (.Constant .none j pos) (tC .non):=fun _ _ _ H _ I h=>Constant_none ⟨.non,H,I,rfl,h⟩
theorem Jg{x j pos}:PE X (.Constant (.str x) j pos) (tC (.str x)):=fun _ _ _ H _ I h=>Calls.Constant_str ⟨.str x,H,I.tok _,⟨_,rfl⟩,h⟩
def Gl(X:Cx)(x:Str):Prop:=X.env.kindOf x=some .globalImplicit
theorem zm{E:Value->Shared->Prop}{pins:List (Addr×Obj)}{s:Shared}{σ:St}{H:Hp}{x:Str}{u:Value}{pos:Pos}{Q:Value->Shared->Prop}(I:Inv X pins σ H s)(hg:Gl X x)(hm:X.mg x=some u)(h:Q u s)
  (hd:(x == ("__debug__":Str))=false:=by decide):wpAny (model X.prog X.w) X.A (eval (.Name x pos) X.env) Q E s :=
 Calls.Name_function_global I.ok.kind hg (Calls.loadGlobal_global (by rw[I.ok.glob];exact I.mod.glob.keeps I.bk) hm h) hd
theorem iN{E:Value->Shared->Prop}{pins:List (Addr×Obj)}{s:Shared}{σ:St}{H:Hp}{x:Str}{u:Value}{pos:Pos}{Q:Value->Shared->Prop}(I:Inv X pins σ H s)(hg:Gl X x)(hm:X.mg x=none)(hv:bootBuiltins x=some u)(h:Q u s)
  (hn:x≠"__name__":=by decide) (hd:(x == ("__debug__":Str))=false:=by decide):wpAny (model X.prog X.w) X.A (eval (.Name x pos) X.env) Q E s:=by
 obtain⟨mb,h1,h2⟩:=I.mod.blt
 exact Calls.Name_function_global I.ok.kind hg (Calls.loadGlobal_builtin (by rw[I.ok.glob];exact I.mod.glob.keeps I.bk) hm (by rw[I.ok.blt];exact h1.keeps I.bk) ((h2 x hn).trans hv) h) hd
theorem sU{x:Str}{v:V}{u:Value}{pos:Pos}(hg:Gl X x)(hm:X.mg x=some u)(r:RelV v u)(hd:(x == ("__debug__":Str))=false:=by decide):PE X (.Name x pos) (tC v) :=
 fun _ _ _ H _ I h=>zm I hg hm ⟨v,H,I,r,h⟩ hd
theorem Fp{x:Str}{v:V}{u:Value}{pos:Pos}(hg:Gl X x)(hm:X.mg x=none)(hv:bootBuiltins x=some u)(r:RelV v u)(hn:x≠"__name__":=by decide)(hd:(x == ("__debug__":Str))=false:=by decide):PE X (.Name x pos) (tC v) :=
 fun _ _ _ H _ I h=>iN I hg hm hv ⟨v,H,I,r,h⟩ hn hd
variable {a b:Expr}{ta tb:TE}{pos:Pos}
def tB(t:TE):TT:=fun σ H Q=>t σ H fun x H1=>∃c,x=.bl c/\Q c H1
theorem JI{e:Expr}{t:TE}(h:PE X e t)(he:∀whole,isTrue e X.env whole=(do let v <- whole;standAt e.pos;holding [v] (truthy v)):=by intro _;rfl):PT X e (tB t):=by
 intro pins s σ H Q I hw
 refine isTrue_plain (bO (h pins s σ H _ I hw) fun v s1 ⟨x,H1,I1,r1,q1⟩=>?_) (he _)
 obtain⟨d,rfl,q⟩:=q1
 cases r1
 exact wpAny_truthy_bool ⟨H1,I1,q⟩
variable {tA tB':TT}{rest:List Expr}
def MB(t u:TT):TT:=fun σ H Q=>t σ H fun c H1=>if c=true then u σ H1 Q else Q false H1
def Ni(t u:TT):TT:=fun σ H Q=>t σ H fun c H1=>if c=true then Q true H1 else u σ H1 Q
def L3(t:TT):TT:=fun σ H Q=>t σ H fun c H1=>Q (!c) H1
theorem Ft(ha:PT X a tA):PW X (.BoolOp .And [a] pos) tA:=by
 intro wh pins s σ H Q I h
 refine isTrue_and (bO (ha pins s σ H Q I h) fun c s1 e=>?_)
 cases c with
 | true=>exact isTrue_and_nil e
 | false=>exact e
theorem Jm(ha:PT X a tA):PW X (.BoolOp .Or [a] pos) tA:=by
 intro wh pins s σ H Q I h
 refine isTrue_or (bO (ha pins s σ H Q I h) fun c s1 e=>?_)
 cases c with
 | false=>exact isTrue_or_nil e
 | true=>exact e
theorem JM(ha:PT X a tA)(hb:PW X (.BoolOp .And (b::rest) pos) tB'):PW X (.BoolOp .And (a::b::rest) pos) (MB tA tB'):=by
 intro wh pins s σ H Q I h
 refine isTrue_and (bO (ha pins s σ H _ I h) fun c s1 ⟨H1,I1,q1⟩=>?_)
 cases c with
 | true=>exact hb wh pins s1 σ H1 Q I1 q1
 | false=>exact⟨H1,I1,q1⟩
theorem KR(ha:PT X a tA)(hb:PW X (.BoolOp .Or (b::rest) pos) tB'):PW X (.BoolOp .Or (a::b::rest) pos) (Ni tA tB'):=by
 intro wh pins s σ H Q I h
 refine isTrue_or (bO (ha pins s σ H _ I h) fun c s1 ⟨H1,I1,q1⟩=>?_)
 cases c with
 | true=>exact⟨H1,I1,q1⟩
 | false=>exact hb wh pins s1 σ H1 Q I1 q1
theorem JZ(ha:PT X a tA):PT X (.UnaryOp .Not a pos) (L3 tA):=by
 intro pins s σ H Q I h
 exact isTrue_not (ha pins s σ H (fun c H1=>Q (!c) H1) I h)
def Ln(ta tb:TE):TE:=fun σ H Q=>ta σ H fun x H1=>∃c,x=.bl c/\if c=true then tb σ H1 Q else Q (.bl false) H1
def Mb(ta tb:TE):TE:=fun σ H Q=>ta σ H fun x H1=>∃c,x=.bl c/\if c=true then Q (.bl true) H1 else tb σ H1 Q
def Lj(ta:TE):TE:=fun σ H Q=>ta σ H fun x H1=>∃c,x=.bl c/\Q (.bl (!c)) H1
theorem IQ{op}{t:TE}(h:PE X a t):PE X (.BoolOp op [a] pos) t:=fun pins s σ H Q I hw=>BoolOp_one (h pins s σ H Q I hw)
theorem J4(ha:PE X a ta)(hb:PE X (.BoolOp .And (b::rest) pos) tb):PE X (.BoolOp .And (a::b::rest) pos) (Ln ta tb):=by
 intro pins s σ H Q I h
 refine BoolOp_and (bO (ha pins s σ H _ I h) fun v s1 ⟨x,H1,I1,r1,q1⟩=>?_)
 obtain⟨c,rfl,q1⟩:=q1
 cases r1
 refine wpAny_truthy_bool ?_
 cases c with
 | true=>exact hb pins s1 σ H1 Q I1 q1
 | false=>exact⟨.bl false,H1,I1,rfl,q1⟩
theorem Ds(ha:PE X a ta)(hb:PE X (.BoolOp .Or (b::rest) pos) tb):PE X (.BoolOp .Or (a::b::rest) pos) (Mb ta tb):=by
 intro pins s σ H Q I h
 refine BoolOp_or (bO (ha pins s σ H _ I h) fun v s1 ⟨x,H1,I1,r1,q1⟩=>?_)
 obtain⟨c,rfl,q1⟩:=q1
 cases r1
 refine wpAny_truthy_bool ?_
 cases c with
 | false=>exact hb pins s1 σ H1 Q I1 q1
 | true=>exact⟨.bl true,H1,I1,rfl,q1⟩
theorem Kg(ha:PE X a ta):PE X (.UnaryOp .Not a pos) (Lj ta):=by
 intro pins s σ H Q I h
 refine UnaryOp_ (bO (ha pins s σ H _ I h) fun v s1 ⟨x,H1,I1,r1,q1⟩=>?_)
 obtain⟨c,rfl,q1⟩:=q1
 cases r1
 exact not_of (wpAny_truthy_bool ⟨.bl (!c),H1,I1,rfl,q1⟩)
def Ng(t:TT)(ta tb:TE):TE:=fun σ H Q=>t σ H fun c H1=>if c=true then ta σ H1 Q else tb σ H1 Q
theorem BB{c:Expr}(hc:PT X c tA)(ha:PE X a ta)(hb:PE X b tb):PE X (.IfExp c a b pos) (Ng tA ta tb):=by
 intro pins s σ H Q I h
 refine wpAny_IfExp (bO (hc pins s σ H _ I h) fun d s1 ⟨H1,I1,q1⟩=>?_)
 cases d with
 | true=>exact ha pins s1 σ H1 Q I1 q1
 | false=>exact hb pins s1 σ H1 Q I1 q1
end
noncomputable def gG(K:W.Frag)(H:Hp)(a:Addr)(xs:List V):Prop :=
 Rd H a (.lst xs) \/
  ∃ (o:Obj) (its:Array Value) (n:Nat),K.lookup a=some o/\o.cls=.type "list"/\o.dict=none/\o.data=.seq its n/\its.size<=sizeLine/\az xs its.toList
noncomputable def gT(K:W.Frag)(H:Hp)(a:Addr)(xs:List V):Prop :=
 Rd H a (.tup xs) \/
  ∃ (o:Obj) (its:Array Value) (n:Nat),K.lookup a=some o/\o.cls=.type "tuple"/\o.dict=none/\o.data=.seq its n/\its.size<=sizeLine/\az xs its.toList
noncomputable def Mz:Value->Option V
 | .none=>some .non
 | .bool b=>some (.bl b)
 | .int i _=>some (.int i)
 | .str x _=>some (.str x)
 | .bytes b _=>some (.byt b)
 | .float b _=>some (.flt b)
 | .ref a=>some (.ref a)
 | .type n=>some (.ty n)
 | _=>none
theorem RelV.abs{x:V}{u:Value}(r:RelV x u):Mz u=some x:=by
 cases x with
 | non=>cases r;rfl
 | bl _=>cases r;rfl
 | int _=>obtain⟨t,rfl⟩:=r;rfl
 | str _=>obtain⟨t,rfl⟩:=r;rfl
 | byt _=>obtain⟨t,rfl⟩:=r;rfl
 | flt _=>obtain⟨t,rfl⟩:=r;rfl
 | ref _=>cases r;rfl
 | ty _=>cases r;rfl
theorem RelV.inj{x y:V}{u:Value}(r:RelV x u)(q:RelV y u):x=y:=Option.some.inj (r.abs.symm.trans q.abs)
theorem az.inj:∀ {xs ys:List V}{us:List Value},az xs us->az ys us->xs=ys
 | _,_,_,.nil,.nil=>rfl
 | _,_,_,.cons r t,.cons r' t'=>by rw[r.inj r',az.inj t t']
section
variable {X:Cx}{pins:List (Addr×Obj)}{σ:St}{H:Hp}{s:Shared}{a:Addr}{xs ys:List V}
theorem gG.of{K:W.Frag}(h:H a=some (.lst xs)):gG K H a xs:=.inl (.inl h)
theorem Inv.list(I:Inv X pins σ H s)(h:gG X.K H a xs):∃its:List Value,az xs its/\PlainL s.heap a its.toArray/\xs.length<=sizeLine:=by
 rcases h with h|⟨o,its,n,hk,hc,hd,hs,hz,r⟩
 ·obtain⟨z,its,n,r,e⟩:=h.ok I.hok
  exact⟨its,r,⟨_,n,e,rfl,rfl,rfl⟩,z⟩
 ·refine⟨its.toList,r,⟨o,n,I.kIn a o hk,hc,hd,by simpa using hs⟩,?_⟩
  have e:=r.length
  simp only[Array.length_toList] at e
  omega
theorem Inv.tuple(I:Inv X pins σ H s)(h:gT X.K H a xs):∃its:List Value,az xs its/\IsTup s.heap a its.toArray/\xs.length<=sizeLine:=by
 rcases h with h|⟨o,its,n,hk,hc,_,hs,hz,r⟩
 ·obtain⟨z,its,r,p⟩:=h.ok I.hok
  exact⟨its,r,p.1,z⟩
 ·refine⟨its.toList,r,⟨o,I.kIn a o hk,hc,n,by simpa using hs⟩,?_⟩
  have e:=r.length
  simp only[Array.length_toList] at e
  omega
theorem Inv.list_inj(I:Inv X pins σ H s)(h:gG X.K H a xs)(h':gG X.K H a ys):xs=ys:=by
 obtain⟨its,r,⟨o,n,e,_,_,d⟩,_⟩:=I.list h
 obtain⟨its',r',⟨o',n',e',_,_,d'⟩,_⟩:=I.list h'
 rw[e] at e';cases e'
 rw[d] at d'
 injection d' with d1 _
 have:its=its':=by simpa using congrArg Array.toList d1
 subst this
 exact r.inj r'
theorem Inv.tuple_inj(I:Inv X pins σ H s)(h:gT X.K H a xs)(h':gT X.K H a ys):xs=ys:=by
 obtain⟨its,r,⟨o,e,_,n,d⟩,_⟩:=I.tuple h
 obtain⟨its',r',⟨o',e',_,n',d'⟩,_⟩:=I.tuple h'
 rw[e] at e';cases e'
 rw[d] at d'
 injection d' with d1 _
 have:its=its':=by simpa using congrArg Array.toList d1
 subst this
 exact r.inj r'
end
noncomputable abbrev Cx.wish(X:Cx)(E:Value->Shared->Prop):Cx:={ X with xe:=E }
noncomputable abbrev Cx.nox(X:Cx):Cx:=X.wish fun _ _=>False
theorem Cx.Ok.wish{X:Cx}(ok:X.Ok)(E:Value->Shared->Prop):(X.wish E).Ok :=
 ⟨ok.mod,ok.kind,ok.glob,ok.blt,ok.above,ok.inj,ok.has,ok.cab,ok.hd,ok.frames,ok.stk,ok.exf,ok.bs,ok.bsz,ok.noex,ok.exfs,ok.funs,ok.frf⟩
theorem Cx.Ok.unwish{X:Cx}{E:Value->Shared->Prop}(ok:(X.wish E).Ok):X.Ok :=
 ⟨ok.mod,ok.kind,ok.glob,ok.blt,ok.above,ok.inj,ok.has,ok.cab,ok.hd,ok.frames,ok.stk,ok.exf,ok.bs,ok.bsz,ok.noex,ok.exfs,ok.funs,ok.frf⟩
section
variable {X:Cx}{pins:List (Addr×Obj)}{σ:St}{H:Hp}{s:Shared}{E:Value->Shared->Prop}
theorem Inv.wish(I:Inv X pins σ H s)(E:Value->Shared->Prop):Inv (X.wish E) pins σ H s:=⟨I.ok.wish E,I.os,I.bare,I.base,I.loc,I.cell,I.free,I.freeC,I.pin,I.hok,I.len⟩
theorem Inv.unwish(I:Inv (X.wish E) pins σ H s):Inv X pins σ H s:=⟨I.ok.unwish,I.os,I.bare,I.base,I.loc,I.cell,I.free,I.freeC,I.pin,I.hok,I.len⟩
theorem SP.unwish{D:Ends}{f:Flow}{s':Shared}(h:SP (X.wish E) pins D f s'):SP X pins D f s':=by
 cases f with
 | next=>obtain⟨σ',H',I,q⟩:=h;exact⟨σ',H',I.unwish,q⟩
 | brk=>obtain⟨σ',H',I,q⟩:=h;exact⟨σ',H',I.unwish,q⟩
 | cont=>obtain⟨σ',H',I,q⟩:=h;exact⟨σ',H',I.unwish,q⟩
 | ret u=>obtain⟨v,σ',H',I,r,q⟩:=h;exact⟨v,σ',H',I.unwish,r,q⟩
theorem xJ.nox{st:List Stmt}{t:TS}(h:xJ X.nox st t):xJ X st t:=fun pins s σ H D I hw =>
 wpAny_mono (h pins s σ H D (I.wish _) hw) (fun _ _ q=>q.unwish) fun _ _ z=>False.elim z
end
section
variable {X:Cx}{st:Stmt}{rest:List Stmt}{t u:TS}{e:Expr}{te:TE}{pos:Pos}
def Ei:TS:=fun D σ H=>D.nx σ H
def L6(t u:TS):TS:=fun D σ H=>t { D with nx:=u D } σ H
theorem FY:xJ X [] Ei:=fun _ _ σ H _ I h=>wpAny_execs_nil ⟨σ,H,I,h⟩
theorem CH(h1:PS X st t)(h2:xJ X rest u):xJ X (st::rest) (L6 t u):=by
 intro pins s σ H D I h
 refine wpAny_execs_cons (bO (h1 pins s σ H { D with nx:=u D } I h) fun f s1 q=>?_)
 cases f with
 | next =>
  obtain⟨σ',H',I',q⟩:=q
  exact h2 pins s1 σ' H' D I' q
 | ret v=>exact q
 | brk=>exact q
 | cont=>exact q
theorem FP(h1:PS X st t):xJ X [st] t:=by
 intro pins s σ H D I h
 refine wpAny_execs_cons (bO (h1 pins s σ H D I h) fun f s1 q=>?_)
 cases f with
 | next=>exact wpAny_execs_nil q
 | ret v=>exact q
 | brk=>exact q
 | cont=>exact q
theorem FH:PS X (.Pass pos) Ei:=fun _ _ σ H _ I h=>wpAny_Pass ⟨σ,H,I,h⟩
theorem Inv.quiet{pins:List (Addr×Obj)}{σ:St}{H:Hp}{s:Shared}(I:Inv X pins σ H s):interactive X.env=false:=by simp[interactive,I.ok.kind]
theorem IJ{x j pos pos'}:PS X (.Expr (.Constant (.str x) j pos) pos') Ei:=fun _ s σ H _ I h=>wpAny_Expr (Calls.Constant_str (show SP X _ _ .next { s with toks:=s.toks+1 } from ⟨σ,H,I.tok _,h⟩)) I.quiet
def Lq(te:TE):TS:=fun D σ H=>te σ H fun _ H1=>D.nx σ H1
theorem nK(he:PE X e te)(hs:swapsWith e none pos.line X.env=pure false:=by rfl):PS X (.Expr e pos) (Lq te):=by
 intro pins s σ H D I h
 exact wpAny_Expr_any (bO (he pins s σ H _ I h) fun v s1 ⟨x,H1,I1,r1,q1⟩=>⟨σ,H1,I1,q1⟩) I.quiet hs
def L4(te:TE):TS:=fun D σ H=>te σ H D.rt
theorem IY(he:PE X e te):PS X (.Return (some e) pos) (L4 te):=by
 intro pins s σ H D I h
 exact wpAny_Return_some (bO (he pins s σ H _ I h) fun v s1 ⟨x,H1,I1,r1,q1⟩=>⟨x,σ,H1,I1,r1,q1⟩)
def My(c:TT)(t u:TS):TS:=fun D σ H=>c σ H fun b H1=>if b=true then t D σ H1 else u D σ H1
theorem LH{c:Expr}{a b:List Stmt}{tc:TT}(hc:PT X c tc)(ha:xJ X a t)(hb:xJ X b u):PS X (.If c a b pos) (My tc t u):=by
 intro pins s σ H D I h
 refine wpAny_If (bO (hc pins s σ H _ I h) fun d s1 ⟨H1,I1,q1⟩=>?_)
 cases d with
 | true=>exact ha pins s1 σ H1 D I1 q1
 | false=>exact hb pins s1 σ H1 D I1 q1
end
noncomputable abbrev TG:=V->St->Hp->(St->Hp->Prop)->Prop
noncomputable abbrev JS:=List V->St->Hp->(St->Hp->Prop)->Prop
noncomputable def PG(X:Cx)(target:Expr)(t:TG):Prop :=
 ∀ (pins:List (Addr×Obj)) (s:Shared) (σ:St) (H:Hp) (v:V) (u:Value) (Q:St->Hp->Prop),Inv X pins σ H s->RelV v u->t v σ H Q ->
  wpAny (model X.prog X.w) X.A (assign target X.env u) (fun _ s'=>∃σ' H',Inv X pins σ' H' s'/\Q σ' H') X.xe s
noncomputable def LV(X:Cx)(ts:List Expr)(t:JS):Prop :=
 ∀ (pins:List (Addr×Obj)) (s:Shared) (σ:St) (H:Hp) (vs:List V) (us:List Value) (Q:St->Hp->Prop),Inv X pins σ H s->az vs us->t vs σ H Q ->
  wpAny (model X.prog X.w) X.A (assignInOrder ((assignEach ts X.env).map (·.2)) us) (fun _ s'=>∃σ' H',Inv X pins σ' H' s'/\Q σ' H') X.xe s
noncomputable abbrev JD:=V->V->V->Hp->(Hp->Prop)->Prop
noncomputable def K2(X:Cx)(t:JD):Prop :=
 ∀ (pins:List (Addr×Obj)) (s:Shared) (σ:St) (H:Hp) (o i v:V) (ov iv u:Value) (Q:Hp->Prop),Inv X pins σ H s->RelV o ov->RelV i iv->RelV v u->t o i v H Q ->
  wpAny (model X.prog X.w) X.A (setItem ov iv u) (fun _ s'=>∃H',Inv X pins σ H' s'/\Q H') X.xe s
section
variable {X:Cx}{pos:Pos}
def vP(i:Nat):TG:=fun v σ H Q=>Q (σ.set i (some v)) H
theorem b8{i:Nat}{x:Str}(hN:X.N.Nodup)(hi:X.N[i]?=some x)(hx:Loc X.env.scope x)(hf:X.fn x=true\/X.env.scope.names.lookup x=some .local:=by first|exact .inl rfl|exact .inr rfl|assumption):PG X (.Name x pos) (vP i):=by
 intro pins s σ H v u Q I r h
 exact wpAny_assign_Name (uI I hN hi hx r (fun s' I'=>⟨_,H,I',h⟩) hf)
noncomputable def MF:JS:=fun vs σ H Q=>vs=[]/\Q σ H
noncomputable def LF(t:TG)(u:JS):JS:=fun vs σ H Q=>∃v r,vs=v::r/\t v σ H fun σ' H'=>u r σ' H' Q
theorem ka:LV X [] MF:=by
 intro pins s σ H vs us Q I r h
 obtain⟨e,h⟩:=h
 subst e
 cases r
 exact assignInOrder_nil ⟨σ,H,I,h⟩
theorem bH{e:Expr}{es:List Expr}{t:TG}{u:JS}(h1:PG X e t)(h2:LV X es u)
  (hs:(assignEach (e::es) X.env).map (·.2)=assign e X.env::(assignEach es X.env).map (·.2):=by rfl):LV X (e::es) (LF t u):=by
 intro pins s σ H vs us Q I r h
 obtain⟨v,vr,e1,h⟩:=h
 subst e1
 cases r with
 | cons r rr =>
  rw[hs]
  refine assignInOrder_cons (bO (h1 pins s σ H _ _ _ I r h) fun _ s1 ⟨σ1,H1,I1,q1⟩=>?_)
  exact h2 pins s1 σ1 H1 _ _ Q I1 rr q1
def Md(K:W.Frag)(n:Nat)(t:JS):TG:=fun v σ H Q=>∃a xs,v=.ref a/\gT K H a xs/\xs.length=n/\t xs σ H Q
theorem l5{es:List Expr}{k:Nat}{t:JS}{n:Nat}(hc:X.calm=true)(h:LV X es t)
  (hn:(assignEach es X.env).length=n:=by rfl) (hst:(assignEach es X.env).findIdx? (·.1)=none:=by rfl):PG X (.Tuple es k pos) (Md X.K n t):=by
 intro pins s σ H v u Q I r hw
 obtain⟨a,xs,e1,hq,hl,hw⟩:=hw
 subst e1
 cases r
 obtain⟨its,rv,ht,hz⟩:=I.tuple hq
 refine assign_Tuple_tuple (I.ok.hd hc) ht (by simp[hn,<- hl,rv.length]) hst fun h' hx=>?_
 have I1:Inv X pins σ H { s with heap:=h' }:=I.kept (t':=s.toks) fun b o e=>hx b o (Nat.ne_of_lt (zZ e)) e
 exact h pins _ σ H xs _ Q I1 (by simpa using rv) hw
def fU(to ti:TE)(t:JD):TG:=fun v σ H Q=>to σ H fun o H1=>ti σ H1 fun i H2=>t o i v H2 fun H3=>Q σ H3
theorem Kl{o i:Expr}{to ti:TE}{t:JD}(ho:PE X o to)(hi:PE X i ti)(hs:K2 X t)
  (ha:∀v,assign (.Subscript o i pos) X.env v=(do
   let ov <- holding [v] (eval o X.env)
   let iv <- holding [v,ov] (eval i X.env)
   standAt pos
   holding [v,ov,iv] (setItem ov iv v)
   release [v,ov,iv] []):=by intro _;rfl):PG X (.Subscript o i pos) (fU to ti t):=by
 intro pins s σ H v u Q I r h
 rw[ha]
 refine zW (wpAny_holding (bO (ho pins s σ H _ I h) fun ov s1 ⟨x,H1,I1,r1,q1⟩=>?_))
 refine zW (wpAny_holding (bO (hi pins s1 σ H1 _ I1 q1) fun iv s2 ⟨y,H2,I2,r2,q2⟩=>?_))
 refine zW (wpAny_standAt (zW (wpAny_holding (bO (hs pins s2 σ H2 x y v ov iv u _ I2 r1 r2 r q2) fun _ s3 ⟨H3,I3,q3⟩=>?_))))
 exact wpAny_release ⟨σ,H3,I3,q3⟩
def CT(te:TE)(g:TG):TS:=fun D σ H=>te σ H fun x H1=>g x σ H1 D.nx
theorem DH{tg e:Expr}{te:TE}{g:TG}(he:PE X e te)(hg:PG X tg g)(hs:swapsWithSole [tg] e pos.line X.env=pure false:=by rfl)(hw:swappedStores [tg] e X.env=pure none:=by rfl)
  (h1:(assignEach [tg] X.env).map (·.2)=[assign tg X.env]:=by rfl):PS X (.Assign [tg] e pos) (CT te g):=by
 intro pins s σ H D I h
 refine wpAny_Assign_stores (bO (he pins s σ H _ I h) fun v s1 ⟨x,H1,I1,r1,q1⟩=>?_) hs hw
 rw[h1]
 exact bO (hg pins s1 σ H1 x v _ I1 r1 q1) fun _ s2 q=>q
theorem EL{i:Nat}{x:Str}{e:Expr}{te:TE}{pos':Pos}(hN:X.N.Nodup)(hi:X.N[i]?=some x)(hx:Loc X.env.scope x)(he:PE X e te)(hs:swapsWith e (some (.Name x pos')) pos.line X.env=pure false:=by rfl)(hf:X.fn x=true\/X.env.scope.names.lookup x=some .local:=by first|exact .inl rfl|exact .inr rfl|assumption) :
  PS X (.Assign [.Name x pos'] e pos) (CT te (vP i)):=by
 intro pins s σ H D I h
 refine wpAny_Assign_Name (bO (he pins s σ H _ I h) fun v s1 ⟨y,H1,I1,r1,q1⟩=>?_) hs
 exact uI I1 hN hi hx r1 (fun s2 I2=>⟨_,H1,I2,q1⟩) hf
end
section
variable {X:Cx}{pos:Pos}
def Ke(c:TT)(tb:TS):TS:=fun D σ H=>∃W:Nat->St->Hp->Prop,(∃m,W m σ H)/\∀m σ H,W m σ H ->
 c σ H fun b H1=>if b=true then ∃N:St->Hp->Prop,(∀σ' H',N σ' H'->∃m',m' < m/\W m' σ' H')/\tb { D with nx:=N,ct:=N,bk:=D.nx } σ H1 else D.nx σ H1
theorem BQ{c:Expr}{body:List Stmt}{tc:TT}{tb:TS}(hp:PassesOwn (model X.prog X.w) X.A X.env X.xe)(hc:PT X c tc)(hb:xJ X body tb):PS X (.While c body [] pos) (Ke tc tb):=by
 intro pins s σ H D I h
 obtain⟨W,⟨m0,w0⟩,turn⟩:=h
 refine wpAny_While (codeAny_whileLoop (fun n s'=>∃σ' H',Inv X pins σ' H' s'/\W n σ' H') ?_ m0 ⟨σ,H,I,w0⟩)
 rintro n s1 ⟨σ1,H1,I1,w1⟩
 refine wpAny_passesOwn hp (bO (hc pins s1 σ1 H1 _ I1 (turn n σ1 H1 w1)) fun b s2 ⟨H2,I2,q2⟩=>?_)
 cases b with
 | true =>
  obtain⟨N,hN,q2⟩:=q2
  rw[if_pos rfl]
  refine wpAny_passesOwn hp (bO (hb pins s2 σ1 H2 _ I2 q2) fun f s3 q3=>?_)
  cases f with
  | next =>
   obtain⟨σ3,H3,I3,n3⟩:=q3
   obtain⟨m',hm,w3⟩:=hN σ3 H3 n3
   exact⟨m',hm,σ3,H3,I3,w3⟩
  | cont =>
   obtain⟨σ3,H3,I3,n3⟩:=q3
   obtain⟨m',hm,w3⟩:=hN σ3 H3 n3
   exact⟨m',hm,σ3,H3,I3,w3⟩
  | brk=>exact q3
  | ret v=>exact q3
 | false =>
  rw[if_neg Bool.false_ne_true]
  exact wpAny_execs_nil ⟨σ1,H2,I2,q2⟩
end
structure It where
 go:Nat->Hp->Prop
 yld:Nat->Hp->V->Hp->Prop
 stop:Nat->Hp->Prop
noncomputable def ck(X:Cx)(pins:List (Addr×Obj))(H:Hp)(b:Addr):Prop :=
 H b=none/\b≠X.env.locals/\b∉X.fs/\(b∈X.ex\/X.s₀.heap.objs.size<=b)/\(∀x c,X.env.cells.lookup x=some c->c≠b)/\∀p∈X.pn++pins,p.1≠b
theorem Inv.fpOk{X:Cx}{pins:List (Addr×Obj)}{σ:St}{H H':Hp}{s:Shared}{b:Addr}(I:Inv X pins σ H s)(hb:s.heap.objs.size<=b)(hn:H' b=none):ck X pins H' b:=by
 refine⟨hn,Nat.ne_of_gt (zP I.lt hb),I.nofs hb,.inr (yE I.sz hb),fun x c e z=>?_,fun p hp z=>?_⟩
 ·obtain⟨v,q⟩:=I.cell x c e
  exact absurd (zP q.lt (by rw[z];exact hb)) (Nat.lt_irrefl _)
 ·exact absurd (zP (zZ (I.pin p hp).1) (by rw[z];exact hb)) (Nat.lt_irrefl _)
structure Turn(P:Program)(w:World)(K:W.Frag)(tg:Expr)(J:It)(fp:List Addr)(it:Addr)(tn:Nat->Heap->Prop):Prop where
 mem:it∈fp
 obj:∀i h,tn i h->∀b∈fp,∃o,h.get? b=some o/\∀v,o.data≠.cell v
 keep:∀i h h',tn i h->(∀b∈fp,∀o,h.get? b=some o->h'.get? b=some o)->tn i h'
 item:∀ (X:Cx),X.prog=P->X.w=w->X.K=K->X.calm=true->∀ (i:Nat) (pins:List (Addr×Obj)) (s:Shared) (σ:St) (H:Hp) (E:Value->Shared->Prop),Inv X pins σ H s->(∀b∈fp,ck X pins H b)->tn i s.heap->J.go i H ->
  wpAny (model P w) X.A (pyNext (.ref it)) (fun r s1=>∃u,r=some u /\
   wpAny (model P w) X.A (letOwnedTupleGo tg (.ref it) u) (fun _ s2=>∃x H',Inv X pins σ H' s2/\RelV x u/\J.yld i H x H'/\tn (i+1) s2.heap/\∀b∈fp,H' b=none) E s1) E s
 done:∀ (X:Cx),X.prog=P->X.w=w->X.K=K->X.calm=true->∀ (i:Nat) (pins:List (Addr×Obj)) (s:Shared) (σ:St) (H:Hp) (E:Value->Shared->Prop),Inv X pins σ H s->(∀b∈fp,ck X pins H b)->tn i s.heap->J.stop i H ->
  wpAny (model P w) X.A (pyNext (.ref it)) (fun r s1=>r=none/\Inv X pins σ H s1) E s
 self:∀ (A:Around) (i:Nat) (s:Shared) (Q:Value->Shared->Prop) (E:Value->Shared->Prop),tn i s.heap->Q (.ref it) s->wpAny (model P w) A (pyIter (.ref it)) Q E s
noncomputable abbrev TI:=St->Hp->(It->Hp->Prop)->Prop
noncomputable def M9(X:Cx)(pins:List (Addr×Obj))(σ:St)(tg:Expr)(R:It->Hp->Prop)(itv:Value)(s2:Shared):Prop :=
 ∃ (it:Addr) (fp:List Addr) (tn:Nat->Heap->Prop) (J:It) (H':Hp),itv=.ref it/\Inv X pins σ H' s2/\Turn X.prog X.w X.K tg J fp it tn/\tn 0 s2.heap/\(∀b∈fp,ck X pins H' b)/\R J H'
noncomputable def PI(X:Cx)(tg iter:Expr)(wi:TI):Prop :=
 ∀ (pins:List (Addr×Obj)) (s:Shared) (σ:St) (H:Hp) (R:It->Hp->Prop),Inv X pins σ H s->wi σ H R ->
  wpAny (model X.prog X.w) X.A (eval iter X.env) (fun v s1=>wpAny (model X.prog X.w) X.A (pyIter v) (M9 X pins σ tg R) X.xe s1) X.xe s
theorem Dd{M:Model}{A:Around}{E:Value->Shared->Prop}{s:Shared}{tg:Expr}{it:Addr}{u:Value}{o:Obj}{n:String}{vs:Array Value}{Q:Unit->Shared->Prop}(ho:s.heap.get? it=some o)(hc:o.cls=.type n)(hd:o.data=.fields vs)
  (hn:["enumerate","zip","dict_itemiterator","dict_reverseitemiterator","odict_iterator","itertools.zip_longest","itertools.pairwise"].contains n=false) (hQ:Q () s):wpAny M A (letOwnedTupleGo tg (.ref it) u) Q E s:=by
 unfold letOwnedTupleGo
 cases tg<;>first
  | exact zX hQ
  | (cases u<;>first
    | exact zX hQ
    | (refine zW (wpAny_load ho ?_)
       rw[hc,hd]
       show wpAny M A (if (["enumerate","zip","dict_itemiterator","dict_reverseitemiterator","odict_iterator","itertools.zip_longest","itertools.pairwise"].contains n&&vs[0]? == some (rawInt _))=true then _ else _) Q E s
       rw[if_neg (by intro h;rw[hn,Bool.false_and] at h;cases h)]
       exact zX hQ))
noncomputable def MA(K:W.Frag)(a:Addr):It :=
 ⟨fun i H=>∃xs x,gG K H a xs/\xs[i]?=some x,fun i H x H'=>H'=H/\∀xs,gG K H a xs->xs[i]?=some x,fun i H=>∃xs,gG K H a xs/\xs.length<=i⟩
noncomputable def MN(K:W.Frag)(a:Addr):It :=
 ⟨fun i H=>∃xs x,gT K H a xs/\xs[i]?=some x,fun i H x H'=>H'=H/\∀xs,gT K H a xs->xs[i]?=some x,fun i H=>∃xs,gT K H a xs/\xs.length<=i⟩
noncomputable def LU(lo:Int)(n:Nat):It:=⟨fun i _=>i < n,fun i H x H'=>H'=H/\x=.int (lo+i),fun i _=>n<=i⟩
theorem Ah{P:Program}{w:World}{K:W.Frag}{tg:Expr}(a it:Addr):Turn P w K tg (MA K a) [it] it (fun i h=>h.IsListIter it a i) where
 mem:=by simp
 obj:=fun i h st b hb=>by
  have e:b=it:=by simpa using hb
  subst e
  obtain⟨o,e,c,d⟩:=st
  exact⟨o,e,fun v z=>by rw[d] at z;cases z⟩
 keep:=fun i h h' st k=>st.at fun o e=>k it (by simp) o e
 item:=by
  intro X hP hw hK hc i pins s σ H E I hf st hg
  subst hP hw hK
  obtain⟨xs,x,hq,hx⟩:=hg
  obtain⟨its,rv,p,hz⟩:=I.list hq
  obtain⟨u,hu,ru⟩:=rv.get hx
  obtain⟨f0,f1,f2,f3,f4,f5⟩:=hf it (by simp)
  refine wpAny_pyNext_list_item st p.isList (x:=u) (by simpa using hu) fun h' st' sb=>?_
  have I1:Inv X pins σ H { s with heap:=h' }:=I.turned (t':=s.toks) (fun b o hb e=>(sb.2 b hb).trans e) f0 f1 f3 f4 f5
  obtain⟨o,e,c,d⟩:=id st'
  exact⟨u,rfl,Dd (s:={ s with heap:=h' }) e c d (by decide) ⟨x,H,I1,ru,⟨rfl,fun ys hy=>by rw[I.list_inj hy hq];exact hx⟩,st',fun b hb=>(hf b hb).1⟩⟩
 done:=by
  intro X hP hw hK hc i pins s σ H E I hf st hg
  subst hP hw hK
  obtain⟨xs,hq,hx⟩:=hg
  obtain⟨its,rv,p,hz⟩:=I.list hq
  obtain⟨f0,f1,f2,f3,f4,f5⟩:=hf it (by simp)
  have hl:=rv.length
  exact wpAny_pyNext_list_end (I.ok.hd hc) st p.isList (by simp;omega) fun h' eb=>⟨rfl,I.turned (t':=s.toks) (fun b o hb e=>eb b o hb e) f0 f1 f3 f4 f5⟩
 self:=fun _ _ _ _ _ st h=>wpAny_pyIter_listiter st h
theorem xY{P:Program}{w:World}{K:W.Frag}{tg:Expr}(a it:Addr):Turn P w K tg (MN K a) [it] it (fun i h=>h.IsTupleIter it a i) where
 mem:=by simp
 obj:=fun i h st b hb=>by
  have e:b=it:=by simpa using hb
  subst e
  obtain⟨o,e,c,d⟩:=st
  exact⟨o,e,fun v z=>by rw[d] at z;cases z⟩
 keep:=fun i h h' st k=>st.at fun o e=>k it (by simp) o e
 item:=by
  intro X hP hw hK hc i pins s σ H E I hf st hg
  subst hP hw hK
  obtain⟨xs,x,hq,hx⟩:=hg
  obtain⟨its,rv,p,hz⟩:=I.tuple hq
  obtain⟨u,hu,ru⟩:=rv.get hx
  obtain⟨f0,f1,f2,f3,f4,f5⟩:=hf it (by simp)
  refine wpAny_pyNext_tuple_item st (show s.heap.IsTuple a its.toArray from p) (x:=u) (by simpa using hu) fun h' st' sb=>?_
  have I1:Inv X pins σ H { s with heap:=h' }:=I.turned (t':=s.toks) (fun b o hb e=>(sb.2 b hb).trans e) f0 f1 f3 f4 f5
  obtain⟨o,e,c,d⟩:=id st'
  exact⟨u,rfl,Dd (s:={ s with heap:=h' }) e c d (by decide) ⟨x,H,I1,ru,⟨rfl,fun ys hy=>by rw[I.tuple_inj hy hq];exact hx⟩,st',fun b hb=>(hf b hb).1⟩⟩
 done:=by
  intro X hP hw hK hc i pins s σ H E I hf st hg
  subst hP hw hK
  obtain⟨xs,hq,hx⟩:=hg
  obtain⟨its,rv,p,hz⟩:=I.tuple hq
  obtain⟨f0,f1,f2,f3,f4,f5⟩:=hf it (by simp)
  have hl:=rv.length
  exact wpAny_pyNext_tuple_end (I.ok.hd hc) st (show s.heap.IsTuple a its.toArray from p) (by simp;omega) fun h' eb=>⟨rfl,I.turned (t':=s.toks) (fun b o hb e=>eb b o hb e) f0 f1 f3 f4 f5⟩
 self:=fun _ _ _ _ _ st h=>wpAny_pyIter_tupleiter st h
theorem xR{P:Program}{w:World}{K:W.Frag}{tg:Expr}(it:Addr)(lo:Int)(n:Nat):Turn P w K tg (LU lo n) [it] it (fun i h=>IsRangeIter h it (lo+(i:Nat) * 1) ((n:Int) - (i:Nat)) 1) where
 mem:=by simp
 obj:=fun i h st b hb=>by
  have e:b=it:=by simpa using hb
  subst e
  exact⟨_,st,fun v z=>by
   have z':Data.fields _=Data.cell v:=z
   cases z'⟩
 keep:=fun i h h' st k=>k it (by simp) _ st
 item:=by
  intro X hP hw hK hc i pins s σ H E I hf st hg
  subst hP hw hK
  obtain⟨f0,f1,f2,f3,f4,f5⟩:=hf it (by simp)
  have W:=Walks.range (prog:=X.prog) (w:=X.w) (I.ok.hd hc) it lo 1 n
  refine W.item i s _ _ hg st fun v h' tk hv st' kk=>?_
  obtain⟨t,rfl⟩:=hv
  have I1:Inv X pins σ H { s with heap:=h',toks:=tk }:=I.turned (fun b o hb e=>kk b o (by simpa using hb) e) f0 f1 f3 f4 f5
  refine⟨_,rfl,Dd (s:={ s with heap:=h',toks:=tk }) (n:="range_iterator") st' rfl rfl (by decide) ⟨.int (lo+i),H,I1,⟨t,?_⟩,⟨rfl,rfl⟩,st',fun b hb=>(hf b hb).1⟩⟩
  rw[Int.mul_one]
 done:=by
  intro X hP hw hK hc i pins s σ H E I hf st hg
  subst hP hw hK
  obtain⟨f0,f1,f2,f3,f4,f5⟩:=hf it (by simp)
  exact wpAny_pyNext_range_end (I.ok.hd hc) st (by have:n<=i:=hg;omega) fun h' eb=>⟨rfl,I.turned (t':=s.toks) (fun b o hb e=>eb b o hb e) f0 f1 f3 f4 f5⟩
 self:=fun _ _ _ _ _ st h=>wpAny_pyIter_rangeiter st h
section
variable {X:Cx}{tg:Expr}
theorem Eg{pins:List (Addr×Obj)}{σ:St}{H:Hp}{s:Shared}{R:It->Hp->Prop}{E:Value->Shared->Prop}{lo hi:Int}{t u v:Tok}{tk:Nat}(I:Inv X pins σ H s)(h1:-(2 ^ 62)<=lo)(h2:lo < 2 ^ 62)(h3:-(2 ^ 62)<=hi)(h4:hi < 2 ^ 62)
  (q:R (LU lo (hi - lo).toNat) H):wpAny (model X.prog X.w) X.A (pyIter (.ref s.heap.objs.size)) (M9 X pins σ tg R) E { s with heap:=s.heap.push { cls:=.type "range",data:=.fields #[.int lo t,.int hi u,.int 1 v] },toks:=tk }:=by
 refine wpAny_pyIter_range (IsRange.new ..) (small_one h1 h2 h3 h4) ?_
 have I1:Inv X pins σ H { s with heap:=s.heap.push { cls:=.type "range",data:=.fields #[.int lo t,.int hi u,.int 1 v] },toks:=tk }:=I.kept fun b o e=>zV _ e
 refine⟨(s.heap.push { cls:=.type "range",data:=.fields #[.int lo t,.int hi u,.int 1 v] }).objs.size,[(s.heap.push { cls:=.type "range",data:=.fields #[.int lo t,.int hi u,.int 1 v] }).objs.size],_,_,H,rfl,
  I1.kept (t':=tk) fun b o e=>zV _ e,xR _ lo (hi - lo).toNat,?_,fun b hb=>?_,q⟩
 ·have e1:lo+((0:Nat):Int) * 1=lo:=by simp
  have e2:(((hi - lo).toNat:Nat):Int) - ((0:Nat):Int)=Builtin.Range.rangeSize lo hi 1:=by rw[rangeSize_one];split<;>omega
  show IsRangeIter _ _ (lo+((0:Nat):Int) * 1) ((((hi - lo).toNat:Nat):Int) - ((0:Nat):Int)) 1
  rw[e1,e2]
  exact zY _ rfl
 ·have e:b=(s.heap.push { cls:=.type "range",data:=.fields #[.int lo t,.int hi u,.int 1 v] }).objs.size:=by simpa using hb
  subst e
  exact I1.fpOk (Nat.le_refl _) (I1.hok.fresh (Nat.le_refl _))
def LI(ta:TA):TI:=fun σ H R=>ta σ H fun vs H1=>∃j:Int,vs=[.int j]/\-(2 ^ 62)<=j/\j < 2 ^ 62/\R (LU 0 j.toNat) H1
theorem Bb{a:Expr}{ta:TA}{p pos:Pos}(hg:Gl X "range")(hm:X.mg "range"=none)(ha:PA X [a] ta)(hs:starEach [a] X.env=[(false,eval a X.env)]:=by rfl):PI X tg (.Call (.Name "range" p) [a] [] pos) (LI ta):=by
 intro pins s σ H R I h
 refine Call_ (iN I hg hm boot_range (PyProof.Rows.callWith_type1 (bO (ha pos pins s σ H _ I h) fun us s1 ⟨vs,H1,I1,r1,q1⟩=>?_) hs rfl))
 obtain⟨j,e,q1,q2,q⟩:=q1
 subst e
 cases r1 with
 | cons r rr =>
  cases rr
  obtain⟨t,rfl⟩:=r
  exact call_range_1 (Eg I1 (by omega) (by omega) q1 q2 (by simpa using q))
def MW(wi:TI)(g:TG)(tb:TS):TS:=fun D σ H=>wi σ H fun J H1=>∃W:Nat->Nat->St->Hp->Prop,(∃m,W 0 m σ H1)/\∀i m σ H,W i m σ H ->
 (J.stop i H/\D.nx σ H)\/(J.go i H/\∃N:St->Hp->Prop,(∀σ' H',N σ' H'->∃m',m' < m/\W (i+1) m' σ' H')/\∀x H',J.yld i H x H'->g x σ H' fun σ2 H2=>tb { D with nx:=N,ct:=N,bk:=D.nx } σ2 H2)
noncomputable def md(fp:List Addr)(h:Heap):List (Addr×Obj):=fp.filterMap fun b=>(h.get? b).map fun o=>(b,o)
theorem dq{fp:List Addr}{h:Heap}{b:Addr}{o:Obj}(hb:b∈fp)(e:h.get? b=some o):(b,o)∈md fp h:=List.mem_filterMap.mpr ⟨b,hb,by rw[e];rfl⟩
theorem Ad{fp:List Addr}{h:Heap}{p:Addr×Obj}(hp:p∈md fp h):p.1∈fp/\h.get? p.1=some p.2:=by
 obtain⟨b,hb,e⟩:=List.mem_filterMap.mp hp
 cases q:h.get? b with
 | none=>rw[q] at e;cases e
 | some o =>
  rw[q] at e
  have e':(b,o)=p:=Option.some.inj e
  subst e'
  exact⟨hb,q⟩
theorem Inv.pinned{pins:List (Addr×Obj)}{σ:St}{H:Hp}{s:Shared}{fp:List Addr}(I:Inv X pins σ H s)(hf:∀b∈fp,ck X pins H b)(ho:∀b∈fp,∃o,s.heap.get? b=some o/\∀v,o.data≠.cell v):Inv X (pins++md fp s.heap) σ H s :=
 I.pins_of fun p hp=>(List.mem_append.mp hp).elim (fun z=>I.pin p (yF _ z)) fun z=>by
  obtain⟨hb,e⟩:=Ad z
  obtain⟨f0,f1,f2,_⟩:=hf p.1 hb
  obtain⟨o,e',d⟩:=ho p.1 hb
  rw[e] at e';cases e'
  exact⟨e,f0,f1,f2,d⟩
theorem Inv.unpinned{pins pl:List (Addr×Obj)}{σ:St}{H:Hp}{s:Shared}(I:Inv X (pins++pl) σ H s):Inv X pins σ H s:=I.pins_of fun p hp=>I.pin p (yF _ (List.mem_append_left _ hp))
theorem JK{iter:Expr}{body:List Stmt}{wi:TI}{g:TG}{tb:TS}{pos:Pos}(hp:PassesOwn (model X.prog X.w) X.A X.env X.xe)(hc:X.calm=true)(hi:PI X tg iter wi)(hg:PG X tg g)(hb:xJ X body tb)
  (hs:∀x,foldedSetIterable iter X.env x=pure x:=by intro _;rfl):PS X (.For tg iter body [] pos) (MW wi g tb):=by
 intro pins s σ H D I h
 refine wpAny_For (bO (hi pins s σ H _ I h) fun v s1 h1=>bO h1 fun itv s2 h2=>?_) hs
 obtain⟨it,fp,tn,J,H2,e,I2,T,st2,f2,W,⟨m0,w0⟩,turn⟩:=h2
 subst e
 have stat:∀ {H':Hp},(∀b∈fp,H' b=none)->∀b∈fp,ck X pins H' b:=fun hn b hb=>⟨hn b hb,(f2 b hb).2⟩
 refine codeAny_forLoop_any (fun n s'=>∃i σ' H',Inv X pins σ' H' s'/\tn i s'.heap/\(∀b∈fp,H' b=none)/\W i n σ' H') ?_ m0 ⟨0,σ,H2,I2,st2,fun b hb=>(f2 b hb).1,w0⟩
 rintro n s3 ⟨i,σ3,H3,I3,st3,fr3,w3⟩
 rcases turn i n σ3 H3 w3 with ⟨stop,qn⟩|⟨go,N,hN,step⟩
 ·refine wpAny_passesOwn hp (bO (T.done X rfl rfl rfl hc i pins s3 σ3 H3 X.xe I3 (stat fr3) st3 stop) fun r s4 ⟨hr,I4⟩=>?_)
  subst hr
  exact wpAny_execs_nil ⟨σ3,H3,I4,qn⟩
 ·refine wpAny_passesOwn hp (bO (T.item X rfl rfl rfl hc i pins s3 σ3 H3 X.xe I3 (stat fr3) st3 go) fun r s4 ⟨u,hr,h4⟩=>?_)
  subst hr
  refine wpAny_passesOwn hp (bO h4 fun _ s5 ⟨x,H5,I5,r5,y5,st5,fr5⟩=>?_)
  have I5':=I5.pinned (stat fr5) (T.obj _ _ st5)
  refine wpAny_passesOwn hp (bO (hg _ s5 σ3 H5 x u _ I5' r5 (step x H5 y5)) fun _ s6 ⟨σ6,H6,I6,q6⟩=>?_)
  refine wpAny_passesOwn hp (bO (hb _ s6 σ6 H6 _ I6 q6) fun f s7 q7=>?_)
  have again:∀ {σ7:St}{H7:Hp},Inv X (pins++md fp s5.heap) σ7 H7 s7->N σ7 H7->∃m,m < n/\∃i σ' H',Inv X pins σ' H' s7/\tn i s7.heap/\(∀b∈fp,H' b=none)/\W i m σ' H':=fun {σ7 H7} I7 n7=>by
   obtain⟨m',hm,w7⟩:=hN σ7 H7 n7
   refine⟨m',hm,i+1,σ7,H7,I7.unpinned,T.keep _ _ _ st5 fun b hb o e=>(I7.pin (b,o) (yF _ (yF _ (dq hb e)))).1,fun b hb=>?_,w7⟩
   obtain⟨o,e,d⟩:=T.obj _ _ st5 b hb
   exact (I7.pin (b,o) (yF _ (yF _ (dq hb e)))).2.1
  cases f with
  | next=>obtain⟨σ7,H7,I7,n7⟩:=q7;exact again I7 n7
  | cont=>obtain⟨σ7,H7,I7,n7⟩:=q7;exact again I7 n7
  | brk=>obtain⟨σ7,H7,I7,q7⟩:=q7;exact⟨σ7,H7,I7.unpinned,q7⟩
  | ret v=>obtain⟨x7,σ7,H7,I7,r7,q7⟩:=q7;exact⟨x7,σ7,H7,I7.unpinned,r7,q7⟩
end
noncomputable abbrev R2:=V->V->Hp->VK->Prop
noncomputable def gD(X:Cx)(f:Value->Value->Sem Value)(r:R2):Prop :=
 ∀ (pins:List (Addr×Obj)) (s:Shared) (σ:St) (H:Hp) (x y:V) (v u:Value) (Q:VK),Inv X pins σ H s->RelV x v->RelV y u->r x y H Q ->
  wpAny (model X.prog X.w) X.A (f v u) (EP X pins σ Q) X.xe s
noncomputable def Mj(X:Cx)(f:Value->Sem Value)(r:V->Hp->VK->Prop):Prop :=
 ∀ (pins:List (Addr×Obj)) (s:Shared) (σ:St) (H:Hp) (x:V) (v:Value) (Q:VK),Inv X pins σ H s->RelV x v->r x H Q ->
  wpAny (model X.prog X.w) X.A (f v) (EP X pins σ Q) X.xe s
noncomputable def dw(X:Cx)(f:Value)(r:List V->Hp->VK->Prop):Prop :=
 ∀ (pins:List (Addr×Obj)) (s:Shared) (σ:St) (H:Hp) (xs:List V) (us:List Value) (Q:VK),Inv X pins σ H s->az xs us->r xs H Q ->
  wpAny (model X.prog X.w) X.A (call f us) (EP X pins σ Q) X.xe s
def Lm(r:R2)(ta tb:TE):TE:=fun σ H Q=>ta σ H fun x H1=>tb σ H1 fun y H2=>r x y H2 Q
def NA(r:V->Hp->VK->Prop)(ta:TE):TE:=fun σ H Q=>ta σ H fun x H1=>r x H1 Q
def rI(C:Int->Int->Prop)(g:Int->Int->V):R2:=fun x y H Q=>∃i j,x=.int i/\y=.int j/\C i j/\Q (g i j) H
def EM(g:Int->Int->V):R2:=fun x y H Q=>∃i j,x=.int i/\y=.int j/\Q (g i j) H
noncomputable def rU(g:Int->V):V->Hp->VK->Prop:=fun x H Q=>∃i,x=.int i/\Q (g i) H
section
variable {X:Cx}{a b c:Expr}{ta tb tc:TE}{pos:Pos}
theorem JP(ha:PE X a ta)(hb:PE X b tb){pins:List (Addr×Obj)}{s:Shared}{σ:St}{H:Hp}{R:V->V->Hp->Prop}(I:Inv X pins σ H s)
  (h:ta σ H fun x H1=>tb σ H1 fun y H2=>R x y H2) {Q:Value->Shared->Prop}{f:Value->Value->Sem Value}
  (hf:∀v u s2 x y H2,Inv X pins σ H2 s2->RelV x v->RelV y u->R x y H2->wpAny (model X.prog X.w) X.A (f v u) Q X.xe s2) :
  wpAny (model X.prog X.w) X.A (eval a X.env) (fun v s₁=>wpAny (model X.prog X.w) X.A (eval b X.env) (fun u s₂=>wpAny (model X.prog X.w) X.A (f v u) Q X.xe s₂) X.xe s₁) X.xe s:=by
 refine bO (ha pins s σ H _ I h) fun v s1 ⟨x,H1,I1,r1,q1⟩=>?_
 refine bO (hb pins s1 σ H1 _ I1 q1) fun u s2 ⟨y,H2,I2,r2,q2⟩=>?_
 exact hf v u s2 x y H2 I2 r1 r2 q2
theorem BD{op:Operator}{r:R2}(ho:gD X (binaryOp op) r)(ha:PE X a ta)(hb:PE X b tb):PE X (.BinOp a op b pos) (Lm r ta tb):=by
 intro pins s σ H Q I h
 exact wpAny_BinOp (JP ha hb I h fun v u s2 x y H2 I2 rx ry q=>ho pins s2 σ H2 x y v u Q I2 rx ry q)
theorem B7{op:UnaryOp}{r:V->Hp->VK->Prop}(ho:Mj X (unaryOp op) r)(ha:PE X a ta):PE X (.UnaryOp op a pos) (NA r ta):=by
 intro pins s σ H Q I h
 exact UnaryOp_ (bO (ha pins s σ H _ I h) fun v s1 ⟨x,H1,I1,r1,q1⟩=>ho pins s1 σ H1 x v Q I1 r1 q1)
theorem MI{f:Value->Value->Sem Value}{C:Int->Int->Prop}{g:Int->Int->Int}
  (rule:∀ (i j:Int) (t u:Tok) (s:Shared) (Q:Value->Shared->Prop) (E:Value->Shared->Prop),C i j->Q (.int (g i j) s.toks) { s with toks:=s.toks+1 }->wpAny (model X.prog X.w) X.A (f (.int i t) (.int j u)) Q E s) :
  gD X f (rI C fun i j=>.int (g i j)):=by
 intro pins s σ H x y v u Q I rx ry h
 obtain⟨i,j,rfl,rfl,hc,q⟩:=h
 obtain⟨t,rfl⟩:=rx
 obtain⟨t',rfl⟩:=ry
 exact rule i j t t' s _ _ hc ⟨.int (g i j),H,I.tok _,⟨_,rfl⟩,q⟩
theorem KE{f:Value->Value->Sem Value}{g:Int->Int->Int}
  (rule:∀ (i j:Int) (t u:Tok) (s:Shared) (Q:Value->Shared->Prop) (E:Value->Shared->Prop),Q (.int (g i j) s.toks) { s with toks:=s.toks+1 }->wpAny (model X.prog X.w) X.A (f (.int i t) (.int j u)) Q E s) :
  gD X f (EM fun i j=>.int (g i j)):=by
 intro pins s σ H x y v u Q I rx ry h
 obtain⟨i,j,rfl,rfl,q⟩:=h
 obtain⟨t,rfl⟩:=rx
 obtain⟨t',rfl⟩:=ry
 exact rule i j t t' s _ _ ⟨.int (g i j),H,I.tok _,⟨_,rfl⟩,q⟩
theorem FU{f:Value->Value->Sem Value}{g:Int->Int->Bool}
  (rule:∀ (i j:Int) (t u:Tok) (s:Shared) (Q:Value->Shared->Prop) (E:Value->Shared->Prop),Q (.bool (g i j)) s->wpAny (model X.prog X.w) X.A (f (.int i t) (.int j u)) Q E s) :
  gD X f (EM fun i j=>.bl (g i j)):=by
 intro pins s σ H x y v u Q I rx ry h
 obtain⟨i,j,rfl,rfl,q⟩:=h
 obtain⟨t,rfl⟩:=rx
 obtain⟨t',rfl⟩:=ry
 exact rule i j t t' s _ _ ⟨.bl (g i j),H,I,rfl,q⟩
def Gq(i j:Int):Prop:=0 < j/\j < 1073741824
def tH(i j:Int):Prop:=(-(2 ^ 64) < i/\i < 2 ^ 64)\/(-(2 ^ 64) < j/\j < 2 ^ 64)
theorem tH.ok{i j:Int}(h:tH i j):IntMulOk i j:=by
 rcases h with ⟨h1,h2⟩|⟨h1,h2⟩
 ·exact .of_left (intBits_le_64 h1 h2)
 ·exact .of_right (intBits_le_64 h1 h2)
theorem JF:gD X (binaryOp .Add) (EM fun i j=>.int (i+j)):=KE fun _ _ _ _ _ _ _ q=>add_int q
theorem Jf:gD X (binaryOp .Sub) (EM fun i j=>.int (i - j)):=KE fun _ _ _ _ _ _ _ q=>sub_int q
theorem Kq:gD X (binaryOp .Mult) (rI tH fun i j=>.int (i * j)):=MI fun _ _ _ _ _ _ _ hc q=>mul_int q hc.ok
theorem Ff:gD X (binaryOp .FloorDiv) (rI Gq fun i j=>.int (i / j)):=MI fun i j _ _ _ _ _ hc q=>by
 have h1:(0:Int) < j:=hc.1
 have h2:j < 1073741824:=hc.2
 exact floordiv_int (by omega) (by rw[Int.fdiv_eq_ediv_of_nonneg i (by omega)];exact q) (.inl (PyProof.noPylong_small (by omega)))
theorem Iu:gD X (binaryOp .Mod) (rI (fun _ j=>0 < j) fun i j=>.int (i % j)):=MI fun i j _ _ _ _ _ hc q=>by
 have h1:(0:Int) < j:=hc
 exact mod_int' (by omega) (by rw[Int.fmod_eq_emod_of_nonneg i (by omega)];exact q)
theorem Nv{f:Value->Sem Value}{g:Int->Int}
  (rule:∀ (i:Int) (t:Tok) (s:Shared) (Q:Value->Shared->Prop) (E:Value->Shared->Prop),Q (.int (g i) s.toks) { s with toks:=s.toks+1 }->wpAny (model X.prog X.w) X.A (f (.int i t)) Q E s) :
  Mj X f (rU fun i=>.int (g i)):=by
 intro pins s σ H x v Q I rx h
 obtain⟨i,rfl,q⟩:=h
 obtain⟨t,rfl⟩:=rx
 exact rule i t s _ _ ⟨.int (g i),H,I.tok _,⟨_,rfl⟩,q⟩
theorem xW:Mj X (unaryOp .USub) (rU fun i=>.int (-i)):=Nv fun _ _ _ _ _ q=>neg_int q
end
section
variable {X:Cx}{a b c:Expr}{ta tb tc:TE}{pos:Pos}
theorem Co{pins:List (Addr×Obj)}{σ:St}{H:Hp}{s:Shared}{Q:VK}{k k':Bool}(I:Inv X pins σ H s)(q:Q (.bl k) H)(e:k=k'):EP X pins σ Q (.bool k') s:=by
 subst e
 exact⟨.bl k,H,I,rfl,q⟩
theorem CS:gD X (compareOp .Lt) (EM fun i j=>.bl (decide (i < j))):=FU fun _ _ _ _ _ _ _ q=>lt_int q
theorem EF:gD X (compareOp .LtE) (EM fun i j=>.bl (decide (i<=j))):=FU fun _ _ _ _ _ _ _ q=>le_int q
theorem Hm:gD X (compareOp .Gt) (EM fun i j=>.bl (decide (j < i))):=FU fun _ _ _ _ _ _ _ q=>gt_int q
theorem Hg:gD X (compareOp .GtE) (EM fun i j=>.bl (decide (j<=i))):=FU fun _ _ _ _ _ _ _ q=>ge_int q
theorem Cf:gD X (compareOp .Is) (fun x y H Q=>y=.non/\Q (.bl (decide (x=.non))) H):=by
 intro pins s σ H x y v u Q I rx ry h
 obtain⟨rfl,q⟩:=h
 cases ry
 refine is_none_gen (Co I q ?_)
 cases x<;>first
  | (cases rx;rfl)
  | (obtain⟨t,rfl⟩:=rx;rfl)
theorem zy:gD X (compareOp .IsNot) (fun x y H Q=>y=.non/\Q (.bl (!decide (x=.non))) H):=by
 intro pins s σ H x y v u Q I rx ry h
 obtain⟨rfl,q⟩:=h
 cases ry
 refine isnot_none_gen (Co I q ?_)
 cases x<;>first
  | (cases rx;rfl)
  | (obtain⟨t,rfl⟩:=rx;rfl)
theorem gD.or{f:Value->Value->Sem Value}{r r':R2}(h:gD X f r)(h':gD X f r'):gD X f (fun x y H Q=>r x y H Q\/r' x y H Q):=by
 intro pins s σ H x y v u Q I rx ry q
 rcases q with q|q
 ·exact h pins s σ H x y v u Q I rx ry q
 ·exact h' pins s σ H x y v u Q I rx ry q
theorem cO(b:Expr){op:CmpOp}(h:op≠.In:=by decide)(h2:op≠.NotIn:=by decide):behindInMarks op b=false:=by
 have e1:(op == CmpOp.In)=false:=by cases op<;>first|rfl|exact absurd rfl h
 have e2:(op == CmpOp.NotIn)=false:=by cases op<;>first|rfl|exact absurd rfl h2
 cases b<;>simp[behindInMarks,e1,e2]
theorem Gn{op:CmpOp}{r:R2}(ho:gD X (compareOp op) r)(ha:PE X a ta)(hb:PE X b tb)(hm:behindInMarks op b=false):PE X (.Compare a [op] [b] pos) (Lm r ta tb):=by
 intro pins s σ H Q I h
 exact wpAny_Compare1 (JP ha hb I h fun v u s2 x y H2 I2 rx ry q=>ho pins s2 σ H2 x y v u Q I2 rx ry q) hm
def He(t:TE):TT:=fun σ H Q=>t σ H fun x H'=>∃k,x=.bl k/\Q k H'
theorem Gy{op:CmpOp}{r:R2}(ho:gD X (compareOp op) r)(ha:PE X a ta)(hb:PE X b tb)(hm:behindInMarks op b=false):PT X (.Compare a [op] [b] pos) (He (Lm r ta tb)):=by
 intro pins s σ H Q I h
 refine wpAny_isTrue_Compare1 (bO (ha pins s σ H _ I h) fun v s1 ⟨x,H1,I1,r1,q1⟩=>bO (hb pins s1 σ H1 _ I1 q1) fun u s2 ⟨y,H2,I2,r2,q2⟩ =>
  bO (ho pins s2 σ H2 x y v u _ I2 r1 r2 q2) fun c s3 ⟨z,H3,I3,r3,k,e,q3⟩=>?_) hm
 subst e
 cases r3
 exact wpAny_truthy_bool ⟨H3,I3,q3⟩
def xp(r r':R2)(ta tb tc:TE):TE:=fun σ H Q=>ta σ H fun x H1=>tb σ H1 fun y H2=>r x y H2 fun z H3=>∃k,z=.bl k /\
 (if k=true then tc σ H3 fun w' H4=>r' y w' H4 Q else Q (.bl false) H3)
theorem BW{op op':CmpOp}{r r':R2}(ho:gD X (compareOp op) r)(ho':gD X (compareOp op') r')(ha:PE X a ta)(hb:PE X b tb)(hc:PE X c tc)
  (hm:lastMarks [op,op'] [b,c]=false:=by with_unfolding_all rfl):PE X (.Compare a [op,op'] [b,c] pos) (xp r r' ta tb tc):=by
 intro pins s σ H Q I h
 refine Compare_chain (bO (ha pins s σ H _ I h) fun v s1 ⟨x,H1,I1,r1,q1⟩=>chain_link (bO (hb pins s1 σ H1 _ I1 q1) fun u s2 ⟨y,H2,I2,r2,q2⟩ =>
  bO (ho pins s2 σ H2 x y v u _ I2 r1 r2 q2) fun d s3 ⟨z,H3,I3,r3,k,e,q3⟩=>?_)) hm
 subst e
 cases r3
 refine wpAny_truthy_bool ?_
 cases k with
 | false=>exact ite_ff ⟨.bl false,H3,I3,rfl,q3⟩
 | true=>exact ite_tt (chain_last (bO (hc pins s3 σ H3 _ I3 q3) fun w' s4 ⟨z',H4,I4,r4,q4⟩=>ho' pins s4 σ H4 y z' u w' Q I4 r2 r4 q4))
theorem Dq{op op':CmpOp}{r r':R2}(ho:gD X (compareOp op) r)(ho':gD X (compareOp op') r')(ha:PE X a ta)(hb:PE X b tb)(hc:PE X c tc)
  (hm:lastMarks [op,op'] [b,c]=false:=by with_unfolding_all rfl):PT X (.Compare a [op,op'] [b,c] pos) (He (xp r r' ta tb tc)):=by
 intro pins s σ H Q I h
 refine isTrue_chain (bO (ha pins s σ H _ I h) fun v s1 ⟨x,H1,I1,r1,q1⟩=>test_link (bO (hb pins s1 σ H1 _ I1 q1) fun u s2 ⟨y,H2,I2,r2,q2⟩ =>
  bO (ho pins s2 σ H2 x y v u _ I2 r1 r2 q2) fun d s3 ⟨z,H3,I3,r3,k,e,q3⟩=>?_)) hm
 subst e
 cases r3
 refine wpAny_truthy_bool ?_
 cases k with
 | false =>
  obtain⟨k',e',q'⟩:=q3
  cases e'
  exact ite_ff ⟨H3,I3,q'⟩
 | true =>
  refine ite_tt (test_last (bO (hc pins s3 σ H3 _ I3 q3) fun w' s4 ⟨z',H4,I4,r4,q4⟩=>bO (ho' pins s4 σ H4 y z' u w' _ I4 r2 r4 q4) fun d' s5 ⟨z2,H5,I5,r5,k2,e2,q5⟩=>?_))
  subst e2
  cases r5
  exact wpAny_truthy_bool ⟨H5,I5,q5⟩
theorem oq:(sizeLine:Nat) < 2 ^ 63:=by rw[sizeLine_eq];decide
theorem vals1{x:V}{us:List Value}(r:az [x] us):∃u,us=[u]/\RelV x u:=by
 cases r with
 | cons r1 r2=>cases r2;exact⟨_,rfl,r1⟩
theorem vals2{x y:V}{us:List Value}(r:az [x,y] us):∃u w',us=[u,w']/\RelV x u/\RelV y w':=by
 cases r with
 | cons r1 r2 =>
  cases r2 with
  | cons r3 r4=>cases r4;exact⟨_,_,rfl,r1,r3⟩
theorem A9:dw X (.type "int") (fun xs H Q=>(∃i,xs=[.int i]/\Q (.int i) H)\/∃k,xs=[.bl k]/\Q (.int (if k then 1 else 0)) H):=by
 intro pins s σ H xs us Q I r h
 rcases h with ⟨i,rfl,q⟩|⟨k,rfl,q⟩
 ·obtain⟨u,rfl,t,rfl⟩:=vals1 r
  exact call_int_int ⟨.int i,H,I,⟨_,rfl⟩,q⟩
 ·obtain⟨u,rfl,r1⟩:=vals1 r
  cases r1
  exact call_int_bool ⟨.int (if k then 1 else 0),H,I.tok _,⟨_,rfl⟩,q⟩
end
section
variable {prog:Program}{w:World}{A:Around}{E:Value->Shared->Prop}{s:Shared}{K:W.Frag}{x dx C f:Addr}{mA:Str->Option Value}{name:Str}{v:Value}
end
section
variable {P:Program}{w:World}{H H':Hp}{h h':Heap}{a C dx:Addr}{fs fs':List (Str×V)}
end
section
variable {X:Cx}{pins:List (Addr×Obj)}{σ:St}{H:Hp}{s:Shared}{a C dx:Addr}{fs:List (Str×V)}{f:Str}{v:V}{A:Around}{E:Value->Shared->Prop}
end
section
variable {X:Cx}{o e value:Expr}{f:Str}{pos pos' tpos:Pos}{ta tv:TE}
end
section
variable {X:Cx}{pins:List (Addr×Obj)}{σ:St}{H:Hp}{s:Shared}{A:Around}{E:Value->Shared->Prop}{Q:Value->Shared->Prop}{c:Value}{b:Bool}
end
structure dS(k:Nat)(A:Around):Prop where
 hd:A.handled=none
 dp:A.depth+3 * k+5 < recursionLimit
 un:A.units+16 * k+200 < cLine
theorem dS.mono{j k:Nat}{A:Around}(r:dS k A)(h:j<=k):dS j A:=⟨r.hd,by have:=r.dp;omega,by have:=r.un;omega⟩
theorem dS.deeper{k:Nat}{A:Around}(r:dS (k+1) A)(env:Env):dS k (A.deeper env) :=
 ⟨r.hd,by have:=r.dp;show A.depth+1+3 * k+5 < _;omega,by have:=r.un;show A.units+3+16 * k+200 < _;omega⟩
theorem dS.in1{k:Nat}{A:Around}(r:dS (k+1) A):dS k A.in1 :=
 ⟨r.hd,by have:=r.dp;show A.depth+3 * k+5 < _;omega,by have:=r.un;show A.units+1+16 * k+200 < _;omega⟩
theorem dS.depth{k:Nat}{A:Around}(r:dS k A):A.depth < recursionLimit:=by have:=r.dp;omega
theorem dS.units{k:Nat}{A:Around}(r:dS k A):A.units+64 < cLine:=by have:=r.un;omega
theorem dS.units0{k:Nat}{A:Around}(r:dS k A):A.units < cLine:=by have:=r.un;omega
def Mm:TA:=fun _ H Q=>Q [] H
def K9(ta:TE)(tr:TA):TA:=fun σ H Q=>ta σ H fun x H1=>tr σ H1 fun xs H2=>Q (x::xs) H2
section
variable {X:Cx}{e:Expr}{es:List Expr}{te:TE}{t:TA}{pos:Pos}
theorem d5:PA X [] Mm:=fun _ _ _ _ H Q I h=>Calls.spliced_nil ⟨[],H,I,.nil,h⟩
theorem bS(ha:PE X e te)(hr:PA X es t)(hs:starEach (e::es) X.env=(false,eval e X.env)::starEach es X.env:=by rfl):PA X (e::es) (K9 te t):=by
 intro pos pins s σ H Q I h
 rw[hs]
 show wpAny _ _ (spliced ((false,eval e X.env)::backTo pos (starEach es X.env))) _ _ s
 refine Calls.spliced_cons (bO (ha pins s σ H _ I h) fun u s1 ⟨x,H1,I1,r1,q1⟩=>?_)
 exact bO (hr pos pins s1 σ H1 _ I1 q1) fun us s2 ⟨xs,H2,I2,r2,q2⟩=>⟨x::xs,H2,I2,.cons r1 r2,q2⟩
def Mr(t:TA):TE:=fun σ H Q=>t σ H fun xs H1=>xs.length<=sizeLine/\∀p,H1 p=none->Q (.ref p) (upd H1 p (.tup xs))
def Mu(t:TA):TE:=fun σ H Q=>t σ H fun xs H1=>xs.length<=sizeLine/\∀p,H1 p=none->Q (.ref p) (upd H1 p (.lst xs))
theorem Ka{x1}(h:PA X es t):PE X (.Tuple es x1 pos) (Mr t):=by
 intro pins s σ H Q I hq
 refine wpAny_Tuple_spliced (bO (h pos pins s σ H _ I hq) fun us s1 ⟨xs,H1,I1,r,z,q⟩=>⟨by rw[<- r.length];exact z,?_⟩)
 have hf:H1 s1.heap.objs.size=none:=I1.hok.fresh (Nat.le_refl _)
 refine⟨.ref s1.heap.objs.size,upd H1 s1.heap.objs.size (.tup xs),I1.laid (t':=s1.toks) (fun b u e=>zV _ e) (Nat.le_refl _) ?_,rfl,q _ hf⟩
 exact⟨z,us,r,⟨_,zY _ rfl,rfl,_,rfl⟩,_,zY _ rfl,rfl⟩
theorem Dz(h:PA X es t):PE X (.List es pos) (Mu t):=by
 intro pins s σ H Q I hq
 refine wpAny_List_spliced (bO (h pos pins s σ H _ I hq) fun us s1 ⟨xs,H1,I1,r,z,q⟩=>⟨by rw[<- r.length];exact z,?_⟩)
 have hf:H1 s1.heap.objs.size=none:=I1.hok.fresh (Nat.le_refl _)
 refine⟨.ref s1.heap.objs.size,upd H1 s1.heap.objs.size (.lst xs),I1.laid (t':=s1.toks) (fun b u e=>zV _ e) (Nat.le_refl _) ?_,rfl,q _ hf⟩
 exact⟨z,us,0,r,zY _ rfl⟩
end
noncomputable abbrev Sp:=List V->Hp->VK->XK->Prop
noncomputable abbrev Bw:=List Env->Hp->Shared->XK->Value->Shared->Prop
structure GU(P:Program)(w:World)(K:W.Frag)(mg:Str->Option Value)(base:Heap)(A:Around)(outer:List Env)(s:Shared)(H:Hp):Prop where
 frames:A.frames=some outer
 mod:Mod K mg base
 bs:∀b o,base.get? b=some o->s.heap.get? b=some o/\H b=none
 bsz:base.objs.size<=s.heap.objs.size
 funs:s.heap.FunFrames base outer
 frf:∀b∈C5 outer,H b=none
 hok:nM P w H s.heap
 bare:AllBare s.gens
noncomputable def CE(outer:List Env)(P:Program)(w:World)(H:Hp)(s:Shared)(Q:VK)(u:Value)(s':Shared):Prop :=
 ∃v H',s'.os=s.os/\AllBare s'.gens/\Un (C5 outer) [] H H' s.heap s'.heap/\nM P w H' s'.heap/\RelV v u/\Q v H'
noncomputable def CR(CX:Bw)(outer:List Env)(P:Program)(w:World)(H:Hp)(s:Shared)(Q:VK)(E:XK)(r:Result)(s':Shared):Prop :=
 match r with
 | .ok (.ret u)=>CE outer P w H s Q u s'
 | .ok _=>False
 | .error e=>CX outer H s E e s'
structure nh(P:Program)(w:World)(K:W.Frag)(mg:Str->Option Value)(base:Heap)(CX:Bw)(k:Nat)(f:Addr)(fd:FuncData)(ps:List Str)(sp:Sp):Prop where
 len:∀vs H Q E,sp vs H Q E->vs.length=ps.length
 run:∀ (A:Around) (outer:List Env) (s:Shared) (H:Hp) (args:Args) (us:List Value) (vs:List V) (Q:VK) (E:XK),dS k A->GU P w K mg base A outer s H->BindsTo s fd args (ps.zip us)->az vs us->sp vs H Q E ->
  codeAny (model P w) A (.call (.ref f) args) (CR CX outer P w H s Q E) s
theorem nh.mono{P:Program}{w:World}{K:W.Frag}{mg:Str->Option Value}{base:Heap}{CX:Bw}{j k:Nat}{f:Addr}{fd:FuncData}{ps:List Str}{sp:Sp}(F:nh P w K mg base CX j f fd ps sp)(h:j<=k) :
  nh P w K mg base CX k f fd ps sp:=⟨F.len,fun A outer s H args us vs Q E hr=>F.run A outer s H args us vs Q E (hr.mono h)⟩
section
variable {X:Cx}{pins:List (Addr×Obj)}{σ:St}{H:Hp}{s s':Shared}
theorem Inv.env0(I:Inv X pins σ H s):GU X.prog X.w X.K X.mg X.base X.A X.stack s H :=
 ⟨I.ok.frames,I.ok.mod,I.bs,yE I.ok.bsz I.sz,I.stack,I.stkFree,I.hok,I.bare⟩
theorem Inv.after{Q:VK}{u:Value}(I:Inv X pins σ H s)(h:CE X.stack X.prog X.w H s Q u s'):EP X pins σ Q u s':=by
 obtain⟨v,H',os,bare,un,hok,r,q⟩:=h
 obtain⟨hh,g,d,t,os'⟩:=s'
 obtain rfl:os'=s.os:=os
 exact⟨v,H',I.call (h':=hh) (g':=g) (d':=d) (t':=t) (ch:=[]) un hok bare (fun b z=>absurd z (by simp)),r,q⟩
end
def KW(sp:Sp)(dvs:List V)(E:XK)(t:TA):TE:=fun σ H Q=>t σ H fun vs H1=>sp (vs++dvs) H1 Q E
noncomputable def Binds(K:W.Frag)(fd:FuncData)(ps:List Str)(ds:List Value):Prop :=
 ∀ (s:Shared) (us:List Value),K.In s.heap->(us++ds).length=ps.length->BindsTo s fd ⟨us,[]⟩ (ps.zip (us++ds))
theorem Binds.all{K:W.Frag}{fd:FuncData}{ps:List Str}(h:∀us:List Value,us.length=ps.length->bindArgs fd ⟨us,[]⟩=pure (ps.zip us)):Binds K fd ps []:=fun s us _ hl=>by
 rw[List.append_nil] at hl ⊢
 exact .of_eq (h us hl)
def xt(CX:Bw)(X:Cx)(E:XK):Prop:=∀ (pins:List (Addr×Obj)) (σ:St) (H:Hp) (s:Shared) (e:Value) (s':Shared),Inv X pins σ H s->CX X.stack H s E e s'->X.xe e s'
section
variable {X:Cx}{CX:Bw}{k:Nat}{f C:Addr}{fd:FuncData}{ps:List Str}{sp:Sp}{dvs:List V}{ds:List Value}{E:XK}{x m:Str}{p pos apos:Pos}{e o:Expr}{es:List Expr}{ta:TE}{t:TA}
theorem EI{pins:List (Addr×Obj)}{σ:St}{H:Hp}{s:Shared}{Q:VK}{us:List Value}{vs:List V}(F:nh X.prog X.w X.K X.mg X.base CX k f fd ps sp)(hr:dS k X.A)(hb:Binds X.K fd ps ds)(hd:az dvs ds)(hx:xt CX X E)
  (I:Inv X pins σ H s) (r:az vs us) (h:sp (vs++dvs) H Q E):wpAny (model X.prog X.w) X.A (call (.ref f) us) (EP X pins σ Q) X.xe s:=by
 have r2:az (vs++dvs) (us++ds):=r.append hd
 have hl:(us++ds).length=ps.length:=by rw[<- r2.length];exact F.len _ _ _ _ h
 refine wpAny_call (codeAny_mono (F.run X.A X.stack s H ⟨us,[]⟩ (us++ds) (vs++dvs) Q E hr I.env0 (hb s us I.kIn hl) r2 h) fun r s' hq=>?_)
 cases r with
 | error e=>exact hx pins σ H s e s' I hq
 | ok fl =>
  cases fl with
  | ret u=>exact I.after hq
  | next=>exact False.elim hq
  | brk=>exact False.elim hq
  | cont=>exact False.elim hq
theorem Gd(F:nh X.prog X.w X.K X.mg X.base CX k f fd ps sp)(hr:dS k X.A)(hg:Gl X x)(hm:X.mg x=some (.ref f))(hk:W.keepIn X.K (.ref f)=true)(hb:Binds X.K fd ps ds)(hd:az dvs ds)(hx:xt CX X E)
  (ha:PA X (e::es) t) (hdb:(x == ("__debug__":Str))=false:=by decide) (he:starEach (e::es) X.env=(false,eval e X.env)::starEach es X.env:=by rfl) (hpl:(backTo pos (starEach es X.env)).any (·.1)=false:=by rfl) :
  PE X (.Call (.Name x p) (e::es) [] pos) (KW sp dvs E t):=by
 intro pins s σ H Q I h
 refine wpAny_Call_Name_kw (zm I hg hm ?_ hdb)
 refine W.callWith_K (h₀:=X.base) I.ok.mod.kin hk (bO (ha pos pins s σ H _ I h) fun us s1 ⟨vs,H1,I1,r,q⟩=>⟨I1.kIn,?_⟩) he hpl
 exact EI F hr hb hd hx I1 r q
end
section
variable {X:Cx}{CX:Bw}{k:Nat}{f C:Addr}{fd:FuncData}{ps ks:List Str}{sp:Sp}{E:XK}{x m:Str}{p pos apos kpos:Pos}{e o:Expr}{es:List Expr}{kws:List Keyword}{te ta:TE}{t tk:TA}{nm:Option Str}
variable {g:List Value->List Value->List Value}{gV:List V->List V->List V}
end
structure fg(N P:List Str)(sc:Scope):Prop where
 kind:sc.kind=.function
 co:sc.isCoroutine=false
 gen:sc.isGenerator=false
 nd:N.Nodup
 pre:N.take P.length=P
 par:∀x∈P,sc.names.lookup x=some .local \/ sc.names.lookup x=some .cell
 nofree:∀y∈sc.names,y.2≠.free
theorem qS{kindOf:Str->Option NameKind}{x:Str}:∀ {binds:List (Str×Value)}{m:Str->Option Value},(∀v,(x,v)∉binds)->bindL kindOf binds m x=m x
 | [],_,_=>rfl
 | (n,v)::r,m,h=>by
  unfold bindL
  rw[qS fun w hw=>h w (zC _ hw)]
  split
  ·have:x≠n:=by rintro rfl;exact h v zE
   simp[this]
  ·rfl
theorem rN{kindOf:Str->Option NameKind}{x:Str}:∀ {binds:List (Str×Value)}{m:Str->Option Value},(∀v,(x,v)∉binds)->bindC kindOf binds m x=m x
 | [],_,_=>rfl
 | (n,v)::r,m,h=>by
  unfold bindC
  rw[rN fun w hw=>h w (zC _ hw)]
  split
  ·rfl
  ·have:x≠n:=by rintro rfl;exact h v zE
   simp[this]
theorem qY{kindOf:Str->Option NameKind}{x:Str}{v:Value}:∀ {P:List Str}{vs:List Value}{i:Nat}{m:Str->Option Value},P.Nodup->P[i]?=some x->vs[i]?=some v->kindOf x=some .local ->
  bindL kindOf (P.zip vs) m x=some v
 | [],_,_,_,_,h,_,_=>by simp at h
 | _::_,[],_,_,_,_,h,_=>by simp at h
 | p::P,w::vs,0,m,nd,h1,h2,hk=>by
  simp at h1 h2;subst h1;subst h2
  show bindL kindOf ((p,w)::P.zip vs) m p=_
  unfold bindL
  rw[qS fun v hv=>(List.nodup_cons.mp nd).1 (List.of_mem_zip hv).1,if_pos hk]
  simp
 | p::P,w::vs,i+1,m,nd,h1,h2,hk=>by
  show bindL kindOf ((p,w)::P.zip vs) m x=_
  unfold bindL
  exact qY (i:=i) (List.nodup_cons.mp nd).2 (by simpa using h1) (by simpa using h2) hk
theorem rG{kindOf:Str->Option NameKind}{x:Str}{v:Value}:∀ {P:List Str}{vs:List Value}{i:Nat}{m:Str->Option Value},P.Nodup->P[i]?=some x->vs[i]?=some v->kindOf x≠some .local ->
  bindC kindOf (P.zip vs) m x=some v
 | [],_,_,_,_,h,_,_=>by simp at h
 | _::_,[],_,_,_,_,h,_=>by simp at h
 | p::P,w::vs,0,m,nd,h1,h2,hk=>by
  simp at h1 h2;subst h1;subst h2
  show bindC kindOf ((p,w)::P.zip vs) m p=_
  unfold bindC
  rw[rN fun v hv=>(List.nodup_cons.mp nd).1 (List.of_mem_zip hv).1,if_neg hk]
  simp
 | p::P,w::vs,i+1,m,nd,h1,h2,hk=>by
  show bindC kindOf ((p,w)::P.zip vs) m x=_
  unfold bindC
  exact rG (i:=i) (List.nodup_cons.mp nd).2 (by simpa using h1) (by simpa using h2) hk
noncomputable def start(N:List Str)(vs:List V):St:=vs.map some++List.replicate (N.length - vs.length) none
noncomputable def AC(CX:Bw)(P:Program)(w:World)(K:W.Frag)(mg:Str->Option Value)(base:Heap)(N:List Str)(qual:Str)(scope:Scope)(f:Addr)(cd:Value)(A:Around)(outer:List Env)(s:Shared)(H:Hp)(E:XK):Cx where
 prog:=P
 w:=w
 K:=K
 mg:=mg
 base:=base
 A:=A.deeper (envOfC qual scope s.heap.objs.size f cd)
 N:=N
 s₀:=s
 H₀:=H
 env:=envOfC qual scope s.heap.objs.size f cd
 outer:=outer
 stack:=envOfC qual scope s.heap.objs.size f cd::outer
 ex:=[]
 calm:=true
 fn:=fun _=>true
 pn:=[]
 xe:=fun e s'=>wpAny (model P w) (A.deeper (envOfC qual scope s.heap.objs.size f cd)) (leaving (envOfC qual scope s.heap.objs.size f cd) e) (fun _ s''=>CX outer H s E e s'') (fun e' s''=>CX outer H s E e' s'') s'
theorem n8{sc:Scope}{n:Nat}{x:Str}(h:sc.names.lookup x=some .cell):∃c,(cellsFrom n sc.names []).lookup x=some c:=by
 have q:=W.cellsFrom_some sc.names n [] (.inl h)
 exact Option.isSome_iff_exists.mp q
theorem AI{CX:Bw}{P:Program}{w:World}{K:W.Frag}{mg:Str->Option Value}{base:Heap}{N ps:List Str}{qual:Str}{scope:Scope}{f:Addr}{cd:Value}{A:Around}{outer:List Env}{s s1:Shared}{H:Hp}{E:XK}{us:List Value}{vs:List V}
  (S:fg N ps scope) (hd:A.handled=none) (e0:GU P w K mg base A outer s H) (hl:vs.length=ps.length) (r:az vs us)
  (x:InCallC s s.heap.objs.size (bindL (envOfC qual scope s.heap.objs.size f cd).kindOf (ps.zip us) fun _=>none) (cellsFrom (s.heap.objs.size+1) scope.names []) (bindC (envOfC qual scope s.heap.objs.size f cd).kindOf (ps.zip us) fun _=>none) s1) :
  Inv (AC CX P w K mg base N qual scope f cd A outer s H E) [] (start N vs) H s1:=by
 have hpl:ps.length<=N.length:=by have:=congrArg List.length S.pre;rw[List.length_take] at this;omega
 obtain⟨h1,tk,rfl,hk⟩:=x.done
 have noA:∀b:Addr,b∉(AC CX P w K mg base N qual scope f cd A outer s H E).ex:=fun b z=>absurd (show b∈([]:List Addr) from z) (by simp)
 refine⟨⟨e0.mod,S.kind,rfl,rfl,Nat.le_refl _,fun y z c h1 h2=>?_,fun y hy=>?_,fun y c _ h=>?_,fun _=>hd,Around.frames_deeper e0.frames,.inr ⟨rfl,rfl⟩,fun b z=>absurd z (noA b),e0.bs,e0.bsz,fun b _ _=>noA b,fun b z=>absurd z (noA b),e0.funs,e0.frf⟩,
  rfl,e0.bare,Un.kept hk,⟨_,x.toInCall.ns,fun i y v h1 h2 h3=>?_⟩,fun y c h=>⟨_,x.cell y c h⟩,e0.hok.fresh (Nat.le_refl _),fun y c h=>?_,fun p hp=>absurd (show p∈([]:List (Addr×Obj)) from hp) (by simp),e0.hok.kept hk,?_⟩
 ·exact name_of_addr x.apart (PySem.mem_of_lookup h1) (PySem.mem_of_lookup h2)
 ·have hy:scope.names.lookup y=some .cell\/scope.names.lookup y=some .free:=hy
  rcases hy with hy|hy
  ·exact n8 hy
  ·exact absurd rfl (S.nofree _ (PySem.mem_of_lookup hy))
 ·exact Nat.le_of_lt (x.above y c (PySem.mem_of_lookup h))
 ·have hi:i < vs.length:=by
   unfold start at h2
   by_cases hi:i < vs.length
   ·exact hi
   ·rw[List.getElem?_append_right (by simpa using hi)] at h2
    rw[List.getElem?_replicate] at h2
    split at h2<;>cases h2
  have ha:vs[i]?=some v:=by
   unfold start at h2
   rw[List.getElem?_append_left (by simpa using hi),zO] at h2
   cases e:vs[i]? with
   | none=>rw[e] at h2;cases h2
   | some a=>rw[e] at h2;cases h2;rfl
  obtain⟨u,hu,rv⟩:=r.get ha
  have hp:ps[i]?=some y:=by
   rw[<- S.pre,List.getElem?_take_of_lt (by omega)];exact h1
  have ndP:ps.Nodup:=by rw[<- S.pre];exact S.nd.sublist (List.take_sublist _ _)
  refine⟨u,rv,?_⟩
  rcases S.par y (List.mem_of_getElem? hp) with k|k
  ·exact .inl ⟨k,qY ndP hp hu k⟩
  ·obtain⟨c,e⟩:=n8 (n:=s.heap.objs.size+1) k
   refine .inr ⟨.inl k,c,e,?_⟩
   have q:=x.cell y c e
   rw[rG ndP hp hu (by show scope.names.lookup y≠_;rw[k];decide)] at q
   exact q
 ·exact e0.hok.fresh (Nat.le_of_lt (x.above y c (PySem.mem_of_lookup h)))
 ·unfold start
  show _=N.length
  rw[zN,zD,List.length_replicate]
  omega
theorem Lw{CX:Bw}{P:Program}{w:World}{K:W.Frag}{mg:Str->Option Value}{base:Heap}{k:Nat}{f:Addr}{name qual:Str}{params:Arguments}{body:List Stmt}{scope:Scope}{dV kV doc pm cdv ct oc:Value}{an od:Option Addr}
  {osl:Array (Option Value)}{N ps:List Str}{sp:Sp}(lk:K.lookup f=some ⟨oc,od,.func (W.fnOf name qual params body scope dV kV doc pm an cdv ct),osl⟩) (hcd:W.codeIn K cdv qual=true) (S:fg N ps scope)
  (len:∀vs H Q E,sp vs H Q E->vs.length=ps.length)
  (hbody:∀ (A:Around) (outer:List Env) (s:Shared) (H:Hp) (vs:List V) (Q:VK) (E:XK),dS k (A.deeper (envOfC qual scope s.heap.objs.size f cdv))->sp vs H Q E ->
   ∃t,xJ (AC CX P w K mg base N qual scope f cdv A outer s H E) body t/\t { nx:=fun _ H'=>Q .non H',rt:=Q } (start N vs) H) :
  nh P w K mg base CX (k+1) f (W.fnOf name qual params body scope dV kV doc pm an cdv ct) ps sp:=by
 refine⟨len,fun A outer s H args us vs Q E hr e0 hb r hsp=>?_⟩
 have hl:=len _ _ _ _ hsp
 have KX:K.In s.heap:=e0.mod.kin.keeps fun b o e=>(e0.bs b o e).1
 have lim:s.heap.NoLimit:=e0.mod.nolimit.keeps fun b o e=>(e0.bs b o e).1
 have hkind:∀y∈ps.zip us,scope.names.lookup y.1=some .local \/ (scope.names.lookup y.1=some .cell/\((cellsFrom (s.heap.objs.size+1) scope.names []).lookup y.1).isSome=true):=fun ⟨n,v⟩ hy=>by
  rcases S.par n (List.of_mem_zip hy).1 with q|q
  ·exact .inl q
  ·exact .inr ⟨q,W.cellsFrom_some _ _ _ (.inl q)⟩
 refine codeAny_call_function hr.depth (KX _ _ lk) rfl S.co S.gen rfl (W.codeRec_of KX hcd) (hb _ _ _ _ ?_)
 refine wpAny_newFunctionEnv_cells S.kind hkind fun env he s1 x=>?_
 subst he
 refine⟨lim.keeps x.toInCall.keep,codeAny_func ?_⟩
 obtain⟨t,ht,hq⟩:=hbody A outer s H vs Q E (hr.deeper _) hsp
 have I:Inv (AC CX P w K mg base N qual scope f cdv A outer s H E) [] (start N vs) H s1:=AI S hr.hd e0 hl r x
 refine wpAny_mono (ht [] s1 (start N vs) H _ I hq) (fun fl s' hs=>?_) fun e s' hs=>hs
 have fin:∀ {σ':St}{H':Hp}{v:V}{u:Value},Inv (AC CX P w K mg base N qual scope f cdv A outer s H E) [] σ' H' s'->RelV v u->Q v H'->CE outer P w H s Q u s' :=
  fun {σ' H' v u} J rv q=>⟨v,H',J.os,J.bare,J.base,J.hok,rv,q⟩
 cases fl with
 | ret u =>
  obtain⟨v,σ',H',J,rv,q⟩:=hs
  exact fin J rv q
 | next =>
  obtain⟨σ',H',J,q⟩:=hs
  exact fin (v:=V.non) (u:=Value.none) J rfl q
 | brk =>
  obtain⟨_,_,_,q⟩:=hs
  exact False.elim q
 | cont =>
  obtain⟨_,_,_,q⟩:=hs
  exact False.elim q
section
variable {X:Cx}{x:Str}{p pos:Pos}{e:Expr}{es:List Expr}{t:TA}{id T:String}{r:List V->Hp->VK->Prop}
def LX(r:List V->Hp->VK->Prop)(t:TA):TE:=fun σ H Q=>t σ H fun vs H1=>r vs H1 Q
theorem jq(hc:dw X (.builtin id) r)(hg:Gl X x)(hm:X.mg x=none)(hv:bootBuiltins x=some (.builtin id))(ha:PA X (e::es) t)(hn:x≠"__name__":=by decide)(hdb:(x == ("__debug__":Str))=false:=by decide)
  (he:starEach (e::es) X.env=(false,eval e X.env)::starEach es X.env:=by rfl) (hpl:(backTo pos (starEach es X.env)).any (·.1)=false:=by rfl):PE X (.Call (.Name x p) (e::es) [] pos) (LX r t):=by
 intro pins s σ H Q I h
 refine wpAny_Call_Name_kw (iN I hg hm hv ?_ hn hdb)
 exact PyProof.Rows.callWith_builtin1 (bO (ha pos pins s σ H _ I h) fun us s1 ⟨vs,H1,I1,r1,q1⟩=>hc pins s1 σ H1 vs us Q I1 r1 q1) he hpl
theorem j3(hc:dw X (.type T) r)(hg:Gl X x)(hm:X.mg x=none)(hv:bootBuiltins x=some (.type T))(ha:PA X (e::es) t)(hn:x≠"__name__":=by decide)(hdb:(x == ("__debug__":Str))=false:=by decide)
  (he:starEach (e::es) X.env=(false,eval e X.env)::starEach es X.env:=by rfl) (hpl:(backTo pos (starEach es X.env)).any (·.1)=false:=by rfl):PE X (.Call (.Name x p) (e::es) [] pos) (LX r t):=by
 intro pins s σ H Q I h
 refine wpAny_Call_Name_kw (iN I hg hm hv ?_ hn hdb)
 exact PyProof.Rows.callWith_type1 (bO (ha pos pins s σ H _ I h) fun us s1 ⟨vs,H1,I1,r1,q1⟩=>hc pins s1 σ H1 vs us Q I1 r1 q1) he hpl
end
end L2
namespace HT
open PySem PyProof.Rows
noncomputable def lexLt:List Int->List Int->Bool
 | [],[]=>false
 | [],_::_=>true
 | _::_,[]=>false
 | x::xs,y::ys=>if x=y then lexLt xs ys else decide (x < y)
theorem du(x y:Int)(xs ys:List Int):lexLt (x::xs) (y::ys)=if x=y then lexLt xs ys else decide (x < y):=rfl
theorem qB:lexLt [] []=false:=rfl
theorem ou(y:Int)(ys:List Int):lexLt [] (y::ys)=true:=rfl
theorem oX(x:Int)(xs:List Int):lexLt (x::xs) []=false:=rfl
theorem C0(A:Around)(s:Shared)(a:Int)(t:Tok)(c:Int)(u:Tok):∃e,SeqAt.EqAt A s (.int a t) (.int c u) e/\(e=true↔a=c) :=
 ⟨(a == c),SeqAt.EqAt.int_int a t c u,by simp⟩
section
open PySem.SeqAt
open PySem.AutoSeq1 (wpAny_loadPart')
open PySem.MeetsSeq PySem.MeetsSeq2 PySem.MeetsSeq3
end
section
variable {prog:Program}{w:World}{A:Around}{E:Value->Shared->Prop}{s:Shared}
theorem Fo{t b:Addr}{vs ws:List Value}{Q:Value->Shared->Prop}(ht:IsTup s.heap t vs.toArray)(hb:IsTup s.heap b ws.toArray)(hv:vs≠[])
  (h1:ws=[]->Q (.ref t) s) (h2:ws≠[]->Q (.ref s.heap.objs.size) { s with heap:=s.heap.push { cls:=.type "tuple",data:=.seq (vs++ws).toArray } })
  (hsz:vs.length+ws.length<=sizeLine):wpAny (model prog w) A (binaryOp .Add (.ref t) (.ref b)) Q E s:=by
 obtain⟨⟨cls,dd,data,sl⟩,ho,hc,n,hd⟩:=id ht
 obtain⟨⟨cls2,dd2,data2,sl2⟩,ho2,hc2,n2,hd2⟩:=id hb
 simp only at hc hd hc2 hd2
 subst hc hd hc2 hd2
 have e:vs.toArray++ws.toArray=(vs++ws).toArray:=by simp
 by_cases hw:ws=[]
 ·exact concat_meets ⟨_,ho,rfl⟩ ⟨_,ho2,rfl⟩ noFill_tuple_add seq_tuple_add PySem.F.slot_tuple_add PySem.F.entry_tuple_add (PySem.F.args_tuple_add_2 _ _)
   (tuple_addW1 t b vs.toArray ws.toArray n n2 dd dd2 sl sl2 (by simpa using hv) (by simp[hw])) ⟨ho,ho2,h1 hw⟩
 ·refine concat_meets ⟨_,ho,rfl⟩ ⟨_,ho2,rfl⟩ noFill_tuple_add seq_tuple_add PySem.F.slot_tuple_add PySem.F.entry_tuple_add (PySem.F.args_tuple_add_2 _ _)
   (tuple_addW2 t b vs.toArray ws.toArray n n2 dd dd2 sl sl2 (by simpa using hv) (by simpa using hw) (by rw[zH,zH];exact hsz)) ⟨ho,ho2,?_⟩
  rw[e]
  exact h2 hw
noncomputable def dz(n d:Nat):Option Int->Nat
 | none=>d
 | some v=>if v < 0 then (v+(n:Int)).toNat else min v.toNat n
theorem vo(n d:Nat):dz n d none=d:=rfl
theorem yk(n d k:Nat):dz n d (some (k:Int))=min k n:=by
 show (if (k:Int) < 0 then ((k:Int)+(n:Int)).toNat else min (k:Int).toNat n)=min k n
 rw[if_neg (by omega),yH]
theorem Jb(n d:Nat)(hd:d<=n)(o:Option Int):dz n d o<=n:=by
 cases o with
 | none=>exact hd
 | some v =>
  show (if v < 0 then (v+(n:Int)).toNat else min v.toNat n)<=n
  by_cases hv:v < 0
  ·rw[if_pos hv];omega
  ·rw[if_neg hv];exact Nat.min_le_right _ _
theorem zg(v:Int)(n d:Nat):(if v < 0 then max (v+(n:Int)) 0 else min v (n:Int))=((dz n d (some v):Nat):Int):=by
 show (if v < 0 then max (v+(n:Int)) 0 else min v (n:Int))=(((if v < 0 then (v+(n:Int)).toNat else min v.toNat n):Nat):Int)
 by_cases hv:v < 0
 ·simp only[if_pos hv];omega
 ·simp only[if_neg hv];omega
theorem wD(lo hi:Option Int)(n:Nat):Builtin.Slice.sliceAdjust lo hi 1 (n:Int)=(((dz n 0 lo:Nat):Int),((dz n n hi:Nat):Int)):=by
 have h1:¬ ((1:Int) < 0):=by omega
 unfold Builtin.Slice.sliceAdjust
 simp only[h1,if_false]
 refine Prod.ext ?_ ?_
 ·cases lo with
  | none=>rfl
  | some v=>exact zg v n 0
 ·cases hi with
  | none=>rfl
  | some v=>exact zg v n n
theorem wy(i j:Nat):Builtin.Slice.slicePlaces (i:Int) (j:Int) 1=j - i:=by
 unfold Builtin.Slice.slicePlaces
 have h1:(1:Int) > 0:=by omega
 simp only[h1,if_true,Int.ediv_one]
 split<;>omega
theorem oI{v:Value}{o:Option Int}{Q:Option Int->Shared->Prop}(p:IsPart v o)(h:Q o s):wpAny (model prog w) A (Builtin.Slice.slicePartIndex v) Q E s:=by
 cases p with
 | none=>exact slicePart_none h
 | int i t=>exact slicePart_int h
theorem ir{sl:Addr}{vl vu:Value}{lo hi:Option Int}{n:Nat}{Q:Int×Int×Nat->Shared->Prop}(hs:s.heap.IsSliceOf sl vl vu .none)(pl:IsPart vl lo)(pu:IsPart vu hi)
  (h:Q (((dz n 0 lo:Nat):Int),1,dz n n hi - dz n 0 lo) s):wpAny (model prog w) A (Builtin.Slice.sliceApplied (.ref sl) (pure (n:Int))) Q E s:=by
 obtain⟨os,hos,hcs,hds⟩:=id hs
 unfold Builtin.Slice.sliceApplied Builtin.Slice.sliceFields
 refine zW (zW (wpAny_field hos hds (x:=vl) rfl (zW (wpAny_field hos hds (x:=vu) rfl (zW (wpAny_field hos hds (x:=.none) rfl (zX ?_)))))))
 refine zW (slicePart_none ?_)
 show wpAny _ _ (if ((1:Int) == 0)=true then _ else _) _ _ s
 rw[if_neg (by decide)]
 refine zW (oI pl (zW (oI pu (zW (zX ?_)))))
 show wpAny _ _ (match Builtin.Slice.sliceAdjust lo hi 1 (n:Int) with|(lo,hi)=>pure (lo,(1:Int),Builtin.Slice.slicePlaces lo hi 1)) _ _ s
 rw[wD lo hi n]
 show wpAny _ _ (pure (((dz n 0 lo:Nat):Int),(1:Int),Builtin.Slice.slicePlaces ((dz n 0 lo:Nat):Int) ((dz n n hi:Nat):Int) 1)) _ _ s
 rw[wy]
 exact zX h
theorem BX(xs:Array Value)(i k:Nat):((List.range k).filterMap fun (m:Nat)=>xs[((i:Int)+(m:Int) * 1).toNat]?).toArray=((xs.toList.drop i).take k).toArray:=by
 have e:(fun (m:Nat)=>xs[((i:Int)+(m:Int) * 1).toNat]?)=fun m=>xs[i+m]?:=by
  funext m
  have:((i:Int)+(m:Int) * 1).toNat=i+m:=by omega
  rw[this]
 rw[e]
 have:=pick_run xs i k
 rw[List.filterMap_map] at this
 have e2:((fun x=>xs[x]?) ∘ fun x=>i+x)=fun m=>xs[i+m]?:=rfl
 rw[e2] at this
 rw[this]
theorem lh{t sl:Addr}{items:Array Value}{vl vu:Value}{lo hi:Option Int}{Q:Value->Shared->Prop}(ht:IsTup s.heap t items)(hs:s.heap.IsSliceOf sl vl vu .none)(pl:IsPart vl lo)(pu:IsPart vu hi)
  (hw:¬ (dz items.size 0 lo=0/\dz items.size items.size hi=items.size))
  (h:Q (.ref s.heap.objs.size) { s with heap:=s.heap.push { cls:=.type "tuple",data:=.seq ((items.toList.drop (dz items.size 0 lo)).take (dz items.size items.size hi - dz items.size 0 lo)).toArray } })
  (hsz:items.size<=sizeLine):wpAny (model prog w) A (getItem (.ref t) (.ref sl)) Q E s:=by
 have htake:sizeOk (.seq ((items.toList.drop (dz items.size 0 lo)).take (dz items.size items.size hi - dz items.size 0 lo)).toArray):=by
  show ((items.toList.drop (dz items.size 0 lo)).take (dz items.size items.size hi - dz items.size 0 lo)).toArray.size<=sizeLine
  rw[zH,List.length_take,List.length_drop,Array.length_toList]
  omega
 have hj:dz items.size items.size hi<=items.size:=Jb _ _ (Nat.le_refl _) hi
 obtain⟨os,hos,hcs,hds⟩:=id hs
 have hTs:s.TypeIs (.ref sl) "slice":=⟨os,hos,hcs⟩
 unfold getItem
 try with_reducible refine wpAny_holding ?_
 first|refine zW (zX ?_)|skip
 refine zW (wpAny_sequenceKey ht.typeIs (by decide) ?_)
 refine zW (wpAny_callSpecial?_slot (name:=Str.ofString "__getitem__") ht.typeIs PyProof.Rows.slot_tuple_getitem
  (wpAny_call_entry PyProof.Rows.slot_tuple_getitem ht.typeIs entry_tuple_getitem ?_ (args_tuple_getitem _ _)))
 show wpAny _ _ (Builtin.Tuple.tupleItemsOf (.ref t) >>= _) _ _ s
 refine zW (tupleItemsOf_ ht ?_)
 refine zW (wpAny_typeOf hTs ?_)
 rw[if_pos (by decide)]
 refine zW (ir hs pl pu ?_)
 have hno:¬ ((((dz items.size 0 lo:Nat):Int) == 0&&(1:Int) == 1&&(dz items.size items.size hi - dz items.size 0 lo) == items.size)=true):=by
  intro q
  rw[zF,zF] at q
  have q1:((dz items.size 0 lo:Nat):Int)=0:=eq_of_beq q.1.1
  have q2:dz items.size items.size hi - dz items.size 0 lo=items.size:=eq_of_beq q.2
  exact hw ⟨by omega,by omega⟩
 show wpAny _ _ (if (((dz items.size 0 lo:Nat):Int) == 0&&(1:Int) == 1&&(dz items.size items.size hi - dz items.size 0 lo) == items.size)=true then _ else _) _ _ s
 rw[if_neg hno,BX]
 first
  | exact zW (m:=Builtin.Tuple.tupleExact _) (wpAny_newObj_type (zX ⟨_,rfl,zX h⟩) htake)
  | exact zW (m:=Builtin.Tuple.tupleExact _) (wpAny_newObj_type (zW (zX (zX ⟨_,rfl,zX h⟩))) htake)
  | exact zW (zW (m:=Builtin.Tuple.tupleExact _) (wpAny_newObj_type (zX (zX ⟨_,rfl,zX h⟩)) htake))
  | exact zW (zW (m:=Builtin.Tuple.tupleExact _) (wpAny_newObj_type (zX ⟨_,rfl,zX h⟩) htake))
end
end HT
namespace L2
open PySem PySem.Spec PyProof.Rows
noncomputable abbrev TO:=St->Hp->(Option Int->Hp->Prop)->Prop
noncomputable def PO(X:Cx)(e:Option Expr)(t:TO):Prop :=
 ∀ (pins:List (Addr×Obj)) (s:Shared) (σ:St) (H:Hp) (Q:Option Int->Hp->Prop),Inv X pins σ H s->t σ H Q ->
  wpAny (model X.prog X.w) X.A (evalPart e X.env) (fun u s'=>∃o H',Inv X pins σ H' s'/\IsPart u o/\Q o H') X.xe s
def EV:TO:=fun _ H Q=>Q none H
def Lz(t:TE):TO:=fun σ H Q=>t σ H fun x H1=>∃i,x=.int i/\Q (some i) H1
theorem intsAre_of{ns:List Int}:∀ {us:List Value},az (ns.map V.int) us->IntsAre us ns:=by
 induction ns with
 | nil=>intro us r;rw[List.map_nil] at r;cases r;exact .nil
 | cons n ns ih =>
  intro us r
  rw[zI] at r
  cases r with
  | cons r1 r2 =>
   obtain⟨t,e⟩:=r1
   subst e
   exact .cons n t (ih r2)
section
variable {X:Cx}{e:Expr}{te:TE}{lo hi:Option Expr}{tl th:TO}{pos p2:Pos}
theorem Fg:PO X none EV:=by
 intro pins s σ H Q I h
 rw[evalPart_none]
 exact zX ⟨none,H,I,.none,h⟩
theorem nU(h:PE X e te):PO X (some e) (Lz te):=by
 intro pins s σ H Q I hw
 rw[evalPart_some]
 refine bO (h pins s σ H _ I hw) fun u s1 ⟨x,H1,I1,r1,q1⟩=>?_
 obtain⟨i,rfl,q⟩:=q1
 obtain⟨t,rfl⟩:=r1
 exact⟨some i,H1,I1,.int i t,q⟩
noncomputable def Hl(X:Cx)(r:V->Option Int->Option Int->Hp->VK->Prop):Prop :=
 ∀ (pins:List (Addr×Obj)) (s:Shared) (σ:St) (H:Hp) (x:V) (v vl vu:Value) (lo hi:Option Int) (sl:Addr) (Q:VK),Inv X pins σ H s->RelV x v->s.heap.IsSliceOf sl vl vu .none->IsPart vl lo->IsPart vu hi->r x lo hi H Q ->
  ∃T id,typeLookup (.type T) "__getitem__"=pure (some (.builtin id))/\s.TypeIs v T/\wpAny (model X.prog X.w) X.A (getItem v (.ref sl)) (EP X pins σ Q) X.xe s
theorem Hl.or{r r':V->Option Int->Option Int->Hp->VK->Prop}(h:Hl X r)(h':Hl X r'):Hl X (fun x lo hi H Q=>r x lo hi H Q\/r' x lo hi H Q):=by
 intro pins s σ H x v vl vu lo hi sl Q I rx hs pl pu q
 rcases q with q|q
 ·exact h pins s σ H x v vl vu lo hi sl Q I rx hs pl pu q
 ·exact h' pins s σ H x v vl vu lo hi sl Q I rx hs pl pu q
def Nf(r:V->Option Int->Option Int->Hp->VK->Prop)(te:TE)(tl th:TO):TE:=fun σ H Q=>te σ H fun x H1=>tl σ H1 fun l H2=>th σ H2 fun u H3=>r x l u H3 Q
theorem Cm{r:V->Option Int->Option Int->Hp->VK->Prop}(hr:Hl X r)(he:PE X e te)(hl:PO X lo tl)(hu:PO X hi th):PE X (.Subscript e (.Slice lo hi none p2) pos) (Nf r te tl th):=by
 intro pins s σ H Q I h
 refine Subscript_ (bO (he pins s σ H _ I h) fun v s1 ⟨x,H1,I1,r1,q1⟩=>?_)
 refine wpAny_Slice (bO (hl pins s1 σ H1 _ I1 q1) fun vl s2 ⟨l,H2,I2,pl,q2⟩=>bO (hu pins s2 σ H2 _ I2 q2) fun vu s3 ⟨u,H3,I3,pu,q3⟩=>?_)
 rw[evalPart_none]
 refine zX ?_
 have I4:Inv X pins σ H3 { s3 with heap:=s3.heap.push { cls:=.type "slice",data:=.fields #[vl,vu,.none] } }:=I3.kept (t':=s3.toks) fun b ob q=>zV _ q
 obtain⟨T,id,hT,ht,hg⟩:=hr pins { s3 with heap:=s3.heap.push { cls:=.type "slice",data:=.fields #[vl,vu,.none] } } σ H3 x v vl vu l u s3.heap.objs.size Q I4 r1 (Heap.IsSliceOf.new ..) pl pu q3
 show wpAny (model X.prog X.w) X.A (subscriptTail e (.Slice lo hi none p2) v (.ref s3.heap.objs.size)) (EP X pins σ Q) X.xe { s3 with heap:=s3.heap.push { cls:=.type "slice",data:=.fields #[vl,vu,.none] } }
 exact tail_any (ops:=[.ref s3.heap.objs.size,v]) ht hT hg (by with_unfolding_all rfl)
noncomputable def Gs(xs:List V)(lo hi:Option Int):List V:=(xs.drop (HT.dz xs.length 0 lo)).take (HT.dz xs.length xs.length hi - HT.dz xs.length 0 lo)
theorem vN(xs:List V)(lo hi:Option Int):(Gs xs lo hi).length<=xs.length:=by
 unfold Gs
 rw[List.length_take,List.length_drop]
 omega
noncomputable def L7(K:W.Frag):V->Option Int->Option Int->Hp->VK->Prop:=fun x lo hi H Q=>∃a xs,x=.ref a/\gT K H a xs /\
 ¬ (HT.dz xs.length 0 lo=0/\HT.dz xs.length xs.length hi=xs.length)/\∀p,H p=none->Q (.ref p) (upd H p (.tup (Gs xs lo hi)))
theorem IW:Hl X (L7 X.K):=by
 intro pins s σ H x v vl vu lo hi sl Q I rx hs pl pu h
 obtain⟨a,xs,rfl,hx,hw,q⟩:=h
 cases rx
 obtain⟨its,r,ht,hz⟩:=I.tuple hx
 have hlen:its.toArray.size=xs.length:=by rw[zH];exact r.length.symm
 refine⟨"tuple",_,PyProof.Rows.slot_tuple_getitem.lookup,ht.typeIs,?_⟩
 refine HT.lh ht hs pl pu (by rw[hlen];exact hw) ?_ (by rw[hlen];exact hz)
 rw[hlen]
 refine⟨.ref s.heap.objs.size,_,I.laid (t':=s.toks) (o:=.tup (Gs xs lo hi)) (fun b ob q=>zV _ q) (Nat.le_refl _) ?_,rfl,q _ (I.hok.fresh (Nat.le_refl _))⟩
 exact⟨yE (vN xs lo hi) hz,_,(r.drop (HT.dz xs.length 0 lo)).take (HT.dz xs.length xs.length hi - HT.dz xs.length 0 lo),l7.new _ _⟩
def Lh(K:W.Frag):R2:=fun x y H Q=>∃a b xs ys,x=.ref a/\y=.ref b/\gT K H a xs/\gT K H b ys/\xs≠[]/\xs.length+ys.length<=sizeLine /\
 (ys=[]->Q (.ref a) H)/\(ys≠[]->∀p,H p=none->Q (.ref p) (upd H p (.tup (xs++ys))))
theorem az.nil_iff{xs:List V}{us:List Value}(r:az xs us):us=[]↔xs=[]:=by
 cases r with
 | nil=>simp
 | cons _ _=>simp
theorem GB:gD X (binaryOp .Add) (Lh X.K):=by
 intro pins s σ H x y v u Q I rx ry h
 obtain⟨a,b,xs,ys,rfl,rfl,ha,hb,hx,hz,q1,q2⟩:=h
 cases rx
 cases ry
 obtain⟨its,r1,p1,_⟩:=I.tuple ha
 obtain⟨its2,r2,p2,_⟩:=I.tuple hb
 refine HT.Fo p1 p2 (fun z=>hx (r1.nil_iff.mp z)) (fun z=>⟨.ref a,H,I,rfl,q1 (r2.nil_iff.mp z)⟩) (fun z=>?_) (by rw[<- r1.length,<- r2.length];exact hz)
 refine⟨.ref s.heap.objs.size,_,I.laid (t':=s.toks) (o:=.tup (xs++ys)) (fun b ob q=>zV _ q) (Nat.le_refl _) ?_,rfl,q2 (fun w=>z (r2.nil_iff.mpr w)) _ (I.hok.fresh (Nat.le_refl _))⟩
 exact⟨by rw[zN];exact hz,_,r1.append r2,l7.new _ _⟩
end
noncomputable def EO(n:Nat)(i:Int):Option Nat:=if 0<=i then (if i < n then some i.toNat else none) else if -(n:Int)<=i then some (i+n).toNat else none
noncomputable def uc{α:Type}(xs:List α)(i:Int):Option α:=(EO xs.length i).bind fun j=>xs[j]?
theorem zx{n:Nat}{i:Int}{j:Nat}(h:EO n i=some j):seqIndex? i n=some j/\j < n/\-(n:Int)<=i/\i < n:=by
 unfold EO at h
 by_cases h0:0<=i
 ·rw[if_pos h0] at h
  by_cases h1:i < n
  ·rw[if_pos h1] at h
   have e:i.toNat=j:=Option.some.inj h
   exact⟨by rw[seqIndex_of h0 h1,e],by omega,by omega,h1⟩
  ·rw[if_neg h1] at h;cases h
 ·rw[if_neg h0] at h
  by_cases h1:-(n:Int)<=i
  ·rw[if_pos h1] at h
   have e:(i+n).toNat=j:=Option.some.inj h
   exact⟨by rw[seqIndex_neg (by omega) h1,e],by omega,h1,by omega⟩
  ·rw[if_neg h1] at h;cases h
theorem sV{α:Type}{xs:List α}{i:Int}{v:α}(h:uc xs i=some v):∃j,seqIndex? i xs.length=some j/\xs[j]?=some v/\j < xs.length/\-(xs.length:Int)<=i/\i < xs.length:=by
 unfold uc at h
 cases e:EO xs.length i with
 | none=>rw[e] at h;cases h
 | some j =>
  rw[e] at h
  obtain⟨h1,h2,h3,h4⟩:=zx e
  exact⟨j,h1,h,h2,h3,h4⟩
theorem tU{α:Type}{xs:List α}{j:Nat}{v:α}(h:xs[j]?=some v):uc xs (j:Int)=some v:=by
 have hj:j < xs.length:=(zU.mp h).1
 have e:EO xs.length (j:Int)=some j:=by
  unfold EO
  rw[if_pos (by omega),if_pos (by omega)];simp
 unfold uc;rw[e];exact h
def nW(b:Expr):Prop:=∀o i,subscripted b false o i=operate [o,i] (getItem o i)
noncomputable def GP(X:Cx)(r:R2):Prop :=
 ∀ (value slice:Expr) (pins:List (Addr×Obj)) (s:Shared) (σ:St) (H:Hp) (x y:V) (v u:Value) (Q:VK),Inv X pins σ H s->RelV x v->RelV y u->r x y H Q ->
  subscripted slice false v u=operate [v,u] (getItem v u)->wpAny (model X.prog X.w) X.A (subscriptTail value slice v u) (EP X pins σ Q) X.xe s
noncomputable def M0(X:Cx)(id:String)(r:V->List V->Hp->VK->Prop):Prop :=
 ∀ (pins:List (Addr×Obj)) (s:Shared) (σ:St) (H:Hp) (x:V) (xs:List V) (v:Value) (us:List Value) (Q:VK),Inv X pins σ H s->RelV x v->az xs us->r x xs H Q ->
  wpAny (model X.prog X.w) X.A (call (.builtin id) (v::us)) (EP X pins σ Q) X.xe s
section
variable {X:Cx}{a b:Expr}{ta tb:TE}{pos:Pos}
theorem GP.or{r r':R2}(h:GP X r)(h':GP X r'):GP X (fun x y H Q=>r x y H Q\/r' x y H Q):=by
 intro value slice pins s σ H x y v u Q I rx ry q hs
 rcases q with q|q
 ·exact h value slice pins s σ H x y v u Q I rx ry q hs
 ·exact h' value slice pins s σ H x y v u Q I rx ry q hs
theorem HE{r:R2}(hr:GP X r)(ha:PE X a ta)(hb:PE X b tb)(hs:nW b):PE X (.Subscript a b pos) (Lm r ta tb):=by
 intro pins s σ H Q I h
 exact Subscript_ (JP ha hb I h fun v u s2 x y H2 I2 rx ry q=>hr a b pins s2 σ H2 x y v u Q I2 rx ry q (hs _ _))
def KH(K:W.Frag):R2:=fun x y H Q=>∃p xs i v,x=.ref p/\y=.int i/\gG K H p xs/\uc xs i=some v/\Q v H
def K0(K:W.Frag):R2:=fun x y H Q=>∃p xs i v,x=.ref p/\y=.int i/\gT K H p xs/\uc xs i=some v/\Q v H
def KM:R2:=fun x y H Q=>∃z i c,x=.str z/\y=.int i/\z.length<=sizeLine/\uc z.cps.toList i=some c/\Q (.str ⟨#[c]⟩) H
theorem ye:GP X (KH X.K):=by
 intro value slice pins s σ H x y v u Q I rx ry h hs
 obtain⟨p,xs,i,z,rfl,rfl,hq,he,q⟩:=h
 cases rx
 obtain⟨t,rfl⟩:=ry
 obtain⟨its,r,pl,hz⟩:=I.list hq
 obtain⟨j,h1,h2,h3,h4,h5⟩:=sV he
 obtain⟨w,ew,rw'⟩:=r.get h2
 have hl:=r.length
 have hn:=oq
 have fin:EP X pins σ Q w s:=⟨z,H,I,rw',q⟩
 by_cases h0:0<=i
 ·have hj:i.toNat=j:=by
   rw[seqIndex_of h0 h5] at h1
   exact Option.some.inj h1
  exact item_listR pl.isList h0 (by omega) (by rw[hj];simpa using ew) fin hs
 ·have hj:(i+(its.toArray.size:Int)).toNat=j:=by
   rw[seqIndex_neg (by omega) h4] at h1
   rw[zH,<- hl]
   exact Option.some.inj h1
  exact subscriptTail_builtinR (x:=w) pl.isList.typeIs slot_list_getitem.lookup
   (wpAny_getItem_list_neg (Q:=fun r s'=>r=w/\EP X pins σ Q r s') pl.isList (by omega) (by rw[zH]<;>omega) (by omega) (by rw[hj];simpa using ew) ⟨rfl,fin⟩) hs
theorem o5:GP X (K0 X.K):=by
 intro value slice pins s σ H x y v u Q I rx ry h hs
 obtain⟨p,xs,i,z,rfl,rfl,hq,he,q⟩:=h
 cases rx
 obtain⟨t,rfl⟩:=ry
 obtain⟨its,r,pl,hz⟩:=I.tuple hq
 obtain⟨j,h1,h2,h3,h4,h5⟩:=sV he
 obtain⟨w,ew,rw'⟩:=r.get h2
 have hl:=r.length
 have hn:=oq
 have fin:EP X pins σ Q w s:=⟨z,H,I,rw',q⟩
 exact subscriptTail_builtinR (x:=w) pl.typeIs slot_tuple_getitem.lookup
  (getItem_tuple (j:=j) (Q:=fun r s'=>r=w/\EP X pins σ Q r s') pl (by omega) (by omega) (by rw[zH,<- hl];exact h1) (by simpa using ew) ⟨rfl,fin⟩) hs
theorem JA:GP X KM:=by
 intro value slice pins s σ H x y v u Q I rx ry h hs
 obtain⟨z,i,c,rfl,rfl,hz,he,q⟩:=h
 obtain⟨t,rfl⟩:=rx
 obtain⟨t',rfl⟩:=ry
 obtain⟨j,h1,h2,h3,h4,h5⟩:=sV he
 have hl:z.cps.toList.length=z.length:=by simp[Str.length]
 rw[hl] at h1 h4 h5
 have hn:=oq
 exact tail_any (typeIs_str s z t) slot_str_getitem.lookup (getItem_str (c:=c) (by
  have e1:decide (i < -(2 ^ 63:Int))=false:=yA (by omega)
  have e2:decide (i >= 2 ^ 63)=false:=yA (by omega)
  rw[e1,e2,Bool.or_false]) (by rw[h1];simpa using h2) ⟨.str ⟨#[c]⟩,H,I.tok _,⟨_,rfl⟩,q⟩) hs
def Na(K:W.Frag):R2:=fun x y H Q=>KH K x y H Q\/K0 K x y H Q\/KM x y H Q
theorem JT:GP X (Na X.K):=ye.or (o5.or JA)
theorem wo(its:List Value)(n j:Nat)(u:Value):Obj.mapSeq (·.setIfInBounds j u) { cls:=.type "list",data:=.seq its.toArray n }={ cls:=.type "list",data:=.seq (its.set j u).toArray n }:=by
 simp[Obj.mapSeq]
theorem Inv.lst{pins:List (Addr×Obj)}{σ:St}{H:Hp}{s:Shared}{p:Addr}{xs:List V}(I:Inv X pins σ H s)(h:H p=some (.lst xs)) :
  ∃ (its:List Value) (n:Nat),az xs its/\s.heap.get? p=some { cls:=.type "list",data:=.seq its.toArray n }/\xs.length<=sizeLine:=by
 obtain⟨z,its,n,r,e⟩:=I.hok p _ h
 exact⟨its,n,r,e,z⟩
theorem Inv.lstUpd{pins:List (Addr×Obj)}{σ:St}{H:Hp}{s:Shared}{p:Addr}{xs ys:List V}{its its':List Value}{n n':Nat}{f:Obj->Obj}(I:Inv X pins σ H s)(h:H p=some (.lst xs))
  (ho:s.heap.get? p=some { cls:=.type "list",data:=.seq its.toArray n }) (hf:f { cls:=.type "list",data:=.seq its.toArray n }={ cls:=.type "list",data:=.seq its'.toArray n' }) (r:az ys its') (hz:ys.length<=sizeLine) (t:Nat) :
  Inv X pins σ (upd H p (.lst ys)) { s with heap:=s.heap.update p f,toks:=t }:=by
 have e:(s.heap.update p f).get? p=some { cls:=.type "list",data:=.seq its'.toArray n' }:=by
  rw[Heap.get?_update_self f ho (by rw[hf]<;>rfl),hf]
 refine I.write (x:=p) (e:=p) (by rw[h];trivial) (.inl rfl) (fun b u hb q=>(Heap.get?_update_other _ _ (Ne.symm hb)).trans q) ⟨_,e⟩ ?_
 exact⟨hz,its',n',r,e⟩
noncomputable def Lu:V->V->V->Hp->(Hp->Prop)->Prop:=fun o i v H Q=>∃p xs k j,o=.ref p/\i=.int k/\H p=some (.lst xs)/\EO xs.length k=some j/\Q (upd H p (.lst (xs.set j v)))
theorem set_list:K2 X Lu:=by
 intro pins s σ H o i v ov iv u Q I ro ri rv h
 obtain⟨p,xs,k,j,rfl,rfl,hp,hj,q⟩:=h
 cases ro
 obtain⟨t,rfl⟩:=ri
 obtain⟨its,n,r,ho,hz⟩:=I.lst hp
 obtain⟨h1,h2,h3,h4⟩:=zx hj
 have hl:=r.length
 have hn:=oq
 have I':Inv X pins σ (upd H p (.lst (xs.set j v))) { s with heap:=s.heap.update p (Obj.mapSeq (·.setIfInBounds j u)) } :=
  I.lstUpd hp ho (wo its n j u) (r.set rv j) (by rw[yD];exact hz) s.toks
 by_cases h0:0<=k
 ·have hk:k.toNat=j:=by
   rw[seqIndex_of h0 h4] at h1
   exact Option.some.inj h1
  exact W.ki_setAt ho h0 (by omega) (by rw[zH,<- hl];exact h4) (by rw[hk];exact⟨_,I',q⟩)
 ·have hk:(k+(its.toArray.size:Int)).toNat=j:=by
   rw[seqIndex_neg (by omega) h3] at h1
   rw[zH,<- hl]
   exact Option.some.inj h1
  exact W.ki_setBack ho (by omega) (by rw[zH,<- hl];exact h3) (by omega) (by rw[hk];exact⟨_,I',q⟩)
theorem tY:dw X (.builtin "len") (fun xs H Q=>∃p ys,xs=[.ref p]/\(gG X.K H p ys\/gT X.K H p ys)/\Q (.int ys.length) H):=by
 intro pins s σ H xs us Q I r h
 obtain⟨p,ys,rfl,hq,q⟩:=h
 obtain⟨u,rfl,rx⟩:=vals1 r
 cases rx
 have hn:=oq
 rcases hq with hq|hq
 ·obtain⟨its,r',pl,hz⟩:=I.list hq
  have hlen:=r'.length
  exact Calls.call_len_list pl.isList (by simp only[zH]<;>omega) ⟨.int ys.length,H,I.tok _,⟨s.toks+1,by rw[zH,hlen]⟩,q⟩
 ·obtain⟨its,r',pl,hz⟩:=I.tuple hq
  have hlen:=r'.length
  exact len_tuple pl (by simp only[zH]<;>omega) ⟨.int ys.length,H,I.tok _,⟨s.toks+1,by rw[zH,hlen]⟩,q⟩
theorem tM:dw X (.type "list") (fun xs H Q=>∃p ys,xs=[.ref p]/\(gG X.K H p ys\/gT X.K H p ys)/\∀l,H l=none->Q (.ref l) (upd H l (.lst ys))):=by
 intro pins s σ H xs us Q I r h
 obtain⟨p,ys,rfl,hq,q⟩:=h
 obtain⟨u,rfl,rx⟩:=vals1 r
 cases rx
 have fin:∀ (its:List Value),az ys its->ys.length<=sizeLine->∀ (h':Heap) (c':Nat),(∀b o',s.heap.get? b=some o'->h'.get? b=some o') ->
   h'.get? s.heap.objs.size=some { cls:=.type "list",dict:=none,data:=.seq its.toArray c',slots:=#[] }->EP X pins σ Q (.ref s.heap.objs.size) { s with heap:=h' }:=fun its r' hz h' c' kp e =>
  ⟨.ref s.heap.objs.size,_,I.laid (t':=s.toks) kp (Nat.le_refl _) (show dU X.prog X.w _ h' _ (.lst ys) from ⟨hz,its,c',r',e⟩),rfl,q _ (I.hok.fresh (Nat.le_refl _))⟩
 rcases hq with hq|hq
 ·obtain⟨its,r',pl,hz⟩:=I.list hq
  have hlen:=r'.length
  obtain⟨o,ho,hc,n,hd⟩:=pl.isList
  exact call_list_seq p (.inl rfl) ho hc hd (fun h' c' kp e=>fin its r' hz h' c' kp e) (by simp only[zH]<;>omega)
 ·obtain⟨its,r',pl,hz⟩:=I.tuple hq
  have hlen:=r'.length
  obtain⟨o,ho,hc,n,hd⟩:=pl
  exact call_list_seq p (.inr rfl) ho hc hd (fun h' c' kp e=>fin its r' hz h' c' kp e) (by simp only[zH]<;>omega)
theorem qd:dw X (.type "tuple") (fun xs H Q=>∃p ys,xs=[.ref p]/\((gG X.K H p ys/\∀l,H l=none->Q (.ref l) (upd H l (.tup ys)))\/(gT X.K H p ys/\Q (.ref p) H))):=by
 intro pins s σ H xs us Q I r h
 obtain⟨p,ys,rfl,h⟩:=h
 obtain⟨u,rfl,rx⟩:=vals1 r
 cases rx
 rcases h with ⟨hq,q⟩|⟨hq,q⟩
 ·obtain⟨its,r',pl,hz⟩:=I.list hq
  have hlen:=r'.length
  refine call_tuple_list pl.isList (fun h' kp=>?_) (by simp only[zH]<;>omega)
  have I1:Inv X pins σ H { s with heap:=h' }:=I.kept (t':=s.toks) kp
  have I2:Inv X pins σ (upd H h'.objs.size (.tup ys)) { s with heap:=h'.push { cls:=.type "tuple",data:=.seq its.toArray } } :=
   I1.laid (t':=s.toks) (fun b o e=>zV _ e) (Nat.le_refl _) (show dU X.prog X.w _ _ _ (.tup ys) from ⟨hz,its,r',l7.new _ _⟩)
  exact⟨.ref h'.objs.size,_,I2,rfl,q _ (I1.hok.fresh (Nat.le_refl _))⟩
 ·obtain⟨its,r',pl,hz⟩:=I.tuple hq
  exact call_tuple_same pl ⟨.ref p,H,I,rfl,q⟩
def MY(K:W.Frag)(T:String)(x:V)(H:Hp):Prop:=match x with
 | .str _=>T="str"
 | .int _=>T="int"
 | .ref p=>(T="list"/\∃xs,gG K H p xs)\/(T="tuple"/\∃xs,gT K H p xs) \/
   (T="dict"/\((∃kvs,H p=some (.dK kvs))\/∃kvs,H p=some (.dT kvs)))\/(T="set"/\∃S n,H p=some (.set S n))
 | _=>False
theorem Jl{pins:List (Addr×Obj)}{σ:St}{H:Hp}{s:Shared}{T:String}{x:V}{v:Value}(I:Inv X pins σ H s)(r:RelV x v)(ty:MY X.K T x H) :
  s.TypeIs v T/\∀a,v=.ref a->∃ob,s.heap.get? a=some ob/\ob.dict=none:=by
 cases x with
 | str z =>
  obtain⟨t,rfl⟩:=r
  cases (show T="str" from ty)
  exact⟨typeIs_str s z t,fun _ e=>nomatch e⟩
 | int i =>
  obtain⟨t,rfl⟩:=r
  cases (show T="int" from ty)
  exact⟨typeIs_int s i t,fun _ e=>nomatch e⟩
 | ref p =>
  cases r
  rcases ty with ⟨rfl,xs,hq⟩|⟨rfl,xs,hq⟩|⟨rfl,hk⟩|⟨rfl,S,n,hk⟩
  ·obtain⟨its,_,pl,_⟩:=I.list hq
   refine⟨pl.isList.typeIs,fun a e=>?_⟩
   cases e
   obtain⟨o,n,e,c,hd,_⟩:=pl
   exact⟨o,e,hd⟩
  ·rcases hq with hq|⟨o,its,n,hk,hc,hd,_⟩
   ·obtain⟨_,_,_,⟨o,e1,e2,_⟩,o2,e3,e4⟩:=hq.ok I.hok
    exact⟨⟨o,e1,e2⟩,fun a e=>by cases e;exact⟨o2,e3,e4⟩⟩
   ·exact⟨⟨o,I.kIn p o hk,hc⟩,fun a e=>by cases e;exact⟨o,I.kIn _ o hk,hd⟩⟩
  ·have z:∃o,s.heap.get? p=some o/\o.ExactDict:=by
    rcases hk with ⟨kvs,hk⟩|⟨kvs,hk⟩
    ·obtain⟨_,_,_,_,o,_,_,e,ex,_⟩:=I.hok p _ hk
     exact⟨o,e,ex⟩
    ·obtain⟨_,_,_,_,o,_,_,e,ex,_⟩:=I.hok p _ hk
     exact⟨o,e,ex⟩
   obtain⟨o,e,ex⟩:=z
   refine⟨⟨o,e,ex.1⟩,fun a e2=>?_⟩
   cases e2
   exact⟨o,e,ex.2.1⟩
  ·obtain⟨o,_,_,_,e,ex,_⟩:=I.hok p _ hk
   refine⟨⟨o,e,ex.1⟩,fun a e2=>?_⟩
   cases e2
   exact⟨o,e,ex.2.1⟩
 | _=>exact False.elim ty
def Nh(K:W.Frag)(T:String)(r:V->List V->Hp->VK->Prop)(to:TE)(t:TA):TE:=fun σ H Q=>to σ H fun x H1=>MY K T x H1/\t σ H1 fun xs H2=>r x xs H2 Q
variable {o e:Expr}{es:List Expr}{to:TE}{t:TA}{name:Str}{apos cpos:Pos}{T id:String}{r:V->List V->Hp->VK->Prop}
theorem rJ(pa:PlainAttrs T)(slot:Slot T name id)(hty:typeOf (.builtin id)=pure (.type "method_descriptor"))(hm:M0 X id r)(ho:PE X o to)(ha:PA X (e::es) t)
  (hbase:attributeBase o name X.env (eval o X.env)=eval o X.env:=by rfl)
  (hfew:((backTo cpos (starEach (e::es) X.env)).all (fun x=>!x.1)&&(backToKw cpos (keywordEach [] X.env)).all (fun x=>x.1.isSome)
   &&decide ((e::es).length+([]:List Keyword).length+(if ([]:List Keyword).isEmpty then 0 else 1) < 30))=true:=by rfl)
  (hline:(apos.endLine == cpos.line)=true:=by rfl) (hs:starEach (e::es) X.env=(false,eval e X.env)::starEach es X.env:=by rfl) (hplain:(backTo cpos (starEach es X.env)).any (·.1)=false:=by rfl) :
  PE X (.Call (.Attribute o name apos) (e::es) [] cpos) (Nh X.K T r to t):=by
 intro pins s σ H Q I h
 refine wpAny_Call_method_late hbase hfew hline rfl (bO (ho pins s σ H _ I h) fun v s1 ⟨x,H1,I1,r1,ty,q1⟩=>?_)
 obtain⟨h1,h2⟩:=Jl I1 r1 ty
 refine⟨T,id,pa,slot,hty,h1,h2,?_⟩
 have hA:=ha cpos pins s1 σ H1 _ I1 q1
 rw[hs] at hA ⊢
 refine Calls.callWith_builtin (by show (false||(backTo cpos (starEach es X.env)).any (·.1))=false;rw[hplain]<;>rfl) (Calls.evalArgs_plain ?_)
 exact bO hA fun us s2 ⟨vs,H2,I2,r2,q2⟩=>hm pins s2 σ H2 x vs v us Q I2 r1 r2 q2
/- xs.append(e),list.index on a module's tuple .. are M0 facts of 06m -/
end
noncomputable def Ku(X:Cx)(id:String)(r:V->List V->Hp->VK->Prop):Prop :=
 ∀ (pins:List (Addr×Obj)) (s:Shared) (σ:St) (H:Hp) (x:V) (xs:List V) (v:Value) (us:List Value) (Q:VK),Inv X pins σ H s->RelV x v->az xs us->r x xs H Q ->
  wpAny (model X.prog X.w) X.A (call (.builtin id) (v::us)) (EP X pins σ Q) X.xe s
theorem az.one:∀ {x:V}{us:List Value},az [x] us->∃u,us=[u]/\RelV x u
 | _,_,.cons r .nil=>⟨_,rfl,r⟩
theorem az.two:∀ {x y:V}{us:List Value},az [x,y] us->∃u v,us=[u,v]/\RelV x u/\RelV y v
 | _,_,_,.cons r (.cons q .nil)=>⟨_,_,rfl,r,q⟩
theorem az.reverse{xs:List V}{us:List Value}(h:az xs us):az xs.reverse us.reverse:=by
 induction h with
 | nil=>exact .nil
 | cons r t ih=>rw[List.reverse_cons,List.reverse_cons];exact az.append ih (.cons r .nil)
theorem az.rep{xs:List V}{us:List Value}(h:az xs us):∀k:Nat,az (List.replicate k xs).flatten (List.replicate k us).flatten
 | 0=>.nil
 | k+1=>by
  rw[List.replicate_succ,List.replicate_succ,List.flatten_cons,List.flatten_cons]
  exact az.append h (az.rep h k)
theorem foldl_rep(its:List Value):∀ (k:Nat) (acc:List Value),
  List.foldl (fun x1 x2=>x1++x2) acc.toArray (List.replicate k its.toArray)=(acc++(List.replicate k its).flatten).toArray
 | 0,acc=>by simp
 | k+1,acc=>by
  have e:acc.toArray++its.toArray=(acc++its).toArray:=by simp
  have e2:(acc++its)++(List.replicate k its).flatten=acc++(List.replicate (k+1) its).flatten:=by
   rw[List.replicate_succ,List.flatten_cons,List.append_assoc]
  rw[<- e2,<- foldl_rep its k (acc++its),<- e,List.replicate_succ,yJ]
section
variable {X:Cx}{pins:List (Addr×Obj)}{σ:St}{H:Hp}{s:Shared}{l b:Addr}{xs ys zs:List V}
theorem Inv.lset{its its':List Value}{n:Nat}{f:Array Value->Array Value}{t':Nat}(I:Inv X pins σ H s)(hH:H l=some (.lst xs))
  (e:s.heap.get? l=some { cls:=.type "list",data:=.seq its.toArray n }) (hf:f its.toArray=its'.toArray) (hv:az ys its') (hz:ys.length<=sizeLine) :
  Inv X pins σ (upd H l (.lst ys)) { s with heap:=s.heap.update l (Obj.mapSeq f),toks:=t' }:=by
 have q:=PySem.IsL.update e f
 rw[hf] at q
 refine I.write (x:=l) (e:=l) (by rw[hH];exact trivial) (.inl rfl) (fun b' u hb hu=>(Heap.get?_update_other s.heap (Obj.mapSeq f) (Ne.symm hb)).trans hu) ⟨_,q⟩ ?_
 exact⟨hz,its',_,hv,q⟩
theorem Inv.lnew{its:List Value}{t':Nat}(I:Inv X pins σ H s)(hv:az ys its)(hz:ys.length<=sizeLine) :
  Inv X pins σ (upd H s.heap.objs.size (.lst ys)) { s with heap:=s.heap.push { cls:=.type "list",data:=.seq its.toArray },toks:=t' } :=
 I.laid (fun _ _ q=>zV _ q) (Nat.le_refl _) ⟨hz,its,0,hv,zY _ rfl⟩
theorem Inv.fresh(I:Inv X pins σ H s):H s.heap.objs.size=none:=I.hok.fresh (Nat.le_refl _)
theorem Inv.lstM(I:Inv X pins σ H s)(hH:H l=some (.lst xs)):xs.length<=sizeLine/\∃ (its:List Value) (n:Nat),az xs its/\xs.length=its.length/\s.heap.get? l=some { cls:=.type "list",data:=.seq its.toArray n }:=by
 obtain⟨z,its,n,r,e⟩:=I.hok l _ hH
 exact⟨z,its,n,r,r.length,e⟩
theorem v7{n:Nat}(h:n<=sizeLine):Builtin.List.listTooLong n=false:=by
 unfold Builtin.List.listTooLong
 exact yA (by omega)
end
section
variable {X:Cx}
noncomputable def GW:V->List V->Hp->VK->Prop:=fun x vs H Q=>∃l xs y,x=.ref l/\vs=[y]/\H l=some (.lst xs)/\xs.length < sizeLine/\Q .non (upd H l (.lst (xs++[y])))
theorem rm:Ku X "list.append" GW:=by
 intro pins s σ H x vs v us Q I rx rv h
 obtain⟨l,xs,y,rfl,rfl,hH,hz,q⟩:=h
 cases rx
 obtain⟨u,rfl,ru⟩:=rv.one
 obtain⟨z,its,n,r,hl,e⟩:=I.lstM hH
 refine call_meets F.slot_list_append ⟨_,e,rfl⟩ F.entry_list_append (F.args_list_append_2 _ _) (PySem.list_append l its.toArray n u (by rw[zH];omega)) ⟨e,?_⟩
 refine⟨.non,_,I.lset (its':=its++[u]) hH e (by simp) (r.append (.cons ru .nil)) ?_,rfl,q⟩
 rw[zN,List.length_singleton]
 omega
noncomputable def F5:V->List V->Hp->VK->Prop:=fun x vs H Q=>∃l b xs zs,x=.ref l/\vs=[.ref b]/\H l=some (.lst xs)/\H b=some (.lst zs)/\xs.length+zs.length<=sizeLine/\Q .non (upd H l (.lst (xs++zs)))
theorem AM:Ku X "list.extend" F5:=by
 intro pins s σ H x vs v us Q I rx rv h
 obtain⟨l,b,xs,zs,rfl,rfl,hH,hB,hz,q⟩:=h
 cases rx
 obtain⟨u,rfl,ru⟩:=rv.one
 cases ru
 obtain⟨z,its,n,r,hl,e⟩:=I.lstM hH
 obtain⟨z2,its2,n2,r2,hl2,e2⟩:=I.lstM hB
 have hsz:its.toArray.size+its2.toArray.size<=sizeLine:=by rw[zH,zH];omega
 have hlong:¬ (!its.toArray.isEmpty&&Builtin.List.listTooLong (its.toArray.size+its2.toArray.size))=true:=by
  rw[v7 hsz,Bool.and_false]
  exact Bool.false_ne_true
 refine call_meets F.slot_list_extend ⟨_,e,rfl⟩ F.entry_list_extend (F.args_list_extend_2 _ _)
  (AutoSeq1.list_extend_list_list_0 l its.toArray n b its2.toArray n2 hlong (by rw[zH];omega) (by omega)) ⟨e,e2,?_⟩
 refine⟨.non,_,I.lset (its':=its++its2) hH e (by simp) (r.append r2) ?_,rfl,q⟩
 rw[zN]
 omega
def MT:R2:=fun x y H Q=>∃l k xs,x=.ref l/\y=.int k/\H l=some (.lst xs)/\-(2 ^ 63)<=k/\k < 2 ^ 63/\xs.length * k.toNat<=sizeLine /\
 ∀p,H p=none->Q (.ref p) (upd H p (.lst (List.replicate k.toNat xs).flatten))
theorem len_rep{α:Type}(xs:List α)(k:Nat):(List.replicate k xs).flatten.length=k * xs.length:=by
 induction k with
 | zero=>simp
 | succ k ih=>rw[List.replicate_succ,List.flatten_cons,zN,ih,Nat.succ_mul,Nat.add_comm]
theorem J8:gD X (binaryOp .Mult) MT:=by
 intro pins s σ H x y v u Q I rx ry h
 obtain⟨l,k,xs,rfl,rfl,hH,h1,h2,hz,q⟩:=h
 cases rx
 obtain⟨t,rfl⟩:=ry
 obtain⟨z,its,n,r,hl,e⟩:=I.lstM hH
 have hlen:its.toArray.size * k.toNat<=sizeLine:=by rw[zH,<- hl];exact hz
 have hcap:¬ its.toArray.size * k.toNat > (2 ^ 63 - 1) / 8:=by
  have:(sizeLine:Nat)<=(2 ^ 63 - 1) / 8:=by decide
  omega
 have hfit:¬ (!Builtin.List.listFitsIndex k)=true:=by
  rw[fitsIndex_both h1 h2]
  exact Bool.false_ne_true
 have hlong:¬ Builtin.List.listTooLong (its.toArray.size * k.toNat)=true:=by
  rw[v7 hlen]
  exact Bool.false_ne_true
 have hnew:List.foldl (fun x1 x2=>x1++x2) #[] (List.replicate (if its.toArray.isEmpty=true then 0 else k.toNat) its.toArray)=(List.replicate k.toNat its).flatten.toArray:=by
  have f0:∀m:Nat,List.foldl (fun x1 x2=>x1++x2) #[] (List.replicate m its.toArray)=(List.replicate m its).flatten.toArray:=fun m=>by
   have:=foldl_rep its m []
   rw[List.nil_append] at this
   exact this
  rw[f0]
  cases its with
  | nil=>simp
  | cons a r'=>rw[if_neg (by simp)]
 refine wpAny_binaryOp_repeat_ref (T:="list") (U:="int") (by decide) ⟨_,e,rfl⟩ (fun s'=>typeIs_int s' k t) noFill_list_mul F.fills_int_mul F.slot_int_rmul repeat_list F.slot_int_index.lookup
  (call_meets F.slot_int_rmul (typeIs_int s k t) F.entry_int_rmul (F.args_int_rmul_2 _ _) (int___rmul___int_list k t l its.toArray n)
   ⟨e,rfl,⟨_,e,rfl⟩,call_meets F.slot_list_mul ⟨_,e,rfl⟩ F.entry_list_mul (F.args_list_mul_2 _ _) (AutoListH.list___mul___list_int_3 l its.toArray n k t hfit hcap hlong) ⟨e,?_⟩⟩)
 rw[hnew]
 exact⟨.ref _,_,I.lnew (t':=s.toks) (r.rep k.toNat) (by rw[len_rep,Nat.mul_comm];exact hz),rfl,q _ I.fresh⟩
end
section
variable {prog:Program}{w:World}{A:Around}{E:Value->Shared->Prop}{s:Shared}
end
section
variable {X:Cx}
end
end L2
namespace Att
open PySem PySem.W PySem.Calls PyProof.Rows
theorem ints_of_wellAll{P:Params}{h:Heap}:∀ (ns:List Int) (vs:List Value),WellAll P h vs (ns.map WData.int)->IntsAre vs ns:=by
 intro ns
 induction ns with
 | nil =>
  intro vs w
  rw[List.map_nil] at w
  cases w
  exact .nil
 | cons n ns ih =>
  intro vs w
  rw[zI] at w
  cases w with
  | cons a b =>
   cases a
   exact .cons _ _ (ih _ b)
theorem script_of{l:OpenLaw}{n:Nat}(hn:l.most=some n){P:Params}{h:Heap}{args:List WData}{vals:List Value}
  (hpre:l.row.toRowW.claim.pre args=true) (hwl:WellAll P h vals args) :
  ∃a vs ns,vals=[Value.ref a]/\args=[WData.list (ns.map WData.int)]/\h.get? a=some { cls:=.type "list",data:=.seq vs.toArray }/\IntsAre vs ns/\ns.length<=n:=by
 have hsh:WShape.hasAll [] args [.list .int]=true:=(pre_splitW hpre).1
 have hc:l.pre.holds [] { args:=args }=true:=(pre_splitW hpre).2
 obtain⟨d,r,rfl,h1,h2⟩:=hasAllW_cons hsh
 obtain rfl:=hasAllW_nil h2
 obtain⟨xs,rfl,h3⟩:=hasW_list h1
 obtain⟨ns,rfl⟩:=items_int h3
 have hlen:ns.length<=n:=by
  unfold OpenLaw.pre at hc
  have h4:(WTm.not (.lt (.lit (.int (n:Int))) (.len (.arg 0)))).holds [] { args:=[.list (ns.map .int)] }=true:=by
   have h4:=(holds_andW hc).1
   rw[hn] at h4
   exact h4
  have h5:=condW_of h4 (w_not (w_lt w_lit (w_len_list (w_arg rfl))))
  rw[zD] at h5
  refine Nat.le_of_not_lt fun q=>?_
  have q':(n:Int) < ((ns.length:Nat):Int):=by omega
  first
   | (rw[yB q'] at h5;exact absurd h5 (by decide))
   | (simp at h5;omega)
 cases hwl with
 | cons w1 w2 =>
  cases w2
  cases w1 with
  | list ho hall=>exact⟨_,_,ns,rfl,rfl,ho,ints_of_wellAll ns _ hall,hlen⟩
theorem post_true(l:OpenLaw)(args:List WData):l.row.toRowW.claim.post args (.bool true) args=true :=
 postW_of (r:=l.row.toRowW) (X:=(true == true))
  (show WShape.has [] (.bool true) .bool=true by first|rfl|decide|simp[WShape.has,WShape.arms,WShape.armsAll])
  (show (WTm.eq .res (.lit (.bool true))).value [] { args:=args,res:=some (.bool true),after:=args }=some (.bool (true == true)) from w_eq_bool (w_res rfl) w_lit) rfl
theorem attach_call{l:OpenLaw}{n:Nat}{q:Program}{loose:List Str}{XP:(Str->Option Value)->Heap->Prop}{YP:World->Heap->Prop}{d:DefRec}
  (hn:l.most=some n) (hdf:d.params.defaults=[])
  (call:∀ (w:World) (s₀ s₁:Shared) (mg mb:Str->Option Value) (fa:Addr) (o:Obj) (pm cd doc:Value) (a:Addr) (vs:List Value) (ns:List Int),
   Ground q loose [] XP w s₀ mg mb s₁.heap->YP w s₁.heap ->
   s₁.heap.get? fa=some o->o.data=.func (docDef d.name d.params d.body d.scope pm cd doc)->s₁.heap.CodeRec cd d.name->mg d.name=some (.ref fa) ->
   s₁.heap.get? a=some { cls:=.type "list",data:=.seq vs.toArray }->IntsAre vs ns->ns.length<=n->s₁.gens=#[] ->
   codeAny (model l.prog w) callerA (.call (.ref fa) ⟨[.ref a],[]⟩) (fun r s'=>r=.ok (.ret (.bool true))/\OldK s₁.heap s'.heap/\s'.os=s₁.os/\AllBare s'.gens) s₁) :
  WalkO q loose XP YP l.row.toRowW d [] (fun f vs=>PySem.call f vs):=by
 intro w s₀ s₁ mg mb G Y fa o pm cd doc dV kV ho hd hcd hD hmg hg args vals as hpre hlay hrd hwl hlo
 obtain rfl:dV=.none:=Dflts.none hD hdf
 obtain rfl:kV=.none:=Dflts.noKw hD
 obtain⟨a,vs,ns,rfl,rfl,hobj,hints,hlen⟩:=script_of hn hpre hwl
 refine enter_call (codeAny_mono (call w s₀ s₁ mg mb fa o pm cd doc a vs ns G Y ho (fd_plain hd) hcd hmg hobj hints hlen hg) fun r s' hq=>?_)
 obtain⟨rfl,h2,h3,h4⟩:=hq
 exact⟨.inl ⟨.bool true,.bool true,[],rfl,fun _=>rfl,.bool true,post_true l _,fun _=>⟨List.Pairwise.nil,fun _ hm=>(nomatch hm)⟩⟩,h2,h3,h4⟩
section
variable {prog:Program}{w:World}{A:Around}{E:Value->Shared->Prop}{s:Shared}{K:Frag}
end
end Att
namespace L2
open PySem PySem.Spec PyProof.Rows
theorem rR:∀ {vs:List Value}{ns:List Int},IntsAre vs ns->az (ns.map V.int) vs
 | _,_,.nil=>.nil
 | _,_,.cons n t h=>.cons ⟨t,rfl⟩ (rR h)
noncomputable def f9(s:Stmt):Arguments:=match s with
 | .FunctionDef _ a _ _ _ _ _ _ _ _=>a
 | _=>{ posonlyargs:=[],args:=[],vararg:=none,kwonlyargs:=[],kw_defaults:=[],kwarg:=none,defaults:=[] }
noncomputable def bZ(s:Stmt):List Stmt:=match s with
 | .FunctionDef _ _ b _ _ _ _ _ _ _=>b
 | _=>[]
noncomputable def aF(s:Stmt):Scope:=match s with
 | .FunctionDef _ _ _ _ _ _ sc _ _ _=>sc
 | _=>{ kind:=.function,names:=[],isGenerator:=false,isCoroutine:=false }
noncomputable abbrev Ic:Bw:=fun _ _ _ _ _ _=>False
noncomputable abbrev E0:XK:=fun _ _ _=>False
theorem HB{X:Cx}:xt Ic X E0:=fun _ _ _ _ _ _ _ h=>h.elim
structure GR(K:W.Frag)(x qual:Str)(st:Stmt)(f:Addr)(fd:FuncData):Prop where
 ex:∃ (oc:Value) (od:Option Addr) (kV doc pm:Value) (an:Option Addr) (cdv ct:Value) (osl:Array (Option Value)),
  fd=W.fnOf x qual (f9 st) (bZ st) (aF st) .none kV doc pm an cdv ct/\K.lookup f=some ⟨oc,od,.func fd,osl⟩/\W.codeIn K cdv qual=true
 kp:W.keepIn K (.ref f)=true
section
variable {P:Program}{w:World}{K:W.Frag}{mg:Str->Option Value}{base:Heap}
theorem GR.binds{x qual:Str}{st:Stmt}{f:Addr}{fd:FuncData}{ps:List Str}(F:GR K x qual st f fd)
  (h:∀ (kV doc pm:Value) (an:Option Addr) (cdv ct:Value) (us:List Value),us.length=ps.length->bindArgs (W.fnOf x qual (f9 st) (bZ st) (aF st) .none kV doc pm an cdv ct) ⟨us,[]⟩=pure (ps.zip us)):Binds K fd ps []:=by
 obtain⟨oc,od,kV,doc,pm,an,cdv,ct,osl,rfl,lk,hcd⟩:=F.ex
 exact .all (h kV doc pm an cdv ct)
theorem sj{x qual:Str}{st:Stmt}{f:Addr}{oc:Value}{od an:Option Addr}{osl:Array (Option Value)}{kV doc pm cdv ct:Value}(l:K.lookup f=some ⟨oc,od,.func (W.fnOf x qual (f9 st) (bZ st) (aF st) .none kV doc pm an cdv ct),osl⟩)
  (c:W.codeIn K cdv qual=true) (k:W.keepIn K (.ref f)=true):GR K x qual st f (W.fnOf x qual (f9 st) (bZ st) (aF st) .none kV doc pm an cdv ct):=⟨⟨oc,od,kV,doc,pm,an,cdv,ct,osl,rfl,l,c⟩,k⟩
end
section
variable {X:Cx}
end
theorem uF{A B:Prop}(h:B):if false=true then A else B:=by
 rw[if_neg Bool.false_ne_true]
 exact h
theorem u5{A B:Prop}(h:A):if true=true then A else B:=by
 rw[if_pos rfl]
 exact h
def aR(H H':Hp):Prop:=∀b o,H b=some o->H' b=some o
theorem aR.refl(H:Hp):aR H H:=fun _ _ h=>h
theorem aR.trans{H H1 H2:Hp}(a:aR H H1)(b:aR H1 H2):aR H H2:=fun c o h=>b c o (a c o h)
theorem aR.free{H H':Hp}(e:aR H H'){l:Addr}(h:H' l=Option.none):H l=Option.none:=by
 cases q:H l with
 | none=>rfl
 | some o =>
  rw[e l o q] at h
  cases h
theorem aR.seq{K:W.Frag}{H H':Hp}{a:Addr}{xs:List V}(e:aR H H')(h:gG K H a xs):gG K H' a xs:=by
 rcases h with (h|⟨o,h⟩)|h
 ·exact .inl (.inl (e _ _ h))
 ·exact .inl (.inr ⟨o,e _ _ h⟩)
 ·exact .inr h
end L2
namespace Hd
open PySem L2 PySem.Spec PyProof.Rows
noncomputable def en(P:Params)(x:String)(t:Nat)(v:Value):DictEntry:=⟨PyData.keyHash P (Str.ofString x),.str (Str.ofString x) t,v⟩
noncomputable def fo(x:Str)(st:Stmt)(pm:Value)(c:Addr):Obj:=⟨.type "function",none,.func (W.fnOf x x (f9 st) (bZ st) (aF st) .none .none .none pm none (.ref c) .none),#[]⟩
noncomputable def co(vs:List Value):Obj:=⟨.type "code",none,.fields vs.toArray,#[]⟩
noncomputable def rfV(n:Nat):Value:=if n=0 then .none else .ref n
noncomputable def cdo(x:Str)(t l n a b c d e f u:Nat):Obj:=co [.str x t,.str x (t+1),.str "/claim/cut.py" (t+2),.int l 0,.int n 0,.int 0 0,.int 0 0,.int 3 0,rfV a,.bool true,.int 181 0,rfV b,rfV c,rfV d,rfV e,rfV f,.int u 0,.int l 0,.str "/claim/cut.py" (u+1)]
theorem lf_all{S A B C D E F J O:Type}{x:Option S}{f:S->A×B×C×D×E×F×J}{o:S->O}{g:A×B×C×D×E×F×J}{v:O}(h0:x.map (fun s=>(f s).1)=some g.1)(h1:x.map (fun s=>(f s).2.1)=some g.2.1)(h2:x.map (fun s=>(f s).2.2.1)=some g.2.2.1)(h3:x.map (fun s=>((f s).2.2.2.1,(f s).2.2.2.2.1))=some (g.2.2.2.1,g.2.2.2.2.1))(h4:x.map (fun s=>(f s).2.2.2.2.2.1)=some g.2.2.2.2.2.1)(h5:x.map (fun s=>(f s).2.2.2.2.2.2)=some g.2.2.2.2.2.2)(h6:x.map o=some v):x.map (fun s=>(f s,o s))=some (g,v):=by
 obtain⟨a,b,c,d,e,i,j⟩:=g
 cases x with
 | none=>cases h0
 | some s =>
  simp only[zB,yL,Prod.mk.injEq] at h0 h1 h2 h3 h4 h5 h6 ⊢
  refine⟨?_,h6⟩
  generalize f s=t at *
  obtain⟨a',b',c',d',e',i',j'⟩:=t
  dsimp only at *
  obtain⟨h3,h3'⟩:=h3
  subst h0 h1 h2 h3 h3' h4 h5
  rfl
end Hd
namespace K24
open PySem L2 PySem.Spec PyProof.Rows Hd PySem.W
noncomputable abbrev top(i:Nat):Stmt:=PySem.Challenge.pw_stillflow_k24_whole_one_giver.main.body.getD i (.Pass ⟨0,0,0,0⟩)
noncomputable def vw:Program:=W.view PySem.Challenge.pw_stillflow_k24_whole_one_giver [1,2,3,4,6,7,8,9,10,11,12,13,14,15,16,17,18,19,20,21,22,23,24,25,26,27,28,29,31,32,33,34,35,36,37,38,39,40,42,43,44,45,46,47,48,49,51,52,53,54,56,57,58]
noncomputable def fZ:Value:=(.str "stillflow.worlds" 255)
noncomputable def rf:Value:=(.str "stillflow.flows" 423)
noncomputable def wb:Value:=(.str "stillflow.finding" 505)
noncomputable def HD:Value:=(.str "stillflow.listing" 576)
noncomputable def Ky:Value:=(.str "law_stillflow_k24_whole_one_giver" 605)
noncomputable def Kf(P:Params):W.Frag:=[(3,⟨.type "dict",none,.dict #[en P "__name__" 165 (.str "law_stillflow_k24_whole_one_giver" 605),en P "__doc__" 166 .none,en P "__package__" 167 .none,en P "__loader__" 168 (.builtin "__main__.__loader__#opaque"),en P "__spec__" 169 .none,en P "__annotations__" 170 (.ref 6),en P "__builtins__" 171 (.ref 4),en P "__file__" 173 (.str "/claim/cut.py" 172),en P "__cached__" 174 .none,en P "FlowError" 206 (.ref 24),en P "NoWorld" 222 (.ref 37),en P "NoPlan" 238 (.ref 49),en P "NoPlace" 254 (.ref 61),en P "MOST_PLACES" 258 (.int 4 257),en P "MOST" 260 (.int 9 259),en P "is_whole" 269 (.ref 70),en P "is_number" 277 (.ref 77),en P "is_long" 286 (.ref 84),en P "are_likes" 292 (.ref 89),en P "is_end" 300 (.ref 96),en P "is_way" 309 (.ref 103),en P "are_parts" 315 (.ref 108),en P "liked_pairs" 321 (.ref 113),en P "is_world" 327 (.ref 118),en P "through" 333 (.ref 123),en P "keeps_amounts" 339 (.ref 128),en P "is_plan" 345 (.ref 133),en P "check_world" 352 (.ref 140),en P "check_plan" 360 (.ref 147),en P "check_whole" 369 (.ref 154),en P "check_number" 377 (.ref 161),en P "check_side" 384 (.ref 168),en P "check_place" 393 (.ref 175),en P "replaced" 402 (.ref 182),en P "turned_order" 410 (.ref 189),en P "turned" 416 (.ref 194),en P "turned_plan" 422 (.ref 199),en P "sent" 433 (.ref 206),en P "taken" 442 (.ref 213),en P "ways_of" 448 (.ref 218),en P "chosen_by" 454 (.ref 223),en P "choice" 464 (.ref 230),en P "wants_more" 470 (.ref 235),en P "why_kept" 479 (.ref 242),en P "first_leaving" 488 (.ref 249),en P "is_still" 496 (.ref 256),en P "rests" 504 (.ref 263),en P "chosen_by_all" 512 (.ref 268),en P "limits" 518 (.ref 273),en P "lowered" 527 (.ref 280),en P "refused" 539 (.ref 287),en P "steps" 549 (.ref 294),en P "capped" 560 (.ref 301),en P "givers_best" 567 (.ref 308),en P "takers_best" 575 (.ref 315),en P "is_single" 584 (.ref 322),en P "through_all" 590 (.ref 327),en P "totals" 598 (.ref 334),en P "short" 604 (.ref 339),en P "_law_cell" 614 (.ref 346),en P "_law_drawn" 624 (.ref 353),en P "law" 630 (.ref 358)] 62,#[]⟩),
 (69,cdo "is_whole" 261 13 3 64 65 0 66 67 68 267),
 (70,fo "is_whole" (top 8) fZ 69),
 (76,cdo "is_number" 270 17 2 71 72 0 73 74 75 275),
 (77,fo "is_number" (top 9) fZ 76),
 (83,cdo "is_long" 278 19 3 78 79 0 80 81 82 284),
 (84,fo "is_long" (top 10) fZ 83),
 (88,cdo "are_likes" 287 21 2 85 86 0 0 0 87 290),
 (89,fo "are_likes" (top 11) fZ 88),
 (95,cdo "is_end" 293 27 2 90 91 0 92 93 94 298),
 (96,fo "is_end" (top 12) fZ 95),
 (102,cdo "is_way" 301 29 3 97 98 0 99 100 101 307),
 (103,fo "is_way" (top 13) fZ 102),
 (107,cdo "are_parts" 310 33 3 104 105 0 0 0 106 313),
 (108,fo "are_parts" (top 14) fZ 107),
 (112,cdo "liked_pairs" 316 41 1 109 110 0 0 0 111 319),
 (113,fo "liked_pairs" (top 15) fZ 112),
 (117,cdo "is_world" 322 46 1 114 115 0 0 0 116 325),
 (118,fo "is_world" (top 16) fZ 117),
 (122,cdo "through" 328 53 4 119 120 0 0 0 121 331),
 (123,fo "through" (top 17) fZ 122),
 (127,cdo "keeps_amounts" 334 55 3 124 125 0 0 0 126 337),
 (128,fo "keeps_amounts" (top 18) fZ 127),
 (132,cdo "is_plan" 340 57 2 129 130 0 0 0 131 343),
 (133,fo "is_plan" (top 19) fZ 132),
 (139,cdo "check_world" 346 64 1 134 135 0 136 137 138 350),
 (140,fo "check_world" (top 20) fZ 139),
 (146,cdo "check_plan" 353 67 2 141 142 0 143 144 145 358),
 (147,fo "check_plan" (top 21) fZ 146),
 (153,cdo "check_whole" 361 71 3 148 149 0 150 151 152 367),
 (154,fo "check_whole" (top 22) fZ 153),
 (160,cdo "check_number" 370 74 2 155 156 0 157 158 159 375),
 (161,fo "check_number" (top 23) fZ 160),
 (167,cdo "check_side" 378 76 1 162 163 0 164 165 166 382),
 (168,fo "check_side" (top 24) fZ 167),
 (174,cdo "check_place" 385 78 3 169 170 0 171 172 173 391),
 (175,fo "check_place" (top 25) fZ 174),
 (181,cdo "replaced" 394 81 3 176 177 0 178 179 180 400),
 (182,fo "replaced" (top 26) fZ 181),
 (188,cdo "turned_order" 403 83 1 183 184 0 185 186 187 408),
 (189,fo "turned_order" (top 27) fZ 188),
 (193,cdo "turned" 411 86 1 190 191 0 0 0 192 414),
 (194,fo "turned" (top 28) fZ 193),
 (198,cdo "turned_plan" 417 90 2 195 196 0 0 0 197 420),
 (199,fo "turned_plan" (top 29) fZ 198),
 (205,cdo "sent" 425 94 3 200 201 0 202 203 204 431),
 (206,fo "sent" (top 31) rf 205),
 (212,cdo "taken" 434 98 3 207 208 0 209 210 211 440),
 (213,fo "taken" (top 32) rf 212),
 (217,cdo "ways_of" 443 102 3 214 215 0 0 0 216 446),
 (218,fo "ways_of" (top 33) rf 217),
 (222,cdo "chosen_by" 449 107 4 219 220 0 0 0 221 452),
 (223,fo "chosen_by" (top 34) rf 222),
 (229,cdo "choice" 455 114 4 224 225 0 226 227 228 462),
 (230,fo "choice" (top 35) rf 229),
 (234,cdo "wants_more" 465 118 4 231 232 0 0 0 233 468),
 (235,fo "wants_more" (top 36) rf 234),
 (241,cdo "why_kept" 471 125 3 236 237 0 238 239 240 477),
 (242,fo "why_kept" (top 37) rf 241),
 (248,cdo "first_leaving" 480 133 2 243 244 0 245 246 247 486),
 (249,fo "first_leaving" (top 38) rf 248),
 (255,cdo "is_still" 489 138 2 250 251 0 252 253 254 494),
 (256,fo "is_still" (top 39) rf 255),
 (262,cdo "rests" 497 140 2 257 258 0 259 260 261 502),
 (263,fo "rests" (top 40) rf 262),
 (267,cdo "chosen_by_all" 507 144 3 264 265 0 0 0 266 510),
 (268,fo "chosen_by_all" (top 42) wb 267),
 (272,cdo "limits" 513 150 1 269 270 0 0 0 271 516),
 (273,fo "limits" (top 43) wb 272),
 (279,cdo "lowered" 519 152 3 274 275 0 276 277 278 525),
 (280,fo "lowered" (top 44) wb 279),
 (286,cdo "refused" 528 154 2 281 282 0 283 284 285 537),
 (287,fo "refused" (top 45) wb 286),
 (293,cdo "steps" 540 161 1 288 289 0 290 291 292 547),
 (294,fo "steps" (top 46) wb 293),
 (300,cdo "capped" 550 170 2 295 296 0 297 298 299 558),
 (301,fo "capped" (top 47) wb 300),
 (307,cdo "givers_best" 561 175 1 302 303 0 304 305 306 565),
 (308,fo "givers_best" (top 48) wb 307),
 (314,cdo "takers_best" 568 178 1 309 310 0 311 312 313 573),
 (315,fo "takers_best" (top 49) wb 314),
 (321,cdo "is_single" 578 182 1 316 317 0 318 319 320 582),
 (322,fo "is_single" (top 51) HD 321),
 (326,cdo "through_all" 585 184 3 323 324 0 0 0 325 588),
 (327,fo "through_all" (top 52) HD 326),
 (333,cdo "totals" 591 186 1 328 329 0 330 331 332 596),
 (334,fo "totals" (top 53) HD 333),
 (338,cdo "short" 599 189 2 335 336 0 0 0 337 602),
 (339,fo "short" (top 54) HD 338),
 (345,cdo "_law_cell" 607 195 2 340 341 0 342 343 344 612),
 (346,fo "_law_cell" (top 56) Ky 345),
 (352,cdo "_law_drawn" 615 199 3 347 348 0 349 350 351 622),
 (353,fo "_law_drawn" (top 57) Ky 352),
 (357,cdo "law" 625 203 1 354 355 0 0 0 356 628),
 (358,fo "law" (top 58) Ky 357)]
noncomputable def hk:W.Hook:=W.kmHook Kf [3,69,70,76,77,83,84,88,89,95,96,102,103,107,108,112,113,117,118,122,123,127,128,132,133,139,140,146,147,153,154,160,161,167,168,174,175,181,182,188,189,193,194,198,199,205,206,212,213,217,218,222,223,229,230,234,235,241,242,248,249,255,256,262,263,267,268,272,273,279,280,286,287,293,294,300,301,307,308,314,315,321,322,326,327,333,334,338,339,345,346,352,353,357,358] (fun _=>rfl) [184,215]
noncomputable abbrev rn(w:World):=openEnds treeTable PySem.Challenge.pw_stillflow_k24_whole_one_giver w 6000
noncomputable abbrev sn(s:Shared):=openSeen vw [] (importedModules PySem.Challenge.pw_stillflow_k24_whole_one_giver.main.body) (fun s=>xlAt vw [] s&&recOk [] s) true s
noncomputable abbrev gd:=openGood vw []
theorem Nc(w:World):(rn w).map (fun s=>(sn s).1)=some (gd.1):=by kernel_rfl
theorem Nz(w:World):(rn w).map (fun s=>(sn s).2.1)=some (gd.2.1):=by kernel_rfl
theorem Nd(w:World):(rn w).map (fun s=>(sn s).2.2.1)=some (gd.2.2.1):=by kernel_rfl
theorem Nk(w:World):(rn w).map (fun s=>((sn s).2.2.2.1,(sn s).2.2.2.2.1))=some ((gd.2.2.2.1,gd.2.2.2.2.1)):=by kernel_rfl
theorem Nr(w:World):(rn w).map (fun s=>(sn s).2.2.2.2.2.1)=some (gd.2.2.2.2.2.1):=by kernel_rfl
theorem Np(w:World):(rn w).map (fun s=>(sn s).2.2.2.2.2.2)=some (gd.2.2.2.2.2.2):=by kernel_rfl
theorem Nu(w:World):(rn w).map (fun s=>hk.obs s)=some (hk.val w):=by kernel_rfl
theorem left:LeftO PySem.Challenge.pw_stillflow_k24_whole_one_giver vw [] (fun s=>xlAt vw [] s&&recOk [] s) hk.obs hk.val 6000:=fun w=>lf_all (Nc w) (Nz w) (Nd w) (Nk w) (Nr w) (Np w) (Nu w)
theorem MR:PySem.Challenge.rw_stillflow_k24_whole_one_giver.wellSaid=true:=by kernel_rfl
end K24
namespace L2
open PySem PySem.Spec PyProof.Rows
theorem bN:∀ (names:List (Str×NameKind)) (n:Nat) (acc:List (Str×Addr)),cellsFrom n names acc=cellsFrom n names []++acc
 | [],_,_=>rfl
 | (name,kind)::r,n,acc=>by
  unfold cellsFrom
  split
  ·rw[bN r (n+1) ((name,n)::acc),bN r (n+1) [(name,n)]]
   simp
  ·exact bN r n acc
theorem i3{α:Type}{x:Str}{c:α}:∀ {l m:List (Str×α)},(l++m).lookup x=some c->l.lookup x=some c\/(l.lookup x=none/\m.lookup x=some c)
 | [],_,h=>.inr ⟨rfl,h⟩
 | (k,v)::r,m,h=>by
  have ih:=@i3 α x c r m
  rw[List.cons_append,yC] at h
  rw[yC]
  cases e:x == k with
  | true=>rw[e] at h;exact .inl h
  | false=>rw[e] at h;exact ih h
theorem iY{α:Type}{x:Str}{c:α}:∀ {l m:List (Str×α)},l.lookup x=some c->(l++m).lookup x=some c
 | [],_,h=>by cases h
 | (k,v)::r,m,h=>by
  have ih:=@iY α x c r m
  rw[yC] at h
  rw[List.cons_append,yC]
  cases e:x == k with
  | true=>rw[e] at h;exact h
  | false=>rw[e] at h;exact ih h
theorem il{α:Type}{x:Str}:∀ {l m:List (Str×α)},l.lookup x=none->(l++m).lookup x=m.lookup x
 | [],_,_=>rfl
 | (k,v)::r,m,h=>by
  have ih:=@il α x r m
  rw[yC] at h
  rw[List.cons_append,yC]
  cases e:x == k with
  | true=>rw[e] at h;cases h
  | false=>rw[e] at h;exact ih h
theorem fO:∀ (names:List (Str×NameKind)) (n:Nat) (x:Str) (c:Addr),(x,c)∈cellsFrom n names []->(x,NameKind.cell)∈names
 | [],_,_,_,h=>by cases h
 | (name,kind)::r,n,x,c,h=>by
  unfold cellsFrom at h
  split at h
  ·rename_i hk
   rw[bN] at h
   rcases List.mem_append.mp h with h|h
   ·exact zC _ (fO r _ x c h)
   ·have:(x,c)=(name,n):=by simpa using h
    cases this
    have:kind=.cell:=by simpa using hk
    subst this
    exact zE
  ·exact zC _ (fO r n x c h)
noncomputable def dX(env:Env):List (Str×NameKind)->List (Str×Addr)->List (Str×Addr)
 | [],acc=>acc
 | (n,k)::r,acc=>if k == .free then dX env r ((n,(env.cells.lookup n).getD 0)::acc) else dX env r acc
theorem kE(env:Env):∀ (names:List (Str×NameKind)) (acc:List (Str×Addr)),(∀x∈names,x.2=.free->∃c,env.cells.lookup x.1=some c) ->
  (forIn names acc (fun (p:Str×NameKind) (cs:List (Str×Addr))=>(if p.2 == .free then (do let a <- cellOf env p.1;pure (.yield ((p.1,a)::cs))) else pure (.yield cs):Sem (ForInStep (List (Str×Addr))))))=pure (dX env names acc)
 | [],acc,_=>rfl
 | (n,k)::r,acc,h=>by
  rw[List.forIn_cons]
  have hr:=fun x hx=>h x (zC _ hx)
  unfold dX
  by_cases hk:k=.free
  ·obtain⟨c,hc⟩:=h (n,k) zE hk
   subst hk
   have e1:cellOf env n=pure c:=by
    have hc':env.cells.lookup n=some c:=hc
    unfold cellOf;rw[hc']
   have hc':env.cells.lookup n=some c:=hc
   simp only[beq_self_eq_true,if_true,e1,pure_bind,hc',Option.getD_some]
   exact kE env r _ hr
  ·have hb:(k == NameKind.free)=false:=by simpa using hk
   simp only[hb,Bool.false_eq_true,if_false,pure_bind]
   exact kE env r _ hr
theorem kG{env:Env}{scope:Scope}(h:∀x∈scope.names,x.2=.free->∃c,env.cells.lookup x.1=some c):closureFor scope env=pure (dX env scope.names []):=by
 have:=kE env scope.names [] h
 unfold closureFor
 exact (bind_pure _).trans this
theorem jS{env:Env}:∀ {names:List (Str×NameKind)}{acc:List (Str×Addr)},(∀x∈names,x.2=.free->∃c,env.cells.lookup x.1=some c)->(∀x c,(x,c)∈acc->env.cells.lookup x=some c) ->
  ∀x c,(x,c)∈dX env names acc->env.cells.lookup x=some c
 | [],acc,_,ha,x,c,hm=>ha x c hm
 | (n,k)::r,acc,h,ha,x,c,hm=>by
  unfold dX at hm
  have hr:=fun x hx=>h x (zC _ hx)
  split at hm
  ·rename_i hk
   have hk':k=.free:=by simpa using hk
   obtain⟨c',hc⟩:=h (n,k) zE hk'
   have hc:env.cells.lookup n=some c':=hc
   refine jS hr (fun y d hy=>?_) x c hm
   rcases zR.mp hy with e|hy
   ·cases e;rw[hc];rfl
   ·exact ha y d hy
  ·exact jS hr ha x c hm
theorem fQ{env:Env}:∀ {names:List (Str×NameKind)}{acc:List (Str×Addr)}{x:Str},(names.lookup x=some .free\/∃c,acc.lookup x=some c)->∃c,(dX env names acc).lookup x=some c
 | [],acc,x,h=>by
  rcases h with h|h
  ·cases h
  ·exact h
 | (n,k)::r,acc,x,h=>by
  unfold dX
  split
  ·rename_i hk
   refine fQ ?_
   rcases h with h|⟨c,h⟩
   ·rw[yC] at h
    cases e:x == n with
    | true=>exact .inr ⟨_,by rw[yC,e]⟩
    | false=>rw[e] at h;exact .inl h
   ·refine .inr ?_
    rw[yC]
    cases e:x == n with
    | true=>exact⟨_,rfl⟩
    | false=>exact⟨c,h⟩
  ·rename_i hk
   refine fQ ?_
   rcases h with h|h
   ·rw[yC] at h
    cases e:x == n with
    | true =>
     rw[e] at h
     cases h
     exact absurd rfl hk
    | false=>rw[e] at h;exact .inl h
   ·exact .inr h
theorem lG{env:Env}:∀ {names:List (Str×NameKind)}{x:Str}{k:NameKind},names.lookup x=some k ->
  (names.map fun (n,k)=>if (k == NameKind.free&&env.scope.kind == .function&&env.kindOf n == some .cell) then (n,NameKind.cell) else (n,k)).lookup x=some (if (k == NameKind.free&&env.scope.kind == .function&&env.kindOf x == some .cell) then NameKind.cell else k)
 | [],_,_,h=>by cases h
 | (n,k)::r,x,k',h=>by
  have ih:=@lG env r x k'
  rw[zI]
  dsimp only
  cases hx:x == n with
  | true =>
   have e:x=n:=by simpa using hx
   subst e
   rw[yC,hx] at h
   cases h
   split<;>simp[yC, *]
  | false =>
   rw[yC,hx] at h
   have ih:=ih h
   split
   ·rw[yC,hx];exact ih
   ·rw[yC,hx];exact ih
theorem mS{env:Env}:∀ {names:List (Str×NameKind)}{x:Str},names.lookup x=none ->
  (names.map fun (n,k)=>if (k == NameKind.free&&env.scope.kind == .function&&env.kindOf n == some .cell) then (n,NameKind.cell) else (n,k)).lookup x=none
 | [],_,h=>rfl
 | (n,k)::r,x,h=>by
  have ih:=@mS env r x
  rw[zI]
  dsimp only
  cases hx:x == n with
  | true=>rw[yC,hx] at h;cases h
  | false =>
   rw[yC,hx] at h
   split
   ·rw[yC,hx];exact ih h
   ·rw[yC,hx];exact ih h
noncomputable def eH(X:Cx)(scope:Scope)(C:Addr):Env :=
 { scope:=relabel scope X.env,locals:=C,globals:=X.env.globals,cells:=cellsFrom (C+1) scope.names (dX X.env scope.names []),qual:=X.env.qual,func:=none,code:=X.env.code,frame:=X.env.frame,builtins:=X.env.builtins }
noncomputable def aS(X:Cx)(scope:Scope)(N:List Str)(fp:List Addr)(s:Shared)(H:Hp):Cx :=
 { X with N:=N,s₀:=s,H₀:=H,env:=eH X scope s.heap.objs.size,outer:=X.stack,ex:=fp,fn:=fun x=>decide (scope.names.lookup x=some .cell),pn:=[],xe:=fun _ _=>False }
theorem wU{M:Model}{A:Around}{E:Value->Shared->Prop}{s:Shared}{scope:Scope}{globals:Addr}{cl:List (Str×Addr)}{qual:Str}{env:Env}{Q:Env->Shared->Prop}
  (hQ:∀h',h'.Ns s.heap.objs.size (fun _=>none)->(∀b o,s.heap.get? b=some o->h'.get? b=some o)->CellsOk h' (s.heap.objs.size+1) (cellsFrom (s.heap.objs.size+1) scope.names []) ->
   Q { scope:=scope,locals:=s.heap.objs.size,globals:=globals,cells:=cellsFrom (s.heap.objs.size+1) scope.names cl,qual:=qual,func:=none,code:=env.code,frame:=env.frame,builtins:=env.builtins } { s with heap:=h' }) :
  wpAny M A (newFunctionEnv scope globals cl [] qual none .none (some env)) Q E s:=by
 simp only[newFunctionEnv,Option.isSome_some,if_true]
 refine zW (wpAny_alloc ?_)
 refine zW (wpAny_layCells _ (fun name kind cells=>by cases hkc:kind == NameKind.cell<;>simp[hkc]) _ _ _ _ ?_)
 have ok:=cellsFrom_ok scope.names (s.heap.push { cls:=.type "dict",data:=.dict #[] }) (s.heap.objs.size+1) [] ⟨fun _ _ hm=>(nomatch hm),List.Pairwise.nil⟩ (by rw[Heap.size_push];exact Nat.le_refl _)
 rw[Heap.size_push] at ok
 rw[show ({ s with heap:=s.heap.push { cls:=.type "dict",data:=.dict #[] } }:Shared).heap.objs.size=s.heap.objs.size+1 from Heap.size_push ..]
 rw[List.forIn_nil]
 refine zW (zX (zX ?_))
 exact hQ _ ((Heap.Ns.new s.heap (.type "dict")).keeps (pushCells_keeps _ _)) (fun b o e=>pushCells_keeps _ _ b o (zV _ e)) ok
section
variable {X:Cx}{pins:List (Addr×Obj)}{σ σ':St}{H:Hp}{s:Shared}{fp:List Addr}{scope:Scope}{N:List Str}{h4:Heap}
theorem jm(ok:X.Ok)(hfree:∀x∈scope.names,x.2=.free->X.env.kindOf x.1=some .cell\/X.env.kindOf x.1=some .free):∀x∈scope.names,x.2=.free->∃c,X.env.cells.lookup x.1=some c :=
 fun x hx hk=>ok.has x.1 (hfree x hx hk)
theorem mh{C:Addr}{x:Str}{k:NameKind}(h:scope.names.lookup x=some k):(eH X scope C).kindOf x=some k\/(k=.free/\(eH X scope C).kindOf x=some .cell):=by
 have q:=lG (env:=X.env) h
 have q':(eH X scope C).kindOf x=some (if (k == NameKind.free&&X.env.scope.kind == .function&&X.env.kindOf x == some .cell) then NameKind.cell else k):=q
 rw[q']
 split
 ·rename_i hc
  have:k=.free:=by
   simp only[zF,beq_iff_eq] at hc
   exact hc.1.1
  exact .inr ⟨this,rfl⟩
 ·exact .inl rfl
theorem ki{C:Addr}{x:Str}{k:NameKind}(h:(eH X scope C).kindOf x=some k):scope.names.lookup x=some k\/(k=.cell/\scope.names.lookup x=some .free):=by
 cases e:scope.names.lookup x with
 | none =>
  have q:(eH X scope C).kindOf x=none:=mS (env:=X.env) e
  rw[q] at h;cases h
 | some k' =>
  rcases mh (X:=X) (C:=C) e with q|⟨q,q'⟩
  ·rw[q] at h;cases h;exact .inl rfl
  ·rw[q'] at h;cases h;subst q;exact .inr ⟨rfl,rfl⟩
theorem Ce(I:Inv X pins σ H s)(hf:∀b∈fp,ck X pins H b)(hfl:∀b∈fp,b < s.heap.objs.size)(hk:scope.kind=.function)
  (hfree:∀x∈scope.names,x.2=.free->X.env.kindOf x.1=some .cell\/X.env.kindOf x.1=some .free)
  (hns:h4.Ns s.heap.objs.size (fun _=>none)) (hkeep:∀b o,s.heap.get? b=some o->h4.get? b=some o) (hco:CellsOk h4 (s.heap.objs.size+1) (cellsFrom (s.heap.objs.size+1) scope.names []))
  (hdup:∀ {x:Str},(x,NameKind.cell)∈scope.names->(x,NameKind.free)∈scope.names->False) (hcap:∀ (i:Nat) (x:Str) (v:V),N[i]?=some x->σ'[i]?=some (some v)->scope.names.lookup x=some .free/\∃j:Nat,X.N[j]?=some x/\σ[j]?=some (some v)) (hlen:σ'.length=N.length) (t':Nat) :
  Inv (aS X scope N fp s H) [] σ' H { s with heap:=h4,toks:=t' }:=by
 have hcl:=jm I.ok hfree
 have clx:∀x c,(dX X.env scope.names []).lookup x=some c->X.env.cells.lookup x=some c:=fun x c e=>jS hcl (fun _ _ z=>by cases z) x c (mem_of_lookup e)
 have look:∀x c,(eH X scope s.heap.objs.size).cells.lookup x=some c->(x,c)∈cellsFrom (s.heap.objs.size+1) scope.names []\/X.env.cells.lookup x=some c:=fun x c e=>by
  have e:(cellsFrom (s.heap.objs.size+1) scope.names (dX X.env scope.names [])).lookup x=some c:=e
  rw[bN] at e
  rcases i3 e with q|⟨_,q⟩
  ·exact .inl (mem_of_lookup q)
  ·exact .inr (clx x c q)
 have old:∀x c,X.env.cells.lookup x=some c->c < s.heap.objs.size:=fun x c e=>let ⟨_,q⟩:=I.cell x c e;q.lt
 have new:∀x c,(x,c)∈cellsFrom (s.heap.objs.size+1) scope.names []->s.heap.objs.size < c:=fun x c e=>(hco.empty x c e).2
 refine⟨⟨I.ok.mod,?_,I.ok.glob,I.ok.blt,Nat.le_refl _,?_,?_,?_,I.ok.hd,I.ok.frames,.inl rfl,?_,I.bs,yE I.ok.bsz I.sz,?_,?_,I.stack,I.stkFree⟩,rfl,I.bare,Un.kept hkeep,⟨_,hns,?_⟩,?_,I.hok.fresh (Nat.le_refl _),?_,
  fun p hp=>absurd (show p∈([]:List (Addr×Obj)) from hp) (by simp),I.hok.kept hkeep,hlen⟩
 ·show (relabel scope X.env).kind=_
  exact hk
 ·intro x y c e1 e2
  rcases look x c e1 with a|a<;>rcases look y c e2 with b|b
  ·exact name_of_addr hco.apart a b
  ·exact absurd (Nat.lt_trans (new x c a) (old y c b)) (Nat.lt_irrefl _)
  ·exact absurd (Nat.lt_trans (new y c b) (old x c a)) (Nat.lt_irrefl _)
  ·exact I.ok.inj x y c a b
 ·intro x hx
  show ∃c,(cellsFrom (s.heap.objs.size+1) scope.names (dX X.env scope.names [])).lookup x=some c
  refine Option.isSome_iff_exists.mp (W.cellsFrom_some _ _ _ ?_)
  rcases hx with hx|hx
  ·rcases ki hx with q|⟨_,q⟩
   ·exact .inl q
   ·exact .inr (Option.isSome_iff_exists.mpr (fQ (.inl q)))
  ·rcases ki hx with q|⟨q,_⟩
   ·exact .inr (Option.isSome_iff_exists.mpr (fQ (.inl q)))
   ·cases q
 ·intro x c hfn e
  have hfn:scope.names.lookup x=some .cell:=of_decide_eq_true hfn
  have e:(cellsFrom (s.heap.objs.size+1) scope.names (dX X.env scope.names [])).lookup x=some c:=e
  obtain⟨c',hc'⟩:=n8 (n:=s.heap.objs.size+1) hfn
  rw[bN,iY hc'] at e
  cases e
  exact Nat.le_of_lt (new x c (mem_of_lookup hc'))
 ·intro b hb
  refine⟨Nat.ne_of_lt (hfl b hb),fun x c e z=>?_⟩
  rcases look x c e with a|a
  ·exact absurd (Nat.lt_trans (new x c a) (by rw[z];exact hfl b hb)) (Nat.lt_irrefl _)
  ·exact (hf b hb).2.2.2.2.1 x c a z
 ·intro b o e hb
  obtain⟨f0,f1,f2,f3,f4,f5⟩:=hf b hb
  rcases f3 with z|z
  ·exact I.ok.noex b o e z
  ·exact absurd (zP (zZ (I.ok.bs b o e).1) z) (Nat.lt_irrefl _)
 ·intro b hb hz
  obtain⟨f0,f1,f2,f3,f4,f5⟩:=hf b hb
  rcases zR.mp (I.stkSub b hz) with z|z
  ·exact f1 z
  ·exact f2 z
 ·intro i x v e1 e2 e3
  obtain⟨hfr,j,hj,hv⟩:=hcap i x v e1 e2
  have hm:(x,NameKind.free)∈scope.names:=mem_of_lookup hfr
  obtain⟨m,hn,hl⟩:=I.loc
  have kx:=hfree _ hm rfl
  obtain⟨u,ru,lk⟩:=hl j x v hj hv (kx.elim (fun k=>.inr (.inl k)) fun k=>.inr (.inr k))
  refine⟨u,ru,.inr ⟨?_,?_⟩⟩
  ·rcases mh (X:=X) (C:=s.heap.objs.size) hfr with q|⟨_,q⟩
   ·exact .inr q
   ·exact .inl q
  ·rcases lk with ⟨k,_⟩|⟨_,c,ec,ic⟩
   ·have k:X.env.kindOf x=some .local:=k
    rcases kx with k'|k'<;>· rw[k] at k';cases k'
   ·obtain⟨c',hc'⟩:=fQ (env:=X.env) (acc:=[]) (.inl hfr)
    have e':=clx x c' hc'
    rw[ec] at e'
    cases e'
    refine⟨c,?_,ic.keeps hkeep⟩
    show (cellsFrom (s.heap.objs.size+1) scope.names (dX X.env scope.names [])).lookup x=some c
    rw[bN]
    cases eo:(cellsFrom (s.heap.objs.size+1) scope.names []).lookup x with
    | none=>rw[il eo];exact hc'
    | some d =>
     have hcm:=fO _ _ _ _ (mem_of_lookup eo)
     exact (hdup hcm hm).elim
 ·intro x c e
  rcases look x c e with a|a
  ·exact⟨_,(hco.empty x c a).1⟩
  ·obtain⟨v,q⟩:=I.cell x c a
   exact⟨v,q.keeps hkeep⟩
 ·intro x c e
  rcases look x c e with a|a
  ·exact I.hok.fresh (Nat.le_of_lt (new x c a))
  ·exact I.freeC x c a
end
noncomputable abbrev vW(ifs:List Expr)(env:Env):Sem Bool:=forIn ifs true fun c r=>if r=true then do let ok <- isTrue c env (eval c env);pure (ForInStep.yield ok) else pure (ForInStep.yield r)
noncomputable def Kv(X:Cx)(ifs:List Expr)(t:TT):Prop :=
 ∀ (pins:List (Addr×Obj)) (s:Shared) (σ:St) (H:Hp) (Q:Bool->Hp->Prop),Inv X pins σ H s->t σ H Q->wpAny (model X.prog X.w) X.A (vW ifs X.env) (TP X pins σ Q) X.xe s
theorem E2{X:Cx}:Kv X [] (fun _ H Q=>Q true H):=fun _ _ _ H _ I h=>wpAny_tests_nil ⟨H,I,h⟩
theorem FF{X:Cx}{c:Expr}{t:TT}(h:PT X c t):Kv X [c] t:=fun pins s σ H Q I q=>wpAny_tests_one (h pins s σ H Q I q)
theorem sC{prog:Program}{w:World}{A:Around}{R:Result->Shared->Prop}{s:Shared}{elt target iter:Expr}{ifs:List Expr}{scope:Scope}{pos:Pos}{it acc:Value}{env:Env}(I:Nat->Shared->Prop)
  (turn:∀n s,I n s->wpAny (model prog w) A (pyNext it) (fun r s₁=>match r with
   | none=>R (.ok .next) s₁
   | some v=>wpAny (model prog w) A (letOwnedTupleGo target it v) (fun _ s₁'=>wpAny (model prog w) A (assign target env v) (fun _ s₂ =>
     wpAny (model prog w) A (vW ifs env) (fun ok s₃ =>
      if ok=true then wpAny (model prog w) A (eval elt env) (fun x s₄ =>
       wpAny (model prog w) A (call (.builtin "list.append") [acc,x]) (fun _ s₅=>∃m,m < n/\I m s₅) (fun _ _=>False) s₄) (fun _ _=>False) s₃
      else ∃m,m < n/\I m s₃) (fun _ _=>False) s₂) (fun _ _=>False) s₁') (fun _ _=>False) s₁) (fun _ _=>False) s)
  (n:Nat) (h:I n s) :
  codeAny (model prog w) A (.compLoop (.ListComp elt [⟨target,iter,ifs,0⟩] scope pos) 0 it acc env) R s:=by
 refine codeAny_loop rfl I (fun n s hI=>?_) n h
 show wpAny _ A ((compTurn (.ListComp elt [⟨target,iter,ifs,0⟩] scope pos) 0 it acc env).onRaise (fun x=>do noteFrame x env;theTreesLotGoes x)) _ _ s
 refine wpAny_noted ?_
 rw[compTurn_list]
 refine zW (wpAny_standAt (zW (wpAny_mono (turn n s hI) (fun r s₁ h₁=>?_) fun _ _ h'=>h'.elim)))
 cases r with
 | none=>exact zX h₁
 | some v =>
  refine zW (wpAny_mono h₁ (fun _ s₁' h₁'=>?_) fun _ _ h'=>h'.elim)
  refine zW (wpAny_mono h₁' (fun _ s₂ h₂=>zW (wpAny_mono h₂ (fun ok s₃ h₃=>?_) fun _ _ h'=>h'.elim)) fun _ _ h'=>h'.elim)
  cases ok with
  | false=>exact zX ⟨rfl,h₃⟩
  | true =>
   exact zW (zW (wpAny_mono h₃ (fun x s₄ h₄=>zW (wpAny_mono h₄ (fun _ s₅ h₅=>zX (zX ⟨rfl,h₅⟩)) fun _ _ h'=>h'.elim)) fun _ _ h'=>h'.elim))
noncomputable def yc(X:Cx)(pins:List (Addr×Obj))(σ:St)(Q:VK)(acc:Value)(C:Addr)(r:Result)(s5:Shared):Prop :=
 ∃ (D:Addr) (H5:Hp) (m:Str->Option Value),acc=.ref D/\r=.ok .next/\Inv X pins σ H5 s5/\s5.heap.Ns C m/\ck X pins H5 C/\Q (.ref D) H5
noncomputable def CG(J:It)(g:TG)(tt:TT)(te:TE)(D:Addr)(σ0:St)(H0:Hp)(Q:VK):Prop :=
 ∃W:Nat->Nat->St->Hp->Prop,(∃m,W 0 m σ0 H0)/\∀i m σ H,W i m σ H ->
  (J.stop i H/\Q (.ref D) H)\/(J.go i H/\∀x H',J.yld i H x H'->g x σ H' fun σ2 H2=>tt σ2 H2 fun b H3 =>
   if b=true then te σ2 H3 fun v H4=>∃ys,H4 D=some (.lst ys)/\ys.length < sizeLine/\∃m',m' < m/\W (i+1) m' σ2 (upd H4 D (.lst (ys++[v])))
   else ∃m',m' < m/\W (i+1) m' σ2 H3)
section
variable {X:Cx}{pins:List (Addr×Obj)}{σ σ':St}{H:Hp}{s:Shared}{scope:Scope}{N:List Str}
 {tg iter elt:Expr}{ifs:List Expr}{pos:Pos}{g:TG}{tt:TT}{te:TE}
theorem rF{J:It}{fp:List Addr}{it:Addr}{tn:Nat->Heap->Prop}{Q:VK}(hc:X.calm=true)(I:Inv X pins σ H s)(T:Turn X.prog X.w X.K tg J fp it tn)(st:tn 0 s.heap)(hf:∀b∈fp,ck X pins H b)(hk:scope.kind=.function)
  (hfree:∀x∈scope.names,x.2=.free->X.env.kindOf x.1=some .cell\/X.env.kindOf x.1=some .free) (hdup:∀ {x:Str},(x,NameKind.cell)∈scope.names->(x,NameKind.free)∈scope.names->False)
  (hcap:∀ (i:Nat) (x:Str) (v:V),N[i]?=some x->σ'[i]?=some (some v)->scope.names.lookup x=some .free/\∃j:Nat,X.N[j]?=some x/\σ[j]?=some (some v)) (hlen:σ'.length=N.length)
  (hY:∀fp s H,PG (aS X scope N fp s H) tg g/\Kv (aS X scope N fp s H) ifs tt/\PE (aS X scope N fp s H) elt te)
  (hrd:∀D,H D=none->CG J g tt te D σ' (upd H D (.lst [])) Q) {E:Value->Shared->Prop} :
  wpAny (model X.prog X.w) X.A (newList []) (fun acc s₃=>wpAny (model X.prog X.w) X.A (newFunctionEnv scope X.env.globals (dX X.env scope.names []) [] X.env.qual none .none (some X.env)) (fun cenv s₄ =>
   codeAny (model X.prog X.w) X.A (.compStart (.ListComp elt [⟨tg,iter,ifs,0⟩] scope pos) 0 (.ref it) acc { cenv with scope:=relabel scope X.env }) (yc X pins σ Q acc cenv.locals) s₄) E s₃) E s:=by
 refine wpAny_newObj_type ?_
 have hfl:∀b∈fp,b < s.heap.objs.size:=fun b hb=>let ⟨o,e,_⟩:=T.obj _ _ st b hb;zZ e
 have I3:=I.lnew (ys:=[]) (its:=[]) (t':=s.toks) .nil (Nat.zero_le _)
 have hD:H s.heap.objs.size=none:=I.fresh
 obtain⟨W,⟨m0,w0⟩,turn⟩:=hrd _ hD
 generalize e3:({ s with heap:=s.heap.push { cls:=.type "list",data:=.seq ([]:List Value).toArray },toks:=s.toks }:Shared)=s3 at I3
 have e3h:s3.heap=s.heap.push { cls:=.type "list",data:=.seq ([]:List Value).toArray }:=by rw[<- e3]
 generalize hH3:upd H s.heap.objs.size (.lst [])=H3 at I3 w0 turn
 have hlt:s.heap.objs.size < s3.heap.objs.size:=by rw[e3h,Heap.size_push];exact Nat.lt_succ_self _
 have hk3:∀b o,s.heap.get? b=some o->s3.heap.get? b=some o:=fun b o e=>by rw[e3h];exact zV _ e
 generalize s.heap.objs.size=D at *
 have f3:∀b∈fp,ck X pins H3 b:=fun b hb=>by
  obtain⟨f0,f⟩:=hf b hb
  refine⟨?_,f⟩
  rw[<- hH3,ay (Nat.ne_of_lt (hfl b hb))]
  exact f0
 have st3:tn 0 s3.heap:=T.keep _ _ _ st fun b _ o e=>hk3 b o e
 refine wU fun h4 hns hkp hco=>?_
 dsimp only
 have I4:=Ce (N:=N) (σ':=σ') (fp:=fp) I3 f3 (fun b hb=>Nat.lt_trans (hfl b hb) hlt) hk hfree hns hkp hco hdup hcap hlen s3.toks
 have fC:∀H',H' s3.heap.objs.size=none->ck X pins H' s3.heap.objs.size:=fun H' hn=>I3.fpOk (Nat.le_refl _) hn
 obtain⟨hg,htt,hte⟩:=hY fp s3 H3
 have efp:∀b∈fp,∀H':Hp,H' b=none->ck (aS X scope N fp s3 H3) [] H' b:=fun b hb H' hn=>by
  refine⟨hn,(I4.ok.exf b hb).1,I4.ok.exfs b hb,.inl hb,(I4.ok.exf b hb).2,fun p hp=>?_⟩
  cases hp
 have loop:codeAny (model X.prog X.w) X.A (.compLoop (.ListComp elt [⟨tg,iter,ifs,0⟩] scope pos) 0 (.ref it) (.ref D) (eH X scope s3.heap.objs.size)) (yc X pins σ Q (.ref D) s3.heap.objs.size) { s3 with heap:=h4 }:=by
  refine sC (fun n s'=>∃i σ' H',Inv (aS X scope N fp s3 H3) [] σ' H' s'/\tn i s'.heap/\(∀b∈fp,H' b=none)/\W i n σ' H') ?_ m0
   ⟨0,σ',H3,I4,T.keep _ _ _ st3 fun b _ o e=>hkp b o e,fun b hb=>(f3 b hb).1,w0⟩
  rintro n s5 ⟨i,σ5,H5,I5,st5,fr5,w5⟩
  rcases turn i n σ5 H5 w5 with ⟨stop,q⟩|⟨go,step⟩
  ·refine bO (T.done (aS X scope N fp s3 H3) rfl rfl rfl hc i [] s5 σ5 H5 _ I5 (fun b hb=>efp b hb H5 (fr5 b hb)) st5 stop) fun r s6 ⟨hr,I6⟩=>?_
   subst hr
   obtain⟨m,hn6,_⟩:=I6.loc
   refine⟨D,H5,m,rfl,rfl,I3.call' I6.os I6.base I6.hok I6.bare (fun b hb=>?_),hn6,fC H5 I6.free,q⟩
   obtain⟨f0,f1,f2,f4,f5,f6⟩:=f3 b hb
   exact⟨f4,f1,f5,f6⟩
  ·refine bO (T.item (aS X scope N fp s3 H3) rfl rfl rfl hc i [] s5 σ5 H5 _ I5 (fun b hb=>efp b hb H5 (fr5 b hb)) st5 go) fun r s6 ⟨u,hr,h6⟩=>?_
   subst hr
   refine bO h6 fun _ s7 ⟨x,H7,I7,r7,y7,st7,fr7⟩=>?_
   have I7':=I7.pinned (fun b hb=>efp b hb H7 (fr7 b hb)) (T.obj _ _ st7)
   have again:∀ {pl:List (Addr×Obj)}{σ9:St}{H9:Hp}{s9:Shared}{n':Nat},Inv (aS X scope N fp s3 H3) ([]++md fp s7.heap) σ9 H9 s9->W (i+1) n' σ9 H9->∃i σ' H',Inv (aS X scope N fp s3 H3) [] σ' H' s9/\tn i s9.heap/\(∀b∈fp,H' b=none)/\W i n' σ' H':=fun {pl σ9 H9 s9 n'} I9 w9=>by
    refine⟨i+1,σ9,H9,I9.unpinned,T.keep _ _ _ st7 fun b hb o e=>(I9.pin (b,o) (yF _ (yF _ (dq hb e)))).1,fun b hb=>?_,w9⟩
    obtain⟨o,e,d⟩:=T.obj _ _ st7 b hb
    exact (I9.pin (b,o) (yF _ (yF _ (dq hb e)))).2.1
   refine bO (hg _ s7 σ5 H7 x u _ I7' r7 (step x H7 y7)) fun _ s8 ⟨σ8,H8,I8,q8⟩=>?_
   refine bO (htt _ s8 σ8 H8 _ I8 q8) fun ok s9 ⟨H9,I9,q9⟩=>?_
   cases ok with
   | false =>
    rw[if_neg (by decide)] at q9
    rw[if_neg (by decide)]
    obtain⟨m',hm,w9⟩:=q9
    exact⟨m',hm,again (pl:=[]) I9 w9⟩
   | true =>
    rw[if_pos rfl] at q9
    rw[if_pos rfl]
    refine bO (hte _ s9 σ8 H9 _ I9 q9) fun y s10 ⟨v,H10,I10,r10,ys,hD10,hz,m',hm,w10⟩=>?_
    refine bO (rm (X:=aS X scope N fp s3 H3) _ s10 σ8 H10 (.ref D) [v] (.ref D) [y] (fun _ H'=>W (i+1) m' σ8 H') I10 rfl (.cons r10 .nil) ⟨D,ys,v,rfl,rfl,hD10,hz,w10⟩) fun _ s11 ⟨_,H11,I11,_,w11⟩=>?_
    exact⟨m',hm,again (pl:=[]) I11 w11⟩
 exact codeAny_compStart_list loop (T.self _ 0 _ _ _ (T.keep _ _ _ st3 fun b _ o e=>hkp b o e) loop)
end
def Cz(wi:TI)(g:TG)(tt:TT)(te:TE)(caps:St->St):TE:=fun σ H Q=>wi σ H fun J H1=>∀D,H1 D=none->CG J g tt te D (caps σ) (upd H1 D (.lst [])) Q
structure iz(X:Cx)(scope:Scope)(N:List Str)(caps:St->St):Prop where
 kind:scope.kind=.function
 free:∀x∈scope.names,x.2=.free->X.env.kindOf x.1=some .cell\/X.env.kindOf x.1=some .free
 dup:∀ {x:Str},(x,NameKind.cell)∈scope.names->(x,NameKind.free)∈scope.names->False
 loc:∀x∈scope.names,x.2=.local -> scope.names.lookup x.1=some .local
 cap:∀ (σ:St) (i:Nat) (x:Str) (v:V),N[i]?=some x->(caps σ)[i]?=some (some v)->scope.names.lookup x=some .free/\∃j:Nat,X.N[j]?=some x/\σ[j]?=some (some v)
 len:∀σ:St,(caps σ).length=N.length
section
variable {X:Cx}{scope:Scope}{N:List Str}{caps:St->St}{tg iter elt:Expr}{ifs:List Expr}{pos:Pos}{wi:TI}{g:TG}{tt:TT}{te:TE}
theorem GN(hc:X.calm=true)(S:iz X scope N caps)(hi:PI X tg iter wi)
  (hY:∀fp s H,PG (aS X scope N fp s H) tg g/\Kv (aS X scope N fp s H) ifs tt/\PE (aS X scope N fp s H) elt te)
  (hs:∀x,foldedSetIterable iter X.env x=pure x:=by intro _;rfl):PE X (.ListComp elt [⟨tg,iter,ifs,0⟩] scope pos) (Cz wi g tt te caps):=by
 intro pins s σ H Q I h
 rw[eval_ListComp]
 refine wpAny_comprehension_free (use:=none) rfl hs (kG (jm I.ok S.free)) S.kind S.loc (bO (hi pins s σ H _ I h) fun v s1 h1=>bO h1 fun itv s2 h2=>?_)
 obtain⟨it,fp,tn,J,H2,e,I2,T,st2,f2,rd⟩:=h2
 subst e
 refine bO (rF (iter:=iter) (pos:=pos) (E:=X.xe) hc I2 T st2 f2 S.kind S.free S.dup (S.cap σ) (S.len σ) hY rd) fun acc s3 h3=>bO h3 fun cenv s4 h4=>?_
 refine codeAny_mono h4 fun r s5 h5=>?_
 obtain⟨D,H5,m,rfl,rfl,I5,hn,fC,q⟩:=h5
 refine⟨m,hn,fun h' sb=>?_⟩
 obtain⟨f0,f1,f2',f3,f4,f5⟩:=fC
 exact⟨.ref D,H5,I5.turned (t':=s5.toks) (fun b o hb e=>(sb.2 b hb).trans e) f0 f1 f3 f4 f5,rfl,q⟩
theorem Fm{i:Nat}{y:Str}{py spos:Pos}(hc:X.calm=true)(S:iz X scope N caps)(hi:PI X tg iter wi)
  (hY:∀fp s H,PG (aS X scope N fp s H) tg g/\Kv (aS X scope N fp s H) ifs tt/\PE (aS X scope N fp s H) elt te)
  (hN:X.N.Nodup) (hiy:X.N[i]?=some y) (hy:X.env.scope.names.lookup y=some .local)
  (hsw:swapsWith (.ListComp elt [⟨tg,iter,ifs,0⟩] scope pos) (some (.Name y py)) spos.line X.env=pure true)
  (hs:∀x,foldedSetIterable iter X.env x=pure x:=by intro _;rfl):PS X (.Assign [.Name y py] (.ListComp elt [⟨tg,iter,ifs,0⟩] scope pos) spos) (CT (Cz wi g tt te caps) (vP i)):=by
 intro pins s σ H D I h
 rw[exec_Assign_Name_used _ _ _ _ hsw]
 refine zW (wpAny_standAt (zW ?_))
 show wpAny _ X.A (do let _ <- comprehension (.ListComp elt [⟨tg,iter,ifs,0⟩] scope pos) scope X.env _ (newList []) false (eval iter X.env) (some (assign (.Name y py) X.env))) _ _ s
 refine zW (wpAny_mono (wpAny_comprehension_free (use:=some (assign (.Name y py) X.env)) (Q:=fun _ s'=>SP X pins D .next s') rfl hs (kG (jm I.ok S.free)) S.kind S.loc
  (bO (hi pins s σ H _ I h) fun v s1 h1=>bO h1 fun itv s2 h2=>?_)) (fun _ s' hq=>zX (zX hq)) fun _ _ e=>e)
 obtain⟨it,fp,tn,J,H2,e,I2,T,st2,f2,rd⟩:=h2
 subst e
 refine bO (rF (iter:=iter) (pos:=pos) (E:=X.xe) hc I2 T st2 f2 S.kind S.free S.dup (S.cap σ) (S.len σ) hY rd) fun acc s3 h3=>bO h3 fun cenv s4 h4=>?_
 refine codeAny_mono h4 fun r s5 h5=>?_
 obtain⟨D',H5,m,rfl,rfl,I5,hn,fC,q⟩:=h5
 show wpAny _ X.A (assign (.Name y py) X.env (.ref D')) _ _ _
 refine wpAny_assign_Name (rz (v:=.ref D') I5 hN hiy (.inl hy) rfl (fun s6 I6 ⟨a,sa,ha⟩=>?_) (.inr hy))
 obtain⟨f0,f1,f2',f3,f4,f5⟩:=fC
 have hne:cenv.locals≠a:=by
  rcases ha with z|z
  ·rw[z];exact f1
  ·exact fun w=>f4 y a z w.symm
 refine⟨m,hn.sameBut sa hne,fun h' sb=>?_⟩
 exact⟨_,H5,I6.turned (t':=s6.toks) (fun b o hb e=>(sb.2 b hb).trans e) f0 f1 f3 f4 f5,q⟩
end
noncomputable abbrev Mn(X:Cx)(qual:Str)(scope:Scope)(f c L:Addr):Env:=W.envX qual scope L f (.ref c) (dX X.env scope.names [])
noncomputable def gh(X:Cx)(A:Around)(qual:Str)(scope:Scope)(N:List Str)(f c:Addr)(s:Shared)(H:Hp):Cx where
 prog:=X.prog
 w:=X.w
 K:=X.K
 mg:=X.mg
 base:=X.base
 A:=A.deeper (Mn X qual scope f c s.heap.objs.size)
 N:=N
 s₀:=s
 H₀:=H
 env:=Mn X qual scope f c s.heap.objs.size
 outer:=X.stack
 stack:=Mn X qual scope f c s.heap.objs.size::X.stack
 ex:=[]
 fn:=fun _=>false
 calm:=true
 pn:=[]
 xe:=fun _ _=>False
section
variable {X:Cx}{pins:List (Addr×Obj)}{σ:St}{H:Hp}{s:Shared}{scope:Scope}{N:List Str}{h1:Heap}{A:Around}{caps:St->St}{p qual:Str}{f c:Addr}{u:Value}{v:V}
theorem EU(I:Inv X pins σ H s)(hd:A.handled=none)(hA:A.frames=some X.stack)(S:iz X scope N caps)(hnc:∀x∈scope.names,x.2≠.cell)(hN0:N[0]?=some p)(hp:scope.names.lookup p=some .local)(hNd:N.Nodup)(r:RelV v u)
  (hns:h1.Ns s.heap.objs.size (fun x=>[(p,u)].reverse.lookup x)) (hkeep:∀b o,s.heap.get? b=some o->h1.get? b=some o) (t':Nat) :
  Inv (gh X A qual scope N f c s H) [] ((caps σ).set 0 (some v)) H { s with heap:=h1,toks:=t' }:=by
 have hcl:=jm I.ok S.free
 have clx:∀x c,(dX X.env scope.names []).lookup x=some c->X.env.cells.lookup x=some c:=fun x c e=>jS hcl (fun _ _ z=>by cases z) x c (mem_of_lookup e)
 have noA:∀b:Addr,b∉(gh X A qual scope N f c s H).ex:=fun b z=>absurd (show b∈([]:List Addr) from z) (by simp)
 refine⟨⟨I.ok.mod,S.kind,rfl,rfl,Nat.le_refl _,fun x y d e1 e2=>I.ok.inj x y d (clx x d e1) (clx y d e2),fun x hx=>?_,fun x d z=>?_,fun _=>hd,Around.frames_deeper hA,.inr ⟨rfl,rfl⟩,fun b z=>absurd z (noA b),I.bs,yE I.ok.bsz I.sz,fun b _ _=>noA b,fun b z=>absurd z (noA b),I.stack,I.stkFree⟩,
  rfl,I.bare,Un.kept hkeep,⟨_,hns,fun i x w e1 e2 e3=>?_⟩,fun x d e=>?_,I.hok.fresh (Nat.le_refl _),fun x d e=>I.freeC x d (clx x d e),fun q hq=>absurd (show q∈([]:List (Addr×Obj)) from hq) (by simp),I.hok.kept hkeep,?_⟩
 ·rcases hx with hx|hx
  ·exact absurd rfl (hnc _ (mem_of_lookup (show scope.names.lookup x=some .cell from hx)))
  ·exact fQ (.inl hx)
 ·cases z
 ·cases i with
  | zero =>
   have e1:N[0]?=some x:=e1
   rw[hN0] at e1
   cases e1
   have hl:0 < (caps σ).length:=by rw[S.len];exact (zU.mp hN0).1
   rw[List.getElem?_set_self hl] at e2
   cases e2
   exact⟨u,r,.inl ⟨hp,by simp⟩⟩
  | succ i =>
   have e2':(caps σ)[i+1]?=some (some w):=by
    rw[List.getElem?_set_ne (by omega)] at e2;exact e2
   obtain⟨hfr,j,hj,hv⟩:=S.cap σ (i+1) x w e1 e2'
   have hm:(x,NameKind.free)∈scope.names:=mem_of_lookup hfr
   obtain⟨m,hn,hl⟩:=I.loc
   have kx:=S.free _ hm rfl
   obtain⟨u',ru,lk⟩:=hl j x w hj hv (kx.elim (fun k=>.inr (.inl k)) fun k=>.inr (.inr k))
   refine⟨u',ru,.inr ⟨.inr hfr,?_⟩⟩
   rcases lk with ⟨k,_⟩|⟨_,c',ec,ic⟩
   ·have k:X.env.kindOf x=some .local:=k
    rcases kx with k'|k'<;>· rw[k] at k';cases k'
   ·obtain⟨c'',hc'⟩:=fQ (env:=X.env) (acc:=[]) (.inl hfr)
    have e':=clx x c'' hc'
    rw[ec] at e'
    cases e'
    exact⟨c',hc',ic.keeps hkeep⟩
 ·obtain⟨w,q⟩:=I.cell x d (clx x d e)
  exact⟨w,q.keeps hkeep⟩
 ·rw[yD];exact S.len σ
theorem uy{k:Nat}{params:Arguments}{body:Expr}{pm ctv:Value}{name:Str}{te:TE}{Q:VK}(I:Inv X pins σ H s)(hr:dS (k+1) A)(hA:A.frames=some X.stack)(S:iz X scope N caps)(hnc:∀x∈scope.names,x.2≠.cell)
  (hN0:N[0]?=some p) (hp:scope.names.lookup p=some .local) (hNd:N.Nodup) (hco:scope.isCoroutine=false) (hgen:scope.isGenerator=false)
  (hf:s.heap.get? f=some (W.kla_obj name qual params body scope (dX X.env scope.names []) pm c ctv)) (hcod:H c=some (.cod qual)) (hb:bindArgs (W.kla_fn name qual params body scope (dX X.env scope.names []) pm (.ref c) ctv) ⟨[u],[]⟩=pure [(p,u)])
  (r:RelV v u) (hY:PE (gh X A qual scope N f c s H) body te) (q:te ((caps σ).set 0 (some v)) H Q) :
  wpAny (model X.prog X.w) A (call (.ref f) [u]) (EP X pins σ Q) (fun _ _=>False) s:=by
 have hcd:s.heap.CodeRec (.ref c) qual:=I.hok c _ hcod
 refine wpAny_call (W.kla_callFunE hr.depth hf rfl hco hgen rfl hcd ?_)
 rw[hb]
 refine zX (wpAny_newFunctionEnv hnc (fun y hy=>?_) (fun h1 hns hsb=>⟨?_,?_⟩) S.kind)
 ·rw[yK.mp hy];exact hp
 ·exact I.nolimit.fresh _ hsb
 ·have hk1:∀b o,s.heap.get? b=some o->h1.get? b=some o:=fun b o e=>hsb.extBut b o (Nat.ne_of_lt (zZ e)) (zV _ e)
  have I1:=EU (qual:=qual) (f:=f) (c:=c) I hr.hd hA S hnc hN0 hp hNd r hns hk1 (s.toks+[(p,u)].length)
  refine W.kla_codeExpr (wpAny_mono (hY [] _ _ H Q I1 q) (fun w s' ⟨v',H',I',r',q'⟩=>?_) fun e s' h=>False.elim h)
  exact⟨v',H',I.call' I'.os I'.base I'.hok I'.bare (fun b z=>absurd (show b∈([]:List Addr) from z) (by simp)),r',q'⟩
end
theorem xQ{pos pos':Pos}{c v:Value}(l:List Value)(h:TriplesOk l)(e:codeAmong pos' (l++[rawInt pos.line,rawInt pos.col,c])=some v):codeAmong pos' l=some v\/v=c:=by
 fun_induction TriplesOk l with
 | case1 =>
  simp only[List.nil_append,codeAmong,rawInt] at e
  split at e
  ·cases e;exact .inr rfl
  ·cases e
 | case2 a t b u x rest ih =>
  simp only[List.cons_append,codeAmong] at e ⊢
  split at e
  ·rename_i hc;rw[if_pos hc];exact .inl e
  ·rename_i hc;rw[if_neg hc];exact ih h e
 | case3 l h1 h2=>exact h.elim
section
variable {X:Cx}{pins:List (Addr×Obj)}{σ:St}{H:Hp}{s:Shared}{scope:Scope}{N:List Str}{caps:St->St}{qual:Str}{c P:Addr}
theorem vT{params:Arguments}{body:Expr}{lpos:Pos}{Q:Value->Shared->Prop}(I:Inv X pins σ H s)(S:iz X scope N caps)(hq:X.env.qual++"<lambda>"=qual)(hcode:X.env.code=.ref c)(C:W.CodeHd X.base c P)(hT:H P=some (.tab qual))(hB:LO X.mg X.base)
  (hdef:defaultsOf params X.env=([],[]))
  (h:∀ (f c':Addr) (pm ctv:Value) (s':Shared) (H':Hp),Inv X pins σ H' s'->s'.heap.get? f=some (W.kla_obj "<lambda>" qual params body scope (dX X.env scope.names []) pm c' ctv)->H' f=none->H' c'=some (.cod qual)->aR H H'->ck X pins H' f->(∀b,H' b≠none->H b≠none\/H' b=some (.cod qual))->Q (.ref f) s') :
  wpAny (model X.prog X.w) X.A (eval (.Lambda params body scope lpos) X.env) Q X.xe s:=by
 have hcl:=kG (jm I.ok S.free)
 have hCs:=C.keeps I.bk
 have hg:s.heap.Ns mainGlobals X.mg:=by
  obtain⟨o,es,ep,e,r⟩:=I.ok.mod.glob
  exact⟨o,es,ep,I.bk _ _ e,r⟩
 have hPn:X.base.get? P=none:=by
  cases e:X.base.get? P with
  | none=>rfl
  | some o=>rw[(I.bs P o e).2] at hT;cases hT
 obtain⟨ps,hP,ht,hco⟩:=I.hok P _ hT
 have hb:s.heap.BuiltinsAt X.mg P:=by
  obtain⟨bm,o,b1,b2,b3,b4,b5⟩:=hB
  exact⟨bm,o,b1,b2,b3,(fun z=>by rw[z,hPn] at b4;cases b4),I.bk _ _ b4,b5⟩
 refine W.kla_eval hdef ?_
 rw[hq]
 cases hf:codeAmong lpos ps.toList with
 | some cv =>
  obtain⟨c',rfl,hc'⟩:=hco lpos cv hf
  refine W.kla_makeFunctionHit hcl I.ok.glob hg hcode hCs hP ht hf hb fun ctv h' tk kp hz=>?_
  have kp2:∀b o,s.heap.get? b=some o->(h'.push (W.kla_obj "<lambda>" qual params body scope (dX X.env scope.names []) ((X.mg "__name__").getD .none) c' ctv)).get? b=some o:=fun b o e=>zV _ (kp b o e)
  have hn:H h'.objs.size=none:=I.hok.fresh hz
  exact h _ c' _ ctv _ H (I.kept (t':=tk) kp2) (zY _ rfl) hn hc' (.refl _) (I.fpOk hz hn) fun b z=>.inl z
 | none =>
  have hgP:mainGlobals≠P:=fun z=>by
   obtain⟨o,es,ep,e,r⟩:=I.ok.mod.glob
   rw[z,hPn] at e;cases e
  refine W.kla_makeFunction hcl I.ok.glob hg hcode hCs hP ht hf hgP hb fun c' ctv h' tk hx hc1 hc2 hcr hP'=>?_
  have hn:H c'=none:=I.hok.fresh hc1
  have hz:s.heap.objs.size<=h'.objs.size:=Nat.le_of_lt (Nat.lt_of_le_of_lt hc1 hc2)
  have nP:∀ {b:Addr}{u:HO},H b=some u->(∀q,u≠.tab q)->b≠P:=fun {b u} e hne z=>by subst z;rw[hT] at e;cases e;exact hne _ rfl
  have kp:∀b o,b≠P->s.heap.get? b=some o->(h'.push (W.kla_obj "<lambda>" qual params body scope (dX X.env scope.names []) ((X.mg "__name__").getD .none) c' ctv)).get? b=some o:=fun b o hb e=>zV _ (hx b o hb e)
  have hPc:P≠c':=fun z=>by rw[<- z,hT] at hn;cases hn
  have up:∀b u,H b=some u->upd H c' (.cod qual) b=some u:=fun b u e=>by rw[ay (aK e hn)];exact e
  have un:Un X.fs [] H (upd H c' (.cod qual)) s.heap (h'.push (W.kla_obj "<lambda>" qual params body scope (dX X.env scope.names []) ((X.mg "__name__").getD .none) c' ctv)):=by
   refine⟨fun b o e n _ _=>kp b o (fun z=>by rw[z,hT] at n;cases n) e,fun b o e n _ _=>⟨o.slots,kp b o (fun z=>by rw[z,hT] at n;cases n) e⟩,fun b o e n _=>?_,fun b o e _=>?_,fun b xs e=>up b _ e,fun b o u e=>up b _ e,⟨fun b u e _=>up b u e,fun b q ps' e z=>?_⟩⟩
   ·rw[ay (Nat.ne_of_lt (zP (zZ e) hc1))];exact n
   ·by_cases hb:b=P
    ·subst hb;exact⟨_,zV _ hP'⟩
    ·exact⟨o,kp b o hb e⟩
   ·by_cases hb:b=P
    ·subst hb
     rw[hP] at z
     cases z
     exact⟨_,zV _ hP'⟩
    ·exact⟨#[],by rw[Array.append_empty];exact kp b _ hb z⟩
  have hok:nM X.prog X.w (upd H c' (.cod qual)) (h'.push (W.kla_obj "<lambda>" qual params body scope (dX X.env scope.names []) ((X.mg "__name__").getD .none) c' ctv)):=by
   intro b u e
   by_cases hbc:b=c'
   ·subst hbc
    rw[aC] at e
    cases e
    obtain⟨c0,oc,vs,t,e0,e1,r⟩:=hcr
    exact⟨c0,oc,vs,t,e0,zV _ e1,r⟩
   ·rw[ay hbc] at e
    by_cases hb:b=P
    ·subst hb
     rw[hT] at e
     cases e
     refine⟨_,zV _ hP',?_,fun pos v hv=>?_⟩
     ·have:=TriplesOk_snoc lpos.line lpos.col (.ref c') ps.toList ht
      simpa using this
     ·have hv':codeAmong pos (ps.toList++[rawInt lpos.line,rawInt lpos.col,.ref c'])=some v:=by simpa using hv
      rcases xQ ps.toList ht hv' with z|z
      ·obtain⟨c0,z1,z2⟩:=hco pos v z
       exact⟨c0,z1,up _ _ z2⟩
      ·exact⟨c',z,aC⟩
    ·exact (I.hok b u e).stay (fun d o hd eo=>kp d o (by
      rcases hd with rfl|hd
      ·exact hb
      ·exact nP hd fun q z=>by cases z) eo) (fun d hd=>up d _ hd) fun d o hd _=>up d _ hd
  have I':=I.un (t':=tk) un hok
  have hnf:upd H c' (.cod qual) h'.objs.size=none:=by
   rw[ay (Nat.ne_of_gt hc2)];exact I.hok.fresh hz
  refine h _ c' _ ctv _ _ I' (zY _ rfl) hnf aC up (I.fpOk hz hnf) fun b z=>?_
  by_cases hbc:b=c'
  ·subst hbc;exact .inr aC
  ·rw[ay hbc] at z;exact .inl z
end
end L2
namespace Dl
open PySem L2 PySem.Spec PyProof.Rows
noncomputable abbrev D:=PyData
mutual
noncomputable def Rep(K:W.Frag)(H:Hp):D->V->Prop
 | .none,v=>v=.non
 | .bool b,v=>v=.bl b
 | .int i,v=>v=.int i
 | .str x,v=>v=.str x
 | .tuple ds,v=>∃a vs,v=.ref a/\gT K H a vs/\ak K H ds vs
 | .list ds,v=>∃a vs,v=.ref a/\gG K H a vs/\ak K H ds vs
 | .dict _,_=>False
noncomputable def ak(K:W.Frag)(H:Hp):List D->List V->Prop
 | [],vs=>vs=[]
 | d::ds,vs=>∃v r,vs=v::r/\Rep K H d v/\ak K H ds r
end
theorem av{K:W.Frag}{H H':Hp}{a:Addr}{xs:List V}(e:aR H H')(h:gT K H a xs):gT K H' a xs:=by
 rcases h with (h|⟨o,h⟩)|h
 ·exact .inl (.inl (e _ _ h))
 ·exact .inl (.inr ⟨o,e _ _ h⟩)
 ·exact .inr h
mutual
theorem Rep.mono{K:W.Frag}{H H':Hp}(e:aR H H'):∀ {d:D}{v:V},Rep K H d v->Rep K H' d v
 | .none,_,h=>h
 | .bool _,_,h=>h
 | .int _,_,h=>h
 | .str _,_,h=>h
 | .tuple ds,_,h=>by
  simp only[Rep] at h ⊢
  obtain⟨a,vs,rfl,q,r⟩:=h
  exact⟨a,vs,rfl,av e q,ak.mono e r⟩
 | .list ds,_,h=>by
  simp only[Rep] at h ⊢
  obtain⟨a,vs,rfl,q,r⟩:=h
  exact⟨a,vs,rfl,e.seq q,ak.mono e r⟩
 | .dict _,_,h=>h
theorem ak.mono{K:W.Frag}{H H':Hp}(e:aR H H'):∀ {ds:List D}{vs:List V},ak K H ds vs->ak K H' ds vs
 | [],_,h=>h
 | d::ds,_,h=>by
  simp only[ak] at h ⊢
  obtain⟨v,r,rfl,a,b⟩:=h
  exact⟨v,r,rfl,Rep.mono e a,ak.mono e b⟩
end
section
variable {K:W.Frag}{H:Hp}
theorem ak.nil:ak K H [] []:=by simp[ak]
theorem ak.cons{d:D}{v:V}{ds:List D}{vs:List V}(a:Rep K H d v)(b:ak K H ds vs):ak K H (d::ds) (v::vs):=by
 simp only[ak];exact⟨v,vs,rfl,a,b⟩
theorem ak.cons_inv{d:D}{ds:List D}{vs:List V}(h:ak K H (d::ds) vs):∃v r,vs=v::r/\Rep K H d v/\ak K H ds r:=by simpa only[ak] using h
theorem ak.nil_inv{vs:List V}(h:ak K H [] vs):vs=[]:=by simpa only[ak] using h
theorem ak.length:∀ {ds:List D}{vs:List V},ak K H ds vs->vs.length=ds.length
 | [],_,h=>by rw[h.nil_inv];rfl
 | d::ds,_,h=>by obtain⟨v,r,rfl,_,b⟩:=h.cons_inv;simp[ak.length b]
theorem ak.get:∀ {ds:List D}{vs:List V}{i:Nat}{v:V},ak K H ds vs->vs[i]?=some v->∃d,ds[i]?=some d/\Rep K H d v
 | [],_,i,v,h,e=>by rw[h.nil_inv] at e;simp at e
 | d::ds,_,i,v,h,e=>by
  obtain⟨v',r,rfl,a,b⟩:=h.cons_inv
  cases i with
  | zero=>simp at e;subst e;exact⟨d,rfl,a⟩
  | succ i=>simp at e;obtain⟨d',h1,h2⟩:=ak.get b e;exact⟨d',by simpa using h1,h2⟩
theorem ak.getD:∀ {ds:List D}{vs:List V}{i:Nat}{d:D},ak K H ds vs->ds[i]?=some d->∃v,vs[i]?=some v/\Rep K H d v
 | [],_,i,d,h,e=>by simp at e
 | d::ds,_,i,d',h,e=>by
  obtain⟨v',r,rfl,a,b⟩:=h.cons_inv
  cases i with
  | zero=>simp at e;subst e;exact⟨v',rfl,a⟩
  | succ i=>simp at e;obtain⟨v,h1,h2⟩:=ak.getD b e;exact⟨v,by simpa using h1,h2⟩
theorem ak.append:∀ {ds es:List D}{vs us:List V},ak K H ds vs->ak K H es us->ak K H (ds++es) (vs++us)
 | [],_,_,_,h,g=>by rw[h.nil_inv];exact g
 | d::ds,_,_,_,h,g=>by obtain⟨v,r,rfl,a,b⟩:=h.cons_inv;exact ak.cons a (ak.append b g)
theorem ak.take:∀ {ds:List D}{vs:List V}(n:Nat),ak K H ds vs->ak K H (ds.take n) (vs.take n)
 | [],_,n,h=>by rw[h.nil_inv];simp[ak]
 | d::ds,_,0,h=>by simp[ak]
 | d::ds,_,n+1,h=>by obtain⟨v,r,rfl,a,b⟩:=h.cons_inv;exact ak.cons a (ak.take n b)
theorem ak.drop:∀ {ds:List D}{vs:List V}(n:Nat),ak K H ds vs->ak K H (ds.drop n) (vs.drop n)
 | [],_,n,h=>by rw[h.nil_inv];simp[ak]
 | d::ds,_,0,h=>h
 | d::ds,_,n+1,h=>by obtain⟨v,r,rfl,a,b⟩:=h.cons_inv;exact ak.drop n b
theorem ak.reverse:∀ {ds:List D}{vs:List V},ak K H ds vs->ak K H ds.reverse vs.reverse
 | [],_,h=>by rw[h.nil_inv];simp[ak]
 | d::ds,_,h=>by
  obtain⟨v,r,rfl,a,b⟩:=h.cons_inv
  rw[List.reverse_cons,List.reverse_cons]
  exact ak.append (ak.reverse b) (ak.cons a ak.nil)
end
structure bR(HF H HF' H':Hp):Prop where
 hh:aR H H'
 ff:aR HF HF'
 fh:aR HF' H'
 nw:∀a o,HF' a=some o->HF a=some o\/H a=none
theorem bR.refl{HF H:Hp}(s:aR HF H):bR HF H HF H:=⟨.refl _,.refl _,s,fun _ _ e=>.inl e⟩
theorem bR.trans{HF H HF1 H1 HF2 H2:Hp}(a:bR HF H HF1 H1)(b:bR HF1 H1 HF2 H2):bR HF H HF2 H2 :=
 ⟨a.hh.trans b.hh,a.ff.trans b.ff,b.fh,fun x o e=>(b.nw x o e).elim (fun z=>a.nw x o z) fun z=>.inr (a.hh.free z)⟩
theorem dM{H:Hp}{p:Addr}{o:HO}(h:H p=none):aR H (upd H p o):=fun b u e=>by rw[ay (aK e h)];exact e
theorem bR.new{HF H:Hp}{p:Addr}{o:HO}(s:aR HF H)(h:H p=none):bR HF H (upd HF p o) (upd H p o):=by
 have hf:HF p=none:=s.free h
 refine⟨dM h,dM hf,fun b u e=>?_,fun b u e=>?_⟩
 ·by_cases hb:b=p
  ·subst hb;rw[aC] at e ⊢;exact e
  ·rw[ay hb] at e ⊢;exact s b u e
 ·by_cases hb:b=p
  ·subst hb;exact .inr h
  ·rw[ay hb] at e;exact .inl e
theorem bR.own{HF H:Hp}{p:Addr}{o:HO}(s:aR HF H)(h:H p=none):bR HF H HF (upd H p o) :=
 ⟨dM h,.refl _,fun b u e=>by rw[ay (aK (s b u e) h)];exact s b u e,fun _ _ e=>.inl e⟩
theorem bR.freeze{HF H HF1 H1:Hp}{p:Addr}{o:HO}(g:bR HF H HF1 H1)(h:H p=none)(h1:H1 p=some o)(hf:HF1 p=none):bR HF H (upd HF1 p o) H1 :=
 ⟨g.hh,g.ff.trans (dM hf),fun b u e=>by
  by_cases hb:b=p
  ·subst hb;rw[aC] at e;rw[h1,<- e]
  ·rw[ay hb] at e;exact g.fh b u e,fun b u e=>by
  by_cases hb:b=p
  ·subst hb;exact .inr h
  ·rw[ay hb] at e;exact g.nw b u e⟩
def jH:List Str:=["ways_of","turned_order","fairest"]
def fI(K:W.Frag)(HF:Hp):Prop:=∀ (f:Addr) (oc:Value) (od:Option Addr) (fd:FuncData) (sl:Array (Option Value)) (c P:Addr),K.lookup f=some ⟨oc,od,.func fd,sl⟩->fd.qualname∈jH->fd.code=.ref c->W.codeHdIn K c P=true->HF P=some (.tab (fd.qualname++".<locals>."++"<lambda>"))
theorem fI.mono{K:W.Frag}{HF HF':Hp}(h:fI K HF)(e:aR HF HF'):fI K HF':=fun f oc od fd sl c P a b d q=>e _ _ (h f oc od fd sl c P a b d q)
noncomputable abbrev Env:=List (Option D)
structure cm(K:W.Frag)(HF:Hp)(ρ:Env)(σ:L2.St):Prop where
 get:∀ (i:Nat) (d:D),ρ[i]?=some (some d)->∃v,σ[i]?=some (some v)/\Rep K HF d v
 len:ρ.length<=σ.length
 tb:fI K HF
theorem cm.mono{K:W.Frag}{HF HF':Hp}{ρ:Env}{σ:L2.St}(h:cm K HF ρ σ)(e:aR HF HF'):cm K HF' ρ σ:=⟨fun i d q=>let ⟨v,a,b⟩:=h.get i d q;⟨v,a,b.mono e⟩,h.len,h.tb.mono e⟩
def tD(K:W.Frag)(f:Env->Option D):TE:=fun σ H Q=>∃HF ρ d,aR HF H/\cm K HF ρ σ/\f ρ=some d/\∀v H' HF',bR HF H HF' H'->Rep K HF' d v->Q v H'
def DE(X:Cx)(e:Expr)(f:Env->Option D):Prop:=PE X e (tD X.K f)
def tF(K:W.Frag)(f:Env->Option (List D)):TE:=fun σ H Q=>∃HF ρ ds,aR HF H/\cm K HF ρ σ/\f ρ=some ds /\
 ∀a vs H' HF',bR HF H HF' H'->H a=none->HF' a=none->H' a=some (.lst vs)->ak K HF' ds vs->Q (.ref a) H'
def DF(X:Cx)(e:Expr)(f:Env->Option (List D)):Prop:=PE X e (tF X.K f)
def IC(K:W.Frag)(f:Env->Option Bool):TT:=fun σ H Q=>∃HF ρ b,aR HF H/\cm K HF ρ σ/\f ρ=some b/\∀H' HF',bR HF H HF' H'->Q b H'
def DT(X:Cx)(e:Expr)(f:Env->Option Bool):Prop:=PT X e (IC X.K f)
def Ml(K:W.Frag)(f:Env->Option (List D)):TA:=fun σ H Q=>∃HF ρ ds,aR HF H/\cm K HF ρ σ/\f ρ=some ds/\∀vs H' HF',bR HF H HF' H'->ak K HF' ds vs->Q vs H'
def DA(X:Cx)(es:List Expr)(f:Env->Option (List D)):Prop:=PA X es (Ml X.K f)
section
variable {X:Cx}
theorem aN{e:Expr}{t t':TE}(h:PE X e t)(i:∀σ H Q,t' σ H Q->t σ H Q):PE X e t':=fun pins s σ H Q I q=>h pins s σ H Q I (i σ H Q q)
theorem tT{e:Expr}{t t':TT}(h:PT X e t)(i:∀σ H Q,t' σ H Q->t σ H Q):PT X e t':=fun pins s σ H Q I q=>h pins s σ H Q I (i σ H Q q)
theorem Cd{e:List Expr}{t t':TA}(h:PA X e t)(i:∀σ H Q,t' σ H Q->t σ H Q):PA X e t':=fun pos pins s σ H Q I q=>h pos pins s σ H Q I (i σ H Q q)
theorem bs{α β:Type}{x:Option α}{f:α->Option β}{b:β}(h:x.bind f=some b):∃a,x=some a/\f a=some b:=by
 cases x with
 | none=>cases h
 | some a=>exact⟨a,rfl,h⟩
theorem DF.de{e:Expr}{f:Env->Option (List D)}(h:DF X e f):DE X e (fun ρ=>(f ρ).map PyData.list):=aN h fun σ H Q ⟨HF,ρ,d,sm,eo,hf,q⟩=>by
 have hf:(f ρ).map PyData.list=some d:=hf
 cases e1:f ρ with
 | none=>rw[e1] at hf;cases hf
 | some ds =>
  rw[e1] at hf
  obtain rfl:PyData.list ds=d:=Option.some.inj hf
  refine⟨HF,ρ,ds,sm,eo,e1,fun a vs H' HF' g ha hf' h' r=>q _ _ (upd HF' a (.lst vs)) (g.freeze ha h' hf') ?_⟩
  simp only[Rep]
  exact⟨a,vs,rfl,.inl (.inl aC),r.mono (dM hf')⟩
noncomputable def ab(i:Nat):Env->Option D:=fun ρ=>(ρ[i]?).getD none
theorem J9(i:Nat){x:Str}{pos:Pos}(hN:X.N[i]?=some x)(hv:Hu X.env.scope x)(hd:(x == ("__debug__":Str))=false:=by decide)(hcd:(x == ("__classdict__":Str))=false:=by decide):DE X (.Name x pos) (ab i) :=
 aN (oi hN hv hd hcd) fun σ H Q ⟨HF,ρ,d,sm,eo,hf,q⟩=>by
  have hf:(ρ[i]?).getD none=some d:=hf
  cases e:ρ[i]? with
  | none=>rw[e] at hf;cases hf
  | some o =>
   rw[e] at hf
   have hf:o=some d:=hf
   subst hf
   obtain⟨v,a,b⟩:=eo.get i d e
   exact⟨v,a,q v H HF (.refl sm) b⟩
noncomputable def fC(d:D):Env->Option D:=fun _=>some d
theorem Ig{i j pos}:DE X (.Constant (.int i) j pos) (fC (.int i)):=aN so fun σ H Q ⟨HF,ρ,d,sm,eo,hf,q⟩=>by cases hf;exact q _ H HF (.refl sm) (by simp[Rep])
theorem LB{b j pos}:DE X (.Constant (.bool b) j pos) (fC (.bool b)):=aN LD fun σ H Q ⟨HF,ρ,d,sm,eo,hf,q⟩=>by cases hf;exact q _ H HF (.refl sm) (by simp[Rep])
theorem IA{j pos}:DE X (.Constant .none j pos) (fC .none):=aN Kn fun σ H Q ⟨HF,ρ,d,sm,eo,hf,q⟩=>by cases hf;exact q _ H HF (.refl sm) (by simp[Rep])
theorem HX{x j pos}:DE X (.Constant (.str x) j pos) (fC (.str x)):=aN Jg fun σ H Q ⟨HF,ρ,d,sm,eo,hf,q⟩=>by cases hf;exact q _ H HF (.refl sm) (by simp[Rep])
theorem Gz{x:Str}{i:Int}{t:Tok}{pos:Pos}(hg:Gl X x)(hm:X.mg x=some (.int i t))(hd:(x == ("__debug__":Str))=false:=by decide):DE X (.Name x pos) (fC (.int i)) :=
 aN (sU (v:=.int i) hg hm ⟨t,rfl⟩ hd) fun σ H Q ⟨HF,ρ,d,sm,eo,hf,q⟩=>by cases hf;exact q _ H HF (.refl sm) (by simp[Rep])
def eY(K:W.Frag)(r:R2)(g:D->D->Option D):Prop:=∀HF H x y v1 v2 d Q,aR HF H->Rep K HF x v1->Rep K HF y v2->g x y=some d->(∀v H' HF',bR HF H HF' H'->Rep K HF' d v->Q v H')->r v1 v2 H Q
noncomputable def f2(g:D->D->Option D)(f1 f2:Env->Option D):Env->Option D:=fun ρ=>(f1 ρ).bind fun x=>(f2 ρ).bind fun y=>g x y
variable {a b c:Expr}{fa fb fc:Env->Option D}{pos:Pos}
theorem Fd{r:R2}{g:D->D->Option D}(hr:eY X.K r g):∀σ H Q,tD X.K (f2 g fa fb) σ H Q->Lm r (tD X.K fa) (tD X.K fb) σ H Q:=fun σ H Q ⟨HF,ρ,d,sm,eo,hf,q⟩=>by
 obtain⟨x,hx,hf⟩:=bs hf
 obtain⟨y,hy,hg⟩:=bs hf
 exact⟨HF,ρ,x,sm,eo,hx,fun v1 H1 HF1 g1 r1=>⟨HF1,ρ,y,g1.fh,eo.mono g1.ff,hy,fun v2 H2 HF2 g2 r2=>hr HF2 H2 x y v1 v2 d Q g2.fh (r1.mono g2.ff) r2 hg fun v H' HF' g3 r3=>q v H' HF' ((g1.trans g2).trans g3) r3⟩⟩
theorem vX{op:Operator}{r:R2}{g:D->D->Option D}(ho:gD X (binaryOp op) r)(hr:eY X.K r g)(ha:DE X a fa)(hb:DE X b fb):DE X (.BinOp a op b pos) (f2 g fa fb):=aN (BD ho ha hb) (Fd hr)
theorem gJ{op:CmpOp}{r:R2}{g:D->D->Option D}(ho:gD X (compareOp op) r)(hr:eY X.K r g)(ha:DE X a fa)(hb:DE X b fb)(hm:behindInMarks op b=false):DE X (.Compare a [op] [b] pos) (f2 g fa fb):=aN (Gn ho ha hb hm) (Fd hr)
noncomputable def uo(C:Int->Int->Prop)[∀i j,Decidable (C i j)](g:Int->Int->D):D->D->Option D
 | .int i,.int j=>if C i j then some (g i j) else none
 | _,_=>none
theorem DX{K:W.Frag}{C:Int->Int->Prop}[∀i j,Decidable (C i j)]{gi:Int->Int->Int}:eY K (rI C fun i j=>.int (gi i j)) (uo C fun i j=>.int (gi i j)):=by
 intro HF H x y v1 v2 d Q sm r1 r2 hg q
 cases x<;>cases y<;>simp only[uo] at hg<;>try cases hg
 rename_i i j
 simp only[Rep] at r1 r2
 by_cases hc:C i j
 ·rw[if_pos hc] at hg
  cases hg
  exact⟨i,j,r1,r2,hc,q _ H HF (.refl sm) (by simp[Rep])⟩
 ·rw[if_neg hc] at hg;cases hg
theorem C6{K:W.Frag}{gi:Int->Int->Int}:eY K (EM fun i j=>.int (gi i j)) (uo (fun _ _=>True) fun i j=>.int (gi i j)):=by
 intro HF H x y v1 v2 d Q sm r1 r2 hg q
 cases x<;>cases y<;>simp only[uo] at hg<;>try cases hg
 rename_i i j
 simp only[Rep] at r1 r2
 exact⟨i,j,r1,r2,q _ H HF (.refl sm) (by simp[Rep])⟩
theorem gz{K:W.Frag}{gi:Int->Int->Bool}:eY K (EM fun i j=>.bl (gi i j)) (uo (fun _ _=>True) fun i j=>.bool (gi i j)):=by
 intro HF H x y v1 v2 d Q sm r1 r2 hg q
 cases x<;>cases y<;>simp only[uo] at hg<;>try cases hg
 rename_i i j
 simp only[Rep] at r1 r2
 exact⟨i,j,r1,r2,q _ H HF (.refl sm) (by simp[Rep])⟩
noncomputable instance (i j:Int):Decidable (tH i j):=by unfold tH;infer_instance
noncomputable instance (i j:Int):Decidable (Gq i j):=by unfold Gq;infer_instance
end
section
variable {X:Cx}{a b c:Expr}{fa fb fc:Env->Option D}{pos:Pos}{rest:List Expr}
noncomputable def kg(fa fb:Env->Option D):Env->Option D:=fun ρ=>(fa ρ).bind fun|.bool true=>fb ρ|.bool false=>some (.bool false)|_=>none
noncomputable def L9(fa fb:Env->Option D):Env->Option D:=fun ρ=>(fa ρ).bind fun|.bool true=>some (.bool true)|.bool false=>fb ρ|_=>none
noncomputable def Lc:D->Option D|.bool b=>some (.bool (!b))|_=>none
noncomputable def IP(fa:Env->Option D):Env->Option D:=fun ρ=>(fa ρ).bind Lc
theorem Jw{op}(h:DE X a fa):DE X (.BoolOp op [a] pos) fa:=IQ h
theorem Ib(ha:DE X a fa)(hb:DE X (.BoolOp .And (b::rest) pos) fb):DE X (.BoolOp .And (a::b::rest) pos) (kg fa fb):=aN (J4 ha hb) fun σ H Q ⟨HF,ρ,d,sm,eo,hf,q⟩=>by
 obtain⟨x,hx,hf⟩:=bs hf
 refine⟨HF,ρ,x,sm,eo,hx,fun v1 H1 HF1 g1 r1=>?_⟩
 cases x<;>try cases hf
 rename_i k
 simp only[Rep] at r1
 refine⟨k,r1,?_⟩
 cases k with
 | true=>exact u5 ⟨HF1,ρ,d,g1.fh,eo.mono g1.ff,hf,fun v H' HF' g r=>q v H' HF' (g1.trans g) r⟩
 | false=>cases hf;exact uF (q _ H1 HF1 g1 (by simp[Rep]))
theorem Lp(ha:DE X a fa)(hb:DE X (.BoolOp .Or (b::rest) pos) fb):DE X (.BoolOp .Or (a::b::rest) pos) (L9 fa fb):=aN (Ds ha hb) fun σ H Q ⟨HF,ρ,d,sm,eo,hf,q⟩=>by
 obtain⟨x,hx,hf⟩:=bs hf
 refine⟨HF,ρ,x,sm,eo,hx,fun v1 H1 HF1 g1 r1=>?_⟩
 cases x<;>try cases hf
 rename_i k
 simp only[Rep] at r1
 refine⟨k,r1,?_⟩
 cases k with
 | false=>exact uF ⟨HF1,ρ,d,g1.fh,eo.mono g1.ff,hf,fun v H' HF' g r=>q v H' HF' (g1.trans g) r⟩
 | true=>cases hf;exact u5 (q _ H1 HF1 g1 (by simp[Rep]))
theorem JW(ha:DE X a fa):DE X (.UnaryOp .Not a pos) (IP fa):=aN (Kg ha) fun σ H Q ⟨HF,ρ,d,sm,eo,hf,q⟩=>by
 obtain⟨x,hx,hf⟩:=bs hf
 refine⟨HF,ρ,x,sm,eo,hx,fun v1 H1 HF1 g1 r1=>?_⟩
 cases x<;>try cases hf
 rename_i k
 simp only[Rep] at r1
 exact⟨k,r1,q _ H1 HF1 g1 (by simp[Rep])⟩
noncomputable def gB:D->Option Bool|.bool b=>some b|_=>none
noncomputable def fB(f:Env->Option D):Env->Option Bool:=fun ρ=>(f ρ).bind gB
theorem wz{f:Env->Option D}:∀σ H (Q:Bool->Hp->Prop),IC X.K (fB f) σ H Q->tD X.K f σ H fun x H1=>∃c,x=.bl c/\Q c H1:=fun σ H Q ⟨HF,ρ,k,sm,eo,hf,q⟩=>by
 obtain⟨x,hx,hf⟩:=bs hf
 refine⟨HF,ρ,x,sm,eo,hx,fun v1 H1 HF1 g1 r1=>?_⟩
 cases x<;>try cases hf
 simp only[Rep] at r1
 exact⟨_,r1,q H1 HF1 g1⟩
theorem IE{f:Env->Option D}(h:DE X a f)(he:∀whole,isTrue a X.env whole=(do let v <- whole;standAt a.pos;holding [v] (truthy v)):=by intro _;rfl):DT X a (fB f):=tT (JI h he) wz
theorem gE{op:CmpOp}{r:R2}{g:D->D->Option D}(ho:gD X (compareOp op) r)(hr:eY X.K r g)(ha:DE X a fa)(hb:DE X b fb)(hm:behindInMarks op b=false):DT X (.Compare a [op] [b] pos) (fB (f2 g fa fb)) :=
 tT (Gy ho ha hb hm) fun σ H Q h=>Fd hr σ H _ (wz σ H Q h)
noncomputable def zv(fa fb:Env->Option Bool):Env->Option Bool:=fun ρ=>(fa ρ).bind fun|true=>fb ρ|false=>some false
noncomputable def iE(fa fb:Env->Option Bool):Env->Option Bool:=fun ρ=>(fa ρ).bind fun|true=>some true|false=>fb ρ
noncomputable def bx(fa:Env->Option Bool):Env->Option Bool:=fun ρ=>(fa ρ).map (!·)
variable {ta tb:Env->Option Bool}
def DW(X:Cx)(e:Expr)(f:Env->Option Bool):Prop:=PW X e (IC X.K f)
theorem Da{e:Expr}{t t':TT}(h:PW X e t)(i:∀σ H Q,t' σ H Q->t σ H Q):PW X e t':=fun wh pins s σ H Q I q=>h wh pins s σ H Q I (i σ H Q q)
theorem DW.dt(h:DW X a ta):DT X a ta:=PW.pt h
theorem GD(ha:DT X a ta):DW X (.BoolOp .And [a] pos) ta:=Ft ha
theorem JY(ha:DT X a ta):DW X (.BoolOp .Or [a] pos) ta:=Jm ha
theorem IR(ha:DT X a ta)(hb:DW X (.BoolOp .And (b::rest) pos) tb):DW X (.BoolOp .And (a::b::rest) pos) (zv ta tb):=Da (JM ha hb) fun σ H Q ⟨HF,ρ,d,sm,eo,hf,q⟩=>by
 obtain⟨x,hx,hf⟩:=bs hf
 refine⟨HF,ρ,x,sm,eo,hx,fun H1 HF1 g1=>?_⟩
 cases x with
 | true=>exact u5 ⟨HF1,ρ,d,g1.fh,eo.mono g1.ff,hf,fun H' HF' g=>q H' HF' (g1.trans g)⟩
 | false=>cases hf;exact uF (q H1 HF1 g1)
theorem La(ha:DT X a ta)(hb:DW X (.BoolOp .Or (b::rest) pos) tb):DW X (.BoolOp .Or (a::b::rest) pos) (iE ta tb):=Da (KR ha hb) fun σ H Q ⟨HF,ρ,d,sm,eo,hf,q⟩=>by
 obtain⟨x,hx,hf⟩:=bs hf
 refine⟨HF,ρ,x,sm,eo,hx,fun H1 HF1 g1=>?_⟩
 cases x with
 | false=>exact uF ⟨HF1,ρ,d,g1.fh,eo.mono g1.ff,hf,fun H' HF' g=>q H' HF' (g1.trans g)⟩
 | true=>cases hf;exact u5 (q H1 HF1 g1)
theorem JX(ha:DT X a ta):DT X (.UnaryOp .Not a pos) (bx ta):=tT (JZ ha) fun σ H Q ⟨HF,ρ,d,sm,eo,hf,q⟩=>by
 have hf:(ta ρ).map (!·)=some d:=hf
 cases e:ta ρ with
 | none=>rw[e] at hf;cases hf
 | some k=>rw[e] at hf;cases hf;exact⟨HF,ρ,k,sm,eo,e,fun H1 HF1 g1=>q H1 HF1 g1⟩
noncomputable def M3(tc:Env->Option Bool)(fa fb:Env->Option D):Env->Option D:=fun ρ=>(tc ρ).bind fun|true=>fa ρ|false=>fb ρ
theorem KI{c:Expr}(hc:DT X c ta)(ha:DE X a fa)(hb:DE X b fb):DE X (.IfExp c a b pos) (M3 ta fa fb):=aN (BB hc ha hb) fun σ H Q ⟨HF,ρ,d,sm,eo,hf,q⟩=>by
 obtain⟨x,hx,hf⟩:=bs hf
 refine⟨HF,ρ,x,sm,eo,hx,fun H1 HF1 g1=>?_⟩
 cases x with
 | true=>exact u5 ⟨HF1,ρ,d,g1.fh,eo.mono g1.ff,hf,fun v H' HF' g r=>q v H' HF' (g1.trans g) r⟩
 | false=>exact uF ⟨HF1,ρ,d,g1.fh,eo.mono g1.ff,hf,fun v H' HF' g r=>q v H' HF' (g1.trans g) r⟩
noncomputable def jG(g g':D->D->Option D)(fa fb fc:Env->Option D):Env->Option D:=fun ρ=>(fa ρ).bind fun x=>(fb ρ).bind fun y=>(g x y).bind fun|.bool true=>(fc ρ).bind fun z=>g' y z|.bool false=>some (.bool false)|_=>none
theorem zz{r r':R2}{g g':D->D->Option D}(hr:eY X.K r g)(hr':eY X.K r' g'):∀σ H Q,tD X.K (jG g g' fa fb fc) σ H Q->xp r r' (tD X.K fa) (tD X.K fb) (tD X.K fc) σ H Q:=fun σ H Q ⟨HF,ρ,d,sm,eo,hf,q⟩=>by
 obtain⟨x,hx,hf⟩:=bs hf
 obtain⟨y,hy,hf⟩:=bs hf
 obtain⟨z,hz,hf⟩:=bs hf
 refine⟨HF,ρ,x,sm,eo,hx,fun v1 H1 HF1 g1 r1=>⟨HF1,ρ,y,g1.fh,eo.mono g1.ff,hy,fun v2 H2 HF2 g2 r2=>hr HF2 H2 x y v1 v2 z _ g2.fh (r1.mono g2.ff) r2 hz fun v3 H3 HF3 g3 r3=>?_⟩⟩
 cases z<;>try cases hf
 rename_i k
 simp only[Rep] at r3
 refine⟨k,r3,?_⟩
 have G:=(g1.trans g2).trans g3
 cases k with
 | false=>cases hf;exact uF (q _ H3 HF3 G (by simp[Rep]))
 | true =>
  obtain⟨w,hw,hg⟩:=bs hf
  exact u5 ⟨HF3,ρ,w,G.fh,eo.mono G.ff,hw,fun v4 H4 HF4 g4 r4=>hr' HF4 H4 y w v2 v4 d Q g4.fh (r2.mono (g3.ff.trans g4.ff)) r4 hg fun v H' HF' g5 r5=>q v H' HF' ((G.trans g4).trans g5) r5⟩
theorem BP{op op':CmpOp}{r r':R2}{g g':D->D->Option D}(ho:gD X (compareOp op) r)(hr:eY X.K r g)(ho':gD X (compareOp op') r')(hr':eY X.K r' g')(ha:DE X a fa)(hb:DE X b fb)(hc:DE X c fc)
  (hm:lastMarks [op,op'] [b,c]=false:=by with_unfolding_all rfl):DE X (.Compare a [op,op'] [b,c] pos) (jG g g' fa fb fc):=aN (BW ho ho' ha hb hc hm) (zz hr hr')
theorem BF{op op':CmpOp}{r r':R2}{g g':D->D->Option D}(ho:gD X (compareOp op) r)(hr:eY X.K r g)(ho':gD X (compareOp op') r')(hr':eY X.K r' g')(ha:DE X a fa)(hb:DE X b fb)(hc:DE X c fc)
  (hm:lastMarks [op,op'] [b,c]=false:=by with_unfolding_all rfl):DT X (.Compare a [op,op'] [b,c] pos) (fB (jG g g' fa fb fc)) :=
 tT (Dq ho ho' ha hb hc hm) fun σ H Q h=>zz hr hr' σ H _ (wz σ H Q h)
noncomputable def ae:Env->Option (List D):=fun _=>some []
noncomputable def aa(f:Env->Option D)(g:Env->Option (List D)):Env->Option (List D):=fun ρ=>(f ρ).bind fun x=>(g ρ).map (x::·)
theorem Ci:DA X [] ae:=Cd d5 fun σ H Q ⟨HF,ρ,d,sm,eo,hf,q⟩=>by cases hf;exact q [] H HF (.refl sm) ak.nil
theorem yf{e:Expr}{es:List Expr}{f:Env->Option D}{g:Env->Option (List D)}(he:DE X e f)(hs:DA X es g)(hst:starEach (e::es) X.env=(false,eval e X.env)::starEach es X.env:=by rfl):DA X (e::es) (aa f g) :=
 Cd (bS he hs hst) fun σ H Q ⟨HF,ρ,d,sm,eo,hf,q⟩=>by
  obtain⟨x,hx,hf⟩:=bs hf
  have hf:(g ρ).map (x::·)=some d:=hf
  cases e1:g ρ with
  | none=>rw[e1] at hf;cases hf
  | some xs =>
   rw[e1] at hf;cases hf
   exact⟨HF,ρ,x,sm,eo,hx,fun v1 H1 HF1 g1 r1=>⟨HF1,ρ,xs,g1.fh,eo.mono g1.ff,e1,fun vs H2 HF2 g2 r2=>q (v1::vs) H2 HF2 (g1.trans g2) (ak.cons (r1.mono g2.ff) r2)⟩⟩
variable {es:List Expr}{fs:Env->Option (List D)}
noncomputable def small(ds:List D):Option (List D):=if ds.length<=sizeLine then some ds else none
theorem d8{ds es:List D}(h:small ds=some es):es=ds/\ds.length<=sizeLine:=by
 unfold small at h
 split at h
 ·cases h;exact⟨rfl,‹_›⟩
 ·cases h
noncomputable def aZ(g:Env->Option (List D)):Env->Option D:=fun ρ=>(g ρ).bind fun ds=>(small ds).map PyData.tuple
noncomputable def ke(g:Env->Option (List D)):Env->Option (List D):=fun ρ=>(g ρ).bind small
theorem J2{x1}(h:DA X es fs):DE X (.Tuple es x1 pos) (aZ fs):=aN (Ka h) fun σ H Q ⟨HF,ρ,d,sm,eo,hf,q⟩=>by
 obtain⟨ds,hx,hf⟩:=bs hf
 have hf:(small ds).map PyData.tuple=some d:=hf
 cases e:small ds with
 | none=>rw[e] at hf;cases hf
 | some es' =>
  rw[e] at hf;cases hf
  obtain⟨rfl,hz⟩:=d8 e
  refine⟨HF,ρ,_,sm,eo,hx,fun vs H1 HF1 g1 r1=>⟨by rw[r1.length];exact hz,fun p hp=>q _ _ (upd HF1 p (.tup vs)) (g1.trans (.new g1.fh hp)) ?_⟩⟩
  simp only[Rep]
  exact⟨p,vs,rfl,.inl (.inl aC),r1.mono (dM (g1.fh.free hp))⟩
theorem HN(h:DA X es fs):DF X (.List es pos) (ke fs):=aN (Dz h) fun σ H Q ⟨HF,ρ,d,sm,eo,hf,q⟩=>by
 obtain⟨ds,hx,hf⟩:=bs hf
 obtain⟨rfl,hz⟩:=d8 hf
 exact⟨HF,ρ,_,sm,eo,hx,fun vs H1 HF1 g1 r1=>⟨by rw[r1.length];exact hz,fun p hp=>q p vs _ HF1 (g1.trans (.own g1.fh hp)) (g1.hh.free hp) (g1.fh.free hp) aC r1⟩⟩
noncomputable def ao:D->D->Option D
 | .tuple ds,.int i=>uc ds i
 | .list ds,.int i=>uc ds i
 | _,_=>none
theorem uG{K:W.Frag}{HF:Hp}{ds:List D}{vs:List V}{i:Int}{d:D}(r:ak K HF ds vs)(h:uc ds i=some d):∃v,uc vs i=some v/\Rep K HF d v:=by
 unfold uc at h ⊢
 rw[r.length]
 obtain⟨j,hj,h⟩:=bs h
 obtain⟨v,a,b⟩:=r.getD h
 exact⟨v,by rw[hj];exact a,b⟩
theorem Jq{K:W.Frag}:eY K (Na K) ao:=by
 intro HF H x y v1 v2 d Q sm r1 r2 hg q
 cases x<;>cases y<;>simp only[ao] at hg<;>try cases hg
 ·simp only[Rep] at r1 r2
  obtain⟨a,vs,rfl,hs,r⟩:=r1
  obtain⟨v,hv,rv⟩:=uG r hg
  exact .inl ⟨a,vs,_,v,rfl,r2,sm.seq hs,hv,q v H HF (.refl sm) rv⟩
 ·simp only[Rep] at r1 r2
  obtain⟨a,vs,rfl,hs,r⟩:=r1
  obtain⟨v,hv,rv⟩:=uG r hg
  exact .inr (.inl ⟨a,vs,_,v,rfl,r2,av sm hs,hv,q v H HF (.refl sm) rv⟩)
theorem Ly(ha:DE X a fa)(hb:DE X b fb)(hs:nW b:=by intro _ _;rfl):DE X (.Subscript a b pos) (f2 ao fa fb):=aN (HE JT ha hb hs) (Fd Jq)
mutual
theorem cE{pins:List (Addr×Obj)}{σ:L2.St}{H HF:Hp}{s:Shared}(I:Inv X pins σ H s)(sm:aR HF H):∀ {d:D}{v:V}{u:Value},Rep X.K HF d v->RelV v u->∃as,Reads s.heap u d as
 | .none,_,_,h,r=>by simp only[Rep] at h;subst h;cases r;exact⟨_,.none⟩
 | .bool b,_,_,h,r=>by simp only[Rep] at h;subst h;cases r;exact⟨_,.bool b⟩
 | .int i,_,_,h,r=>by simp only[Rep] at h;subst h;obtain⟨t,rfl⟩:=r;exact⟨_,.int i t⟩
 | .str i,_,_,h,r=>by simp only[Rep] at h;subst h;obtain⟨t,rfl⟩:=r;exact⟨_,.str i t⟩
 | .tuple ds,_,_,h,r=>by
  simp only[Rep] at h
  obtain⟨a,vs,rfl,hs,rr⟩:=h
  cases r
  obtain⟨its,rv,⟨o,ho,hc,n,hd⟩,_⟩:=I.tuple (av sm hs)
  obtain⟨as,q⟩:=mq I sm rr rv
  exact⟨as,.tuple ho hc hd (by simpa using q)⟩
 | .list ds,_,_,h,r=>by
  simp only[Rep] at h
  obtain⟨a,vs,rfl,hs,rr⟩:=h
  cases r
  obtain⟨its,rv,pl,_⟩:=I.list (sm.seq hs)
  obtain⟨o,ho,hc,n,hd⟩:=pl.isList
  obtain⟨as,q⟩:=mq I sm rr rv
  exact⟨_,.list ho hc hd (by simpa using q)⟩
 | .dict _,_,_,h,r=>by simp only[Rep] at h
theorem mq{pins:List (Addr×Obj)}{σ:L2.St}{H HF:Hp}{s:Shared}(I:Inv X pins σ H s)(sm:aR HF H):∀ {ds:List D}{vs:List V}{us:List Value},ak X.K HF ds vs->az vs us->∃as,ReadsAll s.heap us ds as
 | [],_,_,h,r=>by rw[h.nil_inv] at r;cases r;exact⟨_,.nil⟩
 | d::ds,_,_,h,r=>by
  obtain⟨v,vr,rfl,a,b⟩:=h.cons_inv
  cases r with
  | cons r rr =>
   obtain⟨as,q⟩:=cE I sm a r
   obtain⟨bs,p⟩:=mq I sm b rr
   exact⟨_,.cons q p⟩
end
def Kz(K:W.Frag)(g:D->D->Option Bool):R2:=fun v1 v2 H Q=>∃HF x y k,aR HF H/\Rep K HF x v1/\Rep K HF y v2/\g x y=some k/\Q (.bl k) H
theorem gx{K:W.Frag}{g:D->D->Option Bool}:eY K (Kz K g) (fun x y=>(g x y).map PyData.bool):=by
 intro HF H x y v1 v2 d Q sm r1 r2 hg q
 have hg:(g x y).map PyData.bool=some d:=hg
 cases e:g x y with
 | none=>rw[e] at hg;cases hg
 | some k=>rw[e] at hg;cases hg;exact⟨HF,x,y,k,sm,r1,r2,e,q _ H HF (.refl sm) (by simp[Rep])⟩
noncomputable def HH(x y:D):Option Bool:=if SeqAt.shaped x=true/\SeqAt.shaped y=true then some (PyData.eqv x y) else none
noncomputable def KC(x y:D):Option Bool:=if SeqAt.shaped x=true/\SeqAt.shaped y=true then some (!PyData.eqv x y) else none
theorem Cg(hu:X.A.units+64 < cLine):gD X (compareOp .Eq) (Kz X.K HH):=by
 intro pins s σ H v1 v2 u1 u2 Q I rx ry h
 obtain⟨HF,x,y,k,sm,r1,r2,hg,q⟩:=h
 unfold HH at hg
 split at hg<;>cases hg
 rename_i hh
 obtain⟨as,ra⟩:=cE I sm r1 rx
 obtain⟨bs,rb⟩:=cE I sm r2 ry
 exact eq_dataH ra rb hh.1 hh.2 hu ⟨.bl _,H,I,rfl,q⟩
theorem Cr(hu:X.A.units+64 < cLine):gD X (compareOp .NotEq) (Kz X.K KC):=by
 intro pins s σ H v1 v2 u1 u2 Q I rx ry h
 obtain⟨HF,x,y,k,sm,r1,r2,hg,q⟩:=h
 unfold KC at hg
 split at hg<;>cases hg
 rename_i hh
 obtain⟨as,ra⟩:=cE I sm r1 rx
 obtain⟨bs,rb⟩:=cE I sm r2 ry
 exact ne_dataH ra rb hh.1 hh.2 hu ⟨.bl _,H,I,rfl,q⟩
noncomputable def items:D->Option (List D)|.tuple ds=>some ds|.list ds=>some ds|_=>none
noncomputable def Mx(x y:D):Option Bool:=match y with
 | .tuple ds=>if SeqAt.shaped x=true/\SeqAt.shaped y=true then some (ds.any fun z=>PyData.eqv z x) else none
 | .list ds=>if SeqAt.shaped x=true/\SeqAt.shaped y=true then some (ds.any fun z=>PyData.eqv z x) else none
 | _=>none
theorem EJ(hu:X.A.units+66 < cLine):gD X (compareOp .In) (Kz X.K Mx):=by
 intro pins s σ H v1 v2 u1 u2 Q I rx ry h
 obtain⟨HF,x,y,k,sm,r1,r2,hg,q⟩:=h
 obtain⟨as,ra⟩:=cE I sm r1 rx
 obtain⟨bs,rb⟩:=cE I sm r2 ry
 cases y<;>simp only[Mx] at hg<;>try cases hg
 all_goals
  split at hg<;>cases hg
  rename_i ds hh
  have c1:=SeqAt.canLay_of_shaped hh.1
  have c2:=SeqAt.canLay_of_shaped hh.2
  have d1:=SeqAt.depth_of_shaped hh.1
  simp only[PyData.canLay0] at c2
  have m:=Nat.min_le_right (PyData.depthAll ds) x.depth
  first
   | exact SeqAt.in_list_reads rb ra c2 c1 (by omega) ⟨.bl _,H,I,rfl,q⟩
   | exact SeqAt.in_tuple_reads rb ra c2 c1 (by omega) ⟨.bl _,H,I,rfl,q⟩
end
noncomputable def Il(K:W.Frag)(n:Nat)(m:List D->Option D):Sp:=fun vs H Q _=>∃HF ds d,aR HF H/\fI K HF/\ak K HF ds vs/\ds.length=n/\m ds=some d/\∀v H' HF',bR HF H HF' H'->Rep K HF' d v->Q v H'
structure dC(P:Program)(w:World)(K:W.Frag)(mg:Str->Option Value)(base:Heap)(k:Nat)(x:Str)(n:Nat)(m:List D->Option D):Prop where
 ex:∃ (f:Addr) (fd:FuncData) (ps:List Str),nh P w K mg base Ic k f fd ps (Il K n m)/\mg x=some (.ref f)/\W.keepIn K (.ref f)=true/\Binds K fd ps []
theorem dC.mono{P:Program}{w:World}{K:W.Frag}{mg:Str->Option Value}{base:Heap}{k j:Nat}{x:Str}{n:Nat}{m:List D->Option D}(F:dC P w K mg base k x n m)(h:k<=j):dC P w K mg base j x n m:=by
 obtain⟨f,fd,ps,a,b,c,d⟩:=F.ex
 exact⟨f,fd,ps,a.mono h,b,c,d⟩
section
variable {X:Cx}{a b c e:Expr}{es:List Expr}{fa fb fc:Env->Option D}{fs:Env->Option (List D)}{pos p:Pos}{x:Str}
noncomputable def ah(n:Nat)(m:List D->Option D)(fs:Env->Option (List D)):Env->Option D:=fun ρ=>(fs ρ).bind fun ds=>if ds.length=n then m ds else none
theorem Gm{k n:Nat}{m:List D->Option D}(F:dC X.prog X.w X.K X.mg X.base k x n m)(hr:dS k X.A)(hg:Gl X x)(ha:DA X (e::es) fs)(hdb:(x == ("__debug__":Str))=false:=by decide)
  (he:starEach (e::es) X.env=(false,eval e X.env)::starEach es X.env:=by rfl) (hpl:(backTo pos (starEach es X.env)).any (·.1)=false:=by rfl):DE X (.Call (.Name x p) (e::es) [] pos) (ah n m fs):=by
 obtain⟨f,fd,ps,ok,hm,hk,hb⟩:=F.ex
 refine aN (Gd (E:=E0) ok hr hg hm hk hb .nil HB ha hdb he hpl) fun σ H Q ⟨HF,ρ,d,sm,eo,hf,q⟩=>?_
 obtain⟨ds,hx,hf⟩:=bs hf
 split at hf
 ·rename_i hl
  exact⟨HF,ρ,ds,sm,eo,hx,fun vs H1 HF1 g1 r1=>⟨HF1,ds,d,g1.fh,eo.tb.mono g1.ff,by rw[List.append_nil];exact r1,hl,hf,fun v H' HF' g r=>q v H' HF' (g1.trans g) r⟩⟩
 ·cases hf
def AJ(K:W.Frag)(r:List V->Hp->VK->Prop)(g:List D->Option D):Prop:=∀HF H ds vs d Q,aR HF H->ak K HF ds vs->g ds=some d->(∀v H' HF',bR HF H HF' H'->Rep K HF' d v->Q v H')->r vs H Q
noncomputable def bf(g:List D->Option D)(fs:Env->Option (List D)):Env->Option D:=fun ρ=>(fs ρ).bind g
theorem Ll{r:List V->Hp->VK->Prop}{g:List D->Option D}(hs:AJ X.K r g):∀σ H Q,tD X.K (bf g fs) σ H Q->LX r (Ml X.K fs) σ H Q:=fun σ H Q ⟨HF,ρ,d,sm,eo,hf,q⟩=>by
 obtain⟨ds,hx,hf⟩:=bs hf
 exact⟨HF,ρ,ds,sm,eo,hx,fun vs H1 HF1 g1 r1=>hs HF1 H1 ds vs d Q g1.fh r1 hf fun v H' HF' g2 r2=>q v H' HF' (g1.trans g2) r2⟩
def yt(K:W.Frag)(r:List V->Hp->VK->Prop)(g:List D->Option (List D)):Prop:=∀HF H ds vs es Q,aR HF H->ak K HF ds vs->g ds=some es ->
 (∀a us H' HF',bR HF H HF' H'->H a=none->HF' a=none->H' a=some (.lst us)->ak K HF' es us->Q (.ref a) H')->r vs H Q
noncomputable def mH(g:List D->Option (List D))(fs:Env->Option (List D)):Env->Option (List D):=fun ρ=>(fs ρ).bind g
theorem Hi{r:List V->Hp->VK->Prop}{g:List D->Option (List D)}(hs:yt X.K r g):∀σ H Q,tF X.K (mH g fs) σ H Q->LX r (Ml X.K fs) σ H Q:=fun σ H Q ⟨HF,ρ,d,sm,eo,hf,q⟩=>by
 obtain⟨ds,hx,hf⟩:=bs hf
 exact⟨HF,ρ,ds,sm,eo,hx,fun vs H1 HF1 g1 r1=>hs HF1 H1 ds vs d Q g1.fh r1 hf fun a us H' HF' g2 ha hf' h' r2=>q a us H' HF' (g1.trans g2) (g1.hh.free ha) hf' h' r2⟩
structure k3(X:Cx)(x:Str)(v:Value):Prop where
 gl:Gl X x
 mg:X.mg x=none
 bt:bootBuiltins x=some v
theorem hV{id:String}{r:List V->Hp->VK->Prop}{g:List D->Option D}(hc:dw X (.builtin id) r)(hs:AJ X.K r g)(B:k3 X x (.builtin id))(ha:DA X (e::es) fs)(hn:x≠"__name__":=by decide)(hdb:(x == ("__debug__":Str))=false:=by decide)
  (he:starEach (e::es) X.env=(false,eval e X.env)::starEach es X.env:=by rfl) (hpl:(backTo pos (starEach es X.env)).any (·.1)=false:=by rfl):DE X (.Call (.Name x p) (e::es) [] pos) (bf g fs) :=
 aN (jq hc B.gl B.mg B.bt ha hn hdb he hpl) (Ll hs)
theorem El{id:String}{r:List V->Hp->VK->Prop}{g:List D->Option (List D)}(hc:dw X (.builtin id) r)(hs:yt X.K r g)(B:k3 X x (.builtin id))(ha:DA X (e::es) fs)(hn:x≠"__name__":=by decide)(hdb:(x == ("__debug__":Str))=false:=by decide)
  (he:starEach (e::es) X.env=(false,eval e X.env)::starEach es X.env:=by rfl) (hpl:(backTo pos (starEach es X.env)).any (·.1)=false:=by rfl):DF X (.Call (.Name x p) (e::es) [] pos) (mH g fs) :=
 aN (jq hc B.gl B.mg B.bt ha hn hdb he hpl) (Hi hs)
theorem rC{T:String}{r:List V->Hp->VK->Prop}{g:List D->Option D}(hc:dw X (.type T) r)(hs:AJ X.K r g)(B:k3 X x (.type T))(ha:DA X (e::es) fs)(hn:x≠"__name__":=by decide)(hdb:(x == ("__debug__":Str))=false:=by decide)
  (he:starEach (e::es) X.env=(false,eval e X.env)::starEach es X.env:=by rfl) (hpl:(backTo pos (starEach es X.env)).any (·.1)=false:=by rfl):DE X (.Call (.Name x p) (e::es) [] pos) (bf g fs) :=
 aN (j3 hc B.gl B.mg B.bt ha hn hdb he hpl) (Ll hs)
theorem A4{T:String}{r:List V->Hp->VK->Prop}{g:List D->Option (List D)}(hc:dw X (.type T) r)(hs:yt X.K r g)(B:k3 X x (.type T))(ha:DA X (e::es) fs)(hn:x≠"__name__":=by decide)(hdb:(x == ("__debug__":Str))=false:=by decide)
  (he:starEach (e::es) X.env=(false,eval e X.env)::starEach es X.env:=by rfl) (hpl:(backTo pos (starEach es X.env)).any (·.1)=false:=by rfl):DF X (.Call (.Name x p) (e::es) [] pos) (mH g fs) :=
 aN (j3 hc B.gl B.mg B.bt ha hn hdb he hpl) (Hi hs)
noncomputable def i7:D->Option (List D)|.tuple ds=>some ds|.list ds=>some ds|_=>none
noncomputable def oneOf:List D->Option D|[d]=>some d|_=>none
theorem fS{ds:List D}{d:D}(h:oneOf ds=some d):ds=[d]:=by
 cases ds with
 | nil=>cases h
 | cons x r=>cases r with
  | nil=>cases h;rfl
  | cons _ _=>cases h
theorem kO{d:D}{ds:List D}(h:i7 d=some ds):d=.tuple ds\/d=.list ds:=by
 cases d<;>cases h
 ·exact .inr rfl
 ·exact .inl rfl
noncomputable def dF:List D->Option (List D):=fun ds=>(oneOf ds).bind i7
theorem gg{ds es:List D}(h:dF ds=some es):ds=[.tuple es]\/ds=[.list es]:=by
 obtain⟨d,h1,h2⟩:=bs h
 rw[fS h1]
 rcases kO h2 with rfl|rfl
 ·exact .inl rfl
 ·exact .inr rfl
noncomputable def bP:List D->Option D:=fun ds=>(dF ds).map fun es=>.int es.length
theorem af{α β:Type}{x:Option α}{f:α->β}{b:β}(h:x.map f=some b):∃a,x=some a/\f a=b:=by
 cases x with
 | none=>cases h
 | some a=>exact⟨a,rfl,Option.some.inj h⟩
theorem Fj{K:W.Frag}:AJ K (fun xs H Q=>∃p ys,xs=[.ref p]/\(gG K H p ys\/gT K H p ys)/\Q (.int ys.length) H) bP:=by
 intro HF H ds vs d Q sm r hg q
 obtain⟨es,h1,rfl⟩:=af hg
 rcases gg h1 with rfl|rfl
 all_goals
  obtain⟨v,r',rfl,a,b⟩:=r.cons_inv
  rw[b.nil_inv]
  simp only[Rep] at a
  obtain⟨p,us,rfl,h,rr⟩:=a
 ·exact⟨p,us,rfl,.inr (av sm h),q _ H HF (.refl sm) (by simp[Rep,rr.length])⟩
 ·exact⟨p,us,rfl,.inl (sm.seq h),q _ H HF (.refl sm) (by simp[Rep,rr.length])⟩
theorem J5(B:k3 X "len" (.builtin "len"))(ha:DA X [e] fs)(he:starEach [e] X.env=(false,eval e X.env)::starEach [] X.env:=by rfl):DE X (.Call (.Name "len" p) [e] [] pos) (bf bP fs) :=
 hV tY Fj B ha (by decide) (by decide) he rfl
theorem BG{K:W.Frag}:yt K (fun xs H Q=>∃p ys,xs=[.ref p]/\(gG K H p ys\/gT K H p ys)/\∀l,H l=none->Q (.ref l) (upd H l (.lst ys))) dF:=by
 intro HF H ds vs d Q sm r hg q
 rcases gg hg with rfl|rfl
 all_goals
  obtain⟨v,r',rfl,a,b⟩:=r.cons_inv
  rw[b.nil_inv]
  simp only[Rep] at a
  obtain⟨p,us,rfl,h,rr⟩:=a
 ·exact⟨p,us,rfl,.inr (av sm h),fun l hl=>q l us _ HF (.own sm hl) hl (sm.free hl) aC rr⟩
 ·exact⟨p,us,rfl,.inl (sm.seq h),fun l hl=>q l us _ HF (.own sm hl) hl (sm.free hl) aC rr⟩
theorem EW(B:k3 X "list" (.type "list"))(ha:DA X [e] fs)(he:starEach [e] X.env=(false,eval e X.env)::starEach [] X.env:=by rfl):DF X (.Call (.Name "list" p) [e] [] pos) (mH dF fs) :=
 A4 tM BG B ha (by decide) (by decide) he rfl
theorem cC{K:W.Frag}{HF:Hp}{l:Addr}{ds:List D}{vs:List V}(h:HF l=none)(r:ak K HF ds vs):Rep K (upd HF l (.tup vs)) (.tuple ds) (.ref l):=by
 simp only[Rep];exact⟨l,vs,rfl,.inl (.inl aC),r.mono (dM h)⟩
theorem Aq{K:W.Frag}:AJ K (fun xs H Q=>∃p ys,xs=[.ref p]/\((gG K H p ys/\∀l,H l=none->Q (.ref l) (upd H l (.tup ys)))\/(gT K H p ys/\Q (.ref p) H))) (fun ds=>(dF ds).map PyData.tuple):=by
 intro HF H ds vs d Q sm r hg q
 obtain⟨es,h1,rfl⟩:=af hg
 rcases gg h1 with rfl|rfl
 all_goals
  obtain⟨v,r',rfl,a,b⟩:=r.cons_inv
  rw[b.nil_inv]
  have a':=a
  simp only[Rep] at a
  obtain⟨p,us,rfl,h,rr⟩:=a
 ·exact⟨p,us,rfl,.inr ⟨av sm h,q _ H HF (.refl sm) a'⟩⟩
 ·exact⟨p,us,rfl,.inl ⟨sm.seq h,fun l hl=>q _ _ _ (.new sm hl) (cC (sm.free hl) rr)⟩⟩
theorem Dp(B:k3 X "tuple" (.type "tuple"))(ha:DA X [e] fs)(he:starEach [e] X.env=(false,eval e X.env)::starEach [] X.env:=by rfl):DE X (.Call (.Name "tuple" p) [e] [] pos) (bf (fun ds=>(dF ds).map PyData.tuple) fs) :=
 rC qd Aq B ha (by decide) (by decide) he rfl
noncomputable def gq:D->String|.none=>"NoneType" | .bool _=>"bool" | .int _=>"int" | .str _=>"str" | .tuple _=>"tuple" | .list _=>"list" | .dict _=>"dict"
noncomputable def tE(a b:String):Option Bool:=if ((Value.type a) == (Value.type b))=true then some true else if W.kitMeta b=true then (fastBuiltinMro a).map (·.contains (Value.type b)) else none
theorem FV:∀a∈["NoneType","bool","int","str","tuple","list"],tE a "int"=some (a == "int"||a == "bool"):=by decide +kernel
theorem Cp:∀a∈["NoneType","bool","int","str","tuple","list"],tE a "bool"=some (a == "bool"):=by decide +kernel
theorem kit_tuple:∀a∈["NoneType","bool","int","str","tuple","list"],tE a "tuple"=some (a == "tuple"):=by decide +kernel
theorem DN{pins:List (Addr×Obj)}{σ:L2.St}{H HF:Hp}{s:Shared}{A:Around}{E:Value->Shared->Prop}{Q:Value->Shared->Prop}{d:D}{v:V}{u:Value}{T:String}{k:Bool}(I:Inv X pins σ H s)(sm:aR HF H)(r:Rep X.K HF d v)(rv:RelV v u)
  (e:tE (gq d) T=some k) (h:∀tk,Q (.bool k) { s with toks:=tk }):wpAny (model X.prog X.w) A (call (.builtin "isinstance") [u,.type T]) Q E s:=by
 have e':W.kitOne X.K (.type (gq d)) (.type T)=some k:=e
 cases d<;>simp only[Rep] at r
 ·subst r;cases rv;exact W.kia_one W.kitx_none I.kIn True.intro e' (fun z=>nomatch z) h
 ·subst r;cases rv;exact W.kia_one W.kitx_bool I.kIn True.intro e' (fun z=>nomatch z) h
 ·subst r;obtain⟨t,rfl⟩:=rv;exact W.kia_one W.kitx_int I.kIn True.intro e' (fun z=>nomatch z) h
 ·subst r;obtain⟨t,rfl⟩:=rv;exact W.kia_one W.kitx_str I.kIn True.intro e' (fun z=>nomatch z) h
 ·obtain⟨a,vs,rfl,hs,rr⟩:=r
  cases rv
  obtain⟨its,rv,pl,_⟩:=I.list (sm.seq hs)
  obtain⟨o,ho,hc,n,hd⟩:=pl.isList
  exact W.kia_one W.kitx_list I.kIn ⟨o,ho,hc⟩ e' (fun z=>nomatch z) h
 ·obtain⟨a,vs,rfl,hs,rr⟩:=r
  cases rv
  obtain⟨its,rv,⟨o,ho,hc,n,hd⟩,_⟩:=I.tuple (av sm hs)
  exact W.kia_one W.kitx_tuple I.kIn ⟨o,ho,hc⟩ e' (fun z=>nomatch z) h
noncomputable def G8(T:String)(f:Env->Option D):Env->Option D:=fun ρ=>(f ρ).bind fun d=>(tE (gq d) T).map PyData.bool
theorem KG{T:String}{xT:Str}{pT:Pos}{f:Env->Option D}(B:k3 X "isinstance" (.builtin "isinstance"))(C:k3 X xT (.type T))(h:DE X e f)(hn:xT≠"__name__":=by decide)(hd:(xT == ("__debug__":Str))=false:=by decide)
  (he:starEach [e,.Name xT pT] X.env=(false,eval e X.env)::starEach [.Name xT pT] X.env:=by rfl):DE X (.Call (.Name "isinstance" p) [e,.Name xT pT] [] pos) (G8 T f):=by
 have hc:dw X (.builtin "isinstance") (fun xs H Q=>∃HF d v k,xs=[v,.ty T]/\aR HF H/\Rep X.K HF d v/\tE (gq d) T=some k/\Q (.bl k) H):=by
  intro pins s σ H xs us Q I r h
  obtain⟨HF,d,v,k,rfl,sm,rp,hk,q⟩:=h
  cases r with
  | cons ra rr =>
   cases rr with
   | cons rb rn =>
    cases rn
    cases rb
    exact DN I sm rp ra hk fun tk=>⟨.bl k,H,I.tok _,rfl,q⟩
 refine aN (jq hc B.gl B.mg B.bt (bS h (bS (Fp (v:=.ty T) C.gl C.mg C.bt rfl hn hd) d5) he) (by decide) (by decide) he rfl) fun σ H Q ⟨HF,ρ,d,sm,eo,hf,q⟩=>?_
 obtain⟨x,hx,hf⟩:=bs hf
 obtain⟨k,hk,rfl⟩:=af hf
 exact⟨HF,ρ,x,sm,eo,hx,fun v1 H1 HF1 g1 r1=>⟨HF1,x,v1,k,rfl,g1.fh,r1,hk,q _ H1 HF1 g1 (by simp[Rep])⟩⟩
noncomputable def FM:D->D->Option D
 | .tuple xs,.tuple ys=>(small (xs++ys)).map PyData.tuple
 | _,_=>none
def zi(K:W.Frag):R2:=fun x y H Q=>∃a b xs ys,x=.ref a/\y=.ref b/\gT K H a xs/\gT K H b ys/\xs.length+ys.length<=sizeLine /\
 (xs=[]->Q (.ref b) H)/\(ys=[]->Q (.ref a) H)/\(∀p,H p=none->Q (.ref p) (upd H p (.tup (xs++ys))))
theorem Bj:gD X (binaryOp .Add) (zi X.K):=by
 intro pins s σ H x y v u Q I rx ry h
 obtain⟨a,b,xs,ys,rfl,rfl,ha,hb,hz,q0,q1,q2⟩:=h
 by_cases hx:xs=[]
 ·cases rx
  cases ry
  obtain⟨its,r1,p1,_⟩:=I.tuple ha
  obtain⟨its2,r2,p2,_⟩:=I.tuple hb
  obtain⟨⟨cls,dd,data,sl⟩,ho,hc,n,hd⟩:=id p1
  obtain⟨⟨cls2,dd2,data2,sl2⟩,ho2,hc2,n2,hd2⟩:=id p2
  simp only at hc hd hc2 hd2
  subst hc hd hc2 hd2
  have e:its=[]:=(L2.az.nil_iff r1).mpr hx
  exact concat_meets ⟨_,ho,rfl⟩ ⟨_,ho2,rfl⟩ noFill_tuple_add seq_tuple_add PySem.F.slot_tuple_add PySem.F.entry_tuple_add (PySem.F.args_tuple_add_2 _ _)
   (tuple_addW0 a b its.toArray its2.toArray n n2 dd dd2 sl sl2 (by simp[e])) ⟨ho,ho2,⟨.ref b,H,I,rfl,q0 hx⟩⟩
 ·exact GB pins s σ H _ _ v u Q I rx ry ⟨a,b,xs,ys,rfl,rfl,ha,hb,hx,hz,q1,fun _ p hp=>q2 p hp⟩
theorem Fw{K:W.Frag}:eY K (zi K) FM:=by
 intro HF H x y v1 v2 d Q sm r1 r2 hg q
 cases x<;>cases y<;>simp only[FM] at hg<;>try cases hg
 rename_i xs ys
 obtain⟨es,h1,rfl⟩:=af hg
 obtain⟨rfl,hz⟩:=d8 h1
 have r1':=r1
 have r2':=r2
 simp only[Rep] at r1 r2
 obtain⟨a,vs,rfl,ha,ra⟩:=r1
 obtain⟨b,us,rfl,hb,rb⟩:=r2
 refine⟨a,b,vs,us,rfl,rfl,av sm ha,av sm hb,by rw[ra.length,rb.length,<- zN];exact hz,fun e=>?_,fun e=>?_,fun p hp=>q _ _ _ (.new sm hp) (cC (sm.free hp) (ra.append rb))⟩
 ·have:xs=[]:=by have:=ra.length;rw[e] at this;exact List.length_eq_zero_iff.mp this.symm
  subst this
  exact q _ H HF (.refl sm) r2'
 ·have:ys=[]:=by have:=rb.length;rw[e] at this;exact List.length_eq_zero_iff.mp this.symm
  subst this
  rw[List.append_nil] at q
  exact q _ H HF (.refl sm) r1'
end
structure qU(K:W.Frag)(J:It)(HF:Hp)(ds:List D):Prop where
 go:∀i d H₁ HF₁,ds[i]?=some d->aR HF HF₁->aR HF₁ H₁->J.go i H₁/\∀x H₂,J.yld i H₁ x H₂->∃HF₂,bR HF₁ H₁ HF₂ H₂/\Rep K HF₂ d x
 stop:∀H₁ HF₁,aR HF HF₁->aR HF₁ H₁->J.stop ds.length H₁
def M8(K:W.Frag)(f:Env->Option (List D)):TI:=fun σ H R=>∃HF ρ ds,aR HF H/\cm K HF ρ σ/\f ρ=some ds/\∀J H' HF',bR HF H HF' H'->qU K J HF' ds->R J H'
def DI(X:Cx)(tg iter:Expr)(f:Env->Option (List D)):Prop:=PI X tg iter (M8 X.K f)
theorem AL{K:W.Frag}{HF:Hp}{a:Addr}{ds:List D}{vs:List V}(h:gG K HF a vs)(r:ak K HF ds vs):qU K (MA K a) HF ds where
 go:=fun i d H₁ HF₁ e s1 s2=>by
  obtain⟨v,hv,rv⟩:=r.getD e
  have q:=s2.seq (s1.seq h)
  refine⟨⟨vs,v,q,hv⟩,fun x H₂ ⟨e2,hy⟩=>⟨HF₁,by rw[e2];exact .refl s2,?_⟩⟩
  have:=hy vs q
  rw[hv] at this
  cases this
  exact rv.mono s1
 stop:=fun H₁ HF₁ s1 s2=>⟨vs,s2.seq (s1.seq h),by rw[r.length];exact Nat.le_refl _⟩
theorem DV{K:W.Frag}{HF:Hp}{a:Addr}{ds:List D}{vs:List V}(h:gT K HF a vs)(r:ak K HF ds vs):qU K (MN K a) HF ds where
 go:=fun i d H₁ HF₁ e s1 s2=>by
  obtain⟨v,hv,rv⟩:=r.getD e
  have q:=av s2 (av s1 h)
  refine⟨⟨vs,v,q,hv⟩,fun x H₂ ⟨e2,hy⟩=>⟨HF₁,by rw[e2];exact .refl s2,?_⟩⟩
  have:=hy vs q
  rw[hv] at this
  cases this
  exact rv.mono s1
 stop:=fun H₁ HF₁ s1 s2=>⟨vs,av s2 (av s1 h),by rw[r.length];exact Nat.le_refl _⟩
theorem xg{K:W.Frag}{HF:Hp}{lo:Int}{n:Nat}:qU K (LU lo n) HF ((List.range n).map fun i=>PyData.int (lo+(i:Nat))) where
 go:=fun i d H₁ HF₁ e s1 s2=>by
  rw[zO] at e
  obtain⟨j,hj,rfl⟩:=af e
  obtain⟨hi,hj'⟩:=zU.mp hj
  have hi':i < n:=by simpa using hi
  have:j=i:=by rw[<- hj'];simp
  subst this
  exact⟨hi',fun x H₂ ⟨e2,hx⟩=>⟨HF₁,by rw[e2];exact .refl s2,by simp[Rep,hx]⟩⟩
 stop:=fun H₁ HF₁ s1 s2=>by
  show n<=_
  simp
section
variable {X:Cx}{tg l e:Expr}{f:Env->Option D}{fs:Env->Option (List D)}{pos p:Pos}
theorem ug{t t':TI}(h:PI X tg l t)(i:∀σ H R,t' σ H R->t σ H R):PI X tg l t':=fun pins s σ H R I q=>h pins s σ H R I (i σ H R q)
theorem Kh{tl:TE}(hl:PE X l tl):PI X tg l (fun σ H R=>tl σ H fun x H1=>∃a,x=.ref a/\((∃xs,gG X.K H1 a xs/\R (MA X.K a) H1)\/∃xs,gT X.K H1 a xs/\R (MN X.K a) H1)):=by
 intro pins s σ H R I h
 refine bO (hl pins s σ H _ I h) fun v s1 ⟨x,H1,I1,r1,q1⟩=>?_
 obtain⟨a,e,q⟩:=q1
 subst e
 cases r1
 rcases q with ⟨xs,hq,q⟩|⟨xs,hq,q⟩
 ·obtain⟨its,rv,pl,hz⟩:=I1.list hq
  refine wpAny_pyIter_list pl.isList ⟨s1.heap.objs.size,[s1.heap.objs.size],_,_,H1,rfl,I1.kept (t':=s1.toks) fun b o e=>zV _ e,Ah a _,⟨_,zY _ rfl,rfl,rfl⟩,fun b hb=>?_,q⟩
  cases yK.mp hb
  exact I1.fpOk (Nat.le_refl _) I1.fresh
 ·obtain⟨its,rv,pl,hz⟩:=I1.tuple hq
  refine wpAny_pyIter_tuple (show s1.heap.IsTuple a its.toArray from pl) ⟨s1.heap.objs.size,[s1.heap.objs.size],_,_,H1,rfl,I1.kept (t':=s1.toks) fun b o e=>zV _ e,xY a _,⟨_,zY _ rfl,rfl,rfl⟩,fun b hb=>?_,q⟩
  cases yK.mp hb
  exact I1.fpOk (Nat.le_refl _) I1.fresh
noncomputable def bw(f:Env->Option D):Env->Option (List D):=fun ρ=>(f ρ).bind i7
theorem EE(h:DE X l f):DI X tg l (bw f):=ug (Kh h) fun σ H R ⟨HF,ρ,ds,sm,eo,hf,q⟩=>by
 obtain⟨x,hx,hf⟩:=bs hf
 refine⟨HF,ρ,x,sm,eo,hx,fun v1 H1 HF1 g1 r1=>?_⟩
 rcases kO hf with rfl|rfl
 ·simp only[Rep] at r1
  obtain⟨a,vs,rfl,hs,rr⟩:=r1
  exact⟨a,rfl,.inr ⟨vs,av g1.fh hs,q _ H1 HF1 g1 (DV hs rr)⟩⟩
 ·simp only[Rep] at r1
  obtain⟨a,vs,rfl,hs,rr⟩:=r1
  exact⟨a,rfl,.inl ⟨vs,g1.fh.seq hs,q _ H1 HF1 g1 (AL hs rr)⟩⟩
noncomputable def wa(i:Int):Bool:=decide (-(2 ^ 62)<=i)&&decide (i < 2 ^ 62)
noncomputable def lX:List D->Option (List D)
 | [.int j]=>if wa j then some ((List.range j.toNat).map fun i=>PyData.int ((i:Nat):Int)) else none
 | _=>none
theorem vp{ds es:List D}(h:lX ds=some es):∃j,ds=[.int j]/\wa j=true/\es=(List.range j.toNat).map fun i=>PyData.int ((i:Nat):Int):=by
 unfold lX at h
 split at h
 ·split at h
  ·cases h;exact⟨_,rfl,‹_›,rfl⟩
  ·cases h
 ·cases h
noncomputable def aV(fs:Env->Option (List D)):Env->Option (List D):=fun ρ=>(fs ρ).bind lX
theorem BI(B:k3 X "range" (.type "range"))(h:DA X [e] fs)(hs:starEach [e] X.env=[(false,eval e X.env)]:=by rfl):DI X tg (.Call (.Name "range" p) [e] [] pos) (aV fs) :=
 ug (Bb B.gl B.mg h hs) fun σ H R ⟨HF,ρ,ds,sm,eo,hf,q⟩=>by
  obtain⟨x,hx,hf⟩:=bs hf
  obtain⟨j,rfl,hj,rfl⟩:=vp hf
  refine⟨HF,ρ,_,sm,eo,hx,fun vs H1 HF1 g1 r1=>?_⟩
  obtain⟨v,r,rfl,a,b⟩:=r1.cons_inv
  rw[b.nil_inv]
  simp only[Rep] at a
  subst a
  unfold wa at hj
  rw[zF] at hj
  refine⟨j,rfl,of_decide_eq_true hj.1,of_decide_eq_true hj.2,q _ H1 HF1 g1 ?_⟩
  have:=xg (K:=X.K) (HF:=HF1) (lo:=0) (n:=j.toNat)
  simpa using this
def LN(K:W.Frag)(f:Env->D->Option Env):TG:=fun v σ H Q=>∃HF ρ d ρ',aR HF H/\cm K HF ρ σ/\Rep K HF d v/\f ρ d=some ρ'/\∀σ',cm K HF ρ' σ'->cm K HF ρ σ'->Q σ' H
def DG(X:Cx)(tg:Expr)(f:Env->D->Option Env):Prop:=PG X tg (LN X.K f)
theorem mJ{t t':TG}(h:PG X tg t)(i:∀v σ H Q,t' v σ H Q->t v σ H Q):PG X tg t':=fun pins s σ H v u Q I r q=>h pins s σ H v u Q I r (i v σ H Q q)
noncomputable def isFree(ρ:Env)(i:Nat):Bool:=((ρ[i]?).getD none).isNone
theorem iC{K:W.Frag}{HF:Hp}{ρ:Env}{σ:L2.St}{i:Nat}{d:D}{v:V}(eo:cm K HF ρ σ)(r:Rep K HF d v):cm K HF (ρ.set i (some d)) (σ.set i (some v)):=by
 refine⟨fun j e h=>?_,by rw[yD,yD];exact eo.len,eo.tb⟩
 rw[List.getElem?_set] at h ⊢
 by_cases hij:i=j
 ·rw[if_pos hij] at h ⊢
  by_cases hl:i < ρ.length
  ·rw[if_pos hl] at h
   cases h
   rw[if_pos (zP hl eo.len)]
   exact⟨v,rfl,r⟩
  ·rw[if_neg hl] at h;cases h
 ·rw[if_neg hij] at h ⊢
  exact eo.get j e h
theorem j4{K:W.Frag}{HF:Hp}{ρ:Env}{σ:L2.St}{i:Nat}{v:V}(eo:cm K HF ρ σ)(hf:isFree ρ i=true):cm K HF ρ (σ.set i (some v)):=by
 refine⟨fun j e h=>?_,by rw[yD];exact eo.len,eo.tb⟩
 have hij:i≠j:=by
  intro z;subst z
  unfold isFree at hf;rw[h] at hf;cases hf
 rw[List.getElem?_set,if_neg hij]
 exact eo.get j e h
noncomputable def fG(i:Nat):Env->D->Option Env:=fun ρ d=>if isFree ρ i=true then some (ρ.set i (some d)) else none
theorem F0(i:Nat){x:Str}(hN:X.N.Nodup)(hi:X.N[i]?=some x)(hx:Loc X.env.scope x)(hf:X.fn x=true\/X.env.scope.names.lookup x=some .local:=by first|exact .inl rfl|exact .inr rfl|assumption):DG X (.Name x pos) (fG i) :=
 mJ (b8 hN hi hx hf) fun v σ H Q ⟨HF,ρ,d,ρ',sm,eo,r,hf,q⟩=>by
  unfold fG at hf
  split at hf
  ·cases hf;exact q _ (iC eo r) (j4 eo ‹_›)
  ·cases hf
noncomputable def jo(i j:Nat):Env->D->Option Env:=fun ρ d=>match d with
 | .tuple [x,y]=>if isFree ρ i=true/\isFree ρ j=true then some ((ρ.set i (some x)).set j (some y)) else none
 | _=>none
theorem HU(i j:Nat){x y:Str}{px py:Pos}{k:Nat}(hc:X.calm=true)(hN:X.N.Nodup)(hi:X.N[i]?=some x)(hx:Loc X.env.scope x)(hj:X.N[j]?=some y)(hy:Loc X.env.scope y)
  (hf:X.fn x=true\/X.env.scope.names.lookup x=some .local:=by first|exact .inl rfl|exact .inr rfl|assumption) (hf':X.fn y=true\/X.env.scope.names.lookup y=some .local:=by first|exact .inl rfl|exact .inr rfl|assumption) :
  DG X (.Tuple [.Name x px,.Name y py] k pos) (jo i j) :=
 mJ (l5 hc (bH (b8 hN hi hx hf) (bH (b8 hN hj hy hf') ka))) fun v σ H Q ⟨HF,ρ,d,ρ',sm,eo,r,hf,q⟩=>by
  unfold jo at hf
  split at hf
  ·rename_i x' y'
   split at hf
   ·rename_i hh
    cases hf
    simp only[Rep] at r
    obtain⟨a,vs,rfl,hs,rr⟩:=r
    obtain⟨v1,r1,rfl,a1,b1⟩:=rr.cons_inv
    obtain⟨v2,r2,rfl,a2,b2⟩:=b1.cons_inv
    rw[b2.nil_inv] at hs
    exact⟨a,_,rfl,av sm hs,rfl,v1,_,rfl,v2,_,rfl,rfl,q _ (iC (iC eo a1) a2) (j4 (j4 eo hh.1) hh.2)⟩
   ·cases hf
  ·cases hf
noncomputable def dv(tgt:Env->D->Option Env)(tt:Env->Option Bool)(te:Env->Option D)(ρ:Env):List D->Option (List D)
 | []=>some []
 | d::ds=>(tgt ρ d).bind fun ρ'=>(tt ρ').bind fun b=>if b=true then (te ρ').bind fun x=>(dv tgt tt te ρ ds).map (x::·) else dv tgt tt te ρ ds
def Lg(X:Cx)(ifs:List Expr)(f:Env->Option Bool):Prop:=Kv X ifs (IC X.K f)
theorem Fn:Lg X [] (fun _=>some true):=fun pins s σ H Q I ⟨HF,ρ,b,sm,eo,hf,q⟩=>E2 pins s σ H Q I (by cases hf;exact q H HF (.refl sm))
theorem Gg{c:Expr}{t:Env->Option Bool}(h:DT X c t):Lg X [c] t:=FF h
noncomputable def jx(t:Nat)(cs:List Nat)(σ:L2.St):L2.St:=List.replicate t none++cs.map fun j=>(σ[j]?).getD none
noncomputable def fM(t:Nat)(cs:List Nat)(ρ:Env):Env:=List.replicate t none++cs.map fun j=>(ρ[j]?).getD none
theorem y6{K:W.Frag}{HF:Hp}{ρ:Env}{σ:L2.St}{t:Nat}{cs:List Nat}(eo:cm K HF ρ σ):cm K HF (fM t cs ρ) (jx t cs σ):=by
 refine⟨fun i d h=>?_,by simp[fM,jx],eo.tb⟩
 unfold fM at h
 unfold jx
 by_cases hi:i < t
 ·rw[List.getElem?_append_left (by simpa using hi),List.getElem?_replicate,if_pos hi] at h
  cases h
 ·rw[List.getElem?_append_right (by simpa using hi),zO,List.length_replicate] at h
  rw[List.getElem?_append_right (by simpa using hi),zO,List.length_replicate]
  obtain⟨j,hj,h⟩:=af h
  rw[hj]
  cases e:ρ[j]? with
  | none=>rw[e] at h;cases h
  | some o =>
   rw[e] at h
   have h:o=some d:=h
   subst h
   obtain⟨v,a,b⟩:=eo.get j d e
   exact⟨v,by show some ((σ[j]?).getD none)=_;rw[a];rfl,b⟩
noncomputable def aq(t:Nat)(cs:List Nat)(fi:Env->Option (List D))(tgt:Env->D->Option Env)(tt:Env->Option Bool)(te:Env->Option D):Env->Option (List D):=fun ρ=>(fi ρ).bind fun ds=>(dv tgt tt te (fM t cs ρ) ds).bind small
variable {elt iter:Expr}{ifs:List Expr}{scope:Scope}{N:List Str}{t:Nat}{cs:List Nat}{fi:Env->Option (List D)}{tgt:Env->D->Option Env}{tt:Env->Option Bool}{te:Env->Option D}
theorem Er:∀σ H Q,tF X.K (aq t cs fi tgt tt te) σ H Q->Cz (M8 X.K fi) (LN X.K tgt) (IC X.K tt) (tD X.K te) (jx t cs) σ H Q:=fun σ H Q ⟨HF,ρ,out,sm,eo,hf,q⟩=>by
 obtain⟨ds,hx,hf⟩:=bs hf
 obtain⟨out',ho,hf⟩:=bs hf
 obtain⟨rfl,hz⟩:=d8 hf
 refine⟨HF,ρ,ds,sm,eo,hx,fun J H1 HF1 g1 it Dn hD=>?_⟩
 have eo1:=y6 (t:=t) (cs:=cs) (eo.mono g1.ff)
 have hFD:HF1 Dn=none:=g1.fh.free hD
 refine⟨fun i m σ' H'=>m+i=ds.length/\∃HF' xs ys rest,bR HF1 H1 HF' H'/\HF' Dn=none/\H' Dn=some (.lst ys)/\ak X.K HF' xs ys/\cm X.K HF' (fM t cs ρ) σ'/\dv tgt tt te (fM t cs ρ) (ds.drop i)=some rest/\xs++rest=out,
  ⟨ds.length,rfl,HF1,[],[],out,.own g1.fh hD,hFD,aC,ak.nil,eo1,ho,rfl⟩,?_⟩
 rintro i m σ' H' ⟨hm,HF',xs,ys,rest,G,hFD',hHD,rr,eo',hc,hout⟩
 by_cases hi:i < ds.length
 ·refine .inr ?_
  have hd:ds.drop i=ds[i]::ds.drop (i+1):=List.drop_eq_getElem_cons hi
  have he:ds[i]?=some ds[i]:=zU.mpr ⟨hi,rfl⟩
  generalize ds[i]=d at hd he
  rw[hd] at hc
  unfold dv at hc
  obtain⟨ρ',h1,hc⟩:=bs hc
  obtain⟨b,h2,hc⟩:=bs hc
  obtain⟨go,yld⟩:=it.go i d H' HF' he G.ff G.fh
  refine⟨go,fun x H2 y=>?_⟩
  obtain⟨HF2,G2,rx⟩:=yld x H2 y
  refine⟨HF2,_,d,ρ',G2.fh,eo'.mono G2.ff,rx,h1,fun σ2 eo2 eo2'=>?_⟩
  refine⟨HF2,ρ',b,G2.fh,eo2,h2,fun H3 HF3 G3=>?_⟩
  have nof:∀HF4 H4,bR HF' H' HF4 H4->HF4 Dn=none:=fun HF4 H4 G4=>by
   cases e4:HF4 Dn with
   | none=>rfl
   | some o =>
    rcases G4.nw Dn o e4 with z|z
    ·rw[hFD'] at z;cases z
    ·rw[hHD] at z;cases z
  cases b with
  | false =>
   refine uF ⟨m - 1,by omega,by omega,HF3,xs,ys,rest,(G.trans G2).trans G3,nof _ _ (G2.trans G3),(G2.trans G3).hh _ _ hHD,rr.mono (G2.trans G3).ff,eo2'.mono G3.ff,by simpa using hc,hout⟩
  | true =>
   rw[if_pos rfl] at hc
   obtain⟨z,h3,hc⟩:=bs hc
   obtain⟨rest',h4,rfl⟩:=af hc
   refine u5 ⟨HF3,ρ',z,G3.fh,eo2.mono G3.ff,h3,fun v H4 HF4 G4 rv=>?_⟩
   have GG:=(G2.trans G3).trans G4
   have n4:=nof _ _ GG
   have h4D:=GG.hh _ _ hHD
   have hlen:ys.length < sizeLine:=by
    have e1:=rr.length
    have e2:out.length=xs.length+(rest'.length+1):=by rw[<- hout];simp
    omega
   refine⟨ys,h4D,hlen,m - 1,by omega,by omega,HF4,xs++[z],ys++[v],rest',?_,n4,aC,(rr.mono GG.ff).append (ak.cons rv ak.nil),eo2'.mono (G3.ff.trans G4.ff),h4,by simp[<- hout]⟩
   have G5:=G.trans GG
   refine⟨fun b o e=>?_,G5.ff,fun b o e=>?_,G5.nw⟩
   ·rw[ay (aK e hD)];exact G5.hh b o e
   ·rw[ay (aK e n4)];exact G5.fh b o e
 ·have hi':i=ds.length:=by omega
  subst hi'
  rw[List.drop_length] at hc
  cases hc
  rw[List.append_nil] at hout
  subst hout
  exact .inl ⟨it.stop H' HF' G.ff G.fh,q Dn ys H' HF' (g1.trans G) (g1.hh.free hD) hFD' hHD rr⟩
theorem F8(hc:X.calm=true)(S:iz X scope N (jx t cs))(hi:DI X tg iter fi)
  (hY:∀fp s H,DG (aS X scope N fp s H) tg tgt/\Lg (aS X scope N fp s H) ifs tt/\DE (aS X scope N fp s H) elt te)
  (hs:∀x,foldedSetIterable iter X.env x=pure x:=by intro _;rfl):DF X (.ListComp elt [⟨tg,iter,ifs,0⟩] scope pos) (aq t cs fi tgt tt te):=aN (GN (g:=LN X.K tgt) (tt:=IC X.K tt) (te:=tD X.K te) hc S hi hY hs) Er
end
inductive Slot where
 | non|val (d:D)|own (ds:List D)
noncomputable abbrev ai:=List Slot
noncomputable def Slot.all:Slot->Option D|.non=>none|.val d=>some d|.own ds=>some (.list ds)
noncomputable def Slot.frz:Slot->Option D|.val d=>some d|_=>none
noncomputable def Slot.thaw:Slot->Slot|.own ds=>.val (.list ds)|s=>s
noncomputable def bz(ρ:ai):Env:=ρ.map Slot.all
noncomputable def dG(ρ:ai):Env:=ρ.map Slot.frz
noncomputable def hand(fz:List Nat):Nat->ai->ai
 | _,[]=>[]
 | k,s::r=>(if fz.contains k=true then s.thaw else s)::hand fz (k+1) r
theorem g9(fz:List Nat):∀ (ρ:ai) (k i:Nat),(hand fz k ρ)[i]?=(ρ[i]?).map fun s=>if fz.contains (k+i)=true then s.thaw else s
 | [],k,i=>by simp[hand]
 | s::r,k,0=>by simp[hand]
 | s::r,k,i+1=>by
  simp only[hand,List.getElem?_cons_succ]
  rw[g9 fz r (k+1) i,Nat.add_assoc,Nat.add_comm 1 i]
theorem vz(fz:List Nat):∀ (ρ:ai) (k:Nat),(hand fz k ρ).length=ρ.length
 | [],k=>rfl
 | s::r,k=>by simp[hand,vz fz r (k+1)]
structure i8(K:W.Frag)(HF₀ H₀ HF H:Hp)(ρ:ai)(σ:L2.St):Prop where
 gr:bR HF₀ H₀ HF H
 val:∀ (i:Nat) (d:D),ρ[i]?=some (.val d)->∃v,σ[i]?=some (some v)/\Rep K HF d v
 own:∀ (i:Nat) (ds:List D),ρ[i]?=some (.own ds)->∃a vs,σ[i]?=some (some (.ref a))/\H a=some (.lst vs)/\HF a=none/\H₀ a=none/\ak K HF ds vs
 inj:∀ (i j:Nat) (ds es:List D) (a:Addr),ρ[i]?=some (.own ds)->ρ[j]?=some (.own es)->σ[i]?=some (some (.ref a))->σ[j]?=some (some (.ref a))->i=j
 len:ρ.length<=σ.length
 tb:fI K HF
section
variable {K:W.Frag}{HF₀ H₀ HF H HF' H':Hp}{ρ:ai}{σ:L2.St}
theorem i8.all(S:i8 K HF₀ H₀ HF H ρ σ):cm K H (bz ρ) σ:=by
 refine⟨fun i d h=>?_,by simpa [bz] using S.len,S.tb.mono S.gr.fh⟩
 unfold bz at h
 rw[zO] at h
 obtain⟨s,hs,h⟩:=af h
 cases s with
 | non=>cases h
 | val e=>cases h;obtain⟨v,a,b⟩:=S.val i _ hs;exact⟨v,a,b.mono S.gr.fh⟩
 | own ds =>
  cases h
  obtain⟨a,vs,e1,e2,e3,_,e4⟩:=S.own i ds hs
  exact⟨.ref a,e1,by simp only[Rep];exact⟨a,vs,rfl,gG.of e2,e4.mono S.gr.fh⟩⟩
theorem i8.frz(S:i8 K HF₀ H₀ HF H ρ σ):cm K HF (dG ρ) σ:=by
 refine⟨fun i d h=>?_,by simpa [dG] using S.len,S.tb⟩
 unfold dG at h
 rw[zO] at h
 obtain⟨s,hs,h⟩:=af h
 cases s with
 | non=>cases h
 | val e=>cases h;exact S.val i _ hs
 | own ds=>cases h
theorem i8.grow(S:i8 K HF₀ H₀ HF H ρ σ)(g:bR HF H HF' H'):i8 K HF₀ H₀ HF' H' ρ σ where
 gr:=S.gr.trans g
 val:=fun i d h=>let ⟨v,a,b⟩:=S.val i d h;⟨v,a,b.mono g.ff⟩
 own:=fun i ds h=>by
  obtain⟨a,vs,e1,e2,e3,e5,e4⟩:=S.own i ds h
  refine⟨a,vs,e1,g.hh _ _ e2,?_,e5,e4.mono g.ff⟩
  cases e:HF' a with
  | none=>rfl
  | some o =>
   rcases g.nw a o e with z|z
   ·rw[e3] at z;cases z
   ·rw[e2] at z;cases z
 inj:=S.inj
 len:=S.len
 tb:=S.tb.mono g.ff
theorem i8.step(S:i8 K HF₀ H₀ HF H ρ σ)(g:aR H H'):i8 K HF₀ H₀ HF H' ρ σ:=S.grow ⟨g,.refl _,S.gr.fh.trans g,fun _ _ e=>.inl e⟩
theorem i8.hand(S:i8 K HF₀ H₀ HF H ρ σ)(fz:List Nat):∃HF1,aR HF HF1/\i8 K HF₀ H₀ HF1 H (hand fz 0 ρ) σ:=by
 let P:Addr->Prop:=fun a=>∃i ds,fz.contains i=true/\ρ[i]?=some (.own ds)/\σ[i]?=some (some (.ref a))
 have cl:=Classical.propDecidable
 let HF1:Hp:=fun a=>if P a then H a else HF a
 have hP:∀a,P a->HF a=none/\H₀ a=none:=fun a ⟨i,ds,_,h1,h2⟩=>by
  obtain⟨a',vs,e1,e2,e3,e5,e4⟩:=S.own i ds h1
  rw[h2] at e1
  cases e1
  exact⟨e3,e5⟩
 have s1:aR HF HF1:=fun b o e=>by
  show (if P b then H b else HF b)=some o
  by_cases h:P b
  ·rw[(hP b h).1] at e;cases e
  ·rw[if_neg h];exact e
 have s2:aR HF1 H:=fun b o e=>by
  have e:(if P b then H b else HF b)=some o:=e
  by_cases h:P b
  ·rw[if_pos h] at e;exact e
  ·rw[if_neg h] at e;exact S.gr.fh b o e
 refine⟨HF1,s1,⟨S.gr.hh,S.gr.ff.trans s1,s2,fun b o e=>?_⟩,fun i d h=>?_,fun i ds h=>?_,fun i j ds es a h1 h2=>?_,by rw[vz];exact S.len,S.tb.mono s1⟩
 ·have e:(if P b then H b else HF b)=some o:=e
  by_cases h:P b
  ·exact .inr (hP b h).2
  ·rw[if_neg h] at e;exact S.gr.nw b o e
 ·rw[g9] at h
  obtain⟨s,hs,h⟩:=af h
  rw[Nat.zero_add] at h
  cases s with
  | non=>split at h<;>cases h
  | val e =>
   have:Slot.val e=Slot.val d:=by split at h<;>exact h
   cases this
   obtain⟨v,a,b⟩:=S.val i _ hs
   exact⟨v,a,b.mono s1⟩
  | own ds =>
   split at h
   ·rename_i hc
    cases h
    obtain⟨a,vs,e1,e2,e3,e5,e4⟩:=S.own i ds hs
    refine⟨.ref a,e1,?_⟩
    simp only[Rep]
    refine⟨a,vs,rfl,.inl (.inl ?_),e4.mono s1⟩
    show (if P a then H a else HF a)=_
    rw[if_pos ⟨i,ds,hc,hs,e1⟩]
    exact e2
   ·cases h
 ·rw[g9] at h
  obtain⟨s,hs,h⟩:=af h
  rw[Nat.zero_add] at h
  cases s with
  | non=>split at h<;>cases h
  | val e=>split at h<;>cases h
  | own es =>
   split at h
   ·cases h
   ·rename_i hc
    cases h
    obtain⟨a,vs,e1,e2,e3,e5,e4⟩:=S.own i ds hs
    refine⟨a,vs,e1,e2,?_,e5,e4.mono s1⟩
    show (if P a then H a else HF a)=none
    rw[if_neg ?_]
    ·exact e3
    ·rintro⟨j,es,hj,h1,h2⟩
     have:=S.inj i j ds es a hs h1 e1 h2
     subst this
     exact hc hj
 ·rw[g9] at h1 h2
  obtain⟨s,hs,h1⟩:=af h1
  obtain⟨s',hs',h2⟩:=af h2
  rw[Nat.zero_add] at h1 h2
  cases s with
  | non=>split at h1<;>cases h1
  | val e=>split at h1<;>cases h1
  | own xs =>
   cases s' with
   | non=>split at h2<;>cases h2
   | val e=>split at h2<;>cases h2
   | own ys=>exact S.inj i j _ _ a hs hs'
theorem i8.setV(S:i8 K HF₀ H₀ HF H ρ σ){i:Nat}{d:D}{v:V}(r:Rep K HF d v):i8 K HF₀ H₀ HF H (ρ.set i (.val d)) (σ.set i (some v)):=by
 have ne:∀ {j:Nat}{s:Slot},(ρ.set i (.val d))[j]?=some s->(∀e,s≠.val e)->i≠j/\ρ[j]?=some s:=fun {j s} h hn=>by
  rw[List.getElem?_set] at h
  by_cases hij:i=j
  ·rw[if_pos hij] at h
   split at h
   ·cases h;exact absurd rfl (hn _)
   ·cases h
  ·rw[if_neg hij] at h;exact⟨hij,h⟩
 refine⟨S.gr,fun j e h=>?_,fun j ds h=>?_,fun j k ds es a h1 h2 h3 h4=>?_,by rw[yD,yD];exact S.len,S.tb⟩
 ·rw[List.getElem?_set] at h ⊢
  by_cases hij:i=j
  ·rw[if_pos hij] at h ⊢
   split at h
   ·rename_i hl
    cases h
    rw[if_pos (zP hl S.len)]
    exact⟨v,rfl,r⟩
   ·cases h
  ·rw[if_neg hij] at h ⊢
   exact S.val j e h
 ·obtain⟨hij,h⟩:=ne h fun e z=>by cases z
  rw[List.getElem?_set,if_neg hij]
  exact S.own j ds h
 ·obtain⟨n1,h1⟩:=ne h1 fun e z=>by cases z
  obtain⟨n2,h2⟩:=ne h2 fun e z=>by cases z
  rw[List.getElem?_set,if_neg n1] at h3
  rw[List.getElem?_set,if_neg n2] at h4
  exact S.inj j k ds es a h1 h2 h3 h4
theorem i8.setO(S:i8 K HF₀ H₀ HF H ρ σ){i:Nat}{ds:List D}{a:Addr}{vs:List V}(hs:aR H H')(h1:H' a=some (.lst vs))(h2:HF a=none)(h3:H₀ a=none)(r:ak K HF ds vs)
  (fr:∀j es,i≠j->ρ[j]?=some (.own es)->σ[j]?≠some (some (.ref a))):i8 K HF₀ H₀ HF H' (ρ.set i (.own ds)) (σ.set i (some (.ref a))):=by
 have S:=S.step hs
 refine⟨S.gr,fun j e h=>?_,fun j es h=>?_,fun j k xs ys b e1 e2 e3 e4=>?_,by rw[yD,yD];exact S.len,S.tb⟩
 ·rw[List.getElem?_set] at h ⊢
  by_cases hij:i=j
  ·rw[if_pos hij] at h
   split at h<;>cases h
  ·rw[if_neg hij] at h ⊢
   exact S.val j e h
 ·rw[List.getElem?_set] at h ⊢
  by_cases hij:i=j
  ·rw[if_pos hij] at h ⊢
   split at h
   ·rename_i hl
    cases h
    rw[if_pos (zP hl S.len)]
    exact⟨a,vs,rfl,h1,h2,h3,r⟩
   ·cases h
  ·rw[if_neg hij] at h ⊢
   exact S.own j es h
 ·rw[List.getElem?_set] at e1 e2 e3 e4
  by_cases hij:i=j
  ·by_cases hik:i=k
   ·exact hij.symm.trans hik
   ·rw[if_pos hij] at e1 e3
    rw[if_neg hik] at e2 e4
    split at e3
    ·cases e3;exact absurd e4 (fr k ys hik e2)
    ·cases e3
  ·by_cases hik:i=k
   ·rw[if_neg hij] at e1 e3
    rw[if_pos hik] at e2 e4
    split at e4
    ·cases e4;exact absurd e3 (fr j xs hij e1)
    ·cases e4
   ·rw[if_neg hij] at e1 e3
    rw[if_neg hik] at e2 e4
    exact S.inj j k xs ys b e1 e2 e3 e4
end
inductive Out where
 | nx (ρ:ai)|rt (d:D)
noncomputable def y1(K:W.Frag)(HF₀ H₀ HF:Hp)(E:Ends):Out->Prop
 | .nx ρ'=>∀σ' H' HF',i8 K HF₀ H₀ HF' H' ρ' σ'->aR HF HF'->E.nx σ' H'
 | .rt d=>∀v H' HF',bR HF₀ H₀ HF' H'->Rep K HF' d v->E.rt v H'
def tS(K:W.Frag)(HF₀ H₀:Hp)(g:ai->Option Out):TS:=fun E σ H=>∃HF ρ o,i8 K HF₀ H₀ HF H ρ σ/\g ρ=some o/\y1 K HF₀ H₀ HF E o
def DS(X:Cx)(HF₀ H₀:Hp)(st:Stmt)(g:ai->Option Out):Prop:=PS X st (tS X.K HF₀ H₀ g)
def Bx(X:Cx)(HF₀ H₀:Hp)(st:List Stmt)(g:ai->Option Out):Prop:=xJ X st (tS X.K HF₀ H₀ g)
section
variable {X:Cx}{HF₀ H₀:Hp}{st:Stmt}{rest:List Stmt}{g g1 g2:ai->Option Out}{e:Expr}{pos:Pos}
theorem dm{t t':TS}(h:PS X st t)(i:∀E σ H,t' E σ H->t E σ H):PS X st t':=fun pins s σ H E I q=>h pins s σ H E I (i E σ H q)
theorem zc{t t':TS}(h:xJ X rest t)(i:∀E σ H,t' E σ H->t E σ H):xJ X rest t':=fun pins s σ H E I q=>h pins s σ H E I (i E σ H q)
noncomputable def hJ:ai->Option Out:=fun ρ=>some (.nx ρ)
noncomputable def aw(g1 g2:ai->Option Out):ai->Option Out:=fun ρ=>(g1 ρ).bind fun|.nx ρ'=>g2 ρ'|.rt d=>some (.rt d)
theorem y1.mono{K:W.Frag}{HF HF':Hp}{E:Ends}{o:Out}(s:aR HF HF')(h:y1 K HF₀ H₀ HF E o):y1 K HF₀ H₀ HF' E o:=by
 cases o with
 | nx ρ'=>exact fun σ' H' HF2 S s2=>h σ' H' HF2 S (s.trans s2)
 | rt d=>exact h
theorem Fi:Bx X HF₀ H₀ [] hJ:=zc FY fun E σ H ⟨HF,ρ,o,S,hg,q⟩=>by cases hg;exact q σ H HF S (.refl _)
theorem D4(h1:DS X HF₀ H₀ st g1)(h2:Bx X HF₀ H₀ rest g2):Bx X HF₀ H₀ (st::rest) (aw g1 g2):=zc (CH h1 h2) fun E σ H ⟨HF,ρ,o,S,hg,q⟩=>by
 obtain⟨o1,h,hg⟩:=bs hg
 refine⟨HF,ρ,o1,S,h,?_⟩
 cases o1 with
 | nx ρ'=>exact fun σ' H' HF' S' s=>⟨HF',ρ',o,S',hg,q.mono s⟩
 | rt d=>cases hg;exact q
theorem GF(h1:DS X HF₀ H₀ st g1):Bx X HF₀ H₀ [st] g1:=FP h1
theorem GI:DS X HF₀ H₀ (.Pass pos) hJ:=dm FH fun E σ H ⟨HF,ρ,o,S,hg,q⟩=>by cases hg;exact q σ H HF S (.refl _)
theorem HY{x j pos pos'}:DS X HF₀ H₀ (.Expr (.Constant (.str x) j pos) pos') hJ:=dm IJ fun E σ H ⟨HF,ρ,o,S,hg,q⟩=>by cases hg;exact q σ H HF S (.refl _)
noncomputable def gC(t:Env->Option Bool)(g1 g2:ai->Option Out):ai->Option Out:=fun ρ=>(t (bz ρ)).bind fun b=>if b=true then g1 ρ else g2 ρ
theorem Lr{c:Expr}{a b:List Stmt}{t:Env->Option Bool}(hc:DT X c t)(ha:Bx X HF₀ H₀ a g1)(hb:Bx X HF₀ H₀ b g2):DS X HF₀ H₀ (.If c a b pos) (gC t g1 g2):=dm (LH hc ha hb) fun E σ H ⟨HF,ρ,o,S,hg,q⟩=>by
 obtain⟨b,h,hg⟩:=bs hg
 refine⟨H,bz ρ,b,.refl _,S.all,h,fun H' HF' G=>?_⟩
 cases b with
 | true=>exact u5 ⟨HF,ρ,o,S.step G.hh,hg,q⟩
 | false=>exact uF ⟨HF,ρ,o,S.step G.hh,hg,q⟩
theorem vg:∀ (ρ:ai) (k n:Nat),k+ρ.length<=n->dG (hand (List.range n) k ρ)=bz ρ
 | [],k,n,h=>rfl
 | s::r,k,n,h=>by
  have hk:(List.range n).contains k=true:=by simp at h ⊢;omega
  have ih:=vg r (k+1) n (by simp at h;omega)
  unfold dG bz at ih ⊢
  rw[hand,if_pos hk,zI,zI,ih]
  cases s<;>rfl
noncomputable def aG(f:Env->Option D):ai->Option Out:=fun ρ=>(f (bz ρ)).map Out.rt
theorem Jp{f:Env->Option D}(h:DE X e f):DS X HF₀ H₀ (.Return (some e) pos) (aG f):=dm (IY h) fun E σ H ⟨HF,ρ,o,S,hg,q⟩=>by
 obtain⟨d,h,rfl⟩:=af hg
 obtain⟨HF1,s1,S1⟩:=S.hand (List.range ρ.length)
 refine⟨HF1,bz ρ,d,S1.gr.fh,?_,h,fun v H' HF' G r=>q v H' HF' (S1.gr.trans G) r⟩
 have:=S1.frz
 rw[vg ρ 0 ρ.length (by omega)] at this
 exact this
noncomputable def oH:D->Bool|.none=>true|.bool _=>true|.int _=>true|.str _=>true|_=>false
theorem uN{K:W.Frag}{HF HF':Hp}{d:D}{v:V}(h:oH d=true)(r:Rep K HF d v):Rep K HF' d v:=by
 cases d<;>cases h<;>(simp only[Rep] at r ⊢;exact r)
mutual
noncomputable def bK:D->Bool
 | .tuple ds=>fK ds
 | .list _=>false
 | .dict _=>false
 | _=>true
noncomputable def fK:List D->Bool
 | []=>true
 | d::ds=>bK d&&fK ds
end
mutual
theorem uB{K:W.Frag}{H1 H2:Hp}(ht:∀a xs,gT K H1 a xs->gT K H2 a xs):∀ {d:D}{v:V},bK d=true->Rep K H1 d v->Rep K H2 d v
 | .none,_,_,r=>by simp only[Rep] at r ⊢;exact r
 | .bool _,_,_,r=>by simp only[Rep] at r ⊢;exact r
 | .int _,_,_,r=>by simp only[Rep] at r ⊢;exact r
 | .str _,_,_,r=>by simp only[Rep] at r ⊢;exact r
 | .tuple ds,v,h,r=>by
  simp only[bK] at h
  simp only[Rep] at r ⊢
  obtain⟨a,vs,e,q,rr⟩:=r
  exact⟨a,vs,e,ht _ _ q,rK ht h rr⟩
 | .list _,_,h,_=>by simp[bK] at h
 | .dict _,_,h,_=>by simp[bK] at h
theorem rK{K:W.Frag}{H1 H2:Hp}(ht:∀a xs,gT K H1 a xs->gT K H2 a xs):∀ {ds:List D}{vs:List V},fK ds=true->ak K H1 ds vs->ak K H2 ds vs
 | [],_,_,r=>by simp only[ak] at r ⊢;exact r
 | d::ds,vs,h,r=>by
  simp only[fK,zF] at h
  simp only[ak] at r ⊢
  obtain⟨v,r',e,a,b⟩:=r
  exact⟨v,r',e,uB ht h.1 a,rK ht h.2 b⟩
end
theorem i8.back{K:W.Frag}{HF₀ H₀ HF H HF1 HF' H':Hp}{ρ ρ1:ai}{σ:L2.St}(S:i8 K HF₀ H₀ HF H ρ σ)(S1:i8 K HF₀ H₀ HF1 H ρ1 σ)(s1:aR HF HF1)(G:bR HF1 H HF' H'):∃HF2,aR HF HF2/\i8 K HF₀ H₀ HF2 H' ρ σ/\∀d v,bK d=true->Rep K HF' d v->Rep K HF2 d v:=by
 have cl:=Classical.propDecidable
 let O:Addr->Prop:=fun a=>∃ (i:Nat) (ds:List D),ρ[i]?=some (Slot.own ds)/\σ[i]?=some (some (V.ref a))
 let HF2:Hp:=fun a=>if O a then none else HF' a
 have hO:∀a,O a->HF a=none/\∃vs,H a=some (.lst vs):=fun a ⟨i,ds,h1,h2⟩=>by
  obtain⟨a',vs,e1,e2,e3,_,_⟩:=S.own i ds h1
  rw[h2] at e1
  cases e1
  exact⟨e3,vs,e2⟩
 have h2:∀a,¬ O a->HF2 a=HF' a:=fun a n=>if_neg n
 have h3:∀a,O a->HF2 a=none:=fun a n=>if_pos n
 have sa:aR HF HF2:=fun b o e=>by
  have nb:¬ O b:=fun z=>by rw[(hO b z).1] at e;cases e
  rw[h2 b nb]
  exact G.ff b o (s1 b o e)
 have sb:∀b o,HF2 b=some o->HF' b=some o:=fun b o e=>by
  by_cases z:O b
  ·rw[h3 b z] at e;cases e
  ·rwa [h2 b z] at e
 have g2:=S1.gr.trans G
 refine⟨HF2,sa,⟨⟨g2.hh,S.gr.ff.trans sa,fun b o e=>G.fh b o (sb b o e),fun b o e=>g2.nw b o (sb b o e)⟩,fun i d h=>?_,fun i ds h=>?_,S.inj,S.len,S.tb.mono sa⟩,fun d v hn r=>uB (fun a xs q=>?_) hn r⟩
 ·obtain⟨v,e1,r⟩:=S.val i d h
  exact⟨v,e1,r.mono sa⟩
 ·obtain⟨a,vs,e1,e2,e3,e5,e4⟩:=S.own i ds h
  exact⟨a,vs,e1,G.hh _ _ e2,h3 a ⟨i,ds,h,e1⟩,e5,e4.mono sa⟩
 ·have nt:∀o,HF' a=some o->(∀vs,o≠.lst vs)->HF2 a=some o:=fun o e hne=>by
   by_cases z:O a
   ·obtain⟨_,vs,e2⟩:=hO a z
    have:=G.hh _ _ e2
    rw[G.fh a o e] at this
    cases this
    exact absurd rfl (hne vs)
   ·rw[h2 a z];exact e
  rcases q with (q|⟨o,q⟩)|q
  ·exact .inl (.inl (nt _ q fun vs z=>by cases z))
  ·exact .inl (.inr ⟨o,nt _ q fun vs z=>by cases z⟩)
  ·exact .inr q
noncomputable def aJ(i:Nat)(fz:List Nat)(f:Env->Option D):ai->Option Out:=fun ρ=>(f (bz ρ)).bind fun d=>if oH d=true then some (.nx (ρ.set i (.val d))) else (f (dG (hand fz 0 ρ))).map fun d'=>.nx ((if bK d'=true then ρ else hand fz 0 ρ).set i (.val d'))
theorem LG{i:Nat}{fz:List Nat}{f:Env->Option D}:∀E σ H,tS X.K HF₀ H₀ (aJ i fz f) E σ H->CT (tD X.K f) (vP i) E σ H:=fun E σ H ⟨HF,ρ,o,S,hg,q⟩=>by
 obtain⟨d,h,hg⟩:=bs hg
 split at hg
 ·rename_i hs
  cases hg
  exact⟨H,bz ρ,d,.refl _,S.all,h,fun v H' HF' G r=>q _ H' HF ((S.step G.hh).setV (uN hs r)) (.refl _)⟩
 ·obtain⟨d',h',rfl⟩:=af hg
  obtain⟨HF1,s1,S1⟩:=S.hand fz
  refine⟨HF1,_,d',S1.gr.fh,S1.frz,h',fun v H' HF' G r=>?_⟩
  by_cases hn:bK d'=true
  ·rw[if_pos hn] at q
   obtain⟨HF2,s2,S2,hb⟩:=S.back S1 s1 G
   exact q _ H' HF2 (S2.setV (hb d' v hn r)) s2
  ·rw[if_neg hn] at q
   exact q _ H' HF' ((S1.grow G).setV r) (s1.trans G.ff)
theorem Ki(i:Nat)(fz:List Nat){x:Str}{f:Env->Option D}{pos':Pos}(hN:X.N.Nodup)(hi:X.N[i]?=some x)(hx:Loc X.env.scope x)(he:DE X e f)(hs:swapsWith e (some (.Name x pos')) pos.line X.env=pure false:=by rfl)
  (hf:X.fn x=true\/X.env.scope.names.lookup x=some .local:=by first|exact .inl rfl|exact .inr rfl|assumption):DS X HF₀ H₀ (.Assign [.Name x pos'] e pos) (aJ i fz f):=dm (EL hN hi hx he hs hf) LG
noncomputable def bp(i:Nat)(fz:List Nat)(f:Env->Option (List D)):ai->Option Out:=fun ρ=>(f (dG (hand fz 0 ρ))).map fun ds=>.nx ((hand fz 0 ρ).set i (.own ds))
theorem D8{i:Nat}{fz:List Nat}{f:Env->Option (List D)}:∀E σ H,tS X.K HF₀ H₀ (bp i fz f) E σ H->CT (tF X.K f) (vP i) E σ H:=fun E σ H ⟨HF,ρ,o,S,hg,q⟩=>by
 obtain⟨ds,h,rfl⟩:=af hg
 obtain⟨HF1,s1,S1⟩:=S.hand fz
 refine⟨HF1,_,ds,S1.gr.fh,S1.frz,h,fun a vs H' HF' G ha hf h' r=>q _ H' HF' ?_ (s1.trans G.ff)⟩
 have S2:=S1.grow G
 refine S2.setO (.refl _) h' hf (S1.gr.hh.free ha) r fun j es _ hj z=>?_
 obtain⟨b,us,e1,e2,_⟩:=S1.own j es hj
 rw[e1] at z
 cases z
 rw[ha] at e2;cases e2
theorem ud(i:Nat)(fz:List Nat){x:Str}{f:Env->Option (List D)}{pos':Pos}(hN:X.N.Nodup)(hi:X.N[i]?=some x)(hx:Loc X.env.scope x)(he:DF X e f)(hs:swapsWith e (some (.Name x pos')) pos.line X.env=pure false:=by rfl)
  (hf:X.fn x=true\/X.env.scope.names.lookup x=some .local:=by first|exact .inl rfl|exact .inr rfl|assumption):DS X HF₀ H₀ (.Assign [.Name x pos'] e pos) (bp i fz f):=dm (EL hN hi hx he hs hf) D8
theorem Gv(i:Nat)(fz:List Nat){y:Str}{py spos:Pos}{tg iter elt:Expr}{ifs:List Expr}{scope:Scope}{N:List Str}{t:Nat}{cs:List Nat}{fi:Env->Option (List D)}{tgt:Env->D->Option Env}{tt:Env->Option Bool}{te:Env->Option D}
  (hc:X.calm=true) (S:iz X scope N (jx t cs)) (hi:DI X tg iter fi)
  (hY:∀fp s H,DG (aS X scope N fp s H) tg tgt/\Lg (aS X scope N fp s H) ifs tt/\DE (aS X scope N fp s H) elt te)
  (hN:X.N.Nodup) (hiy:X.N[i]?=some y) (hy:X.env.scope.names.lookup y=some .local)
  (hsw:swapsWith (.ListComp elt [⟨tg,iter,ifs,0⟩] scope pos) (some (.Name y py)) spos.line X.env=pure true)
  (hs:∀x,foldedSetIterable iter X.env x=pure x:=by intro _;rfl):DS X HF₀ H₀ (.Assign [.Name y py] (.ListComp elt [⟨tg,iter,ifs,0⟩] scope pos) spos) (bp i fz (aq t cs fi tgt tt te)) :=
 dm (Fm (g:=LN X.K tgt) (tt:=IC X.K tt) (te:=tD X.K te) hc S hi hY hN hiy hy hsw hs) fun E σ H q=>by
  have:=D8 E σ H q
  exact Er σ H _ this
def Nx(K:W.Frag)(HF₀ H₀:Hp)(f:ai->D->Option ai):TG:=fun v σ H Q=>∃HF ρ d ρ',i8 K HF₀ H₀ HF H ρ σ/\Rep K HF d v/\f ρ d=some ρ'/\∀σ',i8 K HF₀ H₀ HF H ρ' σ'->Q σ' H
def KJ(X:Cx)(HF₀ H₀:Hp)(tg:Expr)(f:ai->D->Option ai):Prop:=PG X tg (Nx X.K HF₀ H₀ f)
noncomputable def CW(i:Nat):ai->D->Option ai:=fun ρ d=>some (ρ.set i (.val d))
theorem D1(i:Nat){x:Str}(hN:X.N.Nodup)(hi:X.N[i]?=some x)(hx:Loc X.env.scope x)(hf:X.fn x=true\/X.env.scope.names.lookup x=some .local:=by first|exact .inl rfl|exact .inr rfl|assumption):KJ X HF₀ H₀ (.Name x pos) (CW i) :=
 mJ (b8 hN hi hx hf) fun v σ H Q ⟨HF,ρ,d,ρ',S,r,hf,q⟩=>by cases hf;exact q _ (S.setV r)
noncomputable def qr(i j:Nat):ai->D->Option ai:=fun ρ d=>match d with
 | .tuple [x,y]=>some ((ρ.set i (.val x)).set j (.val y))
 | _=>none
theorem Gu(i j:Nat){x y:Str}{px py:Pos}{k:Nat}(hc:X.calm=true)(hN:X.N.Nodup)(hi:X.N[i]?=some x)(hx:Loc X.env.scope x)(hj:X.N[j]?=some y)(hy:Loc X.env.scope y)
  (hf:X.fn x=true\/X.env.scope.names.lookup x=some .local:=by first|exact .inl rfl|exact .inr rfl|assumption) (hf':X.fn y=true\/X.env.scope.names.lookup y=some .local:=by first|exact .inl rfl|exact .inr rfl|assumption) :
  KJ X HF₀ H₀ (.Tuple [.Name x px,.Name y py] k pos) (qr i j) :=
 mJ (l5 hc (bH (b8 hN hi hx hf) (bH (b8 hN hj hy hf') ka))) fun v σ H Q ⟨HF,ρ,d,ρ',S,r,hf,q⟩=>by
  unfold qr at hf
  split at hf
  ·cases hf
   simp only[Rep] at r
   obtain⟨a,vs,rfl,hs,rr⟩:=r
   obtain⟨v1,r1,rfl,a1,b1⟩:=rr.cons_inv
   obtain⟨v2,r2,rfl,a2,b2⟩:=b1.cons_inv
   rw[b2.nil_inv] at hs
   exact⟨a,_,rfl,av S.gr.fh hs,rfl,v1,_,rfl,v2,_,rfl,rfl,q _ ((S.setV a1).setV a2)⟩
  ·cases hf
noncomputable def jB(tgt:ai->D->Option ai)(gb:ai->Option Out):List D->ai->Option Out
 | [],ρ=>some (.nx ρ)
 | d::ds,ρ=>(tgt ρ d).bind fun ρ1=>(gb ρ1).bind fun|.nx ρ2=>jB tgt gb ds ρ2|.rt v=>some (.rt v)
noncomputable def nv(fz:List Nat)(fi:Env->Option (List D))(tgt:ai->D->Option ai)(gb:ai->Option Out):ai->Option Out:=fun ρ=>(fi (dG (hand fz 0 ρ))).bind fun ds=>jB tgt gb ds (hand fz 0 ρ)
theorem HP(fz:List Nat){tg iter:Expr}{body:List Stmt}{fi:Env->Option (List D)}{tgt:ai->D->Option ai}{gb:ai->Option Out}(hp:PassesOwn (model X.prog X.w) X.A X.env X.xe)(hc:X.calm=true)(hi:DI X tg iter fi)(hg:KJ X HF₀ H₀ tg tgt)(hb:Bx X HF₀ H₀ body gb)
  (hs:∀x,foldedSetIterable iter X.env x=pure x:=by intro _;rfl):DS X HF₀ H₀ (.For tg iter body [] pos) (nv fz fi tgt gb):=dm (JK hp hc hi hg hb hs) fun E σ H ⟨HF,ρ,o,S,hg,q⟩=>by
 obtain⟨ds,h,hg⟩:=bs hg
 obtain⟨HF1,s1,S1⟩:=S.hand fz
 refine⟨HF1,_,ds,S1.gr.fh,S1.frz,h,fun J H2 HF2 G it=>?_⟩
 refine⟨fun i m σ' H'=>m+i=ds.length/\∃HF' ρ',i8 X.K HF₀ H₀ HF' H' ρ' σ'/\aR HF2 HF'/\jB tgt gb (ds.drop i) ρ'=some o,⟨ds.length,rfl,HF2,_,S1.grow G,.refl _,hg⟩,?_⟩
 rintro i m σ' H' ⟨hm,HF',ρ',S',s',hf⟩
 by_cases hi:i < ds.length
 ·refine .inr ?_
  have hd:ds.drop i=ds[i]::ds.drop (i+1):=List.drop_eq_getElem_cons hi
  have he:ds[i]?=some ds[i]:=zU.mpr ⟨hi,rfl⟩
  generalize ds[i]=d at hd he
  rw[hd] at hf
  unfold jB at hf
  obtain⟨ρ1,h1,hf⟩:=bs hf
  obtain⟨o1,h2,hf⟩:=bs hf
  obtain⟨go,yld⟩:=it.go i d H' HF' he s' S'.gr.fh
  refine⟨go,fun σ2 H3=>∃HF3 ρ3,i8 X.K HF₀ H₀ HF3 H3 ρ3 σ2/\aR HF2 HF3/\jB tgt gb (ds.drop (i+1)) ρ3=some o,fun σ2 H3 ⟨HF3,ρ3,a1,a2,a3⟩=>⟨m - 1,by omega,by omega,HF3,ρ3,a1,a2,a3⟩,fun x H3 y=>?_⟩
  obtain⟨HF3,G3,rx⟩:=yld x H3 y
  refine⟨HF3,ρ',d,ρ1,S'.grow G3,rx,h1,fun σ2 S2=>⟨HF3,ρ1,o1,S2,h2,?_⟩⟩
  cases o1 with
  | nx ρ2=>exact fun σ4 H4 HF4 S4 s4=>⟨HF4,ρ2,S4,(s'.trans G3.ff).trans s4,hf⟩
  | rt d=>cases hf;exact q
 ·have hi':i=ds.length:=by omega
  subst hi'
  rw[List.drop_length] at hf
  cases hf
  exact .inl ⟨it.stop H' HF' s' S'.gr.fh,q σ' H' HF' S' ((s1.trans G.ff).trans s')⟩
end
def Mi(X:Cx)(sc:Scope):Prop:=∀x k,sc.names.lookup x=some k->X.env.kindOf x=some k\/(k=.free/\X.env.kindOf x=some .cell)
structure Bk(X:Cx)(N:List Str)(sc:Scope)(k:Nat):Prop where
 n:X.N=N
 nd:N.Nodup
 tb:Mi X sc
 calm:X.calm=true
 fn:∀x,sc.names.lookup x=some .cell->X.fn x=true
 room:dS k X.A
 xe:X.xe=fun _ _=>False
 kd:X.env.scope.kind=.function
def cq:List Str:=["len","isinstance","int","bool","tuple","list","range","all","any","set","sorted","enumerate","zip","sum","min","max","reversed"]
def Bn(X:Cx):Prop:=∀x∈cq,X.mg x=none
noncomputable def v8(sc:Scope)(x:Str):Bool:=decide (sc.names.lookup x=some .globalImplicit)
noncomputable def An(N:List Str)(sc:Scope)(i:Nat)(x:Str):Bool:=decide (N[i]?=some x)&&(decide (sc.names.lookup x=some .local)||decide (sc.names.lookup x=some .cell)||decide (sc.names.lookup x=some .free))&&!(x == ("__debug__":Str))&&!(x == ("__classdict__":Str))
noncomputable def mE(N:List Str)(sc:Scope)(i:Nat)(x:Str):Bool:=decide (N[i]?=some x)&&(decide (sc.names.lookup x=some .local)||decide (sc.names.lookup x=some .cell))
section
variable {X:Cx}{N:List Str}{sc:Scope}{k:Nat}
theorem Bk.gl(C:Bk X N sc k){x:Str}(h:v8 sc x=true):Gl X x:=by
 rcases C.tb x _ (of_decide_eq_true h) with q|⟨q,_⟩
 ·exact q
 ·cases q
theorem Bk.vis(C:Bk X N sc k){i:Nat}{x:Str}(h:An N sc i x=true):X.N[i]?=some x/\Hu X.env.scope x/\(x == ("__debug__":Str))=false/\(x == ("__classdict__":Str))=false:=by
 unfold An at h
 simp only[zF,Bool.or_eq_true,zJ,Bool.not_eq_true'] at h
 obtain⟨⟨⟨h1,h2⟩,h3⟩,h4⟩:=h
 refine⟨by rw[C.n];exact h1,?_,h3,h4⟩
 rcases h2 with (h2|h2)|h2
 ·rcases C.tb x _ h2 with q|⟨q,_⟩
  ·exact .inl q
  ·cases q
 ·rcases C.tb x _ h2 with q|⟨q,_⟩
  ·exact .inr (.inl q)
  ·cases q
 ·rcases C.tb x _ h2 with q|⟨_,q⟩
  ·exact .inr (.inr q)
  ·exact .inr (.inl q)
theorem Bk.loc(C:Bk X N sc k){i:Nat}{x:Str}(h:mE N sc i x=true):X.N.Nodup/\X.N[i]?=some x/\Loc X.env.scope x/\(X.fn x=true\/X.env.scope.names.lookup x=some .local):=by
 unfold mE at h
 simp only[zF,Bool.or_eq_true,zJ] at h
 obtain⟨h1,h2⟩:=h
 refine⟨by rw[C.n];exact C.nd,by rw[C.n];exact h1,?_⟩
 rcases h2 with h2|h2
 ·rcases C.tb x _ h2 with q|⟨q,_⟩
  ·exact⟨.inl q,.inr q⟩
  ·cases q
 ·rcases C.tb x _ h2 with q|⟨q,_⟩
  ·exact⟨.inr q,.inl (C.fn x h2)⟩
  ·cases q
theorem Bk.blt(C:Bk X N sc k)(B:Bn X){x:Str}{v:Value}(h:v8 sc x=true)(hm:x∈cq)(hv:bootBuiltins x=some v):k3 X x v:=⟨C.gl h,B x hm,hv⟩
theorem Bk.v(C:Bk X N sc k)(i:Nat){x:Str}{pos:Pos}(h:An N sc i x=true):DE X (.Name x pos) (ab i):=let ⟨a,b,c,d⟩:=C.vis h;J9 i a b c d
theorem Bk.pass(C:Bk X N sc k):PassesOwn (model X.prog X.w) X.A X.env X.xe:=by rw[C.xe];exact PassesOwn.never
noncomputable def iT(sc scope:Scope)(N N':List Str)(t:Nat)(cs:List Nat):Bool :=
 decide (scope.kind=.function)&&scope.names.all (fun p=>(!decide (p.2=NameKind.free)||decide (sc.names.lookup p.1=some .cell)||decide (sc.names.lookup p.1=some .free))&&(!decide (p.2=NameKind.local)||decide (scope.names.lookup p.1=some .local)))
  &&scope.names.all (fun p=>!decide (p.2=NameKind.cell)||!scope.names.any fun q=>decide (q.1=p.1)&&decide (q.2=NameKind.free))
  &&decide (N'.length=t+cs.length)&&decide (N'.drop t=cs.filterMap fun j=>N[j]?)&&cs.all (fun j=>decide (j < N.length))&&(N'.drop t).all (fun x=>decide (scope.names.lookup x=some .free))&&decide N'.Nodup
theorem filterMap_get{α:Type}(N:List α):∀ (cs:List Nat),(∀j∈cs,j < N.length)->∀ (i:Nat),(cs.filterMap fun j=>N[j]?)[i]?=(cs[i]?).bind fun j=>N[j]?
 | [],_,i=>by simp
 | c::cs,h,i=>by
  have hc:=h c zE
  rw[List.filterMap_cons,zK hc]
  cases i with
  | zero=>simp[hc]
  | succ i =>
   simp only[List.getElem?_cons_succ]
   exact filterMap_get N cs (fun j hj=>h j (zC _ hj)) i
theorem Bk.comp(C:Bk X N sc k){scope:Scope}{N':List Str}{t:Nat}{cs:List Nat}(h:iT sc scope N N' t cs=true):iz X scope N' (jx t cs)/\∀fp s H,Bk (aS X scope N' fp s H) N' scope k:=by
 unfold iT at h
 simp only[zF,zJ,List.all_eq_true,Bool.or_eq_true,Bool.not_eq_true',decide_eq_false_iff_not] at h
 obtain⟨⟨⟨⟨⟨⟨⟨h1,h2⟩,h3⟩,h4⟩,h5⟩,h6⟩,h7⟩,h8⟩:=h
 refine⟨⟨h1,fun x hx hk=>?_,fun {x} a b=>?_,fun x hx hk=>?_,fun σ i x v e1 e2=>?_,fun σ=>?_⟩,fun fp s H=>⟨rfl,h8,fun x k hx=>mh hx,C.calm,fun x hx=>yB hx,C.room,rfl,h1⟩⟩
 ·rcases (h2 x hx).1 with (q|q)|q
  ·exact absurd hk q
  ·rcases C.tb _ _ q with z|⟨z,_⟩
   ·exact .inl z
   ·cases z
  ·rcases C.tb _ _ q with z|⟨_,z⟩
   ·exact .inr z
   ·exact .inl z
 ·rcases h3 _ a with q|q
  ·exact q rfl
  ·have:(scope.names.any fun q=>decide (q.1=x)&&decide (q.2=NameKind.free))=true:=List.any_eq_true.mpr ⟨_,b,by simp⟩
   rw[this] at q
   cases q
 ·rcases (h2 x hx).2 with q|q
  ·exact absurd hk q
  ·exact q
 ·unfold jx at e2
  by_cases hi:i < t
  ·rw[List.getElem?_append_left (by simpa using hi),List.getElem?_replicate,if_pos hi] at e2
   cases e2
  ·rw[List.getElem?_append_right (by simpa using hi),zO,List.length_replicate] at e2
   obtain⟨j,hj,e2⟩:=af e2
   have e3:(N'.drop t)[i - t]?=some x:=by rw[List.getElem?_drop];rw[show t+(i - t)=i by omega];exact e1
   refine⟨h7 x (List.mem_of_getElem? e3),j,?_,?_⟩
   ·rw[h5,filterMap_get N cs h6,hj] at e3
    rw[C.n];exact e3
   ·cases e:σ[j]? with
    | none=>rw[e] at e2;cases e2
    | some o=>rw[e] at e2;have e2:o=some v:=e2;rw[e2]
 ·unfold jx
  rw[zN,List.length_replicate,zD,h4]
noncomputable def bo(g:ai->Option Out)(n:Nat)(args:List D):Option D:=(g (args.map Slot.val++List.replicate (n - args.length) .non)).map fun|.rt d=>d|.nx _=>.none
theorem Hy{P:Program}{w:World}{K:W.Frag}{mg:Str->Option Value}{base:Heap}{x qual:Str}{st:Stmt}{f:Addr}{fd:FuncData}{ps:List Str}{g:ai->Option Out}(F:GR K x qual st f fd)(S:fg N ps (aF st))
  (body:∀X:Cx,X.prog=P->X.w=w->X.K=K->X.mg=mg->X.base=base->Bk X N (aF st) k->X.env.code=fd.code->X.env.qual=qual++".<locals>."->∀HF₀ H₀,Bx X HF₀ H₀ (bZ st) g):nh P w K mg base Ic (k+1) f fd ps (Il K ps.length (bo g N.length)):=by
 obtain⟨oc,od,kV,doc,pm,an,cdv,ct,osl,rfl,lk,hcd⟩:=F.ex
 refine Lw lk hcd S (fun vs H Q E ⟨HF,ds,d,h1,_,h2,h3,_⟩=>by rw[h2.length,h3]) fun A outer s H vs Q E hr ⟨HF,ds,d,sm,tb,rr,hl,hd,q⟩=>?_
 refine⟨_,(body (AC Ic P w K mg base N qual (aF st) f cdv A outer s H E).nox rfl rfl rfl rfl rfl ⟨rfl,S.nd,fun y kd hy=>.inl hy,rfl,fun _ _=>rfl,hr,rfl,S.kind⟩ rfl rfl HF H).nox,?_⟩
 unfold bo at hd
 obtain⟨o,ho,hd⟩:=af hd
 have hpl:ps.length<=N.length:=by have:=congrArg List.length S.pre;rw[List.length_take] at this;omega
 refine⟨HF,_,o,⟨.refl sm,fun i e h=>?_,fun i es h=>?_,fun i j es fs a h=>?_,?_,tb⟩,ho,?_⟩
 ·have hi:i < ds.length:=by
   by_cases hi:i < ds.length
   ·exact hi
   ·rw[List.getElem?_append_right (by simpa using hi),List.getElem?_replicate] at h
    split at h<;>cases h
  rw[List.getElem?_append_left (by simpa using hi),zO] at h
  obtain⟨d',hd',h⟩:=af h
  cases h
  obtain⟨v,hv,rv⟩:=rr.getD hd'
  refine⟨v,?_,rv⟩
  unfold L2.start
  rw[List.getElem?_append_left (by simpa [rr.length] using hi),zO,hv]
  rfl
 ·exfalso
  by_cases hi:i < ds.length
  ·rw[List.getElem?_append_left (by simpa using hi),zO] at h
   obtain⟨d',hd',h⟩:=af h
   cases h
  ·rw[List.getElem?_append_right (by simpa using hi),List.getElem?_replicate] at h
   split at h<;>cases h
 ·exfalso
  by_cases hi:i < ds.length
  ·rw[List.getElem?_append_left (by simpa using hi),zO] at h
   obtain⟨d',hd',h⟩:=af h
   cases h
  ·rw[List.getElem?_append_right (by simpa using hi),List.getElem?_replicate] at h
   split at h<;>cases h
 ·unfold L2.start
  rw[zN,zN,zD,zD,List.length_replicate,List.length_replicate,rr.length]
  exact Nat.le_refl _
 ·cases o with
  | rt d'=>cases hd;exact fun v H' HF' G r=>q v H' HF' G r
  | nx ρ'=>cases hd;exact fun σ' H' HF' S' _=>q .non H' HF' S'.gr (by simp[Rep])
theorem M6{P:Program}{w:World}{K:W.Frag}{mg:Str->Option Value}{base:Heap}{x qual:Str}{st:Stmt}{f:Addr}{fd:FuncData}{ps:List Str}{g:ai->Option Out}(F:GR K x qual st f fd)(S:fg N ps (aF st))(hb:Binds K fd ps [])(hm:mg x=some (.ref f))
  (body:∀X:Cx,X.prog=P->X.w=w->X.K=K->X.mg=mg->X.base=base->Bk X N (aF st) k->X.env.code=fd.code->X.env.qual=qual++".<locals>."->∀HF₀ H₀,Bx X HF₀ H₀ (bZ st) g):dC P w K mg base (k+1) x ps.length (bo g N.length):=⟨f,fd,ps,Hy F S body,hm,F.kp,hb⟩
end
section
variable {X:Cx}{HF₀ H₀:Hp}{e e2:Expr}{pos apos cpos px:Pos}{x:Str}
noncomputable def mW(fz:List Nat)(f:Env->Option D)(ρ:ai):Option (D×ai):=(f (bz ρ)).bind fun d=>if oH d=true then some (d,ρ) else (f (dG (hand fz 0 ρ))).map fun d'=>(d',hand fz 0 ρ)
theorem l0{K:W.Frag}{HF H:Hp}{ρ ρ':ai}{σ:L2.St}{fz:List Nat}{f:Env->Option D}{d:D}(S:i8 K HF₀ H₀ HF H ρ σ)(h:mW fz f ρ=some (d,ρ')){Q:VK}
  (q:∀v H' HF',aR HF HF'->i8 K HF₀ H₀ HF' H' ρ' σ->aR H H'->Rep K HF' d v->Q v H'):tD K f σ H Q:=by
 obtain⟨d1,h1,h⟩:=bs h
 split at h
 ·rename_i hs
  cases h
  exact⟨H,bz ρ,d,.refl _,S.all,h1,fun v H' HF' G r=>q v H' HF (.refl _) (S.step G.hh) G.hh (uN hs r)⟩
 ·obtain⟨d2,h2,h⟩:=af h
  cases h
  obtain⟨HF1,s1,S1⟩:=S.hand fz
  exact⟨HF1,_,d,S1.gr.fh,S1.frz,h2,fun v H' HF' G r=>q v H' HF' (s1.trans G.ff) (S1.grow G) G.hh r⟩
noncomputable def p9(i:Nat)(m:List D->Option (List D))(ρ:ai):Option Out:=match ρ[i]? with
 | some (.own ds)=>(m ds).map fun es=>.nx (ρ.set i (.own es))
 | _=>none
theorem jL{i:Nat}{m:List D->Option (List D)}{ρ:ai}{o:Out}(h:p9 i m ρ=some o):∃ds es,ρ[i]?=some (.own ds)/\m ds=some es/\o=.nx (ρ.set i (.own es)):=by
 unfold p9 at h
 split at h
 ·rename_i ds hd
  obtain⟨es,h1,h2⟩:=af h
  exact⟨ds,es,hd,h1,h2.symm⟩
 ·cases h
theorem i8.mut{K:W.Frag}{HF H:Hp}{ρ:ai}{σ:L2.St}(S:i8 K HF₀ H₀ HF H ρ σ){i:Nat}{ds es:List D}{a:Addr}{vs us:List V}(h:ρ[i]?=some (.own ds))(ha:σ[i]?=some (some (.ref a)))(hH:H a=some (.lst vs))(r:ak K HF es us) :
  i8 K HF₀ H₀ HF (upd H a (.lst us)) (ρ.set i (.own es)) σ:=by
 obtain⟨a',vs',e1,e2,e3,e5,e4⟩:=S.own i ds h
 rw[ha] at e1;cases e1
 have hl:i < ρ.length:=(zU.mp h).1
 have gr:bR HF₀ H₀ HF (upd H a (.lst us)):=⟨fun b o e=>by rw[ay (aK e e5)];exact S.gr.hh b o e,S.gr.ff,fun b o e=>by rw[ay (aK e e3)];exact S.gr.fh b o e,S.gr.nw⟩
 refine⟨gr,fun j d hj=>?_,fun j xs hj=>?_,fun j k xs ys b f1 f2 f3 f4=>?_,by rw[yD];exact S.len,S.tb⟩
 ·rw[List.getElem?_set] at hj
  by_cases hij:i=j
  ·rw[if_pos hij] at hj
   split at hj<;>cases hj
  ·rw[if_neg hij] at hj;exact S.val j d hj
 ·rw[List.getElem?_set] at hj
  by_cases hij:i=j
  ·subst hij
   rw[if_pos rfl,if_pos hl] at hj
   cases hj
   exact⟨a,us,ha,aC,e3,e5,r⟩
  ·rw[if_neg hij] at hj
   obtain⟨b,ws,f1,f2,f3,f5,f4⟩:=S.own j xs hj
   refine⟨b,ws,f1,?_,f3,f5,f4⟩
   rw[ay]
   ·exact f2
   ·rintro rfl
    exact hij (S.inj i j ds xs b h hj ha f1)
 ·have old:∀ {j:Nat}{xs:List D},(ρ.set i (.own es))[j]?=some (.own xs)->∃ys,ρ[j]?=some (.own ys):=fun {j xs} hj=>by
   rw[List.getElem?_set] at hj
   by_cases hij:i=j
   ·subst hij;exact⟨ds,h⟩
   ·rw[if_neg hij] at hj;exact⟨xs,hj⟩
  obtain⟨xs',g1⟩:=old f1
  obtain⟨ys',g2⟩:=old f2
  exact S.inj j k xs' ys' b g1 g2 f3 f4
noncomputable def wx(i:Nat)(fz:List Nat)(f:Env->Option D):ai->Option Out:=fun ρ=>(mW fz f ρ).bind fun p=>p9 i (fun ds=>if ds.length < sizeLine then some (ds++[p.1]) else none) p.2
theorem AR(i:Nat)(fz:List Nat){f:Env->Option D}(hN:X.N[i]?=some x)(hv:Hu X.env.scope x)(h:DE X e f)(hd:(x == ("__debug__":Str))=false:=by decide)(hcd:(x == ("__classdict__":Str))=false:=by decide)
  (hfew:((backTo cpos (starEach [e] X.env)).all (fun x=>!x.1)&&(backToKw cpos (keywordEach [] X.env)).all (fun x=>x.1.isSome)&&decide ([e].length+([]:List Keyword).length+(if ([]:List Keyword).isEmpty then 0 else 1) < 30))=true:=by rfl)
  (hline:(apos.endLine == cpos.line)=true:=by rfl) (hs:starEach [e] X.env=(false,eval e X.env)::starEach [] X.env:=by rfl) :
  DS X HF₀ H₀ (.Expr (.Call (.Attribute (.Name x px) "append" apos) [e] [] cpos) pos) (wx i fz f) :=
 dm (nK (rJ PySem.F.plainAttrs_list PySem.F.slot_list_append PySem.F.type_list_append rm (oi hN hv hd hcd) (bS h d5 hs) rfl hfew hline hs rfl)) fun E σ H ⟨HF,ρ,o,S,hg,q⟩=>by
  obtain⟨⟨d,ρ'⟩,h1,hg⟩:=bs hg
  obtain⟨ds,es,h2,h3,rfl⟩:=jL hg
  have hown:∃ds',ρ[i]?=some (.own ds'):=by
   obtain⟨d1,_,h1⟩:=bs h1
   split at h1
   ·cases h1;exact⟨ds,h2⟩
   ·obtain⟨d2,_,h1⟩:=af h1
    cases h1
    rw[g9] at h2
    obtain⟨s,hs,h2⟩:=af h2
    cases s with
    | non=>split at h2<;>cases h2
    | val _=>split at h2<;>cases h2
    | own xs=>exact⟨xs,hs⟩
  obtain⟨ds',hown⟩:=hown
  obtain⟨a,vs,e1,e2,e3,e5,e4⟩:=S.own i ds' hown
  refine⟨.ref a,e1,.inl ⟨rfl,vs,gG.of e2⟩,l0 S h1 fun v H' HF' s1 S' sh r=>?_⟩
  obtain⟨a',vs',f1,f2,f3,f5,f4⟩:=S'.own i ds h2
  rw[e1] at f1;cases f1
  split at h3
  ·rename_i hz
   cases h3
   exact⟨a,vs',v,rfl,rfl,f2,by rw[f4.length];exact hz,q σ _ HF' (S'.mut h2 e1 f2 (f4.append (ak.cons r ak.nil))) s1⟩
  ·cases h3
end
noncomputable def tm(K:W.Frag)(o:Obj):Option (Addr×Str):=match o.data with
 | .func fd=>if jH.contains fd.qualname=true then (match fd.code with
   | .ref c=>(match K.lookup c with
    | some ⟨_,_,.fields vs,_⟩=>(match (vs[11]?:Option Value) with
     | some (.ref P)=>if W.codeHdIn K c P=true then some (P,fd.qualname++".<locals>."++"<lambda>") else none
     | _=>none)
    | _=>none)
   | _=>none) else none
 | _=>none
noncomputable def gH(K:W.Frag):List (Addr×Str):=K.filterMap fun p=>tm K p.2
noncomputable def lA(K:W.Frag)(ts:List Addr):Bool:=(gH K).all fun p=>ts.contains p.1&&(K.lookup p.1).isNone&&decide ((gH K).lookup p.1=some p.2)
theorem vY{K:W.Frag}{o:Obj}{P:Addr}{q:Str}(h:tm K o=some (P,q)):∃c,W.codeHdIn K c P=true:=by
 unfold tm at h
 split at h
 ·split at h
  ·split at h
   ·split at h
    ·split at h
     ·split at h
      ·cases h;exact⟨_,‹_›⟩
      ·cases h
     ·cases h
    ·cases h
   ·cases h
  ·cases h
 ·cases h
theorem u7{K:W.Frag}{P:Addr}{q:Str}(h:(P,q)∈gH K):∃c,W.codeHdIn K c P=true:=by
 obtain⟨p,_,e⟩:=List.mem_filterMap.mp h
 exact vY e
theorem wA{K:W.Frag}{f c P:Addr}{oc:Value}{od:Option Addr}{fd:FuncData}{sl:Array (Option Value)}(a:K.lookup f=some ⟨oc,od,.func fd,sl⟩)(b:fd.qualname∈jH)(d:fd.code=.ref c)(e:W.codeHdIn K c P=true) :
  (P,fd.qualname++".<locals>."++"<lambda>")∈gH K:=by
 refine List.mem_filterMap.mpr ⟨(f,_),W.mem_of_lookupK a,?_⟩
 have e':=e
 unfold W.codeHdIn at e'
 unfold tm
 simp only[d,List.contains_iff_mem,b,if_true]
 split at e'
 ·rename_i vs sl' hl
  simp only[hl]
  simp only[zF] at e'
  have e1:=e'.1.1.1.1.1
  split at e1
  ·rename_i P' hv
   have:P'=P:=by simpa using e1
   subst this
   simp only[hv,e,if_true]
  ·cases e1
 ·cases e'
theorem CF{α:Type}{b:Addr}{q:α}:∀ {l:List (Addr×α)},l.lookup b=some q->(b,q)∈l
 | [],e=>by cases e
 | (c,x)::r,e=>by
  rw[yC] at e
  cases h:b == c with
  | true=>rw[h] at e;cases e;rw[eq_of_beq h];exact zE
  | false=>rw[h] at e;exact zC _ (CF e)
noncomputable def eF(K:W.Frag)(h0:Hp):Hp:=fun b=>match (gH K).lookup b with|some q=>some (.tab q)|none=>h0 b
theorem Ay{K:W.Frag}{ts:List Addr}{h0:Hp}(h:lA K ts=true):fI K (eF K h0):=fun f oc od fd sl c P a b d e=>by
 have hm:=wA a b d e
 have:=List.all_eq_true.mp h _ hm
 simp only[zF,zJ] at this
 unfold eF
 rw[this.2]
theorem AW{P:Program}{w:World}{K:W.Frag}{mg mb:Str->Option Value}{CX:Bw}{k:Nat}{fa a:Addr}{fd:FuncData}{x:Str}{sp:Sp}{s₁:Shared}{vs:List Value}{ns:List Int}{ts:List Addr}
  (KX:K.In s₁.heap) (hns:s₁.heap.Ns mainGlobals mg) (hb:s₁.heap.Ns builtinsNs mb) (hbb:∀x:Str,x≠"__name__"->mb x=bootBuiltins x) (hlim:s₁.heap.NoLimit) (hbm:LO mg s₁.heap) (hg:s₁.gens=#[])
  (ht:lA K ts=true) (hts:∀P∈ts,s₁.heap.get? P=some (W.tabObj #[]))
  (ha:s₁.heap.get? a=some { cls:=.type "list",data:=.seq vs.toArray }) (hi:IntsAre vs ns) (hl:ns.length<=sizeLine) (hr:dS k callerA)
  (F:∀base:Heap,K.In base->base.Ns mainGlobals mg->nh P w K mg base CX k fa fd [x] sp) (hbind:∀ (s:Shared) (u:Value),BindsTo s fd ⟨[u],[]⟩ [(x,u)])
  (hsp:∀H:Hp,fI K H->gG K H a (ns.map V.int)->sp [.ref a] H (fun v _=>v=.bl true) fun _ _ _=>False)
  (hCX:∀H e s',CX [] H s₁ (fun _ _ _=>False) e s'->False) :
  codeAny (model P w) callerA (.call (.ref fa) ⟨[.ref a],[]⟩) (fun r s'=>r=.ok (.ret (.bool true))/\OldK s₁.heap s'.heap/\s'.os=s₁.os/\AllBare s'.gens) s₁:=by
 have rv:=rR hi
 have lenV:=hi.length
 have tabAt:∀b q,(gH K).lookup b=some q->s₁.heap.get? b=some (W.tabObj #[])/\K.lookup b=none/\∃c,W.CodeHd s₁.heap c b:=fun b q e=>by
  have hm:=CF e
  have:=List.all_eq_true.mp ht _ hm
  simp only[zF,zJ,List.contains_iff_mem,Option.isNone_iff_eq_none] at this
  obtain⟨c,hc⟩:=u7 hm
  exact⟨hts b this.1.1,this.1.2,c,W.codeHd_of_K KX hc⟩
 have aT:(gH K).lookup a=none:=by
  cases e:(gH K).lookup a with
  | none=>rfl
  | some q=>have:=(tabAt a q e).1;rw[ha] at this;cases this
 have core:∀h0:Hp,gG K (eF K h0) a (ns.map V.int)->nM P w (eF K h0) s₁.heap->(∀b,h0 b≠none->b=a)->(h0 a≠none->K.lookup a=none)->(∀b,h0 b=none\/∃o xs,h0 b=some (.frz o (.lst xs))) ->
   codeAny (model P w) callerA (.call (.ref fa) ⟨[.ref a],[]⟩) (fun r s'=>r=.ok (.ret (.bool true))/\OldK s₁.heap s'.heap/\s'.os=s₁.os/\AllBare s'.gens) s₁:=by
  intro h0 hS hok hA hK hO
  have look:∀b u,eF K h0 b=some u->(∃q,(gH K).lookup b=some q/\u=.tab q)\/(b=a/\h0 b=some u):=fun b u e=>by
   unfold eF at e
   split at e
   ·rename_i q hq;cases e;exact .inl ⟨q,hq,rfl⟩
   ·exact .inr ⟨hA b (by rw[e];simp),e⟩
  have j8:∀ {b:Addr}{o:Obj},s₁.heap.get? b=some o->eF K h0 b=none->(sH s₁.heap (eF K h0)).get? b=some o:=fun e n=>B8 e n
  have noA:∀ {b:Addr}{o:Obj},s₁.heap.get? b=some o->(∀vs n,o.data≠.seq vs n)->(∀vs,o.data≠.fields vs)->eF K h0 b=none:=fun {b o} e d d2=>by
   cases q:eF K h0 b with
   | none=>rfl
   | some u =>
    rcases look b u q with ⟨q',z,_⟩|⟨z,_⟩
    ·rw[(tabAt b q' z).1] at e;cases e;exact absurd rfl (d2 _)
    ·subst z;rw[ha] at e;cases e;exact absurd rfl (d _ _)
  have nsK:∀ {b:Addr}{m:Str->Option Value},s₁.heap.Ns b m->(sH s₁.heap (eF K h0)).Ns b m:=fun {b m} ⟨o,es,ep,e,d,r⟩=>⟨o,es,ep,j8 e (noA e (fun _ _ z=>by rw[d] at z;cases z) fun _ z=>by rw[d] at z;cases z),d,r⟩
  have hKb:K.In (sH s₁.heap (eF K h0)):=fun b o e=>j8 (KX b o e) (by
   cases q:eF K h0 b with
   | none=>rfl
   | some u =>
    rcases look b u q with ⟨q',z,_⟩|⟨z,z2⟩
    ·rw[(tabAt b q' z).2.1] at e;cases e
    ·subst z;rw[hK (by rw[z2];simp)] at e;cases e)
  have hM:Mod K mg (sH s₁.heap (eF K h0)):=⟨hKb,nsK hns,⟨mb,nsK hb,hbb⟩,let ⟨mc,h1,h2⟩:=hlim;⟨mc,nsK h1,h2⟩,
   let ⟨bm,o,b1,b2,b3,b4,b5,b6,b7⟩:=hbm;⟨bm,o,b1,b2,b3,j8 b4 (noA b4 (fun _ _ z=>by rw[b7] at z;cases z) fun _ z=>by rw[b7] at z;cases z),b5,b6,b7⟩⟩
  have e0:GU P w K mg (sH s₁.heap (eF K h0)) callerA [] s₁ (eF K h0):=⟨rfl,hM,fun b o e=>FB e,Nat.le_of_eq (Ba _ _),trivial,fun b hb=>absurd (show b∈([]:List Addr) from hb) (by simp),hok,.of_eq hg⟩
  refine codeAny_mono ((F _ hKb (nsK hns)).run callerA [] s₁ (eF K h0) ⟨[.ref a],[]⟩ [.ref a] [.ref a] _ _ hr e0 (hbind s₁ (.ref a)) (.cons rfl .nil) (hsp _ (Ay ht) hS)) fun r s' h=>?_
  cases r with
  | error e=>exact (hCX _ e s' h).elim
  | ok fl =>
   cases fl with
   | next=>exact False.elim h
   | brk=>exact False.elim h
   | cont=>exact False.elim h
   | ret u =>
    obtain⟨v,H',os,bare,un,hok',r',q⟩:=h
    have q':v=.bl true:=q
    subst q'
    obtain rfl:u=Value.bool true:=r'
    have key:∀b o,s₁.heap.get? b=some o->s'.heap.get? b=some o\/(isCodeTable s₁.heap b/\o=W.tabObj #[]/\∃ps,s'.heap.get? b=some (W.tabObj ps)):=fun b o e=>by
     cases q:eF K h0 b with
     | none=>exact .inl (un.keep b o e q (by intro z;exact absurd (show b∈([]:List Addr) from z) (by simp)) (by simp))
     | some u =>
      rcases look b u q with ⟨q',z,rfl⟩|⟨z,z2⟩
      ·obtain⟨t1,_,c,t3⟩:=tabAt b q' z
       obtain⟨more,m1⟩:=un.tbls.gr b q' #[] q t1
       rw[e] at t1
       cases t1
       exact .inr ⟨(t3.tab e).isCodeTable,rfl,_,m1⟩
      ·rcases hO b with z3|⟨ob,xs,z3⟩
       ·rw[z2] at z3;cases z3
       ·rw[z2] at z3
        cases z3
        have z4:=un.frzs b ob _ q
        obtain⟨e1,_⟩:=hok b _ q
        obtain⟨e2,_⟩:=hok' b _ z4
        rw[e] at e1;cases e1
        exact .inl e2
    refine⟨rfl,⟨fun b o e=>?_,fun b o e=>?_⟩,os,bare⟩
    ·rcases key b o e with z|⟨t,rfl,ps,z⟩
     ·exact .inl z
     ·exact .inr (.inl ⟨t,rfl,#[],ps,rfl,by rw[Array.empty_append];exact z⟩)
    ·rcases key b o e with z|⟨_,_,ps,z⟩
     ·exact⟨o,z⟩
     ·exact⟨_,z⟩
 have hoT:∀ (h0:Hp) b q,(gH K).lookup b=some q->dU P w (eF K h0) s₁.heap b (.tab q):=fun h0 b q e=>⟨#[],(tabAt b q e).1,trivial,fun pos v z=>by cases z⟩
 cases hk:K.lookup a with
 | some o =>
  have e:=KX a o hk
  rw[ha] at e
  cases e
  refine core (fun _=>none) (.inr ⟨_,vs.toArray,_,hk,rfl,rfl,rfl,by rw[zH,lenV];exact hl,by simpa using rv⟩) (fun b u z=>?_) (fun b z=>absurd rfl z) (fun z=>absurd rfl z) fun _=>.inl rfl
  unfold eF at z
  split at z
  ·rename_i q hq;cases z;exact hoT _ b q hq
  ·cases z
 | none =>
  refine core (fun b=>if b=a then some (.frz { cls:=.type "list",data:=.seq vs.toArray } (.lst (ns.map V.int))) else none) (.inl (.inr ⟨{ cls:=.type "list",data:=.seq vs.toArray },?_⟩)) (fun b u z=>?_) (fun b z=>?_) (fun _=>hk) fun b=>?_
  ·unfold eF;rw[aT];exact if_pos rfl
  ·unfold eF at z
   split at z
   ·rename_i q hq;cases z;exact hoT _ b q hq
   ·by_cases hb:b=a
    ·replace z:=(if_pos hb).symm.trans z
     cases z
     subst hb
     exact⟨ha,by rw[zD];exact hl,vs,_,rv,ha⟩
    ·replace z:=(if_neg hb).symm.trans z;cases z
  ·by_cases hb:b=a
   ·exact hb
   ·exact absurd (if_neg hb) z
  ·by_cases hb:b=a
   ·exact .inr ⟨_,_,if_pos hb⟩
   ·exact .inl (if_neg hb)
theorem DD{l:W.OpenLaw}{n k:Nat}{q:Program}{loose:List Str}{XP:(Str->Option Value)->Heap->Prop}{YP:World->Heap->Prop}{d:DefRec}{K:Params->W.Frag}{CX:World->Bw}{sp:World->Sp}{x:Str}{ts:List Addr}
  (hn:l.most=some n) (hn2:n<=sizeLine) (hdf:d.params.defaults=[]) (hr:dS k callerA)
  (hY:∀ (w:World) (h:Heap),YP w h->(K w.params).In h/\∀P∈ts,h.get? P=some (W.tabObj #[])) (ht:∀w:World,lA (K w.params) ts=true)
  (F:∀ (w:World) (mg:Str->Option Value) (fa:Addr) (h:Heap),(K w.params).In h->h.Ns mainGlobals mg->mg d.name=some (.ref fa) ->
   ∃fd:FuncData,(∀ (s:Shared) (u:Value),BindsTo s fd ⟨[u],[]⟩ [(x,u)]) /\
    ∀base:Heap,(K w.params).In base->base.Ns mainGlobals mg->nh l.prog w (K w.params) mg base (CX w) k fa fd [x] (sp w))
  (hsp:∀ (w:World) (H:Hp) (a:Addr) (ns:List Int),ns.length<=n->fI (K w.params) H->gG (K w.params) H a (ns.map V.int)->sp w [.ref a] H (fun v _=>v=.bl true) fun _ _ _=>False)
  (hCX:∀ (w:World) (H:Hp) (s:Shared) (e:Value) (s':Shared),CX w [] H s (fun _ _ _=>False) e s'->False) :
  W.WalkO q loose XP YP l.row.toRowW d [] (fun f vs=>PySem.call f vs):=by
 refine Att.attach_call hn hdf fun w s₀ s₁ mg mb fa o pm cd doc a vs ns G Y ho hd hcd hmg hobj hints hlen hg=>?_
 obtain⟨KX,hts⟩:=hY w _ Y
 obtain⟨fd,hb,hF⟩:=F w mg fa _ KX G.T.g hmg
 have hbm:LO mg s₁.heap:=by
  obtain⟨bm,ob,b1,b2,b3,b4,b5,b6⟩:=G.T.bmain
  refine⟨bm,ob,b1,b2,fun z=>?_,b3,b4,b5,b6⟩
  obtain⟨o',es,ep,e1,e2,_⟩:=G.T.g
  rw[<- z,b3] at e1
  cases e1
  rw[b6] at e2;cases e2
 exact AW KX G.T.g G.T.b G.T.builtins G.T.nolimit hbm hg (ht w) hts hobj hints (yE hlen hn2) hr hF hb (fun H hT hS=>hsp w H a ns hlen hT hS) fun H e s'=>hCX w H s₁ e s'
end Dl
namespace SP
open PySem PySem.W PyProof.Rows
noncomputable def run{α:Type}(lt:Nat->Nat->Bool):KasT α->α
 | .ret a=>a
 | .ask i j k=>run lt (k (lt i j))
theorem ib{α β:Type}(lt:Nat->Nat->Bool)(f:α->KasT β):∀t:KasT α,run lt (t.bind f)=run lt (f (run lt t))
 | .ret a=>rfl
 | .ask i j k=>by
  show run lt ((k (lt i j)).bind f)=run lt (f (run lt (k (lt i j))))
  exact ib lt f (k (lt i j))
noncomputable def KB(n:Nat){α:Type}:KasT α->Prop
 | .ret _=>True
 | .ask i j k=>i < n/\j < n/\∀b,KB n (k b)
theorem wp_run{α:Type}{n:Nat}{cmp:Nat->Nat->(Bool->Shared->Prop)->Shared->Prop}{lt:Nat->Nat->Bool}{s:Shared}(hc:∀i j C,i < n->j < n->C (lt i j) s->cmp i j C s):∀ (t:KasT α) {Q:α->Shared->Prop},KB n t->Q (run lt t) s->t.kasWp cmp Q s
 | .ret a,Q,_,h=>h
 | .ask i j k,Q,b,h=>hc i j _ b.1 b.2.1 (wp_run hc (k (lt i j)) (b.2.2 _) h)
noncomputable def oF(n:Nat){α:Type}(R:α->Prop):KasT α->Prop
 | .ret a=>R a
 | .ask i j k=>i < n/\j < n/\∀b,oF n R (k b)
theorem mr{α β:Type}{n:Nat}{R:α->Prop}{f:α->KasT β}:∀ {t:KasT α},oF n R t->(∀a,R a->KB n (f a))->KB n (t.bind f)
 | .ret a,b,h=>h a b
 | .ask i j k,b,h=>⟨b.1,b.2.1,fun c=>mr (b.2.2 c) h⟩
theorem iI{α β:Type}{n:Nat}{R:α->Prop}{S:β->Prop}{f:α->KasT β}:∀ {t:KasT α},oF n R t->(∀a,R a->oF n S (f a))->oF n S (t.bind f)
 | .ret a,b,h=>h a b
 | .ask i j k,b,h=>⟨b.1,b.2.1,fun c=>iI (b.2.2 c) h⟩
def Bd(n:Nat)(p:Array Nat):Prop:=∀a,p.getD a 0 < n
theorem Bd.perm{n:Nat}{p q:Array Nat}(h:Bd n p)(e:q.Perm p):Bd n q:=by
 intro a
 rw[Array.getD_eq_getD_getElem?]
 cases ha:q[a]? with
 | none=>have:=h p.size;rw[Array.getD_eq_getD_getElem?] at this;simpa using this
 | some x =>
  have hx:x∈q:=Array.mem_of_getElem? ha
  have hx':x∈p:=e.mem_iff.mp hx
  obtain⟨i,hi,rfl⟩:=Array.mem_iff_getElem.mp hx'
  have:=h i
  rw[Array.getD_eq_getD_getElem?] at this
  simpa [hi] using this
theorem Dk{n:Nat}{p:Array Nat}(h:Bd n p):∀f m,oF n (fun _=>True) (kas_asc p f m)
 | 0,m=>trivial
 | f+1,m=>⟨h _,h _,fun c=>by
  dsimp only
  split
  ·trivial
  ·exact Dk h f (m+1)⟩
theorem uL{n:Nat}{p:Array Nat}(h:Bd n p)(i j:Nat):Bd n (kas_rev p i j):=h.perm (mirror_perm _ _ _ _)
theorem sf{n:Nat}:∀ (f:Nat) {p:Array Nat}(h:Bd n p) (m q:Nat),oF n (fun r=>Bd n r.1) (kas_desc f p m q)
 | 0,p,h,m,q=>h
 | f+1,p,h,m,q=>⟨h _,h _,fun c=>by
  dsimp only
  split
  ·split
   ·exact sf f (uL h _ _) (m+1) 0
   ·exact sf f h (m+1) 0
  ·exact⟨h _,h _,fun d=>by
    dsimp only
    split
    ·exact h
    ·exact sf f h (m+1) (q+1)⟩⟩
theorem yM{n:Nat}{p:Array Nat}(h:Bd n p)(m nrem:Nat):oF n (fun r=>Bd n r.2) (kas_tail3 m nrem p):=iI (Dk (uL h 0 m) _ _) fun _ _=>uL h 0 m
theorem pA{n:Nat}{p:Array Nat}(h:Bd n p)(m nrem:Nat):oF n (fun r=>Bd n r.2) (kas_descPart m nrem p):=iI (sf _ h _ _) fun r hr=>by
 split
 ·exact yM (uL hr _ _) _ _
 ·exact yM hr _ _
theorem Gp{n:Nat}{p:Array Nat}(h:Bd n p)(nrem:Nat):oF n (fun r=>Bd n r.2) (kas_count nrem p):=iI (Dk h _ _) fun m _=>by
 split
 ·exact h
 ·split
  ·exact⟨h _,h _,fun c=>by
    dsimp only
    split
    ·exact h
    ·exact pA (uL h _ _) _ _⟩
  ·exact pA h _ _
theorem tR{n:Nat}{p:Array Nat}(h:Bd n p)(k:Nat):∀f l r,oF n (fun _=>True) (kas_place p k f l r)
 | 0,l,r=>trivial
 | f+1,l,r=>by
  unfold kas_place
  split
  ·trivial
  ·exact⟨h _,h _,fun c=>by
    dsimp only
    split
    ·exact tR h k f _ _
    ·exact tR h k f _ _⟩
theorem Hn{n:Nat}:∀ (f:Nat) {p:Array Nat}(h:Bd n p) (k:Nat),KB n (kas_bin f p k)
 | 0,p,h,k=>trivial
 | f+1,p,h,k=>mr (tR h k _ _ _) fun l _=>Hn f (h.perm (bubble_perm _ _ _)) (k+1)
theorem CJ{n:Nat}(h1:1<=n):KB n (kas_sort n):=by
 have h:Bd n (List.toArray (List.range n)):=fun a=>by
  rw[Array.getD_eq_getD_getElem?]
  by_cases ha:a < n
  ·simp[ha]
  ·simp[ha];omega
 refine mr (Gp h n) fun r hr=>?_
 split
 ·exact Hn _ hr _
 ·trivial
section
variable (z:Nat->Int)
noncomputable def Z(p:Array Nat)(a:Nat):Int:=z (p.getD a 0)
noncomputable def dZ:Nat->Nat->Bool:=fun i j=>decide (z i < z j)
theorem lF{p q:Array Nat}{a b:Nat}(h:p[a]?=q[b]?):Z z p a=Z z q b:=by
 unfold Z
 rw[Array.getD_eq_getD_getElem?,Array.getD_eq_getD_getElem?,h]
theorem Cw{p:Array Nat}{i j:Nat}(hj:j<=p.size)(k:Nat):Z z (kas_rev p i j) k=if i<=k/\k < j then Z z p (i+j - 1 - k) else Z z p k:=by
 have e:=getElem?_mirror_all (xs:=p) (i:=i) hj k
 unfold kas_rev
 by_cases h1:i<=k/\k < j
 ·rw[if_pos h1] at e ⊢;exact lF z e
 ·rw[if_neg h1] at e ⊢;exact lF z e
theorem B4{p:Array Nat}{src d:Nat}(hs:src < p.size)(hd:d<=src)(k:Nat):Z z (bubble p src d) k=if k=src - d then Z z p src else if src - d < k/\k<=src then Z z p (k - 1) else Z z p k:=by
 have e:=getElem?_bubble hs d hd k
 by_cases h1:k=src - d
 ·rw[if_pos h1] at e ⊢;exact lF z e
 ·rw[if_neg h1] at e ⊢
  by_cases h2:src - d < k/\k<=src
  ·rw[if_pos h2] at e ⊢;exact lF z e
  ·rw[if_neg h2] at e ⊢;exact lF z e
def Up(p:Array Nat)(n:Nat):Prop:=∀a b,a<=b->b < n->Z z p a<=Z z p b
def Dn(p:Array Nat)(n:Nat):Prop:=∀a b,a<=b->b < n->Z z p b<=Z z p a
variable {z}
theorem Gr{p:Array Nat}{n:Nat}(h:Up z p n)(hn:1<=n)(h1:Z z p (n - 1)<=Z z p n):Up z p (n+1):=by
 intro a b hab hb
 by_cases hbn:b < n
 ·exact h a b hab hbn
 ·have e:b=n:=by omega
  subst e
  by_cases ha:a=b
  ·subst ha;exact Int.le_refl _
  ·exact Int.le_trans (h a (b - 1) (by omega) (by omega)) h1
theorem Mv{p:Array Nat}:∀ (f n:Nat),1<=n->Up z p n->n<=run (dZ z) (kas_asc p f n)/\run (dZ z) (kas_asc p f n)<=n+f/\Up z p (run (dZ z) (kas_asc p f n))/\(run (dZ z) (kas_asc p f n) < n+f->Z z p (run (dZ z) (kas_asc p f n)) < Z z p (run (dZ z) (kas_asc p f n) - 1))
 | 0,n,hn,h=>⟨Nat.le_refl _,Nat.le_refl _,h,fun q=>absurd q (Nat.lt_irrefl _)⟩
 | f+1,n,hn,h=>by
  unfold kas_asc
  show n<=run (dZ z) (if dZ z (p.getD n 0) (p.getD (n - 1) 0)=true then .ret n else kas_asc p f (n+1))/\run (dZ z) (if dZ z (p.getD n 0) (p.getD (n - 1) 0)=true then .ret n else kas_asc p f (n+1))<=n+(f+1)/\Up z p (run (dZ z) (if dZ z (p.getD n 0) (p.getD (n - 1) 0)=true then .ret n else kas_asc p f (n+1)))/\(run (dZ z) (if dZ z (p.getD n 0) (p.getD (n - 1) 0)=true then .ret n else kas_asc p f (n+1)) < n+(f+1)->Z z p (run (dZ z) (if dZ z (p.getD n 0) (p.getD (n - 1) 0)=true then .ret n else kas_asc p f (n+1))) < Z z p (run (dZ z) (if dZ z (p.getD n 0) (p.getD (n - 1) 0)=true then .ret n else kas_asc p f (n+1)) - 1))
  by_cases hc:dZ z (p.getD n 0) (p.getD (n - 1) 0)=true
  ·rw[if_pos hc]
   exact⟨Nat.le_refl _,Nat.le_add_right _ _,h,fun _=>of_decide_eq_true hc⟩
  ·rw[if_neg hc]
   have h1:Z z p (n - 1)<=Z z p n:=by
    have:¬ (Z z p n < Z z p (n - 1)):=fun q=>hc (yB q)
    omega
   obtain⟨a,b,c,d⟩:=Mv f (n+1) (by omega) (Gr h hn h1)
   exact⟨by omega,by omega,c,fun q=>d (by omega)⟩
theorem xi{p:Array Nat}{i j:Nat}(hj:j<=p.size)(h:∀a b,i<=a->a < j->i<=b->b < j->Z z p a=Z z p b)(k:Nat):Z z (kas_rev p i j) k=Z z p k:=by
 rw[Cw z hj]
 split
 ·rename_i hk
  exact h _ _ (by omega) (by omega) hk.1 hk.2
 ·rfl
theorem DK{p q:Array Nat}{n:Nat}(e:∀k,Z z q k=Z z p k)(h:Dn z p n):Dn z q n:=fun a b hab hb=>by rw[e,e];exact h a b hab hb
theorem Iq{p:Array Nat}{n:Nat}(hn:n<=p.size)(h:Dn z p n):Up z (kas_rev p 0 n) n:=by
 intro a b hab hb
 rw[Cw z hn,Cw z hn,if_pos ⟨Nat.zero_le _,by omega⟩,if_pos ⟨Nat.zero_le _,hb⟩]
 exact h _ _ (by omega) (by omega)
theorem k4(p:Array Nat)(i j:Nat):(kas_rev p i j).size=p.size:=mirror_size _ _ _ _
theorem k9(p:Array Nat)(i j:Nat):(kas_rev p i j).Perm p:=mirror_perm _ _ _ _
structure HL(z:Nat->Int)(p₀ p:Array Nat)(n q nrem:Nat):Prop where
 perm:p.Perm p₀
 size:p.size=p₀.size
 le:n<=nrem
 qn:q+1<=n
 dn:Dn z p n
 eq:∀a b,n - (q+1)<=a->a < n->n - (q+1)<=b->b < n->Z z p a=Z z p b
theorem Gx{p₀:Array Nat}{nrem:Nat}(hz:nrem<=p₀.size):∀ (f:Nat) (p:Array Nat) (n q:Nat),n+f<=nrem->HL z p₀ p n q nrem ->
  let r:=run (dZ z) (kas_desc f p n q);HL z p₀ r.1 r.2.1 r.2.2 nrem
 | 0,p,n,q,hn,h=>h
 | f+1,p,n,q,hn,h=>by
  intro r
  have hr:r=run (dZ z) (if dZ z (p.getD n 0) (p.getD (n - 1) 0)=true then (if q > 0 then kas_desc f (kas_rev p (n - (q+1)) n) (n+1) 0 else kas_desc f p (n+1) 0)
   else .ask (p.getD (n - 1) 0) (p.getD n 0) fun d=>if d=true then .ret (p,n,q) else kas_desc f p (n+1) (q+1)):=rfl
  have hq:=h.qn
  by_cases hc:dZ z (p.getD n 0) (p.getD (n - 1) 0)=true
  ·rw[if_pos hc] at hr
   have hlt:Z z p n < Z z p (n - 1):=of_decide_eq_true hc
   have step:∀p':Array Nat,p'.Perm p₀->p'.size=p₀.size->(∀k,Z z p' k=Z z p k)->HL z p₀ p' (n+1) 0 nrem:=fun p' a1 a2 a3=>by
    refine⟨a1,a2,by omega,by omega,fun a b hab hb=>?_,fun a b h1 h2 h3 h4=>by rw[show a=b by omega]⟩
    rw[a3,a3]
    by_cases hbn:b < n
    ·exact h.dn a b hab hbn
    ·have e:b=n:=by omega
     subst e
     by_cases ha:a=b
     ·subst ha;exact Int.le_refl _
     ·exact Int.le_trans (Int.le_of_lt hlt) (h.dn a (b - 1) (by omega) (by omega))
   by_cases hq0:q > 0
   ·rw[if_pos hq0] at hr
    rw[hr]
    exact Gx hz f _ (n+1) 0 (by omega) (step _ ((k9 _ _ _).trans h.perm) (by rw[k4,h.size]) (xi (by rw[h.size];omega) h.eq))
   ·rw[if_neg hq0] at hr
    rw[hr]
    exact Gx hz f p (n+1) 0 (by omega) (step p h.perm h.size fun _=>rfl)
  ·rw[if_neg hc] at hr
   have hge:Z z p (n - 1)<=Z z p n:=by
    have:¬ (Z z p n < Z z p (n - 1)):=fun q=>hc (yB q)
    omega
   have hr':r=run (dZ z) (if dZ z (p.getD (n - 1) 0) (p.getD n 0)=true then .ret (p,n,q) else kas_desc f p (n+1) (q+1)):=hr
   by_cases hd:dZ z (p.getD (n - 1) 0) (p.getD n 0)=true
   ·rw[if_pos hd] at hr'
    rw[hr']
    exact h
   ·rw[if_neg hd] at hr'
    rw[hr']
    have heq:Z z p n=Z z p (n - 1):=by
     have:¬ (Z z p (n - 1) < Z z p n):=fun q=>hd (yB q)
     omega
    refine Gx hz f p (n+1) (q+1) (by omega) ⟨h.perm,h.size,by omega,by omega,fun a b hab hb=>?_,fun a b h1 h2 h3 h4=>?_⟩
    ·by_cases hbn:b < n
     ·exact h.dn a b hab hbn
     ·have e:b=n:=by omega
      subst e
      by_cases ha:a=b
      ·subst ha;exact Int.le_refl _
      ·rw[heq];exact h.dn a (b - 1) (by omega) (by omega)
    ·have key:∀c,n+1 - (q+1+1)<=c->c < n+1->Z z p c=Z z p (n - 1):=fun c c1 c2=>by
      by_cases hcn:c < n
      ·exact h.eq c (n - 1) (by omega) hcn (by omega) (by omega)
      ·have e:c=n:=by omega
       subst e;exact heq
     rw[key a h1 h2,key b h3 h4]
structure LQ(z:Nat->Int)(p₀:Array Nat)(nrem:Nat)(r:Nat×Array Nat):Prop where
 perm:r.2.Perm p₀
 size:r.2.size=p₀.size
 ge:1<=r.1
 le:r.1<=nrem
 up:Up z r.2 r.1
theorem tail3{p₀ p:Array Nat}{n nrem:Nat}(hz:nrem<=p₀.size)(h1:1<=n)(hn:n<=nrem)(hp:p.Perm p₀)(hs:p.size=p₀.size)(hd:Dn z p n):LQ z p₀ nrem (run (dZ z) (kas_tail3 n nrem p)):=by
 unfold kas_tail3
 rw[ib]
 obtain⟨a,b,c,_⟩:=Mv (nrem - n) n h1 (Iq (by omega) hd)
 exact⟨(k9 _ _ _).trans hp,by show (kas_rev p 0 n).size=_;rw[k4,hs],by show 1<=run _ (kas_asc _ _ _);omega,by show run _ (kas_asc _ _ _)<=nrem;omega,c⟩
theorem descPart{p₀ p:Array Nat}{n nrem:Nat}(hz:nrem<=p₀.size)(h1:1<=n)(hn:n < nrem)(hp:p.Perm p₀)(hs:p.size=p₀.size)(hd:Dn z p n)(hlt:Z z p n<=Z z p (n - 1)):LQ z p₀ nrem (run (dZ z) (kas_descPart n nrem p)):=by
 unfold kas_descPart
 rw[ib]
 have D:=Gx (z:=z) hz (nrem - (n+1)) p (n+1) 0 (by omega) ⟨hp,hs,by omega,by omega,fun a b hab hb=>by
  by_cases hbn:b < n
  ·exact hd a b hab hbn
  ·have e:b=n:=by omega
   subst e
   by_cases ha:a=b
   ·subst ha;exact Int.le_refl _
   ·exact Int.le_trans hlt (hd a (b - 1) (by omega) (by omega)),fun a b h1 h2 h3 h4=>by rw[show a=b by omega]⟩
 dsimp only at D
 generalize run (dZ z) (kas_desc (nrem - (n+1)) p (n+1) 0)=r at D
 have hq:=D.qn
 split
 ·exact tail3 hz (by omega) D.le ((k9 _ _ _).trans D.perm) (by rw[k4,D.size]) (DK (xi (by have:=D.size;have:=D.le;omega) D.eq) D.dn)
 ·exact tail3 hz (by omega) D.le D.perm D.size D.dn
theorem count{p:Array Nat}{nrem:Nat}(hz:nrem<=p.size)(h1:1<=nrem):LQ z p nrem (run (dZ z) (kas_count nrem p)):=by
 unfold kas_count
 rw[ib]
 obtain⟨a,b,c,d⟩:=Mv (z:=z) (p:=p) (nrem - 1) 1 (Nat.le_refl _) (fun x y hxy hy=>by rw[show x=y by omega];exact Int.le_refl _)
 generalize run (dZ z) (kas_asc p (nrem - 1) 1)=n at a b c d
 split
 ·exact⟨Array.Perm.refl _,rfl,a,by show n<=nrem;omega,c⟩
 ·rename_i hne
  have hlt:n < nrem:=by
   have:n≠nrem:=fun e=>hne (by simp[e])
   omega
  have hd:=d (by omega)
  split
  ·rename_i hn1
   show LQ z p nrem (run (dZ z) (if dZ z (p.getD 0 0) (p.getD (n - 1) 0)=true then .ret (n,p) else kas_descPart n nrem (kas_rev p 0 n)))
   by_cases hc:dZ z (p.getD 0 0) (p.getD (n - 1) 0)=true
   ·rw[if_pos hc]
    exact⟨Array.Perm.refl _,rfl,a,by show n<=nrem;omega,c⟩
   ·rw[if_neg hc]
    have hge:Z z p (n - 1)<=Z z p 0:=by
     have:¬ (Z z p 0 < Z z p (n - 1)):=fun q=>hc (yB q)
     omega
    have all:∀x,x < n->Z z p x=Z z p 0:=fun x hx=>by
     have e1:=c 0 x (Nat.zero_le _) hx
     have e2:=c x (n - 1) (by omega) (by omega)
     omega
    have same:=xi (z:=z) (p:=p) (i:=0) (j:=n) (by omega) fun x y _ hx _ hy=>by rw[all x hx,all y hy]
    refine descPart hz (by omega) hlt (k9 _ _ _) (by rw[k4]) (fun x y hxy hy=>?_) ?_
    ·rw[same,same,all x (by omega),all y hy];exact Int.le_refl _
    ·rw[same,same];omega
  ·exact descPart hz (by omega) hlt (Array.Perm.refl _) rfl (fun x y hxy hy=>by rw[show x=y by omega];exact Int.le_refl _) (by omega)
theorem place{p:Array Nat}{k:Nat}(hu:Up z p k):∀ (f l r:Nat),r - l<=f->l<=r->r<=k->(∀a,a < l->Z z p a<=Z z p k)->(∀a,r<=a->a < k->Z z p k<=Z z p a) ->
  let m:=run (dZ z) (kas_place p k f l r);m<=k/\(∀a,a < m->Z z p a<=Z z p k)/\(∀a,m<=a->a < k->Z z p k<=Z z p a)
 | 0,l,r,hf,hl,hr,h1,h2=>by
  intro m
  have e:l=r:=by omega
  subst e
  exact⟨hr,h1,h2⟩
 | f+1,l,r,hf,hl,hr,h1,h2=>by
  intro m
  have hm:m=run (dZ z) (if l >= r then .ret l else .ask (p.getD k 0) (p.getD ((l+r) / 2) 0) fun c=>if c=true then kas_place p k f l ((l+r) / 2) else kas_place p k f ((l+r) / 2+1) r):=rfl
  by_cases hlr:l >= r
  ·rw[if_pos hlr] at hm
   rw[hm]
   have e:l=r:=by omega
   subst e
   exact⟨hr,h1,h2⟩
  ·rw[if_neg hlr] at hm
   have hm':m=run (dZ z) (if dZ z (p.getD k 0) (p.getD ((l+r) / 2) 0)=true then kas_place p k f l ((l+r) / 2) else kas_place p k f ((l+r) / 2+1) r):=hm
   by_cases hc:dZ z (p.getD k 0) (p.getD ((l+r) / 2) 0)=true
   ·rw[if_pos hc] at hm'
    rw[hm']
    have hlt:Z z p k < Z z p ((l+r) / 2):=of_decide_eq_true hc
    exact place hu f l ((l+r) / 2) (by omega) (by omega) (by omega) h1 fun a ha hak=>Int.le_trans (Int.le_of_lt hlt) (hu _ a ha hak)
   ·rw[if_neg hc] at hm'
    rw[hm']
    have hge:Z z p ((l+r) / 2)<=Z z p k:=by
     have:¬ (Z z p k < Z z p ((l+r) / 2)):=fun q=>hc (yB q)
     omega
    exact place hu f ((l+r) / 2+1) r (by omega) (by omega) hr (fun a ha=>Int.le_trans (hu a ((l+r) / 2) (by omega) (by omega)) hge) h2
theorem bin{p₀:Array Nat}:∀ (f:Nat) (p:Array Nat) (k:Nat),p.Perm p₀->p.size=p₀.size->k+f<=p₀.size->Up z p k ->
  (run (dZ z) (kas_bin f p k)).Perm p₀/\(run (dZ z) (kas_bin f p k)).size=p₀.size/\Up z (run (dZ z) (kas_bin f p k)) (k+f)
 | 0,p,k,hp,hs,hk,hu=>⟨hp,hs,hu⟩
 | f+1,p,k,hp,hs,hk,hu=>by
  unfold kas_bin
  rw[ib]
  have P:=place hu k 0 k (by omega) (by omega) (Nat.le_refl _) (fun a ha=>absurd ha (Nat.not_lt_zero _)) fun a ha hak=>absurd ha (by omega)
  dsimp only at P
  generalize run (dZ z) (kas_place p k k 0 k)=l at P
  obtain⟨p1,p2,p3⟩:=P
  have zb:=B4 z (p:=p) (src:=k) (d:=k - l) (by omega) (by omega)
  have e:k - (k - l)=l:=by omega
  rw[e] at zb
  obtain⟨q1,q2,q3⟩:=bin f (bubble p k (k - l)) (k+1) ((bubble_perm _ _ _).trans hp) (by rw[bubble_size,hs]) (by omega) fun a b hab hb=>by
   rw[zb,zb]
   by_cases ha1:a=l
   ·rw[if_pos ha1]
    by_cases hb1:b=l
    ·rw[if_pos hb1];exact Int.le_refl _
    ·rw[if_neg hb1]
     rw[if_pos (by omega)]
     exact p3 _ (by omega) (by omega)
   ·rw[if_neg ha1]
    by_cases hb1:b=l
    ·rw[if_pos hb1,if_neg (by omega)]
     exact p2 a (by omega)
    ·rw[if_neg hb1]
     by_cases ha2:l < a/\a<=k
     ·rw[if_pos ha2,if_pos (by omega)]
      exact hu _ _ (by omega) (by omega)
     ·rw[if_neg ha2]
      by_cases hb2:l < b/\b<=k
      ·rw[if_pos hb2]
       exact hu _ _ (by omega) (by omega)
      ·rw[if_neg hb2]
       exact hu _ _ hab (by omega)
  exact⟨q1,q2,by rw[show k+(f+1)=k+1+f by omega];exact q3⟩
theorem gn{n:Nat}(h1:1<=n):(run (dZ z) (kas_sort n)).toList.Perm (List.range n)/\((run (dZ z) (kas_sort n)).toList.map z).Pairwise (·<=·):=by
 have hsz:(List.toArray (List.range n)).size=n:=by simp
 have C:=count (z:=z) (p:=List.toArray (List.range n)) (nrem:=n) (by omega) h1
 have fin:∀p:Array Nat,p.Perm (List.toArray (List.range n))->p.size=n->Up z p n->p.toList.Perm (List.range n)/\(p.toList.map z).Pairwise (·<=·):=fun p a b c=>by
  refine⟨by have:=a.toList;simpa using this,?_⟩
  rw[List.pairwise_iff_getElem]
  intro i j hi hj hij
  have hi':i < n:=by simpa [b] using hi
  have hj':j < n:=by simpa [b] using hj
  have:=c i j (Nat.le_of_lt hij) hj'
  unfold Z at this
  have e1:p.getD i 0=p[i]:=by simp[Array.getD,b,hi']
  have e2:p.getD j 0=p[j]:=by simp[Array.getD,b,hj']
  rw[e1,e2] at this
  simpa using this
 unfold kas_sort
 rw[ib]
 generalize run (dZ z) (kas_count n (List.toArray (List.range n)))=r at C
 obtain⟨k,p⟩:=r
 have hs:=C.size
 rw[hsz] at hs
 split
 ·rename_i hlt
  have hge:=C.ge
  have e:max k 1=k:=by have:1<=k:=hge;omega
  rw[e]
  obtain⟨q1,q2,q3⟩:=bin (z:=z) (n - k) p k C.perm C.size (by rw[hsz];have:k < n:=hlt;omega) C.up
  refine fin _ q1 (by rw[q2,hsz]) ?_
  rw[show k+(n - k)=n by have:k < n:=hlt;omega] at q3
  exact q3
 ·rename_i hnlt
  have hle:=C.le
  have e:k=n:=by have h3:k<=n:=hle;have h4:¬ k < n:=hnlt;omega
  subst e
  exact fin p C.perm hs C.up
end
end SP
namespace Srt
open PySem PySem.W PySem.Calls PyProof.Rows
noncomputable def outV(z:Nat->Int)(vs:List Value):List Value:=if vs.length < 2 then vs else (SP.run (SP.dZ z) (kas_sort vs.length)).toList.map fun i=>vs.getD i Value.none
theorem outV_len(z:Nat->Int)(vs:List Value):(outV z vs).length=vs.length:=by
 unfold outV
 split
 ·rfl
 ·rename_i h
  have:=(SP.gn (z:=z) (n:=vs.length) (by omega)).1.length_eq
  simpa using this
section
variable {prog:Program}{w:World}{A:Around}{E:Value->Shared->Prop}{s:Shared}
theorem list_sortG{a:Addr}{vs:List Value}{n:Nat}{P:PySem.Fin->Shared->Prop}(ho:s.heap.get? a=some (seqObj "list" vs.toArray n))(h64:vs.length < 64)(z:Nat->Int)(κ:SortKind)
  (hk:2<=vs.length->∀h':Heap,(∀b o,b≠a->s.heap.get? b=some o->h'.get? b=some o)->∀Q':SortKind->Shared->Prop,Q' κ { s with heap:=h' }->wpAny (model prog w) A (keyKind' vs.toArray) Q' (fun _ _=>False) { s with heap:=h' })
  (hlt:2<=vs.length->∀h':Heap,(∀b o,b≠a->s.heap.get? b=some o->h'.get? b=some o)->∀i j C,i < vs.length->j < vs.length->C (SP.dZ z i j) { s with heap:=h' }->kas_ask prog w A κ vs i j C { s with heap:=h' })
  (h:∀ (h':Heap) (c:Nat),(∀b o,b≠a->s.heap.get? b=some o->h'.get? b=some o)->h'.get? a=some (seqObj "list" (outV z vs).toArray c)->P (.done (.ret .none)) { s with heap:=h' }) :
  wpAny (model prog w) A (Builtin.«list.sort» ⟨[.ref a],[]⟩) P E s:=by
 rw[list_sort_plain]
 have ha:a < s.heap.objs.size:=zZ ho
 have hsl:vs.length<=sizeLine:=by rw[sizeLine_eq];omega
 refine zW (listItems_at ho rfl (zW (listUpdate_at ho rfl ?_ (by simpa using hsl) (Nat.zero_le _))))
 obtain⟨e1,ho1⟩:∃e,(s.heap.update a (Obj.mapSeq fun _=>(#[]:Array Value))).get? a=some (seqObj "list" #[] e):=⟨_,get?_update_seq ho fun _=>#[]⟩
 have kp1:∀b o,b≠a->s.heap.get? b=some o->(s.heap.update a (Obj.mapSeq fun _=>(#[]:Array Value))).get? b=some o:=fun b o hb e=>(Heap.get?_update_other _ _ (Ne.symm hb)).trans e
 refine zW (seqEpoch_at ho1 rfl (zW (wpAny_newTuple ?_ (by simpa using hsl))))
 refine zW (wpAny_newList (wpAny_holding ?_) (Nat.zero_le _))
 have ho3:(((s.heap.update a (Obj.mapSeq fun _=>(#[]:Array Value))).push (seqObj "tuple" vs.toArray 0)).push (seqObj "list" #[] 0)).get? a=some (seqObj "list" #[] e1):=zV _ (zV _ ho1)
 have kp3:∀b o,b≠a->s.heap.get? b=some o->(((s.heap.update a (Obj.mapSeq fun _=>(#[]:Array Value))).push (seqObj "tuple" vs.toArray 0)).push (seqObj "list" #[] 0)).get? b=some o:=fun b o hb e=>zV _ (zV _ (kp1 b o hb e))
 show wpAny _ A _ P E { s with heap:=((s.heap.update a (Obj.mapSeq fun _=>(#[]:Array Value))).push (seqObj "tuple" vs.toArray 0)).push (seqObj "list" #[] 0) }
 generalize ((s.heap.update a (Obj.mapSeq fun _=>(#[]:Array Value))).push (seqObj "tuple" vs.toArray 0)).push (seqObj "list" #[] 0)=h3 at ho3 kp3
 clear ho1 kp1
 dsimp only
 have fin:∀st':SortSt,(arrOf st').map (·.2)=(outV z vs).toArray->failedOf st'=none ->
   wpAny (model prog w) A (do
    let sorted:=(arrOf st').map (·.2)
    let touched:=(<- seqEpoch a) != e1
    Builtin.List.listUpdate (.ref a) fun _=>sorted
    if let some e:=failedOf st' then rule "list.sort.comparison-raised";throw e
    if touched then rule "list.sort.modified";raiseError "ValueError" "list modified during sort"
    ret .none) P E { s with heap:=h3 }:=fun st' h1 h2=>by
  dsimp only
  rw[h1,h2]
  refine zW (seqEpoch_at ho3 rfl ?_)
  refine zW (listUpdate_at ho3 rfl ?_ (Nat.zero_le _) (by show (outV z vs).toArray.size<=_;rw[zH,outV_len];omega))
  obtain⟨c,hc⟩:∃c,(h3.update a (Obj.mapSeq fun _=>(outV z vs).toArray)).get? a=some (seqObj "list" (outV z vs).toArray c):=⟨_,get?_update_seq ho3 fun _=>(outV z vs).toArray⟩
  have q:=h _ c (fun b o hb e=>(Heap.get?_update_other _ _ (Ne.symm hb)).trans (kp3 b o hb e)) hc
  simp only[bne_self_eq_false,Bool.false_eq_true,if_false]
  exact zX q
 by_cases h2:vs.toArray.size < 2
 ·rw[if_pos h2,if_pos h2]
  refine zW (zX ?_)
  rw[StateT.run_pure]
  refine zW (zX (fin _ ?_ rfl))
  have h2':vs.length < 2:=by simpa using h2
  unfold outV
  rw[if_pos h2']
  show ((vs.toArray.zip vs.toArray).map (·.2))=vs.toArray
  apply Array.toList_inj.mp
  simp only[Array.toList_map,Array.toList_zip]
  exact List.map_snd_zip (Nat.le_refl _)
 ·rw[if_neg h2,if_neg h2]
  have h2':2<=vs.length:=by
   have:¬ vs.length < 2:=by simpa using h2
   omega
  refine zW (wpAny_mono (hk h2' h3 kp3 (fun κ' s'=>κ'=κ/\s'={ s with heap:=h3 }) ⟨rfl,rfl⟩) (fun κ' s' hs=>?_) fun _ _ x=>x.elim)
  obtain⟨rfl,rfl⟩:=hs
  refine zW (wpAny_mono (kat_run (Q:=fun st' s'=>s'={ s with heap:=h3 }/\(arrOf st').map (·.2)=(outV z vs).toArray/\failedOf st'=none) (G:=fun p s'=>s'={ s with heap:=h3 }/\p=SP.run (SP.dZ z) (kas_sort vs.length))
   rfl h2' h64 (fun p st' s' a1 a2 a3 a4=>⟨a4.1,?_,a3⟩) (SP.wp_run (hlt h2' h3 kp3) (kas_sort vs.length) (SP.CJ (by omega)) ⟨rfl,rfl⟩)) ?_ fun _ _ e=>e)
  ·rw[kat_snds rfl a2,a4.2]
   unfold outV
   rw[if_neg (by omega)]
  ·rintro⟨⟨⟩,st'⟩ s' ⟨hs,h4,h5⟩
   subst hs
   exact fin st' h4 h5
def Coll(h:Heap)(l:Addr)(vs:List Value):Prop:=∃ (o:Obj) (T:String) (n:Nat),(T="list"\/T="tuple")/\h.get? l=some o/\o.cls=.type T/\o.data=.seq vs.toArray n
theorem collectC{l:Addr}{vs:List Value}{Q:List Value->Shared->Prop}(hl:Coll s.heap l vs)
  (h:Q vs { s with heap:=(s.heap.push (seqObj "list" #[] 0)).update s.heap.objs.size (Obj.mapSeq (·++vs.toArray)) }) (hsz:vs.length<=sizeLine):wpAny (model prog w) A (collect (.ref l)) Q E s:=by
 obtain⟨o,T,n,hT,ho,hc,hd⟩:=hl
 unfold collect
 refine zW (wpAny_runValue (codeAny_builtin entry_proto_collect' ?_))
 show wpAny _ _ (do again (.builtin "list.__iadd__" ⟨[<- newList [],.ref l],[]⟩)) _ _ s
 refine zW (wpAny_newList (zX ⟨Code.quiet_builtin _ (by decide +kernel),codeAny_builtin entry_list_iadd' ?_⟩))
 show wpAny _ _ (Builtin.List.listExtendWith (.ref s.heap.objs.size) (.ref l) (.ref s.heap.objs.size)) _ _ { s with heap:=s.heap.push (seqObj "list" #[] 0) }
 unfold Builtin.List.listExtendWith
 have ho':(s.heap.push (seqObj "list" #[] 0)).get? l=some o:=zV _ ho
 refine zW (wpAny_typeOf (T:=T) ⟨o,ho',hc⟩ ?_)
 rw[if_pos (by rcases hT with rfl|rfl<;>simp)]
 refine zW (listItems_at ho' hd (zW (listItems_at (xs:=#[]) (n:=0) (zY _ rfl) rfl ?_)))
 rw[if_neg (by simp)]
 refine zW (listUpdate_at (xs:=#[]) (n:=0) (zY _ rfl) rfl ?_ (Nat.zero_le _) (by show (#[]++vs.toArray).size<=sizeLine+1;simp only[Array.size_append,zH,List.length_nil];omega))
 refine zX ?_
 refine zW (wpAny_load (get?_update_seq (zY _ rfl) _) ?_)
 show wpAny _ _ (pure ((#[]:Array Value)++vs.toArray).toList) Q E _
 rw[show ((#[]:Array Value)++vs.toArray).toList=vs by simp]
 exact zX h
theorem sortedG{l:Addr}{vs:List Value}{Q:Value->Shared->Prop}(hl:Coll s.heap l vs)(h64:vs.length < 64)(z:Nat->Int)(κ:SortKind)
  (hk:2<=vs.length->∀h':Heap,(∀b o,s.heap.get? b=some o->h'.get? b=some o)->∀Q':SortKind->Shared->Prop,Q' κ { s with heap:=h' }->wpAny (model prog w) A.in1.in1 (keyKind' vs.toArray) Q' (fun _ _=>False) { s with heap:=h' })
  (hlt:2<=vs.length->∀h':Heap,(∀b o,s.heap.get? b=some o->h'.get? b=some o)->∀i j C,i < vs.length->j < vs.length->C (SP.dZ z i j) { s with heap:=h' }->kas_ask prog w A.in1.in1 κ vs i j C { s with heap:=h' })
  (h:∀ (h':Heap) (D:Addr) (c:Nat),(∀b o,s.heap.get? b=some o->h'.get? b=some o)->s.heap.objs.size<=D->h'.get? D=some (seqObj "list" (outV z vs).toArray c)->Q (.ref D) { s with heap:=h' }) :
  wpAny (model prog w) A (call (.builtin "sorted") [.ref l]) Q E s:=by
 have hsl:vs.length<=sizeLine:=by rw[sizeLine_eq];omega
 refine Calls.call_function_entry kind_sorted plain_sorted entry_sorted (args_sorted1 _) ?_
 unfold Builtin.«sorted»
 refine zW (m:=checkCount "sorted" 1 1 _) (zX (zW (collectC hl ?_ hsl)))
 refine zW (wpAny_newList ?_ (by simpa using hsl))
 have hsz:((s.heap.push (seqObj "list" #[] 0)).update s.heap.objs.size (Obj.mapSeq (·++vs.toArray))).objs.size=s.heap.objs.size+1:=by rw[Heap.size_update,size_push']
 have kp:∀b o,s.heap.get? b=some o->(((s.heap.push (seqObj "list" #[] 0)).update s.heap.objs.size (Obj.mapSeq (·++vs.toArray))).push (seqObj "list" vs.toArray 0)).get? b=some o:=fun b o e =>
  zV _ ((Heap.get?_update_other _ _ (Nat.ne_of_gt (zZ e))).trans (zV _ e))
 have hoD:(((s.heap.push (seqObj "list" #[] 0)).update s.heap.objs.size (Obj.mapSeq (·++vs.toArray))).push (seqObj "list" vs.toArray 0)).get? (s.heap.objs.size+1)=some (seqObj "list" vs.toArray 0):=by
  rw[<- hsz];exact zY _ rfl
 show wpAny _ _ _ _ _ { s with heap:=((s.heap.push (seqObj "list" #[] 0)).update s.heap.objs.size (Obj.mapSeq (·++vs.toArray))).push (seqObj "list" vs.toArray 0) }
 rw[hsz]
 generalize ((s.heap.push (seqObj "list" #[] 0)).update s.heap.objs.size (Obj.mapSeq (·++vs.toArray))).push (seqObj "list" vs.toArray 0)=h1 at kp hoD
 have kk:∀h':Heap,(∀b o,b≠s.heap.objs.size+1->h1.get? b=some o->h'.get? b=some o)->∀b o,s.heap.get? b=some o->h'.get? b=some o:=fun h' q b o e=>q b o (Nat.ne_of_lt (Nat.lt_succ_of_lt (zZ e))) (kp b o e)
 refine zW (wpAny_holding (wpAny_call_entry slot_list_sort ⟨_,hoD,rfl⟩ entry_list_sort (list_sortG hoD h64 z κ (fun a h' q=>hk a h' (kk h' q)) (fun a h' q=>hlt a h' (kk h' q)) fun h' c q e=>⟨_,rfl,?_⟩) (args_list_sort _)))
 exact zX ⟨_,rfl,h h' _ c (kk h' q) (by omega) e⟩
end
end Srt
namespace Dl
open PySem L2 PySem.Spec PyProof.Rows
section
variable {X:Cx}{HF₀ H₀:Hp}{e e2:Expr}{es:List Expr}{pos apos cpos px p:Pos}{x:Str}{fs:Env->Option (List D)}
noncomputable def Ap(i:Nat)(fz:List Nat)(f:Env->Option (List D)):ai->Option Out:=fun ρ=>(f (dG (hand fz 0 ρ))).bind fun us=>p9 i (fun ds=>if ds.length+us.length<=sizeLine then some (ds++us) else none) (hand fz 0 ρ)
theorem Br(i:Nat)(fz:List Nat){f:Env->Option (List D)}(hN:X.N[i]?=some x)(hv:Hu X.env.scope x)(h:DF X e f)(hd:(x == ("__debug__":Str))=false:=by decide)(hcd:(x == ("__classdict__":Str))=false:=by decide)
  (hfew:((backTo cpos (starEach [e] X.env)).all (fun x=>!x.1)&&(backToKw cpos (keywordEach [] X.env)).all (fun x=>x.1.isSome)&&decide ([e].length+([]:List Keyword).length+(if ([]:List Keyword).isEmpty then 0 else 1) < 30))=true:=by rfl)
  (hline:(apos.endLine == cpos.line)=true:=by rfl) (hs:starEach [e] X.env=(false,eval e X.env)::starEach [] X.env:=by rfl) :
  DS X HF₀ H₀ (.Expr (.Call (.Attribute (.Name x px) "extend" apos) [e] [] cpos) pos) (Ap i fz f) :=
 dm (nK (rJ PySem.F.plainAttrs_list PySem.F.slot_list_extend PySem.F.type_list_extend AM (oi hN hv hd hcd) (bS h d5 hs) rfl hfew hline hs rfl)) fun E σ H ⟨HF,ρ,o,S,hg,q⟩=>by
  obtain⟨us,h1,hg⟩:=bs hg
  obtain⟨ds,es,h2,h3,rfl⟩:=jL hg
  obtain⟨HF1,s1,S1⟩:=S.hand fz
  obtain⟨a,vs,e1,e2,e3,e5,e4⟩:=S1.own i ds h2
  refine⟨.ref a,e1,.inl ⟨rfl,vs,gG.of e2⟩,HF1,_,us,S1.gr.fh,S1.frz,h1,fun b ws H' HF' G hb hf h' r=>?_⟩
  have S2:=S1.grow G
  obtain⟨a',vs',f1,f2,f3,f5,f4⟩:=S2.own i ds h2
  rw[e1] at f1;cases f1
  split at h3
  ·rename_i hz
   cases h3
   exact⟨a,b,vs',ws,rfl,rfl,f2,h',by rw[f4.length,r.length];exact hz,q σ _ HF' (S2.mut h2 e1 f2 (f4.append r)) (s1.trans G.ff)⟩
  ·cases h3
noncomputable def vd(ds:List D)(k:Int)(d:D):List D:=let j:=if k < 0 then (k+(ds.length:Int)).toNat else min k.toNat ds.length;ds.take j++d::ds.drop j
noncomputable def FQ:V->List V->Hp->VK->Prop:=fun x vs H Q=>∃l xs k y,x=.ref l/\vs=[.int k,y]/\H l=some (.lst xs)/\xs.length < sizeLine/\-(2 ^ 62)<=k/\k < 2 ^ 62 /\
 Q .non (upd H l (.lst (xs.take (if k < 0 then (k+(xs.length:Int)).toNat else min k.toNat xs.length)++y::xs.drop (if k < 0 then (k+(xs.length:Int)).toNat else min k.toNat xs.length))))
theorem Az:Ku X "list.insert" FQ:=by
 intro pins s σ H x vs v us Q I rx rv h
 obtain⟨l,xs,k,y,rfl,rfl,hH,hz,k1,k2,q⟩:=h
 cases rx
 obtain⟨u1,u2,rfl,⟨t,rfl⟩,ru⟩:=L2.az.two rv
 obtain⟨z,its,n,r,hl,e⟩:=I.lstM hH
 have hfit:¬(!Builtin.List.listFitsIndex k)=true:=by
  have:Builtin.List.listFitsIndex k=true:=by
   unfold Builtin.List.listFitsIndex
   simp only[zF,zJ]
   omega
  rw[this];simp
 refine call_meets F.slot_list_insert ⟨_,e,rfl⟩ F.entry_list_insert (F.args_list_insert_3 _ _ _) (AutoListH.list_insert_list_int_val_1 l its.toArray n k t u2 hfit (by rw[zH];omega)) ⟨e,?_⟩
 have hlen:its.length=xs.length:=hl.symm
 refine⟨.non,_,I.lset (its':=its.take (if k < 0 then (k+(xs.length:Int)).toNat else min k.toNat xs.length)++u2::its.drop (if k < 0 then (k+(xs.length:Int)).toNat else min k.toNat xs.length)) hH e ?_ ((r.take _).append (.cons ru (r.drop _))) ?_,rfl,q⟩
 ·dsimp only
  rw[zH,hlen]
  apply Array.toList_inj.mp
  simp
  exact List.take_of_length_le (by rw[List.length_drop,hlen];exact Nat.le_refl _)
 ·rw[zN,zL,List.length_take,List.length_drop]
  omega
noncomputable def EG(i:Nat)(fz:List Nat)(fk f:Env->Option D):ai->Option Out:=fun ρ=>(fk (bz ρ)).bind fun kd=>match kd with
 | .int k=>(mW fz f ρ).bind fun p=>p9 i (fun ds=>if wa k=true/\ds.length < sizeLine then some (vd ds k p.1) else none) p.2
 | _=>none
theorem Be(i:Nat)(fz:List Nat){fk f:Env->Option D}(hN:X.N[i]?=some x)(hv:Hu X.env.scope x)(hk:DE X e fk)(h:DE X e2 f)(hd:(x == ("__debug__":Str))=false:=by decide)(hcd:(x == ("__classdict__":Str))=false:=by decide)
  (hfew:((backTo cpos (starEach [e,e2] X.env)).all (fun x=>!x.1)&&(backToKw cpos (keywordEach [] X.env)).all (fun x=>x.1.isSome)&&decide ([e,e2].length+([]:List Keyword).length+(if ([]:List Keyword).isEmpty then 0 else 1) < 30))=true:=by rfl)
  (hline:(apos.endLine == cpos.line)=true:=by rfl) (hs:starEach [e,e2] X.env=(false,eval e X.env)::starEach [e2] X.env:=by rfl) (hs2:starEach [e2] X.env=(false,eval e2 X.env)::starEach [] X.env:=by rfl) :
  DS X HF₀ H₀ (.Expr (.Call (.Attribute (.Name x px) "insert" apos) [e,e2] [] cpos) pos) (EG i fz fk f) :=
 dm (nK (rJ PySem.F.plainAttrs_list PySem.F.slot_list_insert PySem.F.type_list_insert Az (oi hN hv hd hcd) (bS hk (bS h d5 hs2) hs) rfl hfew hline hs (by rw[hs2];rfl))) fun E σ H ⟨HF,ρ,o,S,hg,q⟩=>by
  obtain⟨kd,hkd,hg⟩:=bs hg
  cases kd<;>try cases hg
  rename_i k
  obtain⟨⟨d,ρ'⟩,h1,hg⟩:=bs hg
  obtain⟨ds,es,h2,h3,rfl⟩:=jL hg
  have hown:∃ds',ρ[i]?=some (.own ds'):=by
   obtain⟨d1,_,h1⟩:=bs h1
   split at h1
   ·cases h1;exact⟨ds,h2⟩
   ·obtain⟨d2,_,h1⟩:=af h1
    cases h1
    rw[g9] at h2
    obtain⟨s,hs,h2⟩:=af h2
    cases s with
    | non=>split at h2<;>cases h2
    | val _=>split at h2<;>cases h2
    | own xs=>exact⟨xs,hs⟩
  obtain⟨ds',hown⟩:=hown
  obtain⟨a,vs,e1,e2,e3,e5,e4⟩:=S.own i ds' hown
  refine⟨.ref a,e1,.inl ⟨rfl,vs,gG.of e2⟩,H,bz ρ,_,.refl _,S.all,hkd,fun vk Hk HFk Gk rk=>?_⟩
  simp only[Rep] at rk
  subst rk
  refine l0 (S.step Gk.hh) h1 fun v H' HF' s1 S' sh r=>?_
  obtain⟨a',vs',f1,f2,f3,f5,f4⟩:=S'.own i ds h2
  rw[e1] at f1;cases f1
  split at h3
  ·rename_i hz
   cases h3
   have ok:=hz.1
   unfold wa at ok
   rw[zF] at ok
   refine⟨a,vs',k,v,rfl,rfl,f2,by rw[f4.length];exact hz.2,of_decide_eq_true ok.1,of_decide_eq_true ok.2,q σ _ HF' (S'.mut h2 e1 f2 ?_) s1⟩
   unfold vd
   rw[f4.length]
   exact (f4.take _).append (ak.cons r (f4.drop _))
  ·cases h3
noncomputable def rM:D->D->Option (List D)
 | .list xs,.list ys=>small (xs++ys)
 | _,_=>none
def Dc(K:W.Frag):R2:=fun x y H Q=>∃a b xs ys,x=.ref a/\y=.ref b/\gG K H a xs/\gG K H b ys/\xs.length+ys.length<=sizeLine/\∀p,H p=none->Q (.ref p) (upd H p (.lst (xs++ys)))
theorem uV:gD X (binaryOp .Add) (Dc X.K):=by
 intro pins s σ H x y v u Q I rx ry h
 obtain⟨a,b,xs,ys,rfl,rfl,ha,hb,hz,q⟩:=h
 cases rx
 cases ry
 obtain⟨its,r1,p1,_⟩:=I.list ha
 obtain⟨its2,r2,p2,_⟩:=I.list hb
 obtain⟨⟨cls,dd,data,sl⟩,ho,hc,n,hd⟩:=id p1.isList
 obtain⟨⟨cls2,dd2,data2,sl2⟩,ho2,hc2,n2,hd2⟩:=id p2.isList
 simp only at hc hd hc2 hd2
 subst hc hd hc2 hd2
 refine concat_meets ⟨_,ho,rfl⟩ ⟨_,ho2,rfl⟩ noFill_list_add seq_list_add PySem.F.slot_list_add PySem.F.entry_list_add (PySem.F.args_list_add_2 _ _) (list_addW a b its.toArray its2.toArray n n2 dd dd2 sl sl2 (by rw[zH,zH,<- r1.length,<- r2.length];exact hz)) ⟨ho,ho2,?_⟩
 have e:its.toArray++its2.toArray=(its++its2).toArray:=by simp
 rw[e]
 exact⟨.ref s.heap.objs.size,_,I.lnew (t':=s.toks) (r1.append r2) (by rw[zN];exact hz),rfl,q _ I.fresh⟩
noncomputable def Nb(g:D->D->Option (List D))(f1 f2:Env->Option D):Env->Option (List D):=fun ρ=>(f1 ρ).bind fun x=>(f2 ρ).bind fun y=>g x y
theorem Ii{a b:Expr}{fa fb:Env->Option D}(ha:DE X a fa)(hb:DE X b fb):DF X (.BinOp a .Add b pos) (Nb rM fa fb):=aN (BD uV ha hb) fun σ H Q ⟨HF,ρ,d,sm,eo,hf,q⟩=>by
 obtain⟨x,hx,hf⟩:=bs hf
 obtain⟨y,hy,hg⟩:=bs hf
 refine⟨HF,ρ,x,sm,eo,hx,fun v1 H1 HF1 g1 r1=>⟨HF1,ρ,y,g1.fh,eo.mono g1.ff,hy,fun v2 H2 HF2 g2 r2=>?_⟩⟩
 have r1:=r1.mono g2.ff
 cases x<;>cases y<;>simp only[rM] at hg<;>try cases hg
 rename_i xs ys
 obtain⟨rfl,hz⟩:=d8 hg
 simp only[Rep] at r1 r2
 obtain⟨a,vs,rfl,ha,ra⟩:=r1
 obtain⟨b,us,rfl,hb,rb⟩:=r2
 have G:=g1.trans g2
 exact⟨a,b,vs,us,rfl,rfl,g2.fh.seq ha,g2.fh.seq hb,by rw[ra.length,rb.length,<- zN];exact hz,fun p hp=>q p _ _ HF2 (G.trans (.own G.fh hp)) (G.hh.free hp) (G.fh.free hp) aC (ra.append rb)⟩
noncomputable def boolsOf:List D->Option (List Bool)
 | []=>some []
 | .bool b::r=>(boolsOf r).map (b::·)
 | _::_=>none
theorem iy:∀ {ds:List D}{bs:List Bool},boolsOf ds=some bs->ds=bs.map PyData.bool
 | [],bs,h=>by cases h;rfl
 | d::r,bs,h=>by
  cases d<;>simp only[boolsOf] at h<;>try cases h
  obtain⟨bs',h1,rfl⟩:=af h
  rw[iy h1]
  rfl
theorem kC{K:W.Frag}{H:Hp}:∀ {bs:List Bool}{vs:List V},ak K H (bs.map PyData.bool) vs->vs=bs.map V.bl
 | [],vs,h=>h.nil_inv
 | b::bs,vs,h=>by
  obtain⟨v,r,rfl,a,c⟩:=h.cons_inv
  simp only[Rep] at a
  rw[a,kC c]
  rfl
theorem kr:∀ {bs:List Bool}{us:List Value},az (bs.map V.bl) us->us=bs.map Value.bool
 | [],us,h=>by cases h;rfl
 | b::bs,us,h=>by
  cases h with
  | cons r rr=>cases r;rw[kr rr];rfl
theorem range_all(bs:List Bool):(List.range bs.length).all (fun i=>bs.getD i false)=bs.all id:=by
 induction bs with
 | nil=>rfl
 | cons b bs ih=>rw[zL,List.range_succ_eq_map,List.all_cons,List.all_map,List.all_cons];simpa [Function.comp_def] using congrArg (b&&·) ih
theorem range_any(bs:List Bool):(List.range bs.length).any (fun i=>bs.getD i false)=bs.any id:=by
 induction bs with
 | nil=>rfl
 | cons b bs ih=>rw[zL,List.range_succ_eq_map,List.any_cons,List.any_map,List.any_cons];simpa [Function.comp_def] using congrArg (b||·) ih
theorem xn(hc:X.calm=true):dw X (.builtin "all") (fun xs H Q=>∃ (a:Addr) (bs:List Bool),xs=[.ref a]/\gG X.K H a (bs.map V.bl)/\Q (.bl (bs.all id)) H):=by
 intro pins s σ H xs us Q I r h
 obtain⟨a,bs,rfl,hq,q⟩:=h
 obtain⟨u,rfl,rx⟩:=vals1 r
 cases rx
 obtain⟨its,rv,pl,hz⟩:=I.list hq
 have hv:=kr rv
 subst hv
 have hh:X.A.in1.handled=none:=I.ok.hd hc
 refine call_all_walk (wpAny_pyIter_list pl.isList ?_)
 obtain⟨o,ho,hcl,n,hd⟩:=pl.isList
 have hne:a≠s.heap.objs.size:=Nat.ne_of_lt (zZ ho)
 refine⟨_,_,_,_,_,_,fun i=>bs.getD i false,rfl,Walks.list hh s.heap.objs.size a hne (bs.map Value.bool).toArray,⟨⟨_,zY _ rfl,rfl,rfl⟩,pl.isList.push _⟩,fun i v s' Q' E' hP hQ=>?_,fun h' tk kp=>?_⟩
 ·have e:v=Value.bool (bs.getD i false):=by
   have hP:(bs.map Value.bool).toArray[i]?=some v:=hP
   rw[List.getElem?_toArray,zO] at hP
   obtain⟨b,hb,rfl⟩:=af hP
   rw[zG,hb]
   rfl
  subst e
  exact wpAny_truthy_bool hQ
 ·refine⟨.bl (bs.all id),H,?_,?_,q⟩
  ·exact I.kept (t':=tk) fun b o' e=>kp b o' (by simp;exact Nat.ne_of_lt (zZ e)) (zV _ e)
  ·show Value.bool _=Value.bool _
   have:=range_all bs
   simp only[zH,zD]
   rw[this]
noncomputable def lb:List D->Option D:=fun ds=>(oneOf ds).bind fun d=>match d with
 | .list es=>(boolsOf es).map fun bs=>.bool (bs.all id)
 | _=>none
theorem HM(hc:X.calm=true)(B:k3 X "all" (.builtin "all"))(ha:DA X [e] fs)(he:starEach [e] X.env=(false,eval e X.env)::starEach [] X.env:=by rfl):DE X (.Call (.Name "all" p) [e] [] pos) (bf lb fs) :=
 hV (xn hc) (by
  intro HF H ds vs d Q sm r hg q
  obtain⟨x,hx,hg⟩:=bs hg
  rw[fS hx] at r
  cases x<;>try cases hg
  obtain⟨bs,hb,rfl⟩:=af hg
  obtain⟨v,r',rfl,a,b⟩:=r.cons_inv
  rw[b.nil_inv]
  simp only[Rep] at a
  obtain⟨p,us,rfl,h,rr⟩:=a
  rw[iy hb] at rr
  have:=kC rr
  subst this
  exact⟨p,bs,rfl,sm.seq h,q _ H HF (.refl sm) (by simp[Rep])⟩) B ha (by decide) (by decide) he rfl
end
noncomputable abbrev lexLt:=HT.lexLt
theorem fy:∀a:List Int,lexLt a a=false
 | []=>rfl
 | x::a=>by show HT.lexLt (x::a) (x::a)=false;rw[HT.du,if_pos rfl];exact fy a
theorem dW:∀ {a b c:List Int},lexLt a b=true->lexLt b c=true->lexLt a c=true
 | [],[],_,h,_=>by cases h
 | [],_::_,[],_,h=>by cases h
 | [],_::_,_::_,_,_=>rfl
 | _::_,[],_,h,_=>by cases h
 | _::_,_::_,[],_,h=>by cases h
 | x::a,y::b,z::c,h1,h2=>by
  have h1:HT.lexLt (x::a) (y::b)=true:=h1
  have h2:HT.lexLt (y::b) (z::c)=true:=h2
  show HT.lexLt (x::a) (z::c)=true
  rw[HT.du] at h1 h2 ⊢
  by_cases e1:x=y
  ·rw[if_pos e1] at h1
   by_cases e2:y=z
   ·rw[if_pos e2] at h2
    rw[if_pos (e1.trans e2)]
    exact dW h1 h2
   ·rw[if_neg e2] at h2
    rw[if_neg (by omega)]
    have:=of_decide_eq_true h2
    exact yB (by omega)
  ·rw[if_neg e1] at h1
   have q1:=of_decide_eq_true h1
   by_cases e2:y=z
   ·rw[if_neg (by omega)]
    exact yB (by omega)
   ·rw[if_neg e2] at h2
    have q2:=of_decide_eq_true h2
    rw[if_neg (by omega)]
    exact yB (by omega)
theorem j9:∀ {a b:List Int},lexLt a b=false->lexLt b a=false->a=b
 | [],[],_,_=>rfl
 | [],_::_,h,_=>by cases h
 | _::_,[],_,h=>by cases h
 | x::a,y::b,h1,h2=>by
  have h1:HT.lexLt (x::a) (y::b)=false:=h1
  have h2:HT.lexLt (y::b) (x::a)=false:=h2
  rw[HT.du] at h1 h2
  by_cases e:x=y
  ·rw[if_pos e] at h1
   rw[if_pos e.symm] at h2
   rw[e,j9 h1 h2]
  ·rw[if_neg e] at h1
   rw[if_neg (fun z=>e z.symm)] at h2
   have:=of_decide_eq_false h1
   have:=of_decide_eq_false h2
   omega
noncomputable def lexLe(a b:List Int):Bool:=!lexLt b a
theorem vE(a b c:List Int)(h1:lexLe a b=true)(h2:lexLe b c=true):lexLe a c=true:=by
 unfold lexLe at *
 rw[Bool.not_eq_true'] at *
 cases e:lexLt c a with
 | false=>rfl
 | true =>
  cases e1:lexLt a b with
  | true=>rw[dW e e1] at h2;cases h2
  | false =>
   have:=j9 e1 h1
   subst this
   rw[e] at h2;cases h2
theorem va(a b:List Int):(lexLe a b||lexLe b a)=true:=by
 unfold lexLe
 cases e1:lexLt b a with
 | false=>rfl
 | true =>
  cases e2:lexLt a b with
  | false=>rfl
  | true=>have:=dW e1 e2;rw[fy] at this;cases this
theorem xa{a b:List Int}(h1:lexLe a b=true)(h2:lexLe b a=true):a=b:=by
 unfold lexLe at *
 rw[Bool.not_eq_true'] at *
 exact j9 h2 h1
theorem r0{α:Type}{le:α->α->Bool}(anti:∀a b,le a b=true->le b a=true->a=b):∀ {l m:List α},l.Perm m->l.Pairwise (fun a b=>le a b=true)->m.Pairwise (fun a b=>le a b=true)->l=m
 | [],m,p,_,_=>p.nil_eq
 | a::l,[],p,_,_=>by have:=p.length_eq;simp at this
 | a::l,b::m,p,h1,h2=>by
  obtain⟨h1a,h1b⟩:=List.pairwise_cons.mp h1
  obtain⟨h2a,h2b⟩:=List.pairwise_cons.mp h2
  have e:a=b:=by
   have ha:a∈b::m:=p.mem_iff.mp zE
   have hb:b∈a::l:=p.mem_iff.mpr zE
   rcases zR.mp ha with e|ha
   ·exact e
   ·rcases zR.mp hb with e|hb
    ·exact e.symm
    ·exact anti a b (h1a b hb) (h2a a ha)
  subst e
  rw[r0 anti (List.perm_cons a |>.mp p) h1b h2b]
noncomputable def pU(l:List (List Int)):List (List Int):=l.mergeSort lexLe
theorem Dh(l:List (List Int)):(pU l).Perm l:=List.mergeSort_perm l lexLe
theorem HK(l:List (List Int)):(pU l).Pairwise (fun a b=>lexLe a b=true):=List.pairwise_mergeSort vE va l
theorem Eo{l m:List (List Int)}(p:l.Perm m)(h:l.Pairwise (fun a b=>lexLe a b=true)):l=pU m:=r0 (fun _ _=>xa) (p.trans (Dh m).symm) h (HK m)
noncomputable def rk(l:List (List Int))(a:List Int):Int:=((l.countP fun b=>lexLt b a:Nat):Int)
theorem xZ{l:List (List Int)}{a b:List Int}(ha:a∈l):lexLt a b=decide (rk l a < rk l b):=by
 unfold rk
 have mono:∀ {a b:List Int},lexLt a b=true->(l.countP fun c=>lexLt c a)<=l.countP fun c=>lexLt c b:=fun {a b} h=>List.countP_mono_left fun c _ hc=>dW hc h
 have strict:∀ {a b:List Int}(ha:a∈l),lexLt a b=true->(l.countP fun c=>lexLt c a) < l.countP fun c=>lexLt c b:=fun {a b} ha h=>by
  have key:∀m:List (List Int),a∈m->(m.countP fun c=>lexLt c a) < m.countP fun c=>lexLt c b:=fun m hm=>by
   induction m with
   | nil=>cases hm
   | cons x m ih =>
    rw[List.countP_cons,List.countP_cons]
    have mo:(m.countP fun c=>lexLt c a)<=m.countP fun c=>lexLt c b:=List.countP_mono_left fun c _ hc=>dW hc h
    rcases zR.mp hm with e|hm
    ·subst e
     rw[fy,h]
     simp only[Bool.false_eq_true,if_false,if_true]
     omega
    ·have:=ih hm
     by_cases hx:lexLt x a=true
     ·rw[hx,dW hx h];simp only[if_true];omega
     ·have hx':lexLt x a=false:=by simpa using hx
      rw[hx']
      simp only[Bool.false_eq_true,if_false]
      split<;>omega
  exact key l ha
 cases e:lexLt a b with
 | true=>exact (yB (by have:=strict ha e;omega)).symm
 | false =>
  refine (yA ?_).symm
  cases e2:lexLt b a with
  | true=>have:=mono e2;omega
  | false=>rw[j9 e e2];omega
section
variable {prog:Program}{w:World}{A:Around}{E:Value->Shared->Prop}{s:Shared}
theorem og{Q:Bool->Shared->Prop}:∀ {us ws:List Value}{ns ms:List Int}(i:Nat),IntsAre us ns->IntsAre ws ms->Q (lexLt ns ms) s->W.KatLex prog w A true (decide (ns.length < ms.length)) Q (us.zip ws) i s
 | [],[],_,_,i,.nil,.nil,h=>h
 | [],_::_,_,_,i,.nil,.cons _ _ _,h=>by
  show Q (decide (0 < _+1)) s
  rw[yB (Nat.succ_pos _)]
  exact h
 | _::_,[],_,_,i,.cons _ _ _,.nil,h=>by
  show Q (decide (_+1 < 0)) s
  rw[yA (Nat.not_lt_zero _)]
  exact h
 | _::us,_::ws,_,_,i,.cons n t r1,.cons m u r2,h=>by
  have h:Q (HT.lexLt (n::_) (m::_)) s:=h
  rw[HT.du] at h
  refine W.kat_cons (SeqAt.EqAt.int_int n t m u prog w _ _ ?_)
  cases e:(n == m) with
  | true =>
   have e':n=m:=eq_of_beq e
   rw[if_pos e'] at h
   refine W.kat_yes ?_
   have:=og (i+1) r1 r2 h
   simp only[zL,Nat.add_lt_add_iff_right]
   exact this
  | false =>
   have e':¬ n=m:=fun q=>by rw[q] at e;simp at e
   rw[if_neg e'] at h
   refine W.kat_no ?_
   by_cases hi:(true&&i == 0)=true
   ·rw[hi]
    exact oneLt_int h
   ·have hi':(true&&i == 0)=false:=by simpa using hi
    rw[hi']
    refine W.kat_one _ _ (lt_int ?_)
    exact h
end
noncomputable def ag(ns:List Int):D:=.tuple (ns.map PyData.int)
noncomputable def intsOf:List D->Option (List Int)
 | []=>some []
 | .int n::r=>(intsOf r).map (n::·)
 | _::_=>none
theorem cy:∀ {ds:List D}{ns:List Int},intsOf ds=some ns->ds=ns.map PyData.int
 | [],ns,h=>by cases h;rfl
 | d::r,ns,h=>by
  cases d<;>simp only[intsOf] at h<;>try cases h
  obtain⟨ns',h1,rfl⟩:=af h
  rw[cy h1]
  rfl
theorem cw:∀ns:List Int,intsOf (ns.map PyData.int)=some ns
 | []=>rfl
 | n::ns=>by simp[intsOf,cw ns]
noncomputable def yg:D->Option (List Int)|.tuple ds=>(intsOf ds).bind fun ns=>if ns=[] then none else some ns|_=>none
theorem xc{d:D}{ns:List Int}(h:yg d=some ns):d=ag ns/\ns≠[]:=by
 cases d<;>try cases h
 obtain⟨ms,h1,h2⟩:=bs h
 split at h2
 ·cases h2
 ·rename_i hn
  cases h2
  rw[cy h1]
  exact⟨rfl,hn⟩
theorem Am{ns:List Int}(h:ns≠[]):yg (ag ns)=some ns:=by
 unfold ag yg
 simp only[cw,zA]
 rw[if_neg h]
noncomputable def rowsOf:List D->Option (List (List Int))
 | []=>some []
 | d::r=>(yg d).bind fun ns=>(rowsOf r).map (ns::·)
theorem ja:∀ {ds:List D}{nss:List (List Int)},rowsOf ds=some nss->ds=nss.map ag/\∀ns∈nss,ns≠[]
 | [],nss,h=>by cases h;exact⟨rfl,fun _ z=>by cases z⟩
 | d::r,nss,h=>by
  obtain⟨ns,h1,h⟩:=bs h
  obtain⟨rest,h2,rfl⟩:=af h
  obtain⟨e,hn⟩:=xc h1
  obtain⟨e2,hn2⟩:=ja h2
  refine⟨by rw[e,e2];rfl,fun m hm=>?_⟩
  rcases zR.mp hm with q|q
  ·subst q;exact hn
  ·exact hn2 m q
theorem kU:∀ {nss:List (List Int)},(∀ns∈nss,ns≠[])->rowsOf (nss.map ag)=some nss
 | [],_=>rfl
 | ns::r,h=>by
  simp only[zI,rowsOf,Am (h ns zE),zA,kU fun m hm=>h m (zC _ hm),zB]
structure vi(h:Heap)(v:Value)(ns:List Int):Prop where
 ex:∃ (a:Addr) (o:Obj) (its:Array Value) (n:Nat),v=.ref a/\h.get? a=some o/\o.cls=.type "tuple"/\o.data=.seq its n/\IntsAre its.toList ns
theorem vi.keep{h h':Heap}{v:Value}{ns:List Int}(r:vi h v ns)(k:∀b o,h.get? b=some o->h'.get? b=some o):vi h' v ns:=let ⟨a,o,its,n,e,e1,e2,e3,e4⟩:=r.ex;⟨a,o,its,n,e,k _ _ e1,e2,e3,e4⟩
section
variable {prog:Program}{w:World}{A:Around}{E:Value->Shared->Prop}{s:Shared}
theorem pM{h:Heap}:∀ {vs:List Value}{nss:List (List Int)},Paired (vi h) vs nss->(∀ns∈nss,ns≠[])->∃fs:List Value,W.KatTups h vs fs/\fs.length=vs.length/\∀f∈fs,∃n t,f=Value.int n t
 | _,_,.nil,_=>⟨[],trivial,rfl,fun _ z=>by cases z⟩
 | _,_,.cons (a:=v) (b:=ns) r p,hn=>by
  obtain⟨fs,h1,h2,h3⟩:=pM p fun m hm=>hn m (zC _ hm)
  obtain⟨a,o,its,n,rfl,e1,e2,e3,e4⟩:=r.ex
  cases hits:its.toList with
  | nil =>
   rw[hits] at e4
   cases e4
   exact absurd rfl (hn [] zE)
  | cons f rest =>
   rw[hits] at e4
   cases e4 with
   | cons m t e5 =>
    have h0:its[0]?=some (.int m t):=by
     have:its.toList[0]?=some (Value.int m t):=by rw[hits];rfl
     simpa using this
    exact⟨.int m t::fs,W.KatTups.cons e1 e2 e3 h0 h1,by simp[h2],fun g hg=>by
     rcases zR.mp hg with q|q
     ·exact⟨m,t,q⟩
     ·exact h3 g q⟩
theorem fJ{α β:Type}{R:α->β->Prop}{d:α}{d':β}:∀ {l:List α}{m:List β}{i:Nat},Paired R l m->i < l.length->R (l.getD i d) (m.getD i d')
 | _,_,i,.nil,h=>by simp at h
 | _,_,0,.cons r _,_=>r
 | _,_,i+1,.cons _ p,h=>by simpa using fJ (i:=i) (d:=d) (d':=d') p (by simpa using h)
theorem uS{l:Addr}{vs:List Value}{nss:List (List Int)}{Q:Value->Shared->Prop}(hl:Srt.Coll s.heap l vs)(hp:Paired (vi s.heap) vs nss)(hn:∀ns∈nss,ns≠[])(h64:vs.length < 64)
  (h:∀ (h':Heap) (D:Addr) (c:Nat),(∀b o,s.heap.get? b=some o->h'.get? b=some o)->s.heap.objs.size<=D->h'.get? D=some (seqObj "list" (Srt.outV (fun i=>rk nss (nss.getD i [])) vs).toArray c)->Q (.ref D) { s with heap:=h' }) :
  wpAny (model prog w) A (call (.builtin "sorted") [.ref l]) Q E s:=by
 refine Srt.sortedG hl h64 (fun i=>rk nss (nss.getD i [])) (tuples' true) (fun h2 h' kp Q' q=>?_) (fun h2 h' kp i j C hi hj q=>?_) h
 ·have hp':Paired (vi h') vs nss:=Paired.mapP hp fun _ _ r=>r.keep kp
  obtain⟨fs,t,hlen,hf⟩:=pM hp' hn
  refine W.kat_kind (s:={ s with heap:=h' }) (T:=.type "int") t (by omega) (fun v hv=>?_) (by decide) q
  obtain⟨n,t,rfl⟩:=hf v hv
  exact W.Looks.of_pure rfl
 ·have ri:=(fJ (d:=Value.none) (d':=[]) hp hi).keep kp
  have rj:=(fJ (d:=Value.none) (d':=[]) hp hj).keep kp
  have hlen:=hp.length
  obtain⟨a,o,its,n,ea,e1,e2,e3,e4⟩:=ri.ex
  obtain⟨b,o',its',n',eb,f1,f2,f3,f4⟩:=rj.ex
  unfold W.kas_ask
  rw[ea,eb]
  have hmem:nss.getD i []∈nss:=by
   rw[zG,zK (by omega)]
   exact List.getElem_mem _
  have q':C (lexLt (nss.getD i []) (nss.getD j [])) { s with heap:=h' }:=by
   rw[xZ hmem]
   exact q
  refine W.kat_lt (s:={ s with heap:=h' }) e1 e3 f1 f3 ?_
  have:=og (prog:=prog) (w:=w) (A:=A.in1.in1) (s:={ s with heap:=h' }) 0 e4 f4 q'
  have l1:its.size=(nss.getD i []).length:=by have:=IntsAre.length e4;simpa using this
  have l2:its'.size=(nss.getD j []).length:=by have:=IntsAre.length f4;simpa using this
  rw[l1,l2]
  exact this
end
noncomputable def nR{α:Type}(z:Nat->Int)(l:List α)(d:α):List α:=if l.length < 2 then l else (SP.run (SP.dZ z) (W.kas_sort l.length)).toList.map fun i=>l.getD i d
theorem fw{α:Type}(l:List α)(d:α):(List.range l.length).map (fun i=>l.getD i d)=l:=by
 apply List.ext_getElem
 ·simp
 ·intro i h1 h2
  simp[h2]
theorem fL{α:Type}(z:Nat->Int)(l:List α)(d:α):(nR z l d).Perm l:=by
 unfold nR
 split
 ·exact List.Perm.refl _
 ·rename_i h
  have:=((SP.gn (z:=z) (n:=l.length) (by omega)).1).map fun i=>l.getD i d
  rw[fw] at this
  exact this
theorem E1(nss:List (List Int)):nR (fun i=>rk nss (nss.getD i [])) nss []=pU nss:=by
 refine Eo (fL _ _ _) ?_
 unfold nR
 split
 ·rename_i h
  match nss,h with
  | [],_=>exact List.Pairwise.nil
  | [a],_=>exact List.pairwise_singleton _ _
 ·rename_i h
  obtain⟨hp,hs⟩:=SP.gn (z:=fun i=>rk nss (nss.getD i [])) (n:=nss.length) (by omega)
  rw[List.pairwise_map] at hs ⊢
  refine hs.imp_of_mem fun {i j} hi hj hij=>?_
  have hj':j < nss.length:=by have:=hp.mem_iff.mp hj;simpa using this
  unfold lexLe
  rw[xZ (l:=nss) (a:=nss.getD j []) (by rw[zG,zK hj'];exact List.getElem_mem _)]
  simp only[Bool.not_eq_true',decide_eq_false_iff_not]
  omega
section
variable {X:Cx}
theorem n6{K:W.Frag}{HF:Hp}{ds:List D}{vs:List V}(z:Nat->Int)(r:ak K HF ds vs):ak K HF (nR z ds .none) (nR z vs .non):=by
 unfold nR
 rw[r.length]
 split
 ·exact r
 ·rename_i h
  obtain⟨hp,_⟩:=SP.gn (z:=z) (n:=ds.length) (by omega)
  have key:∀l:List Nat,(∀i∈l,i < ds.length)->ak K HF (l.map fun i=>ds.getD i .none) (l.map fun i=>vs.getD i .non):=fun l=>by
   induction l with
   | nil=>exact fun _=>ak.nil
   | cons i l ih =>
    intro hl
    have hi:=hl i zE
    obtain⟨v,e1,e2⟩:=r.getD (zK hi)
    refine ak.cons ?_ (ih fun j hj=>hl j (zC _ hj))
    dsimp only
    rw[zG,zG,e1,zK hi]
    exact e2
  exact key _ fun i hi=>by have:=hp.mem_iff.mp hi;simpa using this
theorem oS{vs:List V}{us:List Value}(z:Nat->Int)(r:az vs us):az (nR z vs .non) (Srt.outV z us):=by
 unfold nR Srt.outV
 rw[r.length]
 split
 ·exact r
 ·rename_i h
  obtain⟨hp,_⟩:=SP.gn (z:=z) (n:=us.length) (by omega)
  have key:∀l:List Nat,(∀i∈l,i < vs.length)->az (l.map fun i=>vs.getD i .non) (l.map fun i=>us.getD i Value.none):=fun l=>by
   induction l with
   | nil=>exact fun _=>.nil
   | cons i l ih =>
    intro hl
    have hi:=hl i zE
    obtain⟨v,e1,e2⟩:=r.get (zK hi)
    refine .cons ?_ (ih fun j hj=>hl j (zC _ hj))
    dsimp only
    rw[zG,zG,e1,zK hi]
    exact e2
  exact key _ fun i hi=>by have:=hp.mem_iff.mp hi;rw[r.length];simpa using this
theorem F6(z:Nat->Int)(nss:List (List Int)):nR z (nss.map ag) .none=(nR z nss []).map ag:=by
 unfold nR
 rw[zD]
 split
 ·rfl
 ·rename_i h
  rw[zM]
  obtain⟨hp,_⟩:=SP.gn (z:=z) (n:=nss.length) (by omega)
  refine yI fun i hi=>?_
  have hi':i < nss.length:=by have:=hp.mem_iff.mp hi;simpa using this
  simp[hi']
theorem k6{pins:List (Addr×Obj)}{σ:L2.St}{H HF:Hp}{s:Shared}(I:Inv X pins σ H s)(sm:aR HF H):∀ {nss:List (List Int)}{vs:List V}{us:List Value},ak X.K HF (nss.map ag) vs->az vs us->Paired (vi s.heap) us nss
 | [],_,_,h,r=>by rw[h.nil_inv] at r;cases r;exact .nil
 | ns::nss,_,_,h,r=>by
  obtain⟨v,vr,rfl,a,b⟩:=h.cons_inv
  cases r with
  | cons r rr =>
   refine .cons ?_ (k6 I sm b rr)
   unfold ag at a
   simp only[Rep] at a
   obtain⟨p,ws,rfl,hs,rw'⟩:=a
   cases r
   obtain⟨its,rv,⟨o,ho,hc,n,hd⟩,_⟩:=I.tuple (av sm hs)
   have:ws=ns.map V.int:=by
    have key:∀ {ns:List Int}{ws:List V},ak X.K HF (ns.map PyData.int) ws->ws=ns.map V.int:=fun {ns}=>by
     induction ns with
     | nil=>exact fun h=>h.nil_inv
     | cons n ns ih =>
      intro ws h
      obtain⟨v,r,rfl,a,b⟩:=h.cons_inv
      simp only[Rep] at a
      rw[a,ih b]
      rfl
    exact key rw'
   subst this
   exact⟨p,o,its.toArray,n,rfl,ho,hc,hd,intsAre_of rv⟩
theorem lZ:dw X (.builtin "sorted") (fun xs H Q=>∃ (HF:Hp) (a:Addr) (vs:List V) (nss:List (List Int)),xs=[.ref a]/\aR HF H/\(gG X.K HF a vs\/gT X.K HF a vs)/\ak X.K HF (nss.map ag) vs/\(∀ns∈nss,ns≠[])/\nss.length < 64 /\
  ∀ (Dn:Addr) (us:List V),H Dn=none->ak X.K HF ((pU nss).map ag) us->Q (.ref Dn) (upd H Dn (.lst us))):=by
 intro pins s σ H xs us Q I r h
 obtain⟨HF,a,vs,nss,rfl,sm,hq,rr,hn,h64,q⟩:=h
 obtain⟨u,rfl,rx⟩:=vals1 r
 cases rx
 obtain⟨its,rv,pl,hz⟩:∃its:List Value,az vs its/\Srt.Coll s.heap a its/\vs.length<=sizeLine:=by
  rcases hq with hq|hq
  ·obtain⟨its,rv,pl,hz⟩:=I.list (sm.seq hq)
   obtain⟨o,ho,hc,n,hd⟩:=pl.isList
   exact⟨its,rv,⟨o,"list",n,.inl rfl,ho,hc,hd⟩,hz⟩
  ·obtain⟨its,rv,pl,hz⟩:=I.tuple (av sm hq)
   obtain⟨o,ho,hc,n,hd⟩:=(show s.heap.IsTuple a its.toArray from pl)
   exact⟨its,rv,⟨o,"tuple",n,.inr rfl,ho,hc,hd⟩,hz⟩
 have hl1:=rr.length
 rw[zD] at hl1
 refine uS pl (k6 I sm rr rv) hn (by have:=rv.length;omega) fun h' Dn c kp hD e=>?_
 have hv:=oS (fun i=>rk nss (nss.getD i [])) rv
 have hr:=n6 (fun i=>rk nss (nss.getD i [])) rr
 rw[F6,E1] at hr
 refine⟨.ref Dn,_,I.laid (t':=s.toks) (o:=.lst (nR (fun i=>rk nss (nss.getD i [])) vs .non)) kp hD ⟨?_,_,c,hv,e⟩,rfl,q Dn _ (I.hok.fresh hD) hr⟩
 rw[(fL _ _ _).length_eq]
 exact hz
noncomputable def fX:List D->Option (List D):=fun ds=>(oneOf ds).bind fun d=>match d with
 | .list es=>(rowsOf es).bind fun nss=>if nss.length < 64 then some ((pU nss).map ag) else none
 | .tuple es=>(rowsOf es).bind fun nss=>if nss.length < 64 then some ((pU nss).map ag) else none
 | _=>none
variable {e:Expr}{fs:Env->Option (List D)}{p pos:Pos}
theorem AD(B:k3 X "sorted" (.builtin "sorted"))(ha:DA X [e] fs)(he:starEach [e] X.env=(false,eval e X.env)::starEach [] X.env:=by rfl):DF X (.Call (.Name "sorted" p) [e] [] pos) (mH fX fs) :=
 El lZ (by
  intro HF H ds vs d Q sm r hg q
  obtain⟨x,hx,hg⟩:=bs hg
  rw[fS hx] at r
  have key:∀ (b:Bool) (es:List D),ak X.K HF [if b then .tuple es else .list es] vs->((rowsOf es).bind fun nss=>if nss.length < 64 then some ((pU nss).map ag) else none)=some d->(∃ (HF:Hp) (a:Addr) (us:List V) (nss:List (List Int)),vs=[.ref a]/\aR HF H/\(gG X.K HF a us\/gT X.K HF a us)/\ak X.K HF (nss.map ag) us/\(∀ns∈nss,ns≠[])/\nss.length < 64/\∀ (Dn:Addr) (ws:List V),H Dn=none->ak X.K HF ((pU nss).map ag) ws->Q (.ref Dn) (upd H Dn (.lst ws))):=fun b es r hg=>by
   obtain⟨nss,hb,hg⟩:=bs hg
   split at hg
   ·rename_i h64
    cases hg
    obtain⟨v,r',rfl,a,e0⟩:=r.cons_inv
    rw[e0.nil_inv]
    obtain⟨e1,e2⟩:=ja hb
    obtain⟨p,us,rfl,h,rr⟩:∃p us,v=.ref p/\(gG X.K HF p us\/gT X.K HF p us)/\ak X.K HF es us:=by
     cases b
     ·simp only[Bool.false_eq_true,if_false,Rep] at a
      obtain⟨p,us,rfl,h,rr⟩:=a
      exact⟨p,us,rfl,.inl h,rr⟩
     ·simp only[if_true,Rep] at a
      obtain⟨p,us,rfl,h,rr⟩:=a
      exact⟨p,us,rfl,.inr h,rr⟩
    rw[e1] at rr
    exact⟨HF,p,us,nss,rfl,sm,h,rr,e2,h64,fun Dn ws hD hr=>q Dn ws _ HF (.own sm hD) hD (sm.free hD) aC hr⟩
   ·cases hg
  cases x<;>try cases hg
  ·exact key false _ r hg
  ·exact key true _ r hg) B ha (by decide) (by decide) he rfl
end
end Dl
namespace En
open PySem PyProof.Rows
open AutoSeq1 (wpAny_loadPart')
section
variable {prog:Program}{w:World}{A:Around}{E:Value->Shared->Prop}{s:Shared}
theorem nextT_item{j t:Addr}{k:Nat}{its:Array Value}{v:Value}{Q:Value->Shared->Prop}(hj:s.heap.IsTupleIter j t k)(ht:s.heap.IsTuple t its)(hv:its[k]?=some v)
  (hQ:∀g,g.IsTupleIter j t (k+1)->Heap.SameBut j s.heap g->Q v { s with heap:=g }):wpAny (model prog w) A (Builtin.SmallTypes.nextOf (.ref j)) Q E s:=by
 obtain⟨oj,gj,cj,dj⟩:=id hj
 obtain⟨ot,gt,_,nt,dt⟩:=ht
 unfold Builtin.SmallTypes.nextOf
 refine zW (wpAny_callSpecial?_slot (name:=Str.ofString "__next__") hj.typeIs F.slot_tuple_iterator_next (wpAny_call_entry F.slot_tuple_iterator_next hj.typeIs F.entry_tuple_iterator_next ?_ (F.args_tuple_iterator_next_1 _)))
 refine zW (m:=field (.ref j) 0) (wpAny_field gj dj (x:=.ref t) rfl ?_)
 show wpAny _ _ (if (Value.ref t == Value.none)=true then _ else _) _ _ s
 rw[if_neg (show ¬ ((Value.ref t == Value.none)=true) by exact Bool.false_ne_true)]
 refine zW (m:=field (.ref j) 1) (wpAny_field gj dj (x:=.int k 0) rfl ?_)
 refine zW (m:=seqItems? (.ref t)) (wpAny_seqItems gt dt ?_)
 simp only[yH,hv]
 refine zW (wpAny_setField gj dj (by simp) (zX ⟨v,rfl,zX (hQ _ ⟨_,Heap.get?_update_self _ gj (Obj.isFreed_of_fields (Obj.data_mapFields dj _)),(Obj.cls_mapFields ..).trans cj,?_⟩ (Heap.SameBut.update ..))⟩))
 rw[Obj.data_mapFields dj];simp[rawInt]
theorem nextT_end{j t:Addr}{k:Nat}{its:Array Value}{Q:Value->Shared->Prop}(hh:A.handled=none)(hj:s.heap.IsTupleIter j t k)(ht:s.heap.IsTuple t its)(hv:its[k]?=none)
  (hE:∀g x,Heap.ExtBut j s.heap g->(∃o,g.get? x=some o/\o.cls=.type "StopIteration")->E (.ref x) { s with heap:=g }):wpAny (model prog w) A (Builtin.SmallTypes.nextOf (.ref j)) Q E s:=by
 obtain⟨oj,gj,cj,dj⟩:=id hj
 obtain⟨ot,gt,_,nt,dt⟩:=ht
 unfold Builtin.SmallTypes.nextOf
 refine zW (wpAny_callSpecial?_slot (name:=Str.ofString "__next__") hj.typeIs F.slot_tuple_iterator_next (wpAny_call_entry F.slot_tuple_iterator_next hj.typeIs F.entry_tuple_iterator_next ?_ (F.args_tuple_iterator_next_1 _)))
 refine zW (m:=field (.ref j) 0) (wpAny_field gj dj (x:=.ref t) rfl ?_)
 show wpAny _ _ (if (Value.ref t == Value.none)=true then _ else _) _ _ s
 rw[if_neg (show ¬ ((Value.ref t == Value.none)=true) by exact Bool.false_ne_true)]
 refine zW (m:=field (.ref j) 1) (wpAny_field gj dj (x:=.int k 0) rfl ?_)
 refine zW (m:=seqItems? (.ref t)) (wpAny_seqItems gt dt ?_)
 simp only[yH,hv]
 refine zW (wpAny_rule (zW (wpAny_setField gj dj (by simp) (zW (m:=newExc (.type "StopIteration") []) ?_))))
 simp only[newExc,newTuple]
 refine zW (wpAny_newObj_type (zW (m:=firstArgMember _ _) (wpAny_of_eq (a:=Value.none) (by first|rfl|(simp only[firstArgMember];rfl)) ?_)) (by size_fits))
 refine wpAny_newObj_type ?_ (by size_fits);simp only[raiseNew]
 refine zW (wpAny_handled ?_)
 first|rw[show A.in1.handled=none from hh]|rw[hh]
 exact zW (zX (wpAny_throw (hE _ _ (((Heap.SameBut.update ..).extBut.push _).push _) ⟨_,zY _ rfl,rfl⟩)))
theorem meets_enumT(t:Addr)(its:Array Value)(n:Nat)(dd:Option Addr)(sl:Array (Option Value)) :
  Meets (Builtin.«enumerate.__new__» ⟨[.type "enumerate",.ref t],[]⟩) (fun _ R s=>s.heap.get? t=some { cls:=.type "tuple",dict:=dd,data:=.seq its n,slots:=sl } /\
   R (.ok (.ret (.ref (s.heap.push { cls:=.type "tuple_iterator",data:=.fields #[.ref t,.int 0 0] }).objs.size)))
    { s with heap:=(s.heap.push { cls:=.type "tuple_iterator",data:=.fields #[.ref t,.int 0 0] }).push { cls:=.type "enumerate",data:=.fields #[.none,.bool false,.ref s.heap.objs.size,rawInt 0,.none,.none] } }) :=
 .of_wp fun prog w A R s h=>by
  obtain⟨hp,g,d,tk,os⟩:=s
  obtain⟨hl,h⟩:=h
  have hsub:=sub_enumerate
  have hL:Heap.IsTuple (Shared.heap ⟨hp,g,d,tk,os⟩) t its:=⟨_,hl,rfl,n,rfl⟩
  wp_walk using wpAny_loadPart' hl
  refine wpAny_stack_any fun st=>zX ?_
  split
  ·rename_i c _ _ _ _ _
   cases (c == Value.type "enumerate")
   ·wp_walk using wpAny_loadPart' hl,wpAny_pyIter_tuple hL
    exact⟨_,rfl,h⟩
   ·wp_walk using wpAny_loadPart' hl,wpAny_pyIter_tuple hL
    exact⟨_,rfl,h⟩
  ·wp_walk using wpAny_loadPart' hl,wpAny_pyIter_tuple hL
   exact⟨_,rfl,h⟩
theorem call_enumT{t:Addr}{its:Array Value}{Q:Value->Shared->Prop}(ht:s.heap.IsTuple t its)
  (h:∀h',IsEnum h' (s.heap.objs.size+1) s.heap.objs.size 0 .none->h'.IsTupleIter s.heap.objs.size t 0->h'.objs.size=s.heap.objs.size+2->(∀b o,s.heap.get? b=some o->h'.get? b=some o)->Q (.ref (s.heap.objs.size+1)) { s with heap:=h' }) :
  wpAny (model prog w) A (call (.type "enumerate") [.ref t]) Q E s:=by
 obtain⟨⟨c,dct,dt,sl⟩,hl,hc,n,hd⟩:=ht
 simp only at hc hd
 subst hc hd
 refine callType_new F.called_enumerate (by decide) (F.typeCall_enumerate_1 _) (F.newCall_enumerate_1 _) (fun obj=>F.args_object_init_2 obj _) F.entry_enumerate_new (meets_enumT t its n dct sl) ⟨hl,?_⟩
 have hz:(s.heap.push { cls:=.type "tuple_iterator",data:=.fields #[.ref t,.int 0 0] }).objs.size=s.heap.objs.size+1:=by rw[Heap.size_push]
 have he:=zY (s.heap.push { cls:=.type "tuple_iterator",data:=.fields #[.ref t,.int 0 0] }) (o:={ cls:=.type "enumerate",data:=.fields #[.none,.bool false,.ref s.heap.objs.size,rawInt 0,.none,.none] }) rfl
 show _/\_
 rw[hz] at he ⊢
 refine⟨⟨_,he,rfl⟩,h _ he ⟨_,zV _ (zY _ rfl),rfl,rfl⟩ ?_ fun b o x=>zV _ (zV _ x)⟩
 show (Heap.push _ _).objs.size=_
 rw[Heap.size_push,hz]
end
end En
namespace Dl
open PySem L2 PySem.Spec PyProof.Rows
section
variable {X:Cx}{pins:List (Addr×Obj)}{σ:L2.St}{H:Hp}{s:Shared}{h':Heap}{t':Nat}{ch:List Addr}
theorem uH(I:Inv X pins σ H s)(hch:∀b∈ch,ck X pins H b)(k:∀b o,b∉ch->s.heap.get? b=some o->h'.get? b=some o){T:Addr}{vals:List Value}{xs:List V}(hT:s.heap.objs.size<=T)(ht:l7 h' T vals.toArray)
  (rv:az xs vals) (hz:xs.length<=sizeLine):Inv X pins σ (upd H T (.tup xs)) { s with heap:=h',toks:=t' }:=by
 have nT:H T=none:=I.hok.fresh hT
 have ne:∀b o,s.heap.get? b=some o->b≠T:=fun b o e=>Nat.ne_of_lt (zP (zZ e) hT)
 have ne2:∀b o,H b=some o->b≠T:=fun b o e=>aK e nT
 have nch:∀b o,H b=some o->b∉ch:=fun b o e z=>by rw[(hch b z).1] at e;cases e
 refine I.step (g':=s.gens) (d':=s.drawn) (ch:=ch) (fun b hb=>?_) (fun b o _ _ hc e _=>k b o hc e) (fun b o _ _ hc e _=>⟨o.slots,k b o hc e⟩) (fun b o _ e n=>by rw[ay (ne b o e)];exact n)
  (fun b o hc e=>⟨o,k b o hc e⟩) (fun b ys e=>by rw[ay (ne2 b _ e)];exact e) (fun b o u e=>by rw[ay (ne2 b _ e)];exact e) (.kept (fun b u ⟨q,z⟩ e=>k b u (nch b _ z) e) fun b u e _=>by rw[ay (ne2 b _ e)];exact e) (fun m hm=>?_) (fun b u e=>?_) I.bare
 ·obtain⟨f0,f1,f2,f3,f4,f5⟩:=hch b hb
  exact⟨f3,f1,f4,f5⟩
 ·obtain⟨o,es,ep,ho,r⟩:=hm
  exact⟨o,es,ep,k _ o (fun z=>(hch _ z).2.1 rfl) ho,r⟩
 ·by_cases hb:b=T
  ·subst hb
   rw[aC] at e
   cases e
   exact⟨hz,vals,rv,ht⟩
  ·rw[ay hb] at e
   refine (I.hok b u e).stay (fun c v hc q=>k c v ?_ q) (fun _ q=>?_) fun c v q _=>?_
   ·rcases hc with z|z
    ·rw[z];exact nch b u e
    ·exact nch c _ z
   all_goals first
    | (rw[ay (ne2 _ _ q)];exact q)
    | exact q
theorem K6(I:Inv X pins σ H s){a b:Addr}{o:Obj}(hf:ck X pins H b)(h:X.K.lookup a=some o):a≠b:=by
 rintro rfl
 have hb:=I.ok.mod.kin a o h
 rcases hf.2.2.2.1 with z|z
 ·exact I.ok.noex a o hb z
 ·exact absurd (zP (zZ (I.ok.bs a o hb).1) z) (Nat.lt_irrefl _)
theorem JH(I:Inv X pins σ H s){a b:Addr}{xs:List V}(hf:ck X pins H b)(h:gG X.K H a xs):a≠b:=by
 rcases h with (h|⟨o,h⟩)|⟨o,its,n,h,_⟩
 ·exact aK h hf.1
 ·exact aK h hf.1
 ·exact K6 I hf h
theorem Jv(I:Inv X pins σ H s){a b:Addr}{xs:List V}(hf:ck X pins H b)(h:gT X.K H a xs):a≠b:=by
 rcases h with (h|⟨o,h⟩)|⟨o,its,n,h,_⟩
 ·exact aK h hf.1
 ·exact aK h hf.1
 ·exact K6 I hf h
end
noncomputable def MV(sq:Hp->List V->Prop):It:=⟨fun i H=>∃xs x,sq H xs/\xs[i]?=some x,fun i H v H'=>∃T y,v=.ref T/\H T=none/\H'=upd H T (.tup [.int (i:Nat),y])/\∀xs,sq H xs->xs[i]?=some y,fun i H=>∃xs,sq H xs/\xs.length<=i⟩
noncomputable def cM(k:Nat):List D->List D
 | []=>[]
 | d::ds=>.tuple [.int (k:Nat),d]::cM (k+1) ds
theorem rX:∀ {ds:List D}{k i:Nat}{d:D},(cM k ds)[i]?=some d->∃x,ds[i]?=some x/\d=.tuple [.int ((k+i:Nat):Int),x]
 | [],k,i,d,h=>by simp[cM] at h
 | x::ds,k,0,d,h=>by simp[cM] at h;exact⟨x,rfl,h.symm⟩
 | x::ds,k,i+1,d,h=>by
  simp only[cM,List.getElem?_cons_succ] at h
  obtain⟨y,h1,h2⟩:=rX h
  refine⟨y,by simpa using h1,?_⟩
  rw[h2,show k+1+i=k+(i+1) by omega]
theorem jV:∀ (ds:List D) (k:Nat),(cM k ds).length=ds.length
 | [],k=>rfl
 | x::ds,k=>by simp[cM,jV ds (k+1)]
theorem Bp{K:W.Frag}{HF:Hp}{sq:Hp->List V->Prop}{ds:List D}{vs:List V}(h:sq HF vs)(mo:∀H H',aR H H'->sq H vs->sq H' vs)(r:ak K HF ds vs):qU K (MV sq) HF (cM 0 ds) where
 go:=fun i d H₁ HF₁ e s1 s2=>by
  obtain⟨x,hx,rfl⟩:=rX e
  rw[Nat.zero_add]
  obtain⟨v,hv,rv⟩:=r.getD hx
  have q:=mo _ _ s2 (mo _ _ s1 h)
  refine⟨⟨vs,v,q,hv⟩,fun y H₂ ⟨T,z,e1,hT,e2,hy⟩=>?_⟩
  have:=hy vs q
  rw[hv] at this
  cases this
  subst e1 e2
  exact⟨_,.new s2 hT,cC (s2.free hT) (ak.cons (by simp[Rep]) (ak.cons (rv.mono s1) ak.nil))⟩
 stop:=fun H₁ HF₁ s1 s2=>⟨vs,mo _ _ s2 (mo _ _ s1 h),by rw[jV,r.length];exact Nat.le_refl _⟩
noncomputable def Mw(sq1 sq2:Hp->List V->Prop):It:=⟨fun i H=>∃xs ys x y,sq1 H xs/\sq2 H ys/\xs[i]?=some x/\ys[i]?=some y,
 fun i H v H'=>∃T x y,v=.ref T/\H T=none/\H'=upd H T (.tup [x,y])/\(∀xs,sq1 H xs->xs[i]?=some x)/\∀ys,sq2 H ys->ys[i]?=some y,
 fun i H=>∃xs ys,sq1 H xs/\sq2 H ys/\(xs.length<=i\/ys.length<=i)⟩
section
variable {X:Cx}{pins:List (Addr×Obj)}{σ:L2.St}{H:Hp}{s:Shared}{h':Heap}{t':Nat}{ch:List Addr}
theorem Ak(I:Inv X pins σ H s)(hch:∀b∈ch,ck X pins H b)(k:∀b o,b∉ch->s.heap.get? b=some o->h'.get? b=some o):Inv X pins σ H { s with heap:=h',toks:=t' }:=by
 have nch:∀b o,H b=some o->b∉ch:=fun b o e z=>by rw[(hch b z).1] at e;cases e
 refine I.step (g':=s.gens) (d':=s.drawn) (ch:=ch) (fun b hb=>?_) (fun b o _ _ hc e _=>k b o hc e) (fun b o _ _ hc e _=>⟨o.slots,k b o hc e⟩) (fun b o _ e n=>n)
  (fun b o hc e=>⟨o,k b o hc e⟩) (fun b ys e=>e) (fun b o u e=>e) (.kept (fun b u ⟨q,z⟩ e=>k b u (nch b _ z) e) fun b u e _=>e) (fun m hm=>?_) (fun b u e=>?_) I.bare
 ·obtain⟨f0,f1,f2,f3,f4,f5⟩:=hch b hb
  exact⟨f3,f1,f4,f5⟩
 ·obtain⟨o,es,ep,ho,r⟩:=hm
  exact⟨o,es,ep,k _ o (fun z=>(hch _ z).2.1 rfl) ho,r⟩
 ·refine (I.hok b u e).stay (fun c v hc q=>k c v ?_ q) (fun _ q=>q) fun c v q _=>q
  rcases hc with z|z
  ·rw[z];exact nch b u e
  ·exact nch c _ z
end
structure Nn(z TI TO i1 i2:Addr):Prop where
 a1:TI≠z
 a2:TO≠z
 a3:i1≠z
 a4:i2≠z
 a5:TI≠TO
 a6:TI≠i1
 a7:TI≠i2
 a8:TO≠i1
 a9:TO≠i2
 a0:i1≠i2
section
variable {X:Cx}{l l':Expr}{fs:Env->Option (List D)}{elts:List Expr}{k:Nat}{pos p tp:Pos}
noncomputable def je:List D->List D->List D
 | x::xs,y::ys=>.tuple [x,y]::je xs ys
 | _,_=>[]
theorem oG:∀ {xs ys:List D}{i:Nat}{d:D},(je xs ys)[i]?=some d->∃x y,xs[i]?=some x/\ys[i]?=some y/\d=.tuple [x,y]
 | [],_,i,d,h=>by simp[je] at h
 | _::_,[],i,d,h=>by simp[je] at h
 | x::xs,y::ys,0,d,h=>by simp[je] at h;exact⟨x,y,rfl,rfl,h.symm⟩
 | x::xs,y::ys,i+1,d,h=>by
  simp only[je,List.getElem?_cons_succ] at h
  obtain⟨a,b,h1,h2,h3⟩:=oG h
  exact⟨a,b,by simpa using h1,by simpa using h2,h3⟩
theorem lP:∀ (xs ys:List D),(je xs ys).length=min xs.length ys.length
 | [],_=>by simp[je]
 | _::_,[]=>by simp[je]
 | x::xs,y::ys=>by simp[je,lP xs ys]
theorem BM{K:W.Frag}{HF:Hp}{sq1 sq2:Hp->List V->Prop}{xs ys:List D}{vs us:List V}(h1:sq1 HF vs)(mo1:∀H H',aR H H'->sq1 H vs->sq1 H' vs)(h2:sq2 HF us)(mo2:∀H H',aR H H'->sq2 H us->sq2 H' us)(r1:ak K HF xs vs)(r2:ak K HF ys us) :
  qU K (Mw sq1 sq2) HF (je xs ys) where
 go:=fun i d H₁ HF₁ e s1 s2=>by
  obtain⟨x,y,hx,hy,rfl⟩:=oG e
  obtain⟨v,hv,rv⟩:=r1.getD hx
  obtain⟨u,hu,ru⟩:=r2.getD hy
  have q1:=mo1 _ _ s2 (mo1 _ _ s1 h1)
  have q2:=mo2 _ _ s2 (mo2 _ _ s1 h2)
  refine⟨⟨vs,us,v,u,q1,q2,hv,hu⟩,fun w H₂ ⟨T,a,b,e1,hT,e2,ha,hb⟩=>?_⟩
  have ea:=ha vs q1
  have eb:=hb us q2
  rw[hv] at ea
  rw[hu] at eb
  cases ea
  cases eb
  subst e1 e2
  exact⟨_,.new s2 hT,cC (s2.free hT) (ak.cons (rv.mono s1) (ak.cons (ru.mono s1) ak.nil))⟩
 stop:=fun H₁ HF₁ s1 s2=>⟨vs,us,mo1 _ _ s2 (mo1 _ _ s1 h1),mo2 _ _ s2 (mo2 _ _ s1 h2),by rw[lP,r1.length,r2.length];omega⟩
end
noncomputable def cut{α:Type}(xs:List α)(lo hi:Option Int):List α:=(xs.drop (HT.dz xs.length 0 lo)).take (HT.dz xs.length xs.length hi - HT.dz xs.length 0 lo)
theorem FO{α:Type}(xs:List α)(lo hi:Option Int):(cut xs lo hi).length<=xs.length:=by
 unfold cut;rw[List.length_take,List.length_drop];omega
theorem oM{K:W.Frag}{H:Hp}{ds:List D}{vs:List V}(r:ak K H ds vs)(lo hi:Option Int):ak K H (cut ds lo hi) (cut vs lo hi):=by
 unfold cut;rw[r.length];exact (r.drop _).take _
section
variable {X:Cx}
theorem z8{prog:Program}{w:World}{A:Around}{E:Value->Shared->Prop}{s:Shared}{t sl:Addr}{its:Array Value}{vl vu:Value}{lo hi:Option Int}{Q:Value->Shared->Prop}(ht:IsTup s.heap t its)(hs:s.heap.IsSliceOf sl vl vu .none)(pl:IsPart vl lo)(pu:IsPart vu hi)
  (hw:HT.dz its.size 0 lo=0/\HT.dz its.size its.size hi=its.size) (h:Q (.ref t) s):wpAny (model prog w) A (getItem (.ref t) (.ref sl)) Q E s:=by
 obtain⟨os,hos,hcs,hds⟩:=id hs
 have hTs:s.TypeIs (.ref sl) "slice":=⟨os,hos,hcs⟩
 unfold getItem
 try with_reducible refine wpAny_holding ?_
 first|refine zW (zX ?_)|skip
 refine zW (wpAny_sequenceKey ht.typeIs (by decide) (zW (wpAny_callSpecial?_slot (name:=Str.ofString "__getitem__") ht.typeIs PyProof.Rows.slot_tuple_getitem (wpAny_call_entry PyProof.Rows.slot_tuple_getitem ht.typeIs entry_tuple_getitem ?_ (args_tuple_getitem _ _)))))
 refine zW (m:=Builtin.Tuple.tupleItemsOf (.ref t)) (tupleItemsOf_ ht (zW (wpAny_typeOf hTs ?_)))
 rw[if_pos (by decide)]
 refine zW (HT.ir hs pl pu ?_)
 show wpAny _ _ (if (((HT.dz its.size 0 lo:Nat):Int) == 0&&(1:Int) == 1&&(HT.dz its.size its.size hi - HT.dz its.size 0 lo) == its.size)=true then _ else _) _ _ s
 rw[hw.1,hw.2,if_pos (by simp)]
 unfold Builtin.Tuple.tupleIsExact
 refine zW (zW (wpAny_typeOf ht.typeIs (zX ?_)))
 rw[if_pos (by decide)]
 first
  | exact zW (wpAny_rule (zX ⟨_,rfl,zX h⟩))
  | exact zW (wpAny_rule (zW (zX (zX ⟨_,rfl,zX h⟩))))
noncomputable def MS(K:W.Frag):V->Option Int->Option Int->Hp->VK->Prop:=fun x lo hi H Q=>∃a xs,x=.ref a/\gT K H a xs/\(cut xs lo hi=xs->Q (.ref a) H)/\∀p,H p=none->Q (.ref p) (upd H p (.tup (cut xs lo hi)))
theorem HJ:Hl X (MS X.K):=by
 intro pins s σ H x v vl vu lo hi sl Q I rx hs pl pu h
 obtain⟨a,xs,rfl,hx,q1,q2⟩:=h
 by_cases hw:HT.dz xs.length 0 lo=0/\HT.dz xs.length xs.length hi=xs.length
 ·cases rx
  obtain⟨its,r,ht,hz⟩:=I.tuple hx
  have hlen:its.toArray.size=xs.length:=by rw[zH];exact r.length.symm
  refine⟨"tuple",_,PyProof.Rows.slot_tuple_getitem.lookup,ht.typeIs,z8 ht hs pl pu (by rw[hlen];exact hw) ⟨.ref a,H,I,rfl,q1 ?_⟩⟩
  unfold cut
  rw[hw.1,hw.2,List.drop_zero,Nat.sub_zero,List.take_length]
 ·exact IW pins s σ H (.ref a) v vl vu lo hi sl Q I rx hs pl pu ⟨a,xs,rfl,hx,hw,q2⟩
noncomputable def Mt(K:W.Frag):V->Option Int->Option Int->Hp->VK->Prop:=fun x lo hi H Q=>∃a xs,x=.ref a/\gG K H a xs/\∀p,H p=none->Q (.ref p) (upd H p (.lst (cut xs lo hi)))
theorem xy(lo hi:Option Int)(n:Nat):sliceBounds lo hi none n=(((HT.dz n 0 lo:Nat):Int),((HT.dz n n hi:Nat):Int),1):=by
 have h1:(1:Int) > 0:=by omega
 refine Prod.ext ?_ (Prod.ext ?_ rfl)
 ·cases lo with
  | none=>simp[sliceBounds,HT.dz]
  | some x =>
   by_cases h:x < 0
   ·simp only[sliceBounds,HT.dz,Option.getD_none,h1,if_true,if_pos h];omega
   ·simp only[sliceBounds,HT.dz,Option.getD_none,h1,if_true,if_neg h];omega
 ·cases hi with
  | none=>simp[sliceBounds,HT.dz]
  | some x =>
   by_cases h:x < 0
   ·simp only[sliceBounds,HT.dz,Option.getD_none,h1,if_true,if_pos h];omega
   ·simp only[sliceBounds,HT.dz,Option.getD_none,h1,if_true,if_neg h];omega
theorem F1:Hl X (Mt X.K):=by
 intro pins s σ H x v vl vu lo hi sl Q I rx hs pl pu h
 obtain⟨a,xs,rfl,hx,q⟩:=h
 cases rx
 obtain⟨its,r,p,hz⟩:=I.list hx
 have hlen:=r.length
 refine⟨"list",_,slot_list_getitem.lookup,p.isList.typeIs,wpAny_getItem_list_slice p.isList hs pl pu .none (by simp) ?_ (by rw[zH];omega)⟩
 rw[W.kmk_pick_nat its.toArray (xy lo hi its.toArray.size)]
 have e:((its.toArray.toList.drop (HT.dz its.toArray.size 0 lo)).take (HT.dz its.toArray.size its.toArray.size hi - HT.dz its.toArray.size 0 lo))=cut its lo hi:=by unfold cut;simp
 rw[e]
 have rc:az (cut xs lo hi) (cut its lo hi):=by unfold cut;rw[hlen];exact (r.drop _).take _
 exact⟨.ref s.heap.objs.size,_,I.lnew (t':=s.toks) rc (yE (FO xs lo hi) hz),rfl,q _ I.fresh⟩
def Nl(K:W.Frag)(f:Env->Option (Option Int)):TO:=fun σ H Q=>∃HF ρ o,aR HF H/\cm K HF ρ σ/\f ρ=some o/\∀H' HF',bR HF H HF' H'->Q o H'
def DO(X:Cx)(e:Option Expr)(f:Env->Option (Option Int)):Prop:=PO X e (Nl X.K f)
noncomputable def l4:Env->Option (Option Int):=fun _=>some none
noncomputable def gI:D->Option Int|.int i=>some i|_=>none
noncomputable def A0(f:Env->Option D):Env->Option (Option Int):=fun ρ=>(f ρ).bind fun d=>(gI d).map some
theorem E6:DO X none l4:=fun pins s σ H Q I ⟨HF,ρ,o,sm,eo,hf,q⟩=>Fg pins s σ H Q I (by cases hf;exact q H HF (.refl sm))
theorem E7{e:Expr}{f:Env->Option D}(h:DE X e f):DO X (some e) (A0 f):=fun pins s σ H Q I ⟨HF,ρ,o,sm,eo,hf,q⟩=>nU h pins s σ H Q I (by
 obtain⟨d,hd,hf⟩:=bs hf
 obtain⟨i,hi,rfl⟩:=af hf
 cases d<;>try cases hi
 exact⟨HF,ρ,_,sm,eo,hd,fun v H1 HF1 g1 r1=>⟨_,by simpa only[Rep] using r1,q H1 HF1 g1⟩⟩)
variable {a:Expr}{lo hi:Option Expr}{fa:Env->Option D}{fl fh:Env->Option (Option Int)}{pos p2:Pos}
noncomputable def l9{β:Type}(g:D->Option Int->Option Int->Option β)(fa:Env->Option D)(fl fh:Env->Option (Option Int)):Env->Option β:=fun ρ=>(fa ρ).bind fun x=>(fl ρ).bind fun l=>(fh ρ).bind fun h=>g x l h
end
theorem uR{α β:Type}{f g:α->Option β}:∀ {l:List α},(∀x∈l,f x=g x)->l.filterMap f=l.filterMap g
 | [],_=>rfl
 | x::l,h=>by rw[List.filterMap_cons,List.filterMap_cons,h x zE,uR fun y hy=>h y (zC _ hy)]
theorem C4(xs:List Value):((List.range xs.length).filterMap fun (k:Nat)=>xs.toArray[(((xs.length:Nat):Int) - 1+(k:Int) * (-1)).toNat]?)=xs.reverse:=by
 have e:∀k∈List.range xs.length,xs.toArray[(((xs.length:Nat):Int) - 1+(k:Int) * (-1)).toNat]?=xs.reverse[k]?:=fun k hk=>by
  have hk':k < xs.length:=by simpa using hk
  have:(((xs.length:Nat):Int) - 1+(k:Int) * (-1)).toNat=xs.length - 1 - k:=by omega
  rw[this,List.getElem?_toArray,List.getElem?_reverse hk']
 rw[uR e]
 have:=xs.length_reverse
 apply List.ext_getElem?
 intro i
 have key:∀ (l:List Value),(List.range l.length).filterMap (fun (k:Nat)=>l[k]?)=l:=fun l=>by
  induction l with
  | nil=>rfl
  | cons x l ih =>
   rw[zL,List.range_succ_eq_map,List.filterMap_cons]
   simp only[List.getElem?_cons_zero]
   rw[List.filterMap_map]
   congr 1
 have k2:=key xs.reverse
 rw[List.length_reverse] at k2
 rw[k2]
theorem GV{prog:Program}{w:World}{A:Around}{E:Value->Shared->Prop}{s:Shared}{t sl:Addr}{its:List Value}{tk:Tok}{Q:Value->Shared->Prop}(ht:IsTup s.heap t its.toArray)(hs:s.heap.IsSliceOf sl .none .none (.int (-1) tk))
  (hz:its.length<=sizeLine) (h:Q (.ref s.heap.objs.size) { s with heap:=s.heap.push { cls:=.type "tuple",data:=.seq its.reverse.toArray } }):wpAny (model prog w) A (getItem (.ref t) (.ref sl)) Q E s:=by
 obtain⟨os,hos,hcs,hds⟩:=id hs
 have hTs:s.TypeIs (.ref sl) "slice":=⟨os,hos,hcs⟩
 unfold getItem
 try with_reducible refine wpAny_holding ?_
 first|refine zW (zX ?_)|skip
 refine zW (wpAny_sequenceKey ht.typeIs (by decide) (zW (wpAny_callSpecial?_slot (name:=Str.ofString "__getitem__") ht.typeIs PyProof.Rows.slot_tuple_getitem (wpAny_call_entry PyProof.Rows.slot_tuple_getitem ht.typeIs entry_tuple_getitem ?_ (args_tuple_getitem _ _)))))
 refine zW (m:=Builtin.Tuple.tupleItemsOf (.ref t)) (tupleItemsOf_ ht (zW (wpAny_typeOf hTs ?_)))
 rw[if_pos (by decide)]
 have hap:∀ {R:Int×Int×Nat->Shared->Prop},R (((its.length:Nat):Int) - 1,-1,its.length) s->wpAny (model prog w) A.in1 (Builtin.Slice.sliceApplied (.ref sl) (pure ((its.toArray.size:Nat):Int))) R E s:=fun {R} hR=>by
  unfold Builtin.Slice.sliceApplied Builtin.Slice.sliceFields
  refine zW (zW (wpAny_field hos hds (x:=.none) rfl (zW (wpAny_field hos hds (x:=.none) rfl (zW (wpAny_field hos hds (x:=.int (-1) tk) rfl (zX ?_)))))))
  refine zW (slicePart_int ?_)
  show wpAny _ _ (if ((-1:Int) == 0)=true then _ else _) _ _ s
  rw[if_neg (by decide)]
  refine zW (slicePart_none (zW (slicePart_none (zW (zX ?_)))))
  have e1:Builtin.Slice.sliceAdjust none none (-1) ((its.toArray.size:Nat):Int)=(((its.length:Nat):Int) - 1,-1):=by simp[Builtin.Slice.sliceAdjust]
  show wpAny _ _ (match Builtin.Slice.sliceAdjust none none (-1) ((its.toArray.size:Nat):Int) with|(lo,hi)=>pure (lo,(-1:Int),Builtin.Slice.slicePlaces lo hi (-1))) _ _ s
  rw[e1]
  have e2:Builtin.Slice.slicePlaces (((its.length:Nat):Int) - 1) (-1) (-1)=its.length:=by
   unfold Builtin.Slice.slicePlaces
   rw[if_neg (by decide)]
   simp only[Int.neg_neg,Int.ediv_one]
   split<;>omega
  show wpAny _ _ (pure (((its.length:Nat):Int) - 1,(-1:Int),Builtin.Slice.slicePlaces (((its.length:Nat):Int) - 1) (-1) (-1))) _ _ s
  rw[e2]
  exact zX hR
 first
  | refine zW (hap ?_)
  | refine zW (wpAny_of_in1 (hap ?_))
 show wpAny _ _ (if ((((its.length:Nat):Int) - 1) == 0&&(-1:Int) == 1&&its.length == its.toArray.size)=true then _ else _) _ _ s
 rw[if_neg (by simp),C4]
 have hz':sizeOk (.seq its.reverse.toArray):=by show its.reverse.toArray.size<=sizeLine;simpa using hz
 first
  | exact zW (m:=Builtin.Tuple.tupleExact _) (wpAny_newObj_type (zX ⟨_,rfl,zX h⟩) hz')
  | exact zW (m:=Builtin.Tuple.tupleExact _) (wpAny_newObj_type (zW (zX (zX ⟨_,rfl,zX h⟩))) hz')
  | exact zW (zW (m:=Builtin.Tuple.tupleExact _) (wpAny_newObj_type (zX (zX ⟨_,rfl,zX h⟩)) hz'))
  | exact zW (zW (m:=Builtin.Tuple.tupleExact _) (wpAny_newObj_type (zX ⟨_,rfl,zX h⟩) hz'))
section
variable {X:Cx}{a:Expr}{fa:Env->Option D}{pos p2 p3 p4:Pos}{j:Nat}
theorem Iz{ta:TE}(ha:PE X a ta):PE X (.Subscript a (.Slice none none (some (.UnaryOp .USub (.Constant (.int 1) j p4) p3)) p2) pos) (fun σ H Q=>ta σ H fun x H1=>∃b xs,x=.ref b/\gT X.K H1 b xs/\∀p,H1 p=none->Q (.ref p) (upd H1 p (.tup xs.reverse))):=by
 intro pins s σ H Q I h
 refine Subscript_ (bO (ha pins s σ H _ I h) fun v s1 ⟨x,H1,I1,r1,b,xs,e,hq,q⟩=>?_)
 subst e
 cases r1
 refine wpAny_Slice ?_
 rw[evalPart_none]
 refine zX (zX ?_)
 have hst:=nU (X:=X) (B7 (op:=.USub) xW (so (X:=X) (i:=1) (j:=j) (pos:=p4)) (pos:=p3)) pins s1 σ H1 (fun o H'=>o=some (-1)/\H'=H1) I1 ⟨1,rfl,-1,rfl,rfl,rfl⟩
 refine bO hst fun vst s2 ⟨o,H2,I2,pst,e1,e2⟩=>?_
 subst e1 e2
 cases pst with
 | int _ tk =>
 obtain⟨its,r,ht,hz⟩:=I2.tuple hq
 have I4:Inv X pins σ H2 { s2 with heap:=s2.heap.push { cls:=.type "slice",data:=.fields #[.none,.none,.int (-1) tk] } }:=I2.kept (t':=s2.toks) fun b ob q=>zV _ q
 obtain⟨its',r',ht',_⟩:=I4.tuple hq
 refine tail_any (ops:=[.ref b,.ref s2.heap.objs.size]) ht'.typeIs PyProof.Rows.slot_tuple_getitem.lookup (GV ht' (Heap.IsSliceOf.new ..) (by rw[<- r'.length];exact hz) ?_) (by with_unfolding_all rfl)
 have hv:az xs.reverse its'.reverse:=L2.az.reverse r'
 exact⟨.ref _,_,I4.laid (t':=s2.toks) (o:=.tup xs.reverse) (fun b ob q=>zV _ q) (Nat.le_refl _) ⟨by rw[List.length_reverse];exact hz,_,hv,l7.new _ _⟩,rfl,q _ I4.fresh⟩
noncomputable def KN:D->Option D|.tuple ds=>some (.tuple ds.reverse)|_=>none
noncomputable def f1(g:D->Option D)(f:Env->Option D):Env->Option D:=fun ρ=>(f ρ).bind g
theorem Ij(ha:DE X a fa):DE X (.Subscript a (.Slice none none (some (.UnaryOp .USub (.Constant (.int 1) j p4) p3)) p2) pos) (f1 KN fa):=aN (Iz ha) fun σ H Q ⟨HF,ρ,d,sm,eo,hf,q⟩=>by
 obtain⟨x,hx,hf⟩:=bs hf
 refine⟨HF,ρ,x,sm,eo,hx,fun v1 H1 HF1 g1 r1=>?_⟩
 cases x<;>try cases hf
 simp only[Rep] at r1
 obtain⟨b,vs,rfl,hs,rr⟩:=r1
 exact⟨b,vs,rfl,av g1.fh hs,fun p hp=>q _ _ _ (g1.trans (.new g1.fh hp)) (cC (g1.fh.free hp) rr.reverse)⟩
end
end Dl
namespace HT
open PySem PyProof.Rows
section
open PySem.SeqAt
open PySem.AutoSeq1 (wpAny_loadPart')
open PySem.MeetsSeq PySem.MeetsSeq2 PySem.MeetsSeq3
theorem EA(A:Around)(s:Shared)(a:Int)(t:Tok)(c:Int)(u:Tok)(prog:Program)(w:World)(E:Value->Shared->Prop)(Q:Value->Shared->Prop)(h:Q (.bool (decide (c<=a))) s) :
  wpAny (model prog w) A (richCompare .GtE (.int a t) (.int c u)) Q E s :=
 (PyProof.Rows.ge_int h:wpAny (model prog w) A (compareOp .GtE (.int a t) (.int c u)) Q E s)
theorem qH(l b:Addr)(items items2:Array Value)(n n2:Nat)(dd dd2:Option Addr)(sl sl2:Array (Option Value))(ns ms:List Int)(hi:IntsAre items.toList ns)(hj:IntsAre items2.toList ms) :
  Meets (Builtin.«tuple.__ge__» ⟨[.ref l,.ref b],[]⟩)
   (fun _ R s=>s.heap.get? l=some { cls:=.type "tuple",dict:=dd,data:=.seq items n,slots:=sl }/\s.heap.get? b=some { cls:=.type "tuple",dict:=dd2,data:=.seq items2 n2,slots:=sl2 } /\
    R (.ok (.ret (.bool (!lexLt ns ms)))) s) :=
 .of_wp fun prog w A R s h=>by
  obtain⟨hp,g,d,tk,os⟩:=s;obtain⟨hl,hb,h⟩:=h
  have f2:=AutoSeq1.sub_tuple_tuple
  have z1:items.size=ns.length:=by rw[<- hi.length];simp
  have z2:items2.size=ms.length:=by rw[<- hj.length];simp
  wp_walk using wpAny_loadPart' hl,wpAny_loadPart' hb,wpAny_forIn_list _ (fun rest b s'=>b.1=none/\s'=⟨hp,g,d,tk,os⟩/\∃ (vs ws:List Value) (ns' ms':List Int),rest=vs.zip ws /\
   IntsAre vs ns'/\IntsAre ws ms'/\ns'.length+items2.size=ms'.length+items.size/\R (.ok (.ret (.bool (!lexLt ns' ms')))) ⟨hp,g,d,tk,os⟩) _
  case turn =>
   rintro⟨y,x⟩ rest b s' ⟨hb',rfl,vs,ws,ns',ms',hz,hvi,hwi,hlen,hR⟩
   cases hvi with
   | nil=>rw[List.zip_nil_left] at hz;cases hz
   | cons a t hvi' =>
    cases hwi with
    | nil=>rw[List.zip_nil_right] at hz;cases hz
    | cons c u hwi' =>
     rw[List.zip_cons_cons] at hz
     injection hz with hyx hrest
     injection hyx with hy hx
     subst hy hx
     rw[du] at hR
     simp only[zL] at hlen
     obtain⟨e,he,hiff⟩:=C0 A.in1 ⟨hp,g,d,tk,os⟩ a t c u
     refine zW (he prog w _ _ ?_)
     cases e with
     | true =>
      rw[if_pos (hiff.mp rfl)] at hR
      wp_walk
      exact⟨rfl,rfl,_,_,_,_,hrest,hvi',hwi',by omega,hR⟩
     | false =>
      rw[if_neg (fun q=>absurd (hiff.mpr q) Bool.false_ne_true)] at hR
      have hri:=EA A.in1 ⟨hp,g,d,tk,os⟩ a t c u prog w
      have e1:(!decide (a < c))=decide (c<=a):=by
       rw[<- decide_not]
       exact decide_eq_decide.mpr (by omega)
      rw[e1] at hR
      wp_walk using hri
      exact⟨_,rfl,hR⟩
  case fin =>
   rintro⟨b1,b2⟩ s' ⟨hb',rfl,vs,ws,ns',ms',hz,hvi,hwi,hlen,hR⟩
   simp only at hb'
   subst hb'
   have hv:lexLt ns' ms'=decide (items.size < items2.size):=by
    cases hvi with
    | nil =>
     cases hwi with
     | nil =>
      simp only[List.length_nil] at hlen
      rw[qB]
      exact (yA (by omega)).symm
     | cons c u hw =>
      simp only[List.length_nil,zL] at hlen
      rw[ou]
      exact (yB (by omega)).symm
    | cons a t hv =>
     cases hwi with
     | nil =>
      simp only[List.length_nil,zL] at hlen
      rw[oX]
      exact (yA (by omega)).symm
     | cons c u hw =>
      rw[List.zip_cons_cons] at hz
      cases hz
   have hv2:(!lexLt ns' ms')=decide (items.size >= items2.size):=by
    rw[hv,<- decide_not]
    exact decide_eq_decide.mpr (by omega)
   rw[hv2] at hR
   wp_walk
   exact⟨_,rfl,hR⟩
  case h =>
   exact⟨rfl,rfl,items.toList,items2.toList,ns,ms,rfl,hi,hj,by omega,h⟩
end
end HT
namespace Dl
open PySem L2 PySem.Spec PyProof.Rows
section
variable {X:Cx}
noncomputable def lO:D->Option (List Int)|.tuple ds=>intsOf ds|_=>none
theorem iF{x:D}{ns:List Int}(h:lO x=some ns):x=.tuple (ns.map PyData.int):=by
 cases x<;>try cases h
 rename_i xs
 have h:intsOf xs=some ns:=h
 rw[cy h]
noncomputable def KO:D->D->Option Bool:=fun x y=>(lO x).bind fun ns=>(lO y).map fun ms=>!lexLt ns ms
theorem ED(hu:X.A.units < cLine):gD X (compareOp .GtE) (Kz X.K KO):=by
 intro pins s σ H v1 v2 u1 u2 Q I rx ry h
 obtain⟨HF,x,y,k,sm,r1,r2,hg,q⟩:=h
 obtain⟨ns,h1,hg⟩:=bs hg
 obtain⟨ms,h2,rfl⟩:=af hg
 rw[iF h1] at r1
 rw[iF h2] at r2
 have key:∀ {ns:List Int}{v:V}{u:Value},Rep X.K HF (.tuple (ns.map PyData.int)) v->RelV v u->∃a its,u=.ref a/\IsTup s.heap a its/\IntsAre its.toList ns:=fun {ns v u} r rv=>by
  have p:vi s.heap u ns:=by
   cases k6 (X:=X) (us:=[u]) (vs:=[v]) (nss:=[ns]) I sm (ak.cons r ak.nil) (.cons rv .nil) with
   | cons p _=>exact p
  obtain⟨a,o,its,n,rfl,e1,e2,e3,e4⟩:=p.ex
  exact⟨a,its,rfl,⟨o,e1,e2,n,e3⟩,e4⟩
 obtain⟨a,its,rfl,⟨⟨cls,dd,data,sl⟩,ho,hc,n,hd⟩,i1⟩:=key r1 rx
 obtain⟨b,its2,rfl,⟨⟨cls2,dd2,data2,sl2⟩,ho2,hc2,n2,hd2⟩,i2⟩:=key r2 ry
 simp only at hc hd hc2 hd2
 subst hc hd hc2 hd2
 exact richCompare_meets_room (op:=.GtE) ⟨_,ho,rfl⟩ ⟨_,ho2,rfl⟩ PySem.F.slot_tuple_ge PySem.F.entry_tuple_ge (PySem.F.args_tuple_ge_2 _ _) (HT.qH a b its its2 n n2 dd dd2 sl sl2 ns ms i1 i2)
  ⟨ho,ho2,show Value.bool (!lexLt ns ms)≠Value.notImplemented/\EP X pins σ Q (.bool (!lexLt ns ms)) s from ⟨(fun x=>nomatch x),⟨.bl _,H,I,rfl,q⟩⟩⟩ hu
end
end Dl
namespace En
open PySem PyProof.Rows
open AutoSeq1 (wpAny_loadPart')
theorem noFill_tup:fillsNumberSlot (.type "tuple") "mul"=pure false:=PySem.fillsNumberSlot_seq (id:="tuple.__mul__") (r:=some (.builtin "tuple.__rmul__")) F.slot_tuple_mul.lookup (by decide +kernel) F.slot_tuple_rmul.lookup (by decide +kernel)
theorem repeat_tup:seqRepeat? (.type "tuple")=pure (some (.builtin "tuple.__mul__")):=by
 unfold seqRepeat?
 rw[PySem.seqSlot_of (T:="tuple") (name:="__mul__") (id:="tuple.__mul__") F.slot_tuple_mul.lookup (by decide +kernel),PySem.seqSlot_of (T:="tuple") (name:="__rmul__") (id:="tuple.__rmul__") F.slot_tuple_rmul.lookup (by decide +kernel)];rfl
theorem rmul_tup(a:Int)(t:Tok)(l:Addr)(its:Array Value)(n:Nat)(dd:Option Addr)(sl:Array (Option Value)) :
  Meets (Builtin.«int.__rmul__» ⟨[.int a t,.ref l],[]⟩) (fun _ R s=>s.heap.get? l=some { cls:=.type "tuple",dict:=dd,data:=.seq its n,slots:=sl }/\R (.ok (.ret Value.notImplemented)) s) :=
 .of_wp fun prog w A R s h=>by
  obtain⟨hp,g,d,tk,os⟩:=s;obtain⟨hl,h⟩:=h
  wp_walk
  exact⟨_,rfl,h⟩
theorem mulT_same(l:Addr)(its:Array Value)(n:Nat)(dd:Option Addr)(sl:Array (Option Value))(k:Int)(t:Tok)(h1:¬ (decide (k < -(2 ^ 63))||decide (k >= 2 ^ 63))=true)(h2:(its.isEmpty||k == 1)=true) :
  Meets (Builtin.«tuple.__mul__» ⟨[.ref l,.int k t],[]⟩) (fun _ R s=>s.heap.get? l=some { cls:=.type "tuple",dict:=dd,data:=.seq its n,slots:=sl }/\R (.ok (.ret (.ref l))) s) :=
 .of_wp fun prog w A R s h=>by
  obtain⟨hp,g,d,tk,os⟩:=s;obtain⟨hl,h⟩:=h
  have f1:=AutoSeq1.idx_int
  wp_walk using wpAny_loadPart' hl
  rw[if_neg h1]
  wp_walk using wpAny_loadPart' hl
  exact⟨_,rfl,h⟩
theorem mulT_none(l:Addr)(its:Array Value)(n:Nat)(dd:Option Addr)(sl:Array (Option Value))(k:Int)(t:Tok)(h1:¬ (decide (k < -(2 ^ 63))||decide (k >= 2 ^ 63))=true)(h2:¬ (its.isEmpty||k == 1)=true)(h3:(decide (k<=0)||its.isEmpty)=true) :
  Meets (Builtin.«tuple.__mul__» ⟨[.ref l,.int k t],[]⟩) (fun _ R s=>s.heap.get? l=some { cls:=.type "tuple",dict:=dd,data:=.seq its n,slots:=sl }/\R (.ok (.ret (.ref s.heap.objs.size))) { s with heap:=s.heap.push { cls:=.type "tuple",data:=.seq #[] } }) :=
 .of_wp fun prog w A R s h=>by
  obtain⟨hp,g,d,tk,os⟩:=s;obtain⟨hl,h⟩:=h
  have f1:=AutoSeq1.idx_int
  wp_walk using wpAny_loadPart' hl
  rw[if_neg h1]
  wp_walk using wpAny_loadPart' hl
  exact⟨_,rfl,h⟩
theorem mulT_many(l:Addr)(its:Array Value)(n:Nat)(dd:Option Addr)(sl:Array (Option Value))(k:Int)(t:Tok)(h1:¬ (decide (k < -(2 ^ 63))||decide (k >= 2 ^ 63))=true)(h2:¬ (its.isEmpty||k == 1)=true)(h3:¬ (decide (k<=0)||its.isEmpty)=true)
  (h4:¬ ((its.size:Nat):Int) * k > (2 ^ 63 - 1) / 8) (h5:¬ Builtin.Tuple.tupleTooMany (((its.size:Nat):Int) * k)=true) (hz:((List.replicate k.toNat its).foldl (·++·) #[]).size<=sizeLine) :
  Meets (Builtin.«tuple.__mul__» ⟨[.ref l,.int k t],[]⟩) (fun _ R s=>s.heap.get? l=some { cls:=.type "tuple",dict:=dd,data:=.seq its n,slots:=sl }/\R (.ok (.ret (.ref s.heap.objs.size))) { s with heap:=s.heap.push { cls:=.type "tuple",data:=.seq ((List.replicate k.toNat its).foldl (·++·) #[]) } }) :=
 .of_wp fun prog w A R s h=>by
  obtain⟨hp,g,d,tk,os⟩:=s;obtain⟨hl,h⟩:=h
  have f1:=AutoSeq1.idx_int
  wp_walk using wpAny_loadPart' hl
  rw[if_neg h1]
  wp_walk using wpAny_loadPart' hl
  rw[if_neg h4]
  wp_walk using wpAny_loadPart' hl
  exact⟨_,rfl,h⟩
end En
namespace Dl
open PySem L2 PySem.Spec PyProof.Rows
section
variable {X:Cx}
def Hf(K:W.Frag):R2:=fun x y H Q=>∃a k xs,x=.ref a/\y=.int k/\gT K H a xs/\-(2 ^ 62)<=k/\k < 2 ^ 62/\xs.length * k.toNat<=sizeLine/\((List.replicate k.toNat xs).flatten=xs->Q (.ref a) H) /\
 ∀p,H p=none->Q (.ref p) (upd H p (.tup (List.replicate k.toNat xs).flatten))
theorem Fq:gD X (binaryOp .Mult) (Hf X.K):=by
 intro pins s σ H x y v u Q I rx ry h
 obtain⟨a,k,xs,rfl,rfl,hq,k1,k2,hz,q1,q2⟩:=h
 cases rx
 obtain⟨t,rfl⟩:=ry
 obtain⟨its,r,pl,hzx⟩:=I.tuple hq
 have hl:=r.length
 obtain⟨⟨cls,dd,data,sl⟩,ho,hc,n,hd⟩:=id pl
 simp only at hc hd
 subst hc hd
 have b1:¬ (decide (k < -(2 ^ 63))||decide (k >= 2 ^ 63))=true:=by
  simp only[Bool.or_eq_true,zJ]
  omega
 refine wpAny_binaryOp_repeat_ref (T:="tuple") (U:="int") (by decide) ⟨_,ho,rfl⟩ (fun s'=>typeIs_int s' k t) En.noFill_tup F.fills_int_mul F.slot_int_rmul En.repeat_tup F.slot_int_index.lookup
  (call_meets F.slot_int_rmul (typeIs_int s k t) F.entry_int_rmul (F.args_int_rmul_2 _ _) (En.rmul_tup k t a its.toArray n dd sl) ⟨ho,rfl,⟨_,ho,rfl⟩,?_⟩)
 have hfl:∀m:Nat,List.foldl (fun x1 x2=>x1++x2) #[] (List.replicate m its.toArray)=(List.replicate m its).flatten.toArray:=fun m=>by
  have:=foldl_rep its m []
  rw[List.nil_append] at this
  exact this
 by_cases h2:(its.toArray.isEmpty||k == 1)=true
 ·refine call_meets F.slot_tuple_mul ⟨_,ho,rfl⟩ F.entry_tuple_mul (F.args_tuple_mul_2 _ _) (En.mulT_same a its.toArray n dd sl k t b1 h2) ⟨ho,⟨.ref a,H,I,rfl,q1 ?_⟩⟩
  rw[Bool.or_eq_true] at h2
  rcases h2 with h2|h2
  ·have:xs=[]:=by
    have e:its=[]:=by simpa using h2
    rw[e] at hl
    exact List.length_eq_zero_iff.mp hl
   rw[this]
   simp
  ·have:k=1:=eq_of_beq h2
   subst this
   simp
 ·by_cases h3:(decide (k<=0)||its.toArray.isEmpty)=true
  ·refine call_meets F.slot_tuple_mul ⟨_,ho,rfl⟩ F.entry_tuple_mul (F.args_tuple_mul_2 _ _) (En.mulT_none a its.toArray n dd sl k t b1 h2 h3) ⟨ho,?_⟩
   have hk0:k.toNat=0:=by
    simp only[Bool.or_eq_true,zJ] at h3 h2
    rcases h3 with h3|h3
    ·omega
    ·exact absurd (.inl h3) h2
   have q3:=q2 s.heap.objs.size I.fresh
   rw[hk0] at q3
   exact⟨.ref s.heap.objs.size,_,I.laid (t':=s.toks) (o:=.tup []) (fun b ob q=>zV _ q) (Nat.le_refl _) ⟨Nat.zero_le _,[],.nil,l7.new _ _⟩,rfl,q3⟩
  ·have hm:its.length * k.toNat<=sizeLine:=by rw[<- hl];exact hz
   have hkn:(k.toNat:Int)=k:=by
    simp only[Bool.or_eq_true,zJ,not_or] at h3
    omega
   have hmi:((its.toArray.size:Nat):Int) * k=((its.length * k.toNat:Nat):Int):=by rw[zH,Int.natCast_mul,hkn]
   have hv:=L2.az.rep r k.toNat
   have hlen2:(List.replicate k.toNat xs).flatten.length<=sizeLine:=by rw[len_rep,Nat.mul_comm];exact hz
   have hs8:(sizeLine:Nat)<=(2 ^ 63 - 1) / 8:=by decide
   have h4:¬ ((its.toArray.size:Nat):Int) * k > (2 ^ 63 - 1) / 8:=by rw[hmi];omega
   have h5:¬ Builtin.Tuple.tupleTooMany (((its.toArray.size:Nat):Int) * k)=true:=by
    unfold Builtin.Tuple.tupleTooMany
    rw[hmi]
    simp only[zJ]
    omega
   refine call_meets F.slot_tuple_mul ⟨_,ho,rfl⟩ F.entry_tuple_mul (F.args_tuple_mul_2 _ _) (En.mulT_many a its.toArray n dd sl k t b1 h2 h3 h4 h5 (by rw[hfl,zH,<- hv.length];exact hlen2)) ⟨ho,?_⟩
   rw[hfl]
   exact⟨.ref s.heap.objs.size,_,I.laid (t':=s.toks) (o:=.tup (List.replicate k.toNat xs).flatten) (fun b ob q=>zV _ q) (Nat.le_refl _) ⟨hlen2,_,hv,l7.new _ _⟩,rfl,q2 _ I.fresh⟩
noncomputable def Ea:D->D->Option D
 | .tuple ds,.int k=>if wa k=true/\ds.length * k.toNat<=sizeLine then some (.tuple (List.replicate k.toNat ds).flatten) else none
 | _,_=>none
theorem lU{K:W.Frag}{HF:Hp}{ds:List D}{vs:List V}(r:ak K HF ds vs):∀k:Nat,ak K HF (List.replicate k ds).flatten (List.replicate k vs).flatten
 | 0=>ak.nil
 | k+1=>by rw[List.replicate_succ,List.replicate_succ,List.flatten_cons,List.flatten_cons];exact r.append (lU r k)
theorem B3{K:W.Frag}:eY K (Hf K) Ea:=by
 intro HF H x y v1 v2 d Q sm r1 r2 hg q
 cases x<;>cases y<;>simp only[Ea] at hg<;>try cases hg
 split at hg
 ·rename_i xs k hh
  cases hg
  simp only[Rep] at r1 r2
  obtain⟨a,vs,rfl,ha,ra⟩:=r1
  have ok:=hh.1
  unfold wa at ok
  rw[zF] at ok
  refine⟨a,k,vs,rfl,r2,av sm ha,of_decide_eq_true ok.1,of_decide_eq_true ok.2,by rw[ra.length];exact hh.2,fun e=>q _ H HF (.refl sm) ?_,fun p hp=>q _ _ _ (.new sm hp) (cC (sm.free hp) (lU ra _))⟩
  simp only[Rep]
  refine⟨a,vs,rfl,ha,?_⟩
  have:=lU ra k.toNat
  rw[e] at this
  exact this
 ·cases hg
end
end Dl
namespace En
open PySem PyProof.Rows
section
variable {prog:Program}{w:World}{A:Around}{E:Value->Shared->Prop}{s:Shared}
theorem call_setT{l:Addr}{its:Array Value}{ns:List Int}{Q:Value->Shared->Prop}(hh:A.handled=none)(hl:s.heap.IsTuple l its)(hi:IntsAre its.toList ns)(hb:its.size+1 < scanBound)
  (h:∀ (h':Heap) (tk:Nat),h'.SetOf (intKind prog w) s.heap.objs.size (fun k'=>(firstMet (fun i=>ns.getD i 0) its.size).any (· == k')) (firstMet (fun i=>ns.getD i 0) its.size).length->(∀b o,b < s.heap.objs.size->s.heap.get? b=some o->h'.get? b=some o)->Q (.ref s.heap.objs.size) { s with heap:=h',toks:=tk }) :
  wpAny (model prog w) A (call (.type "set") [.ref l]) Q E s:=by
 obtain⟨c,tl,hmro⟩:=F.called_set.mro
 have hmade:=F.called_set.made
 have hsub:=F.called_set.sub
 refine wpAny_call (codeAny_of_tree ?_);show wpAny _ _ (callAny (.type "set") _) _ _ _
 refine zX ⟨Code.quiet_builtin _ (by decide +kernel),codeAny_builtin F.entry_type_call ?_⟩
 rw[Around.under_plain (weight_type_call_type "set" [.ref l] []) rfl]
 have h1:=F.called_set.notType
 have h2:=F.called_set.canCreate
 have hct:=F.typeCall_set_1 (.ref l)
 repeat (any_goals (first|assumption|wp_step))
 refine codeAny_mono (code_set_new_1 (.ref l) (E:=E) (Q₁:=fun obj s1=>∃led:Bool,obj=.ref s.heap.objs.size/\s1={ s with heap:=s.heap.push { cls:=.type "set",dict:=none,data:=.set #[] 0 (.fresh 0 0 led) } }) fun led=>⟨led,rfl,rfl⟩) fun r s1 hr=>?_
 cases r with
 | error e=>exact hr
 | ok fl =>
  cases fl with
  | ret obj =>
   obtain⟨led,rfl,rfl⟩:=hr
   have hS:(s.heap.push { cls:=.type "set",dict:=none,data:=.set #[] 0 (.fresh 0 0 led) }).get? s.heap.objs.size=some { cls:=.type "set",dict:=none,data:=.set #[] 0 (.fresh 0 0 led) }:=by exact zY _ rfl
   have hT:Shared.TypeIs { s with heap:=s.heap.push { cls:=.type "set",dict:=none,data:=.set #[] 0 (.fresh 0 0 led) } } (.ref s.heap.objs.size) "set":=⟨_,hS,rfl⟩
   have hli:=F.called_set.init.lookup
   have hbi:=F.called_set.init.bind (.ref s.heap.objs.size)
   repeat (any_goals (first|assumption|wp_step))
   refine codeAny_mono (codeAny_call_builtin (R:=wants (fun r s2=>r=.none/\∃h' tk,s2={ s with heap:=h',toks:=tk }/\h'.SetOf (intKind prog w) s.heap.objs.size (fun k'=>(firstMet (fun i=>ns.getD i 0) its.size).any (· == k')) (firstMet (fun i=>ns.getD i 0) its.size).length /\
     (∀b o,b < s.heap.objs.size->s.heap.get? b=some o->h'.get? b=some o)) E) F.called_set.init.plain F.entry_set_init (check_set_init_1 hT ?_)) fun r2 s2 hr2=>?_
   ·obtain⟨ol,hol,hcl,nl,hdl⟩:=hl
    obtain⟨ocls,odict,odata,oslots⟩:=ol
    simp only at hcl hdl
    subst hcl hdl
    have hol':(s.heap.push { cls:=.type "set",dict:=none,data:=.set #[] 0 (.fresh 0 0 led) }).get? l=some { cls:=.type "tuple",dict:=odict,data:=.seq its nl,slots:=oslots }:=zV _ hol
    have hsls:=F.sub_tuple_set
    have hslf:=F.sub_tuple_frozenset
    have hne:(Value.type "tuple" == Value.type "dict")=false:=by decide
    have hl1:(s.heap.push { cls:=.type "set",dict:=none,data:=.set #[] 0 (.fresh 0 0 led) }).IsTuple l its:=⟨_,hol',rfl,nl,rfl⟩
    unfold Builtin.«set.__init__» noKeywords Builtin.Frozenset.updateFrom
    generalize hPI:pyIter=PI
    wp_walk
    subst hPI
    refine wpAny_pyIter_tuple hl1 (zW (wpAny_runValue ?_))
    have hlS:l < s.heap.objs.size:=zZ hol
    have hh3:A.in1.in1.in1.handled=none:=by simp[hh]
    have hneI:l≠(s.heap.push { cls:=.type "set",dict:=none,data:=.set #[] 0 (.fresh 0 0 led) }).objs.size:=by rw[Heap.size_push];exact Nat.ne_of_lt (Nat.lt_succ_of_lt hlS)
    have hSf:s.heap.objs.size∉[(s.heap.push { cls:=.type "set",dict:=none,data:=.set #[] 0 (.fresh 0 0 led) }).objs.size,l]:=by
     rw[Heap.size_push];simp only[zR,yG,or_false,not_or]
     exact⟨Nat.ne_of_lt (Nat.lt_succ_self _),Nat.ne_of_gt hlS⟩
    have hval:∀ (i:Nat) (v:Value),its[i]?=some v->∃t,v=.int ((fun i=>ns.getD i 0) i) t:=fun i v hv=>IntsAre.int_at hi i v (by rw[Array.getElem?_toList];exact hv)
    refine codeAny_set_update_loopS ((Walks.tuple hh3 _ l hneI its).toS) s.heap.objs.size hSf (fun i=>ns.getD i 0) hval hb (its.size - 0) 0 _ (by omega) (Nat.zero_le _) ⟨⟨_,zY _ rfl,rfl,rfl⟩,?ht⟩ ?hS0 ?hR
    case ht=>exact⟨_,zV _ hol',rfl,nl,rfl⟩
    case hS0 =>
     have hget:((s.heap.push { cls:=.type "set",dict:=none,data:=.set #[] 0 (.fresh 0 0 led) }).push { cls:=.type "tuple_iterator",data:=.fields #[.ref l,.int 0 0] }).get? s.heap.objs.size=some { cls:=.type "set",dict:=none,data:=.set #[] 0 (.fresh 0 0 led) }:=by exact zV _ hS
     exact SetOf_congr ((setObjOf_fresh (knd:=intKind prog w) led).setOf hget (by unfold scanBound;omega)) (fun _=>rfl) rfl
    case hR =>
     intro s' hm hS'
     obtain⟨h',g',d',tk',os'⟩:=s'
     have eg:g'=s.gens:=hm.gens
     have ed:d'=s.drawn:=hm.drawn
     have eo:os'=s.os:=hm.os
     subst eg ed eo
     show wpAny _ _ _ _ _ _
     refine zX ?_
     show wpAny _ _ (ret Value.none) _ _ _
     refine zX ⟨rfl,h',tk',rfl,hS',fun b o hb' e=>?_⟩
     refine hm.heap b o ?_ (zV _ (zV _ e))
     simp only[zR,yG,or_false,not_or]
     exact⟨Nat.ne_of_lt hb',by rw[Heap.size_push];exact Nat.ne_of_lt (Nat.lt_succ_of_lt hb')⟩
   ·cases r2 with
    | error e=>exact hr2
    | ok fl2 =>
     cases fl2 with
     | ret r =>
      obtain⟨rfl,h',tk,rfl,hS',hk'⟩:=hr2
      repeat (any_goals (first|assumption|wp_step))
      exact h _ _ hS' hk'
     | _=>exact hr2.elim
  | _=>exact hr.elim
end
end En
namespace Dl
open PySem L2 PySem.Spec PyProof.Rows
noncomputable def many(ns:List Int):Nat:=(firstMet (fun i=>ns.getD i 0) ns.length).length
section
variable {X:Cx}{e:Expr}{f:Env->Option D}{pos p p' pos':Pos}
theorem AH(hc:X.calm=true):dw X (.type "set") (fun xs H Q=>∃ (a:Addr) (ns:List Int),xs=[.ref a]/\gT X.K H a (ns.map V.int)/\ns.length+1 < scanBound/\∀q S,H q=none->Q (.ref q) (upd H q (.set S (many ns)))):=by
 intro pins s σ H xs us Q I r h
 obtain⟨a,ns,rfl,hq,hb,q⟩:=h
 obtain⟨u,rfl,rx⟩:=vals1 r
 cases rx
 obtain⟨its,rv,pl,hz⟩:=I.tuple hq
 have hi:IntsAre its.toArray.toList ns:=intsAre_of rv
 have hlen:its.toArray.size=ns.length:=by have:=rv.length;simpa using this.symm
 refine En.call_setT (I.ok.hd hc) (show s.heap.IsTuple a its.toArray from pl) hi (by rw[hlen];exact hb) fun h' tk hS hk=>?_
 rw[hlen] at hS
 exact⟨.ref s.heap.objs.size,_,I.laid (t':=tk) (fun b o e=>hk b o (zZ e) e) (Nat.le_refl _) (show dU X.prog X.w _ h' _ (.set _ (many ns)) from hS),rfl,q _ _ I.fresh⟩
theorem rV:dw X (.builtin "len") (fun xs H Q=>∃ (a:Addr) (S:Int->Bool) (n:Nat),xs=[.ref a]/\H a=some (.set S n)/\Q (.int n) H):=by
 intro pins s σ H xs us Q I r h
 obtain⟨a,S,n,rfl,hq,q⟩:=h
 obtain⟨u,rfl,rx⟩:=vals1 r
 cases rx
 obtain⟨o,es,ep,t,ho,hex,hd,hel,hmem,hlt,hf,hn⟩:=(show s.heap.SetOf (intKind X.prog X.w) a S n from I.hok a _ hq)
 have hfit:((es.size:Nat):Int) < 2 ^ 63:=by unfold scanBound at hlt;omega
 refine call_len_set ho hex hd hf hfit ⟨.int n,H,I.tok _,⟨s.toks+1,by rw[hn]⟩,q⟩
noncomputable def jN:D->Option D:=fun d=>(lO d).bind fun ns=>if ns.length+1 < scanBound then some (.int (many ns)) else none
theorem AO(hc:X.calm=true)(B:k3 X "len" (.builtin "len"))(C:k3 X "set" (.type "set"))(h:DE X e f)(he:starEach [e] X.env=(false,eval e X.env)::starEach [] X.env:=by rfl) :
  DE X (.Call (.Name "len" p) [.Call (.Name "set" p') [e] [] pos'] [] pos) (f1 jN f) :=
 aN (jq rV B.gl B.mg B.bt (bS (j3 (AH hc) C.gl C.mg C.bt (bS h d5 he) (by decide) (by decide) he rfl) d5) (by decide) (by decide) rfl rfl) fun σ H Q ⟨HF,ρ,d,sm,eo,hf,q⟩=>by
  obtain⟨x,hx,hf⟩:=bs hf
  obtain⟨ns,h1,hf⟩:=bs hf
  split at hf
  ·rename_i hb
   cases hf
   refine⟨HF,ρ,x,sm,eo,hx,fun v1 H1 HF1 g1 r1=>?_⟩
   rw[iF h1] at r1
   simp only[Rep] at r1
   obtain⟨a,vs,rfl,hs,rr⟩:=r1
   have key:∀ {ns:List Int}{ws:List V},ak X.K HF1 (ns.map PyData.int) ws->ws=ns.map V.int:=fun {ns}=>by
    induction ns with
    | nil=>exact fun h=>h.nil_inv
    | cons n ns ih =>
     intro ws h
     obtain⟨v,r,rfl,a,b⟩:=h.cons_inv
     simp only[Rep] at a
     rw[a,ih b]
     rfl
   have:=key rr
   subst this
   refine⟨a,ns,rfl,av g1.fh hs,hb,fun b S hb'=>⟨b,S,_,rfl,aC,q _ _ HF1 (g1.trans (.own g1.fh hb')) (by simp[Rep])⟩⟩
  ·cases hf
end
theorem jy(val:Nat->Int):∀i,(firstMet val i).length=i↔((List.range i).map val).Nodup
 | 0=>by simp[firstMet]
 | i+1=>by
  have hle:=firstMet_length_le val i
  rw[firstMet_succ,step_length,List.range_succ,List.map_append,List.nodup_append]
  have ha:=firstMet_any val i (val i)
  have ih:=jy val i
  constructor
  ·intro h
   by_cases hin:(firstMet val i).any (· == val i)=true
   ·rw[if_pos hin] at h;omega
   ·rw[if_neg hin] at h
    refine⟨ih.mp (by omega),by simp,fun a hm b hb z=>?_⟩
    have hb':b=val i:=by simpa using hb
    subst z hb'
    rw[ha] at hin
    exact hin (List.any_eq_true.mpr ⟨_,hm,by simp⟩)
  ·rintro⟨h1,_,h3⟩
   rw[if_neg ?_]
   ·rw[ih.mpr h1]
   ·rw[ha]
    intro hin
    obtain⟨x,hx,he⟩:=List.any_eq_true.mp hin
    have he':x=val i:=by simpa using he
    exact h3 x hx (val i) (by simp) he'
theorem xS(ns:List Int):many ns=ns.length↔ns.Nodup:=by
 unfold many
 rw[jy]
 have:(List.range ns.length).map (fun i=>ns.getD i 0)=ns:=fw ns 0
 rw[this]
section
variable {X:Cx}{N:List Str}{sc:Scope}{k:Nat}{a b c e e2:Expr}{es:List Expr}{fa fb fc f:Env->Option D}{fs:Env->Option (List D)}{pos p p' pos' p2 p3 p4 px apos cpos tp:Pos}{x y:Str}{HF₀ H₀:Hp}
theorem oe{K:W.Frag}{r r':R2}{g g':D->D->Option D}(h:eY K r g)(h':eY K r' g'):eY K (fun x y H Q=>r x y H Q\/r' x y H Q) (fun x y=>(g x y).or (g' x y)):=by
 intro HF H x y v1 v2 d Q sm r1 r2 hg q
 cases e:g x y with
 | some d' =>
  have hg:(g x y).or (g' x y)=some d:=hg
  rw[e] at hg
  cases hg
  exact .inl (h HF H x y v1 v2 d Q sm r1 r2 e q)
 | none =>
  have hg:(g x y).or (g' x y)=some d:=hg
  rw[e] at hg
  exact .inr (h' HF H x y v1 v2 d Q sm r1 r2 hg q)
theorem Au{K:W.Frag}:eY K (Dc K) (fun x y=>(rM x y).map PyData.list):=by
 intro HF H x y v1 v2 d Q sm r1 r2 hg q
 obtain⟨zs,hg',rfl⟩:=af hg
 clear hg
 cases x<;>cases y<;>simp only[rM] at hg'<;>try cases hg'
 obtain⟨rfl,hz⟩:=d8 hg'
 simp only[Rep] at r1 r2
 obtain⟨a,vs,rfl,ha,ra⟩:=r1
 obtain⟨b,us,rfl,hb,rb⟩:=r2
 refine⟨a,b,vs,us,rfl,rfl,sm.seq ha,sm.seq hb,by rw[ra.length,rb.length,<- zN];exact hz,fun p hp=>q _ _ _ (.new sm hp) ?_⟩
 simp only[Rep]
 exact⟨p,_,rfl,.inl (.inl aC),(ra.append rb).mono (dM (sm.free hp))⟩
noncomputable def bY:D->D->Option D:=fun x y=>((uo (fun _ _=>True) fun i j=>.int (i+j)) x y).or ((FM x y).or ((rM x y).map PyData.list))
theorem Bk.add(C:Bk X N sc k)(ha:DE X a fa)(hb:DE X b fb):DE X (.BinOp a .Add b pos) (f2 bY fa fb):=vX (JF.or (Bj.or uV)) (oe C6 (oe Fw Au)) ha hb
noncomputable def fU:D->D->Option D:=uo (fun _ _=>True) fun i j=>.int (i - j)
theorem Bk.sub(C:Bk X N sc k)(ha:DE X a fa)(hb:DE X b fb):DE X (.BinOp a .Sub b pos) (f2 fU fa fb):=vX Jf C6 ha hb
noncomputable def lC:D->D->Option D:=fun x y=>((uo tH fun i j=>.int (i * j)) x y).or (Ea x y)
theorem Bk.mul(C:Bk X N sc k)(ha:DE X a fa)(hb:DE X b fb):DE X (.BinOp a .Mult b pos) (f2 lC fa fb):=vX (Kq.or Fq) (oe DX B3) ha hb
noncomputable def qE:D->D->Option D:=uo Gq fun i j=>.int (i / j)
theorem Bk.div(C:Bk X N sc k)(ha:DE X a fa)(hb:DE X b fb):DE X (.BinOp a .FloorDiv b pos) (f2 qE fa fb):=vX Ff DX ha hb
noncomputable def nz:D->D->Option D:=uo (fun _ j=>0 < j) fun i j=>.int (i % j)
theorem Bk.mod(C:Bk X N sc k)(ha:DE X a fa)(hb:DE X b fb):DE X (.BinOp a .Mod b pos) (f2 nz fa fb):=vX Iu DX ha hb
noncomputable def vm:D->D->Option D:=uo (fun _ _=>True) fun i j=>.bool (decide (i < j))
noncomputable def yl:D->D->Option D:=uo (fun _ _=>True) fun i j=>.bool (decide (i<=j))
noncomputable def JN:D->D->Option D:=uo (fun _ _=>True) fun i j=>.bool (decide (j < i))
noncomputable def Mq:D->D->Option D:=fun x y=>((uo (fun _ _=>True) fun i j=>.bool (decide (j<=i))) x y).or ((KO x y).map PyData.bool)
noncomputable def cN:D->D->Option D:=fun x y=>(HH x y).map PyData.bool
noncomputable def eX:D->D->Option D:=fun x y=>(KC x y).map PyData.bool
noncomputable def Kp:D->D->Option D:=fun x y=>(Mx x y).map PyData.bool
theorem Bk.u64(C:Bk X N sc k):X.A.units+64 < cLine:=C.room.units
theorem Bk.u66(C:Bk X N sc k):X.A.units+66 < cLine:=by have:=C.room.un;omega
theorem Bk.lt(C:Bk X N sc k)(ha:DE X a fa)(hb:DE X b fb):DE X (.Compare a [.Lt] [b] pos) (f2 vm fa fb):=gJ CS gz ha hb (cO _)
theorem Bk.le(C:Bk X N sc k)(ha:DE X a fa)(hb:DE X b fb):DE X (.Compare a [.LtE] [b] pos) (f2 yl fa fb):=gJ EF gz ha hb (cO _)
theorem Bk.gt(C:Bk X N sc k)(ha:DE X a fa)(hb:DE X b fb):DE X (.Compare a [.Gt] [b] pos) (f2 JN fa fb):=gJ Hm gz ha hb (cO _)
theorem Bk.ge(C:Bk X N sc k)(ha:DE X a fa)(hb:DE X b fb):DE X (.Compare a [.GtE] [b] pos) (f2 Mq fa fb):=gJ (Hg.or (ED C.room.units0)) (oe gz gx) ha hb (cO _)
theorem Bk.eq(C:Bk X N sc k)(ha:DE X a fa)(hb:DE X b fb):DE X (.Compare a [.Eq] [b] pos) (f2 cN fa fb):=gJ (Cg C.u64) gx ha hb (cO _)
theorem Bk.ne(C:Bk X N sc k)(ha:DE X a fa)(hb:DE X b fb):DE X (.Compare a [.NotEq] [b] pos) (f2 eX fa fb):=gJ (Cr C.u64) gx ha hb (cO _)
theorem Bk.isin(C:Bk X N sc k)(ha:DE X a fa)(hb:DE X b fb)(hm:behindInMarks .In b=false:=by rfl):DE X (.Compare a [.In] [b] pos) (f2 Kp fa fb):=gJ (EJ C.u66) gx ha hb hm
theorem Bk.tlt(C:Bk X N sc k)(ha:DE X a fa)(hb:DE X b fb):DT X (.Compare a [.Lt] [b] pos) (fB (f2 vm fa fb)):=gE CS gz ha hb (cO _)
theorem Bk.tle(C:Bk X N sc k)(ha:DE X a fa)(hb:DE X b fb):DT X (.Compare a [.LtE] [b] pos) (fB (f2 yl fa fb)):=gE EF gz ha hb (cO _)
theorem Bk.tgt(C:Bk X N sc k)(ha:DE X a fa)(hb:DE X b fb):DT X (.Compare a [.Gt] [b] pos) (fB (f2 JN fa fb)):=gE Hm gz ha hb (cO _)
theorem Bk.tge(C:Bk X N sc k)(ha:DE X a fa)(hb:DE X b fb):DT X (.Compare a [.GtE] [b] pos) (fB (f2 Mq fa fb)):=gE (Hg.or (ED C.room.units0)) (oe gz gx) ha hb (cO _)
theorem Bk.teq(C:Bk X N sc k)(ha:DE X a fa)(hb:DE X b fb):DT X (.Compare a [.Eq] [b] pos) (fB (f2 cN fa fb)):=gE (Cg C.u64) gx ha hb (cO _)
theorem Bk.tne(C:Bk X N sc k)(ha:DE X a fa)(hb:DE X b fb):DT X (.Compare a [.NotEq] [b] pos) (fB (f2 eX fa fb)):=gE (Cr C.u64) gx ha hb (cO _)
theorem Bk.tin(C:Bk X N sc k)(ha:DE X a fa)(hb:DE X b fb)(hm:behindInMarks .In b=false:=by rfl):DT X (.Compare a [.In] [b] pos) (fB (f2 Kp fa fb)):=gE (EJ C.u66) gx ha hb hm
noncomputable def ij:D->Option Int->Option Int->Option D|.tuple ds,lo,hi=>some (.tuple (cut ds lo hi))|.list ds,lo,hi=>some (.list (cut ds lo hi))|_,_,_=>none
theorem Bk.cut(C:Bk X N sc k){lo hi:Option Expr}{fl fh:Env->Option (Option Int)}(ha:DE X a fa)(hl:DO X lo fl)(hh:DO X hi fh):DE X (.Subscript a (.Slice lo hi none p2) pos) (l9 ij fa fl fh):=aN (Cm (HJ.or F1) ha hl hh) fun σ H Q ⟨HF,ρ,d,sm,eo,hf,q⟩=>by
 obtain⟨x,hx,hf⟩:=bs hf
 obtain⟨l,hl,hf⟩:=bs hf
 obtain⟨u,hu,hf⟩:=bs hf
 refine⟨HF,ρ,x,sm,eo,hx,fun v1 H1 HF1 g1 r1=>⟨HF1,ρ,l,g1.fh,eo.mono g1.ff,hl,fun H2 HF2 g2=>⟨HF2,ρ,u,g2.fh,eo.mono (g1.ff.trans g2.ff),hu,fun H3 HF3 g3=>?_⟩⟩⟩
 have G:=(g1.trans g2).trans g3
 have r3:=r1.mono (g2.ff.trans g3.ff)
 cases x<;>try cases hf
 ·simp only[Rep] at r3
  obtain⟨b,vs,rfl,hs,rr⟩:=r3
  refine .inr ⟨b,vs,rfl,G.fh.seq hs,fun p hp=>q _ _ _ (G.trans (.new G.fh hp)) ?_⟩
  simp only[Rep]
  exact⟨p,_,rfl,.inl (.inl aC),(oM rr l u).mono (dM (G.fh.free hp))⟩
 ·simp only[Rep] at r3
  obtain⟨b,vs,rfl,hs,rr⟩:=r3
  refine .inl ⟨b,vs,rfl,av G.fh hs,fun e=>q _ H3 HF3 G ?_,fun p hp=>q _ _ _ (G.trans (.new G.fh hp)) (cC (G.fh.free hp) (oM rr l u))⟩
  simp only[Rep]
  refine⟨b,vs,rfl,hs,?_⟩
  have:=oM rr l u
  rw[e] at this
  exact this
noncomputable def K1:D->Option D|.int i=>some (.int (-i))|_=>none
theorem Bk.neg(C:Bk X N sc k)(ha:DE X a fa):DE X (.UnaryOp .USub a pos) (f1 K1 fa):=aN (B7 xW ha) fun σ H Q ⟨HF,ρ,d,sm,eo,hf,q⟩=>by
 obtain⟨x,hx,hf⟩:=bs hf
 refine⟨HF,ρ,x,sm,eo,hx,fun v1 H1 HF1 g1 r1=>?_⟩
 cases x<;>try cases hf
 exact⟨_,by simpa only[Rep] using r1,q _ H1 HF1 g1 (by simp[Rep])⟩
theorem xD:bootBuiltins "len"=some (.builtin "len"):=by decide +kernel
theorem p8:bootBuiltins "isinstance"=some (.builtin "isinstance"):=by decide +kernel
theorem Jr:bootBuiltins "int"=some (.type "int"):=by decide +kernel
theorem D9:bootBuiltins "tuple"=some (.type "tuple"):=by decide +kernel
theorem Fe:bootBuiltins "list"=some (.type "list"):=by decide +kernel
theorem vR:bootBuiltins "range"=some (.type "range"):=by decide +kernel
theorem IZ:bootBuiltins "all"=some (.builtin "all"):=by decide +kernel
theorem CN:bootBuiltins "set"=some (.type "set"):=by decide +kernel
theorem my:bootBuiltins "sorted"=some (.builtin "sorted"):=by decide +kernel
theorem ua:bootBuiltins "enumerate"=some (.type "enumerate"):=by decide +kernel
theorem JV:bootBuiltins "zip"=some (.type "zip"):=by decide +kernel
end
noncomputable abbrev dh(f:Env->Option (List D)):Env->Option D:=fun ρ=>(f ρ).map PyData.list
noncomputable abbrev bj:List D->Option D:=fun ds=>(dF ds).map PyData.tuple
section
variable {X:Cx}{N:List Str}{sc:Scope}{k:Nat}
theorem Bk.locl(C:Bk X N sc k){x:Str}(h:decide (sc.names.lookup x=some .local)=true):X.env.scope.names.lookup x=some .local:=by
 rcases C.tb x _ (of_decide_eq_true h) with q|⟨q,_⟩
 ·exact q
 ·cases q
noncomputable def isStar:Expr->Bool|.Starred ..=>true|_=>false
theorem bc{e:Expr}{es:List Expr}{env:PySem.Env}(h:isStar e=false):starEach (e::es) env=(false,eval e env)::starEach es env:=by
 cases e<;>first|rfl|cases h
theorem J3{e:Expr}{es:List Expr}{f:Env->Option D}{g:Env->Option (List D)}(he:DE X e f)(hs:DA X es g)(h:isStar e=false:=by rfl):DA X (e::es) (aa f g):=yf he hs (bc h)
theorem oz{elt:Expr}{gens:List Comprehension}{scope:Scope}{pos py:Pos}{x:Str}{line:Nat}{env:PySem.Env}:swapsWith (.ListComp elt gens scope pos) (some (.Name x py)) line env=pure (env.blockKind == .function&&env.kindOf x == some .local && py.line == pos.line
     &&!(scope.names.any fun (n,k)=>n == x&&(k == .local || k == .cell))):=rfl
theorem Hv{env:PySem.Env}(h:env.scope.kind=.function):env.blockKind=.function:=by unfold PySem.Env.blockKind;rw[h];rfl
theorem Bk.swap(C:Bk X N sc k){elt:Expr}{gens:List Comprehension}{scope:Scope}{pos py:Pos}{x:Str}{line:Nat}(h:decide (sc.names.lookup x=some .local)=true)(h2:(py.line == pos.line&&!(scope.names.any fun (n,k)=>n == x&&(k == .local || k == .cell)))=true) :
  swapsWith (.ListComp elt gens scope pos) (some (.Name x py)) line X.env=pure true:=by
 rw[oz,Hv C.kd,show X.env.kindOf x=some .local from C.locl h]
 rw[Bool.and_assoc,h2]
 rfl
theorem Bk.noswap(C:Bk X N sc k){elt:Expr}{gens:List Comprehension}{scope:Scope}{pos py:Pos}{x:Str}{line:Nat}(h:decide (sc.names.lookup x=some .cell)=true) :
  swapsWith (.ListComp elt gens scope pos) (some (.Name x py)) line X.env=pure false:=by
 have q:X.env.kindOf x=some .cell:=by
  rcases C.tb x _ (of_decide_eq_true h) with q|⟨q,_⟩
  ·exact q
  ·cases q
 rw[oz,q,Hv C.kd]
 rfl
end
section
variable {K:W.Frag}
structure aE(K:W.Frag)(x:Str)(st:Stmt)(ps:List Str):Prop where
 ex:∃ (f:Addr) (fd:FuncData),W.nsIn K mainGlobals x=some (some (.ref f))/\GR K x x st f fd/\Binds K fd ps []
structure bC(K:W.Frag)(mg:Str->Option Value)(x:Str)(st:Stmt)(ps:List Str):Prop where
 ex:∃ (f:Addr) (fd:FuncData),mg x=some (.ref f)/\GR K x x st f fd/\Binds K fd ps []
theorem aE.mg{h:Heap}{mg:Str->Option Value}{x:Str}{st:Stmt}{ps:List Str}(D:aE K x st ps)(X:K.In h)(G:h.Ns mainGlobals mg):bC K mg x st ps:=by
 obtain⟨f,fd,a,b,c⟩:=D.ex
 exact⟨f,fd,W.mg_of X G a,b,c⟩
def gO(st:Stmt)(ps:List Str):Prop:=∀ (x qual:Str) (kV doc pm:Value) (an:Option Addr) (cdv ct:Value) (us:List Value),us.length=ps.length->bindArgs (W.fnOf x qual (f9 st) (bZ st) (aF st) .none kV doc pm an cdv ct) ⟨us,[]⟩=pure (ps.zip us)
theorem KQ{x:Str}{st:Stmt}{ps:List Str}{f:Addr}{oc:Value}{od an:Option Addr}{osl:Array (Option Value)}{kV doc pm cdv ct:Value}(hb:gO st ps)(a:W.nsIn K mainGlobals x=some (some (.ref f)))(l:K.lookup f=some ⟨oc,od,.func (W.fnOf x x (f9 st) (bZ st) (aF st) .none kV doc pm an cdv ct),osl⟩)
  (c:W.codeIn K cdv x=true) (k:W.keepIn K (.ref f)=true):aE K x st ps:=⟨f,_,a,sj (st:=st) l c k,(sj (st:=st) l c k).binds fun kV doc pm an cdv ct us h=>hb _ _ kV doc pm an cdv ct us h⟩
structure mY(K:W.Frag)(x:Str)(st:Stmt)(ps:List Str):Prop where
 ex:∃ (f:Addr) (fd:FuncData) (c P:Addr),W.nsIn K mainGlobals x=some (some (.ref f))/\GR K x x st f fd/\Binds K fd ps []/\fd.code=.ref c/\W.codeHdIn K c P=true
structure Dx(K:W.Frag)(mg:Str->Option Value)(x:Str)(st:Stmt)(ps:List Str):Prop where
 ex:∃ (f:Addr) (fd:FuncData) (c P:Addr),mg x=some (.ref f)/\GR K x x st f fd/\Binds K fd ps []/\fd.code=.ref c/\W.codeHdIn K c P=true
theorem mY.mg{h:Heap}{mg:Str->Option Value}{x:Str}{st:Stmt}{ps:List Str}(D:mY K x st ps)(X:K.In h)(G:h.Ns mainGlobals mg):Dx K mg x st ps:=by
 obtain⟨f,fd,c,P,a,b⟩:=D.ex
 exact⟨f,fd,c,P,W.mg_of X G a,b⟩
noncomputable def EH(K:W.Frag)(c:Addr):Addr:=match K.lookup c with
 | some ⟨_,_,.fields vs,_⟩=>(match (vs[11]?:Option Value) with|some (.ref P)=>P|_=>0)
 | _=>0
theorem LL{x:Str}{st:Stmt}{ps:List Str}{f c:Addr}{oc:Value}{od an:Option Addr}{osl:Array (Option Value)}{kV doc pm ct:Value}(hb:gO st ps)(a:W.nsIn K mainGlobals x=some (some (.ref f)))(l:K.lookup f=some ⟨oc,od,.func (W.fnOf x x (f9 st) (bZ st) (aF st) .none kV doc pm an (.ref c) ct),osl⟩)
  (cd:W.codeIn K (.ref c) x=true) (k:W.keepIn K (.ref f)=true) (hh:W.codeHdIn K c (EH K c)=true):mY K x st ps:=⟨f,_,c,EH K c,a,sj (st:=st) l cd k,(sj (st:=st) l cd k).binds fun kV doc pm an cdv ct us h=>hb _ _ kV doc pm an cdv ct us h,rfl,hh⟩
theorem Hc{x:Str}{i:Int}{t:Tok}(h:W.nsIn K mainGlobals x=some (some (.int i t))):∃t,W.nsIn K mainGlobals x=some (some (.int i t)):=⟨t,h⟩
theorem JC{K:W.Frag}(h0:W.nsIn K mainGlobals "len"=some none)(h1:W.nsIn K mainGlobals "isinstance"=some none)(h2:W.nsIn K mainGlobals "int"=some none)(h3:W.nsIn K mainGlobals "bool"=some none)(h4:W.nsIn K mainGlobals "tuple"=some none)(h5:W.nsIn K mainGlobals "list"=some none)(h6:W.nsIn K mainGlobals "range"=some none)(h7:W.nsIn K mainGlobals "all"=some none)(h8:W.nsIn K mainGlobals "any"=some none)(h9:W.nsIn K mainGlobals "set"=some none)(h10:W.nsIn K mainGlobals "sorted"=some none)(h11:W.nsIn K mainGlobals "enumerate"=some none)(h12:W.nsIn K mainGlobals "zip"=some none)(h13:W.nsIn K mainGlobals "sum"=some none)(h14:W.nsIn K mainGlobals "min"=some none)(h15:W.nsIn K mainGlobals "max"=some none)(h16:W.nsIn K mainGlobals "reversed"=some none):∀x∈cq,W.nsIn K mainGlobals x=some none:=by
 intro x hx
 simp only[cq,zR,yG,or_false] at hx
 rcases hx with rfl|rfl|rfl|rfl|rfl|rfl|rfl|rfl|rfl|rfl|rfl|rfl|rfl|rfl|rfl|rfl|rfl<;>assumption
theorem wH{K:W.Frag}{H:Hp}{a:Addr}{ns:List Int}{m:List D->Option D}(hS:gG K H a (ns.map V.int))(hT:fI K H)(h:m [.list (ns.map PyData.int)]=some (.bool true)){X:_}:Il K 1 m [.ref a] H (fun v _=>v=.bl true) X:=by
 refine⟨H,[.list (ns.map PyData.int)],.bool true,.refl _,hT,ak.cons ?_ ak.nil,rfl,h,fun v H' HF' G r=>by simpa only[Rep] using r⟩
 simp only[Rep]
 refine⟨a,_,rfl,hS,?_⟩
 clear h hS hT
 induction ns with
 | nil=>exact ak.nil
 | cons n ns ih=>exact ak.cons (by simp[Rep]) ih
end
theorem ML{X:Cx}{e:Expr}{es:List Expr}{f:Env->Option D}{g:Env->Option (List D)}(h:isStar e=false)(he:DE X e f)(hs:DA X es g):DA X (e::es) (aa f g):=J3 he hs h
section
variable {X:Cx}{N:List Str}{sc:Scope}{k:Nat}{HF₀ H₀:Hp}{e c:Expr}{es:List Expr}{fs:Env->Option (List D)}{pos p:Pos}
noncomputable def K4:ai->Option Out:=fun _=>none
theorem K7{st:Stmt}:DS X HF₀ H₀ st K4:=fun pins s σ H E I ⟨HF,ρ,o,S,hg,q⟩=>by cases hg
noncomputable def gw(f:Env->Option D):ai->Option Out:=fun ρ=>(f (bz ρ)).map fun _=>.nx ρ
theorem FS{f:Env->Option D}(hs:swapsWith e none pos.line X.env=pure false)(h:DE X e f):DS X HF₀ H₀ (.Expr e pos) (gw f):=dm (nK h hs) fun E σ H ⟨HF,ρ,o,S,hg,q⟩=>by
 obtain⟨d,h,rfl⟩:=af hg
 exact⟨H,bz ρ,d,.refl _,S.all,h,fun v H' HF' G r=>q σ H' HF (S.step G.hh) (.refl _)⟩
noncomputable def GK(t:Env->Option Bool)(gb:ai->Option Out):Nat->ai->Option Out
 | 0,_=>none
 | n+1,ρ=>(t (bz ρ)).bind fun b=>if b=true then (gb ρ).bind fun|.nx ρ'=>GK t gb n ρ'|.rt d=>some (.rt d) else some (.nx ρ)
theorem Ej(n:Nat){body:List Stmt}{t:Env->Option Bool}{gb:ai->Option Out}(hp:PassesOwn (model X.prog X.w) X.A X.env X.xe)(hc:DT X c t)(hb:Bx X HF₀ H₀ body gb):DS X HF₀ H₀ (.While c body [] pos) (GK t gb n) :=
 dm (BQ hp hc hb) fun E σ H ⟨HF,ρ,o,S,hg,q⟩=>by
  refine⟨fun m σ' H'=>∃HF' ρ',i8 X.K HF₀ H₀ HF' H' ρ' σ'/\aR HF HF'/\GK t gb m ρ'=some o,⟨n,HF,ρ,S,.refl _,hg⟩,?_⟩
  rintro m σ' H' ⟨HF',ρ',S',s',hf⟩
  cases m with
  | zero=>cases hf
  | succ m =>
   unfold GK at hf
   obtain⟨b,hb,hf⟩:=bs hf
   refine⟨H',bz ρ',b,.refl _,S'.all,hb,fun H1 HF1 G=>?_⟩
   cases b with
   | false =>
    rw[if_neg Bool.false_ne_true] at hf ⊢
    cases hf
    exact q σ' H1 HF' (S'.step G.hh) s'
   | true =>
    rw[if_pos rfl] at hf ⊢
    obtain⟨o1,h2,hf⟩:=bs hf
    refine⟨fun σ2 H3=>∃HF3 ρ3,i8 X.K HF₀ H₀ HF3 H3 ρ3 σ2/\aR HF HF3/\GK t gb m ρ3=some o,fun σ2 H3 ⟨HF3,ρ3,a1,a2,a3⟩=>⟨m,Nat.lt_succ_self _,HF3,ρ3,a1,a2,a3⟩,HF',ρ',o1,S'.step G.hh,h2,?_⟩
    cases o1 with
    | nx ρ2=>exact fun σ4 H4 HF4 S4 s4=>⟨HF4,ρ2,S4,s'.trans s4,hf⟩
    | rt d=>cases hf;exact q
noncomputable def ji:List D->Option D
 | [.int a,.int b]=>some (.int (min a b))
 | [.int a,.int b,.int c]=>some (.int (min (min a b) c))
 | _=>none
theorem D0(hc:X.calm=true):dw X (.builtin "min") (fun xs H Q=>(∃a b:Int,xs=[.int a,.int b]/\Q (.int (min a b)) H)\/(∃a b c:Int,xs=[.int a,.int b,.int c]/\Q (.int (min (min a b) c)) H)):=by
 intro pins s σ H xs us Q I r h
 have hh:X.A.handled=none:=I.ok.hd hc
 rcases h with ⟨a,b,rfl,q⟩|⟨a,b,c,rfl,q⟩
 ·cases r with
  | cons r1 r =>
   cases r with
   | cons r2 r =>
    cases r
    obtain⟨t,rfl⟩:=r1
    obtain⟨u,rfl⟩:=r2
    refine min_two_ints hh fun h' tk kp=>⟨.int (min a b),H,I.kept (t':=tk) kp,?_,q⟩
    by_cases h:b < a
    ·rw[if_pos h,show min a b=b by omega];exact⟨_,rfl⟩
    ·rw[if_neg h,show min a b=a by omega];exact⟨_,rfl⟩
 ·cases r with
  | cons r1 r =>
   cases r with
   | cons r2 r =>
    cases r with
    | cons r3 r =>
     cases r
     obtain⟨t,rfl⟩:=r1
     obtain⟨u,rfl⟩:=r2
     obtain⟨x,rfl⟩:=r3
     refine min_three_ints hh fun h' tk kp=>⟨.int (min (min a b) c),H,I.kept (t':=tk) kp,?_,q⟩
     by_cases h:b < a
     ·rw[if_pos h]
      by_cases h2:c < b
      ·rw[if_pos h2,show min (min a b) c=c by omega];exact⟨_,rfl⟩
      ·rw[if_neg h2,show min (min a b) c=b by omega];exact⟨_,rfl⟩
     ·rw[if_neg h]
      by_cases h2:c < a
      ·rw[if_pos h2,show min (min a b) c=c by omega];exact⟨_,rfl⟩
      ·rw[if_neg h2,show min (min a b) c=a by omega];exact⟨_,rfl⟩
theorem u6{K:W.Frag}{H:Hp}{d:D}{v:V}(r:Rep K H d v):∀ {ds:List D}{vs:List V}(j:Nat),ak K H ds vs->ak K H (ds.set j d) (vs.set j v)
 | [],vs,j,h=>by rw[h.nil_inv];exact ak.nil
 | x::ds,vs,j,h=>by
  obtain⟨u,us,rfl,a,b⟩:=h.cons_inv
  cases j with
  | zero=>exact ak.cons r b
  | succ j=>exact ak.cons a (u6 r j b)
noncomputable def wG(i:Nat)(fz:List Nat)(fk f:Env->Option D):ai->Option Out:=fun ρ=>(mW fz f ρ).bind fun p=>(fk (bz p.2)).bind fun kd=>match kd with
 | .int k=>p9 i (fun ds=>(EO ds.length k).map fun j=>ds.set j p.1) p.2
 | _=>none
theorem By(i:Nat)(fz:List Nat){x:Str}{e2:Expr}{px spos:Pos}{fk f:Env->Option D}(hN:X.N[i]?=some x)(hv:Hu X.env.scope x)(hk:DE X e fk)(h:DE X e2 f)(hd:(x == ("__debug__":Str))=false:=by decide)(hcd:(x == ("__classdict__":Str))=false:=by decide)
  (ha:∀v,assign (.Subscript (.Name x px) e spos) X.env v=(do
   let ov <- holding [v] (eval (.Name x px) X.env)
   let iv <- holding [v,ov] (eval e X.env)
   standAt spos
   holding [v,ov,iv] (setItem ov iv v)
   release [v,ov,iv] []):=by intro _;rfl)
  (hs:swapsWithSole [.Subscript (.Name x px) e spos] e2 pos.line X.env=pure false:=by rfl) (hw:swappedStores [.Subscript (.Name x px) e spos] e2 X.env=pure none:=by rfl)
  (h1:(assignEach [.Subscript (.Name x px) e spos] X.env).map (·.2)=[assign (.Subscript (.Name x px) e spos) X.env]:=by rfl):DS X HF₀ H₀ (.Assign [.Subscript (.Name x px) e spos] e2 pos) (wG i fz fk f) :=
 dm (DH h (Kl (oi hN hv hd hcd) hk set_list ha) hs hw h1) fun E σ H ⟨HF,ρ,o,S,hg,q⟩=>by
  obtain⟨⟨d,ρ'⟩,h1,hg⟩:=bs hg
  obtain⟨kd,h2,hg⟩:=bs hg
  cases kd<;>try cases hg
  rename_i k
  obtain⟨ds,es,h3,h4,rfl⟩:=jL hg
  obtain⟨j,hj,rfl⟩:=af h4
  refine l0 S h1 fun v H1 HF1 s1 S1 s2 r=>?_
  obtain⟨a,vs,e1,e2,e3,e5,e4⟩:=S1.own i ds h3
  refine⟨.ref a,e1,H1,bz ρ',.int k,.refl _,S1.all,h2,fun kv H2 HF2 G rk=>?_⟩
  simp only[Rep] at rk
  have S2:=S1.step G.hh
  obtain⟨a',vs',f1,f2,f3,f5,f4⟩:=S2.own i ds h3
  rw[e1] at f1;cases f1
  exact⟨a,vs',k,j,rfl,rk,f2,by rw[f4.length];exact hj,q σ _ HF1 (S2.mut h3 e1 f2 (u6 r j f4)) s1⟩
end
section
variable {X:Cx}{N:List Str}{sc:Scope}{k:Nat}{HF₀ H₀:Hp}{a b e c:Expr}{es:List Expr}{fa fb:Env->Option D}{fs:Env->Option (List D)}{pos p:Pos}
noncomputable def Lo:D->Bool|.none=>true|_=>false
theorem nX{K:W.Frag}{HF:Hp}{d:D}{v:V}(r:Rep K HF d v):decide (v=.non)=Lo d:=by
 cases d<;>simp only[Rep] at r<;>first
  | (subst r;rfl)
  | (obtain⟨a,vs,rfl,_⟩:=r;rfl)
  | exact r.elim
noncomputable def qa:D->D->Option D:=fun x y=>if Lo y=true then some (.bool (Lo x)) else none
noncomputable def m6:D->D->Option D:=fun x y=>if Lo y=true then some (.bool (!Lo x)) else none
theorem zu{K:W.Frag}:eY K (fun x y H Q=>y=.non/\Q (.bl (decide (x=.non))) H) qa:=by
 intro HF H x y v1 v2 d Q sm r1 r2 hg q
 unfold qa at hg
 split at hg
 ·rename_i h
  cases hg
  have h2:=nX r2
  rw[h,zJ] at h2
  refine⟨h2,?_⟩
  rw[nX r1]
  exact q _ H HF (.refl sm) (by simp[Rep])
 ·cases hg
theorem uA{K:W.Frag}:eY K (fun x y H Q=>y=.non/\Q (.bl (!decide (x=.non))) H) m6:=by
 intro HF H x y v1 v2 d Q sm r1 r2 hg q
 unfold m6 at hg
 split at hg
 ·rename_i h
  cases hg
  have h2:=nX r2
  rw[h,zJ] at h2
  refine⟨h2,?_⟩
  rw[nX r1]
  exact q _ H HF (.refl sm) (by simp[Rep])
 ·cases hg
theorem Bk.is0(C:Bk X N sc k)(ha:DE X a fa)(hb:DE X b fb):DE X (.Compare a [.Is] [b] pos) (f2 qa fa fb):=gJ Cf zu ha hb (cO _)
theorem Bk.not0(C:Bk X N sc k)(ha:DE X a fa)(hb:DE X b fb):DE X (.Compare a [.IsNot] [b] pos) (f2 m6 fa fb):=gJ zy uA ha hb (cO _)
theorem Bk.tis0(C:Bk X N sc k)(ha:DE X a fa)(hb:DE X b fb):DT X (.Compare a [.Is] [b] pos) (fB (f2 qa fa fb)):=gE Cf zu ha hb (cO _)
theorem Bk.tnot0(C:Bk X N sc k)(ha:DE X a fa)(hb:DE X b fb):DT X (.Compare a [.IsNot] [b] pos) (fB (f2 m6 fa fb)):=gE zy uA ha hb (cO _)
theorem IT(hc:X.calm=true)(B:k3 X "min" (.builtin "min"))(he:starEach (e::es) X.env=(false,eval e X.env)::starEach es X.env)(hpl:(backTo pos (starEach es X.env)).any (·.1)=false)(ha:DA X (e::es) fs):DE X (.Call (.Name "min" p) (e::es) [] pos) (bf ji fs) :=
 hV (D0 hc) (by
  intro HF H ds vs d Q sm r hg q
  unfold ji at hg
  split at hg
  ·cases hg
   obtain⟨v1,r1,rfl,a1,b1⟩:=r.cons_inv
   obtain⟨v2,r2,rfl,a2,b2⟩:=b1.cons_inv
   rw[b2.nil_inv]
   simp only[Rep] at a1 a2
   exact .inl ⟨_,_,by rw[a1,a2],q _ H HF (.refl sm) (by simp[Rep])⟩
  ·cases hg
   obtain⟨v1,r1,rfl,a1,b1⟩:=r.cons_inv
   obtain⟨v2,r2,rfl,a2,b2⟩:=b1.cons_inv
   obtain⟨v3,r3,rfl,a3,b3⟩:=b2.cons_inv
   rw[b3.nil_inv]
   simp only[Rep] at a1 a2 a3
   exact .inr ⟨_,_,_,by rw[a1,a2,a3],q _ H HF (.refl sm) (by simp[Rep])⟩
  ·cases hg) B ha (by decide) (by decide) he hpl
end
section
variable {X:Cx}{a b e c:Expr}{es:List Expr}{fa fb:Env->Option D}{fl fs:Env->Option (List D)}{pos p:Pos}
noncomputable def yx(ds:List D):D->Option (List D)
 | .int k=>if wa k=true/\ds.length * k.toNat<=sizeLine then some (List.replicate k.toNat ds).flatten else none
 | _=>none
noncomputable def oR(fl:Env->Option (List D))(fb:Env->Option D):Env->Option (List D):=fun ρ=>(fl ρ).bind fun ds=>(fb ρ).bind (yx ds)
theorem Km(ha:DF X a fl)(hb:DE X b fb):DF X (.BinOp a .Mult b pos) (oR fl fb):=aN (BD J8 ha hb) fun σ H Q ⟨HF,ρ,d,sm,eo,hf,q⟩=>by
 obtain⟨ds,hx,hf⟩:=bs hf
 obtain⟨y,hy,hg⟩:=bs hf
 refine⟨HF,ρ,ds,sm,eo,hx,fun l vs H1 HF1 g1 h0 hn h1 r1=>⟨HF1,ρ,y,g1.fh,eo.mono g1.ff,hy,fun v2 H2 HF2 g2 r2=>?_⟩⟩
 cases y<;>try cases hg
 rename_i k
 have hg:(if wa k=true/\ds.length * k.toNat<=sizeLine then some (List.replicate k.toNat ds).flatten else none)=some d:=hg
 split at hg
 ·rename_i hz
  cases hg
  simp only[Rep] at r2
  have r1:=r1.mono g2.ff
  have G:=g1.trans g2
  have ok:=hz.1
  simp only[wa,zF,zJ] at ok
  exact⟨l,k,vs,rfl,r2,g2.hh _ _ h1,by omega,by omega,by rw[r1.length];exact hz.2,fun p hp=>q p _ _ HF2 (G.trans (.own G.fh hp)) (G.hh.free hp) (G.fh.free hp) aC (lU r1 _)⟩
 ·cases hg
theorem wX(hc:X.calm=true):dw X (.builtin "any") (fun xs H Q=>∃ (a:Addr) (bs:List Bool),xs=[.ref a]/\gG X.K H a (bs.map V.bl)/\Q (.bl (bs.any id)) H):=by
 intro pins s σ H xs us Q I r h
 obtain⟨a,bs,rfl,hq,q⟩:=h
 obtain⟨u,rfl,rx⟩:=vals1 r
 cases rx
 obtain⟨its,rv,pl,hz⟩:=I.list hq
 have hv:=kr rv
 subst hv
 have hh:X.A.in1.handled=none:=I.ok.hd hc
 refine call_any_walk (wpAny_pyIter_list pl.isList ?_)
 obtain⟨o,ho,hcl,n,hd⟩:=pl.isList
 have hne:a≠s.heap.objs.size:=Nat.ne_of_lt (zZ ho)
 refine⟨_,_,_,_,_,_,fun i=>bs.getD i false,rfl,Walks.list hh s.heap.objs.size a hne (bs.map Value.bool).toArray,⟨⟨_,zY _ rfl,rfl,rfl⟩,pl.isList.push _⟩,fun i v s' Q' E' hP hQ=>?_,fun h' tk kp=>?_⟩
 ·have e:v=Value.bool (bs.getD i false):=by
   have hP:(bs.map Value.bool).toArray[i]?=some v:=hP
   rw[List.getElem?_toArray,zO] at hP
   obtain⟨b,hb,rfl⟩:=af hP
   rw[zG,hb]
   rfl
  subst e
  exact wpAny_truthy_bool hQ
 ·refine⟨.bl (bs.any id),H,?_,?_,q⟩
  ·exact I.kept (t':=tk) fun b o' e=>kp b o' (by simp;exact Nat.ne_of_lt (zZ e)) (zV _ e)
  ·show Value.bool _=Value.bool _
   have:=range_any bs
   simp only[zH,zD]
   rw[this]
end
section
variable {X:Cx}{e:Expr}{fs:Env->Option (List D)}{pos p:Pos}
theorem IH(hc:X.calm=true)(B:k3 X "any" (.builtin "any"))(he:starEach [e] X.env=(false,eval e X.env)::starEach [] X.env)(ha:DA X [e] fs):DE X (.Call (.Name "any" p) [e] [] pos) (bf (fun ds=>(oneOf ds).bind fun d=>match d with
 | .list es=>(boolsOf es).map fun bs=>.bool (bs.any id)
 | _=>none) fs) :=
 hV (wX hc) (by
  intro HF H ds vs d Q sm r hg q
  obtain⟨x,hx,hg⟩:=bs hg
  rw[fS hx] at r
  cases x<;>try cases hg
  obtain⟨bs,hb,rfl⟩:=af hg
  obtain⟨v,r',rfl,a,b⟩:=r.cons_inv
  rw[b.nil_inv]
  simp only[Rep] at a
  obtain⟨p,us,rfl,h,rr⟩:=a
  rw[iy hb] at rr
  have:=kC rr
  subst this
  exact⟨p,bs,rfl,sm.seq h,q _ H HF (.refl sm) (by simp[Rep])⟩) B ha (by decide) (by decide) he rfl
theorem mT(ns:List Int):∀j:Nat,preSum (fun i=>ns.getD i 0) j=(ns.take j).sum
 | 0=>by simp[preSum]
 | j+1=>by
  rw[preSum,mT ns j,List.take_add_one,List.sum_append]
  congr 1
  rw[zG]
  cases ns[j]?<;>simp
theorem rD(val:Nat->Int)(B:Int)(h:∀i,-B<=val i/\val i<=B):∀j:Nat,-(B * j)<=preSum val j/\preSum val j<=B * j
 | 0=>by simp[preSum]
 | j+1=>by
  have ih:=rD val B h j
  have:=h j
  rw[preSum]
  have e:B * ((j+1:Nat):Int)=B * (j:Int)+B:=by rw[Int.natCast_add,Int.mul_add];simp
  rw[e]
  omega
noncomputable def FZ(ns:List Int):Bool:=decide (ns.length<=1000)&&ns.all fun n=>decide (-1000000<=n)&&decide (n<=1000000)
theorem HW{ns:List Int}(h:FZ ns=true):ns.length<=1000/\∀i,-1000000<=ns.getD i 0/\ns.getD i 0<=1000000:=by
 unfold FZ at h
 rw[zF,zJ,List.all_eq_true] at h
 refine⟨h.1,fun i=>?_⟩
 rw[zG]
 cases e:ns[i]? with
 | none=>simp
 | some n =>
  have:=h.2 n (List.mem_of_getElem? e)
  simpa using this
theorem nH{ns:List Int}{its:List Value}(r:az (ns.map V.int) its){i:Nat}{v:Value}(h:its.toArray[i]?=some v):∃t,v=.int (ns.getD i 0) t:=by
 rw[List.getElem?_toArray] at h
 induction ns generalizing its i with
 | nil=>cases r;simp at h
 | cons n ns ih =>
  cases r with
  | cons r1 rr =>
   cases i with
   | zero =>
    simp only[List.getElem?_cons_zero,yL] at h
    subst h
    obtain⟨t,rfl⟩:=r1
    exact⟨t,rfl⟩
   | succ i =>
    simp only[List.getElem?_cons_succ] at h
    exact ih rr h
theorem xI(hc:X.calm=true):dw X (.builtin "sum") (fun xs H Q=>∃ (a:Addr) (ns:List Int),xs=[.ref a]/\(gG X.K H a (ns.map V.int)\/gT X.K H a (ns.map V.int))/\FZ ns=true/\Q (.int ns.sum) H):=by
 intro pins s σ H xs us Q I r h
 obtain⟨a,ns,rfl,hq,hok,q⟩:=h
 obtain⟨u,rfl,rx⟩:=vals1 r
 cases rx
 have hh:X.A.in1.handled=none:=I.ok.hd hc
 obtain⟨hlen,hbd⟩:=HW hok
 have hin:∀n:Nat,n<=1000->∀j,j < n->InLong ((fun i=>ns.getD i 0) j)/\InLong (preSum (fun i=>ns.getD i 0) (j+1)):=fun n hn j hj=>by
  have h1:=hbd j
  have h2:=rD (fun i=>ns.getD i 0) 1000000 hbd (j+1)
  refine⟨⟨?_,?_⟩,?_,?_⟩
  ·show -(2 ^ 63)<=ns.getD j 0
   omega
  ·show ns.getD j 0 < 2 ^ 63
   omega
  ·omega
  ·omega
 have hsum:preSum (fun i=>ns.getD i 0) ns.length=ns.sum:=by rw[mT,List.take_length]
 rcases hq with hq|hq
 ·obtain⟨its,rv,pl,hz⟩:=I.list hq
  have hl:its.length=ns.length:=by rw[<- rv.length,zD]
  refine call_sum_walk (wpAny_pyIter_list pl.isList ?_)
  obtain⟨o,ho,hcl,n,hd⟩:=pl.isList
  have hlt:=zZ ho
  have hne:a≠s.heap.objs.size:=Nat.ne_of_lt hlt
  refine⟨_,_,_,_,_,_,fun i=>ns.getD i 0,rfl,Walks.list hh s.heap.objs.size a hne its.toArray,⟨⟨_,zY _ rfl,rfl,rfl⟩,pl.isList.push _⟩,fun b hb=>?_,fun i v hP=>nH rv hP,by rw[zH,hl];exact hin _ hlen,fun h' tk t' kp=>?_⟩
  ·show b < (s.heap.push _).objs.size
   rw[Heap.size_push]
   simp only[zR,yG,or_false] at hb
   rcases hb with rfl|rfl
   ·exact Nat.lt_succ_self _
   ·exact Nat.lt_succ_of_lt hlt
  ·refine⟨.int ns.sum,H,I.kept (t':=tk) fun b o' e=>kp b o' (by simp;exact Nat.ne_of_lt (zZ e)) (zV _ e),⟨t',?_⟩,q⟩
   rw[zH,hl,hsum]
 ·obtain⟨its,rv,pl,hz⟩:=I.tuple hq
  have pl:s.heap.IsTuple a its.toArray:=pl
  have hl:its.length=ns.length:=by rw[<- rv.length,zD]
  refine call_sum_walk (wpAny_pyIter_tuple pl ?_)
  obtain⟨o,ho,hcl,n,hd⟩:=id pl
  have hlt:=zZ ho
  have hne:a≠s.heap.objs.size:=Nat.ne_of_lt hlt
  refine⟨_,_,_,_,_,_,fun i=>ns.getD i 0,rfl,Walks.tuple hh s.heap.objs.size a hne its.toArray,⟨⟨_,zY _ rfl,rfl,rfl⟩,pl.push _⟩,fun b hb=>?_,fun i v hP=>nH rv hP,by rw[zH,hl];exact hin _ hlen,fun h' tk t' kp=>?_⟩
  ·show b < (s.heap.push _).objs.size
   rw[Heap.size_push]
   simp only[zR,yG,or_false] at hb
   rcases hb with rfl|rfl
   ·exact Nat.lt_succ_self _
   ·exact Nat.lt_succ_of_lt hlt
  ·refine⟨.int ns.sum,H,I.kept (t':=tk) fun b o' e=>kp b o' (by simp;exact Nat.ne_of_lt (zZ e)) (zV _ e),⟨t',?_⟩,q⟩
   rw[zH,hl,hsum]
end
section
variable {X:Cx}{e:Expr}{fs:Env->Option (List D)}{pos p:Pos}
noncomputable def kf:List D->Option D:=fun ds=>(dF ds).bind fun es=>(intsOf es).bind fun ns=>if FZ ns=true then some (.int ns.sum) else none
theorem hZ{K:W.Frag}{H:Hp}:∀ {ns:List Int}{vs:List V},ak K H (ns.map PyData.int) vs->vs=ns.map V.int
 | [],vs,h=>h.nil_inv
 | b::bs,vs,h=>by
  obtain⟨v,r,rfl,a,c⟩:=h.cons_inv
  simp only[Rep] at a
  rw[a,hZ c]
  rfl
theorem Ia(hc:X.calm=true)(B:k3 X "sum" (.builtin "sum"))(he:starEach [e] X.env=(false,eval e X.env)::starEach [] X.env)(ha:DA X [e] fs):DE X (.Call (.Name "sum" p) [e] [] pos) (bf kf fs) :=
 hV (xI hc) (by
  intro HF H ds vs d Q sm r hg q
  obtain⟨es,h1,hg⟩:=bs hg
  obtain⟨ns,h2,hg⟩:=bs hg
  have hg:(if FZ ns=true then some (PyData.int ns.sum) else none)=some d:=hg
  split at hg
  ·rename_i hok
   cases hg
   have e2:=cy h2
   subst e2
   rcases gg h1 with rfl|rfl
   all_goals
    obtain⟨v,r',rfl,a,b⟩:=r.cons_inv
    rw[b.nil_inv]
    simp only[Rep] at a
    obtain⟨p,us,rfl,h,rr⟩:=a
    have:=hZ rr
    subst this
   ·exact⟨p,ns,rfl,.inr (av sm h),hok,q _ H HF (.refl sm) (by simp[Rep])⟩
   ·exact⟨p,ns,rfl,.inl (sm.seq h),hok,q _ H HF (.refl sm) (by simp[Rep])⟩
  ·cases hg) B ha (by decide) (by decide) he rfl
end
section
variable {X:Cx}
noncomputable def KA(i:Int):Value->Bool|.int a _=>a == i|_=>false
theorem AV:Ku X "list.index" (fun x vs H Q=>∃ (l:Addr) (ns:List Int) (i:Int) (j:Nat),x=.ref l/\vs=[.int i]/\gG X.K H l (ns.map V.int)/\ns[j]?=some i/\(∀m,m < j->ns[m]?≠some i)/\Q (.int j) H):=by
 intro pins s σ H x vs v us Q I rx rv h
 obtain⟨l,ns,i,j,rfl,rfl,hq,hj,hno,q⟩:=h
 cases rx
 obtain⟨u,rfl,ru⟩:=rv.one
 obtain⟨t,rfl⟩:=ru
 obtain⟨its,r,pl,hz⟩:=I.list hq
 obtain⟨⟨cls,dd,data,sl⟩,ho,hc,n,hd⟩:=id pl.isList
 simp only at hc hd
 subst hc hd
 have hl:its.length=ns.length:=by rw[<- r.length,zD]
 have hj1:j < ns.length:=(zU.mp hj).1
 have hz':ns.length<=sizeLine:=by rw[zD] at hz;exact hz
 have hs63:(sizeLine:Nat) < 2 ^ 62:=by decide
 have at_:∀m (hm:m < its.toArray.size),∃t',its.toArray[m]=.int (ns.getD m 0) t':=fun m hm=>nH r (Array.getElem?_eq_getElem hm)
 refine call_meets F.slot_list_index ⟨_,ho,rfl⟩ F.entry_list_index (F.args_list_index_2 _ _) (PySem.SeqAt.list_indexAt l its.toArray n dd sl (.int i t) (KA i) j (by rw[zH,hl];exact hj1) (by omega) ?_ ?_) ⟨ho,?_,?_⟩
 ·obtain⟨t',e⟩:=at_ j (by rw[zH,hl];exact hj1)
  rw[e,KA,zG,hj]
  simp
 ·intro m hm hmj
  obtain⟨t',e⟩:=at_ m hm
  have hm':m < ns.length:=by omega
  have:=hno m hmj
  rw[e,KA,zG]
  rw[zK hm'] at this ⊢
  simp only[Option.getD_some,beq_eq_false_iff_ne]
  exact fun h=>this (by rw[h])
 ·intro y hy
  obtain⟨m,hm,rfl⟩:=Array.getElem_of_mem hy
  obtain⟨t',e⟩:=at_ m hm
  rw[e]
  exact PySem.SeqAt.EqAt.int_int _ _ _ _
 ·exact⟨.int j,H,I.tok _,⟨_,rfl⟩,q⟩
noncomputable def uw(i:Int):List Int->Option Nat
 | []=>none
 | n::ns=>if n=i then some 0 else (uw i ns).map (·+1)
theorem lV{i:Int}:∀ {ns:List Int}{j:Nat},uw i ns=some j->ns[j]?=some i/\∀m,m < j->ns[m]?≠some i
 | [],j,h=>by cases h
 | n::ns,j,h=>by
  unfold uw at h
  split at h
  ·cases h
   rename_i e
   exact⟨by rw[e];rfl,fun m hm=>absurd hm (Nat.not_lt_zero _)⟩
  ·rename_i e
   obtain⟨k,hk,rfl⟩:=af h
   obtain⟨a,b⟩:=lV hk
   refine⟨by simpa using a,fun m hm=>?_⟩
   cases m with
   | zero=>simpa using e
   | succ m=>simpa using b m (by omega)
noncomputable def LZ:D->D->Option D
 | .list es,.int i=>(intsOf es).bind fun ns=>(uw i ns).map fun j=>.int ((j:Nat):Int)
 | _,_=>none
theorem B1{o e:Expr}{apos cpos:Pos}{fo fe:Env->Option D}(hbase:attributeBase o "index" X.env (eval o X.env)=eval o X.env)
  (hfew:((backTo cpos (starEach [e] X.env)).all (fun x=>!x.1)&&(backToKw cpos (keywordEach [] X.env)).all (fun x=>x.1.isSome)&&decide ([e].length+([]:List Keyword).length+(if ([]:List Keyword).isEmpty then 0 else 1) < 30))=true)
  (hline:(apos.endLine == cpos.line)=true) (hs:starEach [e] X.env=(false,eval e X.env)::starEach [] X.env) (ho:DE X o fo) (he:DE X e fe):DE X (.Call (.Attribute o "index" apos) [e] [] cpos) (f2 LZ fo fe) :=
 aN (rJ PySem.F.plainAttrs_list PySem.F.slot_list_index PySem.F.type_list_index AV ho (bS he d5 hs) hbase hfew hline hs rfl) fun σ H Q ⟨HF,ρ,d,sm,eo,hf,q⟩=>by
  obtain⟨x,hx,hf⟩:=bs hf
  obtain⟨y,hy,hg⟩:=bs hf
  refine⟨HF,ρ,x,sm,eo,hx,fun v1 H1 HF1 g1 r1=>?_⟩
  cases x<;>try cases hg
  cases y<;>try cases hg
  rename_i es i
  obtain⟨ns,h1,hg⟩:=bs hg
  obtain⟨j,h2,rfl⟩:=af hg
  have e1:=cy h1
  subst e1
  simp only[Rep] at r1
  obtain⟨l,us,rfl,hq,rr⟩:=r1
  have:=hZ rr
  subst this
  refine⟨.inl ⟨rfl,_,g1.fh.seq hq⟩,HF1,ρ,.int i,g1.fh,eo.mono g1.ff,hy,fun v2 H2 HF2 g2 r2=>?_⟩
  simp only[Rep] at r2
  obtain⟨a,b⟩:=lV h2
  exact⟨l,ns,i,j,rfl,by rw[r2],g2.fh.seq (g2.ff.seq hq),a,b,q _ H2 HF2 (g1.trans g2) (by simp[Rep])⟩
end
end Dl
namespace Tx
open PySem PySem.SeqAt PyProof.Rows
open PySem.AutoSeq1 (wpAny_loadPart')
open PySem.MeetsSeq PySem.MeetsSeq2 PySem.MeetsSeq3
theorem wpR{M:Model}{A:Around}{E:Value->Shared->Prop}{s:Shared}{β:Type}(f:Nat->β->Sem (ForInStep β))(I:List Nat->β->Shared->Prop)(Q:β->Shared->Prop)
  (turn:∀x rest b s,I (x::rest) b s->wpAny M A (f x b) (fun r s'=>match r with|.yield b'=>I rest b' s'|.done b'=>Q b' s') E s)
  (fin:∀b s,I [] b s->Q b s) (n:Nat) (b:β) (h:I (List.range' 0 n 1) b s):wpAny M A (forIn [:n] b f) Q E s:=by
 have e:forIn [:n] b f=forIn (List.range' 0 n 1) b f:=by
  rw[Std.Legacy.Range.forIn_eq_forIn_range']
  simp[Std.Legacy.Range.size]
 rw[e]
 exact wpAny_forIn_list f I Q turn fin _ b h
theorem tuple_indexAt(l:Addr)(items:Array Value)(n:Nat)(dd:Option Addr)(sl:Array (Option Value))(x:Value)(e:Value->Bool)(j:Nat)(hj:j < items.size)(h1:e items[j]=true)(h2:∀m (hm:m < items.size),m < j->e items[m]=false) :
  Meets (Builtin.«tuple.index» ⟨[.ref l,x],[]⟩)
   (fun A R s=>s.heap.get? l=some { cls:=.type "tuple",dict:=dd,data:=.seq items n,slots:=sl }/\(∀y,y∈items->EqAt A.in1 s y x (e y))/\R (.ok (.ret (.int (j:Nat) s.toks))) { s with toks:=s.toks+1 }) :=
 .of_wp fun prog w A R s h=>by
  obtain⟨hp,g,d,tk,os⟩:=s;obtain⟨hl,he,h⟩:=h
  wp_walk using wpAny_loadPart' hl,wpR _ (fun rest b s'=>s'=⟨hp,g,d,tk,os⟩/\b.1=none/\∃i,i<=j/\rest=List.range' i (items.size - i) 1) _
  case turn =>
   rintro i rest b s' ⟨rfl,hb,i',hi,e1⟩
   have hlt:i' < items.size:=by omega
   rw[show items.size - i'=(items.size - (i'+1))+1 by omega,List.range'_succ] at e1
   injection e1 with e2 e3
   subst e2
   subst e3
   simp only[Array.getElem?_eq_getElem hlt]
   refine zW (he _ (Array.getElem_mem hlt) prog w _ _ ?_)
   by_cases hij:i=j
   ·subst hij
    rw[h1]
    wp_walk
    exact⟨_,rfl,h⟩
   ·rw[h2 i hlt (by omega)]
    wp_walk
    exact⟨rfl,rfl,i+1,by omega,rfl⟩
  case fin =>
   rintro b s' ⟨rfl,hb,i,hi,e1⟩
   have:=congrArg List.length e1
   simp at this
   omega
  case h =>
   exact⟨rfl,rfl,0,Nat.zero_le _,by simp⟩
end Tx
namespace Dl
open PySem L2 PySem.Spec PyProof.Rows
section
variable {X:Cx}
theorem Bf:Ku X "tuple.index" (fun x vs H Q=>∃ (l:Addr) (ns:List Int) (i:Int) (j:Nat),x=.ref l/\vs=[.int i]/\gT X.K H l (ns.map V.int)/\ns[j]?=some i/\(∀m,m < j->ns[m]?≠some i)/\Q (.int j) H):=by
 intro pins s σ H x vs v us Q I rx rv h
 obtain⟨l,ns,i,j,rfl,rfl,hq,hj,hno,q⟩:=h
 cases rx
 obtain⟨u,rfl,ru⟩:=rv.one
 obtain⟨t,rfl⟩:=ru
 obtain⟨its,r,pl,hz⟩:=I.tuple hq
 obtain⟨⟨cls,dd,data,sl⟩,ho,hc,n,hd⟩:=id pl
 simp only at hc hd
 subst hc hd
 have hl:its.length=ns.length:=by rw[<- r.length,zD]
 have hj1:j < ns.length:=(zU.mp hj).1
 have at_:∀m (hm:m < its.toArray.size),∃t',its.toArray[m]=.int (ns.getD m 0) t':=fun m hm=>nH r (Array.getElem?_eq_getElem hm)
 refine call_meets F.slot_tuple_index ⟨_,ho,rfl⟩ F.entry_tuple_index (F.args_tuple_index_2 _ _) (Tx.tuple_indexAt l its.toArray n dd sl (.int i t) (KA i) j (by rw[zH,hl];exact hj1) ?_ ?_) ⟨ho,?_,?_⟩
 ·obtain⟨t',e⟩:=at_ j (by rw[zH,hl];exact hj1)
  rw[e,KA,zG,hj]
  simp
 ·intro m hm hmj
  obtain⟨t',e⟩:=at_ m hm
  have hm':m < ns.length:=by
   rw[zH] at hm
   omega
  have:=hno m hmj
  rw[e,KA,zG]
  rw[zK hm'] at this ⊢
  simp only[Option.getD_some,beq_eq_false_iff_ne]
  exact fun h=>this (by rw[h])
 ·intro y hy
  obtain⟨m,hm,rfl⟩:=Array.getElem_of_mem hy
  obtain⟨t',e⟩:=at_ m hm
  rw[e]
  exact PySem.SeqAt.EqAt.int_int _ _ _ _
 ·exact⟨.int j,H,I.tok _,⟨_,rfl⟩,q⟩
theorem Ds{e:Expr}{t u:TE}(h:PE X e t)(g:PE X e u):PE X e (fun σ H Q=>t σ H Q\/u σ H Q):=fun pins s σ H Q I q=>q.elim (h pins s σ H Q I) (g pins s σ H Q I)
noncomputable def ni:D->D->Option D
 | .list es,.int i=>(intsOf es).bind fun ns=>(uw i ns).map fun j=>.int ((j:Nat):Int)
 | .tuple es,.int i=>(intsOf es).bind fun ns=>(uw i ns).map fun j=>.int ((j:Nat):Int)
 | _,_=>none
theorem Ac{o e:Expr}{apos cpos:Pos}{fo fe:Env->Option D}(hbase:attributeBase o "index" X.env (eval o X.env)=eval o X.env)
  (hfew:((backTo cpos (starEach [e] X.env)).all (fun x=>!x.1)&&(backToKw cpos (keywordEach [] X.env)).all (fun x=>x.1.isSome)&&decide ([e].length+([]:List Keyword).length+(if ([]:List Keyword).isEmpty then 0 else 1) < 30))=true)
  (hline:(apos.endLine == cpos.line)=true) (hs:starEach [e] X.env=(false,eval e X.env)::starEach [] X.env) (ho:DE X o fo) (he:DE X e fe):DE X (.Call (.Attribute o "index" apos) [e] [] cpos) (f2 ni fo fe) :=
 aN (Ds (B1 hbase hfew hline hs ho he) (rJ PySem.F.plainAttrs_tuple PySem.F.slot_tuple_index PySem.F.type_tuple_index Bf ho (bS he d5 hs) hbase hfew hline hs rfl)) fun σ H Q ⟨HF,ρ,d,sm,eo,hf,q⟩=>by
  obtain⟨x,hx,hf⟩:=bs hf
  obtain⟨y,hy,hg⟩:=bs hf
  cases x<;>try cases hg
  ·cases y<;>try cases hg
   rename_i es i
   exact .inl ⟨HF,ρ,d,sm,eo,by simp only[f2,hx,hy,zA];exact hg,q⟩
  ·cases y<;>try cases hg
   rename_i es i
   obtain⟨ns,h1,hg⟩:=bs hg
   obtain⟨j,h2,rfl⟩:=af hg
   have e1:=cy h1
   subst e1
   refine .inr ⟨HF,ρ,_,sm,eo,hx,fun v1 H1 HF1 g1 r1=>?_⟩
   simp only[Rep] at r1
   obtain⟨l,us,rfl,hq,rr⟩:=r1
   have:=hZ rr
   subst this
   refine⟨?_,HF1,ρ,.int i,g1.fh,eo.mono g1.ff,hy,fun v2 H2 HF2 g2 r2=>?_⟩
   ·first|exact .inr (.inl ⟨rfl,_,av g1.fh hq⟩)|exact .inl ⟨rfl,_,av g1.fh hq⟩|exact .inr ⟨rfl,_,av g1.fh hq⟩
   ·simp only[Rep] at r2
    obtain⟨a,b⟩:=lV h2
    exact⟨l,ns,i,j,rfl,by rw[r2],av g2.fh (av g2.ff hq),a,b,q _ H2 HF2 (g1.trans g2) (by simp[Rep])⟩
end
end Dl
namespace Zp
open PySem PyProof.Rows
def IsI(b:Bool)(h:Heap)(it l:Addr)(k:Nat):Prop:=match b with|true=>h.IsTupleIter it l k|false=>h.IsListIter it l k
def IsS(b:Bool)(h:Heap)(l:Addr)(xs:Array Value):Prop:=match b with|true=>h.IsTuple l xs|false=>h.IsList l xs
theorem IsI.obj{b:Bool}{h:Heap}{it l:Addr}{k:Nat}(x:IsI b h it l k):∃o,h.get? it=some o/\∀v,o.data≠.cell v:=by
 cases b
 ·obtain⟨o,e,_,d⟩:=(show h.IsListIter it l k from x);exact⟨o,e,fun v q=>by rw[d] at q;cases q⟩
 ·obtain⟨o,e,_,d⟩:=(show h.IsTupleIter it l k from x);exact⟨o,e,fun v q=>by rw[d] at q;cases q⟩
theorem IsI.at{b:Bool}{h h':Heap}{it l:Addr}{k:Nat}(x:IsI b h it l k)(e:∀o,h.get? it=some o->h'.get? it=some o):IsI b h' it l k:=by
 cases b
 ·exact Heap.IsListIter.at x e
 ·exact Heap.IsTupleIter.at x e
theorem IsI.extBut{b:Bool}{h h':Heap}{a it l:Addr}{k:Nat}(x:IsI b h it l k)(e:Heap.ExtBut a h h')(n:it≠a):IsI b h' it l k:=x.at fun o q=>e it o n q
theorem IsS.at{b:Bool}{h h':Heap}{l:Addr}{xs:Array Value}(x:IsS b h l xs)(e:∀o,h.get? l=some o->h'.get? l=some o):IsS b h' l xs:=by
 cases b
 ·obtain⟨o,q,r⟩:=(show h.IsList l xs from x);exact⟨o,e o q,r⟩
 ·obtain⟨o,q,r⟩:=(show h.IsTuple l xs from x);exact⟨o,e o q,r⟩
theorem IsS.extBut{b:Bool}{h h':Heap}{a l:Addr}{xs:Array Value}(x:IsS b h l xs)(e:Heap.ExtBut a h h')(n:l≠a):IsS b h' l xs:=x.at fun o q=>e l o n q
section
variable {prog:Program}{w:World}{A:Around}{E:Value->Shared->Prop}{s:Shared}
theorem nxt{b:Bool}{j t:Addr}{k:Nat}{its:Array Value}{v:Value}{Q:Value->Shared->Prop}(hj:IsI b s.heap j t k)(ht:IsS b s.heap t its)(hv:its[k]?=some v)
  (hQ:∀g,IsI b g j t (k+1)->Heap.SameBut j s.heap g->Q v { s with heap:=g }):wpAny (model prog w) A (Builtin.SmallTypes.nextOf (.ref j)) Q E s:=by
 cases b
 ·exact wpAny_nextOf_list_item hj ht hv hQ
 ·exact En.nextT_item hj ht hv hQ
theorem nxtE{b:Bool}{j t:Addr}{k:Nat}{its:Array Value}{Q:Value->Shared->Prop}(hh:A.handled=none)(hj:IsI b s.heap j t k)(ht:IsS b s.heap t its)(hv:its[k]?=none)
  (hE:∀g x,Heap.ExtBut j s.heap g->(∃o,g.get? x=some o/\o.cls=.type "StopIteration")->E (.ref x) { s with heap:=g }):wpAny (model prog w) A (Builtin.SmallTypes.nextOf (.ref j)) Q E s:=by
 cases b
 ·exact wpAny_nextOf_list_end hh hj ht hv hE
 ·exact En.nextT_end hh hj ht hv hE
structure ZS(b₁ b₂:Bool)(h₀ h:Heap)(z TI TO i j l m:Addr)(xs ys:Array Value)(f:Value)(p q:Nat)(a b:Value):Prop where
 zo:IsZip h z TI TO f
 ti:IsPair h TI (.ref i) (.ref j)
 to:IsPair h TO a b
 wi:IsI b₁ h i l p
 wj:IsI b₂ h j m q
 sl:IsS b₁ h l xs
 sm:IsS b₂ h m ys
 kp:∀c o,c≠z->c≠TO->c≠i->c≠j->h₀.get? c=some o->h.get? c=some o
 sz:h.objs.size=h₀.objs.size
section
variable {b₁ b₂:Bool}{h₀ h g:Heap}{z TI TO i j l m:Addr}{xs ys:Array Value}{f f':Value}{p q:Nat}{a b x y:Value}
theorem ZS.fl(Z:ZS b₁ b₂ h₀ h z TI TO i j l m xs ys f p q a b)(D:ZipApart z TI TO i j l m)(e:IsZip g z TI TO f')(t:Heap.SameBut z h g):ZS b₁ b₂ h₀ g z TI TO i j l m xs ys f' p q a b :=
 ⟨e,t.extBut _ _ D.TIz Z.ti,t.extBut _ _ D.TOz Z.to,Z.wi.extBut t.extBut D.i1z,Z.wj.extBut t.extBut D.i2z,Z.sl.extBut t.extBut D.l1z,Z.sm.extBut t.extBut D.l2z,fun c o n1 n2 n3 n4 r=>t.extBut _ _ n1 (Z.kp c o n1 n2 n3 n4 r),t.1.trans Z.sz⟩
theorem ZS.fst(Z:ZS b₁ b₂ h₀ h z TI TO i j l m xs ys f p q a b)(D:ZipApart z TI TO i j l m)(e:IsI b₁ g i l (p+1))(t:Heap.SameBut i h g):ZS b₁ b₂ h₀ g z TI TO i j l m xs ys f (p+1) q a b :=
 ⟨t.extBut _ _ D.i1z.symm Z.zo,t.extBut _ _ D.TIi1 Z.ti,t.extBut _ _ D.TOi1 Z.to,e,Z.wj.extBut t.extBut D.i12.symm,Z.sl.extBut t.extBut D.l1i1,Z.sm.extBut t.extBut D.l2i1,fun c o n1 n2 n3 n4 r=>t.extBut _ _ n3 (Z.kp c o n1 n2 n3 n4 r),t.1.trans Z.sz⟩
theorem ZS.snd(Z:ZS b₁ b₂ h₀ h z TI TO i j l m xs ys f p q a b)(D:ZipApart z TI TO i j l m)(e:IsI b₂ g j m (q+1))(t:Heap.SameBut j h g):ZS b₁ b₂ h₀ g z TI TO i j l m xs ys f p (q+1) a b :=
 ⟨t.extBut _ _ D.i2z.symm Z.zo,t.extBut _ _ D.TIi2 Z.ti,t.extBut _ _ D.TOi2 Z.to,Z.wi.extBut t.extBut D.i12,e,Z.sl.extBut t.extBut D.l1i2,Z.sm.extBut t.extBut D.l2i2,fun c o n1 n2 n3 n4 r=>t.extBut _ _ n4 (Z.kp c o n1 n2 n3 n4 r),t.1.trans Z.sz⟩
theorem ZS.put(Z:ZS b₁ b₂ h₀ h z TI TO i j l m xs ys f p q a b)(D:ZipApart z TI TO i j l m)(e:IsPair g TO x y)(t:Heap.SameBut TO h g):ZS b₁ b₂ h₀ g z TI TO i j l m xs ys f p q x y :=
 ⟨t.extBut _ _ D.TOz.symm Z.zo,t.extBut _ _ D.TITO Z.ti,e,Z.wi.extBut t.extBut D.TOi1.symm,Z.wj.extBut t.extBut D.TOi2.symm,Z.sl.extBut t.extBut D.l1TO,Z.sm.extBut t.extBut D.l2TO,fun c o n1 n2 n3 n4 r=>t.extBut _ _ n2 (Z.kp c o n1 n2 n3 n4 r),t.1.trans Z.sz⟩
end
variable {b₁ b₂:Bool}{z TI TO i j l m:Addr}{xs ys:Array Value}{p q:Nat}{a b:Value}
theorem zipN{Q:Value->Shared->Prop}(hn:A.handled=none)(D:ZipApart z TI TO i j l m)(Z:ZS b₁ b₂ s.heap s.heap z TI TO i j l m xs ys .none p q a b)
  (item:∀x y g g',xs[p]?=some x->ys[q]?=some y->ZS b₁ b₂ s.heap g z TI TO i j l m xs ys .ellipsis (p+1) (q+1) x y->IsZip g' z TI TO (rawInt g.objs.size) ->
   Heap.SameBut z (g.push { cls:=.type "tuple",data:=.seq #[x,y] }) g'->Q (.ref g.objs.size) { s with heap:=g' })
  (over:(xs[p]?=none\/ys[q]?=none)->∀g e,(∀c o,c≠z->c≠TO->c≠i->c≠j->s.heap.get? c=some o->g.get? c=some o)->(∃o,g.get? e=some o/\o.cls=.type "StopIteration")->E (.ref e) { s with heap:=g }) :
  wpAny (model prog w) A (Builtin.«zip.__next__» ⟨[.ref z],[]⟩) (fun r s'=>∃v,r=.done (.ret v)/\Q v s') E s:=by
 have stop:∀ {g1 g2:Heap}{e:Addr}{c:Addr}{p' q':Nat}{a' b':Value},ZS b₁ b₂ s.heap g1 z TI TO i j l m xs ys .ellipsis p' q' a' b'->(c=i\/c=j)->(xs[p]?=none\/ys[q]?=none)->Heap.ExtBut c g1 g2 ->
   (∃o,g2.get? e=some o/\o.cls=.type "StopIteration")->wpAny (model prog w) A (setField (.ref z) 0 Value.none) (fun _ t=>E (.ref e) t) E { s with heap:=g2 }:=by
  intro g1 g2 e c p' q' a' b' Y hc hv k ⟨o,ho,ht⟩
  have cz:z≠c:=hc.elim (fun e=>e ▸ D.i1z.symm) fun e=>e ▸ D.i2z.symm
  have Yz:IsZip g2 z TI TO .ellipsis:=k _ _ cz Y.zo
  refine wpAny_setField_rec Yz (by simp) fun g3 _ t=>over hv g3 e (fun d u n1 n2 n3 n4 r=>t.extBut _ _ n1 (k _ _ ?_ (Y.kp d u n1 n2 n3 n4 r))) ⟨o,t.extBut _ _ ?_ ho,ht⟩
  ·exact hc.elim (fun e=>e ▸ n3) fun e=>e ▸ n4
  ·rintro rfl;rw[Yz] at ho;cases ho;simp at ht
 show wpAny _ _ (field (.ref z) 2 >>= _) _ _ _
 refine zW (wpAny_field Z.zo rfl (x:=.bool false) rfl (zW (wpAny_field Z.zo rfl (x:=.ref TI) rfl (zW (wpAny_seqItems Z.ti rfl (zW (m:=Builtin.SmallTypes.ownedTupleIsFree _) ?_))))))
 refine zW (wpAny_field Z.zo rfl (x:=.none) rfl (zX ?_))
 rw[if_pos rfl]
 refine zW (wpAny_rule (zW (wpAny_field Z.zo rfl (x:=.ref TO) rfl (zW (wpAny_setField_rec Z.zo (by simp) fun g1 e1 t1=>?_)))))
 have Z1:=Z.fl D (f':=.ellipsis) e1 t1
 refine zW ?_
 simp only[List.zipIdx_cons,List.zipIdx_nil,List.forIn_cons,List.forIn_nil]
 refine zW (zW (wpAny_onRaise (zW (m:=Builtin.SmallTypes.nextOf _) ?_)))
 cases hx:xs[p]? with
 | none=>exact nxtE hn Z1.wi Z1.sl hx fun g2 e k o=>stop Z1 (.inl rfl) (.inl hx) k o
 | some x =>
 refine nxt Z1.wi Z1.sl hx fun g2 e2 t2=>zX ?_
 have Z2:=Z1.fst D e2 t2
 refine zW (wpAny_seqItems Z2.to rfl (zW (wpAny_updateSeq_pair Z2.to fun g3 e3 t3=>zW (wpAny_letGo (zX ?_)))))
 have Z3:=Z2.put D (x:=x) (y:=b) e3 t3
 refine zW (zW (wpAny_onRaise (zW (m:=Builtin.SmallTypes.nextOf _) ?_)))
 cases hy:ys[q]? with
 | none=>exact nxtE hn Z3.wj Z3.sm hy fun g4 e k o=>stop Z3 (.inr rfl) (.inr hy) k o
 | some y =>
 refine nxt Z3.wj Z3.sm hy fun g4 e4 t4=>zX ?_
 have Z4:=Z3.snd D e4 t4
 refine zW (wpAny_seqItems Z4.to rfl (zW (wpAny_updateSeq_pair Z4.to fun g5 e5 t5=>zW (wpAny_letGo (zX (zX ?_))))))
 have Z5:=Z4.put D (x:=x) (y:=y) e5 t5
 refine zW (wpAny_seqItems Z5.to rfl (zW (wpAny_newTuple (zW (m:=Builtin.SmallTypes.ownedTupleHandOut _ _) ?_))))
 refine zW (wpAny_setField_rec (zV _ Z5.zo) (by simp) fun g6 e6 t6=>wpAny_setField_rec e6 (by simp) fun g7 e7 t7=>zX ⟨_,rfl,?_⟩)
 exact item x y g5 g7 hx hy Z5 e7 (t6.trans t7)
theorem nextZ{x y:Value}{Q:Option Value->Shared->Prop}(hn:A.handled=none)(D:ZipApart z TI TO i j l m)
  (qz:IsZip s.heap z TI TO .none) (qI:IsPair s.heap TI (.ref i) (.ref j)) (qO:IsPair s.heap TO a b)
  (p1:IsI b₁ s.heap i l p) (p2:IsI b₂ s.heap j m q) (r1:IsS b₁ s.heap l xs) (r2:IsS b₂ s.heap m ys) (ex:xs[p]?=some x) (ey:ys[q]?=some y)
  (kQ:∀g,IsZip g z TI TO (rawInt s.heap.objs.size)->IsPair g TO x y->IsI b₁ g i l (p+1)->IsI b₂ g j m (q+1)->IsPair g s.heap.objs.size x y->g.objs.size=s.heap.objs.size+1 ->
   (∀c o,c≠z->c≠TO->c≠i->c≠j->s.heap.get? c=some o->g.get? c=some o)->Q (some (.ref s.heap.objs.size)) { s with heap:=g }) :
  wpAny (model prog w) A (pyNext (.ref z)) Q E s:=by
 have ty:s.TypeIs (.ref z) "zip":=⟨_,qz,rfl⟩
 have Z:ZS b₁ b₂ s.heap s.heap z TI TO i j l m xs ys .none p q a b:=⟨qz,qI,qO,p1,p2,r1,r2,fun _ _ _ _ _ _ e=>e,rfl⟩
 refine zW (wpAny_attempt (wpAny_callSpecial?_slot (name:=Str.ofString "__next__") ty F.slot_zip_next (wpAny_call_entry F.slot_zip_next ty F.entry_zip_next (zipN hn D Z ?_ ?_) (F.args_zip_next_1 _))))
 ·intro x' y' g g' hx hy Y ez t
  rw[ex] at hx;rw[ey] at hy;cases hx;cases hy
  rw[Y.sz] at ez ⊢
  have lt:=zZ Y.zo
  have up:∀c o,c≠z->g.get? c=some o->g'.get? c=some o:=fun c o n e=>t.extBut _ _ n (zV _ e)
  refine zX (kQ g' ez (up _ _ D.TOz Y.to) (Y.wi.at fun o e=>up _ _ D.i1z e) (Y.wj.at fun o e=>up _ _ D.i2z e) ?_ (by rw[t.1,Heap.size_push,Y.sz]) fun c o n1 n2 n3 n4 e=>up c o n1 (Y.kp c o n1 n2 n3 n4 e))
  rw[<- Y.sz]
  exact t.extBut _ _ (Nat.ne_of_gt lt) (zY _ rfl)
 ·intro no
  rw[ex,ey] at no
  rcases no with no|no<;>cases no
theorem nextZE{Q:Option Value->Shared->Prop}(hn:A.handled=none)(D:ZipApart z TI TO i j l m)
  (qz:IsZip s.heap z TI TO .none) (qI:IsPair s.heap TI (.ref i) (.ref j)) (qO:IsPair s.heap TO a b)
  (p1:IsI b₁ s.heap i l p) (p2:IsI b₂ s.heap j m q) (r1:IsS b₁ s.heap l xs) (r2:IsS b₂ s.heap m ys) (ends:xs[p]?=none\/ys[q]?=none)
  (kQ:∀g,(∀c o,c≠z->c≠TO->c≠i->c≠j->s.heap.get? c=some o->g.get? c=some o)->Q none { s with heap:=g }):wpAny (model prog w) A (pyNext (.ref z)) Q E s:=by
 have ty:s.TypeIs (.ref z) "zip":=⟨_,qz,rfl⟩
 have Z:ZS b₁ b₂ s.heap s.heap z TI TO i j l m xs ys .none p q a b:=⟨qz,qI,qO,p1,p2,r1,r2,fun _ _ _ _ _ _ e=>e,rfl⟩
 refine zW (wpAny_attempt (wpAny_callSpecial?_slot (name:=Str.ofString "__next__") ty F.slot_zip_next (wpAny_call_entry F.slot_zip_next ty F.entry_zip_next (zipN hn D Z ?_ ?_) (F.args_zip_next_1 _))))
 ·intro x y g g' hx hy
  rw[hx,hy] at ends
  rcases ends with no|no<;>cases no
 ·rintro _ g e kp ⟨o,ho,ht⟩
  exact zW (wpAny_isInstance (T:="StopIteration") (b:=true) ⟨o,ho,ht⟩ isSubtype_stop (zX (kQ _ kp)))
end
noncomputable abbrev itO(b:Bool)(l:Addr):Obj:={ cls:=.type (if b then "tuple_iterator" else "list_iterator"),data:=.fields #[.ref l,.int 0 0] }
noncomputable abbrev z1(b:Bool)(h:Heap)(l:Addr):Heap:=h.push (itO b l)
noncomputable abbrev z2(b c:Bool)(h:Heap)(l m:Addr):Heap:=(z1 b h l).push (itO c m)
noncomputable abbrev z3(b c:Bool)(h:Heap)(l m:Addr):Heap:=(z2 b c h l m).push { cls:=.type "tuple",data:=.seq #[.ref h.objs.size,.ref (z1 b h l).objs.size] }
noncomputable abbrev z4(b c:Bool)(h:Heap)(l m:Addr):Heap:=(z3 b c h l m).push { cls:=.type "tuple",data:=.seq #[.none,.none] }
noncomputable abbrev z5(b c:Bool)(h:Heap)(l m:Addr):Heap:=(z4 b c h l m).push { cls:=.type "zip",data:=.fields #[.none,.bool false,.bool false,.ref (z2 b c h l m).objs.size,.ref (z3 b c h l m).objs.size] }
theorem IsS.push{b:Bool}{h:Heap}{l:Addr}{xs:Array Value}(x:IsS b h l xs)(o:Obj):IsS b (h.push o) l xs:=x.at fun o' e=>zV _ e
theorem new_zip(b c:Bool)(l m:Addr)(xs ys:Array Value):Meets (Builtin.«zip.__new__» ⟨[.type "zip",.ref l,.ref m],[]⟩) (fun _ R s=>IsS b s.heap l xs/\IsS c s.heap m ys/\R (.ok (.ret (.ref (z4 b c s.heap l m).objs.size))) { s with heap:=z5 b c s.heap l m }) :=
 .of_wp fun prog w A R s h=>by
  obtain⟨hp,g,d,tk,os⟩:=s;obtain⟨q1,q2,h⟩:=h
  have hsub:=sub_zip
  cases b<;>cases c
  ·have L1:Heap.IsList (Shared.heap ⟨hp,g,d,tk,os⟩) l xs:=q1
   have L2:Heap.IsList (Shared.heap ⟨hp.push { cls:=.type "list_iterator",data:=.fields #[.ref l,.int 0 0] },g,d,tk,os⟩) m ys:=IsS.push (b:=false) q2 _
   wp_walk using wpAny_pyIter_list L1,wpAny_pyIter_list L2
   exact⟨_,rfl,h⟩
  ·have L1:Heap.IsList (Shared.heap ⟨hp,g,d,tk,os⟩) l xs:=q1
   have L2:Heap.IsTuple (Shared.heap ⟨hp.push { cls:=.type "list_iterator",data:=.fields #[.ref l,.int 0 0] },g,d,tk,os⟩) m ys:=IsS.push (b:=true) q2 _
   wp_walk using wpAny_pyIter_list L1,wpAny_pyIter_tuple L2
   exact⟨_,rfl,h⟩
  ·have L1:Heap.IsTuple (Shared.heap ⟨hp,g,d,tk,os⟩) l xs:=q1
   have L2:Heap.IsList (Shared.heap ⟨hp.push { cls:=.type "tuple_iterator",data:=.fields #[.ref l,.int 0 0] },g,d,tk,os⟩) m ys:=IsS.push (b:=false) q2 _
   wp_walk using wpAny_pyIter_tuple L1,wpAny_pyIter_list L2
   exact⟨_,rfl,h⟩
  ·have L1:Heap.IsTuple (Shared.heap ⟨hp,g,d,tk,os⟩) l xs:=q1
   have L2:Heap.IsTuple (Shared.heap ⟨hp.push { cls:=.type "tuple_iterator",data:=.fields #[.ref l,.int 0 0] },g,d,tk,os⟩) m ys:=IsS.push (b:=true) q2 _
   wp_walk using wpAny_pyIter_tuple L1,wpAny_pyIter_tuple L2
   exact⟨_,rfl,h⟩
section
variable {prog:Program}{w:World}{A:Around}{E:Value->Shared->Prop}{s:Shared}
theorem isI_new{b:Bool}{h:Heap}{it l:Addr}(e:h.get? it=some (itO b l)):IsI b h it l 0:=by
 cases b
 ·exact⟨_,e,rfl,rfl⟩
 ·exact⟨_,e,rfl,rfl⟩
theorem call_zip{b c:Bool}{l m:Addr}{xs ys:Array Value}{Q:Value->Shared->Prop}(q1:IsS b s.heap l xs)(q2:IsS c s.heap m ys)
  (h:∀g,IsZip g (s.heap.objs.size+4) (s.heap.objs.size+2) (s.heap.objs.size+3) .none->IsPair g (s.heap.objs.size+2) (.ref s.heap.objs.size) (.ref (s.heap.objs.size+1))->IsPair g (s.heap.objs.size+3) .none .none ->
   IsI b g s.heap.objs.size l 0->IsI c g (s.heap.objs.size+1) m 0->(∀a o,s.heap.get? a=some o->g.get? a=some o)->Q (.ref (s.heap.objs.size+4)) { s with heap:=g }) :
  wpAny (model prog w) A (call (.type "zip") [.ref l,.ref m]) Q E s:=by
 refine callType_new F.called_zip (by decide) (F.typeCall_zip_2 _ _) (F.newCall_zip_2 _ _) (fun obj=>F.args_object_init_3 obj _ _) F.entry_zip_new (new_zip b c l m xs ys) ⟨q1,q2,?_⟩
 have n1:(z1 b s.heap l).objs.size=s.heap.objs.size+1:=Heap.size_push ..
 have n2:(z2 b c s.heap l m).objs.size=s.heap.objs.size+2:=by rw[Heap.size_push,n1]
 have n3:(z3 b c s.heap l m).objs.size=s.heap.objs.size+3:=by rw[Heap.size_push,n2]
 have n4:(z4 b c s.heap l m).objs.size=s.heap.objs.size+4:=by rw[Heap.size_push,n3]
 have g5:(z5 b c s.heap l m).get? (z4 b c s.heap l m).objs.size=some _:=zY _ rfl
 have g4:(z5 b c s.heap l m).get? (z3 b c s.heap l m).objs.size=some _:=zV _ (zY _ rfl)
 have g3:(z5 b c s.heap l m).get? (z2 b c s.heap l m).objs.size=some _:=zV _ (zV _ (zY _ rfl))
 have g2:(z5 b c s.heap l m).get? (z1 b s.heap l).objs.size=some (itO c m):=zV _ (zV _ (zV _ (zY _ rfl)))
 have g1:(z5 b c s.heap l m).get? s.heap.objs.size=some (itO b l):=zV _ (zV _ (zV _ (zV _ (zY _ rfl))))
 show _/\_
 rw[n2,n3,n4] at g5
 rw[n1,n2] at g3
 rw[n3] at g4
 rw[n1] at g2
 rw[n4]
 exact⟨⟨_,g5,rfl⟩,h _ g5 g3 g4 (isI_new g1) (isI_new g2) fun a o x=>zV _ (zV _ (zV _ (zV _ (zV _ x))))⟩
end
end Zp
namespace Dl
open PySem L2 PySem.Spec PyProof.Rows Zp
def rY(K:W.Frag)(b:Bool)(a:Addr)(H:Hp)(xs:List V):Prop:=match b with|true=>gT K H a xs|false=>gG K H a xs
section
variable {X:Cx}{pins:List (Addr×Obj)}{σ:L2.St}{H:Hp}{s:Shared}{b:Bool}{a:Addr}{xs ys:List V}
theorem rY.src(I:Inv X pins σ H s)(h:rY X.K b a H xs):∃its:List Value,az xs its/\IsS b s.heap a its.toArray/\xs.length<=sizeLine:=by
 cases b
 ·obtain⟨its,rv,pl,hz⟩:=I.list (show gG X.K H a xs from h);exact⟨its,rv,pl.isList,hz⟩
 ·obtain⟨its,rv,pl,hz⟩:=I.tuple (show gT X.K H a xs from h);exact⟨its,rv,pl,hz⟩
theorem rY.ne(I:Inv X pins σ H s){c:Addr}(hf:ck X pins H c)(h:rY X.K b a H xs):a≠c:=by
 cases b
 ·exact JH I hf h
 ·exact Jv I hf h
theorem rY.inj(I:Inv X pins σ H s)(h:rY X.K b a H xs)(h':rY X.K b a H ys):xs=ys:=by
 cases b
 ·exact I.list_inj h h'
 ·exact I.tuple_inj h h'
theorem rY.mono{K:W.Frag}{H H':Hp}(e:aR H H')(h:rY K b a H xs):rY K b a H' xs:=by
 cases b
 ·exact e.seq h
 ·exact av e h
end
theorem Aw{P:Program}{w:World}{K:W.Frag}{elts:List Expr}{k:Nat}{pos:Pos}(b c:Bool)(l1 l2 z TI TO i1 i2:Addr)(Z:Nn z TI TO i1 i2) :
  Turn P w K (.Tuple elts k pos) (Mw (rY K b l1) (rY K c l2)) [z,TI,TO,i1,i2] z (fun i h=>IsZip h z TI TO .none/\IsPair h TI (.ref i1) (.ref i2)/\(∃a b,IsPair h TO a b)/\IsI b h i1 l1 i/\IsI c h i2 l2 i) where
 mem:=by simp
 obj:=fun i h st d hd=>by
  obtain⟨hz,hTI,⟨a,b',hTO⟩,p1,p2⟩:=st
  simp only[zR,yG,or_false] at hd
  rcases hd with rfl|rfl|rfl|rfl|rfl
  ·exact⟨_,hz,fun v q=>by have q:Data.fields _=Data.cell v:=q;cases q⟩
  ·exact⟨_,hTI,fun v q=>by have q:Data.seq _ _=Data.cell v:=q;cases q⟩
  ·exact⟨_,hTO,fun v q=>by have q:Data.seq _ _=Data.cell v:=q;cases q⟩
  ·exact p1.obj
  ·exact p2.obj
 keep:=fun i h h' st kk=>by
  obtain⟨hz,hTI,⟨a,b',hTO⟩,h1,h2⟩:=st
  exact⟨kk z (by simp) _ hz,kk TI (by simp) _ hTI,⟨a,b',kk TO (by simp) _ hTO⟩,h1.at fun o q=>kk i1 (by simp) o q,h2.at fun o q=>kk i2 (by simp) o q⟩
 item:=by
  intro X hP hw hK hc i pins s σ H E I hf st hg
  subst hP hw hK
  obtain⟨xs,ys,x,y,hq1,hq2,hx,hy⟩:=hg
  obtain⟨its1,rv1,p1,hz1⟩:=hq1.src I
  obtain⟨its2,rv2,p2,hz2⟩:=hq2.src I
  obtain⟨u1,hu1,ru1⟩:=rv1.get hx
  obtain⟨u2,hu2,ru2⟩:=rv2.get hy
  have D:ZipApart z TI TO i1 i2 l1 l2:=⟨Z.a1,Z.a2,Z.a3,Z.a4,Z.a5,Z.a6,Z.a7,Z.a8,Z.a9,Z.a0,hq1.ne I (hf z (by simp)),hq1.ne I (hf TO (by simp)),hq1.ne I (hf i1 (by simp)),hq1.ne I (hf i2 (by simp)),hq2.ne I (hf z (by simp)),hq2.ne I (hf TO (by simp)),hq2.ne I (hf i1 (by simp)),hq2.ne I (hf i2 (by simp))⟩
  obtain⟨hz,hTI,⟨a,b',hTO⟩,h1,h2⟩:=st
  refine nextZ (I.ok.hd hc) D hz hTI hTO h1 h2 p1 p2 (x:=u1) (y:=u2) (by simpa using hu1) (by simpa using hu2) fun g b1 b2 b3 b4 b5 b6 hk=>⟨.ref s.heap.objs.size,rfl,?_⟩
  have lt:∀ {c:Addr}{o:Obj},s.heap.get? c=some o->s.heap.objs.size≠c:=fun e=>Nat.ne_of_gt (zZ e)
  refine wpAny_letOwnedTupleGo_zip (s:={ s with heap:=g }) b1 fun g' hz' hs'=>?_
  have b5':g'.get? s.heap.objs.size=some { cls:=.type "tuple",data:=.seq #[u1,u2] }:=hs'.extBut _ _ (lt hz) b5
  have ht:l7 g' s.heap.objs.size (List.toArray [u1,u2]):=⟨⟨_,b5',rfl,_,rfl⟩,_,b5',rfl⟩
  refine⟨.ref s.heap.objs.size,_,uH (ch:=[z,TI,TO,i1,i2]) (xs:=[x,y]) (t':=s.toks) I hf (fun b o hb q=>?_) (Nat.le_refl _) ht (.cons ru1 (.cons ru2 .nil)) (by show 2<=sizeLine;decide),rfl,
   ⟨s.heap.objs.size,x,y,rfl,I.fresh,rfl,fun zs hzs=>by rw[hzs.inj I hq1];exact hx,fun zs hzs=>by rw[hzs.inj I hq2];exact hy⟩,
   ⟨hz',hs'.extBut _ _ Z.a1 (hk _ _ D.TIz D.TITO D.TIi1 D.TIi2 hTI),⟨_,_,hs'.extBut _ _ Z.a2 b2⟩,b3.extBut hs'.extBut Z.a3,b4.extBut hs'.extBut Z.a4⟩,fun b hb=>?_⟩
  ·simp only[zR,yG,or_false,not_or] at hb
   exact hs'.extBut _ _ hb.1 (hk b o hb.1 hb.2.2.1 hb.2.2.2.1 hb.2.2.2.2 q)
  ·have:s.heap.objs.size≠b:=by
    simp only[zR,yG,or_false] at hb
    obtain⟨o1,g1,_⟩:=h1.obj
    obtain⟨o2,g2,_⟩:=h2.obj
    rcases hb with rfl|rfl|rfl|rfl|rfl
    ·exact lt hz
    ·exact lt hTI
    ·exact lt hTO
    ·exact lt g1
    ·exact lt g2
   rw[ay (Ne.symm this)]
   exact (hf b hb).1
 done:=by
  intro X hP hw hK hc i pins s σ H E I hf st hg
  subst hP hw hK
  obtain⟨xs,ys,hq1,hq2,hx⟩:=hg
  obtain⟨its1,rv1,p1,hz1⟩:=hq1.src I
  obtain⟨its2,rv2,p2,hz2⟩:=hq2.src I
  have D:ZipApart z TI TO i1 i2 l1 l2:=⟨Z.a1,Z.a2,Z.a3,Z.a4,Z.a5,Z.a6,Z.a7,Z.a8,Z.a9,Z.a0,hq1.ne I (hf z (by simp)),hq1.ne I (hf TO (by simp)),hq1.ne I (hf i1 (by simp)),hq1.ne I (hf i2 (by simp)),hq2.ne I (hf z (by simp)),hq2.ne I (hf TO (by simp)),hq2.ne I (hf i1 (by simp)),hq2.ne I (hf i2 (by simp))⟩
  obtain⟨hz,hTI,⟨a,b',hTO⟩,h1,h2⟩:=st
  have e1:=rv1.length
  have e2:=rv2.length
  refine nextZE (I.ok.hd hc) D hz hTI hTO h1 h2 p1 p2 (hx.elim (fun q=>.inl (by simp;omega)) fun q=>.inr (by simp;omega)) fun g hk=>⟨rfl,?_⟩
  refine Ak (ch:=[z,TI,TO,i1,i2]) (t':=s.toks) I hf fun b o hb q=>?_
  simp only[zR,yG,or_false,not_or] at hb
  exact hk b o hb.1 hb.2.2.1 hb.2.2.2.1 hb.2.2.2.2 q
 self:=fun _ _ _ _ _ st h=>wpAny_pyIter_zip st.1 h
section
variable {X:Cx}{l l':Expr}{fs:Env->Option (List D)}{elts:List Expr}{k:Nat}{pos p tp:Pos}
theorem GL{tl:TA}(B:k3 X "zip" (.type "zip"))(ha:PA X [l,l'] tl)(hs:starEach [l,l'] X.env=(false,eval l X.env)::starEach [l'] X.env)(hs2:(backTo pos (starEach [l'] X.env)).any (·.1)=false) :
  PI X (.Tuple elts k tp) (.Call (.Name "zip" p) [l,l'] [] pos) (fun σ H R=>tl σ H fun vs H1=>∃a b,vs=[.ref a,.ref b]/\∃c d xs ys,rY X.K c a H1 xs/\rY X.K d b H1 ys/\R (Mw (rY X.K c a) (rY X.K d b)) H1):=by
 intro pins s σ H R I h
 refine Call_ (iN I B.gl B.mg B.bt (PyProof.Rows.callWith_type1 (bO (ha pos pins s σ H _ I h) fun us s1 ⟨vs,H1,I1,r1,q1⟩=>?_) hs hs2))
 obtain⟨a,b,e,c,d,xs,ys,hq1,hq2,q⟩:=q1
 subst e
 obtain⟨u,u',rfl,rx,ry⟩:=vals2 r1
 cases rx
 cases ry
 obtain⟨its,rv,pl,hz⟩:=hq1.src I1
 obtain⟨its',rv',pl',hz'⟩:=hq2.src I1
 refine call_zip pl pl' fun g b1 b2 b3 b4 b5 kp=>wpAny_pyIter_zip (s:={ s1 with heap:=g }) b1 ?_
 refine⟨_,_,_,_,H1,rfl,I1.kept (t':=s1.toks) kp,Aw c d a b (s1.heap.objs.size+4) (s1.heap.objs.size+2) (s1.heap.objs.size+3) s1.heap.objs.size (s1.heap.objs.size+1) ?_,⟨b1,b2,⟨_,_,b3⟩,b4,b5⟩,fun c hc=>?_,q⟩
 ·constructor<;>(intro z;have z:(_:Nat)=_:=z;omega)
 ·have hge:s1.heap.objs.size<=c:=by
   simp only[zR,yG,or_false] at hc
   rcases hc with rfl|rfl|rfl|rfl|rfl
   ·exact Nat.le_add_right _ _
   ·exact Nat.le_add_right _ _
   ·exact Nat.le_add_right _ _
   ·exact Nat.le_refl _
   ·exact Nat.le_add_right _ _
  exact I1.fpOk hge (I1.hok.fresh hge)
noncomputable def KL:List D->Option (List D):=fun ds=>match ds with
 | [x,y]=>(i7 x).bind fun xs=>(i7 y).map fun ys=>je xs ys
 | _=>none
theorem xm{K:W.Frag}{HF:Hp}{d:D}{v:V}{xs:List D}(h:i7 d=some xs)(r:Rep K HF d v):∃b a vs,v=.ref a/\rY K b a HF vs/\ak K HF xs vs:=by
 rcases kO h with rfl|rfl
 ·simp only[Rep] at r
  obtain⟨a,vs,rfl,q,rr⟩:=r
  exact⟨true,a,vs,rfl,q,rr⟩
 ·simp only[Rep] at r
  obtain⟨a,vs,rfl,q,rr⟩:=r
  exact⟨false,a,vs,rfl,q,rr⟩
noncomputable def iZ(fs:Env->Option (List D)):Env->Option (List D):=fun ρ=>(fs ρ).bind KL
theorem GM(B:k3 X "zip" (.type "zip"))(hs:starEach [l,l'] X.env=(false,eval l X.env)::starEach [l'] X.env)(hs2:(backTo pos (starEach [l'] X.env)).any (·.1)=false)(h:DA X [l,l'] fs) :
  DI X (.Tuple elts k tp) (.Call (.Name "zip" p) [l,l'] [] pos) (iZ fs) :=
 ug (GL B h hs hs2) fun σ H R ⟨HF,ρ,ds,sm,eo,hf,q⟩=>by
  obtain⟨x,hx,hf⟩:=bs hf
  refine⟨HF,ρ,_,sm,eo,hx,fun vs H1 HF1 g1 r1=>?_⟩
  unfold KL at hf
  split at hf
  ·obtain⟨xs,h1,hf⟩:=bs hf
   obtain⟨ys,h2,rfl⟩:=af hf
   obtain⟨v,r',rfl,a,b⟩:=r1.cons_inv
   obtain⟨v',r'',rfl,a',b'⟩:=b.cons_inv
   rw[b'.nil_inv]
   obtain⟨c,ad,us,rfl,hq,rr⟩:=xm h1 a
   obtain⟨c',ad',us',rfl,hq',rr'⟩:=xm h2 a'
   exact⟨ad,ad',rfl,c,c',us,us',hq.mono g1.fh,hq'.mono g1.fh,q _ H1 HF1 g1 (BM hq (fun _ _ s h=>h.mono s) hq' (fun _ _ s h=>h.mono s) rr rr')⟩
  ·cases hf
end
end Dl
namespace Zp
open PySem PyProof.Rows
theorem IsI.ne{b:Bool}{h:Heap}{it l:Addr}{k:Nat}{xs:Array Value}(x:IsI b h it l k)(y:IsS b h l xs):l≠it:=by
 rintro rfl
 cases b
 ·obtain⟨o,e,c,d⟩:=(show h.IsListIter l l k from x)
  obtain⟨o',e',r⟩:=(show h.IsList l xs from y)
  rw[e] at e';cases e'
  simp_all
 ·obtain⟨o,e,c,d⟩:=(show h.IsTupleIter l l k from x)
  obtain⟨o',e',r⟩:=(show h.IsTuple l xs from y)
  rw[e] at e';cases e'
  simp_all
section
variable {prog:Program}{w:World}{A:Around}{E:Value->Shared->Prop}{s:Shared}
theorem drawsI(hn:A.handled=none)(b:Bool)(it l:Addr)(xs:Array Value):Draws prog w A it [it,l] xs.size (fun i x=>xs[i]?=some x) (fun i h=>IsI b h it l i/\IsS b h l xs) where
 live:=fun i h st=>let ⟨o,e,_⟩:=st.1.obj;⟨o,e⟩
 frame:=fun i h h' st k=>⟨st.1.at (k it (by simp)),st.2.at (k l (by simp))⟩
 item:=fun i s Q E hi st hQ=>nxt st.1 st.2 (v:=xs[i]) (by simp[hi]) fun g e t=>hQ _ g s.toks (by simp[hi]) ⟨e,st.2.extBut t.extBut (st.1.ne st.2)⟩ t
 done:=fun s Q E st hE=>nxtE hn st.1 st.2 (by simp) hE
theorem nextE{b₁:Bool}{e it l:Addr}{i:Nat}{items:Array Value}{x old:Value}{Q:Option Value->Shared->Prop}(hn:A.handled=none)
  (qe:IsEnum s.heap e it i old) (qi:IsI b₁ s.heap it l i) (ql:IsS b₁ s.heap l items) (ex:items[i]?=some x) (nei:e≠it)
  (kQ:∀g tk,IsEnumOut g e it ((i:Int)+1) x s.heap.objs.size->IsI b₁ g it l (i+1)->g.get? s.heap.objs.size=some { cls:=.type "tuple",data:=.seq #[.int i tk,x] } ->
   g.objs.size=s.heap.objs.size+1->(∀c o,c≠e->c≠it->s.heap.get? c=some o->g.get? c=some o)->Q (some (.ref s.heap.objs.size)) { s with heap:=g,toks:=tk+1 }) :
  wpAny (model prog w) A (pyNext (.ref e)) Q E s:=by
 have nel:e≠l:=by
  rintro rfl
  cases b₁
  ·obtain⟨o,e1,r⟩:=(show s.heap.IsList e items from ql)
   rw[qe] at e1;cases e1;simp at r
  ·obtain⟨o,e1,r⟩:=(show s.heap.IsTuple e items from ql)
   rw[qe] at e1;cases e1;simp at r
 have D:Draws prog w A.in1 it [it,l] items.size (fun i x=>items[i]?=some x) (fun i h=>IsI b₁ h it l i/\IsS b₁ h l items):=drawsI (A:=A.in1) hn b₁ it l items
 refine wpAny_pyNext_enum_itemD D qe ⟨qi,ql⟩ (Array.getElem?_eq_some_iff.mp ex).1 nei (by simp[nei,nel]) fun y g tk hy a b c d k=>?_
 rw[ex] at hy;cases hy
 exact kQ g tk a b.1 c d k
end
end Zp
namespace Dl
open PySem L2 PySem.Spec PyProof.Rows Zp
theorem pd{P:Program}{w:World}{K:W.Frag}{elts:List Expr}{k:Nat}{pos:Pos}(b:Bool)(a it e:Addr)(hei:e≠it):Turn P w K (.Tuple elts k pos) (MV (rY K b a)) [e,it] e (fun i h=>(∃old,IsEnum h e it i old)/\IsI b h it a i) where
 mem:=by simp
 obj:=fun i h st c hc=>by
  obtain⟨⟨old,he⟩,hi⟩:=st
  rcases zR.mp hc with z|z
  ·subst z;exact⟨_,he,fun v q=>by have q:Data.fields _=Data.cell v:=q;cases q⟩
  ·rw[yK.mp z];exact hi.obj
 keep:=fun i h h' st kk=>⟨let ⟨old,he⟩:=st.1;⟨old,kk e (by simp) _ he⟩,st.2.at fun o q=>kk it (by simp) o q⟩
 item:=by
  intro X hP hw hK hc i pins s σ H E I hf st hg
  subst hP hw hK
  obtain⟨xs,x,hq,hx⟩:=hg
  obtain⟨its,rv,p,hz⟩:=hq.src I
  obtain⟨u,hu,ru⟩:=rv.get hx
  obtain⟨⟨old,he⟩,hi⟩:=st
  refine nextE (I.ok.hd hc) he hi p (x:=u) (by simpa using hu) hei fun g tk b1 b2 b3 b4 hk=>⟨.ref s.heap.objs.size,rfl,?_⟩
  have lt:∀ {c:Addr}{o:Obj},s.heap.get? c=some o->s.heap.objs.size≠c:=fun e=>Nat.ne_of_gt (zZ e)
  have hte:s.heap.objs.size≠e:=lt he
  refine wpAny_letOwnedTupleGo_enum (s:={ s with heap:=g,toks:=tk+1 }) b1 fun g' he' hs'=>?_
  have b3':g'.get? s.heap.objs.size=some { cls:=.type "tuple",data:=.seq #[.int i tk,u] }:=hs'.extBut _ _ hte b3
  have ht:l7 g' s.heap.objs.size (List.toArray [Value.int (i:Nat) tk,u]):=⟨⟨_,b3',rfl,_,rfl⟩,_,b3',rfl⟩
  refine⟨.ref s.heap.objs.size,_,uH (ch:=[e,it]) (xs:=[.int (i:Nat),x]) (t':=tk+1) I hf (fun c o hb q=>?_) (Nat.le_refl _) ht (.cons ⟨_,rfl⟩ (.cons ru .nil)) (by show 2<=sizeLine;decide),rfl,
   ⟨s.heap.objs.size,x,rfl,I.fresh,rfl,fun zs hzs=>by rw[hzs.inj I hq];exact hx⟩,⟨⟨_,he'⟩,b2.extBut hs'.extBut (Ne.symm hei)⟩,fun c hc'=>?_⟩
  ·simp only[zR,yG,or_false,not_or] at hb
   exact hs'.extBut _ _ hb.1 (hk c o hb.1 hb.2 q)
  ·have:s.heap.objs.size≠c:=by
    simp only[zR,yG,or_false] at hc'
    obtain⟨o1,g1,_⟩:=hi.obj
    rcases hc' with rfl|rfl
    ·exact lt he
    ·exact lt g1
   rw[ay (Ne.symm this)]
   exact (hf c hc').1
 done:=by
  intro X hP hw hK hc i pins s σ H E I hf st hg
  subst hP hw hK
  obtain⟨xs,hq,hx⟩:=hg
  obtain⟨its,rv,p,hz⟩:=hq.src I
  have hh:X.A.in1.handled=none:=I.ok.hd hc
  have hl:=rv.length
  obtain⟨⟨old,he⟩,hi⟩:=st
  have hT:s.TypeIs (.ref e) "enumerate":=⟨_,he,rfl⟩
  unfold pyNext
  refine zW (wpAny_attempt (wpAny_callSpecial?_slot (name:=Str.ofString "__next__") hT F.slot_enumerate_next (wpAny_call_entry F.slot_enumerate_next hT F.entry_enumerate_next ?_ (F.args_enumerate_next_1 _))))
  refine zW (m:=field (.ref e) 2) (wpAny_field he rfl (x:=.ref it) rfl ?_)
  refine zW (nxtE hh hi p (by simp;omega) fun h1 x k1 hx1=>?_)
  obtain⟨o,ho,hc1⟩:=hx1
  refine zW (wpAny_isInstance (T:="StopIteration") (b:=true) ⟨o,ho,hc1⟩ isSubtype_stop (zX ⟨rfl,?_⟩))
  obtain⟨f0,f1,f2,f3,f4,f5⟩:=hf it (by simp)
  exact I.turned (t':=s.toks) (fun b o hb q=>k1 b o hb q) f0 f1 f3 f4 f5
 self:=fun _ _ _ _ _ st h=>let ⟨_,he⟩:=st.1;wpAny_pyIter_enum he h
section
variable {X:Cx}{l:Expr}{f:Env->Option D}{fs:Env->Option (List D)}{elts:List Expr}{k:Nat}{pos p tp:Pos}
theorem E4{tl:TA}(B:k3 X "enumerate" (.type "enumerate"))(ha:PA X [l] tl)(hs:starEach [l] X.env=[(false,eval l X.env)]):PI X (.Tuple elts k tp) (.Call (.Name "enumerate" p) [l] [] pos) (fun σ H R=>tl σ H fun vs H1=>∃a,vs=[.ref a]/\∃b xs,rY X.K b a H1 xs/\R (MV (rY X.K b a)) H1):=by
 intro pins s σ H R I h
 refine Call_ (iN I B.gl B.mg B.bt (PyProof.Rows.callWith_type1 (bO (ha pos pins s σ H _ I h) fun us s1 ⟨vs,H1,I1,r1,q1⟩=>?_) hs rfl))
 obtain⟨a,e,b,xs,hq,q⟩:=q1
 subst e
 obtain⟨u,rfl,rx⟩:=vals1 r1
 cases rx
 have fresh:∀b∈[s1.heap.objs.size+1,s1.heap.objs.size],ck X pins H1 b:=fun b hb=>by
  rcases zR.mp hb with z|z
  ·subst z;exact I1.fpOk (Nat.le_succ _) (I1.hok.fresh (Nat.le_succ _))
  ·cases yK.mp z;exact I1.fpOk (Nat.le_refl _) I1.fresh
 obtain⟨its,rv,pl,hz⟩:=hq.src I1
 cases b with
 | false =>
  refine call_enumerate_list pl fun h' he hit hsz kp=>wpAny_pyIter_enum (s:={ s1 with heap:=h' }) he ?_
  exact⟨_,_,_,_,H1,rfl,I1.kept (t':=s1.toks) kp,pd false a s1.heap.objs.size (s1.heap.objs.size+1) (Nat.succ_ne_self _),⟨⟨_,he⟩,hit⟩,fresh,q⟩
 | true =>
  refine En.call_enumT (show s1.heap.IsTuple a its.toArray from pl) fun h' he hit hsz kp=>wpAny_pyIter_enum (s:={ s1 with heap:=h' }) he ?_
  exact⟨_,_,_,_,H1,rfl,I1.kept (t':=s1.toks) kp,pd true a s1.heap.objs.size (s1.heap.objs.size+1) (Nat.succ_ne_self _),⟨⟨_,he⟩,hit⟩,fresh,q⟩
noncomputable def fP(fs:Env->Option (List D)):Env->Option (List D):=fun ρ=>(fs ρ).bind fun ds=>(dF ds).map (cM 0)
theorem Fh(B:k3 X "enumerate" (.type "enumerate"))(h:DA X [l] fs)(hs:starEach [l] X.env=[(false,eval l X.env)]):DI X (.Tuple elts k tp) (.Call (.Name "enumerate" p) [l] [] pos) (fP fs) :=
 ug (E4 B h hs) fun σ H R ⟨HF,ρ,ds,sm,eo,hf,q⟩=>by
  obtain⟨x,hx,hf⟩:=bs hf
  obtain⟨es,h1,rfl⟩:=af hf
  obtain⟨d,h0,h1⟩:=bs h1
  rw[fS h0] at hx
  refine⟨HF,ρ,_,sm,eo,hx,fun vs H1 HF1 g1 r1=>?_⟩
  obtain⟨v,r',rfl,a,b⟩:=r1.cons_inv
  rw[b.nil_inv]
  obtain⟨c,ad,us,rfl,hq,rr⟩:=xm h1 a
  exact⟨ad,rfl,c,us,hq.mono g1.fh,q _ H1 HF1 g1 (Bp hq (fun _ _ s h=>h.mono s) rr)⟩
end
end Dl
namespace Srt
open PySem PySem.W PySem.Calls PyProof.Rows L2
theorem ck.at{X:Cx}{pins:List (Addr×Obj)}{H H':Hp}{b:Addr}(h:ck X pins H b)(e:H' b=none):ck X pins H' b:=⟨e,h.2⟩
section
variable {X:Cx}{pins:List (Addr×Obj)}{σ:L2.St}{H:Hp}{s:Shared}{A:Around}{E:Value->Shared->Prop}
theorem upd_inv{b:Addr}{g:Array Value->Array Value}(I:Inv X pins σ H s)(f:ck X pins H b):Inv X pins σ H { s with heap:=s.heap.update b (Obj.mapSeq g) }:=by
 obtain⟨f0,f1,f2,f3,f4,f5⟩:=f
 exact I.turned (t':=s.toks) (h':=s.heap.update b (Obj.mapSeq g)) (fun c o hc e=>(Heap.get?_update_other _ _ (Ne.symm hc)).trans e) f0 f1 f3 f4 f5
theorem pin_get{fp:List Addr}{h:Heap}{b:Addr}{o:Obj}{H':Hp}{s':Shared}(I:Inv X (pins++md fp h) σ H' s')(hb:b∈fp)(e:h.get? b=some o):s'.heap.get? b=some o/\H' b=none :=
 let q:=I.pin (b,o) (yF _ (yF _ (dq hb e)));⟨q.1,q.2.1⟩
theorem list_sortK{a:Addr}{f:Value}{vs:List Value}{n:Nat}{P:PySem.Fin->Shared->Prop}(I:Inv X pins σ H s)(ho:s.heap.get? a=some (seqObj "list" vs.toArray n))(fa:ck X pins H a)(h64:vs.length < 64)
  (J:List Value->Hp->Prop) (j0:J [] H)
  (step:∀us v,vs[us.length]?=some v->∀pl s' H',Inv X (pins++pl) σ H' s'->J us H'->wpAny (model X.prog X.w) A (call f [v]) (fun u s''=>∃H'',Inv X (pins++pl) σ H'' s''/\J (us++[u]) H'') (fun _ _=>False) s')
  (fin:∀us H',us.length=vs.length->J us H'->∃ (z:Nat->Int) (κ:SortKind),(2<=vs.length->∀s',Inv X pins σ H' s'->(∀Q':SortKind->Shared->Prop,Q' κ s'->wpAny (model X.prog X.w) A (keyKind' us.toArray) Q' (fun _ _=>False) s') /\
    ∀i j C,i < vs.length->j < vs.length->C (SP.dZ z i j) s'->kas_ask X.prog X.w A κ us i j C s') /\
   ∀s' c,Inv X pins σ H' s'->ck X pins H' a->s'.heap.get? a=some (seqObj "list" (outV z vs).toArray c)->P (.done (.ret .none)) s') :
  wpAny (model X.prog X.w) A (ksk_tree a f false) P E s:=by
 have hsl:vs.length<=sizeLine:=by rw[sizeLine_eq];omega
 unfold ksk_tree
 refine zW (listItems_at ho rfl ?_)
 refine zW (listUpdate_at ho rfl ?_ (by simpa using hsl) (Nat.zero_le _))
 obtain⟨e1,ho1⟩:∃e,(s.heap.update a (Obj.mapSeq fun _=>(#[]:Array Value))).get? a=some (seqObj "list" #[] e):=⟨_,get?_update_seq ho fun _=>#[]⟩
 have I1:=upd_inv (g:=fun _=>(#[]:Array Value)) I fa
 refine zW (seqEpoch_at ho1 rfl ?_)
 refine zW (wpAny_newTuple ?_ (by simpa using hsl))
 refine zW (wpAny_newList ?_ (Nat.zero_le _))
 refine wpAny_holding ?_
 have ho3:(((s.heap.update a (Obj.mapSeq fun _=>(#[]:Array Value))).push (seqObj "tuple" vs.toArray 0)).push (seqObj "list" #[] 0)).get? a=some (seqObj "list" #[] e1):=zV _ (zV _ ho1)
 have hk3:(((s.heap.update a (Obj.mapSeq fun _=>(#[]:Array Value))).push (seqObj "tuple" vs.toArray 0)).push (seqObj "list" #[] 0)).get? ((s.heap.update a (Obj.mapSeq fun _=>(#[]:Array Value))).push (seqObj "tuple" vs.toArray 0)).objs.size=some (seqObj "list" #[] 0):=zY _ rfl
 have I3:=(I1.kept (t':=s.toks) (h':=((s.heap.update a (Obj.mapSeq fun _=>(#[]:Array Value))).push (seqObj "tuple" vs.toArray 0)).push (seqObj "list" #[] 0)) fun b o e=>zV _ (zV _ e))
 have I2:=(I1.kept (t':=s.toks) (h':=(s.heap.update a (Obj.mapSeq fun _=>(#[]:Array Value))).push (seqObj "tuple" vs.toArray 0)) fun b o e=>zV _ e)
 have fk:ck X pins H ((s.heap.update a (Obj.mapSeq fun _=>(#[]:Array Value))).push (seqObj "tuple" vs.toArray 0)).objs.size:=I2.fpOk (Nat.le_refl _) (I2.hok.fresh (Nat.le_refl _))
 have hka:((s.heap.update a (Obj.mapSeq fun _=>(#[]:Array Value))).push (seqObj "tuple" vs.toArray 0)).objs.size≠a:=by
  have hlt:=zZ ho1
  rw[Heap.size_push]
  exact Nat.ne_of_gt (Nat.lt_succ_of_lt hlt)
 show wpAny _ A _ P E { s with heap:=((s.heap.update a (Obj.mapSeq fun _=>(#[]:Array Value))).push (seqObj "tuple" vs.toArray 0)).push (seqObj "list" #[] 0) }
 generalize ((s.heap.update a (Obj.mapSeq fun _=>(#[]:Array Value))).push (seqObj "tuple" vs.toArray 0)).objs.size=kS at hk3 fk hka
 generalize e3:({ s with heap:=((s.heap.update a (Obj.mapSeq fun _=>(#[]:Array Value))).push (seqObj "tuple" vs.toArray 0)).push (seqObj "list" #[] 0) }:Shared)=s3 at I3
 have ho3:s3.heap.get? a=some (seqObj "list" #[] e1):=by rw[<- e3];exact ho3
 have hk3:s3.heap.get? kS=some (seqObj "list" #[] 0):=by rw[<- e3];exact hk3
 clear e3 I2 I1 ho1 ho
 unfold ksk_rest
 refine zW (wpAny_rule ?_)
 first
  | rw[List.forIn_toArray]
  | (rw[<- Array.forIn_toList];simp only[List.toList_toArray])
  | rw[<- Array.forIn_toList]
 refine zW (ksk_fold (fun i s'=>∃us H' e,us.length=i/\Inv X pins σ H' s'/\H' a=none/\H' kS=none/\s'.heap.get? a=some (seqObj "list" #[] e1)/\s'.heap.get? kS=some (seqObj "list" us.toArray e)/\J us H') vs 0 s3
  ⟨[],H,0,rfl,I3,fa.1,fk.1,ho3,hk3,j0⟩ ?step ?done)
 case step =>
  rintro j x s' hx ⟨us,H',e,hu,I',ha',hk',hoa,hok,j'⟩
  have hu:us.length=j:=by omega
  have hj:j < vs.length:=(zU.mp hx).1
  have Ip:=I'.pinned (fp:=[a,kS]) (fun b hb=>by
   rcases zR.mp hb with rfl|hb
   ·exact ck.at fa ha'
   ·rw[yK.mp hb];exact ck.at fk hk') (fun b hb=>by
   rcases zR.mp hb with rfl|hb
   ·exact⟨_,hoa,fun v z=>by cases z⟩
   ·rw[yK.mp hb];exact⟨_,hok,fun v z=>by cases z⟩)
  refine zW (wpAny_attempt (wpAny_mono (step us x (by rw[hu];exact hx) _ s' H' Ip j') (fun u s'' he=>?_) fun _ _ hF=>hF.elim))
  obtain⟨H'',I'',j''⟩:=he
  try dsimp only
  obtain⟨ga,na⟩:=pin_get I'' (b:=a) zE hoa
  obtain⟨gk,nk⟩:=pin_get I'' (b:=kS) (zC _ zE) hok
  have I4:=I''.unpinned
  obtain⟨c2,hc2⟩:∃c2,(s''.heap.update kS (Obj.mapSeq (·.push u))).get? kS=some (seqObj "list" (us.toArray.push u) c2):=⟨_,get?_update_seq gk (·.push u)⟩
  refine zW (listUpdate_at gk rfl ?_ (by rw[zH,sizeLine_eq];omega) (yE (Nat.le_of_eq (Array.size_push ..)) (by rw[zH,sizeLine_eq];omega)))
  refine zX ⟨rfl,us++[u],H'',c2,by rw[zN,hu];simp,upd_inv I4 (ck.at fk nk),na,nk,(Heap.get?_update_other _ _ hka).trans ga,?_,j''⟩
  rw[hc2]
  simp
 case done =>
  rintro s' ⟨us,H',e,hu,I',ha',hk',hoa,hok,j'⟩
  have hu:us.length=vs.length:=by omega
  try dsimp only
  refine zW (listItems_at hok rfl ?_)
  obtain⟨z,κ,hz,hP⟩:=fin us H' hu j'
  have last:∀st':SortSt,(arrOf st').map (·.2)=(outV z vs).toArray->failedOf st'=none->wpAny (model X.prog X.w) A (ksk_tail a false e1 (.ref kS) st') P E s':=fun st' h1 h2=>by
   unfold ksk_tail
   try dsimp only
   rw[h1,h2]
   have na1:(s'.heap.update kS (Obj.mapSeq fun _=>(#[]:Array Value))).get? a=some (seqObj "list" #[] e1):=(Heap.get?_update_other _ _ hka).trans hoa
   have I5:=upd_inv (g:=fun _=>(#[]:Array Value)) I' (ck.at fk hk')
   have I6:=upd_inv (s:={ s' with heap:=s'.heap.update kS (Obj.mapSeq fun _=>(#[]:Array Value)) }) (g:=fun _=>(outV z vs).toArray) I5 (ck.at fa ha')
   refine zW (listUpdate_at hok rfl ?_ (by rw[zH,sizeLine_eq];omega) (Nat.zero_le _))
   refine zW (wpAny_letGo ?_)
   refine zW (seqEpoch_at na1 rfl ?_)
   refine zW (listUpdate_at na1 rfl ?_ (Nat.zero_le _) (by
    simp only[Bool.false_eq_true,if_false]
    show (outV z vs).toArray.size<=_;rw[zH,outV_len];omega))
   obtain⟨c,hc⟩:∃c,((s'.heap.update kS (Obj.mapSeq fun _=>(#[]:Array Value))).update a (Obj.mapSeq fun _=>(outV z vs).toArray)).get? a=some (seqObj "list" (outV z vs).toArray c):=⟨_,get?_update_seq na1 fun _=>(outV z vs).toArray⟩
   simp only[bne_self_eq_false,Bool.false_eq_true,if_false]
   exact zX (hP _ c I6 (ck.at fa ha') hc)
  unfold ksk_end
  try dsimp only
  simp only[Bool.false_eq_true,if_false]
  by_cases h2:vs.toArray.size < 2
  ·rw[if_pos h2,if_pos h2]
   refine zW (zX ?_)
   rw[StateT.run_pure]
   refine zW (zX (last _ ?_ rfl))
   have h2':vs.length < 2:=by simpa using h2
   unfold outV
   rw[if_pos h2']
   show ((us.toArray.zip vs.toArray).map (·.2))=vs.toArray
   apply Array.toList_inj.mp
   simp only[Array.toList_map,Array.toList_zip]
   exact List.map_snd_zip (by rw[hu];exact Nat.le_refl _)
  ·rw[if_neg h2,if_neg h2]
   have h2':2<=vs.length:=by
    have:¬ vs.length < 2:=by simpa using h2
    omega
   obtain⟨hk,hlt⟩:=hz h2' s' I'
   refine zW (wpAny_mono (hk (fun κ' s''=>κ'=κ/\s''=s') ⟨rfl,rfl⟩) (fun κ' s'' hs=>?_) fun _ _ x=>x.elim)
   obtain⟨rfl,rfl⟩:=hs
   refine zW (wpAny_mono (kat_run (Q:=fun st' s2=>s2=s''/\(arrOf st').map (·.2)=(outV z vs).toArray/\failedOf st'=none) (G:=fun p s2=>s2=s''/\p=SP.run (SP.dZ z) (kas_sort vs.length))
    hu h2' h64 (fun p st' s2 a1 a2 a3 a4=>⟨a4.1,?_,a3⟩) (SP.wp_run hlt (kas_sort vs.length) (SP.CJ (by omega)) ⟨rfl,rfl⟩)) ?_ fun _ _ e=>e)
   ·rw[kat_snds hu a2,a4.2]
    unfold outV
    rw[if_neg (by omega)]
   ·rintro⟨⟨⟩,st'⟩ s2 ⟨hs,h4,h5⟩
    subst hs
    exact last st' h4 h5
theorem sortedK{l:Value}{f:Addr}{vs:List Value}{Q:Value->Shared->Prop}(I:Inv X pins σ H s)(h64:vs.length < 64)
  (hcol:∀ {Q':List Value->Shared->Prop},(∀h':Heap,(∀b o,s.heap.get? b=some o->h'.get? b=some o)->Q' vs { s with heap:=h' })->wpAny (model X.prog X.w) A.in1 (collect l) Q' E s)
  (J:List Value->Hp->Prop) (j0:J [] H)
  (step:∀us v,vs[us.length]?=some v->∀pl s' H',Inv X (pins++pl) σ H' s'->J us H'->wpAny (model X.prog X.w) A.in1.in1 (call (.ref f) [v]) (fun u s''=>∃H'',Inv X (pins++pl) σ H'' s''/\J (us++[u]) H'') (fun _ _=>False) s')
  (fin:∀us H',us.length=vs.length->J us H'->∃ (z:Nat->Int) (κ:SortKind),(2<=vs.length->∀s',Inv X pins σ H' s'->(∀Q':SortKind->Shared->Prop,Q' κ s'->wpAny (model X.prog X.w) A.in1.in1 (keyKind' us.toArray) Q' (fun _ _=>False) s') /\
    ∀i j C,i < vs.length->j < vs.length->C (SP.dZ z i j) s'->kas_ask X.prog X.w A.in1.in1 κ us i j C s') /\
   ∀s' D c,Inv X pins σ H' s'->ck X pins H' D->s'.heap.get? D=some (seqObj "list" (outV z vs).toArray c)->Q (.ref D) s') :
  wpAny (model X.prog X.w) A (call (.builtin "sorted") [l] [(Str.ofString "key",.ref f)]) Q E s:=by
 have hsl:vs.length<=sizeLine:=by rw[sizeLine_eq];omega
 refine call_function_entry_kw kind_sorted plain_sorted entry_sorted (ksk_s1 _ _) ?_
 unfold Builtin.«sorted»
 refine zW (m:=checkCount "sorted" 1 1 _) (zX (zW (hcol fun h1 kp=>?_)))
 refine zW (wpAny_newList ?_ (by simpa using hsl))
 have I1:=I.kept (t':=s.toks) kp
 have fD:ck X pins H h1.objs.size:=I1.fpOk (Nat.le_refl _) (I1.hok.fresh (Nat.le_refl _))
 have hoD:(h1.push (seqObj "list" vs.toArray 0)).get? h1.objs.size=some (seqObj "list" vs.toArray 0):=zY _ rfl
 have I2:=I1.kept (t':=s.toks) (h':=h1.push (seqObj "list" vs.toArray 0)) fun b o e=>zV _ e
 show wpAny _ _ _ _ _ { s with heap:=h1.push (seqObj "list" vs.toArray 0) }
 refine zW (wpAny_holding (wpAny_call_entry_kw slot_list_sort ⟨_,hoD,rfl⟩ entry_list_sort ?body (ksk_l1 _ _)))
 case body =>
  show wpAny (model X.prog X.w) A.in1.in1 (Builtin.«list.sort» ⟨[.ref h1.objs.size],[(Str.ofString "key",.ref f)]⟩) _ _ _
  rw[ksk_t1]
  refine list_sortK I2 hoD fD h64 J j0 step fun us H' hu j'=>?_
  obtain⟨z,κ,hz,hP⟩:=fin us H' hu j'
  exact⟨z,κ,hz,fun s' c I' f' e=>⟨_,rfl,zX ⟨_,rfl,hP s' _ c I' f' e⟩⟩⟩
end
end Srt
namespace Dl
open PySem L2 PySem.Spec PyProof.Rows
theorem _root_.L2.Inv.track{X:Cx}{pins:List (Addr×Obj)}{σ:L2.St}{H:Hp}{s:Shared}{b:Addr}{o:HO}(I:Inv X pins σ H s)(f:ck X pins H b)(ho:dU X.prog X.w (upd H b o) s.heap b o):Inv X pins σ (upd H b o) s:=by
 obtain⟨f0,f1,f2,f3,f4,f5⟩:=f
 have up:∀c u,H c=some u->upd H b o c=some u:=fun c u e=>by rw[ay (aK e f0)];exact e
 refine⟨I.ok,I.os,I.bare,⟨I.base.keep,I.base.slot,fun c oc e n hx=>?_,I.base.there,fun c xs e=>up c _ (I.base.tups c xs e),fun c oc u e=>up c _ (I.base.frzs c oc u e),⟨fun c u e t=>up c u (I.base.tbls.st c u e t),I.base.tbls.gr⟩⟩,I.loc,I.cell,?_,fun x c e=>?_,fun p hp=>?_,fun c u e=>?_,I.len⟩
 ·have hne:c≠b:=fun z=>by
   rcases f3 with g|g
   ·exact hx (z ▸ g)
   ·exact absurd (zP (zZ e) (z ▸ g)) (Nat.lt_irrefl _)
  rw[ay hne];exact I.base.free c oc e n hx
 ·rw[ay (Ne.symm f1)];exact I.free
 ·rw[ay (f4 x c e)];exact I.freeC x c e
 ·obtain⟨e,n,r⟩:=I.pin p hp
  exact⟨e,by rw[ay (f5 p hp)];exact n,r⟩
 ·by_cases hc:c=b
  ·subst hc;rw[aC] at e;cases e;exact ho
  ·rw[ay hc] at e
   exact (I.hok c u e).stay (fun d w _ q=>q) (fun d q=>up d _ q) fun d w q _=>up d _ q
noncomputable def mZ(scope:Scope)(N':List Str)(p:Str):Bool:=scope.names.all (fun q=>!decide (q.2=NameKind.cell))&&decide (N'[0]?=some p)&&decide (scope.names.lookup p=some .local)&&decide (scope.isCoroutine=false)&&decide (scope.isGenerator=false)
section
variable {X:Cx}{N:List Str}{sc:Scope}{k:Nat}
theorem CZ{scope:Scope}{N':List Str}{p qual:Str}{A:Around}{f c:Addr}{s:Shared}{H:Hp}(C:Bk X N sc (k+3))(hA:dS (k+1) A)(hk:scope.kind=.function)(hnd:N'.Nodup)(hl:mZ scope N' p=true):Bk (gh X A qual scope N' f c s H) N' scope k where
 n:=rfl
 nd:=hnd
 tb:=fun x kd hx=>.inl hx
 calm:=rfl
 fn:=fun x hx=>by
  unfold mZ at hl
  simp only[zF,List.all_eq_true,Bool.not_eq_true',decide_eq_false_iff_not] at hl
  exact absurd rfl (hl.1.1.1.1 _ (mem_of_lookup hx))
 room:=hA.deeper _
 xe:=rfl
 kd:=hk
structure pq(X:Cx)(qual:Str):Prop where
 ex:∃c P,X.env.code=.ref c/\X.env.qual++"<lambda>"=qual/\W.codeHdIn X.K c P=true/\∀HF,fI X.K HF->HF P=some (.tab qual)
noncomputable def g8(te:Env->Option D)(ρ:Env):List D->Option (List D)
 | []=>some []
 | d::ds=>(te (ρ.set 0 (some d))).bind fun x=>(g8 te ρ ds).map (x::·)
theorem lY{te:Env->Option D}{ρ:Env}:∀ {ds ks:List D},g8 te ρ ds=some ks->ks.length=ds.length
 | [],ks,h=>by cases h;rfl
 | d'::ds,ks,h=>by
  unfold g8 at h
  obtain⟨y,h1,h⟩:=bs h
  obtain⟨ys,h2,rfl⟩:=af h
  simp[lY h2]
theorem pN{te:Env->Option D}{ρ:Env}:∀ {ds ks:List D}{i:Nat}{d:D},g8 te ρ ds=some ks->ds[i]?=some d->∃x,te (ρ.set 0 (some d))=some x/\ks[i]?=some x
 | [],ks,i,d,h,e=>by simp at e
 | d'::ds,ks,i,d,h,e=>by
  unfold g8 at h
  obtain⟨y,h1,h⟩:=bs h
  obtain⟨ys,h2,rfl⟩:=af h
  cases i with
  | zero=>simp at e;subst e;exact⟨y,h1,rfl⟩
  | succ i=>obtain⟨x,a,b⟩:=pN h2 (by simpa using e);exact⟨x,a,by simpa using b⟩
noncomputable def mD(cs:List Nat)(fl te:Env->Option D):Env->Option (List D):=fun ρ=>(fl ρ).bind fun l=>match l with
 | .list ds=>(g8 te (fM 1 cs ρ) ds).bind fun ks=>(intsOf ks).bind fun zs=>if ds.length < 64 then some (nR (fun i=>zs.getD i 0) ds .none) else none
 | _=>none
theorem uQ{K:W.Frag}{HF:Hp}{ρ:Env}{σ:L2.St}{cs:List Nat}{d:D}{v:V}(eo:cm K HF ρ σ)(r:Rep K HF d v):cm K HF ((fM 1 cs ρ).set 0 (some d)) ((jx 1 cs σ).set 0 (some v)):=iC (y6 eo) r
theorem lg{K:W.Frag}{HF:Hp}:∀ {ks:List D}{zs:List Int}{kvs:List V}{us:List Value},intsOf ks=some zs->ak K HF ks kvs->az kvs us->IntsAre us zs
 | [],zs,kvs,us,h,r,v=>by
  cases h
  rw[r.nil_inv] at v
  cases v
  exact .nil
 | d::ks,zs,kvs,us,h,r,v=>by
  cases d<;>simp only[intsOf] at h<;>try cases h
  rename_i i
  obtain⟨ys,h2,rfl⟩:=af h
  obtain⟨w,ws,rfl,a,b⟩:=r.cons_inv
  simp only[Rep] at a
  subst a
  cases v with
  | cons r1 r2 =>
   obtain⟨t,rfl⟩:=r1
   exact .cons i t (lg h2 b r2)
theorem iX:∀ {us:List Value}{zs:List Int}{i:Nat},IntsAre us zs->i < us.length->∃t,us.getD i Value.none=.int (zs.getD i 0) t
 | _,_,i,.nil,h=>by simp at h
 | _,_,0,.cons n t r,h=>⟨t,rfl⟩
 | _,_,i+1,.cons n t r,h=>by
  obtain⟨t',e⟩:=iX (i:=i) r (by simpa using h)
  exact⟨t',by simpa using e⟩
variable {l body:Expr}{fl te:Env->Option D}{params:Arguments}{scope:Scope}{lpos pos p0 kpos:Pos}{N':List Str}{cs:List Nat}{p qual:Str}
theorem Bk.sortK(C:Bk X N sc (k+3))(B:k3 X "sorted" (.builtin "sorted"))(L:pq X qual)(ok:iT sc scope N N' 1 cs=true)(hl:mZ scope N' p=true)
  (hb:∀ (cl:List (Str×Addr)) (pm ctv u:Value) (c:Addr),bindArgs (W.kla_fn "<lambda>" qual params body scope cl pm (.ref c) ctv) ⟨[u],[]⟩=pure [(p,u)]) (hdef:defaultsOf params X.env=([],[])) (h:DE X l fl)
  (hY:∀A f c s H,Bk (gh X A qual scope N' f c s H) N' scope k->DE (gh X A qual scope N' f c s H) body te)
  (hst:starEach [l] X.env=(false,eval l X.env)::starEach [] X.env) (he:backTo pos (starEach [l] X.env)=(false,eval l X.env)::backTo pos (starEach [] X.env)) (hpl:(backTo pos (starEach [l] X.env)).any (·.1)=false) :
  DF X (.Call (.Name "sorted" p0) [l] [⟨some "key",.Lambda params body scope lpos,kpos⟩] pos) (mD cs fl te):=by
 obtain⟨S,_⟩:=C.comp ok
 have hnd:N'.Nodup:=by
  unfold iT at ok
  simp only[zF,zJ] at ok
  exact ok.2
 have hl':=hl
 unfold mZ at hl'
 simp only[zF,List.all_eq_true,Bool.not_eq_true',decide_eq_false_iff_not,zJ] at hl'
 obtain⟨⟨⟨⟨hnc,hN0⟩,hp⟩,hco⟩,hgen⟩:=hl'
 obtain⟨cc,P,hcode,hqual,hhd,eF⟩:=L.ex
 intro pins s σ H Q I ⟨HF,ρ,out,sm,eo,hf,q⟩
 obtain⟨ld,hld,hf⟩:=bs hf
 cases ld<;>try cases hf
 rename_i ds
 obtain⟨ks,hks,hf⟩:=bs hf
 obtain⟨zs,hzs,hf⟩:=bs hf
 split at hf<;>cases hf
 rename_i h64
 refine wpAny_Call_Name_kw (iN I B.gl B.mg B.bt ?_ (by decide) (by decide))
 refine PyProof.Rows.callWith_kw (e:=l) (rest:=[]) (kws:=[⟨some "key",.Lambda params body scope lpos,kpos⟩]) ?_ he hpl rfl rfl
 refine bO (yf h Ci hst pos pins s σ H _ I ⟨HF,ρ,[.list ds],sm,eo,by simp[aa,ae,hld],fun vs H1 HF1 g1 r1=>(⟨HF1,g1,r1⟩:∃HF1,bR HF H HF1 H1/\ak X.K HF1 [.list ds] vs)⟩) fun us s1 ⟨vs,H1,I1,rv,HF1,g1,r1⟩=>?_
 obtain⟨v,vr,rfl,a1,b1⟩:=r1.cons_inv
 rw[b1.nil_inv] at rv
 obtain⟨u,rfl,rx⟩:=vals1 rv
 simp only[Rep] at a1
 obtain⟨la,ws,rfl,hq,rr⟩:=a1
 cases rx
 have hT1:H1 P=some (.tab qual):=g1.fh _ _ (eF HF1 (eo.tb.mono g1.ff))
 show wpAny _ _ (evalAll ((do let v <- eval (.Lambda params body scope lpos) X.env;standAt pos;pure v)::[])) _ _ s1
 refine wpAny_evalAll_cons (zW ?_)
 refine vT (P:=P) I1 S hqual hcode (W.codeHd_of_K I1.ok.mod.kin hhd) hT1 I1.ok.mod.bmd hdef fun f c' pm ctv s2 H2 I2 hfo hfn hcod s12 fp2 _=>?_
 refine zW (wpAny_standAt (zX (wpAny_evalAll_nil ?_)))
 show wpAny _ _ (call (.builtin "sorted") [.ref la] [(Str.ofString "key",.ref f)]) _ _ s2
 have Ip:=I2.pinned (fp:=[f]) (fun b hb=>by rw[yK.mp hb];exact fp2) (fun b hb=>by rw[yK.mp hb];exact⟨_,hfo,fun v z=>by cases z⟩)
 have g2:bR HF1 H1 HF1 H2:=⟨s12,.refl _,g1.fh.trans s12,fun _ _ e=>.inl e⟩
 obtain⟨its,rvi,pl,hz⟩:=Ip.list (s12.seq (g1.fh.seq hq))
 have hlen:its.length=ds.length:=by rw[<- rvi.length,rr.length]
 have hkl:=lY hks
 have hR:dS (k+1) X.A.in1.in1:=C.room.in1.in1
 refine Srt.sortedK (vs:=its) Ip (by omega) (fun {Q'} hQ=>?_) (fun us H'=>∃HF' kvs,bR HF1 H2 HF' H'/\ak X.K HF' (ks.take us.length) kvs/\az kvs us) ⟨HF1,[],.refl g2.fh,by simpa using ak.nil,.nil⟩ (fun us x hx pl' s3 H3 I3 ⟨HF3,kvs,g3,rk,rvk⟩=>?_) fun us H3 hu ⟨HF3,kvs,g3,rk,rvk⟩=>?_
 ·refine collect_list pl.isList (hQ _ fun b o e=>?_) (by rw[sizeLine_eq];omega)
  exact (Heap.get?_update_other _ _ (Nat.ne_of_gt (zZ e))).trans (zV _ e)
 ·have hi:us.length < its.length:=(zU.mp hx).1
  obtain⟨w,hw⟩:∃w,ws[us.length]?=some w:=⟨_,zK (by rw[rvi.length];exact hi)⟩
  obtain⟨x',hx',rw'⟩:=rvi.get hw
  rw[hx] at hx'
  cases hx'
  obtain⟨d,hd,rd⟩:=rr.get hw
  obtain⟨kd,hkd,hki⟩:=pN hks hd
  have hfo3:s3.heap.get? f=some (W.kla_obj "<lambda>" qual params body scope (dX X.env scope.names []) pm c' ctv) :=
   (I3.pin (f,_) (yF _ (List.mem_append_left _ (yF _ (dq zE hfo))))).1
  refine wpAny_mono (uy (Q:=fun v H4=>∃HF4,bR HF3 H3 HF4 H4/\Rep X.K HF4 kd v) (te:=tD X.K te) I3 hR I3.ok.frames S hnc hN0 hp hnd hco hgen hfo3 (g3.hh _ _ hcod) (hb _ _ _ _ _) rw' (hY _ _ _ _ _ (CZ C hR S.kind hnd hl))
   ⟨HF3,_,kd,g3.fh,uQ (eo.mono (g1.ff.trans g3.ff)) (rd.mono g3.ff),hkd,fun v H4 HF4 g4 r4=>⟨HF4,g4,r4⟩⟩) (fun u s4 ⟨v4,H4,I4,r4,HF4,g4,rp⟩=>⟨H4,I4,HF4,kvs++[v4],g3.trans g4,?_,rvk.append (.cons r4 .nil)⟩) fun _ _ e=>e
  rw[zN,List.length_singleton,List.take_add_one,hki]
  exact (rk.mono g4.ff).append (ak.cons rp ak.nil)
 ·have hk':ks.take us.length=ks:=List.take_of_length_le (by omega)
  rw[hk'] at rk
  have ia:=lg hzs rk rvk
  refine⟨fun i=>zs.getD i 0,oneType',fun h2 s3 I3=>⟨fun Q' q'=>?_,fun i j Cc hi hj q'=>?_⟩,fun s3 Dn c I3 fD e=>?_⟩
  ·rw[PyProof.Rows.ksk_kind (keys:=us.toArray) (kz:=zs) (by simpa using ia) (by simpa [hu] using h2)]
   exact zX q'
  ·obtain⟨t1,e1⟩:=iX ia (i:=i) (by omega)
   obtain⟨t2,e2⟩:=iX ia (i:=j) (by omega)
   unfold W.kas_ask
   rw[e1,e2]
   exact W.kat_lt_int q'
  ·have hv:=oS (fun i=>zs.getD i 0) rvi
   have hr:=n6 (fun i=>zs.getD i 0) rr
   have hnD:H3 Dn=none:=fD.1
   have I4:=Inv.track (o:=.lst (nR (fun i=>zs.getD i 0) ws .non)) I3 fD ⟨by rw[(fL _ _ _).length_eq];exact hz,_,c,hv,e⟩
   have G:=(g1.trans g2).trans g3
   refine⟨.ref Dn,_,I4.unpinned,rfl,q Dn _ _ HF3 (G.trans (.own G.fh hnD)) (G.hh.free hnD) (G.fh.free hnD) aC (hr.mono g3.ff)⟩
end
end Dl
namespace Srt
open PySem PySem.W PySem.Calls PyProof.Rows L2
section
variable {prog:Program}{w:World}{A:Around}{E:Value->Shared->Prop}{s:Shared}
theorem iadd_rng{R:Result->Shared->Prop}{r S:Addr}{a b c:Int}{t u v:Tok}{n:Nat}(hh:A.handled=none)(hr:IsRange s.heap r a b c t u v)(hsmall:Builtin.Range.small a b c=true)(hn:Builtin.Range.rangeSize a b c=n)(hlen:n<=2 ^ 24)
  (hS:s.heap.get? S=some { cls:=.type "list",data:=.seq #[] })
  (hR:∀h' tk acc' c',(∀b o,b≠S->s.heap.get? b=some o->h'.get? b=some o)->h'.get? S=some { cls:=.type "list",dict:=none,data:=.seq acc' c',slots:=#[] } ->
   ItemsOf (fun i v=>∃t,v=.int (a+i * c) t) acc' n->R (.ok (.ret (.ref S))) { s with heap:=h',toks:=tk }):codeAny (model prog w) A (.builtin "list.__iadd__" ⟨[.ref S,.ref r],[]⟩) R s:=by
 refine codeAny_builtin entry_list_iadd' ?_
 rw[Around.under_plainId (by decide +kernel:plainId "list.__iadd__"=true) _]
 exact wpAny_extend_range (A:=A) hh hr hsmall hn hlen S (.ref S) _ hS hR
theorem collect_rng{r:Addr}{a b c:Int}{t u v:Tok}{n:Nat}{Q:List Value->Shared->Prop}(hh:A.handled=none)(hr:IsRange s.heap r a b c t u v)(hsmall:Builtin.Range.small a b c=true)(hn:Builtin.Range.rangeSize a b c=n)(hlen:n<=2 ^ 24)
  (h:∀h' tk acc,(∀b o,s.heap.get? b=some o->h'.get? b=some o)->ItemsOf (fun i v=>∃t,v=.int (a+i * c) t) acc n->Q acc.toList { s with heap:=h',toks:=tk }):wpAny (model prog w) A (collect (.ref r)) Q E s:=by
 unfold collect
 refine zW (wpAny_runValue (codeAny_builtin entry_proto_collect' ?_))
 rw[Around.under_plainId (by decide +kernel:plainId "proto.collect"=true) _]
 show wpAny _ A.in1 (newList [] >>= fun l=>again (.builtin "list.__iadd__" ⟨[l,.ref r],[]⟩)) _ _ s
 refine zW (wpAny_newObj_type ?_)
 have hS:(s.heap.push { cls:=.type "list",data:=.seq #[] }).get? s.heap.objs.size=some { cls:=.type "list",data:=.seq #[] }:=zY _ rfl
 refine zX ⟨plainId_quiet (by decide +kernel) _,iadd_rng (s:={ s with heap:=s.heap.push { cls:=.type "list",data:=.seq #[] } }) hh (zV _ hr) hsmall hn hlen hS fun h' tk acc' c' hk hS' hacc=>?_⟩
 show wpAny _ A (load s.heap.objs.size >>= _) _ _ _
 refine zW (wpAny_load hS' ?_)
 exact zX (h h' tk acc' (fun b o e=>hk b o (Nat.ne_of_lt (zZ e)) (zV _ e)) hacc)
end
section
variable {X:Cx}{pins:List (Addr×Obj)}{σ:L2.St}{H:Hp}{s:Shared}{A:Around}{E:Value->Shared->Prop}
theorem sortedR{l:Value}{f:Addr}{PV:List Value->Prop}{Q:Value->Shared->Prop}(I:Inv X pins σ H s)
  (hcol:∀ {Q':List Value->Shared->Prop},(∀ (h':Heap) (tk:Nat) (vs:List Value),PV vs->(∀b o,s.heap.get? b=some o->h'.get? b=some o)->Q' vs { s with heap:=h',toks:=tk })->wpAny (model X.prog X.w) A.in1 (collect l) Q' E s)
  (rest:∀vs,PV vs->vs.length < 64/\∃J:List Value->Hp->Prop,J [] H /\
   (∀us v,vs[us.length]?=some v->∀pl s' H',Inv X (pins++pl) σ H' s'->J us H'->wpAny (model X.prog X.w) A.in1.in1 (call (.ref f) [v]) (fun u s''=>∃H'',Inv X (pins++pl) σ H'' s''/\J (us++[u]) H'') (fun _ _=>False) s') /\
   (∀us H',us.length=vs.length->J us H'->∃ (z:Nat->Int) (κ:SortKind),(2<=vs.length->∀s',Inv X pins σ H' s'->(∀Q':SortKind->Shared->Prop,Q' κ s'->wpAny (model X.prog X.w) A.in1.in1 (keyKind' us.toArray) Q' (fun _ _=>False) s') /\
    ∀i j C,i < vs.length->j < vs.length->C (SP.dZ z i j) s'->kas_ask X.prog X.w A.in1.in1 κ us i j C s') /\
   ∀s' D c,Inv X pins σ H' s'->ck X pins H' D->s'.heap.get? D=some (seqObj "list" (outV z vs).toArray c)->Q (.ref D) s')) :
  wpAny (model X.prog X.w) A (call (.builtin "sorted") [l] [(Str.ofString "key",.ref f)]) Q E s:=by
 refine call_function_entry_kw kind_sorted plain_sorted entry_sorted (ksk_s1 _ _) ?_
 unfold Builtin.«sorted»
 refine zW (m:=checkCount "sorted" 1 1 _) (zX (zW (hcol fun h1 tk vs hv kp=>?_)))
 obtain⟨h64,J,j0,step,fin⟩:=rest vs hv
 have hsl:vs.length<=sizeLine:=by rw[sizeLine_eq];omega
 refine zW (wpAny_newList ?_ (by simpa using hsl))
 have I1:=I.kept (t':=tk) kp
 have fD:ck X pins H h1.objs.size:=I1.fpOk (Nat.le_refl _) (I1.hok.fresh (Nat.le_refl _))
 have hoD:(h1.push (seqObj "list" vs.toArray 0)).get? h1.objs.size=some (seqObj "list" vs.toArray 0):=zY _ rfl
 have I2:=I1.kept (t':=tk) (h':=h1.push (seqObj "list" vs.toArray 0)) fun b o e=>zV _ e
 show wpAny _ _ _ _ _ { s with heap:=h1.push (seqObj "list" vs.toArray 0),toks:=tk }
 refine zW (wpAny_holding (wpAny_call_entry_kw slot_list_sort ⟨_,hoD,rfl⟩ entry_list_sort ?body (ksk_l1 _ _)))
 case body =>
  show wpAny (model X.prog X.w) A.in1.in1 (Builtin.«list.sort» ⟨[.ref h1.objs.size],[(Str.ofString "key",.ref f)]⟩) _ _ _
  rw[ksk_t1]
  refine list_sortK I2 hoD fD h64 J j0 step fun us H' hu j'=>?_
  obtain⟨z,κ,hz,hP⟩:=fin us H' hu j'
  exact⟨z,κ,hz,fun s' c I' f' e=>⟨_,rfl,zX ⟨_,rfl,hP s' _ c I' f' e⟩⟩⟩
end
end Srt
namespace Dl
open PySem L2 PySem.Spec PyProof.Rows
noncomputable def nY(n:Nat):List D:=(List.range n).map fun i=>PyData.int ((i:Nat):Int)
noncomputable def o7(cs:List Nat)(fs:Env->Option (List D))(te:Env->Option D):Env->Option (List D):=fun ρ=>(fs ρ).bind fun l=>match l with
 | [.int n]=>if 0<=n/\n < 64 then (g8 te (fM 1 cs ρ) (nY n.toNat)).bind fun ks=>(rowsOf ks).map fun nss=>nR (fun i=>rk nss (nss.getD i [])) (nY n.toNat) .none else none
 | _=>none
theorem rl:∀ {vs:List Value}{k:Nat},(∀i v,vs[i]?=some v->∃t,v=Value.int ((k+i:Nat):Int) t)->az ((List.range' k vs.length).map fun i=>V.int ((i:Nat):Int)) vs
 | [],k,_=>.nil
 | v::vs,k,h=>by
  rw[zL,List.range'_succ,zI]
  obtain⟨t,e⟩:=h 0 v rfl
  refine .cons ⟨t,by simpa using e⟩ (rl fun i u hu=>?_)
  obtain⟨t',e'⟩:=h (i+1) u (by simpa using hu)
  exact⟨t',by rw[e'];congr 1;omega⟩
theorem rH{K:W.Frag}{HF:Hp}:∀ (l:List Nat),ak K HF (l.map fun i=>PyData.int ((i:Nat):Int)) (l.map fun i=>V.int ((i:Nat):Int))
 | []=>ak.nil
 | i::l=>ak.cons (by simp[Rep]) (rH l)
section
variable {X:Cx}{N:List Str}{sc:Scope}{k:Nat}
variable {e body:Expr}{fs:Env->Option (List D)}{te:Env->Option D}{params:Arguments}{scope:Scope}{lpos pos p0 kpos rpos p1:Pos}{N':List Str}{cs:List Nat}{p qual:Str}
theorem Bk.sortR(C:Bk X N sc (k+3))(B:k3 X "sorted" (.builtin "sorted"))(BR:k3 X "range" (.type "range"))(L:pq X qual)(ok:iT sc scope N N' 1 cs=true)(hl:mZ scope N' p=true)
  (hb:∀ (cl:List (Str×Addr)) (pm ctv u:Value) (c:Addr),bindArgs (W.kla_fn "<lambda>" qual params body scope cl pm (.ref c) ctv) ⟨[u],[]⟩=pure [(p,u)]) (hdef:defaultsOf params X.env=([],[])) (h:DA X [e] fs)
  (hY:∀A f c s H,Bk (gh X A qual scope N' f c s H) N' scope k->DE (gh X A qual scope N' f c s H) body te)
  (hsR:starEach [e] X.env=[(false,eval e X.env)])
  (hst:starEach [.Call (.Name "range" p1) [e] [] rpos] X.env=(false,eval (.Call (.Name "range" p1) [e] [] rpos) X.env)::starEach [] X.env) (he:backTo pos (starEach [.Call (.Name "range" p1) [e] [] rpos] X.env)=(false,eval (.Call (.Name "range" p1) [e] [] rpos) X.env)::backTo pos (starEach [] X.env)) (hpl:(backTo pos (starEach [.Call (.Name "range" p1) [e] [] rpos] X.env)).any (·.1)=false) :
  DF X (.Call (.Name "sorted" p0) [.Call (.Name "range" p1) [e] [] rpos] [⟨some "key",.Lambda params body scope lpos,kpos⟩] pos) (o7 cs fs te):=by
 obtain⟨S,_⟩:=C.comp ok
 have hnd:N'.Nodup:=by
  unfold iT at ok
  simp only[zF,zJ] at ok
  exact ok.2
 have hl':=hl
 unfold mZ at hl'
 simp only[zF,List.all_eq_true,Bool.not_eq_true',decide_eq_false_iff_not,zJ] at hl'
 obtain⟨⟨⟨⟨hnc,hN0⟩,hp⟩,hco⟩,hgen⟩:=hl'
 obtain⟨cc,P,hcode,hqual,hhd,eF⟩:=L.ex
 intro pins s σ H Q I ⟨HF,ρ,out,sm,eo,hf,q⟩
 obtain⟨ld,hld,hf⟩:=bs hf
 obtain⟨n,rfl⟩:∃n,ld=[.int n]:=by
  split at hf
  ·exact⟨_,rfl⟩
  ·cases hf
 simp only at hf
 split at hf
 rotate_left
 ·cases hf
 rename_i h64
 obtain⟨ks,hks,hf⟩:=bs hf
 obtain⟨nss,hns,rfl⟩:=af hf
 obtain⟨hkr,hne⟩:=ja hns
 refine wpAny_Call_Name_kw (iN I B.gl B.mg B.bt ?_ (by decide) (by decide))
 refine PyProof.Rows.callWith_kw (e:=.Call (.Name "range" p1) [e] [] rpos) (rest:=[]) (kws:=[⟨some "key",.Lambda params body scope lpos,kpos⟩]) ?_ he hpl rfl rfl
 rw[he]
 refine Calls.spliced_cons ?_
 refine Call_ (iN I BR.gl BR.mg boot_range (PyProof.Rows.callWith_type1 (bO (h rpos pins s σ H _ I ⟨HF,ρ,[.int n],sm,eo,hld,fun vs H1 HF1 g1 r1=>(⟨HF1,g1,r1⟩:∃HF1,bR HF H HF1 H1/\ak X.K HF1 [.int n] vs)⟩) fun us s1 ⟨vs,H1,I1,rv,HF1,g1,r1⟩=>?_) hsR rfl))
 obtain⟨v,vr,rfl,a1,b1⟩:=r1.cons_inv
 rw[b1.nil_inv] at rv
 obtain⟨u,rfl,rx⟩:=vals1 rv
 simp only[Rep] at a1
 subst a1
 obtain⟨t,rfl⟩:=rx
 refine call_range_1 ?_
 refine Calls.spliced_nil ?_
 obtain⟨hn0,hn64⟩:=h64
 have I1':=I1.kept (t':=s1.toks+1+1) (h':=s1.heap.push { cls:=Value.type "range",data:=Data.fields #[Value.int 0 s1.toks,Value.int n t,Value.int 1 (s1.toks+1)] }) fun b o e=>zV _ e
 have hro:(s1.heap.push { cls:=Value.type "range",data:=Data.fields #[Value.int 0 s1.toks,Value.int n t,Value.int 1 (s1.toks+1)] }).get? s1.heap.objs.size=some { cls:=Value.type "range",data:=Data.fields #[Value.int 0 s1.toks,Value.int n t,Value.int 1 (s1.toks+1)] }:=zY _ rfl
 have Ir:=I1'.pinned (fp:=[s1.heap.objs.size]) (fun b hb=>by rw[yK.mp hb];exact I1.fpOk (Nat.le_refl _) I1.fresh) (fun b hb=>by rw[yK.mp hb];exact⟨_,hro,fun v z=>by cases z⟩)
 have hT1:H1 P=some (.tab qual):=g1.fh _ _ (eF HF1 (eo.tb.mono g1.ff))
 show wpAny _ _ (evalAll ((do let v <- eval (.Lambda params body scope lpos) X.env;standAt pos;pure v)::[])) _ _ _
 refine wpAny_evalAll_cons (zW ?_)
 refine vT (P:=P) Ir S hqual hcode (W.codeHd_of_K Ir.ok.mod.kin hhd) hT1 Ir.ok.mod.bmd hdef fun f c' pm ctv s2 H2 I2 hfo hfn hcod s12 fp2 _=>?_
 refine zW (wpAny_standAt (zX (wpAny_evalAll_nil ?_)))
 show wpAny _ _ (call (.builtin "sorted") [.ref s1.heap.objs.size] [(Str.ofString "key",.ref f)]) _ _ s2
 have hr2:IsRange s2.heap s1.heap.objs.size 0 n 1 s1.toks t (s1.toks+1):=(Srt.pin_get I2 zE hro).1
 have Ip:=I2.pinned (fp:=[f]) (fun b hb=>by rw[yK.mp hb];exact fp2) (fun b hb=>by rw[yK.mp hb];exact⟨_,hfo,fun v z=>by cases z⟩)
 have g2:bR HF1 H1 HF1 H2:=⟨s12,.refl _,g1.fh.trans s12,fun _ _ e=>.inl e⟩
 have hkl:=lY hks
 have hnl:(nY n.toNat).length=n.toNat:=by simp[nY]
 have hR:dS (k+1) X.A.in1.in1:=C.room.in1.in1
 refine Srt.sortedR (PV:=fun vs=>vs.length=n.toNat/\∀i v,vs[i]?=some v->∃t,v=Value.int ((i:Nat):Int) t) Ip (fun {Q'} hQ=>?_) fun its ⟨hil,hiv⟩=>⟨by omega,fun us H'=>∃HF' kvs,bR HF1 H2 HF' H'/\ak X.K HF' (ks.take us.length) kvs/\az kvs us,⟨HF1,[],.refl g2.fh,by simpa using ak.nil,.nil⟩,fun us x hx pl' s3 H3 I3 ⟨HF3,kvs,g3,rk,rvk⟩=>?_,fun us H3 hu ⟨HF3,kvs,g3,rk,rvk⟩=>?_⟩
 ·refine Srt.collect_rng (n:=n.toNat) C.room.in1.hd hr2 (small_one (by omega) (by omega) (by omega) (by omega)) (by rw[rangeSize_one];split<;>omega) (by omega) fun h' tk acc kp ha=>?_
  refine hQ h' tk acc.toList ⟨by have:=ha.1;simpa using this,fun i v hv=>?_⟩ kp
  obtain⟨t',e'⟩:=ha.2 i v (by simpa using hv)
  exact⟨t',by rw[e'];congr 1;omega⟩
 ·have hi:us.length < n.toNat:=by rw[<- hil];exact (zU.mp hx).1
  obtain⟨tx,rfl⟩:=hiv _ _ hx
  have hd:(nY n.toNat)[us.length]?=some (.int ((us.length:Nat):Int)):=by simp[nY,hi]
  obtain⟨kd,hkd,hki⟩:=pN hks hd
  have hfo3:s3.heap.get? f=some (W.kla_obj "<lambda>" qual params body scope (dX X.env scope.names []) pm c' ctv) :=
   (I3.pin (f,_) (yF _ (List.mem_append_left _ (yF _ (dq zE hfo))))).1
  refine wpAny_mono (uy (v:=V.int ((us.length:Nat):Int)) (Q:=fun v H4=>∃HF4,bR HF3 H3 HF4 H4/\Rep X.K HF4 kd v) (te:=tD X.K te) I3 hR I3.ok.frames S hnc hN0 hp hnd hco hgen hfo3 (g3.hh _ _ hcod) (hb _ _ _ _ _) ⟨tx,rfl⟩ (hY _ _ _ _ _ (CZ C hR S.kind hnd hl))
   ⟨HF3,_,kd,g3.fh,uQ (eo.mono (g1.ff.trans g3.ff)) (by simp[Rep]),hkd,fun v H4 HF4 g4 r4=>⟨HF4,g4,r4⟩⟩) (fun u s4 ⟨v4,H4,I4,r4,HF4,g4,rp⟩=>⟨H4,I4,HF4,kvs++[v4],g3.trans g4,?_,rvk.append (.cons r4 .nil)⟩) fun _ _ e=>e
  rw[zN,List.length_singleton,List.take_add_one,hki]
  exact (rk.mono g4.ff).append (ak.cons rp ak.nil)
 ·have hk':ks.take us.length=ks:=List.take_of_length_le (by omega)
  rw[hk',hkr] at rk
  have hnn:nss.length=n.toNat:=by
   have:=congrArg List.length hkr
   rw[zD] at this
   omega
  refine⟨fun i=>Dl.rk nss (nss.getD i []),tuples' true,fun h2 s3 I3=>⟨fun Q' q'=>?_,fun i j Cc hi hj q'=>?_⟩,fun s3 Dn c I3 fD e=>?_⟩
  ·obtain⟨fs',tt,hlen,hff⟩:=pM (k6 I3 g3.fh rk rvk) hne
   refine W.kat_kind (T:=.type "int") tt (by omega) (fun v hv=>?_) (by decide) q'
   obtain⟨n',t',rfl⟩:=hff v hv
   exact W.Looks.of_pure rfl
  ·have hp3:=k6 I3 g3.fh rk rvk
   have ri:=fJ (d:=Value.none) (d':=[]) hp3 (show i < us.length by omega)
   have rj:=fJ (d:=Value.none) (d':=[]) hp3 (show j < us.length by omega)
   obtain⟨a,o,its1,n1,ea,e1,e2,e3,e4⟩:=ri.ex
   obtain⟨b,o',its',n',eb,f1,f2,f3,f4⟩:=rj.ex
   unfold W.kas_ask
   rw[ea,eb]
   have hmem:nss.getD i []∈nss:=by
    rw[zG,zK (by omega)]
    exact List.getElem_mem _
   have q2:Cc (lexLt (nss.getD i []) (nss.getD j [])) s3:=by
    rw[xZ hmem]
    exact q'
   refine W.kat_lt e1 e3 f1 f3 ?_
   have:=og (prog:=X.prog) (w:=X.w) (A:=X.A.in1.in1) (s:=s3) 0 e4 f4 q2
   have l1:its1.size=(nss.getD i []).length:=by have:=IntsAre.length e4;simpa using this
   have l2:its'.size=(nss.getD j []).length:=by have:=IntsAre.length f4;simpa using this
   rw[l1,l2]
   exact this
  ·have rvi:az ((List.range n.toNat).map fun i=>V.int ((i:Nat):Int)) its:=by
    have:=rl (vs:=its) (k:=0) fun i v hv=>by
     obtain⟨t',e'⟩:=hiv i v hv
     exact⟨t',by rw[e'];congr 1;omega⟩
    rw[hil,<- List.range_eq_range'] at this
    exact this
   have rr:ak X.K HF1 (nY n.toNat) ((List.range n.toNat).map fun i=>V.int ((i:Nat):Int)):=rH _
   have hv:=oS (fun i=>Dl.rk nss (nss.getD i [])) rvi
   have hr:=n6 (fun i=>Dl.rk nss (nss.getD i [])) rr
   have hnD:H3 Dn=none:=fD.1
   have I4:=Inv.track (o:=.lst (nR (fun i=>Dl.rk nss (nss.getD i [])) ((List.range n.toNat).map fun i=>V.int ((i:Nat):Int)) .non)) I3 fD ⟨by rw[(fL _ _ _).length_eq,zD,zS,PySem.sizeLine_eq];omega,_,c,hv,e⟩
   have G:=(g1.trans g2).trans g3
   refine⟨.ref Dn,_,I4.unpinned.unpinned,rfl,q Dn _ _ HF3 (G.trans (.own G.fh hnD)) (G.hh.free hnD) (G.fh.free hnD) aC (hr.mono g3.ff)⟩
end
section
variable {X:Cx}{pos:Pos}
noncomputable def EN(i j l:Nat):Env->D->Option Env:=fun ρ d=>match d with
 | .tuple [x,y,z]=>if isFree ρ i=true/\isFree ρ j=true/\isFree ρ l=true then some (((ρ.set i (some x)).set j (some y)).set l (some z)) else none
 | _=>none
theorem Es(i j l:Nat){x y z:Str}{px py pz:Pos}{k:Nat}(hc:X.calm=true)(hN:X.N.Nodup)(hi:X.N[i]?=some x)(hx:Loc X.env.scope x)(hj:X.N[j]?=some y)(hy:Loc X.env.scope y)(hl:X.N[l]?=some z)(hz:Loc X.env.scope z)
  (hf:X.fn x=true\/X.env.scope.names.lookup x=some .local) (hf':X.fn y=true\/X.env.scope.names.lookup y=some .local) (hf'':X.fn z=true\/X.env.scope.names.lookup z=some .local) :
  DG X (.Tuple [.Name x px,.Name y py,.Name z pz] k pos) (EN i j l) :=
 mJ (l5 hc (bH (b8 hN hi hx hf) (bH (b8 hN hj hy hf') (bH (b8 hN hl hz hf'') ka)))) fun v σ H Q ⟨HF,ρ,d,ρ',sm,eo,r,hf,q⟩=>by
  unfold EN at hf
  split at hf
  ·rename_i x' y' z'
   split at hf
   ·rename_i hh
    cases hf
    simp only[Rep] at r
    obtain⟨a,vs,rfl,hs,rr⟩:=r
    obtain⟨v1,r1,rfl,a1,b1⟩:=rr.cons_inv
    obtain⟨v2,r2,rfl,a2,b2⟩:=b1.cons_inv
    obtain⟨v3,r3,rfl,a3,b3⟩:=b2.cons_inv
    rw[b3.nil_inv] at hs
    exact⟨a,_,rfl,av sm hs,rfl,v1,_,rfl,v2,_,rfl,v3,_,rfl,rfl,q _ (iC (iC (iC eo a1) a2) a3) (j4 (j4 (j4 eo hh.1) hh.2.1) hh.2.2)⟩
   ·cases hf
  ·cases hf
end
theorem Lx{xs:List Value}(h:2<=xs.length):((List.range 2).filterMap fun (k:Nat)=>xs.toArray[((1:Int)+(k:Int) * (-1)).toNat]?)=(xs.take 2).reverse:=by
 match xs,h with
 | a::b::r,_=>rfl
theorem Ca{prog:Program}{w:World}{A:Around}{E:Value->Shared->Prop}{s:Shared}{t sl:Addr}{its:List Value}{tk tk1:Tok}{Q:Value->Shared->Prop}(ht:IsTup s.heap t its.toArray)(hs:s.heap.IsSliceOf sl (.int 1 tk1) .none (.int (-1) tk))
  (h2:2<=its.length) (h:Q (.ref s.heap.objs.size) { s with heap:=s.heap.push { cls:=.type "tuple",data:=.seq (its.take 2).reverse.toArray } }):wpAny (model prog w) A (getItem (.ref t) (.ref sl)) Q E s:=by
 obtain⟨os,hos,hcs,hds⟩:=id hs
 have hTs:s.TypeIs (.ref sl) "slice":=⟨os,hos,hcs⟩
 unfold getItem
 try with_reducible refine wpAny_holding ?_
 first|refine zW (zX ?_)|skip
 refine zW (wpAny_sequenceKey ht.typeIs (by decide) (zW (wpAny_callSpecial?_slot (name:=Str.ofString "__getitem__") ht.typeIs PyProof.Rows.slot_tuple_getitem (wpAny_call_entry PyProof.Rows.slot_tuple_getitem ht.typeIs entry_tuple_getitem ?_ (args_tuple_getitem _ _)))))
 refine zW (m:=Builtin.Tuple.tupleItemsOf (.ref t)) (tupleItemsOf_ ht (zW (wpAny_typeOf hTs ?_)))
 rw[if_pos (by decide)]
 have hap:∀ {R:Int×Int×Nat->Shared->Prop},R (1,-1,2) s->wpAny (model prog w) A.in1 (Builtin.Slice.sliceApplied (.ref sl) (pure ((its.toArray.size:Nat):Int))) R E s:=fun {R} hR=>by
  unfold Builtin.Slice.sliceApplied Builtin.Slice.sliceFields
  refine zW (zW (wpAny_field hos hds (x:=.int 1 tk1) rfl (zW (wpAny_field hos hds (x:=.none) rfl (zW (wpAny_field hos hds (x:=.int (-1) tk) rfl (zX ?_)))))))
  refine zW (slicePart_int ?_)
  show wpAny _ _ (if ((-1:Int) == 0)=true then _ else _) _ _ s
  rw[if_neg (by decide)]
  refine zW (slicePart_int (zW (slicePart_none (zW (zX ?_)))))
  have e1:Builtin.Slice.sliceAdjust (some 1) none (-1) ((its.toArray.size:Nat):Int)=(1,-1):=by
   simp[Builtin.Slice.sliceAdjust]
   omega
  show wpAny _ _ (match Builtin.Slice.sliceAdjust (some 1) none (-1) ((its.toArray.size:Nat):Int) with|(lo,hi)=>pure (lo,(-1:Int),Builtin.Slice.slicePlaces lo hi (-1))) _ _ s
  rw[e1]
  have e2:Builtin.Slice.slicePlaces 1 (-1) (-1)=2:=by decide
  show wpAny _ _ (pure ((1:Int),(-1:Int),Builtin.Slice.slicePlaces 1 (-1) (-1))) _ _ s
  rw[e2]
  exact zX hR
 first
  | refine zW (hap ?_)
  | refine zW (wpAny_of_in1 (hap ?_))
 show wpAny _ _ (if ((1:Int) == 0&&(-1:Int) == 1&&2 == its.toArray.size)=true then _ else _) _ _ s
 rw[if_neg (by simp),Lx h2]
 have hz':sizeOk (.seq (its.take 2).reverse.toArray):=yE (m:=2) (by simp;omega) (by decide)
 first
  | exact zW (m:=Builtin.Tuple.tupleExact _) (wpAny_newObj_type (zX ⟨_,rfl,zX h⟩) hz')
  | exact zW (m:=Builtin.Tuple.tupleExact _) (wpAny_newObj_type (zW (zX (zX ⟨_,rfl,zX h⟩))) hz')
  | exact zW (zW (m:=Builtin.Tuple.tupleExact _) (wpAny_newObj_type (zX (zX ⟨_,rfl,zX h⟩)) hz'))
  | exact zW (zW (m:=Builtin.Tuple.tupleExact _) (wpAny_newObj_type (zX ⟨_,rfl,zX h⟩) hz'))
section
variable {X:Cx}{a:Expr}{fa:Env->Option D}{pos p1 p2 p3 p4:Pos}{i j:Nat}
theorem Fv{ta:TE}(ha:PE X a ta):PE X (.Subscript a (.Slice (some (.Constant (.int 1) i p1)) none (some (.UnaryOp .USub (.Constant (.int 1) j p4) p3)) p2) pos) (fun σ H Q=>ta σ H fun x H1=>∃b xs,x=.ref b/\gT X.K H1 b xs/\2<=xs.length/\∀p,H1 p=none->Q (.ref p) (upd H1 p (.tup (xs.take 2).reverse))):=by
 intro pins s σ H Q I h
 refine Subscript_ (bO (ha pins s σ H _ I h) fun v s1 ⟨x,H1,I1,r1,b,xs,e,hq,h2,q⟩=>?_)
 subst e
 cases r1
 refine wpAny_Slice ?_
 have hlo:=nU (X:=X) (so (X:=X) (i:=1) (j:=i) (pos:=p1)) pins s1 σ H1 (fun o H'=>o=some 1/\H'=H1) I1 ⟨1,rfl,rfl,rfl⟩
 refine bO hlo fun vlo s0 ⟨o,H0,I0,plo,e1,e2⟩=>?_
 subst e1 e2
 rw[evalPart_none]
 refine zX ?_
 have hst:=nU (X:=X) (B7 (op:=.USub) xW (so (X:=X) (i:=1) (j:=j) (pos:=p4)) (pos:=p3)) pins s0 σ H0 (fun o H'=>o=some (-1)/\H'=H0) I0 ⟨1,rfl,-1,rfl,rfl,rfl⟩
 refine bO hst fun vst s2 ⟨o,H2,I2,pst,e1,e2⟩=>?_
 subst e1 e2
 cases plo with
 | int _ tk1 =>
 cases pst with
 | int _ tk =>
 obtain⟨its,r,ht,hz⟩:=I2.tuple hq
 have I4:Inv X pins σ H2 { s2 with heap:=s2.heap.push { cls:=.type "slice",data:=.fields #[.int 1 tk1,.none,.int (-1) tk] } }:=I2.kept (t':=s2.toks) fun b ob q=>zV _ q
 obtain⟨its',r',ht',_⟩:=I4.tuple hq
 refine tail_any (ops:=[.ref b,.ref s2.heap.objs.size]) ht'.typeIs PyProof.Rows.slot_tuple_getitem.lookup (Ca ht' (Heap.IsSliceOf.new ..) (by rw[<- r'.length];exact h2) ?_) (by with_unfolding_all rfl)
 have hv:az (xs.take 2).reverse (its'.take 2).reverse:=L2.az.reverse (r'.take 2)
 exact⟨.ref _,_,I4.laid (t':=s2.toks) (o:=.tup (xs.take 2).reverse) (fun b ob q=>zV _ q) (Nat.le_refl _) ⟨by rw[List.length_reverse,List.length_take];omega,_,hv,l7.new _ _⟩,rfl,q _ I4.fresh⟩
noncomputable def De:D->Option D|.tuple ds=>if 2<=ds.length then some (.tuple (ds.take 2).reverse) else none|_=>none
theorem Gh(ha:DE X a fa):DE X (.Subscript a (.Slice (some (.Constant (.int 1) i p1)) none (some (.UnaryOp .USub (.Constant (.int 1) j p4) p3)) p2) pos) (f1 De fa):=aN (Fv ha) fun σ H Q ⟨HF,ρ,d,sm,eo,hf,q⟩=>by
 obtain⟨x,hx,hf⟩:=bs hf
 refine⟨HF,ρ,x,sm,eo,hx,fun v1 H1 HF1 g1 r1=>?_⟩
 unfold De at hf
 split at hf<;>try cases hf
 split at hf
 ·rename_i h2
  cases hf
  simp only[Rep] at r1
  obtain⟨b,vs,rfl,hs,rr⟩:=r1
  exact⟨b,vs,rfl,av g1.fh hs,by rw[rr.length];exact h2,fun p hp=>q _ _ _ (g1.trans (.new g1.fh hp)) (cC (g1.fh.free hp) (rr.take 2).reverse)⟩
 ·cases hf
end
section
variable {X:Cx}
noncomputable def D3(d:D):List D->Option Nat
 | []=>none
 | x::xs=>if PyData.eqv x d=true then some 0 else (D3 d xs).map (·+1)
theorem rg{d:D}:∀ {xs:List D}{j:Nat},D3 d xs=some j->j < xs.length/\(∀x,xs[j]?=some x->PyData.eqv x d=true)/\∀m,m < j->∀x,xs[m]?=some x->PyData.eqv x d=false
 | [],j,h=>by cases h
 | x::xs,j,h=>by
  unfold D3 at h
  split at h
  ·cases h
   rename_i e
   exact⟨Nat.succ_pos _,fun y hy=>by cases hy;exact e,fun m hm=>absurd hm (Nat.not_lt_zero _)⟩
  ·rename_i e
   obtain⟨k,hk,rfl⟩:=af h
   obtain⟨a,b,c⟩:=rg hk
   refine⟨by simpa using a,fun y hy=>b y (by simpa using hy),fun m hm y hy=>?_⟩
   cases m with
   | zero=>cases hy;simpa using e
   | succ m=>exact c m (by omega) y (by simpa using hy)
theorem Ar(hu:X.A.units+66 < cLine):Ku X "list.index" (fun x vs H Q=>∃ (HF:Hp) (ds:List D) (d:D) (y:V) (j:Nat),aR HF H/\Rep X.K HF (.list ds) x/\vs=[y]/\Rep X.K HF d y/\SeqAt.shaped d=true/\SeqAt.shaped (.list ds)=true/\ds.length<=sizeLine/\D3 d ds=some j/\Q (.int j) H):=by
 intro pins s σ H x vs v us Q I rx rv h
 obtain⟨HF,ds,d,y,j,sm,r1,rfl,r2,hd,hl,hz,hj,q⟩:=h
 obtain⟨u,rfl,ru⟩:=rv.one
 obtain⟨as,ra⟩:=cE I sm r1 rx
 obtain⟨bs,rb⟩:=cE I sm r2 ru
 have c1:=SeqAt.canLay_of_shaped hd
 have c2:=SeqAt.canLay_of_shaped hl
 have d1:=SeqAt.depth_of_shaped hd
 simp only[PyData.canLay0] at c2
 have m:=Nat.min_le_right (PyData.depthAll ds) d.depth
 obtain⟨hj1,hj2,hj3⟩:=rg hj
 cases ra with
 | list h1 h2 h3 h4 =>
  rename_i l o its n as
  obtain⟨cls,dd,data,sl⟩:=o
  simp only at h2 h3
  subst h2 h3
  have hm:=SeqAt.readsAll_map _ _ _ c2 h4
  have hlen:its.size=ds.length:=by rw[<- hm];simp
  have hs63:(sizeLine:Nat) < 2 ^ 62:=by decide
  have at_:∀m (hm:m < its.size),ds[m]?=some (SeqAt.readOf s.heap its[m]):=fun m hm'=>by
   rw[<- hm,zO,Array.getElem?_toList,Array.getElem?_eq_getElem hm']
   rfl
  refine call_meets F.slot_list_index ⟨_,h1,rfl⟩ F.entry_list_index (F.args_list_index_2 _ _) (PySem.SeqAt.list_indexAt l its n dd sl u (fun y=>PyData.eqv (SeqAt.readOf s.heap y) d) j (by rw[hlen];exact hj1) (by omega) ?_ ?_) ⟨h1,?_,?_⟩
  ·exact hj2 _ (at_ j (by rw[hlen];exact hj1))
  ·intro m hm' hmj
   exact hj3 m hmj _ (at_ m hm')
  ·exact SeqAt.items_eqAt h4 rb c2 c1 (by omega)
  ·exact⟨.int j,H,I.tok _,⟨_,rfl⟩,q⟩
noncomputable def Iy:D->D->Option D
 | .list es,d=>if SeqAt.shaped d=true/\SeqAt.shaped (.list es)=true/\es.length<=sizeLine then (D3 d es).map fun j=>.int ((j:Nat):Int) else none
 | _,_=>none
theorem Bq(hu:X.A.units+66 < cLine){o e:Expr}{apos cpos:Pos}{fo fe:Env->Option D}(hbase:attributeBase o "index" X.env (eval o X.env)=eval o X.env)
  (hfew:((backTo cpos (starEach [e] X.env)).all (fun x=>!x.1)&&(backToKw cpos (keywordEach [] X.env)).all (fun x=>x.1.isSome)&&decide ([e].length+([]:List Keyword).length+(if ([]:List Keyword).isEmpty then 0 else 1) < 30))=true)
  (hline:(apos.endLine == cpos.line)=true) (hs:starEach [e] X.env=(false,eval e X.env)::starEach [] X.env) (ho:DE X o fo) (he:DE X e fe):DE X (.Call (.Attribute o "index" apos) [e] [] cpos) (f2 Iy fo fe) :=
 aN (rJ PySem.F.plainAttrs_list PySem.F.slot_list_index PySem.F.type_list_index (Ar hu) ho (bS he d5 hs) hbase hfew hline hs rfl) fun σ H Q ⟨HF,ρ,d,sm,eo,hf,q⟩=>by
  obtain⟨x,hx,hf⟩:=bs hf
  obtain⟨y,hy,hg⟩:=bs hf
  refine⟨HF,ρ,x,sm,eo,hx,fun v1 H1 HF1 g1 r1=>?_⟩
  unfold Iy at hg
  split at hg
  ·split at hg
   ·rename_i es hh
    obtain⟨j,h2,rfl⟩:=af hg
    have r1':=r1
    simp only[Rep] at r1
    obtain⟨l,us,rfl,hq,rr⟩:=r1
    refine⟨.inl ⟨rfl,_,g1.fh.seq hq⟩,HF1,ρ,y,g1.fh,eo.mono g1.ff,hy,fun v2 H2 HF2 g2 r2=>?_⟩
    exact⟨HF2,es,y,v2,j,g2.fh,r1'.mono g2.ff,rfl,r2,hh.1,hh.2.1,hh.2.2,h2,q _ H2 HF2 (g1.trans g2) (by simp[Rep])⟩
   ·cases hg
  ·cases hg
noncomputable def xw:List D->Option D
 | [.int i]=>some (.int i)
 | [.bool b]=>some (.int (if b then 1 else 0))
 | _=>none
theorem GC{K:W.Frag}:AJ K (fun xs H Q=>(∃i,xs=[.int i]/\Q (.int i) H)\/∃k,xs=[.bl k]/\Q (.int (if k then 1 else 0)) H) xw:=by
 intro HF H ds vs d Q sm r hg q
 unfold xw at hg
 split at hg
 ·cases hg
  obtain⟨v,r',rfl,a,b⟩:=r.cons_inv
  rw[b.nil_inv]
  simp only[Rep] at a
  subst a
  exact .inl ⟨_,rfl,q _ H HF (.refl sm) (by simp[Rep])⟩
 ·cases hg
  obtain⟨v,r',rfl,a,b⟩:=r.cons_inv
  rw[b.nil_inv]
  simp only[Rep] at a
  subst a
  exact .inr ⟨_,rfl,q _ H HF (.refl sm) (by simp[Rep])⟩
 ·cases hg
theorem B0{e:Expr}{fs:Env->Option (List D)}{p pos:Pos}(B:k3 X "int" (.type "int"))(ha:DA X [e] fs)(he:starEach [e] X.env=(false,eval e X.env)::starEach [] X.env:=by rfl):DE X (.Call (.Name "int" p) [e] [] pos) (bf xw fs) :=
 rC A9 GC B ha (by decide) (by decide) he rfl
noncomputable def BC(i j k l:Nat):ai->D->Option ai:=fun ρ d=>match d with
 | .tuple [x,.tuple [a,b,c]]=>some ((((ρ.set i (.val x)).set j (.val a)).set k (.val b)).set l (.val c))
 | _=>none
variable {HF₀ H₀:Hp}
theorem Jj(i j k l:Nat){x y z w:Str}{px py pz pw p2 pos:Pos}{m n:Nat}(hc:X.calm=true)(hN:X.N.Nodup)(hi:X.N[i]?=some x)(hx:Loc X.env.scope x)(hj:X.N[j]?=some y)(hy:Loc X.env.scope y)(hk:X.N[k]?=some z)(hz:Loc X.env.scope z)(hl:X.N[l]?=some w)(hw:Loc X.env.scope w)
  (f1:X.fn x=true\/X.env.scope.names.lookup x=some .local) (f2:X.fn y=true\/X.env.scope.names.lookup y=some .local) (f3:X.fn z=true\/X.env.scope.names.lookup z=some .local) (f4:X.fn w=true\/X.env.scope.names.lookup w=some .local) :
  KJ X HF₀ H₀ (.Tuple [.Name x px,.Tuple [.Name y py,.Name z pz,.Name w pw] m p2] n pos) (BC i j k l) :=
 mJ (l5 hc (bH (b8 hN hi hx f1) (bH (l5 hc (bH (b8 hN hj hy f2) (bH (b8 hN hk hz f3) (bH (b8 hN hl hw f4) ka)))) ka))) fun v σ H Q ⟨HF,ρ,d,ρ',S,r,hf,q⟩=>by
  unfold BC at hf
  split at hf
  ·cases hf
   simp only[Rep] at r
   obtain⟨a,vs,rfl,hs,rr⟩:=r
   obtain⟨v1,r1,rfl,a1,b1⟩:=rr.cons_inv
   obtain⟨v2,r2,rfl,a2,b2⟩:=b1.cons_inv
   rw[b2.nil_inv] at hs
   simp only[Rep] at a2
   obtain⟨a',vs',rfl,hs',rr'⟩:=a2
   obtain⟨v3,r3,rfl,a3,b3⟩:=rr'.cons_inv
   obtain⟨v4,r4,rfl,a4,b4⟩:=b3.cons_inv
   obtain⟨v5,r5,rfl,a5,b5⟩:=b4.cons_inv
   rw[b5.nil_inv] at hs'
   exact⟨a,_,rfl,av S.gr.fh hs,rfl,v1,_,rfl,_,_,rfl,⟨a',_,rfl,av S.gr.fh hs',rfl,v3,_,rfl,v4,_,rfl,v5,_,rfl,rfl,rfl,q _ ((((S.setV a1).setV a3).setV a4).setV a5)⟩⟩
  ·cases hf
end
section
variable {X:Cx}{e:Expr}{es:List Expr}{fs:Env->Option (List D)}{pos p:Pos}
noncomputable def J6:List D->Option D
 | [.int a,.int b]=>some (.int (max a b))
 | _=>none
theorem Eu(hc:X.calm=true):dw X (.builtin "max") (fun xs H Q=>∃a b:Int,xs=[.int a,.int b]/\Q (.int (max a b)) H):=by
 intro pins s σ H xs us Q I r h
 have hh:X.A.handled=none:=I.ok.hd hc
 obtain⟨a,b,rfl,q⟩:=h
 cases r with
 | cons r1 r =>
  cases r with
  | cons r2 r =>
   cases r
   obtain⟨t,rfl⟩:=r1
   obtain⟨u,rfl⟩:=r2
   refine max_two_ints hh fun h' tk kp=>⟨.int (max a b),H,I.kept (t':=tk) kp,?_,q⟩
   by_cases h:b > a
   ·rw[if_pos h,show max a b=b by omega];exact⟨_,rfl⟩
   ·rw[if_neg h,show max a b=a by omega];exact⟨_,rfl⟩
theorem Iv(hc:X.calm=true)(B:k3 X "max" (.builtin "max"))(he:starEach (e::es) X.env=(false,eval e X.env)::starEach es X.env)(hpl:(backTo pos (starEach es X.env)).any (·.1)=false)(ha:DA X (e::es) fs):DE X (.Call (.Name "max" p) (e::es) [] pos) (bf J6 fs) :=
 hV (Eu hc) (by
  intro HF H ds vs d Q sm r hg q
  unfold J6 at hg
  split at hg
  ·cases hg
   obtain⟨v1,r1,rfl,a1,b1⟩:=r.cons_inv
   obtain⟨v2,r2,rfl,a2,b2⟩:=b1.cons_inv
   rw[b2.nil_inv]
   simp only[Rep] at a1 a2
   exact⟨_,_,by rw[a1,a2],q _ H HF (.refl sm) (by simp[Rep])⟩
  ·cases hg) B ha (by decide) (by decide) he hpl
end
section
variable {X:Cx}{N:List Str}{sc:Scope}{k:Nat}{a b e:Expr}{fa fb:Env->Option D}{pos p:Pos}{HF₀ H₀:Hp}
noncomputable def MJ(x y:D):Option Bool:=match y with
 | .tuple ds=>if SeqAt.shaped x=true/\SeqAt.shaped y=true then some (!ds.any fun z=>PyData.eqv z x) else none
 | .list ds=>if SeqAt.shaped x=true/\SeqAt.shaped y=true then some (!ds.any fun z=>PyData.eqv z x) else none
 | _=>none
theorem DM(hu:X.A.units+66 < cLine):gD X (compareOp .NotIn) (Kz X.K MJ):=by
 intro pins s σ H v1 v2 u1 u2 Q I rx ry h
 obtain⟨HF,x,y,k,sm,r1,r2,hg,q⟩:=h
 obtain⟨as,ra⟩:=cE I sm r1 rx
 obtain⟨bs,rb⟩:=cE I sm r2 ry
 cases y<;>simp only[MJ] at hg<;>try cases hg
 all_goals
  split at hg<;>cases hg
  rename_i ds hh
  have c1:=SeqAt.canLay_of_shaped hh.1
  have c2:=SeqAt.canLay_of_shaped hh.2
  have d1:=SeqAt.depth_of_shaped hh.1
  simp only[PyData.canLay0] at c2
  have m:=Nat.min_le_right (PyData.depthAll ds) x.depth
  first
   | exact SeqAt.notIn_list_reads rb ra c2 c1 (by omega) ⟨.bl _,H,I,rfl,q⟩
   | exact SeqAt.notIn_tuple_reads rb ra c2 c1 (by omega) ⟨.bl _,H,I,rfl,q⟩
noncomputable def J7:D->D->Option D:=fun x y=>(MJ x y).map PyData.bool
theorem Bk.notin(C:Bk X N sc k)(ha:DE X a fa)(hb:DE X b fb)(hm:behindInMarks .NotIn b=false:=by rfl):DE X (.Compare a [.NotIn] [b] pos) (f2 J7 fa fb):=gJ (DM C.u66) gx ha hb hm
theorem Bk.tnin(C:Bk X N sc k)(ha:DE X a fa)(hb:DE X b fb)(hm:behindInMarks .NotIn b=false:=by rfl):DT X (.Compare a [.NotIn] [b] pos) (fB (f2 J7 fa fb)):=gE (DM C.u66) gx ha hb hm
noncomputable def xl(i j:Nat)(fz:List Nat)(f:Env->Option D):ai->Option Out:=fun ρ=>(f (dG (hand fz 0 ρ))).bind fun d=>match d with
 | .tuple [x,y]=>some (.nx (((if bK (.tuple [x,y])=true then ρ else hand fz 0 ρ).set i (.val x)).set j (.val y)))
 | _=>none
noncomputable def CP:Expr->Bool
 | .Call ..=>true
 | .Subscript ..=>true
 | _=>false
theorem BH(i j:Nat)(fz:List Nat){x y:Str}{px py pt:Pos}{m:Nat}{f:Env->Option D}(hc:X.calm=true)(hN:X.N.Nodup)(hi:X.N[i]?=some x)(hx:Loc X.env.scope x)(hj:X.N[j]?=some y)(hy:Loc X.env.scope y)(hp:CP e=true)(he:DE X e f)
  (h1:X.fn x=true\/X.env.scope.names.lookup x=some .local) (h2:X.fn y=true\/X.env.scope.names.lookup y=some .local):DS X HF₀ H₀ (.Assign [.Tuple [.Name x px,.Name y py] m pt] e pos) (xl i j fz f) :=
 dm (DH he (l5 hc (bH (b8 hN hi hx h1) (bH (b8 hN hj hy h2) ka))) (by cases e<;>first|rfl|cases hp) (by cases e<;>first|rfl|cases hp)) fun E σ H ⟨HF,ρ,o,S,hg,q⟩=>by
  unfold xl at hg
  obtain⟨d,h,hg⟩:=bs hg
  split at hg
  ·rename_i u v
   cases hg
   obtain⟨HF1,s1,S1⟩:=S.hand fz
   refine⟨HF1,_,.tuple [u,v],S1.gr.fh,S1.frz,h,fun w H' HF' G r=>?_⟩
   simp only[Rep] at r
   obtain⟨a,vs,rfl,hs,rr⟩:=r
   obtain⟨v1,r1,rfl,a1,b1⟩:=rr.cons_inv
   obtain⟨v2,r2,rfl,a2,b2⟩:=b1.cons_inv
   rw[b2.nil_inv] at hs
   refine⟨a,_,rfl,av G.fh hs,rfl,v1,_,rfl,v2,_,rfl,rfl,?_⟩
   by_cases hn:bK (.tuple [u,v])=true
   ·rw[if_pos hn] at q
    obtain⟨HF2,s2,S2,hb⟩:=S.back S1 s1 G
    simp only[bK,fK,zF,Bool.and_true] at hn
    exact q _ H' HF2 ((S2.setV (hb u v1 hn.1 a1)).setV (hb v v2 hn.2 a2)) s2
   ·rw[if_neg hn] at q
    exact q _ H' HF' (((S1.grow G).setV a1).setV a2) (s1.trans G.ff)
  ·cases hg
end
section
variable {X:Cx}{e:Expr}{f:Env->Option D}{pos p p' pos':Pos}
theorem wL(hc:X.calm=true):dw X (.type "set") (fun xs H Q=>∃ (a:Addr) (ns:List Int),xs=[.ref a]/\gG X.K H a (ns.map V.int)/\ns.length+1 < scanBound/\∀q S,H q=none->Q (.ref q) (upd H q (.set S (many ns)))):=by
 intro pins s σ H xs us Q I r h
 obtain⟨a,ns,rfl,hq,hb,q⟩:=h
 obtain⟨u,rfl,rx⟩:=vals1 r
 cases rx
 obtain⟨its,rv,pl,hz⟩:=I.list hq
 have hi:IntsAre its.toArray.toList ns:=intsAre_of rv
 have hlen:its.toArray.size=ns.length:=by have:=rv.length;simpa using this.symm
 refine call_set_list (I.ok.hd hc) pl.isList hi (by rw[hlen];exact hb) fun h' tk hS hk=>?_
 rw[hlen] at hS
 exact⟨.ref s.heap.objs.size,_,I.laid (t':=tk) (fun b o e=>hk b o (zZ e) e) (Nat.le_refl _) (show dU X.prog X.w _ h' _ (.set _ (many ns)) from hS),rfl,q _ _ I.fresh⟩
noncomputable def oV:D->Option D
 | .list es=>(intsOf es).bind fun ns=>if ns.length+1 < scanBound then some (.int (many ns)) else none
 | _=>none
theorem we(hc:X.calm=true)(B:k3 X "len" (.builtin "len"))(C:k3 X "set" (.type "set"))(h:DE X e f)(he:starEach [e] X.env=(false,eval e X.env)::starEach [] X.env:=by rfl) :
  DE X (.Call (.Name "len" p) [.Call (.Name "set" p') [e] [] pos'] [] pos) (f1 oV f) :=
 aN (jq rV B.gl B.mg B.bt (bS (j3 (wL hc) C.gl C.mg C.bt (bS h d5 he) (by decide) (by decide) he rfl) d5) (by decide) (by decide) rfl rfl) fun σ H Q ⟨HF,ρ,d,sm,eo,hf,q⟩=>by
  obtain⟨x,hx,hf⟩:=bs hf
  unfold oV at hf
  split at hf
  ·rename_i es
   obtain⟨ns,h1,hf⟩:=bs hf
   split at hf
   ·rename_i hb
    cases hf
    refine⟨HF,ρ,.list es,sm,eo,hx,fun v1 H1 HF1 g1 r1=>?_⟩
    have e1:=cy h1
    subst e1
    simp only[Rep] at r1
    obtain⟨a,vs,rfl,hs,rr⟩:=r1
    have:=hZ rr
    subst this
    exact⟨a,ns,rfl,g1.fh.seq hs,hb,fun b S hb'=>⟨b,S,_,rfl,aC,q _ _ HF1 (g1.trans (.own g1.fh hb')) (by simp[Rep])⟩⟩
   ·cases hf
  ·cases hf
end
section
variable {X:Cx}{a b c e:Expr}{es:List Expr}{fk:Env->Option D}{fs:Env->Option (List D)}{pos p p1 p2 p3:Pos}{x y:Str}
noncomputable def oo(n:Nat)(m m':List D->Option D)(fk:Env->Option D)(fs:Env->Option (List D)):Env->Option D:=fun ρ=>(fk ρ).bind fun kd=>(fs ρ).bind fun ds=>if ds.length=n then (match kd with
 | .int k=>if k=0 then m ds else if k=1 then m' ds else none
 | _=>none) else none
theorem FX{k n:Nat}{m m':List D->Option D}(F:dC X.prog X.w X.K X.mg X.base k x n m)(F':dC X.prog X.w X.K X.mg X.base k y n m')(hr:dS k X.A)(hg:Gl X x)(hg':Gl X y)(hk:DE X b fk)(ha:DA X (e::es) fs)
  (hdb:(x == ("__debug__":Str))=false:=by decide) (hdb':(y == ("__debug__":Str))=false:=by decide) (hs:nW b:=by intro _ _;rfl)
  (he:starEach (e::es) X.env=(false,eval e X.env)::starEach es X.env:=by rfl) (hpl:(backTo pos (starEach es X.env)).any (·.1)=false:=by rfl)
  (ht:eval (.Call (.Subscript (.List [.Name x p,.Name y p1] p2) b p3) (e::es) [] pos) X.env=(do callWith pos (<- eval (.Subscript (.List [.Name x p,.Name y p1] p2) b p3) X.env) [] (backTo pos (starEach (e::es) X.env)) (backToKw pos (keywordEach [] X.env))):=by rfl) :
  DE X (.Call (.Subscript (.List [.Name x p,.Name y p1] p2) b p3) (e::es) [] pos) (oo n m m' fk fs):=by
 obtain⟨f,fd,ps,ok,hm,hkp,hb⟩:=F.ex
 obtain⟨f',fd',ps',ok',hm',hkp',hb'⟩:=F'.ex
 intro pins s σ H Q I ⟨HF,ρ,d,sm,eo,hf,q⟩
 obtain⟨kd,h1,hf⟩:=bs hf
 obtain⟨ds,h2,hf⟩:=bs hf
 split at hf
 ·rename_i hl
  obtain⟨kk,rfl⟩:∃kk,kd=.int kk:=by cases kd<;>first|exact⟨_,rfl⟩|cases hf
  rw[ht]
  have hc:PE X (.Subscript (.List [.Name x p,.Name y p1] p2) b p3) _:=HE ye (Dz (bS (sU (v:=.ref f) hg hm rfl hdb) (bS (sU (v:=.ref f') hg' hm' rfl hdb') d5))) hk hs
  have run:∀ {s1:Shared}{H1 HF1:Hp}{g:Addr}{gd:FuncData}{gs:List Str}{M:List D->Option D},nh X.prog X.w X.K X.mg X.base Ic k g gd gs (Il X.K n M)->W.keepIn X.K (.ref g)=true->Binds X.K gd gs []->M ds=some d->Inv X pins σ H1 s1->bR HF H HF1 H1 ->
    wpAny (model X.prog X.w) X.A (callWith pos (.ref g) [] (backTo pos (starEach (e::es) X.env)) (backToKw pos (keywordEach [] X.env))) (EP X pins σ Q) X.xe s1:=by
   intro s1 H1 HF1 g gd gs M L0 kpg bg hM I1 G1
   refine W.callWith_K (h₀:=X.base) I.ok.mod.kin kpg (bO (ha pos pins s1 σ H1 (fun vs H2=>Il X.K n M (vs++[]) H2 Q E0) I1 ⟨HF1,ρ,ds,G1.fh,eo.mono G1.ff,h2,fun vs H2 HF2 G2 r2=>⟨HF2,ds,d,G2.fh,(eo.mono G1.ff).tb.mono G2.ff,by rw[List.append_nil];exact r2,hl,hM,fun v H' HF' g' r=>q v H' HF' (G1.trans (G2.trans g')) r⟩⟩) fun us s2 ⟨vs,H2,I2,r,q2⟩=>⟨I2.kIn,?_⟩) he hpl
   exact EI L0 hr bg .nil HB I2 r q2
  refine zW (bO (hc pins s σ H (fun v H1=>∃HF1,bR HF H HF1 H1/\v=(if kk=0 then V.ref f else .ref f')) I ⟨by rw[sizeLine_eq];simp,fun z hz=>?_⟩) fun u s1 ⟨v,H1,I1,rv,HF1,G1,ev⟩=>?_)
  ·have G0:bR HF H HF (upd H z (.lst [.ref f,.ref f'])):=.own sm hz
   refine⟨HF,ρ,.int kk,G0.fh,eo,h1,fun v1 H1 HF1 g1 r1=>?_⟩
   simp only[Rep] at r1
   refine⟨z,[.ref f,.ref f'],kk,(if kk=0 then V.ref f else .ref f'),rfl,r1,.of (g1.hh z _ aC),?_,HF1,G0.trans g1,rfl⟩
   dsimp only at hf
   by_cases h0:kk=0
   ·subst h0;rfl
   ·rw[if_neg h0] at hf ⊢
    by_cases h1:kk=1
    ·subst h1;rfl
    ·rw[if_neg h1] at hf;cases hf
  ·dsimp only at hf
   by_cases h0:kk=0
   ·rw[if_pos h0] at hf ev
    subst ev
    cases rv
    exact run ok hkp hb hf I1 G1
   ·rw[if_neg h0] at hf ev
    subst ev
    cases rv
    by_cases h1:kk=1
    ·rw[if_pos h1] at hf
     exact run ok' hkp' hb' hf I1 G1
    ·rw[if_neg h1] at hf;cases hf
 ·cases hf
end
end Dl
namespace Rf
open PySem L2 Dl PySem.Spec PyProof.Rows
structure Tr where
 e:Expr->Option (Dl.Env->Option D)
 f:Expr->Option (Dl.Env->Option (List D))
 t:Expr->Option (Dl.Env->Option Bool)
structure Sg where
 fn:List (Str×Nat×(List D->Option D))
 int:List (Str×Int)
noncomputable abbrev FE:=Dl.Env->Option D
noncomputable def xN(G:Sg)(sc:Scope)(N:List Str)(x:Str):Option FE:=match N.idxOf? x with
 | some i=>if An N sc i x=true then some (ab i) else none
 | none=>if (v8 sc x&&!(x == ("__debug__":Str)))=true then (G.int.lookup x).map fun n=>fC (.int n) else none
noncomputable def yT:Const->Option FE
 | .int i=>some (fC (.int i))
 | .bool b=>some (fC (.bool b))
 | .none=>some (fC .none)
 | .str x=>some (fC (.str x))
 | _=>none
noncomputable def Ld(T:Tr)(op:UnaryOp)(a:Expr):Option FE:=match op with
 | .Not=>(T.e a).map IP
 | .USub=>(T.e a).map (f1 K1)
 | _=>none
noncomputable def MG:Operator->Option (D->D->Option D)
 | .Add=>some bY
 | .Sub=>some Dl.fU
 | .Mult=>some lC
 | .FloorDiv=>some qE
 | .Mod=>some nz
 | _=>none
noncomputable def Ht:Expr->Bool
 | .List ..=>true
 | .ListComp ..=>true
 | _=>false
noncomputable def ya:Expr->Bool
 | .List ..=>true
 | .ListComp ..=>true
 | .BinOp a .Mult _ _=>Ht a
 | .BinOp a .Add b _=>ya a||ya b
 | .Call (.Name x _) _ _ _=>x == ("sorted":Str)||x == ("list":Str)
 | _=>false
noncomputable def DQ(T:Tr)(whole a:Expr)(op:Operator)(b:Expr):Option FE :=
 if ya whole=true then (T.f whole).map dh else (MG op).bind fun g=>(T.e a).bind fun x=>(T.e b).map fun y=>f2 g x y
noncomputable def sy(T:Tr)(op:BoolOp):List Expr->Option FE
 | []=>none
 | [a]=>T.e a
 | a::b::r=>(T.e a).bind fun x=>(sy T op (b::r)).map fun y=>match op with|.And=>kg x y|.Or=>L9 x y
noncomputable def Ls:CmpOp->Option (D->D->Option D)
 | .Lt=>some vm
 | .LtE=>some yl
 | .Gt=>some JN
 | .GtE=>some Mq
 | .Eq=>some cN
 | .NotEq=>some eX
 | .In=>some Kp
 | .NotIn=>some J7
 | .Is=>some qa
 | .IsNot=>some m6
noncomputable def Ms:CmpOp->Option (D->D->Option D)
 | .Lt=>some vm
 | .LtE=>some yl
 | _=>none
noncomputable def y3(T:Tr)(a:Expr)(ops:List CmpOp)(cs:List Expr):Option FE:=match ops,cs with
 | [op],[b]=>if behindInMarks op b=false then (Ls op).bind fun g=>(T.e a).bind fun x=>(T.e b).map fun y=>f2 g x y else none
 | [op,op'],[b,c]=>if lastMarks [op,op'] [b,c]=false then (Ms op).bind fun g=>(Ms op').bind fun g'=>(T.e a).bind fun x=>(T.e b).bind fun y=>(T.e c).map fun z=>jG g g' x y z else none
 | _,_=>none
noncomputable def qo(T:Tr):List Expr->Option (Dl.Env->Option (List D))
 | []=>some ae
 | e::es=>if isStar e=false then (T.e e).bind fun x=>(qo T es).map fun r=>aa x r else none
noncomputable def Mo(T:Tr):Option Expr->Option (Dl.Env->Option (Option Int))
 | none=>some l4
 | some e=>(T.e e).map A0
noncomputable def zk:Expr->Bool
 | .Slice ..=>true
 | .Tuple ..=>true
 | .Starred ..=>true
 | _=>false
noncomputable def k7:Expr->Bool
 | .UnaryOp .USub (.Constant (.int 1) _ _) _=>true
 | _=>false
noncomputable def BN:Expr->Bool
 | .Constant (.int 1) _ _=>true
 | _=>false
noncomputable def CK(T:Tr)(a b:Expr):Option FE:=match b with
 | .Slice lo hi none _=>(T.e a).bind fun x=>(Mo T lo).bind fun l=>(Mo T hi).map fun h=>l9 ij x l h
 | .Slice none none (some s) _=>if k7 s=true then (T.e a).map fun x=>f1 KN x else none
 | .Slice (some l) none (some s) _=>if (BN l&&k7 s)=true then (T.e a).map fun x=>f1 De x else none
 | _=>if zk b=false then (T.e a).bind fun x=>(T.e b).map fun y=>f2 ao x y else none
noncomputable def Dr:List D->Option D:=fun ds=>(oneOf ds).bind fun d=>match d with
 | .list es=>(boolsOf es).map fun bs=>.bool (bs.any id)
 | _=>none
noncomputable def mn:Expr->Option Expr
 | .Call (.Name x _) [e] [] _=>if x="set" then some e else none
 | _=>none
noncomputable def IK(x:Str):Option String:=if x="int" then some "int" else if x="bool" then some "bool" else if x="tuple" then some "tuple" else if x="list" then some "list" else none
noncomputable def MQ:Expr->Bool
 | .ListComp ..=>true
 | _=>false
noncomputable def xh(T:Tr)(x:Str)(args:List Expr):Option FE :=
 if x="int" then (if args.length=1 then (qo T args).map fun fs=>bf xw fs else none)
 else if x="max" then (if args.isEmpty=true then none else (qo T args).map fun fs=>bf J6 fs)
 else none
noncomputable def xU(G:Sg)(sc:Scope)(T:Tr)(whole:Expr)(x:Str)(args:List Expr):Option FE :=
 if (v8 sc x&&args.all fun e=>!isStar e)=true then
  match G.fn.lookup x with
  | some (n,m)=>if (args.isEmpty||x == ("__debug__":Str))=true then none else (qo T args).map fun fs=>ah n m fs
  | none =>
   if x="len" then (match args with
    | [e]=>(match mn e with
     | some e'=>if (v8 sc "set"&&!isStar e')=true then (T.e e').map fun y=>if MQ e'=true then f1 oV y else f1 jN y else none
     | none=>(qo T args).map fun fs=>bf bP fs)
    | _=>none)
   else if x="isinstance" then (match args with
    | [e,.Name y _]=>if v8 sc y=true then (IK y).bind fun ty=>(T.e e).map fun z=>G8 ty z else none
    | _=>none)
   else if x="tuple" then (if args.length=1 then (qo T args).map fun fs=>bf bj fs else none)
   else if x="all" then (if args.length=1 then (qo T args).map fun fs=>bf lb fs else none)
   else if x="any" then (if args.length=1 then (qo T args).map fun fs=>bf Dr fs else none)
   else if x="sum" then (if args.length=1 then (qo T args).map fun fs=>bf kf fs else none)
   else if x="min" then (if args.isEmpty=true then none else (qo T args).map fun fs=>bf ji fs)
   else if (x == ("list":Str)||x == ("sorted":Str))=true then (T.f whole).map dh
   else xh T x args
 else none
noncomputable def zl:Expr->Bool
 | .Call ..=>true
 | _=>false
noncomputable def IF:Expr->Bool
 | .Tuple ..=>true
 | _=>false
noncomputable def wK(T:Tr)(o:Expr)(m:Str)(apos:Pos)(args:List Expr)(cpos:Pos):Option FE :=
 if (m == ("index":Str)&&apos.endLine == cpos.line&&!zl o)=true then (match args with
  | [e]=>if isStar e=false then (T.e o).bind fun x=>(T.e e).map fun y=>if IF e=true then f2 Iy x y else f2 ni x y else none
  | _=>none)
 else none
noncomputable def w4(G:Sg)(sc:Scope)(T:Tr)(x y:Str)(b:Expr)(args:List Expr):Option FE :=
 if ((v8 sc x&&v8 sc y)&&((args.all fun e=>!isStar e)&&(!args.isEmpty&&(!zk b&&(!(x == ("__debug__":Str))&&!(y == ("__debug__":Str)))))))=true then
  (G.fn.lookup x).bind fun p=>(G.fn.lookup y).bind fun q=>if p.1=q.1 then (T.e b).bind fun fk=>(qo T args).map fun fs=>oo p.1 p.2 q.2 fk fs else none
 else none
noncomputable def DZ(G:Sg)(sc:Scope)(N:List Str)(T:Tr)(whole:Expr):Option FE:=match whole with
 | .Name x _=>xN G sc N x
 | .Constant c _ _=>yT c
 | .UnaryOp op a _=>Ld T op a
 | .BinOp a op b _=>DQ T whole a op b
 | .BoolOp op es _=>sy T op es
 | .Compare a ops cs _=>y3 T a ops cs
 | .IfExp c a b _=>(T.t c).bind fun z=>(T.e a).bind fun x=>(T.e b).map fun y=>M3 z x y
 | .Tuple es _ _=>(qo T es).map aZ
 | .Subscript a b _=>CK T a b
 | .List ..=>(T.f whole).map dh
 | .ListComp ..=>(T.f whole).map dh
 | .Call (.Name x _) args [] _=>xU G sc T whole x args
 | .Call (.Name _ _) _ (_::_) _=>(T.f whole).map dh
 | .Call (.Attribute o m apos) args [] cpos=>wK T o m apos args cpos
 | .Call (.Subscript (.List [.Name x _,.Name y _] _) b _) args [] _=>w4 G sc T x y b args
 | _=>none
noncomputable def LS(T:Tr)(op:BoolOp):List Expr->Option (Dl.Env->Option Bool)
 | []=>none
 | [a]=>T.t a
 | a::b::r=>(T.t a).bind fun x=>(LS T op (b::r)).map fun y=>match op with|.And=>zv x y|.Or=>iE x y
noncomputable def C7:Expr->Bool
 | .Name ..=>true
 | .Call ..=>true
 | .Subscript ..=>true
 | _=>false
noncomputable def stepT(T:Tr)(whole:Expr):Option (Dl.Env->Option Bool):=match whole with
 | .Compare a ops cs _=>(y3 T a ops cs).map fB
 | .UnaryOp .Not a _=>(T.t a).map bx
 | .BoolOp op es _=>LS T op es
 | _=>if C7 whole=true then (T.e whole).map fB else none
noncomputable def tJ:Expr->Bool
 | .Tuple ..=>true
 | _=>false
noncomputable def LW(sc:Scope)(T:Tr)(tg iter:Expr):Option (Dl.Env->Option (List D)):=match iter with
 | .Call (.Name x _) args [] _ =>
  if x="range" then (match args with|[e]=>if (v8 sc "range"&&!isStar e)=true then (qo T args).map aV else none|_=>none)
  else if x="enumerate" then (match args with|[e]=>if (v8 sc "enumerate"&&!isStar e&&tJ tg)=true then (qo T args).map fP else none|_=>none)
  else if x="zip" then (match args with|[e,e']=>if (v8 sc "zip"&&!isStar e&&!isStar e'&&tJ tg)=true then (qo T args).map iZ else none|_=>none)
  else (T.e iter).map bw
 | .Set ..=>none
 | _=>(T.e iter).map bw
noncomputable def Mc:Expr->Option (List Str)
 | .Name x _=>some [x]
 | .Tuple [.Name x _,.Name y _] _ _=>some [x,y]
 | _=>none
noncomputable def L8:Expr->Option (List Str)
 | .Tuple [.Name x _,.Name y _,.Name z _] _ _=>some [x,y,z]
 | tg=>Mc tg
noncomputable def eU(N:List Str)(scope:Scope):List Nat:=(List.range N.length).filter fun j=>match N[j]? with|some x=>decide (scope.names.lookup x=some .free)|none=>false
noncomputable def Ie:Expr->Bool
 | .Set ..=>false
 | _=>true
noncomputable def Hw(B:Tr)(ifs:List Expr):Option (Dl.Env->Option Bool):=match ifs with
 | []=>some fun _=>some true
 | [c]=>B.t c
 | _=>none
noncomputable def sx(sc:Scope)(N:List Str)(T:Tr)(blk:Scope->List Str->Tr)(elt:Expr)(gens:List Comprehension)(scope:Scope):Option (Dl.Env->Option (List D)):=match gens with
 | [⟨tg,iter,ifs,as⟩] =>
  if as=0 then (L8 tg).bind fun xs =>
   if (iT sc scope N (xs++(eU N scope).filterMap fun j=>N[j]?) xs.length (eU N scope)&&(List.range xs.length).all fun i=>mE (xs++(eU N scope).filterMap fun j=>N[j]?) scope i (xs.getD i ""))=true then
    (LW sc T tg iter).bind fun fi=>(Hw (blk scope (xs++(eU N scope).filterMap fun j=>N[j]?)) ifs).bind fun tt =>
     ((blk scope (xs++(eU N scope).filterMap fun j=>N[j]?)).e elt).map fun te=>aq xs.length (eU N scope) fi (match xs with|[_]=>fG 0|[_,_]=>jo 0 1|_=>EN 0 1 2) tt te
   else none
  else none
 | _=>none
noncomputable def zh:Arguments->Option Str
 | ⟨[],[⟨x,none,_⟩],none,[],[],none,[]⟩=>if x="number" then some x else if x="plan" then some x else none
 | _=>none
noncomputable def tO(lam:Option Str)(sc:Scope)(N:List Str)(T:Tr)(lmb:Scope->List Str->Tr)(l:Expr)(params:Arguments)(body:Expr)(scope:Scope):Option (Dl.Env->Option (List D)) :=
 if (lam.isSome&&v8 sc "sorted"&&!isStar l)=true then
  (zh params).bind fun p =>
   if (iT sc scope N (p::(eU N scope).filterMap fun j=>N[j]?) 1 (eU N scope)&&mZ scope (p::(eU N scope).filterMap fun j=>N[j]?) p)=true then
    (T.e l).bind fun fl=>((lmb scope (p::(eU N scope).filterMap fun j=>N[j]?)).e body).map fun te=>mD (eU N scope) fl te
   else none
 else none
noncomputable def t8(lam:Option Str)(sc:Scope)(N:List Str)(T:Tr)(lmb:Scope->List Str->Tr)(l:Expr)(params:Arguments)(body:Expr)(scope:Scope):Option (Dl.Env->Option (List D)):=match l with
 | .Call (.Name r _) [e] [] _ =>
  if (lam.isSome&&v8 sc "sorted"&&r == ("range":Str)&&v8 sc "range"&&!isStar e)=true then
   (zh params).bind fun p =>
    if (iT sc scope N (p::(eU N scope).filterMap fun j=>N[j]?) 1 (eU N scope)&&mZ scope (p::(eU N scope).filterMap fun j=>N[j]?) p)=true then
     (qo T [e]).bind fun fs=>((lmb scope (p::(eU N scope).filterMap fun j=>N[j]?)).e body).map fun te=>o7 (eU N scope) fs te
    else none
  else none
 | _=>none
noncomputable def yv(lam:Option Str)(sc:Scope)(N:List Str)(T:Tr)(blk lmb:Scope->List Str->Tr)(whole:Expr):Option (Dl.Env->Option (List D)):=match whole with
 | .List es _=>(qo T es).map ke
 | .ListComp elt gens scope _=>sx sc N T blk elt gens scope
 | .BinOp a .Mult b _=>if Ht a=true then (T.f a).bind fun x=>(T.e b).map fun y=>oR x y else none
 | .BinOp a .Add b _=>(T.e a).bind fun x=>(T.e b).map fun y=>Nb rM x y
 | .Call (.Name x _) [l] [⟨some ky,.Lambda params body scope _,_⟩] _=>if (x == ("sorted":Str)&&ky == ("key":Str))=true then (match tO lam sc N T lmb l params body scope with|some f=>some f|none=>t8 lam sc N T lmb l params body scope) else none
 | .Call (.Name x _) [e] [] _ =>
  if (v8 sc x&&!isStar e)=true then
   if x="list" then (qo T [e]).map fun fs=>mH dF fs
   else if x="sorted" then (qo T [e]).map fun fs=>mH fX fs
   else none
  else none
 | _=>none
noncomputable def tr(G:Sg):Nat->Option Str->Scope->List Str->Tr
 | 0,_,_,_=>⟨fun _=>none,fun _=>none,fun _=>none⟩
 | n+1,lam,sc,N=>⟨DZ G sc N (tr G n lam sc N),yv lam sc N (tr G n lam sc N) (tr G n none) (tr G n none),stepT (tr G n lam sc N)⟩
structure Kx(G:Sg)(X:Cx)(j:Nat):Prop where
 fn:∀x n m,G.fn.lookup x=some (n,m)->dC X.prog X.w X.K X.mg X.base j x n m
 int:∀x i,G.int.lookup x=some i->∃t,X.mg x=some (.int i t)
 bn:Bn X
structure pD(X:Cx)(tg iter:Expr)(ifs:List Expr)(elt:Expr)(scope:Scope)(f:Dl.Env->Option (List D)):Prop where
 ex:∃ (N':List Str) (t:Nat) (cs:List Nat) (fi:Dl.Env->Option (List D)) (tgt:Dl.Env->D->Option Dl.Env) (tt:Dl.Env->Option Bool) (te:FE),f=aq t cs fi tgt tt te/\iz X scope N' (jx t cs)/\DI X tg iter fi/\(∀x,foldedSetIterable iter X.env x=pure x) /\
  ∀fp s H,DG (aS X scope N' fp s H) tg tgt/\Lg (aS X scope N' fp s H) ifs tt/\DE (aS X scope N' fp s H) elt te
structure cT(X:Cx)(T:Tr):Prop where
 c:∀elt gens scope p f,T.f (.ListComp elt gens scope p)=some f->∃tg iter ifs,gens=[⟨tg,iter,ifs,0⟩]/\pD X tg iter ifs elt scope f
 e:∀e f,T.e e=some f->DE X e f
 f:∀e f,T.f e=some f->DF X e f
 t:∀e f,T.t e=some f->DT X e f
section
variable {G:Sg}{X:Cx}{N:List Str}{sc:Scope}{k j:Nat}{T:Tr}{pos p:Pos}
theorem AN(C:Bk X N sc k)(g:Kx G X j){x:Str}{f:FE}(h:xN G sc N x=some f):DE X (.Name x pos) f:=by
 unfold xN at h
 split at h
 ·split at h
  ·cases h;exact C.v _ ‹_›
  ·cases h
 ·split at h
  ·rename_i hg
   obtain⟨n,hn,rfl⟩:=af h
   obtain⟨t,ht⟩:=g.int x n hn
   simp only[zF,Bool.not_eq_true'] at hg
   exact Gz (C.gl hg.1) ht hg.2
  ·cases h
theorem xM{c:Const}{i:Nat}{f:FE}(h:yT c=some f):DE X (.Constant c i pos) f:=by
 cases c<;>cases h<;>first|exact Ig|exact LB|exact IA|exact HX
theorem Fk(C:Bk X N sc k)(O:cT X T){op:UnaryOp}{a:Expr}{f:FE}(h:Ld T op a=some f):DE X (.UnaryOp op a pos) f:=by
 cases op<;>try cases h
 ·obtain⟨x,hx,rfl⟩:=af h;exact JW (O.e _ _ hx)
 ·obtain⟨x,hx,rfl⟩:=af h;exact C.neg (O.e _ _ hx)
theorem BE(C:Bk X N sc k)(O:cT X T){op:Operator}{a b:Expr}{f:FE}(h:DQ T (.BinOp a op b pos) a op b=some f):DE X (.BinOp a op b pos) f:=by
 unfold DQ at h
 split at h
 ·obtain⟨x,hx,rfl⟩:=af h;exact DF.de (O.f _ _ hx)
 ·obtain⟨g,hg,h⟩:=bs h
  obtain⟨x,hx,h⟩:=bs h
  obtain⟨y,hy,rfl⟩:=af h
  cases op<;>cases hg
  ·exact C.add (O.e _ _ hx) (O.e _ _ hy)
  ·exact C.sub (O.e _ _ hx) (O.e _ _ hy)
  ·exact C.mul (O.e _ _ hx) (O.e _ _ hy)
  ·exact C.mod (O.e _ _ hx) (O.e _ _ hy)
  ·exact C.div (O.e _ _ hx) (O.e _ _ hy)
theorem rq(O:cT X T){op:BoolOp}:∀ {es:List Expr}{f:FE},sy T op es=some f->DE X (.BoolOp op es pos) f
 | [],f,h=>by cases h
 | [a],f,h=>Jw (O.e _ _ h)
 | a::b::r,f,h=>by
  unfold sy at h
  obtain⟨x,hx,h⟩:=bs h
  obtain⟨y,hy,rfl⟩:=af h
  have ih:=rq O hy
  cases op with
  | And=>exact Ib (O.e _ _ hx) ih
  | Or=>exact Lp (O.e _ _ hx) ih
theorem J1(C:Bk X N sc k){op:CmpOp}{a b:Expr}{g:D->D->Option D}{x y:FE}(hg:Ls op=some g)(hm:behindInMarks op b=false)(ha:DE X a x)(hb:DE X b y):DE X (.Compare a [op] [b] pos) (f2 g x y)/\DT X (.Compare a [op] [b] pos) (fB (f2 g x y)):=by
 cases op<;>cases hg
 ·exact⟨C.eq ha hb,C.teq ha hb⟩
 ·exact⟨C.ne ha hb,C.tne ha hb⟩
 ·exact⟨C.lt ha hb,C.tlt ha hb⟩
 ·exact⟨C.le ha hb,C.tle ha hb⟩
 ·exact⟨C.gt ha hb,C.tgt ha hb⟩
 ·exact⟨C.ge ha hb,C.tge ha hb⟩
 ·exact⟨C.is0 ha hb,C.tis0 ha hb⟩
 ·exact⟨C.not0 ha hb,C.tnot0 ha hb⟩
 ·exact⟨C.isin ha hb hm,C.tin ha hb hm⟩
 ·exact⟨C.notin ha hb hm,C.tnin ha hb hm⟩
theorem Hs{op:CmpOp}{g:D->D->Option D}(h:Ms op=some g):∃r,gD X (compareOp op) r/\eY X.K r g:=by
 cases op<;>cases h
 ·exact⟨_,CS,gz⟩
 ·exact⟨_,EF,gz⟩
theorem vq(C:Bk X N sc k)(O:cT X T){a:Expr}{ops:List CmpOp}{cs:List Expr}{f:FE}(h:y3 T a ops cs=some f):DE X (.Compare a ops cs pos) f/\DT X (.Compare a ops cs pos) (fB f):=by
 unfold y3 at h
 split at h
 ·split at h
  ·rename_i hm
   obtain⟨g,hg,h⟩:=bs h
   obtain⟨x,hx,h⟩:=bs h
   obtain⟨y,hy,rfl⟩:=af h
   exact J1 C hg hm (O.e _ _ hx) (O.e _ _ hy)
  ·cases h
 ·split at h
  ·rename_i hm
   obtain⟨g,hg,h⟩:=bs h
   obtain⟨g',hg',h⟩:=bs h
   obtain⟨x,hx,h⟩:=bs h
   obtain⟨y,hy,h⟩:=bs h
   obtain⟨z,hz,rfl⟩:=af h
   obtain⟨r,r1,r2⟩:=Hs (X:=X) hg
   obtain⟨r',r1',r2'⟩:=Hs (X:=X) hg'
   exact⟨BP r1 r2 r1' r2' (O.e _ _ hx) (O.e _ _ hy) (O.e _ _ hz) hm,BF r1 r2 r1' r2' (O.e _ _ hx) (O.e _ _ hy) (O.e _ _ hz) hm⟩
  ·cases h
 ·cases h
theorem bX(O:cT X T):∀ {es:List Expr}{fs:Dl.Env->Option (List D)},qo T es=some fs->DA X es fs
 | [],fs,h=>by cases h;exact Ci
 | e::es,fs,h=>by
  unfold qo at h
  split at h
  ·rename_i hs
   obtain⟨x,hx,h⟩:=bs h
   obtain⟨r,hr,rfl⟩:=af h
   exact ML hs (O.e _ _ hx) (bX O hr)
  ·cases h
theorem Ct(O:cT X T){o:Option Expr}{f:Dl.Env->Option (Option Int)}(h:Mo T o=some f):DO X o f:=by
 cases o with
 | none=>cases h;exact E6
 | some e=>obtain⟨x,hx,rfl⟩:=af h;exact E7 (O.e _ _ hx)
theorem oQ{b:Expr}(h:zk b=false):nW b:=by
 cases b<;>first|(intro _ _;rfl)|cases h
theorem r8{e:Expr}(h:k7 e=true):∃j p4 p3,e=.UnaryOp .USub (.Constant (.int 1) j p4) p3:=by
 unfold k7 at h
 split at h
 ·exact⟨_,_,_,rfl⟩
 ·cases h
theorem IX{e:Expr}(h:BN e=true):∃j p,e=.Constant (.int 1) j p:=by
 unfold BN at h
 split at h
 ·exact⟨_,_,rfl⟩
 ·cases h
theorem BA(C:Bk X N sc k)(O:cT X T){a b:Expr}{f:FE}(h:CK T a b=some f):DE X (.Subscript a b pos) f:=by
 unfold CK at h
 split at h
 ·obtain⟨x,hx,h⟩:=bs h
  obtain⟨l,hl,h⟩:=bs h
  obtain⟨u,hu,rfl⟩:=af h
  exact C.cut (O.e _ _ hx) (Ct O hl) (Ct O hu)
 ·split at h
  ·rename_i hm
   obtain⟨x,hx,rfl⟩:=af h
   obtain⟨_,_,_,rfl⟩:=r8 hm
   exact Ij (O.e _ _ hx)
  ·cases h
 ·split at h
  ·rename_i hm
   rw[zF] at hm
   obtain⟨x,hx,rfl⟩:=af h
   obtain⟨_,_,_,rfl⟩:=r8 hm.2
   obtain⟨_,_,rfl⟩:=IX hm.1
   exact Gh (O.e _ _ hx)
  ·cases h
 ·split at h
  ·rename_i hc
   obtain⟨x,hx,h⟩:=bs h
   obtain⟨y,hy,rfl⟩:=af h
   exact Ly (O.e _ _ hx) (O.e _ _ hy) (oQ hc)
  ·cases h
theorem cA{env:PySem.Env}:∀ {es:List Expr},(es.all fun e=>!isStar e)=true->(backTo pos (starEach es env)).any (·.1)=false
 | [],_=>rfl
 | e::es,h=>by
  rw[List.all_cons,zF,Bool.not_eq_true'] at h
  rw[bc h.1]
  show (false||(backTo pos (starEach es env)).any (·.1))=false
  rw[cA h.2]
  rfl
theorem Cn{e e':Expr}(h:mn e=some e'):∃p q,e=.Call (.Name "set" p) [e'] [] q:=by
 unfold mn at h
 split at h
 ·split at h
  ·rename_i hx;cases h;subst hx;exact⟨_,_,rfl⟩
  ·cases h
 ·cases h
theorem Ge{y:Str}{ty:String}(h:IK y=some ty):y∈cq/\bootBuiltins y=some (.type ty)/\y≠"__name__"/\(y == ("__debug__":Str))=false:=by
 unfold IK at h
 split at h
 ·rename_i e;cases h;subst e;exact⟨by decide +kernel,by decide +kernel,by decide,by decide⟩
 ·split at h
  ·rename_i e;cases h;subst e;exact⟨by decide +kernel,by decide +kernel,by decide,by decide⟩
  ·split at h
   ·rename_i e;cases h;subst e;exact⟨by decide +kernel,by decide +kernel,by decide,by decide⟩
   ·split at h
    ·rename_i e;cases h;subst e;exact⟨by decide +kernel,by decide +kernel,by decide,by decide⟩
    ·cases h
theorem Kt:bootBuiltins "any"=some (.builtin "any"):=by decide +kernel
theorem JJ:bootBuiltins "sum"=some (.builtin "sum"):=by decide +kernel
theorem Ju:bootBuiltins "max"=some (.builtin "max"):=by decide +kernel
theorem Jt:bootBuiltins "min"=some (.builtin "min"):=by decide +kernel
theorem tj{α:Type}{l:List α}(h:l.length=1):∃a,l=[a]:=by
 match l,h with
 | [a],_=>exact⟨a,rfl⟩
theorem z9(C:Bk X N sc k)(g:Kx G X j)(O:cT X T){x:Str}{args:List Expr}{f:FE}(hg:v8 sc x=true)(hs:args.all (fun e=>!isStar e)=true)(h:xh T x args=some f):DE X (.Call (.Name x p) args [] pos) f:=by
 have st1:∀ {e:Expr}{es:List Expr},args=e::es->starEach (e::es) X.env=(false,eval e X.env)::starEach es X.env:=fun {e es} q=>by
  subst q
  rw[List.all_cons,zF,Bool.not_eq_true'] at hs
  exact bc hs.1
 have st2:∀ {e:Expr}{es:List Expr},args=e::es->(backTo pos (starEach es X.env)).any (·.1)=false:=fun {e es} q=>by
  subst q
  rw[List.all_cons,zF] at hs
  exact cA hs.2
 unfold xh at h
 split at h
 ·rename_i hx
  subst hx
  split at h
  ·rename_i hl
   obtain⟨fs,hfs,rfl⟩:=af h
   obtain⟨e,rfl⟩:=tj hl
   exact B0 (C.blt g.bn hg (by decide +kernel) Jr) (bX O hfs) (st1 rfl)
  ·cases h
 ·split at h
  ·rename_i hx
   subst hx
   split at h
   ·cases h
   ·rename_i hl
    obtain⟨fs,hfs,rfl⟩:=af h
    cases args with
    | nil=>exact absurd rfl hl
    | cons e es=>exact Iv C.calm (C.blt g.bn hg (by decide +kernel) Ju) (st1 rfl) (st2 rfl) (bX O hfs)
  ·cases h
theorem Al(C:Bk X N sc k)(g:Kx G X j)(hjk:j<=k)(O:cT X T){x:Str}{args:List Expr}{f:FE}(h:xU G sc T (.Call (.Name x p) args [] pos) x args=some f):DE X (.Call (.Name x p) args [] pos) f:=by
 unfold xU at h
 split at h
 ·rename_i hg
  rw[zF] at hg
  obtain⟨hg,hs⟩:=hg
  have st1:∀ {e:Expr}{es:List Expr},args=e::es->starEach (e::es) X.env=(false,eval e X.env)::starEach es X.env:=fun {e es} q=>by
   subst q
   rw[List.all_cons,zF,Bool.not_eq_true'] at hs
   exact bc hs.1
  have st2:∀ {e:Expr}{es:List Expr},args=e::es->(backTo pos (starEach es X.env)).any (·.1)=false:=fun {e es} q=>by
   subst q
   rw[List.all_cons,zF] at hs
   exact cA hs.2
  split at h
  ·rename_i n m hfn
   split at h
   ·cases h
   ·rename_i hne
    obtain⟨fs,hfs,rfl⟩:=af h
    cases args with
    | nil=>exact absurd (by simp) hne
    | cons e es =>
     have hd:(x == ("__debug__":Str))=false:=by simpa using hne
     exact Gm (g.fn x n m hfn) (C.room.mono hjk) (C.gl hg) (bX O hfs) hd (st1 rfl) (st2 rfl)
  ·split at h
   ·rename_i hx
    subst hx
    split at h
    ·rename_i e
     split at h
     ·rename_i e' he'
      split at h
      ·rename_i hg2
       rw[zF,Bool.not_eq_true'] at hg2
       obtain⟨y,hy,rfl⟩:=af h
       obtain⟨p1,p2,rfl⟩:=Cn he'
       split
       ·exact we C.calm (C.blt g.bn hg (by decide +kernel) xD) (C.blt g.bn hg2.1 (by decide +kernel) CN) (O.e _ _ hy) (bc hg2.2)
       ·exact AO C.calm (C.blt g.bn hg (by decide +kernel) xD) (C.blt g.bn hg2.1 (by decide +kernel) CN) (O.e _ _ hy) (bc hg2.2)
      ·cases h
     ·obtain⟨fs,hfs,rfl⟩:=af h
      exact J5 (C.blt g.bn hg (by decide +kernel) xD) (bX O hfs) (st1 rfl)
    ·cases h
   ·split at h
    ·rename_i hx
     subst hx
     split at h
     ·rename_i e y py
      split at h
      ·rename_i hgy
       obtain⟨ty,hty,h⟩:=bs h
       obtain⟨z,hz,rfl⟩:=af h
       obtain⟨t1,t2,t3,t4⟩:=Ge hty
       exact KG (C.blt g.bn hg (by decide +kernel) p8) (C.blt g.bn hgy t1 t2) (O.e _ _ hz) t3 t4 (st1 rfl)
      ·cases h
     ·cases h
    ·split at h
     ·rename_i hx
      subst hx
      split at h
      ·rename_i hl
       obtain⟨fs,hfs,rfl⟩:=af h
       obtain⟨e,rfl⟩:=tj hl
       exact Dp (C.blt g.bn hg (by decide +kernel) D9) (bX O hfs) (st1 rfl)
      ·cases h
     ·split at h
      ·rename_i hx
       subst hx
       split at h
       ·rename_i hl
        obtain⟨fs,hfs,rfl⟩:=af h
        obtain⟨e,rfl⟩:=tj hl
        exact HM C.calm (C.blt g.bn hg (by decide +kernel) IZ) (bX O hfs) (st1 rfl)
       ·cases h
      ·split at h
       ·rename_i hx
        subst hx
        split at h
        ·rename_i hl
         obtain⟨fs,hfs,rfl⟩:=af h
         obtain⟨e,rfl⟩:=tj hl
         exact IH C.calm (C.blt g.bn hg (by decide +kernel) Kt) (st1 rfl) (bX O hfs)
        ·cases h
       ·split at h
        ·rename_i hx
         subst hx
         split at h
         ·rename_i hl
          obtain⟨fs,hfs,rfl⟩:=af h
          obtain⟨e,rfl⟩:=tj hl
          exact Ia C.calm (C.blt g.bn hg (by decide +kernel) JJ) (st1 rfl) (bX O hfs)
         ·cases h
        ·split at h
         ·rename_i hx
          subst hx
          split at h
          ·cases h
          ·rename_i hl
           obtain⟨fs,hfs,rfl⟩:=af h
           cases args with
           | nil=>exact absurd rfl hl
           | cons e es=>exact IT C.calm (C.blt g.bn hg (by decide +kernel) Jt) (st1 rfl) (st2 rfl) (bX O hfs)
         ·split at h
          ·obtain⟨y,hy,rfl⟩:=af h
           exact DF.de (O.f _ _ hy)
          ·exact z9 C g O hg hs h
 ·cases h
end
section
variable {G:Sg}{X:Cx}{N:List Str}{sc:Scope}{k j:Nat}{T:Tr}{pos p:Pos}
theorem Le{env:PySem.Env}{e:Expr}{cpos:Pos}(h:isStar e=false):((backTo cpos (starEach [e] env)).all (fun x=>!x.1)&&(backToKw cpos (keywordEach [] env)).all (fun x=>x.1.isSome)&&decide ([e].length+([]:List Keyword).length+(if ([]:List Keyword).isEmpty then 0 else 1) < 30))=true:=by
 rw[bc h];rfl
theorem j8{o:Expr}{a:Str}{env:PySem.Env}{w:Sem Value}(h:zl o=false):attributeBase o a env w=w:=by
 cases o<;>first|rfl|cases h
theorem AX(C:Bk X N sc k)(O:cT X T){o:Expr}{m:Str}{apos cpos:Pos}{args:List Expr}{f:FE}(h:wK T o m apos args cpos=some f):DE X (.Call (.Attribute o m apos) args [] cpos) f:=by
 unfold wK at h
 split at h
 ·rename_i hm
  rw[zF,zF,Bool.not_eq_true'] at hm
  obtain⟨⟨hm1,hm⟩,hcl⟩:=hm
  have e1:m="index":=eq_of_beq hm1
  subst e1
  split at h
  ·rename_i e
   split at h
   ·rename_i hs
    obtain⟨x,hx,h⟩:=bs h
    obtain⟨y,hy,rfl⟩:=af h
    split
    ·exact Bq C.u66 (j8 hcl) (Le hs) hm (bc hs) (O.e _ _ hx) (O.e _ _ hy)
    ·exact Ac (j8 hcl) (Le hs) hm (bc hs) (O.e _ _ hx) (O.e _ _ hy)
   ·cases h
  ·cases h
 ·cases h
theorem Bt(C:Bk X N sc k)(g:Kx G X j)(hjk:j<=k)(O:cT X T){x y:Str}{b:Expr}{args:List Expr}{f:FE}{p0 p1 p2 p3:Pos}(h:w4 G sc T x y b args=some f):DE X (.Call (.Subscript (.List [.Name x p0,.Name y p1] p2) b p3) args [] pos) f:=by
 unfold w4 at h
 split at h
 ·rename_i hg
  simp only[zF,Bool.not_eq_true'] at hg
  obtain⟨⟨hx,hy⟩,hs,he,hb,dx,dy⟩:=hg
  obtain⟨⟨n,m⟩,h1,h⟩:=bs h
  obtain⟨⟨n',m'⟩,h2,h⟩:=bs h
  split at h
  ·rename_i hn
   obtain rfl:n=n':=hn
   obtain⟨fk,h3,h⟩:=bs h
   obtain⟨fs,h4,rfl⟩:=af h
   cases args with
   | nil=>cases he
   | cons e es =>
    rw[List.all_cons,zF,Bool.not_eq_true'] at hs
    exact FX (g.fn x n m h1) (g.fn y n m' h2) (C.room.mono hjk) (C.gl hx) (C.gl hy) (O.e _ _ h3) (bX O h4) dx dy (oQ hb) (bc hs.1) (cA hs.2)
  ·cases h
 ·cases h
theorem C3(C:Bk X N sc k)(g:Kx G X j)(hjk:j<=k)(O:cT X T){e:Expr}{f:FE}(h:DZ G sc N T e=some f):DE X e f:=by
 unfold DZ at h
 split at h
 ·exact AN C g h
 ·exact xM h
 ·exact Fk C O h
 ·exact BE C O h
 ·exact rq O h
 ·exact (vq C O h).1
 ·obtain⟨z,hz,h⟩:=bs h
  obtain⟨x,hx,h⟩:=bs h
  obtain⟨y,hy,rfl⟩:=af h
  exact KI (O.t _ _ hz) (O.e _ _ hx) (O.e _ _ hy)
 ·obtain⟨x,hx,rfl⟩:=af h;exact J2 (bX O hx)
 ·exact BA C O h
 ·obtain⟨x,hx,rfl⟩:=af h;exact DF.de (O.f _ _ hx)
 ·obtain⟨x,hx,rfl⟩:=af h;exact DF.de (O.f _ _ hx)
 ·exact Al C g hjk O h
 ·obtain⟨x,hx,rfl⟩:=af h;exact DF.de (O.f _ _ hx)
 ·exact AX C O h
 ·exact Bt C g hjk O h
 ·cases h
theorem DC(O:cT X T){op:BoolOp}:∀ {es:List Expr}{f:Dl.Env->Option Bool},LS T op es=some f->DW X (.BoolOp op es pos) f
 | [],f,h=>by cases h
 | [a],f,h=>by
  cases op with
  | And=>exact GD (O.t _ _ h)
  | Or=>exact JY (O.t _ _ h)
 | a::b::r,f,h=>by
  unfold LS at h
  obtain⟨x,hx,h⟩:=bs h
  obtain⟨y,hy,rfl⟩:=af h
  have ih:=DC O hy
  cases op with
  | And=>exact IR (O.t _ _ hx) ih
  | Or=>exact La (O.t _ _ hx) ih
theorem BO(C:Bk X N sc k)(O:cT X T){e:Expr}{f:Dl.Env->Option Bool}(h:stepT T e=some f):DT X e f:=by
 unfold stepT at h
 split at h
 ·obtain⟨x,hx,rfl⟩:=af h;exact (vq C O hx).2
 ·obtain⟨x,hx,rfl⟩:=af h;exact JX (O.t _ _ hx)
 ·exact DW.dt (DC O h)
 ·split at h
  ·rename_i hp
   obtain⟨x,hx,rfl⟩:=af h
   refine IE (O.e _ _ hx) ?_
   revert hp
   cases e<;>first|(intro hp;cases hp;done)|(intro hp _;rfl)
  ·cases h
theorem JG{e:Expr}{env:PySem.Env}(h:Ie e=true):∀x,foldedSetIterable e env x=pure x:=by
 cases e<;>first|(intro _;rfl)|cases h
theorem Ef(C:Bk X N sc k)(B:Bn X)(O:cT X T){tg iter:Expr}{fi:Dl.Env->Option (List D)}(h:LW sc T tg iter=some fi):DI X tg iter fi/\∀x,foldedSetIterable iter X.env x=pure x:=by
 unfold LW at h
 split at h
 ·refine⟨?_,fun _=>rfl⟩
  split at h
  ·rename_i hx
   subst hx
   split at h
   ·split at h
    ·rename_i hg
     rw[zF,Bool.not_eq_true'] at hg
     obtain⟨x,hx,rfl⟩:=af h
     exact BI (C.blt B hg.1 (by decide +kernel) vR) (bX O hx) (bc hg.2)
    ·cases h
   ·cases h
  ·split at h
   ·rename_i hx
    subst hx
    split at h
    ·split at h
     ·rename_i hg
      simp only[zF,Bool.not_eq_true'] at hg
      obtain⟨x,hx,rfl⟩:=af h
      cases tg<;>first|exact Fh (C.blt B hg.1.1 (by decide +kernel) ua) (bX O hx) (bc hg.1.2)|exact absurd hg.2 (by simp[tJ])
     ·cases h
    ·cases h
   ·split at h
    ·rename_i hx
     subst hx
     split at h
     ·split at h
      ·rename_i e e' hg
       simp only[zF,Bool.not_eq_true'] at hg
       obtain⟨x,hx,rfl⟩:=af h
       cases tg<;>first|exact GM (C.blt B hg.1.1.1 (by decide +kernel) JV) (bc hg.1.1.2) (cA (by simp[hg.1.2])) (bX O hx)|exact absurd hg.2 (by simp[tJ])
      ·cases h
     ·cases h
    ·obtain⟨x,hx,rfl⟩:=af h
     exact EE (O.e _ _ hx)
 ·cases h
 ·rename_i h1 h2
  obtain⟨x,hx,rfl⟩:=af h
  refine⟨EE (O.e _ _ hx),JG ?_⟩
  cases iter<;>first|rfl|exact absurd rfl (h2 _ _ _)
theorem IL{tg:Expr}{xs:List Str}(h:Mc tg=some xs):(∃x px,tg=.Name x px/\xs=[x])\/∃x px y py m pt,tg=.Tuple [.Name x px,.Name y py] m pt/\xs=[x,y]:=by
 unfold Mc at h
 split at h
 ·cases h;exact .inl ⟨_,_,rfl,rfl⟩
 ·cases h;exact .inr ⟨_,_,_,_,_,_,rfl,rfl⟩
 ·cases h
theorem Im{tg:Expr}{xs:List Str}(h:L8 tg=some xs):((∃x px,tg=.Name x px/\xs=[x])\/∃x px y py m pt,tg=.Tuple [.Name x px,.Name y py] m pt/\xs=[x,y])\/∃x px y py z pz m pt,tg=.Tuple [.Name x px,.Name y py,.Name z pz] m pt/\xs=[x,y,z]:=by
 unfold L8 at h
 split at h
 ·cases h;exact .inr ⟨_,_,_,_,_,_,_,_,rfl,rfl⟩
 ·exact .inl (IL h)
theorem qT(C:Bk X N sc k)(B:Bn X)(O:cT X T){blk:Scope->List Str->Tr}(OB:∀scope N' fp s H,Bk (aS X scope N' fp s H) N' scope k->cT (aS X scope N' fp s H) (blk scope N')){tg iter elt:Expr}{ifs:List Expr}{as:Int}{scope:Scope}{f:Dl.Env->Option (List D)}
  (h:sx sc N T blk elt [⟨tg,iter,ifs,as⟩] scope=some f):as=0/\pD X tg iter ifs elt scope f:=by
 unfold sx at h
 dsimp only at h
 split at h
 ·rename_i has
  refine⟨has,?_⟩
  obtain⟨xs,hxs,h⟩:=bs h
  split at h
  ·rename_i hok
   rw[zF] at hok
   obtain⟨fi,hfi,h⟩:=bs h
   obtain⟨tt,htt,h⟩:=bs h
   obtain⟨te,hte,rfl⟩:=af h
   obtain⟨S,CB⟩:=C.comp hok.1
   obtain⟨hd,hfold⟩:=Ef C B O hfi
   refine⟨_,_,_,_,_,_,_,rfl,S,hd,hfold,fun fp s H=>?_⟩
   have C1:=CB fp s H
   have O1:=OB scope _ fp s H C1
   refine⟨?_,?_,O1.e _ _ hte⟩
   ·rcases Im hxs with (⟨x,px,rfl,rfl⟩|⟨x,px,y,py,m,pt,rfl,rfl⟩)|⟨x,px,y,py,z,pz,m,pt,rfl,rfl⟩
    ·have z:=C1.loc (i:=0) (x:=x) (List.all_eq_true.mp hok.2 0 (by simp))
     exact F0 0 z.1 z.2.1 z.2.2.1 z.2.2.2
    ·have z:=C1.loc (i:=0) (x:=x) (List.all_eq_true.mp hok.2 0 (by simp))
     have w:=C1.loc (i:=1) (x:=y) (List.all_eq_true.mp hok.2 1 (by simp))
     exact HU 0 1 C1.calm z.1 z.2.1 z.2.2.1 w.2.1 w.2.2.1 z.2.2.2 w.2.2.2
    ·have z0:=C1.loc (i:=0) (x:=x) (List.all_eq_true.mp hok.2 0 (by simp))
     have w:=C1.loc (i:=1) (x:=y) (List.all_eq_true.mp hok.2 1 (by simp))
     have u:=C1.loc (i:=2) (x:=z) (List.all_eq_true.mp hok.2 2 (by simp))
     exact Es 0 1 2 C1.calm z0.1 z0.2.1 z0.2.2.1 w.2.1 w.2.2.1 u.2.1 u.2.2.1 z0.2.2.2 w.2.2.2 u.2.2.2
   ·unfold Hw at htt
    split at htt
    ·cases htt;exact Fn
    ·exact Gg (O1.t _ _ htt)
    ·cases htt
  ·cases h
 ·cases h
theorem pD.df{tg iter elt:Expr}{ifs:List Expr}{scope:Scope}{f:Dl.Env->Option (List D)}(hc:X.calm=true)(h:pD X tg iter ifs elt scope f):DF X (.ListComp elt [⟨tg,iter,ifs,0⟩] scope pos) f:=by
 obtain⟨N',t,cs,fi,tgt,tt,te,rfl,S,hd,hfold,hY⟩:=h.ex
 exact F8 hc S hd hY hfold
theorem vf{a:Arguments}{x:Str}(h:zh a=some x):∃px,a=⟨[],[⟨x,none,px⟩],none,[],[],none,[]⟩/\(x="number"\/x="plan"):=by
 unfold zh at h
 split at h
 ·split at h
  ·cases h;exact⟨_,rfl,.inl ‹_›⟩
  ·split at h
   ·cases h;exact⟨_,rfl,.inr ‹_›⟩
   ·cases h
 ·cases h
theorem bind1{x q:Str}{px:Pos}{body:Expr}{scope:Scope}{cl:List (Str×Addr)}{pm ctv u:Value}{c:Addr}(h:x="number"\/x="plan") :
  bindArgs (W.kla_fn "<lambda>" q ⟨[],[⟨x,none,px⟩],none,[],[],none,[]⟩ body scope cl pm (.ref c) ctv) ⟨[u],[]⟩=pure [(x,u)]:=by
 rcases h with rfl|rfl<;>rfl
theorem xq{lam:Option Str}(C:Bk X N sc k)(B:Bn X)(hlam:∀q,lam=some q->pq X q/\j+3<=k)(O:cT X T){lmb:Scope->List Str->Tr}
  (OL:∀scope N' qual A f c s H,Bk (gh X A qual scope N' f c s H) N' scope (k - 3)->j<=k - 3->cT (gh X A qual scope N' f c s H) (lmb scope N')) {l body:Expr}{params:Arguments}{scope:Scope}{p0 lpos kpos:Pos}{f:Dl.Env->Option (List D)}
  (h:tO lam sc N T lmb l params body scope=some f):DF X (.Call (.Name "sorted" p0) [l] [⟨some "key",.Lambda params body scope lpos,kpos⟩] pos) f:=by
 unfold tO at h
 split at h
 ·rename_i hg
  simp only[zF,Bool.not_eq_true'] at hg
  obtain⟨⟨hl,hg⟩,hs⟩:=hg
  obtain⟨q,rfl⟩:=Option.isSome_iff_exists.mp hl
  obtain⟨L,hk⟩:=hlam q rfl
  obtain⟨x,hx,h2⟩:=bs h
  clear h
  obtain⟨px,rfl,hpx⟩:=vf hx
  split at h2
  ·rename_i hok
   rw[zF] at hok
   obtain⟨fl,hfl,h⟩:=bs h2
   obtain⟨te,hte,rfl⟩:=af h
   obtain⟨k',rfl⟩:∃k',k=k'+3:=⟨k - 3,by omega⟩
   exact Bk.sortK (p:=x) C (C.blt B hg (by decide +kernel) my) L hok.1 hok.2 (fun _ _ _ _ _=>bind1 hpx) rfl (O.e _ _ hfl) (fun A f c s H C'=>(OL scope _ q A f c s H C' (by omega)).e _ _ hte) (bc hs) (by rw[bc hs];rfl) (cA (by simp[hs]))
  ·cases h2
 ·cases h
theorem wF{lam:Option Str}(C:Bk X N sc k)(B:Bn X)(hlam:∀q,lam=some q->pq X q/\j+3<=k)(O:cT X T){lmb:Scope->List Str->Tr}
  (OL:∀scope N' qual A f c s H,Bk (gh X A qual scope N' f c s H) N' scope (k - 3)->j<=k - 3->cT (gh X A qual scope N' f c s H) (lmb scope N')) {l body:Expr}{params:Arguments}{scope:Scope}{p0 lpos kpos:Pos}{f:Dl.Env->Option (List D)}
  (h:t8 lam sc N T lmb l params body scope=some f):DF X (.Call (.Name "sorted" p0) [l] [⟨some "key",.Lambda params body scope lpos,kpos⟩] pos) f:=by
 unfold t8 at h
 split at h
 ·split at h
  ·rename_i hg
   simp only[zF,Bool.not_eq_true'] at hg
   obtain⟨⟨⟨⟨hl,hg⟩,hr⟩,hgr⟩,hs⟩:=hg
   have er:=eq_of_beq hr
   subst er
   obtain⟨q,rfl⟩:=Option.isSome_iff_exists.mp hl
   obtain⟨L,hk⟩:=hlam q rfl
   obtain⟨x,hx,h2⟩:=bs h
   clear h
   obtain⟨px,rfl,hpx⟩:=vf hx
   split at h2
   ·rename_i hok
    rw[zF] at hok
    obtain⟨fl,hfl,h⟩:=bs h2
    obtain⟨te,hte,rfl⟩:=af h
    obtain⟨k',rfl⟩:∃k',k=k'+3:=⟨k - 3,by omega⟩
    exact Bk.sortR (p:=x) C (C.blt B hg (by decide +kernel) my) (C.blt B hgr (by decide +kernel) vR) L hok.1 hok.2 (fun _ _ _ _ _=>bind1 hpx) rfl (bX O hfl) (fun A f c s H C'=>(OL scope _ q A f c s H C' (by omega)).e _ _ hte) (bc hs) (bc rfl) (by rw[bc rfl];rfl) (cA (by rfl))
   ·cases h2
  ·cases h
 ·cases h
theorem Cv{lam:Option Str}(C:Bk X N sc k)(B:Bn X)(hlam:∀q,lam=some q->pq X q/\j+3<=k)(O:cT X T){blk lmb:Scope->List Str->Tr}
  (OB:∀scope N' fp s H,Bk (aS X scope N' fp s H) N' scope k->cT (aS X scope N' fp s H) (blk scope N'))
  (OL:∀scope N' qual A f c s H,Bk (gh X A qual scope N' f c s H) N' scope (k - 3)->j<=k - 3->cT (gh X A qual scope N' f c s H) (lmb scope N')) {e:Expr}{f:Dl.Env->Option (List D)}(h:yv lam sc N T blk lmb e=some f):DF X e f:=by
 unfold yv at h
 split at h
 ·obtain⟨x,hx,rfl⟩:=af h;exact HN (bX O hx)
 ·rename_i elt gens scope ps
  match gens,h with
  | [⟨tg,iter,ifs,as⟩],h =>
   obtain⟨rfl,q⟩:=qT C B O OB h
   exact q.df C.calm
 ·split at h
  ·obtain⟨x,hx,h⟩:=bs h
   obtain⟨y,hy,rfl⟩:=af h
   exact Km (O.f _ _ hx) (O.e _ _ hy)
  ·cases h
 ·obtain⟨x,hx,h⟩:=bs h
  obtain⟨y,hy,rfl⟩:=af h
  exact Ii (O.e _ _ hx) (O.e _ _ hy)
 ·split at h
  ·rename_i hk
   rw[zF] at hk
   have e1:=eq_of_beq hk.1
   have e2:=eq_of_beq hk.2
   subst e1 e2
   split at h
   ·cases h;exact xq C B hlam O OL ‹_›
   ·exact wF C B hlam O OL h
  ·cases h
 ·split at h
  ·rename_i hg
   rw[zF,Bool.not_eq_true'] at hg
   split at h
   ·rename_i hx
    subst hx
    obtain⟨x,hx,rfl⟩:=af h
    exact EW (C.blt B hg.1 (by decide +kernel) Fe) (bX O hx) (bc hg.2)
   ·split at h
    ·rename_i hx
     subst hx
     obtain⟨x,hx,rfl⟩:=af h
     exact AD (C.blt B hg.1 (by decide +kernel) my) (bX O hx) (bc hg.2)
    ·cases h
  ·cases h
 ·cases h
theorem GA{lam:Option Str}(C:Bk X N sc k)(B:Bn X)(O:cT X T){blk lmb:Scope->List Str->Tr}(OB:∀scope N' fp s H,Bk (aS X scope N' fp s H) N' scope k->cT (aS X scope N' fp s H) (blk scope N'))
  {elt:Expr}{gens:List Comprehension}{scope:Scope}{p:Pos}{f:Dl.Env->Option (List D)}(h:yv lam sc N T blk lmb (.ListComp elt gens scope p)=some f):∃tg iter ifs,gens=[⟨tg,iter,ifs,0⟩]/\pD X tg iter ifs elt scope f:=by
 have h:sx sc N T blk elt gens scope=some f:=h
 match gens,h with
 | [⟨tg,iter,ifs,as⟩],h =>
  obtain⟨rfl,q⟩:=qT C B O OB h
  exact⟨tg,iter,ifs,rfl,q⟩
theorem Hx(n:Nat):∀ {lam:Option Str}{X:Cx}{N:List Str}{sc:Scope}{k:Nat},Bk X N sc k->Kx G X j->j<=k->(∀q,lam=some q->pq X q/\j+3<=k)->cT X (tr G n lam sc N):=by
 induction n with
 | zero=>intro lam X N sc k C g hjk hlam;exact⟨fun _ _ _ _ _ h=>(by cases h),fun _ _ h=>(by cases h),fun _ _ h=>(by cases h),fun _ _ h=>(by cases h)⟩
 | succ n ih =>
  intro lam X N sc k C g hjk hlam
  have O:=ih C g hjk hlam
  exact⟨fun elt gens scope p f h=>GA (lam:=lam) (lmb:=tr G n none) (p:=p) C g.bn O (fun scope N' fp s H C'=>ih C' ⟨g.fn,g.int,g.bn⟩ hjk fun q z=>by cases z) h,fun e f h=>C3 C g hjk O h,
   fun e f h=>Cv C g.bn hlam O (fun scope N' fp s H C'=>ih C' ⟨g.fn,g.int,g.bn⟩ hjk fun q z=>by cases z) (fun scope N' qual A f c s H C' hk=>ih C' ⟨g.fn,g.int,g.bn⟩ hk fun q z=>by cases z) h,
   fun e f h=>BO C O h⟩
end
noncomputable def pH:Nat->Expr->List Str
 | 0,_=>[]
 | n+1,e=>match e with
  | .Name x _=>[x]
  | .UnaryOp _ a _=>pH n a
  | .BinOp a _ b _=>pH n a++pH n b
  | .BoolOp _ es _=>es.flatMap (pH n)
  | .Compare a _ cs _=>pH n a++cs.flatMap (pH n)
  | .IfExp c a b _=>pH n c++(pH n a++pH n b)
  | .Tuple es _ _=>es.flatMap (pH n)
  | .List es _=>es.flatMap (pH n)
  | .Subscript a b _=>pH n a++pH n b
  | .Slice lo hi st _=>(lo.toList++(hi.toList++st.toList)).flatMap (pH n)
  | .Call f args kws _=>pH n f++(args.flatMap (pH n)++kws.flatMap fun k=>pH n k.value)
  | .Attribute o _ _=>pH n o
  | .ListComp elt gens _ _=>pH n elt++gens.flatMap fun g=>pH n g.iter++g.ifs.flatMap (pH n)
  | .Lambda _ b _ _=>pH n b
  | _=>[]
noncomputable def ph(N:List Str)(e:Expr):List Nat:=let ns:=pH 60 e;(List.range N.length).filter fun j=>match N[j]? with|some x=>ns.contains x|none=>false
noncomputable abbrev GS:=ai->Option Out
noncomputable def turns:Nat:=1000000
noncomputable def xC:Expr->Bool
 | .ListComp ..=>true
 | .SetComp ..=>true
 | .DictComp ..=>true
 | _=>false
noncomputable def Ek(sc:Scope)(N:List Str)(T:Tr)(x:Str)(px:Pos)(e:Expr):Option GS :=
 (N.idxOf? x).bind fun i=>if mE N sc i x=true then
  (if ya e=true then (match e with
   | .ListComp _ _ scope lp =>
    if (decide (sc.names.lookup x=some .local)&&(px.line == lp.line&&!(scope.names.any fun (n,k)=>n == x&&(k == .local || k == .cell))))=true then (T.f e).map fun f=>bp i (ph N e) f
    else if decide (sc.names.lookup x=some .cell)=true then (T.f e).map fun f=>bp i (ph N e) f
    else if (px.line == lp.line)=false then (T.f e).map fun f=>bp i (ph N e) f
    else none
   | _=>(T.f e).map fun f=>bp i (ph N e) f)
  else if xC e=false then (T.e e).map fun f=>aJ i (ph N e) f else none) else none
noncomputable def D6(N:List Str)(sc:Scope)(T:Tr)(e:Expr):Option GS:=match e with
 | .Constant (.str _) _ _=>some hJ
 | .Call (.Attribute (.Name x _) m apos) args [] cpos =>
  (N.idxOf? x).bind fun i=>if (An N sc i x&&apos.endLine == cpos.line&&args.all fun e=>!isStar e)=true then
   (if m="append" then (match args with
    | [a]=>(T.e a).map fun f=>wx i (ph N a) f
    | _=>none)
   else if m="extend" then (match args with
    | [a]=>(T.f a).map fun f=>Ap i (ph N a) f
    | _=>none)
   else if m="insert" then (match args with
    | [a,b]=>(T.e a).bind fun fk=>(T.e b).map fun f=>EG i (ph N b) fk f
    | _=>none)
   else none) else none
 | .Call (.Name _ _) _ _ _=>(T.e e).map gw
 | _=>none
noncomputable def Mf(sc:Scope)(N:List Str)(tg:Expr):Option (ai->D->Option ai):=match tg with
 | .Name x _=>(N.idxOf? x).bind fun i=>if mE N sc i x=true then some (CW i) else none
 | .Tuple [.Name x _,.Name y _] _ _=>(N.idxOf? x).bind fun i=>(N.idxOf? y).bind fun j=>if (mE N sc i x&&mE N sc j y)=true then some (qr i j) else none
 | .Tuple [.Name x _,.Tuple [.Name y _,.Name z _,.Name w _] _ _] _ _=>(N.idxOf? x).bind fun i=>(N.idxOf? y).bind fun j=>(N.idxOf? z).bind fun k=>(N.idxOf? w).bind fun l=>if ((mE N sc i x&&mE N sc j y)&&(mE N sc k z&&mE N sc l w))=true then some (BC i j k l) else none
 | _=>none
noncomputable def Cu(sc:Scope)(N:List Str)(T:Tr)(x:Str)(kx e:Expr):Option GS :=
 (N.idxOf? x).bind fun i=>if (An N sc i x&&!zk kx&&!xC e)=true then (T.e kx).bind fun fk=>(T.e e).map fun f=>wG i (ph N e) fk f else none
noncomputable def xb(sc:Scope)(N:List Str)(T:Tr)(x y:Str)(e:Expr):Option GS :=
 (N.idxOf? x).bind fun i=>(N.idxOf? y).bind fun j=>if ((mE N sc i x&&mE N sc j y)&&CP e)=true then (T.e e).map fun f=>xl i j (ph N e) f else none
noncomputable def n5(f:Stmt->Option GS):List Stmt->Option GS
 | []=>some hJ
 | [s]=>f s
 | s::r=>(f s).bind fun g=>(n5 f r).map fun h=>aw g h
noncomputable def ER(sc:Scope)(N:List Str)(T:Tr):Nat->Stmt->Option GS
 | 0,_=>none
 | n+1,st=>match st with
  | .Return (some e) _=>(T.e e).map aG
  | .If c a b _=>(T.t c).bind fun t=>(n5 (ER sc N T n) a).bind fun g=>(n5 (ER sc N T n) b).map fun h=>gC t g h
  | .Assign [.Name x px] e _=>Ek sc N T x px e
  | .Assign [.Subscript (.Name x _) kx _] e _=>Cu sc N T x kx e
  | .Assign [.Tuple [.Name x _,.Name y _] _ _] e _=>xb sc N T x y e
  | .For tg iter body [] _=>(LW sc T tg iter).bind fun fi=>(Mf sc N tg).bind fun t=>(n5 (ER sc N T n) body).map fun g=>nv (ph N iter) fi t g
  | .While c body [] _=>(T.t c).bind fun t=>(n5 (ER sc N T n) body).map fun g=>GK t g turns
  | .Expr e _=>D6 N sc T e
  | .Raise ..=>some K4
  | .Pass _=>some hJ
  | _=>none
section
variable {X:Cx}{N:List Str}{sc:Scope}{k:Nat}{T:Tr}{HF₀ H₀:Hp}{pos:Pos}
theorem iH{f:Stmt->Option GS}(H:∀s g,f s=some g->DS X HF₀ H₀ s g):∀ {l:List Stmt}{g:GS},n5 f l=some g->Bx X HF₀ H₀ l g
 | [],g,h=>by cases h;exact Fi
 | [s],g,h=>GF (H _ _ h)
 | s::t::r,g,h=>by
  unfold n5 at h
  obtain⟨x,hx,h⟩:=bs h
  obtain⟨y,hy,rfl⟩:=af h
  exact D4 (H _ _ hx) (iH H hy)
theorem rZ{e:Expr}{x:Str}{px:Pos}{line:Nat}{env:PySem.Env}(h:xC e=false):swapsWith e (some (.Name x px)) line env=pure false:=by
 cases e<;>first|rfl|cases h
theorem Ec(C:Bk X N sc k)(O:cT X T){x:Str}{px:Pos}{e:Expr}{g:GS}(h:Ek sc N T x px e=some g):DS X HF₀ H₀ (.Assign [.Name x px] e pos) g:=by
 unfold Ek at h
 obtain⟨i,hi,h⟩:=bs h
 split at h
 ·rename_i hloc
  obtain⟨z1,z2,z3,z4⟩:=C.loc hloc
  split at h
  ·split at h
   ·rename_i elt gens scope lp hl
    split at h
    ·rename_i hc
     rw[zF] at hc
     obtain⟨f,hf,rfl⟩:=af h
     obtain⟨tg,iter,ifs,rfl,q⟩:=O.c _ _ _ _ _ hf
     obtain⟨N',t,cs,fi,tgt,tt,te,rfl,S,hd,hfold,hY⟩:=q.ex
     exact Gv i _ C.calm S hd hY z1 z2 (C.locl hc.1) (C.swap hc.1 hc.2) hfold
    ·split at h
     ·rename_i hc
      obtain⟨f,hf,rfl⟩:=af h
      exact ud i _ z1 z2 z3 (O.f _ _ hf) (C.noswap hc) z4
     ·split at h
      ·rename_i hc
       obtain⟨f,hf,rfl⟩:=af h
       refine ud i _ z1 z2 z3 (O.f _ _ hf) ?_ z4
       rw[oz,hc]
       simp
      ·cases h
   ·rename_i hl hn
    obtain⟨f,hf,rfl⟩:=af h
    refine ud i _ z1 z2 z3 (O.f _ _ hf) (rZ ?_) z4
    cases e<;>first|rfl|exact absurd rfl (hn _ _ _ _)|(rename_i hl _;cases hl;done)
  ·split at h
   ·rename_i hc
    obtain⟨f,hf,rfl⟩:=af h
    exact Ki i _ z1 z2 z3 (O.e _ _ hf) (rZ hc) z4
   ·cases h
 ·cases h
theorem xK{env:PySem.Env}{es:List Expr}{cpos:Pos}(h:(es.all fun e=>!isStar e)=true)(hl:es.length < 20):((backTo cpos (starEach es env)).all (fun x=>!x.1)&&(backToKw cpos (keywordEach [] env)).all (fun x=>x.1.isSome)&&decide (es.length+([]:List Keyword).length+(if ([]:List Keyword).isEmpty then 0 else 1) < 30))=true:=by
 have h1:(backTo cpos (starEach es env)).all (fun x=>!x.1)=true:=by
  have:=cA (pos:=cpos) (env:=env) h
  rw[List.all_eq_not_any_not]
  simpa using this
 rw[h1]
 simp[backToKw,keywordEach]
 omega
theorem C2(C:Bk X N sc k)(O:cT X T){e:Expr}{g:GS}(h:D6 N sc T e=some g):DS X HF₀ H₀ (.Expr e pos) g:=by
 unfold D6 at h
 split at h
 ·cases h;exact HY
 ·rename_i x px m apos args cpos
  replace h:=bs h
  obtain⟨i,hi,h⟩:=h
  split at h
  ·rename_i hv
   simp only[zF] at hv
   obtain⟨⟨hv,hline⟩,hs⟩:=hv
   obtain⟨z1,z2,z3,z4⟩:=C.vis hv
   split at h
   ·rename_i hm
    subst hm
    split at h
    ·obtain⟨f,hf,rfl⟩:=af h
     exact AR i _ z1 z2 (O.e _ _ hf) z3 z4 (xK hs (by simp)) hline (bc (by simpa using hs))
    ·cases h
   ·split at h
    ·rename_i hm
     subst hm
     split at h
     ·obtain⟨f,hf,rfl⟩:=af h
      exact Br i _ z1 z2 (O.f _ _ hf) z3 z4 (xK hs (by simp)) hline (bc (by simpa using hs))
     ·cases h
    ·split at h
     ·rename_i hm
      subst hm
      split at h
      ·obtain⟨fk,hfk,h⟩:=bs h
       obtain⟨f,hf,rfl⟩:=af h
       have hs':=hs
       simp only[List.all_cons,List.all_nil,Bool.and_true,zF,Bool.not_eq_true'] at hs'
       exact Be i _ z1 z2 (O.e _ _ hfk) (O.e _ _ hf) z3 z4 (xK hs (by simp)) hline (bc hs'.1) (bc hs'.2)
      ·cases h
     ·cases h
  ·cases h
 ·obtain⟨f,hf,rfl⟩:=af h
  exact FS rfl (O.e _ _ hf)
 ·cases h
theorem Jd(C:Bk X N sc k){tg:Expr}{t:ai->D->Option ai}(h:Mf sc N tg=some t):KJ X HF₀ H₀ tg t:=by
 unfold Mf at h
 split at h
 ·obtain⟨i,hi,h⟩:=bs h
  split at h
  ·rename_i hl
   cases h
   have z:=C.loc hl
   exact D1 i z.1 z.2.1 z.2.2.1 z.2.2.2
  ·cases h
 ·obtain⟨i,hi,h⟩:=bs h
  obtain⟨j,hj,h⟩:=bs h
  split at h
  ·rename_i hl
   rw[zF] at hl
   cases h
   have z:=C.loc hl.1
   have w:=C.loc hl.2
   exact Gu i j C.calm z.1 z.2.1 z.2.2.1 w.2.1 w.2.2.1 z.2.2.2 w.2.2.2
  ·cases h
 ·obtain⟨i,hi,h⟩:=bs h
  obtain⟨j,hj,h⟩:=bs h
  obtain⟨m,hm,h⟩:=bs h
  obtain⟨l,hl,h⟩:=bs h
  split at h
  ·rename_i hl
   rw[zF,zF,zF] at hl
   cases h
   have z:=C.loc hl.1.1
   have w:=C.loc hl.1.2
   have y:=C.loc hl.2.1
   have u:=C.loc hl.2.2
   exact Jj i j m l C.calm z.1 z.2.1 z.2.2.1 w.2.1 w.2.2.1 y.2.1 y.2.2.1 u.2.1 u.2.2.1 z.2.2.2 w.2.2.2 y.2.2.2 u.2.2.2
  ·cases h
 ·cases h
theorem Bc(C:Bk X N sc k)(O:cT X T){x y:Str}{px py pt:Pos}{m:Nat}{e:Expr}{g:GS}(h:xb sc N T x y e=some g):DS X HF₀ H₀ (.Assign [.Tuple [.Name x px,.Name y py] m pt] e pos) g:=by
 unfold xb at h
 obtain⟨i,hi,h⟩:=bs h
 obtain⟨j,hj,h⟩:=bs h
 split at h
 ·rename_i hl
  rw[zF,zF] at hl
  obtain⟨f,hf,rfl⟩:=af h
  have z:=C.loc hl.1.1
  have w:=C.loc hl.1.2
  exact BH i j _ C.calm z.1 z.2.1 z.2.2.1 w.2.1 w.2.2.1 hl.2 (O.e _ _ hf) z.2.2.2 w.2.2.2
 ·cases h
theorem Eh(C:Bk X N sc k)(O:cT X T){x:Str}{px spos:Pos}{kx e:Expr}{g:GS}(h:Cu sc N T x kx e=some g):DS X HF₀ H₀ (.Assign [.Subscript (.Name x px) kx spos] e pos) g:=by
 unfold Cu at h
 obtain⟨i,hi,h⟩:=bs h
 split at h
 ·rename_i hv
  simp only[zF,Bool.not_eq_true'] at hv
  obtain⟨⟨hv,hc⟩,he⟩:=hv
  obtain⟨z1,z2,z3,z4⟩:=C.vis hv
  obtain⟨fk,hfk,h⟩:=bs h
  obtain⟨f,hf,rfl⟩:=af h
  refine By i _ z1 z2 (O.e _ _ hfk) (O.e _ _ hf) z3 z4 (fun v=>?_) ?_ ?_ rfl
  ·cases kx<;>first|rfl|cases hc
  ·cases e<;>first|rfl|cases he
  ·rfl
 ·cases h
theorem xr(C:Bk X N sc k)(B:Bn X)(O:cT X T):∀ (n:Nat) {st:Stmt}{g:GS},ER sc N T n st=some g->DS X HF₀ H₀ st g
 | 0,st,g,h=>by cases h
 | n+1,st,g,h=>by
  have ih:=fun s g h=>xr C B O n (st:=s) (g:=g) h
  unfold ER at h
  split at h
  ·obtain⟨f,hf,rfl⟩:=af h;exact Jp (O.e _ _ hf)
  ·obtain⟨t,ht,h⟩:=bs h
   obtain⟨a,ha,h⟩:=bs h
   obtain⟨b,hb,rfl⟩:=af h
   exact Lr (O.t _ _ ht) (iH ih ha) (iH ih hb)
  ·exact Ec C O h
  ·exact Eh C O h
  ·exact Bc C O h
  ·obtain⟨fi,hfi,h⟩:=bs h
   obtain⟨t,ht,h⟩:=bs h
   obtain⟨b,hb,rfl⟩:=af h
   obtain⟨hd,hfold⟩:=Ef C B O hfi
   exact HP _ C.pass C.calm hd (Jd C ht) (iH ih hb) hfold
  ·obtain⟨t,ht,h⟩:=bs h
   obtain⟨b,hb,rfl⟩:=af h
   exact Ej _ C.pass (O.t _ _ ht) (iH ih hb)
  ·exact C2 C O h
  ·cases h;exact K7
  ·cases h;exact GI
  ·cases h
end
section
variable {P:Program}{w:World}{K:W.Frag}{mg:Str->Option Value}{base:Heap}{j:Nat}
def kh(P:Program)(w:World)(K:W.Frag)(mg:Str->Option Value)(base:Heap)(j:Nat)(l:List (Str×Nat×(List D->Option D))):Prop:=∀x n m,l.lookup x=some (n,m)->dC P w K mg base j x n m
def jv(mg:Str->Option Value)(l:List (Str×Int)):Prop:=∀x i,l.lookup x=some i->∃t,mg x=some (.int i t)
theorem bE:kh P w K mg base j []:=fun _ _ _ h=>by cases h
theorem KF{x:Str}{n:Nat}{m:List D->Option D}{l:List (Str×Nat×(List D->Option D))}(F:dC P w K mg base j x n m)(h:kh P w K mg base j l):kh P w K mg base j ((x,n,m)::l):=fun y n' m' e=>by
 rw[yC] at e
 cases q:y == x with
 | true=>rw[q] at e;cases e;rw[eq_of_beq q];exact F
 | false=>rw[q] at e;exact h y n' m' e
theorem bF:jv mg []:=fun _ _ h=>by cases h
theorem C9{x:Str}{i:Int}{l:List (Str×Int)}(F:∃t,mg x=some (.int i t))(h:jv mg l):jv mg ((x,i)::l):=fun y i' e=>by
 rw[yC] at e
 cases q:y == x with
 | true=>rw[q] at e;cases e;rw[eq_of_beq q];exact F
 | false=>rw[q] at e;exact h y i' e
theorem HA{X:Cx}{N:List Str}{st:Stmt}{g:ai->Option Out}{fs:List (Str×Nat×(List D->Option D))}{is:List (Str×Int)}{HF₀ H₀:Hp}(C:Bk X N (aF st) j)(B:Bn X)(hf:kh X.prog X.w X.K X.mg X.base j fs)(hi:jv X.mg is)
  (t:n5 (ER (aF st) N (tr ⟨fs,is⟩ 40 none (aF st) N) 40) (bZ st)=some g):Bx X HF₀ H₀ (bZ st) g :=
 iH (fun s g h=>xr C B (Hx (G:=⟨fs,is⟩) 40 C ⟨hf,hi,B⟩ (Nat.le_refl j) fun q z=>by cases z) 40 h) t
theorem Ny{x:Str}{st:Stmt}{ps N:List Str}{g:ai->Option Out}{fs:List (Str×Nat×(List D->Option D))}{is:List (Str×Int)}(D:bC K mg x st ps)(S:fg N ps (aF st))(B:∀x∈cq,mg x=none)(hf:kh P w K mg base j fs)(hi:jv mg is)
  (t:n5 (ER (aF st) N (tr ⟨fs,is⟩ 40 none (aF st) N) 40) (bZ st)=some g):dC P w K mg base (j+1) x ps.length (bo g N.length):=by
 obtain⟨f,fd,hm,F,hb⟩:=D.ex
 exact M6 F S hb hm fun X hP hw hK hm' hb' C _ _ HF H=>by subst hP;subst hw;subst hK;subst hm';subst hb';exact HA C B hf hi t
theorem Nm{x q:Str}{st:Stmt}{ps N:List Str}{g:ai->Option Out}{fs:List (Str×Nat×(List D->Option D))}{is:List (Str×Int)}(D:Dx K mg x st ps)(S:fg N ps (aF st))(B:∀x∈cq,mg x=none)(hf:kh P w K mg base j fs)(hi:jv mg is)
  (hq:x∈jH/\x++".<locals>."++"<lambda>"=q) (t:n5 (ER (aF st) N (tr ⟨fs,is⟩ 40 (some q) (aF st) N) 40) (bZ st)=some g):dC P w K mg base (j+4) x ps.length (bo g N.length):=by
 obtain⟨f,fd,c,P',hm,F,hb,hc,hh⟩:=D.ex
 refine M6 (k:=j+3) F S hb hm fun X hP hw hK hm' hb' C h1 h2 HF H=>?_
 subst hP;subst hw;subst hK;subst hm';subst hb'
 have L:pq X q:=by
  refine⟨c,P',by rw[h1,hc],by rw[h2];exact hq.2,hh,fun HF tb=>?_⟩
  obtain⟨oc,od,kV,doc,pm,an,cdv,ct,osl,rfl,lk,_⟩:=F.ex
  have:=tb f oc od _ osl c P' lk hq.1 hc hh
  rw[<- hq.2]
  exact this
 exact iH (fun s g h=>xr C B (Hx (G:=⟨fs,is⟩) (j:=j) 40 C ⟨hf,hi,B⟩ (Nat.le_add_right _ _) fun q' z=>by cases z;exact⟨L,Nat.le_refl _⟩) 40 h) t
end
noncomputable abbrev tW(s:Stmt)(N:List Str)(S:Sg)(l:Option Str):Option GS:=n5 (ER (aF s) N (tr S 40 l (aF s) N) 40) (bZ s)
theorem MH{N P:List Str}{sc:Scope}(a:sc.kind=.function:=by rfl)(b:sc.isCoroutine=false:=by rfl)(c:sc.isGenerator=false:=by rfl)(d:N.Nodup:=by decide +kernel)(e:N.take P.length=P:=by rfl)(f:∀x∈P,sc.names.lookup x=some .local \/ sc.names.lookup x=some .cell:=by decide +kernel)(g:∀y∈sc.names,y.2≠.free:=by decide +kernel):fg N P sc:=⟨a,b,c,d,e,f,g⟩
section
variable {P:Program}{w:World}{K:W.Frag}{mg:Str->Option Value}{base:Heap}{i j:Nat}
theorem fm{x:Str}{n:Nat}{m:List D->Option D}{l:List (Str×Nat×(List D->Option D))}(F:dC P w K mg base i x n m)(h:kh P w K mg base j l)(e:i<=j:=by decide):kh P w K mg base j ((x,n,m)::l):=KF (F.mono e) h
theorem f7{x:Str}{st:Stmt}{ps N:List Str}{g:ai->Option Out}{S:Sg}(D:bC K mg x st ps)(B:∀x∈cq,mg x=none)(hf:kh P w K mg base j S.fn)(hi:jv mg S.int)(t:tW st N S none=some g)(F:fg N ps (aF st):=by exact Rf.MH):dC P w K mg base (j+1) x ps.length (bo g N.length):=Ny D F B hf hi t
theorem M4{x q:Str}{st:Stmt}{ps N:List Str}{g:ai->Option Out}{S:Sg}(D:Dx K mg x st ps)(B:∀x∈cq,mg x=none)(hf:kh P w K mg base j S.fn)(hi:jv mg S.int)(t:tW st N S (some q)=some g)(F:fg N ps (aF st):=by exact Rf.MH)(hq:x∈jH/\x++".<locals>."++"<lambda>"=q:=by decide +kernel):dC P w K mg base (j+4) x ps.length (bo g N.length):=Nm D F B hf hi hq t
end
end Rf
namespace Hd
open PySem L2 Dl PySem.Spec PyProof.Rows
section
variable {K:W.Frag}
theorem fIn{x:Str}{st:Stmt}{ps:List Str}{f c:Addr}{pm:Value}(hb:gO st ps)(a:W.nsIn K mainGlobals x=some (some (.ref f)))(l:K.lookup f=some (fo x st pm c))(d:W.codeIn K (.ref c) x=true)(k:W.keepIn K (.ref f)=true):aE K x st ps:=KQ hb a l d k
theorem lIn{x:Str}{st:Stmt}{ps:List Str}{f c:Addr}{pm:Value}(hb:gO st ps)(a:W.nsIn K mainGlobals x=some (some (.ref f)))(l:K.lookup f=some (fo x st pm c))(d:W.codeIn K (.ref c) x=true)(k:W.keepIn K (.ref f)=true)(hh:W.codeHdIn K c (EH K c)=true):mY K x st ps:=LL hb a l d k hh
end
section
variable {α:Type}{R:List α->Prop}
theorem tj(h:∀a,R [a])(us:List α)(e:us.length=1):R us:=by
 obtain⟨a,rfl⟩:=List.length_eq_one_iff.mp e;exact h a
theorem lenS{n:Nat}(us:List α)(e:us.length=n+1):∃a r,us=a::r/\r.length=n:=by
 cases us with
 | nil=>cases e
 | cons a r=>exact⟨a,r,rfl,by simpa using e⟩
theorem len2(h:∀a b,R [a,b])(us:List α)(e:us.length=2):R us:=by
 obtain⟨a,r,rfl,e'⟩:=lenS us e;exact tj (R:=fun r=>R (a::r)) (h a) r e'
theorem len3(h:∀a b c,R [a,b,c])(us:List α)(e:us.length=3):R us:=by
 obtain⟨a,r,rfl,e'⟩:=lenS us e;exact len2 (R:=fun r=>R (a::r)) (h a) r e'
theorem len4(h:∀a b c d,R [a,b,c,d])(us:List α)(e:us.length=4):R us:=by
 obtain⟨a,r,rfl,e'⟩:=lenS us e;exact len3 (R:=fun r=>R (a::r)) (h a) r e'
end
section
variable {K:W.Frag}
theorem f1(f c:Addr)(pm:Value){x:Str}{st:Stmt}{ps:List Str}(hb:gO st ps:=by exact fun _ _ _ _ _ _ _ _ us hl=>tj (R:=fun us=>bindArgs _ ⟨us,[]⟩=pure (List.zip _ us)) (fun _=>rfl) us hl)(a:W.nsIn K mainGlobals x=some (some (.ref f)):=by kernel_rfl)(l:K.lookup f=some (fo x st pm c):=by kernel_rfl)(d:W.codeIn K (.ref c) x=true:=by kernel_rfl)(k:W.keepIn K (.ref f)=true:=by kernel_rfl):aE K x st ps:=fIn hb a l d k
theorem l1(f c:Addr)(pm:Value){x:Str}{st:Stmt}{ps:List Str}(hb:gO st ps:=by exact fun _ _ _ _ _ _ _ _ us hl=>tj (R:=fun us=>bindArgs _ ⟨us,[]⟩=pure (List.zip _ us)) (fun _=>rfl) us hl)(a:W.nsIn K mainGlobals x=some (some (.ref f)):=by kernel_rfl)(l:K.lookup f=some (fo x st pm c):=by kernel_rfl)(d:W.codeIn K (.ref c) x=true:=by kernel_rfl)(k:W.keepIn K (.ref f)=true:=by kernel_rfl)(hh:W.codeHdIn K c (EH K c)=true:=by kernel_rfl):mY K x st ps:=lIn hb a l d k hh
theorem f2(f c:Addr)(pm:Value){x:Str}{st:Stmt}{ps:List Str}(hb:gO st ps:=by exact fun _ _ _ _ _ _ _ _ us hl=>len2 (R:=fun us=>bindArgs _ ⟨us,[]⟩=pure (List.zip _ us)) (fun _ _=>rfl) us hl)(a:W.nsIn K mainGlobals x=some (some (.ref f)):=by kernel_rfl)(l:K.lookup f=some (fo x st pm c):=by kernel_rfl)(d:W.codeIn K (.ref c) x=true:=by kernel_rfl)(k:W.keepIn K (.ref f)=true:=by kernel_rfl):aE K x st ps:=fIn hb a l d k
theorem f3(f c:Addr)(pm:Value){x:Str}{st:Stmt}{ps:List Str}(hb:gO st ps:=by exact fun _ _ _ _ _ _ _ _ us hl=>len3 (R:=fun us=>bindArgs _ ⟨us,[]⟩=pure (List.zip _ us)) (fun _ _ _=>rfl) us hl)(a:W.nsIn K mainGlobals x=some (some (.ref f)):=by kernel_rfl)(l:K.lookup f=some (fo x st pm c):=by kernel_rfl)(d:W.codeIn K (.ref c) x=true:=by kernel_rfl)(k:W.keepIn K (.ref f)=true:=by kernel_rfl):aE K x st ps:=fIn hb a l d k
theorem l3(f c:Addr)(pm:Value){x:Str}{st:Stmt}{ps:List Str}(hb:gO st ps:=by exact fun _ _ _ _ _ _ _ _ us hl=>len3 (R:=fun us=>bindArgs _ ⟨us,[]⟩=pure (List.zip _ us)) (fun _ _ _=>rfl) us hl)(a:W.nsIn K mainGlobals x=some (some (.ref f)):=by kernel_rfl)(l:K.lookup f=some (fo x st pm c):=by kernel_rfl)(d:W.codeIn K (.ref c) x=true:=by kernel_rfl)(k:W.keepIn K (.ref f)=true:=by kernel_rfl)(hh:W.codeHdIn K c (EH K c)=true:=by kernel_rfl):mY K x st ps:=lIn hb a l d k hh
theorem f4(f c:Addr)(pm:Value){x:Str}{st:Stmt}{ps:List Str}(hb:gO st ps:=by exact fun _ _ _ _ _ _ _ _ us hl=>len4 (R:=fun us=>bindArgs _ ⟨us,[]⟩=pure (List.zip _ us)) (fun _ _ _ _=>rfl) us hl)(a:W.nsIn K mainGlobals x=some (some (.ref f)):=by kernel_rfl)(l:K.lookup f=some (fo x st pm c):=by kernel_rfl)(d:W.codeIn K (.ref c) x=true:=by kernel_rfl)(k:W.keepIn K (.ref f)=true:=by kernel_rfl):aE K x st ps:=fIn hb a l d k
end
end Hd
namespace Pg
open PySem L2 Dl PySem.Spec PyProof.Rows
abbrev xx:List Str:=["thing","least","most"]
noncomputable def kJ:ai->Option Out:=(aw (gC (iE (bx (fB (G8 "int" (ab 0)))) (fB (G8 "bool" (ab 0)))) (aG (fC (.bool false))) hJ) (aG (jG yl yl (ab 1) (ab 0) (ab 2))))
noncomputable def aO:List D->Option D:=bo kJ 3
abbrev vS:List Str:=["thing","many"]
noncomputable def jh:ai->Option Out:=(aG (ah 3 aO (aa (ab 0) (aa (fC (.int 0)) (aa (f2 Dl.fU (ab 1) (fC (.int 1))) ae)))))
noncomputable def bM:List D->Option D:=bo jh 2
abbrev AF:List Str:=["thing","least","most"]
noncomputable def me:ai->Option Out:=(aG (kg (G8 "tuple" (ab 0)) (jG yl yl (ab 1) (bf bP (aa (ab 0) ae)) (ab 2))))
noncomputable def ba:List D->Option D:=bo me 3
abbrev uq:List Str:=["thing","many"]
noncomputable def jn:ai->Option Out:=(aw (gC (bx (fB (G8 "tuple" (ab 0)))) (aG (fC (.bool false))) hJ) (aw (gC (bx (fB (bf lb (aa (dh (aq 1 [1] (bw (ab 0)) (fG 0) (fun _=>some true) (ah 2 bM (aa (ab 0) (aa (ab 1) ae))))) ae)))) (aG (fC (.bool false))) hJ) (aG (f2 cN (f1 jN (ab 0)) (bf bP (aa (ab 0) ae))))))
noncomputable def eD:List D->Option D:=bo jn 2
abbrev Dt:List Str:=["thing","many"]
noncomputable def pF:ai->Option Out:=(aG (kg (ah 3 ba (aa (ab 0) (aa (fC (.int 2)) (aa (fC (.int 2)) ae)))) (kg (ah 3 aO (aa (f2 ao (ab 0) (fC (.int 0))) (aa (fC (.int 0)) (aa (fC (.int 9)) ae)))) (ah 2 eD (aa (f2 ao (ab 0) (fC (.int 1))) (aa (ab 1) ae))))))
noncomputable def eE:List D->Option D:=bo pF 2
abbrev Ed:List Str:=["thing","givers","takers"]
noncomputable def oO:ai->Option Out:=(aw (gC (bx (fB (ah 3 ba (aa (ab 0) (aa (fC (.int 3)) (aa (fC (.int 3)) ae)))))) (aG (fC (.bool false))) hJ) (aG (kg (ah 2 bM (aa (f2 ao (ab 0) (fC (.int 0))) (aa (ab 1) ae))) (kg (ah 2 bM (aa (f2 ao (ab 0) (fC (.int 1))) (aa (ab 2) ae))) (ah 3 aO (aa (f2 ao (ab 0) (fC (.int 2))) (aa (fC (.int 1)) (aa (fC (.int 9)) ae))))))))
noncomputable def hC:List D->Option D:=bo oO 3
abbrev vM:List Str:=["givers","takers","ways"]
noncomputable def jj:ai->Option Out:=(aw (gC (iE (bx (fB (ah 3 ba (aa (ab 0) (aa (fC (.int 1)) (aa (fC (.int 4)) ae)))))) (bx (fB (ah 3 ba (aa (ab 1) (aa (fC (.int 1)) (aa (fC (.int 4)) ae))))))) (aG (fC (.bool false))) hJ) (aw (gC (bx (fB (bf lb (aa (dh (aq 1 [1] (bw (ab 0)) (fG 0) (fun _=>some true) (ah 2 eE (aa (ab 0) (aa (bf bP (aa (ab 1) ae)) ae))))) ae)))) (aG (fC (.bool false))) hJ) (aw (gC (bx (fB (bf lb (aa (dh (aq 1 [0] (bw (ab 1)) (fG 0) (fun _=>some true) (ah 2 eE (aa (ab 0) (aa (bf bP (aa (ab 1) ae)) ae))))) ae)))) (aG (fC (.bool false))) hJ) (aG (kg (G8 "tuple" (ab 2)) (bf lb (aa (dh (aq 1 [0,1] (bw (ab 2)) (fG 0) (fun _=>some true) (ah 3 hC (aa (ab 0) (aa (bf bP (aa (ab 1) ae)) (aa (bf bP (aa (ab 2) ae)) ae)))))) ae)))))))
noncomputable def eG:List D->Option D:=bo jj 3
abbrev qm:List Str:=["places","pairs","number","place"]
noncomputable def gP:ai->Option Out:=(aw (bp 1 [] (ke ae)) (aw (nv [0] (fP (aa (ab 0) ae)) (qr 2 3) (Ap 1 [2,3] (aq 1 [2] (bw (f2 ao (ab 3) (fC (.int 1)))) (fG 0) (fun _=>some true) (aZ (aa (ab 1) (aa (ab 0) ae)))))) (aG (ab 1))))
noncomputable def br:List D->Option D:=bo gP 4
abbrev xV:List Str:=["thing","joined","by_givers","by_takers"]
noncomputable def fF:ai->Option Out:=(aw (gC (iE (bx (fB (ah 3 ba (aa (ab 0) (aa (fC (.int 3)) (aa (fC (.int 3)) ae)))))) (bx (fB (ah 3 eG (aa (f2 ao (ab 0) (fC (.int 0))) (aa (f2 ao (ab 0) (fC (.int 1))) (aa (f2 ao (ab 0) (fC (.int 2))) ae))))))) (aG (fC (.bool false))) hJ) (aw (bp 1 [0] (aq 1 [] (bw (f2 ao (ab 0) (fC (.int 2)))) (fG 0) (fun _=>some true) (aZ (aa (f2 ao (ab 0) (fC (.int 0))) (aa (f2 ao (ab 0) (fC (.int 1))) ae))))) (aw (bp 2 [0] (mH fX (aa (ah 1 br (aa (f2 ao (ab 0) (fC (.int 0))) ae)) ae))) (aw (bp 3 [0] (mH fX (aa (dh (aq 2 [] (bw (ah 1 br (aa (f2 ao (ab 0) (fC (.int 1))) ae))) (jo 0 1) (fun _=>some true) (aZ (aa (ab 1) (aa (ab 0) ae))))) ae))) (aG (kg (f2 cN (ab 1) (ab 2)) (f2 cN (ab 1) (ab 3))))))))
noncomputable def bq:List D->Option D:=bo fF 4
abbrev qL:List Str:=["world"]
noncomputable def cR:ai->Option Out:=(gC (bx (fB (ah 1 bq (aa (ab 0) ae)))) K4 hJ)
noncomputable def aP:List D->Option D:=bo cR 1
abbrev p5:List Str:=["thing","least","most"]
noncomputable def dc:ai->Option Out:=(gC (bx (fB (ah 3 aO (aa (ab 0) (aa (ab 1) (aa (ab 2) ae)))))) K4 hJ)
noncomputable def ej:List D->Option D:=bo dc 3
abbrev oA:List Str:=["thing","many"]
noncomputable def cB:ai->Option Out:=(gw (ah 3 ej (aa (ab 0) (aa (fC (.int 0)) (aa (f2 Dl.fU (ab 1) (fC (.int 1))) ae)))))
noncomputable def aX:List D->Option D:=bo cB 2
abbrev ui:List Str:=["thing"]
noncomputable def dR:ai->Option Out:=(gw (ah 2 aX (aa (ab 0) (aa (fC (.int 2)) ae))))
noncomputable def cF:List D->Option D:=bo dR 1
abbrev wV:List Str:=["parts","number","part"]
noncomputable def kn:ai->Option Out:=(aG (f2 bY (f2 bY (l9 ij (ab 0) l4 (A0 (ab 1))) (aZ (aa (ab 2) ae))) (l9 ij (ab 0) (A0 (f2 bY (ab 1) (fC (.int 1)))) l4)))
noncomputable def iU:List D->Option D:=bo kn 3
abbrev Ao:List Str:=["world","side","place","ways","likes","own"]
noncomputable def jJ:ai->Option Out:=(aw (aJ 3 [0] (f2 ao (ab 0) (fC (.int 2)))) (aw (aJ 4 [0,1,2] (f2 ao (f2 ao (f2 ao (ab 0) (ab 1)) (ab 2)) (fC (.int 1)))) (aw (bp 5 [1,2,3] (aq 2 [1,2] (fP (aa (ab 3) ae)) (jo 0 1) (fB (f2 cN (f2 ao (ab 1) (ab 2)) (ab 3))) (ab 0))) (aG (dh (mD [1,3,4] (ab 5) (f2 ni (ab 3) (f2 ao (f2 ao (ab 2) (ab 0)) (f2 Dl.fU (fC (.int 1)) (ab 1))))))))))
noncomputable def d7:List D->Option D:=bo jJ 6
abbrev vj:List Str:=["world","side","place","offers","chosen","left","number"]
noncomputable def fY:ai->Option Out:=(aw (bp 4 [0] (aq 1 [] (bw (f2 ao (ab 0) (fC (.int 2)))) (fG 0) (fun _=>some true) (fC (.int 0)))) (aw (aJ 5 [0,1,2] (f2 ao (f2 ao (f2 ao (ab 0) (ab 1)) (ab 2)) (fC (.int 0)))) (aw (nv [0,1,2] (bw (ah 3 d7 (aa (ab 0) (aa (ab 1) (aa (ab 2) ae))))) (CW 6) (aw (wG 4 [0,3,5,6] (ab 6) (bf ji (aa (f2 ao (ab 3) (ab 6)) (aa (f2 ao (f2 ao (f2 ao (ab 0) (fC (.int 2))) (ab 6)) (fC (.int 2))) (aa (ab 5) ae))))) (aJ 5 [4,5,6] (f2 Dl.fU (ab 5) (f2 ao (ab 4) (ab 6)))))) (aG (bf bj (aa (ab 4) ae))))))
noncomputable def bV:List D->Option D:=bo fY 7
abbrev nC:List Str:=["world","side","offers","sums","place","chosen"]
noncomputable def dg:ai->Option Out:=(aw (bp 3 [0] (aq 1 [] (bw (f2 ao (ab 0) (fC (.int 2)))) (fG 0) (fun _=>some true) (fC (.int 0)))) (aw (nv [0,1] (aV (aa (bf bP (aa (f2 ao (ab 0) (ab 1)) ae)) ae)) (CW 4) (aw (aJ 5 [0,1,2,4] (ah 4 bV (aa (ab 0) (aa (ab 1) (aa (ab 4) (aa (ab 2) ae)))))) (bp 3 [3,5] (aq 2 [] (iZ (aa (ab 3) (aa (ab 5) ae))) (jo 0 1) (fun _=>some true) (f2 bY (ab 0) (ab 1)))))) (aG (bf bj (aa (ab 3) ae)))))
noncomputable def aY:List D->Option D:=bo dg 6
abbrev Ee:List Str:=["world"]
noncomputable def o3:ai->Option Out:=(aG (bf bj (aa (dh (aq 1 [] (bw (f2 ao (ab 0) (fC (.int 2)))) (fG 0) (fun _=>some true) (f2 ao (ab 0) (fC (.int 2))))) ae)))
noncomputable def eI:List D->Option D:=bo o3 1
abbrev A5:List Str:=["caps","way","cap"]
noncomputable def mw:ai->Option Out:=(aG (ah 3 iU (aa (ab 0) (aa (ab 1) (aa (ab 2) ae)))))
noncomputable def bT:List D->Option D:=bo mw 3
abbrev Aa:List Str:=["world","caps","given","kept","way","many"]
noncomputable def j6:ai->Option Out:=(aw (aJ 2 [0,1] (ah 3 aY (aa (ab 0) (aa (fC (.int 0)) (aa (ab 1) ae))))) (aw (aJ 3 [0,2] (ah 3 aY (aa (ab 0) (aa (fC (.int 1)) (aa (ab 2) ae))))) (aw (nv [3] (fP (aa (ab 3) ae)) (qr 4 5) (gC (fB (f2 vm (ab 5) (f2 ao (ab 2) (ab 4)))) (aG (aZ (aa (ab 4) (aa (ab 5) ae)))) hJ)) (aG (fC .none)))))
noncomputable def dB:List D->Option D:=bo j6 6
abbrev F2:List Str:=["world","rows","caps","row"]
noncomputable def nQ:ai->Option Out:=(aw (bp 1 [] (ke ae)) (aw (aJ 2 [0] (ah 1 eI (aa (ab 0) ae))) (aw (aJ 3 [0,2] (ah 2 dB (aa (ab 0) (aa (ab 2) ae)))) (aw (GK (fB (f2 m6 (ab 3) (fC .none))) (aw (wx 1 [3] (ab 3)) (aw (aJ 2 [2,3] (ah 3 bT (aa (ab 2) (aa (f2 ao (ab 3) (fC (.int 0))) (aa (f2 ao (ab 3) (fC (.int 1))) ae))))) (aJ 3 [0,2] (ah 2 dB (aa (ab 0) (aa (ab 2) ae)))))) Rf.turns) (aG (ab 1))))))
noncomputable def nN:List D->Option D:=bo nQ 4
abbrev Du:List Str:=["world","rows","caps","way","cap"]
noncomputable def lI:ai->Option Out:=(aw (aJ 2 [0] (ah 1 eI (aa (ab 0) ae))) (aw (nv [1] (bw (ab 1)) (qr 3 4) (aJ 2 [2,3,4] (ah 3 bT (aa (ab 2) (aa (ab 3) (aa (ab 4) ae)))))) (aG (ab 2))))
noncomputable def lr:List D->Option D:=bo lI 5
abbrev qK:List Str:=["world"]
noncomputable def eA:ai->Option Out:=(aw (gw (ah 1 aP (aa (ab 0) ae))) (aG (ah 3 aY (aa (ab 0) (aa (fC (.int 0)) (aa (ah 2 lr (aa (ab 0) (aa (ah 1 nN (aa (ab 0) ae)) ae))) ae))))))
noncomputable def aI:List D->Option D:=bo eA 1
abbrev vG:List Str:=["_law_script","_law_k"]
noncomputable def fV:ai->Option Out:=(aw (gC (fB (f2 cN (ab 0) (dh (ke ae)))) (aG (f2 lC (fC (.int 7)) (ab 1))) hJ) (aG (f2 bY (f2 ao (ab 0) (f2 nz (ab 1) (bf bP (aa (ab 0) ae)))) (f2 lC (fC (.int 6553)) (f2 qE (ab 1) (bf bP (aa (ab 0) ae)))))))
noncomputable def dA:List D->Option D:=bo fV 2
abbrev sF:List Str:=["_law_script","_law_k","_law_many","_law_cell_here"]
noncomputable def iD:ai->Option Out:=(aw (aJ 3 [0,1] (f2 nz (f2 bY (f2 lC (f2 nz (ah 2 dA (aa (ab 0) (aa (ab 1) ae))) (fC (.int 2147483563))) (fC (.int 69069))) (f2 lC (fC (.int 104723)) (f2 bY (ab 1) (fC (.int 1))))) (fC (.int 2147483563)))) (aw (aJ 3 [3] (f2 nz (f2 bY (f2 lC (ab 3) (ab 3)) (f2 qE (ab 3) (fC (.int 3)))) (fC (.int 2147483399)))) (aG (f2 nz (f2 qE (f2 nz (f2 bY (f2 lC (ab 3) (ab 3)) (f2 qE (ab 3) (fC (.int 7)))) (fC (.int 2147483647))) (fC (.int 11))) (ab 2)))))
noncomputable def au:List D->Option D:=bo iD 4
abbrev A8:List Str:=["world","plan","side","place"]
noncomputable def mN:ai->Option Out:=(aG (bf kf (aa (dh (aq 2 [2,3] (iZ (aa (f2 ao (ab 0) (fC (.int 2))) (aa (ab 1) ae))) (jo 0 1) (fB (f2 cN (f2 ao (ab 0) (ab 2)) (ab 3))) (ab 1))) ae)))
noncomputable def bb:List D->Option D:=bo mN 4
abbrev nu:List Str:=["world","plan","side"]
noncomputable def eQ:ai->Option Out:=(aG (bf lb (aa (dh (aq 2 [0,1,2] (fP (aa (f2 ao (ab 0) (ab 2)) ae)) (jo 0 1) (fun _=>some true) (f2 yl (ah 4 bb (aa (ab 2) (aa (ab 3) (aa (ab 4) (aa (ab 0) ae))))) (f2 ao (ab 1) (fC (.int 0)))))) ae)))
noncomputable def cg:List D->Option D:=bo eQ 3
abbrev AS:List Str:=["world","thing","ways"]
noncomputable def jM:ai->Option Out:=(aw (aJ 2 [0] (f2 ao (ab 0) (fC (.int 2)))) (aw (gC (bx (fB (ah 3 ba (aa (ab 1) (aa (bf bP (aa (ab 2) ae)) (aa (bf bP (aa (ab 2) ae)) ae)))))) (aG (fC (.bool false))) hJ) (aw (gC (bx (fB (bf lb (aa (dh (aq 2 [] (iZ (aa (ab 2) (aa (ab 1) ae))) (jo 0 1) (fun _=>some true) (ah 3 aO (aa (ab 1) (aa (fC (.int 0)) (aa (f2 ao (ab 0) (fC (.int 2))) ae)))))) ae)))) (aG (fC (.bool false))) hJ) (aG (kg (ah 3 cg (aa (ab 0) (aa (ab 1) (aa (fC (.int 0)) ae)))) (ah 3 cg (aa (ab 0) (aa (ab 1) (aa (fC (.int 1)) ae)))))))))
noncomputable def gW:List D->Option D:=bo jM 3
abbrev si:List Str:=["world","plan"]
noncomputable def dN:ai->Option Out:=(aw (gw (ah 1 aP (aa (ab 0) ae))) (gC (bx (fB (ah 2 gW (aa (ab 0) (aa (ab 1) ae))))) K4 hJ))
noncomputable def bu:List D->Option D:=bo dN 2
abbrev oa:List Str:=["world","ways"]
noncomputable def dI:ai->Option Out:=(aw (aJ 1 [0] (f2 ao (ab 0) (fC (.int 2)))) (aG (dh (o7 [1] (aa (bf bP (aa (ab 1) ae)) ae) (aZ (aa (f2 ao (f2 ao (ab 1) (ab 0)) (fC (.int 1))) (aa (f2 ao (f2 ao (ab 1) (ab 0)) (fC (.int 0))) ae)))))))
noncomputable def aW:List D->Option D:=bo dI 2
abbrev B2:List Str:=["world","ways"]
noncomputable def lz:ai->Option Out:=(aw (gw (ah 1 aP (aa (ab 0) ae))) (aw (bp 1 [0] (aq 1 [0] (bw (ah 1 aW (aa (ab 0) ae))) (fG 0) (fun _=>some true) (f2 ao (f2 ao (ab 1) (fC (.int 2))) (ab 0)))) (aG (aZ (aa (f2 ao (ab 0) (fC (.int 1))) (aa (f2 ao (ab 0) (fC (.int 0))) (aa (bf bj (aa (dh (aq 3 [] (bw (ab 1)) (EN 0 1 2) (fun _=>some true) (aZ (aa (ab 1) (aa (ab 0) (aa (ab 2) ae)))))) ae)) ae)))))))
noncomputable def jC:List D->Option D:=bo lz 2
abbrev qv:List Str:=["world","plan"]
noncomputable def d9:ai->Option Out:=(aw (gw (ah 2 bu (aa (ab 0) (aa (ab 1) ae)))) (aG (bf bj (aa (dh (aq 1 [1] (bw (ah 1 aW (aa (ab 0) ae))) (fG 0) (fun _=>some true) (f2 ao (ab 1) (ab 0)))) ae))))
noncomputable def eh:List D->Option D:=bo d9 2
abbrev Kr:List Str:=["world","plan","giver"]
noncomputable def sv:ai->Option Out:=(aw (gw (ah 2 bu (aa (ab 0) (aa (ab 1) ae)))) (aw (gw (ah 2 aX (aa (ab 2) (aa (bf bP (aa (f2 ao (ab 0) (fC (.int 0))) ae)) ae)))) (aG (ah 4 bb (aa (ab 0) (aa (ab 1) (aa (fC (.int 0)) (aa (ab 2) ae))))))))
noncomputable def mK:List D->Option D:=bo sv 3
abbrev FI:List Str:=["world","plan","taker"]
noncomputable def nI:ai->Option Out:=(aw (gw (ah 2 bu (aa (ab 0) (aa (ab 1) ae)))) (aw (gw (ah 2 aX (aa (ab 2) (aa (bf bP (aa (f2 ao (ab 0) (fC (.int 1))) ae)) ae)))) (aG (ah 4 bb (aa (ab 0) (aa (ab 1) (aa (fC (.int 1)) (aa (ab 2) ae))))))))
noncomputable def jU:List D->Option D:=bo nI 3
abbrev uk:List Str:=["world","plan","side","way","place","own","less_liked"]
noncomputable def eW:ai->Option Out:=(aw (aJ 4 [0,2,3] (f2 ao (f2 ao (f2 ao (ab 0) (fC (.int 2))) (ab 3)) (ab 2))) (aw (gC (fB (f2 vm (ah 4 bb (aa (ab 0) (aa (ab 1) (aa (ab 2) (aa (ab 4) ae))))) (f2 ao (f2 ao (f2 ao (ab 0) (ab 2)) (ab 4)) (fC (.int 0))))) (aG (fC (.bool true))) hJ) (aw (aJ 5 [0,2,4] (ah 3 d7 (aa (ab 0) (aa (ab 2) (aa (ab 4) ae))))) (aw (aJ 6 [3,5] (l9 ij (ab 5) (A0 (f2 bY (f2 ni (ab 5) (ab 3)) (fC (.int 1)))) l4)) (aG (bf Rf.Dr (aa (dh (aq 1 [1] (bw (ab 6)) (fG 0) (fun _=>some true) (f2 JN (f2 ao (ab 1) (ab 0)) (fC (.int 0))))) ae)))))))
noncomputable def b9:List D->Option D:=bo eW 7
abbrev wg:List Str:=["world","plan","way"]
noncomputable def iW:ai->Option Out:=(aw (gC (fB (f2 cN (f2 ao (ab 1) (ab 2)) (f2 ao (f2 ao (f2 ao (ab 0) (fC (.int 2))) (ab 2)) (fC (.int 2))))) (aG (fC (.str "full"))) hJ) (aw (gC (bx (fB (ah 4 b9 (aa (ab 0) (aa (ab 1) (aa (fC (.int 0)) (aa (ab 2) ae))))))) (aG (fC (.str "giver"))) hJ) (aw (gC (bx (fB (ah 4 b9 (aa (ab 0) (aa (ab 1) (aa (fC (.int 1)) (aa (ab 2) ae))))))) (aG (fC (.str "taker"))) hJ) (aG (fC .none)))))
noncomputable def d6:List D->Option D:=bo iW 3
abbrev nc:List Str:=["world","plan","way"]
noncomputable def di:ai->Option Out:=(aw (nv [1] (aV (aa (bf bP (aa (ab 1) ae)) ae)) (CW 2) (gC (fB (f2 qa (ah 3 d6 (aa (ab 0) (aa (ab 1) (aa (ab 2) ae)))) (fC .none))) (aG (ab 2)) hJ)) (aG (fC .none)))
noncomputable def dk:List D->Option D:=bo di 3
abbrev wZ:List Str:=["world","plan"]
noncomputable def ix:ai->Option Out:=(aG (f2 qa (ah 2 dk (aa (ab 0) (aa (ab 1) ae))) (fC .none)))
noncomputable def iS:List D->Option D:=bo ix 2
abbrev Fs:List Str:=["world","plan"]
noncomputable def nJ:ai->Option Out:=(aw (gw (ah 2 bu (aa (ab 0) (aa (ab 1) ae)))) (aG (ah 2 iS (aa (ab 0) (aa (ab 1) ae)))))
noncomputable def jP:List D->Option D:=bo nJ 2
abbrev qb:List Str:=["world","other"]
noncomputable def ee:ai->Option Out:=(aw (aJ 1 [0] (ah 1 jC (aa (ab 0) ae))) (aG (ah 2 eh (aa (ab 1) (aa (ah 1 aI (aa (ab 1) ae)) ae)))))
noncomputable def bB:List D->Option D:=bo ee 2
abbrev qu:List Str:=["world","side","place"]
noncomputable def cX:ai->Option Out:=(aw (gw (ah 1 cF (aa (ab 1) ae))) (gw (ah 2 aX (aa (ab 2) (aa (bf bP (aa (f2 ao (ab 0) (ab 1)) ae)) ae)))))
noncomputable def ef:List D->Option D:=bo cX 3
abbrev Dy:List Str:=["world","side","place","offers"]
noncomputable def ly:ai->Option Out:=(aw (gw (ah 1 aP (aa (ab 0) ae))) (aw (gw (ah 3 ef (aa (ab 0) (aa (ab 1) (aa (ab 2) ae))))) (aG (ah 4 bV (aa (ab 0) (aa (ab 1) (aa (ab 2) (aa (ab 3) ae))))))))
noncomputable def gY:List D->Option D:=bo ly 4
abbrev uW:List Str:=["world"]
noncomputable def ju:ai->Option Out:=(aG (f2 cN (ah 1 aI (aa (ab 0) ae)) (ah 1 bB (aa (ab 0) ae))))
noncomputable def eJ:List D->Option D:=bo ju 1
abbrev qM:List Str:=["world","plan","side"]
noncomputable def ek:ai->Option Out:=(aG (bf bj (aa (dh (aq 1 [0,1,2] (aV (aa (bf bP (aa (f2 ao (ab 0) (ab 2)) ae)) ae)) (fG 0) (fun _=>some true) (ah 4 bb (aa (ab 1) (aa (ab 2) (aa (ab 3) (aa (ab 0) ae))))))) ae)))
noncomputable def cW:List D->Option D:=bo ek 3
abbrev Dg:List Str:=["world","plan"]
noncomputable def lL:ai->Option Out:=(aw (aJ 1 [0] (ah 1 aI (aa (ab 0) ae))) (aG (aZ (aa (ah 3 cW (aa (ab 0) (aa (ab 1) (aa (fC (.int 0)) ae)))) (aa (ah 3 cW (aa (ab 0) (aa (ab 1) (aa (fC (.int 1)) ae)))) ae)))))
noncomputable def dH:List D->Option D:=bo lL 2
abbrev Fz:List Str:=["world","side","sums"]
noncomputable def nV:ai->Option Out:=(aw (gw (ah 1 aP (aa (ab 0) ae))) (aw (gw (ah 1 cF (aa (ab 1) ae))) (aw (aJ 2 [0,1] (f2 ao (ah 1 dH (aa (ab 0) ae)) (ab 1))) (aG (dh (aq 2 [2] (fP (aa (f2 ao (ab 0) (ab 1)) ae)) (jo 0 1) (fB (f2 vm (f2 ao (ab 2) (ab 0)) (f2 ao (ab 1) (fC (.int 0))))) (ab 0)))))))
noncomputable def iV:List D->Option D:=bo nV 3
abbrev rS:List Str:=["_law_script","_law_many","_law_order","_law_one","_law_rooms","_law_alone","_law_others","_law_side","_law_world","_law_offers","_law_plan","_law_whole"]
noncomputable def jX:ai->Option Out:=(aw (aJ 1 [0] (f2 bY (fC (.int 1)) (ah 3 au (aa (ab 0) (aa (fC (.int 0)) (aa (fC (.int 3)) ae)))))) (aw (bp 2 [] (ke ae)) (aw (nv [1] (aV (aa (ab 1) ae)) (CW 3) (EG 2 [3] (ah 3 au (aa (ab 0) (aa (f2 bY (fC (.int 1)) (ab 3)) (aa (f2 bY (ab 3) (fC (.int 1))) ae)))) (ab 3))) (aw (bp 4 [0,1,3] (aq 1 [0] (aV (aa (ab 1) ae)) (fG 0) (fun _=>some true) (f2 bY (fC (.int 1)) (ah 3 au (aa (ab 1) (aa (f2 bY (fC (.int 5)) (ab 0)) (aa (fC (.int 4)) ae))))))) (aw (aJ 5 [0,2] (aZ (aa (aZ (aa (ah 3 au (aa (ab 0) (aa (fC (.int 10)) (aa (fC (.int 8)) ae)))) (aa (bf bj (aa (ab 2) ae)) ae))) ae))) (aw (aJ 6 [0,1,3] (bf bj (aa (dh (aq 1 [0] (aV (aa (ab 1) ae)) (fG 0) (fun _=>some true) (aZ (aa (ah 3 au (aa (ab 1) (aa (f2 bY (fC (.int 11)) (ab 0)) (aa (fC (.int 5)) ae)))) (aa (aZ (aa (fC (.int 0)) ae)) ae))))) ae))) (aw (aJ 7 [0] (ah 3 au (aa (ab 0) (aa (fC (.int 20)) (aa (fC (.int 2)) ae))))) (aw (gC (fB (f2 cN (ab 7) (fC (.int 0)))) (aJ 8 [1,3,4,5,6] (aZ (aa (ab 5) (aa (ab 6) (aa (bf bj (aa (dh (aq 1 [4] (aV (aa (ab 1) ae)) (fG 0) (fun _=>some true) (aZ (aa (fC (.int 0)) (aa (ab 0) (aa (f2 ao (ab 1) (ab 0)) ae)))))) ae)) ae))))) (aJ 8 [1,3,4,5,6] (aZ (aa (ab 6) (aa (ab 5) (aa (bf bj (aa (dh (aq 1 [4] (aV (aa (ab 1) ae)) (fG 0) (fun _=>some true) (aZ (aa (ab 0) (aa (fC (.int 0)) (aa (f2 ao (ab 1) (ab 0)) ae)))))) ae)) ae)))))) (aw (gC (iE (bx (fB (ah 1 bq (aa (ab 8) ae)))) (bx (fB (ah 1 eJ (aa (ab 8) ae))))) (aG (fC (.bool false))) hJ) (aw (aJ 9 [1,3,4,6] (bf bj (aa (dh (aq 1 [4,6] (aV (aa (ab 1) ae)) (fG 0) (fun _=>some true) (bf ji (aa (f2 ao (ab 1) (ab 0)) (aa (f2 ao (f2 ao (ab 2) (ab 0)) (fC (.int 0))) ae))))) ae))) (aw (aJ 10 [7,8,9] (ah 4 gY (aa (ab 8) (aa (ab 7) (aa (fC (.int 0)) (aa (ab 9) ae)))))) (aw (gC (iE (fB (f2 eX (ah 1 aI (aa (ab 8) ae)) (ab 10))) (iE (fB (f2 eX (ah 1 bB (aa (ab 8) ae)) (ab 10))) (bx (fB (ah 2 jP (aa (ab 8) (aa (ab 10) ae))))))) (aG (fC (.bool false))) hJ) (aw (aJ 11 [10] (bf kf (aa (ab 10) ae))) (aw (gC (iE (fB (f2 eX (oo 3 mK jU (ab 7) (aa (ab 8) (aa (ab 10) (aa (fC (.int 0)) ae)))) (ab 11))) (fB (f2 eX (ab 11) (bf ji (aa (f2 ao (f2 ao (ab 5) (fC (.int 0))) (fC (.int 0))) (aa (bf kf (aa (ab 9) ae)) ae)))))) (aG (fC (.bool false))) hJ) (aw (gC (iE (fB (f2 eX (f2 ao (ah 1 dH (aa (ab 8) ae)) (ab 7)) (aZ (aa (ab 11) ae)))) (fB (f2 eX (f2 ao (ah 1 dH (aa (ab 8) ae)) (f2 Dl.fU (fC (.int 1)) (ab 7))) (ab 10)))) (aG (fC (.bool false))) hJ) (aw (gC (fB (f2 eX (ah 2 iV (aa (ab 8) (aa (ab 7) ae))) (dh (oR (ke (aa (fC (.int 0)) ae)) (bf xw (aa (f2 vm (ab 11) (f2 ao (f2 ao (ab 5) (fC (.int 0))) (fC (.int 0)))) ae)))))) (aG (fC (.bool false))) hJ) (aG (f2 cN (ah 2 iV (aa (ab 8) (aa (f2 Dl.fU (fC (.int 1)) (ab 7)) ae))) (dh (aq 1 [6,10] (aV (aa (ab 1) ae)) (fG 0) (fB (f2 vm (f2 ao (ab 2) (ab 0)) (f2 ao (f2 ao (ab 1) (ab 0)) (fC (.int 0))))) (ab 0)))))))))))))))))))))
noncomputable def ie:List D->Option D:=bo jX 12
end Pg
namespace K24
open PySem L2 Dl PySem.Spec PyProof.Rows
open Pg
noncomputable abbrev kR:Stmt:=top 8
noncomputable abbrev xG:Rf.Sg:=⟨[],[]⟩
theorem wC:Rf.tW kR xx xG none=some kJ:=by kernel_rfl
noncomputable abbrev jc:Stmt:=top 9
noncomputable abbrev uE:Rf.Sg:=⟨[("is_whole",3,aO)],[]⟩
theorem u4:Rf.tW jc vS uE none=some jh:=by kernel_rfl
noncomputable abbrev mL:Stmt:=top 10
noncomputable abbrev AQ:Rf.Sg:=⟨[],[]⟩
theorem Bs:Rf.tW mL AF AQ none=some me:=by kernel_rfl
noncomputable abbrev jw:Stmt:=top 11
noncomputable abbrev ux:Rf.Sg:=⟨[("is_number",2,bM)],[]⟩
theorem uU:Rf.tW jw uq ux none=some jn:=by kernel_rfl
noncomputable abbrev oK:Stmt:=top 12
noncomputable abbrev Cj:Rf.Sg:=⟨[("is_long",3,ba),("is_whole",3,aO),("are_likes",2,eD)],[("MOST",9)]⟩
theorem Cq:Rf.tW oK Dt Cj none=some pF:=by kernel_rfl
noncomputable abbrev o8:Stmt:=top 13
noncomputable abbrev BZ:Rf.Sg:=⟨[("is_long",3,ba),("is_number",2,bM),("is_whole",3,aO)],[("MOST",9)]⟩
theorem Cs:Rf.tW o8 Ed BZ none=some oO:=by kernel_rfl
noncomputable abbrev jf:Stmt:=top 14
noncomputable abbrev vC:Rf.Sg:=⟨[("is_long",3,ba),("is_end",2,eE),("is_way",3,hC)],[("MOST_PLACES",4)]⟩
theorem vH:Rf.tW jf vM vC none=some jj:=by kernel_rfl
noncomputable abbrev gL:Stmt:=top 15
noncomputable abbrev qt:Rf.Sg:=⟨[],[]⟩
theorem p6:Rf.tW gL qm qt none=some gP:=by kernel_rfl
noncomputable abbrev kL:Stmt:=top 16
noncomputable abbrev wW:Rf.Sg:=⟨[("liked_pairs",1,br),("is_long",3,ba),("are_parts",3,eG)],[]⟩
theorem w8:Rf.tW kL xV wW none=some fF:=by kernel_rfl
noncomputable abbrev mC:Stmt:=top 17
noncomputable abbrev AK:Rf.Sg:=⟨[],[]⟩
theorem AA:Rf.tW mC A8 AK none=some mN:=by kernel_rfl
noncomputable abbrev eM:Stmt:=top 18
noncomputable abbrev nA:Rf.Sg:=⟨[("through",4,bb)],[]⟩
theorem nG:Rf.tW eM nu nA none=some eQ:=by kernel_rfl
noncomputable abbrev mF:Stmt:=top 19
noncomputable abbrev Af:Rf.Sg:=⟨[("is_long",3,ba),("keeps_amounts",3,cg),("is_whole",3,aO)],[]⟩
theorem A6:Rf.tW mF AS Af none=some jM:=by kernel_rfl
noncomputable abbrev gQ:Stmt:=top 20
noncomputable abbrev qD:Rf.Sg:=⟨[("is_world",1,bq)],[]⟩
theorem qx:Rf.tW gQ qL qD none=some cR:=by kernel_rfl
noncomputable abbrev iJ:Stmt:=top 21
noncomputable abbrev tP:Rf.Sg:=⟨[("check_world",1,aP),("is_plan",2,gW)],[]⟩
theorem sS:Rf.tW iJ si tP none=some dN:=by kernel_rfl
noncomputable abbrev gF:Stmt:=top 22
noncomputable abbrev qk:Rf.Sg:=⟨[("is_whole",3,aO)],[]⟩
theorem pV:Rf.tW gF p5 qk none=some dc:=by kernel_rfl
noncomputable abbrev fR:Stmt:=top 23
noncomputable abbrev pj:Rf.Sg:=⟨[("check_whole",3,ej)],[]⟩
theorem oD:Rf.tW fR oA pj none=some cB:=by kernel_rfl
noncomputable abbrev iP:Stmt:=top 24
noncomputable abbrev sZ:Rf.Sg:=⟨[("check_number",2,aX)],[]⟩
theorem sk:Rf.tW iP ui sZ none=some dR:=by kernel_rfl
noncomputable abbrev gM:Stmt:=top 25
noncomputable abbrev pZ:Rf.Sg:=⟨[("check_side",1,cF),("check_number",2,aX)],[]⟩
theorem qA:Rf.tW gM qu pZ none=some cX:=by kernel_rfl
noncomputable abbrev kH:Stmt:=top 26
noncomputable abbrev xP:Rf.Sg:=⟨[],[]⟩
theorem wt:Rf.tW kH wV xP none=some kn:=by kernel_rfl
noncomputable abbrev fA:Stmt:=top 27
noncomputable abbrev pf:Rf.Sg:=⟨[],[]⟩
theorem pk:Rf.tW fA oa pf (some "turned_order.<locals>.<lambda>")=some dI:=by kernel_rfl
noncomputable abbrev om:Stmt:=top 28
noncomputable abbrev Dw:Rf.Sg:=⟨[("check_world",1,aP),("turned_order",1,aW)],[]⟩
theorem Eb:Rf.tW om B2 Dw none=some lz:=by kernel_rfl
noncomputable abbrev gK:Stmt:=top 29
noncomputable abbrev qh:Rf.Sg:=⟨[("check_plan",2,bu),("turned_order",1,aW)],[]⟩
theorem qC:Rf.tW gK qv qh none=some d9:=by kernel_rfl
noncomputable abbrev wN:Stmt:=top 31
noncomputable abbrev Kk:Rf.Sg:=⟨[("check_plan",2,bu),("check_number",2,aX),("through",4,bb)],[]⟩
theorem Jo:Rf.tW wN Kr Kk none=some sv:=by kernel_rfl
noncomputable abbrev uh:Stmt:=top 32
noncomputable abbrev E3:Rf.Sg:=⟨[("check_plan",2,bu),("check_number",2,aX),("through",4,bb)],[]⟩
theorem G7:Rf.tW uh FI E3 none=some nI:=by kernel_rfl
noncomputable abbrev mv:Stmt:=top 33
noncomputable abbrev AZ:Rf.Sg:=⟨[],[]⟩
theorem AE:Rf.tW mv Ao AZ (some "ways_of.<locals>.<lambda>")=some jJ:=by kernel_rfl
noncomputable abbrev jD:Stmt:=top 34
noncomputable abbrev uO:Rf.Sg:=⟨[("ways_of",3,d7)],[]⟩
theorem vV:Rf.tW jD vj uO none=some fY:=by kernel_rfl
noncomputable abbrev oW:Stmt:=top 35
noncomputable abbrev CD:Rf.Sg:=⟨[("check_world",1,aP),("check_place",3,ef),("chosen_by",4,bV)],[]⟩
theorem DB:Rf.tW oW Dy CD none=some ly:=by kernel_rfl
noncomputable abbrev iK:Stmt:=top 36
noncomputable abbrev td:Rf.Sg:=⟨[("ways_of",3,d7),("through",4,bb)],[]⟩
theorem sN:Rf.tW iK uk td none=some eW:=by kernel_rfl
noncomputable abbrev kF:Stmt:=top 37
noncomputable abbrev xf:Rf.Sg:=⟨[("wants_more",4,b9)],[]⟩
theorem xo:Rf.tW kF wg xf none=some iW:=by kernel_rfl
noncomputable abbrev eO:Stmt:=top 38
noncomputable abbrev ny:Rf.Sg:=⟨[("why_kept",3,d6)],[]⟩
theorem nB:Rf.tW eO nc ny none=some di:=by kernel_rfl
noncomputable abbrev kq:Stmt:=top 39
noncomputable abbrev xu:Rf.Sg:=⟨[("first_leaving",2,dk)],[]⟩
theorem wu:Rf.tW kq wZ xu none=some ix:=by kernel_rfl
noncomputable abbrev tZ:Stmt:=top 40
noncomputable abbrev F3:Rf.Sg:=⟨[("check_plan",2,bu),("is_still",2,iS)],[]⟩
theorem E9:Rf.tW tZ Fs F3 none=some nJ:=by kernel_rfl
noncomputable abbrev eN:Stmt:=top 42
noncomputable abbrev nr:Rf.Sg:=⟨[("chosen_by",4,bV)],[]⟩
theorem m9:Rf.tW eN nC nr none=some dg:=by kernel_rfl
noncomputable abbrev oY:Stmt:=top 43
noncomputable abbrev CO:Rf.Sg:=⟨[],[]⟩
theorem DY:Rf.tW oY Ee CO none=some o3:=by kernel_rfl
noncomputable abbrev mG:Stmt:=top 44
noncomputable abbrev Aj:Rf.Sg:=⟨[("replaced",3,iU)],[]⟩
theorem Av:Rf.tW mG A5 Aj none=some mw:=by kernel_rfl
noncomputable abbrev l8:Stmt:=top 45
noncomputable abbrev Bu:Rf.Sg:=⟨[("chosen_by_all",3,aY)],[]⟩
theorem AB:Rf.tW l8 Aa Bu none=some j6:=by kernel_rfl
noncomputable abbrev tw:Stmt:=top 46
noncomputable abbrev E8:Rf.Sg:=⟨[("limits",1,eI),("refused",2,dB),("lowered",3,bT)],[]⟩
theorem Gf:Rf.tW tw F2 E8 none=some nQ:=by kernel_rfl
noncomputable abbrev oZ:Stmt:=top 47
noncomputable abbrev Dv:Rf.Sg:=⟨[("limits",1,eI),("lowered",3,bT)],[]⟩
theorem DL:Rf.tW oZ Du Dv none=some lI:=by kernel_rfl
noncomputable abbrev gN:Stmt:=top 48
noncomputable abbrev qG:Rf.Sg:=⟨[("check_world",1,aP),("chosen_by_all",3,aY),("capped",2,lr),("steps",1,nN)],[]⟩
theorem p7:Rf.tW gN qK qG none=some eA:=by kernel_rfl
noncomputable abbrev gR:Stmt:=top 49
noncomputable abbrev qN:Rf.Sg:=⟨[("turned",1,jC),("turned_plan",2,eh),("givers_best",1,aI)],[]⟩
theorem qq:Rf.tW gR qb qN none=some ee:=by kernel_rfl
noncomputable abbrev jE:Stmt:=top 51
noncomputable abbrev uu:Rf.Sg:=⟨[("givers_best",1,aI),("takers_best",1,bB)],[]⟩
theorem vO:Rf.tW jE uW uu none=some ju:=by kernel_rfl
noncomputable abbrev gS:Stmt:=top 52
noncomputable abbrev qP:Rf.Sg:=⟨[("through",4,bb)],[]⟩
theorem qy:Rf.tW gS qM qP none=some ek:=by kernel_rfl
noncomputable abbrev oN:Stmt:=top 53
noncomputable abbrev DJ:Rf.Sg:=⟨[("givers_best",1,aI),("through_all",3,cW)],[]⟩
theorem BJ:Rf.tW oN Dg DJ none=some lL:=by kernel_rfl
noncomputable abbrev tL:Stmt:=top 54
noncomputable abbrev Gj:Rf.Sg:=⟨[("check_world",1,aP),("check_side",1,cF),("totals",1,dH)],[]⟩
theorem FN:Rf.tW tL Fz Gj none=some nV:=by kernel_rfl
noncomputable abbrev jI:Stmt:=top 56
noncomputable abbrev uz:Rf.Sg:=⟨[],[]⟩
theorem uJ:Rf.tW jI vG uz none=some fV:=by kernel_rfl
noncomputable abbrev iA:Stmt:=top 57
noncomputable abbrev uf:Rf.Sg:=⟨[("_law_cell",2,dA)],[]⟩
theorem tf:Rf.tW iA sF uf none=some iD:=by kernel_rfl
noncomputable abbrev Di:Stmt:=top 58
noncomputable abbrev KU:Rf.Sg:=⟨[("_law_drawn",3,au),("choice",4,gY),("short",2,iV),("is_world",1,bq),("is_single",1,eJ),("givers_best",1,aI),("takers_best",1,bB),("rests",2,jP),("totals",1,dH),("sent",3,mK),("taken",3,jU)],[]⟩
theorem K5:Rf.tW Di rS KU none=some jX:=by kernel_rfl
structure KY(K:W.Frag):Prop where
 c0:aE K "is_whole" kR ["thing","least","most"]
 c1:aE K "is_number" jc ["thing","many"]
 c2:aE K "is_long" mL ["thing","least","most"]
 c3:aE K "are_likes" jw ["thing","many"]
 c4:aE K "is_end" oK ["thing","many"]
 c5:aE K "is_way" o8 ["thing","givers","takers"]
 c6:aE K "are_parts" jf ["givers","takers","ways"]
 c7:aE K "liked_pairs" gL ["places"]
 c8:aE K "is_world" kL ["thing"]
 c9:aE K "through" mC ["world","plan","side","place"]
 c10:aE K "keeps_amounts" eM ["world","plan","side"]
 c11:aE K "is_plan" mF ["world","thing"]
 c12:aE K "check_world" gQ ["world"]
 c13:aE K "check_plan" iJ ["world","plan"]
 c14:aE K "check_whole" gF ["thing","least","most"]
 c15:aE K "check_number" fR ["thing","many"]
 c16:aE K "check_side" iP ["thing"]
 c17:aE K "check_place" gM ["world","side","place"]
 c18:aE K "replaced" kH ["parts","number","part"]
 c19:mY K "turned_order" fA ["world"]
 c20:aE K "turned" om ["world"]
 c21:aE K "turned_plan" gK ["world","plan"]
 c22:aE K "sent" wN ["world","plan","giver"]
 c23:aE K "taken" uh ["world","plan","taker"]
 c24:mY K "ways_of" mv ["world","side","place"]
 c25:aE K "chosen_by" jD ["world","side","place","offers"]
 c26:aE K "choice" oW ["world","side","place","offers"]
 c27:aE K "wants_more" iK ["world","plan","side","way"]
 c28:aE K "why_kept" kF ["world","plan","way"]
 c29:aE K "first_leaving" eO ["world","plan"]
 c30:aE K "is_still" kq ["world","plan"]
 c31:aE K "rests" tZ ["world","plan"]
 c32:aE K "chosen_by_all" eN ["world","side","offers"]
 c33:aE K "limits" oY ["world"]
 c34:aE K "lowered" mG ["caps","way","cap"]
 c35:aE K "refused" l8 ["world","caps"]
 c36:aE K "steps" tw ["world"]
 c37:aE K "capped" oZ ["world","rows"]
 c38:aE K "givers_best" gN ["world"]
 c39:aE K "takers_best" gR ["world"]
 c40:aE K "is_single" jE ["world"]
 c41:aE K "through_all" gS ["world","plan","side"]
 c42:aE K "totals" oN ["world"]
 c43:aE K "short" tL ["world","side"]
 c44:aE K "_law_cell" jI ["_law_script","_law_k"]
 c45:aE K "_law_drawn" iA ["_law_script","_law_k","_law_many"]
 c46:aE K "law" Di ["_law_script"]
 i_MOST_PLACES:∃t,W.nsIn K mainGlobals "MOST_PLACES"=some (some (.int 4 t))
 i_MOST:∃t,W.nsIn K mainGlobals "MOST"=some (some (.int 9 t))
 b:∀x∈cq,W.nsIn K mainGlobals x=some none
structure bD(K:W.Frag)(mg:Str->Option Value):Prop where
 c0:bC K mg "is_whole" kR ["thing","least","most"]
 c1:bC K mg "is_number" jc ["thing","many"]
 c2:bC K mg "is_long" mL ["thing","least","most"]
 c3:bC K mg "are_likes" jw ["thing","many"]
 c4:bC K mg "is_end" oK ["thing","many"]
 c5:bC K mg "is_way" o8 ["thing","givers","takers"]
 c6:bC K mg "are_parts" jf ["givers","takers","ways"]
 c7:bC K mg "liked_pairs" gL ["places"]
 c8:bC K mg "is_world" kL ["thing"]
 c9:bC K mg "through" mC ["world","plan","side","place"]
 c10:bC K mg "keeps_amounts" eM ["world","plan","side"]
 c11:bC K mg "is_plan" mF ["world","thing"]
 c12:bC K mg "check_world" gQ ["world"]
 c13:bC K mg "check_plan" iJ ["world","plan"]
 c14:bC K mg "check_whole" gF ["thing","least","most"]
 c15:bC K mg "check_number" fR ["thing","many"]
 c16:bC K mg "check_side" iP ["thing"]
 c17:bC K mg "check_place" gM ["world","side","place"]
 c18:bC K mg "replaced" kH ["parts","number","part"]
 c19:Dx K mg "turned_order" fA ["world"]
 c20:bC K mg "turned" om ["world"]
 c21:bC K mg "turned_plan" gK ["world","plan"]
 c22:bC K mg "sent" wN ["world","plan","giver"]
 c23:bC K mg "taken" uh ["world","plan","taker"]
 c24:Dx K mg "ways_of" mv ["world","side","place"]
 c25:bC K mg "chosen_by" jD ["world","side","place","offers"]
 c26:bC K mg "choice" oW ["world","side","place","offers"]
 c27:bC K mg "wants_more" iK ["world","plan","side","way"]
 c28:bC K mg "why_kept" kF ["world","plan","way"]
 c29:bC K mg "first_leaving" eO ["world","plan"]
 c30:bC K mg "is_still" kq ["world","plan"]
 c31:bC K mg "rests" tZ ["world","plan"]
 c32:bC K mg "chosen_by_all" eN ["world","side","offers"]
 c33:bC K mg "limits" oY ["world"]
 c34:bC K mg "lowered" mG ["caps","way","cap"]
 c35:bC K mg "refused" l8 ["world","caps"]
 c36:bC K mg "steps" tw ["world"]
 c37:bC K mg "capped" oZ ["world","rows"]
 c38:bC K mg "givers_best" gN ["world"]
 c39:bC K mg "takers_best" gR ["world"]
 c40:bC K mg "is_single" jE ["world"]
 c41:bC K mg "through_all" gS ["world","plan","side"]
 c42:bC K mg "totals" oN ["world"]
 c43:bC K mg "short" tL ["world","side"]
 c44:bC K mg "_law_cell" jI ["_law_script","_law_k"]
 c45:bC K mg "_law_drawn" iA ["_law_script","_law_k","_law_many"]
 c46:bC K mg "law" Di ["_law_script"]
 i_MOST_PLACES:∃t,mg "MOST_PLACES"=some (.int 4 t)
 i_MOST:∃t,mg "MOST"=some (.int 9 t)
 b:∀x∈cq,mg x=none
theorem KY.defs{K:W.Frag}{h:Heap}{mg:Str->Option Value}(I:KY K)(X:K.In h)(G:h.Ns mainGlobals mg):bD K mg :=
 ⟨I.c0.mg X G,I.c1.mg X G,I.c2.mg X G,I.c3.mg X G,I.c4.mg X G,I.c5.mg X G,I.c6.mg X G,I.c7.mg X G,I.c8.mg X G,I.c9.mg X G,I.c10.mg X G,I.c11.mg X G,I.c12.mg X G,I.c13.mg X G,I.c14.mg X G,I.c15.mg X G,I.c16.mg X G,I.c17.mg X G,I.c18.mg X G,I.c19.mg X G,I.c20.mg X G,I.c21.mg X G,I.c22.mg X G,I.c23.mg X G,I.c24.mg X G,I.c25.mg X G,I.c26.mg X G,I.c27.mg X G,I.c28.mg X G,I.c29.mg X G,I.c30.mg X G,I.c31.mg X G,I.c32.mg X G,I.c33.mg X G,I.c34.mg X G,I.c35.mg X G,I.c36.mg X G,I.c37.mg X G,I.c38.mg X G,I.c39.mg X G,I.c40.mg X G,I.c41.mg X G,I.c42.mg X G,I.c43.mg X G,I.c44.mg X G,I.c45.mg X G,I.c46.mg X G,(let ⟨t,h⟩:=I.i_MOST_PLACES;⟨t,W.mg_of X G h⟩),(let ⟨t,h⟩:=I.i_MOST;⟨t,W.mg_of X G h⟩),fun x hx=>W.mg_none_of X G (I.b x hx)⟩
section
variable {P:Program}{w:World}{K:W.Frag}{mg:Str->Option Value}{base:Heap}
theorem fN(D:bD K mg):dC P w K mg base 1 "is_whole" 3 aO:=Rf.f7 (j:=0) D.c0 D.b Rf.bE Rf.bF wC
theorem mO(D:bD K mg):dC P w K mg base 2 "is_number" 2 bM:=Rf.f7 (j:=1) D.c1 D.b (Rf.fm (fN D) Rf.bE) Rf.bF u4
theorem gU(D:bD K mg):dC P w K mg base 1 "is_long" 3 ba:=Rf.f7 (j:=0) D.c2 D.b Rf.bE Rf.bF Bs
theorem vL(D:bD K mg):dC P w K mg base 3 "are_likes" 2 eD:=Rf.f7 (j:=2) D.c3 D.b (Rf.fm (mO D) Rf.bE) Rf.bF uU
theorem CU(D:bD K mg):dC P w K mg base 4 "is_end" 2 eE:=Rf.f7 (j:=3) D.c4 D.b (Rf.fm (gU D) (Rf.fm (fN D) (Rf.fm (vL D) Rf.bE))) (Rf.C9 D.i_MOST Rf.bF) Cq
theorem Et(D:bD K mg):dC P w K mg base 3 "is_way" 3 hC:=Rf.f7 (j:=2) D.c5 D.b (Rf.fm (gU D) (Rf.fm (mO D) (Rf.fm (fN D) Rf.bE))) (Rf.C9 D.i_MOST Rf.bF) Cs
theorem vI(D:bD K mg):dC P w K mg base 5 "are_parts" 3 eG:=Rf.f7 (j:=4) D.c6 D.b (Rf.fm (gU D) (Rf.fm (CU D) (Rf.fm (Et D) Rf.bE))) (Rf.C9 D.i_MOST_PLACES Rf.bF) vH
theorem qj(D:bD K mg):dC P w K mg base 1 "liked_pairs" 1 br:=Rf.f7 (j:=0) D.c7 D.b Rf.bE Rf.bF p6
theorem pb(D:bD K mg):dC P w K mg base 6 "is_world" 1 bq:=Rf.f7 (j:=5) D.c8 D.b (Rf.fm (qj D) (Rf.fm (gU D) (Rf.fm (vI D) Rf.bE))) Rf.bF w8
theorem ip(D:bD K mg):dC P w K mg base 1 "through" 4 bb:=Rf.f7 (j:=0) D.c9 D.b Rf.bE Rf.bF AA
theorem nj(D:bD K mg):dC P w K mg base 2 "keeps_amounts" 3 cg:=Rf.f7 (j:=1) D.c10 D.b (Rf.fm (ip D) Rf.bE) Rf.bF nG
theorem Bl(D:bD K mg):dC P w K mg base 3 "is_plan" 2 gW:=Rf.f7 (j:=2) D.c11 D.b (Rf.fm (gU D) (Rf.fm (nj D) (Rf.fm (fN D) Rf.bE))) Rf.bF A6
theorem cU(D:bD K mg):dC P w K mg base 7 "check_world" 1 aP:=Rf.f7 (j:=6) D.c12 D.b (Rf.fm (pb D) Rf.bE) Rf.bF qx
theorem fj(D:bD K mg):dC P w K mg base 8 "check_plan" 2 bu:=Rf.f7 (j:=7) D.c13 D.b (Rf.fm (cU D) (Rf.fm (Bl D) Rf.bE)) Rf.bF sS
theorem pY(D:bD K mg):dC P w K mg base 2 "check_whole" 3 ej:=Rf.f7 (j:=1) D.c14 D.b (Rf.fm (fN D) Rf.bE) Rf.bF pV
theorem dE(D:bD K mg):dC P w K mg base 3 "check_number" 2 aX:=Rf.f7 (j:=2) D.c15 D.b (Rf.fm (pY D) Rf.bE) Rf.bF oD
theorem lE(D:bD K mg):dC P w K mg base 4 "check_side" 1 cF:=Rf.f7 (j:=3) D.c16 D.b (Rf.fm (dE D) Rf.bE) Rf.bF sk
theorem qc(D:bD K mg):dC P w K mg base 5 "check_place" 3 ef:=Rf.f7 (j:=4) D.c17 D.b (Rf.fm (lE D) (Rf.fm (dE D) Rf.bE)) Rf.bF qA
theorem wR(D:bD K mg):dC P w K mg base 1 "replaced" 3 iU:=Rf.f7 (j:=0) D.c18 D.b Rf.bE Rf.bF wt
theorem js(D:bD K mg):dC P w K mg base 4 "turned_order" 1 aW:=Rf.M4 (j:=0) D.c19 D.b Rf.bE Rf.bF pk
theorem Cb(D:bD K mg):dC P w K mg base 8 "turned" 1 jC:=Rf.f7 (j:=7) D.c20 D.b (Rf.fm (cU D) (Rf.fm (js D) Rf.bE)) Rf.bF Eb
theorem qg(D:bD K mg):dC P w K mg base 9 "turned_plan" 2 eh:=Rf.f7 (j:=8) D.c21 D.b (Rf.fm (fj D) (Rf.fm (js D) Rf.bE)) Rf.bF qC
theorem Jk(D:bD K mg):dC P w K mg base 9 "sent" 3 mK:=Rf.f7 (j:=8) D.c22 D.b (Rf.fm (fj D) (Rf.fm (dE D) (Rf.fm (ip D) Rf.bE))) Rf.bF Jo
theorem GY(D:bD K mg):dC P w K mg base 9 "taken" 3 jU:=Rf.f7 (j:=8) D.c23 D.b (Rf.fm (fj D) (Rf.fm (dE D) (Rf.fm (ip D) Rf.bE))) Rf.bF G7
theorem rA(D:bD K mg):dC P w K mg base 4 "ways_of" 3 d7:=Rf.M4 (j:=0) D.c24 D.b Rf.bE Rf.bF AE
theorem mP(D:bD K mg):dC P w K mg base 5 "chosen_by" 4 bV:=Rf.f7 (j:=4) D.c25 D.b (Rf.fm (rA D) Rf.bE) Rf.bF vV
theorem Ex(D:bD K mg):dC P w K mg base 8 "choice" 4 gY:=Rf.f7 (j:=7) D.c26 D.b (Rf.fm (cU D) (Rf.fm (qc D) (Rf.fm (mP D) Rf.bE))) Rf.bF DB
theorem sJ(D:bD K mg):dC P w K mg base 5 "wants_more" 4 b9:=Rf.f7 (j:=4) D.c27 D.b (Rf.fm (rA D) (Rf.fm (ip D) Rf.bE)) Rf.bF sN
theorem xE(D:bD K mg):dC P w K mg base 6 "why_kept" 3 d6:=Rf.f7 (j:=5) D.c28 D.b (Rf.fm (sJ D) Rf.bE) Rf.bF xo
theorem nF(D:bD K mg):dC P w K mg base 7 "first_leaving" 2 dk:=Rf.f7 (j:=6) D.c29 D.b (Rf.fm (xE D) Rf.bE) Rf.bF nB
theorem xX(D:bD K mg):dC P w K mg base 8 "is_still" 2 iS:=Rf.f7 (j:=7) D.c30 D.b (Rf.fm (nF D) Rf.bE) Rf.bF wu
theorem F7(D:bD K mg):dC P w K mg base 9 "rests" 2 jP:=Rf.f7 (j:=8) D.c31 D.b (Rf.fm (fj D) (Rf.fm (xX D) Rf.bE)) Rf.bF E9
theorem i6(D:bD K mg):dC P w K mg base 6 "chosen_by_all" 3 aY:=Rf.f7 (j:=5) D.c32 D.b (Rf.fm (mP D) Rf.bE) Rf.bF m9
theorem vQ(D:bD K mg):dC P w K mg base 1 "limits" 1 eI:=Rf.f7 (j:=0) D.c33 D.b Rf.bE Rf.bF DY
theorem rO(D:bD K mg):dC P w K mg base 2 "lowered" 3 bT:=Rf.f7 (j:=1) D.c34 D.b (Rf.fm (wR D) Rf.bE) Rf.bF Av
theorem Bh(D:bD K mg):dC P w K mg base 7 "refused" 2 dB:=Rf.f7 (j:=6) D.c35 D.b (Rf.fm (i6 D) Rf.bE) Rf.bF AB
theorem G6(D:bD K mg):dC P w K mg base 8 "steps" 1 nN:=Rf.f7 (j:=7) D.c36 D.b (Rf.fm (vQ D) (Rf.fm (Bh D) (Rf.fm (rO D) Rf.bE))) Rf.bF Gf
theorem Dm(D:bD K mg):dC P w K mg base 3 "capped" 2 lr:=Rf.f7 (j:=2) D.c37 D.b (Rf.fm (vQ D) (Rf.fm (rO D) Rf.bE)) Rf.bF DL
theorem eu(D:bD K mg):dC P w K mg base 9 "givers_best" 1 aI:=Rf.f7 (j:=8) D.c38 D.b (Rf.fm (cU D) (Rf.fm (i6 D) (Rf.fm (Dm D) (Rf.fm (G6 D) Rf.bE)))) Rf.bF p7
theorem kj(D:bD K mg):dC P w K mg base 10 "takers_best" 1 bB:=Rf.f7 (j:=9) D.c39 D.b (Rf.fm (Cb D) (Rf.fm (qg D) (Rf.fm (eu D) Rf.bE))) Rf.bF qq
theorem vU(D:bD K mg):dC P w K mg base 11 "is_single" 1 eJ:=Rf.f7 (j:=10) D.c40 D.b (Rf.fm (eu D) (Rf.fm (kj D) Rf.bE)) Rf.bF vO
theorem qp(D:bD K mg):dC P w K mg base 2 "through_all" 3 cW:=Rf.f7 (j:=1) D.c41 D.b (Rf.fm (ip D) Rf.bE) Rf.bF qy
theorem vt(D:bD K mg):dC P w K mg base 10 "totals" 1 dH:=Rf.f7 (j:=9) D.c42 D.b (Rf.fm (eu D) (Rf.fm (qp D) Rf.bE)) Rf.bF BJ
theorem ES(D:bD K mg):dC P w K mg base 11 "short" 2 iV:=Rf.f7 (j:=10) D.c43 D.b (Rf.fm (cU D) (Rf.fm (lE D) (Rf.fm (vt D) Rf.bE))) Rf.bF FN
theorem vv(D:bD K mg):dC P w K mg base 1 "_law_cell" 2 dA:=Rf.f7 (j:=0) D.c44 D.b Rf.bE Rf.bF uJ
theorem sD(D:bD K mg):dC P w K mg base 2 "_law_drawn" 3 au:=Rf.f7 (j:=1) D.c45 D.b (Rf.fm (vv D) Rf.bE) Rf.bF tf
end
theorem ID{P:Program}{w:World}{K:W.Frag}{h:Heap}{mg:Str->Option Value}{fa:Addr}(X:K.In h)(G:h.Ns mainGlobals mg)(hfa:mg "law"=some (.ref fa))(I:KY K):∃fd:FuncData,(∀ (s:Shared) (v:Value),BindsTo s fd ⟨[v],[]⟩ [("_law_script",v)])/\∀base:Heap,K.In base->base.Ns mainGlobals mg->nh P w K mg base Ic 12 fa fd ["_law_script"] (Il K 1 ie):=by
 have D:=I.defs X G
 obtain⟨f,fd,hm,F,hb⟩:=D.c46.ex
 rw[hfa] at hm;cases hm
 refine⟨fd,fun s v=>?_,fun base _ _=>Hy F (Rf.MH (N:=rS)) fun X hP hw hK hm' hb' C _ _ HF H=>by subst hP;subst hw;subst hK;subst hm';subst hb';exact Rf.HA (j:=11) C D.b (Rf.fm (sD D) (Rf.fm (Ex D) (Rf.fm (ES D) (Rf.fm (pb D) (Rf.fm (vU D) (Rf.fm (eu D) (Rf.fm (kj D) (Rf.fm (F7 D) (Rf.fm (vt D) (Rf.fm (Jk D) (Rf.fm (GY D) Rf.bE))))))))))) Rf.bF K5⟩
 obtain⟨oc,od,kV,doc,pm,an,cdv,ct,osl,rfl,lk,hcd⟩:=F.ex
 exact .of_eq rfl
theorem walk{l:W.OpenLaw}{q:Program}{loose:List Str}{XP:(Str->Option Value)->Heap->Prop}{YP:World->Heap->Prop}{d:DefRec}{K:Params->W.Frag}{ts:List Addr}(hn:l.most=some 63)(hdf:d.params.defaults=[])(hname:d.name="law")
  (hY:∀ (w:World) (h:Heap),YP w h->(K w.params).In h/\∀P∈ts,h.get? P=some (W.tabObj #[])) (ht:∀w:World,lA (K w.params) ts=true) (hI:∀w:World,KY (K w.params)) (main:∀ns:List Int,ns.length<=63->ie [.list (ns.map PyData.int)]=some (.bool true)) :
  W.WalkO q loose XP YP l.row.toRowW d [] (fun f vs=>PySem.call f vs) :=
 DD (n:=63) (k:=12) (x:="_law_script") (CX:=fun _=>Ic) (sp:=fun w=>Il (K w.params) 1 ie) hn (by decide) hdf ⟨rfl,by decide,by decide⟩ hY ht (fun w mg fa h KX G hmg=>ID KX G (by rw[<- hname];exact hmg) (hI w)) (fun _ _ a ns hl hT hS=>wH hS hT (main ns hl)) fun _ _ _ _ _ z=>z
end K24
namespace Dl
open PySem L2 PySem.Spec PyProof.Rows
noncomputable def vK:D->Prop|.none=>True|.bool _=>True|.int _=>True|.str x=>PyData.canLay0 (.str x)=true|_=>False
noncomputable def iu(b:Nat):Nat->D->Prop
 | 0,d=>vK d
 | k+1,d=>vK d\/(∃xs,(d=.list xs\/d=.tuple xs)/\xs.length<=b/\∀x∈xs,iu b k x)
theorem iu.leaf{b k:Nat}{d:D}(h:vK d):iu b k d:=by
 cases k with
 | zero=>exact h
 | succ k=>exact .inl h
theorem iu.tup{b k:Nat}{xs:List D}(hb:xs.length<=b)(h:∀x∈xs,iu b k x):iu b (k+1) (.tuple xs):=.inr ⟨xs,.inr rfl,hb,h⟩
theorem iu.lst{b k:Nat}{xs:List D}(hb:xs.length<=b)(h:∀x∈xs,iu b k x):iu b (k+1) (.list xs):=.inr ⟨xs,.inl rfl,hb,h⟩
theorem iu.of_tup{b k:Nat}{xs:List D}(h:iu b k (.tuple xs)):∃j,k=j+1/\xs.length<=b/\∀x∈xs,iu b j x:=by
 cases k with
 | zero=>cases h
 | succ k =>
  rcases h with h|⟨ys,h|h,h1,h2⟩
  ·cases h
  ·cases h
  ·cases h;exact⟨k,rfl,h1,h2⟩
theorem iu.mono{b b':Nat}(hb:b<=b'):∀ {k k':Nat}{d:D},k<=k'->iu b k d->iu b' k' d
 | 0,k',d,_,h=>.leaf h
 | k+1,0,d,hk,h=>by omega
 | k+1,k'+1,d,hk,h=>by
  rcases h with h|⟨xs,h,h1,h2⟩
  ·exact .inl h
  ·exact .inr ⟨xs,h,yE h1 hb,fun x hx=>(h2 x hx).mono hb (by omega)⟩
theorem zr{b k:Nat}:∀ {xs:List D},(∀x∈xs,PyData.canLay0 x=true/\x.depth<=k)->PyData.canLayAll0 xs=true/\PyData.depthAll xs<=k
 | [],_=>⟨by simp[PyData.canLayAll0],by simp[PyData.depthAll]⟩
 | x::xs,h=>by
  obtain⟨a,c⟩:=zr (b:=b) (xs:=xs) fun y hy=>h y (zC _ hy)
  obtain⟨a',c'⟩:=h x zE
  exact⟨by simp[PyData.canLayAll0,a,a'],by simp[PyData.depthAll];omega⟩
theorem iu.lay{b:Nat}:∀ {k:Nat}{d:D},iu b k d->PyData.canLay0 d=true/\d.depth<=k:=by
 have lf:∀ {k:Nat}{d:D},vK d->PyData.canLay0 d=true/\d.depth<=k:=fun {k d} h=>by
  cases d<;>simp only[vK] at h<;>first|exact⟨h,by simp[PyData.depth]⟩|exact⟨by simp[PyData.canLay0],by simp[PyData.depth]⟩
 intro k
 induction k with
 | zero=>exact fun h=>lf h
 | succ k ih =>
  intro d h
  rcases h with h|⟨xs,h,h1,h2⟩
  ·exact lf h
  ·obtain⟨a,c⟩:=zr (b:=b) (xs:=xs) fun y hy=>ih (h2 y hy)
   rcases h with rfl|rfl
   ·exact⟨by simp[PyData.canLay0,a],by simp[PyData.depth];omega⟩
   ·exact⟨by simp[PyData.canLay0,a],by simp[PyData.depth];omega⟩
theorem iu.shaped{b k:Nat}{d:D}(h:iu b k d)(hk:k<=64):SeqAt.shaped d=true:=by
 obtain⟨a,c⟩:=h.lay
 simp[SeqAt.shaped,a];omega
theorem iu.noDict{b k:Nat}{d:D}(h:iu b k d):∀kv,d≠.dict kv:=by
 rintro kv rfl
 have:=h.lay.1
 simp[PyData.canLay0] at this
noncomputable def m8:D->Bool|.dict _=>false|_=>true
theorem iu.nd{b k:Nat}{d:D}(h:iu b k d):m8 d=true:=by
 cases d<;>first|rfl|exact absurd rfl (h.noDict _)
noncomputable def M5:D->Bool|.int _=>true|.bool _=>true|_=>false
noncomputable def M1:D->Bool|.bool _=>true|_=>false
noncomputable def Ho:D->Bool|.tuple _=>true|_=>false
theorem kI{d:D}(h:m8 d=true):tE (gq d) "int"=some (M5 d):=by cases d<;>first|cases h;done|exact FV _ (by simp[gq])
theorem kB{d:D}(h:m8 d=true):tE (gq d) "bool"=some (M1 d):=by cases d<;>first|cases h;done|exact Cp _ (by simp[gq])
theorem kT{d:D}(h:m8 d=true):tE (gq d) "tuple"=some (Ho d):=by cases d<;>first|cases h;done|exact kit_tuple _ (by simp[gq])
noncomputable def whole(a b:Int):D->Bool|.int i=>decide (a<=i)&&decide (i<=b)|_=>false
theorem qV{tgt:Env->D->Option Env}{te:Env->Option D}{ρ:Env}{h:D->D}:∀ {ds:List D},(∀d∈ds,∃ρ',tgt ρ d=some ρ'/\te ρ'=some (h d))->dv tgt (fun _=>some true) te ρ ds=some (ds.map h)
 | [],_=>rfl
 | d::ds,hh=>by
  obtain⟨ρ',h1,h2⟩:=hh d zE
  have ih:=qV (ds:=ds) fun y hy=>hh y (zC _ hy)
  unfold dv
  rw[h1]
  simp[h2,ih]
theorem m7{p:D->Bool}:∀ds:List D,boolsOf (ds.map fun d=>.bool (p d))=some (ds.map p)
 | []=>rfl
 | d::ds=>by simp[boolsOf,m7 ds]
theorem lN{p:D->Bool}(ds:List D):lb [.list (ds.map fun d=>.bool (p d))]=some (.bool (ds.all p)):=by
 simp only[lb,oneOf,zA,m7,zB,List.all_map]
 rfl
theorem bA{ds:List D}(h:ds.length<=4000):small ds=some ds:=if_pos (yE h (by decide))
theorem lQ{ds:List D}{i:Nat}(h:i < ds.length):uc ds (i:Nat)=some (ds.getD i .none):=by
 have:=tU (xs:=ds) (j:=i) (v:=ds[i]) (zU.mpr ⟨h,rfl⟩)
 rw[this]
 simp[List.getD,h]
theorem y2{ds:List D}(h:0 < ds.length):uc ds 0=some (ds.getD 0 .none):=lQ (i:=0) h
theorem vZ{ds:List D}(h:1 < ds.length):uc ds 1=some (ds.getD 1 .none):=lQ (i:=1) h
theorem Ha{ds:List D}(h:2 < ds.length):uc ds 2=some (ds.getD 2 .none):=lQ (i:=2) h
end Dl
namespace Wm
open PySem L2 Dl PySem.Spec PyProof.Rows Pg
theorem uZ{fa fb fc:Dl.Env->Option D}{ρ:Dl.Env}{a i b:Int}(ha:fa ρ=some (.int a))(hb:fb ρ=some (.int i))(hc:fc ρ=some (.int b)):jG yl yl fa fb fc ρ=some (.bool (decide (a<=i)&&decide (i<=b))):=by
 simp only[jG,ha,hb,hc,zA,yl,uo,if_true]
 by_cases h:a<=i<;>simp[h]
theorem lK(i j:Int):Dl.fU (.int i) (.int j)=some (.int (i - j)):=rfl
theorem cZ(i j:Int):Dl.bY (.int i) (.int j)=some (.int (i+j)):=rfl
theorem uj(d:D):Slot.all (.val d)=some d:=rfl
theorem sO(ds:List D):Slot.all (.own ds)=some (.list ds):=rfl
theorem yd:Slot.all .non=none:=rfl
theorem y9(d:D):Slot.frz (.val d)=some d:=rfl
theorem y8(ds:List D):Slot.frz (.own ds)=none:=rfl
theorem yN:Slot.frz .non=none:=rfl
local macro_rules|`(tactic| simp! [$ts,*])=>`(tactic| simp only[bo,aw,gC,aG,hJ,iE,zv,bx,fB,gB,G8,ab,fC,kg,L9,IP,Lc,f1,f2,lK,cZ,aa,ae,ah,bf,mH,bP,dF,oneOf,i7,bz,uj,sO,yd,y9,y8,yN,bw,dh,bj,aZ,ke,ao,  zI,List.map_nil,List.cons_append,List.nil_append,zL,List.length_nil,List.replicate,List.getElem?_cons_zero,List.getElem?_cons_succ,Option.getD_some,Option.getD_none,zA,Option.bind_none,zB,Option.map_none,Nat.reduceAdd,Nat.reduceSub,Nat.zero_add,Nat.sub_self,if_true,reduceIte,$ts,*])
theorem fx{d:D}(h:m8 d=true)(a b:Int):aO [d,.int a,.int b]=some (.bool (whole a b d)):=by
 simp! [aO,kJ,kI h,kB h]
 cases d<;>simp[M5,M1,whole]
 rw[uZ rfl rfl rfl]
theorem jz{d:D}(h:m8 d=true)(n:Int):bM [d,.int n]=some (.bool (whole 0 (n - 1) d)):=by
 simp! [bM,jh,fx h]
noncomputable def long(a b:Int):D->Bool|.tuple ds=>decide (a<=(ds.length:Int))&&decide ((ds.length:Int)<=b)|_=>false
theorem dY{d:D}(h:m8 d=true)(a b:Int):ba [d,.int a,.int b]=some (.bool (long a b d)):=by
 simp! [ba,me,kT h]
 cases d<;>simp[Ho,long]
 rw[uZ rfl (i:=_) rfl rfl]
noncomputable def jW:D->Int|.int i=>i|_=>0
theorem ft{a b:Int}{d:D}(h:whole a b d=true):d=.int (jW d)/\a<=jW d/\jW d<=b:=by
 cases d<;>simp[whole] at h
 exact⟨rfl,h⟩
theorem ku{a b:Int}:∀ {ls:List D},ls.all (whole a b)=true->ls=(ls.map jW).map PyData.int
 | [],_=>rfl
 | d::ls,h=>by
  rw[List.all_cons,zF] at h
  rw[zI,zI,<- (ft h.1).1,<- ku h.2]
noncomputable def iM(n:Int):D->Bool|.tuple ls=>ls.all (whole 0 (n - 1))&&decide ((ls.map jW).Nodup)|_=>false
theorem gZ(i j:Int):cN (.int i) (.int j)=some (.bool (decide (i=j))):=by
 simp[cN,HH,SeqAt.shaped,PyData.canLay0,PyData.depth,PyData.eqv]
 rfl
theorem uT(i j:Int):eX (.int i) (.int j)=some (.bool (!decide (i=j))):=by
 simp[eX,KC,SeqAt.shaped,PyData.canLay0,PyData.depth,PyData.eqv]
 rfl
theorem A1{ls:List D}{a b:Int}(h:ls.all (whole a b)=true)(hl:ls.length<=100):f2 cN (f1 jN (fun _=>some (.tuple ls))) (bf bP (aa (fun _=>some (.tuple ls)) ae)) []=some (.bool (decide ((ls.map jW).Nodup))):=by
 have e:=ku h
 have e1:jN (.tuple ls)=some (.int (many (ls.map jW))):=by
  simp only[jN,lO]
  conv=>lhs;rw[e]
  rw[cw,zA,if_pos]
  rw[zD]
  exact Nat.lt_of_le_of_lt (Nat.add_le_add_right hl 1) (by decide)
 simp! [e1,gZ]
 have:=xS (ls.map jW)
 rw[zD] at this
 simp only[<- this,Int.ofNat_inj,yL,PyData.bool.injEq]
theorem Mp(r:Dl.Env)(d:D):fG 0 (none::r) d=some (some d::r):=by simp[fG,isFree]
theorem cI{cs:List Nat}{fi:Dl.Env->Option (List D)}{ds:List D}{te:Dl.Env->Option D}{h:D->D}{ρ:Dl.Env}(hfi:fi ρ=some ds)(hl:ds.length<=4000)(hh:∀d∈ds,te (some d::cs.map fun j=>(ρ[j]?).getD none)=some (h d)):aq 1 cs fi (fG 0) (fun _=>some true) te ρ=some (ds.map h):=by
 simp only[aq,hfi,zA,fM,List.replicate,List.cons_append,List.nil_append]
 rw[qV (h:=h) fun d hd=>⟨_,Mp _ d,hh d hd⟩,zA,bA (by rw[zD];exact hl)]
theorem ve{b k:Nat}{d:D}(h:iu b k d)(hb:b<=100)(n:Int):eD [d,.int n]=some (.bool (iM n d)):=by
 simp! [eD,jn,kT h.nd]
 cases d<;>try (simp[Ho,iM];done)
 rename_i ls
 obtain⟨j,rfl,hl,hf⟩:=h.of_tup
 have c:=cI (cs:=[1]) (fi:=bw (ab 0)) (te:=(ah 2 bM (aa (ab 0) (aa (ab 1) ae)))) (h:=fun x=>.bool (whole 0 (n - 1) x)) (ρ:=[some (.tuple ls),some (.int n)]) rfl (by omega) fun x hx=>by simp! [jz (hf x hx).nd]
 simp! [Ho,Bool.not_true,Bool.false_eq_true,c,lN]
 cases e:ls.all (whole 0 (n - 1)) with
 | false=>simp[iM,e]
 | true =>
  have:=A1 e (yE hl hb)
  simp only[f2,f1,bf,aa,ae,zA,zB] at this
  simp! [iM,e,Bool.not_true,Bool.false_eq_true,Bool.true_and]
  simp only[bP,dF,oneOf,zA,i7,zB] at this
  simp! [this]
noncomputable def placeOk(n:Int):D->Bool|.tuple ds=>decide (ds.length=2)&&(whole 0 9 (ds.getD 0 .none)&&iM n (ds.getD 1 .none))|_=>false
noncomputable def i4(g t:Int):D->Bool|.tuple ds=>decide (ds.length=3)&&(whole 0 (g - 1) (ds.getD 0 .none)&&(whole 0 (t - 1) (ds.getD 1 .none)&&whole 1 9 (ds.getD 2 .none)))|_=>false
theorem tI(n:Nat)(ds:List D):long (n:Int) (n:Int) (.tuple ds)=decide (ds.length=n):=by
 simp only[long]
 by_cases h:ds.length=n
 ·simp[h]
 ·rw[yA h,Bool.and_eq_false_iff,decide_eq_false_iff_not,decide_eq_false_iff_not];omega
theorem getD_mem{ds:List D}{i:Nat}(h:i < ds.length):ds.getD i .none∈ds:=by simp[List.getD,h]
theorem vB{b k:Nat}{d:D}(h:iu b k d)(hb:b<=100)(n:Int):eE [d,.int n]=some (.bool (placeOk n d)):=by
 simp! [eE,pF,dY h.nd]
 cases d<;>try (simp[long,placeOk];done)
 rename_i ds
 obtain⟨j,rfl,hl,hf⟩:=h.of_tup
 rw[show long 2 2 (.tuple ds)=decide (ds.length=2) from tI 2 ds]
 by_cases e:ds.length=2
 ·have f0:=hf _ (getD_mem (i:=0) (by omega))
  have f1:=hf _ (getD_mem (i:=1) (by omega))
  simp! [e,decide_true,y2 (show 0 < ds.length by omega),vZ (show 1 < ds.length by omega),fx f0.nd,ve f1 hb,placeOk]
  cases whole 0 9 (ds.getD 0 .none)<;>simp
 ·simp[e,placeOk]
theorem BU{b k:Nat}{d:D}(h:iu b k d)(hb:b<=100)(g t:Int):hC [d,.int g,.int t]=some (.bool (i4 g t d)):=by
 simp! [hC,oO,dY h.nd]
 cases d<;>try (simp[long,i4];done)
 rename_i ds
 obtain⟨j,rfl,hl,hf⟩:=h.of_tup
 rw[show long 3 3 (.tuple ds)=decide (ds.length=3) from tI 3 ds]
 by_cases e:ds.length=3
 ·have f0:=hf _ (getD_mem (i:=0) (by omega))
  have f1:=hf _ (getD_mem (i:=1) (by omega))
  have f2':=hf _ (getD_mem (i:=2) (by omega))
  simp! [e,decide_true,Bool.not_true,Bool.false_eq_true,y2 (show 0 < ds.length by omega),vZ (show 1 < ds.length by omega),Ha (show 2 < ds.length by omega),fx f2'.nd,jz f0.nd,jz f1.nd,i4]
  cases whole 0 (g - 1) (ds.getD 0 .none)<;>cases whole 0 (t - 1) (ds.getD 1 .none)<;>simp
 ·simp[e,i4]
noncomputable def cY:D->List D|.tuple ds=>ds|_=>[]
noncomputable def mi(d:D):Bool:=long 1 4 d
noncomputable def iQ(g t w:D):Bool:=mi g&&(mi t&&((cY g).all (placeOk (cY t).length)&&((cY t).all (placeOk (cY g).length)&&(Ho w&&(cY w).all (i4 (cY g).length (cY t).length)))))
theorem jA{a b:Int}{d:D}(h:long a b d=true):d=.tuple (cY d):=by cases d<;>first|rfl|cases h
theorem mQ{b k:Nat}{g t w:D}(hg:iu b k g)(ht:iu b k t)(hw:iu b k w)(hb:b<=100):eG [g,t,w]=some (.bool (iQ g t w)):=by
 simp! [eG,jj,dY hg.nd,dY ht.nd,kT hw.nd]
 unfold iQ mi
 cases e1:long 1 4 g with
 | false=>simp
 | true =>
  cases e2:long 1 4 t with
  | false=>simp
  | true =>
   obtain⟨gs,rfl⟩:∃gs,g=.tuple gs:=⟨_,jA e1⟩
   obtain⟨ts,rfl⟩:∃ts,t=.tuple ts:=⟨_,jA e2⟩
   obtain⟨j,rfl,hgl,hgf⟩:=hg.of_tup
   obtain⟨j',hj,htl,htf⟩:=ht.of_tup
   have c1:=cI (cs:=[1]) (fi:=bw (ab 0)) (te:=(ah 2 eE (aa (ab 0) (aa (bf bP (aa (ab 1) ae)) ae)))) (h:=fun x=>.bool (placeOk ts.length x)) (ρ:=[some (.tuple gs),some (.tuple ts),some w]) rfl (by omega) fun x hx=>by simp! [vB (hgf x hx) hb]
   have c2:=cI (cs:=[0]) (fi:=bw (ab 1)) (te:=(ah 2 eE (aa (ab 0) (aa (bf bP (aa (ab 1) ae)) ae)))) (h:=fun x=>.bool (placeOk gs.length x)) (ρ:=[some (.tuple gs),some (.tuple ts),some w]) rfl (by omega) fun x hx=>by simp! [vB (htf x hx) hb]
   simp! [Bool.not_true,Bool.false_eq_true,c1,lN,cY,Bool.true_and]
   cases e3:gs.all (placeOk ts.length) with
   | false=>simp
   | true =>
    simp! [Bool.not_true,Bool.false_eq_true,c2,lN,Bool.true_and]
    cases e4:ts.all (placeOk gs.length) with
    | false=>simp
    | true =>
     cases hT:Ho w with
     | false=>simp! [Bool.not_true,Bool.false_eq_true,kT hw.nd,hT,Bool.false_and,Bool.and_false]
     | true =>
     obtain⟨ws,rfl⟩:∃ws,w=.tuple ws:=by cases w<;>first|exact⟨_,rfl⟩|cases hT
     obtain⟨j2,hj2,hwl,hwf⟩:=hw.of_tup
     have c3:=cI (cs:=[0,1]) (fi:=bw (ab 2)) (te:=(ah 3 hC (aa (ab 0) (aa (bf bP (aa (ab 1) ae)) (aa (bf bP (aa (ab 2) ae)) ae))))) (h:=fun x=>.bool (i4 gs.length ts.length x)) (ρ:=[some (.tuple gs),some (.tuple ts),some (.tuple ws)]) rfl (by omega) fun x hx=>by simp! [BU (hwf x hx) hb]
     simp! [Bool.not_true,Bool.false_eq_true,c3,lN,Bool.true_and,kT hw.nd,Ho]
theorem pQ:∀ (a b:List Int),PyData.eqvAll (a.map PyData.int) (b.map PyData.int)=decide (a=b)
 | [],[]=>by simp[PyData.eqvAll]
 | [],_::_=>by simp[PyData.eqvAll]
 | _::_,[]=>by simp[PyData.eqvAll]
 | i::a,j::b=>by
  rw[zI,zI,PyData.eqvAll,pQ a b]
  by_cases h:i=j
  ·subst h;simp[PyData.eqv]
  ·simp[PyData.eqv,h]
theorem u9:∀ (a b:List (List Int)),PyData.eqvAll (a.map ag) (b.map ag)=decide (a=b)
 | [],[]=>by simp[PyData.eqvAll]
 | [],_::_=>by simp[PyData.eqvAll]
 | _::_,[]=>by simp[PyData.eqvAll]
 | x::a,y::b=>by
  rw[zI,zI,PyData.eqvAll,u9 a b,ag,ag,PyData.eqv,pQ]
  by_cases h:x=y
  ·subst h;simp
  ·simp[h]
theorem j7{b k:Nat}(i:Int):iu b k (.int i):=.leaf trivial
theorem zd{b k:Nat}{r:List Int}(h:r.length<=b):iu b (k+1) (ag r):=.tup (by rw[zD];exact h) fun x hx=>by
 obtain⟨i,_,rfl⟩:=zQ.mp hx
 exact j7 i
theorem DR{b k:Nat}{a:List (List Int)}(h:a.length<=b)(hr:∀r∈a,r.length<=b):iu b (k+2) (.list (a.map ag)):=.lst (by rw[zD];exact h) fun x hx=>by
 obtain⟨r,hr',rfl⟩:=zQ.mp hx
 exact zd (hr r hr')
theorem Ae(a:List (List Int)):∃b,a.length<=b/\∀r∈a,r.length<=b:=by
 induction a with
 | nil=>exact⟨0,Nat.le_refl _,fun r h=>by cases h⟩
 | cons x a ih =>
  obtain⟨b,h1,h2⟩:=ih
  refine⟨b+1+x.length,by rw[zL];omega,fun r hr=>?_⟩
  rcases zR.mp hr with rfl|hr
  ·omega
  ·have:=h2 r hr;omega
theorem uM(a:List (List Int)):SeqAt.shaped (.list (a.map ag))=true:=by
 obtain⟨b,h1,h2⟩:=Ae a
 exact (DR (b:=b) (k:=0) h1 h2).shaped (by decide)
theorem A7(a b:List (List Int)):cN (.list (a.map ag)) (.list (b.map ag))=some (.bool (decide (a=b))):=by
 simp only[cN,HH,uM,and_self,if_true,PyData.eqv,u9,zB]
noncomputable def hU(d:D):List Int:=(cY ((cY d).getD 1 .none)).map jW
theorem iw{n:Int}{d:D}(h:placeOk n d=true):∃a ds,d=.tuple ds/\ds.length=2/\ds.getD 0 .none=.int a/\0<=a/\a<=9/\ds.getD 1 .none=.tuple ((hU d).map PyData.int)/\(hU d).Nodup/\∀j∈hU d,0<=j/\j<=n - 1:=by
 cases d<;>simp only[placeOk] at h<;>try cases h
 rename_i ds
 simp only[zF,zJ] at h
 obtain⟨h1,h2,h3⟩:=h
 have e:hU (.tuple ds)=(cY (ds.getD 1 .none)).map jW:=rfl
 rw[e]
 generalize hl:ds.getD 1 .none=l at h3
 cases l<;>simp only[iM] at h3<;>try cases h3
 rename_i ls
 simp only[zF,zJ] at h3
 obtain⟨w1,w2,w3⟩:=ft h2
 refine⟨_,ds,rfl,h1,w1,w2,w3,?_,h3.2,fun j hj=>?_⟩
 ·rw[show cY (.tuple ls)=ls from rfl,<- ku h3.1];exact hl
 ·obtain⟨x,hx,rfl⟩:=zQ.mp hj
  exact (ft (List.all_eq_true.mp h3.1 x hx)).2
noncomputable def kW(k:Nat):List D->List (List Int)|[]=>[]|p::ps=>(hU p).map (fun j=>[((k:Nat):Int),j])++kW (k+1) ps
theorem ow:∀ (n:Nat) {l:List Int},l.Nodup->(∀j∈l,0<=j/\j<=(n:Int) - 1)->l.length<=n:=by
 intro n l hn h
 have hs:l.map Int.toNat ⊆ List.range n:=fun x hx=>by
  obtain⟨j,hj,rfl⟩:=zQ.mp hx
  have:=h j hj
  exact zT.mpr (by omega)
 have hnd:(l.map Int.toNat).Nodup:=by
  refine List.pairwise_map.mpr (hn.imp_of_mem fun {x y} hx hy hne e=>hne ?_)
  have:=h x hx;have:=h y hy;omega
 have:=List.Nodup.length_le_of_subset hnd hs
 simpa using this
theorem se{n:Nat}:∀ {ps:List D}{k:Nat},(∀p∈ps,placeOk n p=true)->(kW k ps).length<=ps.length * n
 | [],k,_=>Nat.zero_le _
 | p::ps,k,h=>by
  obtain⟨_,_,_,_,_,_,_,_,hn,hr⟩:=iw (h p zE)
  have h1:=ow n hn hr
  have h2:=se (ps:=ps) (k:=k+1) fun q hq=>h q (zC _ hq)
  rw[kW,zN,zD,zL,Nat.succ_mul]
  omega
noncomputable def pB:ai->Option Out:=Ap 1 [2,3] (aq 1 [2] (bw (f2 ao (ab 3) (fC (.int 1)))) (fG 0) (fun _=>some true) (aZ (aa (ab 1) (aa (ab 0) ae))))
theorem JL{n:Nat}{p x:D}{acc:List D}{k:Nat}(hp:placeOk n p=true)(hn:n<=100)(ha:acc.length<=1000):pB [.val x,.own acc,.val (.int (k:Nat)),.val p]=some (.nx [.val x,.own (acc++((hU p).map fun j=>ag [((k:Nat):Int),j])),.val (.int (k:Nat)),.val p]):=by
 obtain⟨a,ds,rfl,hl,_,_,_,h1,hnd,hr⟩:=iw hp
 have hb:=ow n hnd hr
 generalize hU (.tuple ds)=ls at *
 have c:=cI (cs:=[2]) (fi:=bw (f2 ao (ab 3) (fC (.int 1)))) (te:=aZ (aa (ab 1) (aa (ab 0) ae))) (h:=fun y=>.tuple [.int (k:Nat),y]) (ρ:=[some x,none,some (.int (k:Nat)),some (.tuple ds)]) (ds:=ls.map PyData.int)
  (by simp! [vZ (show 1 < ds.length by omega),h1]) (by rw[zD];omega) fun y hy=>by
   simp! [bA (show [PyData.int (k:Nat),y].length<=4000 by simp)]
 have hh:hand [2,3] 0 [Slot.val x,.own acc,.val (.int (k:Nat)),.val (.tuple ds)]=[Slot.val x,.own acc,.val (.int (k:Nat)),.val (.tuple ds)]:=rfl
 simp only[pB,Ap,hh,dG,zI,List.map_nil,Slot.frz,c,zA,p9,List.getElem?_cons_succ,List.getElem?_cons_zero]
 rw[if_pos]
 ·simp only[zB,List.set_cons_succ,List.set_cons_zero,zM]
  rfl
 ·simp only[zD]
  exact yE (show acc.length+ls.length<=1100 by omega) (by decide)
theorem r9{n:Nat}{x:D}(hn:n<=100):∀ {ps:List D}{k:Nat}{acc:List D}{s2 s3:Slot},(∀p∈ps,placeOk n p=true)->acc.length+ps.length * n<=1000 ->
  ∃t2 t3,jB (qr 2 3) pB (cM k ps) [.val x,.own acc,s2,s3]=some (.nx [.val x,.own (acc++(kW k ps).map ag),t2,t3])
 | [],k,acc,s2,s3,_,_=>⟨s2,s3,by simp[cM,jB,kW]⟩
 | p::ps,k,acc,s2,s3,h,hl=>by
  have hp:=h p zE
  obtain⟨_,_,_,_,_,_,_,_,hnd,hr⟩:=iw hp
  have hb:=ow n hnd hr
  rw[zL,Nat.succ_mul] at hl
  obtain⟨t2,t3,e⟩:=r9 hn (x:=x) (ps:=ps) (k:=k+1) (acc:=acc++((hU p).map fun j=>ag [((k:Nat):Int),j])) (s2:=.val (.int (k:Nat))) (s3:=.val p) (fun q hq=>h q (zC _ hq)) (by rw[zN,zD];omega)
  refine⟨t2,t3,?_⟩
  have hs:qr 2 3 [.val x,.own acc,s2,s3] (.tuple [.int (k:Nat),p])=some [.val x,.own acc,.val (.int (k:Nat)),.val p]:=rfl
  simp only[cM,jB,hs,zA,JL hp hn (show acc.length<=1000 by omega)]
  rw[e]
  simp[kW,zM,Function.comp_def]
theorem yo{n:Nat}{ps:List D}(h:∀p∈ps,placeOk n p=true)(hn:n<=100)(hl:ps.length * n<=1000):br [.tuple ps]=some (.list ((kW 0 ps).map ag)):=by
 obtain⟨t2,t3,e⟩:=r9 hn (x:=.tuple ps) (k:=0) (acc:=[]) (s2:=.non) (s3:=.non) h (by simpa using hl)
 have hs:bp 1 [] (ke ae) [Slot.val (.tuple ps),.non,.non,.non]=some (.nx [.val (.tuple ps),.own [],.non,.non]):=rfl
 have hh:hand [0] 0 [Slot.val (.tuple ps),.own [],.non,.non]=[Slot.val (.tuple ps),.own [],.non,.non]:=rfl
 have hf:fP (aa (ab 0) ae) (dG [Slot.val (.tuple ps),.own [],.non,.non])=some (cM 0 ps):=rfl
 simp! [br,gP,hs,nv,hh,hf]
 rw[show Ap 1 [2,3] (aq 1 [2] (bw (f2 ao (ab 3) (fC (.int 1)))) (fG 0) (fun _=>some true) (aZ (aa (ab 1) (aa (ab 0) ae))))=pB from rfl,e]
 simp! []
noncomputable def eS(d:D):List Int:=[jW ((cY d).getD 0 .none),jW ((cY d).getD 1 .none)]
theorem xj{g t:Int}{d:D}(h:i4 g t d=true):∃ds c,d=.tuple ds/\ds.length=3/\ds.getD 0 .none=.int (jW (ds.getD 0 .none))/\ds.getD 1 .none=.int (jW (ds.getD 1 .none))/\ds.getD 2 .none=.int c/\1<=c/\c<=9 /\
  0<=jW (ds.getD 0 .none)/\jW (ds.getD 0 .none)<=g - 1/\0<=jW (ds.getD 1 .none)/\jW (ds.getD 1 .none)<=t - 1:=by
 cases d<;>simp only[i4] at h<;>try cases h
 rename_i ds
 simp only[zF,zJ] at h
 obtain⟨h1,h2,h3,h4⟩:=h
 have a:=ft h2
 have b:=ft h3
 have c:=ft h4
 exact⟨ds,_,rfl,h1,a.1,b.1,c.1,c.2.1,c.2.2,a.2.1,a.2.2,b.2.1,b.2.2⟩
noncomputable def xH(g t w:D):Bool:=decide ((cY w).map eS=pU (kW 0 (cY g)))&&decide ((cY w).map eS=pU ((kW 0 (cY t)).map List.reverse))
noncomputable def LP(d:D):Bool:=long 3 3 d&&(iQ ((cY d).getD 0 .none) ((cY d).getD 1 .none) ((cY d).getD 2 .none)&&xH ((cY d).getD 0 .none) ((cY d).getD 1 .none) ((cY d).getD 2 .none))
theorem jQ:∀ {ps:List D}{k:Nat},∀r∈kW k ps,∃i j,r=[i,j]
 | [],k,r,h=>by cases h
 | p::ps,k,r,h=>by
  rcases List.mem_append.mp h with h|h
  ·obtain⟨j,_,rfl⟩:=zQ.mp h;exact⟨_,_,rfl⟩
  ·exact jQ r h
theorem lJ{a:List (List Int)}(h:∀r∈a,∃i j,r=[i,j])(hl:a.length < 64):fX [.list (a.map ag)]=some ((pU a).map ag):=by
 have:∀ns∈a,ns≠[]:=fun ns hn=>by obtain⟨i,j,rfl⟩:=h ns hn;exact List.cons_ne_nil _ _
 simp only[fX,oneOf,zA,kU this,if_pos hl]
theorem r6:∀ {a:List (List Int)},(∀r∈a,∃i j,r=[i,j])->dv (jo 0 1) (fun _=>some true) (aZ (aa (ab 1) (aa (ab 0) ae))) [none,none] (a.map ag)=some ((a.map List.reverse).map ag)
 | [],_=>rfl
 | r::a,h=>by
  obtain⟨i,j,rfl⟩:=h r zE
  have ih:=r6 (a:=a) fun q hq=>h q (zC _ hq)
  have e:jo 0 1 [none,none] (ag [i,j])=some [some (.int i),some (.int j)]:=rfl
  rw[zI,dv,e,zA,zA,if_pos rfl,ih]
  simp! [bA (show [PyData.int j,.int i].length<=4000 by simp)]
  rfl
theorem Bm{a:List (List Int)}{fi:Dl.Env->Option (List D)}{ρ:Dl.Env}(hfi:fi ρ=some (a.map ag))(hl:a.length<=4000)(h:∀r∈a,∃i j,r=[i,j]):aq 2 [] fi (jo 0 1) (fun _=>some true) (aZ (aa (ab 1) (aa (ab 0) ae))) ρ=some ((a.map List.reverse).map ag):=by
 simp only[aq,hfi,zA,fM,List.replicate,List.cons_append,List.nil_append,List.map_nil]
 rw[r6 h,zA,bA (by rw[zD,zD];exact hl)]
theorem vh{g t w:D}(h:iQ g t w=true):∃gs ts ws,g=.tuple gs/\t=.tuple ts/\w=.tuple ws/\1<=gs.length/\gs.length<=4/\1<=ts.length/\ts.length<=4/\(∀p∈gs,placeOk ts.length p=true)/\(∀p∈ts,placeOk gs.length p=true)/\∀x∈ws,i4 gs.length ts.length x=true:=by
 simp only[iQ,mi,zF] at h
 obtain⟨h1,h2,h3,h4,h5,h6⟩:=h
 cases w<;>try cases h5
 rename_i ws
 have e1:=jA h1
 have e2:=jA h2
 generalize cY g=gs at *
 generalize cY t=ts at *
 subst e1 e2
 simp only[long,zF,zJ] at h1 h2
 exact⟨gs,ts,ws,rfl,rfl,rfl,by omega,by omega,by omega,by omega,List.all_eq_true.mp h3,List.all_eq_true.mp h4,List.all_eq_true.mp h6⟩
theorem oC{b k:Nat}{d:D}(h:iu b k d)(hb:b<=100):bq [d]=some (.bool (LP d)):=by
 unfold LP
 cases e1:long 3 3 d with
 | false=>simp! [bq,fF,dY h.nd,e1,Bool.not_false,Bool.false_and]
 | true =>
  obtain⟨ds,rfl⟩:∃ds,d=.tuple ds:=⟨_,jA e1⟩
  obtain⟨j,rfl,hl,hf⟩:=h.of_tup
  rw[show long 3 3 (.tuple ds)=decide (ds.length=3) from tI 3 ds,zJ] at e1
  have f0:=hf _ (getD_mem (i:=0) (by omega))
  have f1:=hf _ (getD_mem (i:=1) (by omega))
  have f2':=hf _ (getD_mem (i:=2) (by omega))
  have i0:=y2 (show 0 < ds.length by omega)
  have i1:=vZ (show 1 < ds.length by omega)
  have i2:=Ha (show 2 < ds.length by omega)
  have el:ba [.tuple ds,.int 3,.int 3]=some (.bool true):=by rw[dY rfl,show long 3 3 (.tuple ds)=decide (ds.length=3) from tI 3 ds,yB e1]
  rw[show cY (.tuple ds)=ds from rfl,Bool.true_and]
  generalize hg:ds.getD 0 .none=g at *
  generalize ht:ds.getD 1 .none=t at *
  generalize hw:ds.getD 2 .none=w at *
  cases e2:iQ g t w with
  | false=>simp! [bq,fF,el,i0,i1,i2,mQ f0 f1 f2' hb,e2,Bool.not_false,Bool.not_true,Bool.false_and]
  | true =>
   obtain⟨gs,ts,ws,rfl,rfl,rfl,g1,g4,t1,t4,hG,hT,hW⟩:=vh e2
   have hfw:=f2'.of_tup
   obtain⟨j2,_,hwl,_⟩:=hfw
   have q1:=se (k:=0) hG
   have q2:=se (k:=0) hT
   have m1:gs.length * ts.length<=16:=Nat.mul_le_mul g4 t4
   have m2:ts.length * gs.length<=16:=Nat.mul_le_mul t4 g4
   have l1:=yo hG (by omega) (by omega)
   have l2:=yo hT (by omega) (by omega)
   have s1:=lJ (a:=kW 0 gs) jQ (by omega)
   have s2:=lJ (a:=(kW 0 ts).map List.reverse) (fun r hr=>by
    obtain⟨q,hq,rfl⟩:=zQ.mp hr
    obtain⟨i,j,rfl⟩:=jQ q hq
    exact⟨j,i,rfl⟩) (by rw[zD];omega)
   have c1:aq 1 [] (bw (f2 ao (ab 0) (fC (.int 2)))) (fG 0) (fun _=>some true) (aZ (aa (f2 ao (ab 0) (fC (.int 0))) (aa (f2 ao (ab 0) (fC (.int 1))) ae))) [some (.tuple ds),none,none,none]=some ((ws.map eS).map ag):=by
    rw[cI (ds:=ws) (h:=fun x=>ag (eS x)) (by simp! [i2]) (by omega) fun x hx=>?_,zM]
    ·rfl
    ·obtain⟨vs,c,rfl,v3,v0,v1,_⟩:=xj (hW x hx)
     simp! [y2 (show 0 < vs.length by omega),vZ (show 1 < vs.length by omega),bA (show [vs.getD 0 PyData.none,vs.getD 1 .none].length<=4000 by simp),ag,eS,cY]
     rw[<- v0,<- v1]
   have c2:∀x y z,aq 2 [] (bw (ah 1 br (aa (f2 ao (ab 0) (fC (.int 1))) ae))) (jo 0 1) (fun _=>some true) (aZ (aa (ab 1) (aa (ab 0) ae))) [some (.tuple ds),x,y,z]=some (((kW 0 ts).map List.reverse).map ag):=fun x y z =>
    Bm (by simp! [i1,l2]) (by omega) jQ
   have st1:bp 1 [0] (aq 1 [] (bw (f2 ao (ab 0) (fC (.int 2)))) (fG 0) (fun _=>some true) (aZ (aa (f2 ao (ab 0) (fC (.int 0))) (aa (f2 ao (ab 0) (fC (.int 1))) ae)))) [Slot.val (.tuple ds),.non,.non,.non]=some (.nx [.val (.tuple ds),.own ((ws.map eS).map ag),.non,.non]):=by
    have hh:hand [0] 0 [Slot.val (.tuple ds),.non,.non,.non]=[Slot.val (.tuple ds),.non,.non,.non]:=rfl
    simp only[bp,hh,dG,zI,List.map_nil,Slot.frz,c1,zB,List.set_cons_succ,List.set_cons_zero]
   have st2:bp 2 [0] (mH fX (aa (ah 1 br (aa (f2 ao (ab 0) (fC (.int 0))) ae)) ae)) [Slot.val (.tuple ds),.own ((ws.map eS).map ag),.non,.non]=some (.nx [.val (.tuple ds),.own ((ws.map eS).map ag),.own ((pU (kW 0 gs)).map ag),.non]):=by
    have hh:hand [0] 0 [Slot.val (.tuple ds),.own ((ws.map eS).map ag),.non,.non]=[Slot.val (.tuple ds),.own ((ws.map eS).map ag),.non,.non]:=rfl
    simp only[bp,hh,dG,zI,List.map_nil,Slot.frz]
    simp! [i0,l1,s1,List.set_cons_succ,List.set_cons_zero]
   have st3:bp 3 [0] (mH fX (aa (dh (aq 2 [] (bw (ah 1 br (aa (f2 ao (ab 0) (fC (.int 1))) ae))) (jo 0 1) (fun _=>some true) (aZ (aa (ab 1) (aa (ab 0) ae))))) ae)) [Slot.val (.tuple ds),.own ((ws.map eS).map ag),.own ((pU (kW 0 gs)).map ag),.non]
      =some (.nx [.val (.tuple ds),.own ((ws.map eS).map ag),.own ((pU (kW 0 gs)).map ag),.own ((pU ((kW 0 ts).map List.reverse)).map ag)]):=by
    have hh:hand [0] 0 [Slot.val (.tuple ds),.own ((ws.map eS).map ag),.own ((pU (kW 0 gs)).map ag),.non]=[Slot.val (.tuple ds),.own ((ws.map eS).map ag),.own ((pU (kW 0 gs)).map ag),.non]:=rfl
    simp only[bp,hh,dG,zI,List.map_nil,Slot.frz]
    simp! [c2,s2,List.set_cons_succ,List.set_cons_zero]
   simp! [bq,fF,el,i0,i1,i2,mQ f0 f1 f2' hb,e2,Bool.not_true,Bool.false_eq_true,st1,st2,st3,A7,xH,cY,Bool.true_and]
   by_cases hq:List.map eS ws=pU (kW 0 gs)<;>simp[hq]
theorem xA(xs:List D):PyData.eqvAll xs []=xs.isEmpty:=by cases xs<;>simp[PyData.eqvAll]
theorem wY:SeqAt.shaped (.list [])=true:=by simp[SeqAt.shaped,PyData.canLay0,PyData.canLayAll0,PyData.depth,PyData.depthAll]
theorem CC{b k:Nat}{xs:List D}(h:∀x∈xs,iu b k x)(hk:k<=60):cN (.list xs) (.list [])=some (.bool xs.isEmpty):=by
 have hs:SeqAt.shaped (.list xs)=true:=(iu.lst (b:=max b xs.length) (k:=k) (Nat.le_max_right _ _) fun x hx=>(h x hx).mono (Nat.le_max_left _ _) (Nat.le_refl _)).shaped (by omega)
 simp only[cN,HH,hs,wY,and_self,if_true,PyData.eqv,xA,zB]
theorem qZ:small []=some []:=rfl
theorem B9{α:Type}(xs:List α)(k:Nat):cut xs none (some (k:Int))=xs.take k:=by
 simp only[cut,HT.vo,HT.yk,List.drop_zero,Nat.sub_zero]
 rw[List.take_eq_take_iff];omega
theorem vJ{α:Type}(xs:List α)(k:Nat):cut xs (some (k:Int)) none=xs.drop k:=by
 simp only[cut,HT.vo,HT.yk]
 rw[List.take_of_length_le (by rw[List.length_drop];omega)]
 by_cases h:k<=xs.length
 ·rw[Nat.min_eq_left h]
 ·rw[Nat.min_eq_right (by omega),List.drop_of_length_le (Nat.le_refl _),List.drop_of_length_le (by omega)]
noncomputable def Nq(P:List (List Int))(i j:Int)(lp lq:List Int):Bool:=decide ([i,j]∈P) == decide (j∈lp)&&decide ([i,j]∈P) == decide (i∈lq)
noncomputable def MZ(P:List (List Int))(i:Int)(lp:List Int):Nat->List D->Bool|_,[]=>true|k,q::qs=>Nq P i k lp (hU q)&&MZ P i lp (k+1) qs
noncomputable def L0(P:List (List Int))(ts:List D):Nat->List D->Bool|_,[]=>true|k,p::ps=>MZ P k (hU p) 0 ts&&L0 P ts (k+1) ps
theorem nS:∀ {ps:List D}{k:Nat}{i j:Int},[i,j]∈kW k ps↔∃m p,ps[m]?=some p/\i=((k+m:Nat):Int)/\j∈hU p
 | [],k,i,j=>by simp[kW]
 | p::ps,k,i,j=>by
  rw[kW,List.mem_append,nS (ps:=ps)]
  constructor
  ·rintro (h|⟨m,q,h1,h2,h3⟩)
   ·obtain⟨y,hy,e⟩:=zQ.mp h
    injection e with e1 e2
    injection e2 with e2 _
    exact⟨0,p,rfl,by simpa using e1.symm,e2 ▸ hy⟩
   ·exact⟨m+1,q,by simpa using h1,by rw[h2];congr 1;omega,h3⟩
  ·rintro⟨m,q,h1,h2,h3⟩
   cases m with
   | zero =>
    simp at h1
    subst h1
    exact .inl (zQ.mpr ⟨j,h3,by rw[h2];rfl⟩)
   | succ m=>exact .inr ⟨m,q,by simpa using h1,by rw[h2];congr 1;omega,h3⟩
theorem rP:∀ {ps:List D}{k:Nat},(∀p∈ps,(hU p).Nodup)->(kW k ps).Nodup
 | [],k,_=>List.nodup_nil
 | p::ps,k,h=>by
  rw[kW,List.nodup_append]
  refine⟨List.pairwise_map.mpr ((h p zE).imp fun hne e=>hne ?_),rP fun q hq=>h q (zC _ hq),?_⟩
  rotate_left
  ·injection e with _ e2
   injection e2
  ·rintro a ha b hb rfl
   obtain⟨y,hy,rfl⟩:=zQ.mp ha
   obtain⟨m,q,h1,h2,h3⟩:=nS.mp hb
   omega
theorem Lk{a b:List Int}(h:Dl.lexLt a b=true):lexLe a b=true:=by
 unfold lexLe
 cases e:Dl.lexLt b a with
 | false=>rfl
 | true=>have:=dW h e;rw[fy] at this;cases this
theorem g0{i j:Int}(h:tH i j):Dl.lC (.int i) (.int j)=some (.int (i * j)):=by
 simp only[Dl.lC,uo,if_pos h,Option.some_or]
theorem jl{i j:Int}(h:0 < j):Dl.nz (.int i) (.int j)=some (.int (i % j)):=if_pos h
theorem lD{i j:Int}(h:0 < j/\j < 1073741824):Dl.qE (.int i) (.int j)=some (.int (i / j)):=if_pos h
theorem Fc(i j:Int):Dl.JN (.int i) (.int j)=some (.bool (decide (j < i))):=rfl
theorem k5(i j:Int):Dl.vm (.int i) (.int j)=some (.bool (decide (i < j))):=rfl
theorem oP{i j:Int}(h:-(2 ^ 64) < i/\i < 2 ^ 64):tH i j:=.inl h
theorem IG{i j:Int}(h:-(2 ^ 64) < j/\j < 2 ^ 64):tH i j:=.inr h
theorem B6(i:Int):Dl.oH (.int i)=true:=rfl
noncomputable def nE(ns:List Int):D:=.list (ns.map PyData.int)
theorem Kc{ns:List Int}(k:Int)(hl:ns.length<=63):∃c,dA [nE ns,.int k]=some (.int c):=by
 have heq:cN (.list (ns.map PyData.int)) (.list [])=some (.bool ns.isEmpty):=by
  have:=CC (b:=0) (k:=0) (xs:=ns.map PyData.int) (fun x hx=>by obtain⟨i,_,rfl⟩:=zQ.mp hx;exact j7 i) (by decide)
  rw[this];cases ns<;>rfl
 by_cases hn:ns=[]
 ·subst hn
  refine⟨7 * k,?_⟩
  rw[List.map_nil,List.isEmpty_nil] at heq
  simp! [dA,fV,nE,qZ,heq,List.isEmpty_nil,g0 (oP (i:=7) (j:=k) (by decide))]
 ·have hpos:(0:Int) < (ns.length:Int):=by have:=List.length_pos_iff.mpr hn;omega
  have he:ns.isEmpty=false:=by cases ns<;>first|rfl|exact absurd rfl hn
  obtain⟨j,hj⟩:=Int.eq_ofNat_of_zero_le (Int.emod_nonneg k (show (ns.length:Int)≠0 by omega))
  have hlt:=Int.emod_lt_of_pos k hpos
  have hx:uc (ns.map PyData.int) (k % (ns.length:Int))=some (.int (ns.getD j 0)):=by
   rw[hj]
   have:j < (ns.map PyData.int).length:=by rw[zD];omega
   rw[lQ this,zG,zO,zG]
   rw[zK (by omega)]
   rfl
  refine⟨ns.getD j 0+6553 * (k / (ns.length:Int)),?_⟩
  simp! [dA,fV,nE,qZ,heq,he,Bool.false_eq_true,zD,jl hpos,hx,lD (i:=k) (j:=(ns.length:Int)) ⟨hpos,by omega⟩,g0 (oP (i:=6553) (j:=k / (ns.length:Int)) (by decide))]
theorem FW{ns:List Int}(k many:Int)(hl:ns.length<=63)(hm:0 < many):∃r,au [nE ns,.int k,.int many]=some (.int r)/\0<=r/\r < many:=by
 obtain⟨c,hc⟩:=Kc k hl
 have m1:∀i:Int,Dl.nz (.int i) (.int 2147483563)=some (.int (i % 2147483563)):=fun i=>jl (by decide)
 have m2:∀i:Int,Dl.nz (.int i) (.int 2147483399)=some (.int (i % 2147483399)):=fun i=>jl (by decide)
 have m3:∀i:Int,Dl.nz (.int i) (.int 2147483647)=some (.int (i % 2147483647)):=fun i=>jl (by decide)
 have d1:∀i:Int,Dl.qE (.int i) (.int 3)=some (.int (i / 3)):=fun i=>lD (by decide)
 have d2:∀i:Int,Dl.qE (.int i) (.int 7)=some (.int (i / 7)):=fun i=>lD (by decide)
 have d3:∀i:Int,Dl.qE (.int i) (.int 11)=some (.int (i / 11)):=fun i=>lD (by decide)
 have u1:∀i:Int,Dl.lC (.int i) (.int 69069)=some (.int (i * 69069)):=fun i=>g0 (IG (by decide))
 have u2:∀i:Int,Dl.lC (.int 104723) (.int i)=some (.int (104723 * i)):=fun i=>g0 (oP (by decide))
 have b1:∀x:Int,Dl.lC (.int (x % 2147483563)) (.int (x % 2147483563))=some (.int (x % 2147483563 * (x % 2147483563))):=fun x=>g0 (oP (by
  have:=Int.emod_nonneg x (show (2147483563:Int)≠0 by decide)
  have:=Int.emod_lt_of_pos x (show (0:Int) < 2147483563 by decide)
  omega))
 have b2:∀x:Int,Dl.lC (.int (x % 2147483399)) (.int (x % 2147483399))=some (.int (x % 2147483399 * (x % 2147483399))):=fun x=>g0 (oP (by
  have:=Int.emod_nonneg x (show (2147483399:Int)≠0 by decide)
  have:=Int.emod_lt_of_pos x (show (0:Int) < 2147483399 by decide)
  omega))
 suffices h:∃x,au [nE ns,.int k,.int many]=some (.int (x % many)) by
  obtain⟨x,hx⟩:=h
  exact⟨_,hx,Int.emod_nonneg x (show many≠0 by omega),Int.emod_lt_of_pos x hm⟩
 ·refine⟨(((((c % 2147483563 * 69069+104723 * (k+1)) % 2147483563) * ((c % 2147483563 * 69069+104723 * (k+1)) % 2147483563)+((c % 2147483563 * 69069+104723 * (k+1)) % 2147483563) / 3) % 2147483399) * ((((c % 2147483563 * 69069+104723 * (k+1)) % 2147483563) * ((c % 2147483563 * 69069+104723 * (k+1)) % 2147483563)+((c % 2147483563 * 69069+104723 * (k+1)) % 2147483563) / 3) % 2147483399)+((((c % 2147483563 * 69069+104723 * (k+1)) % 2147483563) * ((c % 2147483563 * 69069+104723 * (k+1)) % 2147483563)+((c % 2147483563 * 69069+104723 * (k+1)) % 2147483563) / 3) % 2147483399) / 7) % 2147483647 / 11,?_⟩
  simp! [au,iD,hc,m1,u1,u2,Dl.aJ,B6,List.set_cons_succ,List.set_cons_zero,b1,d1,m2,b2,d2,m3,d3,jl (j:=many) hm]
noncomputable def dr(ns:List Int)(k many:Int):Int:=jW ((au [nE ns,.int k,.int many]).getD .none)
theorem iO{ns:List Int}(k many:Int)(hl:ns.length<=63)(hm:0 < many):au [nE ns,.int k,.int many]=some (.int (dr ns k many))/\0<=dr ns k many/\dr ns k many < many:=by
 obtain⟨r,h1,h2⟩:=FW k many hl hm
 have:dr ns k many=r:=by simp only[dr,h1,Option.getD_some,jW]
 rw[this];exact⟨h1,h2⟩
theorem Hq{ns:List Int}(k many:Int)(hl:ns.length<=63)(hm:0 < many):au [nE ns,.int k,.int many]=some (.int (dr ns k many)):=(iO k many hl hm).1
theorem Lv{ns:List Int}(k many:Int)(hl:ns.length<=63)(hm:0 < many):0<=dr ns k many:=(iO k many hl hm).2.1
theorem LA{ns:List Int}(k many:Int)(hl:ns.length<=63)(hm:0 < many):dr ns k many < many:=(iO k many hl hm).2.2
noncomputable def insI(ds:List Int)(k:Int)(d:Int):List Int:=let j:=if k < 0 then (k+(ds.length:Int)).toNat else min k.toNat ds.length;ds.take j++d::ds.drop j
theorem Bg(ds:List Int)(k d:Int):vd (ds.map PyData.int) k (.int d)=(insI ds k d).map PyData.int:=by
 simp only[vd,insI,zD,List.map_append,zI,List.map_take,List.map_drop]
theorem insI_perm(ds:List Int)(k d:Int):(insI ds k d).Perm (d::ds):=by
 simp only[insI]
 refine List.perm_middle.trans ?_
 rw[List.take_append_drop]
noncomputable abbrev Pl:=Int×List Int
noncomputable abbrev Wy:=Int×Int×Int
noncomputable def aQ(p:Pl):D:=.tuple [.int p.1,ag p.2]
noncomputable def aA(w:Wy):D:=.tuple [.int w.1,.int w.2.1,.int w.2.2]
noncomputable def ax(G T:List Pl)(W:List Wy):D:=.tuple [.tuple (G.map aQ),.tuple (T.map aQ),.tuple (W.map aA)]
noncomputable def FG(W:List Wy)(i:Int):List Int:=(W.filter fun w=>decide (w.1=i)).map fun w=>w.2.1
noncomputable def ofT(W:List Wy)(j:Int):List Int:=(W.filter fun w=>decide (w.2.1=j)).map fun w=>w.1
abbrev um(W:List Wy):Prop:=W.Pairwise fun a b=>a.1 < b.1\/(a.1=b.1/\a.2.1 < b.2.1)
structure Wd(G T:List Pl)(W:List Wy):Prop where
 g1:1<=G.length
 g4:G.length<=4
 t1:1<=T.length
 t4:T.length<=4
 ga:∀p∈G,0<=p.1/\p.1<=9
 ta:∀p∈T,0<=p.1/\p.1<=9
 gl:∀ (i:Nat) (p:Pl),G[i]?=some p->p.2.Perm (FG W i)
 tl:∀ (j:Nat) (p:Pl),T[j]?=some p->p.2.Perm (ofT W j)
 wr:∀w∈W,(0<=w.1/\w.1 < G.length)/\(0<=w.2.1/\w.2.1 < T.length)/\1<=w.2.2/\w.2.2<=9
 wp:um W
 wl:W.length<=16
theorem sQ{W:List Wy}{i j:Int}:j∈FG W i↔[i,j]∈W.map fun w=>[w.1,w.2.1]:=by
 simp only[FG,zQ,List.mem_filter,zJ,List.cons.injEq,and_true]
 constructor
 ·rintro⟨w,⟨h1,h2⟩,h3⟩;exact⟨w,h1,h2,h3⟩
 ·rintro⟨w,h1,h2,h3⟩;exact⟨w,⟨h1,h2⟩,h3⟩
theorem sP{W:List Wy}{i j:Int}:i∈ofT W j↔[i,j]∈W.map fun w=>[w.1,w.2.1]:=by
 simp only[ofT,zQ,List.mem_filter,zJ,List.cons.injEq,and_true]
 constructor
 ·rintro⟨w,⟨h1,h2⟩,h3⟩;exact⟨w,h1,h3,h2⟩
 ·rintro⟨w,h1,h2,h3⟩;exact⟨w,⟨h1,h3⟩,h2⟩
theorem ma{W:List Wy}(h:um W)(i:Int):(FG W i).Nodup:=by
 unfold FG List.Nodup
 rw[List.pairwise_map,List.pairwise_filter]
 refine h.imp fun hab ha hb=>?_
 rw[zJ] at ha hb
 omega
theorem mM{W:List Wy}(h:um W)(i:Int):(ofT W i).Nodup:=by
 unfold ofT List.Nodup
 rw[List.pairwise_map,List.pairwise_filter]
 refine h.imp fun hab ha hb=>?_
 rw[zJ] at ha hb
 omega
theorem fu(p:Pl):hU (aQ p)=p.2:=by
 show ((p.2.map PyData.int).map jW)=p.2
 rw[zM]
 exact List.map_id _
theorem mR{n:Int}{p:Pl}(ha:0<=p.1/\p.1<=9)(hn:p.2.Nodup)(hr:∀j∈p.2,0<=j/\j < n):placeOk n (aQ p)=true:=by
 have e:(p.2.map PyData.int).map jW=p.2:=fu p
 have e2:(p.2.map PyData.int).all (whole 0 (n - 1))=true:=by
  rw[List.all_eq_true]
  intro x hx
  obtain⟨j,hj,rfl⟩:=zQ.mp hx
  have:=hr j hj
  simp only[whole,zF,zJ]
  omega
 simp only[placeOk,aQ,ag,zL,List.length_nil,List.getD_cons_zero,List.getD_cons_succ,iM,whole,e,e2,ha.1,ha.2,hn,decide_true,Bool.and_self]
theorem Bv{g t:Int}{w:Wy}(h:(0<=w.1/\w.1 < g)/\(0<=w.2.1/\w.2.1 < t)/\1<=w.2.2/\w.2.2<=9):i4 g t (aA w)=true:=by
 obtain⟨⟨a,b⟩,⟨c,d⟩,e,f⟩:=h
 have b':w.1<=g - 1:=by omega
 have d':w.2.1<=t - 1:=by omega
 simp only[i4,aA,zL,List.length_nil,List.getD_cons_zero,List.getD_cons_succ,whole,a,b',c,d',e,f,decide_true,Bool.and_self]
theorem L5{a b c d:Int}(h:a < c\/(a=c/\b < d)):Dl.lexLt [a,b] [c,d]=true:=by
 show HT.lexLt [a,b] [c,d]=true
 rw[HT.du]
 by_cases e:a=c
 ·rw[if_pos e,HT.du,if_neg (by omega)]
  simp only[zJ];omega
 ·rw[if_neg e];simp only[zJ];omega
theorem Wd.glike{G T:List Pl}{W:List Wy}(h:Wd G T W){p:Pl}(hp:p∈G):∃i:Nat,i < G.length/\p.2.Perm (FG W i):=by
 obtain⟨i,hi,e⟩:=List.getElem_of_mem hp
 exact⟨i,hi,h.gl i p (by rw[zK hi,e])⟩
theorem Wd.tlike{G T:List Pl}{W:List Wy}(h:Wd G T W){p:Pl}(hp:p∈T):∃i:Nat,i < T.length/\p.2.Perm (ofT W i):=by
 obtain⟨i,hi,e⟩:=List.getElem_of_mem hp
 exact⟨i,hi,h.tl i p (by rw[zK hi,e])⟩
theorem Wd.gok{G T:List Pl}{W:List Wy}(h:Wd G T W):(G.map aQ).all (placeOk T.length)=true:=by
 rw[List.all_eq_true]
 intro x hx
 obtain⟨p,hp,rfl⟩:=zQ.mp hx
 obtain⟨i,hi,q⟩:=h.glike hp
 refine mR (h.ga p hp) (q.nodup_iff.mpr (ma h.wp _)) fun j hj=>?_
 obtain⟨w,hw,e⟩:=zQ.mp (sQ.mp (q.mem_iff.mp hj))
 injection e with e1 e2
 injection e2 with e2 _
 have:=(h.wr w hw).2.1
 rw[e2] at this;exact this
theorem Wd.tok{G T:List Pl}{W:List Wy}(h:Wd G T W):(T.map aQ).all (placeOk G.length)=true:=by
 rw[List.all_eq_true]
 intro x hx
 obtain⟨p,hp,rfl⟩:=zQ.mp hx
 obtain⟨i,hi,q⟩:=h.tlike hp
 refine mR (h.ta p hp) (q.nodup_iff.mpr (mM h.wp _)) fun j hj=>?_
 obtain⟨w,hw,e⟩:=zQ.mp (sP.mp (q.mem_iff.mp hj))
 injection e with e1 e2
 have:=(h.wr w hw).1
 rw[e1] at this;exact this
theorem oy{W:List Wy}{p:Wy->Bool}(h:W.length<=16):(W.filter p).length<=16:=yE (List.length_filter_le _ _) h
theorem y4{p:Pl}(h:p.2.length<=16):iu 16 2 (aQ p):=.tup (by simp only[zL,List.length_nil];omega) fun x hx=>by
 rcases zR.mp hx with rfl|hx
 ·exact j7 _
 ·rw[yK] at hx
  subst hx
  exact zd h
theorem Fx(w:Wy):iu 16 1 (aA w):=.tup (by simp only[zL,List.length_nil];omega) fun x hx=>by
 simp only[zR,yG,or_false] at hx
 rcases hx with rfl|rfl|rfl<;>exact j7 _
theorem Wd.fit{G T:List Pl}{W:List Wy}(h:Wd G T W):iu 16 4 (ax G T W):=by
 refine .tup (by simp only[zL,List.length_nil];omega) fun x hx=>?_
 simp only[zR,yG,or_false] at hx
 have h4:=h.g4
 have h5:=h.t4
 have h6:=h.wl
 rcases hx with rfl|rfl|rfl
 ·refine .tup (by rw[zD];omega) fun x hx=>?_
  obtain⟨p,hp,rfl⟩:=zQ.mp hx
  obtain⟨i,hi,q⟩:=h.glike hp
  exact y4 (by rw[q.length_eq,FG,zD];exact oy h.wl)
 ·refine .tup (by rw[zD];omega) fun x hx=>?_
  obtain⟨p,hp,rfl⟩:=zQ.mp hx
  obtain⟨i,hi,q⟩:=h.tlike hp
  exact y4 (by rw[q.length_eq,ofT,zD];exact oy h.wl)
 ·refine .tup (by rw[zD];omega) fun x hx=>?_
  obtain⟨p,hp,rfl⟩:=zQ.mp hx
  exact (Fx p).mono (Nat.le_refl _) (by decide)
theorem fv{i:Nat}{fz:List Nat}{f:Dl.Env->Option D}{ρ ρ':ai}{d:D}(hf:f (bz ρ)=some d)(hs:Dl.oH d=false)(hh:hand fz 0 ρ=ρ')(hv:dG ρ'=bz ρ)(hr:bK d=false\/ρ'=ρ:=by first|exact .inr rfl|exact .inl rfl):Dl.aJ i fz f ρ=some (.nx (ρ'.set i (.val d))):=by
 rcases hr with hr|hr
 ·simp only[Dl.aJ,hf,zA,hs,Bool.false_eq_true,if_false,hh,hv,zB,hr]
 ·subst hr
  simp only[Dl.aJ,hf,zA,hs,Bool.false_eq_true,if_false,hh,hv,zB,ite_self]
theorem jO{i:Nat}{fz:List Nat}{f:Dl.Env->Option D}{ρ:ai}{d:D}(hf:f (bz ρ)=some d)(hs:Dl.oH d=true):Dl.aJ i fz f ρ=some (.nx (ρ.set i (.val d))):=by
 simp only[Dl.aJ,hf,zA,hs,if_true]
theorem Lf{a b s:Int}(hs:s=1\/s=2\/s=3)(h:a < b):a / s < b / s\/(a / s=b / s/\a % s < b % s):=by rcases hs with rfl|rfl|rfl<;>omega
noncomputable abbrev st(ns:List Int)(a mo m s:Int)(x4 x7 x8 x9 x10 x11:Slot):ai:=[.val (nE ns),.val (.int a),.val (.int mo),.non,x4,.val (.int m),.val (.int s),x7,x8,x9,x10,x11]
noncomputable def MM(ns:List Int)(a mo s k:Int)(W:List Wy):List Wy:=if (W.length:Int) < mo/\0 < dr ns (a+2+k) 4 then W++[(k / s,k % s,1+dr ns (a+12+k) 2)] else W
structure IB(mo s k:Int)(W:List Wy):Prop where
 mem:∀w∈W,∃j:Int,0<=j/\j < k/\w.1=j / s/\w.2.1=j % s/\1<=w.2.2/\w.2.2<=2
 ris:um W
 len:(W.length:Int)<=k
 lem:(W.length:Int)<=mo
theorem IB.next{ns:List Int}{a mo s k:Int}{W:List Wy}(hl:ns.length<=63)(hs:s=1\/s=2\/s=3)(hk:0<=k)(h:IB mo s k W):IB mo s (k+1) (MM ns a mo s k W):=by
 have old:∀w∈W,∃j:Int,0<=j/\j < k+1/\w.1=j / s/\w.2.1=j % s/\1<=w.2.2/\w.2.2<=2:=fun w hw=>by
  obtain⟨j,a,b,c⟩:=h.mem w hw
  exact⟨j,a,by omega,c⟩
 by_cases c:(W.length:Int) < mo/\0 < dr ns (a+2+k) 4
 ·rw[show MM ns a mo s k W=W++[(k / s,k % s,1+dr ns (a+12+k) 2)] from if_pos c]
  have g1:=Lv (ns:=ns) (a+12+k) 2 hl (by decide)
  have g2:=LA (ns:=ns) (a+12+k) 2 hl (by decide)
  refine⟨fun w hw=>?_,?_,?_,?_⟩
  ·rcases List.mem_append.mp hw with hw|hw
   ·exact old w hw
   ·rw[yK] at hw
    subst hw
    exact⟨k,hk,by omega,rfl,rfl,by simp only;omega,by simp only;omega⟩
  ·refine List.pairwise_append.mpr ⟨h.ris,List.pairwise_singleton _ _,fun a ha b hb=>?_⟩
   rw[yK] at hb
   subst hb
   obtain⟨j,_,b,c1,c2,_⟩:=h.mem a ha
   rw[c1,c2]
   exact Lf hs b
  ·have:=h.len;rw[zN,List.length_singleton];omega
  ·have:=c.1;rw[zN,List.length_singleton];omega
 ·rw[show MM ns a mo s k W=W from if_neg c]
  exact⟨old,h.ris,by have:=h.len;omega,h.lem⟩
theorem yy{m:Nat}(hm:m<=1000):wa ((m:Nat):Int)=true:=by
 unfold wa
 rw[zF,zJ,zJ]
 have h1:(0:Int)<=(m:Int):=Int.natCast_nonneg m
 have h2:(m:Int)<=1000:=by omega
 exact⟨Int.le_trans (by decide) h1,Int.lt_of_le_of_lt h2 (by decide)⟩
theorem B5{j:Int}(h:wa j=true):lX [.int j]=some ((List.range j.toNat).map fun i=>PyData.int ((i:Nat):Int)):=by
 rw[lX,if_pos h]
theorem jV:∀ (ds:List D) (k:Nat),(cM k ds).length=ds.length
 | [],k=>rfl
 | d::ds,k=>by rw[cM,zL,zL,jV ds]
theorem aj{g1 g2:ai->Option Out}{ρ ρ':ai}(h:g1 ρ=some (.nx ρ')):aw g1 g2 ρ=g2 ρ':=by
 simp only[aw,h,zA]
theorem aH{g:ai->Option Out}{n:Nat}{args:List D}{d:D}(h:g (args.map Slot.val++List.replicate (n - args.length) .non)=some (.rt d)):bo g n args=some d:=by
 simp only[bo,h,zB]
theorem jr{g:D->D->Option D}{fa fb:Dl.Env->Option D}{ρ:Dl.Env}{a b:D}(ha:fa ρ=some a)(hb:fb ρ=some b):f2 g fa fb ρ=g a b:=by
 simp only[f2,ha,hb,zA]
structure NB(mo:Int)(G T:List Pl)(W:List Wy):Prop where
 g3:G.length<=3
 t3:T.length<=3
 w2:∀w∈W,w.2.2<=2
 ga:∀p∈G,p.1<=3
 ta:∀p∈T,p.1<=3
 wm:(W.length:Int)<=mo
section
variable {G T:List Pl}{W:List Wy}
theorem Hr(h:um W):(W.map fun w=>[w.1,w.2.1]).Pairwise fun a b=>Dl.lexLt a b=true:=List.pairwise_map.mpr (h.imp fun hab=>L5 hab)
theorem BL(h:um W):(W.map fun w=>[w.1,w.2.1]).Nodup:=(Hr h).imp fun {a b} hab e=>by
 rw[e,fy] at hab
 cases hab
theorem Cy(h:um W){m:List (List Int)}(hn:m.Nodup)(hm:∀r,r∈W.map (fun w=>[w.1,w.2.1])↔r∈m):W.map (fun w=>[w.1,w.2.1])=pU m :=
 Eo ((List.perm_ext_iff_of_nodup (BL h) hn).mpr hm) ((Hr h).imp fun hab=>Lk hab)
theorem Wd.wok(h:Wd G T W):LP (ax G T W)=true:=by
 have hP:(W.map aA).map eS=W.map fun w=>[w.1,w.2.1]:=by rw[zM];rfl
 have hpg:∀i j:Int,[i,j]∈W.map (fun w=>[w.1,w.2.1])↔[i,j]∈kW 0 (G.map aQ):=fun i j=>by
  rw[nS]
  constructor
  ·intro hm
   obtain⟨w,hw,e⟩:=zQ.mp hm
   simp only[List.cons.injEq,and_true] at e
   have hr:=(h.wr w hw).1
   obtain⟨p,hp⟩:∃p,G[i.toNat]?=some p:=⟨G[i.toNat]'(by omega),zK (by omega)⟩
   refine⟨i.toNat,aQ p,by rw[zO,hp];rfl,by omega,?_⟩
   rw[fu,(h.gl _ p hp).mem_iff,sQ,show ((i.toNat:Nat):Int)=i by omega]
   exact hm
  ·rintro⟨m,p,hp,rfl,hj⟩
   rw[zO] at hp
   obtain⟨p',hp',rfl⟩:=Option.map_eq_some_iff.mp hp
   rw[fu,(h.gl m p' hp').mem_iff,sQ] at hj
   rwa [Nat.zero_add]
 have hpt:∀i j:Int,[i,j]∈W.map (fun w=>[w.1,w.2.1])↔[j,i]∈kW 0 (T.map aQ):=fun i j=>by
  rw[nS]
  constructor
  ·intro hm
   obtain⟨w,hw,e⟩:=zQ.mp hm
   simp only[List.cons.injEq,and_true] at e
   have hr:=(h.wr w hw).2.1
   obtain⟨p,hp⟩:∃p,T[j.toNat]?=some p:=⟨T[j.toNat]'(by omega),zK (by omega)⟩
   refine⟨j.toNat,aQ p,by rw[zO,hp];rfl,by omega,?_⟩
   rw[fu,(h.tl _ p hp).mem_iff,sP,show ((j.toNat:Nat):Int)=j by omega]
   exact hm
  ·rintro⟨m,p,hp,rfl,hj⟩
   rw[zO] at hp
   obtain⟨p',hp',rfl⟩:=Option.map_eq_some_iff.mp hp
   rw[fu,(h.tl m p' hp').mem_iff,sP] at hj
   rwa [Nat.zero_add]
 have two:∀ {r:List Int},r∈W.map (fun w=>[w.1,w.2.1])->∃i j,r=[i,j]:=fun hr=>by
  obtain⟨w,_,rfl⟩:=zQ.mp hr
  exact⟨_,_,rfl⟩
 have ng:∀ (L:List Pl),(∀p∈L,p.2.Nodup)->(kW 0 (L.map aQ)).Nodup:=fun L hL=>rP fun p hp=>by
  obtain⟨p',hp',rfl⟩:=zQ.mp hp
  rw[fu]
  exact hL p' hp'
 have e1:W.map (fun w=>[w.1,w.2.1])=pU (kW 0 (G.map aQ)):=Cy h.wp (ng G fun p hp=>by
   obtain⟨i,hi,e⟩:=List.getElem_of_mem hp
   exact (h.gl i p (by rw[zK hi,e])).nodup_iff.mpr (ma h.wp i)) fun r=>⟨fun hr=>by
   obtain⟨i,j,rfl⟩:=two hr
   exact (hpg i j).mp hr,fun hr=>by
   obtain⟨i,j,rfl⟩:=jQ r hr
   exact (hpg i j).mpr hr⟩
 have e2:W.map (fun w=>[w.1,w.2.1])=pU ((kW 0 (T.map aQ)).map List.reverse):=Cy h.wp (by
   exact List.pairwise_map.mpr (List.Pairwise.imp (fun {a b} hne e=>hne (List.reverse_inj.mp e)) (ng T fun p hp=>by
    obtain⟨i,hi,e⟩:=List.getElem_of_mem hp
    exact (h.tl i p (by rw[zK hi,e])).nodup_iff.mpr (mM h.wp i)))) fun r=>⟨fun hr=>by
   obtain⟨i,j,rfl⟩:=two hr
   exact zQ.mpr ⟨[j,i],(hpt i j).mp hr,rfl⟩,fun hr=>by
   obtain⟨r',hr',rfl⟩:=zQ.mp hr
   obtain⟨i,j,rfl⟩:=jQ r' hr'
   exact (hpt j i).mpr hr'⟩
 have hw:(W.map aA).all (i4 G.length T.length)=true:=by
  rw[List.all_eq_true]
  intro x hx
  obtain⟨w,hw,rfl⟩:=zQ.mp hx
  exact Bv (h.wr w hw)
 have hs:∀ {L:List Pl},1<=L.length->L.length<=4->mi (.tuple (L.map aQ))=true:=fun {L} a b=>by
  simp only[mi,long,zD,zF,zJ];omega
 have h3:long 3 3 (ax G T W)=true:=rfl
 have hg:=h.gok
 have ht:=h.tok
 unfold LP xH
 rw[h3,Bool.true_and]
 simp only[ax,cY,List.getD_cons_zero,List.getD_cons_succ,hP,<- e1,<- e2,decide_true,Bool.and_true,iQ,hs h.g1 h.g4,hs h.t1 h.t4,zD,hg,ht,hw,Ho]
end
noncomputable def sI(b:Bool):Int:=if b then 1 else 0
noncomputable def bh(b:Bool)(w:Wy):Int:=if b then w.2.1 else w.1
noncomputable def bQ(b:Bool)(w:Wy):Int:=bh (!b) w
noncomputable def aM(b:Bool)(G T:List Pl):List Pl:=if b then T else G
theorem jZ(b:Bool)(G T:List Pl)(W:List Wy):ao (ax G T W) (.int (sI b))=some (.tuple ((aM b G T).map aQ)):=by cases b<;>rfl
theorem yU(G T:List Pl)(W:List Wy):ao (ax G T W) (.int 2)=some (.tuple (W.map aA)):=rfl
theorem sX(b:Bool)(w:Wy):ao (aA w) (.int (sI b))=some (.int (bh b w)):=by cases b<;>rfl
theorem ET(b:Bool)(w:Wy):ao (aA w) (.int (1 - sI b))=some (.int (bQ b w)):=by cases b<;>rfl
theorem GZ(w:Wy):ao (aA w) (.int 2)=some (.int w.2.2):=rfl
theorem Fb(p:Pl):ao (aQ p) (.int 0)=some (.int p.1):=rfl
theorem GT(p:Pl):ao (aQ p) (.int 1)=some (ag p.2):=rfl
theorem o5{ds:List D}{i:Nat}{d:D}(h:ds[i]?=some d):ao (.tuple ds) (.int ((i:Nat):Int))=some d:=by
 show uc ds (i:Nat)=_
 exact tU h
theorem HR{ds:List D}{i:Nat}{d:D}(h:ds[i]?=some d):ao (.list ds) (.int ((i:Nat):Int))=some d:=by
 show uc ds (i:Nat)=_
 exact tU h
theorem kP{α:Type}{f:α->D}{l:List α}{i:Nat}{x:α}(h:l[i]?=some x):ao (.tuple (l.map f)) (.int ((i:Nat):Int))=some (f x):=o5 (by rw[zO,h];rfl)
theorem Gw{α:Type}{f:α->D}{l:List α}{i:Nat}{x:α}(h:l[i]?=some x):ao (.list (l.map f)) (.int ((i:Nat):Int))=some (f x):=HR (by rw[zO,h];rfl)
noncomputable def Kw(b:Bool)(W:List Wy)(p:Int):List Int:=(W.filter fun w=>decide (bh b w=p)).map (bQ b)
theorem Wd.lik{G T:List Pl}{W:List Wy}(h:Wd G T W){b:Bool}{i:Nat}{p:Pl}(e:(aM b G T)[i]?=some p):p.2.Perm (Kw b W i):=by
 cases b
 ·exact h.gl i p e
 ·exact h.tl i p e
theorem Wd.nod{G T:List Pl}{W:List Wy}(h:Wd G T W)(b:Bool)(i:Int):(Kw b W i).Nodup:=by
 cases b
 ·exact ma h.wp i
 ·exact mM h.wp i
theorem pK{tt:Dl.Env->Option Bool}{te:Dl.Env->Option D}{r:List (Option D)}{p:Nat->D->Bool}{h:Nat->D->D}:∀ {ds:List D}{k:Nat},
  (∀i d,ds[i]?=some d->tt (some (.int ((k+i:Nat):Int))::some d::r)=some (p (k+i) d)/\(p (k+i) d=true->te (some (.int ((k+i:Nat):Int))::some d::r)=some (h (k+i) d))) ->
  dv (jo 0 1) tt te (none::none::r) (cM k ds)=some (((ds.zipIdx k).filter fun q=>p q.2 q.1).map fun q=>h q.2 q.1)
 | [],k,_=>rfl
 | d::ds,k,hh=>by
  obtain⟨h1,h2⟩:=hh 0 d rfl
  have ih:=pK (ds:=ds) (k:=k+1) fun i x hx=>by
   have:=hh (i+1) x (by simpa using hx)
   rw[show k+1+i=k+(i+1) by omega]
   exact this
  have hg:jo 0 1 (none::none::r) (.tuple [.int ((k:Nat):Int),d])=some (some (.int ((k:Nat):Int))::some d::r):=by
   simp only[jo,isFree,List.getElem?_cons_zero,List.getElem?_cons_succ,Option.getD_some,Option.isNone_none,and_self,if_true,List.set_cons_zero,List.set_cons_succ]
  rw[cM,dv,hg,List.zipIdx_cons]
  simp only[Nat.add_zero] at h1 h2
  simp only[zA,h1]
  cases hp:p k d with
  | true=>simp[h2 hp,ih,hp]
  | false=>simp[ih,hp]
theorem AY{cs:List Nat}{fi:Dl.Env->Option (List D)}{tt:Dl.Env->Option Bool}{te:Dl.Env->Option D}{ρ:Dl.Env}{ds:List D}{p:Nat->D->Bool}{h:Nat->D->D}(hfi:fi ρ=some (cM 0 ds))(hl:ds.length<=1000)
  (hh:∀i d,ds[i]?=some d->tt (some (.int ((i:Nat):Int))::some d::cs.map fun j=>(ρ[j]?).getD none)=some (p i d)/\(p i d=true->te (some (.int ((i:Nat):Int))::some d::cs.map fun j=>(ρ[j]?).getD none)=some (h i d))) :
  aq 2 cs fi (jo 0 1) tt te ρ=some ((ds.zipIdx.filter fun q=>p q.2 q.1).map fun q=>h q.2 q.1):=by
 have:=pK (tt:=tt) (te:=te) (r:=cs.map fun j=>(ρ[j]?).getD none) (p:=p) (h:=h) (ds:=ds) (k:=0) (by simpa using hh)
 simp only[aq,hfi,zA,fM,List.replicate,List.cons_append,List.nil_append,this]
 refine bA ?_
 rw[zD]
 refine yE (List.length_filter_le _ _) ?_
 rw[List.length_zipIdx]
 omega
theorem gy{α:Type}(f:α->Int):∀ {l m:List α},l.Perm m->(l.Pairwise fun a b=>f a<=f b)->(m.Pairwise fun a b=>f a < f b)->l=m
 | l,[],hp,_,_=>hp.eq_nil
 | [],x::m,hp,_,_=>absurd hp.symm.eq_nil (by simp)
 | y::l,x::m,hp,h1,h2=>by
  rw[List.pairwise_cons] at h1 h2
  have e:y=x:=by
   have hx:x∈y::l:=hp.mem_iff.mpr zE
   rcases zR.mp hx with z|hx
   ·exact z.symm
   ·have hy:y∈x::m:=hp.mem_iff.mp zE
    rcases zR.mp hy with z|hy
    ·exact z
    ·have:=h1.1 x hx
     have:=h2.1 y hy
     omega
  subst e
  rw[gy f ((List.perm_cons y).mp hp) h1.2 h2.2]
theorem oU{α:Type}(z:Nat->Int)(l:List α)(d:α)(f:α->Int)(h:∀i,i < l.length->z i=f (l.getD i d)):(nR z l d).Pairwise fun a b=>f a<=f b:=by
 unfold nR
 split
 ·rename_i hl
  match l,hl with
  | [],_=>exact List.Pairwise.nil
  | [a],_=>exact List.pairwise_singleton _ _
 ·rename_i hl
  obtain⟨hp,hs⟩:=SP.gn (z:=z) (n:=l.length) (by omega)
  rw[List.pairwise_map] at hs ⊢
  refine hs.imp_of_mem fun {i j} hi hj hij=>?_
  have hi':i < l.length:=by have:=hp.mem_iff.mp hi;simpa using this
  have hj':j < l.length:=by have:=hp.mem_iff.mp hj;simpa using this
  rw[<- h i hi',<- h j hj']
  exact hij
noncomputable def aD(W:List Wy)(i:Nat):Wy:=W.getD i (0,0,0)
theorem iR{W:List Wy}{k:Nat}(hk:k < W.length):W[k]=aD W k:=by simp[aD,hk]
theorem lT{W:List Wy}{k:Nat}(hk:k < W.length):W[k]?=some (aD W k):=by rw[zK hk,iR hk]
noncomputable def own(b:Bool)(W:List Wy)(p:Int):List Nat:=(List.range W.length).filter fun i=>decide (bh b (aD W i)=p)
noncomputable def mU(b:Bool)(W:List Wy)(p o:Int):Nat:=W.findIdx fun w=>decide (bh b w=p)&&decide (bQ b w=o)
noncomputable def eK(b:Bool)(W:List Wy)(p:Int)(L:List Int):List Nat:=L.map (mU b W p)
theorem cf{b:Bool}{W:List Wy}{p:Int}{i:Nat}:i∈own b W p↔i < W.length/\bh b (aD W i)=p:=by simp[own]
theorem map_range{α β:Type}(d:α)(f:α->β)(l:List α):(List.range l.length).map (fun i=>f (l.getD i d))=l.map f:=by
 apply List.ext_getElem
 ·simp
 ·intro i h1 h2
  have:i < l.length:=by simpa using h2
  simp[this]
theorem tK{α:Type}(d:α)(q:α->Bool):∀ (l:List α),((List.range l.length).filter fun i=>q (l.getD i d)).map (fun i=>l.getD i d)=l.filter q:=by
 intro l
 have e:l=(List.range l.length).map fun i=>l.getD i d:=by
  have:=map_range d (fun x=>x) l
  simp at this
  simpa using this.symm
 conv=>rhs;rw[e]
 rw[List.filter_map]
 rfl
theorem j5(b:Bool)(W:List Wy)(p:Int):(own b W p).map (fun i=>bQ b (aD W i))=Kw b W p:=by
 unfold own Kw aD
 rw[<- tK (0,0,0) (fun w=>decide (bh b w=p)) W,zM]
 rfl
theorem su{W:List Wy}(h:um W){i j:Nat}(hi:i < W.length)(hj:j < W.length)(h1:(aD W i).1=(aD W j).1)(h2:(aD W i).2.1=(aD W j).2.1):i=j:=by
 have e:∀k,k < W.length->W[k]?=some (aD W k):=fun k hk=>by simp[aD,hk]
 rcases Nat.lt_trichotomy i j with z|z|z
 ·have:=List.pairwise_iff_getElem.mp h i j hi hj z
  have a:=e i hi
  have b:=e j hj
  rw[zK hi] at a
  rw[zK hj] at b
  rw[Option.some.inj a,Option.some.inj b] at this
  rcases this with z|z<;>omega
 ·exact z
 ·have:=List.pairwise_iff_getElem.mp h j i hj hi z
  have a:=e i hi
  have b:=e j hj
  rw[zK hi] at a
  rw[zK hj] at b
  rw[Option.some.inj a,Option.some.inj b] at this
  rcases this with z|z<;>omega
theorem vy{W:List Wy}(h:um W){b:Bool}{i j:Nat}(hi:i < W.length)(hj:j < W.length)(h1:bh b (aD W i)=bh b (aD W j))(h2:bQ b (aD W i)=bQ b (aD W j)):i=j:=by
 cases b
 ·exact su h hi hj h1 h2
 ·exact su h hi hj h2 h1
theorem t9{W:List Wy}(h:um W){b:Bool}{p:Int}{i:Nat}(hi:i∈own b W p):mU b W p (bQ b (aD W i))=i:=by
 obtain⟨hl,he⟩:=cf.mp hi
 have hw:W[i]=aD W i:=by simp[aD,hl]
 unfold mU
 have hlt:W.findIdx (fun w=>decide (bh b w=p)&&decide (bQ b w=bQ b (aD W i))) < W.length:=by
  apply List.findIdx_lt_length_of_exists
  exact⟨W[i],List.getElem_mem _,by rw[hw];simp[he]⟩
 have hq:=List.findIdx_getElem (w:=hlt)
 rw[zF,zJ,zJ] at hq
 rw[iR hlt] at hq
 exact vy h hlt hl (by rw[hq.1,he]) hq.2
theorem eC{G T:List Pl}{W:List Wy}(h:Wd G T W){b:Bool}{i:Nat}{p:Pl}(e:(aM b G T)[i]?=some p):(eK b W i p.2).Perm (own b W i):=by
 have h1:=(h.lik e).map (mU b W i)
 rw[<- j5 b W i,zM] at h1
 have e2:(own b W i).map (mU b W i ∘ fun j=>bQ b (aD W j))=own b W i:=by
  conv=>rhs;rw[<- List.map_id (own b W i)]
  exact yI fun j hj=>t9 h.wp hj
 rw[e2] at h1
 exact h1
theorem k8{G T:List Pl}{W:List Wy}(h:Wd G T W){b:Bool}{i:Nat}{p:Pl}(e:(aM b G T)[i]?=some p){o:Int}(ho:o∈p.2):mU b W i o < W.length/\bh b (aD W (mU b W i o))=i/\bQ b (aD W (mU b W i o))=o:=by
 have hm:=(h.lik e).mem_iff.mp ho
 rw[<- j5 b W i] at hm
 obtain⟨j,hj,rfl⟩:=zQ.mp hm
 rw[t9 h.wp hj]
 obtain⟨h1,h2⟩:=cf.mp hj
 exact⟨h1,h2,rfl⟩
noncomputable def kD(b:Bool)(W:List Wy)(L:List Int)(d:D):Int:=(L.findIdx fun o=>decide (o=bQ b (aD W (jW d).toNat)):Nat)
theorem mI:∀ {L:List Int}{x:Int},x∈L->uw x L=some (L.findIdx fun o=>decide (o=x))
 | [],x,h=>by cases h
 | o::L,x,h=>by
  unfold uw
  by_cases e:o=x
  ·simp[e,List.findIdx_cons]
  ·rw[if_neg e]
   have hx:x∈L:=(zR.mp h).resolve_left fun z=>e z.symm
   rw[mI hx]
   simp[List.findIdx_cons,e]
theorem BV{G T:List Pl}{W:List Wy}(h:Wd G T W){b:Bool}{i:Nat}{p:Pl}(e:(aM b G T)[i]?=some p)(z:Nat->Int)(hz:∀j,j < (own b W i).length->z j=kD b W p.2 (((own b W i).map fun n=>PyData.int ((n:Nat):Int)).getD j .none)) :
  nR z ((own b W i).map fun n=>PyData.int ((n:Nat):Int)) .none=(eK b W i p.2).map fun n=>PyData.int ((n:Nat):Int):=by
 refine gy (kD b W p.2) ((fL _ _ _).trans ((eC h e).symm.map _)) (oU z _ _ _ fun j hj=>hz j (by simpa using hj)) ?_
 have hn:p.2.Nodup:=(h.lik e).nodup_iff.mpr (h.nod b i)
 unfold eK
 rw[zM,List.pairwise_map]
 have key:∀k (hk:k < p.2.length),kD b W p.2 (PyData.int ((mU b W i p.2[k]:Nat):Int))=(k:Nat):=fun k hk=>by
  obtain⟨_,_,e3⟩:=k8 h e (List.getElem_mem hk)
  unfold kD
  simp only[jW,yH,e3]
  congr 1
  rw[List.findIdx_eq (by exact hk)]
  refine⟨by simp,fun j hj=>?_⟩
  have:=List.pairwise_iff_getElem.mp hn j k (by omega) hk hj
  simpa using this
 refine List.pairwise_iff_getElem.mpr fun j k hj hk hjk=>?_
 show kD b W p.2 (PyData.int ((mU b W i p.2[j]:Nat):Int)) < kD b W p.2 (PyData.int ((mU b W i p.2[k]:Nat):Int))
 rw[key j hj,key k hk]
 omega
noncomputable abbrev nD(n:Nat):D:=.int ((n:Nat):Int)
theorem ml{te:Dl.Env->Option D}{ρ:Dl.Env}{h:D->D}:∀ {ds:List D},(∀d∈ds,te (ρ.set 0 (some d))=some (h d))->g8 te ρ ds=some (ds.map h)
 | [],_=>rfl
 | d::ds,hh=>by
  unfold g8
  rw[hh d zE,zA,ml fun x hx=>hh x (zC _ hx)]
  rfl
theorem tG(b:Bool)(W:List Wy)(p:Int):(own b W p).length<=W.length:=by
 unfold own
 refine yE (List.length_filter_le _ _) ?_
 rw[zS]
 exact Nat.le_refl _
theorem xB(b:Bool)(W:List Wy)(p:Int):(((W.map aA).zipIdx.filter fun q=>decide (bh b (aD W q.2)=p)).map fun q=>nD q.2)=(own b W p).map nD:=by
 have e:(W.map aA).zipIdx=(List.range W.length).map fun i=>(aA (aD W i),i):=by
  apply List.ext_getElem
  ·simp
  ·intro i h1 h2
   have:i < W.length:=by simpa using h2
   simp[iR this]
 rw[e,List.filter_map,zM]
 rfl
theorem rE{G T:List Pl}{W:List Wy}(h:Wd G T W){b:Bool}{i:Nat}{p:Pl}(e:(aM b G T)[i]?=some p):d7 [ax G T W,.int (sI b),nD i]=some (.list ((eK b W i p.2).map nD)):=by
 have hw:=h.wl
 have ep:ao (.tuple ((aM b G T).map aQ)) (nD i)=some (aQ p):=kP e
 have hl:=tG b W i
 have t3:Dl.aJ 3 [0] (f2 ao (ab 0) (fC (.int 2))) [.val (ax G T W),.val (.int (sI b)),.val (nD i),.non,.non,.non]=some (.nx [.val (ax G T W),.val (.int (sI b)),.val (nD i),.val (.tuple (W.map aA)),.non,.non]) :=
  fv (d:=.tuple (W.map aA)) rfl rfl rfl rfl
 have t4:Dl.aJ 4 [0,1,2] (f2 ao (f2 ao (f2 ao (ab 0) (ab 1)) (ab 2)) (fC (.int 1))) [.val (ax G T W),.val (.int (sI b)),.val (nD i),.val (.tuple (W.map aA)),.non,.non]=some (.nx [.val (ax G T W),.val (.int (sI b)),.val (nD i),.val (.tuple (W.map aA)),.val (ag p.2),.non]):=by
  refine fv (d:=ag p.2) ?_ rfl rfl rfl
  rw[jr (a:=aQ p) (b:=.int 1) ?_ rfl,GT]
  rw[jr (a:=.tuple ((aM b G T).map aQ)) (b:=nD i) ?_ rfl,ep]
  rw[jr (a:=ax G T W) (b:=.int (sI b)) rfl rfl,jZ]
 have c5:aq 2 [1,2] (fP (aa (ab 3) ae)) (jo 0 1) (fB (f2 cN (f2 ao (ab 1) (ab 2)) (ab 3))) (ab 0) [some (ax G T W),some (.int (sI b)),some (nD i),some (.tuple (W.map aA)),some (ag p.2),none]=some ((own b W i).map nD):=by
  rw[AY (ds:=W.map aA) (p:=fun j _=>decide (bh b (aD W j)=i)) (h:=fun j _=>nD j) rfl (by rw[zD];omega) fun j d hd=>?_,xB]
  rw[zO] at hd
  obtain⟨w,hw',rfl⟩:=Dl.af hd
  have hj:j < W.length:=(zU.mp hw').1
  rw[lT hj] at hw'
  cases hw'
  refine⟨?_,fun _=>rfl⟩
  show fB (f2 cN (f2 ao (ab 1) (ab 2)) (ab 3)) [some (nD j),some (aA (aD W j)),some (.int (sI b)),some (nD i)]=_
  simp only[fB]
  rw[jr (a:=.int (bh b (aD W j))) (b:=nD i) (by rw[jr (a:=aA (aD W j)) (b:=.int (sI b)) rfl rfl,sX]) rfl,gZ]
  rfl
 have t5:bp 5 [1,2,3] (aq 2 [1,2] (fP (aa (ab 3) ae)) (jo 0 1) (fB (f2 cN (f2 ao (ab 1) (ab 2)) (ab 3))) (ab 0)) [.val (ax G T W),.val (.int (sI b)),.val (nD i),.val (.tuple (W.map aA)),.val (ag p.2),.non]=some (.nx [.val (ax G T W),.val (.int (sI b)),.val (nD i),.val (.tuple (W.map aA)),.val (ag p.2),.own ((own b W i).map nD)]):=by
  have hh:hand [1,2,3] 0 [Slot.val (ax G T W),.val (.int (sI b)),.val (nD i),.val (.tuple (W.map aA)),.val (ag p.2),.non]=[Slot.val (ax G T W),.val (.int (sI b)),.val (nD i),.val (.tuple (W.map aA)),.val (ag p.2),.non]:=rfl
  simp only[bp,hh,dG,zI,List.map_nil,Slot.frz,c5,zB,List.set_cons_succ,List.set_cons_zero]
 have hk:g8 (f2 ni (ab 3) (f2 ao (f2 ao (ab 2) (ab 0)) (f2 Dl.fU (fC (.int 1)) (ab 1)))) [none,some (.int (sI b)),some (.tuple (W.map aA)),some (ag p.2)] ((own b W i).map nD)=some (((own b W i).map nD).map fun d=>.int (kD b W p.2 d)):=by
  refine ml fun d hd=>?_
  obtain⟨j,hj,rfl⟩:=zQ.mp hd
  obtain⟨hjl,hje⟩:=cf.mp hj
  show f2 ni (ab 3) (f2 ao (f2 ao (ab 2) (ab 0)) (f2 Dl.fU (fC (.int 1)) (ab 1))) [some (nD j),some (.int (sI b)),some (.tuple (W.map aA)),some (ag p.2)]=_
  have ew:ao (.tuple (W.map aA)) (nD j)=some (aA (aD W j)):=kP (lT hjl)
  rw[jr (a:=ag p.2) (b:=.int (bQ b (aD W j))) rfl ?_]
  ·have hm:bQ b (aD W j)∈p.2:=(h.lik e).mem_iff.mpr (by rw[<- j5];exact zQ.mpr ⟨j,hj,rfl⟩)
   simp only[ni,ag,cw,zA,mI hm,zB,kD,jW,yH]
   all_goals first|rfl|(congr 3;funext o;congr)
  ·rw[jr (a:=aA (aD W j)) (b:=.int (1 - sI b)) ?_ ?_,ET]
   ·rw[jr (a:=.tuple (W.map aA)) (b:=nD j) rfl rfl,ew]
   ·rw[jr (a:=.int 1) (b:=.int (sI b)) rfl rfl,lK]
 have hi:intsOf (((own b W i).map nD).map fun d=>PyData.int (kD b W p.2 d))=some (((own b W i).map nD).map (kD b W p.2)):=by
  rw[show (((own b W i).map nD).map fun d=>PyData.int (kD b W p.2 d))=(((own b W i).map nD).map (kD b W p.2)).map PyData.int by simp only[zM];rfl,cw]
 have t6:aG (dh (mD [1,3,4] (ab 5) (f2 ni (ab 3) (f2 ao (f2 ao (ab 2) (ab 0)) (f2 Dl.fU (fC (.int 1)) (ab 1)))))) [.val (ax G T W),.val (.int (sI b)),.val (nD i),.val (.tuple (W.map aA)),.val (ag p.2),.own ((own b W i).map nD)]=some (.rt (.list ((eK b W i p.2).map nD))):=by
  have es:mD [1,3,4] (ab 5) (f2 ni (ab 3) (f2 ao (f2 ao (ab 2) (ab 0)) (f2 Dl.fU (fC (.int 1)) (ab 1)))) [some (ax G T W),some (.int (sI b)),some (nD i),some (.tuple (W.map aA)),some (ag p.2),some (.list ((own b W i).map nD))]=some ((eK b W i p.2).map nD):=by
   unfold mD
   show (g8 _ [none,some (.int (sI b)),some (.tuple (W.map aA)),some (ag p.2)] ((own b W i).map nD)).bind _=_
   rw[hk,zA,hi,zA,if_pos (by rw[zD];omega),BV h e _ fun j hj=>?_]
   simp[hj]
  simp only[aG,bz,zI,List.map_nil,uj,sO,dh,es,zB]
 refine aH ?_
 show jJ [.val (ax G T W),.val (.int (sI b)),.val (nD i),.non,.non,.non]=_
 unfold jJ
 rw[aj t3,aj t4,aj t5,t6]
local macro_rules|`(tactic| dsimp! [$ts,*])=>`(tactic| simp only[ab,fC,f1,f2,aa,ae,ah,bf,mH,bw,i7,dh,fB,gB,bx,zv,iE,fP,bz,dG,uj,sO,yd,y9,y8,yN,zI,List.map_nil,List.getElem?_cons_zero,List.getElem?_cons_succ,zA,zB,Option.getD_some,zL,List.length_nil,Nat.reduceAdd,Nat.zero_add,reduceIte,List.set_cons_succ,List.set_cons_zero,$ts,*])
theorem kY{S α:Type}{tgt:ai->D->Option ai}{gb:ai->Option Out}(R:S->ai->Prop)(f:α->D)(st:S->α->S):∀ {l:List α}{s:S}{ρ:ai},
  (∀s ρ x,x∈l->R s ρ->∃ρ1 ρ2,tgt ρ (f x)=some ρ1/\gb ρ1=some (.nx ρ2)/\R (st s x) ρ2)->R s ρ->∃ρ',jB tgt gb (l.map f) ρ=some (.nx ρ')/\R (l.foldl st s) ρ'
 | [],s,ρ,_,h=>⟨ρ,rfl,h⟩
 | d::ds,s,ρ,hh,h=>by
  obtain⟨ρ1,ρ2,e1,e2,h2⟩:=hh s ρ d zE h
  obtain⟨ρ',e3,h3⟩:=kY R f st (fun s ρ x hx=>hh s ρ x (zC _ hx)) h2
  refine⟨ρ',?_,h3⟩
  rw[zI,jB,e1,zA,e2]
  exact e3
theorem kK{α:Type}{tgt:ai->D->Option ai}{gb:ai->Option Out}(R:ai->Prop)(f:α->D)(q:α->Bool)(out:α->D):∀ {l:List α}{ρ:ai},
  (∀ρ x,x∈l->R ρ->∃ρ1,tgt ρ (f x)=some ρ1/\(q x=true->gb ρ1=some (.rt (out x)))/\(q x=false->∃ρ2,gb ρ1=some (.nx ρ2)/\R ρ2))->R ρ ->
  (∀x,l.find? q=some x->jB tgt gb (l.map f) ρ=some (.rt (out x)))/\(l.find? q=none->∃ρ',jB tgt gb (l.map f) ρ=some (.nx ρ')/\R ρ')
 | [],ρ,_,h=>⟨fun x hx=>(by cases hx),fun _=>⟨ρ,rfl,h⟩⟩
 | x::l,ρ,hh,h=>by
  obtain⟨ρ1,e1,e2,e3⟩:=hh ρ x zE h
  rw[zI,jB,e1,zA]
  cases hq:q x with
  | true =>
   rw[List.find?_cons_of_pos (by simpa using hq),e2 hq]
   exact⟨fun y hy=>(by cases hy;rfl),fun hn=>(by cases hn)⟩
  | false =>
   obtain⟨ρ2,e4,h2⟩:=e3 hq
   rw[List.find?_cons_of_neg (by simp[hq]),e4]
   exact kK R f q out (fun ρ x hx=>hh ρ x (zC _ hx)) h2
theorem gc{fz:List Nat}{fi:Dl.Env->Option (List D)}{tgt:ai->D->Option ai}{gb:ai->Option Out}{ρ ρ1:ai}{ds:List D}{o:Option Out}(h:jB tgt gb ds ρ1=o)(hi:fi (dG ρ1)=some ds)(hh:hand fz 0 ρ=ρ1):nv fz fi tgt gb ρ=o:=by
 simp only[nv,hh,hi,zA,h]
theorem ub{i:Nat}{fz:List Nat}{f:Dl.Env->Option (List D)}{ρ ρ':ai}{ds:List D}(hh:hand fz 0 ρ=ρ')(hf:f (dG ρ')=some ds):bp i fz f ρ=some (.nx (ρ'.set i (.own ds))):=by
 simp only[bp,hh,hf,zB]
theorem iq{i:Nat}{fz:List Nat}{f:Dl.Env->Option (List D)}{ρ:ai}{ds:List D}(hf:f (dG ρ)=some ds)(hh:hand fz 0 ρ=ρ):bp i fz f ρ=some (.nx (ρ.set i (.own ds))):=ub hh hf
theorem pO{i:Nat}{fz:List Nat}{f:Dl.Env->Option D}{ρ ρ':ai}(hh:hand fz 0 ρ=ρ'){d:D}(hA:f (bz ρ)=some d)(hF:f (dG ρ')=some d)(hs:Dl.oH d=false)(hr:bK d=false\/ρ'=ρ:=by first|exact .inr rfl|exact .inl rfl):Dl.aJ i fz f ρ=some (.nx (ρ'.set i (.val d))):=by
 rcases hr with hr|hr
 ·simp only[Dl.aJ,hA,zA,hs,Bool.false_eq_true,if_false,hh,hF,zB,hr]
 ·subst hr
  simp only[Dl.aJ,hA,zA,hs,Bool.false_eq_true,if_false,hh,hF,zB,ite_self]
theorem call_of{n:Nat}{m:List D->Option D}{fs:Dl.Env->Option (List D)}{ρ:Dl.Env}{ds:List D}{d:D}(h:m ds=some d)(hf:fs ρ=some ds)(hn:ds.length=n):ah n m fs ρ=some d:=by
 unfold ah
 rw[hf,zA,if_pos hn,h]
theorem cons_of{f:Dl.Env->Option D}{fs:Dl.Env->Option (List D)}{ρ:Dl.Env}{d:D}{ds:List D}(h:f ρ=some d)(hs:fs ρ=some ds):aa f fs ρ=some (d::ds):=by
 unfold aa
 rw[h,hs]
 rfl
theorem aL{f:Dl.Env->Option D}{ρ:ai}{d:D}(hf:f (bz ρ)=some d):aG f ρ=some (.rt d):=by
 simp only[aG,hf,zB]
theorem cD{f:Dl.Env->Option D}{ρ:ai}{d:D}(hf:f (bz ρ)=some d):gw f ρ=some (.nx ρ):=by
 simp only[gw,hf,zB]
theorem cP{t:Dl.Env->Option Bool}{g:ai->Option Out}{ρ:ai}(h:t (bz ρ)=some false):gC t g hJ ρ=some (.nx ρ):=by
 simp[gC,h,hJ]
theorem gf{t:Dl.Env->Option Bool}{g g2:ai->Option Out}{ρ:ai}(h:t (bz ρ)=some true):gC t g g2 ρ=g ρ:=by
 simp[gC,h]
theorem kA{g1 g2:ai->Option Out}{ρ:ai}{d:D}(h:g1 ρ=some (.rt d)):aw g1 g2 ρ=some (.rt d):=by
 simp only[aw,h,zA]
theorem AU{i:Nat}{fz:List Nat}{fk f:Dl.Env->Option D}{ρ:ai}{d:D}{k:Nat}{ds:List D}(hf:f (bz ρ)=some d)(hs:Dl.oH d=true)(hk:fk (bz ρ)=some (nD k))(ho:ρ[i]?=some (.own ds))(hl:k < ds.length):wG i fz fk f ρ=some (.nx (ρ.set i (.own (ds.set k d)))):=by
 have hx:EO ds.length ((k:Nat):Int)=some k:=by
  unfold EO
  rw[if_pos (Int.natCast_nonneg k),if_pos (by omega)]
  simp
 simp only[wG,mW,hf,zA,hs,if_true,hk,p9,ho,hx,zB]
noncomputable def lp{S:Type}(cont:S->Bool)(st:S->S):Nat->S->S
 | 0,s=>s
 | n+1,s=>if cont s=true then lp cont st n (st s) else s
theorem u0{S:Type}{t:Dl.Env->Option Bool}{gb:ai->Option Out}(R:S->ai->Prop)(cont:S->Bool)(st:S->S)(μ:S->Nat)
  (ht:∀s ρ,R s ρ->t (bz ρ)=some (cont s)) (hb:∀s ρ,R s ρ->cont s=true->∃ρ',gb ρ=some (.nx ρ')/\R (st s) ρ'/\μ (st s) < μ s) :
  ∀ (n:Nat) (s:S) (ρ:ai),μ s < n->R s ρ->∃ρ',GK t gb n ρ=some (.nx ρ')/\R (lp cont st n s) ρ'/\cont (lp cont st n s)=false
 | 0,s,ρ,h,_=>absurd h (by omega)
 | n+1,s,ρ,h,r=>by
  rw[GK,ht s ρ r,zA,lp]
  cases hc:cont s with
  | false=>exact⟨ρ,by simp,by simpa [hc] using r,by simpa [hc] using hc⟩
  | true =>
   obtain⟨ρ',e,r',hm⟩:=hb s ρ r hc
   obtain⟨ρ2,e2,r2,c2⟩:=u0 R cont st μ ht hb n (st s) ρ' (by omega) r'
   refine⟨ρ2,?_,by simpa [hc] using r2,by simpa [hc] using c2⟩
   simp only[if_true,e,zA]
   exact e2
theorem kN{off:List Int}{i:Nat}(h:i < off.length):ao (ag off) (nD i)=some (.int (off.getD i 0)):=kP (f:=PyData.int) (l:=off) (by simp[h])
theorem xO{off:List Int}{i:Nat}(h:i < off.length):ao (.list (off.map PyData.int)) (nD i)=some (.int (off.getD i 0)):=Gw (f:=PyData.int) (l:=off) (by simp[h])
theorem n9{W:List Wy}{i:Nat}(h:i < W.length):ao (.tuple (W.map aA)) (nD i)=some (aA (aD W i)):=kP (lT h)
theorem MK(a b c:Int):ji [.int a,.int b,.int c]=some (.int (min (min a b) c)):=rfl
theorem Fy(l:List Int)(k:Nat)(v:Int):(l.map PyData.int).set k (.int v)=(l.set k v).map PyData.int:=by rw[List.map_set]
theorem yi(l:List Int):bj [.list (l.map PyData.int)]=some (ag l):=rfl
theorem l6(l:List D):bj [.list l]=some (.tuple l):=rfl
theorem yV(l:List D):bP [.tuple l]=some (nD l.length):=rfl
theorem FA(l:List Int):bP [ag l]=some (nD l.length):=by
 show some (PyData.int ((l.map PyData.int).length:Nat))=_
 rw[zD]
theorem Ag{n:Nat}(h:n<=1000):lX [nD n]=some ((List.range n).map nD):=by
 rw[B5 (yy h),yH]
theorem gu{fs:Dl.Env->Option (List D)}{ρ:Dl.Env}{n:Nat}(h:fs ρ=some [nD n])(hn:n<=1000):aV fs ρ=some ((List.range n).map nD):=by
 unfold aV
 rw[h,zA,Ag hn]
theorem sub_int(i j:Int):Dl.fU (.int i) (.int j)=some (.int (i - j)):=lK i j
theorem zeros{fi:Dl.Env->Option (List D)}{ρ:Dl.Env}{ds:List D}(hfi:fi ρ=some ds)(hl:ds.length<=1000):aq 1 [] fi (fG 0) (fun _=>some true) (fC (.int 0)) ρ=some ((List.replicate ds.length (0:Int)).map PyData.int):=by
 rw[cI (h:=fun _=>.int 0) hfi (by omega) fun d hd=>rfl]
 simp[List.map_const']
theorem Df{ds:List D}{k:Int}(h1:wa k=true)(h2:ds.length * k.toNat<=sizeLine):yx ds (.int k)=some (List.replicate k.toNat ds).flatten:=by
 simp only[yx]
 rw[if_pos (And.intro h1 h2)]
theorem HG:∀n,(List.replicate n [PyData.int 0]).flatten=(List.replicate n (0:Int)).map PyData.int
 | 0=>rfl
 | n+1=>by rw[List.replicate_succ,List.flatten_cons,HG n,List.replicate_succ];rfl
theorem AG{n:Nat}(hl:n<=1000):yx [.int 0] (nD n)=some ((List.replicate n (0:Int)).map PyData.int):=by
 rw[Df (yy hl),yH,HG]
 rw[yH,List.length_singleton,Nat.one_mul]
 exact yE hl (by decide)
theorem MD(ρ:Dl.Env):ke (aa (fC (.int 0)) ae) ρ=some [.int 0]:=by
 simp only[ke,aa,fC,ae,zA,zB]
 exact bA (by simp)
theorem J0{f:Dl.Env->Option D}{ρ:Dl.Env}{n:Nat}(hf:f ρ=some (nD n))(hl:n<=1000):oR (ke (aa (fC (.int 0)) ae)) f ρ=some ((List.replicate n (0:Int)).map PyData.int):=by
 have e:=AG hl
 unfold oR
 rw[MD,zA,hf,zA,e]
theorem rT{r:List (Option D)}:∀ (a b:List Int),dv (jo 0 1) (fun _=>some true) (f2 bY (ab 0) (ab 1)) (none::none::r) (je (a.map PyData.int) (b.map PyData.int))=some ((List.zipWith (·+·) a b).map PyData.int)
 | [],b=>by cases b<;>rfl
 | x::a,[]=>rfl
 | x::a,y::b=>by
  have ih:=rT (r:=r) a b
  have hg:jo 0 1 (none::none::r) (.tuple [.int x,.int y])=some (some (.int x)::some (.int y)::r):=by
   simp only[jo,isFree,List.getElem?_cons_zero,List.getElem?_cons_succ,Option.getD_some,Option.isNone_none,and_self,if_true,List.set_cons_zero,List.set_cons_succ]
  rw[zI,zI,je,dv,hg,zA]
  dsimp! [cZ,ih,List.zipWith_cons_cons]
theorem CY{fi:Dl.Env->Option (List D)}{ρ:Dl.Env}{a b:List Int}(hfi:fi ρ=some (je (a.map PyData.int) (b.map PyData.int)))(hl:a.length<=1000) :
  aq 2 [] fi (jo 0 1) (fun _=>some true) (f2 bY (ab 0) (ab 1)) ρ=some ((List.zipWith (·+·) a b).map PyData.int):=by
 have:=rT (r:=[]) a b
 simp only[aq,hfi,zA,fM,List.replicate,List.map_nil,List.append_nil,this]
 refine bA ?_
 rw[zD,List.length_zipWith]
 omega
noncomputable def cV(W:List Wy)(off:List Int)(left:Int)(i:Nat):Int:=min (min (off.getD i 0) (aD W i).2.2) left
noncomputable def kX(W:List Wy)(off:List Int)(s:Int×List Int)(i:Nat):Int×List Int:=(s.1 - cV W off s.1 i,s.2.set i (cV W off s.1 i))
noncomputable def chs(W:List Wy)(off:List Int)(amt:Int)(is:List Nat):List Int:=(is.foldl (kX W off) (amt,List.replicate W.length 0)).2
theorem z7(W:List Wy)(off:List Int):∀ (is:List Nat) (s:Int×List Int),(is.foldl (kX W off) s).2.length=s.2.length
 | [],s=>rfl
 | i::is,s=>by rw[yJ,z7 W off is];simp[kX]
theorem ll(W:List Wy)(off:List Int)(amt:Int)(is:List Nat):(chs W off amt is).length=W.length:=by rw[chs,z7];simp
theorem Li{G T:List Pl}{W:List Wy}{b:Bool}{i:Nat}{p:Pl}(e:(aM b G T)[i]?=some p):ao (.tuple ((aM b G T).map aQ)) (nD i)=some (aQ p):=kP e
theorem IV{G T:List Pl}{W:List Wy}{off:List Int}{d1 d2:D}{s:Int×List Int}{i:Nat}(hi:i < W.length)(ho:off.length=W.length)(hs:s.2.length=W.length) :
  (aw (wG 4 [0,3,5,6] (ab 6) (bf ji (aa (f2 ao (ab 3) (ab 6)) (aa (f2 ao (f2 ao (f2 ao (ab 0) (fC (.int 2))) (ab 6)) (fC (.int 2))) (aa (ab 5) ae))))) (Dl.aJ 5 [4,5,6] (f2 Dl.fU (ab 5) (f2 ao (ab 4) (ab 6))))) [.val (ax G T W),.val d1,.val d2,.val (ag off),.own (s.2.map PyData.int),.val (.int s.1),.val (nD i)]=some (.nx [.val (ax G T W),.val d1,.val d2,.val (ag off),.own ((kX W off s i).2.map PyData.int),.val (.int (kX W off s i).1),.val (nD i)]):=by
 have hv:(bf ji (aa (f2 ao (ab 3) (ab 6)) (aa (f2 ao (f2 ao (f2 ao (ab 0) (fC (.int 2))) (ab 6)) (fC (.int 2))) (aa (ab 5) ae)))) (bz [.val (ax G T W),.val d1,.val d2,.val (ag off),.own (s.2.map PyData.int),.val (.int s.1),.val (nD i)])=some (.int (cV W off s.1 i)):=by
  dsimp! [kN (show i < off.length by omega),yU,n9 hi,GZ,MK,cV]
 have t1:=AU (i:=4) (fz:=[0,3,5,6]) (fk:=ab 6) (k:=i) (ds:=s.2.map PyData.int) hv rfl rfl rfl (by rw[zD];omega)
 rw[Fy] at t1
 rw[aj t1]
 have hl:i < (s.2.set i (cV W off s.1 i)).length:=by rw[yD];omega
 have hg:(s.2.set i (cV W off s.1 i)).getD i 0=cV W off s.1 i:=by
  have:i < s.2.length:=by omega
  simp[this]
 have hv2:(f2 Dl.fU (ab 5) (f2 ao (ab 4) (ab 6))) (bz ([.val (ax G T W),.val d1,.val d2,.val (ag off),.own (s.2.map PyData.int),.val (.int s.1),.val (nD i)].set 4 (.own ((s.2.set i (cV W off s.1 i)).map PyData.int))))=some (.int (kX W off s i).1):=by
  dsimp! [xO hl,sub_int,hg,kX]
 rw[jO hv2 rfl]
 rfl
theorem jt{G T:List Pl}{W:List Wy}{off:List Int}(h:Wd G T W)(ho:off.length=W.length){b:Bool}{i:Nat}{p:Pl}(e:(aM b G T)[i]?=some p) :
  bV [ax G T W,.int (sI b),nD i,ag off]=some (ag (chs W off p.1 (eK b W i p.2))):=by
 have hw:W.length<=16:=h.wl
 have t4:bp 4 [0] (aq 1 [] (bw (f2 ao (ab 0) (fC (.int 2)))) (fG 0) (fun _=>some true) (fC (.int 0))) [.val (ax G T W),.val (.int (sI b)),.val (nD i),.val (ag off),.non,.non,.non]=some (.nx [.val (ax G T W),.val (.int (sI b)),.val (nD i),.val (ag off),.own ((List.replicate W.length (0:Int)).map PyData.int),.non,.non]):=by
  have z:=zeros (fi:=bw (f2 ao (ab 0) (fC (.int 2)))) (ρ:=dG [.val (ax G T W),.val (.int (sI b)),.val (nD i),.val (ag off),.non,.non,.non]) (ds:=W.map aA) rfl (by rw[zD];omega)
  rw[zD] at z
  exact ub rfl z
 have t5:Dl.aJ 5 [0,1,2] (f2 ao (f2 ao (f2 ao (ab 0) (ab 1)) (ab 2)) (fC (.int 0))) [.val (ax G T W),.val (.int (sI b)),.val (nD i),.val (ag off),.own ((List.replicate W.length (0:Int)).map PyData.int),.non,.non]=some (.nx [.val (ax G T W),.val (.int (sI b)),.val (nD i),.val (ag off),.own ((List.replicate W.length (0:Int)).map PyData.int),.val (.int p.1),.non]) :=
  jO (d:=.int p.1) (by dsimp! [jZ,Li (W:=W) e,Fb]) rfl
 obtain⟨ρ',e3,hs',x,rfl⟩:=kY (tgt:=CW 6) (gb:=(aw (wG 4 [0,3,5,6] (ab 6) (bf ji (aa (f2 ao (ab 3) (ab 6)) (aa (f2 ao (f2 ao (f2 ao (ab 0) (fC (.int 2))) (ab 6)) (fC (.int 2))) (aa (ab 5) ae))))) (Dl.aJ 5 [4,5,6] (f2 Dl.fU (ab 5) (f2 ao (ab 4) (ab 6)))))) (R:=fun s ρ=>s.2.length=W.length/\∃x,ρ=[.val (ax G T W),.val (.int (sI b)),.val (nD i),.val (ag off),.own (s.2.map PyData.int),.val (.int s.1),x]) nD (kX W off)
  (l:=eK b W i p.2) (s:=(p.1,List.replicate W.length (0:Int))) (ρ:=[.val (ax G T W),.val (.int (sI b)),.val (nD i),.val (ag off),.own ((List.replicate W.length (0:Int)).map PyData.int),.val (.int p.1),.non])
  (fun s ρ j hj ⟨hs,x,hρ⟩=>by
   subst hρ
   obtain⟨hjl,_⟩:=cf.mp ((eC h e).mem_iff.mp hj)
   refine⟨_,_,rfl,IV hjl ho hs,?_,.val (nD j),rfl⟩
   simp[kX,hs]) ⟨by simp,_,rfl⟩
 refine aH ?_
 show fY [.val (ax G T W),.val (.int (sI b)),.val (nD i),.val (ag off),.non,.non,.non]=_
 unfold fY
 rw[aj t4,aj t5,aj (gc e3 (by dsimp! [rE h e]) rfl)]
 exact aL rfl
noncomputable def bU(b:Bool)(G T:List Pl)(i:Nat):Pl:=(aM b G T).getD i (0,[])
noncomputable def uX(b:Bool)(G T:List Pl)(W:List Wy)(off s:List Int)(i:Nat):List Int:=List.zipWith (·+·) s (chs W off (bU b G T i).1 (eK b W i (bU b G T i).2))
noncomputable def aB(b:Bool)(G T:List Pl)(W:List Wy)(off:List Int):List Int:=(List.range (aM b G T).length).foldl (uX b G T W off) (List.replicate W.length 0)
theorem jb{b:Bool}{G T:List Pl}{i:Nat}(h:i < (aM b G T).length):(aM b G T)[i]?=some (bU b G T i):=by simp[bU,h]
theorem nL{b:Bool}{G T:List Pl}{W:List Wy}{off s:List Int}{i:Nat}(h:s.length=W.length):(uX b G T W off s i).length=W.length:=by
 unfold uX
 rw[List.length_zipWith,ll,h,Nat.min_self]
theorem jK{S α:Type}{f:S->α->S}(R:S->Prop):∀ {l:List α}{s:S},(∀s x,x∈l->R s->R (f s x))->R s->R (l.foldl f s)
 | [],s,_,h=>h
 | x::l,s,hh,h=>by
  rw[yJ]
  exact jK (l:=l) R (fun s y hy=>hh s y (zC _ hy)) (hh s x zE h)
theorem cJ(b:Bool)(G T:List Pl)(W:List Wy)(off:List Int):(aB b G T W off).length=W.length :=
 jK (fun s:List Int=>s.length=W.length) (fun s i _ h=>nL h) (by simp)
theorem Wd.pl{G T:List Pl}{W:List Wy}(h:Wd G T W)(b:Bool):(aM b G T).length<=4:=by
 cases b
 ·exact h.g4
 ·exact h.t4
noncomputable def Nw:ai->Option Out:=(aw (Dl.aJ 5 [0,1,2,4] (ah 4 bV (aa (ab 0) (aa (ab 1) (aa (ab 4) (aa (ab 2) ae)))))) (bp 3 [3,5] (aq 2 [] (iZ (aa (ab 3) (aa (ab 5) ae))) (jo 0 1) (fun _=>some true) (f2 bY (ab 0) (ab 1)))))
theorem eR{G T:List Pl}{W:List Wy}{off:List Int}(h:Wd G T W)(ho:off.length=W.length)(b:Bool) :
  aY [ax G T W,.int (sI b),ag off]=some (ag (aB b G T W off)):=by
 have hw:W.length<=16:=h.wl
 have hp:=h.pl b
 have t3:bp 3 [0] (aq 1 [] (bw (f2 ao (ab 0) (fC (.int 2)))) (fG 0) (fun _=>some true) (fC (.int 0))) [.val (ax G T W),.val (.int (sI b)),.val (ag off),.non,.non,.non]=some (.nx [.val (ax G T W),.val (.int (sI b)),.val (ag off),.own ((List.replicate W.length (0:Int)).map PyData.int),.non,.non]):=by
  have z:=zeros (fi:=bw (f2 ao (ab 0) (fC (.int 2)))) (ρ:=dG [.val (ax G T W),.val (.int (sI b)),.val (ag off),.non,.non,.non]) (ds:=W.map aA) rfl (by rw[zD];omega)
  rw[zD] at z
  exact iq z rfl
 obtain⟨ρ',e3,hs',x,y,rfl⟩:=kY (tgt:=CW 4) (gb:=Nw) (R:=fun s ρ=>s.length=W.length/\∃x y,ρ=[.val (ax G T W),.val (.int (sI b)),.val (ag off),.own (s.map PyData.int),x,y]) nD (uX b G T W off)
  (l:=List.range (aM b G T).length) (s:=List.replicate W.length (0:Int)) (ρ:=[.val (ax G T W),.val (.int (sI b)),.val (ag off),.own ((List.replicate W.length (0:Int)).map PyData.int),.non,.non])
  (fun s ρ i hi ⟨hs,x,y,hρ⟩=>by
   subst hρ
   have ei:=jb (zT.mp hi)
   have t1:Dl.aJ 5 [0,1,2,4] (ah 4 bV (aa (ab 0) (aa (ab 1) (aa (ab 4) (aa (ab 2) ae))))) [.val (ax G T W),.val (.int (sI b)),.val (ag off),.own (s.map PyData.int),.val (nD i),y]=some (.nx [.val (ax G T W),.val (.int (sI b)),.val (ag off),.own (s.map PyData.int),.val (nD i),.val (ag (chs W off (bU b G T i).1 (eK b W i (bU b G T i).2)))]):=by
    refine pO (ρ':=[.val (ax G T W),.val (.int (sI b)),.val (ag off),.own (s.map PyData.int),.val (nD i),y]) rfl (d:=ag (chs W off (bU b G T i).1 (eK b W i (bU b G T i).2))) ?_ ?_ rfl
    ·dsimp! [jt h ho ei]
    ·dsimp! [jt h ho ei]
   have t2:bp 3 [3,5] (aq 2 [] (iZ (aa (ab 3) (aa (ab 5) ae))) (jo 0 1) (fun _=>some true) (f2 bY (ab 0) (ab 1))) [.val (ax G T W),.val (.int (sI b)),.val (ag off),.own (s.map PyData.int),.val (nD i),.val (ag (chs W off (bU b G T i).1 (eK b W i (bU b G T i).2)))]=some (.nx [.val (ax G T W),.val (.int (sI b)),.val (ag off),.own ((uX b G T W off s i).map PyData.int),.val (nD i),.val (ag (chs W off (bU b G T i).1 (eK b W i (bU b G T i).2)))]):=by
    refine ub (ρ':=[.val (ax G T W),.val (.int (sI b)),.val (ag off),.val (.list (s.map PyData.int)),.val (nD i),.val (ag (chs W off (bU b G T i).1 (eK b W i (bU b G T i).2)))]) rfl (ds:=(uX b G T W off s i).map PyData.int) ?_
    exact CY (a:=s) (b:=chs W off (bU b G T i).1 (eK b W i (bU b G T i).2)) rfl (by omega)
   exact⟨_,_,rfl,(aj t1).trans t2,nL hs,_,_,rfl⟩) ⟨by simp,_,_,rfl⟩
 refine aH ?_
 show dg [.val (ax G T W),.val (.int (sI b)),.val (ag off),.non,.non,.non]=_
 unfold dg
 rw[aj t3]
 refine (aj (gc e3 (gu (by dsimp! [jZ,yV,zD]) (by omega)) rfl)).trans ?_
 exact aL rfl
theorem yr{xs ys:List D}(h:(xs++ys).length<=4000):Dl.bY (.tuple xs) (.tuple ys)=some (.tuple (xs++ys)):=by
 simp only[Dl.bY,uo,FM,bA h,zB,Option.none_or,Option.some_or]
theorem JB{f:Dl.Env->Option D}{ρ:Dl.Env}{d:D}(h:f ρ=some d):aZ (aa f ae) ρ=some (.tuple [d]):=by
 simp only[aZ,aa,ae,h,zA,zB]
 rw[bA (by simp),zB]
theorem Jz{f g:Dl.Env->Option D}{ρ:Dl.Env}{d e:D}(h:f ρ=some d)(h2:g ρ=some e):aZ (aa f (aa g ae)) ρ=some (.tuple [d,e]):=by
 simp only[aZ,aa,ae,h,h2,zA,zB]
 rw[bA (by simp),zB]
theorem ar{g:D->D->Option D}{fa fb:Dl.Env->Option D}{ρ:Dl.Env}{a b c:D}(h:g a b=some c)(ha:fa ρ=some a)(hb:fb ρ=some b):f2 g fa fb ρ=some c:=by rw[jr ha hb,h]
theorem Ks{f g:Dl.Env->Option D}{ρ:Dl.Env}{ds:List D}{k:Nat}(h:f ρ=some (.tuple ds))(h2:g ρ=some (nD k)):l9 ij f l4 (A0 g) ρ=some (.tuple (ds.take k)):=by
 simp only[l9,h,l4,A0,h2,zA,gI,zB,ij,B9]
theorem HV{f g:Dl.Env->Option D}{ρ:Dl.Env}{ds:List D}{k:Nat}(h:f ρ=some (.tuple ds))(h2:g ρ=some (nD k)):l9 ij f (A0 g) l4 ρ=some (.tuple (ds.drop k)):=by
 simp only[l9,h,l4,A0,h2,zA,gI,zB,ij,vJ]
theorem JO(d:D)(ds:List D):ao (.tuple (d::ds)) (.int 0)=some d:=o5 (i:=0) rfl
theorem Ma(c d:D)(ds:List D):ao (.tuple (c::d::ds)) (.int 1)=some d:=o5 (i:=1) rfl
theorem yR(c:List Int)(i:Nat)(v:Int)(h:i < c.length):((c.map PyData.int).take i++[PyData.int v])++(c.map PyData.int).drop (i+1)=(c.set i v).map PyData.int:=by
 rw[List.set_eq_take_append_cons_drop,if_pos h]
 simp
theorem Nt(i:Nat):Dl.bY (nD i) (.int 1)=some (nD (i+1)):=by
 rw[cZ]
 rfl
theorem wM{c:List Int}{i:Nat}{v:Int}(h:i < c.length)(hl:c.length<=1000):iU [ag c,nD i,.int v]=some (ag (c.set i v)):=by
 refine aH ?_
 show kn [.val (ag c),.val (nD i),.val (.int v)]=_
 refine aL ?_
 refine ar (a:=.tuple ((c.map PyData.int).take i++[PyData.int v])) (b:=.tuple ((c.map PyData.int).drop (i+1))) ?_ (ar (a:=.tuple ((c.map PyData.int).take i)) (b:=.tuple [.int v]) (yr ?_) (Ks rfl rfl) (JB rfl)) (HV rfl (ar (Nt i) rfl rfl))
 ·rw[yr,yR c i v h]
  ·rfl
  ·rw[yR c i v h];simp;omega
 ·simp;omega
theorem rW{c:List Int}{i:Nat}{v:Int}(h:i < c.length)(hl:c.length<=1000):bT [ag c,nD i,.int v]=some (ag (c.set i v)):=by
 refine aH ?_
 show mw [.val (ag c),.val (nD i),.val (.int v)]=_
 exact aL (call_of (wM h hl) rfl rfl)
noncomputable def dJ(W:List Wy):List Int:=W.map fun w=>w.2.2
theorem Ew{G T:List Pl}{W:List Wy}(h:Wd G T W){f:Dl.Env->Option D}{ρ:Dl.Env}(hf:f ρ=some (ax G T W)):(bf bj (aa (dh (aq 1 [] (bw (f2 ao f (fC (.int 2)))) (fG 0) (fun _=>some true) (f2 ao (ab 0) (fC (.int 2))))) ae)) ρ=some (ag (dJ W)):=by
 have hw:=h.wl
 have hs:(bw (f2 ao f (fC (.int 2)))) ρ=some (W.map aA):=by
  unfold bw
  rw[ar (yU G T W) hf rfl]
  rfl
 have e:aq 1 [] (bw (f2 ao f (fC (.int 2)))) (fG 0) (fun _=>some true) (f2 ao (ab 0) (fC (.int 2))) ρ=some ((dJ W).map PyData.int):=by
  rw[cI (h:=fun d=>.int (jW ((cY d).getD 2 .none))) hs (by rw[zD];omega) fun d hd=>?_]
  ·rw[dJ,zM,zM]
   rfl
  ·obtain⟨w,hw',rfl⟩:=zQ.mp hd
   rfl
 simp only[bf,aa,ae,dh,e,zB,zA,yi]
theorem lM{G T:List Pl}{W:List Wy}(h:Wd G T W):eI [ax G T W]=some (ag (dJ W)):=by
 refine aH ?_
 show o3 [.val (ax G T W)]=_
 exact aL (Ew h rfl)
theorem kZ(W:List Wy):(dJ W).length=W.length:=by simp[dJ]
noncomputable def jk(G T:List Pl)(W:List Wy)(c:List Int):List Int:=aB true G T W (aB false G T W c)
noncomputable def qR(G T:List Pl)(W:List Wy)(c:List Int)(k:Nat):Bool:=decide ((jk G T W c).getD k 0 < (aB false G T W c).getD k 0)
noncomputable def qQ(G T:List Pl)(W:List Wy)(c:List Int):Option (Nat×Int):=((List.range W.length).find? (qR G T W c)).map fun k=>(k,(jk G T W c).getD k 0)
noncomputable def xk:Option (Nat×Int)->D
 | none=>.none
 | some p=>.tuple [nD p.1,.int p.2]
theorem enum_zip:∀ (ds:List D) (k:Nat),cM k ds=(ds.zipIdx k).map fun q=>.tuple [nD q.2,q.1]
 | [],k=>rfl
 | d::ds,k=>by rw[cM,enum_zip ds (k+1),List.zipIdx_cons];rfl
theorem Ai(l:List Int):cM 0 (l.map PyData.int)=(List.range l.length).map fun k=>.tuple [nD k,.int (l.getD k 0)]:=by
 rw[enum_zip]
 apply List.ext_getElem
 ·simp
 ·intro i h1 h2
  have:i < l.length:=by simpa using h2
  simp[this]
theorem JQ(G T:List Pl)(W:List Wy)(c:List Int):(jk G T W c).length=W.length:=cJ _ _ _ _ _
noncomputable def Me:ai->Option Out:=(gC (fB (f2 vm (ab 5) (f2 ao (ab 2) (ab 4)))) (aG (aZ (aa (ab 4) (aa (ab 5) ae)))) hJ)
theorem jT{G T:List Pl}{W:List Wy}{c:List Int}(h:Wd G T W)(ho:c.length=W.length):dB [ax G T W,ag c]=some (xk (qQ G T W c)):=by
 have hw:W.length<=16:=h.wl
 have t2:Dl.aJ 2 [0,1] (ah 3 aY (aa (ab 0) (aa (fC (.int 0)) (aa (ab 1) ae)))) [.val (ax G T W),.val (ag c),.non,.non,.non,.non]=some (.nx [.val (ax G T W),.val (ag c),.val (ag (aB false G T W c)),.non,.non,.non]) :=
  fv (call_of (eR h ho false) rfl rfl) rfl rfl rfl
 have t3:Dl.aJ 3 [0,2] (ah 3 aY (aa (ab 0) (aa (fC (.int 1)) (aa (ab 2) ae)))) [.val (ax G T W),.val (ag c),.val (ag (aB false G T W c)),.non,.non,.non]=some (.nx [.val (ax G T W),.val (ag c),.val (ag (aB false G T W c)),.val (ag (jk G T W c)),.non,.non]) :=
  fv (call_of (eR h (cJ _ _ _ _ _) true) rfl rfl) rfl rfl rfl
 have hl:=kK (tgt:=qr 4 5) (gb:=Me) (R:=fun ρ=>∃x y,ρ=[.val (ax G T W),.val (ag c),.val (ag (aB false G T W c)),.val (ag (jk G T W c)),x,y]) (fun k=>.tuple [nD k,.int ((jk G T W c).getD k 0)]) (qR G T W c) (fun k=>.tuple [nD k,.int ((jk G T W c).getD k 0)])
  (l:=List.range W.length) (ρ:=[.val (ax G T W),.val (ag c),.val (ag (aB false G T W c)),.val (ag (jk G T W c)),.non,.non])
  (fun ρ k hk ⟨x,y,hρ⟩=>by
   subst hρ
   have hk':k < (aB false G T W c).length:=by rw[cJ];exact zT.mp hk
   have hc:(fB (f2 vm (ab 5) (f2 ao (ab 2) (ab 4)))) (bz [.val (ax G T W),.val (ag c),.val (ag (aB false G T W c)),.val (ag (jk G T W c)),.val (nD k),.val (.int ((jk G T W c).getD k 0))])=some (qR G T W c k):=by
    dsimp! [kN hk',k5,qR]
   refine⟨[.val (ax G T W),.val (ag c),.val (ag (aB false G T W c)),.val (ag (jk G T W c)),.val (nD k),.val (.int ((jk G T W c).getD k 0))],rfl,fun hq=>?_,fun hq=>?_⟩
   ·rw[hq] at hc
    unfold Me
    rw[gf hc]
    exact aL (Jz rfl rfl)
   ·rw[hq] at hc
    unfold Me
    rw[cP hc]
    exact⟨_,rfl,_,_,rfl⟩) ⟨_,_,rfl⟩
 have hi:(fP (aa (ab 3) ae)) (dG [.val (ax G T W),.val (ag c),.val (ag (aB false G T W c)),.val (ag (jk G T W c)),.non,.non])=some ((List.range W.length).map fun k=>.tuple [nD k,.int ((jk G T W c).getD k 0)]):=by
  have:=Ai (jk G T W c)
  rw[JQ] at this
  rw[<- this]
  rfl
 refine aH ?_
 show j6 [.val (ax G T W),.val (ag c),.non,.non,.non,.non]=_
 unfold j6
 rw[aj t2,aj t3]
 unfold qQ
 cases hq:(List.range W.length).find? (qR G T W c) with
 | some k =>
  exact kA (gc (hl.1 k hq) hi rfl)
 | none =>
  obtain⟨ρ',e,x,y,rfl⟩:=hl.2 hq
  exact (aj (gc e hi rfl)).trans (aL rfl)
theorem cn(l:List Int)(k:Nat)(v:Int)(i:Nat):(l.set k v).getD i 0=if k=i/\i < l.length then v else l.getD i 0:=by
 simp only[zG,List.getElem?_set]
 by_cases h:k=i
 ·subst h
  by_cases h2:k < l.length
  ·simp[h2]
  ·simp[h2]
 ·simp[h]
theorem uC{a b:List Int}{i:Nat}(ha:i < a.length)(hb:i < b.length):(List.zipWith (·+·) a b).getD i 0=a.getD i 0+b.getD i 0:=by
 rw[zG,zG,zG,List.getElem?_zipWith,zK ha,zK hb]
 rfl
def Off(off:List Int):Prop:=∀i,0<=off.getD i 0
def MX(W:List Wy):Prop:=∀i,0<=(aD W i).2.2
theorem Wd.lim{G T:List Pl}{W:List Wy}(h:Wd G T W):MX W:=fun i=>by
 by_cases hi:i < W.length
 ·have:=h.wr (aD W i) (by rw[<- iR hi];exact List.getElem_mem hi)
  omega
 ·simp only[aD,zG]
  rw[List.getElem?_eq_none (by omega)]
  simp
theorem Wd.amt{G T:List Pl}{W:List Wy}(h:Wd G T W)(b:Bool)(i:Nat):0<=(bU b G T i).1:=by
 unfold bU
 rw[zG]
 cases e:(aM b G T)[i]? with
 | none=>simp
 | some p =>
  have hm:=List.mem_of_getElem? e
  cases b
  ·exact (h.ga p hm).1
  ·exact (h.ta p hm).1
theorem IS{W:List Wy}{off:List Int}(ho:Off off)(hl:MX W){amt:Int}(ha:0<=amt)(is:List Nat)(i:Nat):0<=(chs W off amt is).getD i 0/\(chs W off amt is).getD i 0<=off.getD i 0:=by
 have:=jK (l:=is) (f:=kX W off) (s:=(amt,List.replicate W.length 0)) (fun s=>0<=s.1/\∀i,0<=s.2.getD i 0/\s.2.getD i 0<=off.getD i 0) (fun s k _ ⟨h1,h2⟩=>by
  have ok:=ho k
  have lk:=hl k
  have v0:0<=cV W off s.1 k:=by unfold cV;omega
  have v1:cV W off s.1 k<=off.getD k 0:=by unfold cV;omega
  have v2:cV W off s.1 k<=s.1:=by unfold cV;omega
  refine⟨by simp only[kX];omega,fun i=>?_⟩
  simp only[kX,cn]
  split
  ·rename_i z
   rw[<- z.1]
   exact⟨v0,v1⟩
  ·exact h2 i) ⟨ha,fun i=>by
   have:=ho i
   have z:(List.replicate W.length (0:Int)).getD i 0=0:=by
    simp only[zG,List.getElem?_replicate]
    split<;>rfl
   simp only[z]
   omega⟩
 exact this.2 i
theorem yQ{W:List Wy}{off:List Int}{amt:Int}{is:List Nat}{i:Nat}(hi:i∉is):(chs W off amt is).getD i 0=0:=by
 refine jK (l:=is) (f:=kX W off) (s:=(amt,List.replicate W.length 0)) (fun s=>s.2.getD i 0=0) (fun s k hk h=>?_) ?_
 ·simp only[kX,cn]
  have hki:¬ (k=i/\i < s.2.length):=fun z=>hi (z.1 ▸ hk)
  rw[if_neg hki,h]
 ·simp only[zG,List.getElem?_replicate]
  split<;>rfl
theorem sL{G T:List Pl}{W:List Wy}(h:Wd G T W){off:List Int}(ho:Off off)(b:Bool):∀ (n:Nat),n<=(aM b G T).length ->
  ((List.range n).foldl (uX b G T W off) (List.replicate W.length 0)).length=W.length/\∀i,i < W.length->(0<=((List.range n).foldl (uX b G T W off) (List.replicate W.length 0)).getD i 0/\((List.range n).foldl (uX b G T W off) (List.replicate W.length 0)).getD i 0<=off.getD i 0)/\((n:Nat)<=bh b (aD W i)->((List.range n).foldl (uX b G T W off) (List.replicate W.length 0)).getD i 0=0)
 | 0,_=>by
  refine⟨by simp,fun i hi=>?_⟩
  have:=ho i
  have z:((List.range 0).foldl (uX b G T W off) (List.replicate W.length 0)).getD i 0=0:=by simp[zG,hi]
  rw[z]
  exact⟨by omega,fun _=>rfl⟩
 | n+1,hn=>by
  obtain⟨h1,h2⟩:=sL h ho b n (by omega)
  rw[List.range_succ,List.foldl_append,yJ,List.foldl_nil]
  generalize (List.range n).foldl (uX b G T W off) (List.replicate W.length 0)=s at h1 h2
  refine⟨nL h1,fun i hi=>?_⟩
  obtain⟨h3,h4⟩:=h2 i hi
  have e:=jb (b:=b) (G:=G) (T:=T) (i:=n) (by omega)
  have hc:=IS ho h.lim (h.amt b n) (eK b W n (bU b G T n).2) i
  have hz:(uX b G T W off s n).getD i 0=s.getD i 0+(chs W off (bU b G T n).1 (eK b W n (bU b G T n).2)).getD i 0:=uC (by omega) (by rw[ll];exact hi)
  rw[hz]
  by_cases he:bh b (aD W i)=n
  ·rw[h4 (by omega)]
   exact⟨by omega,fun z=>by omega⟩
  ·have hni:i∉eK b W n (bU b G T n).2:=fun z=>he (cf.mp ((eC h e).mem_iff.mp z)).2
   rw[yQ hni]
   exact⟨by omega,fun z=>by rw[h4 (by omega)];rfl⟩
theorem o9{l:List Int}{i:Nat}(h:l.length<=i):l.getD i 0=0:=by simp[zG,h]
theorem iL{G T:List Pl}{W:List Wy}(h:Wd G T W){off:List Int}(ho:Off off)(b:Bool):Off (aB b G T W off):=fun i=>by
 by_cases hi:i < W.length
 ·exact ((sL h ho b _ (Nat.le_refl _)).2 i hi).1.1
 ·rw[o9 (by rw[cJ];omega)]
  exact Int.le_refl 0
theorem w6{G T:List Pl}{W:List Wy}(h:Wd G T W){off:List Int}(ho:Off off)(b:Bool){i:Nat}(hi:i < W.length):(aB b G T W off).getD i 0<=off.getD i 0 :=
 ((sL h ho b _ (Nat.le_refl _)).2 i hi).1.2
theorem yh{G T:List Pl}{W:List Wy}(h:Wd G T W){c:List Int}(ho:Off c){p:Nat×Int}(e:qQ G T W c=some p):p.1 < W.length/\0<=p.2/\p.2 < c.getD p.1 0:=by
 unfold qQ at e
 obtain⟨k,hk,rfl⟩:=Dl.af e
 have hm:=List.mem_of_find?_eq_some hk
 have hq:=List.find?_some hk
 have hi:=zT.mp hm
 rw[qR,zJ] at hq
 have a:=w6 h ho false hi
 have b:=iL h (iL h ho false) true k
 exact⟨hi,b,by simp only;omega⟩
noncomputable def mea(c:List Int):Nat:=(c.map Int.toNat).sum
theorem y0:∀ {c:List Int}{k:Nat}{v:Int},0<=v->v < c.getD k 0->mea (c.set k v) < mea c
 | [],k,v,h0,h1=>by simp at h1;omega
 | x::c,0,v,h0,h1=>by
  simp at h1
  simp only[mea,List.set_cons_zero,zI,List.sum_cons]
  omega
 | x::c,k+1,v,h0,h1=>by
  have:=y0 (c:=c) (k:=k) h0 (by simpa using h1)
  simp only[mea,List.set_cons_succ,zI,List.sum_cons] at this ⊢
  omega
theorem yp:∀ {W:List Wy},(∀w∈W,w.2.2<=9)->mea (dJ W)<=9 * W.length
 | [],_=>by simp[mea,dJ]
 | w::W,h=>by
  have:=yp (W:=W) fun x hx=>h x (zC _ hx)
  have:=h w zE
  simp only[mea,dJ,zI,List.sum_cons,zL] at *
  omega
theorem Ga{G T:List Pl}{W:List Wy}(h:Wd G T W):Off (dJ W):=fun i=>by
 have:=h.lim i
 by_cases hi:i < W.length
 ·simpa [dJ,aD,zG,hi] using this
 ·rw[o9 (by rw[kZ];omega)]
  exact Int.le_refl 0
theorem yX{c:List Int}(h:Off c){k:Nat}{v:Int}(hv:0<=v):Off (c.set k v):=fun i=>by
 rw[cn]
 split
 ·exact hv
 ·exact h i
theorem pI(a:List Int):SeqAt.shaped (ag a)=true :=
 (iu.tup (b:=a.length) (k:=0) (by simp) fun x hx=>by obtain⟨i,_,rfl⟩:=zQ.mp hx;exact j7 _).shaped (by decide)
theorem pC(a b:List Int):PyData.eqv (ag a) (ag b)=decide (a=b):=by
 rw[ag,ag,PyData.eqv,pQ]
theorem bW{f:Dl.Env->Option D}{ρ:Dl.Env}{b:Bool}(h:f ρ=some (.bool b)):fB f ρ=some b:=by
 simp only[fB,h,zA,gB]
theorem dO{t:Dl.Env->Option Bool}{ρ:Dl.Env}{b:Bool}(h:t ρ=some b):bx t ρ=some (!b):=by
 simp only[bx,h,zB]
theorem oT{t u:Dl.Env->Option Bool}{ρ:Dl.Env}(h:t ρ=some false)(h2:u ρ=some false):iE t u ρ=some false:=by
 simp only[iE,h,zA,h2]
theorem Ep(a b:List Int):eX (ag a) (ag b)=some (.bool (!decide (a=b))):=by
 simp only[eX,KC,pI,and_self,if_true,pC,zB]
theorem Do(a b:List Int):cN (ag a) (ag b)=some (.bool (decide (a=b))):=by
 simp only[cN,HH,pI,and_self,if_true,pC,zB]
theorem jY(a:List Int):eX (ag a) (ag a)=some (.bool false):=by rw[Ep];simp
theorem GX(x:Option (Nat×Int)):m6 (xk x) .none=some (.bool x.isSome):=by cases x<;>rfl
theorem cx{i:Nat}{fz:List Nat}{f:Dl.Env->Option D}{ρ:ai}{d:D}(hA:f (bz ρ)=some d)(hF:f (dG ρ)=some d)(hh:hand fz 0 ρ=ρ):Dl.aJ i fz f ρ=some (.nx (ρ.set i (.val d))):=by
 cases hs:Dl.oH d with
 | true=>exact jO hA hs
 | false=>exact pO hh hA hF hs (.inr rfl)
theorem Jh{i:Nat}{fz:List Nat}{f:Dl.Env->Option D}{ρ:ai}{d:D}{ds:List D}(hA:f (bz ρ)=some d)(hF:f (dG ρ)=some d)(hh:hand fz 0 ρ=ρ)(ho:ρ[i]?=some (.own ds))(hl:ds.length < 4000):wx i fz f ρ=some (.nx (ρ.set i (.own (ds++[d])))):=by
 have hz:ds.length < sizeLine:=zP hl (by decide)
 have hi:mW fz f ρ=some (d,ρ):=by
  unfold mW
  rw[hA,zA,hh,hF]
  cases Dl.oH d<;>rfl
 simp only[wx,hi,zA,p9,ho,hz,if_true,zB]
theorem cS{G T:List Pl}{W:List Wy}(h:Wd G T W):aP [ax G T W]=some .none:=by
 have hw:bq [ax G T W]=some (.bool true):=by rw[oC h.fit (by decide),h.wok]
 have hc:(bx (fB (ah 1 bq (aa (ab 0) ae)))) (bz [.val (ax G T W)])=some false:=dO (bW (call_of hw rfl rfl))
 have:cR [.val (ax G T W)]=some (.nx [.val (ax G T W)]):=by
  unfold cR
  rw[cP hc]
 show (cR [.val (ax G T W)]).map _=_
 rw[this]
 rfl
theorem qw{a b:Int}{i:Int}(h1:a<=i)(h2:i<=b):ej [.int i,.int a,.int b]=some .none:=by
 have hw:aO [.int i,.int a,.int b]=some (.bool true):=by rw[fx rfl];simp[whole,h1,h2]
 have hc:(bx (fB (ah 3 aO (aa (ab 0) (aa (ab 1) (aa (ab 2) ae)))))) (bz [.val (.int i),.val (.int a),.val (.int b)])=some false:=dO (bW (call_of hw rfl rfl))
 have:dc [.val (.int i),.val (.int a),.val (.int b)]=some (.nx [.val (.int i),.val (.int a),.val (.int b)]):=by
  unfold dc
  rw[cP hc]
 show (dc [.val (.int i),.val (.int a),.val (.int b)]).map _=_
 rw[this]
 rfl
theorem dQ{n i:Int}(h1:0<=i)(h2:i<=n - 1):aX [.int i,.int n]=some .none:=by
 have:cB [.val (.int i),.val (.int n)]=some (.nx [.val (.int i),.val (.int n)]):=by
  unfold cB
  exact cD (call_of (qw h1 h2) (cons_of rfl (cons_of rfl (cons_of (ar (sub_int n 1) rfl rfl) rfl))) rfl)
 show (cB [.val (.int i),.val (.int n)]).map _=_
 rw[this]
 rfl
theorem lH(b:Bool):cF [.int (sI b)]=some .none:=by
 have:dR [.val (.int (sI b))]=some (.nx [.val (.int (sI b))]):=by
  unfold dR
  exact cD (call_of (dQ (n:=2) (i:=sI b) (by cases b<;>decide) (by cases b<;>decide)) rfl rfl)
 show (dR [.val (.int (sI b))]).map _=_
 rw[this]
 rfl
noncomputable abbrev Sp:=List (Nat×Int)×List Int
noncomputable def Ik(G T:List Pl)(W:List Wy)(s:Sp):Bool:=(qQ G T W s.2).isSome
noncomputable def spS(G T:List Pl)(W:List Wy)(s:Sp):Sp:=match qQ G T W s.2 with|some p=>(s.1++[p],s.2.set p.1 p.2)|none=>s
noncomputable def low(c:List Int)(p:Nat×Int):List Int:=c.set p.1 p.2
structure z6(W:List Wy)(s:Sp):Prop where
 len:s.2.length=W.length
 off:Off s.2
 eq:s.2=s.1.foldl low (dJ W)
 bd:s.1.length+mea s.2<=mea (dJ W)
 mem:∀p∈s.1,p.1 < W.length
theorem z6.start{G T:List Pl}{W:List Wy}(h:Wd G T W):z6 W ([],dJ W):=⟨kZ W,Ga h,rfl,by simp,fun p hp=>by cases hp⟩
theorem sg{G T:List Pl}{W:List Wy}{s:Sp}{p:Nat×Int}(e:qQ G T W s.2=some p):spS G T W s=(s.1++[p],s.2.set p.1 p.2):=by
 unfold spS
 rw[e]
theorem z6.step{G T:List Pl}{W:List Wy}(h:Wd G T W){s:Sp}(i:z6 W s){p:Nat×Int}(e:qQ G T W s.2=some p):z6 W (spS G T W s)/\mea (spS G T W s).2 < mea s.2:=by
 obtain⟨h1,h2,h3⟩:=yh h i.off e
 have hm:=y0 h2 h3
 rw[sg e]
 refine⟨⟨by simp[i.len],yX i.off h2,?_,?_,fun q hq=>?_⟩,hm⟩
 ·rw[List.foldl_append,<- i.eq]
  rfl
 ·have:=i.bd
  simp only[zN,List.length_singleton]
  omega
 ·rcases List.mem_append.mp hq with z|z
  ·exact i.mem q z
  ·rw[yK] at z
   rw[z]
   exact h1
theorem Wd.mea{G T:List Pl}{W:List Wy}(h:Wd G T W):mea (dJ W)<=144:=by
 have:=yp (W:=W) fun w hw=>(h.wr w hw).2.2.2
 have:=h.wl
 omega
noncomputable def pS(r:List (Nat×Int)):List D:=(r.map fun p=>[((p.1:Nat):Int),p.2]).map ag
theorem EY(r:List (Nat×Int))(p:Nat×Int):pS (r++[p])=pS r++[xk (some p)]:=by simp[pS];rfl
theorem Gc(r:List (Nat×Int)):(pS r).length=r.length:=by simp[pS]
noncomputable def fin(G T:List Pl)(W:List Wy):Sp:=lp (Ik G T W) (spS G T W) Rf.turns ([],dJ W)
noncomputable def MC:ai->Option Out:=(aw (wx 1 [3] (ab 3)) (aw (Dl.aJ 2 [2,3] (ah 3 bT (aa (ab 2) (aa (f2 ao (ab 3) (fC (.int 0))) (aa (f2 ao (ab 3) (fC (.int 1))) ae))))) (Dl.aJ 3 [0,2] (ah 2 dB (aa (ab 0) (aa (ab 2) ae))))))
noncomputable def G9(G T:List Pl)(W:List Wy)(s:Sp):ai:=[.val (ax G T W),.own (pS s.1),.val (ag s.2),.val (xk (qQ G T W s.2))]
theorem EX{G T:List Pl}{W:List Wy}(h:Wd G T W){s:Sp}(i:z6 W s){p:Nat×Int}(e:qQ G T W s.2=some p):MC (G9 G T W s)=some (.nx (G9 G T W (spS G T W s))):=by
 obtain⟨h1,h2,h3⟩:=yh h i.off e
 obtain⟨i2,hm⟩:=i.step h e
 have hb:=h.mea
 have hbd:=i.bd
 have hw:=h.wl
 have t1:wx 1 [3] (ab 3) (G9 G T W s)=some (.nx [.val (ax G T W),.own (pS s.1++[xk (some p)]),.val (ag s.2),.val (xk (some p))]):=by
  unfold G9
  rw[e]
  exact Jh rfl rfl rfl rfl (by rw[Gc];omega)
 have hlow:∀ρ:Dl.Env,ab 2 ρ=some (ag s.2)->ab 3 ρ=some (xk (some p))->(ah 3 bT (aa (ab 2) (aa (f2 ao (ab 3) (fC (.int 0))) (aa (f2 ao (ab 3) (fC (.int 1))) ae)))) ρ=some (ag (s.2.set p.1 p.2)):=fun ρ a b =>
  call_of (rW (c:=s.2) (i:=p.1) (v:=p.2) (by rw[i.len];exact h1) (by rw[i.len];omega)) (cons_of a (cons_of (ar (JO _ _) b rfl) (cons_of (ar (Ma _ _ _) b rfl) rfl))) rfl
 have t2:Dl.aJ 2 [2,3] (ah 3 bT (aa (ab 2) (aa (f2 ao (ab 3) (fC (.int 0))) (aa (f2 ao (ab 3) (fC (.int 1))) ae)))) [.val (ax G T W),.own (pS s.1++[xk (some p)]),.val (ag s.2),.val (xk (some p))]=some (.nx [.val (ax G T W),.own (pS s.1++[xk (some p)]),.val (ag (s.2.set p.1 p.2)),.val (xk (some p))]) :=
  cx (hlow _ rfl rfl) (hlow _ rfl rfl) rfl
 have hl2:(s.2.set p.1 p.2).length=W.length:=by rw[yD,i.len]
 have t3:Dl.aJ 3 [0,2] (ah 2 dB (aa (ab 0) (aa (ab 2) ae))) [.val (ax G T W),.own (pS s.1++[xk (some p)]),.val (ag (s.2.set p.1 p.2)),.val (xk (some p))]=some (.nx [.val (ax G T W),.own (pS s.1++[xk (some p)]),.val (ag (s.2.set p.1 p.2)),.val (xk (qQ G T W (s.2.set p.1 p.2)))]) :=
  cx (call_of (jT h hl2) rfl rfl) (call_of (jT h hl2) rfl rfl) rfl
 unfold MC
 rw[aj t1,aj t2,t3,sg e]
 unfold G9
 rw[EY]
theorem pE{G T:List Pl}{W:List Wy}{s:Sp}(h:Ik G T W s=true):∃p,qQ G T W s.2=some p:=Option.isSome_iff_exists.mp h
theorem Gi{G T:List Pl}{W:List Wy}(h:Wd G T W):nN [ax G T W]=some (.list (pS (fin G T W).1))/\z6 W (fin G T W):=by
 have hb:=h.mea
 have t1:bp 1 [] (ke ae) [.val (ax G T W),.non,.non,.non]=some (.nx [.val (ax G T W),.own [],.non,.non]):=iq (f:=ke ae) (ds:=[]) (show small []=some [] from bA (by simp)) rfl
 have t2:Dl.aJ 2 [0] (ah 1 eI (aa (ab 0) ae)) [.val (ax G T W),.own [],.non,.non]=some (.nx [.val (ax G T W),.own [],.val (ag (dJ W)),.non]) :=
  cx (call_of (lM h) rfl rfl) (call_of (lM h) rfl rfl) rfl
 have t3:Dl.aJ 3 [0,2] (ah 2 dB (aa (ab 0) (aa (ab 2) ae))) [.val (ax G T W),.own [],.val (ag (dJ W)),.non]=some (.nx (G9 G T W ([],dJ W))) :=
  cx (call_of (jT h (kZ W)) rfl rfl) (call_of (jT h (kZ W)) rfl rfl) rfl
 obtain⟨ρ',ew,⟨rfl,iv⟩,_⟩:=u0 (t:=(fB (f2 m6 (ab 3) (fC .none)))) (gb:=MC) (R:=fun s ρ=>ρ=G9 G T W s/\z6 W s) (Ik G T W) (spS G T W) (fun s=>mea s.2)
  (fun s ρ ⟨hρ,i⟩=>by
   subst hρ
   exact bW (ar (GX _) rfl rfl))
  (fun s ρ ⟨hρ,i⟩ hc=>by
   subst hρ
   obtain⟨p,e⟩:=pE hc
   exact⟨_,EX h i e,⟨rfl,(i.step h e).1⟩,(i.step h e).2⟩)
  Rf.turns ([],dJ W) (G9 G T W ([],dJ W)) (Nat.lt_of_le_of_lt hb (by decide)) ⟨rfl,z6.start h⟩
 refine⟨?_,iv⟩
 refine aH ?_
 show nQ [.val (ax G T W),.non,.non,.non]=_
 unfold nQ
 rw[aj t1,aj t2,aj t3]
 refine (aj ew).trans ?_
 exact aL rfl
theorem F9(c:List Int)(p:Nat×Int):(low c p).length=c.length:=by simp[low]
theorem EC{G T:List Pl}{W:List Wy}(h:Wd G T W){r:List (Nat×Int)}(hr:∀p∈r,p.1 < W.length):lr [ax G T W,.list (pS r)]=some (ag (r.foldl low (dJ W))):=by
 have hw:=h.wl
 have t2:Dl.aJ 2 [0] (ah 1 eI (aa (ab 0) ae)) [.val (ax G T W),.val (.list (pS r)),.non,.non,.non]=some (.nx [.val (ax G T W),.val (.list (pS r)),.val (ag (dJ W)),.non,.non]) :=
  cx (call_of (lM h) rfl rfl) (call_of (lM h) rfl rfl) rfl
 obtain⟨ρ',e3,hs',x,y,rfl⟩:=kY (tgt:=qr 3 4) (gb:=Dl.aJ 2 [2,3,4] (ah 3 bT (aa (ab 2) (aa (ab 3) (aa (ab 4) ae))))) (R:=fun (c:List Int) ρ=>c.length=W.length/\∃x y,ρ=[.val (ax G T W),.val (.list (pS r)),.val (ag c),x,y]) (fun p:Nat×Int=>ag [((p.1:Nat):Int),p.2]) low
  (l:=r) (s:=dJ W) (ρ:=[.val (ax G T W),.val (.list (pS r)),.val (ag (dJ W)),.non,.non])
  (fun c ρ p hp ⟨hc,x,y,hρ⟩=>by
   subst hρ
   have el:=rW (c:=c) (i:=p.1) (v:=p.2) (by rw[hc];exact hr p hp) (by omega)
   have t:Dl.aJ 2 [2,3,4] (ah 3 bT (aa (ab 2) (aa (ab 3) (aa (ab 4) ae)))) [.val (ax G T W),.val (.list (pS r)),.val (ag c),.val (nD p.1),.val (.int p.2)]=some (.nx [.val (ax G T W),.val (.list (pS r)),.val (ag (low c p)),.val (nD p.1),.val (.int p.2)]) :=
    cx (call_of el rfl rfl) (call_of el rfl rfl) rfl
   exact⟨_,_,rfl,t,by rw[F9,hc],_,_,rfl⟩) ⟨kZ W,_,_,rfl⟩
 refine aH ?_
 show lI [.val (ax G T W),.val (.list (pS r)),.non,.non,.non]=_
 unfold lI
 rw[aj t2]
 refine (aj (gc e3 ?_ rfl)).trans (aL rfl)
 show some (pS r)=_
 rw[pS,zM]
 rfl
theorem pX{G T:List Pl}{W:List Wy}(h:Wd G T W):aI [ax G T W]=some (ag (aB false G T W (fin G T W).2)):=by
 obtain⟨e1,i⟩:=Gi h
 have e2:=EC h i.mem
 rw[<- i.eq] at e2
 refine aH ?_
 show eA [.val (ax G T W)]=_
 unfold eA
 refine (aj (cD (call_of (cS h) rfl rfl))).trans ?_
 exact aL (call_of (eR h i.len false) (cons_of rfl (cons_of rfl (cons_of (call_of e2 (cons_of rfl (cons_of (call_of e1 rfl rfl) rfl)) rfl) rfl))) rfl)
noncomputable def Ko(w:Wy):Wy:=(w.2.1,w.1,w.2.2)
structure Ord(W:List Wy)(π:List Nat):Prop where
 perm:π.Perm (List.range W.length)
 up:π.Pairwise fun i j=>(aD W i).2.1 < (aD W j).2.1\/((aD W i).2.1=(aD W j).2.1/\(aD W i).1 < (aD W j).1)
noncomputable def fT(W:List Wy)(π:List Nat):List Wy:=π.map fun i=>Ko (aD W i)
noncomputable def v9(P:List Int)(π:List Nat):List Int:=π.map fun i=>P.getD i 0
section
variable {W:List Wy}{π π':List Nat}{P:List Int}{G T:List Pl}
theorem Ord.len(o:Ord W π):π.length=W.length:=by rw[o.perm.length_eq,zS]
theorem Ord.lt(o:Ord W π){k:Nat}(hk:k < W.length):π.getD k 0 < W.length:=by
 have h:k < π.length:=by rw[o.len];exact hk
 have:=o.perm.mem_iff.mp (List.getElem_mem h)
 rw[zG,zK h]
 simpa using this
theorem Ord.ex(o:Ord W π){i:Nat}(hi:i < W.length):∃k,k < W.length/\π.getD k 0=i:=by
 have:i∈π:=o.perm.mem_iff.mpr (by simpa using hi)
 obtain⟨k,hk,e⟩:=List.getElem_of_mem this
 exact⟨k,by rw[<- o.len];exact hk,by rw[zG,zK hk];exact e⟩
theorem eB(o:Ord W π):(fT W π).length=W.length:=by simp[fT,o.len]
theorem GQ(o:Ord W π):(v9 P π).length=W.length:=by simp[v9,o.len]
theorem gp(o:Ord W π){k:Nat}(hk:k < W.length):aD (fT W π) k=Ko (aD W (π.getD k 0)):=by
 have h:k < π.length:=by rw[o.len];exact hk
 simp[aD,fT,h,zG]
theorem sY(o:Ord W π){k:Nat}(hk:k < W.length):(v9 P π).getD k 0=P.getD (π.getD k 0) 0:=by
 have h:k < π.length:=by rw[o.len];exact hk
 simp[v9,h,zG]
theorem tQ(b:Bool)(w:Wy):bh (!b) (Ko w)=bh b w:=by cases b<;>rfl
theorem tN(b:Bool)(w:Wy):bQ (!b) (Ko w)=bQ b w:=by cases b<;>rfl
theorem Ord.ris(o:Ord W π):um (fT W π):=by
 unfold um fT
 rw[List.pairwise_map]
 exact o.up
theorem Je(h:um W){i j:Nat}(hi:i < W.length)(hj:j < W.length)(e:(aD W i).1 < (aD W j).1\/((aD W i).1=(aD W j).1/\(aD W i).2.1 < (aD W j).2.1)):i < j:=by
 rcases Nat.lt_or_ge i j with q|q
 ·exact q
 ·exfalso
  rcases Nat.eq_or_lt_of_le q with q|q
  ·subst q;omega
  ·have:=List.pairwise_iff_getElem.mp h j i hj hi q
   rw[iR hi,iR hj] at this
   omega
theorem wk{l:List Nat}{n:Nat}(p:l.Perm (List.range n))(h:l.Pairwise (· < ·)):l=List.range n:=by
 refine gy (fun i=>((i:Nat):Int)) p (h.imp fun {a b} q=>by omega) (List.pairwise_lt_range.imp fun {a b} q=>by omega)
theorem map_getD(l:List Nat):(List.range l.length).map (fun k=>l.getD k 0)=l:=by
 apply List.ext_getElem
 ·simp
 ·intro i h1 h2
  simp[h2]
theorem Ord.back(h:um W)(o:Ord W π)(o':Ord (fT W π) π'):π'.map (fun k=>π.getD k 0)=List.range W.length:=by
 have hl:(fT W π).length=W.length:=eB o
 refine wk ?_ ?_
 ·have:=(o'.perm.map fun k=>π.getD k 0)
  rw[hl,<- o.len,map_getD] at this
  exact this.trans o.perm
 ·rw[List.pairwise_map]
  refine o'.up.imp_of_mem fun {i j} hi hj q=>?_
  have hi':i < W.length:=by have:=o'.perm.mem_iff.mp hi;rw[hl] at this;simpa using this
  have hj':j < W.length:=by have:=o'.perm.mem_iff.mp hj;rw[hl] at this;simpa using this
  rw[gp o hi',gp o hj'] at q
  exact Je h (o.lt hi') (o.lt hj') q
theorem zw(h:um W)(o:Ord W π)(o':Ord (fT W π) π'):fT (fT W π) π'=W:=by
 have hl:(fT W π).length=W.length:=eB o
 have e:fT (fT W π) π'=(π'.map fun k=>π.getD k 0).map fun i=>aD W i:=by
  unfold fT
  rw[zM]
  refine yI fun k hk=>?_
  have hk':k < W.length:=by have:=o'.perm.mem_iff.mp hk;rw[hl] at this;simpa using this
  have:=gp o hk'
  unfold fT at this
  rw[this];rfl
 rw[e,o.back h o']
 have:=map_range (0,0,0) (fun w:Wy=>w) W
 simpa [aD] using this
theorem CL(o:Ord W π)(b:Bool)(p:Int):((own (!b) (fT W π) p).map fun k=>π.getD k 0).Perm (own b W p):=by
 have hl:(fT W π).length=W.length:=eB o
 have e:((own (!b) (fT W π) p).map fun k=>π.getD k 0)=π.filter fun i=>decide (bh b (aD W i)=p):=by
  conv=>rhs;rw[<- map_getD π,List.filter_map,o.len]
  unfold own
  rw[hl]
  congr 1
  refine List.filter_congr fun k hk=>?_
  have hk':k < W.length:=by simpa using hk
  rw[gp o hk',tQ];rfl
 rw[e]
 exact o.perm.filter _
theorem D5(o:Ord W π)(b:Bool)(p:Int):(Kw (!b) (fT W π) p).Perm (Kw b W p):=by
 have hl:(fT W π).length=W.length:=eB o
 rw[<- j5,<- j5]
 have:=(CL o b p).map fun i=>bQ b (aD W i)
 rw[zM] at this
 refine List.Perm.trans (List.Perm.of_eq ?_) this
 refine yI fun k hk=>?_
 have hk':k < W.length:=by have:=(cf.mp hk).1;rwa [hl] at this
 show bQ (!b) (aD (fT W π) k)=bQ b (aD W (π.getD k 0))
 rw[gp o hk',tN]
theorem Ord.wd(h:Wd G T W)(o:Ord W π):Wd T G (fT W π) where
 g1:=h.t1
 g4:=h.t4
 t1:=h.g1
 t4:=h.g4
 ga:=h.ta
 ta:=h.ga
 gl:=fun i p e=>(h.tl i p e).trans (D5 o true i).symm
 tl:=fun i p e=>(h.gl i p e).trans (D5 o false i).symm
 wr:=fun w hw=>by
  obtain⟨i,hi,rfl⟩:=zQ.mp hw
  have hi':i < W.length:=by have:=o.perm.mem_iff.mp hi;simpa using this
  have:=h.wr (aD W i) (by rw[<- iR hi'];exact List.getElem_mem _)
  exact⟨this.2.1,this.1,this.2.2⟩
 wp:=o.ris
 wl:=by rw[eB o];exact h.wl
theorem sM(b:Bool)(G T:List Pl):aM (!b) T G=aM b G T:=by cases b<;>rfl
theorem D2(b:Bool)(G T:List Pl)(i:Nat):bU (!b) T G i=bU b G T i:=by unfold bU;rw[sM]
noncomputable def i5(b:Bool)(W:List Wy)(P:List Int)(p:Int):Int:=((own b W p).map fun i=>P.getD i 0).sum
theorem vb{l m:List Int}(p:l.Perm m):l.sum=m.sum:=by
 induction p with
 | nil=>rfl
 | cons x _ ih=>simp[ih]
 | swap x y l=>simp only[List.sum_cons];omega
 | trans _ _ h1 h2=>exact h1.trans h2
theorem DP(o:Ord W π)(b:Bool)(p:Int):i5 (!b) (fT W π) (v9 P π) p=i5 b W P p:=by
 have hl:(fT W π).length=W.length:=eB o
 have:=vb ((CL o b p).map fun i=>P.getD i 0)
 unfold i5
 rw[<- this,zM]
 congr 1
 refine yI fun k hk=>?_
 have hk':k < W.length:=by have:=(cf.mp hk).1;rwa [hl] at this
 exact sY o hk'
theorem JE(h:Wd G T W)(o:Ord W π){b:Bool}{i:Nat}{p:Pl}(e:(aM b G T)[i]?=some p){x:Int}(hx:x∈p.2):mU (!b) (fT W π) i x < W.length/\π.getD (mU (!b) (fT W π) i x) 0=mU b W i x:=by
 have e':(aM (!b) T G)[i]?=some p:=by rw[sM];exact e
 obtain⟨h1,h2,h3⟩:=k8 (o.wd h) e' hx
 obtain⟨g1,g2,g3⟩:=k8 h e hx
 rw[eB o] at h1
 rw[gp o h1,tQ] at h2
 rw[gp o h1,tN] at h3
 exact⟨h1,vy h.wp (o.lt h1) g1 (by rw[h2,g2]) (by rw[h3,g3])⟩
end
noncomputable def pW(L:List Int)(x:Int):Nat:=L.findIdx fun o=>decide (o=x)
noncomputable def tq(b:Bool)(G T:List Pl)(W:List Wy)(P:List Int)(k:Nat):Bool :=
 decide (i5 b W P (bh b (aD W k)) < (bU b G T (bh b (aD W k)).toNat).1) ||
 ((bU b G T (bh b (aD W k)).toNat).2.drop (pW (bU b G T (bh b (aD W k)).toNat).2 (bQ b (aD W k))+1)).any fun o=>decide (0 < P.getD (mU b W (bh b (aD W k)) o) 0)
noncomputable def kb(G T:List Pl)(W:List Wy)(P:List Int)(k:Nat):Nat :=
 if P.getD k 0=(aD W k).2.2 then 0 else if tq false G T W P k=false then 1 else if tq true G T W P k=false then 2 else 3
noncomputable def A3(G T:List Pl)(W:List Wy)(P:List Int):List Nat:=(List.range W.length).filter fun k=>decide (kb G T W P k=3)
section
variable {W:List Wy}{π π':List Nat}{P:List Int}{G T:List Pl}
theorem Wd.end_pl(h:Wd G T W)(b:Bool){k:Nat}(hk:k < W.length):0<=bh b (aD W k)/\(bh b (aD W k)).toNat < (aM b G T).length/\((bh b (aD W k)).toNat:Int)=bh b (aD W k):=by
 have:=h.wr (aD W k) (by rw[<- iR hk];exact List.getElem_mem _)
 cases b
 ·simp only[bh,aM,Bool.false_eq_true,if_false];omega
 ·simp only[bh,aM,if_true];omega
theorem sd{α:Type}{p q:α->Bool}:∀ {l:List α},(∀x∈l,p x=q x)->l.any p=l.any q
 | [],_=>rfl
 | a::l,h=>by rw[List.any_cons,List.any_cons,h a zE,sd fun x hx=>h x (zC _ hx)]
theorem Ez(h:Wd G T W)(o:Ord W π)(b:Bool){k:Nat}(hk:k < W.length):tq (!b) T G (fT W π) (v9 P π) k=tq b G T W P (π.getD k 0):=by
 obtain⟨h1,h2,h3⟩:=h.end_pl b (o.lt hk)
 unfold tq
 rw[gp o hk,tQ,tN,D2,DP o]
 congr 1
 rw[<- h3]
 simp only[yH]
 refine sd fun x hx=>?_
 obtain⟨e1,e2⟩:=JE h o (jb h2) (List.mem_of_mem_drop hx)
 rw[sY o e1,e2]
theorem Jx(h:Wd G T W)(o:Ord W π){k:Nat}(hk:k < W.length):(kb T G (fT W π) (v9 P π) k=3)↔(kb G T W P (π.getD k 0)=3):=by
 have e1:=Ez (P:=P) h o false hk
 have e2:=Ez (P:=P) h o true hk
 simp only[Bool.not_false,Bool.not_true] at e1 e2
 unfold kb
 rw[sY o hk,gp o hk,e1,e2]
 have:(Ko (aD W (π.getD k 0))).2.2=(aD W (π.getD k 0)).2.2:=rfl
 rw[this]
 cases tq false G T W P (π.getD k 0)<;>cases tq true G T W P (π.getD k 0)<;>simp<;>split<;>simp
theorem K3(h:Wd G T W)(o:Ord W π):((A3 T G (fT W π) (v9 P π)).map fun k=>π.getD k 0).Perm (A3 G T W P):=by
 have hl:(fT W π).length=W.length:=eB o
 have e:((A3 T G (fT W π) (v9 P π)).map fun k=>π.getD k 0)=π.filter fun i=>decide (kb G T W P i=3):=by
  conv=>rhs;rw[<- map_getD π,List.filter_map,o.len]
  unfold A3
  rw[hl]
  congr 1
  refine List.filter_congr fun k hk=>?_
  have hk':k < W.length:=by simpa using hk
  exact decide_eq_decide.mpr (Jx h o hk')
 rw[e]
 exact o.perm.filter _
theorem Io(h:Wd G T W)(o:Ord W π):(A3 T G (fT W π) (v9 P π)=[])↔(A3 G T W P=[]):=by
 have:=(K3 (P:=P) h o).length_eq
 rw[zD] at this
 rw[<- List.length_eq_zero_iff,<- List.length_eq_zero_iff,this]
structure Pn(G T:List Pl)(W:List Wy)(P:List Int):Prop where
 len:P.length=W.length
 bd:∀k,k < W.length->0<=P.getD k 0/\P.getD k 0<=(aD W k).2.2
 am:∀ (b:Bool) (i:Nat),i < (aM b G T).length->i5 b W P i<=(bU b G T i).1
theorem Pn.tu(h:Wd G T W)(o:Ord W π)(p:Pn G T W P):Pn T G (fT W π) (v9 P π) where
 len:=by rw[GQ o,eB o]
 bd:=fun k hk=>by
  rw[eB o] at hk
  rw[sY o hk,gp o hk]
  exact p.bd _ (o.lt hk)
 am:=fun b i hi=>by
  have:=p.am (!b) i (by rw[<- sM b T G] at hi;exact hi)
  rw[<- DP o (!b),<- D2 (!b),Bool.not_not] at this
  exact this
end
section
variable {W:List Wy}{G T:List Pl}{off:List Int}
theorem yP(h:Wd G T W)(b:Bool):∀ (n:Nat),n<=(aM b G T).length ->
  ((List.range n).foldl (uX b G T W off) (List.replicate W.length 0)).length=W.length/\∀k,k < W.length ->
   ((List.range n).foldl (uX b G T W off) (List.replicate W.length 0)).getD k 0=if bh b (aD W k) < n then (chs W off (bU b G T (bh b (aD W k)).toNat).1 (eK b W (bh b (aD W k)).toNat (bU b G T (bh b (aD W k)).toNat).2)).getD k 0 else 0
 | 0,_=>by
  refine⟨by simp,fun k hk=>?_⟩
  obtain⟨h1,_,_⟩:=h.end_pl b hk
  rw[if_neg (by omega)]
  simp[zG,hk]
 | n+1,hn=>by
  obtain⟨h1,h2⟩:=yP h b n (by omega)
  rw[List.range_succ,List.foldl_append,yJ,List.foldl_nil]
  generalize (List.range n).foldl (uX b G T W off) (List.replicate W.length 0)=s at h1 h2
  refine⟨nL h1,fun k hk=>?_⟩
  have hz:(uX b G T W off s n).getD k 0=s.getD k 0+(chs W off (bU b G T n).1 (eK b W n (bU b G T n).2)).getD k 0:=uC (by omega) (by rw[ll];exact hk)
  rw[hz,h2 k hk]
  obtain⟨g1,_,_⟩:=h.end_pl b hk
  have e:=jb (b:=b) (G:=G) (T:=T) (i:=n) (by omega)
  by_cases he:bh b (aD W k)=n
  ·have hn':(bh b (aD W k)).toNat=n:=by omega
   rw[if_neg (by omega),if_pos (by omega),hn']
   omega
  ·have hni:k∉eK b W n (bU b G T n).2:=fun z=>he (cf.mp ((eC h e).mem_iff.mp z)).2
   rw[yQ hni]
   by_cases hlt:bh b (aD W k) < n
   ·rw[if_pos hlt,if_pos (by omega)];omega
   ·rw[if_neg hlt,if_neg (by omega)];rfl
theorem CV(h:Wd G T W)(b:Bool){k:Nat}(hk:k < W.length):(aB b G T W off).getD k 0=(chs W off (bU b G T (bh b (aD W k)).toNat).1 (eK b W (bh b (aD W k)).toNat (bU b G T (bh b (aD W k)).toNat).2)).getD k 0:=by
 have:=(yP (off:=off) h b _ (Nat.le_refl _)).2 k hk
 obtain⟨_,h2,h3⟩:=h.end_pl b hk
 rw[if_pos (by omega)] at this
 exact this
theorem yw{amt:Int}:∀ (is:List Nat) (s:Int×List Int),is.Nodup->(∀i∈is,i < s.2.length/\s.2.getD i 0=0) ->
  ((is.foldl (kX W off) s).2.length=s.2.length)/\(is.map fun i=>(is.foldl (kX W off) s).2.getD i 0).sum=s.1 - (is.foldl (kX W off) s).1/\∀j,j∉is->(is.foldl (kX W off) s).2.getD j 0=s.2.getD j 0
 | [],s,_,_=>⟨rfl,by simp,fun _ _=>rfl⟩
 | i::is,s,hn,hz=>by
  rw[List.nodup_cons] at hn
  obtain⟨hi,h0⟩:=hz i zE
  have hs:∀j∈is,j < (kX W off s i).2.length/\(kX W off s i).2.getD j 0=0:=fun j hj=>by
   obtain⟨a,b⟩:=hz j (zC _ hj)
   refine⟨by simpa [kX] using a,?_⟩
   simp only[kX,cn]
   have hne:¬ (i=j/\j < s.2.length):=fun z=>hn.1 (z.1 ▸ hj)
   rw[if_neg hne,b]
  obtain⟨r1,r2,r3⟩:=yw (amt:=amt) is (kX W off s i) hn.2 hs
  rw[yJ]
  refine⟨by rw[r1];simp[kX],?_,fun j hj=>?_⟩
  ·rw[zI,List.sum_cons,r2,r3 i hn.1]
   simp only[kX,cn]
   rw[if_pos ⟨trivial,hi⟩]
   omega
  ·rw[r3 j fun z=>hj (zC _ z)]
   simp only[kX,cn]
   have hne:¬ (i=j/\j < s.2.length):=fun z=>hj (z.1 ▸ zE)
   rw[if_neg hne]
theorem uP(ho:Off off)(hl:MX W):∀ (is:List Nat) (s:Int×List Int),0<=s.1->0<=(is.foldl (kX W off) s).1
 | [],s,h=>h
 | i::is,s,h=>by
  rw[yJ]
  refine uP ho hl is _ ?_
  simp only[kX,cV]
  have:=ho i;have:=hl i
  omega
theorem EZ(h:Wd G T W)(ho:Off off){b:Bool}{i:Nat}(hi:i < (aM b G T).length) :
  ((own b W i).map fun k=>(chs W off (bU b G T i).1 (eK b W i (bU b G T i).2)).getD k 0).sum<=(bU b G T i).1:=by
 have e:=jb hi
 have pm:=eC h e
 rw[<- vb (pm.map fun k=>(chs W off (bU b G T i).1 (eK b W i (bU b G T i).2)).getD k 0)]
 have hn:(eK b W i (bU b G T i).2).Nodup:=pm.nodup_iff.mpr (List.nodup_range.filter _)
 obtain⟨_,r2,_⟩:=yw (W:=W) (off:=off) (amt:=0) (eK b W i (bU b G T i).2) ((bU b G T i).1,List.replicate W.length 0) hn fun k hk=>by
  have hk':=(cf.mp (pm.mem_iff.mp hk)).1
  refine⟨by simpa using hk',by simp[zG,hk']⟩
 have:=uP ho h.lim (eK b W i (bU b G T i).2) ((bU b G T i).1,List.replicate W.length 0) (h.amt b i)
 unfold chs
 rw[r2]
 show (bU b G T i).1 - _<=(bU b G T i).1
 omega
theorem zq(h:Wd G T W)(ho:Off off){b:Bool}{i:Nat}(hi:i < (aM b G T).length):i5 b W (aB b G T W off) i<=(bU b G T i).1:=by
 refine Int.le_trans (Int.le_of_eq ?_) (EZ h ho hi)
 unfold i5
 congr 1
 refine yI fun k hk=>?_
 obtain⟨hk',he⟩:=cf.mp hk
 have:=CV (off:=off) h b hk'
 rw[he,yH] at this
 exact this
theorem Ab{b:Bool}{P Q:List Int}{p:Int}(h:∀k,k < W.length->P.getD k 0=Q.getD k 0):i5 b W P p=i5 b W Q p:=by
 unfold i5
 congr 1
 exact yI fun k hk=>h k (cf.mp hk).1
theorem Gb(h:Wd G T W){c:List Int}(ho:Off c)(hc:∀k,k < W.length->c.getD k 0<=(aD W k).2.2)(e:qQ G T W c=none):Pn G T W (aB false G T W c) where
 len:=cJ _ _ _ _ _
 bd:=fun k hk=>⟨iL h ho false k,Int.le_trans (w6 h ho false hk) (hc k hk)⟩
 am:=fun b i hi=>by
  cases b
  ·exact zq h ho hi
  ·have hke:∀k,k < W.length->(jk G T W c).getD k 0=(aB false G T W c).getD k 0:=fun k hk=>by
    have h1:=w6 h (iL h ho false) true hk
    have h2:qR G T W c k=false:=by
     unfold qQ at e
     rw[Option.map_eq_none_iff] at e
     have:=List.find?_eq_none.mp e k (by simpa using hk)
     simpa using this
    unfold qR at h2
    have h3:=of_decide_eq_false h2
    unfold jk at h3 ⊢
    omega
   rw[<- Ab hke]
   exact zq h (iL h ho false) hi
end
noncomputable def HS(G T:List Pl)(W:List Wy)(P:List Int):Bool :=
 ((List.range G.length).all fun i=>decide (i5 false W P i<=(bU false G T i).1))&&((List.range T.length).all fun i=>decide (i5 true W P i<=(bU true G T i).1))
noncomputable def zs(n:Nat):List Int:=List.replicate n 0
section
variable {W:List Wy}{G T:List Pl}{d:Nat->Int}
theorem DU{P:List Int}:HS G T W P=true↔∀ (b:Bool) (i:Nat),i < (aM b G T).length->i5 b W P i<=(bU b G T i).1:=by
 unfold HS
 rw[zF,List.all_eq_true,List.all_eq_true]
 constructor
 ·rintro⟨h1,h2⟩ b i hi
  cases b
  ·exact of_decide_eq_true (h1 i (by simpa [aM] using hi))
  ·exact of_decide_eq_true (h2 i (by simpa [aM] using hi))
 ·intro h
  exact⟨fun i hi=>yB (h false i (by simpa [aM] using hi)),fun i hi=>yB (h true i (by simpa [aM] using hi))⟩
theorem Pn.fit{P:List Int}(p:Pn G T W P):HS G T W P=true:=DU.mpr p.am
end
theorem rQ{tt:Dl.Env->Option Bool}{te:Dl.Env->Option D}{r:List (Option D)}{x y h:Nat->D}{p:Nat->Bool}:∀ (is:List Nat),
  (∀i∈is,tt (some (x i)::some (y i)::r)=some (p i)/\(p i=true->te (some (x i)::some (y i)::r)=some (h i))) ->
  dv (jo 0 1) tt te (none::none::r) (is.map fun i=>.tuple [x i,y i])=some ((is.filter p).map h)
 | [],_=>rfl
 | i::is,hh=>by
  obtain⟨h1,h2⟩:=hh i zE
  have ih:=rQ is fun j hj=>hh j (zC _ hj)
  have hg:jo 0 1 (none::none::r) (.tuple [x i,y i])=some (some (x i)::some (y i)::r):=by
   simp only[jo,isFree,List.getElem?_cons_zero,List.getElem?_cons_succ,Option.getD_some,Option.isNone_none,and_self,if_true,List.set_cons_zero,List.set_cons_succ]
  rw[zI,dv,hg]
  simp only[zA,h1]
  cases hp:p i with
  | true=>simp[h2 hp,ih,hp]
  | false=>simp[ih,hp]
theorem lu{cs:List Nat}{fi:Dl.Env->Option (List D)}{tt:Dl.Env->Option Bool}{te:Dl.Env->Option D}{ρ:Dl.Env}{n:Nat}{x y h:Nat->D}{p:Nat->Bool}(hfi:fi ρ=some ((List.range n).map fun i=>.tuple [x i,y i]))(hl:n<=1000)
  (hh:∀i,i < n->tt (some (x i)::some (y i)::cs.map fun j=>(ρ[j]?).getD none)=some (p i)/\(p i=true->te (some (x i)::some (y i)::cs.map fun j=>(ρ[j]?).getD none)=some (h i))) :
  aq 2 cs fi (jo 0 1) tt te ρ=some (((List.range n).filter p).map h):=by
 have:=rQ (tt:=tt) (te:=te) (r:=cs.map fun j=>(ρ[j]?).getD none) (p:=p) (h:=h) (List.range n) fun i hi=>hh i (by simpa using hi)
 simp only[aq,hfi,zA,fM,List.replicate,List.cons_append,List.nil_append,this]
 refine bA ?_
 rw[zD]
 refine yE (List.length_filter_le _ _) ?_
 rw[zS]
 omega
theorem rL{W:List Wy}{P:List Int}(h:P.length=W.length):je (W.map aA) (P.map PyData.int)=(List.range W.length).map fun i=>.tuple [aA (aD W i),.int (P.getD i 0)]:=by
 apply List.ext_getElem?
 intro i
 by_cases hi:i < W.length
 ·have hz:i < (je (W.map aA) (P.map PyData.int)).length:=by rw[lP];simp[h];exact hi
  rw[zK hz]
  obtain⟨x,y,e1,e2,e3⟩:=oG (zK hz)
  rw[zO,lT hi] at e1
  rw[zO,zK (by omega)] at e2
  cases e1
  have e2:PyData.int P[i]=y:=by simpa using e2
  rw[e3,<- e2]
  have:i < P.length:=by omega
  simp[hi,this,zG]
 ·rw[List.getElem?_eq_none (by rw[lP];simp;omega),List.getElem?_eq_none (by simp;omega)]
def Sm(P:List Int):Prop:=∀k,-1000000<=P.getD k 0/\P.getD k 0<=1000000
theorem Fu{W:List Wy}{P:List Int}(hs:Sm P)(hw:W.length<=16)(b:Bool)(p:Int):FZ ((own b W p).map fun i=>P.getD i 0)=true:=by
 unfold FZ
 rw[zF,zJ,List.all_eq_true]
 refine⟨?_,fun x hx=>?_⟩
 ·have:=tG b W p
  rw[zD]
  omega
 ·obtain⟨i,_,rfl⟩:=zQ.mp hx
  rw[zF,zJ,zJ]
  exact hs i
theorem gX{G T:List Pl}{W:List Wy}(h:Wd G T W){P:List Int}(hp:P.length=W.length)(hs:Sm P)(b:Bool)(p:Int):bb [ax G T W,ag P,.int (sI b),.int p]=some (.int (i5 b W P p)):=by
 have hw:=h.wl
 refine aH ?_
 show mN [.val (ax G T W),.val (ag P),.val (.int (sI b)),.val (.int p)]=_
 have hz:iZ (aa (f2 ao (ab 0) (fC (.int 2))) (aa (ab 1) ae)) [some (ax G T W),some (ag P),some (.int (sI b)),some (.int p)]=some ((List.range W.length).map fun i=>.tuple [aA (aD W i),.int (P.getD i 0)]):=by
  rw[<- rL hp]
  rfl
 have c:aq 2 [2,3] (iZ (aa (f2 ao (ab 0) (fC (.int 2))) (aa (ab 1) ae))) (jo 0 1) (fB (f2 cN (f2 ao (ab 0) (ab 2)) (ab 3))) (ab 1) [some (ax G T W),some (ag P),some (.int (sI b)),some (.int p)]=some ((own b W p).map fun i=>.int (P.getD i 0)):=by
  rw[lu (p:=fun i=>decide (bh b (aD W i)=p)) (h:=fun i=>.int (P.getD i 0)) hz (by omega) fun i hi=>⟨?_,fun _=>rfl⟩]
  ·rfl
  ·show fB (f2 cN (f2 ao (ab 0) (ab 2)) (ab 3)) [some (aA (aD W i)),some (.int (P.getD i 0)),some (.int (sI b)),some (.int p)]=_
   exact bW (by rw[jr (a:=.int (bh b (aD W i))) (b:=.int p) (ar (sX b _) rfl rfl) rfl,gZ])
 refine aL ?_
 have e:((own b W p).map fun i=>PyData.int (P.getD i 0))=((own b W p).map fun i=>P.getD i 0).map PyData.int:=by rw[zM];rfl
 show bf kf (aa (dh (aq 2 [2,3] (iZ (aa (f2 ao (ab 0) (fC (.int 2))) (aa (ab 1) ae))) (jo 0 1) (fB (f2 cN (f2 ao (ab 0) (ab 2)) (ab 3))) (ab 1))) ae) [some (ax G T W),some (ag P),some (.int (sI b)),some (.int p)]=_
 rw[e] at c
 simp only[bf,aa,ae,dh,c,zB,zA]
 show kf [.list (((own b W p).map fun i=>P.getD i 0).map PyData.int)]=_
 simp only[kf,dF,oneOf,i7,zA,cw,Fu hs hw b p,if_true]
 rfl
theorem o6(L:List Pl):cM 0 (L.map aQ)=(List.range L.length).map fun i=>.tuple [nD i,aQ (L.getD i (0,[]))]:=by
 rw[enum_zip]
 apply List.ext_getElem
 ·simp
 ·intro i h1 h2
  have:i < L.length:=by simpa using h2
  simp[this,zG]
theorem qX{p:Nat->Bool}(is:List Nat):lb [.list (is.map fun i=>.bool (p i))]=some (.bool (is.all p)):=by
 have:∀is:List Nat,boolsOf (is.map fun i=>PyData.bool (p i))=some (is.map p):=fun is=>by
  induction is with
  | nil=>rfl
  | cons i is ih=>simp[boolsOf,ih]
 simp only[lb,oneOf,zA,this,zB,List.all_map]
 rfl
theorem zp{G T:List Pl}{W:List Wy}(h:Wd G T W){P:List Int}(hp:P.length=W.length)(hs:Sm P)(b:Bool):cg [ax G T W,ag P,.int (sI b)]=some (.bool ((List.range (aM b G T).length).all fun i=>decide (i5 b W P i<=(bU b G T i).1))):=by
 have hl:=h.pl b
 refine aH ?_
 show eQ [.val (ax G T W),.val (ag P),.val (.int (sI b))]=_
 have he:fP (aa (f2 ao (ab 0) (ab 2)) ae) [some (ax G T W),some (ag P),some (.int (sI b))]=some ((List.range (aM b G T).length).map fun i=>.tuple [nD i,aQ (bU b G T i)]):=by
  have:=o6 (aM b G T)
  unfold bU
  rw[<- this]
  cases b<;>rfl
 have c:=lu (cs:=[0,1,2]) (tt:=fun _=>some true) (te:=f2 yl (ah 4 bb (aa (ab 2) (aa (ab 3) (aa (ab 4) (aa (ab 0) ae))))) (f2 ao (ab 1) (fC (.int 0)))) (p:=fun _=>true) (h:=fun i=>.bool (decide (i5 b W P i<=(bU b G T i).1))) he (by omega) fun i hi=>⟨rfl,fun _=>ar (a:=.int (i5 b W P i)) (b:=.int (bU b G T i).1) rfl (call_of (gX h hp hs b i) rfl rfl) rfl⟩
 refine aL ?_
 show bf lb (aa (dh (aq 2 [0,1,2] (fP (aa (f2 ao (ab 0) (ab 2)) ae)) (jo 0 1) (fun _=>some true) (f2 yl (ah 4 bb (aa (ab 2) (aa (ab 3) (aa (ab 4) (aa (ab 0) ae))))) (f2 ao (ab 1) (fC (.int 0)))))) ae) [some (ax G T W),some (ag P),some (.int (sI b))]=_
 simp only[bf,aa,ae,dh,c,zB,zA]
 rw[show (List.range (aM b G T).length).filter (fun _=>true)=List.range (aM b G T).length by simp,qX]
theorem Bz{fa fb:Dl.Env->Option D}{ρ:Dl.Env}{d:D}(ha:fa ρ=some (.bool true))(hb:fb ρ=some d):kg fa fb ρ=some d:=by
 simp only[kg,ha,zA,hb]
theorem FJ{fa fb:Dl.Env->Option D}{ρ:Dl.Env}(ha:fa ρ=some (.bool false)):kg fa fb ρ=some (.bool false):=by
 simp only[kg,ha,zA]
theorem FK{fa fb:Dl.Env->Option D}{ρ:Dl.Env}{a b:Bool}(ha:fa ρ=some (.bool a))(hb:fb ρ=some (.bool b)):kg fa fb ρ=some (.bool (a&&b)):=by
 cases a
 ·exact FJ ha
 ·exact Bz ha hb
theorem fH{g:List D->Option D}{f:Dl.Env->Option D}{ρ:Dl.Env}{d:D}(h:f ρ=some d):bf g (aa f ae) ρ=g [d]:=by
 simp only[bf,aa,ae,h,zB,zA]
theorem mz{α:Type}{k:α->D}{f:Dl.Env->Option D}{ρ:Dl.Env}{l:List α}(h:f ρ=some (.tuple (l.map k))):bf bP (aa f ae) ρ=some (nD l.length):=by
 rw[fH h,yV,zD]
noncomputable def LM(W:List Wy)(P:List Int):Bool:=(List.range W.length).all fun k=>decide (0<=P.getD k 0)&&decide (P.getD k 0<=(aD W k).2.2)
noncomputable def Mg(b:Bool)(G T:List Pl)(W:List Wy)(P:List Int):Bool:=(List.range (aM b G T).length).all fun i=>decide (i5 b W P i<=(bU b G T i).1)
noncomputable def KS(G T:List Pl)(W:List Wy)(P:List Int):Bool:=LM W P&&(Mg false G T W P&&Mg true G T W P)
theorem GO{G T:List Pl}{W:List Wy}{P:List Int}(hp:P.length=W.length):KS G T W P=true↔Pn G T W P:=by
 simp only[KS,LM,Mg,zF,List.all_eq_true,zT,zJ]
 constructor
 ·rintro⟨h1,h2,h3⟩
  exact⟨hp,h1,fun b=>by cases b<;>assumption⟩
 ·intro p
  exact⟨p.bd,p.am false,p.am true⟩
theorem Kj(P:List Int):m8 (ag P)=true:=rfl
theorem As{G T:List Pl}{W:List Wy}(h:Wd G T W){P:List Int}(hp:P.length=W.length)(hs:Sm P):gW [ax G T W,ag P]=some (.bool (KS G T W P)):=by
 have hw:=h.wl
 have hlen:(P.map PyData.int).length=W.length:=by rw[zD,hp]
 refine aH ?_
 show jM [.val (ax G T W),.val (ag P),.non]=_
 unfold jM
 have t1:Dl.aJ 2 [0] (f2 ao (ab 0) (fC (.int 2))) [.val (ax G T W),.val (ag P),.non]=some (.nx [.val (ax G T W),.val (ag P),.val (.tuple (W.map aA))]):=fv (d:=.tuple (W.map aA)) rfl rfl rfl rfl
 rw[aj t1]
 have el:ba [ag P,nD W.length,nD W.length]=some (.bool true):=by
  rw[show nD W.length=.int ((W.length:Nat):Int) from rfl,dY (Kj P)]
  simp[long,ag,hp]
 have hl:∀ρ:Dl.Env,ab 2 ρ=some (.tuple (W.map aA))->bf bP (aa (ab 2) ae) ρ=some (nD W.length):=fun ρ hr=>mz hr
 have c1:(bx (fB (ah 3 ba (aa (ab 1) (aa (bf bP (aa (ab 2) ae)) (aa (bf bP (aa (ab 2) ae)) ae)))))) (bz [.val (ax G T W),.val (ag P),.val (.tuple (W.map aA))])=some false :=
  dO (bW (call_of el (cons_of rfl (cons_of (hl _ rfl) (cons_of (hl _ rfl) rfl))) rfl))
 rw[aj (cP c1)]
 have hz:iZ (aa (ab 2) (aa (ab 1) ae)) [some (ax G T W),some (ag P),some (.tuple (W.map aA))]=some ((List.range W.length).map fun i=>.tuple [aA (aD W i),.int (P.getD i 0)]):=by
  rw[<- rL hp]
  rfl
 have c2:=lu (cs:=[]) (tt:=fun _=>some true) (te:=ah 3 aO (aa (ab 1) (aa (fC (.int 0)) (aa (f2 ao (ab 0) (fC (.int 2))) ae)))) (p:=fun _=>true) (h:=fun k=>.bool (decide (0<=P.getD k 0)&&decide (P.getD k 0<=(aD W k).2.2))) hz (by omega)
  fun i hi=>⟨rfl,fun _=>call_of (fx (d:=.int (P.getD i 0)) rfl 0 (aD W i).2.2) rfl rfl⟩
 have hall:(fB (bf lb (aa (dh (aq 2 [] (iZ (aa (ab 2) (aa (ab 1) ae))) (jo 0 1) (fun _=>some true) (ah 3 aO (aa (ab 1) (aa (fC (.int 0)) (aa (f2 ao (ab 0) (fC (.int 2))) ae)))))) ae))) [some (ax G T W),some (ag P),some (.tuple (W.map aA))]=some (LM W P):=by
  refine bW ?_
  simp only[bf,aa,ae,dh,c2,zB,zA]
  rw[show (List.range W.length).filter (fun _=>true)=List.range W.length by simp,qX]
  rfl
 have k0:=zp h hp hs false
 have k1:=zp h hp hs true
 cases hb:LM W P with
 | false =>
  rw[hb] at hall
  refine kA ((gf (dO hall)).trans ?_)
  rw[KS,hb]
  exact aL rfl
 | true =>
  rw[hb] at hall
  rw[aj (cP (dO hall)),KS,hb,Bool.true_and]
  exact aL (FK (call_of k0 rfl rfl) (call_of k1 rfl rfl))
theorem sE{W:List Wy}{k:Nat}(hk:k < W.length):aD W k∈W:=iR hk ▸ List.getElem_mem hk
theorem Pn.smP{G T:List Pl}{W:List Wy}(h:Wd G T W){P:List Int}(p:Pn G T W P):Sm P:=fun k=>by
 by_cases hk:k < W.length
 ·have:=p.bd k hk
  have:=(h.wr _ (sE hk)).2.2.2
  omega
 ·rw[zG,List.getElem?_eq_none (by rw[p.len];omega)]
  simp
section
variable {G T:List Pl}{W:List Wy}{P:List Int}
theorem qJ(h:Wd G T W)(p:Pn G T W P):gW [ax G T W,ag P]=some (.bool true):=by
 rw[As h p.len (p.smP h),(GO p.len).mpr p]
theorem eZ(h:Wd G T W)(p:Pn G T W P):bu [ax G T W,ag P]=some .none:=by
 have:dN [.val (ax G T W),.val (ag P)]=some (.nx [.val (ax G T W),.val (ag P)]):=by
  unfold dN
  refine (aj (cD (call_of (cS h) rfl rfl))).trans ?_
  exact cP (dO (bW (call_of (qJ h p) rfl rfl)))
 show (dN [.val (ax G T W),.val (ag P)]).map _=_
 rw[this]
 rfl
theorem Jy(h:Wd G T W)(p:Pn G T W P){i:Nat}(hi:i < G.length):mK [ax G T W,ag P,nD i]=some (.int (i5 false W P i)):=by
 refine aH ?_
 show sv [.val (ax G T W),.val (ag P),.val (nD i)]=_
 unfold sv
 refine (aj (cD (call_of (eZ h p) rfl rfl))).trans ?_
 have hl:(bf bP (aa (f2 ao (ab 0) (fC (.int 0))) ae)) [some (ax G T W),some (ag P),some (nD i)]=some (nD G.length):=mz (l:=G) (k:=aQ) (ar (a:=ax G T W) (c:=.tuple (G.map aQ)) rfl rfl rfl)
 refine (aj (cD (call_of (dQ (n:=(G.length:Nat)) (i:=(i:Nat)) (by omega) (by omega)) (cons_of rfl (cons_of hl rfl)) rfl))).trans ?_
 exact aL (call_of (gX h p.len (p.smP h) false i) rfl rfl)
theorem FR(h:Wd G T W)(p:Pn G T W P){i:Nat}(hi:i < T.length):jU [ax G T W,ag P,nD i]=some (.int (i5 true W P i)):=by
 refine aH ?_
 show nI [.val (ax G T W),.val (ag P),.val (nD i)]=_
 unfold nI
 refine (aj (cD (call_of (eZ h p) rfl rfl))).trans ?_
 have hl:(bf bP (aa (f2 ao (ab 0) (fC (.int 1))) ae)) [some (ax G T W),some (ag P),some (nD i)]=some (nD T.length):=mz (l:=T) (k:=aQ) (ar (a:=ax G T W) (c:=.tuple (T.map aQ)) rfl rfl rfl)
 refine (aj (cD (call_of (dQ (n:=(T.length:Nat)) (i:=(i:Nat)) (by omega) (by omega)) (cons_of rfl (cons_of hl rfl)) rfl))).trans ?_
 exact aL (call_of (gX h p.len (p.smP h) true i) rfl rfl)
end
noncomputable def lS(W:List Wy)(i:Nat):List Int:=[(aD W i).2.1,(aD W i).1]
noncomputable def fW(W:List Wy):List (List Int):=(List.range W.length).map (lS W)
noncomputable def cQ(W:List Wy):List Nat:=nR (fun i=>rk (fW W) ((fW W).getD i [])) (List.range W.length) 0
theorem C8(z:Nat->Int)(n:Nat):nR z ((List.range n).map nD) .none=(nR z (List.range n) 0).map nD:=by
 unfold nR
 rw[zD]
 split
 ·rfl
 ·rename_i h
  rw[zM]
  obtain⟨hp,_⟩:=SP.gn (z:=z) (n:=(List.range n).length) (by omega)
  refine yI fun i hi=>?_
  have hi':i < (List.range n).length:=by have:=hp.mem_iff.mp hi;simpa using this
  rw[zS] at hi'
  simp[hi']
theorem Em{W:List Wy}{i:Nat}(hi:i < W.length):(fW W).getD i []=lS W i:=by
 simp[fW,hi]
theorem gm{W:List Wy}(h:um W):Ord W (cQ W) where
 perm:=fL _ _ _
 up:=by
  have hp:(cQ W).Perm (List.range W.length):=fL _ _ _
  have hs:(cQ W).Pairwise fun i j=>rk (fW W) (lS W i)<=rk (fW W) (lS W j):=by
   refine oU _ _ _ (fun i=>rk (fW W) (lS W i)) fun i hi=>?_
   rw[zS] at hi
   have e:(List.range W.length).getD i 0=i:=by simp[hi]
   show rk (fW W) ((fW W).getD i [])=rk (fW W) (lS W ((List.range W.length).getD i 0))
   rw[e,Em hi]
  have hn:(cQ W).Nodup:=hp.nodup_iff.mpr List.nodup_range
  refine (hs.and hn).imp_of_mem fun {i j} hi hj hij=>?_
  have hi':i < W.length:=by have:=hp.mem_iff.mp hi;simpa using this
  have hj':j < W.length:=by have:=hp.mem_iff.mp hj;simpa using this
  obtain⟨hle,hne⟩:=hij
  have mj:lS W j∈fW W:=zQ.mpr ⟨j,by simpa using hj',rfl⟩
  have n1:Dl.lexLt (lS W j) (lS W i)=false:=by
   rw[xZ mj,decide_eq_false_iff_not]
   omega
  simp only[lS,HT.lexLt] at n1
  by_cases e1:(aD W j).2.1=(aD W i).2.1
  ·rw[if_pos e1] at n1
   by_cases e2:(aD W j).1=(aD W i).1
   ·exact absurd (su h hj' hi' e2 e1).symm hne
   ·rw[if_neg e2,decide_eq_false_iff_not] at n1
    exact .inr ⟨e1.symm,by omega⟩
  ·rw[if_neg e1,decide_eq_false_iff_not] at n1
   exact .inl (by omega)
theorem tup_is{fs:Dl.Env->Option (List D)}{ρ:Dl.Env}{ds:List D}(h:fs ρ=some ds)(hl:ds.length<=1000):aZ fs ρ=some (.tuple ds):=by
 simp only[aZ,h,zA,bA (show ds.length<=4000 by omega),zB]
theorem MO(w:Wy):ao (aA w) (.int 0)=some (.int w.1):=rfl
theorem ME(w:Wy):ao (aA w) (.int 1)=some (.int w.2.1):=rfl
section
variable {G T:List Pl}{W:List Wy}{P:List Int}
theorem jF(h:Wd G T W):aW [ax G T W]=some (.list ((cQ W).map nD)):=by
 have hw:=h.wl
 have t1:Dl.aJ 1 [0] (f2 ao (ab 0) (fC (.int 2))) [.val (ax G T W),.non]=some (.nx [.val (ax G T W),.val (.tuple (W.map aA))]):=fv (d:=.tuple (W.map aA)) rfl rfl rfl rfl
 have hl:(bf bP (aa (ab 1) ae)) [some (ax G T W),some (.tuple (W.map aA))]=some (nD W.length):=mz (l:=W) (k:=aA) rfl
 have hk:g8 (aZ (aa (f2 ao (f2 ao (ab 1) (ab 0)) (fC (.int 1))) (aa (f2 ao (f2 ao (ab 1) (ab 0)) (fC (.int 0))) ae))) [none,some (.tuple (W.map aA))] ((List.range W.length).map nD)=some (((List.range W.length).map nD).map fun d=>ag (lS W (jW d).toNat)):=by
  refine ml fun d hd=>?_
  obtain⟨j,hj,rfl⟩:=zQ.mp hd
  have hj':j < W.length:=by simpa using hj
  have a:∀ρ:Dl.Env,ab 1 ρ=some (.tuple (W.map aA))->ab 0 ρ=some (nD j)->(f2 ao (ab 1) (ab 0)) ρ=some (aA (aD W j)):=fun ρ e1 e2=>ar (n9 hj') e1 e2
  show aZ (aa (f2 ao (f2 ao (ab 1) (ab 0)) (fC (.int 1))) (aa (f2 ao (f2 ao (ab 1) (ab 0)) (fC (.int 0))) ae)) [some (nD j),some (.tuple (W.map aA))]=_
  have c2:(aa (f2 ao (f2 ao (ab 1) (ab 0)) (fC (.int 1))) (aa (f2 ao (f2 ao (ab 1) (ab 0)) (fC (.int 0))) ae)) [some (nD j),some (.tuple (W.map aA))]=some [.int (aD W j).2.1,.int (aD W j).1] :=
   cons_of (ar (ME (aD W j)) (a _ rfl rfl) rfl) (cons_of (ar (MO (aD W j)) (a _ rfl rfl) rfl) rfl)
  rw[tup_is c2 (by simp)]
  simp[jW,lS,ag]
 have hr:rowsOf (((List.range W.length).map nD).map fun d=>ag (lS W (jW d).toNat))=some (fW W):=by
  have e:(((List.range W.length).map nD).map fun d=>ag (lS W (jW d).toNat))=(fW W).map ag:=by
   simp only[zM,fW]
   refine yI fun j hj=>?_
   simp[jW]
  rw[e,kU]
  intro ns hns
  obtain⟨j,_,rfl⟩:=zQ.mp hns
  exact List.cons_ne_nil _ _
 refine aH ?_
 show dI [.val (ax G T W),.non]=_
 unfold dI
 rw[aj t1]
 refine aL ?_
 have es:o7 [1] (aa (bf bP (aa (ab 1) ae)) ae) (aZ (aa (f2 ao (f2 ao (ab 1) (ab 0)) (fC (.int 1))) (aa (f2 ao (f2 ao (ab 1) (ab 0)) (fC (.int 0))) ae))) [some (ax G T W),some (.tuple (W.map aA))]=some ((cQ W).map nD):=by
  unfold o7
  rw[cons_of hl rfl,zA]
  show (if (0:Int)<=((W.length:Nat):Int)/\((W.length:Nat):Int) < 64 then _ else none)=_
  rw[if_pos ⟨by omega,by omega⟩,yH]
  show (g8 _ [none,some (.tuple (W.map aA))] ((List.range W.length).map nD)).bind _=_
  rw[hk,zA,hr,zB]
  exact congrArg some (C8 _ _)
 show dh _ [some (ax G T W),some (.tuple (W.map aA))]=_
 simp only[dh,es,zB]
theorem cG{cs:List Nat}{fi:Dl.Env->Option (List D)}{te:Dl.Env->Option D}{ρ:Dl.Env}{is:List Nat}{f:Nat->D}(hfi:fi ρ=some (is.map nD))(hl:is.length<=1000)(hh:∀i∈is,te (some (nD i)::cs.map fun j=>(ρ[j]?).getD none)=some (f i)):aq 1 cs fi (fG 0) (fun _=>some true) te ρ=some (is.map f):=by
 rw[cI (h:=fun d=>f (jW d).toNat) hfi (by rw[zD];omega) fun d hd=>?_]
 ·rw[zM]
  refine congrArg some (yI fun i _=>?_)
  simp[jW]
 ·obtain⟨i,hi,rfl⟩:=zQ.mp hd
  rw[hh i hi]
  simp[jW]
theorem vn{n:Nat}{m:List D->Option D}{fs:Dl.Env->Option (List D)}{ρ:Dl.Env}{ds es:List D}(h:m ds=some (.list es))(hf:fs ρ=some ds)(hn:ds.length=n):bw (ah n m fs) ρ=some es:=by
 simp only[bw,call_of h hf hn,zA,i7]
theorem za(h:um W){i:Nat}(hi:i∈cQ W):i < W.length:=by
 have:=(gm h).perm.mem_iff.mp hi
 simpa using this
theorem uK(h:um W):(cQ W).length=W.length:=(gm h).len
theorem m4{r:List (Option D)}:∀ (l:List Wy),dv (EN 0 1 2) (fun _=>some true) (aZ (aa (ab 1) (aa (ab 0) (aa (ab 2) ae)))) (none::none::none::r) (l.map aA)=some ((l.map Ko).map aA)
 | []=>rfl
 | w::l=>by
  have ih:=m4 (r:=r) l
  have hg:EN 0 1 2 (none::none::none::r) (aA w)=some (some (.int w.1)::some (.int w.2.1)::some (.int w.2.2)::r):=rfl
  rw[zI,dv,hg,zA]
  have e:aZ (aa (ab 1) (aa (ab 0) (aa (ab 2) ae))) (some (.int w.1)::some (.int w.2.1)::some (.int w.2.2)::r)=some (aA (Ko w)):=rfl
  simp only[zA,if_true,e,ih,zB,zI]
theorem vF(h:Wd G T W):jC [ax G T W]=some (ax T G (fT W (cQ W))):=by
 have hw:=h.wl
 have hn:=uK h.wp
 refine aH ?_
 show lz [.val (ax G T W),.non]=_
 unfold lz
 refine (aj (cD (call_of (cS h) rfl rfl))).trans ?_
 have c:aq 1 [0] (bw (ah 1 aW (aa (ab 0) ae))) (fG 0) (fun _=>some true) (f2 ao (f2 ao (ab 1) (fC (.int 2))) (ab 0)) [some (ax G T W),none]=some ((cQ W).map fun i=>aA (aD W i)) :=
  cG (vn (jF h) rfl rfl) (by omega) fun i hi=>ar (n9 (za h.wp hi)) rfl rfl
 have t2:bp 1 [0] (aq 1 [0] (bw (ah 1 aW (aa (ab 0) ae))) (fG 0) (fun _=>some true) (f2 ao (f2 ao (ab 1) (fC (.int 2))) (ab 0))) [.val (ax G T W),.non]=some (.nx [.val (ax G T W),.own ((cQ W).map fun i=>aA (aD W i))]):=iq c rfl
 rw[aj t2]
 refine aL ?_
 have e3:aq 3 [] (bw (ab 1)) (EN 0 1 2) (fun _=>some true) (aZ (aa (ab 1) (aa (ab 0) (aa (ab 2) ae)))) [some (ax G T W),some (.list ((cQ W).map fun i=>aA (aD W i)))]=some ((fT W (cQ W)).map aA):=by
  have:=m4 (r:=[]) ((cQ W).map fun i=>aD W i)
  rw[zM,zM] at this
  have hf:bw (ab 1) [some (ax G T W),some (.list ((cQ W).map fun i=>aA (aD W i)))]=some ((cQ W).map fun i=>aA (aD W i)):=rfl
  unfold aq
  rw[hf,zA]
  show (dv (EN 0 1 2) (fun _=>some true) (aZ (aa (ab 1) (aa (ab 0) (aa (ab 2) ae)))) [none,none,none] ((cQ W).map fun i=>aA (aD W i))).bind small=_
  rw[show ((cQ W).map fun i=>aA (aD W i))=List.map (aA ∘ fun i=>aD W i) (cQ W) from rfl,this,zA]
  rw[bA (by simp;omega),fT]
  simp only[zM]
  rfl
 show aZ (aa (f2 ao (ab 0) (fC (.int 1))) (aa (f2 ao (ab 0) (fC (.int 0))) (aa (bf bj (aa (dh (aq 3 [] (bw (ab 1)) (EN 0 1 2) (fun _=>some true) (aZ (aa (ab 1) (aa (ab 0) (aa (ab 2) ae)))))) ae)) ae))) [some (ax G T W),some (.list ((cQ W).map fun i=>aA (aD W i)))]=_
 have e4:(bf bj (aa (dh (aq 3 [] (bw (ab 1)) (EN 0 1 2) (fun _=>some true) (aZ (aa (ab 1) (aa (ab 0) (aa (ab 2) ae)))))) ae)) [some (ax G T W),some (.list ((cQ W).map fun i=>aA (aD W i)))]=some (.tuple ((fT W (cQ W)).map aA)):=by
  simp only[bf,aa,ae,dh,e3,zB,zA,l6]
 exact tup_is (ds:=[.tuple (T.map aQ),.tuple (G.map aQ),.tuple ((fT W (cQ W)).map aA)]) (cons_of (ar (a:=ax G T W) (b:=.int 1) (c:=.tuple (T.map aQ)) rfl rfl rfl) (cons_of (ar (a:=ax G T W) (b:=.int 0) (c:=.tuple (G.map aQ)) rfl rfl rfl) (cons_of e4 rfl))) (by simp)
theorem qf(h:Wd G T W)(p:Pn G T W P):eh [ax G T W,ag P]=some (ag (v9 P (cQ W))):=by
 have hw:=h.wl
 have hn:=uK h.wp
 refine aH ?_
 show d9 [.val (ax G T W),.val (ag P)]=_
 unfold d9
 refine (aj (cD (call_of (eZ h p) rfl rfl))).trans ?_
 have c:aq 1 [1] (bw (ah 1 aW (aa (ab 0) ae))) (fG 0) (fun _=>some true) (f2 ao (ab 1) (ab 0)) [some (ax G T W),some (ag P)]=some ((cQ W).map fun i=>.int (P.getD i 0)) :=
  cG (vn (jF h) rfl rfl) (by omega) fun i hi=>ar (kN (by rw[p.len];exact za h.wp hi)) rfl rfl
 refine aL ?_
 show bf bj (aa (dh (aq 1 [1] (bw (ah 1 aW (aa (ab 0) ae))) (fG 0) (fun _=>some true) (f2 ao (ab 1) (ab 0)))) ae) [some (ax G T W),some (ag P)]=_
 simp only[bf,aa,ae,dh,c,zB,zA,l6]
 simp[ag,v9]
end
theorem FT{f g:Dl.Env->Option D}{ρ:Dl.Env}{ds:List D}{k:Nat}(h:f ρ=some (.list ds))(h2:g ρ=some (nD k)):l9 ij f (A0 g) l4 ρ=some (.list (ds.drop k)):=by
 have:=vJ ds k
 simp only[l9,h,A0,h2,l4,gI,ij,zA,zB,this]
theorem Bo{p:Nat->Bool}(is:List Nat):Rf.Dr [.list (is.map fun i=>.bool (p i))]=some (.bool (is.any p)):=by
 have:∀is:List Nat,boolsOf (is.map fun i=>PyData.bool (p i))=some (is.map p):=fun is=>by
  induction is with
  | nil=>rfl
  | cons i is ih=>simp[boolsOf,ih]
 simp only[Rf.Dr,oneOf,zA,this,zB,List.any_map]
 rfl
theorem lx{α β:Type}(f:α->β)(p:β->Bool)(q:α->Bool):∀ (l:List α),(∀x∈l,p (f x)=q x)->(l.map f).findIdx p=l.findIdx q
 | [],_=>rfl
 | x::l,h=>by
  rw[zI,List.findIdx_cons,List.findIdx_cons,h x zE,lx f p q l fun y hy=>h y (zC _ hy)]
section
variable {G T:List Pl}{W:List Wy}{P:List Int}
theorem HZ(h:Wd G T W){b:Bool}{i:Nat}{p:Pl}(e:(aM b G T)[i]?=some p){k:Nat}(hk:k < W.length)(he:bh b (aD W k)=i):ni (.list ((eK b W i p.2).map nD)) (nD k)=some (nD (pW p.2 (bQ b (aD W k)))):=by
 have ko:k∈own b W i:=cf.mpr ⟨hk,he⟩
 have km:k∈eK b W i p.2:=(eC h e).mem_iff.mpr ko
 have e1:(eK b W i p.2).map nD=((eK b W i p.2).map fun j=>((j:Nat):Int)).map PyData.int:=by rw[zM];rfl
 have m1:((k:Nat):Int)∈(eK b W i p.2).map fun j=>((j:Nat):Int):=zQ.mpr ⟨k,km,rfl⟩
 rw[e1]
 show (intsOf _).bind _=_
 rw[cw,zA,mI m1,zB]
 have e2:((eK b W i p.2).map fun j=>((j:Nat):Int)).findIdx (fun o=>decide (o=((k:Nat):Int)))=pW p.2 (bQ b (aD W k)):=by
  unfold eK pW
  rw[zM]
  refine lx _ _ _ _ fun x hx=>?_
  obtain⟨hl,h1,h2⟩:=k8 h e hx
  show decide (((mU b W i x:Nat):Int)=(k:Int))=decide (x=bQ b (aD W k))
  rw[decide_eq_decide]
  constructor
  ·intro z
   have z:mU b W i x=k:=by omega
   rw[<- z,h2]
  ·intro z
   rw[z,t9 h.wp ko]
 rw[e2]
theorem lR(h:Wd G T W)(hp:P.length=W.length)(hs:Sm P)(b:Bool){k:Nat}(hk:k < W.length):b9 [ax G T W,ag P,.int (sI b),nD k]=some (.bool (tq b G T W P k)):=by
 have hw:=h.wl
 obtain⟨z1,z2,z3⟩:=h.end_pl b hk
 have hx:(aM b G T)[(bh b (aD W k)).toNat]?=some (bU b G T (bh b (aD W k)).toNat):=by
  rw[zK z2]
  simp[bU,z2]
 have hL:∀x∈(bU b G T (bh b (aD W k)).toNat).2,_:=fun x hx'=>k8 h hx hx'
 have hb:(bU b G T (bh b (aD W k)).toNat).2.length<=16:=by
  have:=(eC h hx).length_eq
  have h2:=tG b W ((bh b (aD W k)).toNat:Int)
  unfold eK at this
  rw[zD] at this
  omega
 have ei:=HZ h hx hk z3.symm
 have ew:=rE h hx
 generalize hpl:bU b G T (bh b (aD W k)).toNat=pl at *
 generalize hj:(bh b (aD W k)).toNat=j at *
 have ez:PyData.int (bh b (aD W k))=nD j:=by rw[<- z3]
 refine aH ?_
 show eW [.val (ax G T W),.val (ag P),.val (.int (sI b)),.val (nD k),.non,.non,.non]=_
 unfold eW
 have t4:Dl.aJ 4 [0,2,3] (f2 ao (f2 ao (f2 ao (ab 0) (fC (.int 2))) (ab 3)) (ab 2)) [.val (ax G T W),.val (ag P),.val (.int (sI b)),.val (nD k),.non,.non,.non]=some (.nx [.val (ax G T W),.val (ag P),.val (.int (sI b)),.val (nD k),.val (nD j),.non,.non]):=by
  rw[<- ez]
  exact jO (d:=.int (bh b (aD W k))) (ar (sX b _) (ar (n9 hk) rfl rfl) rfl) rfl
 rw[aj t4]
 have ep:ao (.tuple ((aM b G T).map aQ)) (nD j)=some (aQ pl):=kP hx
 have ct:(fB (f2 vm (ah 4 bb (aa (ab 0) (aa (ab 1) (aa (ab 2) (aa (ab 4) ae))))) (f2 ao (f2 ao (f2 ao (ab 0) (ab 2)) (ab 4)) (fC (.int 0))))) (bz [.val (ax G T W),.val (ag P),.val (.int (sI b)),.val (nD k),.val (nD j),.non,.non])=some (decide (i5 b W P j < pl.1)):=by
  refine bW (ar (k5 _ _) (call_of (gX h hp hs b j) rfl rfl) ?_)
  refine ar (a:=aQ pl) (b:=.int 0) rfl (ar ep (ar (jZ b G T W) rfl rfl) rfl) rfl
 have hm:tq b G T W P k=(decide (i5 b W P j < pl.1)||(pl.2.drop (pW pl.2 (bQ b (aD W k))+1)).any fun o=>decide (0 < P.getD (mU b W j o) 0)):=by
  unfold tq
  rw[hj,hpl,z3]
 rw[hm]
 cases hc:decide (i5 b W P j < pl.1) with
 | true =>
  rw[hc] at ct
  exact kA ((gf ct).trans (aL rfl))
 | false =>
  rw[hc] at ct
  rw[aj (cP ct),Bool.false_or]
  have t5:Dl.aJ 5 [0,2,4] (ah 3 d7 (aa (ab 0) (aa (ab 2) (aa (ab 4) ae)))) [.val (ax G T W),.val (ag P),.val (.int (sI b)),.val (nD k),.val (nD j),.non,.non]=some (.nx [.val (ax G T W),.val (ag P),.val (.int (sI b)),.val (nD k),.val (nD j),.val (.list ((eK b W j pl.2).map nD)),.non]) :=
   cx (call_of ew rfl rfl) (call_of ew rfl rfl) rfl
  rw[aj t5]
  have cu:∀ρ:Dl.Env,ab 5 ρ=some (.list ((eK b W j pl.2).map nD))->ab 3 ρ=some (nD k)->(l9 ij (ab 5) (A0 (f2 bY (f2 ni (ab 5) (ab 3)) (fC (.int 1)))) l4) ρ=some (.list (((eK b W j pl.2).map nD).drop (pW pl.2 (bQ b (aD W k))+1))):=fun ρ a c =>
   FT a (ar (cZ _ _) (ar ei a c) rfl)
  have t6:Dl.aJ 6 [3,5] (l9 ij (ab 5) (A0 (f2 bY (f2 ni (ab 5) (ab 3)) (fC (.int 1)))) l4) [.val (ax G T W),.val (ag P),.val (.int (sI b)),.val (nD k),.val (nD j),.val (.list ((eK b W j pl.2).map nD)),.non]=some (.nx [.val (ax G T W),.val (ag P),.val (.int (sI b)),.val (nD k),.val (nD j),.val (.list ((eK b W j pl.2).map nD)),.val (.list (((eK b W j pl.2).drop (pW pl.2 (bQ b (aD W k))+1)).map nD))]):=by
   rw[List.map_drop]
   exact cx (cu _ rfl rfl) (cu _ rfl rfl) rfl
  rw[aj t6]
  have c:aq 1 [1] (bw (ab 6)) (fG 0) (fun _=>some true) (f2 JN (f2 ao (ab 1) (ab 0)) (fC (.int 0))) [some (ax G T W),some (ag P),some (.int (sI b)),some (nD k),some (nD j),some (.list ((eK b W j pl.2).map nD)),some (.list (((eK b W j pl.2).drop (pW pl.2 (bQ b (aD W k))+1)).map nD))]=some (((eK b W j pl.2).drop (pW pl.2 (bQ b (aD W k))+1)).map fun i=>.bool (decide (0 < P.getD i 0))):=by
   refine cG rfl ?_ fun i hi=>?_
   ·rw[List.length_drop,eK,zD]
    omega
   ·have hi':=List.mem_of_mem_drop hi
    unfold eK at hi'
    obtain⟨x,hx',rfl⟩:=zQ.mp hi'
    exact ar (Fc _ _) (ar (kN (by rw[hp];exact (hL x hx').1)) rfl rfl) rfl
  refine aL ?_
  show bf Rf.Dr (aa (dh (aq 1 [1] (bw (ab 6)) (fG 0) (fun _=>some true) (f2 JN (f2 ao (ab 1) (ab 0)) (fC (.int 0))))) ae) [some (ax G T W),some (ag P),some (.int (sI b)),some (nD k),some (nD j),some (.list ((eK b W j pl.2).map nD)),some (.list (((eK b W j pl.2).drop (pW pl.2 (bQ b (aD W k))+1)).map nD))]=_
  simp only[bf,aa,ae,dh,c,zB,zA,Bo]
  unfold eK
  rw[<- List.map_drop,List.any_map]
  rfl
noncomputable def Lb:Nat->D|0=>.str "full" | 1=>.str "giver" | 2=>.str "taker" | _=>.none
theorem wq(h:Wd G T W)(hp:P.length=W.length)(hs:Sm P){k:Nat}(hk:k < W.length):d6 [ax G T W,ag P,nD k]=some (Lb (kb G T W P k)):=by
 refine aH ?_
 show iW [.val (ax G T W),.val (ag P),.val (nD k)]=_
 unfold iW kb
 have c1:(fB (f2 cN (f2 ao (ab 1) (ab 2)) (f2 ao (f2 ao (f2 ao (ab 0) (fC (.int 2))) (ab 2)) (fC (.int 2))))) (bz [.val (ax G T W),.val (ag P),.val (nD k)])=some (decide (P.getD k 0=(aD W k).2.2)) :=
  bW (ar (gZ _ _) (ar (kN (by rw[hp];exact hk)) rfl rfl) (ar (a:=aA (aD W k)) (b:=.int 2) rfl (ar (n9 hk) rfl rfl) rfl))
 have w0:=lR h hp hs false hk
 have w1:=lR h hp hs true hk
 have c2:(bx (fB (ah 4 b9 (aa (ab 0) (aa (ab 1) (aa (fC (.int 0)) (aa (ab 2) ae))))))) (bz [.val (ax G T W),.val (ag P),.val (nD k)])=some (!(tq false G T W P k)):=dO (bW (call_of w0 rfl rfl))
 have c3:(bx (fB (ah 4 b9 (aa (ab 0) (aa (ab 1) (aa (fC (.int 1)) (aa (ab 2) ae))))))) (bz [.val (ax G T W),.val (ag P),.val (nD k)])=some (!(tq true G T W P k)):=dO (bW (call_of w1 rfl rfl))
 by_cases e1:P.getD k 0=(aD W k).2.2
 ·rw[yB e1] at c1
  rw[if_pos e1]
  exact kA ((gf c1).trans (aL rfl))
 ·rw[yA e1] at c1
  rw[if_neg e1,aj (cP c1)]
  cases e2:tq false G T W P k with
  | false =>
   rw[e2] at c2
   rw[if_pos rfl]
   exact kA ((gf c2).trans (aL rfl))
  | true =>
   rw[e2] at c2
   rw[if_neg (by simp),aj (cP c2)]
   cases e3:tq true G T W P k with
   | false =>
    rw[e3] at c3
    rw[if_pos rfl]
    exact kA ((gf c3).trans (aL rfl))
   | true =>
    rw[e3] at c3
    rw[if_neg (by simp),aj (cP c3)]
    exact aL rfl
theorem Js(G T:List Pl)(W:List Wy)(P:List Int)(k:Nat):kb G T W P k<=3:=by
 unfold kb
 split
 ·omega
 ·split
  ·omega
  ·split<;>omega
theorem E5(n:Nat)(h:n<=3):qa (Lb n) .none=some (.bool (decide (n=3))):=by
 match n,h with
 | 0,_=>rfl
 | 1,_=>rfl
 | 2,_=>rfl
 | 3,_=>rfl
theorem EK{ρ:Dl.Env}{f:Dl.Env->Option D}(hp:P.length=W.length)(hf:f ρ=some (ag P)):(aa (bf bP (aa f ae)) ae) ρ=some [nD W.length]:=by
 have:=FA P
 rw[hp] at this
 refine cons_of ?_ rfl
 rw[fH hf,this]
theorem nq(h:Wd G T W)(hp:P.length=W.length)(hs:Sm P):dk [ax G T W,ag P]=some (match (List.range W.length).find? fun k=>decide (kb G T W P k=3) with|some k=>nD k|none=>.none):=by
 have hw:=h.wl
 refine aH ?_
 show di [.val (ax G T W),.val (ag P),.non]=_
 unfold di
 obtain⟨f1,f2'⟩:=kK (tgt:=CW 2) (gb:=gC (fB (f2 qa (ah 3 d6 (aa (ab 0) (aa (ab 1) (aa (ab 2) ae)))) (fC .none))) (aG (ab 2)) hJ) (fun ρ=>∃x,ρ=[.val (ax G T W),.val (ag P),x]) nD (fun k=>decide (kb G T W P k=3)) nD
  (l:=List.range W.length) (ρ:=[.val (ax G T W),.val (ag P),.non])
  (fun ρ k hk hρ=>by
   obtain⟨x,rfl⟩:=hρ
   have hk':k < W.length:=by simpa using hk
   have c:(fB (f2 qa (ah 3 d6 (aa (ab 0) (aa (ab 1) (aa (ab 2) ae)))) (fC .none))) (bz [.val (ax G T W),.val (ag P),.val (nD k)])=some (decide (kb G T W P k=3)) :=
    bW (ar (E5 _ (Js G T W P k)) (call_of (wq h hp hs hk') rfl rfl) rfl)
   refine⟨_,rfl,fun hq=>?_,fun hq=>?_⟩
   ·show gC _ _ _ [.val (ax G T W),.val (ag P),.val (nD k)]=_
    rw[hq] at c
    exact (gf c).trans (aL rfl)
   ·rw[hq] at c
    exact⟨_,cP c,_,rfl⟩) ⟨_,rfl⟩
 have hr:aV (aa (bf bP (aa (ab 1) ae)) ae) [some (ax G T W),some (ag P),none]=some ((List.range W.length).map nD):=gu (EK hp rfl) (by omega)
 cases e:(List.range W.length).find? fun k=>decide (kb G T W P k=3) with
 | some k=>exact kA (gc (f1 k e) hr rfl)
 | none =>
  obtain⟨ρ',e',x,rfl⟩:=f2' e
  exact (aj (gc e' hr rfl)).trans (aL rfl)
theorem wQ(h:Wd G T W)(hp:P.length=W.length)(hs:Sm P):iS [ax G T W,ag P]=some (.bool (decide (A3 G T W P=[]))):=by
 refine aH ?_
 show ix [.val (ax G T W),.val (ag P)]=_
 unfold ix
 refine aL (ar ?_ (call_of (nq h hp hs) rfl rfl) rfl)
 cases e:(List.range W.length).find? fun k=>decide (kb G T W P k=3) with
 | some k =>
  have:A3 G T W P≠[]:=fun z=>by
   have hm:=List.mem_of_find?_eq_some e
   have hq:=List.find?_some e
   have:k∈A3 G T W P:=List.mem_filter.mpr ⟨hm,hq⟩
   rw[z] at this
   cases this
  rw[yA this]
  rfl
 | none =>
  have:A3 G T W P=[]:=by
   rw[List.find?_eq_none] at e
   exact List.filter_eq_nil_iff.mpr e
  rw[yB this]
  rfl
theorem GJ(h:Wd G T W)(p:Pn G T W P):jP [ax G T W,ag P]=some (.bool (decide (A3 G T W P=[]))):=by
 refine aH ?_
 show nJ [.val (ax G T W),.val (ag P)]=_
 unfold nJ
 refine (aj (cD (call_of (eZ h p) rfl rfl))).trans ?_
 exact aL (call_of (wQ h p.len (p.smP h)) rfl rfl)
theorem m5{tt:Dl.Env->Option Bool}{te:Dl.Env->Option D}{r:List (Option D)}{f:Nat->D}{q:Nat->Bool}:∀ (is:List Nat),(∀i∈is,tt (some (nD i)::r)=some (q i)/\(q i=true->te (some (nD i)::r)=some (f i)))->dv (fG 0) tt te (none::r) (is.map nD)=some ((is.filter q).map f)
 | [],_=>rfl
 | i::is,h=>by
  have ih:=m5 (tt:=tt) (te:=te) (r:=r) (f:=f) (q:=q) is fun j hj=>h j (zC _ hj)
  obtain⟨h1,h2⟩:=h i zE
  have hg:fG 0 (none::r) (nD i)=some (some (nD i)::r):=rfl
  rw[zI,dv,hg,zA,h1,zA,List.filter_cons]
  cases e:q i with
  | true =>
   rw[if_pos rfl,if_pos rfl,h2 e,zA,ih]
   rfl
  | false =>
   rw[if_neg (by simp),if_neg (by simp),ih]
theorem wI{cs:List Nat}{fi:Dl.Env->Option (List D)}{tt:Dl.Env->Option Bool}{te:Dl.Env->Option D}{ρ:Dl.Env}{is:List Nat}{f:Nat->D}{q:Nat->Bool}(hfi:fi ρ=some (is.map nD))(hl:is.length<=1000)(hh:∀i∈is,tt (some (nD i)::cs.map fun j=>(ρ[j]?).getD none)=some (q i)/\(q i=true->te (some (nD i)::cs.map fun j=>(ρ[j]?).getD none)=some (f i))):aq 1 cs fi (fG 0) tt te ρ=some ((is.filter q).map f):=by
 have:=m5 is hh
 simp only[aq,hfi,zA,fM,List.replicate,List.cons_append,List.nil_append,this]
 refine bA ?_
 rw[zD]
 refine yE (List.length_filter_le _ _) ?_
 omega
theorem qF(h:Wd G T W){c:List Int}(hb:aI [ax T G (fT W (cQ W))]=some (ag c))(p:Pn T G (fT W (cQ W)) c):bB [ax G T W]=some (ag (v9 c (cQ (fT W (cQ W))))):=by
 have o:=gm h.wp
 have h':=o.wd h
 refine aH ?_
 show ee [.val (ax G T W),.non]=_
 unfold ee
 have t1:Dl.aJ 1 [0] (ah 1 jC (aa (ab 0) ae)) [.val (ax G T W),.non]=some (.nx [.val (ax G T W),.val (ax T G (fT W (cQ W)))]):=cx (call_of (vF h) rfl rfl) (call_of (vF h) rfl rfl) rfl
 rw[aj t1]
 exact aL (call_of (qf h' p) (cons_of rfl (cons_of (call_of hb rfl rfl) rfl)) rfl)
end
theorem yZ{tgt:ai->D->Option ai}{gb:ai->Option Out}(f:Nat->D)(R:Nat->ai->Prop):∀ (n k:Nat) (ρ:ai),
  (∀j ρ,k<=j->j < k+n->R j ρ->∃ρ1 ρ2,tgt ρ (f j)=some ρ1/\gb ρ1=some (.nx ρ2)/\R (j+1) ρ2)->R k ρ->∃ρ',jB tgt gb ((List.range' k n).map f) ρ=some (.nx ρ')/\R (k+n) ρ'
 | 0,k,ρ,_,h=>⟨ρ,rfl,h⟩
 | n+1,k,ρ,hh,h=>by
  obtain⟨ρ1,ρ2,e1,e2,h2⟩:=hh k ρ (Nat.le_refl _) (by omega) h
  obtain⟨ρ',e3,h3⟩:=yZ f R n (k+1) ρ2 (fun j ρ a b=>hh j ρ (by omega) (by omega)) h2
  refine⟨ρ',?_,by rw[show k+(n+1)=k+1+n by omega];exact h3⟩
  rw[List.range'_succ,zI,jB,e1,zA,e2]
  exact e3
section
variable {G T:List Pl}{W:List Wy}{P:List Int}
end
section
variable {ns:List Int}{G T:List Pl}{W:List Wy}{at':Int}
end
theorem sR{S:Type}(cont:S->Bool)(st:S->S)(μ:S->Nat)(I:S->Prop)(hb:∀s,I s->cont s=true->I (st s)/\μ (st s) < μ s):∀ (n:Nat) (s:S),μ s < n->I s->cont (lp cont st n s)=false/\I (lp cont st n s)
 | 0,s,h,_=>absurd h (by omega)
 | n+1,s,h,i=>by
  rw[lp]
  cases hc:cont s with
  | false=>exact⟨by simpa [hc] using hc,by simpa using i⟩
  | true =>
   obtain⟨i2,hm⟩:=hb s i hc
   have:=sR cont st μ I hb n (st s) (by omega) i2
   simpa using this
section
variable {G T:List Pl}{W:List Wy}
theorem CM{k:Nat}(hk:k < W.length):(dJ W).getD k 0=(aD W k).2.2:=by
 unfold dJ
 rw[zG,zO,lT hk]
 rfl
theorem yz(h:Wd G T W):qQ G T W (fin G T W).2=none/\z6 W (fin G T W)/\∀k,k < W.length->(fin G T W).2.getD k 0<=(aD W k).2.2:=by
 have hb:=h.mea
 obtain⟨h1,i,h2⟩:=sR (Ik G T W) (spS G T W) (fun s=>mea s.2) (fun s=>z6 W s/\∀k,k < W.length->s.2.getD k 0<=(aD W k).2.2)
  (fun s ⟨i,l⟩ hc=>by
   obtain⟨p,e⟩:=pE hc
   obtain⟨a,b,c⟩:=yh h i.off e
   obtain⟨i2,hm⟩:=i.step h e
   refine⟨⟨i2,fun k hk=>?_⟩,hm⟩
   rw[sg e]
   show (s.2.set p.1 p.2).getD k 0<=_
   by_cases z:k=p.1
   ·subst z
    have:=l p.1 a
    have hl:p.1 < s.2.length:=by rw[i.len];exact a
    rw[show (s.2.set p.1 p.2).getD p.1 0=p.2 by simp[hl]]
    omega
   ·rw[show (s.2.set p.1 p.2).getD k 0=s.2.getD k 0 by simp[List.getElem?_set_ne (Ne.symm z)]]
    exact l k hk) Rf.turns ([],dJ W) (Nat.lt_of_le_of_lt hb (by decide)) ⟨z6.start h,fun k hk=>by rw[CM hk];omega⟩
 refine⟨?_,i,h2⟩
 have:Ik G T W (fin G T W)=false:=h1
 unfold Ik at this
 exact Option.isNone_iff_eq_none.mp (by simpa using this)
noncomputable def bst(G T:List Pl)(W:List Wy):List Int:=aB false G T W (fin G T W).2
theorem lW(h:Wd G T W):Pn G T W (bst G T W):=by
 obtain⟨h1,i,h2⟩:=yz h
 exact Gb h i.off h2 h1
theorem o4(h:Wd G T W):aI [ax G T W]=some (ag (bst G T W)):=pX h
theorem mX:∀ {l:List D},(∀d∈l,PyData.eqv d d=true)->PyData.eqvAll l l=true
 | [],_=>by simp[PyData.eqvAll]
 | d::l,h=>by
  rw[PyData.eqvAll,h d zE,mX fun x hx=>h x (zC _ hx)]
  rfl
theorem Kb(a:List Int):PyData.eqv (ag a) (ag a)=true:=by rw[pC];simp
theorem JU(a:Int):PyData.eqv (.int a) (.int a)=true:=by
 have:=Kb [a]
 rw[ag,PyData.eqv,zI,List.map_nil,PyData.eqvAll] at this
 simp only[zF] at this
 exact this.1
theorem ox(h:Wd G T W):bq [ax G T W]=some (.bool true):=by rw[oC h.fit (by decide),h.wok]
end
section
variable {W:List Wy}{G T:List Pl}{P off:List Int}
theorem CA:∀ (xs:List Nat),(∀i∈xs,0<=off.getD i 0)->0<=(xs.map fun i=>off.getD i 0).sum
 | [],_=>by simp
 | i::xs,h=>by
  have:=CA xs fun j hj=>h j (zC _ hj)
  have:=h i zE
  rw[zI,List.sum_cons];omega
theorem yW:∀ (xs:List Nat),(∀i∈xs,0<=P.getD i 0)->(0 < (xs.map fun i=>P.getD i 0).sum↔(xs.any fun i=>decide (0 < P.getD i 0))=true)
 | [],_=>by simp
 | i::xs,h=>by
  have ih:=yW xs fun j hj=>h j (zC _ hj)
  have h0:=CA (off:=P) xs fun j hj=>h j (zC _ hj)
  have hi:=h i zE
  rw[zI,List.sum_cons,List.any_cons,Bool.or_eq_true,zJ,<- ih]
  omega
theorem FD(h:Wd G T W){b:Bool}{k:Nat}(hk:k < W.length) :
  let i:=(bh b (aD W k)).toNat
  let L:=(bU b G T i).2
  eK b W i L=(L.take (pW L (bQ b (aD W k)))).map (mU b W i)++k::(L.drop (pW L (bQ b (aD W k))+1)).map (mU b W i):=by
 intro i L
 obtain⟨h1,h2,h3⟩:=h.end_pl b hk
 have e:=jb h2
 have hm:bQ b (aD W k)∈L:=by
  rw[(h.lik e).mem_iff,<- j5]
  exact zQ.mpr ⟨k,cf.mpr ⟨hk,h3.symm⟩,rfl⟩
 have hlt:pW L (bQ b (aD W k)) < L.length:=by
  unfold pW
  exact List.findIdx_lt_length_of_exists ⟨_,hm,by simp⟩
 have hg:L[pW L (bQ b (aD W k))]=bQ b (aD W k):=by
  have:=List.findIdx_getElem (w:=hlt)
  exact of_decide_eq_true this
 have hx:mU b W i (bQ b (aD W k))=k:=t9 h.wp (cf.mpr ⟨hk,h3.symm⟩)
 unfold eK
 conv=>lhs;rw[<- List.take_append_drop (pW L (bQ b (aD W k))) L,List.drop_eq_getElem_cons hlt,hg,List.map_append,zI,hx]
end
noncomputable def sm(l:List Nat)(f:Nat->Int):Int:=(l.map f).sum
theorem bG(q:Nat)(l:List Nat)(f:Nat->Int):sm (q::l) f=f q+sm l f:=by simp[sm]
theorem Kd(l r:List Nat)(f:Nat->Int):sm (l++r) f=sm l f+sm r f:=by simp[sm]
theorem j1(q:Nat)(f:Nat->Int):sm [q] f=f q:=by simp[sm]
theorem dP:∀ {l:List Nat}{f g:Nat->Int},(∀q∈l,f q=g q)->sm l f=sm l g
 | [],_,_,_=>rfl
 | q::l,f,g,h=>by rw[bG,bG,h q zE,dP fun x hx=>h x (zC _ hx)]
theorem EB:∀ {l:List Nat}{f g:Nat->Int},(∀q∈l,f q<=g q)->sm l f<=sm l g
 | [],_,_,_=>Int.le_refl _
 | q::l,f,g,h=>by
  have h1:=h q zE
  have h2:=EB (l:=l) fun x hx=>h x (zC _ hx)
  rw[bG,bG]
  omega
theorem zt{l:List Nat}{f:Nat->Int}(h:∀q∈l,0<=f q):0<=sm l f:=by
 have:sm l (fun _=>0)=0:=by induction l with
  | nil=>rfl
  | cons q l ih=>rw[bG,ih fun x hx=>h x (zC _ hx)];rfl
 rw[<- this]
 exact EB h
theorem GH{l r:List Nat}(p:l.Perm r)(f:Nat->Int):sm l f=sm r f:=by
 induction p with
 | nil=>rfl
 | cons x _ ih=>rw[bG,bG,ih]
 | swap x y l=>rw[bG,bG,bG,bG];omega
 | trans _ _ h1 h2=>rw[h1,h2]
noncomputable def ch(m:Nat->Int):Int->List Nat->Nat->Int
 | _,[],_=>0
 | a,q::r,k=>if k=q then min (m q) a else ch m (a - min (m q) a) r k
theorem bI(m:Nat->Int)(a:Int)(q:Nat)(r:List Nat):ch m a (q::r) q=min (m q) a:=by simp[ch]
theorem bL{m:Nat->Int}{a:Int}{q k:Nat}{r:List Nat}(h:k≠q):ch m a (q::r) k=ch m (a - min (m q) a) r k:=by simp[ch,h]
theorem Hj{m:Nat->Int}:∀ {a:Int}{l:List Nat},(∀q∈l,0<=m q)->0<=a->∀k,0<=ch m a l k/\ch m a l k<=a/\(k∈l->ch m a l k<=m k)
 | a,[],_,ha,k=>⟨Int.le_refl _,ha,fun h=>by cases h⟩
 | a,q::r,hm,ha,k=>by
  have h0:=hm q zE
  by_cases e:k=q
  ·subst e
   rw[bI]
   exact⟨by omega,by omega,fun _=>by omega⟩
  ·rw[bL e]
   obtain⟨h1,h2,h3⟩:=Hj (m:=m) (a:=a - min (m q) a) (l:=r) (fun x hx=>hm x (zC _ hx)) (by omega) k
   refine⟨h1,by omega,fun hk=>?_⟩
   rcases zR.mp hk with z|z
   ·exact absurd z e
   ·exact h3 z
theorem CQ{m:Nat->Int}:∀ {a:Int}{l:List Nat},l.Nodup->(∀q∈l,0<=m q)->0<=a->sm l (ch m a l)=min a (sm l m)
 | a,[],_,_,ha=>by simp[sm];omega
 | a,q::r,hn,hm,ha=>by
  rw[List.nodup_cons] at hn
  have h0:=hm q zE
  have hr:∀x∈r,0<=m x:=fun x hx=>hm x (zC _ hx)
  have hs:=zt hr
  have ih:=CQ (m:=m) (a:=a - min (m q) a) hn.2 hr (by omega)
  rw[bG,bG,bI,dP (g:=ch m (a - min (m q) a) r) fun x hx=>bL fun e=>hn.1 (e ▸ hx),ih]
  omega
theorem yS{m:Nat->Int}:∀ {a a':Int}{l:List Nat}{k:Nat},a<=a'->ch m a l k<=ch m a' l k
 | _,_,[],_,_=>Int.le_refl _
 | a,a',q::r,k,h=>by
  by_cases e:k=q
  ·subst e
   rw[bI,bI]
   omega
  ·rw[bL e,bL e]
   exact yS (by omega)
theorem oh{m m':Nat->Int}:∀ {a:Int}{l:List Nat},(∀q∈l,m q=m' q)->∀k,ch m a l k=ch m' a l k
 | _,[],_,_=>rfl
 | a,q::r,h,k=>by
  have h0:=h q zE
  by_cases e:k=q
  ·subst e
   rw[bI,bI,h0]
  ·rw[bL e,bL e,h0]
   exact oh (fun x hx=>h x (zC _ hx)) k
noncomputable def up:List Nat->Nat->List Nat
 | [],_=>[]
 | q::r,k=>if k=q then [q] else q::up r k
theorem jR(q:Nat)(r:List Nat):up (q::r) q=[q]:=by simp[up]
theorem lj{q k:Nat}{r:List Nat}(h:k≠q):up (q::r) k=q::up r k:=by simp[up,h]
theorem jd:∀ {l:List Nat}{k q:Nat},q∈up l k->q∈l
 | [],_,_,h=>by cases h
 | x::l,k,q,h=>by
  by_cases e:k=x
  ·subst e
   rw[jR,yK] at h
   exact h ▸ zE
  ·rw[lj e] at h
   rcases zR.mp h with z|z
   ·exact z ▸ zE
   ·exact zC _ (jd z)
theorem BY:∀ {xs ys:List Nat}{k:Nat},k∉xs->up (xs++k::ys) k=xs++[k]
 | [],ys,k,_=>jR _ _
 | x::xs,ys,k,h=>by
  rw[zR,not_or] at h
  rw[List.cons_append,lj h.1,BY h.2]
  rfl
theorem yn{m:Nat->Int}:∀ {a:Int}{l:List Nat}{k:Nat},l.Nodup->k∈l->ch m a l k < m k->sm (up l k) (ch m a l)=a
 | a,q::r,k,hn,hk,h=>by
  rw[List.nodup_cons] at hn
  by_cases e:k=q
  ·subst e
   rw[bI] at h
   rw[jR,j1,bI]
   omega
  ·rw[bL e] at h
   have hk':k∈r:=by
    rcases zR.mp hk with z|z
    ·exact absurd z e
    ·exact z
   have ih:=yn hn.2 hk' h
   rw[lj e,bG,bI,dP (g:=ch m (a - min (m q) a) r) fun x hx=>bL fun z=>hn.1 (z ▸ jd hx),ih]
   omega
theorem Hb{m:Nat->Int}:∀ {a:Int}{l:List Nat}{k:Nat},l.Nodup->(∀x∈l,0<=m x)->0<=a->k∈l->sm (up l k) (ch m a l)=min a (sm (up l k) m)
 | a,q::r,k,hn,hm,ha,hk=>by
  rw[List.nodup_cons] at hn
  have h0:=hm q zE
  have hr:∀y∈r,0<=m y:=fun y hy=>hm y (zC _ hy)
  by_cases e:k=q
  ·subst e
   rw[jR,j1,j1,bI]
   omega
  ·have hk':k∈r:=by
    rcases zR.mp hk with z|z
    ·exact absurd z e
    ·exact z
   have ih:=Hb (m:=m) (a:=a - min (m q) a) hn.2 hr (by omega) hk'
   have hs:=zt (l:=up r k) fun y hy=>hr y (jd hy)
   rw[lj e,bG,bG,bI,dP (g:=ch m (a - min (m q) a) r) fun x hx=>bL fun z=>hn.1 (z ▸ jd hx),ih]
   omega
theorem CI{m m':Nat->Int}{p:Nat}:∀ {a:Int}{l:List Nat},l.Nodup->(∀x∈l,x≠p->m' x=m x)->m' p<=ch m a l p->(∀k∈l,k≠p->ch m a l k<=ch m' a l k)/\(p∈l->ch m' a l p=m' p)
 | _,[],_,_,_=>⟨fun _ h=>absurd h yG,fun h=>absurd h yG⟩
 | a,q::r,hn,h,hp=>by
  rw[List.nodup_cons] at hn
  by_cases e:q=p
  ·subst e
   rw[bI] at hp
   have hs:∀x∈r,m' x=m x:=fun x hx=>h x (zC _ hx) fun z=>hn.1 (z ▸ hx)
   refine⟨fun k hk hne=>?_,fun _=>?_⟩
   ·rw[bL hne,bL hne,oh (m:=m') (m':=m) hs]
    exact yS (by omega)
   ·rw[bI];omega
  ·have hq:=h q zE e
   rw[bL (Ne.symm e)] at hp
   obtain⟨i1,i2⟩:=CI (m:=m) (m':=m') (p:=p) (a:=a - min (m q) a) hn.2 (fun x hx=>h x (zC _ hx)) hp
   refine⟨fun k hk hne=>?_,fun hk=>?_⟩
   ·by_cases e2:k=q
    ·subst e2
     rw[bI,bI,hq]
     exact Int.le_refl _
    ·rw[bL e2,bL e2,hq]
     rcases zR.mp hk with z|z
     ·exact absurd z e2
     ·exact i1 k z hne
   ·rw[bL (Ne.symm e),hq]
    rcases zR.mp hk with z|z
    ·exact absurd z.symm e
    ·exact i2 z
theorem HC{m X:Nat->Int}:∀ {a:Int}{l:List Nat},l.Nodup->(∀q∈l,0<=X q/\X q<=m q)->sm l X<=a->(∀k∈l,X k=m k\/sm (up l k) X=a)->∀k∈l,ch m a l k=X k
 | _,[],_,_,_,_,_,h=>by cases h
 | a,q::r,hn,hX,hs,h,k,hk=>by
  rw[List.nodup_cons] at hn
  have h0:=hX q zE
  have hr:∀y∈r,0<=X y/\X y<=m y:=fun y hy=>hX y (zC _ hy)
  have hnn:=zt (l:=r) fun y hy=>(hr y hy).1
  rw[bG] at hs
  have e0:min (m q) a=X q:=by
   rcases h q zE with z|z
   ·omega
   ·rw[jR,j1] at z
    omega
  by_cases e:k=q
  ·subst e
   rw[bI,e0]
  ·rw[bL e,e0]
   rcases zR.mp hk with z|z
   ·exact absurd z e
   ·refine HC hn.2 hr (by omega) (fun j hj=>?_) k z
    have hjq:j≠q:=fun w=>hn.1 (w ▸ hj)
    rcases h j (zC _ hj) with w|w
    ·exact .inl w
    ·rw[lj hjq,bG] at w
     exact .inr (by omega)
noncomputable def dD(b:Bool)(W:List Wy)(k:Nat):Nat:=(bh b (aD W k)).toNat
noncomputable def lst(b:Bool)(G T:List Pl)(W:List Wy)(i:Nat):List Nat:=eK b W i (bU b G T i).2
noncomputable def amt(b:Bool)(G T:List Pl)(i:Nat):Int:=(bU b G T i).1
noncomputable def mm(W:List Wy)(off:List Int)(q:Nat):Int:=min (off.getD q 0) (aD W q).2.2
noncomputable def vl(P:List Int)(q:Nat):Int:=P.getD q 0
section
variable {G T:List Pl}{W:List Wy}{P X c off:List Int}{b:Bool}{i k q:Nat}
theorem i9(h:Wd G T W)(b:Bool)(hk:k < W.length):dD b W k < (aM b G T).length:=(h.end_pl b hk).2.1
theorem pP(h:Wd G T W)(hi:i < (aM b G T).length):(lst b G T W i).Perm (own b W i):=eC h (jb hi)
theorem cH(h:Wd G T W)(hi:i < (aM b G T).length):(lst b G T W i).Nodup:=(pP h hi).nodup_iff.mpr (List.nodup_range.filter _)
theorem cK(h:Wd G T W)(hi:i < (aM b G T).length):q∈lst b G T W i↔q < W.length/\dD b W q=i:=by
 rw[(pP h hi).mem_iff,cf]
 constructor
 ·rintro⟨h1,h2⟩
  exact⟨h1,by unfold dD;rw[h2];simp⟩
 ·rintro⟨h1,h2⟩
  have:=(h.end_pl b h1).2.2
  unfold dD at h2
  rw[h2] at this
  exact⟨h1,this.symm⟩
theorem ik(h:Wd G T W)(b:Bool)(hk:k < W.length):k∈lst b G T W (dD b W k):=(cK h (i9 h b hk)).mpr ⟨hk,rfl⟩
theorem BK(h:Wd G T W)(ho:Off off)(q:Nat):0<=mm W off q:=by
 have h1:=ho q
 have h2:=h.lim q
 unfold mm
 omega
theorem xv:∀ (is:List Nat) (a:Int) (l:List Int),is.Nodup->(∀i∈is,i < l.length)->∀k,(is.foldl (kX W off) (a,l)).2.getD k 0=if k∈is then ch (mm W off) a is k else l.getD k 0
 | [],a,l,_,_,k=>by simp
 | q::is,a,l,hn,hl,k=>by
  rw[List.nodup_cons] at hn
  have ih:=xv is (a - cV W off a q) (l.set q (cV W off a q)) hn.2 (fun i hi=>by rw[yD];exact hl i (zC _ hi)) k
  rw[yJ]
  show (is.foldl (kX W off) (a - cV W off a q,l.set q (cV W off a q))).2.getD k 0=_
  rw[ih]
  have hq:=hl q zE
  by_cases e:k=q
  ·subst e
   rw[if_neg hn.1,if_pos zE,bI,cn,if_pos ⟨rfl,hq⟩]
   rfl
  ·rw[bL e]
   by_cases hk:k∈is
   ·rw[if_pos hk,if_pos (zC _ hk)]
    rfl
   ·rw[if_neg hk,if_neg (by rw[zR,not_or];exact⟨e,hk⟩),cn,if_neg (fun z=>e z.1.symm)]
theorem kM(h:Wd G T W)(b:Bool)(off:List Int)(hk:k < W.length):(aB b G T W off).getD k 0=ch (mm W off) (amt b G T (dD b W k)) (lst b G T W (dD b W k)) k:=by
 have hi:=i9 h b hk
 rw[CV h b hk]
 show (chs W off (amt b G T (dD b W k)) (lst b G T W (dD b W k))).getD k 0=_
 unfold chs
 rw[xv _ _ _ (cH h hi) (fun j hj=>by rw[List.length_replicate];exact ((cK h hi).mp hj).1),if_pos (ik h b hk)]
theorem ue(h:Wd G T W)(b:Bool)(i:Nat):0<=amt b G T i:=h.amt b i
theorem mf(h:Wd G T W)(hi:i < (aM b G T).length):i5 b W P i=sm (lst b G T W i) (vl P):=by
 unfold i5
 rw[GH (pP h hi)]
 rfl
def Fl(b:Bool)(G T:List Pl)(W:List Wy)(P:List Int)(k:Nat):Prop:=sm (up (lst b G T W (dD b W k)) k) (vl P)=amt b G T (dD b W k)
def Rs(G T:List Pl)(W:List Wy)(P:List Int):Prop:=∀k,k < W.length->P.getD k 0=(aD W k).2.2\/Fl false G T W P k\/Fl true G T W P k
theorem Pn.nn(p:Pn G T W P)(q:Nat):0<=vl P q:=by
 by_cases hq:q < W.length
 ·exact (p.bd q hq).1
 ·unfold vl
  rw[o9 (by rw[p.len];omega)]
  omega
theorem Pn.le_sm(h:Wd G T W)(p:Pn G T W P)(hi:i < (aM b G T).length):sm (lst b G T W i) (vl P)<=amt b G T i:=by
 rw[<- mf h hi]
 exact p.am b i hi
theorem zj(h:Wd G T W)(p:Pn G T W P)(b:Bool)(hk:k < W.length):tq b G T W P k=false↔Fl b G T W P k:=by
 obtain⟨z1,z2,z3⟩:=h.end_pl b hk
 have hc:lst b G T W (dD b W k)=((bU b G T (dD b W k)).2.take (pW (bU b G T (dD b W k)).2 (bQ b (aD W k)))).map (mU b W (dD b W k))++k::((bU b G T (dD b W k)).2.drop (pW (bU b G T (dD b W k)).2 (bQ b (aD W k))+1)).map (mU b W (dD b W k)):=FD h hk
 have hn:=cH (b:=b) h z2
 change (lst b G T W (dD b W k)).Nodup at hn
 have hle:=p.le_sm h z2
 change sm (lst b G T W (dD b W k)) (vl P)<=amt b G T (dD b W k) at hle
 have hth:=mf (P:=P) h z2
 have hy:tq b G T W P k=(decide (i5 b W P ((dD b W k:Nat):Int) < amt b G T (dD b W k))||(((bU b G T (dD b W k)).2.drop (pW (bU b G T (dD b W k)).2 (bQ b (aD W k))+1)).map (mU b W (dD b W k))).any fun q=>decide (0 < vl P q)):=by
  unfold tq
  rw[List.any_map]
  unfold dD amt
  rw[z3]
  rfl
 change i5 b W P ((dD b W k:Nat):Int)=sm (lst b G T W (dD b W k)) (vl P) at hth
 unfold Fl
 rw[hy,hth]
 revert hc
 generalize ((bU b G T (dD b W k)).2.take (pW (bU b G T (dD b W k)).2 (bQ b (aD W k)))).map (mU b W (dD b W k))=xs
 generalize ((bU b G T (dD b W k)).2.drop (pW (bU b G T (dD b W k)).2 (bQ b (aD W k))+1)).map (mU b W (dD b W k))=ys
 intro hc
 have hx:k∉xs:=fun z=>by
  rw[hc,List.nodup_append] at hn
  exact hn.2.2 k z k zE rfl
 rw[hc,BY hx]
 rw[hc] at hle
 have e:sm (xs++k::ys) (vl P)=sm (xs++[k]) (vl P)+sm ys (vl P):=by
  rw[<- Kd]
  simp
 have hnn:=zt (l:=ys) fun q _=>p.nn q
 have hpos:=yW (P:=P) ys fun q _=>p.nn q
 change (0 < sm ys (vl P)↔(ys.any fun q=>decide (0 < vl P q))=true) at hpos
 rw[e] at hle ⊢
 rw[Bool.or_eq_false_iff,decide_eq_false_iff_not]
 constructor
 ·rintro⟨h1,h2⟩
  have:¬ 0 < sm ys (vl P):=fun z=>by rw[hpos.mp z] at h2;cases h2
  omega
 ·intro h1
  refine⟨by omega,?_⟩
  cases hh:(ys.any fun q=>decide (0 < vl P q)) with
  | false=>rfl
  | true=>have:=hpos.mpr hh;omega
theorem pR(h:Wd G T W)(p:Pn G T W P):A3 G T W P=[]↔Rs G T W P:=by
 unfold A3
 rw[List.filter_eq_nil_iff]
 constructor
 ·intro hh k hk
  have:=hh k (by simpa using hk)
  rw[zJ] at this
  unfold kb at this
  by_cases e1:P.getD k 0=(aD W k).2.2
  ·exact .inl e1
  ·rw[if_neg e1] at this
   by_cases e2:tq false G T W P k=false
   ·exact .inr (.inl ((zj h p false hk).mp e2))
   ·rw[if_neg e2] at this
    by_cases e3:tq true G T W P k=false
    ·exact .inr (.inr ((zj h p true hk).mp e3))
    ·rw[if_neg e3] at this
     exact absurd rfl this
 ·intro hh k hk
  rw[zJ]
  unfold kb
  rcases hh k (by simpa using hk) with e|e|e
  ·rw[if_pos e];omega
  ·rw[if_pos ((zj h p false (by simpa using hk)).mpr e)]
   split<;>omega
  ·rw[if_pos ((zj h p true (by simpa using hk)).mpr e)]
   split
   ·omega
   ·split<;>omega
theorem yY(e:qQ G T W c=some (k,q')):k < W.length/\q'=(jk G T W c).getD k 0/\(jk G T W c).getD k 0 < (aB false G T W c).getD k 0:=by
 unfold qQ at e
 obtain⟨j,hj,e2⟩:=Dl.af e
 cases e2
 have hm:=List.mem_of_find?_eq_some hj
 have hq:=List.find?_some hj
 rw[qR,zJ] at hq
 exact⟨zT.mp hm,rfl,hq⟩
theorem GE(e:qQ G T W c=none)(hk:k < W.length):(aB false G T W c).getD k 0<=(jk G T W c).getD k 0:=by
 unfold qQ at e
 rw[Option.map_eq_none_iff] at e
 have:=List.find?_eq_none.mp e k (by simpa using hk)
 rw[qR,zJ] at this
 omega
end
section
variable {G T:List Pl}{W:List Wy}{P X c off:List Int}{b:Bool}{i k q:Nat}
theorem BS(h:Wd G T W)(hk:k < W.length)(hq:q∈lst b G T W (dD b W k)):q < W.length/\dD b W q=dD b W k:=(cK h (i9 h b hk)).mp hq
theorem oE(h:Wd G T W)(hi:i < (aM b G T).length)(hq:q∈lst b G T W i):vl (aB b G T W off) q=ch (mm W off) (amt b G T i) (lst b G T W i) q:=by
 obtain⟨h1,h2⟩:=(cK h hi).mp hq
 have:=kM h b off h1
 rw[h2] at this
 exact this
theorem Ji(h:Wd G T W)(ho:Off off)(b:Bool)(hk:k < W.length):sm (up (lst b G T W (dD b W k)) k) (vl (aB b G T W off))=min (amt b G T (dD b W k)) (sm (up (lst b G T W (dD b W k)) k) (mm W off)):=by
 have hi:=i9 h b hk
 rw[dP fun q hq=>oE h hi (jd hq)]
 exact Hb (cH h hi) (fun q _=>BK h ho q) (ue h b _) (ik h b hk)
theorem pG(h:Wd G T W)(b:Bool)(hk:k < W.length)(e:(aB b G T W off).getD k 0 < mm W off k):Fl b G T W (aB b G T W off) k:=by
 have hi:=i9 h b hk
 rw[kM h b off hk] at e
 unfold Fl
 rw[dP fun q hq=>oE h hi (jd hq)]
 exact yn (cH h hi) (ik h b hk) e
theorem oJ(h:Wd G T W)(ho:Off off)(b:Bool)(hk:k < W.length):0<=(aB b G T W off).getD k 0/\(aB b G T W off).getD k 0<=mm W off k:=by
 have hi:=i9 h b hk
 rw[kM h b off hk]
 have:=Hj (m:=mm W off) (a:=amt b G T (dD b W k)) (l:=lst b G T W (dD b W k)) (fun q _=>BK h ho q) (ue h b _) k
 exact⟨this.1,this.2.2 (ik h b hk)⟩
theorem yu(h:Wd G T W)(ho:Off off)(hi:i < (aM b G T).length):sm (lst b G T W i) (vl (aB b G T W off))=min (amt b G T i) (sm (lst b G T W i) (mm W off)):=by
 rw[dP fun q hq=>oE h hi hq]
 exact CQ (cH h hi) (fun q _=>BK h ho q) (ue h b _)
end
section
variable {G T:List Pl}{W:List Wy}{P X c off:List Int}{b:Bool}{i k q:Nat}{v:Int}
theorem rh(h:Wd G T W)(ho:Off c)(hk:k < W.length):0<=(jk G T W c).getD k 0/\(jk G T W c).getD k 0<=(aB false G T W c).getD k 0/\(aB false G T W c).getD k 0<=c.getD k 0/\(aB false G T W c).getD k 0<=(aD W k).2.2/\mm W (aB false G T W c) k=(aB false G T W c).getD k 0:=by
 have h1:=oJ h ho false hk
 have h2:=oJ h (iL h ho false) true hk
 change 0<=(jk G T W c).getD k 0/\(jk G T W c).getD k 0<=_ at h2
 unfold mm at h1 h2 ⊢
 omega
def Jn(G T:List Pl)(W:List Wy)(c:List Int):Prop:=∀k,k < W.length->c.getD k 0 < (aD W k).2.2->Fl true G T W (jk G T W c) k
theorem IU(h:Wd G T W)(ho:Off c)(hl:c.length=W.length)(e:qQ G T W c=some (k,v))(hq:q < W.length):(jk G T W c).getD q 0<=(aB false G T W (c.set k v)).getD q 0:=by
 obtain⟨hk,rfl,hlt⟩:=yY e
 obtain⟨b0,b1,b2,b3,b4⟩:=rh h ho hk
 obtain⟨d0,d1,d2,d3,d4⟩:=rh h ho hq
 have hi:=i9 h false hq
 have hm:∀x,x≠k->mm W (c.set k ((jk G T W c).getD k 0)) x=mm W c x:=fun x hx=>by
  unfold mm
  rw[cn,if_neg (fun z=>hx z.1.symm)]
 have hmk:mm W (c.set k ((jk G T W c).getD k 0)) k=(jk G T W c).getD k 0:=by
  unfold mm
  rw[cn,if_pos ⟨rfl,by rw[hl];exact hk⟩]
  omega
 rw[kM h false _ hq]
 by_cases z:dD false W q=dD false W k
 ·have hkL:k∈lst false G T W (dD false W q):=by rw[z];exact ik h false hk
  have hA:vl (aB false G T W c) k=ch (mm W c) (amt false G T (dD false W q)) (lst false G T W (dD false W q)) k:=oE h hi hkL
  unfold vl at hA
  obtain⟨l1,l2⟩:=CI (m:=mm W c) (m':=mm W (c.set k ((jk G T W c).getD k 0))) (p:=k) (a:=amt false G T (dD false W q)) (l:=lst false G T W (dD false W q)) (cH h hi) (fun x _ hx=>hm x hx) (by rw[hmk,<- hA];exact b1)
  by_cases y:q=k
  ·subst y
   rw[l2 hkL,hmk]
   exact Int.le_refl _
  ·have:=l1 q (ik h false hq) y
   rw[<- kM h false c hq] at this
   omega
 ·rw[oh (m:=mm W (c.set k ((jk G T W c).getD k 0))) (m':=mm W c) fun x hx=>hm x fun w=>by
   subst w
   exact z ((cK h hi).mp hx).2.symm]
  rw[<- kM h false c hq]
  exact d1
theorem Jn.step(h:Wd G T W)(ho:Off c)(hl:c.length=W.length)(j:Jn G T W c)(e:qQ G T W c=some (k,v)):Jn G T W (c.set k v):=fun q hq hlim=>by
 have ho':Off (c.set k v):=yX ho (yh h ho e).2.1
 have fq:Fl true G T W (jk G T W c) q:=by
  obtain⟨hk,rfl,hlt⟩:=yY e
  by_cases z:q=k
  ·subst z
   exact pG h true hq (by rw[(rh h ho hq).2.2.2.2];exact hlt)
  ·rw[cn,if_neg (fun w=>z w.1.symm)] at hlim
   exact j q hq hlim
 have hu:=Ji h (iL h ho' false) true hq
 change sm _ (vl (jk G T W (c.set k v)))=_ at hu
 unfold Fl at fq ⊢
 have hs:sm (up (lst true G T W (dD true W q)) q) (vl (jk G T W c))<=sm (up (lst true G T W (dD true W q)) q) (mm W (aB false G T W (c.set k v))):=EB fun x hx=>by
  have hx':=(BS h hq (jd hx)).1
  have h1:=IU h ho hl e hx'
  have h2:=rh h ho hx'
  unfold vl mm
  omega
 rw[hu]
 omega
theorem KZ(h:Wd G T W):Jn G T W (fin G T W).2:=by
 have hb:=h.mea
 obtain⟨_,_,h2⟩:=sR (Ik G T W) (spS G T W) (fun s=>mea s.2) (fun s=>z6 W s/\Jn G T W s.2)
  (fun s ⟨i,j⟩ hc=>by
   obtain⟨⟨k,v⟩,e⟩:=pE hc
   obtain⟨i2,hm⟩:=i.step h e
   refine⟨⟨i2,?_⟩,hm⟩
   rw[sg e]
   exact j.step h i.off i.len e) Rf.turns ([],dJ W) (Nat.lt_of_le_of_lt hb (by decide)) ⟨z6.start h,fun k hk hl=>by rw[CM hk] at hl;omega⟩
 exact h2
theorem Dj(h:Wd G T W):Rs G T W (bst G T W):=fun k hk=>by
 obtain⟨hnone,i,hlim⟩:=yz h
 have j:=KZ h
 have heq:∀q,q < W.length->(bst G T W).getD q 0=(jk G T W (fin G T W).2).getD q 0:=fun q hq=>by
  have h1:=GE hnone hq
  have h2:=(rh h i.off hq).2.1
  unfold bst
  omega
 obtain⟨d0,d1,d2,d3,d4⟩:=rh h i.off hk
 by_cases e:(bst G T W).getD k 0=(aD W k).2.2
 ·exact .inl e
 ·by_cases e2:(bst G T W).getD k 0 < mm W (fin G T W).2 k
  ·exact .inr (.inl (pG h false hk e2))
  ·have h3:=(oJ h i.off false hk).2
   have:(fin G T W).2.getD k 0 < (aD W k).2.2:=by
    unfold bst at e e2
    unfold mm at e2 h3
    omega
   have f:=j k hk this
   refine .inr (.inr ?_)
   unfold Fl at f ⊢
   rw[<- f]
   exact dP fun q hq=>heq q (BS h hk (jd hq)).1
end
section
variable {G T:List Pl}{W:List Wy}{P X c off:List Int}{b:Bool}{i k q:Nat}{π:List Nat}
theorem nO{P X:List Int}(h:P.length=X.length)(e:∀k,k < P.length->P.getD k 0=X.getD k 0):P=X:=by
 apply List.ext_getElem h
 intro k h1 h2
 have:=e k h1
 simpa [h1,h2] using this
theorem Rs.tu(h:Wd G T W)(o:Ord W π)(p:Pn G T W P)(r:Rs G T W P):Rs T G (fT W π) (v9 P π):=(pR (o.wd h) (p.tu h o)).mp ((Io h o).mpr ((pR h p).mpr r))
noncomputable def bstT(G T:List Pl)(W:List Wy):List Int:=v9 (bst T G (fT W (cQ W))) (cQ (fT W (cQ W)))
theorem LC(h:Wd G T W):Pn G T W (bstT G T W):=by
 have o:=gm h.wp
 have h':=o.wd h
 have o':=gm h'.wp
 have:=(lW h').tu h' o'
 rwa [zw h.wp o o'] at this
theorem LK(h:Wd G T W):Rs G T W (bstT G T W):=by
 have o:=gm h.wp
 have h':=o.wd h
 have o':=gm h'.wp
 have:=(Dj h').tu h' o' (lW h')
 rwa [zw h.wp o o'] at this
end
section
variable {G T:List Pl}{W:List Wy}{P X:List Int}{b:Bool}{i:Nat}
theorem yO(h:Wd G T W):bB [ax G T W]=some (ag (bstT G T W)):=by
 have h':=(gm h.wp).wd h
 exact qF h (o4 h') (lW h')
theorem ur(h:Wd G T W):eJ [ax G T W]=some (.bool (decide (bst G T W=bstT G T W))):=by
 refine aH ?_
 show ju [.val (ax G T W)]=_
 exact aL (ar (Do _ _) (call_of (o4 h) rfl rfl) (call_of (yO h) rfl rfl))
end
theorem jg{f:Dl.Env->Option (List D)}{ρ:Dl.Env}{ds:List D}(h:f ρ=some ds):dh f ρ=some (.list ds):=by
 simp only[dh,h,zB]
theorem Jc{t:Dl.Env->Option Bool}{g g2:ai->Option Out}{ρ:ai}(h:t (bz ρ)=some false):gC t g g2 ρ=g2 ρ:=by
 simp[gC,h]
theorem vD(l:List Nat):PyData.eqvAll (l.map nD) (l.map nD)=true:=mX fun d hd=>by
 obtain⟨i,_,rfl⟩:=zQ.mp hd
 exact JU _
theorem mV{l:List Nat}:SeqAt.shaped (.list (l.map nD))=true :=
 (iu.lst (b:=l.length) (k:=0) (by simp) fun x hx=>by obtain⟨i,_,rfl⟩:=zQ.mp hx;exact j7 _).shaped (by decide)
theorem Bi(l:List Nat):eX (.list (l.map nD)) (.list (l.map nD))=some (.bool false):=by
 simp only[eX,KC,mV,and_self,if_true,PyData.eqv,vD,zB,Bool.not_true]
theorem D7{ρ:Dl.Env}{f g:Dl.Env->Option D}{G T:List Pl}{W:List Wy}{b:Bool}(hf:f ρ=some (ax G T W))(hg:g ρ=some (.int (sI b))):(aa (bf bP (aa (f2 ao f g) ae)) ae) ρ=some [nD (aM b G T).length] :=
 cons_of (mz (l:=aM b G T) (k:=aQ) (ar (jZ b G T W) hf hg)) rfl
section
variable {G T:List Pl}{W:List Wy}{P X:List Int}
theorem uv(h:Wd G T W)(p:Pn G T W P)(r:Rs G T W P):jP [ax G T W,ag P]=some (.bool true):=by
 rw[GJ h p,yB ((pR h p).mpr r)]
end
section
variable {G T:List Pl}{W:List Wy}{P X c:List Int}{b:Bool}{k:Nat}
end
structure Wk(G T G' T':List Pl):Prop where
 len:∀b,(aM b G' T').length=(aM b G T).length
 lik:∀b i,(bU b G' T' i).2=(bU b G T i).2
 gv:∀i,amt false G' T' i<=amt false G T i
 tk:∀i,amt true G T i<=amt true G' T' i
section
variable {G T G' T':List Pl}{W:List Wy}{P X c:List Int}{b:Bool}{i k q:Nat}{v:Int}
theorem Wk.lst(w:Wk G T G' T')(b:Bool)(i:Nat):lst b G' T' W i=lst b G T W i:=by unfold Wm.lst;rw[w.lik]
end
section
variable {G T G' T':List Pl}{W:List Wy}{P X off:List Int}{b:Bool}{i j k:Nat}{a:Int}
theorem nZ(h:Wd G T W)(b:Bool)(hi:i < (aM b G T).length):ef [ax G T W,.int (sI b),nD i]=some .none:=by
 have:cX [.val (ax G T W),.val (.int (sI b)),.val (nD i)]=some (.nx [.val (ax G T W),.val (.int (sI b)),.val (nD i)]):=by
  unfold cX
  refine (aj (cD (call_of (lH b) rfl rfl))).trans ?_
  exact cD (call_of (dQ (n:=((aM b G T).length:Nat)) (i:=(i:Nat)) (by omega) (by omega)) (cons_of rfl (cons_of (mz (l:=aM b G T) (k:=aQ) (ar (jZ b G T W) rfl rfl)) rfl)) rfl)
 show (cX [.val (ax G T W),.val (.int (sI b)),.val (nD i)]).map _=_
 rw[this]
 rfl
theorem Ax(h:Wd G T W)(ho:off.length=W.length)(hi:i < (aM b G T).length):gY [ax G T W,.int (sI b),nD i,ag off]=some (ag (chs W off (amt b G T i) (lst b G T W i))):=by
 have e:=jt h ho (jb hi)
 refine aH ?_
 show ly [.val (ax G T W),.val (.int (sI b)),.val (nD i),.val (ag off)]=_
 unfold ly
 refine (aj (cD (call_of (cS h) rfl rfl))).trans ?_
 refine (aj (cD (call_of (nZ h b hi) rfl rfl))).trans ?_
 exact aL (call_of e rfl rfl)
noncomputable def vc(b:Bool)(W:List Wy)(P:List Int)(i:Nat):List Int:=(List.range W.length).map fun q=>if bh b (aD W q)=((i:Nat):Int) then P.getD q 0 else 0
theorem FL(h:Wd G T W)(hi:i < (aM b G T).length)(off:List Int):chs W off (amt b G T i) (lst b G T W i)=vc b W (aB b G T W off) i:=by
 refine nO (by rw[ll];simp[vc]) fun k hk=>?_
 rw[ll] at hk
 unfold chs
 rw[xv _ _ _ (cH h hi) (fun j hj=>by rw[List.length_replicate];exact ((cK h hi).mp hj).1)]
 have e:(vc b W (aB b G T W off) i).getD k 0=if bh b (aD W k)=((i:Nat):Int) then (aB b G T W off).getD k 0 else 0:=by simp[vc,hk]
 rw[e]
 have hz:=(h.end_pl b hk).2.2
 by_cases z:k∈lst b G T W i
 ·have hp:=((cK h hi).mp z).2
  unfold dD at hp
  rw[hp] at hz
  rw[if_pos z,if_pos hz.symm]
  exact (oE h hi z).symm
 ·rw[if_neg z,if_neg fun y=>z ((cK h hi).mpr ⟨hk,by unfold dD;rw[y];simp⟩)]
  simp[List.getElem?_replicate,hk]
end
section
variable {G T:List Pl}{W:List Wy}{P X:List Int}
noncomputable def ext(l:Int)(r:List Int):List (List Int):=(List.range (l+1).toNat).map fun m=>r++[((m:Nat):Int)]
end
section
variable {G T:List Pl}{W:List Wy}{P X:List Int}{b:Bool}{i k q:Nat}
end
section
variable {G T:List Pl}{W:List Wy}{P X:List Int}{b:Bool}{i k:Nat}
noncomputable def iG(b:Bool)(G T:List Pl)(W:List Wy)(P:List Int):List Int:=(List.range (aM b G T).length).map fun (i:Nat)=>i5 b W P ((i:Nat):Int)
theorem pe:(iG b G T W P).length=(aM b G T).length:=by simp[iG]
theorem yj(hi:i < (aM b G T).length):(iG b G T W P).getD i 0=i5 b W P i:=by simp[iG,hi]
theorem kl(h:Wd G T W)(p:Pn G T W P)(b:Bool):cW [ax G T W,ag P,.int (sI b)]=some (ag (iG b G T W P)):=by
 have hl:=h.pl b
 refine aH ?_
 show ek [.val (ax G T W),.val (ag P),.val (.int (sI b))]=_
 unfold ek
 have c:aq 1 [0,1,2] (aV (aa (bf bP (aa (f2 ao (ab 0) (ab 2)) ae)) ae)) (fG 0) (fun _=>some true) (ah 4 bb (aa (ab 1) (aa (ab 2) (aa (ab 3) (aa (ab 0) ae))))) [some (ax G T W),some (ag P),some (.int (sI b))]=some ((List.range (aM b G T).length).map fun (i:Nat)=>.int (i5 b W P ((i:Nat):Int))) :=
  cG (gu (D7 (b:=b) rfl rfl) (by omega)) (by rw[zS];omega) fun i _=>call_of (gX h p.len (p.smP h) b i) rfl rfl
 refine aL ?_
 show bf bj (aa (dh (aq 1 [0,1,2] (aV (aa (bf bP (aa (f2 ao (ab 0) (ab 2)) ae)) ae)) (fG 0) (fun _=>some true) (ah 4 bb (aa (ab 1) (aa (ab 2) (aa (ab 3) (aa (ab 0) ae))))))) ae) [some (ax G T W),some (ag P),some (.int (sI b))]=_
 rw[fH (jg c),l6]
 unfold iG ag
 rw[zM]
 rfl
theorem pJ(h:Wd G T W):dH [ax G T W]=some (.tuple [ag (iG false G T W (bst G T W)),ag (iG true G T W (bst G T W))]):=by
 refine aH ?_
 show lL [.val (ax G T W),.non]=_
 unfold lL
 refine (aj (cx (call_of (o4 h) rfl rfl) (call_of (o4 h) rfl rfl) rfl)).trans ?_
 exact aL (tup_is (cons_of (call_of (kl h (lW h) false) rfl rfl) (cons_of (call_of (kl h (lW h) true) rfl rfl) rfl)) (by simp))
noncomputable def shr(b:Bool)(G T:List Pl)(W:List Wy):List Nat:=(List.range (aM b G T).length).filter fun (i:Nat)=>decide (i5 b W (bst G T W) ((i:Nat):Int) < amt b G T i)
theorem zf(h:Wd G T W)(b:Bool):iV [ax G T W,.int (sI b)]=some (.list ((shr b G T W).map nD)):=by
 have hl:=h.pl b
 refine aH ?_
 show nV [.val (ax G T W),.val (.int (sI b)),.non]=_
 unfold nV
 refine (aj (cD (call_of (cS h) rfl rfl))).trans ?_
 refine (aj (cD (call_of (lH b) rfl rfl))).trans ?_
 have hix:ao (.tuple [ag (iG false G T W (bst G T W)),ag (iG true G T W (bst G T W))]) (.int (sI b))=some (ag (iG b G T W (bst G T W))):=by cases b<;>rfl
 refine (aj (cx (ar hix (call_of (pJ h) rfl rfl) rfl) (ar hix (call_of (pJ h) rfl rfl) rfl) rfl)).trans ?_
 have he:fP (aa (f2 ao (ab 0) (ab 1)) ae) [some (ax G T W),some (.int (sI b)),some (ag (iG b G T W (bst G T W)))]=some ((List.range (aM b G T).length).map fun i=>.tuple [nD i,aQ (bU b G T i)]):=by
  have:=o6 (aM b G T)
  unfold bU
  rw[<- this]
  cases b<;>rfl
 refine aL (jg ?_)
 exact lu (cs:=[2]) (x:=nD) (y:=fun i=>aQ (bU b G T i)) (p:=fun i=>decide (i5 b W (bst G T W) i < amt b G T i)) (h:=nD) he (by omega) fun i hi=>⟨bW (ar (k5 (i5 b W (bst G T W) i) (amt b G T i)) (ar ((kN (by rw[pe];exact hi)).trans (by rw[yj hi])) rfl rfl) (ar (a:=aQ (bU b G T i)) (b:=.int 0) rfl rfl rfl)),fun _=>rfl⟩
end
theorem uD{l:List Int}(hl:l.length<=1000)(hb:∀x∈l,-1000000<=x/\x<=1000000):kf [ag l]=some (.int l.sum):=by
 have hok:FZ l=true:=by
  unfold FZ
  rw[zF,zJ,List.all_eq_true]
  refine⟨hl,fun x hx=>?_⟩
  rw[zF,zJ,zJ]
  exact hb x hx
 show kf [.tuple (l.map PyData.int)]=_
 simp only[kf,dF,oneOf,i7,zA,cw,hok,if_true]
structure Str(b:Bool)(G T:List Pl)(W:List Wy)(a:Int)(o r:Nat->Int):Prop where
 wd:Wd G T W
 one:(aM b G T).length=1
 amb:amt b G T 0=a
 oth:(aM (!b) G T).length=W.length
 amo:∀k,k < W.length->amt (!b) G T k=o k
 lim:∀k,k < W.length->(aD W k).2.2=r k
 en:∀k,k < W.length->dD (!b) W k=k
noncomputable def aU(W:List Wy)(o r:Nat->Int):List Int:=(List.range W.length).map fun k=>min (r k) (o k)
section
variable {G T:List Pl}{W:List Wy}{X:List Int}{b:Bool}{a:Int}{o r:Nat->Int}{k:Nat}
theorem Str.plc0(h:Str b G T W a o r)(hk:k < W.length):dD b W k=0:=by
 have:=i9 h.wd b hk
 rw[h.one] at this
 omega
theorem Str.lst1(h:Str b G T W a o r)(hk:k < W.length):lst (!b) G T W k=[k]:=by
 have hi:k < (aM (!b) G T).length:=by rw[h.oth];exact hk
 have hn:=cH h.wd hi
 have hm:∀q,q∈lst (!b) G T W k↔q=k:=fun q=>by
  rw[cK h.wd hi]
  constructor
  ·rintro⟨h1,h2⟩;rw[h.en q h1] at h2;exact h2
  ·rintro rfl;exact⟨hk,h.en _ hk⟩
 revert hn hm
 generalize lst (!b) G T W k=l
 intro hn hm
 match l,hn,hm with
 | [],_,hm=>exact absurd ((hm k).mpr rfl) (by simp)
 | [x],_,hm=>rw[(hm x).mp (by simp)]
 | x::y::l,hn,hm =>
  have e1:=(hm x).mp (by simp)
  have e2:=(hm y).mp (by simp)
  rw[e1,e2] at hn
  exact absurd zE (List.nodup_cons.mp hn).1
theorem Str.thr1(h:Str b G T W a o r)(hk:k < W.length)(P:List Int):i5 (!b) W P k=P.getD k 0:=by
 rw[mf h.wd (by rw[h.oth];exact hk),h.lst1 hk,j1]
 rfl
theorem tV(hk:k < W.length):(aU W o r).getD k 0=min (r k) (o k):=by simp[aU,hk]
theorem Str.onn(h:Str b G T W a o r)(hk:k < W.length):0<=o k/\1<=r k:=by
 have h1:=ue h.wd (!b) k
 rw[h.amo k hk] at h1
 have h2:=(h.wd.wr _ (sE hk)).2.2
 rw[h.lim k hk] at h2
 exact⟨h1,h2.1⟩
theorem Str.off(h:Str b G T W a o r):Off (aU W o r):=fun q=>by
 by_cases hq:q < W.length
 ·rw[tV hq];have:=h.onn hq;omega
 ·simp[aU,hq]
theorem Str.mmq(h:Str b G T W a o r)(hk:k < W.length):mm W (aU W o r) k=min (r k) (o k):=by
 unfold mm
 rw[tV hk,h.lim k hk]
 omega
theorem Str.pn(h:Str b G T W a o r):Pn G T W (aB b G T W (aU W o r)):=by
 have hb:∀k,k < W.length->0<=(aB b G T W (aU W o r)).getD k 0/\(aB b G T W (aU W o r)).getD k 0<=min (r k) (o k):=fun k hk=>by
  have:=oJ h.wd h.off b hk
  rw[h.mmq hk] at this
  exact this
 refine⟨cJ ..,fun k hk=>⟨(hb k hk).1,by rw[h.lim k hk];have:=(hb k hk).2;omega⟩,fun c i hi=>?_⟩
 by_cases hc:c=b
 ·subst hc
  have:=yu h.wd h.off hi
  rw[mf h.wd hi,this]
  exact Int.min_le_left ..
 ·have:c=!b:=by cases c<;>cases b<;>simp_all
  subst this
  rw[h.oth] at hi
  rw[h.thr1 hi]
  have:=h.amo i hi
  unfold amt at this
  rw[this]
  have:=(hb i hi).2
  omega
theorem Str.fl1(h:Str b G T W a o r)(hk:k < W.length):Fl (!b) G T W X k↔X.getD k 0=o k:=by
 unfold Fl
 rw[h.en k hk,h.lst1 hk,jR,j1,h.amo k hk]
 exact Iff.rfl
theorem K8(b:Bool){P:Prop}(h:P\/Fl b G T W X k\/Fl (!b) G T W X k):P\/Fl false G T W X k\/Fl true G T W X k:=by
 cases b
 ·exact h
 ·exact h.elim .inl fun z=>.inr (z.elim .inr .inl)
theorem Str.rs(h:Str b G T W a o r):Rs G T W (aB b G T W (aU W o r)):=fun k hk=>by
 refine K8 b ?_
 have hm:=oJ h.wd h.off b hk
 by_cases e:(aB b G T W (aU W o r)).getD k 0 < mm W (aU W o r) k
 ·exact .inr (.inl (pG h.wd b hk e))
 ·rw[h.mmq hk] at e hm
  rw[h.lim k hk]
  by_cases z:r k<=o k
  ·left;omega
  ·right;right
   rw[h.fl1 hk]
   omega
theorem Str.only(h:Str b G T W a o r)(p:Pn G T W X)(z:Rs G T W X):X=aB b G T W (aU W o r):=by
 refine nO (by rw[p.len,cJ]) fun k hk=>?_
 rw[p.len] at hk
 rw[kM h.wd b _ hk,h.plc0 hk]
 have hi:0 < (aM b G T).length:=by rw[h.one];decide
 have hx:∀q,q < W.length->X.getD q 0<=o q:=fun q hq=>by
  have:=p.am (!b) q (by rw[h.oth];exact hq)
  rw[h.thr1 hq] at this
  have e:=h.amo q hq
  unfold amt at e
  omega
 refine (HC (m:=mm W (aU W o r)) (X:=vl X) (cH h.wd hi) (fun q hq=>?_) (p.le_sm h.wd hi) (fun q hq=>?_) k ((cK h.wd hi).mpr ⟨hk,h.plc0 hk⟩)).symm
 ·have hq:=((cK h.wd hi).mp hq).1
  rw[h.mmq hq]
  have h1:=p.bd q hq
  rw[h.lim q hq] at h1
  have h2:=hx q hq
  exact⟨h1.1,by show X.getD q 0<=_;omega⟩
 ·have hq:=((cK h.wd hi).mp hq).1
  rw[h.mmq hq]
  have h1:=p.bd q hq
  have h2:=hx q hq
  have h3:=z q hq
  rw[h.lim q hq] at h1 h3
  show X.getD q 0=_\/_
  have flb:Fl b G T W X q->sm (up (lst b G T W 0) q) (vl X)=amt b G T 0:=fun f=>by
   unfold Fl at f
   rw[h.plc0 hq] at f
   exact f
  have fln:Fl (!b) G T W X q->X.getD q 0=o q:=(h.fl1 hq).mp
  have h3':X.getD q 0=r q\/Fl b G T W X q\/Fl (!b) G T W X q:=by
   cases b
   ·exact h3
   ·exact h3.elim .inl fun z=>.inr (z.elim .inr .inl)
  rcases h3' with e|e|e
  ·left;omega
  ·right;exact flb e
  ·left;have:=fln e;omega
theorem Str.bst(h:Str b G T W a o r):bst G T W=aB b G T W (aU W o r):=h.only (lW h.wd) (Dj h.wd)
theorem Str.bstT(h:Str b G T W a o r):bstT G T W=aB b G T W (aU W o r):=h.only (LC h.wd) (LK h.wd)
theorem Str.chs(h:Str b G T W a o r)(off:List Int):chs W off (amt b G T 0) (lst b G T W 0)=aB b G T W off:=by
 rw[FL h.wd (by rw[h.one];decide)]
 refine nO (by rw[cJ];simp[vc]) fun k hk=>?_
 have hk:k < W.length:=by simpa [vc] using hk
 have e:(vc b W (aB b G T W off) 0).getD k 0=if bh b (aD W k)=((0:Nat):Int) then (aB b G T W off).getD k 0 else 0:=by simp[vc,hk]
 rw[e,if_pos]
 have h1:=(h.wd.end_pl b hk).2.2
 have h2:=h.plc0 hk
 unfold dD at h2
 rw[h2] at h1
 exact h1.symm
theorem Str.thr0(h:Str b G T W a o r){P:List Int}(hp:P.length=W.length):i5 b W P ((0:Nat):Int)=P.sum:=by
 have e:own b W ((0:Nat):Int)=List.range P.length:=by
  unfold own
  rw[hp]
  refine List.filter_eq_self.mpr fun k hk=>?_
  have hk:k < W.length:=by simpa using hk
  have h1:=(h.wd.end_pl b hk).2.2
  have h2:=h.plc0 hk
  unfold dD at h2
  rw[h2] at h1
  simpa using h1.symm
 unfold i5
 rw[e,Dl.fw]
theorem Str.tot(h:Str b G T W a o r):(aB b G T W (aU W o r)).sum=min a (aU W o r).sum:=by
 have hi:0 < (aM b G T).length:=by rw[h.one];decide
 have h1:=h.thr0 (P:=aB b G T W (aU W o r)) (cJ ..)
 have h2:=yu h.wd h.off hi
 rw[<- h1,mf h.wd hi,h2,h.amb]
 have e:sm (lst b G T W 0) (mm W (aU W o r))=sm (lst b G T W 0) (vl (aU W o r)):=dP fun q hq=>by
  have hq:=((cK h.wd hi).mp hq).1
  rw[h.mmq hq]
  exact (tV hq).symm
 rw[e,<- mf h.wd hi,h.thr0 (by simp[aU])]
theorem Str.thrA1(h:Str b G T W a o r):iG (!b) G T W (aB b G T W (aU W o r))=aB b G T W (aU W o r):=by
 refine nO (by rw[pe,h.oth,cJ]) fun k hk=>?_
 rw[pe] at hk
 rw[yj hk]
 rw[h.oth] at hk
 exact h.thr1 hk _
theorem Str.thrA0(h:Str b G T W a o r):iG b G T W (aB b G T W (aU W o r))=[(aB b G T W (aU W o r)).sum]:=by
 unfold iG
 rw[h.one]
 show [i5 b W _ ((0:Nat):Int)]=_
 rw[h.thr0 (cJ ..)]
end
noncomputable def kc(n:Nat)(o:Nat->Int):List Pl:=(List.range n).map fun k=>(o k,[0])
noncomputable def sG(b:Bool)(a:Int)(L:List Int)(n:Nat)(o:Nat->Int):List Pl:=if b then kc n o else [(a,L)]
noncomputable def sT(b:Bool)(a:Int)(L:List Int)(n:Nat)(o:Nat->Int):List Pl:=if b then [(a,L)] else kc n o
noncomputable def sW(b:Bool)(n:Nat)(r:Nat->Int):List Wy:=(List.range n).map fun k=>if b then (((k:Nat):Int),0,r k) else (0,((k:Nat):Int),r k)
theorem fE(b:Bool)(n:Nat)(r:Nat->Int):(sW b n r).length=n:=by simp[sW]
theorem eV(n:Nat)(o:Nat->Int):(kc n o).length=n:=by simp[kc]
theorem sr{b:Bool}{n k:Nat}{r:Nat->Int}(hk:k < n):aD (sW b n r) k=if b then (((k:Nat):Int),0,r k) else (0,((k:Nat):Int),r k):=by simp[aD,sW,hk]
theorem Ey(b:Bool)(n:Nat)(r:Nat->Int):um (sW b n r):=by
 unfold sW
 refine List.pairwise_map.mpr (List.pairwise_lt_range.imp fun {i j} h=>?_)
 cases b
 ·right;simpa using h
 ·left;simpa using h
theorem vx{n:Nat}(hn:n<=3){j:Nat}(hj:j < n)(r:Nat->Int):ofT (sW false n r) j=[0]/\FG (sW true n r) j=[0]:=by
 match n,hn,j,hj with
 | 1,_,0,_=>exact⟨rfl,rfl⟩
 | 2,_,0,_=>exact⟨rfl,rfl⟩
 | 2,_,1,_=>exact⟨rfl,rfl⟩
 | 3,_,0,_=>exact⟨rfl,rfl⟩
 | 3,_,1,_=>exact⟨rfl,rfl⟩
 | 3,_,2,_=>exact⟨rfl,rfl⟩
theorem vA{n:Nat}(hn:n<=3)(r:Nat->Int):FG (sW false n r) ((0:Nat):Int)=(List.range n).map (fun k=>((k:Nat):Int))/\ofT (sW true n r) ((0:Nat):Int)=(List.range n).map (fun k=>((k:Nat):Int)):=by
 match n,hn with
 | 0,_=>exact⟨rfl,rfl⟩
 | 1,_=>exact⟨rfl,rfl⟩
 | 2,_=>exact⟨rfl,rfl⟩
 | 3,_=>exact⟨rfl,rfl⟩
theorem ym{n:Nat}{o:Nat->Int}{j:Nat}{p:Pl}(e:(kc n o)[j]?=some p):j < n/\p=(o j,[0]):=by
 have hj:j < (kc n o).length:=(zU.mp e).1
 rw[eV] at hj
 simp[kc,hj] at e
 exact⟨hj,e.symm⟩
theorem yb{a:Int}{L:List Int}{j:Nat}{p:Pl}(e:[((a,L):Pl)][j]?=some p):j=0/\p=(a,L):=by
 have hj:j < [((a,L):Pl)].length:=(zU.mp e).1
 have hj:j=0:=by simpa using hj
 subst hj
 simp at e
 exact⟨rfl,e.symm⟩
theorem Iw(b:Bool){n:Nat}{a:Int}{L:List Int}{o r:Nat->Int}(h1:1<=n)(hn:n<=3)(ha:0<=a/\a<=9)(ho:∀k,k < n->0<=o k/\o k<=9)(hr:∀k,k < n->1<=r k/\r k<=9)(hL:L.Perm ((List.range n).map fun k=>((k:Nat):Int))):Str b (sG b a L n o) (sT b a L n o) (sW b n r) a o r:=by
 have hso:∀p∈kc n o,0<=p.1/\p.1<=9:=fun p hp=>by
  obtain⟨k,hk,rfl⟩:=zQ.mp hp
  exact ho k (by simpa using hk)
 have hon:∀p∈[((a,L):Pl)],0<=p.1/\p.1<=9:=fun p hp=>by
  rw[yK] at hp
  subst hp
  exact ha
 cases b
 ·refine⟨⟨by simp[sG],by simp[sG],by show 1<=(kc n o).length;rw[eV];exact h1,by show (kc n o).length<=4;rw[eV];omega,hon,hso,fun i p e=>?_,fun j p e=>?_,fun w hw=>?_,Ey _ _ _,by rw[fE];omega⟩,rfl,rfl,?_,fun k hk=>?_,fun k hk=>?_,fun k hk=>?_⟩
  ·obtain⟨rfl,rfl⟩:=yb e
   rw[(vA hn r).1]
   exact hL
  ·obtain⟨hj,rfl⟩:=ym e
   rw[(vx hn hj r).1]
  ·obtain⟨k,hk,rfl⟩:=zQ.mp hw
   have hk:k < n:=by simpa using hk
   have:=hr k hk
   refine⟨by simp[sG],?_,this⟩
   show 0<=((k:Nat):Int)/\((k:Nat):Int) < (((kc n o).length:Nat):Int)
   rw[eV]
   omega
  ·show (kc n o).length=_
   rw[eV,fE]
  ·rw[fE] at hk
   show ((kc n o).getD k (0,[])).1=o k
   simp[kc,hk]
  ·rw[fE] at hk
   rw[sr hk];rfl
  ·rw[fE] at hk
   unfold dD
   rw[sr hk]
   simp[bh]
 ·refine⟨⟨by show 1<=(kc n o).length;rw[eV];exact h1,by show (kc n o).length<=4;rw[eV];omega,by simp[sT],by simp[sT],hso,hon,fun i p e=>?_,fun j p e=>?_,fun w hw=>?_,Ey _ _ _,by rw[fE];omega⟩,rfl,rfl,?_,fun k hk=>?_,fun k hk=>?_,fun k hk=>?_⟩
  ·obtain⟨hj,rfl⟩:=ym e
   rw[(vx hn hj r).2]
  ·obtain⟨rfl,rfl⟩:=yb e
   rw[(vA hn r).2]
   exact hL
  ·obtain⟨k,hk,rfl⟩:=zQ.mp hw
   have hk:k < n:=by simpa using hk
   have:=hr k hk
   refine⟨?_,by simp[sT],this⟩
   show 0<=((k:Nat):Int)/\((k:Nat):Int) < (((kc n o).length:Nat):Int)
   rw[eV]
   omega
  ·show (kc n o).length=_
   rw[eV,fE]
  ·rw[fE] at hk
   show ((kc n o).getD k (0,[])).1=o k
   simp[kc,hk]
  ·rw[fE] at hk
   rw[sr hk];rfl
  ·rw[fE] at hk
   unfold dD
   rw[sr hk]
   simp[bh]
namespace K24M
theorem ig{α:Type}{f:α->D}(h:∀x,bK (f x)=true):∀ (l:List α),fK (l.map f)=true
 | []=>by simp[fK]
 | x::l=>by rw[zI,fK,ig h l,h x];rfl
theorem tX(l:List Int):bK (ag l)=true:=by rw[ag,bK];exact ig (fun _=>by simp[bK]) l
theorem xF(p:Pl):bK (aQ p)=true:=by simp[aQ,bK,fK,tX]
theorem FC(w:Wy):bK (aA w)=true:=by simp[aA,bK,fK]
theorem ze(G:List Pl):bK (.tuple (G.map aQ))=true:=by rw[bK];exact ig xF G
theorem Ck(G T:List Pl)(W:List Wy):bK (ax G T W)=true:=by
 have h1:=ig xF G
 have h2:=ig xF T
 have h3:=ig FC W
 simp only[ax,bK,fK,h1,h2,h3,Bool.and_true]
theorem cL{i:Nat}{fz:List Nat}{f:Dl.Env->Option D}{ρ:ai}{d:D}(hA:f (bz ρ)=some d)(hF:f (dG (hand fz 0 ρ))=some d)(hn:bK d=true):Dl.aJ i fz f ρ=some (.nx (ρ.set i (.val d))):=by
 by_cases hs:Dl.oH d=true
 ·simp only[Dl.aJ,hA,zA,hs,if_true]
 ·simp only[Dl.aJ,hA,hF,zA,hs,if_false,zB,hn,if_true,Bool.false_eq_true]
theorem F4{n:Nat}{m m':List D->Option D}{fk:Dl.Env->Option D}{fs:Dl.Env->Option (List D)}{ρ:Dl.Env}{ds:List D}{d:D}(b:Bool)(hk:fk ρ=some (.int (sI b)))(h:(if b then m' else m) ds=some d)(hf:fs ρ=some ds)(hn:ds.length=n):oo n m m' fk fs ρ=some d:=by
 cases b
 ·simp only[oo,hk,hf,zA,hn,if_true,sI,Bool.false_eq_true,if_false] at h ⊢
  exact h
 ·simp only[oo,hk,hf,zA,hn,if_true,sI] at h ⊢
  exact h
noncomputable abbrev e7(x4 x5 x6 x7 x8 x9 x10 x11:Slot):ai:=[x4,x5,x6,x7,x8,x9,x10,x11]
noncomputable def iB:ai->Option Out:=(EG 2 [3] (ah 3 au (aa (ab 0) (aa (f2 bY (fC (.int 1)) (ab 3)) (aa (f2 bY (ab 3) (fC (.int 1))) ae)))) (ab 3))
theorem HQ{ns L:List Int}{x1:Slot}{k:Nat}{r:ai}(hl:ns.length<=63)(ho:L.length<=1000)(hk:k<=1000) :
  iB (.val (nE ns)::x1::.own (L.map PyData.int)::.val (nD k)::r)=some (.nx (.val (nE ns)::x1::.own ((insI L (dr ns (1+(k:Nat)) ((k:Nat)+1)) (k:Nat)).map PyData.int)::.val (nD k)::r)):=by
 have hd:=iO (ns:=ns) (1+((k:Nat):Int)) (((k:Nat):Int)+1) hl (by omega)
 have hr:wa (dr ns (1+((k:Nat):Int)) (((k:Nat):Int)+1))=true:=by
  simp only[wa,zF,zJ]
  omega
 have hz:(L.map PyData.int).length < sizeLine:=by rw[zD];exact Nat.lt_of_le_of_lt ho (by decide)
 have e1:ah 3 au (aa (ab 0) (aa (f2 bY (fC (.int 1)) (ab 3)) (aa (f2 bY (ab 3) (fC (.int 1))) ae))) (bz (.val (nE ns)::x1::.own (L.map PyData.int)::.val (nD k)::r))=some (.int (dr ns (1+((k:Nat):Int)) (((k:Nat):Int)+1))) :=
  call_of hd.1 (cons_of rfl (cons_of (ar (cZ _ _) rfl rfl) (cons_of (ar (cZ _ _) rfl rfl) rfl))) rfl
 have e2:mW [3] (ab 3) (.val (nE ns)::x1::.own (L.map PyData.int)::.val (nD k)::r)=some (nD k,.val (nE ns)::x1::.own (L.map PyData.int)::.val (nD k)::r):=rfl
 have e3:vd (L.map PyData.int) (dr ns (1+((k:Nat):Int)) (((k:Nat):Int)+1)) (nD k)=(insI L (dr ns (1+((k:Nat):Int)) (((k:Nat):Int)+1)) (k:Nat)).map PyData.int:=Bg _ _ _
 simp only[iB,EG,e1,e2,zA,p9,hr,hz,and_self,if_true,List.getElem?_cons_succ,List.getElem?_cons_zero,zB,e3,List.set_cons_succ,List.set_cons_zero]
theorem A2{ns:List Int}{x1:Slot}{r:ai}{n:Nat}(hl:ns.length<=63)(h1:1<=n)(hn:n<=3):∃ (L:List Int) (d:D),jB (CW 3) iB ((List.range n).map nD) (.val (nE ns)::x1::.own []::.non::r)=some (.nx (.val (nE ns)::x1::.own (L.map PyData.int)::.val d::r))/\L.Perm ((List.range n).map fun k=>((k:Nat):Int)):=by
 obtain⟨ρ,e,L,x3,rfl,hp,hx⟩:=yZ (tgt:=CW 3) (gb:=iB) nD (fun k ρ=>∃ (L:List Int) (x3:Slot),ρ=(.val (nE ns)::x1::.own (L.map PyData.int)::x3::r)/\L.Perm ((List.range k).map fun k=>((k:Nat):Int))/\(k=0\/∃d,x3=.val d)) n 0 (.val (nE ns)::x1::.own []::.non::r)
  (fun j ρ _ hj ⟨L,x3,e,hp,_⟩=>by
   subst e
   have hL:L.length=j:=by have:=hp.length_eq;simpa using this
   refine⟨_,_,rfl,HQ hl (by omega) (by omega),_,_,rfl,?_,.inr ⟨_,rfl⟩⟩
   refine (insI_perm _ _ _).trans ?_
   rw[List.range_succ,List.map_append]
   refine (List.Perm.cons _ hp).trans ?_
   exact (List.perm_append_comm (l₁:=[((j:Nat):Int)]))) ⟨[],.non,rfl,.refl _,.inl rfl⟩
 rw[<- List.range_eq_range'] at e
 rw[Nat.zero_add] at hp hx
 rcases hx with z|⟨d,rfl⟩
 ·omega
 ·exact⟨L,d,e,hp⟩
theorem KD{b:Bool}{G T:List Pl}{W:List Wy}{a:Int}{o r:Nat->Int}(h:Str b G T W a o r):(shr b G T W).map nD=(List.replicate (if (aB b G T W (aU W o r)).sum < a then 1 else 0) (0:Int)).map PyData.int:=by
 unfold shr
 rw[h.one,h.bst]
 have e:(List.range 1)=[0]:=rfl
 rw[e,List.filter_cons,List.filter_nil,h.thr0 (cJ ..),h.amb]
 by_cases z:(aB b G T W (aU W o r)).sum < a
 ·rw[if_pos (by simpa using z),if_pos z];rfl
 ·rw[if_neg (by simpa using z),if_neg z];rfl
theorem Mh{b:Bool}{G T:List Pl}{W:List Wy}{a:Int}{o r:Nat->Int}(h:Str b G T W a o r):shr (!b) G T W=(List.range W.length).filter fun k=>decide ((aB b G T W (aU W o r)).getD k 0 < o k):=by
 unfold shr
 rw[h.oth,h.bst]
 refine List.filter_congr fun k hk=>?_
 have hk:k < W.length:=by simpa using hk
 rw[h.thr1 hk,h.amo k hk]
theorem wJ(l:List Nat):cN (.list (l.map nD)) (.list (l.map nD))=some (.bool true):=by
 simp only[cN,HH,zB,mV,and_self,if_true,PyData.eqv,vD]
theorem Ih(b:Bool):(1:Int) - sI b=sI (!b):=by cases b<;>rfl
noncomputable def Hz:ai->Option Out:=(aw (gC (iE (bx (fB (ah 1 bq (aa (ab 8) ae)))) (bx (fB (ah 1 eJ (aa (ab 8) ae))))) (aG (fC (.bool false))) hJ) (aw (Dl.aJ 9 [1,3,4,6] (bf bj (aa (dh (aq 1 [4,6] (aV (aa (ab 1) ae)) (fG 0) (fun _=>some true) (bf ji (aa (f2 ao (ab 1) (ab 0)) (aa (f2 ao (f2 ao (ab 2) (ab 0)) (fC (.int 0))) ae))))) ae))) (aw (Dl.aJ 10 [7,8,9] (ah 4 gY (aa (ab 8) (aa (ab 7) (aa (fC (.int 0)) (aa (ab 9) ae)))))) (aw (gC (iE (fB (f2 eX (ah 1 aI (aa (ab 8) ae)) (ab 10))) (iE (fB (f2 eX (ah 1 bB (aa (ab 8) ae)) (ab 10))) (bx (fB (ah 2 jP (aa (ab 8) (aa (ab 10) ae))))))) (aG (fC (.bool false))) hJ) (aw (Dl.aJ 11 [10] (bf kf (aa (ab 10) ae))) (aw (gC (iE (fB (f2 eX (oo 3 mK jU (ab 7) (aa (ab 8) (aa (ab 10) (aa (fC (.int 0)) ae)))) (ab 11))) (fB (f2 eX (ab 11) (bf ji (aa (f2 ao (f2 ao (ab 5) (fC (.int 0))) (fC (.int 0))) (aa (bf kf (aa (ab 9) ae)) ae)))))) (aG (fC (.bool false))) hJ) (aw (gC (iE (fB (f2 eX (f2 ao (ah 1 dH (aa (ab 8) ae)) (ab 7)) (aZ (aa (ab 11) ae)))) (fB (f2 eX (f2 ao (ah 1 dH (aa (ab 8) ae)) (f2 Dl.fU (fC (.int 1)) (ab 7))) (ab 10)))) (aG (fC (.bool false))) hJ) (aw (gC (fB (f2 eX (ah 2 iV (aa (ab 8) (aa (ab 7) ae))) (dh (oR (ke (aa (fC (.int 0)) ae)) (bf xw (aa (f2 vm (ab 11) (f2 ao (f2 ao (ab 5) (fC (.int 0))) (fC (.int 0)))) ae)))))) (aG (fC (.bool false))) hJ) (aG (f2 cN (ah 2 iV (aa (ab 8) (aa (f2 Dl.fU (fC (.int 1)) (ab 7)) ae))) (dh (aq 1 [6,10] (aV (aa (ab 1) ae)) (fG 0) (fB (f2 vm (f2 ao (ab 2) (ab 0)) (f2 ao (f2 ao (ab 1) (ab 0)) (fC (.int 0))))) (ab 0)))))))))))))
theorem u3{b:Bool}{n:Nat}{a:Int}{L rs:List Int}{o r:Nat->Int}{x2 x3 x4:Slot}{d0:D}(hn:n<=3)(hrs:rs=(List.range n).map r)(h:Str b (sG b a L n o) (sT b a L n o) (sW b n r) a o r)(x2':x2=.own (L.map PyData.int))(x4':x4=.own (rs.map PyData.int))(hx3:∃d,x3=.val d) :
  Hz [.val d0,.val (nD n),x2,x3,x4,.val (.tuple ([((a,L):Pl)].map aQ)),.val (.tuple ((kc n o).map aQ)),.val (.int (sI b)),.val (ax (sG b a L n o) (sT b a L n o) (sW b n r)),.non,.non,.non]=some (.rt (.bool true)):=by
 obtain⟨d3,rfl⟩:=hx3
 subst x2' x4'
 have hw:(sW b n r).length=n:=fE ..
 have wd:=h.wd
 generalize hG:sG b a L n o=G at *
 generalize hT:sT b a L n o=T at *
 generalize hW:sW b n r=W at *
 have hoff:(aU W o r).length=W.length:=by simp[aU]
 have p:=h.pn
 have eP:=h.bst
 have eT:=h.bstT
 have hP:(aB b G T W (aU W o r)).length=W.length:=cJ ..
 have ec:gY [ax G T W,.int (sI b),.int 0,ag (aU W o r)]=some (ag (aB b G T W (aU W o r))):=by
  have:=Ax wd (b:=b) (i:=0) (off:=aU W o r) hoff (by rw[h.one];decide)
  rw[h.chs] at this
  exact this
 have eg:=o4 wd
 rw[eP] at eg
 have et:=yO wd
 rw[eT] at et
 have es:=ur wd
 rw[eP,eT,yB rfl] at es
 have er:=uv wd p h.rs
 have hbd:∀x∈aU W o r,-1000000<=x/\x<=1000000:=fun x hx=>by
  obtain⟨k,hk,rfl⟩:=zQ.mp hx
  have hk:k < W.length:=by simpa using hk
  have h1:=h.onn hk
  have h2:=(wd.wr _ (sE hk)).2.2
  rw[h.lim k hk] at h2
  omega
 have hbp:∀x∈aB b G T W (aU W o r),-1000000<=x/\x<=1000000:=fun x hx=>by
  obtain⟨k,hk,rfl⟩:=List.mem_iff_getElem.mp hx
  rw[hP] at hk
  have h1:=p.bd k hk
  have h2:=(wd.wr _ (sE hk)).2.2
  have e:(aB b G T W (aU W o r)).getD k 0=(aB b G T W (aU W o r))[k]:=by simp[hP,hk]
  rw[e] at h1
  omega
 have hs1:=uD (l:=aB b G T W (aU W o r)) (by rw[hP,hw];omega) hbp
 have hs2:=uD (l:=aU W o r) (by rw[hoff,hw];omega) hbd
 have htot:=h.tot
 have epk:(if b then jU else mK) [ax G T W,ag (aB b G T W (aU W o r)),.int 0]=some (.int (aB b G T W (aU W o r)).sum):=by
  have h0:i5 b W (aB b G T W (aU W o r)) ((0:Nat):Int)=_:=h.thr0 hP
  cases b
  ·have:=Jy wd p (i:=0) (by have:=h.one;exact this ▸ Nat.zero_lt_one)
   rw[h0] at this
   exact this
  ·have:=FR wd p (i:=0) (by have:=h.one;exact this ▸ Nat.zero_lt_one)
   rw[h0] at this
   exact this
 have ett:=pJ wd
 rw[eP] at ett
 have et1:ao (.tuple [ag (iG false G T W (aB b G T W (aU W o r))),ag (iG true G T W (aB b G T W (aU W o r)))]) (.int (sI b))=some (ag [(aB b G T W (aU W o r)).sum]):=by
  rw[<- h.thrA0]
  cases b<;>rfl
 have et2:ao (.tuple [ag (iG false G T W (aB b G T W (aU W o r))),ag (iG true G T W (aB b G T W (aU W o r)))]) (.int (sI (!b)))=some (ag (aB b G T W (aU W o r))):=by
  have:=h.thrA1
  rw[<- congrArg ag this]
  cases b<;>rfl
 have sh0:=zf wd b
 rw[KD h] at sh0
 have sh1:=zf wd (!b)
 rw[Mh h] at sh1
 have hsub:Dl.fU (.int 1) (.int (sI b))=some (.int (sI (!b))):=by rw[lK,Ih]
 have hor:∀ (k:Nat),k < n->ao (.tuple ((kc n o).map aQ)) (nD k)=some (aQ (o k,[0])):=fun k hk=>kP (by simp[kc,hk])
 have hrr:∀ (k:Nat),k < n->ao (.list (rs.map PyData.int)) (nD k)=some (.int (r k)):=fun k hk=>by
  subst hrs
  rw[xO (by simpa using hk)]
  simp[hk]
 have eoff:∀ρ:Dl.Env,ab 1 ρ=some (nD n)->ab 4 ρ=some (.list (rs.map PyData.int))->ab 6 ρ=some (.tuple ((kc n o).map aQ))->(bf bj (aa (dh (aq 1 [4,6] (aV (aa (ab 1) ae)) (fG 0) (fun _=>some true) (bf ji (aa (f2 ao (ab 1) (ab 0)) (aa (f2 ao (f2 ao (ab 2) (ab 0)) (fC (.int 0))) ae))))) ae)) ρ=some (ag (aU W o r)):=fun ρ a1 a4 a6=>by
  have a4':(ρ[4]?).getD none=some (.list (rs.map PyData.int)):=a4
  have a6':(ρ[6]?).getD none=some (.tuple ((kc n o).map aQ)):=a6
  have c:=cG (ρ:=ρ) (fi:=aV (aa (ab 1) ae)) (is:=List.range n) (cs:=[4,6]) (te:=(bf ji (aa (f2 ao (ab 1) (ab 0)) (aa (f2 ao (f2 ao (ab 2) (ab 0)) (fC (.int 0))) ae)))) (f:=fun k=>.int (min (r k) (o k))) (gu (cons_of a1 rfl) (by omega)) (by rw[zS];omega) fun i hi=>by
   have hi:i < n:=by simpa using hi
   rw[zI,zI,List.map_nil,a4',a6']
   have e1:f2 ao (ab 1) (ab 0) [some (nD i),some (.list (rs.map PyData.int)),some (.tuple ((kc n o).map aQ))]=some (.int (r i)):=ar (hrr i hi) rfl rfl
   have e2:f2 ao (f2 ao (ab 2) (ab 0)) (fC (.int 0)) [some (nD i),some (.list (rs.map PyData.int)),some (.tuple ((kc n o).map aQ))]=some (.int (o i)):=ar (a:=aQ (o i,[0])) (b:=.int 0) rfl (ar (hor i hi) rfl rfl) rfl
   show ((aa _ (aa _ ae)) _).bind ji=_
   rw[cons_of e1 (cons_of e2 rfl)]
   rfl
  rw[fH (jg c)]
  show some (PyData.tuple _)=some (.tuple ((aU W o r).map PyData.int))
  rw[aU,zM,hw]
  rfl
 have elast:∀ρ:Dl.Env,ab 1 ρ=some (nD n)->ab 6 ρ=some (.tuple ((kc n o).map aQ))->ab 10 ρ=some (ag (aB b G T W (aU W o r)))->dh (aq 1 [6,10] (aV (aa (ab 1) ae)) (fG 0) (fB (f2 vm (f2 ao (ab 2) (ab 0)) (f2 ao (f2 ao (ab 1) (ab 0)) (fC (.int 0))))) (ab 0)) ρ=some (.list (((List.range W.length).filter fun k=>decide ((aB b G T W (aU W o r)).getD k 0 < o k)).map nD)):=fun ρ a1 a6 a10=>by
  have a6':(ρ[6]?).getD none=some (.tuple ((kc n o).map aQ)):=a6
  have a10':(ρ[10]?).getD none=some (ag (aB b G T W (aU W o r))):=a10
  refine jg ?_
  rw[hw]
  refine wI (gu (cons_of a1 rfl) (by omega)) (by rw[zS];omega) fun i hi=>?_
  have hi:i < n:=by simpa using hi
  rw[zI,zI,List.map_nil,a6',a10']
  refine⟨bW (ar (k5 _ _) (ar (kN (by rw[hP,hw];exact hi)) rfl rfl) (ar (a:=aQ (o i,[0])) (b:=.int 0) rfl (ar (hor i hi) rfl rfl) rfl)),fun _=>rfl⟩
 unfold Hz
 refine (aj (cP (oT (dO (bW (call_of (ox wd) rfl rfl))) (dO (bW (call_of es rfl rfl)))))).trans ?_
 refine (aj (cL (eoff _ rfl rfl rfl) (eoff _ rfl rfl rfl) (tX _))).trans ?_
 refine (aj (cL (call_of ec rfl rfl) (call_of ec rfl rfl) (tX _))).trans ?_
 refine (aj (cP (oT (bW (ar (jY _) (call_of eg rfl rfl) rfl)) (oT (bW (ar (jY _) (call_of et rfl rfl) rfl)) (dO (bW (call_of er rfl rfl))))))).trans ?_
 have esm:∀ρ:Dl.Env,ab 10 ρ=some (ag (aB b G T W (aU W o r)))->bf kf (aa (ab 10) ae) ρ=some (.int (aB b G T W (aU W o r)).sum):=fun ρ e=>(fH e).trans hs1
 have eso:∀ρ:Dl.Env,ab 9 ρ=some (ag (aU W o r))->bf kf (aa (ab 9) ae) ρ=some (.int (aU W o r).sum):=fun ρ e=>(fH e).trans hs2
 refine (aj (cL (esm _ rfl) (esm _ rfl) (by simp[bK]))).trans ?_
 have emin:∀ρ:Dl.Env,ab 5 ρ=some (.tuple ([((a,L):Pl)].map aQ))->ab 9 ρ=some (ag (aU W o r))->(bf ji (aa (f2 ao (f2 ao (ab 5) (fC (.int 0))) (fC (.int 0))) (aa (bf kf (aa (ab 9) ae)) ae))) ρ=some (.int (aB b G T W (aU W o r)).sum):=fun ρ e5 e9=>by
  have e1:f2 ao (f2 ao (ab 5) (fC (.int 0))) (fC (.int 0)) ρ=some (.int a):=ar (a:=aQ (a,L)) (b:=.int 0) rfl (ar (JO _ _) e5 rfl) rfl
  show ((aa _ (aa _ ae)) _).bind ji=_
  rw[cons_of e1 (cons_of (eso ρ e9) rfl),htot]
  rfl
 refine (aj (cP (oT (bW (ar ((uT _ _).trans (by rw[yB rfl];rfl)) (F4 b rfl epk rfl rfl) rfl)) (bW (ar ((uT _ _).trans (by rw[yB rfl];rfl)) rfl (emin _ rfl rfl)))))).trans ?_
 refine (aj (cP (oT (bW (ar (jY [(aB b G T W (aU W o r)).sum]) (ar et1 (call_of ett rfl rfl) rfl) (tup_is rfl (by simp)))) (bW (ar (jY _) (ar et2 (call_of ett rfl rfl) (ar hsub rfl rfl)) rfl))))).trans ?_
 have eint:∀ρ:Dl.Env,ab 5 ρ=some (.tuple ([((a,L):Pl)].map aQ))->ab 11 ρ=some (.int (aB b G T W (aU W o r)).sum)->dh (oR (ke (aa (fC (.int 0)) ae)) (bf xw (aa (f2 vm (ab 11) (f2 ao (f2 ao (ab 5) (fC (.int 0))) (fC (.int 0)))) ae))) ρ=some (.list ((List.replicate (if (aB b G T W (aU W o r)).sum < a then 1 else 0) (0:Int)).map PyData.int)):=fun ρ e5 e11=>by
  have e1:f2 ao (f2 ao (ab 5) (fC (.int 0))) (fC (.int 0)) ρ=some (.int a):=ar (a:=aQ (a,L)) (b:=.int 0) rfl (ar (JO _ _) e5 rfl) rfl
  refine jg (J0 ?_ (by split<;>omega))
  rw[fH (ar (k5 _ _) e11 e1)]
  by_cases z:(aB b G T W (aU W o r)).sum < a
  ·rw[if_pos z,yB z];rfl
  ·rw[if_neg z,yA z];rfl
 refine (aj (cP (bW (ar ?_ (call_of sh0 rfl rfl) (eint _ rfl rfl))))).trans ?_
 ·have:=Bi (shr b G T W)
  rw[KD h] at this
  exact this
 ·have q:=wJ ((List.range W.length).filter fun k=>decide ((aB b G T W (aU W o r)).getD k 0 < o k))
  exact aL (ar q (call_of sh1 (cons_of rfl (cons_of (ar hsub rfl rfl) rfl)) rfl) (elast _ rfl rfl rfl))
theorem main(ns:List Int)(hl:ns.length<=63):ie [.list (ns.map PyData.int)]=some (.bool true):=by
 obtain⟨dn,n0,n1⟩:=iO (ns:=ns) 0 3 hl (by decide)
 obtain⟨da,a0,a1⟩:=iO (ns:=ns) 10 8 hl (by decide)
 obtain⟨ds,s0,s1⟩:=iO (ns:=ns) 20 2 hl (by decide)
 generalize dr ns 0 3=m at dn n0 n1
 generalize dr ns 10 8=a at da a0 a1
 generalize dr ns 20 2=s at ds s0 s1
 obtain⟨n,hn⟩:∃n:Nat,(1:Int)+m=((n:Nat):Int):=⟨(1+m).toNat,by omega⟩
 obtain⟨b,rfl⟩:∃b:Bool,s=sI b:=by
  by_cases z:s=0
  ·exact⟨false,z⟩
  ·exact⟨true,by show s=1;omega⟩
 have h1:1<=n:=by omega
 have h3:n<=3:=by omega
 obtain⟨L,d3,eL,pL⟩:=A2 (ns:=ns) (x1:=.val (nD n)) (r:=[.non,.non,.non,.non,.non,.non,.non,.non]) hl h1 h3
 let o:Nat->Int:=fun k=>dr ns (11+((k:Nat):Int)) 5
 let r:Nat->Int:=fun k=>1+dr ns (5+((k:Nat):Int)) 4
 have hO:∀k,k < n->0<=o k/\o k<=9:=fun k _=>by
  obtain⟨_,x,y⟩:=iO (ns:=ns) (11+((k:Nat):Int)) 5 hl (by decide)
  exact⟨x,by show dr ns _ 5<=9;omega⟩
 have hR:∀k,k < n->1<=r k/\r k<=9:=fun k _=>by
  obtain⟨_,x,y⟩:=iO (ns:=ns) (5+((k:Nat):Int)) 4 hl (by decide)
  exact⟨by show 1<=1+dr ns _ 4;omega,by show 1+dr ns _ 4<=9;omega⟩
 have S:=Iw b (n:=n) (a:=a) (L:=L) (o:=o) (r:=r) h1 h3 ⟨a0,by omega⟩ hO hR pL
 have en:∀ρ:Dl.Env,ab 0 ρ=some (nE ns)->f2 bY (fC (.int 1)) (ah 3 au (aa (ab 0) (aa (fC (.int 0)) (aa (fC (.int 3)) ae)))) ρ=some (nD n):=fun ρ e=>ar ((cZ 1 m).trans (by rw[hn])) rfl (call_of dn (cons_of e rfl) rfl)
 have er:∀ρ:Dl.Env,ab 0 ρ=some (nE ns)->ab 1 ρ=some (nD n)->aq 1 [0] (aV (aa (ab 1) ae)) (fG 0) (fun _=>some true) (f2 bY (fC (.int 1)) (ah 3 au (aa (ab 1) (aa (f2 bY (fC (.int 5)) (ab 0)) (aa (fC (.int 4)) ae))))) ρ=some (((List.range n).map r).map PyData.int):=fun ρ e0 e1=>by
  have e0':(ρ[0]?).getD none=some (nE ns):=e0
  have c:=cG (ρ:=ρ) (fi:=aV (aa (ab 1) ae)) (is:=List.range n) (cs:=[0]) (te:=(f2 bY (fC (.int 1)) (ah 3 au (aa (ab 1) (aa (f2 bY (fC (.int 5)) (ab 0)) (aa (fC (.int 4)) ae)))))) (f:=fun k=>.int (r k)) (gu (cons_of e1 rfl) (by omega)) (by rw[zS];omega) fun i hi=>by
   rw[zI,List.map_nil,e0']
   exact ar (cZ 1 _) rfl (call_of (Hq (ns:=ns) (5+((i:Nat):Int)) 4 hl (by decide)) (cons_of rfl (cons_of (ar (cZ 5 _) rfl rfl) rfl)) rfl)
  rw[c,zM]
  rfl
 have ea:∀ρ:Dl.Env,ab 0 ρ=some (nE ns)->ab 2 ρ=some (.list (L.map PyData.int))->aZ (aa (aZ (aa (ah 3 au (aa (ab 0) (aa (fC (.int 10)) (aa (fC (.int 8)) ae)))) (aa (bf bj (aa (ab 2) ae)) ae))) ae) ρ=some (.tuple ([((a,L):Pl)].map aQ)):=fun ρ e0 e2 =>
  JB (Jz (call_of da (cons_of e0 rfl) rfl) ((fH e2).trans (yi L)))
 have eo:∀ρ:Dl.Env,ab 0 ρ=some (nE ns)->ab 1 ρ=some (nD n)->bf bj (aa (dh (aq 1 [0] (aV (aa (ab 1) ae)) (fG 0) (fun _=>some true) (aZ (aa (ah 3 au (aa (ab 1) (aa (f2 bY (fC (.int 11)) (ab 0)) (aa (fC (.int 5)) ae)))) (aa (aZ (aa (fC (.int 0)) ae)) ae))))) ae) ρ=some (.tuple ((kc n o).map aQ)):=fun ρ e0 e1=>by
  have e0':(ρ[0]?).getD none=some (nE ns):=e0
  have c:=cG (ρ:=ρ) (fi:=aV (aa (ab 1) ae)) (is:=List.range n) (cs:=[0]) (te:=(aZ (aa (ah 3 au (aa (ab 1) (aa (f2 bY (fC (.int 11)) (ab 0)) (aa (fC (.int 5)) ae)))) (aa (aZ (aa (fC (.int 0)) ae)) ae)))) (f:=fun k=>aQ (o k,[0])) (gu (cons_of e1 rfl) (by omega)) (by rw[zS];omega) fun i hi=>by
   rw[zI,List.map_nil,e0']
   exact Jz (call_of (Hq (ns:=ns) (11+((i:Nat):Int)) 5 hl (by decide)) (cons_of rfl (cons_of (ar (cZ 11 _) rfl rfl) rfl)) rfl) (JB rfl)
  rw[fH (jg c),l6,kc,zM]
  rfl
 have hrr:∀ (k:Nat),k < n->ao (.list (((List.range n).map r).map PyData.int)) (nD k)=some (.int (r k)):=fun k hk=>by
  rw[xO (by simpa using hk)]
  simp[hk]
 have ew0:∀ρ:Dl.Env,ab 1 ρ=some (nD n)->ab 4 ρ=some (.list (((List.range n).map r).map PyData.int))->bf bj (aa (dh (aq 1 [4] (aV (aa (ab 1) ae)) (fG 0) (fun _=>some true) (aZ (aa (fC (.int 0)) (aa (ab 0) (aa (f2 ao (ab 1) (ab 0)) ae)))))) ae) ρ=some (.tuple ((sW false n r).map aA)):=fun ρ e1 e4=>by
  have e4':(ρ[4]?).getD none=some (.list (((List.range n).map r).map PyData.int)):=e4
  have c:=cG (ρ:=ρ) (fi:=aV (aa (ab 1) ae)) (is:=List.range n) (cs:=[4]) (te:=(aZ (aa (fC (.int 0)) (aa (ab 0) (aa (f2 ao (ab 1) (ab 0)) ae))))) (f:=fun k=>aA (0,((k:Nat):Int),r k)) (gu (cons_of e1 rfl) (by omega)) (by rw[zS];omega) fun i hi=>by
   rw[zI,List.map_nil,e4']
   exact tup_is (cons_of rfl (cons_of rfl (cons_of (ar (hrr i (by simpa using hi)) rfl rfl) rfl))) (by simp)
  rw[fH (jg c),l6,sW,zM]
  rfl
 have ew1:∀ρ:Dl.Env,ab 1 ρ=some (nD n)->ab 4 ρ=some (.list (((List.range n).map r).map PyData.int))->bf bj (aa (dh (aq 1 [4] (aV (aa (ab 1) ae)) (fG 0) (fun _=>some true) (aZ (aa (ab 0) (aa (fC (.int 0)) (aa (f2 ao (ab 1) (ab 0)) ae)))))) ae) ρ=some (.tuple ((sW true n r).map aA)):=fun ρ e1 e4=>by
  have e4':(ρ[4]?).getD none=some (.list (((List.range n).map r).map PyData.int)):=e4
  have c:=cG (ρ:=ρ) (fi:=aV (aa (ab 1) ae)) (is:=List.range n) (cs:=[4]) (te:=(aZ (aa (ab 0) (aa (fC (.int 0)) (aa (f2 ao (ab 1) (ab 0)) ae))))) (f:=fun k=>aA (((k:Nat):Int),0,r k)) (gu (cons_of e1 rfl) (by omega)) (by rw[zS];omega) fun i hi=>by
   rw[zI,List.map_nil,e4']
   exact tup_is (cons_of rfl (cons_of rfl (cons_of (ar (hrr i (by simpa using hi)) rfl rfl) rfl))) (by simp)
  rw[fH (jg c),l6,sW,zM]
  rfl
 refine aH ?_
 show jX [.val (nE ns),.non,.non,.non,.non,.non,.non,.non,.non,.non,.non,.non]=_
 unfold jX
 refine (aj (cL (en _ rfl) (en _ rfl) (by simp[bK]))).trans ?_
 refine (aj (iq (ds:=[]) rfl rfl)).trans ?_
 refine (aj (gc eL (gu (cons_of rfl rfl) (by omega)) rfl)).trans ?_
 refine (aj (iq (er _ rfl rfl) rfl)).trans ?_
 refine (aj (cL (ea _ rfl rfl) (ea _ rfl rfl) (ze _))).trans ?_
 refine (aj (cL (eo _ rfl rfl) (eo _ rfl rfl) (ze _))).trans ?_
 refine (aj (cL (call_of ds rfl rfl) (call_of ds rfl rfl) (by simp[bK]))).trans ?_
 cases b with
 | false =>
  have e8:∀ρ:Dl.Env,ab 1 ρ=some (nD n)->ab 4 ρ=some (.list (((List.range n).map r).map PyData.int))->ab 5 ρ=some (.tuple ([((a,L):Pl)].map aQ))->ab 6 ρ=some (.tuple ((kc n o).map aQ))->aZ (aa (ab 5) (aa (ab 6) (aa (bf bj (aa (dh (aq 1 [4] (aV (aa (ab 1) ae)) (fG 0) (fun _=>some true) (aZ (aa (fC (.int 0)) (aa (ab 0) (aa (f2 ao (ab 1) (ab 0)) ae)))))) ae)) ae))) ρ=some (ax (sG false a L n o) (sT false a L n o) (sW false n r)):=fun ρ e1 e4 e5 e6=>tup_is (cons_of e5 (cons_of e6 (cons_of (ew0 ρ e1 e4) rfl))) (by simp)
  refine (aj ((gf (bW (ar ((gZ _ _).trans rfl) rfl rfl))).trans (cL (e8 _ rfl rfl rfl rfl) (e8 _ rfl rfl rfl rfl) (Ck _ _ _)))).trans ?_
  exact u3 (rs:=(List.range n).map r) h3 rfl S rfl rfl ⟨_,rfl⟩
 | true =>
  have e8:∀ρ:Dl.Env,ab 1 ρ=some (nD n)->ab 4 ρ=some (.list (((List.range n).map r).map PyData.int))->ab 5 ρ=some (.tuple ([((a,L):Pl)].map aQ))->ab 6 ρ=some (.tuple ((kc n o).map aQ))->aZ (aa (ab 6) (aa (ab 5) (aa (bf bj (aa (dh (aq 1 [4] (aV (aa (ab 1) ae)) (fG 0) (fun _=>some true) (aZ (aa (ab 0) (aa (fC (.int 0)) (aa (f2 ao (ab 1) (ab 0)) ae)))))) ae)) ae))) ρ=some (ax (sG true a L n o) (sT true a L n o) (sW true n r)):=fun ρ e1 e4 e5 e6=>tup_is (cons_of e6 (cons_of e5 (cons_of (ew1 ρ e1 e4) rfl))) (by simp)
  refine (aj ((Jc (bW (ar ((gZ _ _).trans rfl) rfl rfl))).trans (cL (e8 _ rfl rfl rfl rfl) (e8 _ rfl rfl rfl rfl) (Ck _ _ _)))).trans ?_
  exact u3 (rs:=(List.range n).map r) h3 rfl S rfl rfl ⟨_,rfl⟩
end K24M
end Wm
namespace K24
open PySem L2 Dl PySem.Spec PyProof.Rows Pg Hd
theorem main(ns:List Int)(h:ns.length<=63):ie [.list (ns.map PyData.int)]=some (.bool true):=Wm.K24M.main ns h
theorem ins(P:Params):KY (Kf P):=⟨f3 70 69 fZ,f2 77 76 fZ,f3 84 83 fZ,f2 89 88 fZ,f2 96 95 fZ,f3 103 102 fZ,f3 108 107 fZ,f1 113 112 fZ,f1 118 117 fZ,f4 123 122 fZ,f3 128 127 fZ,f2 133 132 fZ,f1 140 139 fZ,f2 147 146 fZ,f3 154 153 fZ,f2 161 160 fZ,f1 168 167 fZ,f3 175 174 fZ,f3 182 181 fZ,l1 189 188 fZ,f1 194 193 fZ,f2 199 198 fZ,f3 206 205 rf,f3 213 212 rf,l3 218 217 rf,f4 223 222 rf,f4 230 229 rf,f4 235 234 rf,f3 242 241 rf,f2 249 248 rf,f2 256 255 rf,f2 263 262 rf,f3 268 267 wb,f1 273 272 wb,f3 280 279 wb,f2 287 286 wb,f1 294 293 wb,f2 301 300 wb,f1 308 307 wb,f1 315 314 wb,f1 322 321 HD,f3 327 326 HD,f1 334 333 HD,f2 339 338 HD,f2 346 345 Ky,f3 353 352 Ky,f1 358 357 Ky,Dl.Hc (t:=257) (by kernel_rfl),Dl.Hc (t:=259) (by kernel_rfl),Dl.JC (by kernel_rfl) (by kernel_rfl) (by kernel_rfl) (by kernel_rfl) (by kernel_rfl) (by kernel_rfl) (by kernel_rfl) (by kernel_rfl) (by kernel_rfl) (by kernel_rfl) (by kernel_rfl) (by kernel_rfl) (by kernel_rfl) (by kernel_rfl) (by kernel_rfl) (by kernel_rfl) (by kernel_rfl)⟩
theorem Nj(w:World):lA (Kf w.params) [184,215]=true:=by kernel_rfl
end K24
open PySem PySem.W PyProof.Rows
theorem PySem.Challenge.cw_stillflow_k24_whole_one_giver_holds : PySem.Challenge.rw_stillflow_k24_whole_one_giver.Holds := by
 refine holds_law K24.MR fun k1=>?_
 refine holds_open (XP:=XL K24.vw []) (YP:=K24.hk.says) K24.left K24.hk.of K24.hk.keeps (fun s e=>xl_of s (Bool.and_eq_true_iff.mp e).1) XL.keeps (by rfl) (by rfl) (by rfl) (fun s e=>recFacts_of (Bool.and_eq_true_iff.mp e).2) (by rfl) k1 (by decide +kernel) ⟨rfl,rfl,rfl,rfl,rfl,by decide +kernel⟩ ?hw ?hc
 case hw=>w_witness2
 case hc=>exact K24.walk (l:=PySem.Challenge.rw_stillflow_k24_whole_one_giver) (K:=K24.Kf) (ts:=[184,215]) rfl rfl rfl (fun w h Y=>⟨Y.1,Y.2⟩) K24.Nj (fun w=>K24.ins w.params) K24.main
