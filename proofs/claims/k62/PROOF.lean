import PyProof.Rows.All
import Wide.All
import OpenK.AllK
import Wide.FinOn
import Lean
import PyProof.EqAt
import PyProof.EqKinds
import PyProof.TupleCall
import PyProof.Draws
import PyProof.ListRange
import PySem.Challenge.RW_stillflow_k62_whole_within
set_option Elab.async false
set_option linter.all false
set_option maxRecDepth 100000
set_option maxHeartbeats 4000000
abbrev _root_.zA:=@Option.bind_some
abbrev _root_.zB:=@Option.map_some
abbrev _root_.zC:=@List.mem_cons_of_mem
abbrev _root_.zD:=@List.length_map
abbrev _root_.zE:=@List.mem_cons_self
abbrev _root_.zF:=@Bool.and_eq_true
abbrev _root_.zG:=@List.getD_eq_getElem?_getD
abbrev _root_.zH:=@List.size_toArray
abbrev _root_.zI:=@List.map_cons
abbrev _root_.zJ:=@decide_eq_true_eq
abbrev _root_.zK:=@List.getElem?_eq_getElem
abbrev _root_.zL:=@List.length_cons
abbrev _root_.zM:=@List.map_map
abbrev _root_.zN:=@List.length_append
abbrev _root_.zO:=@List.getElem?_map
abbrev _root_.zP:=@Nat.lt_of_lt_of_le
abbrev _root_.zQ:=@List.mem_map
abbrev _root_.zR:=@List.mem_cons
abbrev _root_.zS:=@List.length_range
abbrev _root_.zT:=@List.mem_range
abbrev _root_.zU:=@List.getElem?_eq_some_iff
abbrev _root_.zV:=@PySem.Heap.get?_push_of_some
abbrev _root_.zW:=@PySem.wpAny_bind
abbrev _root_.zX:=@PySem.wpAny_pure
abbrev _root_.zY:=@PySem.Heap.get?_push_size
abbrev _root_.zZ:=@PySem.Heap.lt_size
abbrev _root_.yA:=@decide_eq_false
abbrev _root_.yB:=@decide_eq_true
abbrev _root_.yC:=@List.lookup_cons
abbrev _root_.yD:=@List.length_set
abbrev _root_.yE:=@Nat.le_trans
abbrev _root_.yF:=@List.mem_append_right
abbrev _root_.yG:=@List.not_mem_nil
abbrev _root_.yH:=@Int.toNat_natCast
abbrev _root_.yI:=@List.range_eq_range'
abbrev _root_.yJ:=@List.map_congr_left
abbrev _root_.yK:=@List.foldl_cons
abbrev _root_.yL:=@List.mem_singleton
abbrev _root_.yM:=@Option.some.injEq
namespace L2
open PySem PySem.Spec PyProof.Rows
noncomputable abbrev xp:=Sum Int Str
noncomputable def Ja:xp->Value->Bool
 | .inl k,v=>Value.isInt k v
 | .inr x,v=>Value.isStrOf x v
noncomputable def N8(w:World):xp->Int
 | .inl k=>hashInt k
 | .inr x=>hashStr w x
theorem bV:∀ {k:xp}{v:Value},Ja k v=true->(∃i t,k=Sum.inl i/\v=Value.int i t)\/(∃x t,k=Sum.inr x/\v=Value.str x t)
 | .inl i,v,h=>by
  obtain⟨t,e⟩:=Value.isInt_shape (k:=i) (v:=v) h
  exact .inl ⟨i,t,rfl,e⟩
 | .inr x,v,h=>by
  obtain⟨t,e⟩:=Value.isStrOf_shape (x:=x) (v:=v) h
  exact .inr ⟨x,t,rfl,e⟩
theorem Kv(a b:Int):decide ((Sum.inl a:xp)=Sum.inl b)=(a == b):=by
 by_cases e:a=b
 ·subst e;simp
 ·have h:¬ (Sum.inl a:xp)=Sum.inl b:=fun q=>e (Sum.inl.inj q)
  rw[yA h]
  exact (beq_eq_false_iff_ne.mpr e).symm
theorem JY(a b:Str):decide ((Sum.inr a:xp)=Sum.inr b)=decide (a=b):=by
 by_cases e:a=b
 ·subst e;simp
 ·have h:¬ (Sum.inr a:xp)=Sum.inr b:=fun q=>e (Sum.inr.inj q)
  rw[yA h,yA e]
theorem Kg(a:Int)(b:Str):decide ((Sum.inl a:xp)=Sum.inr b)=false:=yA (fun q=>nomatch q)
theorem K6(a:Str)(b:Int):decide ((Sum.inr a:xp)=Sum.inl b)=false:=yA (fun q=>nomatch q)
noncomputable def AI(prog:Program)(w:World):PySem.KeyKind prog w xp where
 is:=Ja
 hash:=N8 w
 inj:=fun v a b ha hb=>by
  rcases bV ha with ⟨i,t,rfl,rfl⟩|⟨x,t,rfl,rfl⟩
  ·rcases bV hb with ⟨j,u,rfl,e⟩|⟨y,u,rfl,e⟩
   ·injection e with e1 _;rw[e1]
   ·exact nomatch e
  ·rcases bV hb with ⟨j,u,rfl,e⟩|⟨y,u,rfl,e⟩
   ·exact nomatch e
   ·injection e with e1 _;rw[e1]
 byValue:=fun k v h=>by
  rcases bV h with ⟨i,t,rfl,rfl⟩|⟨x,t,rfl,rfl⟩<;>rfl
 pyHash:=fun hv h=>by
  rcases bV hv with ⟨i,t,rfl,rfl⟩|⟨x,t,rfl,rfl⟩
  ·exact wpAny_pyHash_int h
  ·exact wpAny_pyHash_str h
 eqBool:=fun hu hv h=>by
  rcases bV hu with ⟨i,t,rfl,rfl⟩|⟨x,t,rfl,rfl⟩
  ·rcases bV hv with ⟨j,u,rfl,rfl⟩|⟨y,u,rfl,rfl⟩
   ·rw[Kv] at h;exact wpAny_eqBool_int h
   ·rw[Kg] at h;exact SeqAt.EqAt.int_str i t y u _ _ _ _ h
  ·rcases bV hv with ⟨j,u,rfl,rfl⟩|⟨y,u,rfl,rfl⟩
   ·rw[K6] at h;exact SeqAt.EqAt.str_int x t j u _ _ _ _ h
   ·rw[JY] at h;exact wpAny_eqBool_str h
 «strs»:=fun k x t v h=>by
  rcases bV h with ⟨i,u,rfl,e⟩|⟨y,u,rfl,e⟩
  ·exact nomatch e
  ·injection e with e1 _
   subst e1
   cases v<;>rfl
inductive V where
 | non|bl (b:Bool)|int (i:Int)|str (x:Str)|byt (b:Array UInt8)|flt (b:UInt64)|ref (a:Addr)|ty (n:String)
 deriving DecidableEq
noncomputable def RelV:V->Value->Prop
 | .non,u=>u=Value.none
 | .bl b,u=>u=Value.bool b
 | .int i,u=>∃t,u=Value.int i t
 | .str x,u=>∃t,u=Value.str x t
 | .byt b,u=>∃t,u=Value.bytes b t
 | .flt b,u=>∃t,u=Value.float b t
 | .ref a,u=>u=Value.ref a
 | .ty n,u=>u=Value.type n
noncomputable abbrev aF:List V->List Value->Prop:=Paired RelV
theorem aF.length{xs:List V}{us:List Value}(r:aF xs us):xs.length=us.length:=Paired.length r
theorem aF.get:∀ {xs:List V}{us:List Value}{i:Nat}{x:V},aF xs us->xs[i]?=some x->∃u,us[i]?=some u/\RelV x u
 | _,_,_,_,.nil,e=>by simp at e
 | _,_,0,_,.cons r _,e=>by simp at e;subst e;exact⟨_,rfl,r⟩
 | _,_,i+1,x,.cons _ t,e=>by
  obtain⟨u,h1,h2⟩:=aF.get (i:=i) (x:=x) t (by simpa using e)
  exact⟨u,by simpa using h1,h2⟩
theorem aF.set{x:V}{u:Value}(r:RelV x u):∀ {xs:List V}{us:List Value}(i:Nat),aF xs us->aF (xs.set i x) (us.set i u)
 | _,_,_,.nil=>.nil
 | _,_,0,.cons _ t=>.cons r t
 | _,_,i+1,.cons q t=>.cons q (aF.set r i t)
theorem aF.append:∀ {xs ys:List V}{us ws:List Value},aF xs us->aF ys ws->aF (xs++ys) (us++ws)
 | _,_,_,_,.nil,s=>s
 | _,_,_,_,.cons r t,s=>.cons r (aF.append t s)
theorem aF.take:∀ {xs:List V}{us:List Value}(n:Nat),aF xs us->aF (xs.take n) (us.take n)
 | _,_,0,_=>.nil
 | _,_,_+1,.nil=>.nil
 | _,_,n+1,.cons r t=>.cons r (aF.take n t)
theorem aF.drop:∀ {xs:List V}{us:List Value}(n:Nat),aF xs us->aF (xs.drop n) (us.drop n)
 | _,_,0,r=>r
 | _,_,_+1,.nil=>.nil
 | _,_,n+1,.cons _ t=>aF.drop n t
noncomputable def LU:Option V->Option Value->Prop
 | some v,some u=>RelV v u
 | none,none=>True
 | _,_=>False
noncomputable def KV{κ:Type}:List (κ×V)->List (κ×Value)->Prop:=Paired fun (p:κ×V) (q:κ×Value)=>p.1=q.1/\RelV p.2 q.2
noncomputable def kV:xp->V
 | .inl i=>.int i
 | .inr x=>.str x
inductive HO where
  | lst (xs:List V)
  | tup (xs:List V)
  | dK (kvs:List (xp×V))|dT (kvs:List (List xp×V))
  | set (S:Int->Bool) (n:Nat)
  | ins (C dx:Addr) (fs:List (Str×V))
  | own (x:Addr)
  | xd (fs:List (Str×V))
  | met (f x:Addr)
  | rng (lo hi:Int)
  | frz (o:Obj) (u:HO)
  | tab (q:Str)
 | cod (q:Str)
  | ext (φ:Heap->Prop)
noncomputable abbrev Hp:=Addr->Option HO
noncomputable def upd(H:Hp)(a:Addr)(o:HO):Hp:=fun b=>if b=a then some o else H b
theorem aK{H:Hp}{a:Addr}{o:HO}:upd H a o a=some o:=by unfold upd;rw[if_pos rfl]
theorem aE{H:Hp}{a b:Addr}{o:HO}(h:b≠a):upd H a o b=H b:=by unfold upd;rw[if_neg h]
theorem aP{H:Hp}{a b:Addr}{o:HO}(h:H a=some o)(h':H b=none):a≠b:=by
 intro e;subst e;rw[h] at h';cases h'
def mJ(h:Heap)(a:Addr)(its:Array Value):Prop:=IsTup h a its/\∃o,h.get? a=some o/\o.dict=none
theorem mJ.new(h:Heap)(its:Array Value):mJ (h.push { cls:=.type "tuple",data:=.seq its }) h.objs.size its:=⟨IsTup.new _ _,_,zY _ rfl,rfl⟩
section
variable (P:Program) (w:World)
noncomputable def eX(H:Hp)(h:Heap)(a:Addr):HO->Prop
 | .lst xs=>xs.length<=sizeLine/\∃ (its:List Value) (n:Nat),aF xs its/\h.get? a=some { cls:=.type "list",data:=.seq its.toArray n }
 | .tup xs=>xs.length<=sizeLine/\∃its:List Value,aF xs its/\mJ h a its.toArray
 | .dK kvs=>kvs.length<=sizeLine/\(a == sysModules)=false/\∃vs,KV kvs vs/\h.DictOf (AI P w) a vs
 | .dT kvs=>kvs.length<=sizeLine/\(a == sysModules)=false/\∃xs:List (List xp×Addr×Value),
   Paired (fun (p:List xp×V) (q:List xp×Addr×Value)=>p.1=q.1/\H q.2.1=some (.tup (p.1.map kV))/\RelV p.2 q.2.2) kvs xs /\
   ∃o es ep,h.get? a=some o/\o.ExactDict/\o.data=.dict es ep/\es.toList=xs.map (entryOfKey (tupleKind (AI P w)))/\(xs.map (·.1)).Nodup
 | .set S n=>h.SetOf (intKind P w) a S n
 | .ins C dx fs=>H dx=some (.own a)/\fs.length<=1000/\dx≠a/\h.get? a=some (W.instObj C dx) /\
   ∃mA,h.Ns1 dx mA/\(∀f,LU (fs.lookup f) (mA f))/\PySem.Within mA (fs.map (·.1))
 | .own _=>∃o,h.get? a=some o
 | .xd fs=>∃mA,h.Ns1 a mA/\∀f,LU (fs.lookup f) (mA f)
 | .rng lo hi=>∃t u v,h.get? a=some { cls:=.type "range",data:=.fields #[.int lo t,.int hi u,.int 1 v] }
 | .frz o u=>h.get? a=some o/\eX H h a u
 | .tab q=>∃ps:Array Value,h.get? a=some { cls:=.none,data:=.fields ps }/\TriplesOk ps.toList/\∀pos v,codeAmong pos ps.toList=some v->∃c,v=.ref c/\H c=some (.cod q)
 | .cod q=>h.CodeRec (.ref a) q
 | .met f x=>h.get? a=some (W.methodObj (.ref f) (.ref x))
 | .ext φ=>φ h/\(∃o,h.get? a=some o)/\∀h1 h2:Heap,φ h1->(∀o,h1.get? a=some o->h2.get? a=some o)->φ h2
def oF(H:Hp)(h:Heap):Prop:=∀a o,H a=some o->eX P w H h a o
end
section
variable {P:Program}{w:World}{H H':Hp}{h h':Heap}{a:Addr}{o:HO}
theorem eX.lt(x:eX P w H h a o):a < h.objs.size:=by
 cases o with
 | lst xs=>obtain⟨_,_,_,_,e⟩:=x;exact zZ e
 | tup xs=>obtain⟨_,_,_,p⟩:=x;exact p.1.lt
 | dK kvs=>obtain⟨_,_,_,_,o,_,_,e,_⟩:=x;exact zZ e
 | dT kvs=>obtain⟨_,_,_,_,o,_,_,e,_⟩:=x;exact zZ e
 | set S n=>obtain⟨o,_,_,_,e,_⟩:=x;exact zZ e
 | ins C dx fs=>obtain⟨_,_,_,e,_⟩:=x;exact zZ e
 | own y=>obtain⟨_,e⟩:=x;exact zZ e
 | xd fs=>obtain⟨_,⟨_,_,_,e,_⟩,_⟩:=x;exact zZ e
 | rng lo hi=>obtain⟨_,_,_,e⟩:=x;exact zZ e
 | frz ob u=>obtain⟨e,_⟩:=x;exact zZ e
 | tab q=>obtain⟨_,e,_⟩:=x;exact zZ e
 | cod q=>obtain⟨_,_,_,_,e0,e,_⟩:=x;cases e0;exact zZ e
 | met f y=>exact zZ (show h.get? a=some _ from x)
 | ext φ=>obtain⟨_,⟨_,e⟩,_⟩:=x;exact zZ e
theorem Paired.mapP{α β:Type}{F G:α->β->Prop}:∀ {l₁:List α}{l₂:List β},Paired F l₁ l₂->(∀a b,F a b->G a b)->Paired G l₁ l₂
 | _,_,.nil,_=>.nil
 | _,_,.cons r t,f=>.cons (f _ _ r) (Paired.mapP t f)
noncomputable def On:HO->Prop
 | .tup _=>True
 | .cod _=>True
 | _=>False
theorem eX.stay(x:eX P w H h a o)(k:∀b u,(b=a\/H b=some (.own a))->h.get? b=some u->h'.get? b=some u)
  (ho:∀b,H b=some (.own a)->H' b=some (.own a)) (ht:∀b u,H b=some u->On u->H' b=some u):eX P w H' h' a o:=by
 induction o with
 | lst xs=>obtain⟨z,its,n,r,e⟩:=x;exact⟨z,its,n,r,k _ _ (.inl rfl) e⟩
 | tup xs=>obtain⟨z,its,r,⟨ob,e,c⟩,o2,e2,d2⟩:=x;exact⟨z,its,r,⟨ob,k _ _ (.inl rfl) e,c⟩,o2,k _ _ (.inl rfl) e2,d2⟩
 | dK kvs=>obtain⟨z,y,vs,r,ob,es,ep,e,c⟩:=x;exact⟨z,y,vs,r,ob,es,ep,k _ _ (.inl rfl) e,c⟩
 | dT kvs =>
  obtain⟨z,y,xs,r,ob,es,ep,e,c⟩:=x
  exact⟨z,y,xs,Paired.mapP r fun p q z=>⟨z.1,ht _ _ z.2.1 trivial,z.2.2⟩,ob,es,ep,k _ _ (.inl rfl) e,c⟩
 | set S n=>obtain⟨ob,es,ep,t,e,c⟩:=x;exact⟨ob,es,ep,t,k _ _ (.inl rfl) e,c⟩
 | ins C dx fs =>
  obtain⟨d,z,ne,e,mA,⟨od,es,ep,e2,c⟩,r⟩:=x
  exact⟨ho _ d,z,ne,k _ _ (.inl rfl) e,mA,⟨od,es,ep,k _ _ (.inr d) e2,c⟩,r⟩
 | own y=>obtain⟨ob,e⟩:=x;exact⟨ob,k _ _ (.inl rfl) e⟩
 | xd fs=>obtain⟨mA,⟨od,es,ep,e,c⟩,r⟩:=x;exact⟨mA,⟨od,es,ep,k _ _ (.inl rfl) e,c⟩,r⟩
 | rng lo hi=>obtain⟨t,u,v,e⟩:=x;exact⟨t,u,v,k _ _ (.inl rfl) e⟩
 | frz ob u ih=>obtain⟨e,q⟩:=x;exact⟨k _ _ (.inl rfl) e,ih q⟩
 | tab q=>obtain⟨ps,e,t,c⟩:=x;exact⟨ps,k a _ (.inl rfl) e,t,fun pos v z=>let ⟨c0,z1,z2⟩:=c pos v z;⟨c0,z1,ht _ _ z2 trivial⟩⟩
 | cod q=>obtain⟨c,oc,vs,t,e0,e,r⟩:=x;cases e0;exact⟨_,oc,vs,t,rfl,k _ _ (.inl rfl) e,r⟩
 | met f y =>
  have e:h.get? a=some (W.methodObj (.ref f) (.ref y)):=x
  show h'.get? a=some (W.methodObj (.ref f) (.ref y))
  exact k a _ (.inl rfl) e
 | ext φ=>obtain⟨p,⟨o,e⟩,st⟩:=x;exact⟨st _ _ p fun o q=>k _ _ (.inl rfl) q,⟨o,k _ _ (.inl rfl) e⟩,st⟩
theorem oF.lt(x:oF P w H h)(e:H a=some o):a < h.objs.size:=(x a o e).lt
theorem oF.fresh(x:oF P w H h)(e:h.objs.size<=a):H a=none:=by
 cases q:H a with
 | none=>rfl
 | some u=>exact absurd (zP (x.lt q) e) (Nat.lt_irrefl _)
theorem oF.kept(x:oF P w H h)(k:∀b u,h.get? b=some u->h'.get? b=some u):oF P w H h':=fun a o e =>
 (x a o e).stay (fun b u _ q=>k b u q) (fun _ q=>q) fun _ _ q _=>q
theorem oF.laid(x:oF P w H h)(k:∀b u,h.get? b=some u->h'.get? b=some u)(hp:h.objs.size<=a)(new:eX P w (upd H a o) h' a o):oF P w (upd H a o) h':=fun b u e=>by
 have hn:=x.fresh hp
 by_cases hb:b=a
 ·subst hb;rw[aK] at e;cases e;exact new
 ·rw[aE hb] at e
  exact (x b u e).stay (fun c v _ q=>k c v q) (fun c q=>by rw[aE (aP q hn)];exact q) fun c xs q _=>by rw[aE (aP q hn)];exact q
end
def Rd(H:Hp)(a:Addr)(u:HO):Prop:=H a=some u\/∃o,H a=some (.frz o u)
theorem Rd.ok{P:Program}{w:World}{H:Hp}{h:Heap}{a:Addr}{u:HO}(r:Rd H a u)(x:oF P w H h):eX P w H h a u:=by
 rcases r with r|⟨o,r⟩
 ·exact x a u r
 ·obtain⟨_,q⟩:=x a _ r
  exact q
noncomputable def LW:Option HO->Prop
 | some (.lst _)=>True
 | some (.dK _)=>True
 | some (.dT _)=>True
 | some (.set _ _)=>True
 | some (.ins _ _ _)=>True
 | some (.ext _)=>True
 | _=>False
section
variable {P:Program}{w:World}{H:Hp}{h h':Heap}{x e:Addr}{o':HO}
theorem oF.write(ok:oF P w H h)(mu:LW (H x))(he:e=x\/H e=some (.own x))(k:∀b u,b≠e->h.get? b=some u->h'.get? b=some u)(heo:∃u,h'.get? e=some u)
  (new:eX P w (upd H x o') h' x o'):oF P w (upd H x o') h':=fun b u q=>by
 have nown:∀c y,H c=some (.own y)->c≠x:=fun c y r z=>by subst z;rw[r] at mu;exact mu
 have ntup:∀c u,H c=some u->On u->c≠x:=fun c u r hr z=>by subst z;rw[r] at mu;cases u<;>first|exact mu|exact hr
 by_cases hb:b=x
 ·subst hb;rw[aK] at q;cases q;exact new
 ·rw[aE hb] at q
  by_cases hbe:b=e
  ·have q':H b=some (.own x):=by
    rcases he with z|z
    ·exact absurd (hbe.trans z) hb
    ·rw[hbe];exact z
   rw[q] at q';cases q'
   obtain⟨v,hv⟩:=heo
   exact⟨v,by rw[hbe];exact hv⟩
  ·refine (ok b u q).stay (fun c v hc r=>k c v ?_ r) (fun c r=>by rw[aE (nown c b r)];exact r) fun c xs r hr=>by rw[aE (ntup c xs r hr)];exact r
   rcases hc with rfl|hc
   ·exact hbe
   ·rintro rfl
    rcases he with z|z
    ·exact nown c b hc z
    ·rw[hc] at z;cases z;exact hb rfl
end
noncomputable def M6:HO->Prop
 | .tab _=>True
 | .cod _=>True
 | _=>False
theorem M6.not_mut{u:HO}(h:M6 u):¬ LW (some u):=by cases u<;>first|exact fun z=>z|exact h.elim
structure IK(H H':Hp)(h h':Heap):Prop where
 st:∀b u,H b=some u->M6 u->H' b=some u
 gr:∀b q ps,H b=some (.tab q)->h.get? b=some { cls:=.none,data:=.fields ps }->∃more:Array Value,h'.get? b=some { cls:=.none,data:=.fields (ps++more) }
theorem IK.kept{H H':Hp}{h h':Heap}(k:∀b u,(∃q,H b=some (.tab q))->h.get? b=some u->h'.get? b=some u)(st:∀b u,H b=some u->M6 u->H' b=some u):IK H H' h h' :=
 ⟨st,fun b q ps e z=>⟨#[],by rw[Array.append_empty];exact k b _ ⟨q,e⟩ z⟩⟩
theorem IK.trans{H H1 H2:Hp}{h h1 h2:Heap}(a:IK H H1 h h1)(b:IK H1 H2 h1 h2):IK H H2 h h2 :=
 ⟨fun c u q t=>b.st c u (a.st c u q t) t,fun c q ps e z=>by
  obtain⟨m1,z1⟩:=a.gr c q ps e z
  obtain⟨m2,z2⟩:=b.gr c q _ (a.st c _ e trivial) z1
  exact⟨m1++m2,by rw[z2,Array.append_assoc]⟩⟩
structure Un(fs ex:List Addr)(H H':Hp)(h h':Heap):Prop where
 keep:∀b o,h.get? b=some o->H b=none->b∉fs->b∉ex->h'.get? b=some o
 slot:∀b o,h.get? b=some o->H b=none->b∈fs->b∉ex->∃sl,h'.get? b=some { o with slots:=sl }
 free:∀b o,h.get? b=some o->H b=none->b∉ex->H' b=none
 there:∀b o,h.get? b=some o->b∉ex->∃o',h'.get? b=some o'
 tups:∀b xs,H b=some (.tup xs)->H' b=some (.tup xs)
 frzs:∀b o u,H b=some (.frz o u)->H' b=some (.frz o u)
 tbls:IK H H' h h'
section
variable {fs fs' ex ex':List Addr}{H H1 H2:Hp}{h h1 h2 h':Heap}{a x e:Addr}{o:HO}
theorem Un.any(u:Un fs ex H H1 h h1){b:Addr}{ob:Obj}(q:h.get? b=some ob)(n:H b=none)(hx:b∉ex):∃sl,h1.get? b=some { ob with slots:=sl }:=by
 by_cases hb:b∈fs
 ·exact u.slot b ob q n hb hx
 ·exact⟨ob.slots,u.keep b ob q n hb hx⟩
theorem Un.kept(k:∀b u,h.get? b=some u->h'.get? b=some u):Un fs ex H H h h' :=
 ⟨fun b ob q _ _ _=>k b ob q,fun b ob q _ _ _=>⟨ob.slots,k b ob q⟩,fun _ _ _ n _=>n,fun b ob q _=>⟨ob,k b ob q⟩,fun _ _ q=>q,fun _ _ _ q=>q,.kept (fun b u _ e=>k b u e) fun _ _ e _=>e⟩
theorem Un.refl:Un fs ex H H h h:=Un.kept fun _ _ q=>q
theorem Un.laid(k:∀b u,h.get? b=some u->h'.get? b=some u)(hp:h.objs.size<=a)(hn:H a=none):Un fs ex H (upd H a o) h h' where
 keep:=fun b u q _ _ _=>k b u q
 slot:=fun b u q _ _ _=>⟨u.slots,k b u q⟩
 free:=fun b u q n _=>by rw[aE (Nat.ne_of_lt (zP (zZ q) hp))];exact n
 there:=fun b u q _=>⟨u,k b u q⟩
 tups:=fun b xs q=>by rw[aE (aP q hn)];exact q
 frzs:=fun b u xs q=>by rw[aE (aP q hn)];exact q
 tbls:=.kept (fun b u _ e=>k b u e) fun b u q _=>by rw[aE (aP q hn)];exact q
theorem Un.write(mu:LW (H x))(he:e=x\/H e=some (.own x))(k:∀b u,b≠e->h.get? b=some u->h'.get? b=some u)(heo:∃u,h'.get? e=some u):Un fs ex H (upd H x o) h h':=by
 have hx:∀b,H b=none->b≠x:=fun b n z=>by subst z;rw[n] at mu;exact mu
 have hb:∀b,H b=none->b≠e:=fun b n z=>by
  subst z
  rcases he with r|r
  ·exact hx b n r
  ·rw[n] at r;cases r
 have hm:∀b u,H b=some u->¬ LW (some u)->b≠x:=fun b u q nm z=>by subst z;rw[q] at mu;exact nm mu
 refine⟨fun b u q n _ _=>k b u (hb b n) q,fun b u q n _ _=>⟨u.slots,k b u (hb b n) q⟩,fun b u q n _=>by rw[aE (hx b n)];exact n,fun b u q _=>?_,
  fun b xs q=>by rw[aE (hm b _ q fun z=>z)];exact q,fun b u xs q=>by rw[aE (hm b _ q fun z=>z)];exact q,.kept (fun b u z e=>k b u (fun r=>by subst r;rcases he with r|r<;>first|(subst r;rcases z with ⟨q,z⟩;rw[z] at mu;exact mu)|(rcases z with ⟨q,z⟩;rw[z] at r;cases r)) e) fun b u q nm=>by rw[aE (hm b _ q (nm.not_mut))];exact q⟩
 by_cases hbe:b=e
 ·subst hbe;exact heo
 ·exact⟨u,k b u hbe q⟩
end
noncomputable def Nb(h:Heap)(H:Hp):List Addr:=(List.range h.objs.size).filter fun a=>(H a).isSome
noncomputable def tP(h:Heap)(H:Hp):Heap:=W.hideAll h (Nb h H)
theorem BM(h:Heap)(H:Hp):(tP h H).objs.size=h.objs.size:=W.hideAll_size _ _
theorem E6{h:Heap}{H:Hp}{b:Addr}{o:Obj}(e:h.get? b=some o)(n:H b=none):(tP h H).get? b=some o :=
 W.hideAll_get _ e fun hm=>by
  have q:(H b).isSome=true:=(List.mem_filter.mp hm).2
  rw[n] at q;simp at q
theorem G8{h:Heap}{H:Hp}{b:Addr}{o:Obj}(e:(tP h H).get? b=some o):h.get? b=some o/\H b=none:=by
 have e':h.get? b=some o:=W.of_hideAll (Nb h H) e
 refine⟨e',?_⟩
 cases q:H b with
 | none=>rfl
 | some x =>
  have hm:b∈Nb h H:=List.mem_filter.mpr ⟨zT.mpr (zZ e'),by simp[q]⟩
  have z:(tP h H).get? b=none:=W.hideAll_none (Nb h H) hm
  rw[z] at e;cases e
def M8(mg:Str->Option Value)(base:Heap):Prop:=∃bm o,mg "__builtins__"=some (.ref bm)/\bm≠builtinsNs/\bm≠mainGlobals/\base.get? bm=some o/\o.cls=.type "module"/\o.dict=some builtinsNs/\o.data=.plain
structure Mod(K:W.Frag)(mg:Str->Option Value)(base:Heap):Prop where
 kin:K.In base
 glob:base.Ns mainGlobals mg
 blt:∃mb,base.Ns builtinsNs mb/\∀x:Str,x≠"__name__"->mb x=bootBuiltins x
 nolimit:base.NoLimit
 bmd:M8 mg base
structure Cx where
 prog:Program
 w:World
 K:W.Frag
 mg:Str->Option Value
 base:Heap
 A:Around
 N:List Str
 s₀:Shared
 H₀:Hp
 env:Env
 outer:List Env
 stack:List Env
 ex:List Addr
 fn:Str->Bool
 calm:Bool
 pn:List (Addr×Obj)
 xe:Value->Shared->Prop
noncomputable def CU(l:List Env):List Addr:=l.filterMap (·.frame)
noncomputable abbrev Cx.fs(X:Cx):List Addr:=CU X.outer
def IG(sc:Scope)(x:Str):Prop:=sc.names.lookup x=some .local \/ sc.names.lookup x=some .cell\/sc.names.lookup x=some .free
def Loc(sc:Scope)(x:Str):Prop:=sc.names.lookup x=some .local \/ sc.names.lookup x=some .cell
noncomputable def Look(env:Env)(h:Heap)(m:Str->Option Value)(x:Str)(u:Value):Prop :=
 (env.kindOf x=some .local /\ m x=some u)\/((env.kindOf x=some .cell\/env.kindOf x=some .free)/\∃c,env.cells.lookup x=some c/\h.IsCell c (some u))
structure Cx.Ok(X:Cx):Prop where
 mod:Mod X.K X.mg X.base
 kind:X.env.scope.kind=.function
 glob:X.env.globals=mainGlobals
 blt:X.env.builtins=builtinsNs
 above:X.s₀.heap.objs.size<=X.env.locals
 inj:∀x y c,X.env.cells.lookup x=some c->X.env.cells.lookup y=some c->x=y
 has:∀x,(X.env.kindOf x=some .cell\/X.env.kindOf x=some .free)->∃c,X.env.cells.lookup x=some c
 cab:∀x c,X.fn x=true->X.env.cells.lookup x=some c->X.s₀.heap.objs.size<=c
 hd:X.calm=true->X.A.handled=none
 frames:X.A.frames=some X.stack
 stk:X.stack=X.outer\/(X.stack=X.env::X.outer/\X.env.frame=some X.env.locals)
 exf:∀b∈X.ex,b≠X.env.locals/\∀x c,X.env.cells.lookup x=some c->c≠b
 bs:∀b o,X.base.get? b=some o->X.s₀.heap.get? b=some o/\X.H₀ b=none
 bsz:X.base.objs.size<=X.s₀.heap.objs.size
 noex:∀b o,X.base.get? b=some o->b∉X.ex
 exfs:∀b∈X.ex,b∉X.fs
 funs:X.s₀.heap.FunFrames X.base X.outer
 frf:∀b∈X.fs,X.H₀ b=none
structure Inv(X:Cx)(pins:List (Addr×Obj))(σ:List (Option V))(H:Hp)(s:Shared):Prop where
 ok:X.Ok
 os:s.os=X.s₀.os
 bare:AllBare s.gens
 base:Un X.fs X.ex X.H₀ H X.s₀.heap s.heap
 loc:∃m,s.heap.Ns X.env.locals m/\∀ (i:Nat) (x:Str) (v:V),X.N[i]?=some x->σ[i]?=some (some v)->IG X.env.scope x->∃u,RelV v u/\Look X.env s.heap m x u
 cell:∀x c,X.env.cells.lookup x=some c->∃v,s.heap.IsCell c v
 free:H X.env.locals=none
 freeC:∀x c,X.env.cells.lookup x=some c->H c=none
 pin:∀p∈X.pn++pins,s.heap.get? p.1=some p.2/\H p.1=none/\p.1≠X.env.locals/\p.1∉X.fs/\∀v,p.2.data≠.cell v
 hok:oF X.prog X.w H s.heap
 len:σ.length=X.N.length
section
variable {X:Cx}{pins:List (Addr×Obj)}{σ:List (Option V)}{H H':Hp}{s:Shared}{h':Heap}
theorem Cx.Ok.nofr(ok:X.Ok){b:Addr}{o:Obj}(e:X.base.get? b=some o):b∉X.fs:=fun hb=>by
 have:=(ok.funs.mem hb).1
 rw[e] at this;cases this
theorem Inv.bs(I:Inv X pins σ H s):∀b o,X.base.get? b=some o->s.heap.get? b=some o/\H b=none:=fun b o e =>
 ⟨I.base.keep b o (I.ok.bs b o e).1 (I.ok.bs b o e).2 (I.ok.nofr e) (I.ok.noex b o e),I.base.free b o (I.ok.bs b o e).1 (I.ok.bs b o e).2 (I.ok.noex b o e)⟩
theorem Inv.bk(I:Inv X pins σ H s):∀b o,X.base.get? b=some o->s.heap.get? b=some o:=fun b o e=>(I.bs b o e).1
theorem Inv.mod(I:Inv X pins σ H s):Mod X.K X.mg X.base:=I.ok.mod
theorem Inv.kIn(I:Inv X pins σ H s):X.K.In s.heap:=I.ok.mod.kin.keeps I.bk
theorem Inv.nolimit(I:Inv X pins σ H s):s.heap.NoLimit:=I.ok.mod.nolimit.keeps I.bk
theorem Inv.lt(I:Inv X pins σ H s):X.env.locals < s.heap.objs.size:=let ⟨_,hn,_⟩:=I.loc;hn.lt
theorem Inv.sz(I:Inv X pins σ H s):X.s₀.heap.objs.size<=s.heap.objs.size:=yE I.ok.above (Nat.le_of_lt I.lt)
theorem Inv.nofs(I:Inv X pins σ H s){a:Addr}(h:s.heap.objs.size<=a):a∉X.fs:=fun hb=>by
 obtain⟨_,o,ho,_⟩:=I.ok.funs.mem hb
 exact absurd (zP (zZ ho) (yE I.sz h)) (Nat.lt_irrefl _)
theorem Inv.cne(I:Inv X pins σ H s):∀x c,X.env.cells.lookup x=some c->c≠X.env.locals:=fun x c e z=>by
 obtain⟨v,o,ho,hd⟩:=I.cell x c e
 obtain⟨m,⟨o',es,ep,ho',hd',_⟩,_⟩:=I.loc
 rw[z,ho'] at ho;cases ho;rw[hd'] at hd;cases hd
theorem Inv.funs(I:Inv X pins σ H s):s.heap.FunFrames X.base X.outer:=by
 have all:∀ (l:List Env),(∀b∈CU l,b∈X.fs)->X.s₀.heap.FunFrames X.base l->s.heap.FunFrames X.base l:=by
  intro l
  induction l with
  | nil=>intro _ _;trivial
  | cons env r ih =>
   intro hs hl
   obtain⟨hk,⟨L,o,hf,hn,ho,hd⟩,hr⟩:=hl
   have hL:L∈X.fs:=hs L (by unfold CU;rw[List.filterMap_cons,hf];exact zE)
   obtain⟨sl,e⟩:=I.base.slot L o ho (I.ok.frf L hL) hL fun z=>I.ok.exfs L z hL
   exact⟨hk,⟨L,_,hf,hn,e,hd⟩,ih (fun b hb=>hs b (by unfold CU;rw[List.filterMap_cons,hf];exact zC _ hb)) hr⟩
 exact all X.outer (fun _ hb=>hb) I.ok.funs
theorem Inv.stack(I:Inv X pins σ H s):s.heap.FunFrames X.base X.stack:=by
 rcases I.ok.stk with e|⟨e,hf⟩
 ·rw[e];exact I.funs
 ·rw[e]
  obtain⟨m,hn,_⟩:=I.loc
  refine .cons (by rw[I.ok.kind];decide) hf hn ?_ I.funs
  exact Heap.get?_none_of_le (yE I.ok.bsz I.ok.above)
theorem Inv.stkSub(I:Inv X pins σ H s):∀b∈CU X.stack,b∈X.env.locals::X.fs:=fun b hb=>by
 rcases I.ok.stk with e|⟨e,hf⟩
 ·rw[e] at hb;exact zC _ hb
 ·rw[e] at hb
  unfold CU at hb
  rw[List.filterMap_cons,hf] at hb
  exact hb
theorem Inv.stkFree(I:Inv X pins σ H s):∀b∈CU X.stack,H b=none:=fun b hb=>by
 rcases zR.mp (I.stkSub b hb) with e|hb
 ·rw[e];exact I.free
 ·obtain⟨_,o,ho,_⟩:=I.ok.funs.mem hb
  exact I.base.free b o ho (I.ok.frf b hb) fun z=>I.ok.exfs b z hb
theorem Inv.step{g':Array GenState}{t':Nat}{d':Drawn}{ch:List Addr}(I:Inv X pins σ H s)
  (hch:∀b∈ch,(b∈X.ex\/X.s₀.heap.objs.size<=b)/\b≠X.env.locals/\(∀x c,X.env.cells.lookup x=some c->c≠b)/\∀p∈X.pn++pins,p.1≠b)
  (keep:∀b o,b≠X.env.locals->b∉X.fs->b∉ch->s.heap.get? b=some o->H b=none->h'.get? b=some o)
  (slot:∀b o,b≠X.env.locals->b∈X.fs->b∉ch->s.heap.get? b=some o->H b=none->∃sl,h'.get? b=some { o with slots:=sl }) (free:∀b o,b∉ch->s.heap.get? b=some o->H b=none->H' b=none)
  (there:∀b o,b∉ch->s.heap.get? b=some o->∃o',h'.get? b=some o')
  (tups:∀b xs,H b=some (.tup xs)->H' b=some (.tup xs)) (frzs:∀b o u,H b=some (.frz o u)->H' b=some (.frz o u)) (tbls:IK H H' s.heap h')
  (ns:∀m,s.heap.Ns X.env.locals m->h'.Ns X.env.locals m) (hok:oF X.prog X.w H' h') (hg:AllBare g') :
  Inv X pins σ H' { s with heap:=h',gens:=g',drawn:=d',toks:=t' }:=by
 have neL:∀b o,X.s₀.heap.get? b=some o->b≠X.env.locals:=fun b o e=>Nat.ne_of_lt (zP (zZ e) I.ok.above)
 have neC:∀b o,X.s₀.heap.get? b=some o->b∉X.ex->b∉ch:=fun b o e hx hb=>by
  rcases (hch b hb).1 with z|z
  ·exact hx z
  ·exact absurd (zP (zZ e) z) (Nat.lt_irrefl _)
 have cellK:∀x c,X.env.cells.lookup x=some c->∀v,s.heap.IsCell c v->h'.IsCell c v:=fun x c e v ⟨o,ho,hd⟩=>by
  have nch:c∉ch:=fun z=>(hch c z).2.2.1 x c e rfl
  by_cases hc:c∈X.fs
  ·obtain⟨sl,q⟩:=slot c o (I.cne x c e) hc nch ho (I.freeC x c e)
   exact⟨_,q,hd⟩
  ·exact⟨o,keep c o (I.cne x c e) hc nch ho (I.freeC x c e),hd⟩
 refine⟨I.ok,I.os,hg,⟨fun b o e n hb hx=>?_,fun b o e n hb hx=>?_,fun b o e n hx=>?_,fun b o e hx=>?_,fun b xs e=>tups b xs (I.base.tups b xs e),fun b o xs e=>frzs b o xs (I.base.frzs b o xs e),I.base.tbls.trans tbls⟩,?_,fun x c e=>?_,?_,fun x c e=>?_,fun p hp=>?_,hok,I.len⟩
 ·exact keep b o (neL b o e) hb (neC b o e hx) (I.base.keep b o e n hb hx) (I.base.free b o e n hx)
 ·obtain⟨sl,e1⟩:=I.base.slot b o e n hb hx
  obtain⟨sl',e2⟩:=slot b _ (neL b o e) hb (neC b o e hx) e1 (I.base.free b o e n hx)
  exact⟨sl',e2⟩
 ·obtain⟨o',e1⟩:=I.base.there b o e hx
  exact free b o' (neC b o e hx) e1 (I.base.free b o e n hx)
 ·obtain⟨o',e1⟩:=I.base.there b o e hx
  exact there b o' (neC b o e hx) e1
 ·obtain⟨m,hn,hl⟩:=I.loc
  refine⟨m,ns m hn,fun i x v e1 e2 e3=>?_⟩
  obtain⟨u,r,l⟩:=hl i x v e1 e2 e3
  refine⟨u,r,?_⟩
  rcases l with l|⟨k,c,e,z⟩
  ·exact .inl l
  ·exact .inr ⟨k,c,e,cellK x c e _ z⟩
 ·obtain⟨v,z⟩:=I.cell x c e
  exact⟨v,cellK x c e v z⟩
 ·obtain⟨m,⟨o,_,_,ho,_⟩,_⟩:=I.loc
  exact free _ o (fun z=>(hch _ z).2.1 rfl) ho I.free
 ·obtain⟨v,o,ho,hd⟩:=I.cell x c e
  exact free c o (fun z=>(hch c z).2.2.1 x c e rfl) ho (I.freeC x c e)
 ·obtain⟨e,n,ne,nf,d⟩:=I.pin p hp
  have nch:p.1∉ch:=fun z=>(hch p.1 z).2.2.2 p hp rfl
  exact⟨keep p.1 p.2 ne nf nch e n,free p.1 p.2 nch e n,ne,nf,d⟩
theorem Inv.un{t':Nat}(I:Inv X pins σ H s)(u:Un X.fs [] H H' s.heap h')(hok:oF X.prog X.w H' h'):Inv X pins σ H' { s with heap:=h',toks:=t' }:=by
 obtain⟨m,⟨o,es,ep,ho,r⟩,_⟩:=id I.loc
 obtain⟨sl,hL⟩:=u.any ho I.free (by simp)
 exact I.step (g':=s.gens) (d':=s.drawn) (ch:=[]) (fun _ z=>nomatch z) (fun b o _ hb _ e n=>u.keep b o e n hb (by simp)) (fun b o _ hb _ e n=>u.slot b o e n hb (by simp)) (fun b o _ e n=>u.free b o e n (by simp)) (fun b o _ e=>u.there b o e (by simp)) u.tups u.frzs u.tbls (fun m' hm=>by
  obtain⟨o',es',ep',ho',r'⟩:=hm
  rw[ho] at ho';cases ho'
  exact⟨_,es',ep',hL,r'⟩) hok I.bare
theorem Inv.call{g':Array GenState}{t':Nat}{d':Drawn}{ch:List Addr}(I:Inv X pins σ H s)(u:Un (CU X.stack) ch H H' s.heap h')(hok:oF X.prog X.w H' h')(hg:AllBare g')
  (hch:∀b∈ch,(b∈X.ex\/X.s₀.heap.objs.size<=b)/\b≠X.env.locals/\(∀x c,X.env.cells.lookup x=some c->c≠b)/\∀p∈X.pn++pins,p.1≠b) :
  Inv X pins σ H' { s with heap:=h',gens:=g',drawn:=d',toks:=t' }:=by
 obtain⟨m,⟨o,es,ep,ho,r⟩,_⟩:=id I.loc
 obtain⟨sl,hL⟩:=u.any ho I.free fun z=>(hch _ z).2.1 rfl
 exact I.step (ch:=ch) hch (fun b o hL hb hc e n=>u.keep b o e n (fun z=>(zR.mp (I.stkSub b z)).elim hL hb) hc) (fun b o _ _ hc e n=>u.any e n hc) (fun b o hc e n=>u.free b o e n hc) (fun b o hc e=>u.there b o e hc) u.tups u.frzs u.tbls (fun m' hm=>by
  obtain⟨o',es',ep',ho',r'⟩:=hm
  rw[ho] at ho';cases ho'
  exact⟨_,es',ep',hL,r'⟩) hok hg
theorem Inv.turned{t':Nat}{it:Addr}(I:Inv X pins σ H s)(k:∀b o,b≠it->s.heap.get? b=some o->h'.get? b=some o)(hn:H it=none)(hL:it≠X.env.locals)
  (h1:it∈X.ex\/X.s₀.heap.objs.size<=it) (h2:∀x c,X.env.cells.lookup x=some c->c≠it) (h3:∀p∈X.pn++pins,p.1≠it):Inv X pins σ H { s with heap:=h',toks:=t' }:=by
 have nit:∀b u,H b=some u->b≠it:=fun b u e z=>by rw[z,hn] at e;cases e
 refine I.step (g':=s.gens) (d':=s.drawn) (ch:=[it]) (fun b hb=>?_) (fun b o _ _ hc e _=>k b o (fun z=>hc (by simp[z])) e) (fun b o _ _ hc e _=>⟨o.slots,k b o (fun z=>hc (by simp[z])) e⟩) (fun _ _ _ _ n=>n)
  (fun b o hc e=>⟨o,k b o (fun z=>hc (by simp[z])) e⟩) (fun _ _ e=>e) (fun _ _ _ e=>e) (.kept (fun b u z e=>k b u (fun r=>by subst r;rcases z with ⟨q,z⟩;rw[hn] at z;cases z) e) fun _ _ e _=>e) (fun m hm=>?_) (fun b u e=>?_) I.bare
 ·have e:b=it:=by simpa using hb
  subst e
  exact⟨h1,hL,h2,h3⟩
 ·obtain⟨o,es,ep,ho,r⟩:=hm
  exact⟨o,es,ep,k _ o (Ne.symm hL) ho,r⟩
 ·refine (I.hok b u e).stay (fun c v hc q=>k c v ?_ q) (fun _ q=>q) fun _ _ q _=>q
  rcases hc with z|z
  ·rw[z];exact nit b u e
  ·exact nit c _ z
theorem Inv.tok(I:Inv X pins σ H s)(t:Nat):Inv X pins σ H { s with toks:=t }:=I.un (h':=s.heap) (t':=t) Un.refl I.hok
theorem Inv.kept{t':Nat}(I:Inv X pins σ H s)(k:∀b u,s.heap.get? b=some u->h'.get? b=some u):Inv X pins σ H { s with heap:=h',toks:=t' }:=I.un (Un.kept k) (I.hok.kept k)
theorem Inv.laid{a:Addr}{o:HO}{t':Nat}(I:Inv X pins σ H s)(k:∀b u,s.heap.get? b=some u->h'.get? b=some u)(hp:s.heap.objs.size<=a)(new:eX X.prog X.w (upd H a o) h' a o) :
  Inv X pins σ (upd H a o) { s with heap:=h',toks:=t' }:=I.un (Un.laid k hp (I.hok.fresh hp)) (I.hok.laid k hp new)
theorem Inv.write{x e:Addr}{o:HO}{t':Nat}(I:Inv X pins σ H s)(mu:LW (H x))(he:e=x\/H e=some (.own x))(k:∀b u,b≠e->s.heap.get? b=some u->h'.get? b=some u)(heo:∃u,h'.get? e=some u)
  (new:eX X.prog X.w (upd H x o) h' x o):Inv X pins σ (upd H x o) { s with heap:=h',toks:=t' }:=I.un (Un.write mu he k heo) (I.hok.write mu he k heo new)
theorem Inv.pins_of{pins':List (Addr×Obj)}(I:Inv X pins σ H s)(h:∀p∈pins',s.heap.get? p.1=some p.2/\H p.1=none/\p.1≠X.env.locals/\p.1∉X.fs/\∀v,p.2.data≠.cell v):Inv X pins' σ H s :=
 ⟨I.ok,I.os,I.bare,I.base,I.loc,I.cell,I.free,I.freeC,fun p hp=>(List.mem_append.mp hp).elim (fun z=>I.pin p (List.mem_append_left _ z)) (h p),I.hok,I.len⟩
theorem wz{N:List Str}(hN:N.Nodup){i j:Nat}{x:Str}(a:N[i]?=some x)(b:N[j]?=some x):i=j:=by
 obtain⟨h1,e1⟩:=zU.mp a
 obtain⟨h2,e2⟩:=zU.mp b
 exact (List.getElem_inj hN).mp (e1.trans e2.symm)
theorem sd{M:Model}{A:Around}{E:Value->Shared->Prop}{i:Nat}{x:Str}{v:V}{u:Value}{Q:Unit->Shared->Prop}(I:Inv X pins σ H s)(hN:X.N.Nodup)(hi:X.N[i]?=some x)(hx:Loc X.env.scope x)(r:RelV v u)
  (h:∀s',Inv X pins (σ.set i (some v)) H s'->(∃a,Heap.SameBut a s.heap s'.heap/\(a=X.env.locals\/X.env.cells.lookup x=some a))->Q () s') (hf:X.fn x=true\/X.env.scope.names.lookup x=some .local:=by first|exact .inl rfl|exact .inr rfl|assumption):wpAny M A (storeName X.env x u) Q E s:=by
 obtain⟨m,hn,hl⟩:=id I.loc
 have hcls:(X.env.scope.kind == .class||(X.env.scope.kind == .module&&X.env.locals != X.env.globals))=false:=by rw[I.ok.kind];rfl
 have hiσ:i < σ.length:=by rw[I.len];exact (zU.mp hi).1
 have cne:=I.cne
 have tracked:∀ {a:Addr}{h':Heap},(∃o,s.heap.get? a=some o/\H a=none)->Heap.SameBut a s.heap h'->oF X.prog X.w H h':=fun {a h'} ha hs b ob e=>by
  obtain⟨_,_,hfree⟩:=ha
  refine (I.hok b ob e).stay (fun c w' hc q=>(hs.2 c ?_).trans q) (fun _ q=>q) fun _ _ q _=>q
  rintro rfl
  rcases hc with rfl|hc
  ·rw[hfree] at e;cases e
  ·rw[hfree] at hc;cases hc
 rcases hx with hk|hk
 ·refine wpAny_storeName_local hk hn (fun h' hn' hs=>?_) hcls
  obtain⟨oL,_,_,hoL,_⟩:=id hn
  refine h _ ⟨I.ok,I.os,I.bare,⟨fun b o e n hb hx=>?_,fun b o e n hb hx=>?_,I.base.free,fun b o e hx=>?_,I.base.tups,I.base.frzs,I.base.tbls.trans (.kept (fun b u z e=>(hs.2 b (fun r=>by rcases z with ⟨q,z⟩;rw[r,I.free] at z;cases z)).trans e) fun _ _ e _=>e)⟩,⟨_,hn',fun j y v' e1 e2 e3=>?_⟩,fun y c e=>?_,I.free,I.freeC,fun p hp=>?_,tracked ⟨oL,hoL,I.free⟩ hs,by simpa using I.len⟩ ⟨_,hs,.inl rfl⟩
  ·exact (hs.2 b (Nat.ne_of_lt (zP (zZ e) I.ok.above))).trans (I.base.keep b o e n hb hx)
  ·obtain⟨sl,e1⟩:=I.base.slot b o e n hb hx
   exact⟨sl,(hs.2 b (Nat.ne_of_lt (zP (zZ e) I.ok.above))).trans e1⟩
  ·obtain⟨o',e1⟩:=I.base.there b o e hx
   exact⟨o',(hs.2 b (Nat.ne_of_lt (zP (zZ e) I.ok.above))).trans e1⟩
  ·by_cases hj:j=i
   ·subst hj
    rw[hi] at e1;cases e1
    rw[List.getElem?_set_self hiσ] at e2
    cases e2
    exact⟨u,r,.inl ⟨hk,by simp⟩⟩
   ·rw[List.getElem?_set_ne (Ne.symm hj)] at e2
    obtain⟨u',r',q⟩:=hl j y v' e1 e2 e3
    refine⟨u',r',?_⟩
    rcases q with ⟨k,e⟩|⟨k,c,e,z⟩
    ·refine .inl ⟨k,?_⟩
     have:y≠x:=fun e=>hj (wz hN e1 (e ▸ hi))
     simp[this,e]
    ·exact .inr ⟨k,c,e,z.sameBut hs (cne y c e)⟩
  ·obtain⟨w',z⟩:=I.cell y c e
   exact⟨w',z.sameBut hs (cne y c e)⟩
  ·obtain⟨e,n,ne,nf,d⟩:=I.pin p hp
   exact⟨(hs.2 p.1 ne).trans e,n,ne,nf,d⟩
 ·have hfn:X.fn x=true:=by
   rcases hf with z|z
   ·exact z
   ·rw[z] at hk;cases hk
  obtain⟨c,hc⟩:=I.ok.has x (.inl hk)
  obtain⟨w',z⟩:=I.cell x c hc
  refine wpAny_storeName_cell I.ok.kind hk hc z (fun h' hc' hs=>?_)
  obtain⟨oc,hoc,hocd⟩:=id z
  refine h { s with heap:=h' } ⟨I.ok,I.os,I.bare,⟨fun b o e n hb hx=>?_,fun b o e n hb hx=>?_,I.base.free,fun b o e hx=>?_,I.base.tups,I.base.frzs,I.base.tbls.trans (.kept (fun b u z e=>(hs.2 b (fun r=>by rcases z with ⟨q,z⟩;rw[r,I.freeC x c hc] at z;cases z)).trans e) fun _ _ e _=>e)⟩,⟨m,hn.sameBut hs (Ne.symm (cne x c hc)),fun j y v' e1 e2 e3=>?_⟩,fun y c' e=>?_,I.free,I.freeC,fun p hp=>?_,tracked ⟨oc,hoc,I.freeC x c hc⟩ hs,by simpa using I.len⟩ ⟨c,hs,.inr hc⟩
  ·exact (hs.2 b (Nat.ne_of_lt (zP (zZ e) (I.ok.cab x c hfn hc)))).trans (I.base.keep b o e n hb hx)
  ·obtain⟨sl,e1⟩:=I.base.slot b o e n hb hx
   exact⟨sl,(hs.2 b (Nat.ne_of_lt (zP (zZ e) (I.ok.cab x c hfn hc)))).trans e1⟩
  ·obtain⟨o',e1⟩:=I.base.there b o e hx
   exact⟨o',(hs.2 b (Nat.ne_of_lt (zP (zZ e) (I.ok.cab x c hfn hc)))).trans e1⟩
  ·by_cases hj:j=i
   ·subst hj
    rw[hi] at e1;cases e1
    rw[List.getElem?_set_self hiσ] at e2
    cases e2
    exact⟨u,r,.inr ⟨.inl hk,c,hc,hc'⟩⟩
   ·rw[List.getElem?_set_ne (Ne.symm hj)] at e2
    obtain⟨u',r',q⟩:=hl j y v' e1 e2 e3
    refine⟨u',r',?_⟩
    rcases q with q|⟨k,c',e,z'⟩
    ·exact .inl q
    ·refine .inr ⟨k,c',e,z'.sameBut hs ?_⟩
     rintro rfl
     exact hj (wz hN e1 (I.ok.inj _ _ _ e hc ▸ hi))
  ·by_cases hcc:c'=c
   ·subst hcc;exact⟨_,hc'⟩
   ·obtain⟨w2,z2⟩:=I.cell y c' e
    exact⟨w2,z2.sameBut hs hcc⟩
  ·obtain⟨e,n,ne,nf,d⟩:=I.pin p hp
   refine⟨(hs.2 p.1 ?_).trans e,n,ne,nf,d⟩
   intro q
   rw[q,hoc] at e
   have q':oc=p.2:=Option.some.inj e
   exact d w' (by rw[<- q'];exact hocd)
theorem vJ{M:Model}{A:Around}{E:Value->Shared->Prop}{i:Nat}{x:Str}{v:V}{u:Value}{Q:Unit->Shared->Prop}(I:Inv X pins σ H s)(hN:X.N.Nodup)(hi:X.N[i]?=some x)(hx:Loc X.env.scope x)(r:RelV v u)
  (h:∀s',Inv X pins (σ.set i (some v)) H s'->Q () s') (hf:X.fn x=true\/X.env.scope.names.lookup x=some .local:=by first|exact .inl rfl|exact .inr rfl|assumption):wpAny M A (storeName X.env x u) Q E s :=
 sd I hN hi hx r (fun s' I' _=>h s' I') hf
theorem Inv.call'{s':Shared}{ch:List Addr}(I:Inv X pins σ H s)(ho:s'.os=s.os)(u:Un (CU X.stack) ch H H' s.heap s'.heap)(hok:oF X.prog X.w H' s'.heap)(hg:AllBare s'.gens)
  (hch:∀b∈ch,(b∈X.ex\/X.s₀.heap.objs.size<=b)/\b≠X.env.locals/\(∀x c,X.env.cells.lookup x=some c->c≠b)/\∀p∈X.pn++pins,p.1≠b):Inv X pins σ H' s':=by
 obtain⟨h',g',d',t',o'⟩:=s'
 have e:o'=s.os:=ho
 subst e
 exact I.call (g':=g') (t':=t') (d':=d') u hok hg hch
end
noncomputable abbrev XK:=Value->Option Addr->Hp->Prop
noncomputable abbrev St:=List (Option V)
noncomputable abbrev VK:=V->Hp->Prop
noncomputable abbrev TE:=St->Hp->VK->Prop
noncomputable abbrev TT:=St->Hp->(Bool->Hp->Prop)->Prop
noncomputable abbrev TA:=St->Hp->(List V->Hp->Prop)->Prop
structure Ends where
 nx:St->Hp->Prop
 rt:VK
 bk:St->Hp->Prop:=fun _ _=>False
 ct:St->Hp->Prop:=fun _ _=>False
noncomputable abbrev TS:=Ends->St->Hp->Prop
def EP(X:Cx)(pins:List (Addr×Obj))(σ:St)(Q:VK)(u:Value)(s':Shared):Prop:=∃v H',Inv X pins σ H' s'/\RelV v u/\Q v H'
def TP(X:Cx)(pins:List (Addr×Obj))(σ:St)(Q:Bool->Hp->Prop)(b:Bool)(s':Shared):Prop:=∃H',Inv X pins σ H' s'/\Q b H'
def AP(X:Cx)(pins:List (Addr×Obj))(σ:St)(Q:List V->Hp->Prop)(us:List Value)(s':Shared):Prop:=∃vs H',Inv X pins σ H' s'/\aF vs us/\Q vs H'
noncomputable def SP(X:Cx)(pins:List (Addr×Obj))(D:Ends)(f:Flow)(s':Shared):Prop :=
 match f with
 | .next=>∃σ' H',Inv X pins σ' H' s'/\D.nx σ' H'
 | .brk=>∃σ' H',Inv X pins σ' H' s'/\D.bk σ' H'
 | .cont=>∃σ' H',Inv X pins σ' H' s'/\D.ct σ' H'
 | .ret u=>∃v σ' H',Inv X pins σ' H' s'/\RelV v u/\D.rt v H'
noncomputable def PE(X:Cx)(e:Expr)(t:TE):Prop :=
 ∀ (pins:List (Addr×Obj)) (s:Shared) (σ:St) (H:Hp) (Q:VK),Inv X pins σ H s->t σ H Q->wpAny (model X.prog X.w) X.A (eval e X.env) (EP X pins σ Q) X.xe s
noncomputable def PT(X:Cx)(e:Expr)(t:TT):Prop :=
 ∀ (pins:List (Addr×Obj)) (s:Shared) (σ:St) (H:Hp) (Q:Bool->Hp->Prop),Inv X pins σ H s->t σ H Q->wpAny (model X.prog X.w) X.A (isTrue e X.env (eval e X.env)) (TP X pins σ Q) X.xe s
noncomputable def PW(X:Cx)(e:Expr)(t:TT):Prop :=
 ∀ (whole:Sem Value) (pins:List (Addr×Obj)) (s:Shared) (σ:St) (H:Hp) (Q:Bool->Hp->Prop),Inv X pins σ H s->t σ H Q->wpAny (model X.prog X.w) X.A (isTrue e X.env whole) (TP X pins σ Q) X.xe s
theorem PW.pt{X:Cx}{e:Expr}{t:TT}(h:PW X e t):PT X e t:=h _
noncomputable def PA(X:Cx)(es:List Expr)(t:TA):Prop :=
 ∀ (pos:Pos) (pins:List (Addr×Obj)) (s:Shared) (σ:St) (H:Hp) (Q:List V->Hp->Prop),Inv X pins σ H s->t σ H Q->wpAny (model X.prog X.w) X.A (spliced (backTo pos (starEach es X.env))) (AP X pins σ Q) X.xe s
noncomputable def PS(X:Cx)(st:Stmt)(t:TS):Prop :=
 ∀ (pins:List (Addr×Obj)) (s:Shared) (σ:St) (H:Hp) (D:Ends),Inv X pins σ H s->t D σ H->wpAny (model X.prog X.w) X.A (exec st X.env) (SP X pins D) X.xe s
noncomputable def xW(X:Cx)(st:List Stmt)(t:TS):Prop :=
 ∀ (pins:List (Addr×Obj)) (s:Shared) (σ:St) (H:Hp) (D:Ends),Inv X pins σ H s->t D σ H->wpAny (model X.prog X.w) X.A (execs st X.env) (SP X pins D) X.xe s
theorem cg{α:Type}{t:Sem α}{Q Q':α->Shared->Prop}{M:Model}{A:Around}{E:Value->Shared->Prop}{s:Shared}(h:wpAny M A t Q E s)(hQ:∀a s,Q a s->Q' a s):wpAny M A t Q' E s:=wpAny_mono h hQ fun _ _ x=>x
section
variable {X:Cx}
def N4(i:Nat):TE:=fun σ H Q=>∃v,σ[i]?=some (some v)/\Q v H
def tC(v:V):TE:=fun _ H Q=>Q v H
theorem qf{i:Nat}{x:Str}{pos:Pos}(hN:X.N[i]?=some x)(hv:IG X.env.scope x)(hd:(x == ("__debug__":Str))=false:=by decide)(hcd:(x == ("__classdict__":Str))=false:=by decide):PE X (.Name x pos) (N4 i):=by
 intro pins s σ H Q I h
 obtain⟨v,e,h⟩:=h
 obtain⟨m,hn,hl⟩:=I.loc
 obtain⟨u,r,l⟩:=hl i x v hN e hv
 have fin:EP X pins σ Q u s:=⟨v,H,I,r,h⟩
 rcases l with ⟨hk,hm⟩|⟨hk,c,hc,hcell⟩
 ·exact wpAny_Name (wpAny_loadName_local I.ok.kind hk hn hm fin) hd
 ·rcases hk with hk|hk
  ·exact wpAny_Name (wpAny_loadName_cell I.ok.kind hk hc hcell fin) hd
  ·exact wpAny_Name (wpAny_loadName_free I.ok.kind hk hc hcell fin hcd) hd
theorem uP{i j pos}:PE X (.Constant (.int i) j pos) (tC (.int i)):=fun _ _ _ H _ I h=>wpAny_Constant_int ⟨.int i,H,I.tok _,⟨_,rfl⟩,h⟩
theorem MJ{b j pos}:PE X (.Constant (.bool b) j pos) (tC (.bl b)):=fun _ _ _ H _ I h=>Constant_bool ⟨.bl b,H,I,rfl,h⟩
theorem JB{j pos}:PE X (.Constant .none j pos) (tC .non):=fun _ _ _ H _ I h=>Constant_none ⟨.non,H,I,rfl,h⟩
theorem KJ{x j pos}:PE X (.Constant (.str x) j pos) (tC (.str x)):=fun _ _ _ H _ I h=>Calls.Constant_str ⟨.str x,H,I.tok _,⟨_,rfl⟩,h⟩
def Gl(X:Cx)(x:Str):Prop:=X.env.kindOf x=some .globalImplicit
theorem zk{E:Value->Shared->Prop}{pins:List (Addr×Obj)}{s:Shared}{σ:St}{H:Hp}{x:Str}{u:Value}{pos:Pos}{Q:Value->Shared->Prop}(I:Inv X pins σ H s)(hg:Gl X x)(hm:X.mg x=some u)(h:Q u s)
  (hd:(x == ("__debug__":Str))=false:=by decide):wpAny (model X.prog X.w) X.A (eval (.Name x pos) X.env) Q E s :=
 Calls.Name_function_global I.ok.kind hg (Calls.loadGlobal_global (by rw[I.ok.glob];exact I.mod.glob.keeps I.bk) hm h) hd
theorem iS{E:Value->Shared->Prop}{pins:List (Addr×Obj)}{s:Shared}{σ:St}{H:Hp}{x:Str}{u:Value}{pos:Pos}{Q:Value->Shared->Prop}(I:Inv X pins σ H s)(hg:Gl X x)(hm:X.mg x=none)(hv:bootBuiltins x=some u)(h:Q u s)
  (hn:x≠"__name__":=by decide) (hd:(x == ("__debug__":Str))=false:=by decide):wpAny (model X.prog X.w) X.A (eval (.Name x pos) X.env) Q E s:=by
 obtain⟨mb,h1,h2⟩:=I.mod.blt
 exact Calls.Name_function_global I.ok.kind hg (Calls.loadGlobal_builtin (by rw[I.ok.glob];exact I.mod.glob.keeps I.bk) hm (by rw[I.ok.blt];exact h1.keeps I.bk) ((h2 x hn).trans hv) h) hd
theorem HG{x:Str}{v:V}{u:Value}{pos:Pos}(hg:Gl X x)(hm:X.mg x=some u)(r:RelV v u)(hd:(x == ("__debug__":Str))=false:=by decide):PE X (.Name x pos) (tC v) :=
 fun _ _ _ H _ I h=>zk I hg hm ⟨v,H,I,r,h⟩ hd
theorem Hg{x:Str}{v:V}{u:Value}{pos:Pos}(hg:Gl X x)(hm:X.mg x=none)(hv:bootBuiltins x=some u)(r:RelV v u)(hn:x≠"__name__":=by decide)(hd:(x == ("__debug__":Str))=false:=by decide):PE X (.Name x pos) (tC v) :=
 fun _ _ _ H _ I h=>iS I hg hm hv ⟨v,H,I,r,h⟩ hn hd
variable {a b:Expr}{ta tb:TE}{pos:Pos}
def tB(t:TE):TT:=fun σ H Q=>t σ H fun x H1=>∃c,x=.bl c/\Q c H1
theorem K1{e:Expr}{t:TE}(h:PE X e t)(he:∀whole,isTrue e X.env whole=(do let v <- whole;standAt e.pos;holding [v] (truthy v)):=by intro _;rfl):PT X e (tB t):=by
 intro pins s σ H Q I hw
 refine isTrue_plain (cg (h pins s σ H _ I hw) fun v s1 ⟨x,H1,I1,r1,q1⟩=>?_) (he _)
 obtain⟨d,rfl,q⟩:=q1
 cases r1
 exact wpAny_truthy_bool ⟨H1,I1,q⟩
variable {tA tB':TT}{rest:List Expr}
def Nq(t u:TT):TT:=fun σ H Q=>t σ H fun c H1=>if c=true then u σ H1 Q else Q false H1
def OG(t u:TT):TT:=fun σ H Q=>t σ H fun c H1=>if c=true then Q true H1 else u σ H1 Q
def Nn(t:TT):TT:=fun σ H Q=>t σ H fun c H1=>Q (!c) H1
theorem Ij(ha:PT X a tA):PW X (.BoolOp .And [a] pos) tA:=by
 intro wh pins s σ H Q I h
 refine isTrue_and (cg (ha pins s σ H Q I h) fun c s1 e=>?_)
 cases c with
 | true=>exact isTrue_and_nil e
 | false=>exact e
theorem JA(ha:PT X a tA):PW X (.BoolOp .Or [a] pos) tA:=by
 intro wh pins s σ H Q I h
 refine isTrue_or (cg (ha pins s σ H Q I h) fun c s1 e=>?_)
 cases c with
 | false=>exact isTrue_or_nil e
 | true=>exact e
theorem J3(ha:PT X a tA)(hb:PW X (.BoolOp .And (b::rest) pos) tB'):PW X (.BoolOp .And (a::b::rest) pos) (Nq tA tB'):=by
 intro wh pins s σ H Q I h
 refine isTrue_and (cg (ha pins s σ H _ I h) fun c s1 ⟨H1,I1,q1⟩=>?_)
 cases c with
 | true=>exact hb wh pins s1 σ H1 Q I1 q1
 | false=>exact⟨H1,I1,q1⟩
theorem MB(ha:PT X a tA)(hb:PW X (.BoolOp .Or (b::rest) pos) tB'):PW X (.BoolOp .Or (a::b::rest) pos) (OG tA tB'):=by
 intro wh pins s σ H Q I h
 refine isTrue_or (cg (ha pins s σ H _ I h) fun c s1 ⟨H1,I1,q1⟩=>?_)
 cases c with
 | true=>exact⟨H1,I1,q1⟩
 | false=>exact hb wh pins s1 σ H1 Q I1 q1
theorem KY(ha:PT X a tA):PT X (.UnaryOp .Not a pos) (Nn tA):=by
 intro pins s σ H Q I h
 exact isTrue_not (ha pins s σ H (fun c H1=>Q (!c) H1) I h)
def L4(ta tb:TE):TE:=fun σ H Q=>ta σ H fun x H1=>∃c,x=.bl c/\if c=true then tb σ H1 Q else Q (.bl false) H1
def NB(ta tb:TE):TE:=fun σ H Q=>ta σ H fun x H1=>∃c,x=.bl c/\if c=true then Q (.bl true) H1 else tb σ H1 Q
def MW(ta:TE):TE:=fun σ H Q=>ta σ H fun x H1=>∃c,x=.bl c/\Q (.bl (!c)) H1
theorem KU{op}{t:TE}(h:PE X a t):PE X (.BoolOp op [a] pos) t:=fun pins s σ H Q I hw=>BoolOp_one (h pins s σ H Q I hw)
theorem J5(ha:PE X a ta)(hb:PE X (.BoolOp .And (b::rest) pos) tb):PE X (.BoolOp .And (a::b::rest) pos) (L4 ta tb):=by
 intro pins s σ H Q I h
 refine BoolOp_and (cg (ha pins s σ H _ I h) fun v s1 ⟨x,H1,I1,r1,q1⟩=>?_)
 obtain⟨c,rfl,q1⟩:=q1
 cases r1
 refine wpAny_truthy_bool ?_
 cases c with
 | true=>exact hb pins s1 σ H1 Q I1 q1
 | false=>exact⟨.bl false,H1,I1,rfl,q1⟩
theorem Fi(ha:PE X a ta)(hb:PE X (.BoolOp .Or (b::rest) pos) tb):PE X (.BoolOp .Or (a::b::rest) pos) (NB ta tb):=by
 intro pins s σ H Q I h
 refine BoolOp_or (cg (ha pins s σ H _ I h) fun v s1 ⟨x,H1,I1,r1,q1⟩=>?_)
 obtain⟨c,rfl,q1⟩:=q1
 cases r1
 refine wpAny_truthy_bool ?_
 cases c with
 | false=>exact hb pins s1 σ H1 Q I1 q1
 | true=>exact⟨.bl true,H1,I1,rfl,q1⟩
theorem K5(ha:PE X a ta):PE X (.UnaryOp .Not a pos) (MW ta):=by
 intro pins s σ H Q I h
 refine UnaryOp_ (cg (ha pins s σ H _ I h) fun v s1 ⟨x,H1,I1,r1,q1⟩=>?_)
 obtain⟨c,rfl,q1⟩:=q1
 cases r1
 exact not_of (wpAny_truthy_bool ⟨.bl (!c),H1,I1,rfl,q1⟩)
def OC(t:TT)(ta tb:TE):TE:=fun σ H Q=>t σ H fun c H1=>if c=true then ta σ H1 Q else tb σ H1 Q
theorem D1{c:Expr}(hc:PT X c tA)(ha:PE X a ta)(hb:PE X b tb):PE X (.IfExp c a b pos) (OC tA ta tb):=by
 intro pins s σ H Q I h
 refine wpAny_IfExp (cg (hc pins s σ H _ I h) fun d s1 ⟨H1,I1,q1⟩=>?_)
 cases d with
 | true=>exact ha pins s1 σ H1 Q I1 q1
 | false=>exact hb pins s1 σ H1 Q I1 q1
end
noncomputable def iJ(K:W.Frag)(H:Hp)(a:Addr)(xs:List V):Prop :=
 Rd H a (.lst xs) \/
  ∃ (o:Obj) (its:Array Value) (n:Nat),K.lookup a=some o/\o.cls=.type "list"/\o.dict=none/\o.data=.seq its n/\its.size<=sizeLine/\aF xs its.toList
noncomputable def jQ(K:W.Frag)(H:Hp)(a:Addr)(xs:List V):Prop :=
 Rd H a (.tup xs) \/
  ∃ (o:Obj) (its:Array Value) (n:Nat),K.lookup a=some o/\o.cls=.type "tuple"/\o.dict=none/\o.data=.seq its n/\its.size<=sizeLine/\aF xs its.toList
noncomputable def NH:Value->Option V
 | .none=>some .non
 | .bool b=>some (.bl b)
 | .int i _=>some (.int i)
 | .str x _=>some (.str x)
 | .bytes b _=>some (.byt b)
 | .float b _=>some (.flt b)
 | .ref a=>some (.ref a)
 | .type n=>some (.ty n)
 | _=>none
theorem RelV.abs{x:V}{u:Value}(r:RelV x u):NH u=some x:=by
 cases x with
 | non=>cases r;rfl
 | bl _=>cases r;rfl
 | int _=>obtain⟨t,rfl⟩:=r;rfl
 | str _=>obtain⟨t,rfl⟩:=r;rfl
 | byt _=>obtain⟨t,rfl⟩:=r;rfl
 | flt _=>obtain⟨t,rfl⟩:=r;rfl
 | ref _=>cases r;rfl
 | ty _=>cases r;rfl
theorem RelV.inj{x y:V}{u:Value}(r:RelV x u)(q:RelV y u):x=y:=Option.some.inj (r.abs.symm.trans q.abs)
theorem aF.inj:∀ {xs ys:List V}{us:List Value},aF xs us->aF ys us->xs=ys
 | _,_,_,.nil,.nil=>rfl
 | _,_,_,.cons r t,.cons r' t'=>by rw[r.inj r',aF.inj t t']
section
variable {X:Cx}{pins:List (Addr×Obj)}{σ:St}{H:Hp}{s:Shared}{a:Addr}{xs ys:List V}
theorem iJ.of{K:W.Frag}(h:H a=some (.lst xs)):iJ K H a xs:=.inl (.inl h)
theorem Inv.list(I:Inv X pins σ H s)(h:iJ X.K H a xs):∃its:List Value,aF xs its/\PlainL s.heap a its.toArray/\xs.length<=sizeLine:=by
 rcases h with h|⟨o,its,n,hk,hc,hd,hs,hz,r⟩
 ·obtain⟨z,its,n,r,e⟩:=h.ok I.hok
  exact⟨its,r,⟨_,n,e,rfl,rfl,rfl⟩,z⟩
 ·refine⟨its.toList,r,⟨o,n,I.kIn a o hk,hc,hd,by simpa using hs⟩,?_⟩
  have e:=r.length
  simp only[Array.length_toList] at e
  omega
theorem Inv.tuple(I:Inv X pins σ H s)(h:jQ X.K H a xs):∃its:List Value,aF xs its/\IsTup s.heap a its.toArray/\xs.length<=sizeLine:=by
 rcases h with h|⟨o,its,n,hk,hc,_,hs,hz,r⟩
 ·obtain⟨z,its,r,p⟩:=h.ok I.hok
  exact⟨its,r,p.1,z⟩
 ·refine⟨its.toList,r,⟨o,I.kIn a o hk,hc,n,by simpa using hs⟩,?_⟩
  have e:=r.length
  simp only[Array.length_toList] at e
  omega
theorem Inv.list_inj(I:Inv X pins σ H s)(h:iJ X.K H a xs)(h':iJ X.K H a ys):xs=ys:=by
 obtain⟨its,r,⟨o,n,e,_,_,d⟩,_⟩:=I.list h
 obtain⟨its',r',⟨o',n',e',_,_,d'⟩,_⟩:=I.list h'
 rw[e] at e';cases e'
 rw[d] at d'
 injection d' with d1 _
 have:its=its':=by simpa using congrArg Array.toList d1
 subst this
 exact r.inj r'
theorem Inv.tuple_inj(I:Inv X pins σ H s)(h:jQ X.K H a xs)(h':jQ X.K H a ys):xs=ys:=by
 obtain⟨its,r,⟨o,e,_,n,d⟩,_⟩:=I.tuple h
 obtain⟨its',r',⟨o',e',_,n',d'⟩,_⟩:=I.tuple h'
 rw[e] at e';cases e'
 rw[d] at d'
 injection d' with d1 _
 have:its=its':=by simpa using congrArg Array.toList d1
 subst this
 exact r.inj r'
end
noncomputable abbrev Cx.wish(X:Cx)(E:Value->Shared->Prop):Cx:={ X with xe:=E }
noncomputable abbrev Cx.nox(X:Cx):Cx:=X.wish fun _ _=>False
theorem Cx.Ok.wish{X:Cx}(ok:X.Ok)(E:Value->Shared->Prop):(X.wish E).Ok :=
 ⟨ok.mod,ok.kind,ok.glob,ok.blt,ok.above,ok.inj,ok.has,ok.cab,ok.hd,ok.frames,ok.stk,ok.exf,ok.bs,ok.bsz,ok.noex,ok.exfs,ok.funs,ok.frf⟩
theorem Cx.Ok.unwish{X:Cx}{E:Value->Shared->Prop}(ok:(X.wish E).Ok):X.Ok :=
 ⟨ok.mod,ok.kind,ok.glob,ok.blt,ok.above,ok.inj,ok.has,ok.cab,ok.hd,ok.frames,ok.stk,ok.exf,ok.bs,ok.bsz,ok.noex,ok.exfs,ok.funs,ok.frf⟩
section
variable {X:Cx}{pins:List (Addr×Obj)}{σ:St}{H:Hp}{s:Shared}{E:Value->Shared->Prop}
theorem Inv.wish(I:Inv X pins σ H s)(E:Value->Shared->Prop):Inv (X.wish E) pins σ H s:=⟨I.ok.wish E,I.os,I.bare,I.base,I.loc,I.cell,I.free,I.freeC,I.pin,I.hok,I.len⟩
theorem Inv.unwish(I:Inv (X.wish E) pins σ H s):Inv X pins σ H s:=⟨I.ok.unwish,I.os,I.bare,I.base,I.loc,I.cell,I.free,I.freeC,I.pin,I.hok,I.len⟩
theorem SP.unwish{D:Ends}{f:Flow}{s':Shared}(h:SP (X.wish E) pins D f s'):SP X pins D f s':=by
 cases f with
 | next=>obtain⟨σ',H',I,q⟩:=h;exact⟨σ',H',I.unwish,q⟩
 | brk=>obtain⟨σ',H',I,q⟩:=h;exact⟨σ',H',I.unwish,q⟩
 | cont=>obtain⟨σ',H',I,q⟩:=h;exact⟨σ',H',I.unwish,q⟩
 | ret u=>obtain⟨v,σ',H',I,r,q⟩:=h;exact⟨v,σ',H',I.unwish,r,q⟩
theorem xW.nox{st:List Stmt}{t:TS}(h:xW X.nox st t):xW X st t:=fun pins s σ H D I hw =>
 wpAny_mono (h pins s σ H D (I.wish _) hw) (fun _ _ q=>q.unwish) fun _ _ z=>False.elim z
end
section
variable {X:Cx}{st:Stmt}{rest:List Stmt}{t u:TS}{e:Expr}{te:TE}{pos:Pos}
def DR:TS:=fun D σ H=>D.nx σ H
def NY(t u:TS):TS:=fun D σ H=>t { D with nx:=u D } σ H
theorem HI:xW X [] DR:=fun _ _ σ H _ I h=>wpAny_execs_nil ⟨σ,H,I,h⟩
theorem Fv(h1:PS X st t)(h2:xW X rest u):xW X (st::rest) (NY t u):=by
 intro pins s σ H D I h
 refine wpAny_execs_cons (cg (h1 pins s σ H { D with nx:=u D } I h) fun f s1 q=>?_)
 cases f with
 | next =>
  obtain⟨σ',H',I',q⟩:=q
  exact h2 pins s1 σ' H' D I' q
 | ret v=>exact q
 | brk=>exact q
 | cont=>exact q
theorem F2(h1:PS X st t):xW X [st] t:=by
 intro pins s σ H D I h
 refine wpAny_execs_cons (cg (h1 pins s σ H D I h) fun f s1 q=>?_)
 cases f with
 | next=>exact wpAny_execs_nil q
 | ret v=>exact q
 | brk=>exact q
 | cont=>exact q
theorem Gj:PS X (.Pass pos) DR:=fun _ _ σ H _ I h=>wpAny_Pass ⟨σ,H,I,h⟩
theorem Inv.quiet{pins:List (Addr×Obj)}{σ:St}{H:Hp}{s:Shared}(I:Inv X pins σ H s):interactive X.env=false:=by simp[interactive,I.ok.kind]
theorem Jw{x j pos pos'}:PS X (.Expr (.Constant (.str x) j pos) pos') DR:=fun _ s σ H _ I h=>wpAny_Expr (Calls.Constant_str (show SP X _ _ .next { s with toks:=s.toks+1 } from ⟨σ,H,I.tok _,h⟩)) I.quiet
def Mt(te:TE):TS:=fun D σ H=>te σ H fun _ H1=>D.nx σ H1
theorem ow(he:PE X e te)(hs:swapsWith e none pos.line X.env=pure false:=by rfl):PS X (.Expr e pos) (Mt te):=by
 intro pins s σ H D I h
 exact wpAny_Expr_any (cg (he pins s σ H _ I h) fun v s1 ⟨x,H1,I1,r1,q1⟩=>⟨σ,H1,I1,q1⟩) I.quiet hs
def NL(te:TE):TS:=fun D σ H=>te σ H D.rt
theorem Js(he:PE X e te):PS X (.Return (some e) pos) (NL te):=by
 intro pins s σ H D I h
 exact wpAny_Return_some (cg (he pins s σ H _ I h) fun v s1 ⟨x,H1,I1,r1,q1⟩=>⟨x,σ,H1,I1,r1,q1⟩)
def N3(c:TT)(t u:TS):TS:=fun D σ H=>c σ H fun b H1=>if b=true then t D σ H1 else u D σ H1
theorem LN{c:Expr}{a b:List Stmt}{tc:TT}(hc:PT X c tc)(ha:xW X a t)(hb:xW X b u):PS X (.If c a b pos) (N3 tc t u):=by
 intro pins s σ H D I h
 refine wpAny_If (cg (hc pins s σ H _ I h) fun d s1 ⟨H1,I1,q1⟩=>?_)
 cases d with
 | true=>exact ha pins s1 σ H1 D I1 q1
 | false=>exact hb pins s1 σ H1 D I1 q1
end
noncomputable abbrev TG:=V->St->Hp->(St->Hp->Prop)->Prop
noncomputable abbrev La:=List V->St->Hp->(St->Hp->Prop)->Prop
noncomputable def PG(X:Cx)(target:Expr)(t:TG):Prop :=
 ∀ (pins:List (Addr×Obj)) (s:Shared) (σ:St) (H:Hp) (v:V) (u:Value) (Q:St->Hp->Prop),Inv X pins σ H s->RelV v u->t v σ H Q ->
  wpAny (model X.prog X.w) X.A (assign target X.env u) (fun _ s'=>∃σ' H',Inv X pins σ' H' s'/\Q σ' H') X.xe s
noncomputable def Nf(X:Cx)(ts:List Expr)(t:La):Prop :=
 ∀ (pins:List (Addr×Obj)) (s:Shared) (σ:St) (H:Hp) (vs:List V) (us:List Value) (Q:St->Hp->Prop),Inv X pins σ H s->aF vs us->t vs σ H Q ->
  wpAny (model X.prog X.w) X.A (assignInOrder ((assignEach ts X.env).map (·.2)) us) (fun _ s'=>∃σ' H',Inv X pins σ' H' s'/\Q σ' H') X.xe s
noncomputable abbrev KB:=V->V->V->Hp->(Hp->Prop)->Prop
noncomputable def Mm(X:Cx)(t:KB):Prop :=
 ∀ (pins:List (Addr×Obj)) (s:Shared) (σ:St) (H:Hp) (o i v:V) (ov iv u:Value) (Q:Hp->Prop),Inv X pins σ H s->RelV o ov->RelV i iv->RelV v u->t o i v H Q ->
  wpAny (model X.prog X.w) X.A (setItem ov iv u) (fun _ s'=>∃H',Inv X pins σ H' s'/\Q H') X.xe s
section
variable {X:Cx}{pos:Pos}
def wa(i:Nat):TG:=fun v σ H Q=>Q (σ.set i (some v)) H
theorem da{i:Nat}{x:Str}(hN:X.N.Nodup)(hi:X.N[i]?=some x)(hx:Loc X.env.scope x)(hf:X.fn x=true\/X.env.scope.names.lookup x=some .local:=by first|exact .inl rfl|exact .inr rfl|assumption):PG X (.Name x pos) (wa i):=by
 intro pins s σ H v u Q I r h
 exact wpAny_assign_Name (vJ I hN hi hx r (fun s' I'=>⟨_,H,I',h⟩) hf)
noncomputable def Nr:La:=fun vs σ H Q=>vs=[]/\Q σ H
noncomputable def LY(t:TG)(u:La):La:=fun vs σ H Q=>∃v r,vs=v::r/\t v σ H fun σ' H'=>u r σ' H' Q
theorem lY:Nf X [] Nr:=by
 intro pins s σ H vs us Q I r h
 obtain⟨e,h⟩:=h
 subst e
 cases r
 exact assignInOrder_nil ⟨σ,H,I,h⟩
theorem cI{e:Expr}{es:List Expr}{t:TG}{u:La}(h1:PG X e t)(h2:Nf X es u)
  (hs:(assignEach (e::es) X.env).map (·.2)=assign e X.env::(assignEach es X.env).map (·.2):=by rfl):Nf X (e::es) (LY t u):=by
 intro pins s σ H vs us Q I r h
 obtain⟨v,vr,e1,h⟩:=h
 subst e1
 cases r with
 | cons r rr =>
  rw[hs]
  refine assignInOrder_cons (cg (h1 pins s σ H _ _ _ I r h) fun _ s1 ⟨σ1,H1,I1,q1⟩=>?_)
  exact h2 pins s1 σ1 H1 _ _ Q I1 rr q1
def NS(K:W.Frag)(n:Nat)(t:La):TG:=fun v σ H Q=>∃a xs,v=.ref a/\jQ K H a xs/\xs.length=n/\t xs σ H Q
theorem pQ{es:List Expr}{k:Nat}{t:La}{n:Nat}(hc:X.calm=true)(h:Nf X es t)
  (hn:(assignEach es X.env).length=n:=by rfl) (hst:(assignEach es X.env).findIdx? (·.1)=none:=by rfl):PG X (.Tuple es k pos) (NS X.K n t):=by
 intro pins s σ H v u Q I r hw
 obtain⟨a,xs,e1,hq,hl,hw⟩:=hw
 subst e1
 cases r
 obtain⟨its,rv,ht,hz⟩:=I.tuple hq
 refine assign_Tuple_tuple (I.ok.hd hc) ht (by simp[hn,<- hl,rv.length]) hst fun h' hx=>?_
 have I1:Inv X pins σ H { s with heap:=h' }:=I.kept (t':=s.toks) fun b o e=>hx b o (Nat.ne_of_lt (zZ e)) e
 exact h pins _ σ H xs _ Q I1 (by simpa using rv) hw
def fJ(to ti:TE)(t:KB):TG:=fun v σ H Q=>to σ H fun o H1=>ti σ H1 fun i H2=>t o i v H2 fun H3=>Q σ H3
theorem J6{o i:Expr}{to ti:TE}{t:KB}(ho:PE X o to)(hi:PE X i ti)(hs:Mm X t)
  (ha:∀v,assign (.Subscript o i pos) X.env v=(do
   let ov <- holding [v] (eval o X.env)
   let iv <- holding [v,ov] (eval i X.env)
   standAt pos
   holding [v,ov,iv] (setItem ov iv v)
   release [v,ov,iv] []):=by intro _;rfl):PG X (.Subscript o i pos) (fJ to ti t):=by
 intro pins s σ H v u Q I r h
 rw[ha]
 refine zW (wpAny_holding (cg (ho pins s σ H _ I h) fun ov s1 ⟨x,H1,I1,r1,q1⟩=>?_))
 refine zW (wpAny_holding (cg (hi pins s1 σ H1 _ I1 q1) fun iv s2 ⟨y,H2,I2,r2,q2⟩=>?_))
 refine zW (wpAny_standAt (zW (wpAny_holding (cg (hs pins s2 σ H2 x y v ov iv u _ I2 r1 r2 r q2) fun _ s3 ⟨H3,I3,q3⟩=>?_))))
 exact wpAny_release ⟨σ,H3,I3,q3⟩
def Dg(te:TE)(g:TG):TS:=fun D σ H=>te σ H fun x H1=>g x σ H1 D.nx
theorem Lg{tg e:Expr}{te:TE}{g:TG}(he:PE X e te)(hg:PG X tg g)(hs:swapsWithSole [tg] e pos.line X.env=pure false:=by rfl)(hw:swappedStores [tg] e X.env=pure none:=by rfl)
  (h1:(assignEach [tg] X.env).map (·.2)=[assign tg X.env]:=by rfl):PS X (.Assign [tg] e pos) (Dg te g):=by
 intro pins s σ H D I h
 refine wpAny_Assign_stores (cg (he pins s σ H _ I h) fun v s1 ⟨x,H1,I1,r1,q1⟩=>?_) hs hw
 rw[h1]
 exact cg (hg pins s1 σ H1 x v _ I1 r1 q1) fun _ s2 q=>q
theorem CH{i:Nat}{x:Str}{e:Expr}{te:TE}{pos':Pos}(hN:X.N.Nodup)(hi:X.N[i]?=some x)(hx:Loc X.env.scope x)(he:PE X e te)(hs:swapsWith e (some (.Name x pos')) pos.line X.env=pure false:=by rfl)(hf:X.fn x=true\/X.env.scope.names.lookup x=some .local:=by first|exact .inl rfl|exact .inr rfl|assumption) :
  PS X (.Assign [.Name x pos'] e pos) (Dg te (wa i)):=by
 intro pins s σ H D I h
 refine wpAny_Assign_Name (cg (he pins s σ H _ I h) fun v s1 ⟨y,H1,I1,r1,q1⟩=>?_) hs
 exact vJ I1 hN hi hx r1 (fun s2 I2=>⟨_,H1,I2,q1⟩) hf
end
section
variable {X:Cx}{pos:Pos}
def Kq(c:TT)(tb:TS):TS:=fun D σ H=>∃W:Nat->St->Hp->Prop,(∃m,W m σ H)/\∀m σ H,W m σ H ->
 c σ H fun b H1=>if b=true then ∃N:St->Hp->Prop,(∀σ' H',N σ' H'->∃m',m' < m/\W m' σ' H')/\tb { D with nx:=N,ct:=N,bk:=D.nx } σ H1 else D.nx σ H1
theorem Er{c:Expr}{body:List Stmt}{tc:TT}{tb:TS}(hp:PassesOwn (model X.prog X.w) X.A X.env X.xe)(hc:PT X c tc)(hb:xW X body tb):PS X (.While c body [] pos) (Kq tc tb):=by
 intro pins s σ H D I h
 obtain⟨W,⟨m0,w0⟩,turn⟩:=h
 refine wpAny_While (codeAny_whileLoop (fun n s'=>∃σ' H',Inv X pins σ' H' s'/\W n σ' H') ?_ m0 ⟨σ,H,I,w0⟩)
 rintro n s1 ⟨σ1,H1,I1,w1⟩
 refine wpAny_passesOwn hp (cg (hc pins s1 σ1 H1 _ I1 (turn n σ1 H1 w1)) fun b s2 ⟨H2,I2,q2⟩=>?_)
 cases b with
 | true =>
  obtain⟨N,hN,q2⟩:=q2
  rw[if_pos rfl]
  refine wpAny_passesOwn hp (cg (hb pins s2 σ1 H2 _ I2 q2) fun f s3 q3=>?_)
  cases f with
  | next =>
   obtain⟨σ3,H3,I3,n3⟩:=q3
   obtain⟨m',hm,w3⟩:=hN σ3 H3 n3
   exact⟨m',hm,σ3,H3,I3,w3⟩
  | cont =>
   obtain⟨σ3,H3,I3,n3⟩:=q3
   obtain⟨m',hm,w3⟩:=hN σ3 H3 n3
   exact⟨m',hm,σ3,H3,I3,w3⟩
  | brk=>exact q3
  | ret v=>exact q3
 | false =>
  rw[if_neg Bool.false_ne_true]
  exact wpAny_execs_nil ⟨σ1,H2,I2,q2⟩
end
structure It where
 go:Nat->Hp->Prop
 yld:Nat->Hp->V->Hp->Prop
 stop:Nat->Hp->Prop
noncomputable def cE(X:Cx)(pins:List (Addr×Obj))(H:Hp)(b:Addr):Prop :=
 H b=none/\b≠X.env.locals/\b∉X.fs/\(b∈X.ex\/X.s₀.heap.objs.size<=b)/\(∀x c,X.env.cells.lookup x=some c->c≠b)/\∀p∈X.pn++pins,p.1≠b
theorem Inv.fpOk{X:Cx}{pins:List (Addr×Obj)}{σ:St}{H H':Hp}{s:Shared}{b:Addr}(I:Inv X pins σ H s)(hb:s.heap.objs.size<=b)(hn:H' b=none):cE X pins H' b:=by
 refine⟨hn,Nat.ne_of_gt (zP I.lt hb),I.nofs hb,.inr (yE I.sz hb),fun x c e z=>?_,fun p hp z=>?_⟩
 ·obtain⟨v,q⟩:=I.cell x c e
  exact absurd (zP q.lt (by rw[z];exact hb)) (Nat.lt_irrefl _)
 ·exact absurd (zP (zZ (I.pin p hp).1) (by rw[z];exact hb)) (Nat.lt_irrefl _)
structure Turn(P:Program)(w:World)(K:W.Frag)(tg:Expr)(J:It)(fp:List Addr)(it:Addr)(tn:Nat->Heap->Prop):Prop where
 mem:it∈fp
 obj:∀i h,tn i h->∀b∈fp,∃o,h.get? b=some o/\∀v,o.data≠.cell v
 keep:∀i h h',tn i h->(∀b∈fp,∀o,h.get? b=some o->h'.get? b=some o)->tn i h'
 item:∀ (X:Cx),X.prog=P->X.w=w->X.K=K->X.calm=true->∀ (i:Nat) (pins:List (Addr×Obj)) (s:Shared) (σ:St) (H:Hp) (E:Value->Shared->Prop),Inv X pins σ H s->(∀b∈fp,cE X pins H b)->tn i s.heap->J.go i H ->
  wpAny (model P w) X.A (pyNext (.ref it)) (fun r s1=>∃u,r=some u /\
   wpAny (model P w) X.A (letOwnedTupleGo tg (.ref it) u) (fun _ s2=>∃x H',Inv X pins σ H' s2/\RelV x u/\J.yld i H x H'/\tn (i+1) s2.heap/\∀b∈fp,H' b=none) E s1) E s
 done:∀ (X:Cx),X.prog=P->X.w=w->X.K=K->X.calm=true->∀ (i:Nat) (pins:List (Addr×Obj)) (s:Shared) (σ:St) (H:Hp) (E:Value->Shared->Prop),Inv X pins σ H s->(∀b∈fp,cE X pins H b)->tn i s.heap->J.stop i H ->
  wpAny (model P w) X.A (pyNext (.ref it)) (fun r s1=>r=none/\Inv X pins σ H s1) E s
 self:∀ (A:Around) (i:Nat) (s:Shared) (Q:Value->Shared->Prop) (E:Value->Shared->Prop),tn i s.heap->Q (.ref it) s->wpAny (model P w) A (pyIter (.ref it)) Q E s
noncomputable abbrev TI:=St->Hp->(It->Hp->Prop)->Prop
noncomputable def Oi(X:Cx)(pins:List (Addr×Obj))(σ:St)(tg:Expr)(R:It->Hp->Prop)(itv:Value)(s2:Shared):Prop :=
 ∃ (it:Addr) (fp:List Addr) (tn:Nat->Heap->Prop) (J:It) (H':Hp),itv=.ref it/\Inv X pins σ H' s2/\Turn X.prog X.w X.K tg J fp it tn/\tn 0 s2.heap/\(∀b∈fp,cE X pins H' b)/\R J H'
noncomputable def PI(X:Cx)(tg iter:Expr)(wi:TI):Prop :=
 ∀ (pins:List (Addr×Obj)) (s:Shared) (σ:St) (H:Hp) (R:It->Hp->Prop),Inv X pins σ H s->wi σ H R ->
  wpAny (model X.prog X.w) X.A (eval iter X.env) (fun v s1=>wpAny (model X.prog X.w) X.A (pyIter v) (Oi X pins σ tg R) X.xe s1) X.xe s
theorem Fn{M:Model}{A:Around}{E:Value->Shared->Prop}{s:Shared}{tg:Expr}{it:Addr}{u:Value}{o:Obj}{n:String}{vs:Array Value}{Q:Unit->Shared->Prop}(ho:s.heap.get? it=some o)(hc:o.cls=.type n)(hd:o.data=.fields vs)
  (hn:["enumerate","zip","dict_itemiterator","dict_reverseitemiterator","odict_iterator","itertools.zip_longest","itertools.pairwise"].contains n=false) (hQ:Q () s):wpAny M A (letOwnedTupleGo tg (.ref it) u) Q E s:=by
 unfold letOwnedTupleGo
 cases tg<;>first
  | exact zX hQ
  | (cases u<;>first
    | exact zX hQ
    | (refine zW (wpAny_load ho ?_)
       rw[hc,hd]
       show wpAny M A (if (["enumerate","zip","dict_itemiterator","dict_reverseitemiterator","odict_iterator","itertools.zip_longest","itertools.pairwise"].contains n&&vs[0]? == some (rawInt _))=true then _ else _) Q E s
       rw[if_neg (by intro h;rw[hn,Bool.false_and] at h;cases h)]
       exact zX hQ))
noncomputable def NP(K:W.Frag)(a:Addr):It :=
 ⟨fun i H=>∃xs x,iJ K H a xs/\xs[i]?=some x,fun i H x H'=>H'=H/\∀xs,iJ K H a xs->xs[i]?=some x,fun i H=>∃xs,iJ K H a xs/\xs.length<=i⟩
noncomputable def NA(K:W.Frag)(a:Addr):It :=
 ⟨fun i H=>∃xs x,jQ K H a xs/\xs[i]?=some x,fun i H x H'=>H'=H/\∀xs,jQ K H a xs->xs[i]?=some x,fun i H=>∃xs,jQ K H a xs/\xs.length<=i⟩
noncomputable def Nc(lo:Int)(n:Nat):It:=⟨fun i _=>i < n,fun i H x H'=>H'=H/\x=.int (lo+i),fun i _=>n<=i⟩
theorem BF{P:Program}{w:World}{K:W.Frag}{tg:Expr}(a it:Addr):Turn P w K tg (NP K a) [it] it (fun i h=>h.IsListIter it a i) where
 mem:=by simp
 obj:=fun i h st b hb=>by
  have e:b=it:=by simpa using hb
  subst e
  obtain⟨o,e,c,d⟩:=st
  exact⟨o,e,fun v z=>by rw[d] at z;cases z⟩
 keep:=fun i h h' st k=>st.at fun o e=>k it (by simp) o e
 item:=by
  intro X hP hw hK hc i pins s σ H E I hf st hg
  subst hP hw hK
  obtain⟨xs,x,hq,hx⟩:=hg
  obtain⟨its,rv,p,hz⟩:=I.list hq
  obtain⟨u,hu,ru⟩:=rv.get hx
  obtain⟨f0,f1,f2,f3,f4,f5⟩:=hf it (by simp)
  refine wpAny_pyNext_list_item st p.isList (x:=u) (by simpa using hu) fun h' st' sb=>?_
  have I1:Inv X pins σ H { s with heap:=h' }:=I.turned (t':=s.toks) (fun b o hb e=>(sb.2 b hb).trans e) f0 f1 f3 f4 f5
  obtain⟨o,e,c,d⟩:=id st'
  exact⟨u,rfl,Fn (s:={ s with heap:=h' }) e c d (by decide) ⟨x,H,I1,ru,⟨rfl,fun ys hy=>by rw[I.list_inj hy hq];exact hx⟩,st',fun b hb=>(hf b hb).1⟩⟩
 done:=by
  intro X hP hw hK hc i pins s σ H E I hf st hg
  subst hP hw hK
  obtain⟨xs,hq,hx⟩:=hg
  obtain⟨its,rv,p,hz⟩:=I.list hq
  obtain⟨f0,f1,f2,f3,f4,f5⟩:=hf it (by simp)
  have hl:=rv.length
  exact wpAny_pyNext_list_end (I.ok.hd hc) st p.isList (by simp;omega) fun h' eb=>⟨rfl,I.turned (t':=s.toks) (fun b o hb e=>eb b o hb e) f0 f1 f3 f4 f5⟩
 self:=fun _ _ _ _ _ st h=>wpAny_pyIter_listiter st h
theorem y4{P:Program}{w:World}{K:W.Frag}{tg:Expr}(a it:Addr):Turn P w K tg (NA K a) [it] it (fun i h=>h.IsTupleIter it a i) where
 mem:=by simp
 obj:=fun i h st b hb=>by
  have e:b=it:=by simpa using hb
  subst e
  obtain⟨o,e,c,d⟩:=st
  exact⟨o,e,fun v z=>by rw[d] at z;cases z⟩
 keep:=fun i h h' st k=>st.at fun o e=>k it (by simp) o e
 item:=by
  intro X hP hw hK hc i pins s σ H E I hf st hg
  subst hP hw hK
  obtain⟨xs,x,hq,hx⟩:=hg
  obtain⟨its,rv,p,hz⟩:=I.tuple hq
  obtain⟨u,hu,ru⟩:=rv.get hx
  obtain⟨f0,f1,f2,f3,f4,f5⟩:=hf it (by simp)
  refine wpAny_pyNext_tuple_item st (show s.heap.IsTuple a its.toArray from p) (x:=u) (by simpa using hu) fun h' st' sb=>?_
  have I1:Inv X pins σ H { s with heap:=h' }:=I.turned (t':=s.toks) (fun b o hb e=>(sb.2 b hb).trans e) f0 f1 f3 f4 f5
  obtain⟨o,e,c,d⟩:=id st'
  exact⟨u,rfl,Fn (s:={ s with heap:=h' }) e c d (by decide) ⟨x,H,I1,ru,⟨rfl,fun ys hy=>by rw[I.tuple_inj hy hq];exact hx⟩,st',fun b hb=>(hf b hb).1⟩⟩
 done:=by
  intro X hP hw hK hc i pins s σ H E I hf st hg
  subst hP hw hK
  obtain⟨xs,hq,hx⟩:=hg
  obtain⟨its,rv,p,hz⟩:=I.tuple hq
  obtain⟨f0,f1,f2,f3,f4,f5⟩:=hf it (by simp)
  have hl:=rv.length
  exact wpAny_pyNext_tuple_end (I.ok.hd hc) st (show s.heap.IsTuple a its.toArray from p) (by simp;omega) fun h' eb=>⟨rfl,I.turned (t':=s.toks) (fun b o hb e=>eb b o hb e) f0 f1 f3 f4 f5⟩
 self:=fun _ _ _ _ _ st h=>wpAny_pyIter_tupleiter st h
theorem y3{P:Program}{w:World}{K:W.Frag}{tg:Expr}(it:Addr)(lo:Int)(n:Nat):Turn P w K tg (Nc lo n) [it] it (fun i h=>IsRangeIter h it (lo+(i:Nat) * 1) ((n:Int) - (i:Nat)) 1) where
 mem:=by simp
 obj:=fun i h st b hb=>by
  have e:b=it:=by simpa using hb
  subst e
  exact⟨_,st,fun v z=>by
   have z':Data.fields _=Data.cell v:=z
   cases z'⟩
 keep:=fun i h h' st k=>k it (by simp) _ st
 item:=by
  intro X hP hw hK hc i pins s σ H E I hf st hg
  subst hP hw hK
  obtain⟨f0,f1,f2,f3,f4,f5⟩:=hf it (by simp)
  have W:=Walks.range (prog:=X.prog) (w:=X.w) (I.ok.hd hc) it lo 1 n
  refine W.item i s _ _ hg st fun v h' tk hv st' kk=>?_
  obtain⟨t,rfl⟩:=hv
  have I1:Inv X pins σ H { s with heap:=h',toks:=tk }:=I.turned (fun b o hb e=>kk b o (by simpa using hb) e) f0 f1 f3 f4 f5
  refine⟨_,rfl,Fn (s:={ s with heap:=h',toks:=tk }) (n:="range_iterator") st' rfl rfl (by decide) ⟨.int (lo+i),H,I1,⟨t,?_⟩,⟨rfl,rfl⟩,st',fun b hb=>(hf b hb).1⟩⟩
  rw[Int.mul_one]
 done:=by
  intro X hP hw hK hc i pins s σ H E I hf st hg
  subst hP hw hK
  obtain⟨f0,f1,f2,f3,f4,f5⟩:=hf it (by simp)
  exact wpAny_pyNext_range_end (I.ok.hd hc) st (by have:n<=i:=hg;omega) fun h' eb=>⟨rfl,I.turned (t':=s.toks) (fun b o hb e=>eb b o hb e) f0 f1 f3 f4 f5⟩
 self:=fun _ _ _ _ _ st h=>wpAny_pyIter_rangeiter st h
section
variable {X:Cx}{tg:Expr}
theorem EE{pins:List (Addr×Obj)}{σ:St}{H:Hp}{s:Shared}{R:It->Hp->Prop}{E:Value->Shared->Prop}{lo hi:Int}{t u v:Tok}{tk:Nat}(I:Inv X pins σ H s)(h1:-(2 ^ 62)<=lo)(h2:lo < 2 ^ 62)(h3:-(2 ^ 62)<=hi)(h4:hi < 2 ^ 62)
  (q:R (Nc lo (hi - lo).toNat) H):wpAny (model X.prog X.w) X.A (pyIter (.ref s.heap.objs.size)) (Oi X pins σ tg R) E { s with heap:=s.heap.push { cls:=.type "range",data:=.fields #[.int lo t,.int hi u,.int 1 v] },toks:=tk }:=by
 refine wpAny_pyIter_range (IsRange.new ..) (small_one h1 h2 h3 h4) ?_
 have I1:Inv X pins σ H { s with heap:=s.heap.push { cls:=.type "range",data:=.fields #[.int lo t,.int hi u,.int 1 v] },toks:=tk }:=I.kept fun b o e=>zV _ e
 refine⟨(s.heap.push { cls:=.type "range",data:=.fields #[.int lo t,.int hi u,.int 1 v] }).objs.size,[(s.heap.push { cls:=.type "range",data:=.fields #[.int lo t,.int hi u,.int 1 v] }).objs.size],_,_,H,rfl,
  I1.kept (t':=tk) fun b o e=>zV _ e,y3 _ lo (hi - lo).toNat,?_,fun b hb=>?_,q⟩
 ·have e1:lo+((0:Nat):Int) * 1=lo:=by simp
  have e2:(((hi - lo).toNat:Nat):Int) - ((0:Nat):Int)=Builtin.Range.rangeSize lo hi 1:=by rw[rangeSize_one];split<;>omega
  show IsRangeIter _ _ (lo+((0:Nat):Int) * 1) ((((hi - lo).toNat:Nat):Int) - ((0:Nat):Int)) 1
  rw[e1,e2]
  exact zY _ rfl
 ·have e:b=(s.heap.push { cls:=.type "range",data:=.fields #[.int lo t,.int hi u,.int 1 v] }).objs.size:=by simpa using hb
  subst e
  exact I1.fpOk (Nat.le_refl _) (I1.hok.fresh (Nat.le_refl _))
def Mv(ta:TA):TI:=fun σ H R=>ta σ H fun vs H1=>∃j:Int,vs=[.int j]/\-(2 ^ 62)<=j/\j < 2 ^ 62/\R (Nc 0 j.toNat) H1
theorem Cb{a:Expr}{ta:TA}{p pos:Pos}(hg:Gl X "range")(hm:X.mg "range"=none)(ha:PA X [a] ta)(hs:starEach [a] X.env=[(false,eval a X.env)]:=by rfl):PI X tg (.Call (.Name "range" p) [a] [] pos) (Mv ta):=by
 intro pins s σ H R I h
 refine Call_ (iS I hg hm boot_range (PyProof.Rows.callWith_type1 (cg (ha pos pins s σ H _ I h) fun us s1 ⟨vs,H1,I1,r1,q1⟩=>?_) hs rfl))
 obtain⟨j,e,q1,q2,q⟩:=q1
 subst e
 cases r1 with
 | cons r rr =>
  cases rr
  obtain⟨t,rfl⟩:=r
  exact call_range_1 (EE I1 (by omega) (by omega) q1 q2 (by simpa using q))
def NV(wi:TI)(g:TG)(tb:TS):TS:=fun D σ H=>wi σ H fun J H1=>∃W:Nat->Nat->St->Hp->Prop,(∃m,W 0 m σ H1)/\∀i m σ H,W i m σ H ->
 (J.stop i H/\D.nx σ H)\/(J.go i H/\∃N:St->Hp->Prop,(∀σ' H',N σ' H'->∃m',m' < m/\W (i+1) m' σ' H')/\∀x H',J.yld i H x H'->g x σ H' fun σ2 H2=>tb { D with nx:=N,ct:=N,bk:=D.nx } σ2 H2)
noncomputable def nh(fp:List Addr)(h:Heap):List (Addr×Obj):=fp.filterMap fun b=>(h.get? b).map fun o=>(b,o)
theorem dC{fp:List Addr}{h:Heap}{b:Addr}{o:Obj}(hb:b∈fp)(e:h.get? b=some o):(b,o)∈nh fp h:=List.mem_filterMap.mpr ⟨b,hb,by rw[e];rfl⟩
theorem BN{fp:List Addr}{h:Heap}{p:Addr×Obj}(hp:p∈nh fp h):p.1∈fp/\h.get? p.1=some p.2:=by
 obtain⟨b,hb,e⟩:=List.mem_filterMap.mp hp
 cases q:h.get? b with
 | none=>rw[q] at e;cases e
 | some o =>
  rw[q] at e
  have e':(b,o)=p:=Option.some.inj e
  subst e'
  exact⟨hb,q⟩
theorem Inv.pinned{pins:List (Addr×Obj)}{σ:St}{H:Hp}{s:Shared}{fp:List Addr}(I:Inv X pins σ H s)(hf:∀b∈fp,cE X pins H b)(ho:∀b∈fp,∃o,s.heap.get? b=some o/\∀v,o.data≠.cell v):Inv X (pins++nh fp s.heap) σ H s :=
 I.pins_of fun p hp=>(List.mem_append.mp hp).elim (fun z=>I.pin p (yF _ z)) fun z=>by
  obtain⟨hb,e⟩:=BN z
  obtain⟨f0,f1,f2,_⟩:=hf p.1 hb
  obtain⟨o,e',d⟩:=ho p.1 hb
  rw[e] at e';cases e'
  exact⟨e,f0,f1,f2,d⟩
theorem Inv.unpinned{pins pl:List (Addr×Obj)}{σ:St}{H:Hp}{s:Shared}(I:Inv X (pins++pl) σ H s):Inv X pins σ H s:=I.pins_of fun p hp=>I.pin p (yF _ (List.mem_append_left _ hp))
theorem KL{iter:Expr}{body:List Stmt}{wi:TI}{g:TG}{tb:TS}{pos:Pos}(hp:PassesOwn (model X.prog X.w) X.A X.env X.xe)(hc:X.calm=true)(hi:PI X tg iter wi)(hg:PG X tg g)(hb:xW X body tb)
  (hs:∀x,foldedSetIterable iter X.env x=pure x:=by intro _;rfl):PS X (.For tg iter body [] pos) (NV wi g tb):=by
 intro pins s σ H D I h
 refine wpAny_For (cg (hi pins s σ H _ I h) fun v s1 h1=>cg h1 fun itv s2 h2=>?_) hs
 obtain⟨it,fp,tn,J,H2,e,I2,T,st2,f2,W,⟨m0,w0⟩,turn⟩:=h2
 subst e
 have stat:∀ {H':Hp},(∀b∈fp,H' b=none)->∀b∈fp,cE X pins H' b:=fun hn b hb=>⟨hn b hb,(f2 b hb).2⟩
 refine codeAny_forLoop_any (fun n s'=>∃i σ' H',Inv X pins σ' H' s'/\tn i s'.heap/\(∀b∈fp,H' b=none)/\W i n σ' H') ?_ m0 ⟨0,σ,H2,I2,st2,fun b hb=>(f2 b hb).1,w0⟩
 rintro n s3 ⟨i,σ3,H3,I3,st3,fr3,w3⟩
 rcases turn i n σ3 H3 w3 with ⟨stop,qn⟩|⟨go,N,hN,step⟩
 ·refine wpAny_passesOwn hp (cg (T.done X rfl rfl rfl hc i pins s3 σ3 H3 X.xe I3 (stat fr3) st3 stop) fun r s4 ⟨hr,I4⟩=>?_)
  subst hr
  exact wpAny_execs_nil ⟨σ3,H3,I4,qn⟩
 ·refine wpAny_passesOwn hp (cg (T.item X rfl rfl rfl hc i pins s3 σ3 H3 X.xe I3 (stat fr3) st3 go) fun r s4 ⟨u,hr,h4⟩=>?_)
  subst hr
  refine wpAny_passesOwn hp (cg h4 fun _ s5 ⟨x,H5,I5,r5,y5,st5,fr5⟩=>?_)
  have I5':=I5.pinned (stat fr5) (T.obj _ _ st5)
  refine wpAny_passesOwn hp (cg (hg _ s5 σ3 H5 x u _ I5' r5 (step x H5 y5)) fun _ s6 ⟨σ6,H6,I6,q6⟩=>?_)
  refine wpAny_passesOwn hp (cg (hb _ s6 σ6 H6 _ I6 q6) fun f s7 q7=>?_)
  have again:∀ {σ7:St}{H7:Hp},Inv X (pins++nh fp s5.heap) σ7 H7 s7->N σ7 H7->∃m,m < n/\∃i σ' H',Inv X pins σ' H' s7/\tn i s7.heap/\(∀b∈fp,H' b=none)/\W i m σ' H':=fun {σ7 H7} I7 n7=>by
   obtain⟨m',hm,w7⟩:=hN σ7 H7 n7
   refine⟨m',hm,i+1,σ7,H7,I7.unpinned,T.keep _ _ _ st5 fun b hb o e=>(I7.pin (b,o) (yF _ (yF _ (dC hb e)))).1,fun b hb=>?_,w7⟩
   obtain⟨o,e,d⟩:=T.obj _ _ st5 b hb
   exact (I7.pin (b,o) (yF _ (yF _ (dC hb e)))).2.1
  cases f with
  | next=>obtain⟨σ7,H7,I7,n7⟩:=q7;exact again I7 n7
  | cont=>obtain⟨σ7,H7,I7,n7⟩:=q7;exact again I7 n7
  | brk=>obtain⟨σ7,H7,I7,q7⟩:=q7;exact⟨σ7,H7,I7.unpinned,q7⟩
  | ret v=>obtain⟨x7,σ7,H7,I7,r7,q7⟩:=q7;exact⟨x7,σ7,H7,I7.unpinned,r7,q7⟩
end
noncomputable abbrev R2:=V->V->Hp->VK->Prop
noncomputable def ij(X:Cx)(f:Value->Value->Sem Value)(r:R2):Prop :=
 ∀ (pins:List (Addr×Obj)) (s:Shared) (σ:St) (H:Hp) (x y:V) (v u:Value) (Q:VK),Inv X pins σ H s->RelV x v->RelV y u->r x y H Q ->
  wpAny (model X.prog X.w) X.A (f v u) (EP X pins σ Q) X.xe s
noncomputable def Nm(X:Cx)(f:Value->Sem Value)(r:V->Hp->VK->Prop):Prop :=
 ∀ (pins:List (Addr×Obj)) (s:Shared) (σ:St) (H:Hp) (x:V) (v:Value) (Q:VK),Inv X pins σ H s->RelV x v->r x H Q ->
  wpAny (model X.prog X.w) X.A (f v) (EP X pins σ Q) X.xe s
noncomputable def d6(X:Cx)(f:Value)(r:List V->Hp->VK->Prop):Prop :=
 ∀ (pins:List (Addr×Obj)) (s:Shared) (σ:St) (H:Hp) (xs:List V) (us:List Value) (Q:VK),Inv X pins σ H s->aF xs us->r xs H Q ->
  wpAny (model X.prog X.w) X.A (call f us) (EP X pins σ Q) X.xe s
def Mn(r:R2)(ta tb:TE):TE:=fun σ H Q=>ta σ H fun x H1=>tb σ H1 fun y H2=>r x y H2 Q
def OM(r:V->Hp->VK->Prop)(ta:TE):TE:=fun σ H Q=>ta σ H fun x H1=>r x H1 Q
def rI(C:Int->Int->Prop)(g:Int->Int->V):R2:=fun x y H Q=>∃i j,x=.int i/\y=.int j/\C i j/\Q (g i j) H
def FJ(g:Int->Int->V):R2:=fun x y H Q=>∃i j,x=.int i/\y=.int j/\Q (g i j) H
noncomputable def rU(g:Int->V):V->Hp->VK->Prop:=fun x H Q=>∃i,x=.int i/\Q (g i) H
section
variable {X:Cx}{a b c:Expr}{ta tb tc:TE}{pos:Pos}
theorem Jy(ha:PE X a ta)(hb:PE X b tb){pins:List (Addr×Obj)}{s:Shared}{σ:St}{H:Hp}{R:V->V->Hp->Prop}(I:Inv X pins σ H s)
  (h:ta σ H fun x H1=>tb σ H1 fun y H2=>R x y H2) {Q:Value->Shared->Prop}{f:Value->Value->Sem Value}
  (hf:∀v u s2 x y H2,Inv X pins σ H2 s2->RelV x v->RelV y u->R x y H2->wpAny (model X.prog X.w) X.A (f v u) Q X.xe s2) :
  wpAny (model X.prog X.w) X.A (eval a X.env) (fun v s₁=>wpAny (model X.prog X.w) X.A (eval b X.env) (fun u s₂=>wpAny (model X.prog X.w) X.A (f v u) Q X.xe s₂) X.xe s₁) X.xe s:=by
 refine cg (ha pins s σ H _ I h) fun v s1 ⟨x,H1,I1,r1,q1⟩=>?_
 refine cg (hb pins s1 σ H1 _ I1 q1) fun u s2 ⟨y,H2,I2,r2,q2⟩=>?_
 exact hf v u s2 x y H2 I2 r1 r2 q2
theorem FA{op:Operator}{r:R2}(ho:ij X (binaryOp op) r)(ha:PE X a ta)(hb:PE X b tb):PE X (.BinOp a op b pos) (Mn r ta tb):=by
 intro pins s σ H Q I h
 exact wpAny_BinOp (Jy ha hb I h fun v u s2 x y H2 I2 rx ry q=>ho pins s2 σ H2 x y v u Q I2 rx ry q)
theorem DJ{op:UnaryOp}{r:V->Hp->VK->Prop}(ho:Nm X (unaryOp op) r)(ha:PE X a ta):PE X (.UnaryOp op a pos) (OM r ta):=by
 intro pins s σ H Q I h
 exact UnaryOp_ (cg (ha pins s σ H _ I h) fun v s1 ⟨x,H1,I1,r1,q1⟩=>ho pins s1 σ H1 x v Q I1 r1 q1)
theorem N1{f:Value->Value->Sem Value}{C:Int->Int->Prop}{g:Int->Int->Int}
  (rule:∀ (i j:Int) (t u:Tok) (s:Shared) (Q:Value->Shared->Prop) (E:Value->Shared->Prop),C i j->Q (.int (g i j) s.toks) { s with toks:=s.toks+1 }->wpAny (model X.prog X.w) X.A (f (.int i t) (.int j u)) Q E s) :
  ij X f (rI C fun i j=>.int (g i j)):=by
 intro pins s σ H x y v u Q I rx ry h
 obtain⟨i,j,rfl,rfl,hc,q⟩:=h
 obtain⟨t,rfl⟩:=rx
 obtain⟨t',rfl⟩:=ry
 exact rule i j t t' s _ _ hc ⟨.int (g i j),H,I.tok _,⟨_,rfl⟩,q⟩
theorem LZ{f:Value->Value->Sem Value}{g:Int->Int->Int}
  (rule:∀ (i j:Int) (t u:Tok) (s:Shared) (Q:Value->Shared->Prop) (E:Value->Shared->Prop),Q (.int (g i j) s.toks) { s with toks:=s.toks+1 }->wpAny (model X.prog X.w) X.A (f (.int i t) (.int j u)) Q E s) :
  ij X f (FJ fun i j=>.int (g i j)):=by
 intro pins s σ H x y v u Q I rx ry h
 obtain⟨i,j,rfl,rfl,q⟩:=h
 obtain⟨t,rfl⟩:=rx
 obtain⟨t',rfl⟩:=ry
 exact rule i j t t' s _ _ ⟨.int (g i j),H,I.tok _,⟨_,rfl⟩,q⟩
theorem G1{f:Value->Value->Sem Value}{g:Int->Int->Bool}
  (rule:∀ (i j:Int) (t u:Tok) (s:Shared) (Q:Value->Shared->Prop) (E:Value->Shared->Prop),Q (.bool (g i j)) s->wpAny (model X.prog X.w) X.A (f (.int i t) (.int j u)) Q E s) :
  ij X f (FJ fun i j=>.bl (g i j)):=by
 intro pins s σ H x y v u Q I rx ry h
 obtain⟨i,j,rfl,rfl,q⟩:=h
 obtain⟨t,rfl⟩:=rx
 obtain⟨t',rfl⟩:=ry
 exact rule i j t t' s _ _ ⟨.bl (g i j),H,I,rfl,q⟩
def Gn(i j:Int):Prop:=0 < j/\j < 1073741824
def rA(i j:Int):Prop:=(-(2 ^ 64) < i/\i < 2 ^ 64)\/(-(2 ^ 64) < j/\j < 2 ^ 64)
theorem rA.ok{i j:Int}(h:rA i j):IntMulOk i j:=by
 rcases h with ⟨h1,h2⟩|⟨h1,h2⟩
 ·exact .of_left (intBits_le_64 h1 h2)
 ·exact .of_right (intBits_le_64 h1 h2)
theorem Li:ij X (binaryOp .Add) (FJ fun i j=>.int (i+j)):=LZ fun _ _ _ _ _ _ _ q=>add_int q
theorem Lf:ij X (binaryOp .Sub) (FJ fun i j=>.int (i - j)):=LZ fun _ _ _ _ _ _ _ q=>sub_int q
theorem JX:ij X (binaryOp .Mult) (rI rA fun i j=>.int (i * j)):=N1 fun _ _ _ _ _ _ _ hc q=>mul_int q hc.ok
theorem Hl:ij X (binaryOp .FloorDiv) (rI Gn fun i j=>.int (i / j)):=N1 fun i j _ _ _ _ _ hc q=>by
 have h1:(0:Int) < j:=hc.1
 have h2:j < 1073741824:=hc.2
 exact floordiv_int (by omega) (by rw[Int.fdiv_eq_ediv_of_nonneg i (by omega)];exact q) (.inl (PyProof.noPylong_small (by omega)))
theorem KD:ij X (binaryOp .Mod) (rI (fun _ j=>0 < j) fun i j=>.int (i % j)):=N1 fun i j _ _ _ _ _ hc q=>by
 have h1:(0:Int) < j:=hc
 exact mod_int' (by omega) (by rw[Int.fmod_eq_emod_of_nonneg i (by omega)];exact q)
theorem Oz{f:Value->Sem Value}{g:Int->Int}
  (rule:∀ (i:Int) (t:Tok) (s:Shared) (Q:Value->Shared->Prop) (E:Value->Shared->Prop),Q (.int (g i) s.toks) { s with toks:=s.toks+1 }->wpAny (model X.prog X.w) X.A (f (.int i t)) Q E s) :
  Nm X f (rU fun i=>.int (g i)):=by
 intro pins s σ H x v Q I rx h
 obtain⟨i,rfl,q⟩:=h
 obtain⟨t,rfl⟩:=rx
 exact rule i t s _ _ ⟨.int (g i),H,I.tok _,⟨_,rfl⟩,q⟩
theorem xB:Nm X (unaryOp .USub) (rU fun i=>.int (-i)):=Oz fun _ _ _ _ _ q=>neg_int q
end
section
variable {X:Cx}{a b c:Expr}{ta tb tc:TE}{pos:Pos}
theorem DZ{pins:List (Addr×Obj)}{σ:St}{H:Hp}{s:Shared}{Q:VK}{k k':Bool}(I:Inv X pins σ H s)(q:Q (.bl k) H)(e:k=k'):EP X pins σ Q (.bool k') s:=by
 subst e
 exact⟨.bl k,H,I,rfl,q⟩
theorem Ef:ij X (compareOp .Lt) (FJ fun i j=>.bl (decide (i < j))):=G1 fun _ _ _ _ _ _ _ q=>lt_int q
theorem EU:ij X (compareOp .LtE) (FJ fun i j=>.bl (decide (i<=j))):=G1 fun _ _ _ _ _ _ _ q=>le_int q
theorem ID:ij X (compareOp .Gt) (FJ fun i j=>.bl (decide (j < i))):=G1 fun _ _ _ _ _ _ _ q=>gt_int q
theorem IL:ij X (compareOp .GtE) (FJ fun i j=>.bl (decide (j<=i))):=G1 fun _ _ _ _ _ _ _ q=>ge_int q
theorem EZ:ij X (compareOp .Is) (fun x y H Q=>y=.non/\Q (.bl (decide (x=.non))) H):=by
 intro pins s σ H x y v u Q I rx ry h
 obtain⟨rfl,q⟩:=h
 cases ry
 refine is_none_gen (DZ I q ?_)
 cases x<;>first
  | (cases rx;rfl)
  | (obtain⟨t,rfl⟩:=rx;rfl)
theorem zx:ij X (compareOp .IsNot) (fun x y H Q=>y=.non/\Q (.bl (!decide (x=.non))) H):=by
 intro pins s σ H x y v u Q I rx ry h
 obtain⟨rfl,q⟩:=h
 cases ry
 refine isnot_none_gen (DZ I q ?_)
 cases x<;>first
  | (cases rx;rfl)
  | (obtain⟨t,rfl⟩:=rx;rfl)
theorem ij.or{f:Value->Value->Sem Value}{r r':R2}(h:ij X f r)(h':ij X f r'):ij X f (fun x y H Q=>r x y H Q\/r' x y H Q):=by
 intro pins s σ H x y v u Q I rx ry q
 rcases q with q|q
 ·exact h pins s σ H x y v u Q I rx ry q
 ·exact h' pins s σ H x y v u Q I rx ry q
theorem di(b:Expr){op:CmpOp}(h:op≠.In:=by decide)(h2:op≠.NotIn:=by decide):behindInMarks op b=false:=by
 have e1:(op == CmpOp.In)=false:=by cases op<;>first|rfl|exact absurd rfl h
 have e2:(op == CmpOp.NotIn)=false:=by cases op<;>first|rfl|exact absurd rfl h2
 cases b<;>simp[behindInMarks,e1,e2]
theorem HK{op:CmpOp}{r:R2}(ho:ij X (compareOp op) r)(ha:PE X a ta)(hb:PE X b tb)(hm:behindInMarks op b=false):PE X (.Compare a [op] [b] pos) (Mn r ta tb):=by
 intro pins s σ H Q I h
 exact wpAny_Compare1 (Jy ha hb I h fun v u s2 x y H2 I2 rx ry q=>ho pins s2 σ H2 x y v u Q I2 rx ry q) hm
def Jg(t:TE):TT:=fun σ H Q=>t σ H fun x H'=>∃k,x=.bl k/\Q k H'
theorem Io{op:CmpOp}{r:R2}(ho:ij X (compareOp op) r)(ha:PE X a ta)(hb:PE X b tb)(hm:behindInMarks op b=false):PT X (.Compare a [op] [b] pos) (Jg (Mn r ta tb)):=by
 intro pins s σ H Q I h
 refine wpAny_isTrue_Compare1 (cg (ha pins s σ H _ I h) fun v s1 ⟨x,H1,I1,r1,q1⟩=>cg (hb pins s1 σ H1 _ I1 q1) fun u s2 ⟨y,H2,I2,r2,q2⟩ =>
  cg (ho pins s2 σ H2 x y v u _ I2 r1 r2 q2) fun c s3 ⟨z,H3,I3,r3,k,e,q3⟩=>?_) hm
 subst e
 cases r3
 exact wpAny_truthy_bool ⟨H3,I3,q3⟩
def xJ(r r':R2)(ta tb tc:TE):TE:=fun σ H Q=>ta σ H fun x H1=>tb σ H1 fun y H2=>r x y H2 fun z H3=>∃k,z=.bl k /\
 (if k=true then tc σ H3 fun w' H4=>r' y w' H4 Q else Q (.bl false) H3)
theorem DK{op op':CmpOp}{r r':R2}(ho:ij X (compareOp op) r)(ho':ij X (compareOp op') r')(ha:PE X a ta)(hb:PE X b tb)(hc:PE X c tc)
  (hm:lastMarks [op,op'] [b,c]=false:=by with_unfolding_all rfl):PE X (.Compare a [op,op'] [b,c] pos) (xJ r r' ta tb tc):=by
 intro pins s σ H Q I h
 refine Compare_chain (cg (ha pins s σ H _ I h) fun v s1 ⟨x,H1,I1,r1,q1⟩=>chain_link (cg (hb pins s1 σ H1 _ I1 q1) fun u s2 ⟨y,H2,I2,r2,q2⟩ =>
  cg (ho pins s2 σ H2 x y v u _ I2 r1 r2 q2) fun d s3 ⟨z,H3,I3,r3,k,e,q3⟩=>?_)) hm
 subst e
 cases r3
 refine wpAny_truthy_bool ?_
 cases k with
 | false=>exact ite_ff ⟨.bl false,H3,I3,rfl,q3⟩
 | true=>exact ite_tt (chain_last (cg (hc pins s3 σ H3 _ I3 q3) fun w' s4 ⟨z',H4,I4,r4,q4⟩=>ho' pins s4 σ H4 y z' u w' Q I4 r2 r4 q4))
theorem DV{op op':CmpOp}{r r':R2}(ho:ij X (compareOp op) r)(ho':ij X (compareOp op') r')(ha:PE X a ta)(hb:PE X b tb)(hc:PE X c tc)
  (hm:lastMarks [op,op'] [b,c]=false:=by with_unfolding_all rfl):PT X (.Compare a [op,op'] [b,c] pos) (Jg (xJ r r' ta tb tc)):=by
 intro pins s σ H Q I h
 refine isTrue_chain (cg (ha pins s σ H _ I h) fun v s1 ⟨x,H1,I1,r1,q1⟩=>test_link (cg (hb pins s1 σ H1 _ I1 q1) fun u s2 ⟨y,H2,I2,r2,q2⟩ =>
  cg (ho pins s2 σ H2 x y v u _ I2 r1 r2 q2) fun d s3 ⟨z,H3,I3,r3,k,e,q3⟩=>?_)) hm
 subst e
 cases r3
 refine wpAny_truthy_bool ?_
 cases k with
 | false =>
  obtain⟨k',e',q'⟩:=q3
  cases e'
  exact ite_ff ⟨H3,I3,q'⟩
 | true =>
  refine ite_tt (test_last (cg (hc pins s3 σ H3 _ I3 q3) fun w' s4 ⟨z',H4,I4,r4,q4⟩=>cg (ho' pins s4 σ H4 y z' u w' _ I4 r2 r4 q4) fun d' s5 ⟨z2,H5,I5,r5,k2,e2,q5⟩=>?_))
  subst e2
  cases r5
  exact wpAny_truthy_bool ⟨H5,I5,q5⟩
theorem pU:(sizeLine:Nat) < 2 ^ 63:=by rw[sizeLine_eq];decide
theorem vals1{x:V}{us:List Value}(r:aF [x] us):∃u,us=[u]/\RelV x u:=by
 cases r with
 | cons r1 r2=>cases r2;exact⟨_,rfl,r1⟩
theorem vals2{x y:V}{us:List Value}(r:aF [x,y] us):∃u w',us=[u,w']/\RelV x u/\RelV y w':=by
 cases r with
 | cons r1 r2 =>
  cases r2 with
  | cons r3 r4=>cases r4;exact⟨_,_,rfl,r1,r3⟩
theorem Bm:d6 X (.type "int") (fun xs H Q=>(∃i,xs=[.int i]/\Q (.int i) H)\/∃k,xs=[.bl k]/\Q (.int (if k then 1 else 0)) H):=by
 intro pins s σ H xs us Q I r h
 rcases h with ⟨i,rfl,q⟩|⟨k,rfl,q⟩
 ·obtain⟨u,rfl,t,rfl⟩:=vals1 r
  exact call_int_int ⟨.int i,H,I,⟨_,rfl⟩,q⟩
 ·obtain⟨u,rfl,r1⟩:=vals1 r
  cases r1
  exact call_int_bool ⟨.int (if k then 1 else 0),H,I.tok _,⟨_,rfl⟩,q⟩
end
section
variable {prog:Program}{w:World}{A:Around}{E:Value->Shared->Prop}{s:Shared}{K:W.Frag}{x dx C f:Addr}{mA:Str->Option Value}{name:Str}{v:Value}
end
section
variable {P:Program}{w:World}{H H':Hp}{h h':Heap}{a C dx:Addr}{fs fs':List (Str×V)}
end
section
variable {X:Cx}{pins:List (Addr×Obj)}{σ:St}{H:Hp}{s:Shared}{a C dx:Addr}{fs:List (Str×V)}{f:Str}{v:V}{A:Around}{E:Value->Shared->Prop}
end
section
variable {X:Cx}{o e value:Expr}{f:Str}{pos pos' tpos:Pos}{ta tv:TE}
end
section
variable {X:Cx}{pins:List (Addr×Obj)}{σ:St}{H:Hp}{s:Shared}{A:Around}{E:Value->Shared->Prop}{Q:Value->Shared->Prop}{c:Value}{b:Bool}
end
structure et(k:Nat)(A:Around):Prop where
 hd:A.handled=none
 dp:A.depth+3 * k+5 < recursionLimit
 un:A.units+16 * k+200 < cLine
theorem et.mono{j k:Nat}{A:Around}(r:et k A)(h:j<=k):et j A:=⟨r.hd,by have:=r.dp;omega,by have:=r.un;omega⟩
theorem et.deeper{k:Nat}{A:Around}(r:et (k+1) A)(env:Env):et k (A.deeper env) :=
 ⟨r.hd,by have:=r.dp;show A.depth+1+3 * k+5 < _;omega,by have:=r.un;show A.units+3+16 * k+200 < _;omega⟩
theorem et.in1{k:Nat}{A:Around}(r:et (k+1) A):et k A.in1 :=
 ⟨r.hd,by have:=r.dp;show A.depth+3 * k+5 < _;omega,by have:=r.un;show A.units+1+16 * k+200 < _;omega⟩
theorem et.depth{k:Nat}{A:Around}(r:et k A):A.depth < recursionLimit:=by have:=r.dp;omega
theorem et.units{k:Nat}{A:Around}(r:et k A):A.units+64 < cLine:=by have:=r.un;omega
theorem et.units0{k:Nat}{A:Around}(r:et k A):A.units < cLine:=by have:=r.un;omega
def Oa:TA:=fun _ H Q=>Q [] H
def MU(ta:TE)(tr:TA):TA:=fun σ H Q=>ta σ H fun x H1=>tr σ H1 fun xs H2=>Q (x::xs) H2
section
variable {X:Cx}{e:Expr}{es:List Expr}{te:TE}{t:TA}{pos:Pos}
theorem hJ:PA X [] Oa:=fun _ _ _ _ H Q I h=>Calls.spliced_nil ⟨[],H,I,.nil,h⟩
theorem dw(ha:PE X e te)(hr:PA X es t)(hs:starEach (e::es) X.env=(false,eval e X.env)::starEach es X.env:=by rfl):PA X (e::es) (MU te t):=by
 intro pos pins s σ H Q I h
 rw[hs]
 show wpAny _ _ (spliced ((false,eval e X.env)::backTo pos (starEach es X.env))) _ _ s
 refine Calls.spliced_cons (cg (ha pins s σ H _ I h) fun u s1 ⟨x,H1,I1,r1,q1⟩=>?_)
 exact cg (hr pos pins s1 σ H1 _ I1 q1) fun us s2 ⟨xs,H2,I2,r2,q2⟩=>⟨x::xs,H2,I2,.cons r1 r2,q2⟩
def NZ(t:TA):TE:=fun σ H Q=>t σ H fun xs H1=>xs.length<=sizeLine/\∀p,H1 p=none->Q (.ref p) (upd H1 p (.tup xs))
def NQ(t:TA):TE:=fun σ H Q=>t σ H fun xs H1=>xs.length<=sizeLine/\∀p,H1 p=none->Q (.ref p) (upd H1 p (.lst xs))
theorem JS{x1}(h:PA X es t):PE X (.Tuple es x1 pos) (NZ t):=by
 intro pins s σ H Q I hq
 refine wpAny_Tuple_spliced (cg (h pos pins s σ H _ I hq) fun us s1 ⟨xs,H1,I1,r,z,q⟩=>⟨by rw[<- r.length];exact z,?_⟩)
 have hf:H1 s1.heap.objs.size=none:=I1.hok.fresh (Nat.le_refl _)
 refine⟨.ref s1.heap.objs.size,upd H1 s1.heap.objs.size (.tup xs),I1.laid (t':=s1.toks) (fun b u e=>zV _ e) (Nat.le_refl _) ?_,rfl,q _ hf⟩
 exact⟨z,us,r,⟨_,zY _ rfl,rfl,_,rfl⟩,_,zY _ rfl,rfl⟩
theorem K2(h:PA X es t):PE X (.List es pos) (NQ t):=by
 intro pins s σ H Q I hq
 refine wpAny_List_spliced (cg (h pos pins s σ H _ I hq) fun us s1 ⟨xs,H1,I1,r,z,q⟩=>⟨by rw[<- r.length];exact z,?_⟩)
 have hf:H1 s1.heap.objs.size=none:=I1.hok.fresh (Nat.le_refl _)
 refine⟨.ref s1.heap.objs.size,upd H1 s1.heap.objs.size (.lst xs),I1.laid (t':=s1.toks) (fun b u e=>zV _ e) (Nat.le_refl _) ?_,rfl,q _ hf⟩
 exact⟨z,us,0,r,zY _ rfl⟩
end
noncomputable abbrev Sp:=List V->Hp->VK->XK->Prop
noncomputable abbrev Cy:=List Env->Hp->Shared->XK->Value->Shared->Prop
structure GD(P:Program)(w:World)(K:W.Frag)(mg:Str->Option Value)(base:Heap)(A:Around)(outer:List Env)(s:Shared)(H:Hp):Prop where
 frames:A.frames=some outer
 mod:Mod K mg base
 bs:∀b o,base.get? b=some o->s.heap.get? b=some o/\H b=none
 bsz:base.objs.size<=s.heap.objs.size
 funs:s.heap.FunFrames base outer
 frf:∀b∈CU outer,H b=none
 hok:oF P w H s.heap
 bare:AllBare s.gens
noncomputable def CE(outer:List Env)(P:Program)(w:World)(H:Hp)(s:Shared)(Q:VK)(u:Value)(s':Shared):Prop :=
 ∃v H',s'.os=s.os/\AllBare s'.gens/\Un (CU outer) [] H H' s.heap s'.heap/\oF P w H' s'.heap/\RelV v u/\Q v H'
noncomputable def CR(CX:Cy)(outer:List Env)(P:Program)(w:World)(H:Hp)(s:Shared)(Q:VK)(E:XK)(r:Result)(s':Shared):Prop :=
 match r with
 | .ok (.ret u)=>CE outer P w H s Q u s'
 | .ok _=>False
 | .error e=>CX outer H s E e s'
structure pk(P:Program)(w:World)(K:W.Frag)(mg:Str->Option Value)(base:Heap)(CX:Cy)(k:Nat)(f:Addr)(fd:FuncData)(ps:List Str)(sp:Sp):Prop where
 len:∀vs H Q E,sp vs H Q E->vs.length=ps.length
 run:∀ (A:Around) (outer:List Env) (s:Shared) (H:Hp) (args:Args) (us:List Value) (vs:List V) (Q:VK) (E:XK),et k A->GD P w K mg base A outer s H->BindsTo s fd args (ps.zip us)->aF vs us->sp vs H Q E ->
  codeAny (model P w) A (.call (.ref f) args) (CR CX outer P w H s Q E) s
theorem pk.mono{P:Program}{w:World}{K:W.Frag}{mg:Str->Option Value}{base:Heap}{CX:Cy}{j k:Nat}{f:Addr}{fd:FuncData}{ps:List Str}{sp:Sp}(F:pk P w K mg base CX j f fd ps sp)(h:j<=k) :
  pk P w K mg base CX k f fd ps sp:=⟨F.len,fun A outer s H args us vs Q E hr=>F.run A outer s H args us vs Q E (hr.mono h)⟩
section
variable {X:Cx}{pins:List (Addr×Obj)}{σ:St}{H:Hp}{s s':Shared}
theorem Inv.env0(I:Inv X pins σ H s):GD X.prog X.w X.K X.mg X.base X.A X.stack s H :=
 ⟨I.ok.frames,I.ok.mod,I.bs,yE I.ok.bsz I.sz,I.stack,I.stkFree,I.hok,I.bare⟩
theorem Inv.after{Q:VK}{u:Value}(I:Inv X pins σ H s)(h:CE X.stack X.prog X.w H s Q u s'):EP X pins σ Q u s':=by
 obtain⟨v,H',os,bare,un,hok,r,q⟩:=h
 obtain⟨hh,g,d,t,os'⟩:=s'
 obtain rfl:os'=s.os:=os
 exact⟨v,H',I.call (h':=hh) (g':=g) (d':=d) (t':=t) (ch:=[]) un hok bare (fun b z=>absurd z (by simp)),r,q⟩
end
def LS(sp:Sp)(dvs:List V)(E:XK)(t:TA):TE:=fun σ H Q=>t σ H fun vs H1=>sp (vs++dvs) H1 Q E
noncomputable def Binds(K:W.Frag)(fd:FuncData)(ps:List Str)(ds:List Value):Prop :=
 ∀ (s:Shared) (us:List Value),K.In s.heap->(us++ds).length=ps.length->BindsTo s fd ⟨us,[]⟩ (ps.zip (us++ds))
theorem Binds.all{K:W.Frag}{fd:FuncData}{ps:List Str}(h:∀us:List Value,us.length=ps.length->bindArgs fd ⟨us,[]⟩=pure (ps.zip us)):Binds K fd ps []:=fun s us _ hl=>by
 rw[List.append_nil] at hl ⊢
 exact .of_eq (h us hl)
def xU(CX:Cy)(X:Cx)(E:XK):Prop:=∀ (pins:List (Addr×Obj)) (σ:St) (H:Hp) (s:Shared) (e:Value) (s':Shared),Inv X pins σ H s->CX X.stack H s E e s'->X.xe e s'
section
variable {X:Cx}{CX:Cy}{k:Nat}{f C:Addr}{fd:FuncData}{ps:List Str}{sp:Sp}{dvs:List V}{ds:List Value}{E:XK}{x m:Str}{p pos apos:Pos}{e o:Expr}{es:List Expr}{ta:TE}{t:TA}
theorem KP{pins:List (Addr×Obj)}{σ:St}{H:Hp}{s:Shared}{Q:VK}{us:List Value}{vs:List V}(F:pk X.prog X.w X.K X.mg X.base CX k f fd ps sp)(hr:et k X.A)(hb:Binds X.K fd ps ds)(hd:aF dvs ds)(hx:xU CX X E)
  (I:Inv X pins σ H s) (r:aF vs us) (h:sp (vs++dvs) H Q E):wpAny (model X.prog X.w) X.A (call (.ref f) us) (EP X pins σ Q) X.xe s:=by
 have r2:aF (vs++dvs) (us++ds):=r.append hd
 have hl:(us++ds).length=ps.length:=by rw[<- r2.length];exact F.len _ _ _ _ h
 refine wpAny_call (codeAny_mono (F.run X.A X.stack s H ⟨us,[]⟩ (us++ds) (vs++dvs) Q E hr I.env0 (hb s us I.kIn hl) r2 h) fun r s' hq=>?_)
 cases r with
 | error e=>exact hx pins σ H s e s' I hq
 | ok fl =>
  cases fl with
  | ret u=>exact I.after hq
  | next=>exact False.elim hq
  | brk=>exact False.elim hq
  | cont=>exact False.elim hq
theorem GV(F:pk X.prog X.w X.K X.mg X.base CX k f fd ps sp)(hr:et k X.A)(hg:Gl X x)(hm:X.mg x=some (.ref f))(hk:W.keepIn X.K (.ref f)=true)(hb:Binds X.K fd ps ds)(hd:aF dvs ds)(hx:xU CX X E)
  (ha:PA X (e::es) t) (hdb:(x == ("__debug__":Str))=false:=by decide) (he:starEach (e::es) X.env=(false,eval e X.env)::starEach es X.env:=by rfl) (hpl:(backTo pos (starEach es X.env)).any (·.1)=false:=by rfl) :
  PE X (.Call (.Name x p) (e::es) [] pos) (LS sp dvs E t):=by
 intro pins s σ H Q I h
 refine wpAny_Call_Name_kw (zk I hg hm ?_ hdb)
 refine W.callWith_K (h₀:=X.base) I.ok.mod.kin hk (cg (ha pos pins s σ H _ I h) fun us s1 ⟨vs,H1,I1,r,q⟩=>⟨I1.kIn,?_⟩) he hpl
 exact KP F hr hb hd hx I1 r q
end
section
variable {X:Cx}{CX:Cy}{k:Nat}{f C:Addr}{fd:FuncData}{ps ks:List Str}{sp:Sp}{E:XK}{x m:Str}{p pos apos kpos:Pos}{e o:Expr}{es:List Expr}{kws:List Keyword}{te ta:TE}{t tk:TA}{nm:Option Str}
variable {g:List Value->List Value->List Value}{gV:List V->List V->List V}
end
structure fL(N P:List Str)(sc:Scope):Prop where
 kind:sc.kind=.function
 co:sc.isCoroutine=false
 gen:sc.isGenerator=false
 nd:N.Nodup
 pre:N.take P.length=P
 par:∀x∈P,sc.names.lookup x=some .local \/ sc.names.lookup x=some .cell
 nofree:∀y∈sc.names,y.2≠.free
theorem rO{kindOf:Str->Option NameKind}{x:Str}:∀ {binds:List (Str×Value)}{m:Str->Option Value},(∀v,(x,v)∉binds)->bindL kindOf binds m x=m x
 | [],_,_=>rfl
 | (n,v)::r,m,h=>by
  unfold bindL
  rw[rO fun w hw=>h w (zC _ hw)]
  split
  ·have:x≠n:=by rintro rfl;exact h v zE
   simp[this]
  ·rfl
theorem su{kindOf:Str->Option NameKind}{x:Str}:∀ {binds:List (Str×Value)}{m:Str->Option Value},(∀v,(x,v)∉binds)->bindC kindOf binds m x=m x
 | [],_,_=>rfl
 | (n,v)::r,m,h=>by
  unfold bindC
  rw[su fun w hw=>h w (zC _ hw)]
  split
  ·rfl
  ·have:x≠n:=by rintro rfl;exact h v zE
   simp[this]
theorem rQ{kindOf:Str->Option NameKind}{x:Str}{v:Value}:∀ {P:List Str}{vs:List Value}{i:Nat}{m:Str->Option Value},P.Nodup->P[i]?=some x->vs[i]?=some v->kindOf x=some .local ->
  bindL kindOf (P.zip vs) m x=some v
 | [],_,_,_,_,h,_,_=>by simp at h
 | _::_,[],_,_,_,_,h,_=>by simp at h
 | p::P,w::vs,0,m,nd,h1,h2,hk=>by
  simp at h1 h2;subst h1;subst h2
  show bindL kindOf ((p,w)::P.zip vs) m p=_
  unfold bindL
  rw[rO fun v hv=>(List.nodup_cons.mp nd).1 (List.of_mem_zip hv).1,if_pos hk]
  simp
 | p::P,w::vs,i+1,m,nd,h1,h2,hk=>by
  show bindL kindOf ((p,w)::P.zip vs) m x=_
  unfold bindL
  exact rQ (i:=i) (List.nodup_cons.mp nd).2 (by simpa using h1) (by simpa using h2) hk
theorem rV{kindOf:Str->Option NameKind}{x:Str}{v:Value}:∀ {P:List Str}{vs:List Value}{i:Nat}{m:Str->Option Value},P.Nodup->P[i]?=some x->vs[i]?=some v->kindOf x≠some .local ->
  bindC kindOf (P.zip vs) m x=some v
 | [],_,_,_,_,h,_,_=>by simp at h
 | _::_,[],_,_,_,_,h,_=>by simp at h
 | p::P,w::vs,0,m,nd,h1,h2,hk=>by
  simp at h1 h2;subst h1;subst h2
  show bindC kindOf ((p,w)::P.zip vs) m p=_
  unfold bindC
  rw[su fun v hv=>(List.nodup_cons.mp nd).1 (List.of_mem_zip hv).1,if_neg hk]
  simp
 | p::P,w::vs,i+1,m,nd,h1,h2,hk=>by
  show bindC kindOf ((p,w)::P.zip vs) m x=_
  unfold bindC
  exact rV (i:=i) (List.nodup_cons.mp nd).2 (by simpa using h1) (by simpa using h2) hk
noncomputable def start(N:List Str)(vs:List V):St:=vs.map some++List.replicate (N.length - vs.length) none
noncomputable def Cg(CX:Cy)(P:Program)(w:World)(K:W.Frag)(mg:Str->Option Value)(base:Heap)(N:List Str)(qual:Str)(scope:Scope)(f:Addr)(cd:Value)(A:Around)(outer:List Env)(s:Shared)(H:Hp)(E:XK):Cx where
 prog:=P
 w:=w
 K:=K
 mg:=mg
 base:=base
 A:=A.deeper (envOfC qual scope s.heap.objs.size f cd)
 N:=N
 s₀:=s
 H₀:=H
 env:=envOfC qual scope s.heap.objs.size f cd
 outer:=outer
 stack:=envOfC qual scope s.heap.objs.size f cd::outer
 ex:=[]
 calm:=true
 fn:=fun _=>true
 pn:=[]
 xe:=fun e s'=>wpAny (model P w) (A.deeper (envOfC qual scope s.heap.objs.size f cd)) (leaving (envOfC qual scope s.heap.objs.size f cd) e) (fun _ s''=>CX outer H s E e s'') (fun e' s''=>CX outer H s E e' s'') s'
theorem qs{sc:Scope}{n:Nat}{x:Str}(h:sc.names.lookup x=some .cell):∃c,(cellsFrom n sc.names []).lookup x=some c:=by
 have q:=W.cellsFrom_some sc.names n [] (.inl h)
 exact Option.isSome_iff_exists.mp q
theorem BH{CX:Cy}{P:Program}{w:World}{K:W.Frag}{mg:Str->Option Value}{base:Heap}{N ps:List Str}{qual:Str}{scope:Scope}{f:Addr}{cd:Value}{A:Around}{outer:List Env}{s s1:Shared}{H:Hp}{E:XK}{us:List Value}{vs:List V}
  (S:fL N ps scope) (hd:A.handled=none) (e0:GD P w K mg base A outer s H) (hl:vs.length=ps.length) (r:aF vs us)
  (x:InCallC s s.heap.objs.size (bindL (envOfC qual scope s.heap.objs.size f cd).kindOf (ps.zip us) fun _=>none) (cellsFrom (s.heap.objs.size+1) scope.names []) (bindC (envOfC qual scope s.heap.objs.size f cd).kindOf (ps.zip us) fun _=>none) s1) :
  Inv (Cg CX P w K mg base N qual scope f cd A outer s H E) [] (start N vs) H s1:=by
 have hpl:ps.length<=N.length:=by have:=congrArg List.length S.pre;rw[List.length_take] at this;omega
 obtain⟨h1,tk,rfl,hk⟩:=x.done
 have noA:∀b:Addr,b∉(Cg CX P w K mg base N qual scope f cd A outer s H E).ex:=fun b z=>absurd (show b∈([]:List Addr) from z) (by simp)
 refine⟨⟨e0.mod,S.kind,rfl,rfl,Nat.le_refl _,fun y z c h1 h2=>?_,fun y hy=>?_,fun y c _ h=>?_,fun _=>hd,Around.frames_deeper e0.frames,.inr ⟨rfl,rfl⟩,fun b z=>absurd z (noA b),e0.bs,e0.bsz,fun b _ _=>noA b,fun b z=>absurd z (noA b),e0.funs,e0.frf⟩,
  rfl,e0.bare,Un.kept hk,⟨_,x.toInCall.ns,fun i y v h1 h2 h3=>?_⟩,fun y c h=>⟨_,x.cell y c h⟩,e0.hok.fresh (Nat.le_refl _),fun y c h=>?_,fun p hp=>absurd (show p∈([]:List (Addr×Obj)) from hp) (by simp),e0.hok.kept hk,?_⟩
 ·exact name_of_addr x.apart (PySem.mem_of_lookup h1) (PySem.mem_of_lookup h2)
 ·have hy:scope.names.lookup y=some .cell\/scope.names.lookup y=some .free:=hy
  rcases hy with hy|hy
  ·exact qs hy
  ·exact absurd rfl (S.nofree _ (PySem.mem_of_lookup hy))
 ·exact Nat.le_of_lt (x.above y c (PySem.mem_of_lookup h))
 ·have hi:i < vs.length:=by
   unfold start at h2
   by_cases hi:i < vs.length
   ·exact hi
   ·rw[List.getElem?_append_right (by simpa using hi)] at h2
    rw[List.getElem?_replicate] at h2
    split at h2<;>cases h2
  have ha:vs[i]?=some v:=by
   unfold start at h2
   rw[List.getElem?_append_left (by simpa using hi),zO] at h2
   cases e:vs[i]? with
   | none=>rw[e] at h2;cases h2
   | some a=>rw[e] at h2;cases h2;rfl
  obtain⟨u,hu,rv⟩:=r.get ha
  have hp:ps[i]?=some y:=by
   rw[<- S.pre,List.getElem?_take_of_lt (by omega)];exact h1
  have ndP:ps.Nodup:=by rw[<- S.pre];exact S.nd.sublist (List.take_sublist _ _)
  refine⟨u,rv,?_⟩
  rcases S.par y (List.mem_of_getElem? hp) with k|k
  ·exact .inl ⟨k,rQ ndP hp hu k⟩
  ·obtain⟨c,e⟩:=qs (n:=s.heap.objs.size+1) k
   refine .inr ⟨.inl k,c,e,?_⟩
   have q:=x.cell y c e
   rw[rV ndP hp hu (by show scope.names.lookup y≠_;rw[k];decide)] at q
   exact q
 ·exact e0.hok.fresh (Nat.le_of_lt (x.above y c (PySem.mem_of_lookup h)))
 ·unfold start
  show _=N.length
  rw[zN,zD,List.length_replicate]
  omega
theorem Mr{CX:Cy}{P:Program}{w:World}{K:W.Frag}{mg:Str->Option Value}{base:Heap}{k:Nat}{f:Addr}{name qual:Str}{params:Arguments}{body:List Stmt}{scope:Scope}{dV kV doc pm cdv ct oc:Value}{an od:Option Addr}
  {osl:Array (Option Value)}{N ps:List Str}{sp:Sp}(lk:K.lookup f=some ⟨oc,od,.func (W.fnOf name qual params body scope dV kV doc pm an cdv ct),osl⟩) (hcd:W.codeIn K cdv qual=true) (S:fL N ps scope)
  (len:∀vs H Q E,sp vs H Q E->vs.length=ps.length)
  (hbody:∀ (A:Around) (outer:List Env) (s:Shared) (H:Hp) (vs:List V) (Q:VK) (E:XK),et k (A.deeper (envOfC qual scope s.heap.objs.size f cdv))->sp vs H Q E ->
   ∃t,xW (Cg CX P w K mg base N qual scope f cdv A outer s H E) body t/\t { nx:=fun _ H'=>Q .non H',rt:=Q } (start N vs) H) :
  pk P w K mg base CX (k+1) f (W.fnOf name qual params body scope dV kV doc pm an cdv ct) ps sp:=by
 refine⟨len,fun A outer s H args us vs Q E hr e0 hb r hsp=>?_⟩
 have hl:=len _ _ _ _ hsp
 have KX:K.In s.heap:=e0.mod.kin.keeps fun b o e=>(e0.bs b o e).1
 have lim:s.heap.NoLimit:=e0.mod.nolimit.keeps fun b o e=>(e0.bs b o e).1
 have hkind:∀y∈ps.zip us,scope.names.lookup y.1=some .local \/ (scope.names.lookup y.1=some .cell/\((cellsFrom (s.heap.objs.size+1) scope.names []).lookup y.1).isSome=true):=fun ⟨n,v⟩ hy=>by
  rcases S.par n (List.of_mem_zip hy).1 with q|q
  ·exact .inl q
  ·exact .inr ⟨q,W.cellsFrom_some _ _ _ (.inl q)⟩
 refine codeAny_call_function hr.depth (KX _ _ lk) rfl S.co S.gen rfl (W.codeRec_of KX hcd) (hb _ _ _ _ ?_)
 refine wpAny_newFunctionEnv_cells S.kind hkind fun env he s1 x=>?_
 subst he
 refine⟨lim.keeps x.toInCall.keep,codeAny_func ?_⟩
 obtain⟨t,ht,hq⟩:=hbody A outer s H vs Q E (hr.deeper _) hsp
 have I:Inv (Cg CX P w K mg base N qual scope f cdv A outer s H E) [] (start N vs) H s1:=BH S hr.hd e0 hl r x
 refine wpAny_mono (ht [] s1 (start N vs) H _ I hq) (fun fl s' hs=>?_) fun e s' hs=>hs
 have fin:∀ {σ':St}{H':Hp}{v:V}{u:Value},Inv (Cg CX P w K mg base N qual scope f cdv A outer s H E) [] σ' H' s'->RelV v u->Q v H'->CE outer P w H s Q u s' :=
  fun {σ' H' v u} J rv q=>⟨v,H',J.os,J.bare,J.base,J.hok,rv,q⟩
 cases fl with
 | ret u =>
  obtain⟨v,σ',H',J,rv,q⟩:=hs
  exact fin J rv q
 | next =>
  obtain⟨σ',H',J,q⟩:=hs
  exact fin (v:=V.non) (u:=Value.none) J rfl q
 | brk =>
  obtain⟨_,_,_,q⟩:=hs
  exact False.elim q
 | cont =>
  obtain⟨_,_,_,q⟩:=hs
  exact False.elim q
section
variable {X:Cx}{x:Str}{p pos:Pos}{e:Expr}{es:List Expr}{t:TA}{id T:String}{r:List V->Hp->VK->Prop}
def M0(r:List V->Hp->VK->Prop)(t:TA):TE:=fun σ H Q=>t σ H fun vs H1=>r vs H1 Q
theorem l7(hc:d6 X (.builtin id) r)(hg:Gl X x)(hm:X.mg x=none)(hv:bootBuiltins x=some (.builtin id))(ha:PA X (e::es) t)(hn:x≠"__name__":=by decide)(hdb:(x == ("__debug__":Str))=false:=by decide)
  (he:starEach (e::es) X.env=(false,eval e X.env)::starEach es X.env:=by rfl) (hpl:(backTo pos (starEach es X.env)).any (·.1)=false:=by rfl):PE X (.Call (.Name x p) (e::es) [] pos) (M0 r t):=by
 intro pins s σ H Q I h
 refine wpAny_Call_Name_kw (iS I hg hm hv ?_ hn hdb)
 exact PyProof.Rows.callWith_builtin1 (cg (ha pos pins s σ H _ I h) fun us s1 ⟨vs,H1,I1,r1,q1⟩=>hc pins s1 σ H1 vs us Q I1 r1 q1) he hpl
theorem nA(hc:d6 X (.type T) r)(hg:Gl X x)(hm:X.mg x=none)(hv:bootBuiltins x=some (.type T))(ha:PA X (e::es) t)(hn:x≠"__name__":=by decide)(hdb:(x == ("__debug__":Str))=false:=by decide)
  (he:starEach (e::es) X.env=(false,eval e X.env)::starEach es X.env:=by rfl) (hpl:(backTo pos (starEach es X.env)).any (·.1)=false:=by rfl):PE X (.Call (.Name x p) (e::es) [] pos) (M0 r t):=by
 intro pins s σ H Q I h
 refine wpAny_Call_Name_kw (iS I hg hm hv ?_ hn hdb)
 exact PyProof.Rows.callWith_type1 (cg (ha pos pins s σ H _ I h) fun us s1 ⟨vs,H1,I1,r1,q1⟩=>hc pins s1 σ H1 vs us Q I1 r1 q1) he hpl
end
end L2
namespace HT
open PySem PyProof.Rows
noncomputable def lexLt:List Int->List Int->Bool
 | [],[]=>false
 | [],_::_=>true
 | _::_,[]=>false
 | x::xs,y::ys=>if x=y then lexLt xs ys else decide (x < y)
theorem dA(x y:Int)(xs ys:List Int):lexLt (x::xs) (y::ys)=if x=y then lexLt xs ys else decide (x < y):=rfl
theorem rl:lexLt [] []=false:=rfl
theorem pb(y:Int)(ys:List Int):lexLt [] (y::ys)=true:=rfl
theorem p6(x:Int)(xs:List Int):lexLt (x::xs) []=false:=rfl
theorem DP(A:Around)(s:Shared)(a:Int)(t:Tok)(c:Int)(u:Tok):∃e,SeqAt.EqAt A s (.int a t) (.int c u) e/\(e=true↔a=c) :=
 ⟨(a == c),SeqAt.EqAt.int_int a t c u,by simp⟩
section
open PySem.SeqAt
open PySem.AutoSeq1 (wpAny_loadPart')
open PySem.MeetsSeq PySem.MeetsSeq2 PySem.MeetsSeq3
end
section
variable {prog:Program}{w:World}{A:Around}{E:Value->Shared->Prop}{s:Shared}
theorem Gi{t b:Addr}{vs ws:List Value}{Q:Value->Shared->Prop}(ht:IsTup s.heap t vs.toArray)(hb:IsTup s.heap b ws.toArray)(hv:vs≠[])
  (h1:ws=[]->Q (.ref t) s) (h2:ws≠[]->Q (.ref s.heap.objs.size) { s with heap:=s.heap.push { cls:=.type "tuple",data:=.seq (vs++ws).toArray } })
  (hsz:vs.length+ws.length<=sizeLine):wpAny (model prog w) A (binaryOp .Add (.ref t) (.ref b)) Q E s:=by
 obtain⟨⟨cls,dd,data,sl⟩,ho,hc,n,hd⟩:=id ht
 obtain⟨⟨cls2,dd2,data2,sl2⟩,ho2,hc2,n2,hd2⟩:=id hb
 simp only at hc hd hc2 hd2
 subst hc hd hc2 hd2
 have e:vs.toArray++ws.toArray=(vs++ws).toArray:=by simp
 by_cases hw:ws=[]
 ·exact concat_meets ⟨_,ho,rfl⟩ ⟨_,ho2,rfl⟩ noFill_tuple_add seq_tuple_add PySem.F.slot_tuple_add PySem.F.entry_tuple_add (PySem.F.args_tuple_add_2 _ _)
   (tuple_addW1 t b vs.toArray ws.toArray n n2 dd dd2 sl sl2 (by simpa using hv) (by simp[hw])) ⟨ho,ho2,h1 hw⟩
 ·refine concat_meets ⟨_,ho,rfl⟩ ⟨_,ho2,rfl⟩ noFill_tuple_add seq_tuple_add PySem.F.slot_tuple_add PySem.F.entry_tuple_add (PySem.F.args_tuple_add_2 _ _)
   (tuple_addW2 t b vs.toArray ws.toArray n n2 dd dd2 sl sl2 (by simpa using hv) (by simpa using hw) (by rw[zH,zH];exact hsz)) ⟨ho,ho2,?_⟩
  rw[e]
  exact h2 hw
noncomputable def dF(n d:Nat):Option Int->Nat
 | none=>d
 | some v=>if v < 0 then (v+(n:Int)).toNat else min v.toNat n
theorem vT(n d:Nat):dF n d none=d:=rfl
theorem zr(n d k:Nat):dF n d (some (k:Int))=min k n:=by
 show (if (k:Int) < 0 then ((k:Int)+(n:Int)).toNat else min (k:Int).toNat n)=min k n
 rw[if_neg (by omega),yH]
theorem JL(n d:Nat)(hd:d<=n)(o:Option Int):dF n d o<=n:=by
 cases o with
 | none=>exact hd
 | some v =>
  show (if v < 0 then (v+(n:Int)).toNat else min v.toNat n)<=n
  by_cases hv:v < 0
  ·rw[if_pos hv];omega
  ·rw[if_neg hv];exact Nat.min_le_right _ _
theorem zm(v:Int)(n d:Nat):(if v < 0 then max (v+(n:Int)) 0 else min v (n:Int))=((dF n d (some v):Nat):Int):=by
 show (if v < 0 then max (v+(n:Int)) 0 else min v (n:Int))=(((if v < 0 then (v+(n:Int)).toNat else min v.toNat n):Nat):Int)
 by_cases hv:v < 0
 ·simp only[if_pos hv];omega
 ·simp only[if_neg hv];omega
theorem yS(lo hi:Option Int)(n:Nat):Builtin.Slice.sliceAdjust lo hi 1 (n:Int)=(((dF n 0 lo:Nat):Int),((dF n n hi:Nat):Int)):=by
 have h1:¬ ((1:Int) < 0):=by omega
 unfold Builtin.Slice.sliceAdjust
 simp only[h1,if_false]
 refine Prod.ext ?_ ?_
 ·cases lo with
  | none=>rfl
  | some v=>exact zm v n 0
 ·cases hi with
  | none=>rfl
  | some v=>exact zm v n n
theorem y2(i j:Nat):Builtin.Slice.slicePlaces (i:Int) (j:Int) 1=j - i:=by
 unfold Builtin.Slice.slicePlaces
 have h1:(1:Int) > 0:=by omega
 simp only[h1,if_true,Int.ediv_one]
 split<;>omega
theorem oZ{v:Value}{o:Option Int}{Q:Option Int->Shared->Prop}(p:IsPart v o)(h:Q o s):wpAny (model prog w) A (Builtin.Slice.slicePartIndex v) Q E s:=by
 cases p with
 | none=>exact slicePart_none h
 | int i t=>exact slicePart_int h
theorem ir{sl:Addr}{vl vu:Value}{lo hi:Option Int}{n:Nat}{Q:Int×Int×Nat->Shared->Prop}(hs:s.heap.IsSliceOf sl vl vu .none)(pl:IsPart vl lo)(pu:IsPart vu hi)
  (h:Q (((dF n 0 lo:Nat):Int),1,dF n n hi - dF n 0 lo) s):wpAny (model prog w) A (Builtin.Slice.sliceApplied (.ref sl) (pure (n:Int))) Q E s:=by
 obtain⟨os,hos,hcs,hds⟩:=id hs
 unfold Builtin.Slice.sliceApplied Builtin.Slice.sliceFields
 refine zW (zW (wpAny_field hos hds (x:=vl) rfl (zW (wpAny_field hos hds (x:=vu) rfl (zW (wpAny_field hos hds (x:=.none) rfl (zX ?_)))))))
 refine zW (slicePart_none ?_)
 show wpAny _ _ (if ((1:Int) == 0)=true then _ else _) _ _ s
 rw[if_neg (by decide)]
 refine zW (oZ pl (zW (oZ pu (zW (zX ?_)))))
 show wpAny _ _ (match Builtin.Slice.sliceAdjust lo hi 1 (n:Int) with|(lo,hi)=>pure (lo,(1:Int),Builtin.Slice.slicePlaces lo hi 1)) _ _ s
 rw[yS lo hi n]
 show wpAny _ _ (pure (((dF n 0 lo:Nat):Int),(1:Int),Builtin.Slice.slicePlaces ((dF n 0 lo:Nat):Int) ((dF n n hi:Nat):Int) 1)) _ _ s
 rw[y2]
 exact zX h
theorem Fj(xs:Array Value)(i k:Nat):((List.range k).filterMap fun (m:Nat)=>xs[((i:Int)+(m:Int) * 1).toNat]?).toArray=((xs.toList.drop i).take k).toArray:=by
 have e:(fun (m:Nat)=>xs[((i:Int)+(m:Int) * 1).toNat]?)=fun m=>xs[i+m]?:=by
  funext m
  have:((i:Int)+(m:Int) * 1).toNat=i+m:=by omega
  rw[this]
 rw[e]
 have:=pick_run xs i k
 rw[List.filterMap_map] at this
 have e2:((fun x=>xs[x]?) ∘ fun x=>i+x)=fun m=>xs[i+m]?:=rfl
 rw[e2] at this
 rw[this]
theorem mw{t sl:Addr}{items:Array Value}{vl vu:Value}{lo hi:Option Int}{Q:Value->Shared->Prop}(ht:IsTup s.heap t items)(hs:s.heap.IsSliceOf sl vl vu .none)(pl:IsPart vl lo)(pu:IsPart vu hi)
  (hw:¬ (dF items.size 0 lo=0/\dF items.size items.size hi=items.size))
  (h:Q (.ref s.heap.objs.size) { s with heap:=s.heap.push { cls:=.type "tuple",data:=.seq ((items.toList.drop (dF items.size 0 lo)).take (dF items.size items.size hi - dF items.size 0 lo)).toArray } })
  (hsz:items.size<=sizeLine):wpAny (model prog w) A (getItem (.ref t) (.ref sl)) Q E s:=by
 have htake:sizeOk (.seq ((items.toList.drop (dF items.size 0 lo)).take (dF items.size items.size hi - dF items.size 0 lo)).toArray):=by
  show ((items.toList.drop (dF items.size 0 lo)).take (dF items.size items.size hi - dF items.size 0 lo)).toArray.size<=sizeLine
  rw[zH,List.length_take,List.length_drop,Array.length_toList]
  omega
 have hj:dF items.size items.size hi<=items.size:=JL _ _ (Nat.le_refl _) hi
 obtain⟨os,hos,hcs,hds⟩:=id hs
 have hTs:s.TypeIs (.ref sl) "slice":=⟨os,hos,hcs⟩
 unfold getItem
 try with_reducible refine wpAny_holding ?_
 first|refine zW (zX ?_)|skip
 refine zW (wpAny_sequenceKey ht.typeIs (by decide) ?_)
 refine zW (wpAny_callSpecial?_slot (name:=Str.ofString "__getitem__") ht.typeIs PyProof.Rows.slot_tuple_getitem
  (wpAny_call_entry PyProof.Rows.slot_tuple_getitem ht.typeIs entry_tuple_getitem ?_ (args_tuple_getitem _ _)))
 show wpAny _ _ (Builtin.Tuple.tupleItemsOf (.ref t) >>= _) _ _ s
 refine zW (tupleItemsOf_ ht ?_)
 refine zW (wpAny_typeOf hTs ?_)
 rw[if_pos (by decide)]
 refine zW (ir hs pl pu ?_)
 have hno:¬ ((((dF items.size 0 lo:Nat):Int) == 0&&(1:Int) == 1&&(dF items.size items.size hi - dF items.size 0 lo) == items.size)=true):=by
  intro q
  rw[zF,zF] at q
  have q1:((dF items.size 0 lo:Nat):Int)=0:=eq_of_beq q.1.1
  have q2:dF items.size items.size hi - dF items.size 0 lo=items.size:=eq_of_beq q.2
  exact hw ⟨by omega,by omega⟩
 show wpAny _ _ (if (((dF items.size 0 lo:Nat):Int) == 0&&(1:Int) == 1&&(dF items.size items.size hi - dF items.size 0 lo) == items.size)=true then _ else _) _ _ s
 rw[if_neg hno,Fj]
 first
  | exact zW (m:=Builtin.Tuple.tupleExact _) (wpAny_newObj_type (zX ⟨_,rfl,zX h⟩) htake)
  | exact zW (m:=Builtin.Tuple.tupleExact _) (wpAny_newObj_type (zW (zX (zX ⟨_,rfl,zX h⟩))) htake)
  | exact zW (zW (m:=Builtin.Tuple.tupleExact _) (wpAny_newObj_type (zX (zX ⟨_,rfl,zX h⟩)) htake))
  | exact zW (zW (m:=Builtin.Tuple.tupleExact _) (wpAny_newObj_type (zX ⟨_,rfl,zX h⟩) htake))
end
end HT
namespace L2
open PySem PySem.Spec PyProof.Rows
noncomputable abbrev TO:=St->Hp->(Option Int->Hp->Prop)->Prop
noncomputable def PO(X:Cx)(e:Option Expr)(t:TO):Prop :=
 ∀ (pins:List (Addr×Obj)) (s:Shared) (σ:St) (H:Hp) (Q:Option Int->Hp->Prop),Inv X pins σ H s->t σ H Q ->
  wpAny (model X.prog X.w) X.A (evalPart e X.env) (fun u s'=>∃o H',Inv X pins σ H' s'/\IsPart u o/\Q o H') X.xe s
def FO:TO:=fun _ H Q=>Q none H
def L5(t:TE):TO:=fun σ H Q=>t σ H fun x H1=>∃i,x=.int i/\Q (some i) H1
theorem intsAre_of{ns:List Int}:∀ {us:List Value},aF (ns.map V.int) us->IntsAre us ns:=by
 induction ns with
 | nil=>intro us r;rw[List.map_nil] at r;cases r;exact .nil
 | cons n ns ih =>
  intro us r
  rw[zI] at r
  cases r with
  | cons r1 r2 =>
   obtain⟨t,e⟩:=r1
   subst e
   exact .cons n t (ih r2)
section
variable {X:Cx}{e:Expr}{te:TE}{lo hi:Option Expr}{tl th:TO}{pos p2:Pos}
theorem FS:PO X none FO:=by
 intro pins s σ H Q I h
 rw[evalPart_none]
 exact zX ⟨none,H,I,.none,h⟩
theorem ox(h:PE X e te):PO X (some e) (L5 te):=by
 intro pins s σ H Q I hw
 rw[evalPart_some]
 refine cg (h pins s σ H _ I hw) fun u s1 ⟨x,H1,I1,r1,q1⟩=>?_
 obtain⟨i,rfl,q⟩:=q1
 obtain⟨t,rfl⟩:=r1
 exact⟨some i,H1,I1,.int i t,q⟩
noncomputable def IQ(X:Cx)(r:V->Option Int->Option Int->Hp->VK->Prop):Prop :=
 ∀ (pins:List (Addr×Obj)) (s:Shared) (σ:St) (H:Hp) (x:V) (v vl vu:Value) (lo hi:Option Int) (sl:Addr) (Q:VK),Inv X pins σ H s->RelV x v->s.heap.IsSliceOf sl vl vu .none->IsPart vl lo->IsPart vu hi->r x lo hi H Q ->
  ∃T id,typeLookup (.type T) "__getitem__"=pure (some (.builtin id))/\s.TypeIs v T/\wpAny (model X.prog X.w) X.A (getItem v (.ref sl)) (EP X pins σ Q) X.xe s
theorem IQ.or{r r':V->Option Int->Option Int->Hp->VK->Prop}(h:IQ X r)(h':IQ X r'):IQ X (fun x lo hi H Q=>r x lo hi H Q\/r' x lo hi H Q):=by
 intro pins s σ H x v vl vu lo hi sl Q I rx hs pl pu q
 rcases q with q|q
 ·exact h pins s σ H x v vl vu lo hi sl Q I rx hs pl pu q
 ·exact h' pins s σ H x v vl vu lo hi sl Q I rx hs pl pu q
def Ov(r:V->Option Int->Option Int->Hp->VK->Prop)(te:TE)(tl th:TO):TE:=fun σ H Q=>te σ H fun x H1=>tl σ H1 fun l H2=>th σ H2 fun u H3=>r x l u H3 Q
theorem EX{r:V->Option Int->Option Int->Hp->VK->Prop}(hr:IQ X r)(he:PE X e te)(hl:PO X lo tl)(hu:PO X hi th):PE X (.Subscript e (.Slice lo hi none p2) pos) (Ov r te tl th):=by
 intro pins s σ H Q I h
 refine Subscript_ (cg (he pins s σ H _ I h) fun v s1 ⟨x,H1,I1,r1,q1⟩=>?_)
 refine wpAny_Slice (cg (hl pins s1 σ H1 _ I1 q1) fun vl s2 ⟨l,H2,I2,pl,q2⟩=>cg (hu pins s2 σ H2 _ I2 q2) fun vu s3 ⟨u,H3,I3,pu,q3⟩=>?_)
 rw[evalPart_none]
 refine zX ?_
 have I4:Inv X pins σ H3 { s3 with heap:=s3.heap.push { cls:=.type "slice",data:=.fields #[vl,vu,.none] } }:=I3.kept (t':=s3.toks) fun b ob q=>zV _ q
 obtain⟨T,id,hT,ht,hg⟩:=hr pins { s3 with heap:=s3.heap.push { cls:=.type "slice",data:=.fields #[vl,vu,.none] } } σ H3 x v vl vu l u s3.heap.objs.size Q I4 r1 (Heap.IsSliceOf.new ..) pl pu q3
 show wpAny (model X.prog X.w) X.A (subscriptTail e (.Slice lo hi none p2) v (.ref s3.heap.objs.size)) (EP X pins σ Q) X.xe { s3 with heap:=s3.heap.push { cls:=.type "slice",data:=.fields #[vl,vu,.none] } }
 exact tail_any (ops:=[.ref s3.heap.objs.size,v]) ht hT hg (by with_unfolding_all rfl)
noncomputable def Hq(xs:List V)(lo hi:Option Int):List V:=(xs.drop (HT.dF xs.length 0 lo)).take (HT.dF xs.length xs.length hi - HT.dF xs.length 0 lo)
theorem wo(xs:List V)(lo hi:Option Int):(Hq xs lo hi).length<=xs.length:=by
 unfold Hq
 rw[List.length_take,List.length_drop]
 omega
noncomputable def NI(K:W.Frag):V->Option Int->Option Int->Hp->VK->Prop:=fun x lo hi H Q=>∃a xs,x=.ref a/\jQ K H a xs /\
 ¬ (HT.dF xs.length 0 lo=0/\HT.dF xs.length xs.length hi=xs.length)/\∀p,H p=none->Q (.ref p) (upd H p (.tup (Hq xs lo hi)))
theorem Kj:IQ X (NI X.K):=by
 intro pins s σ H x v vl vu lo hi sl Q I rx hs pl pu h
 obtain⟨a,xs,rfl,hx,hw,q⟩:=h
 cases rx
 obtain⟨its,r,ht,hz⟩:=I.tuple hx
 have hlen:its.toArray.size=xs.length:=by rw[zH];exact r.length.symm
 refine⟨"tuple",_,PyProof.Rows.slot_tuple_getitem.lookup,ht.typeIs,?_⟩
 refine HT.mw ht hs pl pu (by rw[hlen];exact hw) ?_ (by rw[hlen];exact hz)
 rw[hlen]
 refine⟨.ref s.heap.objs.size,_,I.laid (t':=s.toks) (o:=.tup (Hq xs lo hi)) (fun b ob q=>zV _ q) (Nat.le_refl _) ?_,rfl,q _ (I.hok.fresh (Nat.le_refl _))⟩
 exact⟨yE (wo xs lo hi) hz,_,(r.drop (HT.dF xs.length 0 lo)).take (HT.dF xs.length xs.length hi - HT.dF xs.length 0 lo),mJ.new _ _⟩
def LI(K:W.Frag):R2:=fun x y H Q=>∃a b xs ys,x=.ref a/\y=.ref b/\jQ K H a xs/\jQ K H b ys/\xs≠[]/\xs.length+ys.length<=sizeLine /\
 (ys=[]->Q (.ref a) H)/\(ys≠[]->∀p,H p=none->Q (.ref p) (upd H p (.tup (xs++ys))))
theorem aF.nil_iff{xs:List V}{us:List Value}(r:aF xs us):us=[]↔xs=[]:=by
 cases r with
 | nil=>simp
 | cons _ _=>simp
theorem GM:ij X (binaryOp .Add) (LI X.K):=by
 intro pins s σ H x y v u Q I rx ry h
 obtain⟨a,b,xs,ys,rfl,rfl,ha,hb,hx,hz,q1,q2⟩:=h
 cases rx
 cases ry
 obtain⟨its,r1,p1,_⟩:=I.tuple ha
 obtain⟨its2,r2,p2,_⟩:=I.tuple hb
 refine HT.Gi p1 p2 (fun z=>hx (r1.nil_iff.mp z)) (fun z=>⟨.ref a,H,I,rfl,q1 (r2.nil_iff.mp z)⟩) (fun z=>?_) (by rw[<- r1.length,<- r2.length];exact hz)
 refine⟨.ref s.heap.objs.size,_,I.laid (t':=s.toks) (o:=.tup (xs++ys)) (fun b ob q=>zV _ q) (Nat.le_refl _) ?_,rfl,q2 (fun w=>z (r2.nil_iff.mpr w)) _ (I.hok.fresh (Nat.le_refl _))⟩
 exact⟨by rw[zN];exact hz,_,r1.append r2,mJ.new _ _⟩
end
noncomputable def FK(n:Nat)(i:Int):Option Nat:=if 0<=i then (if i < n then some i.toNat else none) else if -(n:Int)<=i then some (i+n).toNat else none
noncomputable def uU{α:Type}(xs:List α)(i:Int):Option α:=(FK xs.length i).bind fun j=>xs[j]?
theorem AR{n:Nat}{i:Int}{j:Nat}(h:FK n i=some j):seqIndex? i n=some j/\j < n/\-(n:Int)<=i/\i < n:=by
 unfold FK at h
 by_cases h0:0<=i
 ·rw[if_pos h0] at h
  by_cases h1:i < n
  ·rw[if_pos h1] at h
   have e:i.toNat=j:=Option.some.inj h
   exact⟨by rw[seqIndex_of h0 h1,e],by omega,by omega,h1⟩
  ·rw[if_neg h1] at h;cases h
 ·rw[if_neg h0] at h
  by_cases h1:-(n:Int)<=i
  ·rw[if_pos h1] at h
   have e:(i+n).toNat=j:=Option.some.inj h
   exact⟨by rw[seqIndex_neg (by omega) h1,e],by omega,h1,by omega⟩
  ·rw[if_neg h1] at h;cases h
theorem uh{α:Type}{xs:List α}{i:Int}{v:α}(h:uU xs i=some v):∃j,seqIndex? i xs.length=some j/\xs[j]?=some v/\j < xs.length/\-(xs.length:Int)<=i/\i < xs.length:=by
 unfold uU at h
 cases e:FK xs.length i with
 | none=>rw[e] at h;cases h
 | some j =>
  rw[e] at h
  obtain⟨h1,h2,h3,h4⟩:=AR e
  exact⟨j,h1,h,h2,h3,h4⟩
theorem sZ{α:Type}{xs:List α}{j:Nat}{v:α}(h:xs[j]?=some v):uU xs (j:Int)=some v:=by
 have hj:j < xs.length:=(zU.mp h).1
 have e:FK xs.length (j:Int)=some j:=by
  unfold FK
  rw[if_pos (by omega),if_pos (by omega)];simp
 unfold uU;rw[e];exact h
def sT(b:Expr):Prop:=∀o i,subscripted b false o i=operate [o,i] (getItem o i)
noncomputable def HM(X:Cx)(r:R2):Prop :=
 ∀ (value slice:Expr) (pins:List (Addr×Obj)) (s:Shared) (σ:St) (H:Hp) (x y:V) (v u:Value) (Q:VK),Inv X pins σ H s->RelV x v->RelV y u->r x y H Q ->
  subscripted slice false v u=operate [v,u] (getItem v u)->wpAny (model X.prog X.w) X.A (subscriptTail value slice v u) (EP X pins σ Q) X.xe s
noncomputable def Os(X:Cx)(id:String)(r:V->List V->Hp->VK->Prop):Prop :=
 ∀ (pins:List (Addr×Obj)) (s:Shared) (σ:St) (H:Hp) (x:V) (xs:List V) (v:Value) (us:List Value) (Q:VK),Inv X pins σ H s->RelV x v->aF xs us->r x xs H Q ->
  wpAny (model X.prog X.w) X.A (call (.builtin id) (v::us)) (EP X pins σ Q) X.xe s
section
variable {X:Cx}{a b:Expr}{ta tb:TE}{pos:Pos}
theorem HM.or{r r':R2}(h:HM X r)(h':HM X r'):HM X (fun x y H Q=>r x y H Q\/r' x y H Q):=by
 intro value slice pins s σ H x y v u Q I rx ry q hs
 rcases q with q|q
 ·exact h value slice pins s σ H x y v u Q I rx ry q hs
 ·exact h' value slice pins s σ H x y v u Q I rx ry q hs
theorem MQ{r:R2}(hr:HM X r)(ha:PE X a ta)(hb:PE X b tb)(hs:sT b):PE X (.Subscript a b pos) (Mn r ta tb):=by
 intro pins s σ H Q I h
 exact Subscript_ (Jy ha hb I h fun v u s2 x y H2 I2 rx ry q=>hr a b pins s2 σ H2 x y v u Q I2 rx ry q (hs _ _))
def MG(K:W.Frag):R2:=fun x y H Q=>∃p xs i v,x=.ref p/\y=.int i/\iJ K H p xs/\uU xs i=some v/\Q v H
def Mi(K:W.Frag):R2:=fun x y H Q=>∃p xs i v,x=.ref p/\y=.int i/\jQ K H p xs/\uU xs i=some v/\Q v H
def MV:R2:=fun x y H Q=>∃z i c,x=.str z/\y=.int i/\z.length<=sizeLine/\uU z.cps.toList i=some c/\Q (.str ⟨#[c]⟩) H
theorem Hn:HM X (MG X.K):=by
 intro value slice pins s σ H x y v u Q I rx ry h hs
 obtain⟨p,xs,i,z,rfl,rfl,hq,he,q⟩:=h
 cases rx
 obtain⟨t,rfl⟩:=ry
 obtain⟨its,r,pl,hz⟩:=I.list hq
 obtain⟨j,h1,h2,h3,h4,h5⟩:=uh he
 obtain⟨w,ew,rw'⟩:=r.get h2
 have hl:=r.length
 have hn:=pU
 have fin:EP X pins σ Q w s:=⟨z,H,I,rw',q⟩
 by_cases h0:0<=i
 ·have hj:i.toNat=j:=by
   rw[seqIndex_of h0 h5] at h1
   exact Option.some.inj h1
  exact item_listR pl.isList h0 (by omega) (by rw[hj];simpa using ew) fin hs
 ·have hj:(i+(its.toArray.size:Int)).toNat=j:=by
   rw[seqIndex_neg (by omega) h4] at h1
   rw[zH,<- hl]
   exact Option.some.inj h1
  exact subscriptTail_builtinR (x:=w) pl.isList.typeIs slot_list_getitem.lookup
   (wpAny_getItem_list_neg (Q:=fun r s'=>r=w/\EP X pins σ Q r s') pl.isList (by omega) (by rw[zH]<;>omega) (by omega) (by rw[hj];simpa using ew) ⟨rfl,fin⟩) hs
theorem qx:HM X (Mi X.K):=by
 intro value slice pins s σ H x y v u Q I rx ry h hs
 obtain⟨p,xs,i,z,rfl,rfl,hq,he,q⟩:=h
 cases rx
 obtain⟨t,rfl⟩:=ry
 obtain⟨its,r,pl,hz⟩:=I.tuple hq
 obtain⟨j,h1,h2,h3,h4,h5⟩:=uh he
 obtain⟨w,ew,rw'⟩:=r.get h2
 have hl:=r.length
 have hn:=pU
 have fin:EP X pins σ Q w s:=⟨z,H,I,rw',q⟩
 exact subscriptTail_builtinR (x:=w) pl.typeIs slot_tuple_getitem.lookup
  (getItem_tuple (j:=j) (Q:=fun r s'=>r=w/\EP X pins σ Q r s') pl (by omega) (by omega) (by rw[zH,<- hl];exact h1) (by simpa using ew) ⟨rfl,fin⟩) hs
theorem Jz:HM X MV:=by
 intro value slice pins s σ H x y v u Q I rx ry h hs
 obtain⟨z,i,c,rfl,rfl,hz,he,q⟩:=h
 obtain⟨t,rfl⟩:=rx
 obtain⟨t',rfl⟩:=ry
 obtain⟨j,h1,h2,h3,h4,h5⟩:=uh he
 have hl:z.cps.toList.length=z.length:=by simp[Str.length]
 rw[hl] at h1 h4 h5
 have hn:=pU
 exact tail_any (typeIs_str s z t) slot_str_getitem.lookup (getItem_str (c:=c) (by
  have e1:decide (i < -(2 ^ 63:Int))=false:=yA (by omega)
  have e2:decide (i >= 2 ^ 63)=false:=yA (by omega)
  rw[e1,e2,Bool.or_false]) (by rw[h1];simpa using h2) ⟨.str ⟨#[c]⟩,H,I.tok _,⟨_,rfl⟩,q⟩) hs
def Oo(K:W.Frag):R2:=fun x y H Q=>MG K x y H Q\/Mi K x y H Q\/MV x y H Q
theorem Lh:HM X (Oo X.K):=Hn.or (qx.or Jz)
theorem yY(its:List Value)(n j:Nat)(u:Value):Obj.mapSeq (·.setIfInBounds j u) { cls:=.type "list",data:=.seq its.toArray n }={ cls:=.type "list",data:=.seq (its.set j u).toArray n }:=by
 simp[Obj.mapSeq]
theorem Inv.lst{pins:List (Addr×Obj)}{σ:St}{H:Hp}{s:Shared}{p:Addr}{xs:List V}(I:Inv X pins σ H s)(h:H p=some (.lst xs)) :
  ∃ (its:List Value) (n:Nat),aF xs its/\s.heap.get? p=some { cls:=.type "list",data:=.seq its.toArray n }/\xs.length<=sizeLine:=by
 obtain⟨z,its,n,r,e⟩:=I.hok p _ h
 exact⟨its,n,r,e,z⟩
theorem Inv.lstUpd{pins:List (Addr×Obj)}{σ:St}{H:Hp}{s:Shared}{p:Addr}{xs ys:List V}{its its':List Value}{n n':Nat}{f:Obj->Obj}(I:Inv X pins σ H s)(h:H p=some (.lst xs))
  (ho:s.heap.get? p=some { cls:=.type "list",data:=.seq its.toArray n }) (hf:f { cls:=.type "list",data:=.seq its.toArray n }={ cls:=.type "list",data:=.seq its'.toArray n' }) (r:aF ys its') (hz:ys.length<=sizeLine) (t:Nat) :
  Inv X pins σ (upd H p (.lst ys)) { s with heap:=s.heap.update p f,toks:=t }:=by
 have e:(s.heap.update p f).get? p=some { cls:=.type "list",data:=.seq its'.toArray n' }:=by
  rw[Heap.get?_update_self f ho (by rw[hf]<;>rfl),hf]
 refine I.write (x:=p) (e:=p) (by rw[h];trivial) (.inl rfl) (fun b u hb q=>(Heap.get?_update_other _ _ (Ne.symm hb)).trans q) ⟨_,e⟩ ?_
 exact⟨hz,its',n',r,e⟩
noncomputable def MX:V->V->V->Hp->(Hp->Prop)->Prop:=fun o i v H Q=>∃p xs k j,o=.ref p/\i=.int k/\H p=some (.lst xs)/\FK xs.length k=some j/\Q (upd H p (.lst (xs.set j v)))
theorem set_list:Mm X MX:=by
 intro pins s σ H o i v ov iv u Q I ro ri rv h
 obtain⟨p,xs,k,j,rfl,rfl,hp,hj,q⟩:=h
 cases ro
 obtain⟨t,rfl⟩:=ri
 obtain⟨its,n,r,ho,hz⟩:=I.lst hp
 obtain⟨h1,h2,h3,h4⟩:=AR hj
 have hl:=r.length
 have hn:=pU
 have I':Inv X pins σ (upd H p (.lst (xs.set j v))) { s with heap:=s.heap.update p (Obj.mapSeq (·.setIfInBounds j u)) } :=
  I.lstUpd hp ho (yY its n j u) (r.set rv j) (by rw[yD];exact hz) s.toks
 by_cases h0:0<=k
 ·have hk:k.toNat=j:=by
   rw[seqIndex_of h0 h4] at h1
   exact Option.some.inj h1
  exact W.ki_setAt ho h0 (by omega) (by rw[zH,<- hl];exact h4) (by rw[hk];exact⟨_,I',q⟩)
 ·have hk:(k+(its.toArray.size:Int)).toNat=j:=by
   rw[seqIndex_neg (by omega) h3] at h1
   rw[zH,<- hl]
   exact Option.some.inj h1
  exact W.ki_setBack ho (by omega) (by rw[zH,<- hl];exact h3) (by omega) (by rw[hk];exact⟨_,I',q⟩)
theorem tN:d6 X (.builtin "len") (fun xs H Q=>∃p ys,xs=[.ref p]/\(iJ X.K H p ys\/jQ X.K H p ys)/\Q (.int ys.length) H):=by
 intro pins s σ H xs us Q I r h
 obtain⟨p,ys,rfl,hq,q⟩:=h
 obtain⟨u,rfl,rx⟩:=vals1 r
 cases rx
 have hn:=pU
 rcases hq with hq|hq
 ·obtain⟨its,r',pl,hz⟩:=I.list hq
  have hlen:=r'.length
  exact Calls.call_len_list pl.isList (by simp only[zH]<;>omega) ⟨.int ys.length,H,I.tok _,⟨s.toks+1,by rw[zH,hlen]⟩,q⟩
 ·obtain⟨its,r',pl,hz⟩:=I.tuple hq
  have hlen:=r'.length
  exact len_tuple pl (by simp only[zH]<;>omega) ⟨.int ys.length,H,I.tok _,⟨s.toks+1,by rw[zH,hlen]⟩,q⟩
theorem sU:d6 X (.type "list") (fun xs H Q=>∃p ys,xs=[.ref p]/\(iJ X.K H p ys\/jQ X.K H p ys)/\∀l,H l=none->Q (.ref l) (upd H l (.lst ys))):=by
 intro pins s σ H xs us Q I r h
 obtain⟨p,ys,rfl,hq,q⟩:=h
 obtain⟨u,rfl,rx⟩:=vals1 r
 cases rx
 have fin:∀ (its:List Value),aF ys its->ys.length<=sizeLine->∀ (h':Heap) (c':Nat),(∀b o',s.heap.get? b=some o'->h'.get? b=some o') ->
   h'.get? s.heap.objs.size=some { cls:=.type "list",dict:=none,data:=.seq its.toArray c',slots:=#[] }->EP X pins σ Q (.ref s.heap.objs.size) { s with heap:=h' }:=fun its r' hz h' c' kp e =>
  ⟨.ref s.heap.objs.size,_,I.laid (t':=s.toks) kp (Nat.le_refl _) (show eX X.prog X.w _ h' _ (.lst ys) from ⟨hz,its,c',r',e⟩),rfl,q _ (I.hok.fresh (Nat.le_refl _))⟩
 rcases hq with hq|hq
 ·obtain⟨its,r',pl,hz⟩:=I.list hq
  have hlen:=r'.length
  obtain⟨o,ho,hc,n,hd⟩:=pl.isList
  exact call_list_seq p (.inl rfl) ho hc hd (fun h' c' kp e=>fin its r' hz h' c' kp e) (by simp only[zH]<;>omega)
 ·obtain⟨its,r',pl,hz⟩:=I.tuple hq
  have hlen:=r'.length
  obtain⟨o,ho,hc,n,hd⟩:=pl
  exact call_list_seq p (.inr rfl) ho hc hd (fun h' c' kp e=>fin its r' hz h' c' kp e) (by simp only[zH]<;>omega)
theorem qQ:d6 X (.type "tuple") (fun xs H Q=>∃p ys,xs=[.ref p]/\((iJ X.K H p ys/\∀l,H l=none->Q (.ref l) (upd H l (.tup ys)))\/(jQ X.K H p ys/\Q (.ref p) H))):=by
 intro pins s σ H xs us Q I r h
 obtain⟨p,ys,rfl,h⟩:=h
 obtain⟨u,rfl,rx⟩:=vals1 r
 cases rx
 rcases h with ⟨hq,q⟩|⟨hq,q⟩
 ·obtain⟨its,r',pl,hz⟩:=I.list hq
  have hlen:=r'.length
  refine call_tuple_list pl.isList (fun h' kp=>?_) (by simp only[zH]<;>omega)
  have I1:Inv X pins σ H { s with heap:=h' }:=I.kept (t':=s.toks) kp
  have I2:Inv X pins σ (upd H h'.objs.size (.tup ys)) { s with heap:=h'.push { cls:=.type "tuple",data:=.seq its.toArray } } :=
   I1.laid (t':=s.toks) (fun b o e=>zV _ e) (Nat.le_refl _) (show eX X.prog X.w _ _ _ (.tup ys) from ⟨hz,its,r',mJ.new _ _⟩)
  exact⟨.ref h'.objs.size,_,I2,rfl,q _ (I1.hok.fresh (Nat.le_refl _))⟩
 ·obtain⟨its,r',pl,hz⟩:=I.tuple hq
  exact call_tuple_same pl ⟨.ref p,H,I,rfl,q⟩
def Ol(K:W.Frag)(T:String)(x:V)(H:Hp):Prop:=match x with
 | .str _=>T="str"
 | .int _=>T="int"
 | .ref p=>(T="list"/\∃xs,iJ K H p xs)\/(T="tuple"/\∃xs,jQ K H p xs) \/
   (T="dict"/\((∃kvs,H p=some (.dK kvs))\/∃kvs,H p=some (.dT kvs)))\/(T="set"/\∃S n,H p=some (.set S n))
 | _=>False
theorem J7{pins:List (Addr×Obj)}{σ:St}{H:Hp}{s:Shared}{T:String}{x:V}{v:Value}(I:Inv X pins σ H s)(r:RelV x v)(ty:Ol X.K T x H) :
  s.TypeIs v T/\∀a,v=.ref a->∃ob,s.heap.get? a=some ob/\ob.dict=none:=by
 cases x with
 | str z =>
  obtain⟨t,rfl⟩:=r
  cases (show T="str" from ty)
  exact⟨typeIs_str s z t,fun _ e=>nomatch e⟩
 | int i =>
  obtain⟨t,rfl⟩:=r
  cases (show T="int" from ty)
  exact⟨typeIs_int s i t,fun _ e=>nomatch e⟩
 | ref p =>
  cases r
  rcases ty with ⟨rfl,xs,hq⟩|⟨rfl,xs,hq⟩|⟨rfl,hk⟩|⟨rfl,S,n,hk⟩
  ·obtain⟨its,_,pl,_⟩:=I.list hq
   refine⟨pl.isList.typeIs,fun a e=>?_⟩
   cases e
   obtain⟨o,n,e,c,hd,_⟩:=pl
   exact⟨o,e,hd⟩
  ·rcases hq with hq|⟨o,its,n,hk,hc,hd,_⟩
   ·obtain⟨_,_,_,⟨o,e1,e2,_⟩,o2,e3,e4⟩:=hq.ok I.hok
    exact⟨⟨o,e1,e2⟩,fun a e=>by cases e;exact⟨o2,e3,e4⟩⟩
   ·exact⟨⟨o,I.kIn p o hk,hc⟩,fun a e=>by cases e;exact⟨o,I.kIn _ o hk,hd⟩⟩
  ·have z:∃o,s.heap.get? p=some o/\o.ExactDict:=by
    rcases hk with ⟨kvs,hk⟩|⟨kvs,hk⟩
    ·obtain⟨_,_,_,_,o,_,_,e,ex,_⟩:=I.hok p _ hk
     exact⟨o,e,ex⟩
    ·obtain⟨_,_,_,_,o,_,_,e,ex,_⟩:=I.hok p _ hk
     exact⟨o,e,ex⟩
   obtain⟨o,e,ex⟩:=z
   refine⟨⟨o,e,ex.1⟩,fun a e2=>?_⟩
   cases e2
   exact⟨o,e,ex.2.1⟩
  ·obtain⟨o,_,_,_,e,ex,_⟩:=I.hok p _ hk
   refine⟨⟨o,e,ex.1⟩,fun a e2=>?_⟩
   cases e2
   exact⟨o,e,ex.2.1⟩
 | _=>exact False.elim ty
def OF(K:W.Frag)(T:String)(r:V->List V->Hp->VK->Prop)(to:TE)(t:TA):TE:=fun σ H Q=>to σ H fun x H1=>Ol K T x H1/\t σ H1 fun xs H2=>r x xs H2 Q
variable {o e:Expr}{es:List Expr}{to:TE}{t:TA}{name:Str}{apos cpos:Pos}{T id:String}{r:V->List V->Hp->VK->Prop}
theorem rS(pa:PlainAttrs T)(slot:Slot T name id)(hty:typeOf (.builtin id)=pure (.type "method_descriptor"))(hm:Os X id r)(ho:PE X o to)(ha:PA X (e::es) t)
  (hbase:attributeBase o name X.env (eval o X.env)=eval o X.env:=by rfl)
  (hfew:((backTo cpos (starEach (e::es) X.env)).all (fun x=>!x.1)&&(backToKw cpos (keywordEach [] X.env)).all (fun x=>x.1.isSome)
   &&decide ((e::es).length+([]:List Keyword).length+(if ([]:List Keyword).isEmpty then 0 else 1) < 30))=true:=by rfl)
  (hline:(apos.endLine == cpos.line)=true:=by rfl) (hs:starEach (e::es) X.env=(false,eval e X.env)::starEach es X.env:=by rfl) (hplain:(backTo cpos (starEach es X.env)).any (·.1)=false:=by rfl) :
  PE X (.Call (.Attribute o name apos) (e::es) [] cpos) (OF X.K T r to t):=by
 intro pins s σ H Q I h
 refine wpAny_Call_method_late hbase hfew hline rfl (cg (ho pins s σ H _ I h) fun v s1 ⟨x,H1,I1,r1,ty,q1⟩=>?_)
 obtain⟨h1,h2⟩:=J7 I1 r1 ty
 refine⟨T,id,pa,slot,hty,h1,h2,?_⟩
 have hA:=ha cpos pins s1 σ H1 _ I1 q1
 rw[hs] at hA ⊢
 refine Calls.callWith_builtin (by show (false||(backTo cpos (starEach es X.env)).any (·.1))=false;rw[hplain]<;>rfl) (Calls.evalArgs_plain ?_)
 exact cg hA fun us s2 ⟨vs,H2,I2,r2,q2⟩=>hm pins s2 σ H2 x vs v us Q I2 r1 r2 q2
/- xs.append(e),list.index on a module's tuple .. are Os facts of 06m -/
end
noncomputable def LF(X:Cx)(id:String)(r:V->List V->Hp->VK->Prop):Prop :=
 ∀ (pins:List (Addr×Obj)) (s:Shared) (σ:St) (H:Hp) (x:V) (xs:List V) (v:Value) (us:List Value) (Q:VK),Inv X pins σ H s->RelV x v->aF xs us->r x xs H Q ->
  wpAny (model X.prog X.w) X.A (call (.builtin id) (v::us)) (EP X pins σ Q) X.xe s
theorem aF.one:∀ {x:V}{us:List Value},aF [x] us->∃u,us=[u]/\RelV x u
 | _,_,.cons r .nil=>⟨_,rfl,r⟩
theorem aF.two:∀ {x y:V}{us:List Value},aF [x,y] us->∃u v,us=[u,v]/\RelV x u/\RelV y v
 | _,_,_,.cons r (.cons q .nil)=>⟨_,_,rfl,r,q⟩
theorem aF.reverse{xs:List V}{us:List Value}(h:aF xs us):aF xs.reverse us.reverse:=by
 induction h with
 | nil=>exact .nil
 | cons r t ih=>rw[List.reverse_cons,List.reverse_cons];exact aF.append ih (.cons r .nil)
theorem aF.rep{xs:List V}{us:List Value}(h:aF xs us):∀k:Nat,aF (List.replicate k xs).flatten (List.replicate k us).flatten
 | 0=>.nil
 | k+1=>by
  rw[List.replicate_succ,List.replicate_succ,List.flatten_cons,List.flatten_cons]
  exact aF.append h (aF.rep h k)
theorem foldl_rep(its:List Value):∀ (k:Nat) (acc:List Value),
  List.foldl (fun x1 x2=>x1++x2) acc.toArray (List.replicate k its.toArray)=(acc++(List.replicate k its).flatten).toArray
 | 0,acc=>by simp
 | k+1,acc=>by
  have e:acc.toArray++its.toArray=(acc++its).toArray:=by simp
  have e2:(acc++its)++(List.replicate k its).flatten=acc++(List.replicate (k+1) its).flatten:=by
   rw[List.replicate_succ,List.flatten_cons,List.append_assoc]
  rw[<- e2,<- foldl_rep its k (acc++its),<- e,List.replicate_succ,yK]
section
variable {X:Cx}{pins:List (Addr×Obj)}{σ:St}{H:Hp}{s:Shared}{l b:Addr}{xs ys zs:List V}
theorem Inv.lset{its its':List Value}{n:Nat}{f:Array Value->Array Value}{t':Nat}(I:Inv X pins σ H s)(hH:H l=some (.lst xs))
  (e:s.heap.get? l=some { cls:=.type "list",data:=.seq its.toArray n }) (hf:f its.toArray=its'.toArray) (hv:aF ys its') (hz:ys.length<=sizeLine) :
  Inv X pins σ (upd H l (.lst ys)) { s with heap:=s.heap.update l (Obj.mapSeq f),toks:=t' }:=by
 have q:=PySem.IsL.update e f
 rw[hf] at q
 refine I.write (x:=l) (e:=l) (by rw[hH];exact trivial) (.inl rfl) (fun b' u hb hu=>(Heap.get?_update_other s.heap (Obj.mapSeq f) (Ne.symm hb)).trans hu) ⟨_,q⟩ ?_
 exact⟨hz,its',_,hv,q⟩
theorem Inv.lnew{its:List Value}{t':Nat}(I:Inv X pins σ H s)(hv:aF ys its)(hz:ys.length<=sizeLine) :
  Inv X pins σ (upd H s.heap.objs.size (.lst ys)) { s with heap:=s.heap.push { cls:=.type "list",data:=.seq its.toArray },toks:=t' } :=
 I.laid (fun _ _ q=>zV _ q) (Nat.le_refl _) ⟨hz,its,0,hv,zY _ rfl⟩
theorem Inv.fresh(I:Inv X pins σ H s):H s.heap.objs.size=none:=I.hok.fresh (Nat.le_refl _)
theorem Inv.lstM(I:Inv X pins σ H s)(hH:H l=some (.lst xs)):xs.length<=sizeLine/\∃ (its:List Value) (n:Nat),aF xs its/\xs.length=its.length/\s.heap.get? l=some { cls:=.type "list",data:=.seq its.toArray n }:=by
 obtain⟨z,its,n,r,e⟩:=I.hok l _ hH
 exact⟨z,its,n,r,r.length,e⟩
theorem vj{n:Nat}(h:n<=sizeLine):Builtin.List.listTooLong n=false:=by
 unfold Builtin.List.listTooLong
 exact yA (by omega)
end
section
variable {X:Cx}
noncomputable def Gp:V->List V->Hp->VK->Prop:=fun x vs H Q=>∃l xs y,x=.ref l/\vs=[y]/\H l=some (.lst xs)/\xs.length < sizeLine/\Q .non (upd H l (.lst (xs++[y])))
theorem sf:LF X "list.append" Gp:=by
 intro pins s σ H x vs v us Q I rx rv h
 obtain⟨l,xs,y,rfl,rfl,hH,hz,q⟩:=h
 cases rx
 obtain⟨u,rfl,ru⟩:=rv.one
 obtain⟨z,its,n,r,hl,e⟩:=I.lstM hH
 refine call_meets F.slot_list_append ⟨_,e,rfl⟩ F.entry_list_append (F.args_list_append_2 _ _) (PySem.list_append l its.toArray n u (by rw[zH];omega)) ⟨e,?_⟩
 refine⟨.non,_,I.lset (its':=its++[u]) hH e (by simp) (r.append (.cons ru .nil)) ?_,rfl,q⟩
 rw[zN,List.length_singleton]
 omega
noncomputable def Hj:V->List V->Hp->VK->Prop:=fun x vs H Q=>∃l b xs zs,x=.ref l/\vs=[.ref b]/\H l=some (.lst xs)/\H b=some (.lst zs)/\xs.length+zs.length<=sizeLine/\Q .non (upd H l (.lst (xs++zs)))
theorem Bp:LF X "list.extend" Hj:=by
 intro pins s σ H x vs v us Q I rx rv h
 obtain⟨l,b,xs,zs,rfl,rfl,hH,hB,hz,q⟩:=h
 cases rx
 obtain⟨u,rfl,ru⟩:=rv.one
 cases ru
 obtain⟨z,its,n,r,hl,e⟩:=I.lstM hH
 obtain⟨z2,its2,n2,r2,hl2,e2⟩:=I.lstM hB
 have hsz:its.toArray.size+its2.toArray.size<=sizeLine:=by rw[zH,zH];omega
 have hlong:¬ (!its.toArray.isEmpty&&Builtin.List.listTooLong (its.toArray.size+its2.toArray.size))=true:=by
  rw[vj hsz,Bool.and_false]
  exact Bool.false_ne_true
 refine call_meets F.slot_list_extend ⟨_,e,rfl⟩ F.entry_list_extend (F.args_list_extend_2 _ _)
  (AutoSeq1.list_extend_list_list_0 l its.toArray n b its2.toArray n2 hlong (by rw[zH];omega) (by omega)) ⟨e,e2,?_⟩
 refine⟨.non,_,I.lset (its':=its++its2) hH e (by simp) (r.append r2) ?_,rfl,q⟩
 rw[zN]
 omega
def NU:R2:=fun x y H Q=>∃l k xs,x=.ref l/\y=.int k/\H l=some (.lst xs)/\-(2 ^ 63)<=k/\k < 2 ^ 63/\xs.length * k.toNat<=sizeLine /\
 ∀p,H p=none->Q (.ref p) (upd H p (.lst (List.replicate k.toNat xs).flatten))
theorem len_rep{α:Type}(xs:List α)(k:Nat):(List.replicate k xs).flatten.length=k * xs.length:=by
 induction k with
 | zero=>simp
 | succ k ih=>rw[List.replicate_succ,List.flatten_cons,zN,ih,Nat.succ_mul,Nat.add_comm]
theorem Ka:ij X (binaryOp .Mult) NU:=by
 intro pins s σ H x y v u Q I rx ry h
 obtain⟨l,k,xs,rfl,rfl,hH,h1,h2,hz,q⟩:=h
 cases rx
 obtain⟨t,rfl⟩:=ry
 obtain⟨z,its,n,r,hl,e⟩:=I.lstM hH
 have hlen:its.toArray.size * k.toNat<=sizeLine:=by rw[zH,<- hl];exact hz
 have hcap:¬ its.toArray.size * k.toNat > (2 ^ 63 - 1) / 8:=by
  have:(sizeLine:Nat)<=(2 ^ 63 - 1) / 8:=by decide
  omega
 have hfit:¬ (!Builtin.List.listFitsIndex k)=true:=by
  rw[fitsIndex_both h1 h2]
  exact Bool.false_ne_true
 have hlong:¬ Builtin.List.listTooLong (its.toArray.size * k.toNat)=true:=by
  rw[vj hlen]
  exact Bool.false_ne_true
 have hnew:List.foldl (fun x1 x2=>x1++x2) #[] (List.replicate (if its.toArray.isEmpty=true then 0 else k.toNat) its.toArray)=(List.replicate k.toNat its).flatten.toArray:=by
  have f0:∀m:Nat,List.foldl (fun x1 x2=>x1++x2) #[] (List.replicate m its.toArray)=(List.replicate m its).flatten.toArray:=fun m=>by
   have:=foldl_rep its m []
   rw[List.nil_append] at this
   exact this
  rw[f0]
  cases its with
  | nil=>simp
  | cons a r'=>rw[if_neg (by simp)]
 refine wpAny_binaryOp_repeat_ref (T:="list") (U:="int") (by decide) ⟨_,e,rfl⟩ (fun s'=>typeIs_int s' k t) noFill_list_mul F.fills_int_mul F.slot_int_rmul repeat_list F.slot_int_index.lookup
  (call_meets F.slot_int_rmul (typeIs_int s k t) F.entry_int_rmul (F.args_int_rmul_2 _ _) (int___rmul___int_list k t l its.toArray n)
   ⟨e,rfl,⟨_,e,rfl⟩,call_meets F.slot_list_mul ⟨_,e,rfl⟩ F.entry_list_mul (F.args_list_mul_2 _ _) (AutoListH.list___mul___list_int_3 l its.toArray n k t hfit hcap hlong) ⟨e,?_⟩⟩)
 rw[hnew]
 exact⟨.ref _,_,I.lnew (t':=s.toks) (r.rep k.toNat) (by rw[len_rep,Nat.mul_comm];exact hz),rfl,q _ I.fresh⟩
end
section
variable {prog:Program}{w:World}{A:Around}{E:Value->Shared->Prop}{s:Shared}
end
section
variable {X:Cx}
end
end L2
namespace Att
open PySem PySem.W PySem.Calls PyProof.Rows
theorem ints_of_wellAll{P:Params}{h:Heap}:∀ (ns:List Int) (vs:List Value),WellAll P h vs (ns.map WData.int)->IntsAre vs ns:=by
 intro ns
 induction ns with
 | nil =>
  intro vs w
  rw[List.map_nil] at w
  cases w
  exact .nil
 | cons n ns ih =>
  intro vs w
  rw[zI] at w
  cases w with
  | cons a b =>
   cases a
   exact .cons _ _ (ih _ b)
theorem script_of{l:OpenLaw}{n:Nat}(hn:l.most=some n){P:Params}{h:Heap}{args:List WData}{vals:List Value}
  (hpre:l.row.toRowW.claim.pre args=true) (hwl:WellAll P h vals args) :
  ∃a vs ns,vals=[Value.ref a]/\args=[WData.list (ns.map WData.int)]/\h.get? a=some { cls:=.type "list",data:=.seq vs.toArray }/\IntsAre vs ns/\ns.length<=n:=by
 have hsh:WShape.hasAll [] args [.list .int]=true:=(pre_splitW hpre).1
 have hc:l.pre.holds [] { args:=args }=true:=(pre_splitW hpre).2
 obtain⟨d,r,rfl,h1,h2⟩:=hasAllW_cons hsh
 obtain rfl:=hasAllW_nil h2
 obtain⟨xs,rfl,h3⟩:=hasW_list h1
 obtain⟨ns,rfl⟩:=items_int h3
 have hlen:ns.length<=n:=by
  unfold OpenLaw.pre at hc
  have h4:(WTm.not (.lt (.lit (.int (n:Int))) (.len (.arg 0)))).holds [] { args:=[.list (ns.map .int)] }=true:=by
   have h4:=(holds_andW hc).1
   rw[hn] at h4
   exact h4
  have h5:=condW_of h4 (w_not (w_lt w_lit (w_len_list (w_arg rfl))))
  rw[zD] at h5
  refine Nat.le_of_not_lt fun q=>?_
  have q':(n:Int) < ((ns.length:Nat):Int):=by omega
  first
   | (rw[yB q'] at h5;exact absurd h5 (by decide))
   | (simp at h5;omega)
 cases hwl with
 | cons w1 w2 =>
  cases w2
  cases w1 with
  | list ho hall=>exact⟨_,_,ns,rfl,rfl,ho,ints_of_wellAll ns _ hall,hlen⟩
theorem post_true(l:OpenLaw)(args:List WData):l.row.toRowW.claim.post args (.bool true) args=true :=
 postW_of (r:=l.row.toRowW) (X:=(true == true))
  (show WShape.has [] (.bool true) .bool=true by first|rfl|decide|simp[WShape.has,WShape.arms,WShape.armsAll])
  (show (WTm.eq .res (.lit (.bool true))).value [] { args:=args,res:=some (.bool true),after:=args }=some (.bool (true == true)) from w_eq_bool (w_res rfl) w_lit) rfl
theorem attach_call{l:OpenLaw}{n:Nat}{q:Program}{loose:List Str}{XP:(Str->Option Value)->Heap->Prop}{YP:World->Heap->Prop}{d:DefRec}
  (hn:l.most=some n) (hdf:d.params.defaults=[])
  (call:∀ (w:World) (s₀ s₁:Shared) (mg mb:Str->Option Value) (fa:Addr) (o:Obj) (pm cd doc:Value) (a:Addr) (vs:List Value) (ns:List Int),
   Ground q loose [] XP w s₀ mg mb s₁.heap->YP w s₁.heap ->
   s₁.heap.get? fa=some o->o.data=.func (docDef d.name d.params d.body d.scope pm cd doc)->s₁.heap.CodeRec cd d.name->mg d.name=some (.ref fa) ->
   s₁.heap.get? a=some { cls:=.type "list",data:=.seq vs.toArray }->IntsAre vs ns->ns.length<=n->s₁.gens=#[] ->
   codeAny (model l.prog w) callerA (.call (.ref fa) ⟨[.ref a],[]⟩) (fun r s'=>r=.ok (.ret (.bool true))/\OldK s₁.heap s'.heap/\s'.os=s₁.os/\AllBare s'.gens) s₁) :
  WalkO q loose XP YP l.row.toRowW d [] (fun f vs=>PySem.call f vs):=by
 intro w s₀ s₁ mg mb G Y fa o pm cd doc dV kV ho hd hcd hD hmg hg args vals as hpre hlay hrd hwl hlo
 obtain rfl:dV=.none:=Dflts.none hD hdf
 obtain rfl:kV=.none:=Dflts.noKw hD
 obtain⟨a,vs,ns,rfl,rfl,hobj,hints,hlen⟩:=script_of hn hpre hwl
 refine enter_call (codeAny_mono (call w s₀ s₁ mg mb fa o pm cd doc a vs ns G Y ho (fd_plain hd) hcd hmg hobj hints hlen hg) fun r s' hq=>?_)
 obtain⟨rfl,h2,h3,h4⟩:=hq
 exact⟨.inl ⟨.bool true,.bool true,[],rfl,fun _=>rfl,.bool true,post_true l _,fun _=>⟨List.Pairwise.nil,fun _ hm=>(nomatch hm)⟩⟩,h2,h3,h4⟩
section
variable {prog:Program}{w:World}{A:Around}{E:Value->Shared->Prop}{s:Shared}{K:Frag}
end
end Att
namespace L2
open PySem PySem.Spec PyProof.Rows
theorem sE:∀ {vs:List Value}{ns:List Int},IntsAre vs ns->aF (ns.map V.int) vs
 | _,_,.nil=>.nil
 | _,_,.cons n t h=>.cons ⟨t,rfl⟩ (sE h)
noncomputable def gM(s:Stmt):Arguments:=match s with
 | .FunctionDef _ a _ _ _ _ _ _ _ _=>a
 | _=>{ posonlyargs:=[],args:=[],vararg:=none,kwonlyargs:=[],kw_defaults:=[],kwarg:=none,defaults:=[] }
noncomputable def cy(s:Stmt):List Stmt:=match s with
 | .FunctionDef _ _ b _ _ _ _ _ _ _=>b
 | _=>[]
noncomputable def aO(s:Stmt):Scope:=match s with
 | .FunctionDef _ _ _ _ _ _ sc _ _ _=>sc
 | _=>{ kind:=.function,names:=[],isGenerator:=false,isCoroutine:=false }
noncomputable abbrev LD:Cy:=fun _ _ _ _ _ _=>False
noncomputable abbrev E0:XK:=fun _ _ _=>False
theorem Me{X:Cx}:xU LD X E0:=fun _ _ _ _ _ _ _ h=>h.elim
structure Hf(K:W.Frag)(x qual:Str)(st:Stmt)(f:Addr)(fd:FuncData):Prop where
 ex:∃ (oc:Value) (od:Option Addr) (kV doc pm:Value) (an:Option Addr) (cdv ct:Value) (osl:Array (Option Value)),
  fd=W.fnOf x qual (gM st) (cy st) (aO st) .none kV doc pm an cdv ct/\K.lookup f=some ⟨oc,od,.func fd,osl⟩/\W.codeIn K cdv qual=true
 kp:W.keepIn K (.ref f)=true
section
variable {P:Program}{w:World}{K:W.Frag}{mg:Str->Option Value}{base:Heap}
theorem Hf.binds{x qual:Str}{st:Stmt}{f:Addr}{fd:FuncData}{ps:List Str}(F:Hf K x qual st f fd)
  (h:∀ (kV doc pm:Value) (an:Option Addr) (cdv ct:Value) (us:List Value),us.length=ps.length->bindArgs (W.fnOf x qual (gM st) (cy st) (aO st) .none kV doc pm an cdv ct) ⟨us,[]⟩=pure (ps.zip us)):Binds K fd ps []:=by
 obtain⟨oc,od,kV,doc,pm,an,cdv,ct,osl,rfl,lk,hcd⟩:=F.ex
 exact .all (h kV doc pm an cdv ct)
theorem tY{x qual:Str}{st:Stmt}{f:Addr}{oc:Value}{od an:Option Addr}{osl:Array (Option Value)}{kV doc pm cdv ct:Value}(l:K.lookup f=some ⟨oc,od,.func (W.fnOf x qual (gM st) (cy st) (aO st) .none kV doc pm an cdv ct),osl⟩)
  (c:W.codeIn K cdv qual=true) (k:W.keepIn K (.ref f)=true):Hf K x qual st f (W.fnOf x qual (gM st) (cy st) (aO st) .none kV doc pm an cdv ct):=⟨⟨oc,od,kV,doc,pm,an,cdv,ct,osl,rfl,l,c⟩,k⟩
end
section
variable {X:Cx}
end
theorem vq{A B:Prop}(h:B):if false=true then A else B:=by
 rw[if_neg Bool.false_ne_true]
 exact h
theorem vC{A B:Prop}(h:A):if true=true then A else B:=by
 rw[if_pos rfl]
 exact h
def bc(H H':Hp):Prop:=∀b o,H b=some o->H' b=some o
theorem bc.refl(H:Hp):bc H H:=fun _ _ h=>h
theorem bc.trans{H H1 H2:Hp}(a:bc H H1)(b:bc H1 H2):bc H H2:=fun c o h=>b c o (a c o h)
theorem bc.free{H H':Hp}(e:bc H H'){l:Addr}(h:H' l=Option.none):H l=Option.none:=by
 cases q:H l with
 | none=>rfl
 | some o =>
  rw[e l o q] at h
  cases h
theorem bc.seq{K:W.Frag}{H H':Hp}{a:Addr}{xs:List V}(e:bc H H')(h:iJ K H a xs):iJ K H' a xs:=by
 rcases h with (h|⟨o,h⟩)|h
 ·exact .inl (.inl (e _ _ h))
 ·exact .inl (.inr ⟨o,e _ _ h⟩)
 ·exact .inr h
end L2
namespace Hd
open PySem L2 PySem.Spec PyProof.Rows
noncomputable def en(P:Params)(x:String)(t:Nat)(v:Value):DictEntry:=⟨PyData.keyHash P (Str.ofString x),.str (Str.ofString x) t,v⟩
noncomputable def fo(x:Str)(st:Stmt)(pm:Value)(c:Addr):Obj:=⟨.type "function",none,.func (W.fnOf x x (gM st) (cy st) (aO st) .none .none .none pm none (.ref c) .none),#[]⟩
noncomputable def co(vs:List Value):Obj:=⟨.type "code",none,.fields vs.toArray,#[]⟩
noncomputable def rfV(n:Nat):Value:=if n=0 then .none else .ref n
noncomputable def cdo(x:Str)(t l n a b c d e f u:Nat):Obj:=co [.str x t,.str x (t+1),.str "/claim/cut.py" (t+2),.int l 0,.int n 0,.int 0 0,.int 0 0,.int 3 0,rfV a,.bool true,.int 181 0,rfV b,rfV c,rfV d,rfV e,rfV f,.int u 0,.int l 0,.str "/claim/cut.py" (u+1)]
theorem lf_all{S A B C D E F J O:Type}{x:Option S}{f:S->A×B×C×D×E×F×J}{o:S->O}{g:A×B×C×D×E×F×J}{v:O}(h0:x.map (fun s=>(f s).1)=some g.1)(h1:x.map (fun s=>(f s).2.1)=some g.2.1)(h2:x.map (fun s=>(f s).2.2.1)=some g.2.2.1)(h3:x.map (fun s=>((f s).2.2.2.1,(f s).2.2.2.2.1))=some (g.2.2.2.1,g.2.2.2.2.1))(h4:x.map (fun s=>(f s).2.2.2.2.2.1)=some g.2.2.2.2.2.1)(h5:x.map (fun s=>(f s).2.2.2.2.2.2)=some g.2.2.2.2.2.2)(h6:x.map o=some v):x.map (fun s=>(f s,o s))=some (g,v):=by
 obtain⟨a,b,c,d,e,i,j⟩:=g
 cases x with
 | none=>cases h0
 | some s =>
  simp only[zB,yM,Prod.mk.injEq] at h0 h1 h2 h3 h4 h5 h6 ⊢
  refine⟨?_,h6⟩
  generalize f s=t at *
  obtain⟨a',b',c',d',e',i',j'⟩:=t
  dsimp only at *
  obtain⟨h3,h3'⟩:=h3
  subst h0 h1 h2 h3 h3' h4 h5
  rfl
end Hd
namespace K62
open PySem L2 PySem.Spec PyProof.Rows Hd PySem.W
noncomputable abbrev top(i:Nat):Stmt:=PySem.Challenge.pw_stillflow_k62_whole_within.main.body.getD i (.Pass ⟨0,0,0,0⟩)
noncomputable def vw:Program:=W.view PySem.Challenge.pw_stillflow_k62_whole_within [1,2,3,5,6,7,8,9,10,11,12,13,14,15,16,17,18,19,20,21,22,23,24,26,27,28,29,30,31,32,34,35,36,37,38,39,40,41,43,44,45,46,47,48,49,50,52,53,54,55,56,57,58,59,60]
noncomputable def ju:Value:=(.str "stillflow.worlds" 239)
noncomputable def Aw:Value:=(.str "stillflow.flows" 374)
noncomputable def xn:Value:=(.str "stillflow.finding" 428)
noncomputable def xo:Value:=(.str "stillflow.papers" 499)
noncomputable def u0:Value:=(.str "law_stillflow_k62_whole_within" 565)
noncomputable def Kf(P:Params):W.Frag:=[(3,⟨.type "dict",none,.dict #[en P "__name__" 165 (.str "law_stillflow_k62_whole_within" 565),en P "__doc__" 166 .none,en P "__package__" 167 .none,en P "__loader__" 168 (.builtin "__main__.__loader__#opaque"),en P "__spec__" 169 .none,en P "__annotations__" 170 (.ref 6),en P "__builtins__" 171 (.ref 4),en P "__file__" 173 (.str "/claim/cut.py" 172),en P "__cached__" 174 .none,en P "FlowError" 206 (.ref 24),en P "NoWorld" 222 (.ref 37),en P "NoPlan" 238 (.ref 49),en P "MOST_PLACES" 242 (.int 4 241),en P "MOST" 244 (.int 9 243),en P "is_whole" 253 (.ref 58),en P "is_number" 261 (.ref 65),en P "is_long" 270 (.ref 72),en P "are_likes" 276 (.ref 77),en P "is_end" 284 (.ref 84),en P "is_way" 293 (.ref 91),en P "are_parts" 299 (.ref 96),en P "liked_pairs" 305 (.ref 101),en P "is_world" 311 (.ref 106),en P "through" 317 (.ref 111),en P "keeps_amounts" 323 (.ref 116),en P "is_plan" 329 (.ref 121),en P "check_world" 336 (.ref 128),en P "check_plan" 344 (.ref 135),en P "replaced" 353 (.ref 142),en P "turned_order" 361 (.ref 149),en P "turned" 367 (.ref 154),en P "turned_plan" 373 (.ref 159),en P "ways_of" 381 (.ref 164),en P "chosen_by" 387 (.ref 169),en P "wants_more" 393 (.ref 174),en P "why_kept" 402 (.ref 181),en P "first_leaving" 411 (.ref 188),en P "is_still" 419 (.ref 195),en P "rests" 427 (.ref 202),en P "chosen_by_all" 435 (.ref 207),en P "limits" 441 (.ref 212),en P "lowered" 450 (.ref 219),en P "refused" 462 (.ref 226),en P "steps" 472 (.ref 233),en P "capped" 483 (.ref 240),en P "givers_best" 490 (.ref 247),en P "takers_best" 498 (.ref 254),en P "paper" 507 (.ref 261),en P "has_row_form" 515 (.ref 268),en P "follows" 526 (.ref 275),en P "caps_behind" 532 (.ref 280),en P "caps_of" 540 (.ref 287),en P "holds" 548 (.ref 294),en P "shows" 558 (.ref 301),en P "is_within" 564 (.ref 306),en P "_law_cell" 574 (.ref 313),en P "_law_drawn" 584 (.ref 320),en P "_law_orders" 599 (.ref 327),en P "_law_world" 605 (.ref 332),en P "_law_used" 611 (.ref 337),en P "_law_fits" 622 (.ref 344),en P "_law_plans" 628 (.ref 349),en P "_law_plan" 642 (.ref 356),en P "law" 648 (.ref 361)] 64,#[]⟩),
 (57,cdo "is_whole" 245 11 3 52 53 0 54 55 56 251),
 (58,fo "is_whole" (top 7) ju 57),
 (64,cdo "is_number" 254 15 2 59 60 0 61 62 63 259),
 (65,fo "is_number" (top 8) ju 64),
 (71,cdo "is_long" 262 17 3 66 67 0 68 69 70 268),
 (72,fo "is_long" (top 9) ju 71),
 (76,cdo "are_likes" 271 19 2 73 74 0 0 0 75 274),
 (77,fo "are_likes" (top 10) ju 76),
 (83,cdo "is_end" 277 25 2 78 79 0 80 81 82 282),
 (84,fo "is_end" (top 11) ju 83),
 (90,cdo "is_way" 285 27 3 85 86 0 87 88 89 291),
 (91,fo "is_way" (top 12) ju 90),
 (95,cdo "are_parts" 294 31 3 92 93 0 0 0 94 297),
 (96,fo "are_parts" (top 13) ju 95),
 (100,cdo "liked_pairs" 300 39 1 97 98 0 0 0 99 303),
 (101,fo "liked_pairs" (top 14) ju 100),
 (105,cdo "is_world" 306 44 1 102 103 0 0 0 104 309),
 (106,fo "is_world" (top 15) ju 105),
 (110,cdo "through" 312 51 4 107 108 0 0 0 109 315),
 (111,fo "through" (top 16) ju 110),
 (115,cdo "keeps_amounts" 318 53 3 112 113 0 0 0 114 321),
 (116,fo "keeps_amounts" (top 17) ju 115),
 (120,cdo "is_plan" 324 55 2 117 118 0 0 0 119 327),
 (121,fo "is_plan" (top 18) ju 120),
 (127,cdo "check_world" 330 62 1 122 123 0 124 125 126 334),
 (128,fo "check_world" (top 19) ju 127),
 (134,cdo "check_plan" 337 65 2 129 130 0 131 132 133 342),
 (135,fo "check_plan" (top 20) ju 134),
 (141,cdo "replaced" 345 69 3 136 137 0 138 139 140 351),
 (142,fo "replaced" (top 21) ju 141),
 (148,cdo "turned_order" 354 71 1 143 144 0 145 146 147 359),
 (149,fo "turned_order" (top 22) ju 148),
 (153,cdo "turned" 362 74 1 150 151 0 0 0 152 365),
 (154,fo "turned" (top 23) ju 153),
 (158,cdo "turned_plan" 368 78 2 155 156 0 0 0 157 371),
 (159,fo "turned_plan" (top 24) ju 158),
 (163,cdo "ways_of" 376 82 3 160 161 0 0 0 162 379),
 (164,fo "ways_of" (top 26) Aw 163),
 (168,cdo "chosen_by" 382 87 4 165 166 0 0 0 167 385),
 (169,fo "chosen_by" (top 27) Aw 168),
 (173,cdo "wants_more" 388 94 4 170 171 0 0 0 172 391),
 (174,fo "wants_more" (top 28) Aw 173),
 (180,cdo "why_kept" 394 101 3 175 176 0 177 178 179 400),
 (181,fo "why_kept" (top 29) Aw 180),
 (187,cdo "first_leaving" 403 109 2 182 183 0 184 185 186 409),
 (188,fo "first_leaving" (top 30) Aw 187),
 (194,cdo "is_still" 412 114 2 189 190 0 191 192 193 417),
 (195,fo "is_still" (top 31) Aw 194),
 (201,cdo "rests" 420 116 2 196 197 0 198 199 200 425),
 (202,fo "rests" (top 32) Aw 201),
 (206,cdo "chosen_by_all" 430 120 3 203 204 0 0 0 205 433),
 (207,fo "chosen_by_all" (top 34) xn 206),
 (211,cdo "limits" 436 126 1 208 209 0 0 0 210 439),
 (212,fo "limits" (top 35) xn 211),
 (218,cdo "lowered" 442 128 3 213 214 0 215 216 217 448),
 (219,fo "lowered" (top 36) xn 218),
 (225,cdo "refused" 451 130 2 220 221 0 222 223 224 460),
 (226,fo "refused" (top 37) xn 225),
 (232,cdo "steps" 463 137 1 227 228 0 229 230 231 470),
 (233,fo "steps" (top 38) xn 232),
 (239,cdo "capped" 473 146 2 234 235 0 236 237 238 481),
 (240,fo "capped" (top 39) xn 239),
 (246,cdo "givers_best" 484 151 1 241 242 0 243 244 245 488),
 (247,fo "givers_best" (top 40) xn 246),
 (253,cdo "takers_best" 491 154 1 248 249 0 250 251 252 496),
 (254,fo "takers_best" (top 41) xn 253),
 (260,cdo "paper" 501 158 1 255 256 0 257 258 259 505),
 (261,fo "paper" (top 43) xo 260),
 (267,cdo "has_row_form" 508 161 2 262 263 0 264 265 266 513),
 (268,fo "has_row_form" (top 44) xo 267),
 (274,cdo "follows" 516 163 3 269 270 0 271 272 273 524),
 (275,fo "follows" (top 45) xo 274),
 (279,cdo "caps_behind" 527 167 2 276 277 0 0 0 278 530),
 (280,fo "caps_behind" (top 46) xo 279),
 (286,cdo "caps_of" 533 176 2 281 282 0 283 284 285 538),
 (287,fo "caps_of" (top 47) xo 286),
 (293,cdo "holds" 541 179 2 288 289 0 290 291 292 546),
 (294,fo "holds" (top 48) xo 293),
 (300,cdo "shows" 549 181 3 295 296 0 297 298 299 556),
 (301,fo "shows" (top 49) xo 300),
 (305,cdo "is_within" 559 187 3 302 303 0 0 0 304 562),
 (306,fo "is_within" (top 50) xo 305),
 (312,cdo "_law_cell" 567 193 2 307 308 0 309 310 311 572),
 (313,fo "_law_cell" (top 52) u0 312),
 (319,cdo "_law_drawn" 575 197 3 314 315 0 316 317 318 582),
 (320,fo "_law_drawn" (top 53) u0 319),
 (326,cdo "_law_orders" 585 201 3 321 322 0 323 324 325 597),
 (327,fo "_law_orders" (top 54) u0 326),
 (331,cdo "_law_world" 600 209 3 328 329 0 0 0 330 603),
 (332,fo "_law_world" (top 55) u0 331),
 (336,cdo "_law_used" 606 225 4 333 334 0 0 0 335 609),
 (337,fo "_law_used" (top 56) u0 336),
 (343,cdo "_law_fits" 612 227 2 338 339 0 340 341 342 620),
 (344,fo "_law_fits" (top 57) u0 343),
 (348,cdo "_law_plans" 623 233 1 345 346 0 0 0 347 626),
 (349,fo "_law_plans" (top 58) u0 348),
 (355,cdo "_law_plan" 629 241 3 350 351 0 352 353 354 640),
 (356,fo "_law_plan" (top 59) u0 355),
 (360,cdo "law" 643 248 1 357 358 0 0 0 359 646),
 (361,fo "law" (top 60) u0 360)]
noncomputable def hk:W.Hook:=W.kmHook Kf [3,57,58,64,65,71,72,76,77,83,84,90,91,95,96,100,101,105,106,110,111,115,116,120,121,127,128,134,135,141,142,148,149,153,154,158,159,163,164,168,169,173,174,180,181,187,188,194,195,201,202,206,207,211,212,218,219,225,226,232,233,239,240,246,247,253,254,260,261,267,268,274,275,279,280,286,287,293,294,300,301,305,306,312,313,319,320,326,327,331,332,336,337,343,344,348,349,355,356,360,361] (fun _=>rfl) [144,161]
noncomputable abbrev rn(w:World):=openEnds treeTable PySem.Challenge.pw_stillflow_k62_whole_within w 6000
noncomputable abbrev sn(s:Shared):=openSeen vw [] (importedModules PySem.Challenge.pw_stillflow_k62_whole_within.main.body) (fun s=>xlAt vw [] s&&recOk [] s) true s
noncomputable abbrev gd:=openGood vw []
theorem OQ(w:World):(rn w).map (fun s=>(sn s).1)=some (gd.1):=by kernel_rfl
theorem Ox(w:World):(rn w).map (fun s=>(sn s).2.1)=some (gd.2.1):=by kernel_rfl
theorem OH(w:World):(rn w).map (fun s=>(sn s).2.2.1)=some (gd.2.2.1):=by kernel_rfl
theorem Ow(w:World):(rn w).map (fun s=>((sn s).2.2.2.1,(sn s).2.2.2.2.1))=some ((gd.2.2.2.1,gd.2.2.2.2.1)):=by kernel_rfl
theorem OI(w:World):(rn w).map (fun s=>(sn s).2.2.2.2.2.1)=some (gd.2.2.2.2.2.1):=by kernel_rfl
theorem Oy(w:World):(rn w).map (fun s=>(sn s).2.2.2.2.2.2)=some (gd.2.2.2.2.2.2):=by kernel_rfl
theorem OO(w:World):(rn w).map (fun s=>hk.obs s)=some (hk.val w):=by kernel_rfl
theorem left:LeftO PySem.Challenge.pw_stillflow_k62_whole_within vw [] (fun s=>xlAt vw [] s&&recOk [] s) hk.obs hk.val 6000:=fun w=>lf_all (OQ w) (Ox w) (OH w) (Ow w) (OI w) (Oy w) (OO w)
theorem Nj:PySem.Challenge.rw_stillflow_k62_whole_within.wellSaid=true:=by kernel_rfl
end K62
namespace L2
open PySem PySem.Spec PyProof.Rows
theorem bZ:∀ (names:List (Str×NameKind)) (n:Nat) (acc:List (Str×Addr)),cellsFrom n names acc=cellsFrom n names []++acc
 | [],_,_=>rfl
 | (name,kind)::r,n,acc=>by
  unfold cellsFrom
  split
  ·rw[bZ r (n+1) ((name,n)::acc),bZ r (n+1) [(name,n)]]
   simp
  ·exact bZ r n acc
theorem jr{α:Type}{x:Str}{c:α}:∀ {l m:List (Str×α)},(l++m).lookup x=some c->l.lookup x=some c\/(l.lookup x=none/\m.lookup x=some c)
 | [],_,h=>.inr ⟨rfl,h⟩
 | (k,v)::r,m,h=>by
  have ih:=@jr α x c r m
  rw[List.cons_append,yC] at h
  rw[yC]
  cases e:x == k with
  | true=>rw[e] at h;exact .inl h
  | false=>rw[e] at h;exact ih h
theorem jn{α:Type}{x:Str}{c:α}:∀ {l m:List (Str×α)},l.lookup x=some c->(l++m).lookup x=some c
 | [],_,h=>by cases h
 | (k,v)::r,m,h=>by
  have ih:=@jn α x c r m
  rw[yC] at h
  rw[List.cons_append,yC]
  cases e:x == k with
  | true=>rw[e] at h;exact h
  | false=>rw[e] at h;exact ih h
theorem iE{α:Type}{x:Str}:∀ {l m:List (Str×α)},l.lookup x=none->(l++m).lookup x=m.lookup x
 | [],_,_=>rfl
 | (k,v)::r,m,h=>by
  have ih:=@iE α x r m
  rw[yC] at h
  rw[List.cons_append,yC]
  cases e:x == k with
  | true=>rw[e] at h;cases h
  | false=>rw[e] at h;exact ih h
theorem gp:∀ (names:List (Str×NameKind)) (n:Nat) (x:Str) (c:Addr),(x,c)∈cellsFrom n names []->(x,NameKind.cell)∈names
 | [],_,_,_,h=>by cases h
 | (name,kind)::r,n,x,c,h=>by
  unfold cellsFrom at h
  split at h
  ·rename_i hk
   rw[bZ] at h
   rcases List.mem_append.mp h with h|h
   ·exact zC _ (gp r _ x c h)
   ·have:(x,c)=(name,n):=by simpa using h
    cases this
    have:kind=.cell:=by simpa using hk
    subst this
    exact zE
  ·exact zC _ (gp r n x c h)
noncomputable def eA(env:Env):List (Str×NameKind)->List (Str×Addr)->List (Str×Addr)
 | [],acc=>acc
 | (n,k)::r,acc=>if k == .free then eA env r ((n,(env.cells.lookup n).getD 0)::acc) else eA env r acc
theorem kP(env:Env):∀ (names:List (Str×NameKind)) (acc:List (Str×Addr)),(∀x∈names,x.2=.free->∃c,env.cells.lookup x.1=some c) ->
  (forIn names acc (fun (p:Str×NameKind) (cs:List (Str×Addr))=>(if p.2 == .free then (do let a <- cellOf env p.1;pure (.yield ((p.1,a)::cs))) else pure (.yield cs):Sem (ForInStep (List (Str×Addr))))))=pure (eA env names acc)
 | [],acc,_=>rfl
 | (n,k)::r,acc,h=>by
  rw[List.forIn_cons]
  have hr:=fun x hx=>h x (zC _ hx)
  unfold eA
  by_cases hk:k=.free
  ·obtain⟨c,hc⟩:=h (n,k) zE hk
   subst hk
   have e1:cellOf env n=pure c:=by
    have hc':env.cells.lookup n=some c:=hc
    unfold cellOf;rw[hc']
   have hc':env.cells.lookup n=some c:=hc
   simp only[beq_self_eq_true,if_true,e1,pure_bind,hc',Option.getD_some]
   exact kP env r _ hr
  ·have hb:(k == NameKind.free)=false:=by simpa using hk
   simp only[hb,Bool.false_eq_true,if_false,pure_bind]
   exact kP env r _ hr
theorem k6{env:Env}{scope:Scope}(h:∀x∈scope.names,x.2=.free->∃c,env.cells.lookup x.1=some c):closureFor scope env=pure (eA env scope.names []):=by
 have:=kP env scope.names [] h
 unfold closureFor
 exact (bind_pure _).trans this
theorem j3{env:Env}:∀ {names:List (Str×NameKind)}{acc:List (Str×Addr)},(∀x∈names,x.2=.free->∃c,env.cells.lookup x.1=some c)->(∀x c,(x,c)∈acc->env.cells.lookup x=some c) ->
  ∀x c,(x,c)∈eA env names acc->env.cells.lookup x=some c
 | [],acc,_,ha,x,c,hm=>ha x c hm
 | (n,k)::r,acc,h,ha,x,c,hm=>by
  unfold eA at hm
  have hr:=fun x hx=>h x (zC _ hx)
  split at hm
  ·rename_i hk
   have hk':k=.free:=by simpa using hk
   obtain⟨c',hc⟩:=h (n,k) zE hk'
   have hc:env.cells.lookup n=some c':=hc
   refine j3 hr (fun y d hy=>?_) x c hm
   rcases zR.mp hy with e|hy
   ·cases e;rw[hc];rfl
   ·exact ha y d hy
  ·exact j3 hr ha x c hm
theorem fZ{env:Env}:∀ {names:List (Str×NameKind)}{acc:List (Str×Addr)}{x:Str},(names.lookup x=some .free\/∃c,acc.lookup x=some c)->∃c,(eA env names acc).lookup x=some c
 | [],acc,x,h=>by
  rcases h with h|h
  ·cases h
  ·exact h
 | (n,k)::r,acc,x,h=>by
  unfold eA
  split
  ·rename_i hk
   refine fZ ?_
   rcases h with h|⟨c,h⟩
   ·rw[yC] at h
    cases e:x == n with
    | true=>exact .inr ⟨_,by rw[yC,e]⟩
    | false=>rw[e] at h;exact .inl h
   ·refine .inr ?_
    rw[yC]
    cases e:x == n with
    | true=>exact⟨_,rfl⟩
    | false=>exact⟨c,h⟩
  ·rename_i hk
   refine fZ ?_
   rcases h with h|h
   ·rw[yC] at h
    cases e:x == n with
    | true =>
     rw[e] at h
     cases h
     exact absurd rfl hk
    | false=>rw[e] at h;exact .inl h
   ·exact .inr h
theorem lJ{env:Env}:∀ {names:List (Str×NameKind)}{x:Str}{k:NameKind},names.lookup x=some k ->
  (names.map fun (n,k)=>if (k == NameKind.free&&env.scope.kind == .function&&env.kindOf n == some .cell) then (n,NameKind.cell) else (n,k)).lookup x=some (if (k == NameKind.free&&env.scope.kind == .function&&env.kindOf x == some .cell) then NameKind.cell else k)
 | [],_,_,h=>by cases h
 | (n,k)::r,x,k',h=>by
  have ih:=@lJ env r x k'
  rw[zI]
  dsimp only
  cases hx:x == n with
  | true =>
   have e:x=n:=by simpa using hx
   subst e
   rw[yC,hx] at h
   cases h
   split<;>simp[yC, *]
  | false =>
   rw[yC,hx] at h
   have ih:=ih h
   split
   ·rw[yC,hx];exact ih
   ·rw[yC,hx];exact ih
theorem nK{env:Env}:∀ {names:List (Str×NameKind)}{x:Str},names.lookup x=none ->
  (names.map fun (n,k)=>if (k == NameKind.free&&env.scope.kind == .function&&env.kindOf n == some .cell) then (n,NameKind.cell) else (n,k)).lookup x=none
 | [],_,h=>rfl
 | (n,k)::r,x,h=>by
  have ih:=@nK env r x
  rw[zI]
  dsimp only
  cases hx:x == n with
  | true=>rw[yC,hx] at h;cases h
  | false =>
   rw[yC,hx] at h
   split
   ·rw[yC,hx];exact ih h
   ·rw[yC,hx];exact ih h
noncomputable def eY(X:Cx)(scope:Scope)(C:Addr):Env :=
 { scope:=relabel scope X.env,locals:=C,globals:=X.env.globals,cells:=cellsFrom (C+1) scope.names (eA X.env scope.names []),qual:=X.env.qual,func:=none,code:=X.env.code,frame:=X.env.frame,builtins:=X.env.builtins }
noncomputable def aV(X:Cx)(scope:Scope)(N:List Str)(fp:List Addr)(s:Shared)(H:Hp):Cx :=
 { X with N:=N,s₀:=s,H₀:=H,env:=eY X scope s.heap.objs.size,outer:=X.stack,ex:=fp,fn:=fun x=>decide (scope.names.lookup x=some .cell),pn:=[],xe:=fun _ _=>False }
theorem xZ{M:Model}{A:Around}{E:Value->Shared->Prop}{s:Shared}{scope:Scope}{globals:Addr}{cl:List (Str×Addr)}{qual:Str}{env:Env}{Q:Env->Shared->Prop}
  (hQ:∀h',h'.Ns s.heap.objs.size (fun _=>none)->(∀b o,s.heap.get? b=some o->h'.get? b=some o)->CellsOk h' (s.heap.objs.size+1) (cellsFrom (s.heap.objs.size+1) scope.names []) ->
   Q { scope:=scope,locals:=s.heap.objs.size,globals:=globals,cells:=cellsFrom (s.heap.objs.size+1) scope.names cl,qual:=qual,func:=none,code:=env.code,frame:=env.frame,builtins:=env.builtins } { s with heap:=h' }) :
  wpAny M A (newFunctionEnv scope globals cl [] qual none .none (some env)) Q E s:=by
 simp only[newFunctionEnv,Option.isSome_some,if_true]
 refine zW (wpAny_alloc ?_)
 refine zW (wpAny_layCells _ (fun name kind cells=>by cases hkc:kind == NameKind.cell<;>simp[hkc]) _ _ _ _ ?_)
 have ok:=cellsFrom_ok scope.names (s.heap.push { cls:=.type "dict",data:=.dict #[] }) (s.heap.objs.size+1) [] ⟨fun _ _ hm=>(nomatch hm),List.Pairwise.nil⟩ (by rw[Heap.size_push];exact Nat.le_refl _)
 rw[Heap.size_push] at ok
 rw[show ({ s with heap:=s.heap.push { cls:=.type "dict",data:=.dict #[] } }:Shared).heap.objs.size=s.heap.objs.size+1 from Heap.size_push ..]
 rw[List.forIn_nil]
 refine zW (zX (zX ?_))
 exact hQ _ ((Heap.Ns.new s.heap (.type "dict")).keeps (pushCells_keeps _ _)) (fun b o e=>pushCells_keeps _ _ b o (zV _ e)) ok
section
variable {X:Cx}{pins:List (Addr×Obj)}{σ σ':St}{H:Hp}{s:Shared}{fp:List Addr}{scope:Scope}{N:List Str}{h4:Heap}
theorem jY(ok:X.Ok)(hfree:∀x∈scope.names,x.2=.free->X.env.kindOf x.1=some .cell\/X.env.kindOf x.1=some .free):∀x∈scope.names,x.2=.free->∃c,X.env.cells.lookup x.1=some c :=
 fun x hx hk=>ok.has x.1 (hfree x hx hk)
theorem mI{C:Addr}{x:Str}{k:NameKind}(h:scope.names.lookup x=some k):(eY X scope C).kindOf x=some k\/(k=.free/\(eY X scope C).kindOf x=some .cell):=by
 have q:=lJ (env:=X.env) h
 have q':(eY X scope C).kindOf x=some (if (k == NameKind.free&&X.env.scope.kind == .function&&X.env.kindOf x == some .cell) then NameKind.cell else k):=q
 rw[q']
 split
 ·rename_i hc
  have:k=.free:=by
   simp only[zF,beq_iff_eq] at hc
   exact hc.1.1
  exact .inr ⟨this,rfl⟩
 ·exact .inl rfl
theorem kF{C:Addr}{x:Str}{k:NameKind}(h:(eY X scope C).kindOf x=some k):scope.names.lookup x=some k\/(k=.cell/\scope.names.lookup x=some .free):=by
 cases e:scope.names.lookup x with
 | none =>
  have q:(eY X scope C).kindOf x=none:=nK (env:=X.env) e
  rw[q] at h;cases h
 | some k' =>
  rcases mI (X:=X) (C:=C) e with q|⟨q,q'⟩
  ·rw[q] at h;cases h;exact .inl rfl
  ·rw[q'] at h;cases h;subst q;exact .inr ⟨rfl,rfl⟩
theorem Ei(I:Inv X pins σ H s)(hf:∀b∈fp,cE X pins H b)(hfl:∀b∈fp,b < s.heap.objs.size)(hk:scope.kind=.function)
  (hfree:∀x∈scope.names,x.2=.free->X.env.kindOf x.1=some .cell\/X.env.kindOf x.1=some .free)
  (hns:h4.Ns s.heap.objs.size (fun _=>none)) (hkeep:∀b o,s.heap.get? b=some o->h4.get? b=some o) (hco:CellsOk h4 (s.heap.objs.size+1) (cellsFrom (s.heap.objs.size+1) scope.names []))
  (hdup:∀ {x:Str},(x,NameKind.cell)∈scope.names->(x,NameKind.free)∈scope.names->False) (hcap:∀ (i:Nat) (x:Str) (v:V),N[i]?=some x->σ'[i]?=some (some v)->scope.names.lookup x=some .free/\∃j:Nat,X.N[j]?=some x/\σ[j]?=some (some v)) (hlen:σ'.length=N.length) (t':Nat) :
  Inv (aV X scope N fp s H) [] σ' H { s with heap:=h4,toks:=t' }:=by
 have hcl:=jY I.ok hfree
 have clx:∀x c,(eA X.env scope.names []).lookup x=some c->X.env.cells.lookup x=some c:=fun x c e=>j3 hcl (fun _ _ z=>by cases z) x c (mem_of_lookup e)
 have look:∀x c,(eY X scope s.heap.objs.size).cells.lookup x=some c->(x,c)∈cellsFrom (s.heap.objs.size+1) scope.names []\/X.env.cells.lookup x=some c:=fun x c e=>by
  have e:(cellsFrom (s.heap.objs.size+1) scope.names (eA X.env scope.names [])).lookup x=some c:=e
  rw[bZ] at e
  rcases jr e with q|⟨_,q⟩
  ·exact .inl (mem_of_lookup q)
  ·exact .inr (clx x c q)
 have old:∀x c,X.env.cells.lookup x=some c->c < s.heap.objs.size:=fun x c e=>let ⟨_,q⟩:=I.cell x c e;q.lt
 have new:∀x c,(x,c)∈cellsFrom (s.heap.objs.size+1) scope.names []->s.heap.objs.size < c:=fun x c e=>(hco.empty x c e).2
 refine⟨⟨I.ok.mod,?_,I.ok.glob,I.ok.blt,Nat.le_refl _,?_,?_,?_,I.ok.hd,I.ok.frames,.inl rfl,?_,I.bs,yE I.ok.bsz I.sz,?_,?_,I.stack,I.stkFree⟩,rfl,I.bare,Un.kept hkeep,⟨_,hns,?_⟩,?_,I.hok.fresh (Nat.le_refl _),?_,
  fun p hp=>absurd (show p∈([]:List (Addr×Obj)) from hp) (by simp),I.hok.kept hkeep,hlen⟩
 ·show (relabel scope X.env).kind=_
  exact hk
 ·intro x y c e1 e2
  rcases look x c e1 with a|a<;>rcases look y c e2 with b|b
  ·exact name_of_addr hco.apart a b
  ·exact absurd (Nat.lt_trans (new x c a) (old y c b)) (Nat.lt_irrefl _)
  ·exact absurd (Nat.lt_trans (new y c b) (old x c a)) (Nat.lt_irrefl _)
  ·exact I.ok.inj x y c a b
 ·intro x hx
  show ∃c,(cellsFrom (s.heap.objs.size+1) scope.names (eA X.env scope.names [])).lookup x=some c
  refine Option.isSome_iff_exists.mp (W.cellsFrom_some _ _ _ ?_)
  rcases hx with hx|hx
  ·rcases kF hx with q|⟨_,q⟩
   ·exact .inl q
   ·exact .inr (Option.isSome_iff_exists.mpr (fZ (.inl q)))
  ·rcases kF hx with q|⟨q,_⟩
   ·exact .inr (Option.isSome_iff_exists.mpr (fZ (.inl q)))
   ·cases q
 ·intro x c hfn e
  have hfn:scope.names.lookup x=some .cell:=of_decide_eq_true hfn
  have e:(cellsFrom (s.heap.objs.size+1) scope.names (eA X.env scope.names [])).lookup x=some c:=e
  obtain⟨c',hc'⟩:=qs (n:=s.heap.objs.size+1) hfn
  rw[bZ,jn hc'] at e
  cases e
  exact Nat.le_of_lt (new x c (mem_of_lookup hc'))
 ·intro b hb
  refine⟨Nat.ne_of_lt (hfl b hb),fun x c e z=>?_⟩
  rcases look x c e with a|a
  ·exact absurd (Nat.lt_trans (new x c a) (by rw[z];exact hfl b hb)) (Nat.lt_irrefl _)
  ·exact (hf b hb).2.2.2.2.1 x c a z
 ·intro b o e hb
  obtain⟨f0,f1,f2,f3,f4,f5⟩:=hf b hb
  rcases f3 with z|z
  ·exact I.ok.noex b o e z
  ·exact absurd (zP (zZ (I.ok.bs b o e).1) z) (Nat.lt_irrefl _)
 ·intro b hb hz
  obtain⟨f0,f1,f2,f3,f4,f5⟩:=hf b hb
  rcases zR.mp (I.stkSub b hz) with z|z
  ·exact f1 z
  ·exact f2 z
 ·intro i x v e1 e2 e3
  obtain⟨hfr,j,hj,hv⟩:=hcap i x v e1 e2
  have hm:(x,NameKind.free)∈scope.names:=mem_of_lookup hfr
  obtain⟨m,hn,hl⟩:=I.loc
  have kx:=hfree _ hm rfl
  obtain⟨u,ru,lk⟩:=hl j x v hj hv (kx.elim (fun k=>.inr (.inl k)) fun k=>.inr (.inr k))
  refine⟨u,ru,.inr ⟨?_,?_⟩⟩
  ·rcases mI (X:=X) (C:=s.heap.objs.size) hfr with q|⟨_,q⟩
   ·exact .inr q
   ·exact .inl q
  ·rcases lk with ⟨k,_⟩|⟨_,c,ec,ic⟩
   ·have k:X.env.kindOf x=some .local:=k
    rcases kx with k'|k'<;>· rw[k] at k';cases k'
   ·obtain⟨c',hc'⟩:=fZ (env:=X.env) (acc:=[]) (.inl hfr)
    have e':=clx x c' hc'
    rw[ec] at e'
    cases e'
    refine⟨c,?_,ic.keeps hkeep⟩
    show (cellsFrom (s.heap.objs.size+1) scope.names (eA X.env scope.names [])).lookup x=some c
    rw[bZ]
    cases eo:(cellsFrom (s.heap.objs.size+1) scope.names []).lookup x with
    | none=>rw[iE eo];exact hc'
    | some d =>
     have hcm:=gp _ _ _ _ (mem_of_lookup eo)
     exact (hdup hcm hm).elim
 ·intro x c e
  rcases look x c e with a|a
  ·exact⟨_,(hco.empty x c a).1⟩
  ·obtain⟨v,q⟩:=I.cell x c a
   exact⟨v,q.keeps hkeep⟩
 ·intro x c e
  rcases look x c e with a|a
  ·exact I.hok.fresh (Nat.le_of_lt (new x c a))
  ·exact I.freeC x c a
end
noncomputable abbrev vz(ifs:List Expr)(env:Env):Sem Bool:=forIn ifs true fun c r=>if r=true then do let ok <- isTrue c env (eval c env);pure (ForInStep.yield ok) else pure (ForInStep.yield r)
noncomputable def LC(X:Cx)(ifs:List Expr)(t:TT):Prop :=
 ∀ (pins:List (Addr×Obj)) (s:Shared) (σ:St) (H:Hp) (Q:Bool->Hp->Prop),Inv X pins σ H s->t σ H Q->wpAny (model X.prog X.w) X.A (vz ifs X.env) (TP X pins σ Q) X.xe s
theorem Gw{X:Cx}:LC X [] (fun _ H Q=>Q true H):=fun _ _ _ H _ I h=>wpAny_tests_nil ⟨H,I,h⟩
theorem GF{X:Cx}{c:Expr}{t:TT}(h:PT X c t):LC X [c] t:=fun pins s σ H Q I q=>wpAny_tests_one (h pins s σ H Q I q)
theorem uc{prog:Program}{w:World}{A:Around}{R:Result->Shared->Prop}{s:Shared}{elt target iter:Expr}{ifs:List Expr}{scope:Scope}{pos:Pos}{it acc:Value}{env:Env}(I:Nat->Shared->Prop)
  (turn:∀n s,I n s->wpAny (model prog w) A (pyNext it) (fun r s₁=>match r with
   | none=>R (.ok .next) s₁
   | some v=>wpAny (model prog w) A (letOwnedTupleGo target it v) (fun _ s₁'=>wpAny (model prog w) A (assign target env v) (fun _ s₂ =>
     wpAny (model prog w) A (vz ifs env) (fun ok s₃ =>
      if ok=true then wpAny (model prog w) A (eval elt env) (fun x s₄ =>
       wpAny (model prog w) A (call (.builtin "list.append") [acc,x]) (fun _ s₅=>∃m,m < n/\I m s₅) (fun _ _=>False) s₄) (fun _ _=>False) s₃
      else ∃m,m < n/\I m s₃) (fun _ _=>False) s₂) (fun _ _=>False) s₁') (fun _ _=>False) s₁) (fun _ _=>False) s)
  (n:Nat) (h:I n s) :
  codeAny (model prog w) A (.compLoop (.ListComp elt [⟨target,iter,ifs,0⟩] scope pos) 0 it acc env) R s:=by
 refine codeAny_loop rfl I (fun n s hI=>?_) n h
 show wpAny _ A ((compTurn (.ListComp elt [⟨target,iter,ifs,0⟩] scope pos) 0 it acc env).onRaise (fun x=>do noteFrame x env;theTreesLotGoes x)) _ _ s
 refine wpAny_noted ?_
 rw[compTurn_list]
 refine zW (wpAny_standAt (zW (wpAny_mono (turn n s hI) (fun r s₁ h₁=>?_) fun _ _ h'=>h'.elim)))
 cases r with
 | none=>exact zX h₁
 | some v =>
  refine zW (wpAny_mono h₁ (fun _ s₁' h₁'=>?_) fun _ _ h'=>h'.elim)
  refine zW (wpAny_mono h₁' (fun _ s₂ h₂=>zW (wpAny_mono h₂ (fun ok s₃ h₃=>?_) fun _ _ h'=>h'.elim)) fun _ _ h'=>h'.elim)
  cases ok with
  | false=>exact zX ⟨rfl,h₃⟩
  | true =>
   exact zW (zW (wpAny_mono h₃ (fun x s₄ h₄=>zW (wpAny_mono h₄ (fun _ s₅ h₅=>zX (zX ⟨rfl,h₅⟩)) fun _ _ h'=>h'.elim)) fun _ _ h'=>h'.elim))
noncomputable def zq(X:Cx)(pins:List (Addr×Obj))(σ:St)(Q:VK)(acc:Value)(C:Addr)(r:Result)(s5:Shared):Prop :=
 ∃ (D:Addr) (H5:Hp) (m:Str->Option Value),acc=.ref D/\r=.ok .next/\Inv X pins σ H5 s5/\s5.heap.Ns C m/\cE X pins H5 C/\Q (.ref D) H5
noncomputable def FG(J:It)(g:TG)(tt:TT)(te:TE)(D:Addr)(σ0:St)(H0:Hp)(Q:VK):Prop :=
 ∃W:Nat->Nat->St->Hp->Prop,(∃m,W 0 m σ0 H0)/\∀i m σ H,W i m σ H ->
  (J.stop i H/\Q (.ref D) H)\/(J.go i H/\∀x H',J.yld i H x H'->g x σ H' fun σ2 H2=>tt σ2 H2 fun b H3 =>
   if b=true then te σ2 H3 fun v H4=>∃ys,H4 D=some (.lst ys)/\ys.length < sizeLine/\∃m',m' < m/\W (i+1) m' σ2 (upd H4 D (.lst (ys++[v])))
   else ∃m',m' < m/\W (i+1) m' σ2 H3)
section
variable {X:Cx}{pins:List (Addr×Obj)}{σ σ':St}{H:Hp}{s:Shared}{scope:Scope}{N:List Str}
 {tg iter elt:Expr}{ifs:List Expr}{pos:Pos}{g:TG}{tt:TT}{te:TE}
theorem sF{J:It}{fp:List Addr}{it:Addr}{tn:Nat->Heap->Prop}{Q:VK}(hc:X.calm=true)(I:Inv X pins σ H s)(T:Turn X.prog X.w X.K tg J fp it tn)(st:tn 0 s.heap)(hf:∀b∈fp,cE X pins H b)(hk:scope.kind=.function)
  (hfree:∀x∈scope.names,x.2=.free->X.env.kindOf x.1=some .cell\/X.env.kindOf x.1=some .free) (hdup:∀ {x:Str},(x,NameKind.cell)∈scope.names->(x,NameKind.free)∈scope.names->False)
  (hcap:∀ (i:Nat) (x:Str) (v:V),N[i]?=some x->σ'[i]?=some (some v)->scope.names.lookup x=some .free/\∃j:Nat,X.N[j]?=some x/\σ[j]?=some (some v)) (hlen:σ'.length=N.length)
  (hY:∀fp s H,PG (aV X scope N fp s H) tg g/\LC (aV X scope N fp s H) ifs tt/\PE (aV X scope N fp s H) elt te)
  (hrd:∀D,H D=none->FG J g tt te D σ' (upd H D (.lst [])) Q) {E:Value->Shared->Prop} :
  wpAny (model X.prog X.w) X.A (newList []) (fun acc s₃=>wpAny (model X.prog X.w) X.A (newFunctionEnv scope X.env.globals (eA X.env scope.names []) [] X.env.qual none .none (some X.env)) (fun cenv s₄ =>
   codeAny (model X.prog X.w) X.A (.compStart (.ListComp elt [⟨tg,iter,ifs,0⟩] scope pos) 0 (.ref it) acc { cenv with scope:=relabel scope X.env }) (zq X pins σ Q acc cenv.locals) s₄) E s₃) E s:=by
 refine wpAny_newObj_type ?_
 have hfl:∀b∈fp,b < s.heap.objs.size:=fun b hb=>let ⟨o,e,_⟩:=T.obj _ _ st b hb;zZ e
 have I3:=I.lnew (ys:=[]) (its:=[]) (t':=s.toks) .nil (Nat.zero_le _)
 have hD:H s.heap.objs.size=none:=I.fresh
 obtain⟨W,⟨m0,w0⟩,turn⟩:=hrd _ hD
 generalize e3:({ s with heap:=s.heap.push { cls:=.type "list",data:=.seq ([]:List Value).toArray },toks:=s.toks }:Shared)=s3 at I3
 have e3h:s3.heap=s.heap.push { cls:=.type "list",data:=.seq ([]:List Value).toArray }:=by rw[<- e3]
 generalize hH3:upd H s.heap.objs.size (.lst [])=H3 at I3 w0 turn
 have hlt:s.heap.objs.size < s3.heap.objs.size:=by rw[e3h,Heap.size_push];exact Nat.lt_succ_self _
 have hk3:∀b o,s.heap.get? b=some o->s3.heap.get? b=some o:=fun b o e=>by rw[e3h];exact zV _ e
 generalize s.heap.objs.size=D at *
 have f3:∀b∈fp,cE X pins H3 b:=fun b hb=>by
  obtain⟨f0,f⟩:=hf b hb
  refine⟨?_,f⟩
  rw[<- hH3,aE (Nat.ne_of_lt (hfl b hb))]
  exact f0
 have st3:tn 0 s3.heap:=T.keep _ _ _ st fun b _ o e=>hk3 b o e
 refine xZ fun h4 hns hkp hco=>?_
 dsimp only
 have I4:=Ei (N:=N) (σ':=σ') (fp:=fp) I3 f3 (fun b hb=>Nat.lt_trans (hfl b hb) hlt) hk hfree hns hkp hco hdup hcap hlen s3.toks
 have fC:∀H',H' s3.heap.objs.size=none->cE X pins H' s3.heap.objs.size:=fun H' hn=>I3.fpOk (Nat.le_refl _) hn
 obtain⟨hg,htt,hte⟩:=hY fp s3 H3
 have efp:∀b∈fp,∀H':Hp,H' b=none->cE (aV X scope N fp s3 H3) [] H' b:=fun b hb H' hn=>by
  refine⟨hn,(I4.ok.exf b hb).1,I4.ok.exfs b hb,.inl hb,(I4.ok.exf b hb).2,fun p hp=>?_⟩
  cases hp
 have loop:codeAny (model X.prog X.w) X.A (.compLoop (.ListComp elt [⟨tg,iter,ifs,0⟩] scope pos) 0 (.ref it) (.ref D) (eY X scope s3.heap.objs.size)) (zq X pins σ Q (.ref D) s3.heap.objs.size) { s3 with heap:=h4 }:=by
  refine uc (fun n s'=>∃i σ' H',Inv (aV X scope N fp s3 H3) [] σ' H' s'/\tn i s'.heap/\(∀b∈fp,H' b=none)/\W i n σ' H') ?_ m0
   ⟨0,σ',H3,I4,T.keep _ _ _ st3 fun b _ o e=>hkp b o e,fun b hb=>(f3 b hb).1,w0⟩
  rintro n s5 ⟨i,σ5,H5,I5,st5,fr5,w5⟩
  rcases turn i n σ5 H5 w5 with ⟨stop,q⟩|⟨go,step⟩
  ·refine cg (T.done (aV X scope N fp s3 H3) rfl rfl rfl hc i [] s5 σ5 H5 _ I5 (fun b hb=>efp b hb H5 (fr5 b hb)) st5 stop) fun r s6 ⟨hr,I6⟩=>?_
   subst hr
   obtain⟨m,hn6,_⟩:=I6.loc
   refine⟨D,H5,m,rfl,rfl,I3.call' I6.os I6.base I6.hok I6.bare (fun b hb=>?_),hn6,fC H5 I6.free,q⟩
   obtain⟨f0,f1,f2,f4,f5,f6⟩:=f3 b hb
   exact⟨f4,f1,f5,f6⟩
  ·refine cg (T.item (aV X scope N fp s3 H3) rfl rfl rfl hc i [] s5 σ5 H5 _ I5 (fun b hb=>efp b hb H5 (fr5 b hb)) st5 go) fun r s6 ⟨u,hr,h6⟩=>?_
   subst hr
   refine cg h6 fun _ s7 ⟨x,H7,I7,r7,y7,st7,fr7⟩=>?_
   have I7':=I7.pinned (fun b hb=>efp b hb H7 (fr7 b hb)) (T.obj _ _ st7)
   have again:∀ {pl:List (Addr×Obj)}{σ9:St}{H9:Hp}{s9:Shared}{n':Nat},Inv (aV X scope N fp s3 H3) ([]++nh fp s7.heap) σ9 H9 s9->W (i+1) n' σ9 H9->∃i σ' H',Inv (aV X scope N fp s3 H3) [] σ' H' s9/\tn i s9.heap/\(∀b∈fp,H' b=none)/\W i n' σ' H':=fun {pl σ9 H9 s9 n'} I9 w9=>by
    refine⟨i+1,σ9,H9,I9.unpinned,T.keep _ _ _ st7 fun b hb o e=>(I9.pin (b,o) (yF _ (yF _ (dC hb e)))).1,fun b hb=>?_,w9⟩
    obtain⟨o,e,d⟩:=T.obj _ _ st7 b hb
    exact (I9.pin (b,o) (yF _ (yF _ (dC hb e)))).2.1
   refine cg (hg _ s7 σ5 H7 x u _ I7' r7 (step x H7 y7)) fun _ s8 ⟨σ8,H8,I8,q8⟩=>?_
   refine cg (htt _ s8 σ8 H8 _ I8 q8) fun ok s9 ⟨H9,I9,q9⟩=>?_
   cases ok with
   | false =>
    rw[if_neg (by decide)] at q9
    rw[if_neg (by decide)]
    obtain⟨m',hm,w9⟩:=q9
    exact⟨m',hm,again (pl:=[]) I9 w9⟩
   | true =>
    rw[if_pos rfl] at q9
    rw[if_pos rfl]
    refine cg (hte _ s9 σ8 H9 _ I9 q9) fun y s10 ⟨v,H10,I10,r10,ys,hD10,hz,m',hm,w10⟩=>?_
    refine cg (sf (X:=aV X scope N fp s3 H3) _ s10 σ8 H10 (.ref D) [v] (.ref D) [y] (fun _ H'=>W (i+1) m' σ8 H') I10 rfl (.cons r10 .nil) ⟨D,ys,v,rfl,rfl,hD10,hz,w10⟩) fun _ s11 ⟨_,H11,I11,_,w11⟩=>?_
    exact⟨m',hm,again (pl:=[]) I11 w11⟩
 exact codeAny_compStart_list loop (T.self _ 0 _ _ _ (T.keep _ _ _ st3 fun b _ o e=>hkp b o e) loop)
end
def DM(wi:TI)(g:TG)(tt:TT)(te:TE)(caps:St->St):TE:=fun σ H Q=>wi σ H fun J H1=>∀D,H1 D=none->FG J g tt te D (caps σ) (upd H1 D (.lst [])) Q
structure iW(X:Cx)(scope:Scope)(N:List Str)(caps:St->St):Prop where
 kind:scope.kind=.function
 free:∀x∈scope.names,x.2=.free->X.env.kindOf x.1=some .cell\/X.env.kindOf x.1=some .free
 dup:∀ {x:Str},(x,NameKind.cell)∈scope.names->(x,NameKind.free)∈scope.names->False
 loc:∀x∈scope.names,x.2=.local -> scope.names.lookup x.1=some .local
 cap:∀ (σ:St) (i:Nat) (x:Str) (v:V),N[i]?=some x->(caps σ)[i]?=some (some v)->scope.names.lookup x=some .free/\∃j:Nat,X.N[j]?=some x/\σ[j]?=some (some v)
 len:∀σ:St,(caps σ).length=N.length
section
variable {X:Cx}{scope:Scope}{N:List Str}{caps:St->St}{tg iter elt:Expr}{ifs:List Expr}{pos:Pos}{wi:TI}{g:TG}{tt:TT}{te:TE}
theorem Hw(hc:X.calm=true)(S:iW X scope N caps)(hi:PI X tg iter wi)
  (hY:∀fp s H,PG (aV X scope N fp s H) tg g/\LC (aV X scope N fp s H) ifs tt/\PE (aV X scope N fp s H) elt te)
  (hs:∀x,foldedSetIterable iter X.env x=pure x:=by intro _;rfl):PE X (.ListComp elt [⟨tg,iter,ifs,0⟩] scope pos) (DM wi g tt te caps):=by
 intro pins s σ H Q I h
 rw[eval_ListComp]
 refine wpAny_comprehension_free (use:=none) rfl hs (k6 (jY I.ok S.free)) S.kind S.loc (cg (hi pins s σ H _ I h) fun v s1 h1=>cg h1 fun itv s2 h2=>?_)
 obtain⟨it,fp,tn,J,H2,e,I2,T,st2,f2,rd⟩:=h2
 subst e
 refine cg (sF (iter:=iter) (pos:=pos) (E:=X.xe) hc I2 T st2 f2 S.kind S.free S.dup (S.cap σ) (S.len σ) hY rd) fun acc s3 h3=>cg h3 fun cenv s4 h4=>?_
 refine codeAny_mono h4 fun r s5 h5=>?_
 obtain⟨D,H5,m,rfl,rfl,I5,hn,fC,q⟩:=h5
 refine⟨m,hn,fun h' sb=>?_⟩
 obtain⟨f0,f1,f2',f3,f4,f5⟩:=fC
 exact⟨.ref D,H5,I5.turned (t':=s5.toks) (fun b o hb e=>(sb.2 b hb).trans e) f0 f1 f3 f4 f5,rfl,q⟩
theorem GZ{i:Nat}{y:Str}{py spos:Pos}(hc:X.calm=true)(S:iW X scope N caps)(hi:PI X tg iter wi)
  (hY:∀fp s H,PG (aV X scope N fp s H) tg g/\LC (aV X scope N fp s H) ifs tt/\PE (aV X scope N fp s H) elt te)
  (hN:X.N.Nodup) (hiy:X.N[i]?=some y) (hy:X.env.scope.names.lookup y=some .local)
  (hsw:swapsWith (.ListComp elt [⟨tg,iter,ifs,0⟩] scope pos) (some (.Name y py)) spos.line X.env=pure true)
  (hs:∀x,foldedSetIterable iter X.env x=pure x:=by intro _;rfl):PS X (.Assign [.Name y py] (.ListComp elt [⟨tg,iter,ifs,0⟩] scope pos) spos) (Dg (DM wi g tt te caps) (wa i)):=by
 intro pins s σ H D I h
 rw[exec_Assign_Name_used _ _ _ _ hsw]
 refine zW (wpAny_standAt (zW ?_))
 show wpAny _ X.A (do let _ <- comprehension (.ListComp elt [⟨tg,iter,ifs,0⟩] scope pos) scope X.env _ (newList []) false (eval iter X.env) (some (assign (.Name y py) X.env))) _ _ s
 refine zW (wpAny_mono (wpAny_comprehension_free (use:=some (assign (.Name y py) X.env)) (Q:=fun _ s'=>SP X pins D .next s') rfl hs (k6 (jY I.ok S.free)) S.kind S.loc
  (cg (hi pins s σ H _ I h) fun v s1 h1=>cg h1 fun itv s2 h2=>?_)) (fun _ s' hq=>zX (zX hq)) fun _ _ e=>e)
 obtain⟨it,fp,tn,J,H2,e,I2,T,st2,f2,rd⟩:=h2
 subst e
 refine cg (sF (iter:=iter) (pos:=pos) (E:=X.xe) hc I2 T st2 f2 S.kind S.free S.dup (S.cap σ) (S.len σ) hY rd) fun acc s3 h3=>cg h3 fun cenv s4 h4=>?_
 refine codeAny_mono h4 fun r s5 h5=>?_
 obtain⟨D',H5,m,rfl,rfl,I5,hn,fC,q⟩:=h5
 show wpAny _ X.A (assign (.Name y py) X.env (.ref D')) _ _ _
 refine wpAny_assign_Name (sd (v:=.ref D') I5 hN hiy (.inl hy) rfl (fun s6 I6 ⟨a,sa,ha⟩=>?_) (.inr hy))
 obtain⟨f0,f1,f2',f3,f4,f5⟩:=fC
 have hne:cenv.locals≠a:=by
  rcases ha with z|z
  ·rw[z];exact f1
  ·exact fun w=>f4 y a z w.symm
 refine⟨m,hn.sameBut sa hne,fun h' sb=>?_⟩
 exact⟨_,H5,I6.turned (t':=s6.toks) (fun b o hb e=>(sb.2 b hb).trans e) f0 f1 f3 f4 f5,q⟩
end
noncomputable abbrev Ni(X:Cx)(qual:Str)(scope:Scope)(f c L:Addr):Env:=W.envX qual scope L f (.ref c) (eA X.env scope.names [])
noncomputable def gE(X:Cx)(A:Around)(qual:Str)(scope:Scope)(N:List Str)(f c:Addr)(s:Shared)(H:Hp):Cx where
 prog:=X.prog
 w:=X.w
 K:=X.K
 mg:=X.mg
 base:=X.base
 A:=A.deeper (Ni X qual scope f c s.heap.objs.size)
 N:=N
 s₀:=s
 H₀:=H
 env:=Ni X qual scope f c s.heap.objs.size
 outer:=X.stack
 stack:=Ni X qual scope f c s.heap.objs.size::X.stack
 ex:=[]
 fn:=fun _=>false
 calm:=true
 pn:=[]
 xe:=fun _ _=>False
section
variable {X:Cx}{pins:List (Addr×Obj)}{σ:St}{H:Hp}{s:Shared}{scope:Scope}{N:List Str}{h1:Heap}{A:Around}{caps:St->St}{p qual:Str}{f c:Addr}{u:Value}{v:V}
theorem FV(I:Inv X pins σ H s)(hd:A.handled=none)(hA:A.frames=some X.stack)(S:iW X scope N caps)(hnc:∀x∈scope.names,x.2≠.cell)(hN0:N[0]?=some p)(hp:scope.names.lookup p=some .local)(hNd:N.Nodup)(r:RelV v u)
  (hns:h1.Ns s.heap.objs.size (fun x=>[(p,u)].reverse.lookup x)) (hkeep:∀b o,s.heap.get? b=some o->h1.get? b=some o) (t':Nat) :
  Inv (gE X A qual scope N f c s H) [] ((caps σ).set 0 (some v)) H { s with heap:=h1,toks:=t' }:=by
 have hcl:=jY I.ok S.free
 have clx:∀x c,(eA X.env scope.names []).lookup x=some c->X.env.cells.lookup x=some c:=fun x c e=>j3 hcl (fun _ _ z=>by cases z) x c (mem_of_lookup e)
 have noA:∀b:Addr,b∉(gE X A qual scope N f c s H).ex:=fun b z=>absurd (show b∈([]:List Addr) from z) (by simp)
 refine⟨⟨I.ok.mod,S.kind,rfl,rfl,Nat.le_refl _,fun x y d e1 e2=>I.ok.inj x y d (clx x d e1) (clx y d e2),fun x hx=>?_,fun x d z=>?_,fun _=>hd,Around.frames_deeper hA,.inr ⟨rfl,rfl⟩,fun b z=>absurd z (noA b),I.bs,yE I.ok.bsz I.sz,fun b _ _=>noA b,fun b z=>absurd z (noA b),I.stack,I.stkFree⟩,
  rfl,I.bare,Un.kept hkeep,⟨_,hns,fun i x w e1 e2 e3=>?_⟩,fun x d e=>?_,I.hok.fresh (Nat.le_refl _),fun x d e=>I.freeC x d (clx x d e),fun q hq=>absurd (show q∈([]:List (Addr×Obj)) from hq) (by simp),I.hok.kept hkeep,?_⟩
 ·rcases hx with hx|hx
  ·exact absurd rfl (hnc _ (mem_of_lookup (show scope.names.lookup x=some .cell from hx)))
  ·exact fZ (.inl hx)
 ·cases z
 ·cases i with
  | zero =>
   have e1:N[0]?=some x:=e1
   rw[hN0] at e1
   cases e1
   have hl:0 < (caps σ).length:=by rw[S.len];exact (zU.mp hN0).1
   rw[List.getElem?_set_self hl] at e2
   cases e2
   exact⟨u,r,.inl ⟨hp,by simp⟩⟩
  | succ i =>
   have e2':(caps σ)[i+1]?=some (some w):=by
    rw[List.getElem?_set_ne (by omega)] at e2;exact e2
   obtain⟨hfr,j,hj,hv⟩:=S.cap σ (i+1) x w e1 e2'
   have hm:(x,NameKind.free)∈scope.names:=mem_of_lookup hfr
   obtain⟨m,hn,hl⟩:=I.loc
   have kx:=S.free _ hm rfl
   obtain⟨u',ru,lk⟩:=hl j x w hj hv (kx.elim (fun k=>.inr (.inl k)) fun k=>.inr (.inr k))
   refine⟨u',ru,.inr ⟨.inr hfr,?_⟩⟩
   rcases lk with ⟨k,_⟩|⟨_,c',ec,ic⟩
   ·have k:X.env.kindOf x=some .local:=k
    rcases kx with k'|k'<;>· rw[k] at k';cases k'
   ·obtain⟨c'',hc'⟩:=fZ (env:=X.env) (acc:=[]) (.inl hfr)
    have e':=clx x c'' hc'
    rw[ec] at e'
    cases e'
    exact⟨c',hc',ic.keeps hkeep⟩
 ·obtain⟨w,q⟩:=I.cell x d (clx x d e)
  exact⟨w,q.keeps hkeep⟩
 ·rw[yD];exact S.len σ
theorem vm{k:Nat}{params:Arguments}{body:Expr}{pm ctv:Value}{name:Str}{te:TE}{Q:VK}(I:Inv X pins σ H s)(hr:et (k+1) A)(hA:A.frames=some X.stack)(S:iW X scope N caps)(hnc:∀x∈scope.names,x.2≠.cell)
  (hN0:N[0]?=some p) (hp:scope.names.lookup p=some .local) (hNd:N.Nodup) (hco:scope.isCoroutine=false) (hgen:scope.isGenerator=false)
  (hf:s.heap.get? f=some (W.kla_obj name qual params body scope (eA X.env scope.names []) pm c ctv)) (hcod:H c=some (.cod qual)) (hb:bindArgs (W.kla_fn name qual params body scope (eA X.env scope.names []) pm (.ref c) ctv) ⟨[u],[]⟩=pure [(p,u)])
  (r:RelV v u) (hY:PE (gE X A qual scope N f c s H) body te) (q:te ((caps σ).set 0 (some v)) H Q) :
  wpAny (model X.prog X.w) A (call (.ref f) [u]) (EP X pins σ Q) (fun _ _=>False) s:=by
 have hcd:s.heap.CodeRec (.ref c) qual:=I.hok c _ hcod
 refine wpAny_call (W.kla_callFunE hr.depth hf rfl hco hgen rfl hcd ?_)
 rw[hb]
 refine zX (wpAny_newFunctionEnv hnc (fun y hy=>?_) (fun h1 hns hsb=>⟨?_,?_⟩) S.kind)
 ·rw[yL.mp hy];exact hp
 ·exact I.nolimit.fresh _ hsb
 ·have hk1:∀b o,s.heap.get? b=some o->h1.get? b=some o:=fun b o e=>hsb.extBut b o (Nat.ne_of_lt (zZ e)) (zV _ e)
  have I1:=FV (qual:=qual) (f:=f) (c:=c) I hr.hd hA S hnc hN0 hp hNd r hns hk1 (s.toks+[(p,u)].length)
  refine W.kla_codeExpr (wpAny_mono (hY [] _ _ H Q I1 q) (fun w s' ⟨v',H',I',r',q'⟩=>?_) fun e s' h=>False.elim h)
  exact⟨v',H',I.call' I'.os I'.base I'.hok I'.bare (fun b z=>absurd (show b∈([]:List Addr) from z) (by simp)),r',q'⟩
end
theorem y1{pos pos':Pos}{c v:Value}(l:List Value)(h:TriplesOk l)(e:codeAmong pos' (l++[rawInt pos.line,rawInt pos.col,c])=some v):codeAmong pos' l=some v\/v=c:=by
 fun_induction TriplesOk l with
 | case1 =>
  simp only[List.nil_append,codeAmong,rawInt] at e
  split at e
  ·cases e;exact .inr rfl
  ·cases e
 | case2 a t b u x rest ih =>
  simp only[List.cons_append,codeAmong] at e ⊢
  split at e
  ·rename_i hc;rw[if_pos hc];exact .inl e
  ·rename_i hc;rw[if_neg hc];exact ih h e
 | case3 l h1 h2=>exact h.elim
section
variable {X:Cx}{pins:List (Addr×Obj)}{σ:St}{H:Hp}{s:Shared}{scope:Scope}{N:List Str}{caps:St->St}{qual:Str}{c P:Addr}
theorem u5{params:Arguments}{body:Expr}{lpos:Pos}{Q:Value->Shared->Prop}(I:Inv X pins σ H s)(S:iW X scope N caps)(hq:X.env.qual++"<lambda>"=qual)(hcode:X.env.code=.ref c)(C:W.CodeHd X.base c P)(hT:H P=some (.tab qual))(hB:M8 X.mg X.base)
  (hdef:defaultsOf params X.env=([],[]))
  (h:∀ (f c':Addr) (pm ctv:Value) (s':Shared) (H':Hp),Inv X pins σ H' s'->s'.heap.get? f=some (W.kla_obj "<lambda>" qual params body scope (eA X.env scope.names []) pm c' ctv)->H' f=none->H' c'=some (.cod qual)->bc H H'->cE X pins H' f->(∀b,H' b≠none->H b≠none\/H' b=some (.cod qual))->Q (.ref f) s') :
  wpAny (model X.prog X.w) X.A (eval (.Lambda params body scope lpos) X.env) Q X.xe s:=by
 have hcl:=k6 (jY I.ok S.free)
 have hCs:=C.keeps I.bk
 have hg:s.heap.Ns mainGlobals X.mg:=by
  obtain⟨o,es,ep,e,r⟩:=I.ok.mod.glob
  exact⟨o,es,ep,I.bk _ _ e,r⟩
 have hPn:X.base.get? P=none:=by
  cases e:X.base.get? P with
  | none=>rfl
  | some o=>rw[(I.bs P o e).2] at hT;cases hT
 obtain⟨ps,hP,ht,hco⟩:=I.hok P _ hT
 have hb:s.heap.BuiltinsAt X.mg P:=by
  obtain⟨bm,o,b1,b2,b3,b4,b5⟩:=hB
  exact⟨bm,o,b1,b2,b3,(fun z=>by rw[z,hPn] at b4;cases b4),I.bk _ _ b4,b5⟩
 refine W.kla_eval hdef ?_
 rw[hq]
 cases hf:codeAmong lpos ps.toList with
 | some cv =>
  obtain⟨c',rfl,hc'⟩:=hco lpos cv hf
  refine W.kla_makeFunctionHit hcl I.ok.glob hg hcode hCs hP ht hf hb fun ctv h' tk kp hz=>?_
  have kp2:∀b o,s.heap.get? b=some o->(h'.push (W.kla_obj "<lambda>" qual params body scope (eA X.env scope.names []) ((X.mg "__name__").getD .none) c' ctv)).get? b=some o:=fun b o e=>zV _ (kp b o e)
  have hn:H h'.objs.size=none:=I.hok.fresh hz
  exact h _ c' _ ctv _ H (I.kept (t':=tk) kp2) (zY _ rfl) hn hc' (.refl _) (I.fpOk hz hn) fun b z=>.inl z
 | none =>
  have hgP:mainGlobals≠P:=fun z=>by
   obtain⟨o,es,ep,e,r⟩:=I.ok.mod.glob
   rw[z,hPn] at e;cases e
  refine W.kla_makeFunction hcl I.ok.glob hg hcode hCs hP ht hf hgP hb fun c' ctv h' tk hx hc1 hc2 hcr hP'=>?_
  have hn:H c'=none:=I.hok.fresh hc1
  have hz:s.heap.objs.size<=h'.objs.size:=Nat.le_of_lt (Nat.lt_of_le_of_lt hc1 hc2)
  have nP:∀ {b:Addr}{u:HO},H b=some u->(∀q,u≠.tab q)->b≠P:=fun {b u} e hne z=>by subst z;rw[hT] at e;cases e;exact hne _ rfl
  have kp:∀b o,b≠P->s.heap.get? b=some o->(h'.push (W.kla_obj "<lambda>" qual params body scope (eA X.env scope.names []) ((X.mg "__name__").getD .none) c' ctv)).get? b=some o:=fun b o hb e=>zV _ (hx b o hb e)
  have hPc:P≠c':=fun z=>by rw[<- z,hT] at hn;cases hn
  have up:∀b u,H b=some u->upd H c' (.cod qual) b=some u:=fun b u e=>by rw[aE (aP e hn)];exact e
  have un:Un X.fs [] H (upd H c' (.cod qual)) s.heap (h'.push (W.kla_obj "<lambda>" qual params body scope (eA X.env scope.names []) ((X.mg "__name__").getD .none) c' ctv)):=by
   refine⟨fun b o e n _ _=>kp b o (fun z=>by rw[z,hT] at n;cases n) e,fun b o e n _ _=>⟨o.slots,kp b o (fun z=>by rw[z,hT] at n;cases n) e⟩,fun b o e n _=>?_,fun b o e _=>?_,fun b xs e=>up b _ e,fun b o u e=>up b _ e,⟨fun b u e _=>up b u e,fun b q ps' e z=>?_⟩⟩
   ·rw[aE (Nat.ne_of_lt (zP (zZ e) hc1))];exact n
   ·by_cases hb:b=P
    ·subst hb;exact⟨_,zV _ hP'⟩
    ·exact⟨o,kp b o hb e⟩
   ·by_cases hb:b=P
    ·subst hb
     rw[hP] at z
     cases z
     exact⟨_,zV _ hP'⟩
    ·exact⟨#[],by rw[Array.append_empty];exact kp b _ hb z⟩
  have hok:oF X.prog X.w (upd H c' (.cod qual)) (h'.push (W.kla_obj "<lambda>" qual params body scope (eA X.env scope.names []) ((X.mg "__name__").getD .none) c' ctv)):=by
   intro b u e
   by_cases hbc:b=c'
   ·subst hbc
    rw[aK] at e
    cases e
    obtain⟨c0,oc,vs,t,e0,e1,r⟩:=hcr
    exact⟨c0,oc,vs,t,e0,zV _ e1,r⟩
   ·rw[aE hbc] at e
    by_cases hb:b=P
    ·subst hb
     rw[hT] at e
     cases e
     refine⟨_,zV _ hP',?_,fun pos v hv=>?_⟩
     ·have:=TriplesOk_snoc lpos.line lpos.col (.ref c') ps.toList ht
      simpa using this
     ·have hv':codeAmong pos (ps.toList++[rawInt lpos.line,rawInt lpos.col,.ref c'])=some v:=by simpa using hv
      rcases y1 ps.toList ht hv' with z|z
      ·obtain⟨c0,z1,z2⟩:=hco pos v z
       exact⟨c0,z1,up _ _ z2⟩
      ·exact⟨c',z,aK⟩
    ·exact (I.hok b u e).stay (fun d o hd eo=>kp d o (by
      rcases hd with rfl|hd
      ·exact hb
      ·exact nP hd fun q z=>by cases z) eo) (fun d hd=>up d _ hd) fun d o hd _=>up d _ hd
  have I':=I.un (t':=tk) un hok
  have hnf:upd H c' (.cod qual) h'.objs.size=none:=by
   rw[aE (Nat.ne_of_gt hc2)];exact I.hok.fresh hz
  refine h _ c' _ ctv _ _ I' (zY _ rfl) hnf aK up (I.fpOk hz hnf) fun b z=>?_
  by_cases hbc:b=c'
  ·subst hbc;exact .inr aK
  ·rw[aE hbc] at z;exact .inl z
end
end L2
namespace Dl
open PySem L2 PySem.Spec PyProof.Rows
noncomputable abbrev D:=PyData
mutual
noncomputable def Rep(K:W.Frag)(H:Hp):D->V->Prop
 | .none,v=>v=.non
 | .bool b,v=>v=.bl b
 | .int i,v=>v=.int i
 | .str x,v=>v=.str x
 | .tuple ds,v=>∃a vs,v=.ref a/\jQ K H a vs/\av K H ds vs
 | .list ds,v=>∃a vs,v=.ref a/\iJ K H a vs/\av K H ds vs
 | .dict _,_=>False
noncomputable def av(K:W.Frag)(H:Hp):List D->List V->Prop
 | [],vs=>vs=[]
 | d::ds,vs=>∃v r,vs=v::r/\Rep K H d v/\av K H ds r
end
theorem aC{K:W.Frag}{H H':Hp}{a:Addr}{xs:List V}(e:bc H H')(h:jQ K H a xs):jQ K H' a xs:=by
 rcases h with (h|⟨o,h⟩)|h
 ·exact .inl (.inl (e _ _ h))
 ·exact .inl (.inr ⟨o,e _ _ h⟩)
 ·exact .inr h
mutual
theorem Rep.mono{K:W.Frag}{H H':Hp}(e:bc H H'):∀ {d:D}{v:V},Rep K H d v->Rep K H' d v
 | .none,_,h=>h
 | .bool _,_,h=>h
 | .int _,_,h=>h
 | .str _,_,h=>h
 | .tuple ds,_,h=>by
  simp only[Rep] at h ⊢
  obtain⟨a,vs,rfl,q,r⟩:=h
  exact⟨a,vs,rfl,aC e q,av.mono e r⟩
 | .list ds,_,h=>by
  simp only[Rep] at h ⊢
  obtain⟨a,vs,rfl,q,r⟩:=h
  exact⟨a,vs,rfl,e.seq q,av.mono e r⟩
 | .dict _,_,h=>h
theorem av.mono{K:W.Frag}{H H':Hp}(e:bc H H'):∀ {ds:List D}{vs:List V},av K H ds vs->av K H' ds vs
 | [],_,h=>h
 | d::ds,_,h=>by
  simp only[av] at h ⊢
  obtain⟨v,r,rfl,a,b⟩:=h
  exact⟨v,r,rfl,Rep.mono e a,av.mono e b⟩
end
section
variable {K:W.Frag}{H:Hp}
theorem av.nil:av K H [] []:=by simp[av]
theorem av.cons{d:D}{v:V}{ds:List D}{vs:List V}(a:Rep K H d v)(b:av K H ds vs):av K H (d::ds) (v::vs):=by
 simp only[av];exact⟨v,vs,rfl,a,b⟩
theorem av.cons_inv{d:D}{ds:List D}{vs:List V}(h:av K H (d::ds) vs):∃v r,vs=v::r/\Rep K H d v/\av K H ds r:=by simpa only[av] using h
theorem av.nil_inv{vs:List V}(h:av K H [] vs):vs=[]:=by simpa only[av] using h
theorem av.length:∀ {ds:List D}{vs:List V},av K H ds vs->vs.length=ds.length
 | [],_,h=>by rw[h.nil_inv];rfl
 | d::ds,_,h=>by obtain⟨v,r,rfl,_,b⟩:=h.cons_inv;simp[av.length b]
theorem av.get:∀ {ds:List D}{vs:List V}{i:Nat}{v:V},av K H ds vs->vs[i]?=some v->∃d,ds[i]?=some d/\Rep K H d v
 | [],_,i,v,h,e=>by rw[h.nil_inv] at e;simp at e
 | d::ds,_,i,v,h,e=>by
  obtain⟨v',r,rfl,a,b⟩:=h.cons_inv
  cases i with
  | zero=>simp at e;subst e;exact⟨d,rfl,a⟩
  | succ i=>simp at e;obtain⟨d',h1,h2⟩:=av.get b e;exact⟨d',by simpa using h1,h2⟩
theorem av.getD:∀ {ds:List D}{vs:List V}{i:Nat}{d:D},av K H ds vs->ds[i]?=some d->∃v,vs[i]?=some v/\Rep K H d v
 | [],_,i,d,h,e=>by simp at e
 | d::ds,_,i,d',h,e=>by
  obtain⟨v',r,rfl,a,b⟩:=h.cons_inv
  cases i with
  | zero=>simp at e;subst e;exact⟨v',rfl,a⟩
  | succ i=>simp at e;obtain⟨v,h1,h2⟩:=av.getD b e;exact⟨v,by simpa using h1,h2⟩
theorem av.append:∀ {ds es:List D}{vs us:List V},av K H ds vs->av K H es us->av K H (ds++es) (vs++us)
 | [],_,_,_,h,g=>by rw[h.nil_inv];exact g
 | d::ds,_,_,_,h,g=>by obtain⟨v,r,rfl,a,b⟩:=h.cons_inv;exact av.cons a (av.append b g)
theorem av.take:∀ {ds:List D}{vs:List V}(n:Nat),av K H ds vs->av K H (ds.take n) (vs.take n)
 | [],_,n,h=>by rw[h.nil_inv];simp[av]
 | d::ds,_,0,h=>by simp[av]
 | d::ds,_,n+1,h=>by obtain⟨v,r,rfl,a,b⟩:=h.cons_inv;exact av.cons a (av.take n b)
theorem av.drop:∀ {ds:List D}{vs:List V}(n:Nat),av K H ds vs->av K H (ds.drop n) (vs.drop n)
 | [],_,n,h=>by rw[h.nil_inv];simp[av]
 | d::ds,_,0,h=>h
 | d::ds,_,n+1,h=>by obtain⟨v,r,rfl,a,b⟩:=h.cons_inv;exact av.drop n b
theorem av.reverse:∀ {ds:List D}{vs:List V},av K H ds vs->av K H ds.reverse vs.reverse
 | [],_,h=>by rw[h.nil_inv];simp[av]
 | d::ds,_,h=>by
  obtain⟨v,r,rfl,a,b⟩:=h.cons_inv
  rw[List.reverse_cons,List.reverse_cons]
  exact av.append (av.reverse b) (av.cons a av.nil)
end
structure cF(HF H HF' H':Hp):Prop where
 hh:bc H H'
 ff:bc HF HF'
 fh:bc HF' H'
 nw:∀a o,HF' a=some o->HF a=some o\/H a=none
theorem cF.refl{HF H:Hp}(s:bc HF H):cF HF H HF H:=⟨.refl _,.refl _,s,fun _ _ e=>.inl e⟩
theorem cF.trans{HF H HF1 H1 HF2 H2:Hp}(a:cF HF H HF1 H1)(b:cF HF1 H1 HF2 H2):cF HF H HF2 H2 :=
 ⟨a.hh.trans b.hh,a.ff.trans b.ff,b.fh,fun x o e=>(b.nw x o e).elim (fun z=>a.nw x o z) fun z=>.inr (a.hh.free z)⟩
theorem dS{H:Hp}{p:Addr}{o:HO}(h:H p=none):bc H (upd H p o):=fun b u e=>by rw[aE (aP e h)];exact e
theorem cF.new{HF H:Hp}{p:Addr}{o:HO}(s:bc HF H)(h:H p=none):cF HF H (upd HF p o) (upd H p o):=by
 have hf:HF p=none:=s.free h
 refine⟨dS h,dS hf,fun b u e=>?_,fun b u e=>?_⟩
 ·by_cases hb:b=p
  ·subst hb;rw[aK] at e ⊢;exact e
  ·rw[aE hb] at e ⊢;exact s b u e
 ·by_cases hb:b=p
  ·subst hb;exact .inr h
  ·rw[aE hb] at e;exact .inl e
theorem cF.own{HF H:Hp}{p:Addr}{o:HO}(s:bc HF H)(h:H p=none):cF HF H HF (upd H p o) :=
 ⟨dS h,.refl _,fun b u e=>by rw[aE (aP (s b u e) h)];exact s b u e,fun _ _ e=>.inl e⟩
theorem cF.freeze{HF H HF1 H1:Hp}{p:Addr}{o:HO}(g:cF HF H HF1 H1)(h:H p=none)(h1:H1 p=some o)(hf:HF1 p=none):cF HF H (upd HF1 p o) H1 :=
 ⟨g.hh,g.ff.trans (dS hf),fun b u e=>by
  by_cases hb:b=p
  ·subst hb;rw[aK] at e;rw[h1,<- e]
  ·rw[aE hb] at e;exact g.fh b u e,fun b u e=>by
  by_cases hb:b=p
  ·subst hb;exact .inr h
  ·rw[aE hb] at e;exact g.nw b u e⟩
def jC:List Str:=["ways_of","turned_order","fairest"]
def gq(K:W.Frag)(HF:Hp):Prop:=∀ (f:Addr) (oc:Value) (od:Option Addr) (fd:FuncData) (sl:Array (Option Value)) (c P:Addr),K.lookup f=some ⟨oc,od,.func fd,sl⟩->fd.qualname∈jC->fd.code=.ref c->W.codeHdIn K c P=true->HF P=some (.tab (fd.qualname++".<locals>."++"<lambda>"))
theorem gq.mono{K:W.Frag}{HF HF':Hp}(h:gq K HF)(e:bc HF HF'):gq K HF':=fun f oc od fd sl c P a b d q=>e _ _ (h f oc od fd sl c P a b d q)
noncomputable abbrev Env:=List (Option D)
structure cW(K:W.Frag)(HF:Hp)(ρ:Env)(σ:L2.St):Prop where
 get:∀ (i:Nat) (d:D),ρ[i]?=some (some d)->∃v,σ[i]?=some (some v)/\Rep K HF d v
 len:ρ.length<=σ.length
 tb:gq K HF
theorem cW.mono{K:W.Frag}{HF HF':Hp}{ρ:Env}{σ:L2.St}(h:cW K HF ρ σ)(e:bc HF HF'):cW K HF' ρ σ:=⟨fun i d q=>let ⟨v,a,b⟩:=h.get i d q;⟨v,a,b.mono e⟩,h.len,h.tb.mono e⟩
def tD(K:W.Frag)(f:Env->Option D):TE:=fun σ H Q=>∃HF ρ d,bc HF H/\cW K HF ρ σ/\f ρ=some d/\∀v H' HF',cF HF H HF' H'->Rep K HF' d v->Q v H'
def DE(X:Cx)(e:Expr)(f:Env->Option D):Prop:=PE X e (tD X.K f)
def tF(K:W.Frag)(f:Env->Option (List D)):TE:=fun σ H Q=>∃HF ρ ds,bc HF H/\cW K HF ρ σ/\f ρ=some ds /\
 ∀a vs H' HF',cF HF H HF' H'->H a=none->HF' a=none->H' a=some (.lst vs)->av K HF' ds vs->Q (.ref a) H'
def DF(X:Cx)(e:Expr)(f:Env->Option (List D)):Prop:=PE X e (tF X.K f)
def Ki(K:W.Frag)(f:Env->Option Bool):TT:=fun σ H Q=>∃HF ρ b,bc HF H/\cW K HF ρ σ/\f ρ=some b/\∀H' HF',cF HF H HF' H'->Q b H'
def DT(X:Cx)(e:Expr)(f:Env->Option Bool):Prop:=PT X e (Ki X.K f)
def N2(K:W.Frag)(f:Env->Option (List D)):TA:=fun σ H Q=>∃HF ρ ds,bc HF H/\cW K HF ρ σ/\f ρ=some ds/\∀vs H' HF',cF HF H HF' H'->av K HF' ds vs->Q vs H'
def DA(X:Cx)(es:List Expr)(f:Env->Option (List D)):Prop:=PA X es (N2 X.K f)
section
variable {X:Cx}
theorem aR{e:Expr}{t t':TE}(h:PE X e t)(i:∀σ H Q,t' σ H Q->t σ H Q):PE X e t':=fun pins s σ H Q I q=>h pins s σ H Q I (i σ H Q q)
theorem sW{e:Expr}{t t':TT}(h:PT X e t)(i:∀σ H Q,t' σ H Q->t σ H Q):PT X e t':=fun pins s σ H Q I q=>h pins s σ H Q I (i σ H Q q)
theorem DB{e:List Expr}{t t':TA}(h:PA X e t)(i:∀σ H Q,t' σ H Q->t σ H Q):PA X e t':=fun pos pins s σ H Q I q=>h pos pins s σ H Q I (i σ H Q q)
theorem bs{α β:Type}{x:Option α}{f:α->Option β}{b:β}(h:x.bind f=some b):∃a,x=some a/\f a=some b:=by
 cases x with
 | none=>cases h
 | some a=>exact⟨a,rfl,h⟩
theorem DF.de{e:Expr}{f:Env->Option (List D)}(h:DF X e f):DE X e (fun ρ=>(f ρ).map PyData.list):=aR h fun σ H Q ⟨HF,ρ,d,sm,eo,hf,q⟩=>by
 have hf:(f ρ).map PyData.list=some d:=hf
 cases e1:f ρ with
 | none=>rw[e1] at hf;cases hf
 | some ds =>
  rw[e1] at hf
  obtain rfl:PyData.list ds=d:=Option.some.inj hf
  refine⟨HF,ρ,ds,sm,eo,e1,fun a vs H' HF' g ha hf' h' r=>q _ _ (upd HF' a (.lst vs)) (g.freeze ha h' hf') ?_⟩
  simp only[Rep]
  exact⟨a,vs,rfl,.inl (.inl aK),r.mono (dS hf')⟩
noncomputable def ab(i:Nat):Env->Option D:=fun ρ=>(ρ[i]?).getD none
theorem Ld(i:Nat){x:Str}{pos:Pos}(hN:X.N[i]?=some x)(hv:IG X.env.scope x)(hd:(x == ("__debug__":Str))=false:=by decide)(hcd:(x == ("__classdict__":Str))=false:=by decide):DE X (.Name x pos) (ab i) :=
 aR (qf hN hv hd hcd) fun σ H Q ⟨HF,ρ,d,sm,eo,hf,q⟩=>by
  have hf:(ρ[i]?).getD none=some d:=hf
  cases e:ρ[i]? with
  | none=>rw[e] at hf;cases hf
  | some o =>
   rw[e] at hf
   have hf:o=some d:=hf
   subst hf
   obtain⟨v,a,b⟩:=eo.get i d e
   exact⟨v,a,q v H HF (.refl sm) b⟩
noncomputable def fC(d:D):Env->Option D:=fun _=>some d
theorem Kw{i j pos}:DE X (.Constant (.int i) j pos) (fC (.int i)):=aR uP fun σ H Q ⟨HF,ρ,d,sm,eo,hf,q⟩=>by cases hf;exact q _ H HF (.refl sm) (by simp[Rep])
theorem L7{b j pos}:DE X (.Constant (.bool b) j pos) (fC (.bool b)):=aR MJ fun σ H Q ⟨HF,ρ,d,sm,eo,hf,q⟩=>by cases hf;exact q _ H HF (.refl sm) (by simp[Rep])
theorem JW{j pos}:DE X (.Constant .none j pos) (fC .none):=aR JB fun σ H Q ⟨HF,ρ,d,sm,eo,hf,q⟩=>by cases hf;exact q _ H HF (.refl sm) (by simp[Rep])
theorem Kp{x j pos}:DE X (.Constant (.str x) j pos) (fC (.str x)):=aR KJ fun σ H Q ⟨HF,ρ,d,sm,eo,hf,q⟩=>by cases hf;exact q _ H HF (.refl sm) (by simp[Rep])
theorem Ih{x:Str}{i:Int}{t:Tok}{pos:Pos}(hg:Gl X x)(hm:X.mg x=some (.int i t))(hd:(x == ("__debug__":Str))=false:=by decide):DE X (.Name x pos) (fC (.int i)) :=
 aR (HG (v:=.int i) hg hm ⟨t,rfl⟩ hd) fun σ H Q ⟨HF,ρ,d,sm,eo,hf,q⟩=>by cases hf;exact q _ H HF (.refl sm) (by simp[Rep])
def fN(K:W.Frag)(r:R2)(g:D->D->Option D):Prop:=∀HF H x y v1 v2 d Q,bc HF H->Rep K HF x v1->Rep K HF y v2->g x y=some d->(∀v H' HF',cF HF H HF' H'->Rep K HF' d v->Q v H')->r v1 v2 H Q
noncomputable def f2(g:D->D->Option D)(f1 f2:Env->Option D):Env->Option D:=fun ρ=>(f1 ρ).bind fun x=>(f2 ρ).bind fun y=>g x y
variable {a b c:Expr}{fa fb fc:Env->Option D}{pos:Pos}
theorem FP{r:R2}{g:D->D->Option D}(hr:fN X.K r g):∀σ H Q,tD X.K (f2 g fa fb) σ H Q->Mn r (tD X.K fa) (tD X.K fb) σ H Q:=fun σ H Q ⟨HF,ρ,d,sm,eo,hf,q⟩=>by
 obtain⟨x,hx,hf⟩:=bs hf
 obtain⟨y,hy,hg⟩:=bs hf
 exact⟨HF,ρ,x,sm,eo,hx,fun v1 H1 HF1 g1 r1=>⟨HF1,ρ,y,g1.fh,eo.mono g1.ff,hy,fun v2 H2 HF2 g2 r2=>hr HF2 H2 x y v1 v2 d Q g2.fh (r1.mono g2.ff) r2 hg fun v H' HF' g3 r3=>q v H' HF' ((g1.trans g2).trans g3) r3⟩⟩
theorem vn{op:Operator}{r:R2}{g:D->D->Option D}(ho:ij X (binaryOp op) r)(hr:fN X.K r g)(ha:DE X a fa)(hb:DE X b fb):DE X (.BinOp a op b pos) (f2 g fa fb):=aR (FA ho ha hb) (FP hr)
theorem jg{op:CmpOp}{r:R2}{g:D->D->Option D}(ho:ij X (compareOp op) r)(hr:fN X.K r g)(ha:DE X a fa)(hb:DE X b fb)(hm:behindInMarks op b=false):DE X (.Compare a [op] [b] pos) (f2 g fa fb):=aR (HK ho ha hb hm) (FP hr)
noncomputable def uZ(C:Int->Int->Prop)[∀i j,Decidable (C i j)](g:Int->Int->D):D->D->Option D
 | .int i,.int j=>if C i j then some (g i j) else none
 | _,_=>none
theorem DU{K:W.Frag}{C:Int->Int->Prop}[∀i j,Decidable (C i j)]{gi:Int->Int->Int}:fN K (rI C fun i j=>.int (gi i j)) (uZ C fun i j=>.int (gi i j)):=by
 intro HF H x y v1 v2 d Q sm r1 r2 hg q
 cases x<;>cases y<;>simp only[uZ] at hg<;>try cases hg
 rename_i i j
 simp only[Rep] at r1 r2
 by_cases hc:C i j
 ·rw[if_pos hc] at hg
  cases hg
  exact⟨i,j,r1,r2,hc,q _ H HF (.refl sm) (by simp[Rep])⟩
 ·rw[if_neg hc] at hg;cases hg
theorem CV{K:W.Frag}{gi:Int->Int->Int}:fN K (FJ fun i j=>.int (gi i j)) (uZ (fun _ _=>True) fun i j=>.int (gi i j)):=by
 intro HF H x y v1 v2 d Q sm r1 r2 hg q
 cases x<;>cases y<;>simp only[uZ] at hg<;>try cases hg
 rename_i i j
 simp only[Rep] at r1 r2
 exact⟨i,j,r1,r2,q _ H HF (.refl sm) (by simp[Rep])⟩
theorem hV{K:W.Frag}{gi:Int->Int->Bool}:fN K (FJ fun i j=>.bl (gi i j)) (uZ (fun _ _=>True) fun i j=>.bool (gi i j)):=by
 intro HF H x y v1 v2 d Q sm r1 r2 hg q
 cases x<;>cases y<;>simp only[uZ] at hg<;>try cases hg
 rename_i i j
 simp only[Rep] at r1 r2
 exact⟨i,j,r1,r2,q _ H HF (.refl sm) (by simp[Rep])⟩
noncomputable instance (i j:Int):Decidable (rA i j):=by unfold rA;infer_instance
noncomputable instance (i j:Int):Decidable (Gn i j):=by unfold Gn;infer_instance
end
section
variable {X:Cx}{a b c:Expr}{fa fb fc:Env->Option D}{pos:Pos}{rest:List Expr}
noncomputable def jt(fa fb:Env->Option D):Env->Option D:=fun ρ=>(fa ρ).bind fun|.bool true=>fb ρ|.bool false=>some (.bool false)|_=>none
noncomputable def Gr(fa fb:Env->Option D):Env->Option D:=fun ρ=>(fa ρ).bind fun|.bool true=>some (.bool true)|.bool false=>fb ρ|_=>none
noncomputable def Kx:D->Option D|.bool b=>some (.bool (!b))|_=>none
noncomputable def xE(fa:Env->Option D):Env->Option D:=fun ρ=>(fa ρ).bind Kx
theorem Le{op}(h:DE X a fa):DE X (.BoolOp op [a] pos) fa:=KU h
theorem Kr(ha:DE X a fa)(hb:DE X (.BoolOp .And (b::rest) pos) fb):DE X (.BoolOp .And (a::b::rest) pos) (jt fa fb):=aR (J5 ha hb) fun σ H Q ⟨HF,ρ,d,sm,eo,hf,q⟩=>by
 obtain⟨x,hx,hf⟩:=bs hf
 refine⟨HF,ρ,x,sm,eo,hx,fun v1 H1 HF1 g1 r1=>?_⟩
 cases x<;>try cases hf
 rename_i k
 simp only[Rep] at r1
 refine⟨k,r1,?_⟩
 cases k with
 | true=>exact vC ⟨HF1,ρ,d,g1.fh,eo.mono g1.ff,hf,fun v H' HF' g r=>q v H' HF' (g1.trans g) r⟩
 | false=>cases hf;exact vq (q _ H1 HF1 g1 (by simp[Rep]))
theorem L3(ha:DE X a fa)(hb:DE X (.BoolOp .Or (b::rest) pos) fb):DE X (.BoolOp .Or (a::b::rest) pos) (Gr fa fb):=aR (Fi ha hb) fun σ H Q ⟨HF,ρ,d,sm,eo,hf,q⟩=>by
 obtain⟨x,hx,hf⟩:=bs hf
 refine⟨HF,ρ,x,sm,eo,hx,fun v1 H1 HF1 g1 r1=>?_⟩
 cases x<;>try cases hf
 rename_i k
 simp only[Rep] at r1
 refine⟨k,r1,?_⟩
 cases k with
 | false=>exact vq ⟨HF1,ρ,d,g1.fh,eo.mono g1.ff,hf,fun v H' HF' g r=>q v H' HF' (g1.trans g) r⟩
 | true=>cases hf;exact vC (q _ H1 HF1 g1 (by simp[Rep]))
theorem KH(ha:DE X a fa):DE X (.UnaryOp .Not a pos) (xE fa):=aR (K5 ha) fun σ H Q ⟨HF,ρ,d,sm,eo,hf,q⟩=>by
 obtain⟨x,hx,hf⟩:=bs hf
 refine⟨HF,ρ,x,sm,eo,hx,fun v1 H1 HF1 g1 r1=>?_⟩
 cases x<;>try cases hf
 rename_i k
 simp only[Rep] at r1
 exact⟨k,r1,q _ H1 HF1 g1 (by simp[Rep])⟩
noncomputable def gB:D->Option Bool|.bool b=>some b|_=>none
noncomputable def fB(f:Env->Option D):Env->Option Bool:=fun ρ=>(f ρ).bind gB
theorem zg{f:Env->Option D}:∀σ H (Q:Bool->Hp->Prop),Ki X.K (fB f) σ H Q->tD X.K f σ H fun x H1=>∃c,x=.bl c/\Q c H1:=fun σ H Q ⟨HF,ρ,k,sm,eo,hf,q⟩=>by
 obtain⟨x,hx,hf⟩:=bs hf
 refine⟨HF,ρ,x,sm,eo,hx,fun v1 H1 HF1 g1 r1=>?_⟩
 cases x<;>try cases hf
 simp only[Rep] at r1
 exact⟨_,r1,q H1 HF1 g1⟩
theorem KW{f:Env->Option D}(h:DE X a f)(he:∀whole,isTrue a X.env whole=(do let v <- whole;standAt a.pos;holding [v] (truthy v)):=by intro _;rfl):DT X a (fB f):=sW (K1 h he) zg
theorem iX{op:CmpOp}{r:R2}{g:D->D->Option D}(ho:ij X (compareOp op) r)(hr:fN X.K r g)(ha:DE X a fa)(hb:DE X b fb)(hm:behindInMarks op b=false):DT X (.Compare a [op] [b] pos) (fB (f2 g fa fb)) :=
 sW (Io ho ha hb hm) fun σ H Q h=>FP hr σ H _ (zg σ H Q h)
noncomputable def dm(fa fb:Env->Option Bool):Env->Option Bool:=fun ρ=>(fa ρ).bind fun|true=>fb ρ|false=>some false
noncomputable def il(fa fb:Env->Option Bool):Env->Option Bool:=fun ρ=>(fa ρ).bind fun|true=>some true|false=>fb ρ
noncomputable def ba(fa:Env->Option Bool):Env->Option Bool:=fun ρ=>(fa ρ).map (!·)
variable {ta tb:Env->Option Bool}
def DW(X:Cx)(e:Expr)(f:Env->Option Bool):Prop:=PW X e (Ki X.K f)
theorem FD{e:Expr}{t t':TT}(h:PW X e t)(i:∀σ H Q,t' σ H Q->t σ H Q):PW X e t':=fun wh pins s σ H Q I q=>h wh pins s σ H Q I (i σ H Q q)
theorem DW.dt(h:DW X a ta):DT X a ta:=PW.pt h
theorem Iu(ha:DT X a ta):DW X (.BoolOp .And [a] pos) ta:=Ij ha
theorem Jp(ha:DT X a ta):DW X (.BoolOp .Or [a] pos) ta:=JA ha
theorem Ln(ha:DT X a ta)(hb:DW X (.BoolOp .And (b::rest) pos) tb):DW X (.BoolOp .And (a::b::rest) pos) (dm ta tb):=FD (J3 ha hb) fun σ H Q ⟨HF,ρ,d,sm,eo,hf,q⟩=>by
 obtain⟨x,hx,hf⟩:=bs hf
 refine⟨HF,ρ,x,sm,eo,hx,fun H1 HF1 g1=>?_⟩
 cases x with
 | true=>exact vC ⟨HF1,ρ,d,g1.fh,eo.mono g1.ff,hf,fun H' HF' g=>q H' HF' (g1.trans g)⟩
 | false=>cases hf;exact vq (q H1 HF1 g1)
theorem Mq(ha:DT X a ta)(hb:DW X (.BoolOp .Or (b::rest) pos) tb):DW X (.BoolOp .Or (a::b::rest) pos) (il ta tb):=FD (MB ha hb) fun σ H Q ⟨HF,ρ,d,sm,eo,hf,q⟩=>by
 obtain⟨x,hx,hf⟩:=bs hf
 refine⟨HF,ρ,x,sm,eo,hx,fun H1 HF1 g1=>?_⟩
 cases x with
 | false=>exact vq ⟨HF1,ρ,d,g1.fh,eo.mono g1.ff,hf,fun H' HF' g=>q H' HF' (g1.trans g)⟩
 | true=>cases hf;exact vC (q H1 HF1 g1)
theorem Lw(ha:DT X a ta):DT X (.UnaryOp .Not a pos) (ba ta):=sW (KY ha) fun σ H Q ⟨HF,ρ,d,sm,eo,hf,q⟩=>by
 have hf:(ta ρ).map (!·)=some d:=hf
 cases e:ta ρ with
 | none=>rw[e] at hf;cases hf
 | some k=>rw[e] at hf;cases hf;exact⟨HF,ρ,k,sm,eo,e,fun H1 HF1 g1=>q H1 HF1 g1⟩
noncomputable def IH(tc:Env->Option Bool)(fa fb:Env->Option D):Env->Option D:=fun ρ=>(tc ρ).bind fun|true=>fa ρ|false=>fb ρ
theorem LO{c:Expr}(hc:DT X c ta)(ha:DE X a fa)(hb:DE X b fb):DE X (.IfExp c a b pos) (IH ta fa fb):=aR (D1 hc ha hb) fun σ H Q ⟨HF,ρ,d,sm,eo,hf,q⟩=>by
 obtain⟨x,hx,hf⟩:=bs hf
 refine⟨HF,ρ,x,sm,eo,hx,fun H1 HF1 g1=>?_⟩
 cases x with
 | true=>exact vC ⟨HF1,ρ,d,g1.fh,eo.mono g1.ff,hf,fun v H' HF' g r=>q v H' HF' (g1.trans g) r⟩
 | false=>exact vq ⟨HF1,ρ,d,g1.fh,eo.mono g1.ff,hf,fun v H' HF' g r=>q v H' HF' (g1.trans g) r⟩
noncomputable def fU(g g':D->D->Option D)(fa fb fc:Env->Option D):Env->Option D:=fun ρ=>(fa ρ).bind fun x=>(fb ρ).bind fun y=>(g x y).bind fun|.bool true=>(fc ρ).bind fun z=>g' y z|.bool false=>some (.bool false)|_=>none
theorem AA{r r':R2}{g g':D->D->Option D}(hr:fN X.K r g)(hr':fN X.K r' g'):∀σ H Q,tD X.K (fU g g' fa fb fc) σ H Q->xJ r r' (tD X.K fa) (tD X.K fb) (tD X.K fc) σ H Q:=fun σ H Q ⟨HF,ρ,d,sm,eo,hf,q⟩=>by
 obtain⟨x,hx,hf⟩:=bs hf
 obtain⟨y,hy,hf⟩:=bs hf
 obtain⟨z,hz,hf⟩:=bs hf
 refine⟨HF,ρ,x,sm,eo,hx,fun v1 H1 HF1 g1 r1=>⟨HF1,ρ,y,g1.fh,eo.mono g1.ff,hy,fun v2 H2 HF2 g2 r2=>hr HF2 H2 x y v1 v2 z _ g2.fh (r1.mono g2.ff) r2 hz fun v3 H3 HF3 g3 r3=>?_⟩⟩
 cases z<;>try cases hf
 rename_i k
 simp only[Rep] at r3
 refine⟨k,r3,?_⟩
 have G:=(g1.trans g2).trans g3
 cases k with
 | false=>cases hf;exact vq (q _ H3 HF3 G (by simp[Rep]))
 | true =>
  obtain⟨w,hw,hg⟩:=bs hf
  exact vC ⟨HF3,ρ,w,G.fh,eo.mono G.ff,hw,fun v4 H4 HF4 g4 r4=>hr' HF4 H4 y w v2 v4 d Q g4.fh (r2.mono (g3.ff.trans g4.ff)) r4 hg fun v H' HF' g5 r5=>q v H' HF' ((G.trans g4).trans g5) r5⟩
theorem D6{op op':CmpOp}{r r':R2}{g g':D->D->Option D}(ho:ij X (compareOp op) r)(hr:fN X.K r g)(ho':ij X (compareOp op') r')(hr':fN X.K r' g')(ha:DE X a fa)(hb:DE X b fb)(hc:DE X c fc)
  (hm:lastMarks [op,op'] [b,c]=false:=by with_unfolding_all rfl):DE X (.Compare a [op,op'] [b,c] pos) (fU g g' fa fb fc):=aR (DK ho ho' ha hb hc hm) (AA hr hr')
theorem Fp{op op':CmpOp}{r r':R2}{g g':D->D->Option D}(ho:ij X (compareOp op) r)(hr:fN X.K r g)(ho':ij X (compareOp op') r')(hr':fN X.K r' g')(ha:DE X a fa)(hb:DE X b fb)(hc:DE X c fc)
  (hm:lastMarks [op,op'] [b,c]=false:=by with_unfolding_all rfl):DT X (.Compare a [op,op'] [b,c] pos) (fB (fU g g' fa fb fc)) :=
 sW (DV ho ho' ha hb hc hm) fun σ H Q h=>AA hr hr' σ H _ (zg σ H Q h)
noncomputable def ae:Env->Option (List D):=fun _=>some []
noncomputable def aa(f:Env->Option D)(g:Env->Option (List D)):Env->Option (List D):=fun ρ=>(f ρ).bind fun x=>(g ρ).map (x::·)
theorem EG:DA X [] ae:=DB hJ fun σ H Q ⟨HF,ρ,d,sm,eo,hf,q⟩=>by cases hf;exact q [] H HF (.refl sm) av.nil
theorem Az{e:Expr}{es:List Expr}{f:Env->Option D}{g:Env->Option (List D)}(he:DE X e f)(hs:DA X es g)(hst:starEach (e::es) X.env=(false,eval e X.env)::starEach es X.env:=by rfl):DA X (e::es) (aa f g) :=
 DB (dw he hs hst) fun σ H Q ⟨HF,ρ,d,sm,eo,hf,q⟩=>by
  obtain⟨x,hx,hf⟩:=bs hf
  have hf:(g ρ).map (x::·)=some d:=hf
  cases e1:g ρ with
  | none=>rw[e1] at hf;cases hf
  | some xs =>
   rw[e1] at hf;cases hf
   exact⟨HF,ρ,x,sm,eo,hx,fun v1 H1 HF1 g1 r1=>⟨HF1,ρ,xs,g1.fh,eo.mono g1.ff,e1,fun vs H2 HF2 g2 r2=>q (v1::vs) H2 HF2 (g1.trans g2) (av.cons (r1.mono g2.ff) r2)⟩⟩
variable {es:List Expr}{fs:Env->Option (List D)}
noncomputable def small(ds:List D):Option (List D):=if ds.length<=sizeLine then some ds else none
theorem eD{ds es:List D}(h:small ds=some es):es=ds/\ds.length<=sizeLine:=by
 unfold small at h
 split at h
 ·cases h;exact⟨rfl,‹_›⟩
 ·cases h
noncomputable def aM(g:Env->Option (List D)):Env->Option D:=fun ρ=>(g ρ).bind fun ds=>(small ds).map PyData.tuple
noncomputable def dc(g:Env->Option (List D)):Env->Option (List D):=fun ρ=>(g ρ).bind small
theorem Kb{x1}(h:DA X es fs):DE X (.Tuple es x1 pos) (aM fs):=aR (JS h) fun σ H Q ⟨HF,ρ,d,sm,eo,hf,q⟩=>by
 obtain⟨ds,hx,hf⟩:=bs hf
 have hf:(small ds).map PyData.tuple=some d:=hf
 cases e:small ds with
 | none=>rw[e] at hf;cases hf
 | some es' =>
  rw[e] at hf;cases hf
  obtain⟨rfl,hz⟩:=eD e
  refine⟨HF,ρ,_,sm,eo,hx,fun vs H1 HF1 g1 r1=>⟨by rw[r1.length];exact hz,fun p hp=>q _ _ (upd HF1 p (.tup vs)) (g1.trans (.new g1.fh hp)) ?_⟩⟩
  simp only[Rep]
  exact⟨p,vs,rfl,.inl (.inl aK),r1.mono (dS (g1.fh.free hp))⟩
theorem Kd(h:DA X es fs):DF X (.List es pos) (dc fs):=aR (K2 h) fun σ H Q ⟨HF,ρ,d,sm,eo,hf,q⟩=>by
 obtain⟨ds,hx,hf⟩:=bs hf
 obtain⟨rfl,hz⟩:=eD hf
 exact⟨HF,ρ,_,sm,eo,hx,fun vs H1 HF1 g1 r1=>⟨by rw[r1.length];exact hz,fun p hp=>q p vs _ HF1 (g1.trans (.own g1.fh hp)) (g1.hh.free hp) (g1.fh.free hp) aK r1⟩⟩
noncomputable def aq:D->D->Option D
 | .tuple ds,.int i=>uU ds i
 | .list ds,.int i=>uU ds i
 | _,_=>none
theorem wU{K:W.Frag}{HF:Hp}{ds:List D}{vs:List V}{i:Int}{d:D}(r:av K HF ds vs)(h:uU ds i=some d):∃v,uU vs i=some v/\Rep K HF d v:=by
 unfold uU at h ⊢
 rw[r.length]
 obtain⟨j,hj,h⟩:=bs h
 obtain⟨v,a,b⟩:=r.getD h
 exact⟨v,by rw[hj];exact a,b⟩
theorem Kz{K:W.Frag}:fN K (Oo K) aq:=by
 intro HF H x y v1 v2 d Q sm r1 r2 hg q
 cases x<;>cases y<;>simp only[aq] at hg<;>try cases hg
 ·simp only[Rep] at r1 r2
  obtain⟨a,vs,rfl,hs,r⟩:=r1
  obtain⟨v,hv,rv⟩:=wU r hg
  exact .inl ⟨a,vs,_,v,rfl,r2,sm.seq hs,hv,q v H HF (.refl sm) rv⟩
 ·simp only[Rep] at r1 r2
  obtain⟨a,vs,rfl,hs,r⟩:=r1
  obtain⟨v,hv,rv⟩:=wU r hg
  exact .inr (.inl ⟨a,vs,_,v,rfl,r2,aC sm hs,hv,q v H HF (.refl sm) rv⟩)
theorem MH(ha:DE X a fa)(hb:DE X b fb)(hs:sT b:=by intro _ _;rfl):DE X (.Subscript a b pos) (f2 aq fa fb):=aR (MQ Lh ha hb hs) (FP Kz)
mutual
theorem dZ{pins:List (Addr×Obj)}{σ:L2.St}{H HF:Hp}{s:Shared}(I:Inv X pins σ H s)(sm:bc HF H):∀ {d:D}{v:V}{u:Value},Rep X.K HF d v->RelV v u->∃as,Reads s.heap u d as
 | .none,_,_,h,r=>by simp only[Rep] at h;subst h;cases r;exact⟨_,.none⟩
 | .bool b,_,_,h,r=>by simp only[Rep] at h;subst h;cases r;exact⟨_,.bool b⟩
 | .int i,_,_,h,r=>by simp only[Rep] at h;subst h;obtain⟨t,rfl⟩:=r;exact⟨_,.int i t⟩
 | .str i,_,_,h,r=>by simp only[Rep] at h;subst h;obtain⟨t,rfl⟩:=r;exact⟨_,.str i t⟩
 | .tuple ds,_,_,h,r=>by
  simp only[Rep] at h
  obtain⟨a,vs,rfl,hs,rr⟩:=h
  cases r
  obtain⟨its,rv,⟨o,ho,hc,n,hd⟩,_⟩:=I.tuple (aC sm hs)
  obtain⟨as,q⟩:=mG I sm rr rv
  exact⟨as,.tuple ho hc hd (by simpa using q)⟩
 | .list ds,_,_,h,r=>by
  simp only[Rep] at h
  obtain⟨a,vs,rfl,hs,rr⟩:=h
  cases r
  obtain⟨its,rv,pl,_⟩:=I.list (sm.seq hs)
  obtain⟨o,ho,hc,n,hd⟩:=pl.isList
  obtain⟨as,q⟩:=mG I sm rr rv
  exact⟨_,.list ho hc hd (by simpa using q)⟩
 | .dict _,_,_,h,r=>by simp only[Rep] at h
theorem mG{pins:List (Addr×Obj)}{σ:L2.St}{H HF:Hp}{s:Shared}(I:Inv X pins σ H s)(sm:bc HF H):∀ {ds:List D}{vs:List V}{us:List Value},av X.K HF ds vs->aF vs us->∃as,ReadsAll s.heap us ds as
 | [],_,_,h,r=>by rw[h.nil_inv] at r;cases r;exact⟨_,.nil⟩
 | d::ds,_,_,h,r=>by
  obtain⟨v,vr,rfl,a,b⟩:=h.cons_inv
  cases r with
  | cons r rr =>
   obtain⟨as,q⟩:=dZ I sm a r
   obtain⟨bs,p⟩:=mG I sm b rr
   exact⟨_,.cons q p⟩
end
def ME(K:W.Frag)(g:D->D->Option Bool):R2:=fun v1 v2 H Q=>∃HF x y k,bc HF H/\Rep K HF x v1/\Rep K HF y v2/\g x y=some k/\Q (.bl k) H
theorem jD{K:W.Frag}{g:D->D->Option Bool}:fN K (ME K g) (fun x y=>(g x y).map PyData.bool):=by
 intro HF H x y v1 v2 d Q sm r1 r2 hg q
 have hg:(g x y).map PyData.bool=some d:=hg
 cases e:g x y with
 | none=>rw[e] at hg;cases hg
 | some k=>rw[e] at hg;cases hg;exact⟨HF,x,y,k,sm,r1,r2,e,q _ H HF (.refl sm) (by simp[Rep])⟩
noncomputable def JE(x y:D):Option Bool:=if SeqAt.shaped x=true/\SeqAt.shaped y=true then some (PyData.eqv x y) else none
noncomputable def HS(x y:D):Option Bool:=if SeqAt.shaped x=true/\SeqAt.shaped y=true then some (!PyData.eqv x y) else none
theorem D2(hu:X.A.units+64 < cLine):ij X (compareOp .Eq) (ME X.K JE):=by
 intro pins s σ H v1 v2 u1 u2 Q I rx ry h
 obtain⟨HF,x,y,k,sm,r1,r2,hg,q⟩:=h
 unfold JE at hg
 split at hg<;>cases hg
 rename_i hh
 obtain⟨as,ra⟩:=dZ I sm r1 rx
 obtain⟨bs,rb⟩:=dZ I sm r2 ry
 exact eq_dataH ra rb hh.1 hh.2 hu ⟨.bl _,H,I,rfl,q⟩
theorem Fm(hu:X.A.units+64 < cLine):ij X (compareOp .NotEq) (ME X.K HS):=by
 intro pins s σ H v1 v2 u1 u2 Q I rx ry h
 obtain⟨HF,x,y,k,sm,r1,r2,hg,q⟩:=h
 unfold HS at hg
 split at hg<;>cases hg
 rename_i hh
 obtain⟨as,ra⟩:=dZ I sm r1 rx
 obtain⟨bs,rb⟩:=dZ I sm r2 ry
 exact ne_dataH ra rb hh.1 hh.2 hu ⟨.bl _,H,I,rfl,q⟩
noncomputable def items:D->Option (List D)|.tuple ds=>some ds|.list ds=>some ds|_=>none
noncomputable def N6(x y:D):Option Bool:=match y with
 | .tuple ds=>if SeqAt.shaped x=true/\SeqAt.shaped y=true then some (ds.any fun z=>PyData.eqv z x) else none
 | .list ds=>if SeqAt.shaped x=true/\SeqAt.shaped y=true then some (ds.any fun z=>PyData.eqv z x) else none
 | _=>none
theorem E9(hu:X.A.units+66 < cLine):ij X (compareOp .In) (ME X.K N6):=by
 intro pins s σ H v1 v2 u1 u2 Q I rx ry h
 obtain⟨HF,x,y,k,sm,r1,r2,hg,q⟩:=h
 obtain⟨as,ra⟩:=dZ I sm r1 rx
 obtain⟨bs,rb⟩:=dZ I sm r2 ry
 cases y<;>simp only[N6] at hg<;>try cases hg
 all_goals
  split at hg<;>cases hg
  rename_i ds hh
  have c1:=SeqAt.canLay_of_shaped hh.1
  have c2:=SeqAt.canLay_of_shaped hh.2
  have d1:=SeqAt.depth_of_shaped hh.1
  simp only[PyData.canLay0] at c2
  have m:=Nat.min_le_right (PyData.depthAll ds) x.depth
  first
   | exact SeqAt.in_list_reads rb ra c2 c1 (by omega) ⟨.bl _,H,I,rfl,q⟩
   | exact SeqAt.in_tuple_reads rb ra c2 c1 (by omega) ⟨.bl _,H,I,rfl,q⟩
end
noncomputable def MD(K:W.Frag)(n:Nat)(m:List D->Option D):Sp:=fun vs H Q _=>∃HF ds d,bc HF H/\gq K HF/\av K HF ds vs/\ds.length=n/\m ds=some d/\∀v H' HF',cF HF H HF' H'->Rep K HF' d v->Q v H'
structure dP(P:Program)(w:World)(K:W.Frag)(mg:Str->Option Value)(base:Heap)(k:Nat)(x:Str)(n:Nat)(m:List D->Option D):Prop where
 ex:∃ (f:Addr) (fd:FuncData) (ps:List Str),pk P w K mg base LD k f fd ps (MD K n m)/\mg x=some (.ref f)/\W.keepIn K (.ref f)=true/\Binds K fd ps []
theorem dP.mono{P:Program}{w:World}{K:W.Frag}{mg:Str->Option Value}{base:Heap}{k j:Nat}{x:Str}{n:Nat}{m:List D->Option D}(F:dP P w K mg base k x n m)(h:k<=j):dP P w K mg base j x n m:=by
 obtain⟨f,fd,ps,a,b,c,d⟩:=F.ex
 exact⟨f,fd,ps,a.mono h,b,c,d⟩
section
variable {X:Cx}{a b c e:Expr}{es:List Expr}{fa fb fc:Env->Option D}{fs:Env->Option (List D)}{pos p:Pos}{x:Str}
noncomputable def ah(n:Nat)(m:List D->Option D)(fs:Env->Option (List D)):Env->Option D:=fun ρ=>(fs ρ).bind fun ds=>if ds.length=n then m ds else none
theorem Gc{k n:Nat}{m:List D->Option D}(F:dP X.prog X.w X.K X.mg X.base k x n m)(hr:et k X.A)(hg:Gl X x)(ha:DA X (e::es) fs)(hdb:(x == ("__debug__":Str))=false:=by decide)
  (he:starEach (e::es) X.env=(false,eval e X.env)::starEach es X.env:=by rfl) (hpl:(backTo pos (starEach es X.env)).any (·.1)=false:=by rfl):DE X (.Call (.Name x p) (e::es) [] pos) (ah n m fs):=by
 obtain⟨f,fd,ps,ok,hm,hk,hb⟩:=F.ex
 refine aR (GV (E:=E0) ok hr hg hm hk hb .nil Me ha hdb he hpl) fun σ H Q ⟨HF,ρ,d,sm,eo,hf,q⟩=>?_
 obtain⟨ds,hx,hf⟩:=bs hf
 split at hf
 ·rename_i hl
  exact⟨HF,ρ,ds,sm,eo,hx,fun vs H1 HF1 g1 r1=>⟨HF1,ds,d,g1.fh,eo.tb.mono g1.ff,by rw[List.append_nil];exact r1,hl,hf,fun v H' HF' g r=>q v H' HF' (g1.trans g) r⟩⟩
 ·cases hf
def Bt(K:W.Frag)(r:List V->Hp->VK->Prop)(g:List D->Option D):Prop:=∀HF H ds vs d Q,bc HF H->av K HF ds vs->g ds=some d->(∀v H' HF',cF HF H HF' H'->Rep K HF' d v->Q v H')->r vs H Q
noncomputable def bb(g:List D->Option D)(fs:Env->Option (List D)):Env->Option D:=fun ρ=>(fs ρ).bind g
theorem MO{r:List V->Hp->VK->Prop}{g:List D->Option D}(hs:Bt X.K r g):∀σ H Q,tD X.K (bb g fs) σ H Q->M0 r (N2 X.K fs) σ H Q:=fun σ H Q ⟨HF,ρ,d,sm,eo,hf,q⟩=>by
 obtain⟨ds,hx,hf⟩:=bs hf
 exact⟨HF,ρ,ds,sm,eo,hx,fun vs H1 HF1 g1 r1=>hs HF1 H1 ds vs d Q g1.fh r1 hf fun v H' HF' g2 r2=>q v H' HF' (g1.trans g2) r2⟩
def zv(K:W.Frag)(r:List V->Hp->VK->Prop)(g:List D->Option (List D)):Prop:=∀HF H ds vs es Q,bc HF H->av K HF ds vs->g ds=some es ->
 (∀a us H' HF',cF HF H HF' H'->H a=none->HF' a=none->H' a=some (.lst us)->av K HF' es us->Q (.ref a) H')->r vs H Q
noncomputable def mU(g:List D->Option (List D))(fs:Env->Option (List D)):Env->Option (List D):=fun ρ=>(fs ρ).bind g
theorem IP{r:List V->Hp->VK->Prop}{g:List D->Option (List D)}(hs:zv X.K r g):∀σ H Q,tF X.K (mU g fs) σ H Q->M0 r (N2 X.K fs) σ H Q:=fun σ H Q ⟨HF,ρ,d,sm,eo,hf,q⟩=>by
 obtain⟨ds,hx,hf⟩:=bs hf
 exact⟨HF,ρ,ds,sm,eo,hx,fun vs H1 HF1 g1 r1=>hs HF1 H1 ds vs d Q g1.fh r1 hf fun a us H' HF' g2 ha hf' h' r2=>q a us H' HF' (g1.trans g2) (g1.hh.free ha) hf' h' r2⟩
structure mM(X:Cx)(x:Str)(v:Value):Prop where
 gl:Gl X x
 mg:X.mg x=none
 bt:bootBuiltins x=some v
theorem iy{id:String}{r:List V->Hp->VK->Prop}{g:List D->Option D}(hc:d6 X (.builtin id) r)(hs:Bt X.K r g)(B:mM X x (.builtin id))(ha:DA X (e::es) fs)(hn:x≠"__name__":=by decide)(hdb:(x == ("__debug__":Str))=false:=by decide)
  (he:starEach (e::es) X.env=(false,eval e X.env)::starEach es X.env:=by rfl) (hpl:(backTo pos (starEach es X.env)).any (·.1)=false:=by rfl):DE X (.Call (.Name x p) (e::es) [] pos) (bb g fs) :=
 aR (l7 hc B.gl B.mg B.bt ha hn hdb he hpl) (MO hs)
theorem Dh{id:String}{r:List V->Hp->VK->Prop}{g:List D->Option (List D)}(hc:d6 X (.builtin id) r)(hs:zv X.K r g)(B:mM X x (.builtin id))(ha:DA X (e::es) fs)(hn:x≠"__name__":=by decide)(hdb:(x == ("__debug__":Str))=false:=by decide)
  (he:starEach (e::es) X.env=(false,eval e X.env)::starEach es X.env:=by rfl) (hpl:(backTo pos (starEach es X.env)).any (·.1)=false:=by rfl):DF X (.Call (.Name x p) (e::es) [] pos) (mU g fs) :=
 aR (l7 hc B.gl B.mg B.bt ha hn hdb he hpl) (IP hs)
theorem rR{T:String}{r:List V->Hp->VK->Prop}{g:List D->Option D}(hc:d6 X (.type T) r)(hs:Bt X.K r g)(B:mM X x (.type T))(ha:DA X (e::es) fs)(hn:x≠"__name__":=by decide)(hdb:(x == ("__debug__":Str))=false:=by decide)
  (he:starEach (e::es) X.env=(false,eval e X.env)::starEach es X.env:=by rfl) (hpl:(backTo pos (starEach es X.env)).any (·.1)=false:=by rfl):DE X (.Call (.Name x p) (e::es) [] pos) (bb g fs) :=
 aR (nA hc B.gl B.mg B.bt ha hn hdb he hpl) (MO hs)
theorem BP{T:String}{r:List V->Hp->VK->Prop}{g:List D->Option (List D)}(hc:d6 X (.type T) r)(hs:zv X.K r g)(B:mM X x (.type T))(ha:DA X (e::es) fs)(hn:x≠"__name__":=by decide)(hdb:(x == ("__debug__":Str))=false:=by decide)
  (he:starEach (e::es) X.env=(false,eval e X.env)::starEach es X.env:=by rfl) (hpl:(backTo pos (starEach es X.env)).any (·.1)=false:=by rfl):DF X (.Call (.Name x p) (e::es) [] pos) (mU g fs) :=
 aR (nA hc B.gl B.mg B.bt ha hn hdb he hpl) (IP hs)
noncomputable def gH:D->Option (List D)|.tuple ds=>some ds|.list ds=>some ds|_=>none
noncomputable def oneOf:List D->Option D|[d]=>some d|_=>none
theorem gh{ds:List D}{d:D}(h:oneOf ds=some d):ds=[d]:=by
 cases ds with
 | nil=>cases h
 | cons x r=>cases r with
  | nil=>cases h;rfl
  | cons _ _=>cases h
theorem kX{d:D}{ds:List D}(h:gH d=some ds):d=.tuple ds\/d=.list ds:=by
 cases d<;>cases h
 ·exact .inr rfl
 ·exact .inl rfl
noncomputable def dg:List D->Option (List D):=fun ds=>(oneOf ds).bind gH
theorem gL{ds es:List D}(h:dg ds=some es):ds=[.tuple es]\/ds=[.list es]:=by
 obtain⟨d,h1,h2⟩:=bs h
 rw[gh h1]
 rcases kX h2 with rfl|rfl
 ·exact .inl rfl
 ·exact .inr rfl
noncomputable def bj:List D->Option D:=fun ds=>(dg ds).map fun es=>.int es.length
theorem ag{α β:Type}{x:Option α}{f:α->β}{b:β}(h:x.map f=some b):∃a,x=some a/\f a=b:=by
 cases x with
 | none=>cases h
 | some a=>exact⟨a,rfl,Option.some.inj h⟩
theorem Hi{K:W.Frag}:Bt K (fun xs H Q=>∃p ys,xs=[.ref p]/\(iJ K H p ys\/jQ K H p ys)/\Q (.int ys.length) H) bj:=by
 intro HF H ds vs d Q sm r hg q
 obtain⟨es,h1,rfl⟩:=ag hg
 rcases gL h1 with rfl|rfl
 all_goals
  obtain⟨v,r',rfl,a,b⟩:=r.cons_inv
  rw[b.nil_inv]
  simp only[Rep] at a
  obtain⟨p,us,rfl,h,rr⟩:=a
 ·exact⟨p,us,rfl,.inr (aC sm h),q _ H HF (.refl sm) (by simp[Rep,rr.length])⟩
 ·exact⟨p,us,rfl,.inl (sm.seq h),q _ H HF (.refl sm) (by simp[Rep,rr.length])⟩
theorem Jk(B:mM X "len" (.builtin "len"))(ha:DA X [e] fs)(he:starEach [e] X.env=(false,eval e X.env)::starEach [] X.env:=by rfl):DE X (.Call (.Name "len" p) [e] [] pos) (bb bj fs) :=
 iy tN Hi B ha (by decide) (by decide) he rfl
theorem EN{K:W.Frag}:zv K (fun xs H Q=>∃p ys,xs=[.ref p]/\(iJ K H p ys\/jQ K H p ys)/\∀l,H l=none->Q (.ref l) (upd H l (.lst ys))) dg:=by
 intro HF H ds vs d Q sm r hg q
 rcases gL hg with rfl|rfl
 all_goals
  obtain⟨v,r',rfl,a,b⟩:=r.cons_inv
  rw[b.nil_inv]
  simp only[Rep] at a
  obtain⟨p,us,rfl,h,rr⟩:=a
 ·exact⟨p,us,rfl,.inr (aC sm h),fun l hl=>q l us _ HF (.own sm hl) hl (sm.free hl) aK rr⟩
 ·exact⟨p,us,rfl,.inl (sm.seq h),fun l hl=>q l us _ HF (.own sm hl) hl (sm.free hl) aK rr⟩
theorem GN(B:mM X "list" (.type "list"))(ha:DA X [e] fs)(he:starEach [e] X.env=(false,eval e X.env)::starEach [] X.env:=by rfl):DF X (.Call (.Name "list" p) [e] [] pos) (mU dg fs) :=
 BP sU EN B ha (by decide) (by decide) he rfl
theorem cT{K:W.Frag}{HF:Hp}{l:Addr}{ds:List D}{vs:List V}(h:HF l=none)(r:av K HF ds vs):Rep K (upd HF l (.tup vs)) (.tuple ds) (.ref l):=by
 simp only[Rep];exact⟨l,vs,rfl,.inl (.inl aK),r.mono (dS h)⟩
theorem Bw{K:W.Frag}:Bt K (fun xs H Q=>∃p ys,xs=[.ref p]/\((iJ K H p ys/\∀l,H l=none->Q (.ref l) (upd H l (.tup ys)))\/(jQ K H p ys/\Q (.ref p) H))) (fun ds=>(dg ds).map PyData.tuple):=by
 intro HF H ds vs d Q sm r hg q
 obtain⟨es,h1,rfl⟩:=ag hg
 rcases gL h1 with rfl|rfl
 all_goals
  obtain⟨v,r',rfl,a,b⟩:=r.cons_inv
  rw[b.nil_inv]
  have a':=a
  simp only[Rep] at a
  obtain⟨p,us,rfl,h,rr⟩:=a
 ·exact⟨p,us,rfl,.inr ⟨aC sm h,q _ H HF (.refl sm) a'⟩⟩
 ·exact⟨p,us,rfl,.inl ⟨sm.seq h,fun l hl=>q _ _ _ (.new sm hl) (cT (sm.free hl) rr)⟩⟩
theorem CL(B:mM X "tuple" (.type "tuple"))(ha:DA X [e] fs)(he:starEach [e] X.env=(false,eval e X.env)::starEach [] X.env:=by rfl):DE X (.Call (.Name "tuple" p) [e] [] pos) (bb (fun ds=>(dg ds).map PyData.tuple) fs) :=
 rR qQ Bw B ha (by decide) (by decide) he rfl
noncomputable def gT:D->String|.none=>"NoneType" | .bool _=>"bool" | .int _=>"int" | .str _=>"str" | .tuple _=>"tuple" | .list _=>"list" | .dict _=>"dict"
noncomputable def uY(a b:String):Option Bool:=if ((Value.type a) == (Value.type b))=true then some true else if W.kitMeta b=true then (fastBuiltinMro a).map (·.contains (Value.type b)) else none
theorem Ic:∀a∈["NoneType","bool","int","str","tuple","list"],uY a "int"=some (a == "int"||a == "bool"):=by decide +kernel
theorem Dw:∀a∈["NoneType","bool","int","str","tuple","list"],uY a "bool"=some (a == "bool"):=by decide +kernel
theorem kit_tuple:∀a∈["NoneType","bool","int","str","tuple","list"],uY a "tuple"=some (a == "tuple"):=by decide +kernel
theorem Ea{pins:List (Addr×Obj)}{σ:L2.St}{H HF:Hp}{s:Shared}{A:Around}{E:Value->Shared->Prop}{Q:Value->Shared->Prop}{d:D}{v:V}{u:Value}{T:String}{k:Bool}(I:Inv X pins σ H s)(sm:bc HF H)(r:Rep X.K HF d v)(rv:RelV v u)
  (e:uY (gT d) T=some k) (h:∀tk,Q (.bool k) { s with toks:=tk }):wpAny (model X.prog X.w) A (call (.builtin "isinstance") [u,.type T]) Q E s:=by
 have e':W.kitOne X.K (.type (gT d)) (.type T)=some k:=e
 cases d<;>simp only[Rep] at r
 ·subst r;cases rv;exact W.kia_one W.kitx_none I.kIn True.intro e' (fun z=>nomatch z) h
 ·subst r;cases rv;exact W.kia_one W.kitx_bool I.kIn True.intro e' (fun z=>nomatch z) h
 ·subst r;obtain⟨t,rfl⟩:=rv;exact W.kia_one W.kitx_int I.kIn True.intro e' (fun z=>nomatch z) h
 ·subst r;obtain⟨t,rfl⟩:=rv;exact W.kia_one W.kitx_str I.kIn True.intro e' (fun z=>nomatch z) h
 ·obtain⟨a,vs,rfl,hs,rr⟩:=r
  cases rv
  obtain⟨its,rv,pl,_⟩:=I.list (sm.seq hs)
  obtain⟨o,ho,hc,n,hd⟩:=pl.isList
  exact W.kia_one W.kitx_list I.kIn ⟨o,ho,hc⟩ e' (fun z=>nomatch z) h
 ·obtain⟨a,vs,rfl,hs,rr⟩:=r
  cases rv
  obtain⟨its,rv,⟨o,ho,hc,n,hd⟩,_⟩:=I.tuple (aC sm hs)
  exact W.kia_one W.kitx_tuple I.kIn ⟨o,ho,hc⟩ e' (fun z=>nomatch z) h
noncomputable def FL(T:String)(f:Env->Option D):Env->Option D:=fun ρ=>(f ρ).bind fun d=>(uY (gT d) T).map PyData.bool
theorem LV{T:String}{xT:Str}{pT:Pos}{f:Env->Option D}(B:mM X "isinstance" (.builtin "isinstance"))(C:mM X xT (.type T))(h:DE X e f)(hn:xT≠"__name__":=by decide)(hd:(xT == ("__debug__":Str))=false:=by decide)
  (he:starEach [e,.Name xT pT] X.env=(false,eval e X.env)::starEach [.Name xT pT] X.env:=by rfl):DE X (.Call (.Name "isinstance" p) [e,.Name xT pT] [] pos) (FL T f):=by
 have hc:d6 X (.builtin "isinstance") (fun xs H Q=>∃HF d v k,xs=[v,.ty T]/\bc HF H/\Rep X.K HF d v/\uY (gT d) T=some k/\Q (.bl k) H):=by
  intro pins s σ H xs us Q I r h
  obtain⟨HF,d,v,k,rfl,sm,rp,hk,q⟩:=h
  cases r with
  | cons ra rr =>
   cases rr with
   | cons rb rn =>
    cases rn
    cases rb
    exact Ea I sm rp ra hk fun tk=>⟨.bl k,H,I.tok _,rfl,q⟩
 refine aR (l7 hc B.gl B.mg B.bt (dw h (dw (Hg (v:=.ty T) C.gl C.mg C.bt rfl hn hd) hJ) he) (by decide) (by decide) he rfl) fun σ H Q ⟨HF,ρ,d,sm,eo,hf,q⟩=>?_
 obtain⟨x,hx,hf⟩:=bs hf
 obtain⟨k,hk,rfl⟩:=ag hf
 exact⟨HF,ρ,x,sm,eo,hx,fun v1 H1 HF1 g1 r1=>⟨HF1,x,v1,k,rfl,g1.fh,r1,hk,q _ H1 HF1 g1 (by simp[Rep])⟩⟩
noncomputable def Hx:D->D->Option D
 | .tuple xs,.tuple ys=>(small (xs++ys)).map PyData.tuple
 | _,_=>none
def AK(K:W.Frag):R2:=fun x y H Q=>∃a b xs ys,x=.ref a/\y=.ref b/\jQ K H a xs/\jQ K H b ys/\xs.length+ys.length<=sizeLine /\
 (xs=[]->Q (.ref b) H)/\(ys=[]->Q (.ref a) H)/\(∀p,H p=none->Q (.ref p) (upd H p (.tup (xs++ys))))
theorem BW:ij X (binaryOp .Add) (AK X.K):=by
 intro pins s σ H x y v u Q I rx ry h
 obtain⟨a,b,xs,ys,rfl,rfl,ha,hb,hz,q0,q1,q2⟩:=h
 by_cases hx:xs=[]
 ·cases rx
  cases ry
  obtain⟨its,r1,p1,_⟩:=I.tuple ha
  obtain⟨its2,r2,p2,_⟩:=I.tuple hb
  obtain⟨⟨cls,dd,data,sl⟩,ho,hc,n,hd⟩:=id p1
  obtain⟨⟨cls2,dd2,data2,sl2⟩,ho2,hc2,n2,hd2⟩:=id p2
  simp only at hc hd hc2 hd2
  subst hc hd hc2 hd2
  have e:its=[]:=(L2.aF.nil_iff r1).mpr hx
  exact concat_meets ⟨_,ho,rfl⟩ ⟨_,ho2,rfl⟩ noFill_tuple_add seq_tuple_add PySem.F.slot_tuple_add PySem.F.entry_tuple_add (PySem.F.args_tuple_add_2 _ _)
   (tuple_addW0 a b its.toArray its2.toArray n n2 dd dd2 sl sl2 (by simp[e])) ⟨ho,ho2,⟨.ref b,H,I,rfl,q0 hx⟩⟩
 ·exact GM pins s σ H _ _ v u Q I rx ry ⟨a,b,xs,ys,rfl,rfl,ha,hb,hx,hz,q1,fun _ p hp=>q2 p hp⟩
theorem F7{K:W.Frag}:fN K (AK K) Hx:=by
 intro HF H x y v1 v2 d Q sm r1 r2 hg q
 cases x<;>cases y<;>simp only[Hx] at hg<;>try cases hg
 rename_i xs ys
 obtain⟨es,h1,rfl⟩:=ag hg
 obtain⟨rfl,hz⟩:=eD h1
 have r1':=r1
 have r2':=r2
 simp only[Rep] at r1 r2
 obtain⟨a,vs,rfl,ha,ra⟩:=r1
 obtain⟨b,us,rfl,hb,rb⟩:=r2
 refine⟨a,b,vs,us,rfl,rfl,aC sm ha,aC sm hb,by rw[ra.length,rb.length,<- zN];exact hz,fun e=>?_,fun e=>?_,fun p hp=>q _ _ _ (.new sm hp) (cT (sm.free hp) (ra.append rb))⟩
 ·have:xs=[]:=by have:=ra.length;rw[e] at this;exact List.length_eq_zero_iff.mp this.symm
  subst this
  exact q _ H HF (.refl sm) r2'
 ·have:ys=[]:=by have:=rb.length;rw[e] at this;exact List.length_eq_zero_iff.mp this.symm
  subst this
  rw[List.append_nil] at q
  exact q _ H HF (.refl sm) r1'
end
structure sA(K:W.Frag)(J:It)(HF:Hp)(ds:List D):Prop where
 go:∀i d H₁ HF₁,ds[i]?=some d->bc HF HF₁->bc HF₁ H₁->J.go i H₁/\∀x H₂,J.yld i H₁ x H₂->∃HF₂,cF HF₁ H₁ HF₂ H₂/\Rep K HF₂ d x
 stop:∀H₁ HF₁,bc HF HF₁->bc HF₁ H₁->J.stop ds.length H₁
def Om(K:W.Frag)(f:Env->Option (List D)):TI:=fun σ H R=>∃HF ρ ds,bc HF H/\cW K HF ρ σ/\f ρ=some ds/\∀J H' HF',cF HF H HF' H'->sA K J HF' ds->R J H'
def DI(X:Cx)(tg iter:Expr)(f:Env->Option (List D)):Prop:=PI X tg iter (Om X.K f)
theorem Cm{K:W.Frag}{HF:Hp}{a:Addr}{ds:List D}{vs:List V}(h:iJ K HF a vs)(r:av K HF ds vs):sA K (NP K a) HF ds where
 go:=fun i d H₁ HF₁ e s1 s2=>by
  obtain⟨v,hv,rv⟩:=r.getD e
  have q:=s2.seq (s1.seq h)
  refine⟨⟨vs,v,q,hv⟩,fun x H₂ ⟨e2,hy⟩=>⟨HF₁,by rw[e2];exact .refl s2,?_⟩⟩
  have:=hy vs q
  rw[hv] at this
  cases this
  exact rv.mono s1
 stop:=fun H₁ HF₁ s1 s2=>⟨vs,s2.seq (s1.seq h),by rw[r.length];exact Nat.le_refl _⟩
theorem Do{K:W.Frag}{HF:Hp}{a:Addr}{ds:List D}{vs:List V}(h:jQ K HF a vs)(r:av K HF ds vs):sA K (NA K a) HF ds where
 go:=fun i d H₁ HF₁ e s1 s2=>by
  obtain⟨v,hv,rv⟩:=r.getD e
  have q:=aC s2 (aC s1 h)
  refine⟨⟨vs,v,q,hv⟩,fun x H₂ ⟨e2,hy⟩=>⟨HF₁,by rw[e2];exact .refl s2,?_⟩⟩
  have:=hy vs q
  rw[hv] at this
  cases this
  exact rv.mono s1
 stop:=fun H₁ HF₁ s1 s2=>⟨vs,aC s2 (aC s1 h),by rw[r.length];exact Nat.le_refl _⟩
theorem yg{K:W.Frag}{HF:Hp}{lo:Int}{n:Nat}:sA K (Nc lo n) HF ((List.range n).map fun i=>PyData.int (lo+(i:Nat))) where
 go:=fun i d H₁ HF₁ e s1 s2=>by
  rw[zO] at e
  obtain⟨j,hj,rfl⟩:=ag e
  obtain⟨hi,hj'⟩:=zU.mp hj
  have hi':i < n:=by simpa using hi
  have:j=i:=by rw[<- hj'];simp
  subst this
  exact⟨hi',fun x H₂ ⟨e2,hx⟩=>⟨HF₁,by rw[e2];exact .refl s2,by simp[Rep,hx]⟩⟩
 stop:=fun H₁ HF₁ s1 s2=>by
  show n<=_
  simp
section
variable {X:Cx}{tg l e:Expr}{f:Env->Option D}{fs:Env->Option (List D)}{pos p:Pos}
theorem td{t t':TI}(h:PI X tg l t)(i:∀σ H R,t' σ H R->t σ H R):PI X tg l t':=fun pins s σ H R I q=>h pins s σ H R I (i σ H R q)
theorem JU{tl:TE}(hl:PE X l tl):PI X tg l (fun σ H R=>tl σ H fun x H1=>∃a,x=.ref a/\((∃xs,iJ X.K H1 a xs/\R (NP X.K a) H1)\/∃xs,jQ X.K H1 a xs/\R (NA X.K a) H1)):=by
 intro pins s σ H R I h
 refine cg (hl pins s σ H _ I h) fun v s1 ⟨x,H1,I1,r1,q1⟩=>?_
 obtain⟨a,e,q⟩:=q1
 subst e
 cases r1
 rcases q with ⟨xs,hq,q⟩|⟨xs,hq,q⟩
 ·obtain⟨its,rv,pl,hz⟩:=I1.list hq
  refine wpAny_pyIter_list pl.isList ⟨s1.heap.objs.size,[s1.heap.objs.size],_,_,H1,rfl,I1.kept (t':=s1.toks) fun b o e=>zV _ e,BF a _,⟨_,zY _ rfl,rfl,rfl⟩,fun b hb=>?_,q⟩
  cases yL.mp hb
  exact I1.fpOk (Nat.le_refl _) I1.fresh
 ·obtain⟨its,rv,pl,hz⟩:=I1.tuple hq
  refine wpAny_pyIter_tuple (show s1.heap.IsTuple a its.toArray from pl) ⟨s1.heap.objs.size,[s1.heap.objs.size],_,_,H1,rfl,I1.kept (t':=s1.toks) fun b o e=>zV _ e,y4 a _,⟨_,zY _ rfl,rfl,rfl⟩,fun b hb=>?_,q⟩
  cases yL.mp hb
  exact I1.fpOk (Nat.le_refl _) I1.fresh
noncomputable def aX(f:Env->Option D):Env->Option (List D):=fun ρ=>(f ρ).bind gH
theorem D8(h:DE X l f):DI X tg l (aX f):=td (JU h) fun σ H R ⟨HF,ρ,ds,sm,eo,hf,q⟩=>by
 obtain⟨x,hx,hf⟩:=bs hf
 refine⟨HF,ρ,x,sm,eo,hx,fun v1 H1 HF1 g1 r1=>?_⟩
 rcases kX hf with rfl|rfl
 ·simp only[Rep] at r1
  obtain⟨a,vs,rfl,hs,rr⟩:=r1
  exact⟨a,rfl,.inr ⟨vs,aC g1.fh hs,q _ H1 HF1 g1 (Do hs rr)⟩⟩
 ·simp only[Rep] at r1
  obtain⟨a,vs,rfl,hs,rr⟩:=r1
  exact⟨a,rfl,.inl ⟨vs,g1.fh.seq hs,q _ H1 HF1 g1 (Cm hs rr)⟩⟩
noncomputable def xq(i:Int):Bool:=decide (-(2 ^ 62)<=i)&&decide (i < 2 ^ 62)
noncomputable def k5:List D->Option (List D)
 | [.int j]=>if xq j then some ((List.range j.toNat).map fun i=>PyData.int ((i:Nat):Int)) else none
 | _=>none
theorem xf{ds es:List D}(h:k5 ds=some es):∃j,ds=[.int j]/\xq j=true/\es=(List.range j.toNat).map fun i=>PyData.int ((i:Nat):Int):=by
 unfold k5 at h
 split at h
 ·split at h
  ·cases h;exact⟨_,rfl,‹_›,rfl⟩
  ·cases h
 ·cases h
noncomputable def bC(fs:Env->Option (List D)):Env->Option (List D):=fun ρ=>(fs ρ).bind k5
theorem EA(B:mM X "range" (.type "range"))(h:DA X [e] fs)(hs:starEach [e] X.env=[(false,eval e X.env)]:=by rfl):DI X tg (.Call (.Name "range" p) [e] [] pos) (bC fs) :=
 td (Cb B.gl B.mg h hs) fun σ H R ⟨HF,ρ,ds,sm,eo,hf,q⟩=>by
  obtain⟨x,hx,hf⟩:=bs hf
  obtain⟨j,rfl,hj,rfl⟩:=xf hf
  refine⟨HF,ρ,_,sm,eo,hx,fun vs H1 HF1 g1 r1=>?_⟩
  obtain⟨v,r,rfl,a,b⟩:=r1.cons_inv
  rw[b.nil_inv]
  simp only[Rep] at a
  subst a
  unfold xq at hj
  rw[zF] at hj
  refine⟨j,rfl,of_decide_eq_true hj.1,of_decide_eq_true hj.2,q _ H1 HF1 g1 ?_⟩
  have:=yg (K:=X.K) (HF:=HF1) (lo:=0) (n:=j.toNat)
  simpa using this
def M3(K:W.Frag)(f:Env->D->Option Env):TG:=fun v σ H Q=>∃HF ρ d ρ',bc HF H/\cW K HF ρ σ/\Rep K HF d v/\f ρ d=some ρ'/\∀σ',cW K HF ρ' σ'->cW K HF ρ σ'->Q σ' H
def DG(X:Cx)(tg:Expr)(f:Env->D->Option Env):Prop:=PG X tg (M3 X.K f)
theorem mS{t t':TG}(h:PG X tg t)(i:∀v σ H Q,t' v σ H Q->t v σ H Q):PG X tg t':=fun pins s σ H v u Q I r q=>h pins s σ H v u Q I r (i v σ H Q q)
noncomputable def isFree(ρ:Env)(i:Nat):Bool:=((ρ[i]?).getD none).isNone
theorem jf{K:W.Frag}{HF:Hp}{ρ:Env}{σ:L2.St}{i:Nat}{d:D}{v:V}(eo:cW K HF ρ σ)(r:Rep K HF d v):cW K HF (ρ.set i (some d)) (σ.set i (some v)):=by
 refine⟨fun j e h=>?_,by rw[yD,yD];exact eo.len,eo.tb⟩
 rw[List.getElem?_set] at h ⊢
 by_cases hij:i=j
 ·rw[if_pos hij] at h ⊢
  by_cases hl:i < ρ.length
  ·rw[if_pos hl] at h
   cases h
   rw[if_pos (zP hl eo.len)]
   exact⟨v,rfl,r⟩
  ·rw[if_neg hl] at h;cases h
 ·rw[if_neg hij] at h ⊢
  exact eo.get j e h
theorem kq{K:W.Frag}{HF:Hp}{ρ:Env}{σ:L2.St}{i:Nat}{v:V}(eo:cW K HF ρ σ)(hf:isFree ρ i=true):cW K HF ρ (σ.set i (some v)):=by
 refine⟨fun j e h=>?_,by rw[yD];exact eo.len,eo.tb⟩
 have hij:i≠j:=by
  intro z;subst z
  unfold isFree at hf;rw[h] at hf;cases hf
 rw[List.getElem?_set,if_neg hij]
 exact eo.get j e h
noncomputable def fG(i:Nat):Env->D->Option Env:=fun ρ d=>if isFree ρ i=true then some (ρ.set i (some d)) else none
theorem Gv(i:Nat){x:Str}(hN:X.N.Nodup)(hi:X.N[i]?=some x)(hx:Loc X.env.scope x)(hf:X.fn x=true\/X.env.scope.names.lookup x=some .local:=by first|exact .inl rfl|exact .inr rfl|assumption):DG X (.Name x pos) (fG i) :=
 mS (da hN hi hx hf) fun v σ H Q ⟨HF,ρ,d,ρ',sm,eo,r,hf,q⟩=>by
  unfold fG at hf
  split at hf
  ·cases hf;exact q _ (jf eo r) (kq eo ‹_›)
  ·cases hf
noncomputable def f7(i j:Nat):Env->D->Option Env:=fun ρ d=>match d with
 | .tuple [x,y]=>if isFree ρ i=true/\isFree ρ j=true then some ((ρ.set i (some x)).set j (some y)) else none
 | _=>none
theorem Lc(i j:Nat){x y:Str}{px py:Pos}{k:Nat}(hc:X.calm=true)(hN:X.N.Nodup)(hi:X.N[i]?=some x)(hx:Loc X.env.scope x)(hj:X.N[j]?=some y)(hy:Loc X.env.scope y)
  (hf:X.fn x=true\/X.env.scope.names.lookup x=some .local:=by first|exact .inl rfl|exact .inr rfl|assumption) (hf':X.fn y=true\/X.env.scope.names.lookup y=some .local:=by first|exact .inl rfl|exact .inr rfl|assumption) :
  DG X (.Tuple [.Name x px,.Name y py] k pos) (f7 i j) :=
 mS (pQ hc (cI (da hN hi hx hf) (cI (da hN hj hy hf') lY))) fun v σ H Q ⟨HF,ρ,d,ρ',sm,eo,r,hf,q⟩=>by
  unfold f7 at hf
  split at hf
  ·rename_i x' y'
   split at hf
   ·rename_i hh
    cases hf
    simp only[Rep] at r
    obtain⟨a,vs,rfl,hs,rr⟩:=r
    obtain⟨v1,r1,rfl,a1,b1⟩:=rr.cons_inv
    obtain⟨v2,r2,rfl,a2,b2⟩:=b1.cons_inv
    rw[b2.nil_inv] at hs
    exact⟨a,_,rfl,aC sm hs,rfl,v1,_,rfl,v2,_,rfl,rfl,q _ (jf (jf eo a1) a2) (kq (kq eo hh.1) hh.2)⟩
   ·cases hf
  ·cases hf
noncomputable def cx(tgt:Env->D->Option Env)(tt:Env->Option Bool)(te:Env->Option D)(ρ:Env):List D->Option (List D)
 | []=>some []
 | d::ds=>(tgt ρ d).bind fun ρ'=>(tt ρ').bind fun b=>if b=true then (te ρ').bind fun x=>(cx tgt tt te ρ ds).map (x::·) else cx tgt tt te ρ ds
def Mo(X:Cx)(ifs:List Expr)(f:Env->Option Bool):Prop:=LC X ifs (Ki X.K f)
theorem HU:Mo X [] (fun _=>some true):=fun pins s σ H Q I ⟨HF,ρ,b,sm,eo,hf,q⟩=>Gw pins s σ H Q I (by cases hf;exact q H HF (.refl sm))
theorem Gh{c:Expr}{t:Env->Option Bool}(h:DT X c t):Mo X [c] t:=GF h
noncomputable def jy(t:Nat)(cs:List Nat)(σ:L2.St):L2.St:=List.replicate t none++cs.map fun j=>(σ[j]?).getD none
noncomputable def d9(t:Nat)(cs:List Nat)(ρ:Env):Env:=List.replicate t none++cs.map fun j=>(ρ[j]?).getD none
theorem Ab{K:W.Frag}{HF:Hp}{ρ:Env}{σ:L2.St}{t:Nat}{cs:List Nat}(eo:cW K HF ρ σ):cW K HF (d9 t cs ρ) (jy t cs σ):=by
 refine⟨fun i d h=>?_,by simp[d9,jy],eo.tb⟩
 unfold d9 at h
 unfold jy
 by_cases hi:i < t
 ·rw[List.getElem?_append_left (by simpa using hi),List.getElem?_replicate,if_pos hi] at h
  cases h
 ·rw[List.getElem?_append_right (by simpa using hi),zO,List.length_replicate] at h
  rw[List.getElem?_append_right (by simpa using hi),zO,List.length_replicate]
  obtain⟨j,hj,h⟩:=ag h
  rw[hj]
  cases e:ρ[j]? with
  | none=>rw[e] at h;cases h
  | some o =>
   rw[e] at h
   have h:o=some d:=h
   subst h
   obtain⟨v,a,b⟩:=eo.get j d e
   exact⟨v,by show some ((σ[j]?).getD none)=_;rw[a];rfl,b⟩
noncomputable def ao(t:Nat)(cs:List Nat)(fi:Env->Option (List D))(tgt:Env->D->Option Env)(tt:Env->Option Bool)(te:Env->Option D):Env->Option (List D):=fun ρ=>(fi ρ).bind fun ds=>(cx tgt tt te (d9 t cs ρ) ds).bind small
variable {elt iter:Expr}{ifs:List Expr}{scope:Scope}{N:List Str}{t:Nat}{cs:List Nat}{fi:Env->Option (List D)}{tgt:Env->D->Option Env}{tt:Env->Option Bool}{te:Env->Option D}
theorem EW:∀σ H Q,tF X.K (ao t cs fi tgt tt te) σ H Q->DM (Om X.K fi) (M3 X.K tgt) (Ki X.K tt) (tD X.K te) (jy t cs) σ H Q:=fun σ H Q ⟨HF,ρ,out,sm,eo,hf,q⟩=>by
 obtain⟨ds,hx,hf⟩:=bs hf
 obtain⟨out',ho,hf⟩:=bs hf
 obtain⟨rfl,hz⟩:=eD hf
 refine⟨HF,ρ,ds,sm,eo,hx,fun J H1 HF1 g1 it Dn hD=>?_⟩
 have eo1:=Ab (t:=t) (cs:=cs) (eo.mono g1.ff)
 have hFD:HF1 Dn=none:=g1.fh.free hD
 refine⟨fun i m σ' H'=>m+i=ds.length/\∃HF' xs ys rest,cF HF1 H1 HF' H'/\HF' Dn=none/\H' Dn=some (.lst ys)/\av X.K HF' xs ys/\cW X.K HF' (d9 t cs ρ) σ'/\cx tgt tt te (d9 t cs ρ) (ds.drop i)=some rest/\xs++rest=out,
  ⟨ds.length,rfl,HF1,[],[],out,.own g1.fh hD,hFD,aK,av.nil,eo1,ho,rfl⟩,?_⟩
 rintro i m σ' H' ⟨hm,HF',xs,ys,rest,G,hFD',hHD,rr,eo',hc,hout⟩
 by_cases hi:i < ds.length
 ·refine .inr ?_
  have hd:ds.drop i=ds[i]::ds.drop (i+1):=List.drop_eq_getElem_cons hi
  have he:ds[i]?=some ds[i]:=zU.mpr ⟨hi,rfl⟩
  generalize ds[i]=d at hd he
  rw[hd] at hc
  unfold cx at hc
  obtain⟨ρ',h1,hc⟩:=bs hc
  obtain⟨b,h2,hc⟩:=bs hc
  obtain⟨go,yld⟩:=it.go i d H' HF' he G.ff G.fh
  refine⟨go,fun x H2 y=>?_⟩
  obtain⟨HF2,G2,rx⟩:=yld x H2 y
  refine⟨HF2,_,d,ρ',G2.fh,eo'.mono G2.ff,rx,h1,fun σ2 eo2 eo2'=>?_⟩
  refine⟨HF2,ρ',b,G2.fh,eo2,h2,fun H3 HF3 G3=>?_⟩
  have nof:∀HF4 H4,cF HF' H' HF4 H4->HF4 Dn=none:=fun HF4 H4 G4=>by
   cases e4:HF4 Dn with
   | none=>rfl
   | some o =>
    rcases G4.nw Dn o e4 with z|z
    ·rw[hFD'] at z;cases z
    ·rw[hHD] at z;cases z
  cases b with
  | false =>
   refine vq ⟨m - 1,by omega,by omega,HF3,xs,ys,rest,(G.trans G2).trans G3,nof _ _ (G2.trans G3),(G2.trans G3).hh _ _ hHD,rr.mono (G2.trans G3).ff,eo2'.mono G3.ff,by simpa using hc,hout⟩
  | true =>
   rw[if_pos rfl] at hc
   obtain⟨z,h3,hc⟩:=bs hc
   obtain⟨rest',h4,rfl⟩:=ag hc
   refine vC ⟨HF3,ρ',z,G3.fh,eo2.mono G3.ff,h3,fun v H4 HF4 G4 rv=>?_⟩
   have GG:=(G2.trans G3).trans G4
   have n4:=nof _ _ GG
   have h4D:=GG.hh _ _ hHD
   have hlen:ys.length < sizeLine:=by
    have e1:=rr.length
    have e2:out.length=xs.length+(rest'.length+1):=by rw[<- hout];simp
    omega
   refine⟨ys,h4D,hlen,m - 1,by omega,by omega,HF4,xs++[z],ys++[v],rest',?_,n4,aK,(rr.mono GG.ff).append (av.cons rv av.nil),eo2'.mono (G3.ff.trans G4.ff),h4,by simp[<- hout]⟩
   have G5:=G.trans GG
   refine⟨fun b o e=>?_,G5.ff,fun b o e=>?_,G5.nw⟩
   ·rw[aE (aP e hD)];exact G5.hh b o e
   ·rw[aE (aP e n4)];exact G5.fh b o e
 ·have hi':i=ds.length:=by omega
  subst hi'
  rw[List.drop_length] at hc
  cases hc
  rw[List.append_nil] at hout
  subst hout
  exact .inl ⟨it.stop H' HF' G.ff G.fh,q Dn ys H' HF' (g1.trans G) (g1.hh.free hD) hFD' hHD rr⟩
theorem HC(hc:X.calm=true)(S:iW X scope N (jy t cs))(hi:DI X tg iter fi)
  (hY:∀fp s H,DG (aV X scope N fp s H) tg tgt/\Mo (aV X scope N fp s H) ifs tt/\DE (aV X scope N fp s H) elt te)
  (hs:∀x,foldedSetIterable iter X.env x=pure x:=by intro _;rfl):DF X (.ListComp elt [⟨tg,iter,ifs,0⟩] scope pos) (ao t cs fi tgt tt te):=aR (Hw (g:=M3 X.K tgt) (tt:=Ki X.K tt) (te:=tD X.K te) hc S hi hY hs) EW
end
inductive Slot where
 | non|val (d:D)|own (ds:List D)
noncomputable abbrev aj:=List Slot
noncomputable def Slot.all:Slot->Option D|.non=>none|.val d=>some d|.own ds=>some (.list ds)
noncomputable def Slot.frz:Slot->Option D|.val d=>some d|_=>none
noncomputable def Slot.thaw:Slot->Slot|.own ds=>.val (.list ds)|s=>s
noncomputable def bg(ρ:aj):Env:=ρ.map Slot.all
noncomputable def cf(ρ:aj):Env:=ρ.map Slot.frz
noncomputable def hand(fz:List Nat):Nat->aj->aj
 | _,[]=>[]
 | k,s::r=>(if fz.contains k=true then s.thaw else s)::hand fz (k+1) r
theorem ip(fz:List Nat):∀ (ρ:aj) (k i:Nat),(hand fz k ρ)[i]?=(ρ[i]?).map fun s=>if fz.contains (k+i)=true then s.thaw else s
 | [],k,i=>by simp[hand]
 | s::r,k,0=>by simp[hand]
 | s::r,k,i+1=>by
  simp only[hand,List.getElem?_cons_succ]
  rw[ip fz r (k+1) i,Nat.add_assoc,Nat.add_comm 1 i]
theorem vS(fz:List Nat):∀ (ρ:aj) (k:Nat),(hand fz k ρ).length=ρ.length
 | [],k=>rfl
 | s::r,k=>by simp[hand,vS fz r (k+1)]
structure kH(K:W.Frag)(HF₀ H₀ HF H:Hp)(ρ:aj)(σ:L2.St):Prop where
 gr:cF HF₀ H₀ HF H
 val:∀ (i:Nat) (d:D),ρ[i]?=some (.val d)->∃v,σ[i]?=some (some v)/\Rep K HF d v
 own:∀ (i:Nat) (ds:List D),ρ[i]?=some (.own ds)->∃a vs,σ[i]?=some (some (.ref a))/\H a=some (.lst vs)/\HF a=none/\H₀ a=none/\av K HF ds vs
 inj:∀ (i j:Nat) (ds es:List D) (a:Addr),ρ[i]?=some (.own ds)->ρ[j]?=some (.own es)->σ[i]?=some (some (.ref a))->σ[j]?=some (some (.ref a))->i=j
 len:ρ.length<=σ.length
 tb:gq K HF
section
variable {K:W.Frag}{HF₀ H₀ HF H HF' H':Hp}{ρ:aj}{σ:L2.St}
theorem kH.all(S:kH K HF₀ H₀ HF H ρ σ):cW K H (bg ρ) σ:=by
 refine⟨fun i d h=>?_,by simpa [bg] using S.len,S.tb.mono S.gr.fh⟩
 unfold bg at h
 rw[zO] at h
 obtain⟨s,hs,h⟩:=ag h
 cases s with
 | non=>cases h
 | val e=>cases h;obtain⟨v,a,b⟩:=S.val i _ hs;exact⟨v,a,b.mono S.gr.fh⟩
 | own ds =>
  cases h
  obtain⟨a,vs,e1,e2,e3,_,e4⟩:=S.own i ds hs
  exact⟨.ref a,e1,by simp only[Rep];exact⟨a,vs,rfl,iJ.of e2,e4.mono S.gr.fh⟩⟩
theorem kH.frz(S:kH K HF₀ H₀ HF H ρ σ):cW K HF (cf ρ) σ:=by
 refine⟨fun i d h=>?_,by simpa [cf] using S.len,S.tb⟩
 unfold cf at h
 rw[zO] at h
 obtain⟨s,hs,h⟩:=ag h
 cases s with
 | non=>cases h
 | val e=>cases h;exact S.val i _ hs
 | own ds=>cases h
theorem kH.grow(S:kH K HF₀ H₀ HF H ρ σ)(g:cF HF H HF' H'):kH K HF₀ H₀ HF' H' ρ σ where
 gr:=S.gr.trans g
 val:=fun i d h=>let ⟨v,a,b⟩:=S.val i d h;⟨v,a,b.mono g.ff⟩
 own:=fun i ds h=>by
  obtain⟨a,vs,e1,e2,e3,e5,e4⟩:=S.own i ds h
  refine⟨a,vs,e1,g.hh _ _ e2,?_,e5,e4.mono g.ff⟩
  cases e:HF' a with
  | none=>rfl
  | some o =>
   rcases g.nw a o e with z|z
   ·rw[e3] at z;cases z
   ·rw[e2] at z;cases z
 inj:=S.inj
 len:=S.len
 tb:=S.tb.mono g.ff
theorem kH.step(S:kH K HF₀ H₀ HF H ρ σ)(g:bc H H'):kH K HF₀ H₀ HF H' ρ σ:=S.grow ⟨g,.refl _,S.gr.fh.trans g,fun _ _ e=>.inl e⟩
theorem kH.hand(S:kH K HF₀ H₀ HF H ρ σ)(fz:List Nat):∃HF1,bc HF HF1/\kH K HF₀ H₀ HF1 H (hand fz 0 ρ) σ:=by
 let P:Addr->Prop:=fun a=>∃i ds,fz.contains i=true/\ρ[i]?=some (.own ds)/\σ[i]?=some (some (.ref a))
 have cl:=Classical.propDecidable
 let HF1:Hp:=fun a=>if P a then H a else HF a
 have hP:∀a,P a->HF a=none/\H₀ a=none:=fun a ⟨i,ds,_,h1,h2⟩=>by
  obtain⟨a',vs,e1,e2,e3,e5,e4⟩:=S.own i ds h1
  rw[h2] at e1
  cases e1
  exact⟨e3,e5⟩
 have s1:bc HF HF1:=fun b o e=>by
  show (if P b then H b else HF b)=some o
  by_cases h:P b
  ·rw[(hP b h).1] at e;cases e
  ·rw[if_neg h];exact e
 have s2:bc HF1 H:=fun b o e=>by
  have e:(if P b then H b else HF b)=some o:=e
  by_cases h:P b
  ·rw[if_pos h] at e;exact e
  ·rw[if_neg h] at e;exact S.gr.fh b o e
 refine⟨HF1,s1,⟨S.gr.hh,S.gr.ff.trans s1,s2,fun b o e=>?_⟩,fun i d h=>?_,fun i ds h=>?_,fun i j ds es a h1 h2=>?_,by rw[vS];exact S.len,S.tb.mono s1⟩
 ·have e:(if P b then H b else HF b)=some o:=e
  by_cases h:P b
  ·exact .inr (hP b h).2
  ·rw[if_neg h] at e;exact S.gr.nw b o e
 ·rw[ip] at h
  obtain⟨s,hs,h⟩:=ag h
  rw[Nat.zero_add] at h
  cases s with
  | non=>split at h<;>cases h
  | val e =>
   have:Slot.val e=Slot.val d:=by split at h<;>exact h
   cases this
   obtain⟨v,a,b⟩:=S.val i _ hs
   exact⟨v,a,b.mono s1⟩
  | own ds =>
   split at h
   ·rename_i hc
    cases h
    obtain⟨a,vs,e1,e2,e3,e5,e4⟩:=S.own i ds hs
    refine⟨.ref a,e1,?_⟩
    simp only[Rep]
    refine⟨a,vs,rfl,.inl (.inl ?_),e4.mono s1⟩
    show (if P a then H a else HF a)=_
    rw[if_pos ⟨i,ds,hc,hs,e1⟩]
    exact e2
   ·cases h
 ·rw[ip] at h
  obtain⟨s,hs,h⟩:=ag h
  rw[Nat.zero_add] at h
  cases s with
  | non=>split at h<;>cases h
  | val e=>split at h<;>cases h
  | own es =>
   split at h
   ·cases h
   ·rename_i hc
    cases h
    obtain⟨a,vs,e1,e2,e3,e5,e4⟩:=S.own i ds hs
    refine⟨a,vs,e1,e2,?_,e5,e4.mono s1⟩
    show (if P a then H a else HF a)=none
    rw[if_neg ?_]
    ·exact e3
    ·rintro⟨j,es,hj,h1,h2⟩
     have:=S.inj i j ds es a hs h1 e1 h2
     subst this
     exact hc hj
 ·rw[ip] at h1 h2
  obtain⟨s,hs,h1⟩:=ag h1
  obtain⟨s',hs',h2⟩:=ag h2
  rw[Nat.zero_add] at h1 h2
  cases s with
  | non=>split at h1<;>cases h1
  | val e=>split at h1<;>cases h1
  | own xs =>
   cases s' with
   | non=>split at h2<;>cases h2
   | val e=>split at h2<;>cases h2
   | own ys=>exact S.inj i j _ _ a hs hs'
theorem kH.setV(S:kH K HF₀ H₀ HF H ρ σ){i:Nat}{d:D}{v:V}(r:Rep K HF d v):kH K HF₀ H₀ HF H (ρ.set i (.val d)) (σ.set i (some v)):=by
 have ne:∀ {j:Nat}{s:Slot},(ρ.set i (.val d))[j]?=some s->(∀e,s≠.val e)->i≠j/\ρ[j]?=some s:=fun {j s} h hn=>by
  rw[List.getElem?_set] at h
  by_cases hij:i=j
  ·rw[if_pos hij] at h
   split at h
   ·cases h;exact absurd rfl (hn _)
   ·cases h
  ·rw[if_neg hij] at h;exact⟨hij,h⟩
 refine⟨S.gr,fun j e h=>?_,fun j ds h=>?_,fun j k ds es a h1 h2 h3 h4=>?_,by rw[yD,yD];exact S.len,S.tb⟩
 ·rw[List.getElem?_set] at h ⊢
  by_cases hij:i=j
  ·rw[if_pos hij] at h ⊢
   split at h
   ·rename_i hl
    cases h
    rw[if_pos (zP hl S.len)]
    exact⟨v,rfl,r⟩
   ·cases h
  ·rw[if_neg hij] at h ⊢
   exact S.val j e h
 ·obtain⟨hij,h⟩:=ne h fun e z=>by cases z
  rw[List.getElem?_set,if_neg hij]
  exact S.own j ds h
 ·obtain⟨n1,h1⟩:=ne h1 fun e z=>by cases z
  obtain⟨n2,h2⟩:=ne h2 fun e z=>by cases z
  rw[List.getElem?_set,if_neg n1] at h3
  rw[List.getElem?_set,if_neg n2] at h4
  exact S.inj j k ds es a h1 h2 h3 h4
theorem kH.setO(S:kH K HF₀ H₀ HF H ρ σ){i:Nat}{ds:List D}{a:Addr}{vs:List V}(hs:bc H H')(h1:H' a=some (.lst vs))(h2:HF a=none)(h3:H₀ a=none)(r:av K HF ds vs)
  (fr:∀j es,i≠j->ρ[j]?=some (.own es)->σ[j]?≠some (some (.ref a))):kH K HF₀ H₀ HF H' (ρ.set i (.own ds)) (σ.set i (some (.ref a))):=by
 have S:=S.step hs
 refine⟨S.gr,fun j e h=>?_,fun j es h=>?_,fun j k xs ys b e1 e2 e3 e4=>?_,by rw[yD,yD];exact S.len,S.tb⟩
 ·rw[List.getElem?_set] at h ⊢
  by_cases hij:i=j
  ·rw[if_pos hij] at h
   split at h<;>cases h
  ·rw[if_neg hij] at h ⊢
   exact S.val j e h
 ·rw[List.getElem?_set] at h ⊢
  by_cases hij:i=j
  ·rw[if_pos hij] at h ⊢
   split at h
   ·rename_i hl
    cases h
    rw[if_pos (zP hl S.len)]
    exact⟨a,vs,rfl,h1,h2,h3,r⟩
   ·cases h
  ·rw[if_neg hij] at h ⊢
   exact S.own j es h
 ·rw[List.getElem?_set] at e1 e2 e3 e4
  by_cases hij:i=j
  ·by_cases hik:i=k
   ·exact hij.symm.trans hik
   ·rw[if_pos hij] at e1 e3
    rw[if_neg hik] at e2 e4
    split at e3
    ·cases e3;exact absurd e4 (fr k ys hik e2)
    ·cases e3
  ·by_cases hik:i=k
   ·rw[if_neg hij] at e1 e3
    rw[if_pos hik] at e2 e4
    split at e4
    ·cases e4;exact absurd e3 (fr j xs hij e1)
    ·cases e4
   ·rw[if_neg hij] at e1 e3
    rw[if_neg hik] at e2 e4
    exact S.inj j k xs ys b e1 e2 e3 e4
end
inductive Out where
 | nx (ρ:aj)|rt (d:D)
noncomputable def AN(K:W.Frag)(HF₀ H₀ HF:Hp)(E:Ends):Out->Prop
 | .nx ρ'=>∀σ' H' HF',kH K HF₀ H₀ HF' H' ρ' σ'->bc HF HF'->E.nx σ' H'
 | .rt d=>∀v H' HF',cF HF₀ H₀ HF' H'->Rep K HF' d v->E.rt v H'
def tS(K:W.Frag)(HF₀ H₀:Hp)(g:aj->Option Out):TS:=fun E σ H=>∃HF ρ o,kH K HF₀ H₀ HF H ρ σ/\g ρ=some o/\AN K HF₀ H₀ HF E o
def DS(X:Cx)(HF₀ H₀:Hp)(st:Stmt)(g:aj->Option Out):Prop:=PS X st (tS X.K HF₀ H₀ g)
def Cw(X:Cx)(HF₀ H₀:Hp)(st:List Stmt)(g:aj->Option Out):Prop:=xW X st (tS X.K HF₀ H₀ g)
section
variable {X:Cx}{HF₀ H₀:Hp}{st:Stmt}{rest:List Stmt}{g g1 g2:aj->Option Out}{e:Expr}{pos:Pos}
theorem dW{t t':TS}(h:PS X st t)(i:∀E σ H,t' E σ H->t E σ H):PS X st t':=fun pins s σ H E I q=>h pins s σ H E I (i E σ H q)
theorem Af{t t':TS}(h:xW X rest t)(i:∀E σ H,t' E σ H->t E σ H):xW X rest t':=fun pins s σ H E I q=>h pins s σ H E I (i E σ H q)
noncomputable def dJ:aj->Option Out:=fun ρ=>some (.nx ρ)
noncomputable def ar(g1 g2:aj->Option Out):aj->Option Out:=fun ρ=>(g1 ρ).bind fun|.nx ρ'=>g2 ρ'|.rt d=>some (.rt d)
theorem AN.mono{K:W.Frag}{HF HF':Hp}{E:Ends}{o:Out}(s:bc HF HF')(h:AN K HF₀ H₀ HF E o):AN K HF₀ H₀ HF' E o:=by
 cases o with
 | nx ρ'=>exact fun σ' H' HF2 S s2=>h σ' H' HF2 S (s.trans s2)
 | rt d=>exact h
theorem Hb:Cw X HF₀ H₀ [] dJ:=Af HI fun E σ H ⟨HF,ρ,o,S,hg,q⟩=>by cases hg;exact q σ H HF S (.refl _)
theorem D9(h1:DS X HF₀ H₀ st g1)(h2:Cw X HF₀ H₀ rest g2):Cw X HF₀ H₀ (st::rest) (ar g1 g2):=Af (Fv h1 h2) fun E σ H ⟨HF,ρ,o,S,hg,q⟩=>by
 obtain⟨o1,h,hg⟩:=bs hg
 refine⟨HF,ρ,o1,S,h,?_⟩
 cases o1 with
 | nx ρ'=>exact fun σ' H' HF' S' s=>⟨HF',ρ',o,S',hg,q.mono s⟩
 | rt d=>cases hg;exact q
theorem HN(h1:DS X HF₀ H₀ st g1):Cw X HF₀ H₀ [st] g1:=F2 h1
theorem Iw:DS X HF₀ H₀ (.Pass pos) dJ:=dW Gj fun E σ H ⟨HF,ρ,o,S,hg,q⟩=>by cases hg;exact q σ H HF S (.refl _)
theorem JO{x j pos pos'}:DS X HF₀ H₀ (.Expr (.Constant (.str x) j pos) pos') dJ:=dW Jw fun E σ H ⟨HF,ρ,o,S,hg,q⟩=>by cases hg;exact q σ H HF S (.refl _)
noncomputable def dN(t:Env->Option Bool)(g1 g2:aj->Option Out):aj->Option Out:=fun ρ=>(t (bg ρ)).bind fun b=>if b=true then g1 ρ else g2 ρ
theorem MC{c:Expr}{a b:List Stmt}{t:Env->Option Bool}(hc:DT X c t)(ha:Cw X HF₀ H₀ a g1)(hb:Cw X HF₀ H₀ b g2):DS X HF₀ H₀ (.If c a b pos) (dN t g1 g2):=dW (LN hc ha hb) fun E σ H ⟨HF,ρ,o,S,hg,q⟩=>by
 obtain⟨b,h,hg⟩:=bs hg
 refine⟨H,bg ρ,b,.refl _,S.all,h,fun H' HF' G=>?_⟩
 cases b with
 | true=>exact vC ⟨HF,ρ,o,S.step G.hh,hg,q⟩
 | false=>exact vq ⟨HF,ρ,o,S.step G.hh,hg,q⟩
theorem vG:∀ (ρ:aj) (k n:Nat),k+ρ.length<=n->cf (hand (List.range n) k ρ)=bg ρ
 | [],k,n,h=>rfl
 | s::r,k,n,h=>by
  have hk:(List.range n).contains k=true:=by simp at h ⊢;omega
  have ih:=vG r (k+1) n (by simp at h;omega)
  unfold cf bg at ih ⊢
  rw[hand,if_pos hk,zI,zI,ih]
  cases s<;>rfl
noncomputable def az(f:Env->Option D):aj->Option Out:=fun ρ=>(f (bg ρ)).map Out.rt
theorem KZ{f:Env->Option D}(h:DE X e f):DS X HF₀ H₀ (.Return (some e) pos) (az f):=dW (Js h) fun E σ H ⟨HF,ρ,o,S,hg,q⟩=>by
 obtain⟨d,h,rfl⟩:=ag hg
 obtain⟨HF1,s1,S1⟩:=S.hand (List.range ρ.length)
 refine⟨HF1,bg ρ,d,S1.gr.fh,?_,h,fun v H' HF' G r=>q v H' HF' (S1.gr.trans G) r⟩
 have:=S1.frz
 rw[vG ρ 0 ρ.length (by omega)] at this
 exact this
noncomputable def qq:D->Bool|.none=>true|.bool _=>true|.int _=>true|.str _=>true|_=>false
theorem vL{K:W.Frag}{HF HF':Hp}{d:D}{v:V}(h:qq d=true)(r:Rep K HF d v):Rep K HF' d v:=by
 cases d<;>cases h<;>(simp only[Rep] at r ⊢;exact r)
noncomputable def ay(i:Nat)(fz:List Nat)(f:Env->Option D):aj->Option Out:=fun ρ=>(f (bg ρ)).bind fun d=>if qq d=true then some (.nx (ρ.set i (.val d))) else (f (cf (hand fz 0 ρ))).map fun d'=>.nx ((hand fz 0 ρ).set i (.val d'))
theorem MM{i:Nat}{fz:List Nat}{f:Env->Option D}:∀E σ H,tS X.K HF₀ H₀ (ay i fz f) E σ H->Dg (tD X.K f) (wa i) E σ H:=fun E σ H ⟨HF,ρ,o,S,hg,q⟩=>by
 obtain⟨d,h,hg⟩:=bs hg
 split at hg
 ·rename_i hs
  cases hg
  exact⟨H,bg ρ,d,.refl _,S.all,h,fun v H' HF' G r=>q _ H' HF ((S.step G.hh).setV (vL hs r)) (.refl _)⟩
 ·obtain⟨d',h',rfl⟩:=ag hg
  obtain⟨HF1,s1,S1⟩:=S.hand fz
  exact⟨HF1,_,d',S1.gr.fh,S1.frz,h',fun v H' HF' G r=>q _ H' HF' ((S1.grow G).setV r) (s1.trans G.ff)⟩
theorem KS(i:Nat)(fz:List Nat){x:Str}{f:Env->Option D}{pos':Pos}(hN:X.N.Nodup)(hi:X.N[i]?=some x)(hx:Loc X.env.scope x)(he:DE X e f)(hs:swapsWith e (some (.Name x pos')) pos.line X.env=pure false:=by rfl)
  (hf:X.fn x=true\/X.env.scope.names.lookup x=some .local:=by first|exact .inl rfl|exact .inr rfl|assumption):DS X HF₀ H₀ (.Assign [.Name x pos'] e pos) (ay i fz f):=dW (CH hN hi hx he hs hf) MM
noncomputable def aS(i:Nat)(fz:List Nat)(f:Env->Option (List D)):aj->Option Out:=fun ρ=>(f (cf (hand fz 0 ρ))).map fun ds=>.nx ((hand fz 0 ρ).set i (.own ds))
theorem E7{i:Nat}{fz:List Nat}{f:Env->Option (List D)}:∀E σ H,tS X.K HF₀ H₀ (aS i fz f) E σ H->Dg (tF X.K f) (wa i) E σ H:=fun E σ H ⟨HF,ρ,o,S,hg,q⟩=>by
 obtain⟨ds,h,rfl⟩:=ag hg
 obtain⟨HF1,s1,S1⟩:=S.hand fz
 refine⟨HF1,_,ds,S1.gr.fh,S1.frz,h,fun a vs H' HF' G ha hf h' r=>q _ H' HF' ?_ (s1.trans G.ff)⟩
 have S2:=S1.grow G
 refine S2.setO (.refl _) h' hf (S1.gr.hh.free ha) r fun j es _ hj z=>?_
 obtain⟨b,us,e1,e2,_⟩:=S1.own j es hj
 rw[e1] at z
 cases z
 rw[ha] at e2;cases e2
theorem uz(i:Nat)(fz:List Nat){x:Str}{f:Env->Option (List D)}{pos':Pos}(hN:X.N.Nodup)(hi:X.N[i]?=some x)(hx:Loc X.env.scope x)(he:DF X e f)(hs:swapsWith e (some (.Name x pos')) pos.line X.env=pure false:=by rfl)
  (hf:X.fn x=true\/X.env.scope.names.lookup x=some .local:=by first|exact .inl rfl|exact .inr rfl|assumption):DS X HF₀ H₀ (.Assign [.Name x pos'] e pos) (aS i fz f):=dW (CH hN hi hx he hs hf) E7
theorem GR(i:Nat)(fz:List Nat){y:Str}{py spos:Pos}{tg iter elt:Expr}{ifs:List Expr}{scope:Scope}{N:List Str}{t:Nat}{cs:List Nat}{fi:Env->Option (List D)}{tgt:Env->D->Option Env}{tt:Env->Option Bool}{te:Env->Option D}
  (hc:X.calm=true) (S:iW X scope N (jy t cs)) (hi:DI X tg iter fi)
  (hY:∀fp s H,DG (aV X scope N fp s H) tg tgt/\Mo (aV X scope N fp s H) ifs tt/\DE (aV X scope N fp s H) elt te)
  (hN:X.N.Nodup) (hiy:X.N[i]?=some y) (hy:X.env.scope.names.lookup y=some .local)
  (hsw:swapsWith (.ListComp elt [⟨tg,iter,ifs,0⟩] scope pos) (some (.Name y py)) spos.line X.env=pure true)
  (hs:∀x,foldedSetIterable iter X.env x=pure x:=by intro _;rfl):DS X HF₀ H₀ (.Assign [.Name y py] (.ListComp elt [⟨tg,iter,ifs,0⟩] scope pos) spos) (aS i fz (ao t cs fi tgt tt te)) :=
 dW (GZ (g:=M3 X.K tgt) (tt:=Ki X.K tt) (te:=tD X.K te) hc S hi hY hN hiy hy hsw hs) fun E σ H q=>by
  have:=E7 E σ H q
  exact EW σ H _ this
def Ou(K:W.Frag)(HF₀ H₀:Hp)(f:aj->D->Option aj):TG:=fun v σ H Q=>∃HF ρ d ρ',kH K HF₀ H₀ HF H ρ σ/\Rep K HF d v/\f ρ d=some ρ'/\∀σ',kH K HF₀ H₀ HF H ρ' σ'->Q σ' H
def MI(X:Cx)(HF₀ H₀:Hp)(tg:Expr)(f:aj->D->Option aj):Prop:=PG X tg (Ou X.K HF₀ H₀ f)
noncomputable def n0(i:Nat):aj->D->Option aj:=fun ρ d=>some (ρ.set i (.val d))
theorem Dv(i:Nat){x:Str}(hN:X.N.Nodup)(hi:X.N[i]?=some x)(hx:Loc X.env.scope x)(hf:X.fn x=true\/X.env.scope.names.lookup x=some .local:=by first|exact .inl rfl|exact .inr rfl|assumption):MI X HF₀ H₀ (.Name x pos) (n0 i) :=
 mS (da hN hi hx hf) fun v σ H Q ⟨HF,ρ,d,ρ',S,r,hf,q⟩=>by cases hf;exact q _ (S.setV r)
noncomputable def fK(i j:Nat):aj->D->Option aj:=fun ρ d=>match d with
 | .tuple [x,y]=>some ((ρ.set i (.val x)).set j (.val y))
 | _=>none
theorem Hs(i j:Nat){x y:Str}{px py:Pos}{k:Nat}(hc:X.calm=true)(hN:X.N.Nodup)(hi:X.N[i]?=some x)(hx:Loc X.env.scope x)(hj:X.N[j]?=some y)(hy:Loc X.env.scope y)
  (hf:X.fn x=true\/X.env.scope.names.lookup x=some .local:=by first|exact .inl rfl|exact .inr rfl|assumption) (hf':X.fn y=true\/X.env.scope.names.lookup y=some .local:=by first|exact .inl rfl|exact .inr rfl|assumption) :
  MI X HF₀ H₀ (.Tuple [.Name x px,.Name y py] k pos) (fK i j) :=
 mS (pQ hc (cI (da hN hi hx hf) (cI (da hN hj hy hf') lY))) fun v σ H Q ⟨HF,ρ,d,ρ',S,r,hf,q⟩=>by
  unfold fK at hf
  split at hf
  ·cases hf
   simp only[Rep] at r
   obtain⟨a,vs,rfl,hs,rr⟩:=r
   obtain⟨v1,r1,rfl,a1,b1⟩:=rr.cons_inv
   obtain⟨v2,r2,rfl,a2,b2⟩:=b1.cons_inv
   rw[b2.nil_inv] at hs
   exact⟨a,_,rfl,aC S.gr.fh hs,rfl,v1,_,rfl,v2,_,rfl,rfl,q _ ((S.setV a1).setV a2)⟩
  ·cases hf
noncomputable def d7(tgt:aj->D->Option aj)(gb:aj->Option Out):List D->aj->Option Out
 | [],ρ=>some (.nx ρ)
 | d::ds,ρ=>(tgt ρ d).bind fun ρ1=>(gb ρ1).bind fun|.nx ρ2=>d7 tgt gb ds ρ2|.rt v=>some (.rt v)
noncomputable def dM(fz:List Nat)(fi:Env->Option (List D))(tgt:aj->D->Option aj)(gb:aj->Option Out):aj->Option Out:=fun ρ=>(fi (cf (hand fz 0 ρ))).bind fun ds=>d7 tgt gb ds (hand fz 0 ρ)
theorem Ku(fz:List Nat){tg iter:Expr}{body:List Stmt}{fi:Env->Option (List D)}{tgt:aj->D->Option aj}{gb:aj->Option Out}(hp:PassesOwn (model X.prog X.w) X.A X.env X.xe)(hc:X.calm=true)(hi:DI X tg iter fi)(hg:MI X HF₀ H₀ tg tgt)(hb:Cw X HF₀ H₀ body gb)
  (hs:∀x,foldedSetIterable iter X.env x=pure x:=by intro _;rfl):DS X HF₀ H₀ (.For tg iter body [] pos) (dM fz fi tgt gb):=dW (KL hp hc hi hg hb hs) fun E σ H ⟨HF,ρ,o,S,hg,q⟩=>by
 obtain⟨ds,h,hg⟩:=bs hg
 obtain⟨HF1,s1,S1⟩:=S.hand fz
 refine⟨HF1,_,ds,S1.gr.fh,S1.frz,h,fun J H2 HF2 G it=>?_⟩
 refine⟨fun i m σ' H'=>m+i=ds.length/\∃HF' ρ',kH X.K HF₀ H₀ HF' H' ρ' σ'/\bc HF2 HF'/\d7 tgt gb (ds.drop i) ρ'=some o,⟨ds.length,rfl,HF2,_,S1.grow G,.refl _,hg⟩,?_⟩
 rintro i m σ' H' ⟨hm,HF',ρ',S',s',hf⟩
 by_cases hi:i < ds.length
 ·refine .inr ?_
  have hd:ds.drop i=ds[i]::ds.drop (i+1):=List.drop_eq_getElem_cons hi
  have he:ds[i]?=some ds[i]:=zU.mpr ⟨hi,rfl⟩
  generalize ds[i]=d at hd he
  rw[hd] at hf
  unfold d7 at hf
  obtain⟨ρ1,h1,hf⟩:=bs hf
  obtain⟨o1,h2,hf⟩:=bs hf
  obtain⟨go,yld⟩:=it.go i d H' HF' he s' S'.gr.fh
  refine⟨go,fun σ2 H3=>∃HF3 ρ3,kH X.K HF₀ H₀ HF3 H3 ρ3 σ2/\bc HF2 HF3/\d7 tgt gb (ds.drop (i+1)) ρ3=some o,fun σ2 H3 ⟨HF3,ρ3,a1,a2,a3⟩=>⟨m - 1,by omega,by omega,HF3,ρ3,a1,a2,a3⟩,fun x H3 y=>?_⟩
  obtain⟨HF3,G3,rx⟩:=yld x H3 y
  refine⟨HF3,ρ',d,ρ1,S'.grow G3,rx,h1,fun σ2 S2=>⟨HF3,ρ1,o1,S2,h2,?_⟩⟩
  cases o1 with
  | nx ρ2=>exact fun σ4 H4 HF4 S4 s4=>⟨HF4,ρ2,S4,(s'.trans G3.ff).trans s4,hf⟩
  | rt d=>cases hf;exact q
 ·have hi':i=ds.length:=by omega
  subst hi'
  rw[List.drop_length] at hf
  cases hf
  exact .inl ⟨it.stop H' HF' s' S'.gr.fh,q σ' H' HF' S' ((s1.trans G.ff).trans s')⟩
end
def NW(X:Cx)(sc:Scope):Prop:=∀x k,sc.names.lookup x=some k->X.env.kindOf x=some k\/(k=.free/\X.env.kindOf x=some .cell)
structure Bk(X:Cx)(N:List Str)(sc:Scope)(k:Nat):Prop where
 n:X.N=N
 nd:N.Nodup
 tb:NW X sc
 calm:X.calm=true
 fn:∀x,sc.names.lookup x=some .cell->X.fn x=true
 room:et k X.A
 xe:X.xe=fun _ _=>False
 kd:X.env.scope.kind=.function
def cU:List Str:=["len","isinstance","int","bool","tuple","list","range","all","any","set","sorted","enumerate","zip","sum","min","max","reversed"]
def Bn(X:Cx):Prop:=∀x∈cU,X.mg x=none
noncomputable def AS(sc:Scope)(x:Str):Bool:=decide (sc.names.lookup x=some .globalImplicit)
noncomputable def BZ(N:List Str)(sc:Scope)(i:Nat)(x:Str):Bool:=decide (N[i]?=some x)&&(decide (sc.names.lookup x=some .local)||decide (sc.names.lookup x=some .cell)||decide (sc.names.lookup x=some .free))&&!(x == ("__debug__":Str))&&!(x == ("__classdict__":Str))
noncomputable def pM(N:List Str)(sc:Scope)(i:Nat)(x:Str):Bool:=decide (N[i]?=some x)&&(decide (sc.names.lookup x=some .local)||decide (sc.names.lookup x=some .cell))
section
variable {X:Cx}{N:List Str}{sc:Scope}{k:Nat}
theorem Bk.gl(C:Bk X N sc k){x:Str}(h:AS sc x=true):Gl X x:=by
 rcases C.tb x _ (of_decide_eq_true h) with q|⟨q,_⟩
 ·exact q
 ·cases q
theorem Bk.vis(C:Bk X N sc k){i:Nat}{x:Str}(h:BZ N sc i x=true):X.N[i]?=some x/\IG X.env.scope x/\(x == ("__debug__":Str))=false/\(x == ("__classdict__":Str))=false:=by
 unfold BZ at h
 simp only[zF,Bool.or_eq_true,zJ,Bool.not_eq_true'] at h
 obtain⟨⟨⟨h1,h2⟩,h3⟩,h4⟩:=h
 refine⟨by rw[C.n];exact h1,?_,h3,h4⟩
 rcases h2 with (h2|h2)|h2
 ·rcases C.tb x _ h2 with q|⟨q,_⟩
  ·exact .inl q
  ·cases q
 ·rcases C.tb x _ h2 with q|⟨q,_⟩
  ·exact .inr (.inl q)
  ·cases q
 ·rcases C.tb x _ h2 with q|⟨_,q⟩
  ·exact .inr (.inr q)
  ·exact .inr (.inl q)
theorem Bk.loc(C:Bk X N sc k){i:Nat}{x:Str}(h:pM N sc i x=true):X.N.Nodup/\X.N[i]?=some x/\Loc X.env.scope x/\(X.fn x=true\/X.env.scope.names.lookup x=some .local):=by
 unfold pM at h
 simp only[zF,Bool.or_eq_true,zJ] at h
 obtain⟨h1,h2⟩:=h
 refine⟨by rw[C.n];exact C.nd,by rw[C.n];exact h1,?_⟩
 rcases h2 with h2|h2
 ·rcases C.tb x _ h2 with q|⟨q,_⟩
  ·exact⟨.inl q,.inr q⟩
  ·cases q
 ·rcases C.tb x _ h2 with q|⟨q,_⟩
  ·exact⟨.inr q,.inl (C.fn x h2)⟩
  ·cases q
theorem Bk.blt(C:Bk X N sc k)(B:Bn X){x:Str}{v:Value}(h:AS sc x=true)(hm:x∈cU)(hv:bootBuiltins x=some v):mM X x v:=⟨C.gl h,B x hm,hv⟩
theorem Bk.v(C:Bk X N sc k)(i:Nat){x:Str}{pos:Pos}(h:BZ N sc i x=true):DE X (.Name x pos) (ab i):=let ⟨a,b,c,d⟩:=C.vis h;Ld i a b c d
theorem Bk.pass(C:Bk X N sc k):PassesOwn (model X.prog X.w) X.A X.env X.xe:=by rw[C.xe];exact PassesOwn.never
noncomputable def iN(sc scope:Scope)(N N':List Str)(t:Nat)(cs:List Nat):Bool :=
 decide (scope.kind=.function)&&scope.names.all (fun p=>(!decide (p.2=NameKind.free)||decide (sc.names.lookup p.1=some .cell)||decide (sc.names.lookup p.1=some .free))&&(!decide (p.2=NameKind.local)||decide (scope.names.lookup p.1=some .local)))
  &&scope.names.all (fun p=>!decide (p.2=NameKind.cell)||!scope.names.any fun q=>decide (q.1=p.1)&&decide (q.2=NameKind.free))
  &&decide (N'.length=t+cs.length)&&decide (N'.drop t=cs.filterMap fun j=>N[j]?)&&cs.all (fun j=>decide (j < N.length))&&(N'.drop t).all (fun x=>decide (scope.names.lookup x=some .free))&&decide N'.Nodup
theorem filterMap_get{α:Type}(N:List α):∀ (cs:List Nat),(∀j∈cs,j < N.length)->∀ (i:Nat),(cs.filterMap fun j=>N[j]?)[i]?=(cs[i]?).bind fun j=>N[j]?
 | [],_,i=>by simp
 | c::cs,h,i=>by
  have hc:=h c zE
  rw[List.filterMap_cons,zK hc]
  cases i with
  | zero=>simp[hc]
  | succ i =>
   simp only[List.getElem?_cons_succ]
   exact filterMap_get N cs (fun j hj=>h j (zC _ hj)) i
theorem Bk.comp(C:Bk X N sc k){scope:Scope}{N':List Str}{t:Nat}{cs:List Nat}(h:iN sc scope N N' t cs=true):iW X scope N' (jy t cs)/\∀fp s H,Bk (aV X scope N' fp s H) N' scope k:=by
 unfold iN at h
 simp only[zF,zJ,List.all_eq_true,Bool.or_eq_true,Bool.not_eq_true',decide_eq_false_iff_not] at h
 obtain⟨⟨⟨⟨⟨⟨⟨h1,h2⟩,h3⟩,h4⟩,h5⟩,h6⟩,h7⟩,h8⟩:=h
 refine⟨⟨h1,fun x hx hk=>?_,fun {x} a b=>?_,fun x hx hk=>?_,fun σ i x v e1 e2=>?_,fun σ=>?_⟩,fun fp s H=>⟨rfl,h8,fun x k hx=>mI hx,C.calm,fun x hx=>yB hx,C.room,rfl,h1⟩⟩
 ·rcases (h2 x hx).1 with (q|q)|q
  ·exact absurd hk q
  ·rcases C.tb _ _ q with z|⟨z,_⟩
   ·exact .inl z
   ·cases z
  ·rcases C.tb _ _ q with z|⟨_,z⟩
   ·exact .inr z
   ·exact .inl z
 ·rcases h3 _ a with q|q
  ·exact q rfl
  ·have:(scope.names.any fun q=>decide (q.1=x)&&decide (q.2=NameKind.free))=true:=List.any_eq_true.mpr ⟨_,b,by simp⟩
   rw[this] at q
   cases q
 ·rcases (h2 x hx).2 with q|q
  ·exact absurd hk q
  ·exact q
 ·unfold jy at e2
  by_cases hi:i < t
  ·rw[List.getElem?_append_left (by simpa using hi),List.getElem?_replicate,if_pos hi] at e2
   cases e2
  ·rw[List.getElem?_append_right (by simpa using hi),zO,List.length_replicate] at e2
   obtain⟨j,hj,e2⟩:=ag e2
   have e3:(N'.drop t)[i - t]?=some x:=by rw[List.getElem?_drop];rw[show t+(i - t)=i by omega];exact e1
   refine⟨h7 x (List.mem_of_getElem? e3),j,?_,?_⟩
   ·rw[h5,filterMap_get N cs h6,hj] at e3
    rw[C.n];exact e3
   ·cases e:σ[j]? with
    | none=>rw[e] at e2;cases e2
    | some o=>rw[e] at e2;have e2:o=some v:=e2;rw[e2]
 ·unfold jy
  rw[zN,List.length_replicate,zD,h4]
noncomputable def bh(g:aj->Option Out)(n:Nat)(args:List D):Option D:=(g (args.map Slot.val++List.replicate (n - args.length) .non)).map fun|.rt d=>d|.nx _=>.none
theorem IA{P:Program}{w:World}{K:W.Frag}{mg:Str->Option Value}{base:Heap}{x qual:Str}{st:Stmt}{f:Addr}{fd:FuncData}{ps:List Str}{g:aj->Option Out}(F:Hf K x qual st f fd)(S:fL N ps (aO st))
  (body:∀X:Cx,X.prog=P->X.w=w->X.K=K->X.mg=mg->X.base=base->Bk X N (aO st) k->X.env.code=fd.code->X.env.qual=qual++".<locals>."->∀HF₀ H₀,Cw X HF₀ H₀ (cy st) g):pk P w K mg base LD (k+1) f fd ps (MD K ps.length (bh g N.length)):=by
 obtain⟨oc,od,kV,doc,pm,an,cdv,ct,osl,rfl,lk,hcd⟩:=F.ex
 refine Mr lk hcd S (fun vs H Q E ⟨HF,ds,d,h1,_,h2,h3,_⟩=>by rw[h2.length,h3]) fun A outer s H vs Q E hr ⟨HF,ds,d,sm,tb,rr,hl,hd,q⟩=>?_
 refine⟨_,(body (Cg LD P w K mg base N qual (aO st) f cdv A outer s H E).nox rfl rfl rfl rfl rfl ⟨rfl,S.nd,fun y kd hy=>.inl hy,rfl,fun _ _=>rfl,hr,rfl,S.kind⟩ rfl rfl HF H).nox,?_⟩
 unfold bh at hd
 obtain⟨o,ho,hd⟩:=ag hd
 have hpl:ps.length<=N.length:=by have:=congrArg List.length S.pre;rw[List.length_take] at this;omega
 refine⟨HF,_,o,⟨.refl sm,fun i e h=>?_,fun i es h=>?_,fun i j es fs a h=>?_,?_,tb⟩,ho,?_⟩
 ·have hi:i < ds.length:=by
   by_cases hi:i < ds.length
   ·exact hi
   ·rw[List.getElem?_append_right (by simpa using hi),List.getElem?_replicate] at h
    split at h<;>cases h
  rw[List.getElem?_append_left (by simpa using hi),zO] at h
  obtain⟨d',hd',h⟩:=ag h
  cases h
  obtain⟨v,hv,rv⟩:=rr.getD hd'
  refine⟨v,?_,rv⟩
  unfold L2.start
  rw[List.getElem?_append_left (by simpa [rr.length] using hi),zO,hv]
  rfl
 ·exfalso
  by_cases hi:i < ds.length
  ·rw[List.getElem?_append_left (by simpa using hi),zO] at h
   obtain⟨d',hd',h⟩:=ag h
   cases h
  ·rw[List.getElem?_append_right (by simpa using hi),List.getElem?_replicate] at h
   split at h<;>cases h
 ·exfalso
  by_cases hi:i < ds.length
  ·rw[List.getElem?_append_left (by simpa using hi),zO] at h
   obtain⟨d',hd',h⟩:=ag h
   cases h
  ·rw[List.getElem?_append_right (by simpa using hi),List.getElem?_replicate] at h
   split at h<;>cases h
 ·unfold L2.start
  rw[zN,zN,zD,zD,List.length_replicate,List.length_replicate,rr.length]
  exact Nat.le_refl _
 ·cases o with
  | rt d'=>cases hd;exact fun v H' HF' G r=>q v H' HF' G r
  | nx ρ'=>cases hd;exact fun σ' H' HF' S' _=>q .non H' HF' S'.gr (by simp[Rep])
theorem Oh{P:Program}{w:World}{K:W.Frag}{mg:Str->Option Value}{base:Heap}{x qual:Str}{st:Stmt}{f:Addr}{fd:FuncData}{ps:List Str}{g:aj->Option Out}(F:Hf K x qual st f fd)(S:fL N ps (aO st))(hb:Binds K fd ps [])(hm:mg x=some (.ref f))
  (body:∀X:Cx,X.prog=P->X.w=w->X.K=K->X.mg=mg->X.base=base->Bk X N (aO st) k->X.env.code=fd.code->X.env.qual=qual++".<locals>."->∀HF₀ H₀,Cw X HF₀ H₀ (cy st) g):dP P w K mg base (k+1) x ps.length (bh g N.length):=⟨f,fd,ps,IA F S body,hm,F.kp,hb⟩
end
section
variable {X:Cx}{HF₀ H₀:Hp}{e e2:Expr}{pos apos cpos px:Pos}{x:Str}
noncomputable def kK(fz:List Nat)(f:Env->Option D)(ρ:aj):Option (D×aj):=(f (bg ρ)).bind fun d=>if qq d=true then some (d,ρ) else (f (cf (hand fz 0 ρ))).map fun d'=>(d',hand fz 0 ρ)
theorem mP{K:W.Frag}{HF H:Hp}{ρ ρ':aj}{σ:L2.St}{fz:List Nat}{f:Env->Option D}{d:D}(S:kH K HF₀ H₀ HF H ρ σ)(h:kK fz f ρ=some (d,ρ')){Q:VK}
  (q:∀v H' HF',bc HF HF'->kH K HF₀ H₀ HF' H' ρ' σ->bc H H'->Rep K HF' d v->Q v H'):tD K f σ H Q:=by
 obtain⟨d1,h1,h⟩:=bs h
 split at h
 ·rename_i hs
  cases h
  exact⟨H,bg ρ,d,.refl _,S.all,h1,fun v H' HF' G r=>q v H' HF (.refl _) (S.step G.hh) G.hh (vL hs r)⟩
 ·obtain⟨d2,h2,h⟩:=ag h
  cases h
  obtain⟨HF1,s1,S1⟩:=S.hand fz
  exact⟨HF1,_,d,S1.gr.fh,S1.frz,h2,fun v H' HF' G r=>q v H' HF' (s1.trans G.ff) (S1.grow G) G.hh r⟩
noncomputable def oe(i:Nat)(m:List D->Option (List D))(ρ:aj):Option Out:=match ρ[i]? with
 | some (.own ds)=>(m ds).map fun es=>.nx (ρ.set i (.own es))
 | _=>none
theorem kl{i:Nat}{m:List D->Option (List D)}{ρ:aj}{o:Out}(h:oe i m ρ=some o):∃ds es,ρ[i]?=some (.own ds)/\m ds=some es/\o=.nx (ρ.set i (.own es)):=by
 unfold oe at h
 split at h
 ·rename_i ds hd
  obtain⟨es,h1,h2⟩:=ag h
  exact⟨ds,es,hd,h1,h2.symm⟩
 ·cases h
theorem kH.mut{K:W.Frag}{HF H:Hp}{ρ:aj}{σ:L2.St}(S:kH K HF₀ H₀ HF H ρ σ){i:Nat}{ds es:List D}{a:Addr}{vs us:List V}(h:ρ[i]?=some (.own ds))(ha:σ[i]?=some (some (.ref a)))(hH:H a=some (.lst vs))(r:av K HF es us) :
  kH K HF₀ H₀ HF (upd H a (.lst us)) (ρ.set i (.own es)) σ:=by
 obtain⟨a',vs',e1,e2,e3,e5,e4⟩:=S.own i ds h
 rw[ha] at e1;cases e1
 have hl:i < ρ.length:=(zU.mp h).1
 have gr:cF HF₀ H₀ HF (upd H a (.lst us)):=⟨fun b o e=>by rw[aE (aP e e5)];exact S.gr.hh b o e,S.gr.ff,fun b o e=>by rw[aE (aP e e3)];exact S.gr.fh b o e,S.gr.nw⟩
 refine⟨gr,fun j d hj=>?_,fun j xs hj=>?_,fun j k xs ys b f1 f2 f3 f4=>?_,by rw[yD];exact S.len,S.tb⟩
 ·rw[List.getElem?_set] at hj
  by_cases hij:i=j
  ·rw[if_pos hij] at hj
   split at hj<;>cases hj
  ·rw[if_neg hij] at hj;exact S.val j d hj
 ·rw[List.getElem?_set] at hj
  by_cases hij:i=j
  ·subst hij
   rw[if_pos rfl,if_pos hl] at hj
   cases hj
   exact⟨a,us,ha,aK,e3,e5,r⟩
  ·rw[if_neg hij] at hj
   obtain⟨b,ws,f1,f2,f3,f5,f4⟩:=S.own j xs hj
   refine⟨b,ws,f1,?_,f3,f5,f4⟩
   rw[aE]
   ·exact f2
   ·rintro rfl
    exact hij (S.inj i j ds xs b h hj ha f1)
 ·have old:∀ {j:Nat}{xs:List D},(ρ.set i (.own es))[j]?=some (.own xs)->∃ys,ρ[j]?=some (.own ys):=fun {j xs} hj=>by
   rw[List.getElem?_set] at hj
   by_cases hij:i=j
   ·subst hij;exact⟨ds,h⟩
   ·rw[if_neg hij] at hj;exact⟨xs,hj⟩
  obtain⟨xs',g1⟩:=old f1
  obtain⟨ys',g2⟩:=old f2
  exact S.inj j k xs' ys' b g1 g2 f3 f4
noncomputable def k3(i:Nat)(fz:List Nat)(f:Env->Option D):aj->Option Out:=fun ρ=>(kK fz f ρ).bind fun p=>oe i (fun ds=>if ds.length < sizeLine then some (ds++[p.1]) else none) p.2
theorem BS(i:Nat)(fz:List Nat){f:Env->Option D}(hN:X.N[i]?=some x)(hv:IG X.env.scope x)(h:DE X e f)(hd:(x == ("__debug__":Str))=false:=by decide)(hcd:(x == ("__classdict__":Str))=false:=by decide)
  (hfew:((backTo cpos (starEach [e] X.env)).all (fun x=>!x.1)&&(backToKw cpos (keywordEach [] X.env)).all (fun x=>x.1.isSome)&&decide ([e].length+([]:List Keyword).length+(if ([]:List Keyword).isEmpty then 0 else 1) < 30))=true:=by rfl)
  (hline:(apos.endLine == cpos.line)=true:=by rfl) (hs:starEach [e] X.env=(false,eval e X.env)::starEach [] X.env:=by rfl) :
  DS X HF₀ H₀ (.Expr (.Call (.Attribute (.Name x px) "append" apos) [e] [] cpos) pos) (k3 i fz f) :=
 dW (ow (rS PySem.F.plainAttrs_list PySem.F.slot_list_append PySem.F.type_list_append sf (qf hN hv hd hcd) (dw h hJ hs) rfl hfew hline hs rfl)) fun E σ H ⟨HF,ρ,o,S,hg,q⟩=>by
  obtain⟨⟨d,ρ'⟩,h1,hg⟩:=bs hg
  obtain⟨ds,es,h2,h3,rfl⟩:=kl hg
  have hown:∃ds',ρ[i]?=some (.own ds'):=by
   obtain⟨d1,_,h1⟩:=bs h1
   split at h1
   ·cases h1;exact⟨ds,h2⟩
   ·obtain⟨d2,_,h1⟩:=ag h1
    cases h1
    rw[ip] at h2
    obtain⟨s,hs,h2⟩:=ag h2
    cases s with
    | non=>split at h2<;>cases h2
    | val _=>split at h2<;>cases h2
    | own xs=>exact⟨xs,hs⟩
  obtain⟨ds',hown⟩:=hown
  obtain⟨a,vs,e1,e2,e3,e5,e4⟩:=S.own i ds' hown
  refine⟨.ref a,e1,.inl ⟨rfl,vs,iJ.of e2⟩,mP S h1 fun v H' HF' s1 S' sh r=>?_⟩
  obtain⟨a',vs',f1,f2,f3,f5,f4⟩:=S'.own i ds h2
  rw[e1] at f1;cases f1
  split at h3
  ·rename_i hz
   cases h3
   exact⟨a,vs',v,rfl,rfl,f2,by rw[f4.length];exact hz,q σ _ HF' (S'.mut h2 e1 f2 (f4.append (av.cons r av.nil))) s1⟩
  ·cases h3
end
noncomputable def uk(K:W.Frag)(o:Obj):Option (Addr×Str):=match o.data with
 | .func fd=>if jC.contains fd.qualname=true then (match fd.code with
   | .ref c=>(match K.lookup c with
    | some ⟨_,_,.fields vs,_⟩=>(match (vs[11]?:Option Value) with
     | some (.ref P)=>if W.codeHdIn K c P=true then some (P,fd.qualname++".<locals>."++"<lambda>") else none
     | _=>none)
    | _=>none)
   | _=>none) else none
 | _=>none
noncomputable def gU(K:W.Frag):List (Addr×Str):=K.filterMap fun p=>uk K p.2
noncomputable def lI(K:W.Frag)(ts:List Addr):Bool:=(gU K).all fun p=>ts.contains p.1&&(K.lookup p.1).isNone&&decide ((gU K).lookup p.1=some p.2)
theorem wZ{K:W.Frag}{o:Obj}{P:Addr}{q:Str}(h:uk K o=some (P,q)):∃c,W.codeHdIn K c P=true:=by
 unfold uk at h
 split at h
 ·split at h
  ·split at h
   ·split at h
    ·split at h
     ·split at h
      ·cases h;exact⟨_,‹_›⟩
      ·cases h
     ·cases h
    ·cases h
   ·cases h
  ·cases h
 ·cases h
theorem vQ{K:W.Frag}{P:Addr}{q:Str}(h:(P,q)∈gU K):∃c,W.codeHdIn K c P=true:=by
 obtain⟨p,_,e⟩:=List.mem_filterMap.mp h
 exact wZ e
theorem yU{K:W.Frag}{f c P:Addr}{oc:Value}{od:Option Addr}{fd:FuncData}{sl:Array (Option Value)}(a:K.lookup f=some ⟨oc,od,.func fd,sl⟩)(b:fd.qualname∈jC)(d:fd.code=.ref c)(e:W.codeHdIn K c P=true) :
  (P,fd.qualname++".<locals>."++"<lambda>")∈gU K:=by
 refine List.mem_filterMap.mpr ⟨(f,_),W.mem_of_lookupK a,?_⟩
 have e':=e
 unfold W.codeHdIn at e'
 unfold uk
 simp only[d,List.contains_iff_mem,b,if_true]
 split at e'
 ·rename_i vs sl' hl
  simp only[hl]
  simp only[zF] at e'
  have e1:=e'.1.1.1.1.1
  split at e1
  ·rename_i P' hv
   have:P'=P:=by simpa using e1
   subst this
   simp only[hv,e,if_true]
  ·cases e1
 ·cases e'
theorem Ec{α:Type}{b:Addr}{q:α}:∀ {l:List (Addr×α)},l.lookup b=some q->(b,q)∈l
 | [],e=>by cases e
 | (c,x)::r,e=>by
  rw[yC] at e
  cases h:b == c with
  | true=>rw[h] at e;cases e;rw[eq_of_beq h];exact zE
  | false=>rw[h] at e;exact zC _ (Ec e)
noncomputable def eT(K:W.Frag)(h0:Hp):Hp:=fun b=>match (gU K).lookup b with|some q=>some (.tab q)|none=>h0 b
theorem Ct{K:W.Frag}{ts:List Addr}{h0:Hp}(h:lI K ts=true):gq K (eT K h0):=fun f oc od fd sl c P a b d e=>by
 have hm:=yU a b d e
 have:=List.all_eq_true.mp h _ hm
 simp only[zF,zJ] at this
 unfold eT
 rw[this.2]
theorem Bb{P:Program}{w:World}{K:W.Frag}{mg mb:Str->Option Value}{CX:Cy}{k:Nat}{fa a:Addr}{fd:FuncData}{x:Str}{sp:Sp}{s₁:Shared}{vs:List Value}{ns:List Int}{ts:List Addr}
  (KX:K.In s₁.heap) (hns:s₁.heap.Ns mainGlobals mg) (hb:s₁.heap.Ns builtinsNs mb) (hbb:∀x:Str,x≠"__name__"->mb x=bootBuiltins x) (hlim:s₁.heap.NoLimit) (hbm:M8 mg s₁.heap) (hg:s₁.gens=#[])
  (ht:lI K ts=true) (hts:∀P∈ts,s₁.heap.get? P=some (W.tabObj #[]))
  (ha:s₁.heap.get? a=some { cls:=.type "list",data:=.seq vs.toArray }) (hi:IntsAre vs ns) (hl:ns.length<=sizeLine) (hr:et k callerA)
  (F:∀base:Heap,K.In base->base.Ns mainGlobals mg->pk P w K mg base CX k fa fd [x] sp) (hbind:∀ (s:Shared) (u:Value),BindsTo s fd ⟨[u],[]⟩ [(x,u)])
  (hsp:∀H:Hp,gq K H->iJ K H a (ns.map V.int)->sp [.ref a] H (fun v _=>v=.bl true) fun _ _ _=>False)
  (hCX:∀H e s',CX [] H s₁ (fun _ _ _=>False) e s'->False) :
  codeAny (model P w) callerA (.call (.ref fa) ⟨[.ref a],[]⟩) (fun r s'=>r=.ok (.ret (.bool true))/\OldK s₁.heap s'.heap/\s'.os=s₁.os/\AllBare s'.gens) s₁:=by
 have rv:=sE hi
 have lenV:=hi.length
 have tabAt:∀b q,(gU K).lookup b=some q->s₁.heap.get? b=some (W.tabObj #[])/\K.lookup b=none/\∃c,W.CodeHd s₁.heap c b:=fun b q e=>by
  have hm:=Ec e
  have:=List.all_eq_true.mp ht _ hm
  simp only[zF,zJ,List.contains_iff_mem,Option.isNone_iff_eq_none] at this
  obtain⟨c,hc⟩:=vQ hm
  exact⟨hts b this.1.1,this.1.2,c,W.codeHd_of_K KX hc⟩
 have aT:(gU K).lookup a=none:=by
  cases e:(gU K).lookup a with
  | none=>rfl
  | some q=>have:=(tabAt a q e).1;rw[ha] at this;cases this
 have core:∀h0:Hp,iJ K (eT K h0) a (ns.map V.int)->oF P w (eT K h0) s₁.heap->(∀b,h0 b≠none->b=a)->(h0 a≠none->K.lookup a=none)->(∀b,h0 b=none\/∃o xs,h0 b=some (.frz o (.lst xs))) ->
   codeAny (model P w) callerA (.call (.ref fa) ⟨[.ref a],[]⟩) (fun r s'=>r=.ok (.ret (.bool true))/\OldK s₁.heap s'.heap/\s'.os=s₁.os/\AllBare s'.gens) s₁:=by
  intro h0 hS hok hA hK hO
  have look:∀b u,eT K h0 b=some u->(∃q,(gU K).lookup b=some q/\u=.tab q)\/(b=a/\h0 b=some u):=fun b u e=>by
   unfold eT at e
   split at e
   ·rename_i q hq;cases e;exact .inl ⟨q,hq,rfl⟩
   ·exact .inr ⟨hA b (by rw[e];simp),e⟩
  have j5:∀ {b:Addr}{o:Obj},s₁.heap.get? b=some o->eT K h0 b=none->(tP s₁.heap (eT K h0)).get? b=some o:=fun e n=>E6 e n
  have noA:∀ {b:Addr}{o:Obj},s₁.heap.get? b=some o->(∀vs n,o.data≠.seq vs n)->(∀vs,o.data≠.fields vs)->eT K h0 b=none:=fun {b o} e d d2=>by
   cases q:eT K h0 b with
   | none=>rfl
   | some u =>
    rcases look b u q with ⟨q',z,_⟩|⟨z,_⟩
    ·rw[(tabAt b q' z).1] at e;cases e;exact absurd rfl (d2 _)
    ·subst z;rw[ha] at e;cases e;exact absurd rfl (d _ _)
  have nsK:∀ {b:Addr}{m:Str->Option Value},s₁.heap.Ns b m->(tP s₁.heap (eT K h0)).Ns b m:=fun {b m} ⟨o,es,ep,e,d,r⟩=>⟨o,es,ep,j5 e (noA e (fun _ _ z=>by rw[d] at z;cases z) fun _ z=>by rw[d] at z;cases z),d,r⟩
  have hKb:K.In (tP s₁.heap (eT K h0)):=fun b o e=>j5 (KX b o e) (by
   cases q:eT K h0 b with
   | none=>rfl
   | some u =>
    rcases look b u q with ⟨q',z,_⟩|⟨z,z2⟩
    ·rw[(tabAt b q' z).2.1] at e;cases e
    ·subst z;rw[hK (by rw[z2];simp)] at e;cases e)
  have hM:Mod K mg (tP s₁.heap (eT K h0)):=⟨hKb,nsK hns,⟨mb,nsK hb,hbb⟩,let ⟨mc,h1,h2⟩:=hlim;⟨mc,nsK h1,h2⟩,
   let ⟨bm,o,b1,b2,b3,b4,b5,b6,b7⟩:=hbm;⟨bm,o,b1,b2,b3,j5 b4 (noA b4 (fun _ _ z=>by rw[b7] at z;cases z) fun _ z=>by rw[b7] at z;cases z),b5,b6,b7⟩⟩
  have e0:GD P w K mg (tP s₁.heap (eT K h0)) callerA [] s₁ (eT K h0):=⟨rfl,hM,fun b o e=>G8 e,Nat.le_of_eq (BM _ _),trivial,fun b hb=>absurd (show b∈([]:List Addr) from hb) (by simp),hok,.of_eq hg⟩
  refine codeAny_mono ((F _ hKb (nsK hns)).run callerA [] s₁ (eT K h0) ⟨[.ref a],[]⟩ [.ref a] [.ref a] _ _ hr e0 (hbind s₁ (.ref a)) (.cons rfl .nil) (hsp _ (Ct ht) hS)) fun r s' h=>?_
  cases r with
  | error e=>exact (hCX _ e s' h).elim
  | ok fl =>
   cases fl with
   | next=>exact False.elim h
   | brk=>exact False.elim h
   | cont=>exact False.elim h
   | ret u =>
    obtain⟨v,H',os,bare,un,hok',r',q⟩:=h
    have q':v=.bl true:=q
    subst q'
    obtain rfl:u=Value.bool true:=r'
    have key:∀b o,s₁.heap.get? b=some o->s'.heap.get? b=some o\/(isCodeTable s₁.heap b/\o=W.tabObj #[]/\∃ps,s'.heap.get? b=some (W.tabObj ps)):=fun b o e=>by
     cases q:eT K h0 b with
     | none=>exact .inl (un.keep b o e q (by intro z;exact absurd (show b∈([]:List Addr) from z) (by simp)) (by simp))
     | some u =>
      rcases look b u q with ⟨q',z,rfl⟩|⟨z,z2⟩
      ·obtain⟨t1,_,c,t3⟩:=tabAt b q' z
       obtain⟨more,m1⟩:=un.tbls.gr b q' #[] q t1
       rw[e] at t1
       cases t1
       exact .inr ⟨(t3.tab e).isCodeTable,rfl,_,m1⟩
      ·rcases hO b with z3|⟨ob,xs,z3⟩
       ·rw[z2] at z3;cases z3
       ·rw[z2] at z3
        cases z3
        have z4:=un.frzs b ob _ q
        obtain⟨e1,_⟩:=hok b _ q
        obtain⟨e2,_⟩:=hok' b _ z4
        rw[e] at e1;cases e1
        exact .inl e2
    refine⟨rfl,⟨fun b o e=>?_,fun b o e=>?_⟩,os,bare⟩
    ·rcases key b o e with z|⟨t,rfl,ps,z⟩
     ·exact .inl z
     ·exact .inr (.inl ⟨t,rfl,#[],ps,rfl,by rw[Array.empty_append];exact z⟩)
    ·rcases key b o e with z|⟨_,_,ps,z⟩
     ·exact⟨o,z⟩
     ·exact⟨_,z⟩
 have hoT:∀ (h0:Hp) b q,(gU K).lookup b=some q->eX P w (eT K h0) s₁.heap b (.tab q):=fun h0 b q e=>⟨#[],(tabAt b q e).1,trivial,fun pos v z=>by cases z⟩
 cases hk:K.lookup a with
 | some o =>
  have e:=KX a o hk
  rw[ha] at e
  cases e
  refine core (fun _=>none) (.inr ⟨_,vs.toArray,_,hk,rfl,rfl,rfl,by rw[zH,lenV];exact hl,by simpa using rv⟩) (fun b u z=>?_) (fun b z=>absurd rfl z) (fun z=>absurd rfl z) fun _=>.inl rfl
  unfold eT at z
  split at z
  ·rename_i q hq;cases z;exact hoT _ b q hq
  ·cases z
 | none =>
  refine core (fun b=>if b=a then some (.frz { cls:=.type "list",data:=.seq vs.toArray } (.lst (ns.map V.int))) else none) (.inl (.inr ⟨{ cls:=.type "list",data:=.seq vs.toArray },?_⟩)) (fun b u z=>?_) (fun b z=>?_) (fun _=>hk) fun b=>?_
  ·unfold eT;rw[aT];exact if_pos rfl
  ·unfold eT at z
   split at z
   ·rename_i q hq;cases z;exact hoT _ b q hq
   ·by_cases hb:b=a
    ·replace z:=(if_pos hb).symm.trans z
     cases z
     subst hb
     exact⟨ha,by rw[zD];exact hl,vs,_,rv,ha⟩
    ·replace z:=(if_neg hb).symm.trans z;cases z
  ·by_cases hb:b=a
   ·exact hb
   ·exact absurd (if_neg hb) z
  ·by_cases hb:b=a
   ·exact .inr ⟨_,_,if_pos hb⟩
   ·exact .inl (if_neg hb)
theorem FF{l:W.OpenLaw}{n k:Nat}{q:Program}{loose:List Str}{XP:(Str->Option Value)->Heap->Prop}{YP:World->Heap->Prop}{d:DefRec}{K:Params->W.Frag}{CX:World->Cy}{sp:World->Sp}{x:Str}{ts:List Addr}
  (hn:l.most=some n) (hn2:n<=sizeLine) (hdf:d.params.defaults=[]) (hr:et k callerA)
  (hY:∀ (w:World) (h:Heap),YP w h->(K w.params).In h/\∀P∈ts,h.get? P=some (W.tabObj #[])) (ht:∀w:World,lI (K w.params) ts=true)
  (F:∀ (w:World) (mg:Str->Option Value) (fa:Addr) (h:Heap),(K w.params).In h->h.Ns mainGlobals mg->mg d.name=some (.ref fa) ->
   ∃fd:FuncData,(∀ (s:Shared) (u:Value),BindsTo s fd ⟨[u],[]⟩ [(x,u)]) /\
    ∀base:Heap,(K w.params).In base->base.Ns mainGlobals mg->pk l.prog w (K w.params) mg base (CX w) k fa fd [x] (sp w))
  (hsp:∀ (w:World) (H:Hp) (a:Addr) (ns:List Int),ns.length<=n->gq (K w.params) H->iJ (K w.params) H a (ns.map V.int)->sp w [.ref a] H (fun v _=>v=.bl true) fun _ _ _=>False)
  (hCX:∀ (w:World) (H:Hp) (s:Shared) (e:Value) (s':Shared),CX w [] H s (fun _ _ _=>False) e s'->False) :
  W.WalkO q loose XP YP l.row.toRowW d [] (fun f vs=>PySem.call f vs):=by
 refine Att.attach_call hn hdf fun w s₀ s₁ mg mb fa o pm cd doc a vs ns G Y ho hd hcd hmg hobj hints hlen hg=>?_
 obtain⟨KX,hts⟩:=hY w _ Y
 obtain⟨fd,hb,hF⟩:=F w mg fa _ KX G.T.g hmg
 have hbm:M8 mg s₁.heap:=by
  obtain⟨bm,ob,b1,b2,b3,b4,b5,b6⟩:=G.T.bmain
  refine⟨bm,ob,b1,b2,fun z=>?_,b3,b4,b5,b6⟩
  obtain⟨o',es,ep,e1,e2,_⟩:=G.T.g
  rw[<- z,b3] at e1
  cases e1
  rw[b6] at e2;cases e2
 exact Bb KX G.T.g G.T.b G.T.builtins G.T.nolimit hbm hg (ht w) hts hobj hints (yE hlen hn2) hr hF hb (fun H hT hS=>hsp w H a ns hlen hT hS) fun H e s'=>hCX w H s₁ e s'
end Dl
namespace SP
open PySem PySem.W PyProof.Rows
noncomputable def run{α:Type}(lt:Nat->Nat->Bool):KasT α->α
 | .ret a=>a
 | .ask i j k=>run lt (k (lt i j))
theorem ik{α β:Type}(lt:Nat->Nat->Bool)(f:α->KasT β):∀t:KasT α,run lt (t.bind f)=run lt (f (run lt t))
 | .ret a=>rfl
 | .ask i j k=>by
  show run lt ((k (lt i j)).bind f)=run lt (f (run lt (k (lt i j))))
  exact ik lt f (k (lt i j))
noncomputable def xt(n:Nat){α:Type}:KasT α->Prop
 | .ret _=>True
 | .ask i j k=>i < n/\j < n/\∀b,xt n (k b)
theorem wp_run{α:Type}{n:Nat}{cmp:Nat->Nat->(Bool->Shared->Prop)->Shared->Prop}{lt:Nat->Nat->Bool}{s:Shared}(hc:∀i j C,i < n->j < n->C (lt i j) s->cmp i j C s):∀ (t:KasT α) {Q:α->Shared->Prop},xt n t->Q (run lt t) s->t.kasWp cmp Q s
 | .ret a,Q,_,h=>h
 | .ask i j k,Q,b,h=>hc i j _ b.1 b.2.1 (wp_run hc (k (lt i j)) (b.2.2 _) h)
noncomputable def qu(n:Nat){α:Type}(R:α->Prop):KasT α->Prop
 | .ret a=>R a
 | .ask i j k=>i < n/\j < n/\∀b,qu n R (k b)
theorem mK{α β:Type}{n:Nat}{R:α->Prop}{f:α->KasT β}:∀ {t:KasT α},qu n R t->(∀a,R a->xt n (f a))->xt n (t.bind f)
 | .ret a,b,h=>h a b
 | .ask i j k,b,h=>⟨b.1,b.2.1,fun c=>mK (b.2.2 c) h⟩
theorem ja{α β:Type}{n:Nat}{R:α->Prop}{S:β->Prop}{f:α->KasT β}:∀ {t:KasT α},qu n R t->(∀a,R a->qu n S (f a))->qu n S (t.bind f)
 | .ret a,b,h=>h a b
 | .ask i j k,b,h=>⟨b.1,b.2.1,fun c=>ja (b.2.2 c) h⟩
def Bd(n:Nat)(p:Array Nat):Prop:=∀a,p.getD a 0 < n
theorem Bd.perm{n:Nat}{p q:Array Nat}(h:Bd n p)(e:q.Perm p):Bd n q:=by
 intro a
 rw[Array.getD_eq_getD_getElem?]
 cases ha:q[a]? with
 | none=>have:=h p.size;rw[Array.getD_eq_getD_getElem?] at this;simpa using this
 | some x =>
  have hx:x∈q:=Array.mem_of_getElem? ha
  have hx':x∈p:=e.mem_iff.mp hx
  obtain⟨i,hi,rfl⟩:=Array.mem_iff_getElem.mp hx'
  have:=h i
  rw[Array.getD_eq_getD_getElem?] at this
  simpa [hi] using this
theorem Dt{n:Nat}{p:Array Nat}(h:Bd n p):∀f m,qu n (fun _=>True) (kas_asc p f m)
 | 0,m=>trivial
 | f+1,m=>⟨h _,h _,fun c=>by
  dsimp only
  split
  ·trivial
  ·exact Dt h f (m+1)⟩
theorem wq{n:Nat}{p:Array Nat}(h:Bd n p)(i j:Nat):Bd n (kas_rev p i j):=h.perm (mirror_perm _ _ _ _)
theorem sS{n:Nat}:∀ (f:Nat) {p:Array Nat}(h:Bd n p) (m q:Nat),qu n (fun r=>Bd n r.1) (kas_desc f p m q)
 | 0,p,h,m,q=>h
 | f+1,p,h,m,q=>⟨h _,h _,fun c=>by
  dsimp only
  split
  ·split
   ·exact sS f (wq h _ _) (m+1) 0
   ·exact sS f h (m+1) 0
  ·exact⟨h _,h _,fun d=>by
    dsimp only
    split
    ·exact h
    ·exact sS f h (m+1) (q+1)⟩⟩
theorem AE{n:Nat}{p:Array Nat}(h:Bd n p)(m nrem:Nat):qu n (fun r=>Bd n r.2) (kas_tail3 m nrem p):=ja (Dt (wq h 0 m) _ _) fun _ _=>wq h 0 m
theorem pJ{n:Nat}{p:Array Nat}(h:Bd n p)(m nrem:Nat):qu n (fun r=>Bd n r.2) (kas_descPart m nrem p):=ja (sS _ h _ _) fun r hr=>by
 split
 ·exact AE (wq hr _ _) _ _
 ·exact AE hr _ _
theorem HE{n:Nat}{p:Array Nat}(h:Bd n p)(nrem:Nat):qu n (fun r=>Bd n r.2) (kas_count nrem p):=ja (Dt h _ _) fun m _=>by
 split
 ·exact h
 ·split
  ·exact⟨h _,h _,fun c=>by
    dsimp only
    split
    ·exact h
    ·exact pJ (wq h _ _) _ _⟩
  ·exact pJ h _ _
theorem ud{n:Nat}{p:Array Nat}(h:Bd n p)(k:Nat):∀f l r,qu n (fun _=>True) (kas_place p k f l r)
 | 0,l,r=>trivial
 | f+1,l,r=>by
  unfold kas_place
  split
  ·trivial
  ·exact⟨h _,h _,fun c=>by
    dsimp only
    split
    ·exact ud h k f _ _
    ·exact ud h k f _ _⟩
theorem IB{n:Nat}:∀ (f:Nat) {p:Array Nat}(h:Bd n p) (k:Nat),xt n (kas_bin f p k)
 | 0,p,h,k=>trivial
 | f+1,p,h,k=>mK (ud h k _ _ _) fun l _=>IB f (h.perm (bubble_perm _ _ _)) (k+1)
theorem Da{n:Nat}(h1:1<=n):xt n (kas_sort n):=by
 have h:Bd n (List.toArray (List.range n)):=fun a=>by
  rw[Array.getD_eq_getD_getElem?]
  by_cases ha:a < n
  ·simp[ha]
  ·simp[ha];omega
 refine mK (HE h n) fun r hr=>?_
 split
 ·exact IB _ hr _
 ·trivial
section
variable (z:Nat->Int)
noncomputable def Z(p:Array Nat)(a:Nat):Int:=z (p.getD a 0)
noncomputable def eu:Nat->Nat->Bool:=fun i j=>decide (z i < z j)
theorem mf{p q:Array Nat}{a b:Nat}(h:p[a]?=q[b]?):Z z p a=Z z q b:=by
 unfold Z
 rw[Array.getD_eq_getD_getElem?,Array.getD_eq_getD_getElem?,h]
theorem Ej{p:Array Nat}{i j:Nat}(hj:j<=p.size)(k:Nat):Z z (kas_rev p i j) k=if i<=k/\k < j then Z z p (i+j - 1 - k) else Z z p k:=by
 have e:=getElem?_mirror_all (xs:=p) (i:=i) hj k
 unfold kas_rev
 by_cases h1:i<=k/\k < j
 ·rw[if_pos h1] at e ⊢;exact mf z e
 ·rw[if_neg h1] at e ⊢;exact mf z e
theorem Ey{p:Array Nat}{src d:Nat}(hs:src < p.size)(hd:d<=src)(k:Nat):Z z (bubble p src d) k=if k=src - d then Z z p src else if src - d < k/\k<=src then Z z p (k - 1) else Z z p k:=by
 have e:=getElem?_bubble hs d hd k
 by_cases h1:k=src - d
 ·rw[if_pos h1] at e ⊢;exact mf z e
 ·rw[if_neg h1] at e ⊢
  by_cases h2:src - d < k/\k<=src
  ·rw[if_pos h2] at e ⊢;exact mf z e
  ·rw[if_neg h2] at e ⊢;exact mf z e
def Up(p:Array Nat)(n:Nat):Prop:=∀a b,a<=b->b < n->Z z p a<=Z z p b
def Dn(p:Array Nat)(n:Nat):Prop:=∀a b,a<=b->b < n->Z z p b<=Z z p a
variable {z}
theorem Gb{p:Array Nat}{n:Nat}(h:Up z p n)(hn:1<=n)(h1:Z z p (n - 1)<=Z z p n):Up z p (n+1):=by
 intro a b hab hb
 by_cases hbn:b < n
 ·exact h a b hab hbn
 ·have e:b=n:=by omega
  subst e
  by_cases ha:a=b
  ·subst ha;exact Int.le_refl _
  ·exact Int.le_trans (h a (b - 1) (by omega) (by omega)) h1
theorem NJ{p:Array Nat}:∀ (f n:Nat),1<=n->Up z p n->n<=run (eu z) (kas_asc p f n)/\run (eu z) (kas_asc p f n)<=n+f/\Up z p (run (eu z) (kas_asc p f n))/\(run (eu z) (kas_asc p f n) < n+f->Z z p (run (eu z) (kas_asc p f n)) < Z z p (run (eu z) (kas_asc p f n) - 1))
 | 0,n,hn,h=>⟨Nat.le_refl _,Nat.le_refl _,h,fun q=>absurd q (Nat.lt_irrefl _)⟩
 | f+1,n,hn,h=>by
  unfold kas_asc
  show n<=run (eu z) (if eu z (p.getD n 0) (p.getD (n - 1) 0)=true then .ret n else kas_asc p f (n+1))/\run (eu z) (if eu z (p.getD n 0) (p.getD (n - 1) 0)=true then .ret n else kas_asc p f (n+1))<=n+(f+1)/\Up z p (run (eu z) (if eu z (p.getD n 0) (p.getD (n - 1) 0)=true then .ret n else kas_asc p f (n+1)))/\(run (eu z) (if eu z (p.getD n 0) (p.getD (n - 1) 0)=true then .ret n else kas_asc p f (n+1)) < n+(f+1)->Z z p (run (eu z) (if eu z (p.getD n 0) (p.getD (n - 1) 0)=true then .ret n else kas_asc p f (n+1))) < Z z p (run (eu z) (if eu z (p.getD n 0) (p.getD (n - 1) 0)=true then .ret n else kas_asc p f (n+1)) - 1))
  by_cases hc:eu z (p.getD n 0) (p.getD (n - 1) 0)=true
  ·rw[if_pos hc]
   exact⟨Nat.le_refl _,Nat.le_add_right _ _,h,fun _=>of_decide_eq_true hc⟩
  ·rw[if_neg hc]
   have h1:Z z p (n - 1)<=Z z p n:=by
    have:¬ (Z z p n < Z z p (n - 1)):=fun q=>hc (yB q)
    omega
   obtain⟨a,b,c,d⟩:=NJ f (n+1) (by omega) (Gb h hn h1)
   exact⟨by omega,by omega,c,fun q=>d (by omega)⟩
theorem xP{p:Array Nat}{i j:Nat}(hj:j<=p.size)(h:∀a b,i<=a->a < j->i<=b->b < j->Z z p a=Z z p b)(k:Nat):Z z (kas_rev p i j) k=Z z p k:=by
 rw[Ej z hj]
 split
 ·rename_i hk
  exact h _ _ (by omega) (by omega) hk.1 hk.2
 ·rfl
theorem Fq{p q:Array Nat}{n:Nat}(e:∀k,Z z q k=Z z p k)(h:Dn z p n):Dn z q n:=fun a b hab hb=>by rw[e,e];exact h a b hab hb
theorem KC{p:Array Nat}{n:Nat}(hn:n<=p.size)(h:Dn z p n):Up z (kas_rev p 0 n) n:=by
 intro a b hab hb
 rw[Ej z hn,Ej z hn,if_pos ⟨Nat.zero_le _,by omega⟩,if_pos ⟨Nat.zero_le _,hb⟩]
 exact h _ _ (by omega) (by omega)
theorem lH(p:Array Nat)(i j:Nat):(kas_rev p i j).size=p.size:=mirror_size _ _ _ _
theorem mr(p:Array Nat)(i j:Nat):(kas_rev p i j).Perm p:=mirror_perm _ _ _ _
structure KI(z:Nat->Int)(p₀ p:Array Nat)(n q nrem:Nat):Prop where
 perm:p.Perm p₀
 size:p.size=p₀.size
 le:n<=nrem
 qn:q+1<=n
 dn:Dn z p n
 eq:∀a b,n - (q+1)<=a->a < n->n - (q+1)<=b->b < n->Z z p a=Z z p b
theorem Gg{p₀:Array Nat}{nrem:Nat}(hz:nrem<=p₀.size):∀ (f:Nat) (p:Array Nat) (n q:Nat),n+f<=nrem->KI z p₀ p n q nrem ->
  let r:=run (eu z) (kas_desc f p n q);KI z p₀ r.1 r.2.1 r.2.2 nrem
 | 0,p,n,q,hn,h=>h
 | f+1,p,n,q,hn,h=>by
  intro r
  have hr:r=run (eu z) (if eu z (p.getD n 0) (p.getD (n - 1) 0)=true then (if q > 0 then kas_desc f (kas_rev p (n - (q+1)) n) (n+1) 0 else kas_desc f p (n+1) 0)
   else .ask (p.getD (n - 1) 0) (p.getD n 0) fun d=>if d=true then .ret (p,n,q) else kas_desc f p (n+1) (q+1)):=rfl
  have hq:=h.qn
  by_cases hc:eu z (p.getD n 0) (p.getD (n - 1) 0)=true
  ·rw[if_pos hc] at hr
   have hlt:Z z p n < Z z p (n - 1):=of_decide_eq_true hc
   have step:∀p':Array Nat,p'.Perm p₀->p'.size=p₀.size->(∀k,Z z p' k=Z z p k)->KI z p₀ p' (n+1) 0 nrem:=fun p' a1 a2 a3=>by
    refine⟨a1,a2,by omega,by omega,fun a b hab hb=>?_,fun a b h1 h2 h3 h4=>by rw[show a=b by omega]⟩
    rw[a3,a3]
    by_cases hbn:b < n
    ·exact h.dn a b hab hbn
    ·have e:b=n:=by omega
     subst e
     by_cases ha:a=b
     ·subst ha;exact Int.le_refl _
     ·exact Int.le_trans (Int.le_of_lt hlt) (h.dn a (b - 1) (by omega) (by omega))
   by_cases hq0:q > 0
   ·rw[if_pos hq0] at hr
    rw[hr]
    exact Gg hz f _ (n+1) 0 (by omega) (step _ ((mr _ _ _).trans h.perm) (by rw[lH,h.size]) (xP (by rw[h.size];omega) h.eq))
   ·rw[if_neg hq0] at hr
    rw[hr]
    exact Gg hz f p (n+1) 0 (by omega) (step p h.perm h.size fun _=>rfl)
  ·rw[if_neg hc] at hr
   have hge:Z z p (n - 1)<=Z z p n:=by
    have:¬ (Z z p n < Z z p (n - 1)):=fun q=>hc (yB q)
    omega
   have hr':r=run (eu z) (if eu z (p.getD (n - 1) 0) (p.getD n 0)=true then .ret (p,n,q) else kas_desc f p (n+1) (q+1)):=hr
   by_cases hd:eu z (p.getD (n - 1) 0) (p.getD n 0)=true
   ·rw[if_pos hd] at hr'
    rw[hr']
    exact h
   ·rw[if_neg hd] at hr'
    rw[hr']
    have heq:Z z p n=Z z p (n - 1):=by
     have:¬ (Z z p (n - 1) < Z z p n):=fun q=>hd (yB q)
     omega
    refine Gg hz f p (n+1) (q+1) (by omega) ⟨h.perm,h.size,by omega,by omega,fun a b hab hb=>?_,fun a b h1 h2 h3 h4=>?_⟩
    ·by_cases hbn:b < n
     ·exact h.dn a b hab hbn
     ·have e:b=n:=by omega
      subst e
      by_cases ha:a=b
      ·subst ha;exact Int.le_refl _
      ·rw[heq];exact h.dn a (b - 1) (by omega) (by omega)
    ·have key:∀c,n+1 - (q+1+1)<=c->c < n+1->Z z p c=Z z p (n - 1):=fun c c1 c2=>by
      by_cases hcn:c < n
      ·exact h.eq c (n - 1) (by omega) hcn (by omega) (by omega)
      ·have e:c=n:=by omega
       subst e;exact heq
     rw[key a h1 h2,key b h3 h4]
structure Nd(z:Nat->Int)(p₀:Array Nat)(nrem:Nat)(r:Nat×Array Nat):Prop where
 perm:r.2.Perm p₀
 size:r.2.size=p₀.size
 ge:1<=r.1
 le:r.1<=nrem
 up:Up z r.2 r.1
theorem tail3{p₀ p:Array Nat}{n nrem:Nat}(hz:nrem<=p₀.size)(h1:1<=n)(hn:n<=nrem)(hp:p.Perm p₀)(hs:p.size=p₀.size)(hd:Dn z p n):Nd z p₀ nrem (run (eu z) (kas_tail3 n nrem p)):=by
 unfold kas_tail3
 rw[ik]
 obtain⟨a,b,c,_⟩:=NJ (nrem - n) n h1 (KC (by omega) hd)
 exact⟨(mr _ _ _).trans hp,by show (kas_rev p 0 n).size=_;rw[lH,hs],by show 1<=run _ (kas_asc _ _ _);omega,by show run _ (kas_asc _ _ _)<=nrem;omega,c⟩
theorem descPart{p₀ p:Array Nat}{n nrem:Nat}(hz:nrem<=p₀.size)(h1:1<=n)(hn:n < nrem)(hp:p.Perm p₀)(hs:p.size=p₀.size)(hd:Dn z p n)(hlt:Z z p n<=Z z p (n - 1)):Nd z p₀ nrem (run (eu z) (kas_descPart n nrem p)):=by
 unfold kas_descPart
 rw[ik]
 have D:=Gg (z:=z) hz (nrem - (n+1)) p (n+1) 0 (by omega) ⟨hp,hs,by omega,by omega,fun a b hab hb=>by
  by_cases hbn:b < n
  ·exact hd a b hab hbn
  ·have e:b=n:=by omega
   subst e
   by_cases ha:a=b
   ·subst ha;exact Int.le_refl _
   ·exact Int.le_trans hlt (hd a (b - 1) (by omega) (by omega)),fun a b h1 h2 h3 h4=>by rw[show a=b by omega]⟩
 dsimp only at D
 generalize run (eu z) (kas_desc (nrem - (n+1)) p (n+1) 0)=r at D
 have hq:=D.qn
 split
 ·exact tail3 hz (by omega) D.le ((mr _ _ _).trans D.perm) (by rw[lH,D.size]) (Fq (xP (by have:=D.size;have:=D.le;omega) D.eq) D.dn)
 ·exact tail3 hz (by omega) D.le D.perm D.size D.dn
theorem count{p:Array Nat}{nrem:Nat}(hz:nrem<=p.size)(h1:1<=nrem):Nd z p nrem (run (eu z) (kas_count nrem p)):=by
 unfold kas_count
 rw[ik]
 obtain⟨a,b,c,d⟩:=NJ (z:=z) (p:=p) (nrem - 1) 1 (Nat.le_refl _) (fun x y hxy hy=>by rw[show x=y by omega];exact Int.le_refl _)
 generalize run (eu z) (kas_asc p (nrem - 1) 1)=n at a b c d
 split
 ·exact⟨Array.Perm.refl _,rfl,a,by show n<=nrem;omega,c⟩
 ·rename_i hne
  have hlt:n < nrem:=by
   have:n≠nrem:=fun e=>hne (by simp[e])
   omega
  have hd:=d (by omega)
  split
  ·rename_i hn1
   show Nd z p nrem (run (eu z) (if eu z (p.getD 0 0) (p.getD (n - 1) 0)=true then .ret (n,p) else kas_descPart n nrem (kas_rev p 0 n)))
   by_cases hc:eu z (p.getD 0 0) (p.getD (n - 1) 0)=true
   ·rw[if_pos hc]
    exact⟨Array.Perm.refl _,rfl,a,by show n<=nrem;omega,c⟩
   ·rw[if_neg hc]
    have hge:Z z p (n - 1)<=Z z p 0:=by
     have:¬ (Z z p 0 < Z z p (n - 1)):=fun q=>hc (yB q)
     omega
    have all:∀x,x < n->Z z p x=Z z p 0:=fun x hx=>by
     have e1:=c 0 x (Nat.zero_le _) hx
     have e2:=c x (n - 1) (by omega) (by omega)
     omega
    have same:=xP (z:=z) (p:=p) (i:=0) (j:=n) (by omega) fun x y _ hx _ hy=>by rw[all x hx,all y hy]
    refine descPart hz (by omega) hlt (mr _ _ _) (by rw[lH]) (fun x y hxy hy=>?_) ?_
    ·rw[same,same,all x (by omega),all y hy];exact Int.le_refl _
    ·rw[same,same];omega
  ·exact descPart hz (by omega) hlt (Array.Perm.refl _) rfl (fun x y hxy hy=>by rw[show x=y by omega];exact Int.le_refl _) (by omega)
theorem place{p:Array Nat}{k:Nat}(hu:Up z p k):∀ (f l r:Nat),r - l<=f->l<=r->r<=k->(∀a,a < l->Z z p a<=Z z p k)->(∀a,r<=a->a < k->Z z p k<=Z z p a) ->
  let m:=run (eu z) (kas_place p k f l r);m<=k/\(∀a,a < m->Z z p a<=Z z p k)/\(∀a,m<=a->a < k->Z z p k<=Z z p a)
 | 0,l,r,hf,hl,hr,h1,h2=>by
  intro m
  have e:l=r:=by omega
  subst e
  exact⟨hr,h1,h2⟩
 | f+1,l,r,hf,hl,hr,h1,h2=>by
  intro m
  have hm:m=run (eu z) (if l >= r then .ret l else .ask (p.getD k 0) (p.getD ((l+r) / 2) 0) fun c=>if c=true then kas_place p k f l ((l+r) / 2) else kas_place p k f ((l+r) / 2+1) r):=rfl
  by_cases hlr:l >= r
  ·rw[if_pos hlr] at hm
   rw[hm]
   have e:l=r:=by omega
   subst e
   exact⟨hr,h1,h2⟩
  ·rw[if_neg hlr] at hm
   have hm':m=run (eu z) (if eu z (p.getD k 0) (p.getD ((l+r) / 2) 0)=true then kas_place p k f l ((l+r) / 2) else kas_place p k f ((l+r) / 2+1) r):=hm
   by_cases hc:eu z (p.getD k 0) (p.getD ((l+r) / 2) 0)=true
   ·rw[if_pos hc] at hm'
    rw[hm']
    have hlt:Z z p k < Z z p ((l+r) / 2):=of_decide_eq_true hc
    exact place hu f l ((l+r) / 2) (by omega) (by omega) (by omega) h1 fun a ha hak=>Int.le_trans (Int.le_of_lt hlt) (hu _ a ha hak)
   ·rw[if_neg hc] at hm'
    rw[hm']
    have hge:Z z p ((l+r) / 2)<=Z z p k:=by
     have:¬ (Z z p k < Z z p ((l+r) / 2)):=fun q=>hc (yB q)
     omega
    exact place hu f ((l+r) / 2+1) r (by omega) (by omega) hr (fun a ha=>Int.le_trans (hu a ((l+r) / 2) (by omega) (by omega)) hge) h2
theorem bin{p₀:Array Nat}:∀ (f:Nat) (p:Array Nat) (k:Nat),p.Perm p₀->p.size=p₀.size->k+f<=p₀.size->Up z p k ->
  (run (eu z) (kas_bin f p k)).Perm p₀/\(run (eu z) (kas_bin f p k)).size=p₀.size/\Up z (run (eu z) (kas_bin f p k)) (k+f)
 | 0,p,k,hp,hs,hk,hu=>⟨hp,hs,hu⟩
 | f+1,p,k,hp,hs,hk,hu=>by
  unfold kas_bin
  rw[ik]
  have P:=place hu k 0 k (by omega) (by omega) (Nat.le_refl _) (fun a ha=>absurd ha (Nat.not_lt_zero _)) fun a ha hak=>absurd ha (by omega)
  dsimp only at P
  generalize run (eu z) (kas_place p k k 0 k)=l at P
  obtain⟨p1,p2,p3⟩:=P
  have zb:=Ey z (p:=p) (src:=k) (d:=k - l) (by omega) (by omega)
  have e:k - (k - l)=l:=by omega
  rw[e] at zb
  obtain⟨q1,q2,q3⟩:=bin f (bubble p k (k - l)) (k+1) ((bubble_perm _ _ _).trans hp) (by rw[bubble_size,hs]) (by omega) fun a b hab hb=>by
   rw[zb,zb]
   by_cases ha1:a=l
   ·rw[if_pos ha1]
    by_cases hb1:b=l
    ·rw[if_pos hb1];exact Int.le_refl _
    ·rw[if_neg hb1]
     rw[if_pos (by omega)]
     exact p3 _ (by omega) (by omega)
   ·rw[if_neg ha1]
    by_cases hb1:b=l
    ·rw[if_pos hb1,if_neg (by omega)]
     exact p2 a (by omega)
    ·rw[if_neg hb1]
     by_cases ha2:l < a/\a<=k
     ·rw[if_pos ha2,if_pos (by omega)]
      exact hu _ _ (by omega) (by omega)
     ·rw[if_neg ha2]
      by_cases hb2:l < b/\b<=k
      ·rw[if_pos hb2]
       exact hu _ _ (by omega) (by omega)
      ·rw[if_neg hb2]
       exact hu _ _ hab (by omega)
  exact⟨q1,q2,by rw[show k+(f+1)=k+1+f by omega];exact q3⟩
theorem gN{n:Nat}(h1:1<=n):(run (eu z) (kas_sort n)).toList.Perm (List.range n)/\((run (eu z) (kas_sort n)).toList.map z).Pairwise (·<=·):=by
 have hsz:(List.toArray (List.range n)).size=n:=by simp
 have C:=count (z:=z) (p:=List.toArray (List.range n)) (nrem:=n) (by omega) h1
 have fin:∀p:Array Nat,p.Perm (List.toArray (List.range n))->p.size=n->Up z p n->p.toList.Perm (List.range n)/\(p.toList.map z).Pairwise (·<=·):=fun p a b c=>by
  refine⟨by have:=a.toList;simpa using this,?_⟩
  rw[List.pairwise_iff_getElem]
  intro i j hi hj hij
  have hi':i < n:=by simpa [b] using hi
  have hj':j < n:=by simpa [b] using hj
  have:=c i j (Nat.le_of_lt hij) hj'
  unfold Z at this
  have e1:p.getD i 0=p[i]:=by simp[Array.getD,b,hi']
  have e2:p.getD j 0=p[j]:=by simp[Array.getD,b,hj']
  rw[e1,e2] at this
  simpa using this
 unfold kas_sort
 rw[ik]
 generalize run (eu z) (kas_count n (List.toArray (List.range n)))=r at C
 obtain⟨k,p⟩:=r
 have hs:=C.size
 rw[hsz] at hs
 split
 ·rename_i hlt
  have hge:=C.ge
  have e:max k 1=k:=by have:1<=k:=hge;omega
  rw[e]
  obtain⟨q1,q2,q3⟩:=bin (z:=z) (n - k) p k C.perm C.size (by rw[hsz];have:k < n:=hlt;omega) C.up
  refine fin _ q1 (by rw[q2,hsz]) ?_
  rw[show k+(n - k)=n by have:k < n:=hlt;omega] at q3
  exact q3
 ·rename_i hnlt
  have hle:=C.le
  have e:k=n:=by have h3:k<=n:=hle;have h4:¬ k < n:=hnlt;omega
  subst e
  exact fin p C.perm hs C.up
end
end SP
namespace Srt
open PySem PySem.W PySem.Calls PyProof.Rows
noncomputable def outV(z:Nat->Int)(vs:List Value):List Value:=if vs.length < 2 then vs else (SP.run (SP.eu z) (kas_sort vs.length)).toList.map fun i=>vs.getD i Value.none
theorem outV_len(z:Nat->Int)(vs:List Value):(outV z vs).length=vs.length:=by
 unfold outV
 split
 ·rfl
 ·rename_i h
  have:=(SP.gN (z:=z) (n:=vs.length) (by omega)).1.length_eq
  simpa using this
section
variable {prog:Program}{w:World}{A:Around}{E:Value->Shared->Prop}{s:Shared}
theorem list_sortG{a:Addr}{vs:List Value}{n:Nat}{P:PySem.Fin->Shared->Prop}(ho:s.heap.get? a=some (seqObj "list" vs.toArray n))(h64:vs.length < 64)(z:Nat->Int)(κ:SortKind)
  (hk:2<=vs.length->∀h':Heap,(∀b o,b≠a->s.heap.get? b=some o->h'.get? b=some o)->∀Q':SortKind->Shared->Prop,Q' κ { s with heap:=h' }->wpAny (model prog w) A (keyKind' vs.toArray) Q' (fun _ _=>False) { s with heap:=h' })
  (hlt:2<=vs.length->∀h':Heap,(∀b o,b≠a->s.heap.get? b=some o->h'.get? b=some o)->∀i j C,i < vs.length->j < vs.length->C (SP.eu z i j) { s with heap:=h' }->kas_ask prog w A κ vs i j C { s with heap:=h' })
  (h:∀ (h':Heap) (c:Nat),(∀b o,b≠a->s.heap.get? b=some o->h'.get? b=some o)->h'.get? a=some (seqObj "list" (outV z vs).toArray c)->P (.done (.ret .none)) { s with heap:=h' }) :
  wpAny (model prog w) A (Builtin.«list.sort» ⟨[.ref a],[]⟩) P E s:=by
 rw[list_sort_plain]
 have ha:a < s.heap.objs.size:=zZ ho
 have hsl:vs.length<=sizeLine:=by rw[sizeLine_eq];omega
 refine zW (listItems_at ho rfl (zW (listUpdate_at ho rfl ?_ (by simpa using hsl) (Nat.zero_le _))))
 obtain⟨e1,ho1⟩:∃e,(s.heap.update a (Obj.mapSeq fun _=>(#[]:Array Value))).get? a=some (seqObj "list" #[] e):=⟨_,get?_update_seq ho fun _=>#[]⟩
 have kp1:∀b o,b≠a->s.heap.get? b=some o->(s.heap.update a (Obj.mapSeq fun _=>(#[]:Array Value))).get? b=some o:=fun b o hb e=>(Heap.get?_update_other _ _ (Ne.symm hb)).trans e
 refine zW (seqEpoch_at ho1 rfl (zW (wpAny_newTuple ?_ (by simpa using hsl))))
 refine zW (wpAny_newList (wpAny_holding ?_) (Nat.zero_le _))
 have ho3:(((s.heap.update a (Obj.mapSeq fun _=>(#[]:Array Value))).push (seqObj "tuple" vs.toArray 0)).push (seqObj "list" #[] 0)).get? a=some (seqObj "list" #[] e1):=zV _ (zV _ ho1)
 have kp3:∀b o,b≠a->s.heap.get? b=some o->(((s.heap.update a (Obj.mapSeq fun _=>(#[]:Array Value))).push (seqObj "tuple" vs.toArray 0)).push (seqObj "list" #[] 0)).get? b=some o:=fun b o hb e=>zV _ (zV _ (kp1 b o hb e))
 show wpAny _ A _ P E { s with heap:=((s.heap.update a (Obj.mapSeq fun _=>(#[]:Array Value))).push (seqObj "tuple" vs.toArray 0)).push (seqObj "list" #[] 0) }
 generalize ((s.heap.update a (Obj.mapSeq fun _=>(#[]:Array Value))).push (seqObj "tuple" vs.toArray 0)).push (seqObj "list" #[] 0)=h3 at ho3 kp3
 clear ho1 kp1
 dsimp only
 have fin:∀st':SortSt,(arrOf st').map (·.2)=(outV z vs).toArray->failedOf st'=none ->
   wpAny (model prog w) A (do
    let sorted:=(arrOf st').map (·.2)
    let touched:=(<- seqEpoch a) != e1
    Builtin.List.listUpdate (.ref a) fun _=>sorted
    if let some e:=failedOf st' then rule "list.sort.comparison-raised";throw e
    if touched then rule "list.sort.modified";raiseError "ValueError" "list modified during sort"
    ret .none) P E { s with heap:=h3 }:=fun st' h1 h2=>by
  dsimp only
  rw[h1,h2]
  refine zW (seqEpoch_at ho3 rfl ?_)
  refine zW (listUpdate_at ho3 rfl ?_ (Nat.zero_le _) (by show (outV z vs).toArray.size<=_;rw[zH,outV_len];omega))
  obtain⟨c,hc⟩:∃c,(h3.update a (Obj.mapSeq fun _=>(outV z vs).toArray)).get? a=some (seqObj "list" (outV z vs).toArray c):=⟨_,get?_update_seq ho3 fun _=>(outV z vs).toArray⟩
  have q:=h _ c (fun b o hb e=>(Heap.get?_update_other _ _ (Ne.symm hb)).trans (kp3 b o hb e)) hc
  simp only[bne_self_eq_false,Bool.false_eq_true,if_false]
  exact zX q
 by_cases h2:vs.toArray.size < 2
 ·rw[if_pos h2,if_pos h2]
  refine zW (zX ?_)
  rw[StateT.run_pure]
  refine zW (zX (fin _ ?_ rfl))
  have h2':vs.length < 2:=by simpa using h2
  unfold outV
  rw[if_pos h2']
  show ((vs.toArray.zip vs.toArray).map (·.2))=vs.toArray
  apply Array.toList_inj.mp
  simp only[Array.toList_map,Array.toList_zip]
  exact List.map_snd_zip (Nat.le_refl _)
 ·rw[if_neg h2,if_neg h2]
  have h2':2<=vs.length:=by
   have:¬ vs.length < 2:=by simpa using h2
   omega
  refine zW (wpAny_mono (hk h2' h3 kp3 (fun κ' s'=>κ'=κ/\s'={ s with heap:=h3 }) ⟨rfl,rfl⟩) (fun κ' s' hs=>?_) fun _ _ x=>x.elim)
  obtain⟨rfl,rfl⟩:=hs
  refine zW (wpAny_mono (kat_run (Q:=fun st' s'=>s'={ s with heap:=h3 }/\(arrOf st').map (·.2)=(outV z vs).toArray/\failedOf st'=none) (G:=fun p s'=>s'={ s with heap:=h3 }/\p=SP.run (SP.eu z) (kas_sort vs.length))
   rfl h2' h64 (fun p st' s' a1 a2 a3 a4=>⟨a4.1,?_,a3⟩) (SP.wp_run (hlt h2' h3 kp3) (kas_sort vs.length) (SP.Da (by omega)) ⟨rfl,rfl⟩)) ?_ fun _ _ e=>e)
  ·rw[kat_snds rfl a2,a4.2]
   unfold outV
   rw[if_neg (by omega)]
  ·rintro⟨⟨⟩,st'⟩ s' ⟨hs,h4,h5⟩
   subst hs
   exact fin st' h4 h5
theorem sortedG{l:Addr}{vs:List Value}{Q:Value->Shared->Prop}(hl:s.heap.IsList l vs.toArray)(h64:vs.length < 64)(z:Nat->Int)(κ:SortKind)
  (hk:2<=vs.length->∀h':Heap,(∀b o,s.heap.get? b=some o->h'.get? b=some o)->∀Q':SortKind->Shared->Prop,Q' κ { s with heap:=h' }->wpAny (model prog w) A.in1.in1 (keyKind' vs.toArray) Q' (fun _ _=>False) { s with heap:=h' })
  (hlt:2<=vs.length->∀h':Heap,(∀b o,s.heap.get? b=some o->h'.get? b=some o)->∀i j C,i < vs.length->j < vs.length->C (SP.eu z i j) { s with heap:=h' }->kas_ask prog w A.in1.in1 κ vs i j C { s with heap:=h' })
  (h:∀ (h':Heap) (D:Addr) (c:Nat),(∀b o,s.heap.get? b=some o->h'.get? b=some o)->s.heap.objs.size<=D->h'.get? D=some (seqObj "list" (outV z vs).toArray c)->Q (.ref D) { s with heap:=h' }) :
  wpAny (model prog w) A (call (.builtin "sorted") [.ref l]) Q E s:=by
 have hsl:vs.length<=sizeLine:=by rw[sizeLine_eq];omega
 refine Calls.call_function_entry kind_sorted plain_sorted entry_sorted (args_sorted1 _) ?_
 unfold Builtin.«sorted»
 refine zW (m:=checkCount "sorted" 1 1 _) (zX (zW (collect_list hl ?_ hsl)))
 refine zW (wpAny_newList ?_ (by simpa using hsl))
 have hsz:((s.heap.push (seqObj "list" #[] 0)).update s.heap.objs.size (Obj.mapSeq (·++vs.toArray))).objs.size=s.heap.objs.size+1:=by rw[Heap.size_update,size_push']
 have kp:∀b o,s.heap.get? b=some o->(((s.heap.push (seqObj "list" #[] 0)).update s.heap.objs.size (Obj.mapSeq (·++vs.toArray))).push (seqObj "list" vs.toArray 0)).get? b=some o:=fun b o e =>
  zV _ ((Heap.get?_update_other _ _ (Nat.ne_of_gt (zZ e))).trans (zV _ e))
 have hoD:(((s.heap.push (seqObj "list" #[] 0)).update s.heap.objs.size (Obj.mapSeq (·++vs.toArray))).push (seqObj "list" vs.toArray 0)).get? (s.heap.objs.size+1)=some (seqObj "list" vs.toArray 0):=by
  rw[<- hsz];exact zY _ rfl
 show wpAny _ _ _ _ _ { s with heap:=((s.heap.push (seqObj "list" #[] 0)).update s.heap.objs.size (Obj.mapSeq (·++vs.toArray))).push (seqObj "list" vs.toArray 0) }
 rw[hsz]
 generalize ((s.heap.push (seqObj "list" #[] 0)).update s.heap.objs.size (Obj.mapSeq (·++vs.toArray))).push (seqObj "list" vs.toArray 0)=h1 at kp hoD
 have kk:∀h':Heap,(∀b o,b≠s.heap.objs.size+1->h1.get? b=some o->h'.get? b=some o)->∀b o,s.heap.get? b=some o->h'.get? b=some o:=fun h' q b o e=>q b o (Nat.ne_of_lt (Nat.lt_succ_of_lt (zZ e))) (kp b o e)
 refine zW (wpAny_holding (wpAny_call_entry slot_list_sort ⟨_,hoD,rfl⟩ entry_list_sort (list_sortG hoD h64 z κ (fun a h' q=>hk a h' (kk h' q)) (fun a h' q=>hlt a h' (kk h' q)) fun h' c q e=>⟨_,rfl,?_⟩) (args_list_sort _)))
 exact zX ⟨_,rfl,h h' _ c (kk h' q) (by omega) e⟩
end
end Srt
namespace Dl
open PySem L2 PySem.Spec PyProof.Rows
section
variable {X:Cx}{HF₀ H₀:Hp}{e e2:Expr}{es:List Expr}{pos apos cpos px p:Pos}{x:Str}{fs:Env->Option (List D)}
noncomputable def Cn(i:Nat)(fz:List Nat)(f:Env->Option (List D)):aj->Option Out:=fun ρ=>(f (cf (hand fz 0 ρ))).bind fun us=>oe i (fun ds=>if ds.length+us.length<=sizeLine then some (ds++us) else none) (hand fz 0 ρ)
theorem A3(i:Nat)(fz:List Nat){f:Env->Option (List D)}(hN:X.N[i]?=some x)(hv:IG X.env.scope x)(h:DF X e f)(hd:(x == ("__debug__":Str))=false:=by decide)(hcd:(x == ("__classdict__":Str))=false:=by decide)
  (hfew:((backTo cpos (starEach [e] X.env)).all (fun x=>!x.1)&&(backToKw cpos (keywordEach [] X.env)).all (fun x=>x.1.isSome)&&decide ([e].length+([]:List Keyword).length+(if ([]:List Keyword).isEmpty then 0 else 1) < 30))=true:=by rfl)
  (hline:(apos.endLine == cpos.line)=true:=by rfl) (hs:starEach [e] X.env=(false,eval e X.env)::starEach [] X.env:=by rfl) :
  DS X HF₀ H₀ (.Expr (.Call (.Attribute (.Name x px) "extend" apos) [e] [] cpos) pos) (Cn i fz f) :=
 dW (ow (rS PySem.F.plainAttrs_list PySem.F.slot_list_extend PySem.F.type_list_extend Bp (qf hN hv hd hcd) (dw h hJ hs) rfl hfew hline hs rfl)) fun E σ H ⟨HF,ρ,o,S,hg,q⟩=>by
  obtain⟨us,h1,hg⟩:=bs hg
  obtain⟨ds,es,h2,h3,rfl⟩:=kl hg
  obtain⟨HF1,s1,S1⟩:=S.hand fz
  obtain⟨a,vs,e1,e2,e3,e5,e4⟩:=S1.own i ds h2
  refine⟨.ref a,e1,.inl ⟨rfl,vs,iJ.of e2⟩,HF1,_,us,S1.gr.fh,S1.frz,h1,fun b ws H' HF' G hb hf h' r=>?_⟩
  have S2:=S1.grow G
  obtain⟨a',vs',f1,f2,f3,f5,f4⟩:=S2.own i ds h2
  rw[e1] at f1;cases f1
  split at h3
  ·rename_i hz
   cases h3
   exact⟨a,b,vs',ws,rfl,rfl,f2,h',by rw[f4.length,r.length];exact hz,q σ _ HF' (S2.mut h2 e1 f2 (f4.append r)) (s1.trans G.ff)⟩
  ·cases h3
noncomputable def AW(ds:List D)(k:Int)(d:D):List D:=let j:=if k < 0 then (k+(ds.length:Int)).toNat else min k.toNat ds.length;ds.take j++d::ds.drop j
noncomputable def Hc:V->List V->Hp->VK->Prop:=fun x vs H Q=>∃l xs k y,x=.ref l/\vs=[.int k,y]/\H l=some (.lst xs)/\xs.length < sizeLine/\-(2 ^ 62)<=k/\k < 2 ^ 62 /\
 Q .non (upd H l (.lst (xs.take (if k < 0 then (k+(xs.length:Int)).toNat else min k.toNat xs.length)++y::xs.drop (if k < 0 then (k+(xs.length:Int)).toNat else min k.toNat xs.length))))
theorem BB:LF X "list.insert" Hc:=by
 intro pins s σ H x vs v us Q I rx rv h
 obtain⟨l,xs,k,y,rfl,rfl,hH,hz,k1,k2,q⟩:=h
 cases rx
 obtain⟨u1,u2,rfl,⟨t,rfl⟩,ru⟩:=L2.aF.two rv
 obtain⟨z,its,n,r,hl,e⟩:=I.lstM hH
 have hfit:¬(!Builtin.List.listFitsIndex k)=true:=by
  have:Builtin.List.listFitsIndex k=true:=by
   unfold Builtin.List.listFitsIndex
   simp only[zF,zJ]
   omega
  rw[this];simp
 refine call_meets F.slot_list_insert ⟨_,e,rfl⟩ F.entry_list_insert (F.args_list_insert_3 _ _ _) (AutoListH.list_insert_list_int_val_1 l its.toArray n k t u2 hfit (by rw[zH];omega)) ⟨e,?_⟩
 have hlen:its.length=xs.length:=hl.symm
 refine⟨.non,_,I.lset (its':=its.take (if k < 0 then (k+(xs.length:Int)).toNat else min k.toNat xs.length)++u2::its.drop (if k < 0 then (k+(xs.length:Int)).toNat else min k.toNat xs.length)) hH e ?_ ((r.take _).append (.cons ru (r.drop _))) ?_,rfl,q⟩
 ·dsimp only
  rw[zH,hlen]
  apply Array.toList_inj.mp
  simp
  exact List.take_of_length_le (by rw[List.length_drop,hlen];exact Nat.le_refl _)
 ·rw[zN,zL,List.length_take,List.length_drop]
  omega
noncomputable def C4(i:Nat)(fz:List Nat)(fk f:Env->Option D):aj->Option Out:=fun ρ=>(fk (bg ρ)).bind fun kd=>match kd with
 | .int k=>(kK fz f ρ).bind fun p=>oe i (fun ds=>if xq k=true/\ds.length < sizeLine then some (AW ds k p.1) else none) p.2
 | _=>none
theorem BA(i:Nat)(fz:List Nat){fk f:Env->Option D}(hN:X.N[i]?=some x)(hv:IG X.env.scope x)(hk:DE X e fk)(h:DE X e2 f)(hd:(x == ("__debug__":Str))=false:=by decide)(hcd:(x == ("__classdict__":Str))=false:=by decide)
  (hfew:((backTo cpos (starEach [e,e2] X.env)).all (fun x=>!x.1)&&(backToKw cpos (keywordEach [] X.env)).all (fun x=>x.1.isSome)&&decide ([e,e2].length+([]:List Keyword).length+(if ([]:List Keyword).isEmpty then 0 else 1) < 30))=true:=by rfl)
  (hline:(apos.endLine == cpos.line)=true:=by rfl) (hs:starEach [e,e2] X.env=(false,eval e X.env)::starEach [e2] X.env:=by rfl) (hs2:starEach [e2] X.env=(false,eval e2 X.env)::starEach [] X.env:=by rfl) :
  DS X HF₀ H₀ (.Expr (.Call (.Attribute (.Name x px) "insert" apos) [e,e2] [] cpos) pos) (C4 i fz fk f) :=
 dW (ow (rS PySem.F.plainAttrs_list PySem.F.slot_list_insert PySem.F.type_list_insert BB (qf hN hv hd hcd) (dw hk (dw h hJ hs2) hs) rfl hfew hline hs (by rw[hs2];rfl))) fun E σ H ⟨HF,ρ,o,S,hg,q⟩=>by
  obtain⟨kd,hkd,hg⟩:=bs hg
  cases kd<;>try cases hg
  rename_i k
  obtain⟨⟨d,ρ'⟩,h1,hg⟩:=bs hg
  obtain⟨ds,es,h2,h3,rfl⟩:=kl hg
  have hown:∃ds',ρ[i]?=some (.own ds'):=by
   obtain⟨d1,_,h1⟩:=bs h1
   split at h1
   ·cases h1;exact⟨ds,h2⟩
   ·obtain⟨d2,_,h1⟩:=ag h1
    cases h1
    rw[ip] at h2
    obtain⟨s,hs,h2⟩:=ag h2
    cases s with
    | non=>split at h2<;>cases h2
    | val _=>split at h2<;>cases h2
    | own xs=>exact⟨xs,hs⟩
  obtain⟨ds',hown⟩:=hown
  obtain⟨a,vs,e1,e2,e3,e5,e4⟩:=S.own i ds' hown
  refine⟨.ref a,e1,.inl ⟨rfl,vs,iJ.of e2⟩,H,bg ρ,_,.refl _,S.all,hkd,fun vk Hk HFk Gk rk=>?_⟩
  simp only[Rep] at rk
  subst rk
  refine mP (S.step Gk.hh) h1 fun v H' HF' s1 S' sh r=>?_
  obtain⟨a',vs',f1,f2,f3,f5,f4⟩:=S'.own i ds h2
  rw[e1] at f1;cases f1
  split at h3
  ·rename_i hz
   cases h3
   have ok:=hz.1
   unfold xq at ok
   rw[zF] at ok
   refine⟨a,vs',k,v,rfl,rfl,f2,by rw[f4.length];exact hz.2,of_decide_eq_true ok.1,of_decide_eq_true ok.2,q σ _ HF' (S'.mut h2 e1 f2 ?_) s1⟩
   unfold AW
   rw[f4.length]
   exact (f4.take _).append (av.cons r (f4.drop _))
  ·cases h3
noncomputable def jo:D->D->Option (List D)
 | .list xs,.list ys=>small (xs++ys)
 | _,_=>none
def D7(K:W.Frag):R2:=fun x y H Q=>∃a b xs ys,x=.ref a/\y=.ref b/\iJ K H a xs/\iJ K H b ys/\xs.length+ys.length<=sizeLine/\∀p,H p=none->Q (.ref p) (upd H p (.lst (xs++ys)))
theorem vA:ij X (binaryOp .Add) (D7 X.K):=by
 intro pins s σ H x y v u Q I rx ry h
 obtain⟨a,b,xs,ys,rfl,rfl,ha,hb,hz,q⟩:=h
 cases rx
 cases ry
 obtain⟨its,r1,p1,_⟩:=I.list ha
 obtain⟨its2,r2,p2,_⟩:=I.list hb
 obtain⟨⟨cls,dd,data,sl⟩,ho,hc,n,hd⟩:=id p1.isList
 obtain⟨⟨cls2,dd2,data2,sl2⟩,ho2,hc2,n2,hd2⟩:=id p2.isList
 simp only at hc hd hc2 hd2
 subst hc hd hc2 hd2
 refine concat_meets ⟨_,ho,rfl⟩ ⟨_,ho2,rfl⟩ noFill_list_add seq_list_add PySem.F.slot_list_add PySem.F.entry_list_add (PySem.F.args_list_add_2 _ _) (list_addW a b its.toArray its2.toArray n n2 dd dd2 sl sl2 (by rw[zH,zH,<- r1.length,<- r2.length];exact hz)) ⟨ho,ho2,?_⟩
 have e:its.toArray++its2.toArray=(its++its2).toArray:=by simp
 rw[e]
 exact⟨.ref s.heap.objs.size,_,I.lnew (t':=s.toks) (r1.append r2) (by rw[zN];exact hz),rfl,q _ I.fresh⟩
noncomputable def IS(g:D->D->Option (List D))(f1 f2:Env->Option D):Env->Option (List D):=fun ρ=>(f1 ρ).bind fun x=>(f2 ρ).bind fun y=>g x y
theorem JK{a b:Expr}{fa fb:Env->Option D}(ha:DE X a fa)(hb:DE X b fb):DF X (.BinOp a .Add b pos) (IS jo fa fb):=aR (FA vA ha hb) fun σ H Q ⟨HF,ρ,d,sm,eo,hf,q⟩=>by
 obtain⟨x,hx,hf⟩:=bs hf
 obtain⟨y,hy,hg⟩:=bs hf
 refine⟨HF,ρ,x,sm,eo,hx,fun v1 H1 HF1 g1 r1=>⟨HF1,ρ,y,g1.fh,eo.mono g1.ff,hy,fun v2 H2 HF2 g2 r2=>?_⟩⟩
 have r1:=r1.mono g2.ff
 cases x<;>cases y<;>simp only[jo] at hg<;>try cases hg
 rename_i xs ys
 obtain⟨rfl,hz⟩:=eD hg
 simp only[Rep] at r1 r2
 obtain⟨a,vs,rfl,ha,ra⟩:=r1
 obtain⟨b,us,rfl,hb,rb⟩:=r2
 have G:=g1.trans g2
 exact⟨a,b,vs,us,rfl,rfl,g2.fh.seq ha,g2.fh.seq hb,by rw[ra.length,rb.length,<- zN];exact hz,fun p hp=>q p _ _ HF2 (G.trans (.own G.fh hp)) (G.hh.free hp) (G.fh.free hp) aK (ra.append rb)⟩
noncomputable def boolsOf:List D->Option (List Bool)
 | []=>some []
 | .bool b::r=>(boolsOf r).map (b::·)
 | _::_=>none
theorem iT:∀ {ds:List D}{bs:List Bool},boolsOf ds=some bs->ds=bs.map PyData.bool
 | [],bs,h=>by cases h;rfl
 | d::r,bs,h=>by
  cases d<;>simp only[boolsOf] at h<;>try cases h
  obtain⟨bs',h1,rfl⟩:=ag h
  rw[iT h1]
  rfl
theorem kZ{K:W.Frag}{H:Hp}:∀ {bs:List Bool}{vs:List V},av K H (bs.map PyData.bool) vs->vs=bs.map V.bl
 | [],vs,h=>h.nil_inv
 | b::bs,vs,h=>by
  obtain⟨v,r,rfl,a,c⟩:=h.cons_inv
  simp only[Rep] at a
  rw[a,kZ c]
  rfl
theorem lj:∀ {bs:List Bool}{us:List Value},aF (bs.map V.bl) us->us=bs.map Value.bool
 | [],us,h=>by cases h;rfl
 | b::bs,us,h=>by
  cases h with
  | cons r rr=>cases r;rw[lj rr];rfl
theorem range_all(bs:List Bool):(List.range bs.length).all (fun i=>bs.getD i false)=bs.all id:=by
 induction bs with
 | nil=>rfl
 | cons b bs ih=>rw[zL,List.range_succ_eq_map,List.all_cons,List.all_map,List.all_cons];simpa [Function.comp_def] using congrArg (b&&·) ih
theorem range_any(bs:List Bool):(List.range bs.length).any (fun i=>bs.getD i false)=bs.any id:=by
 induction bs with
 | nil=>rfl
 | cons b bs ih=>rw[zL,List.range_succ_eq_map,List.any_cons,List.any_map,List.any_cons];simpa [Function.comp_def] using congrArg (b||·) ih
theorem yP(hc:X.calm=true):d6 X (.builtin "all") (fun xs H Q=>∃ (a:Addr) (bs:List Bool),xs=[.ref a]/\iJ X.K H a (bs.map V.bl)/\Q (.bl (bs.all id)) H):=by
 intro pins s σ H xs us Q I r h
 obtain⟨a,bs,rfl,hq,q⟩:=h
 obtain⟨u,rfl,rx⟩:=vals1 r
 cases rx
 obtain⟨its,rv,pl,hz⟩:=I.list hq
 have hv:=lj rv
 subst hv
 have hh:X.A.in1.handled=none:=I.ok.hd hc
 refine call_all_walk (wpAny_pyIter_list pl.isList ?_)
 obtain⟨o,ho,hcl,n,hd⟩:=pl.isList
 have hne:a≠s.heap.objs.size:=Nat.ne_of_lt (zZ ho)
 refine⟨_,_,_,_,_,_,fun i=>bs.getD i false,rfl,Walks.list hh s.heap.objs.size a hne (bs.map Value.bool).toArray,⟨⟨_,zY _ rfl,rfl,rfl⟩,pl.isList.push _⟩,fun i v s' Q' E' hP hQ=>?_,fun h' tk kp=>?_⟩
 ·have e:v=Value.bool (bs.getD i false):=by
   have hP:(bs.map Value.bool).toArray[i]?=some v:=hP
   rw[List.getElem?_toArray,zO] at hP
   obtain⟨b,hb,rfl⟩:=ag hP
   rw[zG,hb]
   rfl
  subst e
  exact wpAny_truthy_bool hQ
 ·refine⟨.bl (bs.all id),H,?_,?_,q⟩
  ·exact I.kept (t':=tk) fun b o' e=>kp b o' (by simp;exact Nat.ne_of_lt (zZ e)) (zV _ e)
  ·show Value.bool _=Value.bool _
   have:=range_all bs
   simp only[zH,zD]
   rw[this]
noncomputable def jc:List D->Option D:=fun ds=>(oneOf ds).bind fun d=>match d with
 | .list es=>(boolsOf es).map fun bs=>.bool (bs.all id)
 | _=>none
theorem KF(hc:X.calm=true)(B:mM X "all" (.builtin "all"))(ha:DA X [e] fs)(he:starEach [e] X.env=(false,eval e X.env)::starEach [] X.env:=by rfl):DE X (.Call (.Name "all" p) [e] [] pos) (bb jc fs) :=
 iy (yP hc) (by
  intro HF H ds vs d Q sm r hg q
  obtain⟨x,hx,hg⟩:=bs hg
  rw[gh hx] at r
  cases x<;>try cases hg
  obtain⟨bs,hb,rfl⟩:=ag hg
  obtain⟨v,r',rfl,a,b⟩:=r.cons_inv
  rw[b.nil_inv]
  simp only[Rep] at a
  obtain⟨p,us,rfl,h,rr⟩:=a
  rw[iT hb] at rr
  have:=kZ rr
  subst this
  exact⟨p,bs,rfl,sm.seq h,q _ H HF (.refl sm) (by simp[Rep])⟩) B ha (by decide) (by decide) he rfl
end
noncomputable abbrev lexLt:=HT.lexLt
theorem gf:∀a:List Int,lexLt a a=false
 | []=>rfl
 | x::a=>by show HT.lexLt (x::a) (x::a)=false;rw[HT.dA,if_pos rfl];exact gf a
theorem ek:∀ {a b c:List Int},lexLt a b=true->lexLt b c=true->lexLt a c=true
 | [],[],_,h,_=>by cases h
 | [],_::_,[],_,h=>by cases h
 | [],_::_,_::_,_,_=>rfl
 | _::_,[],_,h,_=>by cases h
 | _::_,_::_,[],_,h=>by cases h
 | x::a,y::b,z::c,h1,h2=>by
  have h1:HT.lexLt (x::a) (y::b)=true:=h1
  have h2:HT.lexLt (y::b) (z::c)=true:=h2
  show HT.lexLt (x::a) (z::c)=true
  rw[HT.dA] at h1 h2 ⊢
  by_cases e1:x=y
  ·rw[if_pos e1] at h1
   by_cases e2:y=z
   ·rw[if_pos e2] at h2
    rw[if_pos (e1.trans e2)]
    exact ek h1 h2
   ·rw[if_neg e2] at h2
    rw[if_neg (by omega)]
    have:=of_decide_eq_true h2
    exact yB (by omega)
  ·rw[if_neg e1] at h1
   have q1:=of_decide_eq_true h1
   by_cases e2:y=z
   ·rw[if_neg (by omega)]
    exact yB (by omega)
   ·rw[if_neg e2] at h2
    have q2:=of_decide_eq_true h2
    rw[if_neg (by omega)]
    exact yB (by omega)
theorem j4:∀ {a b:List Int},lexLt a b=false->lexLt b a=false->a=b
 | [],[],_,_=>rfl
 | [],_::_,h,_=>by cases h
 | _::_,[],_,h=>by cases h
 | x::a,y::b,h1,h2=>by
  have h1:HT.lexLt (x::a) (y::b)=false:=h1
  have h2:HT.lexLt (y::b) (x::a)=false:=h2
  rw[HT.dA] at h1 h2
  by_cases e:x=y
  ·rw[if_pos e] at h1
   rw[if_pos e.symm] at h2
   rw[e,j4 h1 h2]
  ·rw[if_neg e] at h1
   rw[if_neg (fun z=>e z.symm)] at h2
   have:=of_decide_eq_false h1
   have:=of_decide_eq_false h2
   omega
noncomputable def lexLe(a b:List Int):Bool:=!lexLt b a
theorem ve(a b c:List Int)(h1:lexLe a b=true)(h2:lexLe b c=true):lexLe a c=true:=by
 unfold lexLe at *
 rw[Bool.not_eq_true'] at *
 cases e:lexLt c a with
 | false=>rfl
 | true =>
  cases e1:lexLt a b with
  | true=>rw[ek e e1] at h2;cases h2
  | false =>
   have:=j4 e1 h1
   subst this
   rw[e] at h2;cases h2
theorem xl(a b:List Int):(lexLe a b||lexLe b a)=true:=by
 unfold lexLe
 cases e1:lexLt b a with
 | false=>rfl
 | true =>
  cases e2:lexLt a b with
  | false=>rfl
  | true=>have:=ek e1 e2;rw[gf] at this;cases this
theorem xH{a b:List Int}(h1:lexLe a b=true)(h2:lexLe b a=true):a=b:=by
 unfold lexLe at *
 rw[Bool.not_eq_true'] at *
 exact j4 h2 h1
theorem sv{α:Type}{le:α->α->Bool}(anti:∀a b,le a b=true->le b a=true->a=b):∀ {l m:List α},l.Perm m->l.Pairwise (fun a b=>le a b=true)->m.Pairwise (fun a b=>le a b=true)->l=m
 | [],m,p,_,_=>p.nil_eq
 | a::l,[],p,_,_=>by have:=p.length_eq;simp at this
 | a::l,b::m,p,h1,h2=>by
  obtain⟨h1a,h1b⟩:=List.pairwise_cons.mp h1
  obtain⟨h2a,h2b⟩:=List.pairwise_cons.mp h2
  have e:a=b:=by
   have ha:a∈b::m:=p.mem_iff.mp zE
   have hb:b∈a::l:=p.mem_iff.mpr zE
   rcases zR.mp ha with e|ha
   ·exact e
   ·rcases zR.mp hb with e|hb
    ·exact e.symm
    ·exact anti a b (h1a b hb) (h2a a ha)
  subst e
  rw[sv anti (List.perm_cons a |>.mp p) h1b h2b]
noncomputable def tq(l:List (List Int)):List (List Int):=l.mergeSort lexLe
theorem Fz(l:List (List Int)):(tq l).Perm l:=List.mergeSort_perm l lexLe
theorem JT(l:List (List Int)):(tq l).Pairwise (fun a b=>lexLe a b=true):=List.pairwise_mergeSort ve xl l
theorem Fh{l m:List (List Int)}(p:l.Perm m)(h:l.Pairwise (fun a b=>lexLe a b=true)):l=tq m:=sv (fun _ _=>xH) (p.trans (Fz m).symm) h (JT m)
noncomputable def rk(l:List (List Int))(a:List Int):Int:=((l.countP fun b=>lexLt b a:Nat):Int)
theorem zz{l:List (List Int)}{a b:List Int}(ha:a∈l):lexLt a b=decide (rk l a < rk l b):=by
 unfold rk
 have mono:∀ {a b:List Int},lexLt a b=true->(l.countP fun c=>lexLt c a)<=l.countP fun c=>lexLt c b:=fun {a b} h=>List.countP_mono_left fun c _ hc=>ek hc h
 have strict:∀ {a b:List Int}(ha:a∈l),lexLt a b=true->(l.countP fun c=>lexLt c a) < l.countP fun c=>lexLt c b:=fun {a b} ha h=>by
  have key:∀m:List (List Int),a∈m->(m.countP fun c=>lexLt c a) < m.countP fun c=>lexLt c b:=fun m hm=>by
   induction m with
   | nil=>cases hm
   | cons x m ih =>
    rw[List.countP_cons,List.countP_cons]
    have mo:(m.countP fun c=>lexLt c a)<=m.countP fun c=>lexLt c b:=List.countP_mono_left fun c _ hc=>ek hc h
    rcases zR.mp hm with e|hm
    ·subst e
     rw[gf,h]
     simp only[Bool.false_eq_true,if_false,if_true]
     omega
    ·have:=ih hm
     by_cases hx:lexLt x a=true
     ·rw[hx,ek hx h];simp only[if_true];omega
     ·have hx':lexLt x a=false:=by simpa using hx
      rw[hx']
      simp only[Bool.false_eq_true,if_false]
      split<;>omega
  exact key l ha
 cases e:lexLt a b with
 | true=>exact (yB (by have:=strict ha e;omega)).symm
 | false =>
  refine (yA ?_).symm
  cases e2:lexLt b a with
  | true=>have:=mono e2;omega
  | false=>rw[j4 e e2];omega
section
variable {prog:Program}{w:World}{A:Around}{E:Value->Shared->Prop}{s:Shared}
theorem o8{Q:Bool->Shared->Prop}:∀ {us ws:List Value}{ns ms:List Int}(i:Nat),IntsAre us ns->IntsAre ws ms->Q (lexLt ns ms) s->W.KatLex prog w A true (decide (ns.length < ms.length)) Q (us.zip ws) i s
 | [],[],_,_,i,.nil,.nil,h=>h
 | [],_::_,_,_,i,.nil,.cons _ _ _,h=>by
  show Q (decide (0 < _+1)) s
  rw[yB (Nat.succ_pos _)]
  exact h
 | _::_,[],_,_,i,.cons _ _ _,.nil,h=>by
  show Q (decide (_+1 < 0)) s
  rw[yA (Nat.not_lt_zero _)]
  exact h
 | _::us,_::ws,_,_,i,.cons n t r1,.cons m u r2,h=>by
  have h:Q (HT.lexLt (n::_) (m::_)) s:=h
  rw[HT.dA] at h
  refine W.kat_cons (SeqAt.EqAt.int_int n t m u prog w _ _ ?_)
  cases e:(n == m) with
  | true =>
   have e':n=m:=eq_of_beq e
   rw[if_pos e'] at h
   refine W.kat_yes ?_
   have:=o8 (i+1) r1 r2 h
   simp only[zL,Nat.add_lt_add_iff_right]
   exact this
  | false =>
   have e':¬ n=m:=fun q=>by rw[q] at e;simp at e
   rw[if_neg e'] at h
   refine W.kat_no ?_
   by_cases hi:(true&&i == 0)=true
   ·rw[hi]
    exact oneLt_int h
   ·have hi':(true&&i == 0)=false:=by simpa using hi
    rw[hi']
    refine W.kat_one _ _ (lt_int ?_)
    exact h
end
noncomputable def af(ns:List Int):D:=.tuple (ns.map PyData.int)
noncomputable def intsOf:List D->Option (List Int)
 | []=>some []
 | .int n::r=>(intsOf r).map (n::·)
 | _::_=>none
theorem dH:∀ {ds:List D}{ns:List Int},intsOf ds=some ns->ds=ns.map PyData.int
 | [],ns,h=>by cases h;rfl
 | d::r,ns,h=>by
  cases d<;>simp only[intsOf] at h<;>try cases h
  obtain⟨ns',h1,rfl⟩:=ag h
  rw[dH h1]
  rfl
theorem cS:∀ns:List Int,intsOf (ns.map PyData.int)=some ns
 | []=>rfl
 | n::ns=>by simp[intsOf,cS ns]
noncomputable def Am:D->Option (List Int)|.tuple ds=>(intsOf ds).bind fun ns=>if ns=[] then none else some ns|_=>none
theorem yc{d:D}{ns:List Int}(h:Am d=some ns):d=af ns/\ns≠[]:=by
 cases d<;>try cases h
 obtain⟨ms,h1,h2⟩:=bs h
 split at h2
 ·cases h2
 ·rename_i hn
  cases h2
  rw[dH h1]
  exact⟨rfl,hn⟩
theorem BO{ns:List Int}(h:ns≠[]):Am (af ns)=some ns:=by
 unfold af Am
 simp only[cS,zA]
 rw[if_neg h]
noncomputable def rowsOf:List D->Option (List (List Int))
 | []=>some []
 | d::r=>(Am d).bind fun ns=>(rowsOf r).map (ns::·)
theorem jw:∀ {ds:List D}{nss:List (List Int)},rowsOf ds=some nss->ds=nss.map af/\∀ns∈nss,ns≠[]
 | [],nss,h=>by cases h;exact⟨rfl,fun _ z=>by cases z⟩
 | d::r,nss,h=>by
  obtain⟨ns,h1,h⟩:=bs h
  obtain⟨rest,h2,rfl⟩:=ag h
  obtain⟨e,hn⟩:=yc h1
  obtain⟨e2,hn2⟩:=jw h2
  refine⟨by rw[e,e2];rfl,fun m hm=>?_⟩
  rcases zR.mp hm with q|q
  ·subst q;exact hn
  ·exact hn2 m q
theorem lh:∀ {nss:List (List Int)},(∀ns∈nss,ns≠[])->rowsOf (nss.map af)=some nss
 | [],_=>rfl
 | ns::r,h=>by
  simp only[zI,rowsOf,BO (h ns zE),zA,lh fun m hm=>h m (zC _ hm),zB]
structure vy(h:Heap)(v:Value)(ns:List Int):Prop where
 ex:∃ (a:Addr) (o:Obj) (its:Array Value) (n:Nat),v=.ref a/\h.get? a=some o/\o.cls=.type "tuple"/\o.data=.seq its n/\IntsAre its.toList ns
theorem vy.keep{h h':Heap}{v:Value}{ns:List Int}(r:vy h v ns)(k:∀b o,h.get? b=some o->h'.get? b=some o):vy h' v ns:=let ⟨a,o,its,n,e,e1,e2,e3,e4⟩:=r.ex;⟨a,o,its,n,e,k _ _ e1,e2,e3,e4⟩
section
variable {prog:Program}{w:World}{A:Around}{E:Value->Shared->Prop}{s:Shared}
theorem oY{h:Heap}:∀ {vs:List Value}{nss:List (List Int)},Paired (vy h) vs nss->(∀ns∈nss,ns≠[])->∃fs:List Value,W.KatTups h vs fs/\fs.length=vs.length/\∀f∈fs,∃n t,f=Value.int n t
 | _,_,.nil,_=>⟨[],trivial,rfl,fun _ z=>by cases z⟩
 | _,_,.cons (a:=v) (b:=ns) r p,hn=>by
  obtain⟨fs,h1,h2,h3⟩:=oY p fun m hm=>hn m (zC _ hm)
  obtain⟨a,o,its,n,rfl,e1,e2,e3,e4⟩:=r.ex
  cases hits:its.toList with
  | nil =>
   rw[hits] at e4
   cases e4
   exact absurd rfl (hn [] zE)
  | cons f rest =>
   rw[hits] at e4
   cases e4 with
   | cons m t e5 =>
    have h0:its[0]?=some (.int m t):=by
     have:its.toList[0]?=some (Value.int m t):=by rw[hits];rfl
     simpa using this
    exact⟨.int m t::fs,W.KatTups.cons e1 e2 e3 h0 h1,by simp[h2],fun g hg=>by
     rcases zR.mp hg with q|q
     ·exact⟨m,t,q⟩
     ·exact h3 g q⟩
theorem gn{α β:Type}{R:α->β->Prop}{d:α}{d':β}:∀ {l:List α}{m:List β}{i:Nat},Paired R l m->i < l.length->R (l.getD i d) (m.getD i d')
 | _,_,i,.nil,h=>by simp at h
 | _,_,0,.cons r _,_=>r
 | _,_,i+1,.cons _ p,h=>by simpa using gn (i:=i) (d:=d) (d':=d') p (by simpa using h)
theorem wI{l:Addr}{vs:List Value}{nss:List (List Int)}{Q:Value->Shared->Prop}(hl:s.heap.IsList l vs.toArray)(hp:Paired (vy s.heap) vs nss)(hn:∀ns∈nss,ns≠[])(h64:vs.length < 64)
  (h:∀ (h':Heap) (D:Addr) (c:Nat),(∀b o,s.heap.get? b=some o->h'.get? b=some o)->s.heap.objs.size<=D->h'.get? D=some (seqObj "list" (Srt.outV (fun i=>rk nss (nss.getD i [])) vs).toArray c)->Q (.ref D) { s with heap:=h' }) :
  wpAny (model prog w) A (call (.builtin "sorted") [.ref l]) Q E s:=by
 refine Srt.sortedG hl h64 (fun i=>rk nss (nss.getD i [])) (tuples' true) (fun h2 h' kp Q' q=>?_) (fun h2 h' kp i j C hi hj q=>?_) h
 ·have hp':Paired (vy h') vs nss:=Paired.mapP hp fun _ _ r=>r.keep kp
  obtain⟨fs,t,hlen,hf⟩:=oY hp' hn
  refine W.kat_kind (s:={ s with heap:=h' }) (T:=.type "int") t (by omega) (fun v hv=>?_) (by decide) q
  obtain⟨n,t,rfl⟩:=hf v hv
  exact W.Looks.of_pure rfl
 ·have ri:=(gn (d:=Value.none) (d':=[]) hp hi).keep kp
  have rj:=(gn (d:=Value.none) (d':=[]) hp hj).keep kp
  have hlen:=hp.length
  obtain⟨a,o,its,n,ea,e1,e2,e3,e4⟩:=ri.ex
  obtain⟨b,o',its',n',eb,f1,f2,f3,f4⟩:=rj.ex
  unfold W.kas_ask
  rw[ea,eb]
  have hmem:nss.getD i []∈nss:=by
   rw[zG,zK (by omega)]
   exact List.getElem_mem _
  have q':C (lexLt (nss.getD i []) (nss.getD j [])) { s with heap:=h' }:=by
   rw[zz hmem]
   exact q
  refine W.kat_lt (s:={ s with heap:=h' }) e1 e3 f1 f3 ?_
  have:=o8 (prog:=prog) (w:=w) (A:=A.in1.in1) (s:={ s with heap:=h' }) 0 e4 f4 q'
  have l1:its.size=(nss.getD i []).length:=by have:=IntsAre.length e4;simpa using this
  have l2:its'.size=(nss.getD j []).length:=by have:=IntsAre.length f4;simpa using this
  rw[l1,l2]
  exact this
end
noncomputable def oK{α:Type}(z:Nat->Int)(l:List α)(d:α):List α:=if l.length < 2 then l else (SP.run (SP.eu z) (W.kas_sort l.length)).toList.map fun i=>l.getD i d
theorem jB{α:Type}(l:List α)(d:α):(List.range l.length).map (fun i=>l.getD i d)=l:=by
 apply List.ext_getElem
 ·simp
 ·intro i h1 h2
  simp[h2]
theorem fY{α:Type}(z:Nat->Int)(l:List α)(d:α):(oK z l d).Perm l:=by
 unfold oK
 split
 ·exact List.Perm.refl _
 ·rename_i h
  have:=((SP.gN (z:=z) (n:=l.length) (by omega)).1).map fun i=>l.getD i d
  rw[jB] at this
  exact this
theorem GB(nss:List (List Int)):oK (fun i=>rk nss (nss.getD i [])) nss []=tq nss:=by
 refine Fh (fY _ _ _) ?_
 unfold oK
 split
 ·rename_i h
  match nss,h with
  | [],_=>exact List.Pairwise.nil
  | [a],_=>exact List.pairwise_singleton _ _
 ·rename_i h
  obtain⟨hp,hs⟩:=SP.gN (z:=fun i=>rk nss (nss.getD i [])) (n:=nss.length) (by omega)
  rw[List.pairwise_map] at hs ⊢
  refine hs.imp_of_mem fun {i j} hi hj hij=>?_
  have hj':j < nss.length:=by have:=hp.mem_iff.mp hj;simpa using this
  unfold lexLe
  rw[zz (l:=nss) (a:=nss.getD j []) (by rw[zG,zK hj'];exact List.getElem_mem _)]
  simp only[Bool.not_eq_true',decide_eq_false_iff_not]
  omega
section
variable {X:Cx}
theorem qm{K:W.Frag}{HF:Hp}{ds:List D}{vs:List V}(z:Nat->Int)(r:av K HF ds vs):av K HF (oK z ds .none) (oK z vs .non):=by
 unfold oK
 rw[r.length]
 split
 ·exact r
 ·rename_i h
  obtain⟨hp,_⟩:=SP.gN (z:=z) (n:=ds.length) (by omega)
  have key:∀l:List Nat,(∀i∈l,i < ds.length)->av K HF (l.map fun i=>ds.getD i .none) (l.map fun i=>vs.getD i .non):=fun l=>by
   induction l with
   | nil=>exact fun _=>av.nil
   | cons i l ih =>
    intro hl
    have hi:=hl i zE
    obtain⟨v,e1,e2⟩:=r.getD (zK hi)
    refine av.cons ?_ (ih fun j hj=>hl j (zC _ hj))
    dsimp only
    rw[zG,zG,e1,zK hi]
    exact e2
  exact key _ fun i hi=>by have:=hp.mem_iff.mp hi;simpa using this
theorem pq{vs:List V}{us:List Value}(z:Nat->Int)(r:aF vs us):aF (oK z vs .non) (Srt.outV z us):=by
 unfold oK Srt.outV
 rw[r.length]
 split
 ·exact r
 ·rename_i h
  obtain⟨hp,_⟩:=SP.gN (z:=z) (n:=us.length) (by omega)
  have key:∀l:List Nat,(∀i∈l,i < vs.length)->aF (l.map fun i=>vs.getD i .non) (l.map fun i=>us.getD i Value.none):=fun l=>by
   induction l with
   | nil=>exact fun _=>.nil
   | cons i l ih =>
    intro hl
    have hi:=hl i zE
    obtain⟨v,e1,e2⟩:=r.get (zK hi)
    refine .cons ?_ (ih fun j hj=>hl j (zC _ hj))
    dsimp only
    rw[zG,zG,e1,zK hi]
    exact e2
  exact key _ fun i hi=>by have:=hp.mem_iff.mp hi;rw[r.length];simpa using this
theorem Iq(z:Nat->Int)(nss:List (List Int)):oK z (nss.map af) .none=(oK z nss []).map af:=by
 unfold oK
 rw[zD]
 split
 ·rfl
 ·rename_i h
  rw[zM]
  obtain⟨hp,_⟩:=SP.gN (z:=z) (n:=nss.length) (by omega)
  refine yJ fun i hi=>?_
  have hi':i < nss.length:=by have:=hp.mem_iff.mp hi;simpa using this
  simp[hi']
theorem mv{pins:List (Addr×Obj)}{σ:L2.St}{H HF:Hp}{s:Shared}(I:Inv X pins σ H s)(sm:bc HF H):∀ {nss:List (List Int)}{vs:List V}{us:List Value},av X.K HF (nss.map af) vs->aF vs us->Paired (vy s.heap) us nss
 | [],_,_,h,r=>by rw[h.nil_inv] at r;cases r;exact .nil
 | ns::nss,_,_,h,r=>by
  obtain⟨v,vr,rfl,a,b⟩:=h.cons_inv
  cases r with
  | cons r rr =>
   refine .cons ?_ (mv I sm b rr)
   unfold af at a
   simp only[Rep] at a
   obtain⟨p,ws,rfl,hs,rw'⟩:=a
   cases r
   obtain⟨its,rv,⟨o,ho,hc,n,hd⟩,_⟩:=I.tuple (aC sm hs)
   have:ws=ns.map V.int:=by
    have key:∀ {ns:List Int}{ws:List V},av X.K HF (ns.map PyData.int) ws->ws=ns.map V.int:=fun {ns}=>by
     induction ns with
     | nil=>exact fun h=>h.nil_inv
     | cons n ns ih =>
      intro ws h
      obtain⟨v,r,rfl,a,b⟩:=h.cons_inv
      simp only[Rep] at a
      rw[a,ih b]
      rfl
    exact key rw'
   subst this
   exact⟨p,o,its.toArray,n,rfl,ho,hc,hd,intsAre_of rv⟩
theorem mX:d6 X (.builtin "sorted") (fun xs H Q=>∃ (HF:Hp) (a:Addr) (vs:List V) (nss:List (List Int)),xs=[.ref a]/\bc HF H/\iJ X.K HF a vs/\av X.K HF (nss.map af) vs/\(∀ns∈nss,ns≠[])/\nss.length < 64 /\
  ∀ (Dn:Addr) (us:List V),H Dn=none->av X.K HF ((tq nss).map af) us->Q (.ref Dn) (upd H Dn (.lst us))):=by
 intro pins s σ H xs us Q I r h
 obtain⟨HF,a,vs,nss,rfl,sm,hq,rr,hn,h64,q⟩:=h
 obtain⟨u,rfl,rx⟩:=vals1 r
 cases rx
 obtain⟨its,rv,pl,hz⟩:=I.list (sm.seq hq)
 have hl1:=rr.length
 rw[zD] at hl1
 refine wI pl.isList (mv I sm rr rv) hn (by have:=rv.length;omega) fun h' Dn c kp hD e=>?_
 have hv:=pq (fun i=>rk nss (nss.getD i [])) rv
 have hr:=qm (fun i=>rk nss (nss.getD i [])) rr
 rw[Iq,GB] at hr
 refine⟨.ref Dn,_,I.laid (t':=s.toks) (o:=.lst (oK (fun i=>rk nss (nss.getD i [])) vs .non)) kp hD ⟨?_,_,c,hv,e⟩,rfl,q Dn _ (I.hok.fresh hD) hr⟩
 rw[(fY _ _ _).length_eq]
 exact hz
noncomputable def gK:List D->Option (List D):=fun ds=>(oneOf ds).bind fun d=>match d with
 | .list es=>(rowsOf es).bind fun nss=>if nss.length < 64 then some ((tq nss).map af) else none
 | _=>none
variable {e:Expr}{fs:Env->Option (List D)}{p pos:Pos}
theorem BU(B:mM X "sorted" (.builtin "sorted"))(ha:DA X [e] fs)(he:starEach [e] X.env=(false,eval e X.env)::starEach [] X.env:=by rfl):DF X (.Call (.Name "sorted" p) [e] [] pos) (mU gK fs) :=
 Dh mX (by
  intro HF H ds vs d Q sm r hg q
  obtain⟨x,hx,hg⟩:=bs hg
  rw[gh hx] at r
  cases x<;>try cases hg
  obtain⟨nss,hb,hg⟩:=bs hg
  split at hg
  ·rename_i h64
   cases hg
   obtain⟨v,r',rfl,a,b⟩:=r.cons_inv
   rw[b.nil_inv]
   simp only[Rep] at a
   obtain⟨p,us,rfl,h,rr⟩:=a
   obtain⟨e1,e2⟩:=jw hb
   rw[e1] at rr
   exact⟨HF,p,us,nss,rfl,sm,h,rr,e2,h64,fun Dn ws hD hr=>q Dn ws _ HF (.own sm hD) hD (sm.free hD) aK hr⟩
  ·cases hg) B ha (by decide) (by decide) he rfl
end
end Dl
namespace En
open PySem PyProof.Rows
open AutoSeq1 (wpAny_loadPart')
section
variable {prog:Program}{w:World}{A:Around}{E:Value->Shared->Prop}{s:Shared}
theorem nextT_item{j t:Addr}{k:Nat}{its:Array Value}{v:Value}{Q:Value->Shared->Prop}(hj:s.heap.IsTupleIter j t k)(ht:s.heap.IsTuple t its)(hv:its[k]?=some v)
  (hQ:∀g,g.IsTupleIter j t (k+1)->Heap.SameBut j s.heap g->Q v { s with heap:=g }):wpAny (model prog w) A (Builtin.SmallTypes.nextOf (.ref j)) Q E s:=by
 obtain⟨oj,gj,cj,dj⟩:=id hj
 obtain⟨ot,gt,_,nt,dt⟩:=ht
 unfold Builtin.SmallTypes.nextOf
 refine zW (wpAny_callSpecial?_slot (name:=Str.ofString "__next__") hj.typeIs F.slot_tuple_iterator_next (wpAny_call_entry F.slot_tuple_iterator_next hj.typeIs F.entry_tuple_iterator_next ?_ (F.args_tuple_iterator_next_1 _)))
 refine zW (m:=field (.ref j) 0) (wpAny_field gj dj (x:=.ref t) rfl ?_)
 show wpAny _ _ (if (Value.ref t == Value.none)=true then _ else _) _ _ s
 rw[if_neg (show ¬ ((Value.ref t == Value.none)=true) by exact Bool.false_ne_true)]
 refine zW (m:=field (.ref j) 1) (wpAny_field gj dj (x:=.int k 0) rfl ?_)
 refine zW (m:=seqItems? (.ref t)) (wpAny_seqItems gt dt ?_)
 simp only[yH,hv]
 refine zW (wpAny_setField gj dj (by simp) (zX ⟨v,rfl,zX (hQ _ ⟨_,Heap.get?_update_self _ gj (Obj.isFreed_of_fields (Obj.data_mapFields dj _)),(Obj.cls_mapFields ..).trans cj,?_⟩ (Heap.SameBut.update ..))⟩))
 rw[Obj.data_mapFields dj];simp[rawInt]
theorem nextT_end{j t:Addr}{k:Nat}{its:Array Value}{Q:Value->Shared->Prop}(hh:A.handled=none)(hj:s.heap.IsTupleIter j t k)(ht:s.heap.IsTuple t its)(hv:its[k]?=none)
  (hE:∀g x,Heap.ExtBut j s.heap g->(∃o,g.get? x=some o/\o.cls=.type "StopIteration")->E (.ref x) { s with heap:=g }):wpAny (model prog w) A (Builtin.SmallTypes.nextOf (.ref j)) Q E s:=by
 obtain⟨oj,gj,cj,dj⟩:=id hj
 obtain⟨ot,gt,_,nt,dt⟩:=ht
 unfold Builtin.SmallTypes.nextOf
 refine zW (wpAny_callSpecial?_slot (name:=Str.ofString "__next__") hj.typeIs F.slot_tuple_iterator_next (wpAny_call_entry F.slot_tuple_iterator_next hj.typeIs F.entry_tuple_iterator_next ?_ (F.args_tuple_iterator_next_1 _)))
 refine zW (m:=field (.ref j) 0) (wpAny_field gj dj (x:=.ref t) rfl ?_)
 show wpAny _ _ (if (Value.ref t == Value.none)=true then _ else _) _ _ s
 rw[if_neg (show ¬ ((Value.ref t == Value.none)=true) by exact Bool.false_ne_true)]
 refine zW (m:=field (.ref j) 1) (wpAny_field gj dj (x:=.int k 0) rfl ?_)
 refine zW (m:=seqItems? (.ref t)) (wpAny_seqItems gt dt ?_)
 simp only[yH,hv]
 refine zW (wpAny_rule (zW (wpAny_setField gj dj (by simp) (zW (m:=newExc (.type "StopIteration") []) ?_))))
 simp only[newExc,newTuple]
 refine zW (wpAny_newObj_type (zW (m:=firstArgMember _ _) (wpAny_of_eq (a:=Value.none) (by first|rfl|(simp only[firstArgMember];rfl)) ?_)) (by size_fits))
 refine wpAny_newObj_type ?_ (by size_fits);simp only[raiseNew]
 refine zW (wpAny_handled ?_)
 first|rw[show A.in1.handled=none from hh]|rw[hh]
 exact zW (zX (wpAny_throw (hE _ _ (((Heap.SameBut.update ..).extBut.push _).push _) ⟨_,zY _ rfl,rfl⟩)))
theorem meets_enumT(t:Addr)(its:Array Value)(n:Nat)(dd:Option Addr)(sl:Array (Option Value)) :
  Meets (Builtin.«enumerate.__new__» ⟨[.type "enumerate",.ref t],[]⟩) (fun _ R s=>s.heap.get? t=some { cls:=.type "tuple",dict:=dd,data:=.seq its n,slots:=sl } /\
   R (.ok (.ret (.ref (s.heap.push { cls:=.type "tuple_iterator",data:=.fields #[.ref t,.int 0 0] }).objs.size)))
    { s with heap:=(s.heap.push { cls:=.type "tuple_iterator",data:=.fields #[.ref t,.int 0 0] }).push { cls:=.type "enumerate",data:=.fields #[.none,.bool false,.ref s.heap.objs.size,rawInt 0,.none,.none] } }) :=
 .of_wp fun prog w A R s h=>by
  obtain⟨hp,g,d,tk,os⟩:=s
  obtain⟨hl,h⟩:=h
  have hsub:=sub_enumerate
  have hL:Heap.IsTuple (Shared.heap ⟨hp,g,d,tk,os⟩) t its:=⟨_,hl,rfl,n,rfl⟩
  wp_walk using wpAny_loadPart' hl
  refine wpAny_stack_any fun st=>zX ?_
  split
  ·rename_i c _ _ _ _ _
   cases (c == Value.type "enumerate")
   ·wp_walk using wpAny_loadPart' hl,wpAny_pyIter_tuple hL
    exact⟨_,rfl,h⟩
   ·wp_walk using wpAny_loadPart' hl,wpAny_pyIter_tuple hL
    exact⟨_,rfl,h⟩
  ·wp_walk using wpAny_loadPart' hl,wpAny_pyIter_tuple hL
   exact⟨_,rfl,h⟩
theorem call_enumT{t:Addr}{its:Array Value}{Q:Value->Shared->Prop}(ht:s.heap.IsTuple t its)
  (h:∀h',IsEnum h' (s.heap.objs.size+1) s.heap.objs.size 0 .none->h'.IsTupleIter s.heap.objs.size t 0->h'.objs.size=s.heap.objs.size+2->(∀b o,s.heap.get? b=some o->h'.get? b=some o)->Q (.ref (s.heap.objs.size+1)) { s with heap:=h' }) :
  wpAny (model prog w) A (call (.type "enumerate") [.ref t]) Q E s:=by
 obtain⟨⟨c,dct,dt,sl⟩,hl,hc,n,hd⟩:=ht
 simp only at hc hd
 subst hc hd
 refine callType_new F.called_enumerate (by decide) (F.typeCall_enumerate_1 _) (F.newCall_enumerate_1 _) (fun obj=>F.args_object_init_2 obj _) F.entry_enumerate_new (meets_enumT t its n dct sl) ⟨hl,?_⟩
 have hz:(s.heap.push { cls:=.type "tuple_iterator",data:=.fields #[.ref t,.int 0 0] }).objs.size=s.heap.objs.size+1:=by rw[Heap.size_push]
 have he:=zY (s.heap.push { cls:=.type "tuple_iterator",data:=.fields #[.ref t,.int 0 0] }) (o:={ cls:=.type "enumerate",data:=.fields #[.none,.bool false,.ref s.heap.objs.size,rawInt 0,.none,.none] }) rfl
 show _/\_
 rw[hz] at he ⊢
 refine⟨⟨_,he,rfl⟩,h _ he ⟨_,zV _ (zY _ rfl),rfl,rfl⟩ ?_ fun b o x=>zV _ (zV _ x)⟩
 show (Heap.push _ _).objs.size=_
 rw[Heap.size_push,hz]
end
end En
namespace Dl
open PySem L2 PySem.Spec PyProof.Rows
section
variable {X:Cx}{pins:List (Addr×Obj)}{σ:L2.St}{H:Hp}{s:Shared}{h':Heap}{t':Nat}{ch:List Addr}
theorem vM(I:Inv X pins σ H s)(hch:∀b∈ch,cE X pins H b)(k:∀b o,b∉ch->s.heap.get? b=some o->h'.get? b=some o){T:Addr}{vals:List Value}{xs:List V}(hT:s.heap.objs.size<=T)(ht:mJ h' T vals.toArray)
  (rv:aF xs vals) (hz:xs.length<=sizeLine):Inv X pins σ (upd H T (.tup xs)) { s with heap:=h',toks:=t' }:=by
 have nT:H T=none:=I.hok.fresh hT
 have ne:∀b o,s.heap.get? b=some o->b≠T:=fun b o e=>Nat.ne_of_lt (zP (zZ e) hT)
 have ne2:∀b o,H b=some o->b≠T:=fun b o e=>aP e nT
 have nch:∀b o,H b=some o->b∉ch:=fun b o e z=>by rw[(hch b z).1] at e;cases e
 refine I.step (g':=s.gens) (d':=s.drawn) (ch:=ch) (fun b hb=>?_) (fun b o _ _ hc e _=>k b o hc e) (fun b o _ _ hc e _=>⟨o.slots,k b o hc e⟩) (fun b o _ e n=>by rw[aE (ne b o e)];exact n)
  (fun b o hc e=>⟨o,k b o hc e⟩) (fun b ys e=>by rw[aE (ne2 b _ e)];exact e) (fun b o u e=>by rw[aE (ne2 b _ e)];exact e) (.kept (fun b u ⟨q,z⟩ e=>k b u (nch b _ z) e) fun b u e _=>by rw[aE (ne2 b _ e)];exact e) (fun m hm=>?_) (fun b u e=>?_) I.bare
 ·obtain⟨f0,f1,f2,f3,f4,f5⟩:=hch b hb
  exact⟨f3,f1,f4,f5⟩
 ·obtain⟨o,es,ep,ho,r⟩:=hm
  exact⟨o,es,ep,k _ o (fun z=>(hch _ z).2.1 rfl) ho,r⟩
 ·by_cases hb:b=T
  ·subst hb
   rw[aK] at e
   cases e
   exact⟨hz,vals,rv,ht⟩
  ·rw[aE hb] at e
   refine (I.hok b u e).stay (fun c v hc q=>k c v ?_ q) (fun _ q=>?_) fun c v q _=>?_
   ·rcases hc with z|z
    ·rw[z];exact nch b u e
    ·exact nch c _ z
   all_goals first
    | (rw[aE (ne2 _ _ q)];exact q)
    | exact q
theorem Mp(I:Inv X pins σ H s){a b:Addr}{o:Obj}(hf:cE X pins H b)(h:X.K.lookup a=some o):a≠b:=by
 rintro rfl
 have hb:=I.ok.mod.kin a o h
 rcases hf.2.2.2.1 with z|z
 ·exact I.ok.noex a o hb z
 ·exact absurd (zP (zZ (I.ok.bs a o hb).1) z) (Nat.lt_irrefl _)
theorem Lu(I:Inv X pins σ H s){a b:Addr}{xs:List V}(hf:cE X pins H b)(h:iJ X.K H a xs):a≠b:=by
 rcases h with (h|⟨o,h⟩)|⟨o,its,n,h,_⟩
 ·exact aP h hf.1
 ·exact aP h hf.1
 ·exact Mp I hf h
theorem Ll(I:Inv X pins σ H s){a b:Addr}{xs:List V}(hf:cE X pins H b)(h:jQ X.K H a xs):a≠b:=by
 rcases h with (h|⟨o,h⟩)|⟨o,its,n,h,_⟩
 ·exact aP h hf.1
 ·exact aP h hf.1
 ·exact Mp I hf h
end
noncomputable def Oc(sq:Hp->List V->Prop):It:=⟨fun i H=>∃xs x,sq H xs/\xs[i]?=some x,fun i H v H'=>∃T y,v=.ref T/\H T=none/\H'=upd H T (.tup [.int (i:Nat),y])/\∀xs,sq H xs->xs[i]?=some y,fun i H=>∃xs,sq H xs/\xs.length<=i⟩
noncomputable def bB(k:Nat):List D->List D
 | []=>[]
 | d::ds=>.tuple [.int (k:Nat),d]::bB (k+1) ds
theorem sx:∀ {ds:List D}{k i:Nat}{d:D},(bB k ds)[i]?=some d->∃x,ds[i]?=some x/\d=.tuple [.int ((k+i:Nat):Int),x]
 | [],k,i,d,h=>by simp[bB] at h
 | x::ds,k,0,d,h=>by simp[bB] at h;exact⟨x,rfl,h.symm⟩
 | x::ds,k,i+1,d,h=>by
  simp only[bB,List.getElem?_cons_succ] at h
  obtain⟨y,h1,h2⟩:=sx h
  refine⟨y,by simpa using h1,?_⟩
  rw[h2,show k+1+i=k+(i+1) by omega]
theorem kg:∀ (ds:List D) (k:Nat),(bB k ds).length=ds.length
 | [],k=>rfl
 | x::ds,k=>by simp[bB,kg ds (k+1)]
theorem Bc{K:W.Frag}{HF:Hp}{sq:Hp->List V->Prop}{ds:List D}{vs:List V}(h:sq HF vs)(mo:∀H H',bc H H'->sq H vs->sq H' vs)(r:av K HF ds vs):sA K (Oc sq) HF (bB 0 ds) where
 go:=fun i d H₁ HF₁ e s1 s2=>by
  obtain⟨x,hx,rfl⟩:=sx e
  rw[Nat.zero_add]
  obtain⟨v,hv,rv⟩:=r.getD hx
  have q:=mo _ _ s2 (mo _ _ s1 h)
  refine⟨⟨vs,v,q,hv⟩,fun y H₂ ⟨T,z,e1,hT,e2,hy⟩=>?_⟩
  have:=hy vs q
  rw[hv] at this
  cases this
  subst e1 e2
  exact⟨_,.new s2 hT,cT (s2.free hT) (av.cons (by simp[Rep]) (av.cons (rv.mono s1) av.nil))⟩
 stop:=fun H₁ HF₁ s1 s2=>⟨vs,mo _ _ s2 (mo _ _ s1 h),by rw[kg,r.length];exact Nat.le_refl _⟩
noncomputable def NM(sq1 sq2:Hp->List V->Prop):It:=⟨fun i H=>∃xs ys x y,sq1 H xs/\sq2 H ys/\xs[i]?=some x/\ys[i]?=some y,
 fun i H v H'=>∃T x y,v=.ref T/\H T=none/\H'=upd H T (.tup [x,y])/\(∀xs,sq1 H xs->xs[i]?=some x)/\∀ys,sq2 H ys->ys[i]?=some y,
 fun i H=>∃xs ys,sq1 H xs/\sq2 H ys/\(xs.length<=i\/ys.length<=i)⟩
section
variable {X:Cx}{pins:List (Addr×Obj)}{σ:L2.St}{H:Hp}{s:Shared}{h':Heap}{t':Nat}{ch:List Addr}
theorem B2(I:Inv X pins σ H s)(hch:∀b∈ch,cE X pins H b)(k:∀b o,b∉ch->s.heap.get? b=some o->h'.get? b=some o):Inv X pins σ H { s with heap:=h',toks:=t' }:=by
 have nch:∀b o,H b=some o->b∉ch:=fun b o e z=>by rw[(hch b z).1] at e;cases e
 refine I.step (g':=s.gens) (d':=s.drawn) (ch:=ch) (fun b hb=>?_) (fun b o _ _ hc e _=>k b o hc e) (fun b o _ _ hc e _=>⟨o.slots,k b o hc e⟩) (fun b o _ e n=>n)
  (fun b o hc e=>⟨o,k b o hc e⟩) (fun b ys e=>e) (fun b o u e=>e) (.kept (fun b u ⟨q,z⟩ e=>k b u (nch b _ z) e) fun b u e _=>e) (fun m hm=>?_) (fun b u e=>?_) I.bare
 ·obtain⟨f0,f1,f2,f3,f4,f5⟩:=hch b hb
  exact⟨f3,f1,f4,f5⟩
 ·obtain⟨o,es,ep,ho,r⟩:=hm
  exact⟨o,es,ep,k _ o (fun z=>(hch _ z).2.1 rfl) ho,r⟩
 ·refine (I.hok b u e).stay (fun c v hc q=>k c v ?_ q) (fun _ q=>q) fun c v q _=>q
  rcases hc with z|z
  ·rw[z];exact nch b u e
  ·exact nch c _ z
end
structure OD(z TI TO i1 i2:Addr):Prop where
 a1:TI≠z
 a2:TO≠z
 a3:i1≠z
 a4:i2≠z
 a5:TI≠TO
 a6:TI≠i1
 a7:TI≠i2
 a8:TO≠i1
 a9:TO≠i2
 a0:i1≠i2
section
variable {X:Cx}{l l':Expr}{fs:Env->Option (List D)}{elts:List Expr}{k:Nat}{pos p tp:Pos}
noncomputable def gz:List D->List D->List D
 | x::xs,y::ys=>.tuple [x,y]::gz xs ys
 | _,_=>[]
theorem qk:∀ {xs ys:List D}{i:Nat}{d:D},(gz xs ys)[i]?=some d->∃x y,xs[i]?=some x/\ys[i]?=some y/\d=.tuple [x,y]
 | [],_,i,d,h=>by simp[gz] at h
 | _::_,[],i,d,h=>by simp[gz] at h
 | x::xs,y::ys,0,d,h=>by simp[gz] at h;exact⟨x,y,rfl,rfl,h.symm⟩
 | x::xs,y::ys,i+1,d,h=>by
  simp only[gz,List.getElem?_cons_succ] at h
  obtain⟨a,b,h1,h2,h3⟩:=qk h
  exact⟨a,b,by simpa using h1,by simpa using h2,h3⟩
theorem lM:∀ (xs ys:List D),(gz xs ys).length=min xs.length ys.length
 | [],_=>by simp[gz]
 | _::_,[]=>by simp[gz]
 | x::xs,y::ys=>by simp[gz,lM xs ys]
theorem ES{K:W.Frag}{HF:Hp}{sq1 sq2:Hp->List V->Prop}{xs ys:List D}{vs us:List V}(h1:sq1 HF vs)(mo1:∀H H',bc H H'->sq1 H vs->sq1 H' vs)(h2:sq2 HF us)(mo2:∀H H',bc H H'->sq2 H us->sq2 H' us)(r1:av K HF xs vs)(r2:av K HF ys us) :
  sA K (NM sq1 sq2) HF (gz xs ys) where
 go:=fun i d H₁ HF₁ e s1 s2=>by
  obtain⟨x,y,hx,hy,rfl⟩:=qk e
  obtain⟨v,hv,rv⟩:=r1.getD hx
  obtain⟨u,hu,ru⟩:=r2.getD hy
  have q1:=mo1 _ _ s2 (mo1 _ _ s1 h1)
  have q2:=mo2 _ _ s2 (mo2 _ _ s1 h2)
  refine⟨⟨vs,us,v,u,q1,q2,hv,hu⟩,fun w H₂ ⟨T,a,b,e1,hT,e2,ha,hb⟩=>?_⟩
  have ea:=ha vs q1
  have eb:=hb us q2
  rw[hv] at ea
  rw[hu] at eb
  cases ea
  cases eb
  subst e1 e2
  exact⟨_,.new s2 hT,cT (s2.free hT) (av.cons (rv.mono s1) (av.cons (ru.mono s1) av.nil))⟩
 stop:=fun H₁ HF₁ s1 s2=>⟨vs,us,mo1 _ _ s2 (mo1 _ _ s1 h1),mo2 _ _ s2 (mo2 _ _ s1 h2),by rw[lM,r1.length,r2.length];omega⟩
end
noncomputable def cut{α:Type}(xs:List α)(lo hi:Option Int):List α:=(xs.drop (HT.dF xs.length 0 lo)).take (HT.dF xs.length xs.length hi - HT.dF xs.length 0 lo)
theorem HP{α:Type}(xs:List α)(lo hi:Option Int):(cut xs lo hi).length<=xs.length:=by
 unfold cut;rw[List.length_take,List.length_drop];omega
theorem pS{K:W.Frag}{H:Hp}{ds:List D}{vs:List V}(r:av K H ds vs)(lo hi:Option Int):av K H (cut ds lo hi) (cut vs lo hi):=by
 unfold cut;rw[r.length];exact (r.drop _).take _
section
variable {X:Cx}
theorem BC{prog:Program}{w:World}{A:Around}{E:Value->Shared->Prop}{s:Shared}{t sl:Addr}{its:Array Value}{vl vu:Value}{lo hi:Option Int}{Q:Value->Shared->Prop}(ht:IsTup s.heap t its)(hs:s.heap.IsSliceOf sl vl vu .none)(pl:IsPart vl lo)(pu:IsPart vu hi)
  (hw:HT.dF its.size 0 lo=0/\HT.dF its.size its.size hi=its.size) (h:Q (.ref t) s):wpAny (model prog w) A (getItem (.ref t) (.ref sl)) Q E s:=by
 obtain⟨os,hos,hcs,hds⟩:=id hs
 have hTs:s.TypeIs (.ref sl) "slice":=⟨os,hos,hcs⟩
 unfold getItem
 try with_reducible refine wpAny_holding ?_
 first|refine zW (zX ?_)|skip
 refine zW (wpAny_sequenceKey ht.typeIs (by decide) (zW (wpAny_callSpecial?_slot (name:=Str.ofString "__getitem__") ht.typeIs PyProof.Rows.slot_tuple_getitem (wpAny_call_entry PyProof.Rows.slot_tuple_getitem ht.typeIs entry_tuple_getitem ?_ (args_tuple_getitem _ _)))))
 refine zW (m:=Builtin.Tuple.tupleItemsOf (.ref t)) (tupleItemsOf_ ht (zW (wpAny_typeOf hTs ?_)))
 rw[if_pos (by decide)]
 refine zW (HT.ir hs pl pu ?_)
 show wpAny _ _ (if (((HT.dF its.size 0 lo:Nat):Int) == 0&&(1:Int) == 1&&(HT.dF its.size its.size hi - HT.dF its.size 0 lo) == its.size)=true then _ else _) _ _ s
 rw[hw.1,hw.2,if_pos (by simp)]
 unfold Builtin.Tuple.tupleIsExact
 refine zW (zW (wpAny_typeOf ht.typeIs (zX ?_)))
 rw[if_pos (by decide)]
 first
  | exact zW (wpAny_rule (zX ⟨_,rfl,zX h⟩))
  | exact zW (wpAny_rule (zW (zX (zX ⟨_,rfl,zX h⟩))))
noncomputable def Nl(K:W.Frag):V->Option Int->Option Int->Hp->VK->Prop:=fun x lo hi H Q=>∃a xs,x=.ref a/\jQ K H a xs/\(cut xs lo hi=xs->Q (.ref a) H)/\∀p,H p=none->Q (.ref p) (upd H p (.tup (cut xs lo hi)))
theorem Jx:IQ X (Nl X.K):=by
 intro pins s σ H x v vl vu lo hi sl Q I rx hs pl pu h
 obtain⟨a,xs,rfl,hx,q1,q2⟩:=h
 by_cases hw:HT.dF xs.length 0 lo=0/\HT.dF xs.length xs.length hi=xs.length
 ·cases rx
  obtain⟨its,r,ht,hz⟩:=I.tuple hx
  have hlen:its.toArray.size=xs.length:=by rw[zH];exact r.length.symm
  refine⟨"tuple",_,PyProof.Rows.slot_tuple_getitem.lookup,ht.typeIs,BC ht hs pl pu (by rw[hlen];exact hw) ⟨.ref a,H,I,rfl,q1 ?_⟩⟩
  unfold cut
  rw[hw.1,hw.2,List.drop_zero,Nat.sub_zero,List.take_length]
 ·exact Kj pins s σ H (.ref a) v vl vu lo hi sl Q I rx hs pl pu ⟨a,xs,rfl,hx,hw,q2⟩
noncomputable def NT(K:W.Frag):V->Option Int->Option Int->Hp->VK->Prop:=fun x lo hi H Q=>∃a xs,x=.ref a/\iJ K H a xs/\∀p,H p=none->Q (.ref p) (upd H p (.lst (cut xs lo hi)))
theorem yu(lo hi:Option Int)(n:Nat):sliceBounds lo hi none n=(((HT.dF n 0 lo:Nat):Int),((HT.dF n n hi:Nat):Int),1):=by
 have h1:(1:Int) > 0:=by omega
 refine Prod.ext ?_ (Prod.ext ?_ rfl)
 ·cases lo with
  | none=>simp[sliceBounds,HT.dF]
  | some x =>
   by_cases h:x < 0
   ·simp only[sliceBounds,HT.dF,Option.getD_none,h1,if_true,if_pos h];omega
   ·simp only[sliceBounds,HT.dF,Option.getD_none,h1,if_true,if_neg h];omega
 ·cases hi with
  | none=>simp[sliceBounds,HT.dF]
  | some x =>
   by_cases h:x < 0
   ·simp only[sliceBounds,HT.dF,Option.getD_none,h1,if_true,if_pos h];omega
   ·simp only[sliceBounds,HT.dF,Option.getD_none,h1,if_true,if_neg h];omega
theorem GE:IQ X (NT X.K):=by
 intro pins s σ H x v vl vu lo hi sl Q I rx hs pl pu h
 obtain⟨a,xs,rfl,hx,q⟩:=h
 cases rx
 obtain⟨its,r,p,hz⟩:=I.list hx
 have hlen:=r.length
 refine⟨"list",_,slot_list_getitem.lookup,p.isList.typeIs,wpAny_getItem_list_slice p.isList hs pl pu .none (by simp) ?_ (by rw[zH];omega)⟩
 rw[W.kmk_pick_nat its.toArray (yu lo hi its.toArray.size)]
 have e:((its.toArray.toList.drop (HT.dF its.toArray.size 0 lo)).take (HT.dF its.toArray.size its.toArray.size hi - HT.dF its.toArray.size 0 lo))=cut its lo hi:=by unfold cut;simp
 rw[e]
 have rc:aF (cut xs lo hi) (cut its lo hi):=by unfold cut;rw[hlen];exact (r.drop _).take _
 exact⟨.ref s.heap.objs.size,_,I.lnew (t':=s.toks) rc (yE (HP xs lo hi) hz),rfl,q _ I.fresh⟩
def OJ(K:W.Frag)(f:Env->Option (Option Int)):TO:=fun σ H Q=>∃HF ρ o,bc HF H/\cW K HF ρ σ/\f ρ=some o/\∀H' HF',cF HF H HF' H'->Q o H'
def DO(X:Cx)(e:Option Expr)(f:Env->Option (Option Int)):Prop:=PO X e (OJ X.K f)
noncomputable def fF:Env->Option (Option Int):=fun _=>some none
noncomputable def gI:D->Option Int|.int i=>some i|_=>none
noncomputable def oT(f:Env->Option D):Env->Option (Option Int):=fun ρ=>(f ρ).bind fun d=>(gI d).map some
theorem HV:DO X none fF:=fun pins s σ H Q I ⟨HF,ρ,o,sm,eo,hf,q⟩=>FS pins s σ H Q I (by cases hf;exact q H HF (.refl sm))
theorem FR{e:Expr}{f:Env->Option D}(h:DE X e f):DO X (some e) (oT f):=fun pins s σ H Q I ⟨HF,ρ,o,sm,eo,hf,q⟩=>ox h pins s σ H Q I (by
 obtain⟨d,hd,hf⟩:=bs hf
 obtain⟨i,hi,rfl⟩:=ag hf
 cases d<;>try cases hi
 exact⟨HF,ρ,_,sm,eo,hd,fun v H1 HF1 g1 r1=>⟨_,by simpa only[Rep] using r1,q H1 HF1 g1⟩⟩)
variable {a:Expr}{lo hi:Option Expr}{fa:Env->Option D}{fl fh:Env->Option (Option Int)}{pos p2:Pos}
noncomputable def fM{β:Type}(g:D->Option Int->Option Int->Option β)(fa:Env->Option D)(fl fh:Env->Option (Option Int)):Env->Option β:=fun ρ=>(fa ρ).bind fun x=>(fl ρ).bind fun l=>(fh ρ).bind fun h=>g x l h
end
theorem vU{α β:Type}{f g:α->Option β}:∀ {l:List α},(∀x∈l,f x=g x)->l.filterMap f=l.filterMap g
 | [],_=>rfl
 | x::l,h=>by rw[List.filterMap_cons,List.filterMap_cons,h x zE,vU fun y hy=>h y (zC _ hy)]
theorem ED(xs:List Value):((List.range xs.length).filterMap fun (k:Nat)=>xs.toArray[(((xs.length:Nat):Int) - 1+(k:Int) * (-1)).toNat]?)=xs.reverse:=by
 have e:∀k∈List.range xs.length,xs.toArray[(((xs.length:Nat):Int) - 1+(k:Int) * (-1)).toNat]?=xs.reverse[k]?:=fun k hk=>by
  have hk':k < xs.length:=by simpa using hk
  have:(((xs.length:Nat):Int) - 1+(k:Int) * (-1)).toNat=xs.length - 1 - k:=by omega
  rw[this,List.getElem?_toArray,List.getElem?_reverse hk']
 rw[vU e]
 have:=xs.length_reverse
 apply List.ext_getElem?
 intro i
 have key:∀ (l:List Value),(List.range l.length).filterMap (fun (k:Nat)=>l[k]?)=l:=fun l=>by
  induction l with
  | nil=>rfl
  | cons x l ih =>
   rw[zL,List.range_succ_eq_map,List.filterMap_cons]
   simp only[List.getElem?_cons_zero]
   rw[List.filterMap_map]
   congr 1
 have k2:=key xs.reverse
 rw[List.length_reverse] at k2
 rw[k2]
theorem FW{prog:Program}{w:World}{A:Around}{E:Value->Shared->Prop}{s:Shared}{t sl:Addr}{its:List Value}{tk:Tok}{Q:Value->Shared->Prop}(ht:IsTup s.heap t its.toArray)(hs:s.heap.IsSliceOf sl .none .none (.int (-1) tk))
  (hz:its.length<=sizeLine) (h:Q (.ref s.heap.objs.size) { s with heap:=s.heap.push { cls:=.type "tuple",data:=.seq its.reverse.toArray } }):wpAny (model prog w) A (getItem (.ref t) (.ref sl)) Q E s:=by
 obtain⟨os,hos,hcs,hds⟩:=id hs
 have hTs:s.TypeIs (.ref sl) "slice":=⟨os,hos,hcs⟩
 unfold getItem
 try with_reducible refine wpAny_holding ?_
 first|refine zW (zX ?_)|skip
 refine zW (wpAny_sequenceKey ht.typeIs (by decide) (zW (wpAny_callSpecial?_slot (name:=Str.ofString "__getitem__") ht.typeIs PyProof.Rows.slot_tuple_getitem (wpAny_call_entry PyProof.Rows.slot_tuple_getitem ht.typeIs entry_tuple_getitem ?_ (args_tuple_getitem _ _)))))
 refine zW (m:=Builtin.Tuple.tupleItemsOf (.ref t)) (tupleItemsOf_ ht (zW (wpAny_typeOf hTs ?_)))
 rw[if_pos (by decide)]
 have hap:∀ {R:Int×Int×Nat->Shared->Prop},R (((its.length:Nat):Int) - 1,-1,its.length) s->wpAny (model prog w) A.in1 (Builtin.Slice.sliceApplied (.ref sl) (pure ((its.toArray.size:Nat):Int))) R E s:=fun {R} hR=>by
  unfold Builtin.Slice.sliceApplied Builtin.Slice.sliceFields
  refine zW (zW (wpAny_field hos hds (x:=.none) rfl (zW (wpAny_field hos hds (x:=.none) rfl (zW (wpAny_field hos hds (x:=.int (-1) tk) rfl (zX ?_)))))))
  refine zW (slicePart_int ?_)
  show wpAny _ _ (if ((-1:Int) == 0)=true then _ else _) _ _ s
  rw[if_neg (by decide)]
  refine zW (slicePart_none (zW (slicePart_none (zW (zX ?_)))))
  have e1:Builtin.Slice.sliceAdjust none none (-1) ((its.toArray.size:Nat):Int)=(((its.length:Nat):Int) - 1,-1):=by simp[Builtin.Slice.sliceAdjust]
  show wpAny _ _ (match Builtin.Slice.sliceAdjust none none (-1) ((its.toArray.size:Nat):Int) with|(lo,hi)=>pure (lo,(-1:Int),Builtin.Slice.slicePlaces lo hi (-1))) _ _ s
  rw[e1]
  have e2:Builtin.Slice.slicePlaces (((its.length:Nat):Int) - 1) (-1) (-1)=its.length:=by
   unfold Builtin.Slice.slicePlaces
   rw[if_neg (by decide)]
   simp only[Int.neg_neg,Int.ediv_one]
   split<;>omega
  show wpAny _ _ (pure (((its.length:Nat):Int) - 1,(-1:Int),Builtin.Slice.slicePlaces (((its.length:Nat):Int) - 1) (-1) (-1))) _ _ s
  rw[e2]
  exact zX hR
 first
  | refine zW (hap ?_)
  | refine zW (wpAny_of_in1 (hap ?_))
 show wpAny _ _ (if ((((its.length:Nat):Int) - 1) == 0&&(-1:Int) == 1&&its.length == its.toArray.size)=true then _ else _) _ _ s
 rw[if_neg (by simp),ED]
 have hz':sizeOk (.seq its.reverse.toArray):=by show its.reverse.toArray.size<=sizeLine;simpa using hz
 first
  | exact zW (m:=Builtin.Tuple.tupleExact _) (wpAny_newObj_type (zX ⟨_,rfl,zX h⟩) hz')
  | exact zW (m:=Builtin.Tuple.tupleExact _) (wpAny_newObj_type (zW (zX (zX ⟨_,rfl,zX h⟩))) hz')
  | exact zW (zW (m:=Builtin.Tuple.tupleExact _) (wpAny_newObj_type (zX (zX ⟨_,rfl,zX h⟩)) hz'))
  | exact zW (zW (m:=Builtin.Tuple.tupleExact _) (wpAny_newObj_type (zX ⟨_,rfl,zX h⟩) hz'))
section
variable {X:Cx}{a:Expr}{fa:Env->Option D}{pos p2 p3 p4:Pos}{j:Nat}
theorem JZ{ta:TE}(ha:PE X a ta):PE X (.Subscript a (.Slice none none (some (.UnaryOp .USub (.Constant (.int 1) j p4) p3)) p2) pos) (fun σ H Q=>ta σ H fun x H1=>∃b xs,x=.ref b/\jQ X.K H1 b xs/\∀p,H1 p=none->Q (.ref p) (upd H1 p (.tup xs.reverse))):=by
 intro pins s σ H Q I h
 refine Subscript_ (cg (ha pins s σ H _ I h) fun v s1 ⟨x,H1,I1,r1,b,xs,e,hq,q⟩=>?_)
 subst e
 cases r1
 refine wpAny_Slice ?_
 rw[evalPart_none]
 refine zX (zX ?_)
 have hst:=ox (X:=X) (DJ (op:=.USub) xB (uP (X:=X) (i:=1) (j:=j) (pos:=p4)) (pos:=p3)) pins s1 σ H1 (fun o H'=>o=some (-1)/\H'=H1) I1 ⟨1,rfl,-1,rfl,rfl,rfl⟩
 refine cg hst fun vst s2 ⟨o,H2,I2,pst,e1,e2⟩=>?_
 subst e1 e2
 cases pst with
 | int _ tk =>
 obtain⟨its,r,ht,hz⟩:=I2.tuple hq
 have I4:Inv X pins σ H2 { s2 with heap:=s2.heap.push { cls:=.type "slice",data:=.fields #[.none,.none,.int (-1) tk] } }:=I2.kept (t':=s2.toks) fun b ob q=>zV _ q
 obtain⟨its',r',ht',_⟩:=I4.tuple hq
 refine tail_any (ops:=[.ref b,.ref s2.heap.objs.size]) ht'.typeIs PyProof.Rows.slot_tuple_getitem.lookup (FW ht' (Heap.IsSliceOf.new ..) (by rw[<- r'.length];exact hz) ?_) (by with_unfolding_all rfl)
 have hv:aF xs.reverse its'.reverse:=L2.aF.reverse r'
 exact⟨.ref _,_,I4.laid (t':=s2.toks) (o:=.tup xs.reverse) (fun b ob q=>zV _ q) (Nat.le_refl _) ⟨by rw[List.length_reverse];exact hz,_,hv,mJ.new _ _⟩,rfl,q _ I4.fresh⟩
noncomputable def My:D->Option D|.tuple ds=>some (.tuple ds.reverse)|_=>none
noncomputable def f1(g:D->Option D)(f:Env->Option D):Env->Option D:=fun ρ=>(f ρ).bind g
theorem J8(ha:DE X a fa):DE X (.Subscript a (.Slice none none (some (.UnaryOp .USub (.Constant (.int 1) j p4) p3)) p2) pos) (f1 My fa):=aR (JZ ha) fun σ H Q ⟨HF,ρ,d,sm,eo,hf,q⟩=>by
 obtain⟨x,hx,hf⟩:=bs hf
 refine⟨HF,ρ,x,sm,eo,hx,fun v1 H1 HF1 g1 r1=>?_⟩
 cases x<;>try cases hf
 simp only[Rep] at r1
 obtain⟨b,vs,rfl,hs,rr⟩:=r1
 exact⟨b,vs,rfl,aC g1.fh hs,fun p hp=>q _ _ _ (g1.trans (.new g1.fh hp)) (cT (g1.fh.free hp) rr.reverse)⟩
end
end Dl
namespace HT
open PySem PyProof.Rows
section
open PySem.SeqAt
open PySem.AutoSeq1 (wpAny_loadPart')
open PySem.MeetsSeq PySem.MeetsSeq2 PySem.MeetsSeq3
theorem EF(A:Around)(s:Shared)(a:Int)(t:Tok)(c:Int)(u:Tok)(prog:Program)(w:World)(E:Value->Shared->Prop)(Q:Value->Shared->Prop)(h:Q (.bool (decide (c<=a))) s) :
  wpAny (model prog w) A (richCompare .GtE (.int a t) (.int c u)) Q E s :=
 (PyProof.Rows.ge_int h:wpAny (model prog w) A (compareOp .GtE (.int a t) (.int c u)) Q E s)
theorem qS(l b:Addr)(items items2:Array Value)(n n2:Nat)(dd dd2:Option Addr)(sl sl2:Array (Option Value))(ns ms:List Int)(hi:IntsAre items.toList ns)(hj:IntsAre items2.toList ms) :
  Meets (Builtin.«tuple.__ge__» ⟨[.ref l,.ref b],[]⟩)
   (fun _ R s=>s.heap.get? l=some { cls:=.type "tuple",dict:=dd,data:=.seq items n,slots:=sl }/\s.heap.get? b=some { cls:=.type "tuple",dict:=dd2,data:=.seq items2 n2,slots:=sl2 } /\
    R (.ok (.ret (.bool (!lexLt ns ms)))) s) :=
 .of_wp fun prog w A R s h=>by
  obtain⟨hp,g,d,tk,os⟩:=s;obtain⟨hl,hb,h⟩:=h
  have f2:=AutoSeq1.sub_tuple_tuple
  have z1:items.size=ns.length:=by rw[<- hi.length];simp
  have z2:items2.size=ms.length:=by rw[<- hj.length];simp
  wp_walk using wpAny_loadPart' hl,wpAny_loadPart' hb,wpAny_forIn_list _ (fun rest b s'=>b.1=none/\s'=⟨hp,g,d,tk,os⟩/\∃ (vs ws:List Value) (ns' ms':List Int),rest=vs.zip ws /\
   IntsAre vs ns'/\IntsAre ws ms'/\ns'.length+items2.size=ms'.length+items.size/\R (.ok (.ret (.bool (!lexLt ns' ms')))) ⟨hp,g,d,tk,os⟩) _
  case turn =>
   rintro⟨y,x⟩ rest b s' ⟨hb',rfl,vs,ws,ns',ms',hz,hvi,hwi,hlen,hR⟩
   cases hvi with
   | nil=>rw[List.zip_nil_left] at hz;cases hz
   | cons a t hvi' =>
    cases hwi with
    | nil=>rw[List.zip_nil_right] at hz;cases hz
    | cons c u hwi' =>
     rw[List.zip_cons_cons] at hz
     injection hz with hyx hrest
     injection hyx with hy hx
     subst hy hx
     rw[dA] at hR
     simp only[zL] at hlen
     obtain⟨e,he,hiff⟩:=DP A.in1 ⟨hp,g,d,tk,os⟩ a t c u
     refine zW (he prog w _ _ ?_)
     cases e with
     | true =>
      rw[if_pos (hiff.mp rfl)] at hR
      wp_walk
      exact⟨rfl,rfl,_,_,_,_,hrest,hvi',hwi',by omega,hR⟩
     | false =>
      rw[if_neg (fun q=>absurd (hiff.mpr q) Bool.false_ne_true)] at hR
      have hri:=EF A.in1 ⟨hp,g,d,tk,os⟩ a t c u prog w
      have e1:(!decide (a < c))=decide (c<=a):=by
       rw[<- decide_not]
       exact decide_eq_decide.mpr (by omega)
      rw[e1] at hR
      wp_walk using hri
      exact⟨_,rfl,hR⟩
  case fin =>
   rintro⟨b1,b2⟩ s' ⟨hb',rfl,vs,ws,ns',ms',hz,hvi,hwi,hlen,hR⟩
   simp only at hb'
   subst hb'
   have hv:lexLt ns' ms'=decide (items.size < items2.size):=by
    cases hvi with
    | nil =>
     cases hwi with
     | nil =>
      simp only[List.length_nil] at hlen
      rw[rl]
      exact (yA (by omega)).symm
     | cons c u hw =>
      simp only[List.length_nil,zL] at hlen
      rw[pb]
      exact (yB (by omega)).symm
    | cons a t hv =>
     cases hwi with
     | nil =>
      simp only[List.length_nil,zL] at hlen
      rw[p6]
      exact (yA (by omega)).symm
     | cons c u hw =>
      rw[List.zip_cons_cons] at hz
      cases hz
   have hv2:(!lexLt ns' ms')=decide (items.size >= items2.size):=by
    rw[hv,<- decide_not]
    exact decide_eq_decide.mpr (by omega)
   rw[hv2] at hR
   wp_walk
   exact⟨_,rfl,hR⟩
  case h =>
   exact⟨rfl,rfl,items.toList,items2.toList,ns,ms,rfl,hi,hj,by omega,h⟩
end
end HT
namespace Dl
open PySem L2 PySem.Spec PyProof.Rows
section
variable {X:Cx}
noncomputable def lN:D->Option (List Int)|.tuple ds=>intsOf ds|_=>none
theorem jm{x:D}{ns:List Int}(h:lN x=some ns):x=.tuple (ns.map PyData.int):=by
 cases x<;>try cases h
 rename_i xs
 have h:intsOf xs=some ns:=h
 rw[dH h]
noncomputable def LX:D->D->Option Bool:=fun x y=>(lN x).bind fun ns=>(lN y).map fun ms=>!lexLt ns ms
theorem Du(hu:X.A.units < cLine):ij X (compareOp .GtE) (ME X.K LX):=by
 intro pins s σ H v1 v2 u1 u2 Q I rx ry h
 obtain⟨HF,x,y,k,sm,r1,r2,hg,q⟩:=h
 obtain⟨ns,h1,hg⟩:=bs hg
 obtain⟨ms,h2,rfl⟩:=ag hg
 rw[jm h1] at r1
 rw[jm h2] at r2
 have key:∀ {ns:List Int}{v:V}{u:Value},Rep X.K HF (.tuple (ns.map PyData.int)) v->RelV v u->∃a its,u=.ref a/\IsTup s.heap a its/\IntsAre its.toList ns:=fun {ns v u} r rv=>by
  have p:vy s.heap u ns:=by
   cases mv (X:=X) (us:=[u]) (vs:=[v]) (nss:=[ns]) I sm (av.cons r av.nil) (.cons rv .nil) with
   | cons p _=>exact p
  obtain⟨a,o,its,n,rfl,e1,e2,e3,e4⟩:=p.ex
  exact⟨a,its,rfl,⟨o,e1,e2,n,e3⟩,e4⟩
 obtain⟨a,its,rfl,⟨⟨cls,dd,data,sl⟩,ho,hc,n,hd⟩,i1⟩:=key r1 rx
 obtain⟨b,its2,rfl,⟨⟨cls2,dd2,data2,sl2⟩,ho2,hc2,n2,hd2⟩,i2⟩:=key r2 ry
 simp only at hc hd hc2 hd2
 subst hc hd hc2 hd2
 exact richCompare_meets_room (op:=.GtE) ⟨_,ho,rfl⟩ ⟨_,ho2,rfl⟩ PySem.F.slot_tuple_ge PySem.F.entry_tuple_ge (PySem.F.args_tuple_ge_2 _ _) (HT.qS a b its its2 n n2 dd dd2 sl sl2 ns ms i1 i2)
  ⟨ho,ho2,show Value.bool (!lexLt ns ms)≠Value.notImplemented/\EP X pins σ Q (.bool (!lexLt ns ms)) s from ⟨(fun x=>nomatch x),⟨.bl _,H,I,rfl,q⟩⟩⟩ hu
end
end Dl
namespace En
open PySem PyProof.Rows
open AutoSeq1 (wpAny_loadPart')
theorem noFill_tup:fillsNumberSlot (.type "tuple") "mul"=pure false:=PySem.fillsNumberSlot_seq (id:="tuple.__mul__") (r:=some (.builtin "tuple.__rmul__")) F.slot_tuple_mul.lookup (by decide +kernel) F.slot_tuple_rmul.lookup (by decide +kernel)
theorem repeat_tup:seqRepeat? (.type "tuple")=pure (some (.builtin "tuple.__mul__")):=by
 unfold seqRepeat?
 rw[PySem.seqSlot_of (T:="tuple") (name:="__mul__") (id:="tuple.__mul__") F.slot_tuple_mul.lookup (by decide +kernel),PySem.seqSlot_of (T:="tuple") (name:="__rmul__") (id:="tuple.__rmul__") F.slot_tuple_rmul.lookup (by decide +kernel)];rfl
theorem rmul_tup(a:Int)(t:Tok)(l:Addr)(its:Array Value)(n:Nat)(dd:Option Addr)(sl:Array (Option Value)) :
  Meets (Builtin.«int.__rmul__» ⟨[.int a t,.ref l],[]⟩) (fun _ R s=>s.heap.get? l=some { cls:=.type "tuple",dict:=dd,data:=.seq its n,slots:=sl }/\R (.ok (.ret Value.notImplemented)) s) :=
 .of_wp fun prog w A R s h=>by
  obtain⟨hp,g,d,tk,os⟩:=s;obtain⟨hl,h⟩:=h
  wp_walk
  exact⟨_,rfl,h⟩
theorem mulT_same(l:Addr)(its:Array Value)(n:Nat)(dd:Option Addr)(sl:Array (Option Value))(k:Int)(t:Tok)(h1:¬ (decide (k < -(2 ^ 63))||decide (k >= 2 ^ 63))=true)(h2:(its.isEmpty||k == 1)=true) :
  Meets (Builtin.«tuple.__mul__» ⟨[.ref l,.int k t],[]⟩) (fun _ R s=>s.heap.get? l=some { cls:=.type "tuple",dict:=dd,data:=.seq its n,slots:=sl }/\R (.ok (.ret (.ref l))) s) :=
 .of_wp fun prog w A R s h=>by
  obtain⟨hp,g,d,tk,os⟩:=s;obtain⟨hl,h⟩:=h
  have f1:=AutoSeq1.idx_int
  wp_walk using wpAny_loadPart' hl
  rw[if_neg h1]
  wp_walk using wpAny_loadPart' hl
  exact⟨_,rfl,h⟩
theorem mulT_none(l:Addr)(its:Array Value)(n:Nat)(dd:Option Addr)(sl:Array (Option Value))(k:Int)(t:Tok)(h1:¬ (decide (k < -(2 ^ 63))||decide (k >= 2 ^ 63))=true)(h2:¬ (its.isEmpty||k == 1)=true)(h3:(decide (k<=0)||its.isEmpty)=true) :
  Meets (Builtin.«tuple.__mul__» ⟨[.ref l,.int k t],[]⟩) (fun _ R s=>s.heap.get? l=some { cls:=.type "tuple",dict:=dd,data:=.seq its n,slots:=sl }/\R (.ok (.ret (.ref s.heap.objs.size))) { s with heap:=s.heap.push { cls:=.type "tuple",data:=.seq #[] } }) :=
 .of_wp fun prog w A R s h=>by
  obtain⟨hp,g,d,tk,os⟩:=s;obtain⟨hl,h⟩:=h
  have f1:=AutoSeq1.idx_int
  wp_walk using wpAny_loadPart' hl
  rw[if_neg h1]
  wp_walk using wpAny_loadPart' hl
  exact⟨_,rfl,h⟩
theorem mulT_many(l:Addr)(its:Array Value)(n:Nat)(dd:Option Addr)(sl:Array (Option Value))(k:Int)(t:Tok)(h1:¬ (decide (k < -(2 ^ 63))||decide (k >= 2 ^ 63))=true)(h2:¬ (its.isEmpty||k == 1)=true)(h3:¬ (decide (k<=0)||its.isEmpty)=true)
  (h4:¬ ((its.size:Nat):Int) * k > (2 ^ 63 - 1) / 8) (h5:¬ Builtin.Tuple.tupleTooMany (((its.size:Nat):Int) * k)=true) (hz:((List.replicate k.toNat its).foldl (·++·) #[]).size<=sizeLine) :
  Meets (Builtin.«tuple.__mul__» ⟨[.ref l,.int k t],[]⟩) (fun _ R s=>s.heap.get? l=some { cls:=.type "tuple",dict:=dd,data:=.seq its n,slots:=sl }/\R (.ok (.ret (.ref s.heap.objs.size))) { s with heap:=s.heap.push { cls:=.type "tuple",data:=.seq ((List.replicate k.toNat its).foldl (·++·) #[]) } }) :=
 .of_wp fun prog w A R s h=>by
  obtain⟨hp,g,d,tk,os⟩:=s;obtain⟨hl,h⟩:=h
  have f1:=AutoSeq1.idx_int
  wp_walk using wpAny_loadPart' hl
  rw[if_neg h1]
  wp_walk using wpAny_loadPart' hl
  rw[if_neg h4]
  wp_walk using wpAny_loadPart' hl
  exact⟨_,rfl,h⟩
end En
namespace Dl
open PySem L2 PySem.Spec PyProof.Rows
section
variable {X:Cx}
def Iz(K:W.Frag):R2:=fun x y H Q=>∃a k xs,x=.ref a/\y=.int k/\jQ K H a xs/\-(2 ^ 62)<=k/\k < 2 ^ 62/\xs.length * k.toNat<=sizeLine/\((List.replicate k.toNat xs).flatten=xs->Q (.ref a) H) /\
 ∀p,H p=none->Q (.ref p) (upd H p (.tup (List.replicate k.toNat xs).flatten))
theorem Ho:ij X (binaryOp .Mult) (Iz X.K):=by
 intro pins s σ H x y v u Q I rx ry h
 obtain⟨a,k,xs,rfl,rfl,hq,k1,k2,hz,q1,q2⟩:=h
 cases rx
 obtain⟨t,rfl⟩:=ry
 obtain⟨its,r,pl,hzx⟩:=I.tuple hq
 have hl:=r.length
 obtain⟨⟨cls,dd,data,sl⟩,ho,hc,n,hd⟩:=id pl
 simp only at hc hd
 subst hc hd
 have b1:¬ (decide (k < -(2 ^ 63))||decide (k >= 2 ^ 63))=true:=by
  simp only[Bool.or_eq_true,zJ]
  omega
 refine wpAny_binaryOp_repeat_ref (T:="tuple") (U:="int") (by decide) ⟨_,ho,rfl⟩ (fun s'=>typeIs_int s' k t) En.noFill_tup F.fills_int_mul F.slot_int_rmul En.repeat_tup F.slot_int_index.lookup
  (call_meets F.slot_int_rmul (typeIs_int s k t) F.entry_int_rmul (F.args_int_rmul_2 _ _) (En.rmul_tup k t a its.toArray n dd sl) ⟨ho,rfl,⟨_,ho,rfl⟩,?_⟩)
 have hfl:∀m:Nat,List.foldl (fun x1 x2=>x1++x2) #[] (List.replicate m its.toArray)=(List.replicate m its).flatten.toArray:=fun m=>by
  have:=foldl_rep its m []
  rw[List.nil_append] at this
  exact this
 by_cases h2:(its.toArray.isEmpty||k == 1)=true
 ·refine call_meets F.slot_tuple_mul ⟨_,ho,rfl⟩ F.entry_tuple_mul (F.args_tuple_mul_2 _ _) (En.mulT_same a its.toArray n dd sl k t b1 h2) ⟨ho,⟨.ref a,H,I,rfl,q1 ?_⟩⟩
  rw[Bool.or_eq_true] at h2
  rcases h2 with h2|h2
  ·have:xs=[]:=by
    have e:its=[]:=by simpa using h2
    rw[e] at hl
    exact List.length_eq_zero_iff.mp hl
   rw[this]
   simp
  ·have:k=1:=eq_of_beq h2
   subst this
   simp
 ·by_cases h3:(decide (k<=0)||its.toArray.isEmpty)=true
  ·refine call_meets F.slot_tuple_mul ⟨_,ho,rfl⟩ F.entry_tuple_mul (F.args_tuple_mul_2 _ _) (En.mulT_none a its.toArray n dd sl k t b1 h2 h3) ⟨ho,?_⟩
   have hk0:k.toNat=0:=by
    simp only[Bool.or_eq_true,zJ] at h3 h2
    rcases h3 with h3|h3
    ·omega
    ·exact absurd (.inl h3) h2
   have q3:=q2 s.heap.objs.size I.fresh
   rw[hk0] at q3
   exact⟨.ref s.heap.objs.size,_,I.laid (t':=s.toks) (o:=.tup []) (fun b ob q=>zV _ q) (Nat.le_refl _) ⟨Nat.zero_le _,[],.nil,mJ.new _ _⟩,rfl,q3⟩
  ·have hm:its.length * k.toNat<=sizeLine:=by rw[<- hl];exact hz
   have hkn:(k.toNat:Int)=k:=by
    simp only[Bool.or_eq_true,zJ,not_or] at h3
    omega
   have hmi:((its.toArray.size:Nat):Int) * k=((its.length * k.toNat:Nat):Int):=by rw[zH,Int.natCast_mul,hkn]
   have hv:=L2.aF.rep r k.toNat
   have hlen2:(List.replicate k.toNat xs).flatten.length<=sizeLine:=by rw[len_rep,Nat.mul_comm];exact hz
   have hs8:(sizeLine:Nat)<=(2 ^ 63 - 1) / 8:=by decide
   have h4:¬ ((its.toArray.size:Nat):Int) * k > (2 ^ 63 - 1) / 8:=by rw[hmi];omega
   have h5:¬ Builtin.Tuple.tupleTooMany (((its.toArray.size:Nat):Int) * k)=true:=by
    unfold Builtin.Tuple.tupleTooMany
    rw[hmi]
    simp only[zJ]
    omega
   refine call_meets F.slot_tuple_mul ⟨_,ho,rfl⟩ F.entry_tuple_mul (F.args_tuple_mul_2 _ _) (En.mulT_many a its.toArray n dd sl k t b1 h2 h3 h4 h5 (by rw[hfl,zH,<- hv.length];exact hlen2)) ⟨ho,?_⟩
   rw[hfl]
   exact⟨.ref s.heap.objs.size,_,I.laid (t':=s.toks) (o:=.tup (List.replicate k.toNat xs).flatten) (fun b ob q=>zV _ q) (Nat.le_refl _) ⟨hlen2,_,hv,mJ.new _ _⟩,rfl,q2 _ I.fresh⟩
noncomputable def vf:D->D->Option D
 | .tuple ds,.int k=>if xq k=true/\ds.length * k.toNat<=sizeLine then some (.tuple (List.replicate k.toNat ds).flatten) else none
 | _,_=>none
theorem ml{K:W.Frag}{HF:Hp}{ds:List D}{vs:List V}(r:av K HF ds vs):∀k:Nat,av K HF (List.replicate k ds).flatten (List.replicate k vs).flatten
 | 0=>av.nil
 | k+1=>by rw[List.replicate_succ,List.replicate_succ,List.flatten_cons,List.flatten_cons];exact r.append (ml r k)
theorem C7{K:W.Frag}:fN K (Iz K) vf:=by
 intro HF H x y v1 v2 d Q sm r1 r2 hg q
 cases x<;>cases y<;>simp only[vf] at hg<;>try cases hg
 split at hg
 ·rename_i xs k hh
  cases hg
  simp only[Rep] at r1 r2
  obtain⟨a,vs,rfl,ha,ra⟩:=r1
  have ok:=hh.1
  unfold xq at ok
  rw[zF] at ok
  refine⟨a,k,vs,rfl,r2,aC sm ha,of_decide_eq_true ok.1,of_decide_eq_true ok.2,by rw[ra.length];exact hh.2,fun e=>q _ H HF (.refl sm) ?_,fun p hp=>q _ _ _ (.new sm hp) (cT (sm.free hp) (ml ra _))⟩
  simp only[Rep]
  refine⟨a,vs,rfl,ha,?_⟩
  have:=ml ra k.toNat
  rw[e] at this
  exact this
 ·cases hg
end
end Dl
namespace En
open PySem PyProof.Rows
section
variable {prog:Program}{w:World}{A:Around}{E:Value->Shared->Prop}{s:Shared}
theorem call_setT{l:Addr}{its:Array Value}{ns:List Int}{Q:Value->Shared->Prop}(hh:A.handled=none)(hl:s.heap.IsTuple l its)(hi:IntsAre its.toList ns)(hb:its.size+1 < scanBound)
  (h:∀ (h':Heap) (tk:Nat),h'.SetOf (intKind prog w) s.heap.objs.size (fun k'=>(firstMet (fun i=>ns.getD i 0) its.size).any (· == k')) (firstMet (fun i=>ns.getD i 0) its.size).length->(∀b o,b < s.heap.objs.size->s.heap.get? b=some o->h'.get? b=some o)->Q (.ref s.heap.objs.size) { s with heap:=h',toks:=tk }) :
  wpAny (model prog w) A (call (.type "set") [.ref l]) Q E s:=by
 obtain⟨c,tl,hmro⟩:=F.called_set.mro
 have hmade:=F.called_set.made
 have hsub:=F.called_set.sub
 refine wpAny_call (codeAny_of_tree ?_);show wpAny _ _ (callAny (.type "set") _) _ _ _
 refine zX ⟨Code.quiet_builtin _ (by decide +kernel),codeAny_builtin F.entry_type_call ?_⟩
 rw[Around.under_plain (weight_type_call_type "set" [.ref l] []) rfl]
 have h1:=F.called_set.notType
 have h2:=F.called_set.canCreate
 have hct:=F.typeCall_set_1 (.ref l)
 repeat (any_goals (first|assumption|wp_step))
 refine codeAny_mono (code_set_new_1 (.ref l) (E:=E) (Q₁:=fun obj s1=>∃led:Bool,obj=.ref s.heap.objs.size/\s1={ s with heap:=s.heap.push { cls:=.type "set",dict:=none,data:=.set #[] 0 (.fresh 0 0 led) } }) fun led=>⟨led,rfl,rfl⟩) fun r s1 hr=>?_
 cases r with
 | error e=>exact hr
 | ok fl =>
  cases fl with
  | ret obj =>
   obtain⟨led,rfl,rfl⟩:=hr
   have hS:(s.heap.push { cls:=.type "set",dict:=none,data:=.set #[] 0 (.fresh 0 0 led) }).get? s.heap.objs.size=some { cls:=.type "set",dict:=none,data:=.set #[] 0 (.fresh 0 0 led) }:=by exact zY _ rfl
   have hT:Shared.TypeIs { s with heap:=s.heap.push { cls:=.type "set",dict:=none,data:=.set #[] 0 (.fresh 0 0 led) } } (.ref s.heap.objs.size) "set":=⟨_,hS,rfl⟩
   have hli:=F.called_set.init.lookup
   have hbi:=F.called_set.init.bind (.ref s.heap.objs.size)
   repeat (any_goals (first|assumption|wp_step))
   refine codeAny_mono (codeAny_call_builtin (R:=wants (fun r s2=>r=.none/\∃h' tk,s2={ s with heap:=h',toks:=tk }/\h'.SetOf (intKind prog w) s.heap.objs.size (fun k'=>(firstMet (fun i=>ns.getD i 0) its.size).any (· == k')) (firstMet (fun i=>ns.getD i 0) its.size).length /\
     (∀b o,b < s.heap.objs.size->s.heap.get? b=some o->h'.get? b=some o)) E) F.called_set.init.plain F.entry_set_init (check_set_init_1 hT ?_)) fun r2 s2 hr2=>?_
   ·obtain⟨ol,hol,hcl,nl,hdl⟩:=hl
    obtain⟨ocls,odict,odata,oslots⟩:=ol
    simp only at hcl hdl
    subst hcl hdl
    have hol':(s.heap.push { cls:=.type "set",dict:=none,data:=.set #[] 0 (.fresh 0 0 led) }).get? l=some { cls:=.type "tuple",dict:=odict,data:=.seq its nl,slots:=oslots }:=zV _ hol
    have hsls:=F.sub_tuple_set
    have hslf:=F.sub_tuple_frozenset
    have hne:(Value.type "tuple" == Value.type "dict")=false:=by decide
    have hl1:(s.heap.push { cls:=.type "set",dict:=none,data:=.set #[] 0 (.fresh 0 0 led) }).IsTuple l its:=⟨_,hol',rfl,nl,rfl⟩
    unfold Builtin.«set.__init__» noKeywords Builtin.Frozenset.updateFrom
    generalize hPI:pyIter=PI
    wp_walk
    subst hPI
    refine wpAny_pyIter_tuple hl1 (zW (wpAny_runValue ?_))
    have hlS:l < s.heap.objs.size:=zZ hol
    have hh3:A.in1.in1.in1.handled=none:=by simp[hh]
    have hneI:l≠(s.heap.push { cls:=.type "set",dict:=none,data:=.set #[] 0 (.fresh 0 0 led) }).objs.size:=by rw[Heap.size_push];exact Nat.ne_of_lt (Nat.lt_succ_of_lt hlS)
    have hSf:s.heap.objs.size∉[(s.heap.push { cls:=.type "set",dict:=none,data:=.set #[] 0 (.fresh 0 0 led) }).objs.size,l]:=by
     rw[Heap.size_push];simp only[zR,yG,or_false,not_or]
     exact⟨Nat.ne_of_lt (Nat.lt_succ_self _),Nat.ne_of_gt hlS⟩
    have hval:∀ (i:Nat) (v:Value),its[i]?=some v->∃t,v=.int ((fun i=>ns.getD i 0) i) t:=fun i v hv=>IntsAre.int_at hi i v (by rw[Array.getElem?_toList];exact hv)
    refine codeAny_set_update_loopS ((Walks.tuple hh3 _ l hneI its).toS) s.heap.objs.size hSf (fun i=>ns.getD i 0) hval hb (its.size - 0) 0 _ (by omega) (Nat.zero_le _) ⟨⟨_,zY _ rfl,rfl,rfl⟩,?ht⟩ ?hS0 ?hR
    case ht=>exact⟨_,zV _ hol',rfl,nl,rfl⟩
    case hS0 =>
     have hget:((s.heap.push { cls:=.type "set",dict:=none,data:=.set #[] 0 (.fresh 0 0 led) }).push { cls:=.type "tuple_iterator",data:=.fields #[.ref l,.int 0 0] }).get? s.heap.objs.size=some { cls:=.type "set",dict:=none,data:=.set #[] 0 (.fresh 0 0 led) }:=by exact zV _ hS
     exact SetOf_congr ((setObjOf_fresh (knd:=intKind prog w) led).setOf hget (by unfold scanBound;omega)) (fun _=>rfl) rfl
    case hR =>
     intro s' hm hS'
     obtain⟨h',g',d',tk',os'⟩:=s'
     have eg:g'=s.gens:=hm.gens
     have ed:d'=s.drawn:=hm.drawn
     have eo:os'=s.os:=hm.os
     subst eg ed eo
     show wpAny _ _ _ _ _ _
     refine zX ?_
     show wpAny _ _ (ret Value.none) _ _ _
     refine zX ⟨rfl,h',tk',rfl,hS',fun b o hb' e=>?_⟩
     refine hm.heap b o ?_ (zV _ (zV _ e))
     simp only[zR,yG,or_false,not_or]
     exact⟨Nat.ne_of_lt hb',by rw[Heap.size_push];exact Nat.ne_of_lt (Nat.lt_succ_of_lt hb')⟩
   ·cases r2 with
    | error e=>exact hr2
    | ok fl2 =>
     cases fl2 with
     | ret r =>
      obtain⟨rfl,h',tk,rfl,hS',hk'⟩:=hr2
      repeat (any_goals (first|assumption|wp_step))
      exact h _ _ hS' hk'
     | _=>exact hr2.elim
  | _=>exact hr.elim
end
end En
namespace Dl
open PySem L2 PySem.Spec PyProof.Rows
noncomputable def many(ns:List Int):Nat:=(firstMet (fun i=>ns.getD i 0) ns.length).length
section
variable {X:Cx}{e:Expr}{f:Env->Option D}{pos p p' pos':Pos}
theorem A5(hc:X.calm=true):d6 X (.type "set") (fun xs H Q=>∃ (a:Addr) (ns:List Int),xs=[.ref a]/\jQ X.K H a (ns.map V.int)/\ns.length+1 < scanBound/\∀q S,H q=none->Q (.ref q) (upd H q (.set S (many ns)))):=by
 intro pins s σ H xs us Q I r h
 obtain⟨a,ns,rfl,hq,hb,q⟩:=h
 obtain⟨u,rfl,rx⟩:=vals1 r
 cases rx
 obtain⟨its,rv,pl,hz⟩:=I.tuple hq
 have hi:IntsAre its.toArray.toList ns:=intsAre_of rv
 have hlen:its.toArray.size=ns.length:=by have:=rv.length;simpa using this.symm
 refine En.call_setT (I.ok.hd hc) (show s.heap.IsTuple a its.toArray from pl) hi (by rw[hlen];exact hb) fun h' tk hS hk=>?_
 rw[hlen] at hS
 exact⟨.ref s.heap.objs.size,_,I.laid (t':=tk) (fun b o e=>hk b o (zZ e) e) (Nat.le_refl _) (show eX X.prog X.w _ h' _ (.set _ (many ns)) from hS),rfl,q _ _ I.fresh⟩
theorem BY:d6 X (.builtin "len") (fun xs H Q=>∃ (a:Addr) (S:Int->Bool) (n:Nat),xs=[.ref a]/\H a=some (.set S n)/\Q (.int n) H):=by
 intro pins s σ H xs us Q I r h
 obtain⟨a,S,n,rfl,hq,q⟩:=h
 obtain⟨u,rfl,rx⟩:=vals1 r
 cases rx
 obtain⟨o,es,ep,t,ho,hex,hd,hel,hmem,hlt,hf,hn⟩:=(show s.heap.SetOf (intKind X.prog X.w) a S n from I.hok a _ hq)
 have hfit:((es.size:Nat):Int) < 2 ^ 63:=by unfold scanBound at hlt;omega
 refine call_len_set ho hex hd hf hfit ⟨.int n,H,I.tok _,⟨s.toks+1,by rw[hn]⟩,q⟩
noncomputable def kc:D->Option D:=fun d=>(lN d).bind fun ns=>if ns.length+1 < scanBound then some (.int (many ns)) else none
theorem Bi(hc:X.calm=true)(B:mM X "len" (.builtin "len"))(C:mM X "set" (.type "set"))(h:DE X e f)(he:starEach [e] X.env=(false,eval e X.env)::starEach [] X.env:=by rfl) :
  DE X (.Call (.Name "len" p) [.Call (.Name "set" p') [e] [] pos'] [] pos) (f1 kc f) :=
 aR (l7 BY B.gl B.mg B.bt (dw (nA (A5 hc) C.gl C.mg C.bt (dw h hJ he) (by decide) (by decide) he rfl) hJ) (by decide) (by decide) rfl rfl) fun σ H Q ⟨HF,ρ,d,sm,eo,hf,q⟩=>by
  obtain⟨x,hx,hf⟩:=bs hf
  obtain⟨ns,h1,hf⟩:=bs hf
  split at hf
  ·rename_i hb
   cases hf
   refine⟨HF,ρ,x,sm,eo,hx,fun v1 H1 HF1 g1 r1=>?_⟩
   rw[jm h1] at r1
   simp only[Rep] at r1
   obtain⟨a,vs,rfl,hs,rr⟩:=r1
   have key:∀ {ns:List Int}{ws:List V},av X.K HF1 (ns.map PyData.int) ws->ws=ns.map V.int:=fun {ns}=>by
    induction ns with
    | nil=>exact fun h=>h.nil_inv
    | cons n ns ih =>
     intro ws h
     obtain⟨v,r,rfl,a,b⟩:=h.cons_inv
     simp only[Rep] at a
     rw[a,ih b]
     rfl
   have:=key rr
   subst this
   refine⟨a,ns,rfl,aC g1.fh hs,hb,fun b S hb'=>⟨b,S,_,rfl,aK,q _ _ HF1 (g1.trans (.own g1.fh hb')) (by simp[Rep])⟩⟩
  ·cases hf
end
theorem jZ(val:Nat->Int):∀i,(firstMet val i).length=i↔((List.range i).map val).Nodup
 | 0=>by simp[firstMet]
 | i+1=>by
  have hle:=firstMet_length_le val i
  rw[firstMet_succ,step_length,List.range_succ,List.map_append,List.nodup_append]
  have ha:=firstMet_any val i (val i)
  have ih:=jZ val i
  constructor
  ·intro h
   by_cases hin:(firstMet val i).any (· == val i)=true
   ·rw[if_pos hin] at h;omega
   ·rw[if_neg hin] at h
    refine⟨ih.mp (by omega),by simp,fun a hm b hb z=>?_⟩
    have hb':b=val i:=by simpa using hb
    subst z hb'
    rw[ha] at hin
    exact hin (List.any_eq_true.mpr ⟨_,hm,by simp⟩)
  ·rintro⟨h1,_,h3⟩
   rw[if_neg ?_]
   ·rw[ih.mpr h1]
   ·rw[ha]
    intro hin
    obtain⟨x,hx,he⟩:=List.any_eq_true.mp hin
    have he':x=val i:=by simpa using he
    exact h3 x hx (val i) (by simp) he'
theorem zh(ns:List Int):many ns=ns.length↔ns.Nodup:=by
 unfold many
 rw[jZ]
 have:(List.range ns.length).map (fun i=>ns.getD i 0)=ns:=jB ns 0
 rw[this]
section
variable {X:Cx}{N:List Str}{sc:Scope}{k:Nat}{a b c e e2:Expr}{es:List Expr}{fa fb fc f:Env->Option D}{fs:Env->Option (List D)}{pos p p' pos' p2 p3 p4 px apos cpos tp:Pos}{x y:Str}{HF₀ H₀:Hp}
theorem pR{K:W.Frag}{r r':R2}{g g':D->D->Option D}(h:fN K r g)(h':fN K r' g'):fN K (fun x y H Q=>r x y H Q\/r' x y H Q) (fun x y=>(g x y).or (g' x y)):=by
 intro HF H x y v1 v2 d Q sm r1 r2 hg q
 cases e:g x y with
 | some d' =>
  have hg:(g x y).or (g' x y)=some d:=hg
  rw[e] at hg
  cases hg
  exact .inl (h HF H x y v1 v2 d Q sm r1 r2 e q)
 | none =>
  have hg:(g x y).or (g' x y)=some d:=hg
  rw[e] at hg
  exact .inr (h' HF H x y v1 v2 d Q sm r1 r2 hg q)
theorem By{K:W.Frag}:fN K (D7 K) (fun x y=>(jo x y).map PyData.list):=by
 intro HF H x y v1 v2 d Q sm r1 r2 hg q
 obtain⟨zs,hg',rfl⟩:=ag hg
 clear hg
 cases x<;>cases y<;>simp only[jo] at hg'<;>try cases hg'
 obtain⟨rfl,hz⟩:=eD hg'
 simp only[Rep] at r1 r2
 obtain⟨a,vs,rfl,ha,ra⟩:=r1
 obtain⟨b,us,rfl,hb,rb⟩:=r2
 refine⟨a,b,vs,us,rfl,rfl,sm.seq ha,sm.seq hb,by rw[ra.length,rb.length,<- zN];exact hz,fun p hp=>q _ _ _ (.new sm hp) ?_⟩
 simp only[Rep]
 exact⟨p,_,rfl,.inl (.inl aK),(ra.append rb).mono (dS (sm.free hp))⟩
noncomputable def aI:D->D->Option D:=fun x y=>((uZ (fun _ _=>True) fun i j=>.int (i+j)) x y).or ((Hx x y).or ((jo x y).map PyData.list))
theorem Bk.add(C:Bk X N sc k)(ha:DE X a fa)(hb:DE X b fb):DE X (.BinOp a .Add b pos) (f2 aI fa fb):=vn (Li.or (BW.or vA)) (pR CV (pR F7 By)) ha hb
noncomputable def fJ:D->D->Option D:=uZ (fun _ _=>True) fun i j=>.int (i - j)
theorem Bk.sub(C:Bk X N sc k)(ha:DE X a fa)(hb:DE X b fb):DE X (.BinOp a .Sub b pos) (f2 fJ fa fb):=vn Lf CV ha hb
noncomputable def eB:D->D->Option D:=fun x y=>((uZ rA fun i j=>.int (i * j)) x y).or (vf x y)
theorem Bk.mul(C:Bk X N sc k)(ha:DE X a fa)(hb:DE X b fb):DE X (.BinOp a .Mult b pos) (f2 eB fa fb):=vn (JX.or Ho) (pR DU C7) ha hb
noncomputable def lW:D->D->Option D:=uZ Gn fun i j=>.int (i / j)
theorem Bk.div(C:Bk X N sc k)(ha:DE X a fa)(hb:DE X b fb):DE X (.BinOp a .FloorDiv b pos) (f2 lW fa fb):=vn Hl DU ha hb
noncomputable def ku:D->D->Option D:=uZ (fun _ j=>0 < j) fun i j=>.int (i % j)
theorem Bk.mod(C:Bk X N sc k)(ha:DE X a fa)(hb:DE X b fb):DE X (.BinOp a .Mod b pos) (f2 ku fa fb):=vn KD DU ha hb
noncomputable def Ak:D->D->Option D:=uZ (fun _ _=>True) fun i j=>.bool (decide (i < j))
noncomputable def rL:D->D->Option D:=uZ (fun _ _=>True) fun i j=>.bool (decide (i<=j))
noncomputable def wJ:D->D->Option D:=uZ (fun _ _=>True) fun i j=>.bool (decide (j < i))
noncomputable def Nv:D->D->Option D:=fun x y=>((uZ (fun _ _=>True) fun i j=>.bool (decide (j<=i))) x y).or ((LX x y).map PyData.bool)
noncomputable def bS:D->D->Option D:=fun x y=>(JE x y).map PyData.bool
noncomputable def cB:D->D->Option D:=fun x y=>(HS x y).map PyData.bool
noncomputable def Kk:D->D->Option D:=fun x y=>(N6 x y).map PyData.bool
theorem Bk.u64(C:Bk X N sc k):X.A.units+64 < cLine:=C.room.units
theorem Bk.u66(C:Bk X N sc k):X.A.units+66 < cLine:=by have:=C.room.un;omega
theorem Bk.lt(C:Bk X N sc k)(ha:DE X a fa)(hb:DE X b fb):DE X (.Compare a [.Lt] [b] pos) (f2 Ak fa fb):=jg Ef hV ha hb (di _)
theorem Bk.le(C:Bk X N sc k)(ha:DE X a fa)(hb:DE X b fb):DE X (.Compare a [.LtE] [b] pos) (f2 rL fa fb):=jg EU hV ha hb (di _)
theorem Bk.gt(C:Bk X N sc k)(ha:DE X a fa)(hb:DE X b fb):DE X (.Compare a [.Gt] [b] pos) (f2 wJ fa fb):=jg ID hV ha hb (di _)
theorem Bk.ge(C:Bk X N sc k)(ha:DE X a fa)(hb:DE X b fb):DE X (.Compare a [.GtE] [b] pos) (f2 Nv fa fb):=jg (IL.or (Du C.room.units0)) (pR hV jD) ha hb (di _)
theorem Bk.eq(C:Bk X N sc k)(ha:DE X a fa)(hb:DE X b fb):DE X (.Compare a [.Eq] [b] pos) (f2 bS fa fb):=jg (D2 C.u64) jD ha hb (di _)
theorem Bk.ne(C:Bk X N sc k)(ha:DE X a fa)(hb:DE X b fb):DE X (.Compare a [.NotEq] [b] pos) (f2 cB fa fb):=jg (Fm C.u64) jD ha hb (di _)
theorem Bk.isin(C:Bk X N sc k)(ha:DE X a fa)(hb:DE X b fb)(hm:behindInMarks .In b=false:=by rfl):DE X (.Compare a [.In] [b] pos) (f2 Kk fa fb):=jg (E9 C.u66) jD ha hb hm
theorem Bk.tlt(C:Bk X N sc k)(ha:DE X a fa)(hb:DE X b fb):DT X (.Compare a [.Lt] [b] pos) (fB (f2 Ak fa fb)):=iX Ef hV ha hb (di _)
theorem Bk.tle(C:Bk X N sc k)(ha:DE X a fa)(hb:DE X b fb):DT X (.Compare a [.LtE] [b] pos) (fB (f2 rL fa fb)):=iX EU hV ha hb (di _)
theorem Bk.tgt(C:Bk X N sc k)(ha:DE X a fa)(hb:DE X b fb):DT X (.Compare a [.Gt] [b] pos) (fB (f2 wJ fa fb)):=iX ID hV ha hb (di _)
theorem Bk.tge(C:Bk X N sc k)(ha:DE X a fa)(hb:DE X b fb):DT X (.Compare a [.GtE] [b] pos) (fB (f2 Nv fa fb)):=iX (IL.or (Du C.room.units0)) (pR hV jD) ha hb (di _)
theorem Bk.teq(C:Bk X N sc k)(ha:DE X a fa)(hb:DE X b fb):DT X (.Compare a [.Eq] [b] pos) (fB (f2 bS fa fb)):=iX (D2 C.u64) jD ha hb (di _)
theorem Bk.tne(C:Bk X N sc k)(ha:DE X a fa)(hb:DE X b fb):DT X (.Compare a [.NotEq] [b] pos) (fB (f2 cB fa fb)):=iX (Fm C.u64) jD ha hb (di _)
theorem Bk.tin(C:Bk X N sc k)(ha:DE X a fa)(hb:DE X b fb)(hm:behindInMarks .In b=false:=by rfl):DT X (.Compare a [.In] [b] pos) (fB (f2 Kk fa fb)):=iX (E9 C.u66) jD ha hb hm
noncomputable def cQ:D->Option Int->Option Int->Option D|.tuple ds,lo,hi=>some (.tuple (cut ds lo hi))|.list ds,lo,hi=>some (.list (cut ds lo hi))|_,_,_=>none
theorem Bk.cut(C:Bk X N sc k){lo hi:Option Expr}{fl fh:Env->Option (Option Int)}(ha:DE X a fa)(hl:DO X lo fl)(hh:DO X hi fh):DE X (.Subscript a (.Slice lo hi none p2) pos) (fM cQ fa fl fh):=aR (EX (Jx.or GE) ha hl hh) fun σ H Q ⟨HF,ρ,d,sm,eo,hf,q⟩=>by
 obtain⟨x,hx,hf⟩:=bs hf
 obtain⟨l,hl,hf⟩:=bs hf
 obtain⟨u,hu,hf⟩:=bs hf
 refine⟨HF,ρ,x,sm,eo,hx,fun v1 H1 HF1 g1 r1=>⟨HF1,ρ,l,g1.fh,eo.mono g1.ff,hl,fun H2 HF2 g2=>⟨HF2,ρ,u,g2.fh,eo.mono (g1.ff.trans g2.ff),hu,fun H3 HF3 g3=>?_⟩⟩⟩
 have G:=(g1.trans g2).trans g3
 have r3:=r1.mono (g2.ff.trans g3.ff)
 cases x<;>try cases hf
 ·simp only[Rep] at r3
  obtain⟨b,vs,rfl,hs,rr⟩:=r3
  refine .inr ⟨b,vs,rfl,G.fh.seq hs,fun p hp=>q _ _ _ (G.trans (.new G.fh hp)) ?_⟩
  simp only[Rep]
  exact⟨p,_,rfl,.inl (.inl aK),(pS rr l u).mono (dS (G.fh.free hp))⟩
 ·simp only[Rep] at r3
  obtain⟨b,vs,rfl,hs,rr⟩:=r3
  refine .inl ⟨b,vs,rfl,aC G.fh hs,fun e=>q _ H3 HF3 G ?_,fun p hp=>q _ _ _ (G.trans (.new G.fh hp)) (cT (G.fh.free hp) (pS rr l u))⟩
  simp only[Rep]
  refine⟨b,vs,rfl,hs,?_⟩
  have:=pS rr l u
  rw[e] at this
  exact this
noncomputable def L0:D->Option D|.int i=>some (.int (-i))|_=>none
theorem Bk.neg(C:Bk X N sc k)(ha:DE X a fa):DE X (.UnaryOp .USub a pos) (f1 L0 fa):=aR (DJ xB ha) fun σ H Q ⟨HF,ρ,d,sm,eo,hf,q⟩=>by
 obtain⟨x,hx,hf⟩:=bs hf
 refine⟨HF,ρ,x,sm,eo,hx,fun v1 H1 HF1 g1 r1=>?_⟩
 cases x<;>try cases hf
 exact⟨_,by simpa only[Rep] using r1,q _ H1 HF1 g1 (by simp[Rep])⟩
theorem Dc:bootBuiltins "len"=some (.builtin "len"):=by decide +kernel
theorem qG:bootBuiltins "isinstance"=some (.builtin "isinstance"):=by decide +kernel
theorem Jr:bootBuiltins "int"=some (.type "int"):=by decide +kernel
theorem DQ:bootBuiltins "tuple"=some (.type "tuple"):=by decide +kernel
theorem F4:bootBuiltins "list"=some (.type "list"):=by decide +kernel
theorem w4:bootBuiltins "range"=some (.type "range"):=by decide +kernel
theorem JG:bootBuiltins "all"=some (.builtin "all"):=by decide +kernel
theorem KA:bootBuiltins "set"=some (.type "set"):=by decide +kernel
theorem m8:bootBuiltins "sorted"=some (.builtin "sorted"):=by decide +kernel
theorem uQ:bootBuiltins "enumerate"=some (.type "enumerate"):=by decide +kernel
theorem KO:bootBuiltins "zip"=some (.type "zip"):=by decide +kernel
end
noncomputable abbrev bP(f:Env->Option (List D)):Env->Option D:=fun ρ=>(f ρ).map PyData.list
noncomputable abbrev bM:List D->Option D:=fun ds=>(dg ds).map PyData.tuple
section
variable {X:Cx}{N:List Str}{sc:Scope}{k:Nat}
theorem Bk.locl(C:Bk X N sc k){x:Str}(h:decide (sc.names.lookup x=some .local)=true):X.env.scope.names.lookup x=some .local:=by
 rcases C.tb x _ (of_decide_eq_true h) with q|⟨q,_⟩
 ·exact q
 ·cases q
noncomputable def isStar:Expr->Bool|.Starred ..=>true|_=>false
theorem bp{e:Expr}{es:List Expr}{env:PySem.Env}(h:isStar e=false):starEach (e::es) env=(false,eval e env)::starEach es env:=by
 cases e<;>first|rfl|cases h
theorem KQ{e:Expr}{es:List Expr}{f:Env->Option D}{g:Env->Option (List D)}(he:DE X e f)(hs:DA X es g)(h:isStar e=false:=by rfl):DA X (e::es) (aa f g):=Az he hs (bp h)
theorem o4{elt:Expr}{gens:List Comprehension}{scope:Scope}{pos py:Pos}{x:Str}{line:Nat}{env:PySem.Env}:swapsWith (.ListComp elt gens scope pos) (some (.Name x py)) line env=pure (env.blockKind == .function&&env.kindOf x == some .local && py.line == pos.line
     &&!(scope.names.any fun (n,k)=>n == x&&(k == .local || k == .cell))):=rfl
theorem Jd{env:PySem.Env}(h:env.scope.kind=.function):env.blockKind=.function:=by unfold PySem.Env.blockKind;rw[h];rfl
theorem Bk.swap(C:Bk X N sc k){elt:Expr}{gens:List Comprehension}{scope:Scope}{pos py:Pos}{x:Str}{line:Nat}(h:decide (sc.names.lookup x=some .local)=true)(h2:(py.line == pos.line&&!(scope.names.any fun (n,k)=>n == x&&(k == .local || k == .cell)))=true) :
  swapsWith (.ListComp elt gens scope pos) (some (.Name x py)) line X.env=pure true:=by
 rw[o4,Jd C.kd,show X.env.kindOf x=some .local from C.locl h]
 rw[Bool.and_assoc,h2]
 rfl
theorem Bk.noswap(C:Bk X N sc k){elt:Expr}{gens:List Comprehension}{scope:Scope}{pos py:Pos}{x:Str}{line:Nat}(h:decide (sc.names.lookup x=some .cell)=true) :
  swapsWith (.ListComp elt gens scope pos) (some (.Name x py)) line X.env=pure false:=by
 have q:X.env.kindOf x=some .cell:=by
  rcases C.tb x _ (of_decide_eq_true h) with q|⟨q,_⟩
  ·exact q
  ·cases q
 rw[o4,q,Jd C.kd]
 rfl
end
section
variable {K:W.Frag}
structure aJ(K:W.Frag)(x:Str)(st:Stmt)(ps:List Str):Prop where
 ex:∃ (f:Addr) (fd:FuncData),W.nsIn K mainGlobals x=some (some (.ref f))/\Hf K x x st f fd/\Binds K fd ps []
structure bD(K:W.Frag)(mg:Str->Option Value)(x:Str)(st:Stmt)(ps:List Str):Prop where
 ex:∃ (f:Addr) (fd:FuncData),mg x=some (.ref f)/\Hf K x x st f fd/\Binds K fd ps []
theorem aJ.mg{h:Heap}{mg:Str->Option Value}{x:Str}{st:Stmt}{ps:List Str}(D:aJ K x st ps)(X:K.In h)(G:h.Ns mainGlobals mg):bD K mg x st ps:=by
 obtain⟨f,fd,a,b,c⟩:=D.ex
 exact⟨f,fd,W.mg_of X G a,b,c⟩
def g9(st:Stmt)(ps:List Str):Prop:=∀ (x qual:Str) (kV doc pm:Value) (an:Option Addr) (cdv ct:Value) (us:List Value),us.length=ps.length->bindArgs (W.fnOf x qual (gM st) (cy st) (aO st) .none kV doc pm an cdv ct) ⟨us,[]⟩=pure (ps.zip us)
theorem Ms{x:Str}{st:Stmt}{ps:List Str}{f:Addr}{oc:Value}{od an:Option Addr}{osl:Array (Option Value)}{kV doc pm cdv ct:Value}(hb:g9 st ps)(a:W.nsIn K mainGlobals x=some (some (.ref f)))(l:K.lookup f=some ⟨oc,od,.func (W.fnOf x x (gM st) (cy st) (aO st) .none kV doc pm an cdv ct),osl⟩)
  (c:W.codeIn K cdv x=true) (k:W.keepIn K (.ref f)=true):aJ K x st ps:=⟨f,_,a,tY (st:=st) l c k,(tY (st:=st) l c k).binds fun kV doc pm an cdv ct us h=>hb _ _ kV doc pm an cdv ct us h⟩
structure nJ(K:W.Frag)(x:Str)(st:Stmt)(ps:List Str):Prop where
 ex:∃ (f:Addr) (fd:FuncData) (c P:Addr),W.nsIn K mainGlobals x=some (some (.ref f))/\Hf K x x st f fd/\Binds K fd ps []/\fd.code=.ref c/\W.codeHdIn K c P=true
structure DC(K:W.Frag)(mg:Str->Option Value)(x:Str)(st:Stmt)(ps:List Str):Prop where
 ex:∃ (f:Addr) (fd:FuncData) (c P:Addr),mg x=some (.ref f)/\Hf K x x st f fd/\Binds K fd ps []/\fd.code=.ref c/\W.codeHdIn K c P=true
theorem nJ.mg{h:Heap}{mg:Str->Option Value}{x:Str}{st:Stmt}{ps:List Str}(D:nJ K x st ps)(X:K.In h)(G:h.Ns mainGlobals mg):DC K mg x st ps:=by
 obtain⟨f,fd,c,P,a,b⟩:=D.ex
 exact⟨f,fd,c,P,W.mg_of X G a,b⟩
noncomputable def CM(K:W.Frag)(c:Addr):Addr:=match K.lookup c with
 | some ⟨_,_,.fields vs,_⟩=>(match (vs[11]?:Option Value) with|some (.ref P)=>P|_=>0)
 | _=>0
theorem Mc{x:Str}{st:Stmt}{ps:List Str}{f c:Addr}{oc:Value}{od an:Option Addr}{osl:Array (Option Value)}{kV doc pm ct:Value}(hb:g9 st ps)(a:W.nsIn K mainGlobals x=some (some (.ref f)))(l:K.lookup f=some ⟨oc,od,.func (W.fnOf x x (gM st) (cy st) (aO st) .none kV doc pm an (.ref c) ct),osl⟩)
  (cd:W.codeIn K (.ref c) x=true) (k:W.keepIn K (.ref f)=true) (hh:W.codeHdIn K c (CM K c)=true):nJ K x st ps:=⟨f,_,c,CM K c,a,tY (st:=st) l cd k,(tY (st:=st) l cd k).binds fun kV doc pm an cdv ct us h=>hb _ _ kV doc pm an cdv ct us h,rfl,hh⟩
theorem IF{x:Str}{i:Int}{t:Tok}(h:W.nsIn K mainGlobals x=some (some (.int i t))):∃t,W.nsIn K mainGlobals x=some (some (.int i t)):=⟨t,h⟩
theorem J0{K:W.Frag}(h0:W.nsIn K mainGlobals "len"=some none)(h1:W.nsIn K mainGlobals "isinstance"=some none)(h2:W.nsIn K mainGlobals "int"=some none)(h3:W.nsIn K mainGlobals "bool"=some none)(h4:W.nsIn K mainGlobals "tuple"=some none)(h5:W.nsIn K mainGlobals "list"=some none)(h6:W.nsIn K mainGlobals "range"=some none)(h7:W.nsIn K mainGlobals "all"=some none)(h8:W.nsIn K mainGlobals "any"=some none)(h9:W.nsIn K mainGlobals "set"=some none)(h10:W.nsIn K mainGlobals "sorted"=some none)(h11:W.nsIn K mainGlobals "enumerate"=some none)(h12:W.nsIn K mainGlobals "zip"=some none)(h13:W.nsIn K mainGlobals "sum"=some none)(h14:W.nsIn K mainGlobals "min"=some none)(h15:W.nsIn K mainGlobals "max"=some none)(h16:W.nsIn K mainGlobals "reversed"=some none):∀x∈cU,W.nsIn K mainGlobals x=some none:=by
 intro x hx
 simp only[cU,zR,yG,or_false] at hx
 rcases hx with rfl|rfl|rfl|rfl|rfl|rfl|rfl|rfl|rfl|rfl|rfl|rfl|rfl|rfl|rfl|rfl|rfl<;>assumption
theorem yf{K:W.Frag}{H:Hp}{a:Addr}{ns:List Int}{m:List D->Option D}(hS:iJ K H a (ns.map V.int))(hT:gq K H)(h:m [.list (ns.map PyData.int)]=some (.bool true)){X:_}:MD K 1 m [.ref a] H (fun v _=>v=.bl true) X:=by
 refine⟨H,[.list (ns.map PyData.int)],.bool true,.refl _,hT,av.cons ?_ av.nil,rfl,h,fun v H' HF' G r=>by simpa only[Rep] using r⟩
 simp only[Rep]
 refine⟨a,_,rfl,hS,?_⟩
 clear h hS hT
 induction ns with
 | nil=>exact av.nil
 | cons n ns ih=>exact av.cons (by simp[Rep]) ih
end
theorem Nw{X:Cx}{e:Expr}{es:List Expr}{f:Env->Option D}{g:Env->Option (List D)}(h:isStar e=false)(he:DE X e f)(hs:DA X es g):DA X (e::es) (aa f g):=KQ he hs h
section
variable {X:Cx}{N:List Str}{sc:Scope}{k:Nat}{HF₀ H₀:Hp}{e c:Expr}{es:List Expr}{fs:Env->Option (List D)}{pos p:Pos}
noncomputable def MY:aj->Option Out:=fun _=>none
theorem Ml{st:Stmt}:DS X HF₀ H₀ st MY:=fun pins s σ H E I ⟨HF,ρ,o,S,hg,q⟩=>by cases hg
noncomputable def mO(f:Env->Option D):aj->Option Out:=fun ρ=>(f (bg ρ)).map fun _=>.nx ρ
theorem GO{f:Env->Option D}(hs:swapsWith e none pos.line X.env=pure false)(h:DE X e f):DS X HF₀ H₀ (.Expr e pos) (mO f):=dW (ow h hs) fun E σ H ⟨HF,ρ,o,S,hg,q⟩=>by
 obtain⟨d,h,rfl⟩:=ag hg
 exact⟨H,bg ρ,d,.refl _,S.all,h,fun v H' HF' G r=>q σ H' HF (S.step G.hh) (.refl _)⟩
noncomputable def GP(t:Env->Option Bool)(gb:aj->Option Out):Nat->aj->Option Out
 | 0,_=>none
 | n+1,ρ=>(t (bg ρ)).bind fun b=>if b=true then (gb ρ).bind fun|.nx ρ'=>GP t gb n ρ'|.rt d=>some (.rt d) else some (.nx ρ)
theorem CD(n:Nat){body:List Stmt}{t:Env->Option Bool}{gb:aj->Option Out}(hp:PassesOwn (model X.prog X.w) X.A X.env X.xe)(hc:DT X c t)(hb:Cw X HF₀ H₀ body gb):DS X HF₀ H₀ (.While c body [] pos) (GP t gb n) :=
 dW (Er hp hc hb) fun E σ H ⟨HF,ρ,o,S,hg,q⟩=>by
  refine⟨fun m σ' H'=>∃HF' ρ',kH X.K HF₀ H₀ HF' H' ρ' σ'/\bc HF HF'/\GP t gb m ρ'=some o,⟨n,HF,ρ,S,.refl _,hg⟩,?_⟩
  rintro m σ' H' ⟨HF',ρ',S',s',hf⟩
  cases m with
  | zero=>cases hf
  | succ m =>
   unfold GP at hf
   obtain⟨b,hb,hf⟩:=bs hf
   refine⟨H',bg ρ',b,.refl _,S'.all,hb,fun H1 HF1 G=>?_⟩
   cases b with
   | false =>
    rw[if_neg Bool.false_ne_true] at hf ⊢
    cases hf
    exact q σ' H1 HF' (S'.step G.hh) s'
   | true =>
    rw[if_pos rfl] at hf ⊢
    obtain⟨o1,h2,hf⟩:=bs hf
    refine⟨fun σ2 H3=>∃HF3 ρ3,kH X.K HF₀ H₀ HF3 H3 ρ3 σ2/\bc HF HF3/\GP t gb m ρ3=some o,fun σ2 H3 ⟨HF3,ρ3,a1,a2,a3⟩=>⟨m,Nat.lt_succ_self _,HF3,ρ3,a1,a2,a3⟩,HF',ρ',o1,S'.step G.hh,h2,?_⟩
    cases o1 with
    | nx ρ2=>exact fun σ4 H4 HF4 S4 s4=>⟨HF4,ρ2,S4,s'.trans s4,hf⟩
    | rt d=>cases hf;exact q
noncomputable def vv:List D->Option D
 | [.int a,.int b]=>some (.int (min a b))
 | [.int a,.int b,.int c]=>some (.int (min (min a b) c))
 | _=>none
theorem Fk(hc:X.calm=true):d6 X (.builtin "min") (fun xs H Q=>(∃a b:Int,xs=[.int a,.int b]/\Q (.int (min a b)) H)\/(∃a b c:Int,xs=[.int a,.int b,.int c]/\Q (.int (min (min a b) c)) H)):=by
 intro pins s σ H xs us Q I r h
 have hh:X.A.handled=none:=I.ok.hd hc
 rcases h with ⟨a,b,rfl,q⟩|⟨a,b,c,rfl,q⟩
 ·cases r with
  | cons r1 r =>
   cases r with
   | cons r2 r =>
    cases r
    obtain⟨t,rfl⟩:=r1
    obtain⟨u,rfl⟩:=r2
    refine min_two_ints hh fun h' tk kp=>⟨.int (min a b),H,I.kept (t':=tk) kp,?_,q⟩
    by_cases h:b < a
    ·rw[if_pos h,show min a b=b by omega];exact⟨_,rfl⟩
    ·rw[if_neg h,show min a b=a by omega];exact⟨_,rfl⟩
 ·cases r with
  | cons r1 r =>
   cases r with
   | cons r2 r =>
    cases r with
    | cons r3 r =>
     cases r
     obtain⟨t,rfl⟩:=r1
     obtain⟨u,rfl⟩:=r2
     obtain⟨x,rfl⟩:=r3
     refine min_three_ints hh fun h' tk kp=>⟨.int (min (min a b) c),H,I.kept (t':=tk) kp,?_,q⟩
     by_cases h:b < a
     ·rw[if_pos h]
      by_cases h2:c < b
      ·rw[if_pos h2,show min (min a b) c=c by omega];exact⟨_,rfl⟩
      ·rw[if_neg h2,show min (min a b) c=b by omega];exact⟨_,rfl⟩
     ·rw[if_neg h]
      by_cases h2:c < a
      ·rw[if_pos h2,show min (min a b) c=c by omega];exact⟨_,rfl⟩
      ·rw[if_neg h2,show min (min a b) c=a by omega];exact⟨_,rfl⟩
theorem v8{K:W.Frag}{H:Hp}{d:D}{v:V}(r:Rep K H d v):∀ {ds:List D}{vs:List V}(j:Nat),av K H ds vs->av K H (ds.set j d) (vs.set j v)
 | [],vs,j,h=>by rw[h.nil_inv];exact av.nil
 | x::ds,vs,j,h=>by
  obtain⟨u,us,rfl,a,b⟩:=h.cons_inv
  cases j with
  | zero=>exact av.cons r b
  | succ j=>exact av.cons a (v8 r j b)
noncomputable def yx(i:Nat)(fz:List Nat)(fk f:Env->Option D):aj->Option Out:=fun ρ=>(kK fz f ρ).bind fun p=>(fk (bg p.2)).bind fun kd=>match kd with
 | .int k=>oe i (fun ds=>(FK ds.length k).map fun j=>ds.set j p.1) p.2
 | _=>none
theorem FI(i:Nat)(fz:List Nat){x:Str}{e2:Expr}{px spos:Pos}{fk f:Env->Option D}(hN:X.N[i]?=some x)(hv:IG X.env.scope x)(hk:DE X e fk)(h:DE X e2 f)(hd:(x == ("__debug__":Str))=false:=by decide)(hcd:(x == ("__classdict__":Str))=false:=by decide)
  (ha:∀v,assign (.Subscript (.Name x px) e spos) X.env v=(do
   let ov <- holding [v] (eval (.Name x px) X.env)
   let iv <- holding [v,ov] (eval e X.env)
   standAt spos
   holding [v,ov,iv] (setItem ov iv v)
   release [v,ov,iv] []):=by intro _;rfl)
  (hs:swapsWithSole [.Subscript (.Name x px) e spos] e2 pos.line X.env=pure false:=by rfl) (hw:swappedStores [.Subscript (.Name x px) e spos] e2 X.env=pure none:=by rfl)
  (h1:(assignEach [.Subscript (.Name x px) e spos] X.env).map (·.2)=[assign (.Subscript (.Name x px) e spos) X.env]:=by rfl):DS X HF₀ H₀ (.Assign [.Subscript (.Name x px) e spos] e2 pos) (yx i fz fk f) :=
 dW (Lg h (J6 (qf hN hv hd hcd) hk set_list ha) hs hw h1) fun E σ H ⟨HF,ρ,o,S,hg,q⟩=>by
  obtain⟨⟨d,ρ'⟩,h1,hg⟩:=bs hg
  obtain⟨kd,h2,hg⟩:=bs hg
  cases kd<;>try cases hg
  rename_i k
  obtain⟨ds,es,h3,h4,rfl⟩:=kl hg
  obtain⟨j,hj,rfl⟩:=ag h4
  refine mP S h1 fun v H1 HF1 s1 S1 s2 r=>?_
  obtain⟨a,vs,e1,e2,e3,e5,e4⟩:=S1.own i ds h3
  refine⟨.ref a,e1,H1,bg ρ',.int k,.refl _,S1.all,h2,fun kv H2 HF2 G rk=>?_⟩
  simp only[Rep] at rk
  have S2:=S1.step G.hh
  obtain⟨a',vs',f1,f2,f3,f5,f4⟩:=S2.own i ds h3
  rw[e1] at f1;cases f1
  exact⟨a,vs',k,j,rfl,rk,f2,by rw[f4.length];exact hj,q σ _ HF1 (S2.mut h3 e1 f2 (v8 r j f4)) s1⟩
end
section
variable {X:Cx}{N:List Str}{sc:Scope}{k:Nat}{HF₀ H₀:Hp}{a b e c:Expr}{es:List Expr}{fa fb:Env->Option D}{fs:Env->Option (List D)}{pos p:Pos}
noncomputable def L8:D->Bool|.none=>true|_=>false
theorem oG{K:W.Frag}{HF:Hp}{d:D}{v:V}(r:Rep K HF d v):decide (v=.non)=L8 d:=by
 cases d<;>simp only[Rep] at r<;>first
  | (subst r;rfl)
  | (obtain⟨a,vs,rfl,_⟩:=r;rfl)
  | exact r.elim
noncomputable def mn:D->D->Option D:=fun x y=>if L8 y=true then some (.bool (L8 x)) else none
noncomputable def lF:D->D->Option D:=fun x y=>if L8 y=true then some (.bool (!L8 x)) else none
theorem AF{K:W.Frag}:fN K (fun x y H Q=>y=.non/\Q (.bl (decide (x=.non))) H) mn:=by
 intro HF H x y v1 v2 d Q sm r1 r2 hg q
 unfold mn at hg
 split at hg
 ·rename_i h
  cases hg
  have h2:=oG r2
  rw[h,zJ] at h2
  refine⟨h2,?_⟩
  rw[oG r1]
  exact q _ H HF (.refl sm) (by simp[Rep])
 ·cases hg
theorem xm{K:W.Frag}:fN K (fun x y H Q=>y=.non/\Q (.bl (!decide (x=.non))) H) lF:=by
 intro HF H x y v1 v2 d Q sm r1 r2 hg q
 unfold lF at hg
 split at hg
 ·rename_i h
  cases hg
  have h2:=oG r2
  rw[h,zJ] at h2
  refine⟨h2,?_⟩
  rw[oG r1]
  exact q _ H HF (.refl sm) (by simp[Rep])
 ·cases hg
theorem Bk.is0(C:Bk X N sc k)(ha:DE X a fa)(hb:DE X b fb):DE X (.Compare a [.Is] [b] pos) (f2 mn fa fb):=jg EZ AF ha hb (di _)
theorem Bk.not0(C:Bk X N sc k)(ha:DE X a fa)(hb:DE X b fb):DE X (.Compare a [.IsNot] [b] pos) (f2 lF fa fb):=jg zx xm ha hb (di _)
theorem Bk.tis0(C:Bk X N sc k)(ha:DE X a fa)(hb:DE X b fb):DT X (.Compare a [.Is] [b] pos) (fB (f2 mn fa fb)):=iX EZ AF ha hb (di _)
theorem Bk.tnot0(C:Bk X N sc k)(ha:DE X a fa)(hb:DE X b fb):DT X (.Compare a [.IsNot] [b] pos) (fB (f2 lF fa fb)):=iX zx xm ha hb (di _)
theorem Km(hc:X.calm=true)(B:mM X "min" (.builtin "min"))(he:starEach (e::es) X.env=(false,eval e X.env)::starEach es X.env)(hpl:(backTo pos (starEach es X.env)).any (·.1)=false)(ha:DA X (e::es) fs):DE X (.Call (.Name "min" p) (e::es) [] pos) (bb vv fs) :=
 iy (Fk hc) (by
  intro HF H ds vs d Q sm r hg q
  unfold vv at hg
  split at hg
  ·cases hg
   obtain⟨v1,r1,rfl,a1,b1⟩:=r.cons_inv
   obtain⟨v2,r2,rfl,a2,b2⟩:=b1.cons_inv
   rw[b2.nil_inv]
   simp only[Rep] at a1 a2
   exact .inl ⟨_,_,by rw[a1,a2],q _ H HF (.refl sm) (by simp[Rep])⟩
  ·cases hg
   obtain⟨v1,r1,rfl,a1,b1⟩:=r.cons_inv
   obtain⟨v2,r2,rfl,a2,b2⟩:=b1.cons_inv
   obtain⟨v3,r3,rfl,a3,b3⟩:=b2.cons_inv
   rw[b3.nil_inv]
   simp only[Rep] at a1 a2 a3
   exact .inr ⟨_,_,_,by rw[a1,a2,a3],q _ H HF (.refl sm) (by simp[Rep])⟩
  ·cases hg) B ha (by decide) (by decide) he hpl
end
section
variable {X:Cx}{a b e c:Expr}{es:List Expr}{fa fb:Env->Option D}{fl fs:Env->Option (List D)}{pos p:Pos}
noncomputable def MP(ds:List D):D->Option (List D)
 | .int k=>if xq k=true/\ds.length * k.toNat<=sizeLine then some (List.replicate k.toNat ds).flatten else none
 | _=>none
noncomputable def IR(fl:Env->Option (List D))(fb:Env->Option D):Env->Option (List D):=fun ρ=>(fl ρ).bind fun ds=>(fb ρ).bind (MP ds)
theorem J4(ha:DF X a fl)(hb:DE X b fb):DF X (.BinOp a .Mult b pos) (IR fl fb):=aR (FA Ka ha hb) fun σ H Q ⟨HF,ρ,d,sm,eo,hf,q⟩=>by
 obtain⟨ds,hx,hf⟩:=bs hf
 obtain⟨y,hy,hg⟩:=bs hf
 refine⟨HF,ρ,ds,sm,eo,hx,fun l vs H1 HF1 g1 h0 hn h1 r1=>⟨HF1,ρ,y,g1.fh,eo.mono g1.ff,hy,fun v2 H2 HF2 g2 r2=>?_⟩⟩
 cases y<;>try cases hg
 rename_i k
 have hg:(if xq k=true/\ds.length * k.toNat<=sizeLine then some (List.replicate k.toNat ds).flatten else none)=some d:=hg
 split at hg
 ·rename_i hz
  cases hg
  simp only[Rep] at r2
  have r1:=r1.mono g2.ff
  have G:=g1.trans g2
  have ok:=hz.1
  simp only[xq,zF,zJ] at ok
  exact⟨l,k,vs,rfl,r2,g2.hh _ _ h1,by omega,by omega,by rw[r1.length];exact hz.2,fun p hp=>q p _ _ HF2 (G.trans (.own G.fh hp)) (G.hh.free hp) (G.fh.free hp) aK (ml r1 _)⟩
 ·cases hg
theorem ze(hc:X.calm=true):d6 X (.builtin "any") (fun xs H Q=>∃ (a:Addr) (bs:List Bool),xs=[.ref a]/\iJ X.K H a (bs.map V.bl)/\Q (.bl (bs.any id)) H):=by
 intro pins s σ H xs us Q I r h
 obtain⟨a,bs,rfl,hq,q⟩:=h
 obtain⟨u,rfl,rx⟩:=vals1 r
 cases rx
 obtain⟨its,rv,pl,hz⟩:=I.list hq
 have hv:=lj rv
 subst hv
 have hh:X.A.in1.handled=none:=I.ok.hd hc
 refine call_any_walk (wpAny_pyIter_list pl.isList ?_)
 obtain⟨o,ho,hcl,n,hd⟩:=pl.isList
 have hne:a≠s.heap.objs.size:=Nat.ne_of_lt (zZ ho)
 refine⟨_,_,_,_,_,_,fun i=>bs.getD i false,rfl,Walks.list hh s.heap.objs.size a hne (bs.map Value.bool).toArray,⟨⟨_,zY _ rfl,rfl,rfl⟩,pl.isList.push _⟩,fun i v s' Q' E' hP hQ=>?_,fun h' tk kp=>?_⟩
 ·have e:v=Value.bool (bs.getD i false):=by
   have hP:(bs.map Value.bool).toArray[i]?=some v:=hP
   rw[List.getElem?_toArray,zO] at hP
   obtain⟨b,hb,rfl⟩:=ag hP
   rw[zG,hb]
   rfl
  subst e
  exact wpAny_truthy_bool hQ
 ·refine⟨.bl (bs.any id),H,?_,?_,q⟩
  ·exact I.kept (t':=tk) fun b o' e=>kp b o' (by simp;exact Nat.ne_of_lt (zZ e)) (zV _ e)
  ·show Value.bool _=Value.bool _
   have:=range_any bs
   simp only[zH,zD]
   rw[this]
end
section
variable {X:Cx}{e:Expr}{fs:Env->Option (List D)}{pos p:Pos}
theorem Lm(hc:X.calm=true)(B:mM X "any" (.builtin "any"))(he:starEach [e] X.env=(false,eval e X.env)::starEach [] X.env)(ha:DA X [e] fs):DE X (.Call (.Name "any" p) [e] [] pos) (bb (fun ds=>(oneOf ds).bind fun d=>match d with
 | .list es=>(boolsOf es).map fun bs=>.bool (bs.any id)
 | _=>none) fs) :=
 iy (ze hc) (by
  intro HF H ds vs d Q sm r hg q
  obtain⟨x,hx,hg⟩:=bs hg
  rw[gh hx] at r
  cases x<;>try cases hg
  obtain⟨bs,hb,rfl⟩:=ag hg
  obtain⟨v,r',rfl,a,b⟩:=r.cons_inv
  rw[b.nil_inv]
  simp only[Rep] at a
  obtain⟨p,us,rfl,h,rr⟩:=a
  rw[iT hb] at rr
  have:=kZ rr
  subst this
  exact⟨p,bs,rfl,sm.seq h,q _ H HF (.refl sm) (by simp[Rep])⟩) B ha (by decide) (by decide) he rfl
theorem nU(ns:List Int):∀j:Nat,preSum (fun i=>ns.getD i 0) j=(ns.take j).sum
 | 0=>by simp[preSum]
 | j+1=>by
  rw[preSum,nU ns j,List.take_add_one,List.sum_append]
  congr 1
  rw[zG]
  cases ns[j]?<;>simp
theorem sk(val:Nat->Int)(B:Int)(h:∀i,-B<=val i/\val i<=B):∀j:Nat,-(B * j)<=preSum val j/\preSum val j<=B * j
 | 0=>by simp[preSum]
 | j+1=>by
  have ih:=sk val B h j
  have:=h j
  rw[preSum]
  have e:B * ((j+1:Nat):Int)=B * (j:Int)+B:=by rw[Int.natCast_add,Int.mul_add];simp
  rw[e]
  omega
noncomputable def KN(ns:List Int):Bool:=decide (ns.length<=1000)&&ns.all fun n=>decide (-1000000<=n)&&decide (n<=1000000)
theorem J9{ns:List Int}(h:KN ns=true):ns.length<=1000/\∀i,-1000000<=ns.getD i 0/\ns.getD i 0<=1000000:=by
 unfold KN at h
 rw[zF,zJ,List.all_eq_true] at h
 refine⟨h.1,fun i=>?_⟩
 rw[zG]
 cases e:ns[i]? with
 | none=>simp
 | some n =>
  have:=h.2 n (List.mem_of_getElem? e)
  simpa using this
theorem oM{ns:List Int}{its:List Value}(r:aF (ns.map V.int) its){i:Nat}{v:Value}(h:its.toArray[i]?=some v):∃t,v=.int (ns.getD i 0) t:=by
 rw[List.getElem?_toArray] at h
 induction ns generalizing its i with
 | nil=>cases r;simp at h
 | cons n ns ih =>
  cases r with
  | cons r1 rr =>
   cases i with
   | zero =>
    simp only[List.getElem?_cons_zero,yM] at h
    subst h
    obtain⟨t,rfl⟩:=r1
    exact⟨t,rfl⟩
   | succ i =>
    simp only[List.getElem?_cons_succ] at h
    exact ih rr h
theorem yR(hc:X.calm=true):d6 X (.builtin "sum") (fun xs H Q=>∃ (a:Addr) (ns:List Int),xs=[.ref a]/\(iJ X.K H a (ns.map V.int)\/jQ X.K H a (ns.map V.int))/\KN ns=true/\Q (.int ns.sum) H):=by
 intro pins s σ H xs us Q I r h
 obtain⟨a,ns,rfl,hq,hok,q⟩:=h
 obtain⟨u,rfl,rx⟩:=vals1 r
 cases rx
 have hh:X.A.in1.handled=none:=I.ok.hd hc
 obtain⟨hlen,hbd⟩:=J9 hok
 have hin:∀n:Nat,n<=1000->∀j,j < n->InLong ((fun i=>ns.getD i 0) j)/\InLong (preSum (fun i=>ns.getD i 0) (j+1)):=fun n hn j hj=>by
  have h1:=hbd j
  have h2:=sk (fun i=>ns.getD i 0) 1000000 hbd (j+1)
  refine⟨⟨?_,?_⟩,?_,?_⟩
  ·show -(2 ^ 63)<=ns.getD j 0
   omega
  ·show ns.getD j 0 < 2 ^ 63
   omega
  ·omega
  ·omega
 have hsum:preSum (fun i=>ns.getD i 0) ns.length=ns.sum:=by rw[nU,List.take_length]
 rcases hq with hq|hq
 ·obtain⟨its,rv,pl,hz⟩:=I.list hq
  have hl:its.length=ns.length:=by rw[<- rv.length,zD]
  refine call_sum_walk (wpAny_pyIter_list pl.isList ?_)
  obtain⟨o,ho,hcl,n,hd⟩:=pl.isList
  have hlt:=zZ ho
  have hne:a≠s.heap.objs.size:=Nat.ne_of_lt hlt
  refine⟨_,_,_,_,_,_,fun i=>ns.getD i 0,rfl,Walks.list hh s.heap.objs.size a hne its.toArray,⟨⟨_,zY _ rfl,rfl,rfl⟩,pl.isList.push _⟩,fun b hb=>?_,fun i v hP=>oM rv hP,by rw[zH,hl];exact hin _ hlen,fun h' tk t' kp=>?_⟩
  ·show b < (s.heap.push _).objs.size
   rw[Heap.size_push]
   simp only[zR,yG,or_false] at hb
   rcases hb with rfl|rfl
   ·exact Nat.lt_succ_self _
   ·exact Nat.lt_succ_of_lt hlt
  ·refine⟨.int ns.sum,H,I.kept (t':=tk) fun b o' e=>kp b o' (by simp;exact Nat.ne_of_lt (zZ e)) (zV _ e),⟨t',?_⟩,q⟩
   rw[zH,hl,hsum]
 ·obtain⟨its,rv,pl,hz⟩:=I.tuple hq
  have pl:s.heap.IsTuple a its.toArray:=pl
  have hl:its.length=ns.length:=by rw[<- rv.length,zD]
  refine call_sum_walk (wpAny_pyIter_tuple pl ?_)
  obtain⟨o,ho,hcl,n,hd⟩:=id pl
  have hlt:=zZ ho
  have hne:a≠s.heap.objs.size:=Nat.ne_of_lt hlt
  refine⟨_,_,_,_,_,_,fun i=>ns.getD i 0,rfl,Walks.tuple hh s.heap.objs.size a hne its.toArray,⟨⟨_,zY _ rfl,rfl,rfl⟩,pl.push _⟩,fun b hb=>?_,fun i v hP=>oM rv hP,by rw[zH,hl];exact hin _ hlen,fun h' tk t' kp=>?_⟩
  ·show b < (s.heap.push _).objs.size
   rw[Heap.size_push]
   simp only[zR,yG,or_false] at hb
   rcases hb with rfl|rfl
   ·exact Nat.lt_succ_self _
   ·exact Nat.lt_succ_of_lt hlt
  ·refine⟨.int ns.sum,H,I.kept (t':=tk) fun b o' e=>kp b o' (by simp;exact Nat.ne_of_lt (zZ e)) (zV _ e),⟨t',?_⟩,q⟩
   rw[zH,hl,hsum]
end
section
variable {X:Cx}{e:Expr}{fs:Env->Option (List D)}{pos p:Pos}
noncomputable def qE:List D->Option D:=fun ds=>(dg ds).bind fun es=>(intsOf es).bind fun ns=>if KN ns=true then some (.int ns.sum) else none
theorem kh{K:W.Frag}{H:Hp}:∀ {ns:List Int}{vs:List V},av K H (ns.map PyData.int) vs->vs=ns.map V.int
 | [],vs,h=>h.nil_inv
 | b::bs,vs,h=>by
  obtain⟨v,r,rfl,a,c⟩:=h.cons_inv
  simp only[Rep] at a
  rw[a,kh c]
  rfl
theorem Lp(hc:X.calm=true)(B:mM X "sum" (.builtin "sum"))(he:starEach [e] X.env=(false,eval e X.env)::starEach [] X.env)(ha:DA X [e] fs):DE X (.Call (.Name "sum" p) [e] [] pos) (bb qE fs) :=
 iy (yR hc) (by
  intro HF H ds vs d Q sm r hg q
  obtain⟨es,h1,hg⟩:=bs hg
  obtain⟨ns,h2,hg⟩:=bs hg
  have hg:(if KN ns=true then some (PyData.int ns.sum) else none)=some d:=hg
  split at hg
  ·rename_i hok
   cases hg
   have e2:=dH h2
   subst e2
   rcases gL h1 with rfl|rfl
   all_goals
    obtain⟨v,r',rfl,a,b⟩:=r.cons_inv
    rw[b.nil_inv]
    simp only[Rep] at a
    obtain⟨p,us,rfl,h,rr⟩:=a
    have:=kh rr
    subst this
   ·exact⟨p,ns,rfl,.inr (aC sm h),hok,q _ H HF (.refl sm) (by simp[Rep])⟩
   ·exact⟨p,ns,rfl,.inl (sm.seq h),hok,q _ H HF (.refl sm) (by simp[Rep])⟩
  ·cases hg) B ha (by decide) (by decide) he rfl
end
section
variable {X:Cx}
noncomputable def LG(i:Int):Value->Bool|.int a _=>a == i|_=>false
theorem A8:LF X "list.index" (fun x vs H Q=>∃ (l:Addr) (ns:List Int) (i:Int) (j:Nat),x=.ref l/\vs=[.int i]/\iJ X.K H l (ns.map V.int)/\ns[j]?=some i/\(∀m,m < j->ns[m]?≠some i)/\Q (.int j) H):=by
 intro pins s σ H x vs v us Q I rx rv h
 obtain⟨l,ns,i,j,rfl,rfl,hq,hj,hno,q⟩:=h
 cases rx
 obtain⟨u,rfl,ru⟩:=rv.one
 obtain⟨t,rfl⟩:=ru
 obtain⟨its,r,pl,hz⟩:=I.list hq
 obtain⟨⟨cls,dd,data,sl⟩,ho,hc,n,hd⟩:=id pl.isList
 simp only at hc hd
 subst hc hd
 have hl:its.length=ns.length:=by rw[<- r.length,zD]
 have hj1:j < ns.length:=(zU.mp hj).1
 have hz':ns.length<=sizeLine:=by rw[zD] at hz;exact hz
 have hs63:(sizeLine:Nat) < 2 ^ 62:=by decide
 have at_:∀m (hm:m < its.toArray.size),∃t',its.toArray[m]=.int (ns.getD m 0) t':=fun m hm=>oM r (Array.getElem?_eq_getElem hm)
 refine call_meets F.slot_list_index ⟨_,ho,rfl⟩ F.entry_list_index (F.args_list_index_2 _ _) (PySem.SeqAt.list_indexAt l its.toArray n dd sl (.int i t) (LG i) j (by rw[zH,hl];exact hj1) (by omega) ?_ ?_) ⟨ho,?_,?_⟩
 ·obtain⟨t',e⟩:=at_ j (by rw[zH,hl];exact hj1)
  rw[e,LG,zG,hj]
  simp
 ·intro m hm hmj
  obtain⟨t',e⟩:=at_ m hm
  have hm':m < ns.length:=by omega
  have:=hno m hmj
  rw[e,LG,zG]
  rw[zK hm'] at this ⊢
  simp only[Option.getD_some,beq_eq_false_iff_ne]
  exact fun h=>this (by rw[h])
 ·intro y hy
  obtain⟨m,hm,rfl⟩:=Array.getElem_of_mem hy
  obtain⟨t',e⟩:=at_ m hm
  rw[e]
  exact PySem.SeqAt.EqAt.int_int _ _ _ _
 ·exact⟨.int j,H,I.tok _,⟨_,rfl⟩,q⟩
noncomputable def vt(i:Int):List Int->Option Nat
 | []=>none
 | n::ns=>if n=i then some 0 else (vt i ns).map (·+1)
theorem m5{i:Int}:∀ {ns:List Int}{j:Nat},vt i ns=some j->ns[j]?=some i/\∀m,m < j->ns[m]?≠some i
 | [],j,h=>by cases h
 | n::ns,j,h=>by
  unfold vt at h
  split at h
  ·cases h
   rename_i e
   exact⟨by rw[e];rfl,fun m hm=>absurd hm (Nat.not_lt_zero _)⟩
  ·rename_i e
   obtain⟨k,hk,rfl⟩:=ag h
   obtain⟨a,b⟩:=m5 hk
   refine⟨by simpa using a,fun m hm=>?_⟩
   cases m with
   | zero=>simpa using e
   | succ m=>simpa using b m (by omega)
noncomputable def N0:D->D->Option D
 | .list es,.int i=>(intsOf es).bind fun ns=>(vt i ns).map fun j=>.int ((j:Nat):Int)
 | _,_=>none
theorem EY{o e:Expr}{apos cpos:Pos}{fo fe:Env->Option D}(hbase:attributeBase o "index" X.env (eval o X.env)=eval o X.env)
  (hfew:((backTo cpos (starEach [e] X.env)).all (fun x=>!x.1)&&(backToKw cpos (keywordEach [] X.env)).all (fun x=>x.1.isSome)&&decide ([e].length+([]:List Keyword).length+(if ([]:List Keyword).isEmpty then 0 else 1) < 30))=true)
  (hline:(apos.endLine == cpos.line)=true) (hs:starEach [e] X.env=(false,eval e X.env)::starEach [] X.env) (ho:DE X o fo) (he:DE X e fe):DE X (.Call (.Attribute o "index" apos) [e] [] cpos) (f2 N0 fo fe) :=
 aR (rS PySem.F.plainAttrs_list PySem.F.slot_list_index PySem.F.type_list_index A8 ho (dw he hJ hs) hbase hfew hline hs rfl) fun σ H Q ⟨HF,ρ,d,sm,eo,hf,q⟩=>by
  obtain⟨x,hx,hf⟩:=bs hf
  obtain⟨y,hy,hg⟩:=bs hf
  refine⟨HF,ρ,x,sm,eo,hx,fun v1 H1 HF1 g1 r1=>?_⟩
  cases x<;>try cases hg
  cases y<;>try cases hg
  rename_i es i
  obtain⟨ns,h1,hg⟩:=bs hg
  obtain⟨j,h2,rfl⟩:=ag hg
  have e1:=dH h1
  subst e1
  simp only[Rep] at r1
  obtain⟨l,us,rfl,hq,rr⟩:=r1
  have:=kh rr
  subst this
  refine⟨.inl ⟨rfl,_,g1.fh.seq hq⟩,HF1,ρ,.int i,g1.fh,eo.mono g1.ff,hy,fun v2 H2 HF2 g2 r2=>?_⟩
  simp only[Rep] at r2
  obtain⟨a,b⟩:=m5 h2
  exact⟨l,ns,i,j,rfl,by rw[r2],g2.fh.seq (g2.ff.seq hq),a,b,q _ H2 HF2 (g1.trans g2) (by simp[Rep])⟩
end
end Dl
namespace Tx
open PySem PySem.SeqAt PyProof.Rows
open PySem.AutoSeq1 (wpAny_loadPart')
open PySem.MeetsSeq PySem.MeetsSeq2 PySem.MeetsSeq3
theorem wpR{M:Model}{A:Around}{E:Value->Shared->Prop}{s:Shared}{β:Type}(f:Nat->β->Sem (ForInStep β))(I:List Nat->β->Shared->Prop)(Q:β->Shared->Prop)
  (turn:∀x rest b s,I (x::rest) b s->wpAny M A (f x b) (fun r s'=>match r with|.yield b'=>I rest b' s'|.done b'=>Q b' s') E s)
  (fin:∀b s,I [] b s->Q b s) (n:Nat) (b:β) (h:I (List.range' 0 n 1) b s):wpAny M A (forIn [:n] b f) Q E s:=by
 have e:forIn [:n] b f=forIn (List.range' 0 n 1) b f:=by
  rw[Std.Legacy.Range.forIn_eq_forIn_range']
  simp[Std.Legacy.Range.size]
 rw[e]
 exact wpAny_forIn_list f I Q turn fin _ b h
theorem tuple_indexAt(l:Addr)(items:Array Value)(n:Nat)(dd:Option Addr)(sl:Array (Option Value))(x:Value)(e:Value->Bool)(j:Nat)(hj:j < items.size)(h1:e items[j]=true)(h2:∀m (hm:m < items.size),m < j->e items[m]=false) :
  Meets (Builtin.«tuple.index» ⟨[.ref l,x],[]⟩)
   (fun A R s=>s.heap.get? l=some { cls:=.type "tuple",dict:=dd,data:=.seq items n,slots:=sl }/\(∀y,y∈items->EqAt A.in1 s y x (e y))/\R (.ok (.ret (.int (j:Nat) s.toks))) { s with toks:=s.toks+1 }) :=
 .of_wp fun prog w A R s h=>by
  obtain⟨hp,g,d,tk,os⟩:=s;obtain⟨hl,he,h⟩:=h
  wp_walk using wpAny_loadPart' hl,wpR _ (fun rest b s'=>s'=⟨hp,g,d,tk,os⟩/\b.1=none/\∃i,i<=j/\rest=List.range' i (items.size - i) 1) _
  case turn =>
   rintro i rest b s' ⟨rfl,hb,i',hi,e1⟩
   have hlt:i' < items.size:=by omega
   rw[show items.size - i'=(items.size - (i'+1))+1 by omega,List.range'_succ] at e1
   injection e1 with e2 e3
   subst e2
   subst e3
   simp only[Array.getElem?_eq_getElem hlt]
   refine zW (he _ (Array.getElem_mem hlt) prog w _ _ ?_)
   by_cases hij:i=j
   ·subst hij
    rw[h1]
    wp_walk
    exact⟨_,rfl,h⟩
   ·rw[h2 i hlt (by omega)]
    wp_walk
    exact⟨rfl,rfl,i+1,by omega,rfl⟩
  case fin =>
   rintro b s' ⟨rfl,hb,i,hi,e1⟩
   have:=congrArg List.length e1
   simp at this
   omega
  case h =>
   exact⟨rfl,rfl,0,Nat.zero_le _,by simp⟩
end Tx
namespace Dl
open PySem L2 PySem.Spec PyProof.Rows
section
variable {X:Cx}
theorem Bz:LF X "tuple.index" (fun x vs H Q=>∃ (l:Addr) (ns:List Int) (i:Int) (j:Nat),x=.ref l/\vs=[.int i]/\jQ X.K H l (ns.map V.int)/\ns[j]?=some i/\(∀m,m < j->ns[m]?≠some i)/\Q (.int j) H):=by
 intro pins s σ H x vs v us Q I rx rv h
 obtain⟨l,ns,i,j,rfl,rfl,hq,hj,hno,q⟩:=h
 cases rx
 obtain⟨u,rfl,ru⟩:=rv.one
 obtain⟨t,rfl⟩:=ru
 obtain⟨its,r,pl,hz⟩:=I.tuple hq
 obtain⟨⟨cls,dd,data,sl⟩,ho,hc,n,hd⟩:=id pl
 simp only at hc hd
 subst hc hd
 have hl:its.length=ns.length:=by rw[<- r.length,zD]
 have hj1:j < ns.length:=(zU.mp hj).1
 have at_:∀m (hm:m < its.toArray.size),∃t',its.toArray[m]=.int (ns.getD m 0) t':=fun m hm=>oM r (Array.getElem?_eq_getElem hm)
 refine call_meets F.slot_tuple_index ⟨_,ho,rfl⟩ F.entry_tuple_index (F.args_tuple_index_2 _ _) (Tx.tuple_indexAt l its.toArray n dd sl (.int i t) (LG i) j (by rw[zH,hl];exact hj1) ?_ ?_) ⟨ho,?_,?_⟩
 ·obtain⟨t',e⟩:=at_ j (by rw[zH,hl];exact hj1)
  rw[e,LG,zG,hj]
  simp
 ·intro m hm hmj
  obtain⟨t',e⟩:=at_ m hm
  have hm':m < ns.length:=by
   rw[zH] at hm
   omega
  have:=hno m hmj
  rw[e,LG,zG]
  rw[zK hm'] at this ⊢
  simp only[Option.getD_some,beq_eq_false_iff_ne]
  exact fun h=>this (by rw[h])
 ·intro y hy
  obtain⟨m,hm,rfl⟩:=Array.getElem_of_mem hy
  obtain⟨t',e⟩:=at_ m hm
  rw[e]
  exact PySem.SeqAt.EqAt.int_int _ _ _ _
 ·exact⟨.int j,H,I.tok _,⟨_,rfl⟩,q⟩
theorem Fi{e:Expr}{t u:TE}(h:PE X e t)(g:PE X e u):PE X e (fun σ H Q=>t σ H Q\/u σ H Q):=fun pins s σ H Q I q=>q.elim (h pins s σ H Q I) (g pins s σ H Q I)
noncomputable def n6:D->D->Option D
 | .list es,.int i=>(intsOf es).bind fun ns=>(vt i ns).map fun j=>.int ((j:Nat):Int)
 | .tuple es,.int i=>(intsOf es).bind fun ns=>(vt i ns).map fun j=>.int ((j:Nat):Int)
 | _,_=>none
theorem Cj{o e:Expr}{apos cpos:Pos}{fo fe:Env->Option D}(hbase:attributeBase o "index" X.env (eval o X.env)=eval o X.env)
  (hfew:((backTo cpos (starEach [e] X.env)).all (fun x=>!x.1)&&(backToKw cpos (keywordEach [] X.env)).all (fun x=>x.1.isSome)&&decide ([e].length+([]:List Keyword).length+(if ([]:List Keyword).isEmpty then 0 else 1) < 30))=true)
  (hline:(apos.endLine == cpos.line)=true) (hs:starEach [e] X.env=(false,eval e X.env)::starEach [] X.env) (ho:DE X o fo) (he:DE X e fe):DE X (.Call (.Attribute o "index" apos) [e] [] cpos) (f2 n6 fo fe) :=
 aR (Fi (EY hbase hfew hline hs ho he) (rS PySem.F.plainAttrs_tuple PySem.F.slot_tuple_index PySem.F.type_tuple_index Bz ho (dw he hJ hs) hbase hfew hline hs rfl)) fun σ H Q ⟨HF,ρ,d,sm,eo,hf,q⟩=>by
  obtain⟨x,hx,hf⟩:=bs hf
  obtain⟨y,hy,hg⟩:=bs hf
  cases x<;>try cases hg
  ·cases y<;>try cases hg
   rename_i es i
   exact .inl ⟨HF,ρ,d,sm,eo,by simp only[f2,hx,hy,zA];exact hg,q⟩
  ·cases y<;>try cases hg
   rename_i es i
   obtain⟨ns,h1,hg⟩:=bs hg
   obtain⟨j,h2,rfl⟩:=ag hg
   have e1:=dH h1
   subst e1
   refine .inr ⟨HF,ρ,_,sm,eo,hx,fun v1 H1 HF1 g1 r1=>?_⟩
   simp only[Rep] at r1
   obtain⟨l,us,rfl,hq,rr⟩:=r1
   have:=kh rr
   subst this
   refine⟨?_,HF1,ρ,.int i,g1.fh,eo.mono g1.ff,hy,fun v2 H2 HF2 g2 r2=>?_⟩
   ·first|exact .inr (.inl ⟨rfl,_,aC g1.fh hq⟩)|exact .inl ⟨rfl,_,aC g1.fh hq⟩|exact .inr ⟨rfl,_,aC g1.fh hq⟩
   ·simp only[Rep] at r2
    obtain⟨a,b⟩:=m5 h2
    exact⟨l,ns,i,j,rfl,by rw[r2],aC g2.fh (aC g2.ff hq),a,b,q _ H2 HF2 (g1.trans g2) (by simp[Rep])⟩
end
end Dl
namespace Zp
open PySem PyProof.Rows
def IsI(b:Bool)(h:Heap)(it l:Addr)(k:Nat):Prop:=match b with|true=>h.IsTupleIter it l k|false=>h.IsListIter it l k
def IsS(b:Bool)(h:Heap)(l:Addr)(xs:Array Value):Prop:=match b with|true=>h.IsTuple l xs|false=>h.IsList l xs
theorem IsI.obj{b:Bool}{h:Heap}{it l:Addr}{k:Nat}(x:IsI b h it l k):∃o,h.get? it=some o/\∀v,o.data≠.cell v:=by
 cases b
 ·obtain⟨o,e,_,d⟩:=(show h.IsListIter it l k from x);exact⟨o,e,fun v q=>by rw[d] at q;cases q⟩
 ·obtain⟨o,e,_,d⟩:=(show h.IsTupleIter it l k from x);exact⟨o,e,fun v q=>by rw[d] at q;cases q⟩
theorem IsI.at{b:Bool}{h h':Heap}{it l:Addr}{k:Nat}(x:IsI b h it l k)(e:∀o,h.get? it=some o->h'.get? it=some o):IsI b h' it l k:=by
 cases b
 ·exact Heap.IsListIter.at x e
 ·exact Heap.IsTupleIter.at x e
theorem IsI.extBut{b:Bool}{h h':Heap}{a it l:Addr}{k:Nat}(x:IsI b h it l k)(e:Heap.ExtBut a h h')(n:it≠a):IsI b h' it l k:=x.at fun o q=>e it o n q
theorem IsS.at{b:Bool}{h h':Heap}{l:Addr}{xs:Array Value}(x:IsS b h l xs)(e:∀o,h.get? l=some o->h'.get? l=some o):IsS b h' l xs:=by
 cases b
 ·obtain⟨o,q,r⟩:=(show h.IsList l xs from x);exact⟨o,e o q,r⟩
 ·obtain⟨o,q,r⟩:=(show h.IsTuple l xs from x);exact⟨o,e o q,r⟩
theorem IsS.extBut{b:Bool}{h h':Heap}{a l:Addr}{xs:Array Value}(x:IsS b h l xs)(e:Heap.ExtBut a h h')(n:l≠a):IsS b h' l xs:=x.at fun o q=>e l o n q
section
variable {prog:Program}{w:World}{A:Around}{E:Value->Shared->Prop}{s:Shared}
theorem nxt{b:Bool}{j t:Addr}{k:Nat}{its:Array Value}{v:Value}{Q:Value->Shared->Prop}(hj:IsI b s.heap j t k)(ht:IsS b s.heap t its)(hv:its[k]?=some v)
  (hQ:∀g,IsI b g j t (k+1)->Heap.SameBut j s.heap g->Q v { s with heap:=g }):wpAny (model prog w) A (Builtin.SmallTypes.nextOf (.ref j)) Q E s:=by
 cases b
 ·exact wpAny_nextOf_list_item hj ht hv hQ
 ·exact En.nextT_item hj ht hv hQ
theorem nxtE{b:Bool}{j t:Addr}{k:Nat}{its:Array Value}{Q:Value->Shared->Prop}(hh:A.handled=none)(hj:IsI b s.heap j t k)(ht:IsS b s.heap t its)(hv:its[k]?=none)
  (hE:∀g x,Heap.ExtBut j s.heap g->(∃o,g.get? x=some o/\o.cls=.type "StopIteration")->E (.ref x) { s with heap:=g }):wpAny (model prog w) A (Builtin.SmallTypes.nextOf (.ref j)) Q E s:=by
 cases b
 ·exact wpAny_nextOf_list_end hh hj ht hv hE
 ·exact En.nextT_end hh hj ht hv hE
structure ZS(b₁ b₂:Bool)(h₀ h:Heap)(z TI TO i j l m:Addr)(xs ys:Array Value)(f:Value)(p q:Nat)(a b:Value):Prop where
 zo:IsZip h z TI TO f
 ti:IsPair h TI (.ref i) (.ref j)
 to:IsPair h TO a b
 wi:IsI b₁ h i l p
 wj:IsI b₂ h j m q
 sl:IsS b₁ h l xs
 sm:IsS b₂ h m ys
 kp:∀c o,c≠z->c≠TO->c≠i->c≠j->h₀.get? c=some o->h.get? c=some o
 sz:h.objs.size=h₀.objs.size
section
variable {b₁ b₂:Bool}{h₀ h g:Heap}{z TI TO i j l m:Addr}{xs ys:Array Value}{f f':Value}{p q:Nat}{a b x y:Value}
theorem ZS.fl(Z:ZS b₁ b₂ h₀ h z TI TO i j l m xs ys f p q a b)(D:ZipApart z TI TO i j l m)(e:IsZip g z TI TO f')(t:Heap.SameBut z h g):ZS b₁ b₂ h₀ g z TI TO i j l m xs ys f' p q a b :=
 ⟨e,t.extBut _ _ D.TIz Z.ti,t.extBut _ _ D.TOz Z.to,Z.wi.extBut t.extBut D.i1z,Z.wj.extBut t.extBut D.i2z,Z.sl.extBut t.extBut D.l1z,Z.sm.extBut t.extBut D.l2z,fun c o n1 n2 n3 n4 r=>t.extBut _ _ n1 (Z.kp c o n1 n2 n3 n4 r),t.1.trans Z.sz⟩
theorem ZS.fst(Z:ZS b₁ b₂ h₀ h z TI TO i j l m xs ys f p q a b)(D:ZipApart z TI TO i j l m)(e:IsI b₁ g i l (p+1))(t:Heap.SameBut i h g):ZS b₁ b₂ h₀ g z TI TO i j l m xs ys f (p+1) q a b :=
 ⟨t.extBut _ _ D.i1z.symm Z.zo,t.extBut _ _ D.TIi1 Z.ti,t.extBut _ _ D.TOi1 Z.to,e,Z.wj.extBut t.extBut D.i12.symm,Z.sl.extBut t.extBut D.l1i1,Z.sm.extBut t.extBut D.l2i1,fun c o n1 n2 n3 n4 r=>t.extBut _ _ n3 (Z.kp c o n1 n2 n3 n4 r),t.1.trans Z.sz⟩
theorem ZS.snd(Z:ZS b₁ b₂ h₀ h z TI TO i j l m xs ys f p q a b)(D:ZipApart z TI TO i j l m)(e:IsI b₂ g j m (q+1))(t:Heap.SameBut j h g):ZS b₁ b₂ h₀ g z TI TO i j l m xs ys f p (q+1) a b :=
 ⟨t.extBut _ _ D.i2z.symm Z.zo,t.extBut _ _ D.TIi2 Z.ti,t.extBut _ _ D.TOi2 Z.to,Z.wi.extBut t.extBut D.i12,e,Z.sl.extBut t.extBut D.l1i2,Z.sm.extBut t.extBut D.l2i2,fun c o n1 n2 n3 n4 r=>t.extBut _ _ n4 (Z.kp c o n1 n2 n3 n4 r),t.1.trans Z.sz⟩
theorem ZS.put(Z:ZS b₁ b₂ h₀ h z TI TO i j l m xs ys f p q a b)(D:ZipApart z TI TO i j l m)(e:IsPair g TO x y)(t:Heap.SameBut TO h g):ZS b₁ b₂ h₀ g z TI TO i j l m xs ys f p q x y :=
 ⟨t.extBut _ _ D.TOz.symm Z.zo,t.extBut _ _ D.TITO Z.ti,e,Z.wi.extBut t.extBut D.TOi1.symm,Z.wj.extBut t.extBut D.TOi2.symm,Z.sl.extBut t.extBut D.l1TO,Z.sm.extBut t.extBut D.l2TO,fun c o n1 n2 n3 n4 r=>t.extBut _ _ n2 (Z.kp c o n1 n2 n3 n4 r),t.1.trans Z.sz⟩
end
variable {b₁ b₂:Bool}{z TI TO i j l m:Addr}{xs ys:Array Value}{p q:Nat}{a b:Value}
theorem zipN{Q:Value->Shared->Prop}(hn:A.handled=none)(D:ZipApart z TI TO i j l m)(Z:ZS b₁ b₂ s.heap s.heap z TI TO i j l m xs ys .none p q a b)
  (item:∀x y g g',xs[p]?=some x->ys[q]?=some y->ZS b₁ b₂ s.heap g z TI TO i j l m xs ys .ellipsis (p+1) (q+1) x y->IsZip g' z TI TO (rawInt g.objs.size) ->
   Heap.SameBut z (g.push { cls:=.type "tuple",data:=.seq #[x,y] }) g'->Q (.ref g.objs.size) { s with heap:=g' })
  (over:(xs[p]?=none\/ys[q]?=none)->∀g e,(∀c o,c≠z->c≠TO->c≠i->c≠j->s.heap.get? c=some o->g.get? c=some o)->(∃o,g.get? e=some o/\o.cls=.type "StopIteration")->E (.ref e) { s with heap:=g }) :
  wpAny (model prog w) A (Builtin.«zip.__next__» ⟨[.ref z],[]⟩) (fun r s'=>∃v,r=.done (.ret v)/\Q v s') E s:=by
 have stop:∀ {g1 g2:Heap}{e:Addr}{c:Addr}{p' q':Nat}{a' b':Value},ZS b₁ b₂ s.heap g1 z TI TO i j l m xs ys .ellipsis p' q' a' b'->(c=i\/c=j)->(xs[p]?=none\/ys[q]?=none)->Heap.ExtBut c g1 g2 ->
   (∃o,g2.get? e=some o/\o.cls=.type "StopIteration")->wpAny (model prog w) A (setField (.ref z) 0 Value.none) (fun _ t=>E (.ref e) t) E { s with heap:=g2 }:=by
  intro g1 g2 e c p' q' a' b' Y hc hv k ⟨o,ho,ht⟩
  have cz:z≠c:=hc.elim (fun e=>e ▸ D.i1z.symm) fun e=>e ▸ D.i2z.symm
  have Yz:IsZip g2 z TI TO .ellipsis:=k _ _ cz Y.zo
  refine wpAny_setField_rec Yz (by simp) fun g3 _ t=>over hv g3 e (fun d u n1 n2 n3 n4 r=>t.extBut _ _ n1 (k _ _ ?_ (Y.kp d u n1 n2 n3 n4 r))) ⟨o,t.extBut _ _ ?_ ho,ht⟩
  ·exact hc.elim (fun e=>e ▸ n3) fun e=>e ▸ n4
  ·rintro rfl;rw[Yz] at ho;cases ho;simp at ht
 show wpAny _ _ (field (.ref z) 2 >>= _) _ _ _
 refine zW (wpAny_field Z.zo rfl (x:=.bool false) rfl (zW (wpAny_field Z.zo rfl (x:=.ref TI) rfl (zW (wpAny_seqItems Z.ti rfl (zW (m:=Builtin.SmallTypes.ownedTupleIsFree _) ?_))))))
 refine zW (wpAny_field Z.zo rfl (x:=.none) rfl (zX ?_))
 rw[if_pos rfl]
 refine zW (wpAny_rule (zW (wpAny_field Z.zo rfl (x:=.ref TO) rfl (zW (wpAny_setField_rec Z.zo (by simp) fun g1 e1 t1=>?_)))))
 have Z1:=Z.fl D (f':=.ellipsis) e1 t1
 refine zW ?_
 simp only[List.zipIdx_cons,List.zipIdx_nil,List.forIn_cons,List.forIn_nil]
 refine zW (zW (wpAny_onRaise (zW (m:=Builtin.SmallTypes.nextOf _) ?_)))
 cases hx:xs[p]? with
 | none=>exact nxtE hn Z1.wi Z1.sl hx fun g2 e k o=>stop Z1 (.inl rfl) (.inl hx) k o
 | some x =>
 refine nxt Z1.wi Z1.sl hx fun g2 e2 t2=>zX ?_
 have Z2:=Z1.fst D e2 t2
 refine zW (wpAny_seqItems Z2.to rfl (zW (wpAny_updateSeq_pair Z2.to fun g3 e3 t3=>zW (wpAny_letGo (zX ?_)))))
 have Z3:=Z2.put D (x:=x) (y:=b) e3 t3
 refine zW (zW (wpAny_onRaise (zW (m:=Builtin.SmallTypes.nextOf _) ?_)))
 cases hy:ys[q]? with
 | none=>exact nxtE hn Z3.wj Z3.sm hy fun g4 e k o=>stop Z3 (.inr rfl) (.inr hy) k o
 | some y =>
 refine nxt Z3.wj Z3.sm hy fun g4 e4 t4=>zX ?_
 have Z4:=Z3.snd D e4 t4
 refine zW (wpAny_seqItems Z4.to rfl (zW (wpAny_updateSeq_pair Z4.to fun g5 e5 t5=>zW (wpAny_letGo (zX (zX ?_))))))
 have Z5:=Z4.put D (x:=x) (y:=y) e5 t5
 refine zW (wpAny_seqItems Z5.to rfl (zW (wpAny_newTuple (zW (m:=Builtin.SmallTypes.ownedTupleHandOut _ _) ?_))))
 refine zW (wpAny_setField_rec (zV _ Z5.zo) (by simp) fun g6 e6 t6=>wpAny_setField_rec e6 (by simp) fun g7 e7 t7=>zX ⟨_,rfl,?_⟩)
 exact item x y g5 g7 hx hy Z5 e7 (t6.trans t7)
theorem nextZ{x y:Value}{Q:Option Value->Shared->Prop}(hn:A.handled=none)(D:ZipApart z TI TO i j l m)
  (qz:IsZip s.heap z TI TO .none) (qI:IsPair s.heap TI (.ref i) (.ref j)) (qO:IsPair s.heap TO a b)
  (p1:IsI b₁ s.heap i l p) (p2:IsI b₂ s.heap j m q) (r1:IsS b₁ s.heap l xs) (r2:IsS b₂ s.heap m ys) (ex:xs[p]?=some x) (ey:ys[q]?=some y)
  (kQ:∀g,IsZip g z TI TO (rawInt s.heap.objs.size)->IsPair g TO x y->IsI b₁ g i l (p+1)->IsI b₂ g j m (q+1)->IsPair g s.heap.objs.size x y->g.objs.size=s.heap.objs.size+1 ->
   (∀c o,c≠z->c≠TO->c≠i->c≠j->s.heap.get? c=some o->g.get? c=some o)->Q (some (.ref s.heap.objs.size)) { s with heap:=g }) :
  wpAny (model prog w) A (pyNext (.ref z)) Q E s:=by
 have ty:s.TypeIs (.ref z) "zip":=⟨_,qz,rfl⟩
 have Z:ZS b₁ b₂ s.heap s.heap z TI TO i j l m xs ys .none p q a b:=⟨qz,qI,qO,p1,p2,r1,r2,fun _ _ _ _ _ _ e=>e,rfl⟩
 refine zW (wpAny_attempt (wpAny_callSpecial?_slot (name:=Str.ofString "__next__") ty F.slot_zip_next (wpAny_call_entry F.slot_zip_next ty F.entry_zip_next (zipN hn D Z ?_ ?_) (F.args_zip_next_1 _))))
 ·intro x' y' g g' hx hy Y ez t
  rw[ex] at hx;rw[ey] at hy;cases hx;cases hy
  rw[Y.sz] at ez ⊢
  have lt:=zZ Y.zo
  have up:∀c o,c≠z->g.get? c=some o->g'.get? c=some o:=fun c o n e=>t.extBut _ _ n (zV _ e)
  refine zX (kQ g' ez (up _ _ D.TOz Y.to) (Y.wi.at fun o e=>up _ _ D.i1z e) (Y.wj.at fun o e=>up _ _ D.i2z e) ?_ (by rw[t.1,Heap.size_push,Y.sz]) fun c o n1 n2 n3 n4 e=>up c o n1 (Y.kp c o n1 n2 n3 n4 e))
  rw[<- Y.sz]
  exact t.extBut _ _ (Nat.ne_of_gt lt) (zY _ rfl)
 ·intro no
  rw[ex,ey] at no
  rcases no with no|no<;>cases no
theorem nextZE{Q:Option Value->Shared->Prop}(hn:A.handled=none)(D:ZipApart z TI TO i j l m)
  (qz:IsZip s.heap z TI TO .none) (qI:IsPair s.heap TI (.ref i) (.ref j)) (qO:IsPair s.heap TO a b)
  (p1:IsI b₁ s.heap i l p) (p2:IsI b₂ s.heap j m q) (r1:IsS b₁ s.heap l xs) (r2:IsS b₂ s.heap m ys) (ends:xs[p]?=none\/ys[q]?=none)
  (kQ:∀g,(∀c o,c≠z->c≠TO->c≠i->c≠j->s.heap.get? c=some o->g.get? c=some o)->Q none { s with heap:=g }):wpAny (model prog w) A (pyNext (.ref z)) Q E s:=by
 have ty:s.TypeIs (.ref z) "zip":=⟨_,qz,rfl⟩
 have Z:ZS b₁ b₂ s.heap s.heap z TI TO i j l m xs ys .none p q a b:=⟨qz,qI,qO,p1,p2,r1,r2,fun _ _ _ _ _ _ e=>e,rfl⟩
 refine zW (wpAny_attempt (wpAny_callSpecial?_slot (name:=Str.ofString "__next__") ty F.slot_zip_next (wpAny_call_entry F.slot_zip_next ty F.entry_zip_next (zipN hn D Z ?_ ?_) (F.args_zip_next_1 _))))
 ·intro x y g g' hx hy
  rw[hx,hy] at ends
  rcases ends with no|no<;>cases no
 ·rintro _ g e kp ⟨o,ho,ht⟩
  exact zW (wpAny_isInstance (T:="StopIteration") (b:=true) ⟨o,ho,ht⟩ isSubtype_stop (zX (kQ _ kp)))
end
noncomputable abbrev itO(b:Bool)(l:Addr):Obj:={ cls:=.type (if b then "tuple_iterator" else "list_iterator"),data:=.fields #[.ref l,.int 0 0] }
noncomputable abbrev z1(b:Bool)(h:Heap)(l:Addr):Heap:=h.push (itO b l)
noncomputable abbrev z2(b c:Bool)(h:Heap)(l m:Addr):Heap:=(z1 b h l).push (itO c m)
noncomputable abbrev z3(b c:Bool)(h:Heap)(l m:Addr):Heap:=(z2 b c h l m).push { cls:=.type "tuple",data:=.seq #[.ref h.objs.size,.ref (z1 b h l).objs.size] }
noncomputable abbrev z4(b c:Bool)(h:Heap)(l m:Addr):Heap:=(z3 b c h l m).push { cls:=.type "tuple",data:=.seq #[.none,.none] }
noncomputable abbrev z5(b c:Bool)(h:Heap)(l m:Addr):Heap:=(z4 b c h l m).push { cls:=.type "zip",data:=.fields #[.none,.bool false,.bool false,.ref (z2 b c h l m).objs.size,.ref (z3 b c h l m).objs.size] }
theorem IsS.push{b:Bool}{h:Heap}{l:Addr}{xs:Array Value}(x:IsS b h l xs)(o:Obj):IsS b (h.push o) l xs:=x.at fun o' e=>zV _ e
theorem new_zip(b c:Bool)(l m:Addr)(xs ys:Array Value):Meets (Builtin.«zip.__new__» ⟨[.type "zip",.ref l,.ref m],[]⟩) (fun _ R s=>IsS b s.heap l xs/\IsS c s.heap m ys/\R (.ok (.ret (.ref (z4 b c s.heap l m).objs.size))) { s with heap:=z5 b c s.heap l m }) :=
 .of_wp fun prog w A R s h=>by
  obtain⟨hp,g,d,tk,os⟩:=s;obtain⟨q1,q2,h⟩:=h
  have hsub:=sub_zip
  cases b<;>cases c
  ·have L1:Heap.IsList (Shared.heap ⟨hp,g,d,tk,os⟩) l xs:=q1
   have L2:Heap.IsList (Shared.heap ⟨hp.push { cls:=.type "list_iterator",data:=.fields #[.ref l,.int 0 0] },g,d,tk,os⟩) m ys:=IsS.push (b:=false) q2 _
   wp_walk using wpAny_pyIter_list L1,wpAny_pyIter_list L2
   exact⟨_,rfl,h⟩
  ·have L1:Heap.IsList (Shared.heap ⟨hp,g,d,tk,os⟩) l xs:=q1
   have L2:Heap.IsTuple (Shared.heap ⟨hp.push { cls:=.type "list_iterator",data:=.fields #[.ref l,.int 0 0] },g,d,tk,os⟩) m ys:=IsS.push (b:=true) q2 _
   wp_walk using wpAny_pyIter_list L1,wpAny_pyIter_tuple L2
   exact⟨_,rfl,h⟩
  ·have L1:Heap.IsTuple (Shared.heap ⟨hp,g,d,tk,os⟩) l xs:=q1
   have L2:Heap.IsList (Shared.heap ⟨hp.push { cls:=.type "tuple_iterator",data:=.fields #[.ref l,.int 0 0] },g,d,tk,os⟩) m ys:=IsS.push (b:=false) q2 _
   wp_walk using wpAny_pyIter_tuple L1,wpAny_pyIter_list L2
   exact⟨_,rfl,h⟩
  ·have L1:Heap.IsTuple (Shared.heap ⟨hp,g,d,tk,os⟩) l xs:=q1
   have L2:Heap.IsTuple (Shared.heap ⟨hp.push { cls:=.type "tuple_iterator",data:=.fields #[.ref l,.int 0 0] },g,d,tk,os⟩) m ys:=IsS.push (b:=true) q2 _
   wp_walk using wpAny_pyIter_tuple L1,wpAny_pyIter_tuple L2
   exact⟨_,rfl,h⟩
section
variable {prog:Program}{w:World}{A:Around}{E:Value->Shared->Prop}{s:Shared}
theorem isI_new{b:Bool}{h:Heap}{it l:Addr}(e:h.get? it=some (itO b l)):IsI b h it l 0:=by
 cases b
 ·exact⟨_,e,rfl,rfl⟩
 ·exact⟨_,e,rfl,rfl⟩
theorem call_zip{b c:Bool}{l m:Addr}{xs ys:Array Value}{Q:Value->Shared->Prop}(q1:IsS b s.heap l xs)(q2:IsS c s.heap m ys)
  (h:∀g,IsZip g (s.heap.objs.size+4) (s.heap.objs.size+2) (s.heap.objs.size+3) .none->IsPair g (s.heap.objs.size+2) (.ref s.heap.objs.size) (.ref (s.heap.objs.size+1))->IsPair g (s.heap.objs.size+3) .none .none ->
   IsI b g s.heap.objs.size l 0->IsI c g (s.heap.objs.size+1) m 0->(∀a o,s.heap.get? a=some o->g.get? a=some o)->Q (.ref (s.heap.objs.size+4)) { s with heap:=g }) :
  wpAny (model prog w) A (call (.type "zip") [.ref l,.ref m]) Q E s:=by
 refine callType_new F.called_zip (by decide) (F.typeCall_zip_2 _ _) (F.newCall_zip_2 _ _) (fun obj=>F.args_object_init_3 obj _ _) F.entry_zip_new (new_zip b c l m xs ys) ⟨q1,q2,?_⟩
 have n1:(z1 b s.heap l).objs.size=s.heap.objs.size+1:=Heap.size_push ..
 have n2:(z2 b c s.heap l m).objs.size=s.heap.objs.size+2:=by rw[Heap.size_push,n1]
 have n3:(z3 b c s.heap l m).objs.size=s.heap.objs.size+3:=by rw[Heap.size_push,n2]
 have n4:(z4 b c s.heap l m).objs.size=s.heap.objs.size+4:=by rw[Heap.size_push,n3]
 have g5:(z5 b c s.heap l m).get? (z4 b c s.heap l m).objs.size=some _:=zY _ rfl
 have g4:(z5 b c s.heap l m).get? (z3 b c s.heap l m).objs.size=some _:=zV _ (zY _ rfl)
 have g3:(z5 b c s.heap l m).get? (z2 b c s.heap l m).objs.size=some _:=zV _ (zV _ (zY _ rfl))
 have g2:(z5 b c s.heap l m).get? (z1 b s.heap l).objs.size=some (itO c m):=zV _ (zV _ (zV _ (zY _ rfl)))
 have g1:(z5 b c s.heap l m).get? s.heap.objs.size=some (itO b l):=zV _ (zV _ (zV _ (zV _ (zY _ rfl))))
 show _/\_
 rw[n2,n3,n4] at g5
 rw[n1,n2] at g3
 rw[n3] at g4
 rw[n1] at g2
 rw[n4]
 exact⟨⟨_,g5,rfl⟩,h _ g5 g3 g4 (isI_new g1) (isI_new g2) fun a o x=>zV _ (zV _ (zV _ (zV _ (zV _ x))))⟩
end
end Zp
namespace Dl
open PySem L2 PySem.Spec PyProof.Rows Zp
def se(K:W.Frag)(b:Bool)(a:Addr)(H:Hp)(xs:List V):Prop:=match b with|true=>jQ K H a xs|false=>iJ K H a xs
section
variable {X:Cx}{pins:List (Addr×Obj)}{σ:L2.St}{H:Hp}{s:Shared}{b:Bool}{a:Addr}{xs ys:List V}
theorem se.src(I:Inv X pins σ H s)(h:se X.K b a H xs):∃its:List Value,aF xs its/\IsS b s.heap a its.toArray/\xs.length<=sizeLine:=by
 cases b
 ·obtain⟨its,rv,pl,hz⟩:=I.list (show iJ X.K H a xs from h);exact⟨its,rv,pl.isList,hz⟩
 ·obtain⟨its,rv,pl,hz⟩:=I.tuple (show jQ X.K H a xs from h);exact⟨its,rv,pl,hz⟩
theorem se.ne(I:Inv X pins σ H s){c:Addr}(hf:cE X pins H c)(h:se X.K b a H xs):a≠c:=by
 cases b
 ·exact Lu I hf h
 ·exact Ll I hf h
theorem se.inj(I:Inv X pins σ H s)(h:se X.K b a H xs)(h':se X.K b a H ys):xs=ys:=by
 cases b
 ·exact I.list_inj h h'
 ·exact I.tuple_inj h h'
theorem se.mono{K:W.Frag}{H H':Hp}(e:bc H H')(h:se K b a H xs):se K b a H' xs:=by
 cases b
 ·exact e.seq h
 ·exact aC e h
end
theorem A2{P:Program}{w:World}{K:W.Frag}{elts:List Expr}{k:Nat}{pos:Pos}(b c:Bool)(l1 l2 z TI TO i1 i2:Addr)(Z:OD z TI TO i1 i2) :
  Turn P w K (.Tuple elts k pos) (NM (se K b l1) (se K c l2)) [z,TI,TO,i1,i2] z (fun i h=>IsZip h z TI TO .none/\IsPair h TI (.ref i1) (.ref i2)/\(∃a b,IsPair h TO a b)/\IsI b h i1 l1 i/\IsI c h i2 l2 i) where
 mem:=by simp
 obj:=fun i h st d hd=>by
  obtain⟨hz,hTI,⟨a,b',hTO⟩,p1,p2⟩:=st
  simp only[zR,yG,or_false] at hd
  rcases hd with rfl|rfl|rfl|rfl|rfl
  ·exact⟨_,hz,fun v q=>by have q:Data.fields _=Data.cell v:=q;cases q⟩
  ·exact⟨_,hTI,fun v q=>by have q:Data.seq _ _=Data.cell v:=q;cases q⟩
  ·exact⟨_,hTO,fun v q=>by have q:Data.seq _ _=Data.cell v:=q;cases q⟩
  ·exact p1.obj
  ·exact p2.obj
 keep:=fun i h h' st kk=>by
  obtain⟨hz,hTI,⟨a,b',hTO⟩,h1,h2⟩:=st
  exact⟨kk z (by simp) _ hz,kk TI (by simp) _ hTI,⟨a,b',kk TO (by simp) _ hTO⟩,h1.at fun o q=>kk i1 (by simp) o q,h2.at fun o q=>kk i2 (by simp) o q⟩
 item:=by
  intro X hP hw hK hc i pins s σ H E I hf st hg
  subst hP hw hK
  obtain⟨xs,ys,x,y,hq1,hq2,hx,hy⟩:=hg
  obtain⟨its1,rv1,p1,hz1⟩:=hq1.src I
  obtain⟨its2,rv2,p2,hz2⟩:=hq2.src I
  obtain⟨u1,hu1,ru1⟩:=rv1.get hx
  obtain⟨u2,hu2,ru2⟩:=rv2.get hy
  have D:ZipApart z TI TO i1 i2 l1 l2:=⟨Z.a1,Z.a2,Z.a3,Z.a4,Z.a5,Z.a6,Z.a7,Z.a8,Z.a9,Z.a0,hq1.ne I (hf z (by simp)),hq1.ne I (hf TO (by simp)),hq1.ne I (hf i1 (by simp)),hq1.ne I (hf i2 (by simp)),hq2.ne I (hf z (by simp)),hq2.ne I (hf TO (by simp)),hq2.ne I (hf i1 (by simp)),hq2.ne I (hf i2 (by simp))⟩
  obtain⟨hz,hTI,⟨a,b',hTO⟩,h1,h2⟩:=st
  refine nextZ (I.ok.hd hc) D hz hTI hTO h1 h2 p1 p2 (x:=u1) (y:=u2) (by simpa using hu1) (by simpa using hu2) fun g b1 b2 b3 b4 b5 b6 hk=>⟨.ref s.heap.objs.size,rfl,?_⟩
  have lt:∀ {c:Addr}{o:Obj},s.heap.get? c=some o->s.heap.objs.size≠c:=fun e=>Nat.ne_of_gt (zZ e)
  refine wpAny_letOwnedTupleGo_zip (s:={ s with heap:=g }) b1 fun g' hz' hs'=>?_
  have b5':g'.get? s.heap.objs.size=some { cls:=.type "tuple",data:=.seq #[u1,u2] }:=hs'.extBut _ _ (lt hz) b5
  have ht:mJ g' s.heap.objs.size (List.toArray [u1,u2]):=⟨⟨_,b5',rfl,_,rfl⟩,_,b5',rfl⟩
  refine⟨.ref s.heap.objs.size,_,vM (ch:=[z,TI,TO,i1,i2]) (xs:=[x,y]) (t':=s.toks) I hf (fun b o hb q=>?_) (Nat.le_refl _) ht (.cons ru1 (.cons ru2 .nil)) (by show 2<=sizeLine;decide),rfl,
   ⟨s.heap.objs.size,x,y,rfl,I.fresh,rfl,fun zs hzs=>by rw[hzs.inj I hq1];exact hx,fun zs hzs=>by rw[hzs.inj I hq2];exact hy⟩,
   ⟨hz',hs'.extBut _ _ Z.a1 (hk _ _ D.TIz D.TITO D.TIi1 D.TIi2 hTI),⟨_,_,hs'.extBut _ _ Z.a2 b2⟩,b3.extBut hs'.extBut Z.a3,b4.extBut hs'.extBut Z.a4⟩,fun b hb=>?_⟩
  ·simp only[zR,yG,or_false,not_or] at hb
   exact hs'.extBut _ _ hb.1 (hk b o hb.1 hb.2.2.1 hb.2.2.2.1 hb.2.2.2.2 q)
  ·have:s.heap.objs.size≠b:=by
    simp only[zR,yG,or_false] at hb
    obtain⟨o1,g1,_⟩:=h1.obj
    obtain⟨o2,g2,_⟩:=h2.obj
    rcases hb with rfl|rfl|rfl|rfl|rfl
    ·exact lt hz
    ·exact lt hTI
    ·exact lt hTO
    ·exact lt g1
    ·exact lt g2
   rw[aE (Ne.symm this)]
   exact (hf b hb).1
 done:=by
  intro X hP hw hK hc i pins s σ H E I hf st hg
  subst hP hw hK
  obtain⟨xs,ys,hq1,hq2,hx⟩:=hg
  obtain⟨its1,rv1,p1,hz1⟩:=hq1.src I
  obtain⟨its2,rv2,p2,hz2⟩:=hq2.src I
  have D:ZipApart z TI TO i1 i2 l1 l2:=⟨Z.a1,Z.a2,Z.a3,Z.a4,Z.a5,Z.a6,Z.a7,Z.a8,Z.a9,Z.a0,hq1.ne I (hf z (by simp)),hq1.ne I (hf TO (by simp)),hq1.ne I (hf i1 (by simp)),hq1.ne I (hf i2 (by simp)),hq2.ne I (hf z (by simp)),hq2.ne I (hf TO (by simp)),hq2.ne I (hf i1 (by simp)),hq2.ne I (hf i2 (by simp))⟩
  obtain⟨hz,hTI,⟨a,b',hTO⟩,h1,h2⟩:=st
  have e1:=rv1.length
  have e2:=rv2.length
  refine nextZE (I.ok.hd hc) D hz hTI hTO h1 h2 p1 p2 (hx.elim (fun q=>.inl (by simp;omega)) fun q=>.inr (by simp;omega)) fun g hk=>⟨rfl,?_⟩
  refine B2 (ch:=[z,TI,TO,i1,i2]) (t':=s.toks) I hf fun b o hb q=>?_
  simp only[zR,yG,or_false,not_or] at hb
  exact hk b o hb.1 hb.2.2.1 hb.2.2.2.1 hb.2.2.2.2 q
 self:=fun _ _ _ _ _ st h=>wpAny_pyIter_zip st.1 h
section
variable {X:Cx}{l l':Expr}{fs:Env->Option (List D)}{elts:List Expr}{k:Nat}{pos p tp:Pos}
theorem Hv{tl:TA}(B:mM X "zip" (.type "zip"))(ha:PA X [l,l'] tl)(hs:starEach [l,l'] X.env=(false,eval l X.env)::starEach [l'] X.env)(hs2:(backTo pos (starEach [l'] X.env)).any (·.1)=false) :
  PI X (.Tuple elts k tp) (.Call (.Name "zip" p) [l,l'] [] pos) (fun σ H R=>tl σ H fun vs H1=>∃a b,vs=[.ref a,.ref b]/\∃c d xs ys,se X.K c a H1 xs/\se X.K d b H1 ys/\R (NM (se X.K c a) (se X.K d b)) H1):=by
 intro pins s σ H R I h
 refine Call_ (iS I B.gl B.mg B.bt (PyProof.Rows.callWith_type1 (cg (ha pos pins s σ H _ I h) fun us s1 ⟨vs,H1,I1,r1,q1⟩=>?_) hs hs2))
 obtain⟨a,b,e,c,d,xs,ys,hq1,hq2,q⟩:=q1
 subst e
 obtain⟨u,u',rfl,rx,ry⟩:=vals2 r1
 cases rx
 cases ry
 obtain⟨its,rv,pl,hz⟩:=hq1.src I1
 obtain⟨its',rv',pl',hz'⟩:=hq2.src I1
 refine call_zip pl pl' fun g b1 b2 b3 b4 b5 kp=>wpAny_pyIter_zip (s:={ s1 with heap:=g }) b1 ?_
 refine⟨_,_,_,_,H1,rfl,I1.kept (t':=s1.toks) kp,A2 c d a b (s1.heap.objs.size+4) (s1.heap.objs.size+2) (s1.heap.objs.size+3) s1.heap.objs.size (s1.heap.objs.size+1) ?_,⟨b1,b2,⟨_,_,b3⟩,b4,b5⟩,fun c hc=>?_,q⟩
 ·constructor<;>(intro z;have z:(_:Nat)=_:=z;omega)
 ·have hge:s1.heap.objs.size<=c:=by
   simp only[zR,yG,or_false] at hc
   rcases hc with rfl|rfl|rfl|rfl|rfl
   ·exact Nat.le_add_right _ _
   ·exact Nat.le_add_right _ _
   ·exact Nat.le_add_right _ _
   ·exact Nat.le_refl _
   ·exact Nat.le_add_right _ _
  exact I1.fpOk hge (I1.hok.fresh hge)
noncomputable def L6:List D->Option (List D):=fun ds=>match ds with
 | [x,y]=>(gH x).bind fun xs=>(gH y).map fun ys=>gz xs ys
 | _=>none
theorem xF{K:W.Frag}{HF:Hp}{d:D}{v:V}{xs:List D}(h:gH d=some xs)(r:Rep K HF d v):∃b a vs,v=.ref a/\se K b a HF vs/\av K HF xs vs:=by
 rcases kX h with rfl|rfl
 ·simp only[Rep] at r
  obtain⟨a,vs,rfl,q,rr⟩:=r
  exact⟨true,a,vs,rfl,q,rr⟩
 ·simp only[Rep] at r
  obtain⟨a,vs,rfl,q,rr⟩:=r
  exact⟨false,a,vs,rfl,q,rr⟩
noncomputable def dU(fs:Env->Option (List D)):Env->Option (List D):=fun ρ=>(fs ρ).bind L6
theorem GY(B:mM X "zip" (.type "zip"))(hs:starEach [l,l'] X.env=(false,eval l X.env)::starEach [l'] X.env)(hs2:(backTo pos (starEach [l'] X.env)).any (·.1)=false)(h:DA X [l,l'] fs) :
  DI X (.Tuple elts k tp) (.Call (.Name "zip" p) [l,l'] [] pos) (dU fs) :=
 td (Hv B h hs hs2) fun σ H R ⟨HF,ρ,ds,sm,eo,hf,q⟩=>by
  obtain⟨x,hx,hf⟩:=bs hf
  refine⟨HF,ρ,_,sm,eo,hx,fun vs H1 HF1 g1 r1=>?_⟩
  unfold L6 at hf
  split at hf
  ·obtain⟨xs,h1,hf⟩:=bs hf
   obtain⟨ys,h2,rfl⟩:=ag hf
   obtain⟨v,r',rfl,a,b⟩:=r1.cons_inv
   obtain⟨v',r'',rfl,a',b'⟩:=b.cons_inv
   rw[b'.nil_inv]
   obtain⟨c,ad,us,rfl,hq,rr⟩:=xF h1 a
   obtain⟨c',ad',us',rfl,hq',rr'⟩:=xF h2 a'
   exact⟨ad,ad',rfl,c,c',us,us',hq.mono g1.fh,hq'.mono g1.fh,q _ H1 HF1 g1 (ES hq (fun _ _ s h=>h.mono s) hq' (fun _ _ s h=>h.mono s) rr rr')⟩
  ·cases hf
end
end Dl
namespace Zp
open PySem PyProof.Rows
theorem IsI.ne{b:Bool}{h:Heap}{it l:Addr}{k:Nat}{xs:Array Value}(x:IsI b h it l k)(y:IsS b h l xs):l≠it:=by
 rintro rfl
 cases b
 ·obtain⟨o,e,c,d⟩:=(show h.IsListIter l l k from x)
  obtain⟨o',e',r⟩:=(show h.IsList l xs from y)
  rw[e] at e';cases e'
  simp_all
 ·obtain⟨o,e,c,d⟩:=(show h.IsTupleIter l l k from x)
  obtain⟨o',e',r⟩:=(show h.IsTuple l xs from y)
  rw[e] at e';cases e'
  simp_all
section
variable {prog:Program}{w:World}{A:Around}{E:Value->Shared->Prop}{s:Shared}
theorem drawsI(hn:A.handled=none)(b:Bool)(it l:Addr)(xs:Array Value):Draws prog w A it [it,l] xs.size (fun i x=>xs[i]?=some x) (fun i h=>IsI b h it l i/\IsS b h l xs) where
 live:=fun i h st=>let ⟨o,e,_⟩:=st.1.obj;⟨o,e⟩
 frame:=fun i h h' st k=>⟨st.1.at (k it (by simp)),st.2.at (k l (by simp))⟩
 item:=fun i s Q E hi st hQ=>nxt st.1 st.2 (v:=xs[i]) (by simp[hi]) fun g e t=>hQ _ g s.toks (by simp[hi]) ⟨e,st.2.extBut t.extBut (st.1.ne st.2)⟩ t
 done:=fun s Q E st hE=>nxtE hn st.1 st.2 (by simp) hE
theorem nextE{b₁:Bool}{e it l:Addr}{i:Nat}{items:Array Value}{x old:Value}{Q:Option Value->Shared->Prop}(hn:A.handled=none)
  (qe:IsEnum s.heap e it i old) (qi:IsI b₁ s.heap it l i) (ql:IsS b₁ s.heap l items) (ex:items[i]?=some x) (nei:e≠it)
  (kQ:∀g tk,IsEnumOut g e it ((i:Int)+1) x s.heap.objs.size->IsI b₁ g it l (i+1)->g.get? s.heap.objs.size=some { cls:=.type "tuple",data:=.seq #[.int i tk,x] } ->
   g.objs.size=s.heap.objs.size+1->(∀c o,c≠e->c≠it->s.heap.get? c=some o->g.get? c=some o)->Q (some (.ref s.heap.objs.size)) { s with heap:=g,toks:=tk+1 }) :
  wpAny (model prog w) A (pyNext (.ref e)) Q E s:=by
 have nel:e≠l:=by
  rintro rfl
  cases b₁
  ·obtain⟨o,e1,r⟩:=(show s.heap.IsList e items from ql)
   rw[qe] at e1;cases e1;simp at r
  ·obtain⟨o,e1,r⟩:=(show s.heap.IsTuple e items from ql)
   rw[qe] at e1;cases e1;simp at r
 have D:Draws prog w A.in1 it [it,l] items.size (fun i x=>items[i]?=some x) (fun i h=>IsI b₁ h it l i/\IsS b₁ h l items):=drawsI (A:=A.in1) hn b₁ it l items
 refine wpAny_pyNext_enum_itemD D qe ⟨qi,ql⟩ (Array.getElem?_eq_some_iff.mp ex).1 nei (by simp[nei,nel]) fun y g tk hy a b c d k=>?_
 rw[ex] at hy;cases hy
 exact kQ g tk a b.1 c d k
end
end Zp
namespace Dl
open PySem L2 PySem.Spec PyProof.Rows Zp
theorem qt{P:Program}{w:World}{K:W.Frag}{elts:List Expr}{k:Nat}{pos:Pos}(b:Bool)(a it e:Addr)(hei:e≠it):Turn P w K (.Tuple elts k pos) (Oc (se K b a)) [e,it] e (fun i h=>(∃old,IsEnum h e it i old)/\IsI b h it a i) where
 mem:=by simp
 obj:=fun i h st c hc=>by
  obtain⟨⟨old,he⟩,hi⟩:=st
  rcases zR.mp hc with z|z
  ·subst z;exact⟨_,he,fun v q=>by have q:Data.fields _=Data.cell v:=q;cases q⟩
  ·rw[yL.mp z];exact hi.obj
 keep:=fun i h h' st kk=>⟨let ⟨old,he⟩:=st.1;⟨old,kk e (by simp) _ he⟩,st.2.at fun o q=>kk it (by simp) o q⟩
 item:=by
  intro X hP hw hK hc i pins s σ H E I hf st hg
  subst hP hw hK
  obtain⟨xs,x,hq,hx⟩:=hg
  obtain⟨its,rv,p,hz⟩:=hq.src I
  obtain⟨u,hu,ru⟩:=rv.get hx
  obtain⟨⟨old,he⟩,hi⟩:=st
  refine nextE (I.ok.hd hc) he hi p (x:=u) (by simpa using hu) hei fun g tk b1 b2 b3 b4 hk=>⟨.ref s.heap.objs.size,rfl,?_⟩
  have lt:∀ {c:Addr}{o:Obj},s.heap.get? c=some o->s.heap.objs.size≠c:=fun e=>Nat.ne_of_gt (zZ e)
  have hte:s.heap.objs.size≠e:=lt he
  refine wpAny_letOwnedTupleGo_enum (s:={ s with heap:=g,toks:=tk+1 }) b1 fun g' he' hs'=>?_
  have b3':g'.get? s.heap.objs.size=some { cls:=.type "tuple",data:=.seq #[.int i tk,u] }:=hs'.extBut _ _ hte b3
  have ht:mJ g' s.heap.objs.size (List.toArray [Value.int (i:Nat) tk,u]):=⟨⟨_,b3',rfl,_,rfl⟩,_,b3',rfl⟩
  refine⟨.ref s.heap.objs.size,_,vM (ch:=[e,it]) (xs:=[.int (i:Nat),x]) (t':=tk+1) I hf (fun c o hb q=>?_) (Nat.le_refl _) ht (.cons ⟨_,rfl⟩ (.cons ru .nil)) (by show 2<=sizeLine;decide),rfl,
   ⟨s.heap.objs.size,x,rfl,I.fresh,rfl,fun zs hzs=>by rw[hzs.inj I hq];exact hx⟩,⟨⟨_,he'⟩,b2.extBut hs'.extBut (Ne.symm hei)⟩,fun c hc'=>?_⟩
  ·simp only[zR,yG,or_false,not_or] at hb
   exact hs'.extBut _ _ hb.1 (hk c o hb.1 hb.2 q)
  ·have:s.heap.objs.size≠c:=by
    simp only[zR,yG,or_false] at hc'
    obtain⟨o1,g1,_⟩:=hi.obj
    rcases hc' with rfl|rfl
    ·exact lt he
    ·exact lt g1
   rw[aE (Ne.symm this)]
   exact (hf c hc').1
 done:=by
  intro X hP hw hK hc i pins s σ H E I hf st hg
  subst hP hw hK
  obtain⟨xs,hq,hx⟩:=hg
  obtain⟨its,rv,p,hz⟩:=hq.src I
  have hh:X.A.in1.handled=none:=I.ok.hd hc
  have hl:=rv.length
  obtain⟨⟨old,he⟩,hi⟩:=st
  have hT:s.TypeIs (.ref e) "enumerate":=⟨_,he,rfl⟩
  unfold pyNext
  refine zW (wpAny_attempt (wpAny_callSpecial?_slot (name:=Str.ofString "__next__") hT F.slot_enumerate_next (wpAny_call_entry F.slot_enumerate_next hT F.entry_enumerate_next ?_ (F.args_enumerate_next_1 _))))
  refine zW (m:=field (.ref e) 2) (wpAny_field he rfl (x:=.ref it) rfl ?_)
  refine zW (nxtE hh hi p (by simp;omega) fun h1 x k1 hx1=>?_)
  obtain⟨o,ho,hc1⟩:=hx1
  refine zW (wpAny_isInstance (T:="StopIteration") (b:=true) ⟨o,ho,hc1⟩ isSubtype_stop (zX ⟨rfl,?_⟩))
  obtain⟨f0,f1,f2,f3,f4,f5⟩:=hf it (by simp)
  exact I.turned (t':=s.toks) (fun b o hb q=>k1 b o hb q) f0 f1 f3 f4 f5
 self:=fun _ _ _ _ _ st h=>let ⟨_,he⟩:=st.1;wpAny_pyIter_enum he h
section
variable {X:Cx}{l:Expr}{f:Env->Option D}{fs:Env->Option (List D)}{elts:List Expr}{k:Nat}{pos p tp:Pos}
theorem GQ{tl:TA}(B:mM X "enumerate" (.type "enumerate"))(ha:PA X [l] tl)(hs:starEach [l] X.env=[(false,eval l X.env)]):PI X (.Tuple elts k tp) (.Call (.Name "enumerate" p) [l] [] pos) (fun σ H R=>tl σ H fun vs H1=>∃a,vs=[.ref a]/\∃b xs,se X.K b a H1 xs/\R (Oc (se X.K b a)) H1):=by
 intro pins s σ H R I h
 refine Call_ (iS I B.gl B.mg B.bt (PyProof.Rows.callWith_type1 (cg (ha pos pins s σ H _ I h) fun us s1 ⟨vs,H1,I1,r1,q1⟩=>?_) hs rfl))
 obtain⟨a,e,b,xs,hq,q⟩:=q1
 subst e
 obtain⟨u,rfl,rx⟩:=vals1 r1
 cases rx
 have fresh:∀b∈[s1.heap.objs.size+1,s1.heap.objs.size],cE X pins H1 b:=fun b hb=>by
  rcases zR.mp hb with z|z
  ·subst z;exact I1.fpOk (Nat.le_succ _) (I1.hok.fresh (Nat.le_succ _))
  ·cases yL.mp z;exact I1.fpOk (Nat.le_refl _) I1.fresh
 obtain⟨its,rv,pl,hz⟩:=hq.src I1
 cases b with
 | false =>
  refine call_enumerate_list pl fun h' he hit hsz kp=>wpAny_pyIter_enum (s:={ s1 with heap:=h' }) he ?_
  exact⟨_,_,_,_,H1,rfl,I1.kept (t':=s1.toks) kp,qt false a s1.heap.objs.size (s1.heap.objs.size+1) (Nat.succ_ne_self _),⟨⟨_,he⟩,hit⟩,fresh,q⟩
 | true =>
  refine En.call_enumT (show s1.heap.IsTuple a its.toArray from pl) fun h' he hit hsz kp=>wpAny_pyIter_enum (s:={ s1 with heap:=h' }) he ?_
  exact⟨_,_,_,_,H1,rfl,I1.kept (t':=s1.toks) kp,qt true a s1.heap.objs.size (s1.heap.objs.size+1) (Nat.succ_ne_self _),⟨⟨_,he⟩,hit⟩,fresh,q⟩
noncomputable def bz(fs:Env->Option (List D)):Env->Option (List D):=fun ρ=>(fs ρ).bind fun ds=>(dg ds).map (bB 0)
theorem GX(B:mM X "enumerate" (.type "enumerate"))(h:DA X [l] fs)(hs:starEach [l] X.env=[(false,eval l X.env)]):DI X (.Tuple elts k tp) (.Call (.Name "enumerate" p) [l] [] pos) (bz fs) :=
 td (GQ B h hs) fun σ H R ⟨HF,ρ,ds,sm,eo,hf,q⟩=>by
  obtain⟨x,hx,hf⟩:=bs hf
  obtain⟨es,h1,rfl⟩:=ag hf
  obtain⟨d,h0,h1⟩:=bs h1
  rw[gh h0] at hx
  refine⟨HF,ρ,_,sm,eo,hx,fun vs H1 HF1 g1 r1=>?_⟩
  obtain⟨v,r',rfl,a,b⟩:=r1.cons_inv
  rw[b.nil_inv]
  obtain⟨c,ad,us,rfl,hq,rr⟩:=xF h1 a
  exact⟨ad,rfl,c,us,hq.mono g1.fh,q _ H1 HF1 g1 (Bc hq (fun _ _ s h=>h.mono s) rr)⟩
end
end Dl
namespace Srt
open PySem PySem.W PySem.Calls PyProof.Rows L2
theorem cE.at{X:Cx}{pins:List (Addr×Obj)}{H H':Hp}{b:Addr}(h:cE X pins H b)(e:H' b=none):cE X pins H' b:=⟨e,h.2⟩
section
variable {X:Cx}{pins:List (Addr×Obj)}{σ:L2.St}{H:Hp}{s:Shared}{A:Around}{E:Value->Shared->Prop}
theorem upd_inv{b:Addr}{g:Array Value->Array Value}(I:Inv X pins σ H s)(f:cE X pins H b):Inv X pins σ H { s with heap:=s.heap.update b (Obj.mapSeq g) }:=by
 obtain⟨f0,f1,f2,f3,f4,f5⟩:=f
 exact I.turned (t':=s.toks) (h':=s.heap.update b (Obj.mapSeq g)) (fun c o hc e=>(Heap.get?_update_other _ _ (Ne.symm hc)).trans e) f0 f1 f3 f4 f5
theorem pin_get{fp:List Addr}{h:Heap}{b:Addr}{o:Obj}{H':Hp}{s':Shared}(I:Inv X (pins++nh fp h) σ H' s')(hb:b∈fp)(e:h.get? b=some o):s'.heap.get? b=some o/\H' b=none :=
 let q:=I.pin (b,o) (yF _ (yF _ (dC hb e)));⟨q.1,q.2.1⟩
theorem list_sortK{a:Addr}{f:Value}{vs:List Value}{n:Nat}{P:PySem.Fin->Shared->Prop}(I:Inv X pins σ H s)(ho:s.heap.get? a=some (seqObj "list" vs.toArray n))(fa:cE X pins H a)(h64:vs.length < 64)
  (J:List Value->Hp->Prop) (j0:J [] H)
  (step:∀us v,vs[us.length]?=some v->∀pl s' H',Inv X (pins++pl) σ H' s'->J us H'->wpAny (model X.prog X.w) A (call f [v]) (fun u s''=>∃H'',Inv X (pins++pl) σ H'' s''/\J (us++[u]) H'') (fun _ _=>False) s')
  (fin:∀us H',us.length=vs.length->J us H'->∃ (z:Nat->Int) (κ:SortKind),(2<=vs.length->∀s',Inv X pins σ H' s'->(∀Q':SortKind->Shared->Prop,Q' κ s'->wpAny (model X.prog X.w) A (keyKind' us.toArray) Q' (fun _ _=>False) s') /\
    ∀i j C,i < vs.length->j < vs.length->C (SP.eu z i j) s'->kas_ask X.prog X.w A κ us i j C s') /\
   ∀s' c,Inv X pins σ H' s'->cE X pins H' a->s'.heap.get? a=some (seqObj "list" (outV z vs).toArray c)->P (.done (.ret .none)) s') :
  wpAny (model X.prog X.w) A (ksk_tree a f false) P E s:=by
 have hsl:vs.length<=sizeLine:=by rw[sizeLine_eq];omega
 unfold ksk_tree
 refine zW (listItems_at ho rfl ?_)
 refine zW (listUpdate_at ho rfl ?_ (by simpa using hsl) (Nat.zero_le _))
 obtain⟨e1,ho1⟩:∃e,(s.heap.update a (Obj.mapSeq fun _=>(#[]:Array Value))).get? a=some (seqObj "list" #[] e):=⟨_,get?_update_seq ho fun _=>#[]⟩
 have I1:=upd_inv (g:=fun _=>(#[]:Array Value)) I fa
 refine zW (seqEpoch_at ho1 rfl ?_)
 refine zW (wpAny_newTuple ?_ (by simpa using hsl))
 refine zW (wpAny_newList ?_ (Nat.zero_le _))
 refine wpAny_holding ?_
 have ho3:(((s.heap.update a (Obj.mapSeq fun _=>(#[]:Array Value))).push (seqObj "tuple" vs.toArray 0)).push (seqObj "list" #[] 0)).get? a=some (seqObj "list" #[] e1):=zV _ (zV _ ho1)
 have hk3:(((s.heap.update a (Obj.mapSeq fun _=>(#[]:Array Value))).push (seqObj "tuple" vs.toArray 0)).push (seqObj "list" #[] 0)).get? ((s.heap.update a (Obj.mapSeq fun _=>(#[]:Array Value))).push (seqObj "tuple" vs.toArray 0)).objs.size=some (seqObj "list" #[] 0):=zY _ rfl
 have I3:=(I1.kept (t':=s.toks) (h':=((s.heap.update a (Obj.mapSeq fun _=>(#[]:Array Value))).push (seqObj "tuple" vs.toArray 0)).push (seqObj "list" #[] 0)) fun b o e=>zV _ (zV _ e))
 have I2:=(I1.kept (t':=s.toks) (h':=(s.heap.update a (Obj.mapSeq fun _=>(#[]:Array Value))).push (seqObj "tuple" vs.toArray 0)) fun b o e=>zV _ e)
 have fk:cE X pins H ((s.heap.update a (Obj.mapSeq fun _=>(#[]:Array Value))).push (seqObj "tuple" vs.toArray 0)).objs.size:=I2.fpOk (Nat.le_refl _) (I2.hok.fresh (Nat.le_refl _))
 have hka:((s.heap.update a (Obj.mapSeq fun _=>(#[]:Array Value))).push (seqObj "tuple" vs.toArray 0)).objs.size≠a:=by
  have hlt:=zZ ho1
  rw[Heap.size_push]
  exact Nat.ne_of_gt (Nat.lt_succ_of_lt hlt)
 show wpAny _ A _ P E { s with heap:=((s.heap.update a (Obj.mapSeq fun _=>(#[]:Array Value))).push (seqObj "tuple" vs.toArray 0)).push (seqObj "list" #[] 0) }
 generalize ((s.heap.update a (Obj.mapSeq fun _=>(#[]:Array Value))).push (seqObj "tuple" vs.toArray 0)).objs.size=kS at hk3 fk hka
 generalize e3:({ s with heap:=((s.heap.update a (Obj.mapSeq fun _=>(#[]:Array Value))).push (seqObj "tuple" vs.toArray 0)).push (seqObj "list" #[] 0) }:Shared)=s3 at I3
 have ho3:s3.heap.get? a=some (seqObj "list" #[] e1):=by rw[<- e3];exact ho3
 have hk3:s3.heap.get? kS=some (seqObj "list" #[] 0):=by rw[<- e3];exact hk3
 clear e3 I2 I1 ho1 ho
 unfold ksk_rest
 refine zW (wpAny_rule ?_)
 first
  | rw[List.forIn_toArray]
  | (rw[<- Array.forIn_toList];simp only[List.toList_toArray])
  | rw[<- Array.forIn_toList]
 refine zW (ksk_fold (fun i s'=>∃us H' e,us.length=i/\Inv X pins σ H' s'/\H' a=none/\H' kS=none/\s'.heap.get? a=some (seqObj "list" #[] e1)/\s'.heap.get? kS=some (seqObj "list" us.toArray e)/\J us H') vs 0 s3
  ⟨[],H,0,rfl,I3,fa.1,fk.1,ho3,hk3,j0⟩ ?step ?done)
 case step =>
  rintro j x s' hx ⟨us,H',e,hu,I',ha',hk',hoa,hok,j'⟩
  have hu:us.length=j:=by omega
  have hj:j < vs.length:=(zU.mp hx).1
  have Ip:=I'.pinned (fp:=[a,kS]) (fun b hb=>by
   rcases zR.mp hb with rfl|hb
   ·exact cE.at fa ha'
   ·rw[yL.mp hb];exact cE.at fk hk') (fun b hb=>by
   rcases zR.mp hb with rfl|hb
   ·exact⟨_,hoa,fun v z=>by cases z⟩
   ·rw[yL.mp hb];exact⟨_,hok,fun v z=>by cases z⟩)
  refine zW (wpAny_attempt (wpAny_mono (step us x (by rw[hu];exact hx) _ s' H' Ip j') (fun u s'' he=>?_) fun _ _ hF=>hF.elim))
  obtain⟨H'',I'',j''⟩:=he
  try dsimp only
  obtain⟨ga,na⟩:=pin_get I'' (b:=a) zE hoa
  obtain⟨gk,nk⟩:=pin_get I'' (b:=kS) (zC _ zE) hok
  have I4:=I''.unpinned
  obtain⟨c2,hc2⟩:∃c2,(s''.heap.update kS (Obj.mapSeq (·.push u))).get? kS=some (seqObj "list" (us.toArray.push u) c2):=⟨_,get?_update_seq gk (·.push u)⟩
  refine zW (listUpdate_at gk rfl ?_ (by rw[zH,sizeLine_eq];omega) (yE (Nat.le_of_eq (Array.size_push ..)) (by rw[zH,sizeLine_eq];omega)))
  refine zX ⟨rfl,us++[u],H'',c2,by rw[zN,hu];simp,upd_inv I4 (cE.at fk nk),na,nk,(Heap.get?_update_other _ _ hka).trans ga,?_,j''⟩
  rw[hc2]
  simp
 case done =>
  rintro s' ⟨us,H',e,hu,I',ha',hk',hoa,hok,j'⟩
  have hu:us.length=vs.length:=by omega
  try dsimp only
  refine zW (listItems_at hok rfl ?_)
  obtain⟨z,κ,hz,hP⟩:=fin us H' hu j'
  have last:∀st':SortSt,(arrOf st').map (·.2)=(outV z vs).toArray->failedOf st'=none->wpAny (model X.prog X.w) A (ksk_tail a false e1 (.ref kS) st') P E s':=fun st' h1 h2=>by
   unfold ksk_tail
   try dsimp only
   rw[h1,h2]
   have na1:(s'.heap.update kS (Obj.mapSeq fun _=>(#[]:Array Value))).get? a=some (seqObj "list" #[] e1):=(Heap.get?_update_other _ _ hka).trans hoa
   have I5:=upd_inv (g:=fun _=>(#[]:Array Value)) I' (cE.at fk hk')
   have I6:=upd_inv (s:={ s' with heap:=s'.heap.update kS (Obj.mapSeq fun _=>(#[]:Array Value)) }) (g:=fun _=>(outV z vs).toArray) I5 (cE.at fa ha')
   refine zW (listUpdate_at hok rfl ?_ (by rw[zH,sizeLine_eq];omega) (Nat.zero_le _))
   refine zW (wpAny_letGo ?_)
   refine zW (seqEpoch_at na1 rfl ?_)
   refine zW (listUpdate_at na1 rfl ?_ (Nat.zero_le _) (by
    simp only[Bool.false_eq_true,if_false]
    show (outV z vs).toArray.size<=_;rw[zH,outV_len];omega))
   obtain⟨c,hc⟩:∃c,((s'.heap.update kS (Obj.mapSeq fun _=>(#[]:Array Value))).update a (Obj.mapSeq fun _=>(outV z vs).toArray)).get? a=some (seqObj "list" (outV z vs).toArray c):=⟨_,get?_update_seq na1 fun _=>(outV z vs).toArray⟩
   simp only[bne_self_eq_false,Bool.false_eq_true,if_false]
   exact zX (hP _ c I6 (cE.at fa ha') hc)
  unfold ksk_end
  try dsimp only
  simp only[Bool.false_eq_true,if_false]
  by_cases h2:vs.toArray.size < 2
  ·rw[if_pos h2,if_pos h2]
   refine zW (zX ?_)
   rw[StateT.run_pure]
   refine zW (zX (last _ ?_ rfl))
   have h2':vs.length < 2:=by simpa using h2
   unfold outV
   rw[if_pos h2']
   show ((us.toArray.zip vs.toArray).map (·.2))=vs.toArray
   apply Array.toList_inj.mp
   simp only[Array.toList_map,Array.toList_zip]
   exact List.map_snd_zip (by rw[hu];exact Nat.le_refl _)
  ·rw[if_neg h2,if_neg h2]
   have h2':2<=vs.length:=by
    have:¬ vs.length < 2:=by simpa using h2
    omega
   obtain⟨hk,hlt⟩:=hz h2' s' I'
   refine zW (wpAny_mono (hk (fun κ' s''=>κ'=κ/\s''=s') ⟨rfl,rfl⟩) (fun κ' s'' hs=>?_) fun _ _ x=>x.elim)
   obtain⟨rfl,rfl⟩:=hs
   refine zW (wpAny_mono (kat_run (Q:=fun st' s2=>s2=s''/\(arrOf st').map (·.2)=(outV z vs).toArray/\failedOf st'=none) (G:=fun p s2=>s2=s''/\p=SP.run (SP.eu z) (kas_sort vs.length))
    hu h2' h64 (fun p st' s2 a1 a2 a3 a4=>⟨a4.1,?_,a3⟩) (SP.wp_run hlt (kas_sort vs.length) (SP.Da (by omega)) ⟨rfl,rfl⟩)) ?_ fun _ _ e=>e)
   ·rw[kat_snds hu a2,a4.2]
    unfold outV
    rw[if_neg (by omega)]
   ·rintro⟨⟨⟩,st'⟩ s2 ⟨hs,h4,h5⟩
    subst hs
    exact last st' h4 h5
theorem sortedK{l:Value}{f:Addr}{vs:List Value}{Q:Value->Shared->Prop}(I:Inv X pins σ H s)(h64:vs.length < 64)
  (hcol:∀ {Q':List Value->Shared->Prop},(∀h':Heap,(∀b o,s.heap.get? b=some o->h'.get? b=some o)->Q' vs { s with heap:=h' })->wpAny (model X.prog X.w) A.in1 (collect l) Q' E s)
  (J:List Value->Hp->Prop) (j0:J [] H)
  (step:∀us v,vs[us.length]?=some v->∀pl s' H',Inv X (pins++pl) σ H' s'->J us H'->wpAny (model X.prog X.w) A.in1.in1 (call (.ref f) [v]) (fun u s''=>∃H'',Inv X (pins++pl) σ H'' s''/\J (us++[u]) H'') (fun _ _=>False) s')
  (fin:∀us H',us.length=vs.length->J us H'->∃ (z:Nat->Int) (κ:SortKind),(2<=vs.length->∀s',Inv X pins σ H' s'->(∀Q':SortKind->Shared->Prop,Q' κ s'->wpAny (model X.prog X.w) A.in1.in1 (keyKind' us.toArray) Q' (fun _ _=>False) s') /\
    ∀i j C,i < vs.length->j < vs.length->C (SP.eu z i j) s'->kas_ask X.prog X.w A.in1.in1 κ us i j C s') /\
   ∀s' D c,Inv X pins σ H' s'->cE X pins H' D->s'.heap.get? D=some (seqObj "list" (outV z vs).toArray c)->Q (.ref D) s') :
  wpAny (model X.prog X.w) A (call (.builtin "sorted") [l] [(Str.ofString "key",.ref f)]) Q E s:=by
 have hsl:vs.length<=sizeLine:=by rw[sizeLine_eq];omega
 refine call_function_entry_kw kind_sorted plain_sorted entry_sorted (ksk_s1 _ _) ?_
 unfold Builtin.«sorted»
 refine zW (m:=checkCount "sorted" 1 1 _) (zX (zW (hcol fun h1 kp=>?_)))
 refine zW (wpAny_newList ?_ (by simpa using hsl))
 have I1:=I.kept (t':=s.toks) kp
 have fD:cE X pins H h1.objs.size:=I1.fpOk (Nat.le_refl _) (I1.hok.fresh (Nat.le_refl _))
 have hoD:(h1.push (seqObj "list" vs.toArray 0)).get? h1.objs.size=some (seqObj "list" vs.toArray 0):=zY _ rfl
 have I2:=I1.kept (t':=s.toks) (h':=h1.push (seqObj "list" vs.toArray 0)) fun b o e=>zV _ e
 show wpAny _ _ _ _ _ { s with heap:=h1.push (seqObj "list" vs.toArray 0) }
 refine zW (wpAny_holding (wpAny_call_entry_kw slot_list_sort ⟨_,hoD,rfl⟩ entry_list_sort ?body (ksk_l1 _ _)))
 case body =>
  show wpAny (model X.prog X.w) A.in1.in1 (Builtin.«list.sort» ⟨[.ref h1.objs.size],[(Str.ofString "key",.ref f)]⟩) _ _ _
  rw[ksk_t1]
  refine list_sortK I2 hoD fD h64 J j0 step fun us H' hu j'=>?_
  obtain⟨z,κ,hz,hP⟩:=fin us H' hu j'
  exact⟨z,κ,hz,fun s' c I' f' e=>⟨_,rfl,zX ⟨_,rfl,hP s' _ c I' f' e⟩⟩⟩
end
end Srt
namespace Dl
open PySem L2 PySem.Spec PyProof.Rows
theorem _root_.L2.Inv.track{X:Cx}{pins:List (Addr×Obj)}{σ:L2.St}{H:Hp}{s:Shared}{b:Addr}{o:HO}(I:Inv X pins σ H s)(f:cE X pins H b)(ho:eX X.prog X.w (upd H b o) s.heap b o):Inv X pins σ (upd H b o) s:=by
 obtain⟨f0,f1,f2,f3,f4,f5⟩:=f
 have up:∀c u,H c=some u->upd H b o c=some u:=fun c u e=>by rw[aE (aP e f0)];exact e
 refine⟨I.ok,I.os,I.bare,⟨I.base.keep,I.base.slot,fun c oc e n hx=>?_,I.base.there,fun c xs e=>up c _ (I.base.tups c xs e),fun c oc u e=>up c _ (I.base.frzs c oc u e),⟨fun c u e t=>up c u (I.base.tbls.st c u e t),I.base.tbls.gr⟩⟩,I.loc,I.cell,?_,fun x c e=>?_,fun p hp=>?_,fun c u e=>?_,I.len⟩
 ·have hne:c≠b:=fun z=>by
   rcases f3 with g|g
   ·exact hx (z ▸ g)
   ·exact absurd (zP (zZ e) (z ▸ g)) (Nat.lt_irrefl _)
  rw[aE hne];exact I.base.free c oc e n hx
 ·rw[aE (Ne.symm f1)];exact I.free
 ·rw[aE (f4 x c e)];exact I.freeC x c e
 ·obtain⟨e,n,r⟩:=I.pin p hp
  exact⟨e,by rw[aE (f5 p hp)];exact n,r⟩
 ·by_cases hc:c=b
  ·subst hc;rw[aK] at e;cases e;exact ho
  ·rw[aE hc] at e
   exact (I.hok c u e).stay (fun d w _ q=>q) (fun d q=>up d _ q) fun d w q _=>up d _ q
noncomputable def nI(scope:Scope)(N':List Str)(p:Str):Bool:=scope.names.all (fun q=>!decide (q.2=NameKind.cell))&&decide (N'[0]?=some p)&&decide (scope.names.lookup p=some .local)&&decide (scope.isCoroutine=false)&&decide (scope.isGenerator=false)
section
variable {X:Cx}{N:List Str}{sc:Scope}{k:Nat}
theorem Dr{scope:Scope}{N':List Str}{p qual:Str}{A:Around}{f c:Addr}{s:Shared}{H:Hp}(C:Bk X N sc (k+3))(hA:et (k+1) A)(hk:scope.kind=.function)(hnd:N'.Nodup)(hl:nI scope N' p=true):Bk (gE X A qual scope N' f c s H) N' scope k where
 n:=rfl
 nd:=hnd
 tb:=fun x kd hx=>.inl hx
 calm:=rfl
 fn:=fun x hx=>by
  unfold nI at hl
  simp only[zF,List.all_eq_true,Bool.not_eq_true',decide_eq_false_iff_not] at hl
  exact absurd rfl (hl.1.1.1.1 _ (mem_of_lookup hx))
 room:=hA.deeper _
 xe:=rfl
 kd:=hk
structure p7(X:Cx)(qual:Str):Prop where
 ex:∃c P,X.env.code=.ref c/\X.env.qual++"<lambda>"=qual/\W.codeHdIn X.K c P=true/\∀HF,gq X.K HF->HF P=some (.tab qual)
noncomputable def iw(te:Env->Option D)(ρ:Env):List D->Option (List D)
 | []=>some []
 | d::ds=>(te (ρ.set 0 (some d))).bind fun x=>(iw te ρ ds).map (x::·)
theorem mD{te:Env->Option D}{ρ:Env}:∀ {ds ks:List D},iw te ρ ds=some ks->ks.length=ds.length
 | [],ks,h=>by cases h;rfl
 | d'::ds,ks,h=>by
  unfold iw at h
  obtain⟨y,h1,h⟩:=bs h
  obtain⟨ys,h2,rfl⟩:=ag h
  simp[mD h2]
theorem qh{te:Env->Option D}{ρ:Env}:∀ {ds ks:List D}{i:Nat}{d:D},iw te ρ ds=some ks->ds[i]?=some d->∃x,te (ρ.set 0 (some d))=some x/\ks[i]?=some x
 | [],ks,i,d,h,e=>by simp at e
 | d'::ds,ks,i,d,h,e=>by
  unfold iw at h
  obtain⟨y,h1,h⟩:=bs h
  obtain⟨ys,h2,rfl⟩:=ag h
  cases i with
  | zero=>simp at e;subst e;exact⟨y,h1,rfl⟩
  | succ i=>obtain⟨x,a,b⟩:=qh h2 (by simpa using e);exact⟨x,a,by simpa using b⟩
noncomputable def mE(cs:List Nat)(fl te:Env->Option D):Env->Option (List D):=fun ρ=>(fl ρ).bind fun l=>match l with
 | .list ds=>(iw te (d9 1 cs ρ) ds).bind fun ks=>(intsOf ks).bind fun zs=>if ds.length < 64 then some (oK (fun i=>zs.getD i 0) ds .none) else none
 | _=>none
theorem vN{K:W.Frag}{HF:Hp}{ρ:Env}{σ:L2.St}{cs:List Nat}{d:D}{v:V}(eo:cW K HF ρ σ)(r:Rep K HF d v):cW K HF ((d9 1 cs ρ).set 0 (some d)) ((jy 1 cs σ).set 0 (some v)):=jf (Ab eo) r
theorem l9{K:W.Frag}{HF:Hp}:∀ {ks:List D}{zs:List Int}{kvs:List V}{us:List Value},intsOf ks=some zs->av K HF ks kvs->aF kvs us->IntsAre us zs
 | [],zs,kvs,us,h,r,v=>by
  cases h
  rw[r.nil_inv] at v
  cases v
  exact .nil
 | d::ks,zs,kvs,us,h,r,v=>by
  cases d<;>simp only[intsOf] at h<;>try cases h
  rename_i i
  obtain⟨ys,h2,rfl⟩:=ag h
  obtain⟨w,ws,rfl,a,b⟩:=r.cons_inv
  simp only[Rep] at a
  subst a
  cases v with
  | cons r1 r2 =>
   obtain⟨t,rfl⟩:=r1
   exact .cons i t (l9 h2 b r2)
theorem iV:∀ {us:List Value}{zs:List Int}{i:Nat},IntsAre us zs->i < us.length->∃t,us.getD i Value.none=.int (zs.getD i 0) t
 | _,_,i,.nil,h=>by simp at h
 | _,_,0,.cons n t r,h=>⟨t,rfl⟩
 | _,_,i+1,.cons n t r,h=>by
  obtain⟨t',e⟩:=iV (i:=i) r (by simpa using h)
  exact⟨t',by simpa using e⟩
variable {l body:Expr}{fl te:Env->Option D}{params:Arguments}{scope:Scope}{lpos pos p0 kpos:Pos}{N':List Str}{cs:List Nat}{p qual:Str}
theorem Bk.sortK(C:Bk X N sc (k+3))(B:mM X "sorted" (.builtin "sorted"))(L:p7 X qual)(ok:iN sc scope N N' 1 cs=true)(hl:nI scope N' p=true)
  (hb:∀ (cl:List (Str×Addr)) (pm ctv u:Value) (c:Addr),bindArgs (W.kla_fn "<lambda>" qual params body scope cl pm (.ref c) ctv) ⟨[u],[]⟩=pure [(p,u)]) (hdef:defaultsOf params X.env=([],[])) (h:DE X l fl)
  (hY:∀A f c s H,Bk (gE X A qual scope N' f c s H) N' scope k->DE (gE X A qual scope N' f c s H) body te)
  (hst:starEach [l] X.env=(false,eval l X.env)::starEach [] X.env) (he:backTo pos (starEach [l] X.env)=(false,eval l X.env)::backTo pos (starEach [] X.env)) (hpl:(backTo pos (starEach [l] X.env)).any (·.1)=false) :
  DF X (.Call (.Name "sorted" p0) [l] [⟨some "key",.Lambda params body scope lpos,kpos⟩] pos) (mE cs fl te):=by
 obtain⟨S,_⟩:=C.comp ok
 have hnd:N'.Nodup:=by
  unfold iN at ok
  simp only[zF,zJ] at ok
  exact ok.2
 have hl':=hl
 unfold nI at hl'
 simp only[zF,List.all_eq_true,Bool.not_eq_true',decide_eq_false_iff_not,zJ] at hl'
 obtain⟨⟨⟨⟨hnc,hN0⟩,hp⟩,hco⟩,hgen⟩:=hl'
 obtain⟨cc,P,hcode,hqual,hhd,eT⟩:=L.ex
 intro pins s σ H Q I ⟨HF,ρ,out,sm,eo,hf,q⟩
 obtain⟨ld,hld,hf⟩:=bs hf
 cases ld<;>try cases hf
 rename_i ds
 obtain⟨ks,hks,hf⟩:=bs hf
 obtain⟨zs,hzs,hf⟩:=bs hf
 split at hf<;>cases hf
 rename_i h64
 refine wpAny_Call_Name_kw (iS I B.gl B.mg B.bt ?_ (by decide) (by decide))
 refine PyProof.Rows.callWith_kw (e:=l) (rest:=[]) (kws:=[⟨some "key",.Lambda params body scope lpos,kpos⟩]) ?_ he hpl rfl rfl
 refine cg (Az h EG hst pos pins s σ H _ I ⟨HF,ρ,[.list ds],sm,eo,by simp[aa,ae,hld],fun vs H1 HF1 g1 r1=>(⟨HF1,g1,r1⟩:∃HF1,cF HF H HF1 H1/\av X.K HF1 [.list ds] vs)⟩) fun us s1 ⟨vs,H1,I1,rv,HF1,g1,r1⟩=>?_
 obtain⟨v,vr,rfl,a1,b1⟩:=r1.cons_inv
 rw[b1.nil_inv] at rv
 obtain⟨u,rfl,rx⟩:=vals1 rv
 simp only[Rep] at a1
 obtain⟨la,ws,rfl,hq,rr⟩:=a1
 cases rx
 have hT1:H1 P=some (.tab qual):=g1.fh _ _ (eT HF1 (eo.tb.mono g1.ff))
 show wpAny _ _ (evalAll ((do let v <- eval (.Lambda params body scope lpos) X.env;standAt pos;pure v)::[])) _ _ s1
 refine wpAny_evalAll_cons (zW ?_)
 refine u5 (P:=P) I1 S hqual hcode (W.codeHd_of_K I1.ok.mod.kin hhd) hT1 I1.ok.mod.bmd hdef fun f c' pm ctv s2 H2 I2 hfo hfn hcod s12 fp2 _=>?_
 refine zW (wpAny_standAt (zX (wpAny_evalAll_nil ?_)))
 show wpAny _ _ (call (.builtin "sorted") [.ref la] [(Str.ofString "key",.ref f)]) _ _ s2
 have Ip:=I2.pinned (fp:=[f]) (fun b hb=>by rw[yL.mp hb];exact fp2) (fun b hb=>by rw[yL.mp hb];exact⟨_,hfo,fun v z=>by cases z⟩)
 have g2:cF HF1 H1 HF1 H2:=⟨s12,.refl _,g1.fh.trans s12,fun _ _ e=>.inl e⟩
 obtain⟨its,rvi,pl,hz⟩:=Ip.list (s12.seq (g1.fh.seq hq))
 have hlen:its.length=ds.length:=by rw[<- rvi.length,rr.length]
 have hkl:=mD hks
 have hR:et (k+1) X.A.in1.in1:=C.room.in1.in1
 refine Srt.sortedK (vs:=its) Ip (by omega) (fun {Q'} hQ=>?_) (fun us H'=>∃HF' kvs,cF HF1 H2 HF' H'/\av X.K HF' (ks.take us.length) kvs/\aF kvs us) ⟨HF1,[],.refl g2.fh,by simpa using av.nil,.nil⟩ (fun us x hx pl' s3 H3 I3 ⟨HF3,kvs,g3,rk,rvk⟩=>?_) fun us H3 hu ⟨HF3,kvs,g3,rk,rvk⟩=>?_
 ·refine collect_list pl.isList (hQ _ fun b o e=>?_) (by rw[sizeLine_eq];omega)
  exact (Heap.get?_update_other _ _ (Nat.ne_of_gt (zZ e))).trans (zV _ e)
 ·have hi:us.length < its.length:=(zU.mp hx).1
  obtain⟨w,hw⟩:∃w,ws[us.length]?=some w:=⟨_,zK (by rw[rvi.length];exact hi)⟩
  obtain⟨x',hx',rw'⟩:=rvi.get hw
  rw[hx] at hx'
  cases hx'
  obtain⟨d,hd,rd⟩:=rr.get hw
  obtain⟨kd,hkd,hki⟩:=qh hks hd
  have hfo3:s3.heap.get? f=some (W.kla_obj "<lambda>" qual params body scope (eA X.env scope.names []) pm c' ctv) :=
   (I3.pin (f,_) (yF _ (List.mem_append_left _ (yF _ (dC zE hfo))))).1
  refine wpAny_mono (vm (Q:=fun v H4=>∃HF4,cF HF3 H3 HF4 H4/\Rep X.K HF4 kd v) (te:=tD X.K te) I3 hR I3.ok.frames S hnc hN0 hp hnd hco hgen hfo3 (g3.hh _ _ hcod) (hb _ _ _ _ _) rw' (hY _ _ _ _ _ (Dr C hR S.kind hnd hl))
   ⟨HF3,_,kd,g3.fh,vN (eo.mono (g1.ff.trans g3.ff)) (rd.mono g3.ff),hkd,fun v H4 HF4 g4 r4=>⟨HF4,g4,r4⟩⟩) (fun u s4 ⟨v4,H4,I4,r4,HF4,g4,rp⟩=>⟨H4,I4,HF4,kvs++[v4],g3.trans g4,?_,rvk.append (.cons r4 .nil)⟩) fun _ _ e=>e
  rw[zN,List.length_singleton,List.take_add_one,hki]
  exact (rk.mono g4.ff).append (av.cons rp av.nil)
 ·have hk':ks.take us.length=ks:=List.take_of_length_le (by omega)
  rw[hk'] at rk
  have ia:=l9 hzs rk rvk
  refine⟨fun i=>zs.getD i 0,oneType',fun h2 s3 I3=>⟨fun Q' q'=>?_,fun i j Cc hi hj q'=>?_⟩,fun s3 Dn c I3 fD e=>?_⟩
  ·rw[PyProof.Rows.ksk_kind (keys:=us.toArray) (kz:=zs) (by simpa using ia) (by simpa [hu] using h2)]
   exact zX q'
  ·obtain⟨t1,e1⟩:=iV ia (i:=i) (by omega)
   obtain⟨t2,e2⟩:=iV ia (i:=j) (by omega)
   unfold W.kas_ask
   rw[e1,e2]
   exact W.kat_lt_int q'
  ·have hv:=pq (fun i=>zs.getD i 0) rvi
   have hr:=qm (fun i=>zs.getD i 0) rr
   have hnD:H3 Dn=none:=fD.1
   have I4:=Inv.track (o:=.lst (oK (fun i=>zs.getD i 0) ws .non)) I3 fD ⟨by rw[(fY _ _ _).length_eq];exact hz,_,c,hv,e⟩
   have G:=(g1.trans g2).trans g3
   refine⟨.ref Dn,_,I4.unpinned,rfl,q Dn _ _ HF3 (G.trans (.own G.fh hnD)) (G.hh.free hnD) (G.fh.free hnD) aK (hr.mono g3.ff)⟩
end
end Dl
namespace Srt
open PySem PySem.W PySem.Calls PyProof.Rows L2
section
variable {prog:Program}{w:World}{A:Around}{E:Value->Shared->Prop}{s:Shared}
theorem iadd_rng{R:Result->Shared->Prop}{r S:Addr}{a b c:Int}{t u v:Tok}{n:Nat}(hh:A.handled=none)(hr:IsRange s.heap r a b c t u v)(hsmall:Builtin.Range.small a b c=true)(hn:Builtin.Range.rangeSize a b c=n)(hlen:n<=2 ^ 24)
  (hS:s.heap.get? S=some { cls:=.type "list",data:=.seq #[] })
  (hR:∀h' tk acc' c',(∀b o,b≠S->s.heap.get? b=some o->h'.get? b=some o)->h'.get? S=some { cls:=.type "list",dict:=none,data:=.seq acc' c',slots:=#[] } ->
   ItemsOf (fun i v=>∃t,v=.int (a+i * c) t) acc' n->R (.ok (.ret (.ref S))) { s with heap:=h',toks:=tk }):codeAny (model prog w) A (.builtin "list.__iadd__" ⟨[.ref S,.ref r],[]⟩) R s:=by
 refine codeAny_builtin entry_list_iadd' ?_
 rw[Around.under_plainId (by decide +kernel:plainId "list.__iadd__"=true) _]
 exact wpAny_extend_range (A:=A) hh hr hsmall hn hlen S (.ref S) _ hS hR
theorem collect_rng{r:Addr}{a b c:Int}{t u v:Tok}{n:Nat}{Q:List Value->Shared->Prop}(hh:A.handled=none)(hr:IsRange s.heap r a b c t u v)(hsmall:Builtin.Range.small a b c=true)(hn:Builtin.Range.rangeSize a b c=n)(hlen:n<=2 ^ 24)
  (h:∀h' tk acc,(∀b o,s.heap.get? b=some o->h'.get? b=some o)->ItemsOf (fun i v=>∃t,v=.int (a+i * c) t) acc n->Q acc.toList { s with heap:=h',toks:=tk }):wpAny (model prog w) A (collect (.ref r)) Q E s:=by
 unfold collect
 refine zW (wpAny_runValue (codeAny_builtin entry_proto_collect' ?_))
 rw[Around.under_plainId (by decide +kernel:plainId "proto.collect"=true) _]
 show wpAny _ A.in1 (newList [] >>= fun l=>again (.builtin "list.__iadd__" ⟨[l,.ref r],[]⟩)) _ _ s
 refine zW (wpAny_newObj_type ?_)
 have hS:(s.heap.push { cls:=.type "list",data:=.seq #[] }).get? s.heap.objs.size=some { cls:=.type "list",data:=.seq #[] }:=zY _ rfl
 refine zX ⟨plainId_quiet (by decide +kernel) _,iadd_rng (s:={ s with heap:=s.heap.push { cls:=.type "list",data:=.seq #[] } }) hh (zV _ hr) hsmall hn hlen hS fun h' tk acc' c' hk hS' hacc=>?_⟩
 show wpAny _ A (load s.heap.objs.size >>= _) _ _ _
 refine zW (wpAny_load hS' ?_)
 exact zX (h h' tk acc' (fun b o e=>hk b o (Nat.ne_of_lt (zZ e)) (zV _ e)) hacc)
end
section
variable {X:Cx}{pins:List (Addr×Obj)}{σ:L2.St}{H:Hp}{s:Shared}{A:Around}{E:Value->Shared->Prop}
theorem sortedR{l:Value}{f:Addr}{PV:List Value->Prop}{Q:Value->Shared->Prop}(I:Inv X pins σ H s)
  (hcol:∀ {Q':List Value->Shared->Prop},(∀ (h':Heap) (tk:Nat) (vs:List Value),PV vs->(∀b o,s.heap.get? b=some o->h'.get? b=some o)->Q' vs { s with heap:=h',toks:=tk })->wpAny (model X.prog X.w) A.in1 (collect l) Q' E s)
  (rest:∀vs,PV vs->vs.length < 64/\∃J:List Value->Hp->Prop,J [] H /\
   (∀us v,vs[us.length]?=some v->∀pl s' H',Inv X (pins++pl) σ H' s'->J us H'->wpAny (model X.prog X.w) A.in1.in1 (call (.ref f) [v]) (fun u s''=>∃H'',Inv X (pins++pl) σ H'' s''/\J (us++[u]) H'') (fun _ _=>False) s') /\
   (∀us H',us.length=vs.length->J us H'->∃ (z:Nat->Int) (κ:SortKind),(2<=vs.length->∀s',Inv X pins σ H' s'->(∀Q':SortKind->Shared->Prop,Q' κ s'->wpAny (model X.prog X.w) A.in1.in1 (keyKind' us.toArray) Q' (fun _ _=>False) s') /\
    ∀i j C,i < vs.length->j < vs.length->C (SP.eu z i j) s'->kas_ask X.prog X.w A.in1.in1 κ us i j C s') /\
   ∀s' D c,Inv X pins σ H' s'->cE X pins H' D->s'.heap.get? D=some (seqObj "list" (outV z vs).toArray c)->Q (.ref D) s')) :
  wpAny (model X.prog X.w) A (call (.builtin "sorted") [l] [(Str.ofString "key",.ref f)]) Q E s:=by
 refine call_function_entry_kw kind_sorted plain_sorted entry_sorted (ksk_s1 _ _) ?_
 unfold Builtin.«sorted»
 refine zW (m:=checkCount "sorted" 1 1 _) (zX (zW (hcol fun h1 tk vs hv kp=>?_)))
 obtain⟨h64,J,j0,step,fin⟩:=rest vs hv
 have hsl:vs.length<=sizeLine:=by rw[sizeLine_eq];omega
 refine zW (wpAny_newList ?_ (by simpa using hsl))
 have I1:=I.kept (t':=tk) kp
 have fD:cE X pins H h1.objs.size:=I1.fpOk (Nat.le_refl _) (I1.hok.fresh (Nat.le_refl _))
 have hoD:(h1.push (seqObj "list" vs.toArray 0)).get? h1.objs.size=some (seqObj "list" vs.toArray 0):=zY _ rfl
 have I2:=I1.kept (t':=tk) (h':=h1.push (seqObj "list" vs.toArray 0)) fun b o e=>zV _ e
 show wpAny _ _ _ _ _ { s with heap:=h1.push (seqObj "list" vs.toArray 0),toks:=tk }
 refine zW (wpAny_holding (wpAny_call_entry_kw slot_list_sort ⟨_,hoD,rfl⟩ entry_list_sort ?body (ksk_l1 _ _)))
 case body =>
  show wpAny (model X.prog X.w) A.in1.in1 (Builtin.«list.sort» ⟨[.ref h1.objs.size],[(Str.ofString "key",.ref f)]⟩) _ _ _
  rw[ksk_t1]
  refine list_sortK I2 hoD fD h64 J j0 step fun us H' hu j'=>?_
  obtain⟨z,κ,hz,hP⟩:=fin us H' hu j'
  exact⟨z,κ,hz,fun s' c I' f' e=>⟨_,rfl,zX ⟨_,rfl,hP s' _ c I' f' e⟩⟩⟩
end
end Srt
namespace Dl
open PySem L2 PySem.Spec PyProof.Rows
noncomputable def pH(n:Nat):List D:=(List.range n).map fun i=>PyData.int ((i:Nat):Int)
noncomputable def qv(cs:List Nat)(fs:Env->Option (List D))(te:Env->Option D):Env->Option (List D):=fun ρ=>(fs ρ).bind fun l=>match l with
 | [.int n]=>if 0<=n/\n < 64 then (iw te (d9 1 cs ρ) (pH n.toNat)).bind fun ks=>(rowsOf ks).map fun nss=>oK (fun i=>rk nss (nss.getD i [])) (pH n.toNat) .none else none
 | _=>none
theorem rX:∀ {vs:List Value}{k:Nat},(∀i v,vs[i]?=some v->∃t,v=Value.int ((k+i:Nat):Int) t)->aF ((List.range' k vs.length).map fun i=>V.int ((i:Nat):Int)) vs
 | [],k,_=>.nil
 | v::vs,k,h=>by
  rw[zL,List.range'_succ,zI]
  obtain⟨t,e⟩:=h 0 v rfl
  refine .cons ⟨t,by simpa using e⟩ (rX fun i u hu=>?_)
  obtain⟨t',e'⟩:=h (i+1) u (by simpa using hu)
  exact⟨t',by rw[e'];congr 1;omega⟩
theorem rN{K:W.Frag}{HF:Hp}:∀ (l:List Nat),av K HF (l.map fun i=>PyData.int ((i:Nat):Int)) (l.map fun i=>V.int ((i:Nat):Int))
 | []=>av.nil
 | i::l=>av.cons (by simp[Rep]) (rN l)
section
variable {X:Cx}{N:List Str}{sc:Scope}{k:Nat}
variable {e body:Expr}{fs:Env->Option (List D)}{te:Env->Option D}{params:Arguments}{scope:Scope}{lpos pos p0 kpos rpos p1:Pos}{N':List Str}{cs:List Nat}{p qual:Str}
theorem Bk.sortR(C:Bk X N sc (k+3))(B:mM X "sorted" (.builtin "sorted"))(BR:mM X "range" (.type "range"))(L:p7 X qual)(ok:iN sc scope N N' 1 cs=true)(hl:nI scope N' p=true)
  (hb:∀ (cl:List (Str×Addr)) (pm ctv u:Value) (c:Addr),bindArgs (W.kla_fn "<lambda>" qual params body scope cl pm (.ref c) ctv) ⟨[u],[]⟩=pure [(p,u)]) (hdef:defaultsOf params X.env=([],[])) (h:DA X [e] fs)
  (hY:∀A f c s H,Bk (gE X A qual scope N' f c s H) N' scope k->DE (gE X A qual scope N' f c s H) body te)
  (hsR:starEach [e] X.env=[(false,eval e X.env)])
  (hst:starEach [.Call (.Name "range" p1) [e] [] rpos] X.env=(false,eval (.Call (.Name "range" p1) [e] [] rpos) X.env)::starEach [] X.env) (he:backTo pos (starEach [.Call (.Name "range" p1) [e] [] rpos] X.env)=(false,eval (.Call (.Name "range" p1) [e] [] rpos) X.env)::backTo pos (starEach [] X.env)) (hpl:(backTo pos (starEach [.Call (.Name "range" p1) [e] [] rpos] X.env)).any (·.1)=false) :
  DF X (.Call (.Name "sorted" p0) [.Call (.Name "range" p1) [e] [] rpos] [⟨some "key",.Lambda params body scope lpos,kpos⟩] pos) (qv cs fs te):=by
 obtain⟨S,_⟩:=C.comp ok
 have hnd:N'.Nodup:=by
  unfold iN at ok
  simp only[zF,zJ] at ok
  exact ok.2
 have hl':=hl
 unfold nI at hl'
 simp only[zF,List.all_eq_true,Bool.not_eq_true',decide_eq_false_iff_not,zJ] at hl'
 obtain⟨⟨⟨⟨hnc,hN0⟩,hp⟩,hco⟩,hgen⟩:=hl'
 obtain⟨cc,P,hcode,hqual,hhd,eT⟩:=L.ex
 intro pins s σ H Q I ⟨HF,ρ,out,sm,eo,hf,q⟩
 obtain⟨ld,hld,hf⟩:=bs hf
 obtain⟨n,rfl⟩:∃n,ld=[.int n]:=by
  split at hf
  ·exact⟨_,rfl⟩
  ·cases hf
 simp only at hf
 split at hf
 rotate_left
 ·cases hf
 rename_i h64
 obtain⟨ks,hks,hf⟩:=bs hf
 obtain⟨nss,hns,rfl⟩:=ag hf
 obtain⟨hkr,hne⟩:=jw hns
 refine wpAny_Call_Name_kw (iS I B.gl B.mg B.bt ?_ (by decide) (by decide))
 refine PyProof.Rows.callWith_kw (e:=.Call (.Name "range" p1) [e] [] rpos) (rest:=[]) (kws:=[⟨some "key",.Lambda params body scope lpos,kpos⟩]) ?_ he hpl rfl rfl
 rw[he]
 refine Calls.spliced_cons ?_
 refine Call_ (iS I BR.gl BR.mg boot_range (PyProof.Rows.callWith_type1 (cg (h rpos pins s σ H _ I ⟨HF,ρ,[.int n],sm,eo,hld,fun vs H1 HF1 g1 r1=>(⟨HF1,g1,r1⟩:∃HF1,cF HF H HF1 H1/\av X.K HF1 [.int n] vs)⟩) fun us s1 ⟨vs,H1,I1,rv,HF1,g1,r1⟩=>?_) hsR rfl))
 obtain⟨v,vr,rfl,a1,b1⟩:=r1.cons_inv
 rw[b1.nil_inv] at rv
 obtain⟨u,rfl,rx⟩:=vals1 rv
 simp only[Rep] at a1
 subst a1
 obtain⟨t,rfl⟩:=rx
 refine call_range_1 ?_
 refine Calls.spliced_nil ?_
 obtain⟨hn0,hn64⟩:=h64
 have I1':=I1.kept (t':=s1.toks+1+1) (h':=s1.heap.push { cls:=Value.type "range",data:=Data.fields #[Value.int 0 s1.toks,Value.int n t,Value.int 1 (s1.toks+1)] }) fun b o e=>zV _ e
 have hro:(s1.heap.push { cls:=Value.type "range",data:=Data.fields #[Value.int 0 s1.toks,Value.int n t,Value.int 1 (s1.toks+1)] }).get? s1.heap.objs.size=some { cls:=Value.type "range",data:=Data.fields #[Value.int 0 s1.toks,Value.int n t,Value.int 1 (s1.toks+1)] }:=zY _ rfl
 have Ir:=I1'.pinned (fp:=[s1.heap.objs.size]) (fun b hb=>by rw[yL.mp hb];exact I1.fpOk (Nat.le_refl _) I1.fresh) (fun b hb=>by rw[yL.mp hb];exact⟨_,hro,fun v z=>by cases z⟩)
 have hT1:H1 P=some (.tab qual):=g1.fh _ _ (eT HF1 (eo.tb.mono g1.ff))
 show wpAny _ _ (evalAll ((do let v <- eval (.Lambda params body scope lpos) X.env;standAt pos;pure v)::[])) _ _ _
 refine wpAny_evalAll_cons (zW ?_)
 refine u5 (P:=P) Ir S hqual hcode (W.codeHd_of_K Ir.ok.mod.kin hhd) hT1 Ir.ok.mod.bmd hdef fun f c' pm ctv s2 H2 I2 hfo hfn hcod s12 fp2 _=>?_
 refine zW (wpAny_standAt (zX (wpAny_evalAll_nil ?_)))
 show wpAny _ _ (call (.builtin "sorted") [.ref s1.heap.objs.size] [(Str.ofString "key",.ref f)]) _ _ s2
 have hr2:IsRange s2.heap s1.heap.objs.size 0 n 1 s1.toks t (s1.toks+1):=(Srt.pin_get I2 zE hro).1
 have Ip:=I2.pinned (fp:=[f]) (fun b hb=>by rw[yL.mp hb];exact fp2) (fun b hb=>by rw[yL.mp hb];exact⟨_,hfo,fun v z=>by cases z⟩)
 have g2:cF HF1 H1 HF1 H2:=⟨s12,.refl _,g1.fh.trans s12,fun _ _ e=>.inl e⟩
 have hkl:=mD hks
 have hnl:(pH n.toNat).length=n.toNat:=by simp[pH]
 have hR:et (k+1) X.A.in1.in1:=C.room.in1.in1
 refine Srt.sortedR (PV:=fun vs=>vs.length=n.toNat/\∀i v,vs[i]?=some v->∃t,v=Value.int ((i:Nat):Int) t) Ip (fun {Q'} hQ=>?_) fun its ⟨hil,hiv⟩=>⟨by omega,fun us H'=>∃HF' kvs,cF HF1 H2 HF' H'/\av X.K HF' (ks.take us.length) kvs/\aF kvs us,⟨HF1,[],.refl g2.fh,by simpa using av.nil,.nil⟩,fun us x hx pl' s3 H3 I3 ⟨HF3,kvs,g3,rk,rvk⟩=>?_,fun us H3 hu ⟨HF3,kvs,g3,rk,rvk⟩=>?_⟩
 ·refine Srt.collect_rng (n:=n.toNat) C.room.in1.hd hr2 (small_one (by omega) (by omega) (by omega) (by omega)) (by rw[rangeSize_one];split<;>omega) (by omega) fun h' tk acc kp ha=>?_
  refine hQ h' tk acc.toList ⟨by have:=ha.1;simpa using this,fun i v hv=>?_⟩ kp
  obtain⟨t',e'⟩:=ha.2 i v (by simpa using hv)
  exact⟨t',by rw[e'];congr 1;omega⟩
 ·have hi:us.length < n.toNat:=by rw[<- hil];exact (zU.mp hx).1
  obtain⟨tx,rfl⟩:=hiv _ _ hx
  have hd:(pH n.toNat)[us.length]?=some (.int ((us.length:Nat):Int)):=by simp[pH,hi]
  obtain⟨kd,hkd,hki⟩:=qh hks hd
  have hfo3:s3.heap.get? f=some (W.kla_obj "<lambda>" qual params body scope (eA X.env scope.names []) pm c' ctv) :=
   (I3.pin (f,_) (yF _ (List.mem_append_left _ (yF _ (dC zE hfo))))).1
  refine wpAny_mono (vm (v:=V.int ((us.length:Nat):Int)) (Q:=fun v H4=>∃HF4,cF HF3 H3 HF4 H4/\Rep X.K HF4 kd v) (te:=tD X.K te) I3 hR I3.ok.frames S hnc hN0 hp hnd hco hgen hfo3 (g3.hh _ _ hcod) (hb _ _ _ _ _) ⟨tx,rfl⟩ (hY _ _ _ _ _ (Dr C hR S.kind hnd hl))
   ⟨HF3,_,kd,g3.fh,vN (eo.mono (g1.ff.trans g3.ff)) (by simp[Rep]),hkd,fun v H4 HF4 g4 r4=>⟨HF4,g4,r4⟩⟩) (fun u s4 ⟨v4,H4,I4,r4,HF4,g4,rp⟩=>⟨H4,I4,HF4,kvs++[v4],g3.trans g4,?_,rvk.append (.cons r4 .nil)⟩) fun _ _ e=>e
  rw[zN,List.length_singleton,List.take_add_one,hki]
  exact (rk.mono g4.ff).append (av.cons rp av.nil)
 ·have hk':ks.take us.length=ks:=List.take_of_length_le (by omega)
  rw[hk',hkr] at rk
  have hnn:nss.length=n.toNat:=by
   have:=congrArg List.length hkr
   rw[zD] at this
   omega
  refine⟨fun i=>Dl.rk nss (nss.getD i []),tuples' true,fun h2 s3 I3=>⟨fun Q' q'=>?_,fun i j Cc hi hj q'=>?_⟩,fun s3 Dn c I3 fD e=>?_⟩
  ·obtain⟨fs',tt,hlen,hff⟩:=oY (mv I3 g3.fh rk rvk) hne
   refine W.kat_kind (T:=.type "int") tt (by omega) (fun v hv=>?_) (by decide) q'
   obtain⟨n',t',rfl⟩:=hff v hv
   exact W.Looks.of_pure rfl
  ·have hp3:=mv I3 g3.fh rk rvk
   have ri:=gn (d:=Value.none) (d':=[]) hp3 (show i < us.length by omega)
   have rj:=gn (d:=Value.none) (d':=[]) hp3 (show j < us.length by omega)
   obtain⟨a,o,its1,n1,ea,e1,e2,e3,e4⟩:=ri.ex
   obtain⟨b,o',its',n',eb,f1,f2,f3,f4⟩:=rj.ex
   unfold W.kas_ask
   rw[ea,eb]
   have hmem:nss.getD i []∈nss:=by
    rw[zG,zK (by omega)]
    exact List.getElem_mem _
   have q2:Cc (lexLt (nss.getD i []) (nss.getD j [])) s3:=by
    rw[zz hmem]
    exact q'
   refine W.kat_lt e1 e3 f1 f3 ?_
   have:=o8 (prog:=X.prog) (w:=X.w) (A:=X.A.in1.in1) (s:=s3) 0 e4 f4 q2
   have l1:its1.size=(nss.getD i []).length:=by have:=IntsAre.length e4;simpa using this
   have l2:its'.size=(nss.getD j []).length:=by have:=IntsAre.length f4;simpa using this
   rw[l1,l2]
   exact this
  ·have rvi:aF ((List.range n.toNat).map fun i=>V.int ((i:Nat):Int)) its:=by
    have:=rX (vs:=its) (k:=0) fun i v hv=>by
     obtain⟨t',e'⟩:=hiv i v hv
     exact⟨t',by rw[e'];congr 1;omega⟩
    rw[hil,<- yI] at this
    exact this
   have rr:av X.K HF1 (pH n.toNat) ((List.range n.toNat).map fun i=>V.int ((i:Nat):Int)):=rN _
   have hv:=pq (fun i=>Dl.rk nss (nss.getD i [])) rvi
   have hr:=qm (fun i=>Dl.rk nss (nss.getD i [])) rr
   have hnD:H3 Dn=none:=fD.1
   have I4:=Inv.track (o:=.lst (oK (fun i=>Dl.rk nss (nss.getD i [])) ((List.range n.toNat).map fun i=>V.int ((i:Nat):Int)) .non)) I3 fD ⟨by rw[(fY _ _ _).length_eq,zD,zS,PySem.sizeLine_eq];omega,_,c,hv,e⟩
   have G:=(g1.trans g2).trans g3
   refine⟨.ref Dn,_,I4.unpinned.unpinned,rfl,q Dn _ _ HF3 (G.trans (.own G.fh hnD)) (G.hh.free hnD) (G.fh.free hnD) aK (hr.mono g3.ff)⟩
end
section
variable {X:Cx}{pos:Pos}
noncomputable def FN(i j l:Nat):Env->D->Option Env:=fun ρ d=>match d with
 | .tuple [x,y,z]=>if isFree ρ i=true/\isFree ρ j=true/\isFree ρ l=true then some (((ρ.set i (some x)).set j (some y)).set l (some z)) else none
 | _=>none
theorem CT(i j l:Nat){x y z:Str}{px py pz:Pos}{k:Nat}(hc:X.calm=true)(hN:X.N.Nodup)(hi:X.N[i]?=some x)(hx:Loc X.env.scope x)(hj:X.N[j]?=some y)(hy:Loc X.env.scope y)(hl:X.N[l]?=some z)(hz:Loc X.env.scope z)
  (hf:X.fn x=true\/X.env.scope.names.lookup x=some .local) (hf':X.fn y=true\/X.env.scope.names.lookup y=some .local) (hf'':X.fn z=true\/X.env.scope.names.lookup z=some .local) :
  DG X (.Tuple [.Name x px,.Name y py,.Name z pz] k pos) (FN i j l) :=
 mS (pQ hc (cI (da hN hi hx hf) (cI (da hN hj hy hf') (cI (da hN hl hz hf'') lY)))) fun v σ H Q ⟨HF,ρ,d,ρ',sm,eo,r,hf,q⟩=>by
  unfold FN at hf
  split at hf
  ·rename_i x' y' z'
   split at hf
   ·rename_i hh
    cases hf
    simp only[Rep] at r
    obtain⟨a,vs,rfl,hs,rr⟩:=r
    obtain⟨v1,r1,rfl,a1,b1⟩:=rr.cons_inv
    obtain⟨v2,r2,rfl,a2,b2⟩:=b1.cons_inv
    obtain⟨v3,r3,rfl,a3,b3⟩:=b2.cons_inv
    rw[b3.nil_inv] at hs
    exact⟨a,_,rfl,aC sm hs,rfl,v1,_,rfl,v2,_,rfl,v3,_,rfl,rfl,q _ (jf (jf (jf eo a1) a2) a3) (kq (kq (kq eo hh.1) hh.2.1) hh.2.2)⟩
   ·cases hf
  ·cases hf
end
theorem Ma{xs:List Value}(h:2<=xs.length):((List.range 2).filterMap fun (k:Nat)=>xs.toArray[((1:Int)+(k:Int) * (-1)).toNat]?)=(xs.take 2).reverse:=by
 match xs,h with
 | a::b::r,_=>rfl
theorem EJ{prog:Program}{w:World}{A:Around}{E:Value->Shared->Prop}{s:Shared}{t sl:Addr}{its:List Value}{tk tk1:Tok}{Q:Value->Shared->Prop}(ht:IsTup s.heap t its.toArray)(hs:s.heap.IsSliceOf sl (.int 1 tk1) .none (.int (-1) tk))
  (h2:2<=its.length) (h:Q (.ref s.heap.objs.size) { s with heap:=s.heap.push { cls:=.type "tuple",data:=.seq (its.take 2).reverse.toArray } }):wpAny (model prog w) A (getItem (.ref t) (.ref sl)) Q E s:=by
 obtain⟨os,hos,hcs,hds⟩:=id hs
 have hTs:s.TypeIs (.ref sl) "slice":=⟨os,hos,hcs⟩
 unfold getItem
 try with_reducible refine wpAny_holding ?_
 first|refine zW (zX ?_)|skip
 refine zW (wpAny_sequenceKey ht.typeIs (by decide) (zW (wpAny_callSpecial?_slot (name:=Str.ofString "__getitem__") ht.typeIs PyProof.Rows.slot_tuple_getitem (wpAny_call_entry PyProof.Rows.slot_tuple_getitem ht.typeIs entry_tuple_getitem ?_ (args_tuple_getitem _ _)))))
 refine zW (m:=Builtin.Tuple.tupleItemsOf (.ref t)) (tupleItemsOf_ ht (zW (wpAny_typeOf hTs ?_)))
 rw[if_pos (by decide)]
 have hap:∀ {R:Int×Int×Nat->Shared->Prop},R (1,-1,2) s->wpAny (model prog w) A.in1 (Builtin.Slice.sliceApplied (.ref sl) (pure ((its.toArray.size:Nat):Int))) R E s:=fun {R} hR=>by
  unfold Builtin.Slice.sliceApplied Builtin.Slice.sliceFields
  refine zW (zW (wpAny_field hos hds (x:=.int 1 tk1) rfl (zW (wpAny_field hos hds (x:=.none) rfl (zW (wpAny_field hos hds (x:=.int (-1) tk) rfl (zX ?_)))))))
  refine zW (slicePart_int ?_)
  show wpAny _ _ (if ((-1:Int) == 0)=true then _ else _) _ _ s
  rw[if_neg (by decide)]
  refine zW (slicePart_int (zW (slicePart_none (zW (zX ?_)))))
  have e1:Builtin.Slice.sliceAdjust (some 1) none (-1) ((its.toArray.size:Nat):Int)=(1,-1):=by
   simp[Builtin.Slice.sliceAdjust]
   omega
  show wpAny _ _ (match Builtin.Slice.sliceAdjust (some 1) none (-1) ((its.toArray.size:Nat):Int) with|(lo,hi)=>pure (lo,(-1:Int),Builtin.Slice.slicePlaces lo hi (-1))) _ _ s
  rw[e1]
  have e2:Builtin.Slice.slicePlaces 1 (-1) (-1)=2:=by decide
  show wpAny _ _ (pure ((1:Int),(-1:Int),Builtin.Slice.slicePlaces 1 (-1) (-1))) _ _ s
  rw[e2]
  exact zX hR
 first
  | refine zW (hap ?_)
  | refine zW (wpAny_of_in1 (hap ?_))
 show wpAny _ _ (if ((1:Int) == 0&&(-1:Int) == 1&&2 == its.toArray.size)=true then _ else _) _ _ s
 rw[if_neg (by simp),Ma h2]
 have hz':sizeOk (.seq (its.take 2).reverse.toArray):=yE (m:=2) (by simp;omega) (by decide)
 first
  | exact zW (m:=Builtin.Tuple.tupleExact _) (wpAny_newObj_type (zX ⟨_,rfl,zX h⟩) hz')
  | exact zW (m:=Builtin.Tuple.tupleExact _) (wpAny_newObj_type (zW (zX (zX ⟨_,rfl,zX h⟩))) hz')
  | exact zW (zW (m:=Builtin.Tuple.tupleExact _) (wpAny_newObj_type (zX (zX ⟨_,rfl,zX h⟩)) hz'))
  | exact zW (zW (m:=Builtin.Tuple.tupleExact _) (wpAny_newObj_type (zX ⟨_,rfl,zX h⟩) hz'))
section
variable {X:Cx}{a:Expr}{fa:Env->Option D}{pos p1 p2 p3 p4:Pos}{i j:Nat}
theorem Hm{ta:TE}(ha:PE X a ta):PE X (.Subscript a (.Slice (some (.Constant (.int 1) i p1)) none (some (.UnaryOp .USub (.Constant (.int 1) j p4) p3)) p2) pos) (fun σ H Q=>ta σ H fun x H1=>∃b xs,x=.ref b/\jQ X.K H1 b xs/\2<=xs.length/\∀p,H1 p=none->Q (.ref p) (upd H1 p (.tup (xs.take 2).reverse))):=by
 intro pins s σ H Q I h
 refine Subscript_ (cg (ha pins s σ H _ I h) fun v s1 ⟨x,H1,I1,r1,b,xs,e,hq,h2,q⟩=>?_)
 subst e
 cases r1
 refine wpAny_Slice ?_
 have hlo:=ox (X:=X) (uP (X:=X) (i:=1) (j:=i) (pos:=p1)) pins s1 σ H1 (fun o H'=>o=some 1/\H'=H1) I1 ⟨1,rfl,rfl,rfl⟩
 refine cg hlo fun vlo s0 ⟨o,H0,I0,plo,e1,e2⟩=>?_
 subst e1 e2
 rw[evalPart_none]
 refine zX ?_
 have hst:=ox (X:=X) (DJ (op:=.USub) xB (uP (X:=X) (i:=1) (j:=j) (pos:=p4)) (pos:=p3)) pins s0 σ H0 (fun o H'=>o=some (-1)/\H'=H0) I0 ⟨1,rfl,-1,rfl,rfl,rfl⟩
 refine cg hst fun vst s2 ⟨o,H2,I2,pst,e1,e2⟩=>?_
 subst e1 e2
 cases plo with
 | int _ tk1 =>
 cases pst with
 | int _ tk =>
 obtain⟨its,r,ht,hz⟩:=I2.tuple hq
 have I4:Inv X pins σ H2 { s2 with heap:=s2.heap.push { cls:=.type "slice",data:=.fields #[.int 1 tk1,.none,.int (-1) tk] } }:=I2.kept (t':=s2.toks) fun b ob q=>zV _ q
 obtain⟨its',r',ht',_⟩:=I4.tuple hq
 refine tail_any (ops:=[.ref b,.ref s2.heap.objs.size]) ht'.typeIs PyProof.Rows.slot_tuple_getitem.lookup (EJ ht' (Heap.IsSliceOf.new ..) (by rw[<- r'.length];exact h2) ?_) (by with_unfolding_all rfl)
 have hv:aF (xs.take 2).reverse (its'.take 2).reverse:=L2.aF.reverse (r'.take 2)
 exact⟨.ref _,_,I4.laid (t':=s2.toks) (o:=.tup (xs.take 2).reverse) (fun b ob q=>zV _ q) (Nat.le_refl _) ⟨by rw[List.length_reverse,List.length_take];omega,_,hv,mJ.new _ _⟩,rfl,q _ I4.fresh⟩
noncomputable def Eh:D->Option D|.tuple ds=>if 2<=ds.length then some (.tuple (ds.take 2).reverse) else none|_=>none
theorem Hu(ha:DE X a fa):DE X (.Subscript a (.Slice (some (.Constant (.int 1) i p1)) none (some (.UnaryOp .USub (.Constant (.int 1) j p4) p3)) p2) pos) (f1 Eh fa):=aR (Hm ha) fun σ H Q ⟨HF,ρ,d,sm,eo,hf,q⟩=>by
 obtain⟨x,hx,hf⟩:=bs hf
 refine⟨HF,ρ,x,sm,eo,hx,fun v1 H1 HF1 g1 r1=>?_⟩
 unfold Eh at hf
 split at hf<;>try cases hf
 split at hf
 ·rename_i h2
  cases hf
  simp only[Rep] at r1
  obtain⟨b,vs,rfl,hs,rr⟩:=r1
  exact⟨b,vs,rfl,aC g1.fh hs,by rw[rr.length];exact h2,fun p hp=>q _ _ _ (g1.trans (.new g1.fh hp)) (cT (g1.fh.free hp) (rr.take 2).reverse)⟩
 ·cases hf
end
section
variable {X:Cx}
noncomputable def Di(d:D):List D->Option Nat
 | []=>none
 | x::xs=>if PyData.eqv x d=true then some 0 else (Di d xs).map (·+1)
theorem sM{d:D}:∀ {xs:List D}{j:Nat},Di d xs=some j->j < xs.length/\(∀x,xs[j]?=some x->PyData.eqv x d=true)/\∀m,m < j->∀x,xs[m]?=some x->PyData.eqv x d=false
 | [],j,h=>by cases h
 | x::xs,j,h=>by
  unfold Di at h
  split at h
  ·cases h
   rename_i e
   exact⟨Nat.succ_pos _,fun y hy=>by cases hy;exact e,fun m hm=>absurd hm (Nat.not_lt_zero _)⟩
  ·rename_i e
   obtain⟨k,hk,rfl⟩:=ag h
   obtain⟨a,b,c⟩:=sM hk
   refine⟨by simpa using a,fun y hy=>b y (by simpa using hy),fun m hm y hy=>?_⟩
   cases m with
   | zero=>cases hy;simpa using e
   | succ m=>exact c m (by omega) y (by simpa using hy)
theorem BG(hu:X.A.units+66 < cLine):LF X "list.index" (fun x vs H Q=>∃ (HF:Hp) (ds:List D) (d:D) (y:V) (j:Nat),bc HF H/\Rep X.K HF (.list ds) x/\vs=[y]/\Rep X.K HF d y/\SeqAt.shaped d=true/\SeqAt.shaped (.list ds)=true/\ds.length<=sizeLine/\Di d ds=some j/\Q (.int j) H):=by
 intro pins s σ H x vs v us Q I rx rv h
 obtain⟨HF,ds,d,y,j,sm,r1,rfl,r2,hd,hl,hz,hj,q⟩:=h
 obtain⟨u,rfl,ru⟩:=rv.one
 obtain⟨as,ra⟩:=dZ I sm r1 rx
 obtain⟨bs,rb⟩:=dZ I sm r2 ru
 have c1:=SeqAt.canLay_of_shaped hd
 have c2:=SeqAt.canLay_of_shaped hl
 have d1:=SeqAt.depth_of_shaped hd
 simp only[PyData.canLay0] at c2
 have m:=Nat.min_le_right (PyData.depthAll ds) d.depth
 obtain⟨hj1,hj2,hj3⟩:=sM hj
 cases ra with
 | list h1 h2 h3 h4 =>
  rename_i l o its n as
  obtain⟨cls,dd,data,sl⟩:=o
  simp only at h2 h3
  subst h2 h3
  have hm:=SeqAt.readsAll_map _ _ _ c2 h4
  have hlen:its.size=ds.length:=by rw[<- hm];simp
  have hs63:(sizeLine:Nat) < 2 ^ 62:=by decide
  have at_:∀m (hm:m < its.size),ds[m]?=some (SeqAt.readOf s.heap its[m]):=fun m hm'=>by
   rw[<- hm,zO,Array.getElem?_toList,Array.getElem?_eq_getElem hm']
   rfl
  refine call_meets F.slot_list_index ⟨_,h1,rfl⟩ F.entry_list_index (F.args_list_index_2 _ _) (PySem.SeqAt.list_indexAt l its n dd sl u (fun y=>PyData.eqv (SeqAt.readOf s.heap y) d) j (by rw[hlen];exact hj1) (by omega) ?_ ?_) ⟨h1,?_,?_⟩
  ·exact hj2 _ (at_ j (by rw[hlen];exact hj1))
  ·intro m hm' hmj
   exact hj3 m hmj _ (at_ m hm')
  ·exact SeqAt.items_eqAt h4 rb c2 c1 (by omega)
  ·exact⟨.int j,H,I.tok _,⟨_,rfl⟩,q⟩
noncomputable def JR:D->D->Option D
 | .list es,d=>if SeqAt.shaped d=true/\SeqAt.shaped (.list es)=true/\es.length<=sizeLine then (Di d es).map fun j=>.int ((j:Nat):Int) else none
 | _,_=>none
theorem A4(hu:X.A.units+66 < cLine){o e:Expr}{apos cpos:Pos}{fo fe:Env->Option D}(hbase:attributeBase o "index" X.env (eval o X.env)=eval o X.env)
  (hfew:((backTo cpos (starEach [e] X.env)).all (fun x=>!x.1)&&(backToKw cpos (keywordEach [] X.env)).all (fun x=>x.1.isSome)&&decide ([e].length+([]:List Keyword).length+(if ([]:List Keyword).isEmpty then 0 else 1) < 30))=true)
  (hline:(apos.endLine == cpos.line)=true) (hs:starEach [e] X.env=(false,eval e X.env)::starEach [] X.env) (ho:DE X o fo) (he:DE X e fe):DE X (.Call (.Attribute o "index" apos) [e] [] cpos) (f2 JR fo fe) :=
 aR (rS PySem.F.plainAttrs_list PySem.F.slot_list_index PySem.F.type_list_index (BG hu) ho (dw he hJ hs) hbase hfew hline hs rfl) fun σ H Q ⟨HF,ρ,d,sm,eo,hf,q⟩=>by
  obtain⟨x,hx,hf⟩:=bs hf
  obtain⟨y,hy,hg⟩:=bs hf
  refine⟨HF,ρ,x,sm,eo,hx,fun v1 H1 HF1 g1 r1=>?_⟩
  unfold JR at hg
  split at hg
  ·split at hg
   ·rename_i es hh
    obtain⟨j,h2,rfl⟩:=ag hg
    have r1':=r1
    simp only[Rep] at r1
    obtain⟨l,us,rfl,hq,rr⟩:=r1
    refine⟨.inl ⟨rfl,_,g1.fh.seq hq⟩,HF1,ρ,y,g1.fh,eo.mono g1.ff,hy,fun v2 H2 HF2 g2 r2=>?_⟩
    exact⟨HF2,es,y,v2,j,g2.fh,r1'.mono g2.ff,rfl,r2,hh.1,hh.2.1,hh.2.2,h2,q _ H2 HF2 (g1.trans g2) (by simp[Rep])⟩
   ·cases hg
  ·cases hg
noncomputable def F5:List D->Option D
 | [.int i]=>some (.int i)
 | [.bool b]=>some (.int (if b then 1 else 0))
 | _=>none
theorem GL{K:W.Frag}:Bt K (fun xs H Q=>(∃i,xs=[.int i]/\Q (.int i) H)\/∃k,xs=[.bl k]/\Q (.int (if k then 1 else 0)) H) F5:=by
 intro HF H ds vs d Q sm r hg q
 unfold F5 at hg
 split at hg
 ·cases hg
  obtain⟨v,r',rfl,a,b⟩:=r.cons_inv
  rw[b.nil_inv]
  simp only[Rep] at a
  subst a
  exact .inl ⟨_,rfl,q _ H HF (.refl sm) (by simp[Rep])⟩
 ·cases hg
  obtain⟨v,r',rfl,a,b⟩:=r.cons_inv
  rw[b.nil_inv]
  simp only[Rep] at a
  subst a
  exact .inr ⟨_,rfl,q _ H HF (.refl sm) (by simp[Rep])⟩
 ·cases hg
theorem C2{e:Expr}{fs:Env->Option (List D)}{p pos:Pos}(B:mM X "int" (.type "int"))(ha:DA X [e] fs)(he:starEach [e] X.env=(false,eval e X.env)::starEach [] X.env:=by rfl):DE X (.Call (.Name "int" p) [e] [] pos) (bb F5 fs) :=
 rR Bm GL B ha (by decide) (by decide) he rfl
noncomputable def El(i j k l:Nat):aj->D->Option aj:=fun ρ d=>match d with
 | .tuple [x,.tuple [a,b,c]]=>some ((((ρ.set i (.val x)).set j (.val a)).set k (.val b)).set l (.val c))
 | _=>none
variable {HF₀ H₀:Hp}
theorem JN(i j k l:Nat){x y z w:Str}{px py pz pw p2 pos:Pos}{m n:Nat}(hc:X.calm=true)(hN:X.N.Nodup)(hi:X.N[i]?=some x)(hx:Loc X.env.scope x)(hj:X.N[j]?=some y)(hy:Loc X.env.scope y)(hk:X.N[k]?=some z)(hz:Loc X.env.scope z)(hl:X.N[l]?=some w)(hw:Loc X.env.scope w)
  (f1:X.fn x=true\/X.env.scope.names.lookup x=some .local) (f2:X.fn y=true\/X.env.scope.names.lookup y=some .local) (f3:X.fn z=true\/X.env.scope.names.lookup z=some .local) (f4:X.fn w=true\/X.env.scope.names.lookup w=some .local) :
  MI X HF₀ H₀ (.Tuple [.Name x px,.Tuple [.Name y py,.Name z pz,.Name w pw] m p2] n pos) (El i j k l) :=
 mS (pQ hc (cI (da hN hi hx f1) (cI (pQ hc (cI (da hN hj hy f2) (cI (da hN hk hz f3) (cI (da hN hl hw f4) lY)))) lY))) fun v σ H Q ⟨HF,ρ,d,ρ',S,r,hf,q⟩=>by
  unfold El at hf
  split at hf
  ·cases hf
   simp only[Rep] at r
   obtain⟨a,vs,rfl,hs,rr⟩:=r
   obtain⟨v1,r1,rfl,a1,b1⟩:=rr.cons_inv
   obtain⟨v2,r2,rfl,a2,b2⟩:=b1.cons_inv
   rw[b2.nil_inv] at hs
   simp only[Rep] at a2
   obtain⟨a',vs',rfl,hs',rr'⟩:=a2
   obtain⟨v3,r3,rfl,a3,b3⟩:=rr'.cons_inv
   obtain⟨v4,r4,rfl,a4,b4⟩:=b3.cons_inv
   obtain⟨v5,r5,rfl,a5,b5⟩:=b4.cons_inv
   rw[b5.nil_inv] at hs'
   exact⟨a,_,rfl,aC S.gr.fh hs,rfl,v1,_,rfl,_,_,rfl,⟨a',_,rfl,aC S.gr.fh hs',rfl,v3,_,rfl,v4,_,rfl,v5,_,rfl,rfl,rfl,q _ ((((S.setV a1).setV a3).setV a4).setV a5)⟩⟩
  ·cases hf
end
section
variable {X:Cx}{e:Expr}{es:List Expr}{fs:Env->Option (List D)}{pos p:Pos}
noncomputable def yz:List D->Option D
 | [.int a,.int b]=>some (.int (max a b))
 | _=>none
theorem Ex(hc:X.calm=true):d6 X (.builtin "max") (fun xs H Q=>∃a b:Int,xs=[.int a,.int b]/\Q (.int (max a b)) H):=by
 intro pins s σ H xs us Q I r h
 have hh:X.A.handled=none:=I.ok.hd hc
 obtain⟨a,b,rfl,q⟩:=h
 cases r with
 | cons r1 r =>
  cases r with
  | cons r2 r =>
   cases r
   obtain⟨t,rfl⟩:=r1
   obtain⟨u,rfl⟩:=r2
   refine max_two_ints hh fun h' tk kp=>⟨.int (max a b),H,I.kept (t':=tk) kp,?_,q⟩
   by_cases h:b > a
   ·rw[if_pos h,show max a b=b by omega];exact⟨_,rfl⟩
   ·rw[if_neg h,show max a b=a by omega];exact⟨_,rfl⟩
theorem Lo(hc:X.calm=true)(B:mM X "max" (.builtin "max"))(he:starEach (e::es) X.env=(false,eval e X.env)::starEach es X.env)(hpl:(backTo pos (starEach es X.env)).any (·.1)=false)(ha:DA X (e::es) fs):DE X (.Call (.Name "max" p) (e::es) [] pos) (bb yz fs) :=
 iy (Ex hc) (by
  intro HF H ds vs d Q sm r hg q
  unfold yz at hg
  split at hg
  ·cases hg
   obtain⟨v1,r1,rfl,a1,b1⟩:=r.cons_inv
   obtain⟨v2,r2,rfl,a2,b2⟩:=b1.cons_inv
   rw[b2.nil_inv]
   simp only[Rep] at a1 a2
   exact⟨_,_,by rw[a1,a2],q _ H HF (.refl sm) (by simp[Rep])⟩
  ·cases hg) B ha (by decide) (by decide) he hpl
end
end Dl
namespace Rf
open PySem L2 Dl PySem.Spec PyProof.Rows
structure Tr where
 e:Expr->Option (Dl.Env->Option D)
 f:Expr->Option (Dl.Env->Option (List D))
 t:Expr->Option (Dl.Env->Option Bool)
structure Sg where
 fn:List (Str×Nat×(List D->Option D))
 int:List (Str×Int)
noncomputable abbrev FE:=Dl.Env->Option D
noncomputable def xV(G:Sg)(sc:Scope)(N:List Str)(x:Str):Option FE:=match N.idxOf? x with
 | some i=>if BZ N sc i x=true then some (ab i) else none
 | none=>if (AS sc x&&!(x == ("__debug__":Str)))=true then (G.int.lookup x).map fun n=>fC (.int n) else none
noncomputable def Aj:Const->Option FE
 | .int i=>some (fC (.int i))
 | .bool b=>some (fC (.bool b))
 | .none=>some (fC .none)
 | .str x=>some (fC (.str x))
 | _=>none
noncomputable def Mw(T:Tr)(op:UnaryOp)(a:Expr):Option FE:=match op with
 | .Not=>(T.e a).map xE
 | .USub=>(T.e a).map (f1 L0)
 | _=>none
noncomputable def N7:Operator->Option (D->D->Option D)
 | .Add=>some aI
 | .Sub=>some Dl.fJ
 | .Mult=>some eB
 | .FloorDiv=>some lW
 | .Mod=>some ku
 | _=>none
noncomputable def IM:Expr->Bool
 | .List ..=>true
 | .ListComp ..=>true
 | _=>false
noncomputable def Ap:Expr->Bool
 | .List ..=>true
 | .ListComp ..=>true
 | .BinOp a .Mult _ _=>IM a
 | .BinOp a .Add b _=>Ap a||Ap b
 | .Call (.Name x _) _ _ _=>x == ("sorted":Str)||x == ("list":Str)
 | _=>false
noncomputable def CQ(T:Tr)(whole a:Expr)(op:Operator)(b:Expr):Option FE :=
 if Ap whole=true then (T.f whole).map bP else (N7 op).bind fun g=>(T.e a).bind fun x=>(T.e b).map fun y=>f2 g x y
noncomputable def uC(T:Tr)(op:BoolOp):List Expr->Option FE
 | []=>none
 | [a]=>T.e a
 | a::b::r=>(T.e a).bind fun x=>(uC T op (b::r)).map fun y=>match op with|.And=>jt x y|.Or=>Gr x y
noncomputable def MS:CmpOp->Option (D->D->Option D)
 | .Lt=>some Ak
 | .LtE=>some rL
 | .Gt=>some wJ
 | .GtE=>some Nv
 | .Eq=>some bS
 | .NotEq=>some cB
 | .In=>some Kk
 | .Is=>some mn
 | .IsNot=>some lF
 | _=>none
noncomputable def Np:CmpOp->Option (D->D->Option D)
 | .Lt=>some Ak
 | .LtE=>some rL
 | _=>none
noncomputable def AX(T:Tr)(a:Expr)(ops:List CmpOp)(cs:List Expr):Option FE:=match ops,cs with
 | [op],[b]=>if behindInMarks op b=false then (MS op).bind fun g=>(T.e a).bind fun x=>(T.e b).map fun y=>f2 g x y else none
 | [op,op'],[b,c]=>if lastMarks [op,op'] [b,c]=false then (Np op).bind fun g=>(Np op').bind fun g'=>(T.e a).bind fun x=>(T.e b).bind fun y=>(T.e c).map fun z=>fU g g' x y z else none
 | _,_=>none
noncomputable def sg(T:Tr):List Expr->Option (Dl.Env->Option (List D))
 | []=>some ae
 | e::es=>if isStar e=false then (T.e e).bind fun x=>(sg T es).map fun r=>aa x r else none
noncomputable def Nt(T:Tr):Option Expr->Option (Dl.Env->Option (Option Int))
 | none=>some fF
 | some e=>(T.e e).map oT
noncomputable def EB:Expr->Bool
 | .Slice ..=>true
 | .Tuple ..=>true
 | .Starred ..=>true
 | _=>false
noncomputable def lO:Expr->Bool
 | .UnaryOp .USub (.Constant (.int 1) _ _) _=>true
 | _=>false
noncomputable def CG:Expr->Bool
 | .Constant (.int 1) _ _=>true
 | _=>false
noncomputable def CZ(T:Tr)(a b:Expr):Option FE:=match b with
 | .Slice lo hi none _=>(T.e a).bind fun x=>(Nt T lo).bind fun l=>(Nt T hi).map fun h=>fM cQ x l h
 | .Slice none none (some s) _=>if lO s=true then (T.e a).map fun x=>f1 My x else none
 | .Slice (some l) none (some s) _=>if (CG l&&lO s)=true then (T.e a).map fun x=>f1 Eh x else none
 | _=>if EB b=false then (T.e a).bind fun x=>(T.e b).map fun y=>f2 aq x y else none
noncomputable def EM:List D->Option D:=fun ds=>(oneOf ds).bind fun d=>match d with
 | .list es=>(boolsOf es).map fun bs=>.bool (bs.any id)
 | _=>none
noncomputable def nc:Expr->Option Expr
 | .Call (.Name x _) [e] [] _=>if x="set" then some e else none
 | _=>none
noncomputable def K8(x:Str):Option String:=if x="int" then some "int" else if x="bool" then some "bool" else if x="tuple" then some "tuple" else if x="list" then some "list" else none
noncomputable def yt(T:Tr)(x:Str)(args:List Expr):Option FE :=
 if x="int" then (if args.length=1 then (sg T args).map fun fs=>bb F5 fs else none)
 else if x="max" then (if args.isEmpty=true then none else (sg T args).map fun fs=>bb yz fs)
 else none
noncomputable def xN(G:Sg)(sc:Scope)(T:Tr)(whole:Expr)(x:Str)(args:List Expr):Option FE :=
 if (AS sc x&&args.all fun e=>!isStar e)=true then
  match G.fn.lookup x with
  | some (n,m)=>if (args.isEmpty||x == ("__debug__":Str))=true then none else (sg T args).map fun fs=>ah n m fs
  | none =>
   if x="len" then (match args with
    | [e]=>(match nc e with
     | some e'=>if (AS sc "set"&&!isStar e')=true then (T.e e').map fun y=>f1 kc y else none
     | none=>(sg T args).map fun fs=>bb bj fs)
    | _=>none)
   else if x="isinstance" then (match args with
    | [e,.Name y _]=>if AS sc y=true then (K8 y).bind fun ty=>(T.e e).map fun z=>FL ty z else none
    | _=>none)
   else if x="tuple" then (if args.length=1 then (sg T args).map fun fs=>bb bM fs else none)
   else if x="all" then (if args.length=1 then (sg T args).map fun fs=>bb jc fs else none)
   else if x="any" then (if args.length=1 then (sg T args).map fun fs=>bb EM fs else none)
   else if x="sum" then (if args.length=1 then (sg T args).map fun fs=>bb qE fs else none)
   else if x="min" then (if args.isEmpty=true then none else (sg T args).map fun fs=>bb vv fs)
   else if (x == ("list":Str)||x == ("sorted":Str))=true then (T.f whole).map bP
   else yt T x args
 else none
noncomputable def AH:Expr->Bool
 | .Call ..=>true
 | _=>false
noncomputable def Jo:Expr->Bool
 | .Tuple ..=>true
 | _=>false
noncomputable def yo(T:Tr)(o:Expr)(m:Str)(apos:Pos)(args:List Expr)(cpos:Pos):Option FE :=
 if (m == ("index":Str)&&apos.endLine == cpos.line&&!AH o)=true then (match args with
  | [e]=>if isStar e=false then (T.e o).bind fun x=>(T.e e).map fun y=>if Jo e=true then f2 JR x y else f2 n6 x y else none
  | _=>none)
 else none
noncomputable def C8(G:Sg)(sc:Scope)(N:List Str)(T:Tr)(whole:Expr):Option FE:=match whole with
 | .Name x _=>xV G sc N x
 | .Constant c _ _=>Aj c
 | .UnaryOp op a _=>Mw T op a
 | .BinOp a op b _=>CQ T whole a op b
 | .BoolOp op es _=>uC T op es
 | .Compare a ops cs _=>AX T a ops cs
 | .IfExp c a b _=>(T.t c).bind fun z=>(T.e a).bind fun x=>(T.e b).map fun y=>IH z x y
 | .Tuple es _ _=>(sg T es).map aM
 | .Subscript a b _=>CZ T a b
 | .List ..=>(T.f whole).map bP
 | .ListComp ..=>(T.f whole).map bP
 | .Call (.Name x _) args [] _=>xN G sc T whole x args
 | .Call (.Name _ _) _ (_::_) _=>(T.f whole).map bP
 | .Call (.Attribute o m apos) args [] cpos=>yo T o m apos args cpos
 | _=>none
noncomputable def M7(T:Tr)(op:BoolOp):List Expr->Option (Dl.Env->Option Bool)
 | []=>none
 | [a]=>T.t a
 | a::b::r=>(T.t a).bind fun x=>(M7 T op (b::r)).map fun y=>match op with|.And=>dm x y|.Or=>il x y
noncomputable def E8:Expr->Bool
 | .Name ..=>true
 | .Call ..=>true
 | .Subscript ..=>true
 | _=>false
noncomputable def stepT(T:Tr)(whole:Expr):Option (Dl.Env->Option Bool):=match whole with
 | .Compare a ops cs _=>(AX T a ops cs).map fB
 | .UnaryOp .Not a _=>(T.t a).map ba
 | .BoolOp op es _=>M7 T op es
 | _=>if E8 whole=true then (T.e whole).map fB else none
noncomputable def uS:Expr->Bool
 | .Tuple ..=>true
 | _=>false
noncomputable def M1(sc:Scope)(T:Tr)(tg iter:Expr):Option (Dl.Env->Option (List D)):=match iter with
 | .Call (.Name x _) args [] _ =>
  if x="range" then (match args with|[e]=>if (AS sc "range"&&!isStar e)=true then (sg T args).map bC else none|_=>none)
  else if x="enumerate" then (match args with|[e]=>if (AS sc "enumerate"&&!isStar e&&uS tg)=true then (sg T args).map bz else none|_=>none)
  else if x="zip" then (match args with|[e,e']=>if (AS sc "zip"&&!isStar e&&!isStar e'&&uS tg)=true then (sg T args).map dU else none|_=>none)
  else (T.e iter).map aX
 | .Set ..=>none
 | _=>(T.e iter).map aX
noncomputable def Nk:Expr->Option (List Str)
 | .Name x _=>some [x]
 | .Tuple [.Name x _,.Name y _] _ _=>some [x,y]
 | _=>none
noncomputable def Oe:Expr->Option (List Str)
 | .Tuple [.Name x _,.Name y _,.Name z _] _ _=>some [x,y,z]
 | tg=>Nk tg
noncomputable def fy(N:List Str)(scope:Scope):List Nat:=(List.range N.length).filter fun j=>match N[j]? with|some x=>decide (scope.names.lookup x=some .free)|none=>false
noncomputable def Kl:Expr->Bool
 | .Set ..=>false
 | _=>true
noncomputable def IT(B:Tr)(ifs:List Expr):Option (Dl.Env->Option Bool):=match ifs with
 | []=>some fun _=>some true
 | [c]=>B.t c
 | _=>none
noncomputable def ub(sc:Scope)(N:List Str)(T:Tr)(blk:Scope->List Str->Tr)(elt:Expr)(gens:List Comprehension)(scope:Scope):Option (Dl.Env->Option (List D)):=match gens with
 | [⟨tg,iter,ifs,as⟩] =>
  if as=0 then (Oe tg).bind fun xs =>
   if (iN sc scope N (xs++(fy N scope).filterMap fun j=>N[j]?) xs.length (fy N scope)&&(List.range xs.length).all fun i=>pM (xs++(fy N scope).filterMap fun j=>N[j]?) scope i (xs.getD i ""))=true then
    (M1 sc T tg iter).bind fun fi=>(IT (blk scope (xs++(fy N scope).filterMap fun j=>N[j]?)) ifs).bind fun tt =>
     ((blk scope (xs++(fy N scope).filterMap fun j=>N[j]?)).e elt).map fun te=>ao xs.length (fy N scope) fi (match xs with|[_]=>fG 0|[_,_]=>f7 0 1|_=>FN 0 1 2) tt te
   else none
  else none
 | _=>none
noncomputable def AY:Arguments->Option Str
 | ⟨[],[⟨x,none,_⟩],none,[],[],none,[]⟩=>if x="number" then some x else if x="plan" then some x else none
 | _=>none
noncomputable def uv(lam:Option Str)(sc:Scope)(N:List Str)(T:Tr)(lmb:Scope->List Str->Tr)(l:Expr)(params:Arguments)(body:Expr)(scope:Scope):Option (Dl.Env->Option (List D)) :=
 if (lam.isSome&&AS sc "sorted"&&!isStar l)=true then
  (AY params).bind fun p =>
   if (iN sc scope N (p::(fy N scope).filterMap fun j=>N[j]?) 1 (fy N scope)&&nI scope (p::(fy N scope).filterMap fun j=>N[j]?) p)=true then
    (T.e l).bind fun fl=>((lmb scope (p::(fy N scope).filterMap fun j=>N[j]?)).e body).map fun te=>mE (fy N scope) fl te
   else none
 else none
noncomputable def sQ(lam:Option Str)(sc:Scope)(N:List Str)(T:Tr)(lmb:Scope->List Str->Tr)(l:Expr)(params:Arguments)(body:Expr)(scope:Scope):Option (Dl.Env->Option (List D)):=match l with
 | .Call (.Name r _) [e] [] _ =>
  if (lam.isSome&&AS sc "sorted"&&r == ("range":Str)&&AS sc "range"&&!isStar e)=true then
   (AY params).bind fun p =>
    if (iN sc scope N (p::(fy N scope).filterMap fun j=>N[j]?) 1 (fy N scope)&&nI scope (p::(fy N scope).filterMap fun j=>N[j]?) p)=true then
     (sg T [e]).bind fun fs=>((lmb scope (p::(fy N scope).filterMap fun j=>N[j]?)).e body).map fun te=>qv (fy N scope) fs te
    else none
  else none
 | _=>none
noncomputable def Av(lam:Option Str)(sc:Scope)(N:List Str)(T:Tr)(blk lmb:Scope->List Str->Tr)(whole:Expr):Option (Dl.Env->Option (List D)):=match whole with
 | .List es _=>(sg T es).map dc
 | .ListComp elt gens scope _=>ub sc N T blk elt gens scope
 | .BinOp a .Mult b _=>if IM a=true then (T.f a).bind fun x=>(T.e b).map fun y=>IR x y else none
 | .BinOp a .Add b _=>(T.e a).bind fun x=>(T.e b).map fun y=>IS jo x y
 | .Call (.Name x _) [l] [⟨some ky,.Lambda params body scope _,_⟩] _=>if (x == ("sorted":Str)&&ky == ("key":Str))=true then (match uv lam sc N T lmb l params body scope with|some f=>some f|none=>sQ lam sc N T lmb l params body scope) else none
 | .Call (.Name x _) [e] [] _ =>
  if (AS sc x&&!isStar e)=true then
   if x="list" then (sg T [e]).map fun fs=>mU dg fs
   else if x="sorted" then (sg T [e]).map fun fs=>mU gK fs
   else none
  else none
 | _=>none
noncomputable def tr(G:Sg):Nat->Option Str->Scope->List Str->Tr
 | 0,_,_,_=>⟨fun _=>none,fun _=>none,fun _=>none⟩
 | n+1,lam,sc,N=>⟨C8 G sc N (tr G n lam sc N),Av lam sc N (tr G n lam sc N) (tr G n none) (tr G n none),stepT (tr G n lam sc N)⟩
structure Mz(G:Sg)(X:Cx)(j:Nat):Prop where
 fn:∀x n m,G.fn.lookup x=some (n,m)->dP X.prog X.w X.K X.mg X.base j x n m
 int:∀x i,G.int.lookup x=some i->∃t,X.mg x=some (.int i t)
 bn:Bn X
structure pZ(X:Cx)(tg iter:Expr)(ifs:List Expr)(elt:Expr)(scope:Scope)(f:Dl.Env->Option (List D)):Prop where
 ex:∃ (N':List Str) (t:Nat) (cs:List Nat) (fi:Dl.Env->Option (List D)) (tgt:Dl.Env->D->Option Dl.Env) (tt:Dl.Env->Option Bool) (te:FE),f=ao t cs fi tgt tt te/\iW X scope N' (jy t cs)/\DI X tg iter fi/\(∀x,foldedSetIterable iter X.env x=pure x) /\
  ∀fp s H,DG (aV X scope N' fp s H) tg tgt/\Mo (aV X scope N' fp s H) ifs tt/\DE (aV X scope N' fp s H) elt te
structure dO(X:Cx)(T:Tr):Prop where
 c:∀elt gens scope p f,T.f (.ListComp elt gens scope p)=some f->∃tg iter ifs,gens=[⟨tg,iter,ifs,0⟩]/\pZ X tg iter ifs elt scope f
 e:∀e f,T.e e=some f->DE X e f
 f:∀e f,T.f e=some f->DF X e f
 t:∀e f,T.t e=some f->DT X e f
section
variable {G:Sg}{X:Cx}{N:List Str}{sc:Scope}{k j:Nat}{T:Tr}{pos p:Pos}
theorem Bx(C:Bk X N sc k)(g:Mz G X j){x:Str}{f:FE}(h:xV G sc N x=some f):DE X (.Name x pos) f:=by
 unfold xV at h
 split at h
 ·split at h
  ·cases h;exact C.v _ ‹_›
  ·cases h
 ·split at h
  ·rename_i hg
   obtain⟨n,hn,rfl⟩:=ag h
   obtain⟨t,ht⟩:=g.int x n hn
   simp only[zF,Bool.not_eq_true'] at hg
   exact Ih (C.gl hg.1) ht hg.2
  ·cases h
theorem xC{c:Const}{i:Nat}{f:FE}(h:Aj c=some f):DE X (.Constant c i pos) f:=by
 cases c<;>cases h<;>first|exact Kw|exact L7|exact JW|exact Kp
theorem GU(C:Bk X N sc k)(O:dO X T){op:UnaryOp}{a:Expr}{f:FE}(h:Mw T op a=some f):DE X (.UnaryOp op a pos) f:=by
 cases op<;>try cases h
 ·obtain⟨x,hx,rfl⟩:=ag h;exact KH (O.e _ _ hx)
 ·obtain⟨x,hx,rfl⟩:=ag h;exact C.neg (O.e _ _ hx)
theorem CK(C:Bk X N sc k)(O:dO X T){op:Operator}{a b:Expr}{f:FE}(h:CQ T (.BinOp a op b pos) a op b=some f):DE X (.BinOp a op b pos) f:=by
 unfold CQ at h
 split at h
 ·obtain⟨x,hx,rfl⟩:=ag h;exact DF.de (O.f _ _ hx)
 ·obtain⟨g,hg,h⟩:=bs h
  obtain⟨x,hx,h⟩:=bs h
  obtain⟨y,hy,rfl⟩:=ag h
  cases op<;>cases hg
  ·exact C.add (O.e _ _ hx) (O.e _ _ hy)
  ·exact C.sub (O.e _ _ hx) (O.e _ _ hy)
  ·exact C.mul (O.e _ _ hx) (O.e _ _ hy)
  ·exact C.mod (O.e _ _ hx) (O.e _ _ hy)
  ·exact C.div (O.e _ _ hx) (O.e _ _ hy)
theorem rT(O:dO X T){op:BoolOp}:∀ {es:List Expr}{f:FE},uC T op es=some f->DE X (.BoolOp op es pos) f
 | [],f,h=>by cases h
 | [a],f,h=>Le (O.e _ _ h)
 | a::b::r,f,h=>by
  unfold uC at h
  obtain⟨x,hx,h⟩:=bs h
  obtain⟨y,hy,rfl⟩:=ag h
  have ih:=rT O hy
  cases op with
  | And=>exact Kr (O.e _ _ hx) ih
  | Or=>exact L3 (O.e _ _ hx) ih
theorem K9(C:Bk X N sc k){op:CmpOp}{a b:Expr}{g:D->D->Option D}{x y:FE}(hg:MS op=some g)(hm:behindInMarks op b=false)(ha:DE X a x)(hb:DE X b y):DE X (.Compare a [op] [b] pos) (f2 g x y)/\DT X (.Compare a [op] [b] pos) (fB (f2 g x y)):=by
 cases op<;>cases hg
 ·exact⟨C.eq ha hb,C.teq ha hb⟩
 ·exact⟨C.ne ha hb,C.tne ha hb⟩
 ·exact⟨C.lt ha hb,C.tlt ha hb⟩
 ·exact⟨C.le ha hb,C.tle ha hb⟩
 ·exact⟨C.gt ha hb,C.tgt ha hb⟩
 ·exact⟨C.ge ha hb,C.tge ha hb⟩
 ·exact⟨C.is0 ha hb,C.tis0 ha hb⟩
 ·exact⟨C.not0 ha hb,C.tnot0 ha hb⟩
 ·exact⟨C.isin ha hb hm,C.tin ha hb hm⟩
theorem Jj{op:CmpOp}{g:D->D->Option D}(h:Np op=some g):∃r,ij X (compareOp op) r/\fN X.K r g:=by
 cases op<;>cases h
 ·exact⟨_,Ef,hV⟩
 ·exact⟨_,EU,hV⟩
theorem vZ(C:Bk X N sc k)(O:dO X T){a:Expr}{ops:List CmpOp}{cs:List Expr}{f:FE}(h:AX T a ops cs=some f):DE X (.Compare a ops cs pos) f/\DT X (.Compare a ops cs pos) (fB f):=by
 unfold AX at h
 split at h
 ·split at h
  ·rename_i hm
   obtain⟨g,hg,h⟩:=bs h
   obtain⟨x,hx,h⟩:=bs h
   obtain⟨y,hy,rfl⟩:=ag h
   exact K9 C hg hm (O.e _ _ hx) (O.e _ _ hy)
  ·cases h
 ·split at h
  ·rename_i hm
   obtain⟨g,hg,h⟩:=bs h
   obtain⟨g',hg',h⟩:=bs h
   obtain⟨x,hx,h⟩:=bs h
   obtain⟨y,hy,h⟩:=bs h
   obtain⟨z,hz,rfl⟩:=ag h
   obtain⟨r,r1,r2⟩:=Jj (X:=X) hg
   obtain⟨r',r1',r2'⟩:=Jj (X:=X) hg'
   exact⟨D6 r1 r2 r1' r2' (O.e _ _ hx) (O.e _ _ hy) (O.e _ _ hz) hm,Fp r1 r2 r1' r2' (O.e _ _ hx) (O.e _ _ hy) (O.e _ _ hz) hm⟩
  ·cases h
 ·cases h
theorem cP(O:dO X T):∀ {es:List Expr}{fs:Dl.Env->Option (List D)},sg T es=some fs->DA X es fs
 | [],fs,h=>by cases h;exact EG
 | e::es,fs,h=>by
  unfold sg at h
  split at h
  ·rename_i hs
   obtain⟨x,hx,h⟩:=bs h
   obtain⟨r,hr,rfl⟩:=ag h
   exact Nw hs (O.e _ _ hx) (cP O hr)
  ·cases h
theorem Em(O:dO X T){o:Option Expr}{f:Dl.Env->Option (Option Int)}(h:Nt T o=some f):DO X o f:=by
 cases o with
 | none=>cases h;exact HV
 | some e=>obtain⟨x,hx,rfl⟩:=ag h;exact FR (O.e _ _ hx)
theorem yi{b:Expr}(h:EB b=false):sT b:=by
 cases b<;>first|(intro _ _;rfl)|cases h
theorem so{e:Expr}(h:lO e=true):∃j p4 p3,e=.UnaryOp .USub (.Constant (.int 1) j p4) p3:=by
 unfold lO at h
 split at h
 ·exact⟨_,_,_,rfl⟩
 ·cases h
theorem K4{e:Expr}(h:CG e=true):∃j p,e=.Constant (.int 1) j p:=by
 unfold CG at h
 split at h
 ·exact⟨_,_,rfl⟩
 ·cases h
theorem CO(C:Bk X N sc k)(O:dO X T){a b:Expr}{f:FE}(h:CZ T a b=some f):DE X (.Subscript a b pos) f:=by
 unfold CZ at h
 split at h
 ·obtain⟨x,hx,h⟩:=bs h
  obtain⟨l,hl,h⟩:=bs h
  obtain⟨u,hu,rfl⟩:=ag h
  exact C.cut (O.e _ _ hx) (Em O hl) (Em O hu)
 ·split at h
  ·rename_i hm
   obtain⟨x,hx,rfl⟩:=ag h
   obtain⟨_,_,_,rfl⟩:=so hm
   exact J8 (O.e _ _ hx)
  ·cases h
 ·split at h
  ·rename_i hm
   rw[zF] at hm
   obtain⟨x,hx,rfl⟩:=ag h
   obtain⟨_,_,_,rfl⟩:=so hm.2
   obtain⟨_,_,rfl⟩:=K4 hm.1
   exact Hu (O.e _ _ hx)
  ·cases h
 ·split at h
  ·rename_i hc
   obtain⟨x,hx,h⟩:=bs h
   obtain⟨y,hy,rfl⟩:=ag h
   exact MH (O.e _ _ hx) (O.e _ _ hy) (yi hc)
  ·cases h
theorem dB{env:PySem.Env}:∀ {es:List Expr},(es.all fun e=>!isStar e)=true->(backTo pos (starEach es env)).any (·.1)=false
 | [],_=>rfl
 | e::es,h=>by
  rw[List.all_cons,zF,Bool.not_eq_true'] at h
  rw[bp h.1]
  show (false||(backTo pos (starEach es env)).any (·.1))=false
  rw[dB h.2]
  rfl
theorem De{e e':Expr}(h:nc e=some e'):∃p q,e=.Call (.Name "set" p) [e'] [] q:=by
 unfold nc at h
 split at h
 ·split at h
  ·rename_i hx;cases h;subst hx;exact⟨_,_,rfl⟩
  ·cases h
 ·cases h
theorem Gq{y:Str}{ty:String}(h:K8 y=some ty):y∈cU/\bootBuiltins y=some (.type ty)/\y≠"__name__"/\(y == ("__debug__":Str))=false:=by
 unfold K8 at h
 split at h
 ·rename_i e;cases h;subst e;exact⟨by decide +kernel,by decide +kernel,by decide,by decide⟩
 ·split at h
  ·rename_i e;cases h;subst e;exact⟨by decide +kernel,by decide +kernel,by decide,by decide⟩
  ·split at h
   ·rename_i e;cases h;subst e;exact⟨by decide +kernel,by decide +kernel,by decide,by decide⟩
   ·split at h
    ·rename_i e;cases h;subst e;exact⟨by decide +kernel,by decide +kernel,by decide,by decide⟩
    ·cases h
theorem KR:bootBuiltins "any"=some (.builtin "any"):=by decide +kernel
theorem JM:bootBuiltins "sum"=some (.builtin "sum"):=by decide +kernel
theorem JH:bootBuiltins "max"=some (.builtin "max"):=by decide +kernel
theorem Ky:bootBuiltins "min"=some (.builtin "min"):=by decide +kernel
theorem uN{α:Type}{l:List α}(h:l.length=1):∃a,l=[a]:=by
 match l,h with
 | [a],_=>exact⟨a,rfl⟩
theorem A1(C:Bk X N sc k)(g:Mz G X j)(O:dO X T){x:Str}{args:List Expr}{f:FE}(hg:AS sc x=true)(hs:args.all (fun e=>!isStar e)=true)(h:yt T x args=some f):DE X (.Call (.Name x p) args [] pos) f:=by
 have st1:∀ {e:Expr}{es:List Expr},args=e::es->starEach (e::es) X.env=(false,eval e X.env)::starEach es X.env:=fun {e es} q=>by
  subst q
  rw[List.all_cons,zF,Bool.not_eq_true'] at hs
  exact bp hs.1
 have st2:∀ {e:Expr}{es:List Expr},args=e::es->(backTo pos (starEach es X.env)).any (·.1)=false:=fun {e es} q=>by
  subst q
  rw[List.all_cons,zF] at hs
  exact dB hs.2
 unfold yt at h
 split at h
 ·rename_i hx
  subst hx
  split at h
  ·rename_i hl
   obtain⟨fs,hfs,rfl⟩:=ag h
   obtain⟨e,rfl⟩:=uN hl
   exact C2 (C.blt g.bn hg (by decide +kernel) Jr) (cP O hfs) (st1 rfl)
  ·cases h
 ·split at h
  ·rename_i hx
   subst hx
   split at h
   ·cases h
   ·rename_i hl
    obtain⟨fs,hfs,rfl⟩:=ag h
    cases args with
    | nil=>exact absurd rfl hl
    | cons e es=>exact Lo C.calm (C.blt g.bn hg (by decide +kernel) JH) (st1 rfl) (st2 rfl) (cP O hfs)
  ·cases h
theorem B1(C:Bk X N sc k)(g:Mz G X j)(hjk:j<=k)(O:dO X T){x:Str}{args:List Expr}{f:FE}(h:xN G sc T (.Call (.Name x p) args [] pos) x args=some f):DE X (.Call (.Name x p) args [] pos) f:=by
 unfold xN at h
 split at h
 ·rename_i hg
  rw[zF] at hg
  obtain⟨hg,hs⟩:=hg
  have st1:∀ {e:Expr}{es:List Expr},args=e::es->starEach (e::es) X.env=(false,eval e X.env)::starEach es X.env:=fun {e es} q=>by
   subst q
   rw[List.all_cons,zF,Bool.not_eq_true'] at hs
   exact bp hs.1
  have st2:∀ {e:Expr}{es:List Expr},args=e::es->(backTo pos (starEach es X.env)).any (·.1)=false:=fun {e es} q=>by
   subst q
   rw[List.all_cons,zF] at hs
   exact dB hs.2
  split at h
  ·rename_i n m hfn
   split at h
   ·cases h
   ·rename_i hne
    obtain⟨fs,hfs,rfl⟩:=ag h
    cases args with
    | nil=>exact absurd (by simp) hne
    | cons e es =>
     have hd:(x == ("__debug__":Str))=false:=by simpa using hne
     exact Gc (g.fn x n m hfn) (C.room.mono hjk) (C.gl hg) (cP O hfs) hd (st1 rfl) (st2 rfl)
  ·split at h
   ·rename_i hx
    subst hx
    split at h
    ·rename_i e
     split at h
     ·rename_i e' he'
      split at h
      ·rename_i hg2
       rw[zF,Bool.not_eq_true'] at hg2
       obtain⟨y,hy,rfl⟩:=ag h
       obtain⟨p1,p2,rfl⟩:=De he'
       exact Bi C.calm (C.blt g.bn hg (by decide +kernel) Dc) (C.blt g.bn hg2.1 (by decide +kernel) KA) (O.e _ _ hy) (bp hg2.2)
      ·cases h
     ·obtain⟨fs,hfs,rfl⟩:=ag h
      exact Jk (C.blt g.bn hg (by decide +kernel) Dc) (cP O hfs) (st1 rfl)
    ·cases h
   ·split at h
    ·rename_i hx
     subst hx
     split at h
     ·rename_i e y py
      split at h
      ·rename_i hgy
       obtain⟨ty,hty,h⟩:=bs h
       obtain⟨z,hz,rfl⟩:=ag h
       obtain⟨t1,t2,t3,t4⟩:=Gq hty
       exact LV (C.blt g.bn hg (by decide +kernel) qG) (C.blt g.bn hgy t1 t2) (O.e _ _ hz) t3 t4 (st1 rfl)
      ·cases h
     ·cases h
    ·split at h
     ·rename_i hx
      subst hx
      split at h
      ·rename_i hl
       obtain⟨fs,hfs,rfl⟩:=ag h
       obtain⟨e,rfl⟩:=uN hl
       exact CL (C.blt g.bn hg (by decide +kernel) DQ) (cP O hfs) (st1 rfl)
      ·cases h
     ·split at h
      ·rename_i hx
       subst hx
       split at h
       ·rename_i hl
        obtain⟨fs,hfs,rfl⟩:=ag h
        obtain⟨e,rfl⟩:=uN hl
        exact KF C.calm (C.blt g.bn hg (by decide +kernel) JG) (cP O hfs) (st1 rfl)
       ·cases h
      ·split at h
       ·rename_i hx
        subst hx
        split at h
        ·rename_i hl
         obtain⟨fs,hfs,rfl⟩:=ag h
         obtain⟨e,rfl⟩:=uN hl
         exact Lm C.calm (C.blt g.bn hg (by decide +kernel) KR) (st1 rfl) (cP O hfs)
        ·cases h
       ·split at h
        ·rename_i hx
         subst hx
         split at h
         ·rename_i hl
          obtain⟨fs,hfs,rfl⟩:=ag h
          obtain⟨e,rfl⟩:=uN hl
          exact Lp C.calm (C.blt g.bn hg (by decide +kernel) JM) (st1 rfl) (cP O hfs)
         ·cases h
        ·split at h
         ·rename_i hx
          subst hx
          split at h
          ·cases h
          ·rename_i hl
           obtain⟨fs,hfs,rfl⟩:=ag h
           cases args with
           | nil=>exact absurd rfl hl
           | cons e es=>exact Km C.calm (C.blt g.bn hg (by decide +kernel) Ky) (st1 rfl) (st2 rfl) (cP O hfs)
         ·split at h
          ·obtain⟨y,hy,rfl⟩:=ag h
           exact DF.de (O.f _ _ hy)
          ·exact A1 C g O hg hs h
 ·cases h
end
section
variable {G:Sg}{X:Cx}{N:List Str}{sc:Scope}{k j:Nat}{T:Tr}{pos p:Pos}
theorem MA{env:PySem.Env}{e:Expr}{cpos:Pos}(h:isStar e=false):((backTo cpos (starEach [e] env)).all (fun x=>!x.1)&&(backToKw cpos (keywordEach [] env)).all (fun x=>x.1.isSome)&&decide ([e].length+([]:List Keyword).length+(if ([]:List Keyword).isEmpty then 0 else 1) < 30))=true:=by
 rw[bp h];rfl
theorem j5{o:Expr}{a:Str}{env:PySem.Env}{w:Sem Value}(h:AH o=false):attributeBase o a env w=w:=by
 cases o<;>first|rfl|cases h
theorem B7(C:Bk X N sc k)(O:dO X T){o:Expr}{m:Str}{apos cpos:Pos}{args:List Expr}{f:FE}(h:yo T o m apos args cpos=some f):DE X (.Call (.Attribute o m apos) args [] cpos) f:=by
 unfold yo at h
 split at h
 ·rename_i hm
  rw[zF,zF,Bool.not_eq_true'] at hm
  obtain⟨⟨hm1,hm⟩,hcl⟩:=hm
  have e1:m="index":=eq_of_beq hm1
  subst e1
  split at h
  ·rename_i e
   split at h
   ·rename_i hs
    obtain⟨x,hx,h⟩:=bs h
    obtain⟨y,hy,rfl⟩:=ag h
    split
    ·exact A4 C.u66 (j5 hcl) (MA hs) hm (bp hs) (O.e _ _ hx) (O.e _ _ hy)
    ·exact Cj (j5 hcl) (MA hs) hm (bp hs) (O.e _ _ hx) (O.e _ _ hy)
   ·cases h
  ·cases h
 ·cases h
theorem Fs(C:Bk X N sc k)(g:Mz G X j)(hjk:j<=k)(O:dO X T){e:Expr}{f:FE}(h:C8 G sc N T e=some f):DE X e f:=by
 unfold C8 at h
 split at h
 ·exact Bx C g h
 ·exact xC h
 ·exact GU C O h
 ·exact CK C O h
 ·exact rT O h
 ·exact (vZ C O h).1
 ·obtain⟨z,hz,h⟩:=bs h
  obtain⟨x,hx,h⟩:=bs h
  obtain⟨y,hy,rfl⟩:=ag h
  exact LO (O.t _ _ hz) (O.e _ _ hx) (O.e _ _ hy)
 ·obtain⟨x,hx,rfl⟩:=ag h;exact Kb (cP O hx)
 ·exact CO C O h
 ·obtain⟨x,hx,rfl⟩:=ag h;exact DF.de (O.f _ _ hx)
 ·obtain⟨x,hx,rfl⟩:=ag h;exact DF.de (O.f _ _ hx)
 ·exact B1 C g hjk O h
 ·obtain⟨x,hx,rfl⟩:=ag h;exact DF.de (O.f _ _ hx)
 ·exact B7 C O h
 ·cases h
theorem DY(O:dO X T){op:BoolOp}:∀ {es:List Expr}{f:Dl.Env->Option Bool},M7 T op es=some f->DW X (.BoolOp op es pos) f
 | [],f,h=>by cases h
 | [a],f,h=>by
  cases op with
  | And=>exact Iu (O.t _ _ h)
  | Or=>exact Jp (O.t _ _ h)
 | a::b::r,f,h=>by
  unfold M7 at h
  obtain⟨x,hx,h⟩:=bs h
  obtain⟨y,hy,rfl⟩:=ag h
  have ih:=DY O hy
  cases op with
  | And=>exact Ln (O.t _ _ hx) ih
  | Or=>exact Mq (O.t _ _ hx) ih
theorem CJ(C:Bk X N sc k)(O:dO X T){e:Expr}{f:Dl.Env->Option Bool}(h:stepT T e=some f):DT X e f:=by
 unfold stepT at h
 split at h
 ·obtain⟨x,hx,rfl⟩:=ag h;exact (vZ C O hx).2
 ·obtain⟨x,hx,rfl⟩:=ag h;exact Lw (O.t _ _ hx)
 ·exact DW.dt (DY O h)
 ·split at h
  ·rename_i hp
   obtain⟨x,hx,rfl⟩:=ag h
   refine KW (O.e _ _ hx) ?_
   revert hp
   cases e<;>first|(intro hp;cases hp;done)|(intro hp _;rfl)
  ·cases h
theorem Jl{e:Expr}{env:PySem.Env}(h:Kl e=true):∀x,foldedSetIterable e env x=pure x:=by
 cases e<;>first|(intro _;rfl)|cases h
theorem Ft(C:Bk X N sc k)(B:Bn X)(O:dO X T){tg iter:Expr}{fi:Dl.Env->Option (List D)}(h:M1 sc T tg iter=some fi):DI X tg iter fi/\∀x,foldedSetIterable iter X.env x=pure x:=by
 unfold M1 at h
 split at h
 ·refine⟨?_,fun _=>rfl⟩
  split at h
  ·rename_i hx
   subst hx
   split at h
   ·split at h
    ·rename_i hg
     rw[zF,Bool.not_eq_true'] at hg
     obtain⟨x,hx,rfl⟩:=ag h
     exact EA (C.blt B hg.1 (by decide +kernel) w4) (cP O hx) (bp hg.2)
    ·cases h
   ·cases h
  ·split at h
   ·rename_i hx
    subst hx
    split at h
    ·split at h
     ·rename_i hg
      simp only[zF,Bool.not_eq_true'] at hg
      obtain⟨x,hx,rfl⟩:=ag h
      cases tg<;>first|exact GX (C.blt B hg.1.1 (by decide +kernel) uQ) (cP O hx) (bp hg.1.2)|exact absurd hg.2 (by simp[uS])
     ·cases h
    ·cases h
   ·split at h
    ·rename_i hx
     subst hx
     split at h
     ·split at h
      ·rename_i e e' hg
       simp only[zF,Bool.not_eq_true'] at hg
       obtain⟨x,hx,rfl⟩:=ag h
       cases tg<;>first|exact GY (C.blt B hg.1.1.1 (by decide +kernel) KO) (bp hg.1.1.2) (dB (by simp[hg.1.2])) (cP O hx)|exact absurd hg.2 (by simp[uS])
      ·cases h
     ·cases h
    ·obtain⟨x,hx,rfl⟩:=ag h
     exact D8 (O.e _ _ hx)
 ·cases h
 ·rename_i h1 h2
  obtain⟨x,hx,rfl⟩:=ag h
  refine⟨D8 (O.e _ _ hx),Jl ?_⟩
  cases iter<;>first|rfl|exact absurd rfl (h2 _ _ _)
theorem K7{tg:Expr}{xs:List Str}(h:Nk tg=some xs):(∃x px,tg=.Name x px/\xs=[x])\/∃x px y py m pt,tg=.Tuple [.Name x px,.Name y py] m pt/\xs=[x,y]:=by
 unfold Nk at h
 split at h
 ·cases h;exact .inl ⟨_,_,rfl,rfl⟩
 ·cases h;exact .inr ⟨_,_,_,_,_,_,rfl,rfl⟩
 ·cases h
theorem K3{tg:Expr}{xs:List Str}(h:Oe tg=some xs):((∃x px,tg=.Name x px/\xs=[x])\/∃x px y py m pt,tg=.Tuple [.Name x px,.Name y py] m pt/\xs=[x,y])\/∃x px y py z pz m pt,tg=.Tuple [.Name x px,.Name y py,.Name z pz] m pt/\xs=[x,y,z]:=by
 unfold Oe at h
 split at h
 ·cases h;exact .inr ⟨_,_,_,_,_,_,_,_,rfl,rfl⟩
 ·exact .inl (K7 h)
theorem rZ(C:Bk X N sc k)(B:Bn X)(O:dO X T){blk:Scope->List Str->Tr}(OB:∀scope N' fp s H,Bk (aV X scope N' fp s H) N' scope k->dO (aV X scope N' fp s H) (blk scope N')){tg iter elt:Expr}{ifs:List Expr}{as:Int}{scope:Scope}{f:Dl.Env->Option (List D)}
  (h:ub sc N T blk elt [⟨tg,iter,ifs,as⟩] scope=some f):as=0/\pZ X tg iter ifs elt scope f:=by
 unfold ub at h
 dsimp only at h
 split at h
 ·rename_i has
  refine⟨has,?_⟩
  obtain⟨xs,hxs,h⟩:=bs h
  split at h
  ·rename_i hok
   rw[zF] at hok
   obtain⟨fi,hfi,h⟩:=bs h
   obtain⟨tt,htt,h⟩:=bs h
   obtain⟨te,hte,rfl⟩:=ag h
   obtain⟨S,CB⟩:=C.comp hok.1
   obtain⟨hd,hfold⟩:=Ft C B O hfi
   refine⟨_,_,_,_,_,_,_,rfl,S,hd,hfold,fun fp s H=>?_⟩
   have C1:=CB fp s H
   have O1:=OB scope _ fp s H C1
   refine⟨?_,?_,O1.e _ _ hte⟩
   ·rcases K3 hxs with (⟨x,px,rfl,rfl⟩|⟨x,px,y,py,m,pt,rfl,rfl⟩)|⟨x,px,y,py,z,pz,m,pt,rfl,rfl⟩
    ·have z:=C1.loc (i:=0) (x:=x) (List.all_eq_true.mp hok.2 0 (by simp))
     exact Gv 0 z.1 z.2.1 z.2.2.1 z.2.2.2
    ·have z:=C1.loc (i:=0) (x:=x) (List.all_eq_true.mp hok.2 0 (by simp))
     have w:=C1.loc (i:=1) (x:=y) (List.all_eq_true.mp hok.2 1 (by simp))
     exact Lc 0 1 C1.calm z.1 z.2.1 z.2.2.1 w.2.1 w.2.2.1 z.2.2.2 w.2.2.2
    ·have z0:=C1.loc (i:=0) (x:=x) (List.all_eq_true.mp hok.2 0 (by simp))
     have w:=C1.loc (i:=1) (x:=y) (List.all_eq_true.mp hok.2 1 (by simp))
     have u:=C1.loc (i:=2) (x:=z) (List.all_eq_true.mp hok.2 2 (by simp))
     exact CT 0 1 2 C1.calm z0.1 z0.2.1 z0.2.2.1 w.2.1 w.2.2.1 u.2.1 u.2.2.1 z0.2.2.2 w.2.2.2 u.2.2.2
   ·unfold IT at htt
    split at htt
    ·cases htt;exact HU
    ·exact Gh (O1.t _ _ htt)
    ·cases htt
  ·cases h
 ·cases h
theorem pZ.df{tg iter elt:Expr}{ifs:List Expr}{scope:Scope}{f:Dl.Env->Option (List D)}(hc:X.calm=true)(h:pZ X tg iter ifs elt scope f):DF X (.ListComp elt [⟨tg,iter,ifs,0⟩] scope pos) f:=by
 obtain⟨N',t,cs,fi,tgt,tt,te,rfl,S,hd,hfold,hY⟩:=h.ex
 exact HC hc S hd hY hfold
theorem vY{a:Arguments}{x:Str}(h:AY a=some x):∃px,a=⟨[],[⟨x,none,px⟩],none,[],[],none,[]⟩/\(x="number"\/x="plan"):=by
 unfold AY at h
 split at h
 ·split at h
  ·cases h;exact⟨_,rfl,.inl ‹_›⟩
  ·split at h
   ·cases h;exact⟨_,rfl,.inr ‹_›⟩
   ·cases h
 ·cases h
theorem bind1{x q:Str}{px:Pos}{body:Expr}{scope:Scope}{cl:List (Str×Addr)}{pm ctv u:Value}{c:Addr}(h:x="number"\/x="plan") :
  bindArgs (W.kla_fn "<lambda>" q ⟨[],[⟨x,none,px⟩],none,[],[],none,[]⟩ body scope cl pm (.ref c) ctv) ⟨[u],[]⟩=pure [(x,u)]:=by
 rcases h with rfl|rfl<;>rfl
theorem yh{lam:Option Str}(C:Bk X N sc k)(B:Bn X)(hlam:∀q,lam=some q->p7 X q/\j+3<=k)(O:dO X T){lmb:Scope->List Str->Tr}
  (OL:∀scope N' qual A f c s H,Bk (gE X A qual scope N' f c s H) N' scope (k - 3)->j<=k - 3->dO (gE X A qual scope N' f c s H) (lmb scope N')) {l body:Expr}{params:Arguments}{scope:Scope}{p0 lpos kpos:Pos}{f:Dl.Env->Option (List D)}
  (h:uv lam sc N T lmb l params body scope=some f):DF X (.Call (.Name "sorted" p0) [l] [⟨some "key",.Lambda params body scope lpos,kpos⟩] pos) f:=by
 unfold uv at h
 split at h
 ·rename_i hg
  simp only[zF,Bool.not_eq_true'] at hg
  obtain⟨⟨hl,hg⟩,hs⟩:=hg
  obtain⟨q,rfl⟩:=Option.isSome_iff_exists.mp hl
  obtain⟨L,hk⟩:=hlam q rfl
  obtain⟨x,hx,h2⟩:=bs h
  clear h
  obtain⟨px,rfl,hpx⟩:=vY hx
  split at h2
  ·rename_i hok
   rw[zF] at hok
   obtain⟨fl,hfl,h⟩:=bs h2
   obtain⟨te,hte,rfl⟩:=ag h
   obtain⟨k',rfl⟩:∃k',k=k'+3:=⟨k - 3,by omega⟩
   exact Bk.sortK (p:=x) C (C.blt B hg (by decide +kernel) m8) L hok.1 hok.2 (fun _ _ _ _ _=>bind1 hpx) rfl (O.e _ _ hfl) (fun A f c s H C'=>(OL scope _ q A f c s H C' (by omega)).e _ _ hte) (bp hs) (by rw[bp hs];rfl) (dB (by simp[hs]))
  ·cases h2
 ·cases h
theorem xG{lam:Option Str}(C:Bk X N sc k)(B:Bn X)(hlam:∀q,lam=some q->p7 X q/\j+3<=k)(O:dO X T){lmb:Scope->List Str->Tr}
  (OL:∀scope N' qual A f c s H,Bk (gE X A qual scope N' f c s H) N' scope (k - 3)->j<=k - 3->dO (gE X A qual scope N' f c s H) (lmb scope N')) {l body:Expr}{params:Arguments}{scope:Scope}{p0 lpos kpos:Pos}{f:Dl.Env->Option (List D)}
  (h:sQ lam sc N T lmb l params body scope=some f):DF X (.Call (.Name "sorted" p0) [l] [⟨some "key",.Lambda params body scope lpos,kpos⟩] pos) f:=by
 unfold sQ at h
 split at h
 ·split at h
  ·rename_i hg
   simp only[zF,Bool.not_eq_true'] at hg
   obtain⟨⟨⟨⟨hl,hg⟩,hr⟩,hgr⟩,hs⟩:=hg
   have er:=eq_of_beq hr
   subst er
   obtain⟨q,rfl⟩:=Option.isSome_iff_exists.mp hl
   obtain⟨L,hk⟩:=hlam q rfl
   obtain⟨x,hx,h2⟩:=bs h
   clear h
   obtain⟨px,rfl,hpx⟩:=vY hx
   split at h2
   ·rename_i hok
    rw[zF] at hok
    obtain⟨fl,hfl,h⟩:=bs h2
    obtain⟨te,hte,rfl⟩:=ag h
    obtain⟨k',rfl⟩:∃k',k=k'+3:=⟨k - 3,by omega⟩
    exact Bk.sortR (p:=x) C (C.blt B hg (by decide +kernel) m8) (C.blt B hgr (by decide +kernel) w4) L hok.1 hok.2 (fun _ _ _ _ _=>bind1 hpx) rfl (cP O hfl) (fun A f c s H C'=>(OL scope _ q A f c s H C' (by omega)).e _ _ hte) (bp hs) (bp rfl) (by rw[bp rfl];rfl) (dB (by rfl))
   ·cases h2
  ·cases h
 ·cases h
theorem Fu{lam:Option Str}(C:Bk X N sc k)(B:Bn X)(hlam:∀q,lam=some q->p7 X q/\j+3<=k)(O:dO X T){blk lmb:Scope->List Str->Tr}
  (OB:∀scope N' fp s H,Bk (aV X scope N' fp s H) N' scope k->dO (aV X scope N' fp s H) (blk scope N'))
  (OL:∀scope N' qual A f c s H,Bk (gE X A qual scope N' f c s H) N' scope (k - 3)->j<=k - 3->dO (gE X A qual scope N' f c s H) (lmb scope N')) {e:Expr}{f:Dl.Env->Option (List D)}(h:Av lam sc N T blk lmb e=some f):DF X e f:=by
 unfold Av at h
 split at h
 ·obtain⟨x,hx,rfl⟩:=ag h;exact Kd (cP O hx)
 ·rename_i elt gens scope ps
  match gens,h with
  | [⟨tg,iter,ifs,as⟩],h =>
   obtain⟨rfl,q⟩:=rZ C B O OB h
   exact q.df C.calm
 ·split at h
  ·obtain⟨x,hx,h⟩:=bs h
   obtain⟨y,hy,rfl⟩:=ag h
   exact J4 (O.f _ _ hx) (O.e _ _ hy)
  ·cases h
 ·obtain⟨x,hx,h⟩:=bs h
  obtain⟨y,hy,rfl⟩:=ag h
  exact JK (O.e _ _ hx) (O.e _ _ hy)
 ·split at h
  ·rename_i hk
   rw[zF] at hk
   have e1:=eq_of_beq hk.1
   have e2:=eq_of_beq hk.2
   subst e1 e2
   split at h
   ·cases h;exact yh C B hlam O OL ‹_›
   ·exact xG C B hlam O OL h
  ·cases h
 ·split at h
  ·rename_i hg
   rw[zF,Bool.not_eq_true'] at hg
   split at h
   ·rename_i hx
    subst hx
    obtain⟨x,hx,rfl⟩:=ag h
    exact GN (C.blt B hg.1 (by decide +kernel) F4) (cP O hx) (bp hg.2)
   ·split at h
    ·rename_i hx
     subst hx
     obtain⟨x,hx,rfl⟩:=ag h
     exact BU (C.blt B hg.1 (by decide +kernel) m8) (cP O hx) (bp hg.2)
    ·cases h
  ·cases h
 ·cases h
theorem Gd{lam:Option Str}(C:Bk X N sc k)(B:Bn X)(O:dO X T){blk lmb:Scope->List Str->Tr}(OB:∀scope N' fp s H,Bk (aV X scope N' fp s H) N' scope k->dO (aV X scope N' fp s H) (blk scope N'))
  {elt:Expr}{gens:List Comprehension}{scope:Scope}{p:Pos}{f:Dl.Env->Option (List D)}(h:Av lam sc N T blk lmb (.ListComp elt gens scope p)=some f):∃tg iter ifs,gens=[⟨tg,iter,ifs,0⟩]/\pZ X tg iter ifs elt scope f:=by
 have h:ub sc N T blk elt gens scope=some f:=h
 match gens,h with
 | [⟨tg,iter,ifs,as⟩],h =>
  obtain⟨rfl,q⟩:=rZ C B O OB h
  exact⟨tg,iter,ifs,rfl,q⟩
theorem IW(n:Nat):∀ {lam:Option Str}{X:Cx}{N:List Str}{sc:Scope}{k:Nat},Bk X N sc k->Mz G X j->j<=k->(∀q,lam=some q->p7 X q/\j+3<=k)->dO X (tr G n lam sc N):=by
 induction n with
 | zero=>intro lam X N sc k C g hjk hlam;exact⟨fun _ _ _ _ _ h=>(by cases h),fun _ _ h=>(by cases h),fun _ _ h=>(by cases h),fun _ _ h=>(by cases h)⟩
 | succ n ih =>
  intro lam X N sc k C g hjk hlam
  have O:=ih C g hjk hlam
  exact⟨fun elt gens scope p f h=>Gd (lam:=lam) (lmb:=tr G n none) (p:=p) C g.bn O (fun scope N' fp s H C'=>ih C' ⟨g.fn,g.int,g.bn⟩ hjk fun q z=>by cases z) h,fun e f h=>Fs C g hjk O h,
   fun e f h=>Fu C g.bn hlam O (fun scope N' fp s H C'=>ih C' ⟨g.fn,g.int,g.bn⟩ hjk fun q z=>by cases z) (fun scope N' qual A f c s H C' hk=>ih C' ⟨g.fn,g.int,g.bn⟩ hk fun q z=>by cases z) h,
   fun e f h=>CJ C O h⟩
end
noncomputable def oW:Nat->Expr->List Str
 | 0,_=>[]
 | n+1,e=>match e with
  | .Name x _=>[x]
  | .UnaryOp _ a _=>oW n a
  | .BinOp a _ b _=>oW n a++oW n b
  | .BoolOp _ es _=>es.flatMap (oW n)
  | .Compare a _ cs _=>oW n a++cs.flatMap (oW n)
  | .IfExp c a b _=>oW n c++(oW n a++oW n b)
  | .Tuple es _ _=>es.flatMap (oW n)
  | .List es _=>es.flatMap (oW n)
  | .Subscript a b _=>oW n a++oW n b
  | .Slice lo hi st _=>(lo.toList++(hi.toList++st.toList)).flatMap (oW n)
  | .Call f args kws _=>oW n f++(args.flatMap (oW n)++kws.flatMap fun k=>oW n k.value)
  | .Attribute o _ _=>oW n o
  | .ListComp elt gens _ _=>oW n elt++gens.flatMap fun g=>oW n g.iter++g.ifs.flatMap (oW n)
  | .Lambda _ b _ _=>oW n b
  | _=>[]
noncomputable def rq(N:List Str)(e:Expr):List Nat:=let ns:=oW 60 e;(List.range N.length).filter fun j=>match N[j]? with|some x=>ns.contains x|none=>false
noncomputable abbrev GS:=aj->Option Out
noncomputable def turns:Nat:=1000000
noncomputable def yQ:Expr->Bool
 | .ListComp ..=>true
 | .SetComp ..=>true
 | .DictComp ..=>true
 | _=>false
noncomputable def Fy(sc:Scope)(N:List Str)(T:Tr)(x:Str)(px:Pos)(e:Expr):Option GS :=
 (N.idxOf? x).bind fun i=>if pM N sc i x=true then
  (if Ap e=true then (match e with
   | .ListComp _ _ scope lp =>
    if (decide (sc.names.lookup x=some .local)&&(px.line == lp.line&&!(scope.names.any fun (n,k)=>n == x&&(k == .local || k == .cell))))=true then (T.f e).map fun f=>aS i (rq N e) f
    else if decide (sc.names.lookup x=some .cell)=true then (T.f e).map fun f=>aS i (rq N e) f
    else if (px.line == lp.line)=false then (T.f e).map fun f=>aS i (rq N e) f
    else none
   | _=>(T.f e).map fun f=>aS i (rq N e) f)
  else if yQ e=false then (T.e e).map fun f=>ay i (rq N e) f else none) else none
noncomputable def DL(N:List Str)(sc:Scope)(T:Tr)(e:Expr):Option GS:=match e with
 | .Constant (.str _) _ _=>some dJ
 | .Call (.Attribute (.Name x _) m apos) args [] cpos =>
  (N.idxOf? x).bind fun i=>if (BZ N sc i x&&apos.endLine == cpos.line&&args.all fun e=>!isStar e)=true then
   (if m="append" then (match args with
    | [a]=>(T.e a).map fun f=>k3 i (rq N a) f
    | _=>none)
   else if m="extend" then (match args with
    | [a]=>(T.f a).map fun f=>Cn i (rq N a) f
    | _=>none)
   else if m="insert" then (match args with
    | [a,b]=>(T.e a).bind fun fk=>(T.e b).map fun f=>C4 i (rq N b) fk f
    | _=>none)
   else none) else none
 | .Call (.Name _ _) _ _ _=>(T.e e).map mO
 | _=>none
noncomputable def Od(sc:Scope)(N:List Str)(tg:Expr):Option (aj->D->Option aj):=match tg with
 | .Name x _=>(N.idxOf? x).bind fun i=>if pM N sc i x=true then some (n0 i) else none
 | .Tuple [.Name x _,.Name y _] _ _=>(N.idxOf? x).bind fun i=>(N.idxOf? y).bind fun j=>if (pM N sc i x&&pM N sc j y)=true then some (fK i j) else none
 | .Tuple [.Name x _,.Tuple [.Name y _,.Name z _,.Name w _] _ _] _ _=>(N.idxOf? x).bind fun i=>(N.idxOf? y).bind fun j=>(N.idxOf? z).bind fun k=>(N.idxOf? w).bind fun l=>if ((pM N sc i x&&pM N sc j y)&&(pM N sc k z&&pM N sc l w))=true then some (El i j k l) else none
 | _=>none
noncomputable def Fb(sc:Scope)(N:List Str)(T:Tr)(x:Str)(kx e:Expr):Option GS :=
 (N.idxOf? x).bind fun i=>if (BZ N sc i x&&!EB kx&&!yQ e)=true then (T.e kx).bind fun fk=>(T.e e).map fun f=>yx i (rq N e) fk f else none
noncomputable def pF(f:Stmt->Option GS):List Stmt->Option GS
 | []=>some dJ
 | [s]=>f s
 | s::r=>(f s).bind fun g=>(pF f r).map fun h=>ar g h
noncomputable def FM(sc:Scope)(N:List Str)(T:Tr):Nat->Stmt->Option GS
 | 0,_=>none
 | n+1,st=>match st with
  | .Return (some e) _=>(T.e e).map az
  | .If c a b _=>(T.t c).bind fun t=>(pF (FM sc N T n) a).bind fun g=>(pF (FM sc N T n) b).map fun h=>dN t g h
  | .Assign [.Name x px] e _=>Fy sc N T x px e
  | .Assign [.Subscript (.Name x _) kx _] e _=>Fb sc N T x kx e
  | .For tg iter body [] _=>(M1 sc T tg iter).bind fun fi=>(Od sc N tg).bind fun t=>(pF (FM sc N T n) body).map fun g=>dM (rq N iter) fi t g
  | .While c body [] _=>(T.t c).bind fun t=>(pF (FM sc N T n) body).map fun g=>GP t g turns
  | .Expr e _=>DL N sc T e
  | .Raise ..=>some MY
  | .Pass _=>some dJ
  | _=>none
section
variable {X:Cx}{N:List Str}{sc:Scope}{k:Nat}{T:Tr}{HF₀ H₀:Hp}{pos:Pos}
theorem jl{f:Stmt->Option GS}(H:∀s g,f s=some g->DS X HF₀ H₀ s g):∀ {l:List Stmt}{g:GS},pF f l=some g->Cw X HF₀ H₀ l g
 | [],g,h=>by cases h;exact Hb
 | [s],g,h=>HN (H _ _ h)
 | s::t::r,g,h=>by
  unfold pF at h
  obtain⟨x,hx,h⟩:=bs h
  obtain⟨y,hy,rfl⟩:=ag h
  exact D9 (H _ _ hx) (jl H hy)
theorem sH{e:Expr}{x:Str}{px:Pos}{line:Nat}{env:PySem.Env}(h:yQ e=false):swapsWith e (some (.Name x px)) line env=pure false:=by
 cases e<;>first|rfl|cases h
theorem Ep(C:Bk X N sc k)(O:dO X T){x:Str}{px:Pos}{e:Expr}{g:GS}(h:Fy sc N T x px e=some g):DS X HF₀ H₀ (.Assign [.Name x px] e pos) g:=by
 unfold Fy at h
 obtain⟨i,hi,h⟩:=bs h
 split at h
 ·rename_i hloc
  obtain⟨z1,z2,z3,z4⟩:=C.loc hloc
  split at h
  ·split at h
   ·rename_i elt gens scope lp hl
    split at h
    ·rename_i hc
     rw[zF] at hc
     obtain⟨f,hf,rfl⟩:=ag h
     obtain⟨tg,iter,ifs,rfl,q⟩:=O.c _ _ _ _ _ hf
     obtain⟨N',t,cs,fi,tgt,tt,te,rfl,S,hd,hfold,hY⟩:=q.ex
     exact GR i _ C.calm S hd hY z1 z2 (C.locl hc.1) (C.swap hc.1 hc.2) hfold
    ·split at h
     ·rename_i hc
      obtain⟨f,hf,rfl⟩:=ag h
      exact uz i _ z1 z2 z3 (O.f _ _ hf) (C.noswap hc) z4
     ·split at h
      ·rename_i hc
       obtain⟨f,hf,rfl⟩:=ag h
       refine uz i _ z1 z2 z3 (O.f _ _ hf) ?_ z4
       rw[o4,hc]
       simp
      ·cases h
   ·rename_i hl hn
    obtain⟨f,hf,rfl⟩:=ag h
    refine uz i _ z1 z2 z3 (O.f _ _ hf) (sH ?_) z4
    cases e<;>first|rfl|exact absurd rfl (hn _ _ _ _)|(rename_i hl _;cases hl;done)
  ·split at h
   ·rename_i hc
    obtain⟨f,hf,rfl⟩:=ag h
    exact KS i _ z1 z2 z3 (O.e _ _ hf) (sH hc) z4
   ·cases h
 ·cases h
theorem xM{env:PySem.Env}{es:List Expr}{cpos:Pos}(h:(es.all fun e=>!isStar e)=true)(hl:es.length < 20):((backTo cpos (starEach es env)).all (fun x=>!x.1)&&(backToKw cpos (keywordEach [] env)).all (fun x=>x.1.isSome)&&decide (es.length+([]:List Keyword).length+(if ([]:List Keyword).isEmpty then 0 else 1) < 30))=true:=by
 have h1:(backTo cpos (starEach es env)).all (fun x=>!x.1)=true:=by
  have:=dB (pos:=cpos) (env:=env) h
  rw[List.all_eq_not_any_not]
  simpa using this
 rw[h1]
 simp[backToKw,keywordEach]
 omega
theorem Ff(C:Bk X N sc k)(O:dO X T){e:Expr}{g:GS}(h:DL N sc T e=some g):DS X HF₀ H₀ (.Expr e pos) g:=by
 unfold DL at h
 split at h
 ·cases h;exact JO
 ·rename_i x px m apos args cpos
  replace h:=bs h
  obtain⟨i,hi,h⟩:=h
  split at h
  ·rename_i hv
   simp only[zF] at hv
   obtain⟨⟨hv,hline⟩,hs⟩:=hv
   obtain⟨z1,z2,z3,z4⟩:=C.vis hv
   split at h
   ·rename_i hm
    subst hm
    split at h
    ·obtain⟨f,hf,rfl⟩:=ag h
     exact BS i _ z1 z2 (O.e _ _ hf) z3 z4 (xM hs (by simp)) hline (bp (by simpa using hs))
    ·cases h
   ·split at h
    ·rename_i hm
     subst hm
     split at h
     ·obtain⟨f,hf,rfl⟩:=ag h
      exact A3 i _ z1 z2 (O.f _ _ hf) z3 z4 (xM hs (by simp)) hline (bp (by simpa using hs))
     ·cases h
    ·split at h
     ·rename_i hm
      subst hm
      split at h
      ·obtain⟨fk,hfk,h⟩:=bs h
       obtain⟨f,hf,rfl⟩:=ag h
       have hs':=hs
       simp only[List.all_cons,List.all_nil,Bool.and_true,zF,Bool.not_eq_true'] at hs'
       exact BA i _ z1 z2 (O.e _ _ hfk) (O.e _ _ hf) z3 z4 (xM hs (by simp)) hline (bp hs'.1) (bp hs'.2)
      ·cases h
     ·cases h
  ·cases h
 ·obtain⟨f,hf,rfl⟩:=ag h
  exact GO rfl (O.e _ _ hf)
 ·cases h
theorem JP(C:Bk X N sc k){tg:Expr}{t:aj->D->Option aj}(h:Od sc N tg=some t):MI X HF₀ H₀ tg t:=by
 unfold Od at h
 split at h
 ·obtain⟨i,hi,h⟩:=bs h
  split at h
  ·rename_i hl
   cases h
   have z:=C.loc hl
   exact Dv i z.1 z.2.1 z.2.2.1 z.2.2.2
  ·cases h
 ·obtain⟨i,hi,h⟩:=bs h
  obtain⟨j,hj,h⟩:=bs h
  split at h
  ·rename_i hl
   rw[zF] at hl
   cases h
   have z:=C.loc hl.1
   have w:=C.loc hl.2
   exact Hs i j C.calm z.1 z.2.1 z.2.2.1 w.2.1 w.2.2.1 z.2.2.2 w.2.2.2
  ·cases h
 ·obtain⟨i,hi,h⟩:=bs h
  obtain⟨j,hj,h⟩:=bs h
  obtain⟨m,hm,h⟩:=bs h
  obtain⟨l,hl,h⟩:=bs h
  split at h
  ·rename_i hl
   rw[zF,zF,zF] at hl
   cases h
   have z:=C.loc hl.1.1
   have w:=C.loc hl.1.2
   have y:=C.loc hl.2.1
   have u:=C.loc hl.2.2
   exact JN i j m l C.calm z.1 z.2.1 z.2.2.1 w.2.1 w.2.2.1 y.2.1 y.2.2.1 u.2.1 u.2.2.1 z.2.2.2 w.2.2.2 y.2.2.2 u.2.2.2
  ·cases h
 ·cases h
theorem FH(C:Bk X N sc k)(O:dO X T){x:Str}{px spos:Pos}{kx e:Expr}{g:GS}(h:Fb sc N T x kx e=some g):DS X HF₀ H₀ (.Assign [.Subscript (.Name x px) kx spos] e pos) g:=by
 unfold Fb at h
 obtain⟨i,hi,h⟩:=bs h
 split at h
 ·rename_i hv
  simp only[zF,Bool.not_eq_true'] at hv
  obtain⟨⟨hv,hc⟩,he⟩:=hv
  obtain⟨z1,z2,z3,z4⟩:=C.vis hv
  obtain⟨fk,hfk,h⟩:=bs h
  obtain⟨f,hf,rfl⟩:=ag h
  refine FI i _ z1 z2 (O.e _ _ hfk) (O.e _ _ hf) z3 z4 (fun v=>?_) ?_ ?_ rfl
  ·cases kx<;>first|rfl|cases hc
  ·cases e<;>first|rfl|cases he
  ·rfl
 ·cases h
theorem yn(C:Bk X N sc k)(B:Bn X)(O:dO X T):∀ (n:Nat) {st:Stmt}{g:GS},FM sc N T n st=some g->DS X HF₀ H₀ st g
 | 0,st,g,h=>by cases h
 | n+1,st,g,h=>by
  have ih:=fun s g h=>yn C B O n (st:=s) (g:=g) h
  unfold FM at h
  split at h
  ·obtain⟨f,hf,rfl⟩:=ag h;exact KZ (O.e _ _ hf)
  ·obtain⟨t,ht,h⟩:=bs h
   obtain⟨a,ha,h⟩:=bs h
   obtain⟨b,hb,rfl⟩:=ag h
   exact MC (O.t _ _ ht) (jl ih ha) (jl ih hb)
  ·exact Ep C O h
  ·exact FH C O h
  ·obtain⟨fi,hfi,h⟩:=bs h
   obtain⟨t,ht,h⟩:=bs h
   obtain⟨b,hb,rfl⟩:=ag h
   obtain⟨hd,hfold⟩:=Ft C B O hfi
   exact Ku _ C.pass C.calm hd (JP C ht) (jl ih hb) hfold
  ·obtain⟨t,ht,h⟩:=bs h
   obtain⟨b,hb,rfl⟩:=ag h
   exact CD _ C.pass (O.t _ _ ht) (jl ih hb)
  ·exact Ff C O h
  ·cases h;exact Ml
  ·cases h;exact Iw
  ·cases h
end
section
variable {P:Program}{w:World}{K:W.Frag}{mg:Str->Option Value}{base:Heap}{j:Nat}
def kC(P:Program)(w:World)(K:W.Frag)(mg:Str->Option Value)(base:Heap)(j:Nat)(l:List (Str×Nat×(List D->Option D))):Prop:=∀x n m,l.lookup x=some (n,m)->dP P w K mg base j x n m
def jA(mg:Str->Option Value)(l:List (Str×Int)):Prop:=∀x i,l.lookup x=some i->∃t,mg x=some (.int i t)
theorem bH:kC P w K mg base j []:=fun _ _ _ h=>by cases h
theorem LR{x:Str}{n:Nat}{m:List D->Option D}{l:List (Str×Nat×(List D->Option D))}(F:dP P w K mg base j x n m)(h:kC P w K mg base j l):kC P w K mg base j ((x,n,m)::l):=fun y n' m' e=>by
 rw[yC] at e
 cases q:y == x with
 | true=>rw[q] at e;cases e;rw[eq_of_beq q];exact F
 | false=>rw[q] at e;exact h y n' m' e
theorem bI:jA mg []:=fun _ _ h=>by cases h
theorem AL{x:Str}{i:Int}{l:List (Str×Int)}(F:∃t,mg x=some (.int i t))(h:jA mg l):jA mg ((x,i)::l):=fun y i' e=>by
 rw[yC] at e
 cases q:y == x with
 | true=>rw[q] at e;cases e;rw[eq_of_beq q];exact F
 | false=>rw[q] at e;exact h y i' e
theorem IX{X:Cx}{N:List Str}{st:Stmt}{g:aj->Option Out}{fs:List (Str×Nat×(List D->Option D))}{is:List (Str×Int)}{HF₀ H₀:Hp}(C:Bk X N (aO st) j)(B:Bn X)(hf:kC X.prog X.w X.K X.mg X.base j fs)(hi:jA X.mg is)
  (t:pF (FM (aO st) N (tr ⟨fs,is⟩ 40 none (aO st) N) 40) (cy st)=some g):Cw X HF₀ H₀ (cy st) g :=
 jl (fun s g h=>yn C B (IW (G:=⟨fs,is⟩) 40 C ⟨hf,hi,B⟩ (Nat.le_refl j) fun q z=>by cases z) 40 h) t
theorem OE{x:Str}{st:Stmt}{ps N:List Str}{g:aj->Option Out}{fs:List (Str×Nat×(List D->Option D))}{is:List (Str×Int)}(D:bD K mg x st ps)(S:fL N ps (aO st))(B:∀x∈cU,mg x=none)(hf:kC P w K mg base j fs)(hi:jA mg is)
  (t:pF (FM (aO st) N (tr ⟨fs,is⟩ 40 none (aO st) N) 40) (cy st)=some g):dP P w K mg base (j+1) x ps.length (bh g N.length):=by
 obtain⟨f,fd,hm,F,hb⟩:=D.ex
 exact Oh F S hb hm fun X hP hw hK hm' hb' C _ _ HF H=>by subst hP;subst hw;subst hK;subst hm';subst hb';exact IX C B hf hi t
theorem Ot{x q:Str}{st:Stmt}{ps N:List Str}{g:aj->Option Out}{fs:List (Str×Nat×(List D->Option D))}{is:List (Str×Int)}(D:DC K mg x st ps)(S:fL N ps (aO st))(B:∀x∈cU,mg x=none)(hf:kC P w K mg base j fs)(hi:jA mg is)
  (hq:x∈jC/\x++".<locals>."++"<lambda>"=q) (t:pF (FM (aO st) N (tr ⟨fs,is⟩ 40 (some q) (aO st) N) 40) (cy st)=some g):dP P w K mg base (j+4) x ps.length (bh g N.length):=by
 obtain⟨f,fd,c,P',hm,F,hb,hc,hh⟩:=D.ex
 refine Oh (k:=j+3) F S hb hm fun X hP hw hK hm' hb' C h1 h2 HF H=>?_
 subst hP;subst hw;subst hK;subst hm';subst hb'
 have L:p7 X q:=by
  refine⟨c,P',by rw[h1,hc],by rw[h2];exact hq.2,hh,fun HF tb=>?_⟩
  obtain⟨oc,od,kV,doc,pm,an,cdv,ct,osl,rfl,lk,_⟩:=F.ex
  have:=tb f oc od _ osl c P' lk hq.1 hc hh
  rw[<- hq.2]
  exact this
 exact jl (fun s g h=>yn C B (IW (G:=⟨fs,is⟩) (j:=j) 40 C ⟨hf,hi,B⟩ (Nat.le_add_right _ _) fun q' z=>by cases z;exact⟨L,Nat.le_refl _⟩) 40 h) t
end
noncomputable abbrev tW(s:Stmt)(N:List Str)(S:Sg)(l:Option Str):Option GS:=pF (FM (aO s) N (tr S 40 l (aO s) N) 40) (cy s)
theorem NN{N P:List Str}{sc:Scope}(a:sc.kind=.function:=by rfl)(b:sc.isCoroutine=false:=by rfl)(c:sc.isGenerator=false:=by rfl)(d:N.Nodup:=by decide +kernel)(e:N.take P.length=P:=by rfl)(f:∀x∈P,sc.names.lookup x=some .local \/ sc.names.lookup x=some .cell:=by decide +kernel)(g:∀y∈sc.names,y.2≠.free:=by decide +kernel):fL N P sc:=⟨a,b,c,d,e,f,g⟩
section
variable {P:Program}{w:World}{K:W.Frag}{mg:Str->Option Value}{base:Heap}{i j:Nat}
theorem fm{x:Str}{n:Nat}{m:List D->Option D}{l:List (Str×Nat×(List D->Option D))}(F:dP P w K mg base i x n m)(h:kC P w K mg base j l)(e:i<=j:=by decide):kC P w K mg base j ((x,n,m)::l):=LR (F.mono e) h
theorem gy{x:Str}{st:Stmt}{ps N:List Str}{g:aj->Option Out}{S:Sg}(D:bD K mg x st ps)(B:∀x∈cU,mg x=none)(hf:kC P w K mg base j S.fn)(hi:jA mg S.int)(t:tW st N S none=some g)(F:fL N ps (aO st):=by exact Rf.NN):dP P w K mg base (j+1) x ps.length (bh g N.length):=OE D F B hf hi t
theorem Oq{x q:Str}{st:Stmt}{ps N:List Str}{g:aj->Option Out}{S:Sg}(D:DC K mg x st ps)(B:∀x∈cU,mg x=none)(hf:kC P w K mg base j S.fn)(hi:jA mg S.int)(t:tW st N S (some q)=some g)(F:fL N ps (aO st):=by exact Rf.NN)(hq:x∈jC/\x++".<locals>."++"<lambda>"=q:=by decide +kernel):dP P w K mg base (j+4) x ps.length (bh g N.length):=Ot D F B hf hi hq t
end
end Rf
namespace Hd
open PySem L2 Dl PySem.Spec PyProof.Rows
section
variable {K:W.Frag}
theorem fIn{x:Str}{st:Stmt}{ps:List Str}{f c:Addr}{pm:Value}(hb:g9 st ps)(a:W.nsIn K mainGlobals x=some (some (.ref f)))(l:K.lookup f=some (fo x st pm c))(d:W.codeIn K (.ref c) x=true)(k:W.keepIn K (.ref f)=true):aJ K x st ps:=Ms hb a l d k
theorem lIn{x:Str}{st:Stmt}{ps:List Str}{f c:Addr}{pm:Value}(hb:g9 st ps)(a:W.nsIn K mainGlobals x=some (some (.ref f)))(l:K.lookup f=some (fo x st pm c))(d:W.codeIn K (.ref c) x=true)(k:W.keepIn K (.ref f)=true)(hh:W.codeHdIn K c (CM K c)=true):nJ K x st ps:=Mc hb a l d k hh
end
section
variable {α:Type}{R:List α->Prop}
theorem uN(h:∀a,R [a])(us:List α)(e:us.length=1):R us:=by
 obtain⟨a,rfl⟩:=List.length_eq_one_iff.mp e;exact h a
theorem lenS{n:Nat}(us:List α)(e:us.length=n+1):∃a r,us=a::r/\r.length=n:=by
 cases us with
 | nil=>cases e
 | cons a r=>exact⟨a,r,rfl,by simpa using e⟩
theorem len2(h:∀a b,R [a,b])(us:List α)(e:us.length=2):R us:=by
 obtain⟨a,r,rfl,e'⟩:=lenS us e;exact uN (R:=fun r=>R (a::r)) (h a) r e'
theorem len3(h:∀a b c,R [a,b,c])(us:List α)(e:us.length=3):R us:=by
 obtain⟨a,r,rfl,e'⟩:=lenS us e;exact len2 (R:=fun r=>R (a::r)) (h a) r e'
theorem len4(h:∀a b c d,R [a,b,c,d])(us:List α)(e:us.length=4):R us:=by
 obtain⟨a,r,rfl,e'⟩:=lenS us e;exact len3 (R:=fun r=>R (a::r)) (h a) r e'
end
section
variable {K:W.Frag}
theorem f1(f c:Addr)(pm:Value){x:Str}{st:Stmt}{ps:List Str}(hb:g9 st ps:=by exact fun _ _ _ _ _ _ _ _ us hl=>uN (R:=fun us=>bindArgs _ ⟨us,[]⟩=pure (List.zip _ us)) (fun _=>rfl) us hl)(a:W.nsIn K mainGlobals x=some (some (.ref f)):=by kernel_rfl)(l:K.lookup f=some (fo x st pm c):=by kernel_rfl)(d:W.codeIn K (.ref c) x=true:=by kernel_rfl)(k:W.keepIn K (.ref f)=true:=by kernel_rfl):aJ K x st ps:=fIn hb a l d k
theorem l1(f c:Addr)(pm:Value){x:Str}{st:Stmt}{ps:List Str}(hb:g9 st ps:=by exact fun _ _ _ _ _ _ _ _ us hl=>uN (R:=fun us=>bindArgs _ ⟨us,[]⟩=pure (List.zip _ us)) (fun _=>rfl) us hl)(a:W.nsIn K mainGlobals x=some (some (.ref f)):=by kernel_rfl)(l:K.lookup f=some (fo x st pm c):=by kernel_rfl)(d:W.codeIn K (.ref c) x=true:=by kernel_rfl)(k:W.keepIn K (.ref f)=true:=by kernel_rfl)(hh:W.codeHdIn K c (CM K c)=true:=by kernel_rfl):nJ K x st ps:=lIn hb a l d k hh
theorem f2(f c:Addr)(pm:Value){x:Str}{st:Stmt}{ps:List Str}(hb:g9 st ps:=by exact fun _ _ _ _ _ _ _ _ us hl=>len2 (R:=fun us=>bindArgs _ ⟨us,[]⟩=pure (List.zip _ us)) (fun _ _=>rfl) us hl)(a:W.nsIn K mainGlobals x=some (some (.ref f)):=by kernel_rfl)(l:K.lookup f=some (fo x st pm c):=by kernel_rfl)(d:W.codeIn K (.ref c) x=true:=by kernel_rfl)(k:W.keepIn K (.ref f)=true:=by kernel_rfl):aJ K x st ps:=fIn hb a l d k
theorem f3(f c:Addr)(pm:Value){x:Str}{st:Stmt}{ps:List Str}(hb:g9 st ps:=by exact fun _ _ _ _ _ _ _ _ us hl=>len3 (R:=fun us=>bindArgs _ ⟨us,[]⟩=pure (List.zip _ us)) (fun _ _ _=>rfl) us hl)(a:W.nsIn K mainGlobals x=some (some (.ref f)):=by kernel_rfl)(l:K.lookup f=some (fo x st pm c):=by kernel_rfl)(d:W.codeIn K (.ref c) x=true:=by kernel_rfl)(k:W.keepIn K (.ref f)=true:=by kernel_rfl):aJ K x st ps:=fIn hb a l d k
theorem l3(f c:Addr)(pm:Value){x:Str}{st:Stmt}{ps:List Str}(hb:g9 st ps:=by exact fun _ _ _ _ _ _ _ _ us hl=>len3 (R:=fun us=>bindArgs _ ⟨us,[]⟩=pure (List.zip _ us)) (fun _ _ _=>rfl) us hl)(a:W.nsIn K mainGlobals x=some (some (.ref f)):=by kernel_rfl)(l:K.lookup f=some (fo x st pm c):=by kernel_rfl)(d:W.codeIn K (.ref c) x=true:=by kernel_rfl)(k:W.keepIn K (.ref f)=true:=by kernel_rfl)(hh:W.codeHdIn K c (CM K c)=true:=by kernel_rfl):nJ K x st ps:=lIn hb a l d k hh
theorem f4(f c:Addr)(pm:Value){x:Str}{st:Stmt}{ps:List Str}(hb:g9 st ps:=by exact fun _ _ _ _ _ _ _ _ us hl=>len4 (R:=fun us=>bindArgs _ ⟨us,[]⟩=pure (List.zip _ us)) (fun _ _ _ _=>rfl) us hl)(a:W.nsIn K mainGlobals x=some (some (.ref f)):=by kernel_rfl)(l:K.lookup f=some (fo x st pm c):=by kernel_rfl)(d:W.codeIn K (.ref c) x=true:=by kernel_rfl)(k:W.keepIn K (.ref f)=true:=by kernel_rfl):aJ K x st ps:=fIn hb a l d k
end
end Hd
namespace Pg
open PySem L2 Dl PySem.Spec PyProof.Rows
abbrev yZ:List Str:=["thing","least","most"]
noncomputable def kU:aj->Option Out:=(ar (dN (il (ba (fB (FL "int" (ab 0)))) (fB (FL "bool" (ab 0)))) (az (fC (.bool false))) dJ) (az (fU rL rL (ab 1) (ab 0) (ab 2))))
noncomputable def aW:List D->Option D:=bh kU 3
abbrev vp:List Str:=["thing","many"]
noncomputable def jT:aj->Option Out:=(az (ah 3 aW (aa (ab 0) (aa (fC (.int 0)) (aa (f2 Dl.fJ (ab 1) (fC (.int 1))) ae)))))
noncomputable def bo:List D->Option D:=bh jT 2
abbrev Cv:List Str:=["thing","least","most"]
noncomputable def mx:aj->Option Out:=(az (jt (FL "tuple" (ab 0)) (fU rL rL (ab 1) (bb bj (aa (ab 0) ae)) (ab 2))))
noncomputable def aQ:List D->Option D:=bh mx 3
abbrev wH:List Str:=["thing","many"]
noncomputable def jL:aj->Option Out:=(ar (dN (ba (fB (FL "tuple" (ab 0)))) (az (fC (.bool false))) dJ) (ar (dN (ba (fB (bb jc (aa (bP (ao 1 [1] (aX (ab 0)) (fG 0) (fun _=>some true) (ah 2 bo (aa (ab 0) (aa (ab 1) ae))))) ae)))) (az (fC (.bool false))) dJ) (az (f2 bS (f1 kc (ab 0)) (bb bj (aa (ab 0) ae))))))
noncomputable def e8:List D->Option D:=bh jL 2
abbrev Dd:List Str:=["thing","many"]
noncomputable def qo:aj->Option Out:=(az (jt (ah 3 aQ (aa (ab 0) (aa (fC (.int 2)) (aa (fC (.int 2)) ae)))) (jt (ah 3 aW (aa (f2 aq (ab 0) (fC (.int 0))) (aa (fC (.int 0)) (aa (fC (.int 9)) ae)))) (ah 2 e8 (aa (f2 aq (ab 0) (fC (.int 1))) (aa (ab 1) ae))))))
noncomputable def e9:List D->Option D:=bh qo 2
abbrev D4:List Str:=["thing","givers","takers"]
noncomputable def ph:aj->Option Out:=(ar (dN (ba (fB (ah 3 aQ (aa (ab 0) (aa (fC (.int 3)) (aa (fC (.int 3)) ae)))))) (az (fC (.bool false))) dJ) (az (jt (ah 2 bo (aa (f2 aq (ab 0) (fC (.int 0))) (aa (ab 1) ae))) (jt (ah 2 bo (aa (f2 aq (ab 0) (fC (.int 1))) (aa (ab 2) ae))) (ah 3 aW (aa (f2 aq (ab 0) (fC (.int 2))) (aa (fC (.int 1)) (aa (fC (.int 9)) ae))))))))
noncomputable def iH:List D->Option D:=bh ph 3
abbrev w8:List Str:=["givers","takers","ways"]
noncomputable def jN:aj->Option Out:=(ar (dN (il (ba (fB (ah 3 aQ (aa (ab 0) (aa (fC (.int 1)) (aa (fC (.int 4)) ae)))))) (ba (fB (ah 3 aQ (aa (ab 1) (aa (fC (.int 1)) (aa (fC (.int 4)) ae))))))) (az (fC (.bool false))) dJ) (ar (dN (ba (fB (bb jc (aa (bP (ao 1 [1] (aX (ab 0)) (fG 0) (fun _=>some true) (ah 2 e9 (aa (ab 0) (aa (bb bj (aa (ab 1) ae)) ae))))) ae)))) (az (fC (.bool false))) dJ) (ar (dN (ba (fB (bb jc (aa (bP (ao 1 [0] (aX (ab 1)) (fG 0) (fun _=>some true) (ah 2 e9 (aa (ab 0) (aa (bb bj (aa (ab 1) ae)) ae))))) ae)))) (az (fC (.bool false))) dJ) (az (jt (FL "tuple" (ab 2)) (bb jc (aa (bP (ao 1 [0,1] (aX (ab 2)) (fG 0) (fun _=>some true) (ah 3 iH (aa (ab 0) (aa (bb bj (aa (ab 1) ae)) (aa (bb bj (aa (ab 2) ae)) ae)))))) ae)))))))
noncomputable def eZ:List D->Option D:=bh jN 3
abbrev qL:List Str:=["places","pairs","number","place"]
noncomputable def g0:aj->Option Out:=(ar (aS 1 [] (dc ae)) (ar (dM [0] (bz (aa (ab 0) ae)) (fK 2 3) (Cn 1 [2,3] (ao 1 [2] (aX (f2 aq (ab 3) (fC (.int 1)))) (fG 0) (fun _=>some true) (aM (aa (ab 1) (aa (ab 0) ae)))))) (az (ab 1))))
noncomputable def bx:List D->Option D:=bh g0 4
abbrev xX:List Str:=["thing","joined","by_givers","by_takers"]
noncomputable def gm:aj->Option Out:=(ar (dN (il (ba (fB (ah 3 aQ (aa (ab 0) (aa (fC (.int 3)) (aa (fC (.int 3)) ae)))))) (ba (fB (ah 3 eZ (aa (f2 aq (ab 0) (fC (.int 0))) (aa (f2 aq (ab 0) (fC (.int 1))) (aa (f2 aq (ab 0) (fC (.int 2))) ae))))))) (az (fC (.bool false))) dJ) (ar (aS 1 [0] (ao 1 [] (aX (f2 aq (ab 0) (fC (.int 2)))) (fG 0) (fun _=>some true) (aM (aa (f2 aq (ab 0) (fC (.int 0))) (aa (f2 aq (ab 0) (fC (.int 1))) ae))))) (ar (aS 2 [0] (mU gK (aa (ah 1 bx (aa (f2 aq (ab 0) (fC (.int 0))) ae)) ae))) (ar (aS 3 [0] (mU gK (aa (bP (ao 2 [] (aX (ah 1 bx (aa (f2 aq (ab 0) (fC (.int 1))) ae))) (f7 0 1) (fun _=>some true) (aM (aa (ab 1) (aa (ab 0) ae))))) ae))) (az (jt (f2 bS (ab 1) (ab 2)) (f2 bS (ab 1) (ab 3))))))))
noncomputable def cD:List D->Option D:=bh gm 4
abbrev qX:List Str:=["world"]
noncomputable def dq:aj->Option Out:=(dN (ba (fB (ah 1 cD (aa (ab 0) ae)))) MY dJ)
noncomputable def aN:List D->Option D:=bh dq 1
abbrev yV:List Str:=["parts","number","part"]
noncomputable def kR:aj->Option Out:=(az (f2 aI (f2 aI (fM cQ (ab 0) fF (oT (ab 1))) (aM (aa (ab 2) ae))) (fM cQ (ab 0) (oT (f2 aI (ab 1) (fC (.int 1)))) fF)))
noncomputable def i4:List D->Option D:=bh kR 3
abbrev Bo:List Str:=["world","side","place","ways","likes","own"]
noncomputable def j7:aj->Option Out:=(ar (ay 3 [0] (f2 aq (ab 0) (fC (.int 2)))) (ar (ay 4 [0,1,2] (f2 aq (f2 aq (f2 aq (ab 0) (ab 1)) (ab 2)) (fC (.int 1)))) (ar (aS 5 [1,2,3] (ao 2 [1,2] (bz (aa (ab 3) ae)) (f7 0 1) (fB (f2 bS (f2 aq (ab 1) (ab 2)) (ab 3))) (ab 0))) (az (bP (mE [1,3,4] (ab 5) (f2 n6 (ab 3) (f2 aq (f2 aq (ab 2) (ab 0)) (f2 Dl.fJ (fC (.int 1)) (ab 1))))))))))
noncomputable def ee:List D->Option D:=bh j7 6
abbrev vH:List Str:=["world","side","place","offers","chosen","left","number"]
noncomputable def gP:aj->Option Out:=(ar (aS 4 [0] (ao 1 [] (aX (f2 aq (ab 0) (fC (.int 2)))) (fG 0) (fun _=>some true) (fC (.int 0)))) (ar (ay 5 [0,1,2] (f2 aq (f2 aq (f2 aq (ab 0) (ab 1)) (ab 2)) (fC (.int 0)))) (ar (dM [0,1,2] (aX (ah 3 ee (aa (ab 0) (aa (ab 1) (aa (ab 2) ae))))) (n0 6) (ar (yx 4 [0,3,5,6] (ab 6) (bb vv (aa (f2 aq (ab 3) (ab 6)) (aa (f2 aq (f2 aq (f2 aq (ab 0) (fC (.int 2))) (ab 6)) (fC (.int 2))) (aa (ab 5) ae))))) (ay 5 [4,5,6] (f2 Dl.fJ (ab 5) (f2 aq (ab 4) (ab 6)))))) (az (bb bM (aa (ab 4) ae))))))
noncomputable def dE:List D->Option D:=bh gP 7
abbrev ou:List Str:=["world","side","offers","sums","place","chosen"]
noncomputable def dy:aj->Option Out:=(ar (aS 3 [0] (ao 1 [] (aX (f2 aq (ab 0) (fC (.int 2)))) (fG 0) (fun _=>some true) (fC (.int 0)))) (ar (dM [0,1] (bC (aa (bb bj (aa (f2 aq (ab 0) (ab 1)) ae)) ae)) (n0 4) (ar (ay 5 [0,1,2,4] (ah 4 dE (aa (ab 0) (aa (ab 1) (aa (ab 4) (aa (ab 2) ae)))))) (aS 3 [3,5] (ao 2 [] (dU (aa (ab 3) (aa (ab 5) ae))) (f7 0 1) (fun _=>some true) (f2 aI (ab 0) (ab 1)))))) (az (bb bM (aa (ab 3) ae)))))
noncomputable def aD:List D->Option D:=bh dy 6
abbrev Fd:List Str:=["world"]
noncomputable def pe:aj->Option Out:=(az (bb bM (aa (bP (ao 1 [] (aX (f2 aq (ab 0) (fC (.int 2)))) (fG 0) (fun _=>some true) (f2 aq (ab 0) (fC (.int 2))))) ae)))
noncomputable def bA:List D->Option D:=bh pe 1
abbrev BQ:List Str:=["caps","way","cap"]
noncomputable def nj:aj->Option Out:=(az (ah 3 i4 (aa (ab 0) (aa (ab 1) (aa (ab 2) ae)))))
noncomputable def aY:List D->Option D:=bh nj 3
abbrev B4:List Str:=["world","caps","given","kept","way","many"]
noncomputable def ke:aj->Option Out:=(ar (ay 2 [0,1] (ah 3 aD (aa (ab 0) (aa (fC (.int 0)) (aa (ab 1) ae))))) (ar (ay 3 [0,2] (ah 3 aD (aa (ab 0) (aa (fC (.int 1)) (aa (ab 2) ae))))) (ar (dM [3] (bz (aa (ab 3) ae)) (fK 4 5) (dN (fB (f2 Ak (ab 5) (f2 aq (ab 2) (ab 4)))) (az (aM (aa (ab 4) (aa (ab 5) ae)))) dJ)) (az (fC .none)))))
noncomputable def cm:List D->Option D:=bh ke 6
abbrev Ht:List Str:=["world","rows","caps","row"]
noncomputable def oA:aj->Option Out:=(ar (aS 1 [] (dc ae)) (ar (ay 2 [0] (ah 1 bA (aa (ab 0) ae))) (ar (ay 3 [0,2] (ah 2 cm (aa (ab 0) (aa (ab 2) ae)))) (ar (GP (fB (f2 lF (ab 3) (fC .none))) (ar (k3 1 [3] (ab 3)) (ar (ay 2 [2,3] (ah 3 aY (aa (ab 2) (aa (f2 aq (ab 3) (fC (.int 0))) (aa (f2 aq (ab 3) (fC (.int 1))) ae))))) (ay 3 [0,2] (ah 2 cm (aa (ab 0) (aa (ab 2) ae)))))) Rf.turns) (az (ab 1))))))
noncomputable def eO:List D->Option D:=bh oA 4
abbrev D3:List Str:=["world","rows","caps","way","cap"]
noncomputable def mi:aj->Option Out:=(ar (ay 2 [0] (ah 1 bA (aa (ab 0) ae))) (ar (dM [1] (aX (ab 1)) (fK 3 4) (ay 2 [2,3,4] (ah 3 aY (aa (ab 2) (aa (ab 3) (aa (ab 4) ae)))))) (az (ab 2))))
noncomputable def eV:List D->Option D:=bh mi 5
abbrev rF:List Str:=["world"]
noncomputable def eH:aj->Option Out:=(ar (mO (ah 1 aN (aa (ab 0) ae))) (az (ah 3 aD (aa (ab 0) (aa (fC (.int 0)) (aa (ah 2 eV (aa (ab 0) (aa (ah 1 eO (aa (ab 0) ae)) ae))) ae))))))
noncomputable def bu:List D->Option D:=bh eH 1
abbrev xg:List Str:=["_law_script","_law_k"]
noncomputable def gA:aj->Option Out:=(ar (dN (fB (f2 bS (ab 0) (bP (dc ae)))) (az (f2 eB (fC (.int 7)) (ab 1))) dJ) (az (f2 aI (f2 aq (ab 0) (f2 ku (ab 1) (bb bj (aa (ab 0) ae)))) (f2 eB (fC (.int 6553)) (f2 lW (ab 1) (bb bj (aa (ab 0) ae)))))))
noncomputable def dI:List D->Option D:=bh gA 2
abbrev uV:List Str:=["_law_script","_law_k","_law_many","_law_cell_here"]
noncomputable def iL:aj->Option Out:=(ar (ay 3 [0,1] (f2 ku (f2 aI (f2 eB (f2 ku (ah 2 dI (aa (ab 0) (aa (ab 1) ae))) (fC (.int 2147483563))) (fC (.int 69069))) (f2 eB (fC (.int 104723)) (f2 aI (ab 1) (fC (.int 1))))) (fC (.int 2147483563)))) (ar (ay 3 [3] (f2 ku (f2 aI (f2 eB (ab 3) (ab 3)) (f2 lW (ab 3) (fC (.int 3)))) (fC (.int 2147483399)))) (az (f2 ku (f2 lW (f2 ku (f2 aI (f2 eB (ab 3) (ab 3)) (f2 lW (ab 3) (fC (.int 7)))) (fC (.int 2147483647))) (fC (.int 11))) (ab 2)))))
noncomputable def ak:List D->Option D:=bh iL 4
abbrev qU:List Str:=["_law_script","_law_at","_law_rows","_law_found","_law_k","_law_row","_law_order","_law_j","_law_one"]
noncomputable def ib:aj->Option Out:=(ar (aS 3 [] (dc ae)) (ar (dM [2] (bz (aa (ab 2) ae)) (fK 4 5) (ar (aS 6 [] (dc ae)) (ar (dM [5] (bz (aa (ab 5) ae)) (fK 7 8) (C4 6 [8] (ah 3 ak (aa (ab 0) (aa (f2 aI (f2 aI (ab 1) (f2 eB (fC (.int 4)) (ab 4))) (ab 7)) (aa (f2 aI (bb bj (aa (ab 6) ae)) (fC (.int 1))) ae)))) (ab 8))) (k3 3 [6] (bb bM (aa (ab 6) ae)))))) (az (ab 3))))
noncomputable def bK:List D->Option D:=bh ib 9
abbrev tI:List Str:=["_law_script","_law_at","_law_most","_law_each","_law_takers","_law_many","_law_size","_law_ways","_law_k","_law_mine","_law_yours","_law_givers"]
noncomputable def d5:aj->Option Out:=(ar (dN (dm (fB (f2 wJ (ab 2) (fC (.int 3)))) (fB (f2 bS (ah 3 ak (aa (ab 0) (aa (f2 aI (ab 1) (fC (.int 64))) (aa (fC (.int 4)) ae)))) (fC (.int 0))))) (ar (ay 3 [0,1] (f2 aI (fC (.int 1)) (ah 3 ak (aa (ab 0) (aa (f2 aI (ab 1) (fC (.int 65))) (aa (fC (.int 2)) ae)))))) (ar (ay 4 [3] (aM (aa (aM (aa (ab 3) (aa (aM (aa (fC (.int 1)) (aa (fC (.int 0)) ae))) ae))) (aa (aM (aa (ab 3) (aa (aM (aa (fC (.int 0)) (aa (fC (.int 1)) ae))) ae))) ae)))) (az (aM (aa (aM (aa (aM (aa (ab 3) (aa (aM (aa (fC (.int 0)) (aa (fC (.int 1)) ae))) ae))) (aa (aM (aa (ab 3) (aa (aM (aa (fC (.int 1)) (aa (fC (.int 0)) ae))) ae))) ae))) (aa (ab 4) (aa (aM (aa (aM (aa (fC (.int 0)) (aa (fC (.int 0)) (aa (fC (.int 2)) ae)))) (aa (aM (aa (fC (.int 0)) (aa (fC (.int 1)) (aa (fC (.int 2)) ae)))) (aa (aM (aa (fC (.int 1)) (aa (fC (.int 0)) (aa (fC (.int 2)) ae)))) (aa (aM (aa (fC (.int 1)) (aa (fC (.int 1)) (aa (fC (.int 2)) ae)))) ae))))) ae))))))) dJ) (ar (ay 5 [0,1] (f2 aI (fC (.int 1)) (ah 3 ak (aa (ab 0) (aa (ab 1) (aa (fC (.int 3)) ae)))))) (ar (ay 6 [0,1] (f2 aI (fC (.int 1)) (ah 3 ak (aa (ab 0) (aa (f2 aI (ab 1) (fC (.int 1))) (aa (fC (.int 3)) ae)))))) (ar (aS 7 [] (dc ae)) (ar (dM [5,6] (bC (aa (f2 eB (ab 5) (ab 6)) ae)) (n0 8) (dN (dm (fB (f2 Ak (bb bj (aa (ab 7) ae)) (ab 2))) (fB (f2 wJ (ah 3 ak (aa (ab 0) (aa (f2 aI (f2 aI (ab 1) (fC (.int 2))) (ab 8)) (aa (fC (.int 4)) ae)))) (fC (.int 0))))) (k3 7 [0,1,6,8] (aM (aa (f2 lW (ab 8) (ab 6)) (aa (f2 ku (ab 8) (ab 6)) (aa (f2 aI (fC (.int 1)) (ah 3 ak (aa (ab 0) (aa (f2 aI (f2 aI (ab 1) (fC (.int 12))) (ab 8)) (aa (fC (.int 2)) ae))))) ae))))) dJ)) (ar (ay 9 [0,1,5,7] (ah 3 bK (aa (ab 0) (aa (f2 aI (ab 1) (fC (.int 24))) (aa (bP (ao 1 [7] (bC (aa (ab 5) ae)) (fG 0) (fun _=>some true) (bP (ao 1 [0] (aX (ab 1)) (fG 0) (fB (f2 bS (f2 aq (ab 0) (fC (.int 0))) (ab 1))) (f2 aq (ab 0) (fC (.int 1))))))) ae))))) (ar (ay 10 [0,1,6,7] (ah 3 bK (aa (ab 0) (aa (f2 aI (ab 1) (fC (.int 40))) (aa (bP (ao 1 [7] (bC (aa (ab 6) ae)) (fG 0) (fun _=>some true) (bP (ao 1 [0] (aX (ab 1)) (fG 0) (fB (f2 bS (f2 aq (ab 0) (fC (.int 1))) (ab 1))) (f2 aq (ab 0) (fC (.int 0))))))) ae))))) (ar (ay 11 [0,1,8,9] (bb bM (aa (bP (ao 2 [0,1] (bz (aa (ab 9) ae)) (f7 0 1) (fun _=>some true) (aM (aa (ah 3 ak (aa (ab 2) (aa (f2 aI (f2 aI (ab 3) (fC (.int 56))) (ab 0)) (aa (fC (.int 4)) ae)))) (aa (ab 1) ae))))) ae))) (ar (ay 4 [0,1,8,10] (bb bM (aa (bP (ao 2 [0,1] (bz (aa (ab 10) ae)) (f7 0 1) (fun _=>some true) (aM (aa (ah 3 ak (aa (ab 2) (aa (f2 aI (f2 aI (ab 3) (fC (.int 60))) (ab 0)) (aa (fC (.int 4)) ae)))) (aa (ab 1) ae))))) ae))) (az (aM (aa (ab 11) (aa (ab 4) (aa (bb bM (aa (ab 7) ae)) ae))))))))))))))
noncomputable def bW:List D->Option D:=bh d5 12
abbrev Bq:List Str:=["world","plan","side","place"]
noncomputable def mz:aj->Option Out:=(az (bb qE (aa (bP (ao 2 [2,3] (dU (aa (f2 aq (ab 0) (fC (.int 2))) (aa (ab 1) ae))) (f7 0 1) (fB (f2 bS (f2 aq (ab 0) (ab 2)) (ab 3))) (ab 1))) ae)))
noncomputable def cZ:List D->Option D:=bh mz 4
abbrev nY:List Str:=["world","plan","side"]
noncomputable def ft:aj->Option Out:=(az (bb jc (aa (bP (ao 2 [0,1,2] (bz (aa (f2 aq (ab 0) (ab 2)) ae)) (f7 0 1) (fun _=>some true) (f2 rL (ah 4 cZ (aa (ab 2) (aa (ab 3) (aa (ab 4) (aa (ab 0) ae))))) (f2 aq (ab 1) (fC (.int 0)))))) ae)))
noncomputable def cG:List D->Option D:=bh ft 3
abbrev Cr:List Str:=["world","thing","ways"]
noncomputable def kf:aj->Option Out:=(ar (ay 2 [0] (f2 aq (ab 0) (fC (.int 2)))) (ar (dN (ba (fB (ah 3 aQ (aa (ab 1) (aa (bb bj (aa (ab 2) ae)) (aa (bb bj (aa (ab 2) ae)) ae)))))) (az (fC (.bool false))) dJ) (ar (dN (ba (fB (bb jc (aa (bP (ao 2 [] (dU (aa (ab 2) (aa (ab 1) ae))) (f7 0 1) (fun _=>some true) (ah 3 aW (aa (ab 1) (aa (fC (.int 0)) (aa (f2 aq (ab 0) (fC (.int 2))) ae)))))) ae)))) (az (fC (.bool false))) dJ) (az (jt (ah 3 cG (aa (ab 0) (aa (ab 1) (aa (fC (.int 0)) ae)))) (ah 3 cG (aa (ab 0) (aa (ab 1) (aa (fC (.int 1)) ae)))))))))
noncomputable def eC:List D->Option D:=bh kf 3
abbrev tM:List Str:=["world","plan"]
noncomputable def dY:aj->Option Out:=(ar (mO (ah 1 aN (aa (ab 0) ae))) (dN (ba (fB (ah 2 eC (aa (ab 0) (aa (ab 1) ae))))) MY dJ))
noncomputable def bY:List D->Option D:=bh dY 2
abbrev pE:List Str:=["world","ways"]
noncomputable def dX:aj->Option Out:=(ar (ay 1 [0] (f2 aq (ab 0) (fC (.int 2)))) (az (bP (qv [1] (aa (bb bj (aa (ab 1) ae)) ae) (aM (aa (f2 aq (f2 aq (ab 1) (ab 0)) (fC (.int 1))) (aa (f2 aq (f2 aq (ab 1) (ab 0)) (fC (.int 0))) ae)))))))
noncomputable def aZ:List D->Option D:=bh dX 2
abbrev Dk:List Str:=["world","ways"]
noncomputable def lE:aj->Option Out:=(ar (mO (ah 1 aN (aa (ab 0) ae))) (ar (aS 1 [0] (ao 1 [0] (aX (ah 1 aZ (aa (ab 0) ae))) (fG 0) (fun _=>some true) (f2 aq (f2 aq (ab 1) (fC (.int 2))) (ab 0)))) (az (aM (aa (f2 aq (ab 0) (fC (.int 1))) (aa (f2 aq (ab 0) (fC (.int 0))) (aa (bb bM (aa (bP (ao 3 [] (aX (ab 1)) (FN 0 1 2) (fun _=>some true) (aM (aa (ab 1) (aa (ab 0) (aa (ab 2) ae)))))) ae)) ae)))))))
noncomputable def jR:List D->Option D:=bh lE 2
abbrev qB:List Str:=["world","plan"]
noncomputable def eM:aj->Option Out:=(ar (mO (ah 2 bY (aa (ab 0) (aa (ab 1) ae)))) (az (bb bM (aa (bP (ao 1 [1] (aX (ah 1 aZ (aa (ab 0) ae))) (fG 0) (fun _=>some true) (f2 aq (ab 1) (ab 0)))) ae))))
noncomputable def eJ:List D->Option D:=bh eM 2
abbrev uj:List Str:=["world","plan","side","way","place","own","less_liked"]
noncomputable def fI:aj->Option Out:=(ar (ay 4 [0,2,3] (f2 aq (f2 aq (f2 aq (ab 0) (fC (.int 2))) (ab 3)) (ab 2))) (ar (dN (fB (f2 Ak (ah 4 cZ (aa (ab 0) (aa (ab 1) (aa (ab 2) (aa (ab 4) ae))))) (f2 aq (f2 aq (f2 aq (ab 0) (ab 2)) (ab 4)) (fC (.int 0))))) (az (fC (.bool true))) dJ) (ar (ay 5 [0,2,4] (ah 3 ee (aa (ab 0) (aa (ab 2) (aa (ab 4) ae))))) (ar (ay 6 [3,5] (fM cQ (ab 5) (oT (f2 aI (f2 n6 (ab 5) (ab 3)) (fC (.int 1)))) fF)) (az (bb Rf.EM (aa (bP (ao 1 [1] (aX (ab 6)) (fG 0) (fun _=>some true) (f2 wJ (f2 aq (ab 1) (ab 0)) (fC (.int 0))))) ae)))))))
noncomputable def cA:List D->Option D:=bh fI 7
abbrev zi:List Str:=["world","plan","way"]
noncomputable def jd:aj->Option Out:=(ar (dN (fB (f2 bS (f2 aq (ab 1) (ab 2)) (f2 aq (f2 aq (f2 aq (ab 0) (fC (.int 2))) (ab 2)) (fC (.int 2))))) (az (fC (.str "full"))) dJ) (ar (dN (ba (fB (ah 4 cA (aa (ab 0) (aa (ab 1) (aa (fC (.int 0)) (aa (ab 2) ae))))))) (az (fC (.str "giver"))) dJ) (ar (dN (ba (fB (ah 4 cA (aa (ab 0) (aa (ab 1) (aa (fC (.int 1)) (aa (ab 2) ae))))))) (az (fC (.str "taker"))) dJ) (az (fC .none)))))
noncomputable def ej:List D->Option D:=bh jd 3
abbrev n9:List Str:=["world","plan","way"]
noncomputable def dv:aj->Option Out:=(ar (dM [1] (bC (aa (bb bj (aa (ab 1) ae)) ae)) (n0 2) (dN (fB (f2 mn (ah 3 ej (aa (ab 0) (aa (ab 1) (aa (ab 2) ae)))) (fC .none))) (az (ab 2)) dJ)) (az (fC .none)))
noncomputable def dz:List D->Option D:=bh dv 3
abbrev yb:List Str:=["world","plan"]
noncomputable def i8:aj->Option Out:=(az (f2 mn (ah 2 dz (aa (ab 0) (aa (ab 1) ae))) (fC .none)))
noncomputable def dD:List D->Option D:=bh i8 2
abbrev GW:List Str:=["world","plan"]
noncomputable def oC:aj->Option Out:=(ar (mO (ah 2 bY (aa (ab 0) (aa (ab 1) ae)))) (az (ah 2 dD (aa (ab 0) (aa (ab 1) ae)))))
noncomputable def l0:List D->Option D:=bh oC 2
abbrev qV:List Str:=["world","other"]
noncomputable def eI:aj->Option Out:=(ar (ay 1 [0] (ah 1 jR (aa (ab 0) ae))) (az (ah 2 eJ (aa (ab 1) (aa (ah 1 bu (aa (ab 1) ae)) ae)))))
noncomputable def cO:List D->Option D:=bh eI 2
abbrev u6:List Str:=["_law_world_here","_law_plan_here","_law_side","_law_place"]
noncomputable def jU:aj->Option Out:=(az (bb qE (aa (bP (ao 2 [2,3] (dU (aa (ab 1) (aa (f2 aq (ab 0) (fC (.int 2))) ae))) (f7 0 1) (fB (f2 bS (f2 aq (ab 1) (ab 2)) (ab 3))) (ab 0))) ae)))
noncomputable def cY:List D->Option D:=bh jU 4
abbrev vD:List Str:=["_law_world_here","_law_plan_here","_law_side","_law_place","_law_row"]
noncomputable def gD:aj->Option Out:=(ar (dM [] (bC (aa (fC (.int 2)) ae)) (n0 2) (dM [0,2] (bz (aa (f2 aq (ab 0) (ab 2)) ae)) (fK 3 4) (dN (fB (f2 wJ (ah 4 cY (aa (ab 0) (aa (ab 1) (aa (ab 2) (aa (ab 3) ae))))) (f2 aq (ab 4) (fC (.int 0))))) (az (fC (.bool false))) dJ))) (az (fC (.bool true))))
noncomputable def cX:List D->Option D:=bh gD 5
abbrev vX:List Str:=["_law_script","_law_at","_law_world_here","_law_found","_law_k","_law_way","_law_more","_law_fit"]
noncomputable def gG:aj->Option Out:=(ar (ay 3 [] (aM ae)) (ar (dM [2] (bz (aa (f2 aq (ab 2) (fC (.int 2))) ae)) (fK 4 5) (ar (ay 6 [0,1,3,4,5] (f2 aI (ab 3) (aM (aa (ah 3 ak (aa (ab 0) (aa (f2 aI (ab 1) (ab 4)) (aa (f2 aI (f2 aq (ab 5) (fC (.int 2))) (fC (.int 1))) ae)))) ae)))) (ar (ay 7 [2,6] (ah 2 cX (aa (ab 2) (aa (f2 aI (ab 6) (f2 eB (aM (aa (fC (.int 0)) ae)) (f2 Dl.fJ (bb bj (aa (f2 aq (ab 2) (fC (.int 2))) ae)) (bb bj (aa (ab 6) ae))))) ae)))) (ay 3 [3,6,7] (IH (fB (ab 7)) (ab 6) (f2 aI (ab 3) (aM (aa (fC (.int 0)) ae)))))))) (az (ab 3))))
noncomputable def eR:List D->Option D:=bh gG 8
abbrev GJ:List Str:=["world"]
noncomputable def oO:aj->Option Out:=(ar (mO (ah 1 aN (aa (ab 0) ae))) (az (ah 1 eO (aa (ab 0) ae))))
noncomputable def me:List D->Option D:=bh oO 1
abbrev pC:List Str:=["world","thing"]
noncomputable def dR:aj->Option Out:=(az (jt (ah 3 aQ (aa (ab 1) (aa (fC (.int 2)) (aa (fC (.int 2)) ae)))) (jt (ah 2 bo (aa (f2 aq (ab 1) (fC (.int 0))) (aa (bb bj (aa (f2 aq (ab 0) (fC (.int 2))) ae)) ae))) (ah 3 aW (aa (f2 aq (ab 1) (fC (.int 1))) (aa (fC (.int 0)) (aa (fC (.int 9)) ae)))))))
noncomputable def ck:List D->Option D:=bh dR 2
abbrev BV:List Str:=["world","caps","row","given","kept"]
noncomputable def kr:aj->Option Out:=(ar (ay 3 [0,1] (ah 3 aD (aa (ab 0) (aa (fC (.int 0)) (aa (ab 1) ae))))) (ar (ay 4 [0,3] (ah 3 aD (aa (ab 0) (aa (fC (.int 1)) (aa (ab 3) ae))))) (az (fU rL Ak (f2 aq (ab 4) (f2 aq (ab 2) (fC (.int 0)))) (f2 aq (ab 2) (fC (.int 1))) (f2 aq (ab 3) (f2 aq (ab 2) (fC (.int 0))))))))
noncomputable def ix:List D->Option D:=bh kr 5
abbrev qJ:List Str:=["world","rows","caps","row"]
noncomputable def eN:aj->Option Out:=(ar (dN (il (ba (fB (FL "list" (ab 1)))) (ba (fB (bb jc (aa (bP (ao 1 [0] (aX (ab 1)) (fG 0) (fun _=>some true) (ah 2 ck (aa (ab 1) (aa (ab 0) ae))))) ae))))) (az (fC .none)) dJ) (ar (ay 2 [0] (ah 1 bA (aa (ab 0) ae))) (ar (dM [1] (aX (ab 1)) (n0 3) (ar (dN (ba (fB (ah 3 ix (aa (ab 0) (aa (ab 2) (aa (ab 3) ae)))))) (az (fC .none)) dJ) (ay 2 [2,3] (ah 3 aY (aa (ab 2) (aa (f2 aq (ab 3) (fC (.int 0))) (aa (f2 aq (ab 3) (fC (.int 1))) ae))))))) (az (ab 2)))))
noncomputable def cL:List D->Option D:=bh eN 4
abbrev Bh:List Str:=["world","rows"]
noncomputable def ka:aj->Option Out:=(ar (mO (ah 1 aN (aa (ab 0) ae))) (az (ah 2 cL (aa (ab 0) (aa (ab 1) ae)))))
noncomputable def cK:List D->Option D:=bh ka 2
abbrev Ha:List Str:=["world","rows"]
noncomputable def oP:aj->Option Out:=(az (f2 lF (ah 2 cK (aa (ab 0) (aa (ab 1) ae))) (fC .none)))
noncomputable def l6:List D->Option D:=bh oP 2
abbrev G7:List Str:=["world","plan","rows","caps"]
noncomputable def oQ:aj->Option Out:=(ar (mO (ah 2 bY (aa (ab 0) (aa (ab 1) ae)))) (ar (ay 3 [0,2] (ah 2 cL (aa (ab 0) (aa (ab 2) ae)))) (ar (dN (il (fB (f2 mn (ab 3) (fC .none))) (ba (fB (ah 2 dD (aa (ab 0) (aa (ab 1) ae)))))) (az (fC (.bool false))) dJ) (az (f2 bS (ab 1) (ah 3 aD (aa (ab 0) (aa (fC (.int 0)) (aa (ab 3) ae)))))))))
noncomputable def eK:List D->Option D:=bh oQ 4
abbrev vK:List Str:=["world","thing","caps"]
noncomputable def gO:aj->Option Out:=(ar (mO (ah 1 aN (aa (ab 0) ae))) (ar (dN (il (ba (fB (ah 2 eC (aa (ab 0) (aa (ab 1) ae))))) (fB (f2 cB (bb bj (aa (ab 1) ae)) (bb bj (aa (ab 2) ae))))) (az (fC (.bool false))) dJ) (az (bb jc (aa (bP (ao 2 [] (dU (aa (ab 1) (aa (ab 2) ae))) (f7 0 1) (fun _=>some true) (f2 rL (ab 0) (ab 1)))) ae)))))
noncomputable def aB:List D->Option D:=bh gO 3
abbrev sJ:List Str:=["_law_script","_law_world_here","_law_plan_here","_law_rows","_law_best","_law_ahead","_law_at","_law_caps","_law_way","_law_less"]
noncomputable def sD:aj->Option Out:=(ar (ay 1 [0] (ah 3 bW (aa (ab 0) (aa (fC (.int 0)) (aa (fC (.int 9)) ae))))) (ar (ay 2 [0,1] (ah 3 eR (aa (ab 0) (aa (fC (.int 70)) (aa (ab 1) ae))))) (ar (ay 3 [1] (ah 1 me (aa (ab 1) ae))) (ar (ay 4 [1] (aM (aa (ah 1 bu (aa (ab 1) ae)) (aa (ah 1 cO (aa (ab 1) ae)) ae)))) (ar (dN (il (fB (f2 cB (ab 3) (ah 1 eO (aa (ab 1) ae)))) (il (ba (fB (ah 3 aB (aa (ab 1) (aa (ab 2) (aa (ah 1 bA (aa (ab 1) ae)) ae)))))) (fB (f2 cB (ah 2 cK (aa (ab 1) (aa (bP (dc ae)) ae))) (ah 1 bA (aa (ab 1) ae)))))) (az (fC (.bool false))) dJ) (ar (ay 5 [1] (ah 1 bA (aa (ab 1) ae))) (ar (dM [3] (bC (aa (f2 aI (bb bj (aa (ab 3) ae)) (fC (.int 1))) ae)) (n0 6) (ar (ay 7 [1,3,6] (ah 2 cK (aa (ab 1) (aa (fM cQ (ab 3) fF (oT (ab 6))) ae)))) (ar (dN (il (fB (f2 mn (ab 7) (fC .none))) (fB (f2 cB (ab 7) (ah 2 eV (aa (ab 1) (aa (fM cQ (ab 3) fF (oT (ab 6))) ae)))))) (az (fC (.bool false))) dJ) (ar (dN (fB (f2 cB (bP (ao 1 [5,7] (bC (aa (bb bj (aa (ab 7) ae)) ae)) (fG 0) (fB (f2 wJ (f2 aq (ab 2) (ab 0)) (f2 aq (ab 1) (ab 0)))) (ab 0))) (bP (dc ae)))) (az (fC (.bool false))) dJ) (ar (dN (fB (f2 cB (bP (ao 1 [1,7] (aX (ab 4)) (fG 0) (ba (fB (ah 3 aB (aa (ab 1) (aa (ab 0) (aa (ab 2) ae)))))) (ab 0))) (bP (dc ae)))) (az (fC (.bool false))) dJ) (ar (dN (dm (fB (ah 3 aB (aa (ab 1) (aa (ab 2) (aa (ab 7) ae))))) (ba (fB (ah 3 aB (aa (ab 1) (aa (ab 2) (aa (ab 5) ae))))))) (az (fC (.bool false))) dJ) (ar (dN (fB (f2 cB (ah 2 cm (aa (ab 1) (aa (ab 7) ae))) (f2 aq (bP (IS jo (ab 3) (bP (dc (aa (fC .none) ae))))) (ab 6)))) (az (fC (.bool false))) dJ) (ar (dN (fB (f2 cB (ah 3 eK (aa (ab 1) (aa (f2 aq (ab 4) (fC (.int 0))) (aa (fM cQ (ab 3) fF (oT (ab 6))) ae)))) (f2 bS (ab 6) (bb bj (aa (ab 3) ae))))) (az (fC (.bool false))) dJ) (ar (dN (dm (fB (ah 3 eK (aa (ab 1) (aa (f2 aq (ab 4) (fC (.int 1))) (aa (fM cQ (ab 3) fF (oT (ab 6))) ae))))) (fB (f2 cB (f2 aq (ab 4) (fC (.int 0))) (f2 aq (ab 4) (fC (.int 1)))))) (az (fC (.bool false))) dJ) (ay 5 [7] (ab 7))))))))))) (ar (dM [1] (bC (aa (bb bj (aa (f2 aq (ab 1) (fC (.int 2))) ae)) ae)) (n0 8) (ar (ay 9 [5,8] (ah 3 aY (aa (ab 5) (aa (ab 8) (aa (bb yz (aa (fC (.int 0)) (aa (f2 Dl.fJ (f2 aq (ab 5) (ab 8)) (fC (.int 1))) ae))) ae))))) (ar (dN (dm (fB (ah 3 aB (aa (ab 1) (aa (ab 2) (aa (ab 9) ae))))) (ba (fB (ah 3 aB (aa (ab 1) (aa (ab 2) (aa (ab 5) ae))))))) (az (fC (.bool false))) dJ) (dN (fB (ah 2 l6 (aa (ab 1) (aa (bP (IS jo (ab 3) (bP (dc (aa (aM (aa (ab 8) (aa (f2 aq (ab 5) (ab 8)) ae))) ae))))) ae)))) (az (fC (.bool false))) dJ)))) (az (Gr (xE (ah 3 eK (aa (ab 1) (aa (ab 2) (aa (ab 3) ae))))) (ah 2 l0 (aa (ab 1) (aa (ab 2) ae)))))))))))))
noncomputable def iA:List D->Option D:=bh sD 10
end Pg
namespace K62
open PySem L2 Dl PySem.Spec PyProof.Rows
open Pg
noncomputable abbrev k7:Stmt:=top 7
noncomputable abbrev xY:Rf.Sg:=⟨[],[]⟩
theorem y8:Rf.tW k7 yZ xY none=some kU:=by kernel_rfl
noncomputable abbrev jH:Stmt:=top 8
noncomputable abbrev wM:Rf.Sg:=⟨[("is_whole",3,aW)],[]⟩
theorem vV:Rf.tW jH vp wM none=some jT:=by kernel_rfl
noncomputable abbrev my:Stmt:=top 9
noncomputable abbrev Ck:Rf.Sg:=⟨[],[]⟩
theorem B5:Rf.tW my Cv Ck none=some mx:=by kernel_rfl
noncomputable abbrev jF:Stmt:=top 10
noncomputable abbrev wK:Rf.Sg:=⟨[("is_number",2,bo)],[]⟩
theorem xc:Rf.tW jF wH wK none=some jL:=by kernel_rfl
noncomputable abbrev pP:Stmt:=top 11
noncomputable abbrev E2:Rf.Sg:=⟨[("is_long",3,aQ),("is_whole",3,aW),("are_likes",2,e8)],[("MOST",9)]⟩
theorem CA:Rf.tW pP Dd E2 none=some qo:=by kernel_rfl
noncomputable abbrev oV:Stmt:=top 12
noncomputable abbrev Dp:Rf.Sg:=⟨[("is_long",3,aQ),("is_number",2,bo),("is_whole",3,aW)],[("MOST",9)]⟩
theorem EI:Rf.tW oV D4 Dp none=some ph:=by kernel_rfl
noncomputable abbrev jV:Stmt:=top 13
noncomputable abbrev vR:Rf.Sg:=⟨[("is_long",3,aQ),("is_end",2,e9),("is_way",3,iH)],[("MOST_PLACES",4)]⟩
theorem u9:Rf.tW jV w8 vR none=some jN:=by kernel_rfl
noncomputable abbrev gX:Stmt:=top 14
noncomputable abbrev rh:Rf.Sg:=⟨[],[]⟩
theorem qY:Rf.tW gX qL rh none=some g0:=by kernel_rfl
noncomputable abbrev lb:Stmt:=top 15
noncomputable abbrev xx:Rf.Sg:=⟨[("liked_pairs",1,bx),("is_long",3,aQ),("are_parts",3,eZ)],[]⟩
theorem xD:Rf.tW lb xX xx none=some gm:=by kernel_rfl
noncomputable abbrev nq:Stmt:=top 16
noncomputable abbrev B6:Rf.Sg:=⟨[],[]⟩
theorem BJ:Rf.tW nq Bq B6 none=some mz:=by kernel_rfl
noncomputable abbrev fx:Stmt:=top 17
noncomputable abbrev oh:Rf.Sg:=⟨[("through",4,cZ)],[]⟩
theorem nZ:Rf.tW fx nY oh none=some ft:=by kernel_rfl
noncomputable abbrev nC:Stmt:=top 18
noncomputable abbrev Co:Rf.Sg:=⟨[("is_long",3,aQ),("keeps_amounts",3,cG),("is_whole",3,aW)],[]⟩
theorem Bf:Rf.tW nC Cr Co none=some kf:=by kernel_rfl
noncomputable abbrev gR:Stmt:=top 19
noncomputable abbrev qN:Rf.Sg:=⟨[("is_world",1,cD)],[]⟩
theorem rD:Rf.tW gR qX qN none=some dq:=by kernel_rfl
noncomputable abbrev iZ:Stmt:=top 20
noncomputable abbrev tK:Rf.Sg:=⟨[("check_world",1,aN),("is_plan",2,eC)],[]⟩
theorem tm:Rf.tW iZ tM tK none=some dY:=by kernel_rfl
noncomputable abbrev ll:Stmt:=top 21
noncomputable abbrev ya:Rf.Sg:=⟨[],[]⟩
theorem xQ:Rf.tW ll yV ya none=some kR:=by kernel_rfl
noncomputable abbrev gw:Stmt:=top 22
noncomputable abbrev pK:Rf.Sg:=⟨[],[]⟩
theorem qb:Rf.tW gw pE pK (some "turned_order.<locals>.<lambda>")=some dX:=by kernel_rfl
noncomputable abbrev p9:Stmt:=top 23
noncomputable abbrev CI:Rf.Sg:=⟨[("check_world",1,aN),("turned_order",1,aZ)],[]⟩
theorem ER:Rf.tW p9 Dk CI none=some lE:=by kernel_rfl
noncomputable abbrev hU:Stmt:=top 24
noncomputable abbrev rz:Rf.Sg:=⟨[("check_plan",2,bY),("turned_order",1,aZ)],[]⟩
theorem qP:Rf.tW hU qB rz none=some eM:=by kernel_rfl
noncomputable abbrev mY:Stmt:=top 26
noncomputable abbrev Cq:Rf.Sg:=⟨[],[]⟩
theorem BE:Rf.tW mY Bo Cq (some "ways_of.<locals>.<lambda>")=some j7:=by kernel_rfl
noncomputable abbrev jI:Stmt:=top 27
noncomputable abbrev vc:Rf.Sg:=⟨[("ways_of",3,ee)],[]⟩
theorem wR:Rf.tW jI vH vc none=some gP:=by kernel_rfl
noncomputable abbrev ji:Stmt:=top 28
noncomputable abbrev uR:Rf.Sg:=⟨[("ways_of",3,ee),("through",4,cZ)],[]⟩
theorem tX:Rf.tW ji uj uR none=some fI:=by kernel_rfl
noncomputable abbrev k4:Stmt:=top 29
noncomputable abbrev za:Rf.Sg:=⟨[("wants_more",4,cA)],[]⟩
theorem yd:Rf.tW k4 zi za none=some jd:=by kernel_rfl
noncomputable abbrev fw:Stmt:=top 30
noncomputable abbrev n8:Rf.Sg:=⟨[("why_kept",3,ej)],[]⟩
theorem oq:Rf.tW fw n9 n8 none=some dv:=by kernel_rfl
noncomputable abbrev k8:Stmt:=top 31
noncomputable abbrev xK:Rf.Sg:=⟨[("first_leaving",2,dz)],[]⟩
theorem yN:Rf.tW k8 yb xK none=some i8:=by kernel_rfl
noncomputable abbrev tE:Stmt:=top 32
noncomputable abbrev FZ:Rf.Sg:=⟨[("check_plan",2,bY),("is_still",2,dD)],[]⟩
theorem HW:Rf.tW tE GW FZ none=some oC:=by kernel_rfl
noncomputable abbrev fj:Stmt:=top 34
noncomputable abbrev oi:Rf.Sg:=⟨[("chosen_by",4,dE)],[]⟩
theorem nX:Rf.tW fj ou oi none=some dy:=by kernel_rfl
noncomputable abbrev qg:Stmt:=top 35
noncomputable abbrev C0:Rf.Sg:=⟨[],[]⟩
theorem Eu:Rf.tW qg Fd C0 none=some pe:=by kernel_rfl
noncomputable abbrev nG:Stmt:=top 36
noncomputable abbrev Cs:Rf.Sg:=⟨[("replaced",3,i4)],[]⟩
theorem BK:Rf.tW nG BQ Cs none=some nj:=by kernel_rfl
noncomputable abbrev mN:Stmt:=top 37
noncomputable abbrev B3:Rf.Sg:=⟨[("chosen_by_all",3,aD)],[]⟩
theorem Bj:Rf.tW mN B4 B3 none=some ke:=by kernel_rfl
noncomputable abbrev uM:Stmt:=top 38
noncomputable abbrev Gu:Rf.Sg:=⟨[("limits",1,bA),("refused",2,cm),("lowered",3,aY)],[]⟩
theorem Ib:Rf.tW uM Ht Gu none=some oA:=by kernel_rfl
noncomputable abbrev pf:Stmt:=top 39
noncomputable abbrev DH:Rf.Sg:=⟨[("limits",1,bA),("lowered",3,aY)],[]⟩
theorem CN:Rf.tW pf D3 DH none=some mi:=by kernel_rfl
noncomputable abbrev gW:Stmt:=top 40
noncomputable abbrev qD:Rf.Sg:=⟨[("check_world",1,aN),("chosen_by_all",3,aD),("capped",2,eV),("steps",1,eO)],[]⟩
theorem qM:Rf.tW gW rF qD none=some eH:=by kernel_rfl
noncomputable abbrev gS:Stmt:=top 41
noncomputable abbrev rH:Rf.Sg:=⟨[("turned",1,jR),("turned_plan",2,eJ),("givers_best",1,bu)],[]⟩
theorem rm:Rf.tW gS qV rH none=some eI:=by kernel_rfl
noncomputable abbrev uA:Stmt:=top 43
noncomputable abbrev HL:Rf.Sg:=⟨[("check_world",1,aN),("steps",1,eO)],[]⟩
theorem HY:Rf.tW uA GJ HL none=some oO:=by kernel_rfl
noncomputable abbrev f9:Stmt:=top 44
noncomputable abbrev pX:Rf.Sg:=⟨[("is_long",3,aQ),("is_number",2,bo),("is_whole",3,aW)],[("MOST",9)]⟩
theorem qp:Rf.tW f9 pC pX none=some dR:=by kernel_rfl
noncomputable abbrev mH:Stmt:=top 45
noncomputable abbrev Bu:Rf.Sg:=⟨[("chosen_by_all",3,aD)],[]⟩
theorem Bl:Rf.tW mH BV Bu none=some kr:=by kernel_rfl
noncomputable abbrev hZ:Stmt:=top 46
noncomputable abbrev rg:Rf.Sg:=⟨[("limits",1,bA),("lowered",3,aY),("follows",3,ix),("has_row_form",2,ck)],[]⟩
theorem rC:Rf.tW hZ qJ rg none=some eN:=by kernel_rfl
noncomputable abbrev m6:Stmt:=top 47
noncomputable abbrev Ce:Rf.Sg:=⟨[("check_world",1,aN),("caps_behind",2,cL)],[]⟩
theorem Cf:Rf.tW m6 Bh Ce none=some ka:=by kernel_rfl
noncomputable abbrev tT:Stmt:=top 48
noncomputable abbrev Hy:Rf.Sg:=⟨[("caps_of",2,cK)],[]⟩
theorem GK:Rf.tW tT Ha Hy none=some oP:=by kernel_rfl
noncomputable abbrev tG:Stmt:=top 49
noncomputable abbrev HH:Rf.Sg:=⟨[("check_plan",2,bY),("caps_behind",2,cL),("chosen_by_all",3,aD),("is_still",2,dD)],[]⟩
theorem G0:Rf.tW tG G7 HH none=some oQ:=by kernel_rfl
noncomputable abbrev jz:Stmt:=top 50
noncomputable abbrev xj:Rf.Sg:=⟨[("check_world",1,aN),("is_plan",2,eC)],[]⟩
theorem vh:Rf.tW jz vK xj none=some gO:=by kernel_rfl
noncomputable abbrev jX:Stmt:=top 52
noncomputable abbrev vO:Rf.Sg:=⟨[],[]⟩
theorem wY:Rf.tW jX xg vO none=some gA:=by kernel_rfl
noncomputable abbrev iP:Stmt:=top 53
noncomputable abbrev tJ:Rf.Sg:=⟨[("_law_cell",2,dI)],[]⟩
theorem uI:Rf.tW iP uV tJ none=some iL:=by kernel_rfl
noncomputable abbrev gZ:Stmt:=top 54
noncomputable abbrev qK:Rf.Sg:=⟨[("_law_drawn",3,ak)],[]⟩
theorem qF:Rf.tW gZ qU qK none=some ib:=by kernel_rfl
noncomputable abbrev je:Stmt:=top 55
noncomputable abbrev ug:Rf.Sg:=⟨[("_law_orders",3,bK),("_law_drawn",3,ak)],[]⟩
theorem tV:Rf.tW je tI ug none=some d5:=by kernel_rfl
noncomputable abbrev jO:Stmt:=top 56
noncomputable abbrev wy:Rf.Sg:=⟨[],[]⟩
theorem v7:Rf.tW jO u6 wy none=some jU:=by kernel_rfl
noncomputable abbrev jv:Stmt:=top 57
noncomputable abbrev vW:Rf.Sg:=⟨[("_law_used",4,cY)],[]⟩
theorem wD:Rf.tW jv vD vW none=some gD:=by kernel_rfl
noncomputable abbrev lS:Stmt:=top 58
noncomputable abbrev jM:Stmt:=top 59
noncomputable abbrev vb:Rf.Sg:=⟨[("_law_fits",2,cX),("_law_drawn",3,ak)],[]⟩
theorem xi:Rf.tW jM vX vb none=some gG:=by kernel_rfl
noncomputable abbrev Eo:Stmt:=top 60
noncomputable abbrev MF:Rf.Sg:=⟨[("_law_world",3,bW),("_law_plan",3,eR),("paper",1,me),("limits",1,bA),("givers_best",1,bu),("takers_best",1,cO),("caps_of",2,cK),("lowered",3,aY),("holds",2,l6),("rests",2,l0),("steps",1,eO),("is_within",3,aB),("refused",2,cm),("shows",3,eK),("capped",2,eV)],[]⟩
theorem ML:Rf.tW Eo sJ MF none=some sD:=by kernel_rfl
structure Mb(K:W.Frag):Prop where
 c0:aJ K "is_whole" k7 ["thing","least","most"]
 c1:aJ K "is_number" jH ["thing","many"]
 c2:aJ K "is_long" my ["thing","least","most"]
 c3:aJ K "are_likes" jF ["thing","many"]
 c4:aJ K "is_end" pP ["thing","many"]
 c5:aJ K "is_way" oV ["thing","givers","takers"]
 c6:aJ K "are_parts" jV ["givers","takers","ways"]
 c7:aJ K "liked_pairs" gX ["places"]
 c8:aJ K "is_world" lb ["thing"]
 c9:aJ K "through" nq ["world","plan","side","place"]
 c10:aJ K "keeps_amounts" fx ["world","plan","side"]
 c11:aJ K "is_plan" nC ["world","thing"]
 c12:aJ K "check_world" gR ["world"]
 c13:aJ K "check_plan" iZ ["world","plan"]
 c14:aJ K "replaced" ll ["parts","number","part"]
 c15:nJ K "turned_order" gw ["world"]
 c16:aJ K "turned" p9 ["world"]
 c17:aJ K "turned_plan" hU ["world","plan"]
 c18:nJ K "ways_of" mY ["world","side","place"]
 c19:aJ K "chosen_by" jI ["world","side","place","offers"]
 c20:aJ K "wants_more" ji ["world","plan","side","way"]
 c21:aJ K "why_kept" k4 ["world","plan","way"]
 c22:aJ K "first_leaving" fw ["world","plan"]
 c23:aJ K "is_still" k8 ["world","plan"]
 c24:aJ K "rests" tE ["world","plan"]
 c25:aJ K "chosen_by_all" fj ["world","side","offers"]
 c26:aJ K "limits" qg ["world"]
 c27:aJ K "lowered" nG ["caps","way","cap"]
 c28:aJ K "refused" mN ["world","caps"]
 c29:aJ K "steps" uM ["world"]
 c30:aJ K "capped" pf ["world","rows"]
 c31:aJ K "givers_best" gW ["world"]
 c32:aJ K "takers_best" gS ["world"]
 c33:aJ K "paper" uA ["world"]
 c34:aJ K "has_row_form" f9 ["world","thing"]
 c35:aJ K "follows" mH ["world","caps","row"]
 c36:aJ K "caps_behind" hZ ["world","rows"]
 c37:aJ K "caps_of" m6 ["world","rows"]
 c38:aJ K "holds" tT ["world","rows"]
 c39:aJ K "shows" tG ["world","plan","rows"]
 c40:aJ K "is_within" jz ["world","thing","caps"]
 c41:aJ K "_law_cell" jX ["_law_script","_law_k"]
 c42:aJ K "_law_drawn" iP ["_law_script","_law_k","_law_many"]
 c43:aJ K "_law_orders" gZ ["_law_script","_law_at","_law_rows"]
 c44:aJ K "_law_world" je ["_law_script","_law_at","_law_most"]
 c45:aJ K "_law_used" jO ["_law_world_here","_law_plan_here","_law_side","_law_place"]
 c46:aJ K "_law_fits" jv ["_law_world_here","_law_plan_here"]
 c47:aJ K "_law_plans" lS ["_law_world_here"]
 c48:aJ K "_law_plan" jM ["_law_script","_law_at","_law_world_here"]
 c49:aJ K "law" Eo ["_law_script"]
 i_MOST_PLACES:∃t,W.nsIn K mainGlobals "MOST_PLACES"=some (some (.int 4 t))
 i_MOST:∃t,W.nsIn K mainGlobals "MOST"=some (some (.int 9 t))
 b:∀x∈cU,W.nsIn K mainGlobals x=some none
structure bJ(K:W.Frag)(mg:Str->Option Value):Prop where
 c0:bD K mg "is_whole" k7 ["thing","least","most"]
 c1:bD K mg "is_number" jH ["thing","many"]
 c2:bD K mg "is_long" my ["thing","least","most"]
 c3:bD K mg "are_likes" jF ["thing","many"]
 c4:bD K mg "is_end" pP ["thing","many"]
 c5:bD K mg "is_way" oV ["thing","givers","takers"]
 c6:bD K mg "are_parts" jV ["givers","takers","ways"]
 c7:bD K mg "liked_pairs" gX ["places"]
 c8:bD K mg "is_world" lb ["thing"]
 c9:bD K mg "through" nq ["world","plan","side","place"]
 c10:bD K mg "keeps_amounts" fx ["world","plan","side"]
 c11:bD K mg "is_plan" nC ["world","thing"]
 c12:bD K mg "check_world" gR ["world"]
 c13:bD K mg "check_plan" iZ ["world","plan"]
 c14:bD K mg "replaced" ll ["parts","number","part"]
 c15:DC K mg "turned_order" gw ["world"]
 c16:bD K mg "turned" p9 ["world"]
 c17:bD K mg "turned_plan" hU ["world","plan"]
 c18:DC K mg "ways_of" mY ["world","side","place"]
 c19:bD K mg "chosen_by" jI ["world","side","place","offers"]
 c20:bD K mg "wants_more" ji ["world","plan","side","way"]
 c21:bD K mg "why_kept" k4 ["world","plan","way"]
 c22:bD K mg "first_leaving" fw ["world","plan"]
 c23:bD K mg "is_still" k8 ["world","plan"]
 c24:bD K mg "rests" tE ["world","plan"]
 c25:bD K mg "chosen_by_all" fj ["world","side","offers"]
 c26:bD K mg "limits" qg ["world"]
 c27:bD K mg "lowered" nG ["caps","way","cap"]
 c28:bD K mg "refused" mN ["world","caps"]
 c29:bD K mg "steps" uM ["world"]
 c30:bD K mg "capped" pf ["world","rows"]
 c31:bD K mg "givers_best" gW ["world"]
 c32:bD K mg "takers_best" gS ["world"]
 c33:bD K mg "paper" uA ["world"]
 c34:bD K mg "has_row_form" f9 ["world","thing"]
 c35:bD K mg "follows" mH ["world","caps","row"]
 c36:bD K mg "caps_behind" hZ ["world","rows"]
 c37:bD K mg "caps_of" m6 ["world","rows"]
 c38:bD K mg "holds" tT ["world","rows"]
 c39:bD K mg "shows" tG ["world","plan","rows"]
 c40:bD K mg "is_within" jz ["world","thing","caps"]
 c41:bD K mg "_law_cell" jX ["_law_script","_law_k"]
 c42:bD K mg "_law_drawn" iP ["_law_script","_law_k","_law_many"]
 c43:bD K mg "_law_orders" gZ ["_law_script","_law_at","_law_rows"]
 c44:bD K mg "_law_world" je ["_law_script","_law_at","_law_most"]
 c45:bD K mg "_law_used" jO ["_law_world_here","_law_plan_here","_law_side","_law_place"]
 c46:bD K mg "_law_fits" jv ["_law_world_here","_law_plan_here"]
 c47:bD K mg "_law_plans" lS ["_law_world_here"]
 c48:bD K mg "_law_plan" jM ["_law_script","_law_at","_law_world_here"]
 c49:bD K mg "law" Eo ["_law_script"]
 i_MOST_PLACES:∃t,mg "MOST_PLACES"=some (.int 4 t)
 i_MOST:∃t,mg "MOST"=some (.int 9 t)
 b:∀x∈cU,mg x=none
theorem Mb.defs{K:W.Frag}{h:Heap}{mg:Str->Option Value}(I:Mb K)(X:K.In h)(G:h.Ns mainGlobals mg):bJ K mg :=
 ⟨I.c0.mg X G,I.c1.mg X G,I.c2.mg X G,I.c3.mg X G,I.c4.mg X G,I.c5.mg X G,I.c6.mg X G,I.c7.mg X G,I.c8.mg X G,I.c9.mg X G,I.c10.mg X G,I.c11.mg X G,I.c12.mg X G,I.c13.mg X G,I.c14.mg X G,I.c15.mg X G,I.c16.mg X G,I.c17.mg X G,I.c18.mg X G,I.c19.mg X G,I.c20.mg X G,I.c21.mg X G,I.c22.mg X G,I.c23.mg X G,I.c24.mg X G,I.c25.mg X G,I.c26.mg X G,I.c27.mg X G,I.c28.mg X G,I.c29.mg X G,I.c30.mg X G,I.c31.mg X G,I.c32.mg X G,I.c33.mg X G,I.c34.mg X G,I.c35.mg X G,I.c36.mg X G,I.c37.mg X G,I.c38.mg X G,I.c39.mg X G,I.c40.mg X G,I.c41.mg X G,I.c42.mg X G,I.c43.mg X G,I.c44.mg X G,I.c45.mg X G,I.c46.mg X G,I.c47.mg X G,I.c48.mg X G,I.c49.mg X G,(let ⟨t,h⟩:=I.i_MOST_PLACES;⟨t,W.mg_of X G h⟩),(let ⟨t,h⟩:=I.i_MOST;⟨t,W.mg_of X G h⟩),fun x hx=>W.mg_none_of X G (I.b x hx)⟩
section
variable {P:Program}{w:World}{K:W.Frag}{mg:Str->Option Value}{base:Heap}
theorem gv(D:bJ K mg):dP P w K mg base 1 "is_whole" 3 aW:=Rf.gy (j:=0) D.c0 D.b Rf.bH Rf.bI y8
theorem jG(D:bJ K mg):dP P w K mg base 2 "is_number" 2 bo:=Rf.gy (j:=1) D.c1 D.b (Rf.fm (gv D) Rf.bH) Rf.bI vV
theorem fQ(D:bJ K mg):dP P w K mg base 1 "is_long" 3 aQ:=Rf.gy (j:=0) D.c2 D.b Rf.bH Rf.bI B5
theorem vF(D:bJ K mg):dP P w K mg base 3 "are_likes" 2 e8:=Rf.gy (j:=2) D.c3 D.b (Rf.fm (jG D) Rf.bH) Rf.bI xc
theorem E1(D:bJ K mg):dP P w K mg base 4 "is_end" 2 e9:=Rf.gy (j:=3) D.c4 D.b (Rf.fm (fQ D) (Rf.fm (gv D) (Rf.fm (vF D) Rf.bH))) (Rf.AL D.i_MOST Rf.bI) CA
theorem D0(D:bJ K mg):dP P w K mg base 3 "is_way" 3 iH:=Rf.gy (j:=2) D.c5 D.b (Rf.fm (fQ D) (Rf.fm (jG D) (Rf.fm (gv D) Rf.bH))) (Rf.AL D.i_MOST Rf.bI) EI
theorem w6(D:bJ K mg):dP P w K mg base 5 "are_parts" 3 eZ:=Rf.gy (j:=4) D.c6 D.b (Rf.fm (fQ D) (Rf.fm (E1 D) (Rf.fm (D0 D) Rf.bH))) (Rf.AL D.i_MOST_PLACES Rf.bI) u9
theorem rG(D:bJ K mg):dP P w K mg base 1 "liked_pairs" 1 bx:=Rf.gy (j:=0) D.c7 D.b Rf.bH Rf.bI qY
theorem yT(D:bJ K mg):dP P w K mg base 6 "is_world" 1 cD:=Rf.gy (j:=5) D.c8 D.b (Rf.fm (rG D) (Rf.fm (fQ D) (Rf.fm (w6 D) Rf.bH))) Rf.bI xD
theorem sN(D:bJ K mg):dP P w K mg base 1 "through" 4 cZ:=Rf.gy (j:=0) D.c9 D.b Rf.bH Rf.bI BJ
theorem n5(D:bJ K mg):dP P w K mg base 2 "keeps_amounts" 3 cG:=Rf.gy (j:=1) D.c10 D.b (Rf.fm (sN D) Rf.bH) Rf.bI nZ
theorem r6(D:bJ K mg):dP P w K mg base 3 "is_plan" 2 eC:=Rf.gy (j:=2) D.c11 D.b (Rf.fm (fQ D) (Rf.fm (n5 D) (Rf.fm (gv D) Rf.bH))) Rf.bI Bf
theorem cJ(D:bJ K mg):dP P w K mg base 7 "check_world" 1 aN:=Rf.gy (j:=6) D.c12 D.b (Rf.fm (yT D) Rf.bH) Rf.bI rD
theorem iY(D:bJ K mg):dP P w K mg base 8 "check_plan" 2 bY:=Rf.gy (j:=7) D.c13 D.b (Rf.fm (cJ D) (Rf.fm (r6 D) Rf.bH)) Rf.bI tm
theorem zc(D:bJ K mg):dP P w K mg base 1 "replaced" 3 i4:=Rf.gy (j:=0) D.c14 D.b Rf.bH Rf.bI xQ
theorem jx(D:bJ K mg):dP P w K mg base 4 "turned_order" 1 aZ:=Rf.Oq (j:=0) D.c15 D.b Rf.bH Rf.bI qb
theorem E3(D:bJ K mg):dP P w K mg base 8 "turned" 1 jR:=Rf.gy (j:=7) D.c16 D.b (Rf.fm (cJ D) (Rf.fm (jx D) Rf.bH)) Rf.bI ER
theorem rf(D:bJ K mg):dP P w K mg base 9 "turned_plan" 2 eJ:=Rf.gy (j:=8) D.c17 D.b (Rf.fm (iY D) (Rf.fm (jx D) Rf.bH)) Rf.bI qP
theorem sy(D:bJ K mg):dP P w K mg base 4 "ways_of" 3 ee:=Rf.Oq (j:=0) D.c18 D.b Rf.bH Rf.bI BE
theorem wu(D:bJ K mg):dP P w K mg base 5 "chosen_by" 4 dE:=Rf.gy (j:=4) D.c19 D.b (Rf.fm (sy D) Rf.bH) Rf.bI wR
theorem tw(D:bJ K mg):dP P w K mg base 5 "wants_more" 4 cA:=Rf.gy (j:=4) D.c20 D.b (Rf.fm (sy D) (Rf.fm (sN D) Rf.bH)) Rf.bI tX
theorem yq(D:bJ K mg):dP P w K mg base 6 "why_kept" 3 ej:=Rf.gy (j:=5) D.c21 D.b (Rf.fm (tw D) Rf.bH) Rf.bI yd
theorem oo(D:bJ K mg):dP P w K mg base 7 "first_leaving" 2 dz:=Rf.gy (j:=6) D.c22 D.b (Rf.fm (yq D) Rf.bH) Rf.bI oq
theorem o5(D:bJ K mg):dP P w K mg base 8 "is_still" 2 dD:=Rf.gy (j:=7) D.c23 D.b (Rf.fm (oo D) Rf.bH) Rf.bI yN
theorem Il(D:bJ K mg):dP P w K mg base 9 "rests" 2 l0:=Rf.gy (j:=8) D.c24 D.b (Rf.fm (iY D) (Rf.fm (o5 D) Rf.bH)) Rf.bI HW
theorem du(D:bJ K mg):dP P w K mg base 6 "chosen_by_all" 3 aD:=Rf.gy (j:=5) D.c25 D.b (Rf.fm (wu D) Rf.bH) Rf.bI nX
theorem lK(D:bJ K mg):dP P w K mg base 1 "limits" 1 bA:=Rf.gy (j:=0) D.c26 D.b Rf.bH Rf.bI Eu
theorem kb(D:bJ K mg):dP P w K mg base 2 "lowered" 3 aY:=Rf.gy (j:=1) D.c27 D.b (Rf.fm (zc D) Rf.bH) Rf.bI BK
theorem rW(D:bJ K mg):dP P w K mg base 7 "refused" 2 cm:=Rf.gy (j:=6) D.c28 D.b (Rf.fm (du D) Rf.bH) Rf.bI Bj
theorem tH(D:bJ K mg):dP P w K mg base 8 "steps" 1 eO:=Rf.gy (j:=7) D.c29 D.b (Rf.fm (lK D) (Rf.fm (rW D) (Rf.fm (kb D) Rf.bH))) Rf.bI Ib
theorem vo(D:bJ K mg):dP P w K mg base 3 "capped" 2 eV:=Rf.gy (j:=2) D.c30 D.b (Rf.fm (lK D) (Rf.fm (kb D) Rf.bH)) Rf.bI CN
theorem kL(D:bJ K mg):dP P w K mg base 9 "givers_best" 1 bu:=Rf.gy (j:=8) D.c31 D.b (Rf.fm (cJ D) (Rf.fm (du D) (Rf.fm (vo D) (Rf.fm (tH D) Rf.bH)))) Rf.bI qM
theorem rJ(D:bJ K mg):dP P w K mg base 10 "takers_best" 1 cO:=Rf.gy (j:=9) D.c32 D.b (Rf.fm (E3 D) (Rf.fm (rf D) (Rf.fm (kL D) Rf.bH))) Rf.bI rm
theorem Iv(D:bJ K mg):dP P w K mg base 9 "paper" 1 me:=Rf.gy (j:=8) D.c33 D.b (Rf.fm (cJ D) (Rf.fm (tH D) Rf.bH)) Rf.bI HY
theorem qc(D:bJ K mg):dP P w K mg base 3 "has_row_form" 2 ck:=Rf.gy (j:=2) D.c34 D.b (Rf.fm (fQ D) (Rf.fm (jG D) (Rf.fm (gv D) Rf.bH))) (Rf.AL D.i_MOST Rf.bI) qp
theorem BI(D:bJ K mg):dP P w K mg base 7 "follows" 3 ix:=Rf.gy (j:=6) D.c35 D.b (Rf.fm (du D) Rf.bH) Rf.bI Bl
theorem kO(D:bJ K mg):dP P w K mg base 8 "caps_behind" 2 cL:=Rf.gy (j:=7) D.c36 D.b (Rf.fm (lK D) (Rf.fm (kb D) (Rf.fm (BI D) (Rf.fm (qc D) Rf.bH)))) Rf.bI rC
theorem rP(D:bJ K mg):dP P w K mg base 9 "caps_of" 2 cK:=Rf.gy (j:=8) D.c37 D.b (Rf.fm (cJ D) (Rf.fm (kO D) Rf.bH)) Rf.bI Cf
theorem Gx(D:bJ K mg):dP P w K mg base 10 "holds" 2 l6:=Rf.gy (j:=9) D.c38 D.b (Rf.fm (rP D) Rf.bH) Rf.bI GK
theorem GT(D:bJ K mg):dP P w K mg base 9 "shows" 3 eK:=Rf.gy (j:=8) D.c39 D.b (Rf.fm (iY D) (Rf.fm (kO D) (Rf.fm (du D) (Rf.fm (o5 D) Rf.bH)))) Rf.bI G0
theorem xb(D:bJ K mg):dP P w K mg base 8 "is_within" 3 aB:=Rf.gy (j:=7) D.c40 D.b (Rf.fm (cJ D) (Rf.fm (r6 D) Rf.bH)) Rf.bI vh
theorem wN(D:bJ K mg):dP P w K mg base 1 "_law_cell" 2 dI:=Rf.gy (j:=0) D.c41 D.b Rf.bH Rf.bI wY
theorem iO(D:bJ K mg):dP P w K mg base 2 "_law_drawn" 3 ak:=Rf.gy (j:=1) D.c42 D.b (Rf.fm (wN D) Rf.bH) Rf.bI uI
theorem qC(D:bJ K mg):dP P w K mg base 3 "_law_orders" 3 bK:=Rf.gy (j:=2) D.c43 D.b (Rf.fm (iO D) Rf.bH) Rf.bI qF
theorem ux(D:bJ K mg):dP P w K mg base 4 "_law_world" 3 bW:=Rf.gy (j:=3) D.c44 D.b (Rf.fm (qC D) (Rf.fm (iO D) Rf.bH)) Rf.bI tV
theorem vB(D:bJ K mg):dP P w K mg base 1 "_law_used" 4 cY:=Rf.gy (j:=0) D.c45 D.b Rf.bH Rf.bI v7
theorem wW(D:bJ K mg):dP P w K mg base 2 "_law_fits" 2 cX:=Rf.gy (j:=1) D.c46 D.b (Rf.fm (vB D) Rf.bH) Rf.bI wD
theorem v9(D:bJ K mg):dP P w K mg base 3 "_law_plan" 3 eR:=Rf.gy (j:=2) D.c48 D.b (Rf.fm (wW D) (Rf.fm (iO D) Rf.bH)) Rf.bI xi
end
theorem Jm{P:Program}{w:World}{K:W.Frag}{h:Heap}{mg:Str->Option Value}{fa:Addr}(X:K.In h)(G:h.Ns mainGlobals mg)(hfa:mg "law"=some (.ref fa))(I:Mb K):∃fd:FuncData,(∀ (s:Shared) (v:Value),BindsTo s fd ⟨[v],[]⟩ [("_law_script",v)])/\∀base:Heap,K.In base->base.Ns mainGlobals mg->pk P w K mg base LD 11 fa fd ["_law_script"] (MD K 1 iA):=by
 have D:=I.defs X G
 obtain⟨f,fd,hm,F,hb⟩:=D.c49.ex
 rw[hfa] at hm;cases hm
 refine⟨fd,fun s v=>?_,fun base _ _=>IA F (Rf.NN (N:=sJ)) fun X hP hw hK hm' hb' C _ _ HF H=>by subst hP;subst hw;subst hK;subst hm';subst hb';exact Rf.IX (j:=10) C D.b (Rf.fm (ux D) (Rf.fm (v9 D) (Rf.fm (Iv D) (Rf.fm (lK D) (Rf.fm (kL D) (Rf.fm (rJ D) (Rf.fm (rP D) (Rf.fm (kb D) (Rf.fm (Gx D) (Rf.fm (Il D) (Rf.fm (tH D) (Rf.fm (xb D) (Rf.fm (rW D) (Rf.fm (GT D) (Rf.fm (vo D) Rf.bH))))))))))))))) Rf.bI ML⟩
 obtain⟨oc,od,kV,doc,pm,an,cdv,ct,osl,rfl,lk,hcd⟩:=F.ex
 exact .of_eq rfl
theorem walk{l:W.OpenLaw}{q:Program}{loose:List Str}{XP:(Str->Option Value)->Heap->Prop}{YP:World->Heap->Prop}{d:DefRec}{K:Params->W.Frag}{ts:List Addr}(hn:l.most=some 63)(hdf:d.params.defaults=[])(hname:d.name="law")
  (hY:∀ (w:World) (h:Heap),YP w h->(K w.params).In h/\∀P∈ts,h.get? P=some (W.tabObj #[])) (ht:∀w:World,lI (K w.params) ts=true) (hI:∀w:World,Mb (K w.params)) (main:∀ns:List Int,ns.length<=63->iA [.list (ns.map PyData.int)]=some (.bool true)) :
  W.WalkO q loose XP YP l.row.toRowW d [] (fun f vs=>PySem.call f vs) :=
 FF (n:=63) (k:=11) (x:="_law_script") (CX:=fun _=>LD) (sp:=fun w=>MD (K w.params) 1 iA) hn (by decide) hdf ⟨rfl,by decide,by decide⟩ hY ht (fun w mg fa h KX G hmg=>Jm KX G (by rw[<- hname];exact hmg) (hI w)) (fun _ _ a ns hl hT hS=>yf hS hT (main ns hl)) fun _ _ _ _ _ z=>z
end K62
namespace Dl
open PySem L2 PySem.Spec PyProof.Rows
noncomputable def wV:D->Prop|.none=>True|.bool _=>True|.int _=>True|.str x=>PyData.canLay0 (.str x)=true|_=>False
noncomputable def iI(b:Nat):Nat->D->Prop
 | 0,d=>wV d
 | k+1,d=>wV d\/(∃xs,(d=.list xs\/d=.tuple xs)/\xs.length<=b/\∀x∈xs,iI b k x)
theorem iI.leaf{b k:Nat}{d:D}(h:wV d):iI b k d:=by
 cases k with
 | zero=>exact h
 | succ k=>exact .inl h
theorem iI.tup{b k:Nat}{xs:List D}(hb:xs.length<=b)(h:∀x∈xs,iI b k x):iI b (k+1) (.tuple xs):=.inr ⟨xs,.inr rfl,hb,h⟩
theorem iI.lst{b k:Nat}{xs:List D}(hb:xs.length<=b)(h:∀x∈xs,iI b k x):iI b (k+1) (.list xs):=.inr ⟨xs,.inl rfl,hb,h⟩
theorem iI.of_tup{b k:Nat}{xs:List D}(h:iI b k (.tuple xs)):∃j,k=j+1/\xs.length<=b/\∀x∈xs,iI b j x:=by
 cases k with
 | zero=>cases h
 | succ k =>
  rcases h with h|⟨ys,h|h,h1,h2⟩
  ·cases h
  ·cases h
  ·cases h;exact⟨k,rfl,h1,h2⟩
theorem iI.mono{b b':Nat}(hb:b<=b'):∀ {k k':Nat}{d:D},k<=k'->iI b k d->iI b' k' d
 | 0,k',d,_,h=>.leaf h
 | k+1,0,d,hk,h=>by omega
 | k+1,k'+1,d,hk,h=>by
  rcases h with h|⟨xs,h,h1,h2⟩
  ·exact .inl h
  ·exact .inr ⟨xs,h,yE h1 hb,fun x hx=>(h2 x hx).mono hb (by omega)⟩
theorem z7{b k:Nat}:∀ {xs:List D},(∀x∈xs,PyData.canLay0 x=true/\x.depth<=k)->PyData.canLayAll0 xs=true/\PyData.depthAll xs<=k
 | [],_=>⟨by simp[PyData.canLayAll0],by simp[PyData.depthAll]⟩
 | x::xs,h=>by
  obtain⟨a,c⟩:=z7 (b:=b) (xs:=xs) fun y hy=>h y (zC _ hy)
  obtain⟨a',c'⟩:=h x zE
  exact⟨by simp[PyData.canLayAll0,a,a'],by simp[PyData.depthAll];omega⟩
theorem iI.lay{b:Nat}:∀ {k:Nat}{d:D},iI b k d->PyData.canLay0 d=true/\d.depth<=k:=by
 have lf:∀ {k:Nat}{d:D},wV d->PyData.canLay0 d=true/\d.depth<=k:=fun {k d} h=>by
  cases d<;>simp only[wV] at h<;>first|exact⟨h,by simp[PyData.depth]⟩|exact⟨by simp[PyData.canLay0],by simp[PyData.depth]⟩
 intro k
 induction k with
 | zero=>exact fun h=>lf h
 | succ k ih =>
  intro d h
  rcases h with h|⟨xs,h,h1,h2⟩
  ·exact lf h
  ·obtain⟨a,c⟩:=z7 (b:=b) (xs:=xs) fun y hy=>ih (h2 y hy)
   rcases h with rfl|rfl
   ·exact⟨by simp[PyData.canLay0,a],by simp[PyData.depth];omega⟩
   ·exact⟨by simp[PyData.canLay0,a],by simp[PyData.depth];omega⟩
theorem iI.shaped{b k:Nat}{d:D}(h:iI b k d)(hk:k<=64):SeqAt.shaped d=true:=by
 obtain⟨a,c⟩:=h.lay
 simp[SeqAt.shaped,a];omega
theorem iI.noDict{b k:Nat}{d:D}(h:iI b k d):∀kv,d≠.dict kv:=by
 rintro kv rfl
 have:=h.lay.1
 simp[PyData.canLay0] at this
noncomputable def nR:D->Bool|.dict _=>false|_=>true
theorem iI.nd{b k:Nat}{d:D}(h:iI b k d):nR d=true:=by
 cases d<;>first|rfl|exact absurd rfl (h.noDict _)
noncomputable def Oj:D->Bool|.int _=>true|.bool _=>true|_=>false
noncomputable def Og:D->Bool|.bool _=>true|_=>false
noncomputable def IU:D->Bool|.tuple _=>true|_=>false
theorem kI{d:D}(h:nR d=true):uY (gT d) "int"=some (Oj d):=by cases d<;>first|cases h;done|exact Ic _ (by simp[gT])
theorem kB{d:D}(h:nR d=true):uY (gT d) "bool"=some (Og d):=by cases d<;>first|cases h;done|exact Dw _ (by simp[gT])
theorem kT{d:D}(h:nR d=true):uY (gT d) "tuple"=some (IU d):=by cases d<;>first|cases h;done|exact kit_tuple _ (by simp[gT])
noncomputable def whole(a b:Int):D->Bool|.int i=>decide (a<=i)&&decide (i<=b)|_=>false
theorem r9{tgt:Env->D->Option Env}{te:Env->Option D}{ρ:Env}{h:D->D}:∀ {ds:List D},(∀d∈ds,∃ρ',tgt ρ d=some ρ'/\te ρ'=some (h d))->cx tgt (fun _=>some true) te ρ ds=some (ds.map h)
 | [],_=>rfl
 | d::ds,hh=>by
  obtain⟨ρ',h1,h2⟩:=hh d zE
  have ih:=r9 (ds:=ds) fun y hy=>hh y (zC _ hy)
  unfold cx
  rw[h1]
  simp[h2,ih]
theorem lC{tgt:Env->D->Option Env}{tt:Env->Option Bool}{te:Env->Option D}{ρ:Env}{p:D->Bool}{h:D->D}:∀ {ds:List D},(∀d∈ds,∃ρ',tgt ρ d=some ρ'/\tt ρ'=some (p d)/\(p d=true->te ρ'=some (h d)))->cx tgt tt te ρ ds=some ((ds.filter p).map h)
 | [],_=>rfl
 | d::ds,hh=>by
  obtain⟨ρ',h1,h2,h3⟩:=hh d zE
  have ih:=lC (ds:=ds) fun y hy=>hh y (zC _ hy)
  unfold cx
  rw[h1]
  simp only[zA,h2]
  cases hp:p d with
  | true=>rw[if_pos rfl,h3 hp];simp[ih,List.filter_cons,hp]
  | false=>simp[ih,List.filter_cons,hp]
theorem nH{p:D->Bool}:∀ds:List D,boolsOf (ds.map fun d=>.bool (p d))=some (ds.map p)
 | []=>rfl
 | d::ds=>by simp[boolsOf,nH ds]
theorem lG{p:D->Bool}(ds:List D):jc [.list (ds.map fun d=>.bool (p d))]=some (.bool (ds.all p)):=by
 simp only[jc,oneOf,zA,nH,zB,List.all_map]
 rfl
theorem bf{ds:List D}(h:ds.length<=4000):small ds=some ds:=if_pos (yE h (by decide))
theorem lL{ds:List D}{i:Nat}(h:i < ds.length):uU ds (i:Nat)=some (ds.getD i .none):=by
 have:=sZ (xs:=ds) (j:=i) (v:=ds[i]) (zU.mpr ⟨h,rfl⟩)
 rw[this]
 simp[List.getD,h]
theorem zy{ds:List D}(h:0 < ds.length):uU ds 0=some (ds.getD 0 .none):=lL (i:=0) h
theorem wF{ds:List D}(h:1 < ds.length):uU ds 1=some (ds.getD 1 .none):=lL (i:=1) h
theorem Jf{ds:List D}(h:2 < ds.length):uU ds 2=some (ds.getD 2 .none):=lL (i:=2) h
end Dl
namespace Wm
open PySem L2 Dl PySem.Spec PyProof.Rows Pg
theorem xa{fa fb fc:Dl.Env->Option D}{ρ:Dl.Env}{a i b:Int}(ha:fa ρ=some (.int a))(hb:fb ρ=some (.int i))(hc:fc ρ=some (.int b)):fU rL rL fa fb fc ρ=some (.bool (decide (a<=i)&&decide (i<=b))):=by
 simp only[fU,ha,hb,hc,zA,rL,uZ,if_true]
 by_cases h:a<=i<;>simp[h]
theorem p5(i j:Int):Dl.fJ (.int i) (.int j)=some (.int (i - j)):=rfl
theorem gu(i j:Int):Dl.aI (.int i) (.int j)=some (.int (i+j)):=rfl
theorem sY(d:D):Slot.all (.val d)=some d:=rfl
theorem uy(ds:List D):Slot.all (.own ds)=some (.list ds):=rfl
theorem Au:Slot.all .non=none:=rfl
theorem AG(d:D):Slot.frz (.val d)=some d:=rfl
theorem z6(ds:List D):Slot.frz (.own ds)=none:=rfl
theorem Ai:Slot.frz .non=none:=rfl
local macro_rules|`(tactic| simp! [$ts,*])=>`(tactic| simp only[bh,ar,dN,az,dJ,il,dm,ba,fB,gB,FL,ab,fC,jt,Gr,xE,Kx,f1,f2,p5,gu,aa,ae,ah,bb,mU,bj,dg,oneOf,gH,bg,sY,uy,Au,AG,z6,Ai,aX,bP,bM,aM,dc,aq,  zI,List.map_nil,List.cons_append,List.nil_append,zL,List.length_nil,List.replicate,List.getElem?_cons_zero,List.getElem?_cons_succ,Option.getD_some,Option.getD_none,zA,Option.bind_none,zB,Option.map_none,Nat.reduceAdd,Nat.reduceSub,Nat.zero_add,Nat.sub_self,if_true,reduceIte,$ts,*])
theorem gc{d:D}(h:nR d=true)(a b:Int):aW [d,.int a,.int b]=some (.bool (whole a b d)):=by
 simp! [aW,kU,kI h,kB h]
 cases d<;>simp[Oj,Og,whole]
 rw[xa rfl rfl rfl]
theorem gJ{d:D}(h:nR d=true)(n:Int):bo [d,.int n]=some (.bool (whole 0 (n - 1) d)):=by
 simp! [bo,jT,gc h]
noncomputable def long(a b:Int):D->Bool|.tuple ds=>decide (a<=(ds.length:Int))&&decide ((ds.length:Int)<=b)|_=>false
theorem dG{d:D}(h:nR d=true)(a b:Int):aQ [d,.int a,.int b]=some (.bool (long a b d)):=by
 simp! [aQ,mx,kT h]
 cases d<;>simp[IU,long]
 rw[xa rfl (i:=_) rfl rfl]
noncomputable def iK:D->Int|.int i=>i|_=>0
theorem fR{a b:Int}{d:D}(h:whole a b d=true):d=.int (iK d)/\a<=iK d/\iK d<=b:=by
 cases d<;>simp[whole] at h
 exact⟨rfl,h⟩
theorem kW{a b:Int}:∀ {ls:List D},ls.all (whole a b)=true->ls=(ls.map iK).map PyData.int
 | [],_=>rfl
 | d::ls,h=>by
  rw[List.all_cons,zF] at h
  rw[zI,zI,<- (fR h.1).1,<- kW h.2]
noncomputable def jh(n:Int):D->Bool|.tuple ls=>ls.all (whole 0 (n - 1))&&decide ((ls.map iK).Nodup)|_=>false
theorem dk(i j:Int):bS (.int i) (.int j)=some (.bool (decide (i=j))):=by
 simp[bS,JE,SeqAt.shaped,PyData.canLay0,PyData.depth,PyData.eqv]
 rfl
theorem A0{ls:List D}{a b:Int}(h:ls.all (whole a b)=true)(hl:ls.length<=100):f2 bS (f1 kc (fun _=>some (.tuple ls))) (bb bj (aa (fun _=>some (.tuple ls)) ae)) []=some (.bool (decide ((ls.map iK).Nodup))):=by
 have e:=kW h
 have e1:kc (.tuple ls)=some (.int (many (ls.map iK))):=by
  simp only[kc,lN]
  conv=>lhs;rw[e]
  rw[cS,zA,if_pos]
  rw[zD]
  exact Nat.lt_of_le_of_lt (Nat.add_le_add_right hl 1) (by decide)
 simp! [e1,dk]
 have:=zh (ls.map iK)
 rw[zD] at this
 simp only[<- this,Int.ofNat_inj,yM,PyData.bool.injEq]
theorem LP(r:Dl.Env)(d:D):fG 0 (none::r) d=some (some d::r):=by simp[fG,isFree]
theorem bQ{cs:List Nat}{fi:Dl.Env->Option (List D)}{ds:List D}{te:Dl.Env->Option D}{h:D->D}{ρ:Dl.Env}(hfi:fi ρ=some ds)(hl:ds.length<=4000)(hh:∀d∈ds,te (some d::cs.map fun j=>(ρ[j]?).getD none)=some (h d)):ao 1 cs fi (fG 0) (fun _=>some true) te ρ=some (ds.map h):=by
 simp only[ao,hfi,zA,d9,List.replicate,List.cons_append,List.nil_append]
 rw[r9 (h:=h) fun d hd=>⟨_,LP _ d,hh d hd⟩,zA,bf (by rw[zD];exact hl)]
theorem lX{cs:List Nat}{fi:Dl.Env->Option (List D)}{ds:List D}{tt:Dl.Env->Option Bool}{te:Dl.Env->Option D}{p:D->Bool}{h:D->D}{ρ:Dl.Env}(hfi:fi ρ=some ds)(hl:ds.length<=4000)
  (hp:∀d∈ds,tt (some d::cs.map fun j=>(ρ[j]?).getD none)=some (p d)) (hh:∀d∈ds,p d=true->te (some d::cs.map fun j=>(ρ[j]?).getD none)=some (h d)):ao 1 cs fi (fG 0) tt te ρ=some ((ds.filter p).map h):=by
 simp only[ao,hfi,zA,d9,List.replicate,List.cons_append,List.nil_append]
 rw[lC (p:=p) (h:=h) fun d hd=>⟨_,LP _ d,hp d hd,hh d hd⟩,zA,bf (by rw[zD];exact yE (List.length_filter_le _ _) hl)]
theorem wL{b k:Nat}{d:D}(h:iI b k d)(hb:b<=100)(n:Int):e8 [d,.int n]=some (.bool (jh n d)):=by
 simp! [e8,jL,kT h.nd]
 cases d<;>try (simp[IU,jh];done)
 rename_i ls
 obtain⟨j,rfl,hl,hf⟩:=h.of_tup
 have c:=bQ (cs:=[1]) (fi:=aX (ab 0)) (te:=(ah 2 bo (aa (ab 0) (aa (ab 1) ae)))) (h:=fun x=>.bool (whole 0 (n - 1) x)) (ρ:=[some (.tuple ls),some (.int n)]) rfl (by omega) fun x hx=>by simp! [gJ (hf x hx).nd]
 simp! [IU,Bool.not_true,Bool.false_eq_true,c,lG]
 cases e:ls.all (whole 0 (n - 1)) with
 | false=>simp[jh,e]
 | true =>
  have:=A0 e (yE hl hb)
  simp only[f2,f1,bb,aa,ae,zA,zB] at this
  simp! [jh,e,Bool.not_true,Bool.false_eq_true,Bool.true_and]
  simp only[bj,dg,oneOf,zA,gH,zB] at this
  simp! [this]
noncomputable def placeOk(n:Int):D->Bool|.tuple ds=>decide (ds.length=2)&&(whole 0 9 (ds.getD 0 .none)&&jh n (ds.getD 1 .none))|_=>false
noncomputable def jq(g t:Int):D->Bool|.tuple ds=>decide (ds.length=3)&&(whole 0 (g - 1) (ds.getD 0 .none)&&(whole 0 (t - 1) (ds.getD 1 .none)&&whole 1 9 (ds.getD 2 .none)))|_=>false
theorem uJ(n:Nat)(ds:List D):long (n:Int) (n:Int) (.tuple ds)=decide (ds.length=n):=by
 simp only[long]
 by_cases h:ds.length=n
 ·simp[h]
 ·rw[yA h,Bool.and_eq_false_iff,decide_eq_false_iff_not,decide_eq_false_iff_not];omega
theorem getD_mem{ds:List D}{i:Nat}(h:i < ds.length):ds.getD i .none∈ds:=by simp[List.getD,h]
theorem wk{b k:Nat}{d:D}(h:iI b k d)(hb:b<=100)(n:Int):e9 [d,.int n]=some (.bool (placeOk n d)):=by
 simp! [e9,qo,dG h.nd]
 cases d<;>try (simp[long,placeOk];done)
 rename_i ds
 obtain⟨j,rfl,hl,hf⟩:=h.of_tup
 rw[show long 2 2 (.tuple ds)=decide (ds.length=2) from uJ 2 ds]
 by_cases e:ds.length=2
 ·have f0:=hf _ (getD_mem (i:=0) (by omega))
  have f1:=hf _ (getD_mem (i:=1) (by omega))
  simp! [e,decide_true,zy (show 0 < ds.length by omega),wF (show 1 < ds.length by omega),gc f0.nd,wL f1 hb,placeOk]
  cases whole 0 9 (ds.getD 0 .none)<;>simp
 ·simp[e,placeOk]
theorem EV{b k:Nat}{d:D}(h:iI b k d)(hb:b<=100)(g t:Int):iH [d,.int g,.int t]=some (.bool (jq g t d)):=by
 simp! [iH,ph,dG h.nd]
 cases d<;>try (simp[long,jq];done)
 rename_i ds
 obtain⟨j,rfl,hl,hf⟩:=h.of_tup
 rw[show long 3 3 (.tuple ds)=decide (ds.length=3) from uJ 3 ds]
 by_cases e:ds.length=3
 ·have f0:=hf _ (getD_mem (i:=0) (by omega))
  have f1:=hf _ (getD_mem (i:=1) (by omega))
  have f2':=hf _ (getD_mem (i:=2) (by omega))
  simp! [e,decide_true,Bool.not_true,Bool.false_eq_true,zy (show 0 < ds.length by omega),wF (show 1 < ds.length by omega),Jf (show 2 < ds.length by omega),gc f2'.nd,gJ f0.nd,gJ f1.nd,jq]
  cases whole 0 (g - 1) (ds.getD 0 .none)<;>cases whole 0 (t - 1) (ds.getD 1 .none)<;>simp
 ·simp[e,jq]
noncomputable def cR:D->List D|.tuple ds=>ds|_=>[]
noncomputable def m7(d:D):Bool:=long 1 4 d
noncomputable def jj(g t w:D):Bool:=m7 g&&(m7 t&&((cR g).all (placeOk (cR t).length)&&((cR t).all (placeOk (cR g).length)&&(IU w&&(cR w).all (jq (cR g).length (cR t).length)))))
theorem jK{a b:Int}{d:D}(h:long a b d=true):d=.tuple (cR d):=by cases d<;>first|rfl|cases h
theorem nM{b k:Nat}{g t w:D}(hg:iI b k g)(ht:iI b k t)(hw:iI b k w)(hb:b<=100):eZ [g,t,w]=some (.bool (jj g t w)):=by
 simp! [eZ,jN,dG hg.nd,dG ht.nd,kT hw.nd]
 unfold jj m7
 cases e1:long 1 4 g with
 | false=>simp
 | true =>
  cases e2:long 1 4 t with
  | false=>simp
  | true =>
   obtain⟨gs,rfl⟩:∃gs,g=.tuple gs:=⟨_,jK e1⟩
   obtain⟨ts,rfl⟩:∃ts,t=.tuple ts:=⟨_,jK e2⟩
   obtain⟨j,rfl,hgl,hgf⟩:=hg.of_tup
   obtain⟨j',hj,htl,htf⟩:=ht.of_tup
   have c1:=bQ (cs:=[1]) (fi:=aX (ab 0)) (te:=(ah 2 e9 (aa (ab 0) (aa (bb bj (aa (ab 1) ae)) ae)))) (h:=fun x=>.bool (placeOk ts.length x)) (ρ:=[some (.tuple gs),some (.tuple ts),some w]) rfl (by omega) fun x hx=>by simp! [wk (hgf x hx) hb]
   have c2:=bQ (cs:=[0]) (fi:=aX (ab 1)) (te:=(ah 2 e9 (aa (ab 0) (aa (bb bj (aa (ab 1) ae)) ae)))) (h:=fun x=>.bool (placeOk gs.length x)) (ρ:=[some (.tuple gs),some (.tuple ts),some w]) rfl (by omega) fun x hx=>by simp! [wk (htf x hx) hb]
   simp! [Bool.not_true,Bool.false_eq_true,c1,lG,cR,Bool.true_and]
   cases e3:gs.all (placeOk ts.length) with
   | false=>simp
   | true =>
    simp! [Bool.not_true,Bool.false_eq_true,c2,lG,Bool.true_and]
    cases e4:ts.all (placeOk gs.length) with
    | false=>simp
    | true =>
     cases hT:IU w with
     | false=>simp! [Bool.not_true,Bool.false_eq_true,kT hw.nd,hT,Bool.false_and,Bool.and_false]
     | true =>
     obtain⟨ws,rfl⟩:∃ws,w=.tuple ws:=by cases w<;>first|exact⟨_,rfl⟩|cases hT
     obtain⟨j2,hj2,hwl,hwf⟩:=hw.of_tup
     have c3:=bQ (cs:=[0,1]) (fi:=aX (ab 2)) (te:=(ah 3 iH (aa (ab 0) (aa (bb bj (aa (ab 1) ae)) (aa (bb bj (aa (ab 2) ae)) ae))))) (h:=fun x=>.bool (jq gs.length ts.length x)) (ρ:=[some (.tuple gs),some (.tuple ts),some (.tuple ws)]) rfl (by omega) fun x hx=>by simp! [EV (hwf x hx) hb]
     simp! [Bool.not_true,Bool.false_eq_true,c3,lG,Bool.true_and,kT hw.nd,IU]
theorem o9:∀ (a b:List Int),PyData.eqvAll (a.map PyData.int) (b.map PyData.int)=decide (a=b)
 | [],[]=>by simp[PyData.eqvAll]
 | [],_::_=>by simp[PyData.eqvAll]
 | _::_,[]=>by simp[PyData.eqvAll]
 | i::a,j::b=>by
  rw[zI,zI,PyData.eqvAll,o9 a b]
  by_cases h:i=j
  ·subst h;simp[PyData.eqv]
  ·simp[PyData.eqv,h]
theorem pW:∀ (a b:List (List Int)),PyData.eqvAll (a.map af) (b.map af)=decide (a=b)
 | [],[]=>by simp[PyData.eqvAll]
 | [],_::_=>by simp[PyData.eqvAll]
 | _::_,[]=>by simp[PyData.eqvAll]
 | x::a,y::b=>by
  rw[zI,zI,PyData.eqvAll,pW a b,af,af,PyData.eqv,o9]
  by_cases h:x=y
  ·subst h;simp
  ·simp[h]
theorem iR{b k:Nat}(i:Int):iI b k (.int i):=.leaf trivial
theorem AU{b k:Nat}{r:List Int}(h:r.length<=b):iI b (k+1) (af r):=.tup (by rw[zD];exact h) fun x hx=>by
 obtain⟨i,_,rfl⟩:=zQ.mp hx
 exact iR i
theorem C3{b k:Nat}{a:List (List Int)}(h:a.length<=b)(hr:∀r∈a,r.length<=b):iI b (k+2) (.list (a.map af)):=.lst (by rw[zD];exact h) fun x hx=>by
 obtain⟨r,hr',rfl⟩:=zQ.mp hx
 exact AU (hr r hr')
theorem Br(a:List (List Int)):∃b,a.length<=b/\∀r∈a,r.length<=b:=by
 induction a with
 | nil=>exact⟨0,Nat.le_refl _,fun r h=>by cases h⟩
 | cons x a ih =>
  obtain⟨b,h1,h2⟩:=ih
  refine⟨b+1+x.length,by rw[zL];omega,fun r hr=>?_⟩
  rcases zR.mp hr with rfl|hr
  ·omega
  ·have:=h2 r hr;omega
theorem nS(a:List (List Int)):SeqAt.shaped (.list (a.map af))=true:=by
 obtain⟨b,h1,h2⟩:=Br a
 exact (C3 (b:=b) (k:=0) h1 h2).shaped (by decide)
theorem Bg(a b:List (List Int)):bS (.list (a.map af)) (.list (b.map af))=some (.bool (decide (a=b))):=by
 simp only[bS,JE,nS,and_self,if_true,PyData.eqv,pW,zB]
noncomputable def jP(d:D):List Int:=(cR ((cR d).getD 1 .none)).map iK
theorem i6{n:Int}{d:D}(h:placeOk n d=true):∃a ds,d=.tuple ds/\ds.length=2/\ds.getD 0 .none=.int a/\0<=a/\a<=9/\ds.getD 1 .none=.tuple ((jP d).map PyData.int)/\(jP d).Nodup/\∀j∈jP d,0<=j/\j<=n - 1:=by
 cases d<;>simp only[placeOk] at h<;>try cases h
 rename_i ds
 simp only[zF,zJ] at h
 obtain⟨h1,h2,h3⟩:=h
 have e:jP (.tuple ds)=(cR (ds.getD 1 .none)).map iK:=rfl
 rw[e]
 generalize hl:ds.getD 1 .none=l at h3
 cases l<;>simp only[jh] at h3<;>try cases h3
 rename_i ls
 simp only[zF,zJ] at h3
 obtain⟨w1,w2,w3⟩:=fR h2
 refine⟨_,ds,rfl,h1,w1,w2,w3,?_,h3.2,fun j hj=>?_⟩
 ·rw[show cR (.tuple ls)=ls from rfl,<- kW h3.1];exact hl
 ·obtain⟨x,hx,rfl⟩:=zQ.mp hj
  exact (fR (List.all_eq_true.mp h3.1 x hx)).2
noncomputable def lu(k:Nat):List D->List (List Int)|[]=>[]|p::ps=>(jP p).map (fun j=>[((k:Nat):Int),j])++lu (k+1) ps
theorem pd:∀ (n:Nat) {l:List Int},l.Nodup->(∀j∈l,0<=j/\j<=(n:Int) - 1)->l.length<=n:=by
 intro n l hn h
 have hs:l.map Int.toNat ⊆ List.range n:=fun x hx=>by
  obtain⟨j,hj,rfl⟩:=zQ.mp hx
  have:=h j hj
  exact zT.mpr (by omega)
 have hnd:(l.map Int.toNat).Nodup:=by
  refine List.pairwise_map.mpr (hn.imp_of_mem fun {x y} hx hy hne e=>hne ?_)
  have:=h x hx;have:=h y hy;omega
 have:=List.Nodup.length_le_of_subset hnd hs
 simpa using this
theorem tO{n:Nat}:∀ {ps:List D}{k:Nat},(∀p∈ps,placeOk n p=true)->(lu k ps).length<=ps.length * n
 | [],k,_=>Nat.zero_le _
 | p::ps,k,h=>by
  obtain⟨_,_,_,_,_,_,_,_,hn,hr⟩:=i6 (h p zE)
  have h1:=pd n hn hr
  have h2:=tO (ps:=ps) (k:=k+1) fun q hq=>h q (zC _ hq)
  rw[lu,zN,zD,zL,Nat.succ_mul]
  omega
noncomputable def pB:aj->Option Out:=Cn 1 [2,3] (ao 1 [2] (aX (f2 aq (ab 3) (fC (.int 1)))) (fG 0) (fun _=>some true) (aM (aa (ab 1) (aa (ab 0) ae))))
theorem Ls{n:Nat}{p x:D}{acc:List D}{k:Nat}(hp:placeOk n p=true)(hn:n<=100)(ha:acc.length<=1000):pB [.val x,.own acc,.val (.int (k:Nat)),.val p]=some (.nx [.val x,.own (acc++((jP p).map fun j=>af [((k:Nat):Int),j])),.val (.int (k:Nat)),.val p]):=by
 obtain⟨a,ds,rfl,hl,_,_,_,h1,hnd,hr⟩:=i6 hp
 have hb:=pd n hnd hr
 generalize jP (.tuple ds)=ls at *
 have c:=bQ (cs:=[2]) (fi:=aX (f2 aq (ab 3) (fC (.int 1)))) (te:=aM (aa (ab 1) (aa (ab 0) ae))) (h:=fun y=>.tuple [.int (k:Nat),y]) (ρ:=[some x,none,some (.int (k:Nat)),some (.tuple ds)]) (ds:=ls.map PyData.int)
  (by simp! [wF (show 1 < ds.length by omega),h1]) (by rw[zD];omega) fun y hy=>by
   simp! [bf (show [PyData.int (k:Nat),y].length<=4000 by simp)]
 have hh:hand [2,3] 0 [Slot.val x,.own acc,.val (.int (k:Nat)),.val (.tuple ds)]=[Slot.val x,.own acc,.val (.int (k:Nat)),.val (.tuple ds)]:=rfl
 simp only[pB,Cn,hh,cf,zI,List.map_nil,Slot.frz,c,zA,oe,List.getElem?_cons_succ,List.getElem?_cons_zero]
 rw[if_pos]
 ·simp only[zB,List.set_cons_succ,List.set_cons_zero,zM]
  rfl
 ·simp only[zD]
  exact yE (show acc.length+ls.length<=1100 by omega) (by decide)
theorem sO{n:Nat}{x:D}(hn:n<=100):∀ {ps:List D}{k:Nat}{acc:List D}{s2 s3:Slot},(∀p∈ps,placeOk n p=true)->acc.length+ps.length * n<=1000 ->
  ∃t2 t3,d7 (fK 2 3) pB (bB k ps) [.val x,.own acc,s2,s3]=some (.nx [.val x,.own (acc++(lu k ps).map af),t2,t3])
 | [],k,acc,s2,s3,_,_=>⟨s2,s3,by simp[bB,d7,lu]⟩
 | p::ps,k,acc,s2,s3,h,hl=>by
  have hp:=h p zE
  obtain⟨_,_,_,_,_,_,_,_,hnd,hr⟩:=i6 hp
  have hb:=pd n hnd hr
  rw[zL,Nat.succ_mul] at hl
  obtain⟨t2,t3,e⟩:=sO hn (x:=x) (ps:=ps) (k:=k+1) (acc:=acc++((jP p).map fun j=>af [((k:Nat):Int),j])) (s2:=.val (.int (k:Nat))) (s3:=.val p) (fun q hq=>h q (zC _ hq)) (by rw[zN,zD];omega)
  refine⟨t2,t3,?_⟩
  have hs:fK 2 3 [.val x,.own acc,s2,s3] (.tuple [.int (k:Nat),p])=some [.val x,.own acc,.val (.int (k:Nat)),.val p]:=rfl
  simp only[bB,d7,hs,zA,Ls hp hn (show acc.length<=1000 by omega)]
  rw[e]
  simp[lu,zM,Function.comp_def]
theorem AD{n:Nat}{ps:List D}(h:∀p∈ps,placeOk n p=true)(hn:n<=100)(hl:ps.length * n<=1000):bx [.tuple ps]=some (.list ((lu 0 ps).map af)):=by
 obtain⟨t2,t3,e⟩:=sO hn (x:=.tuple ps) (k:=0) (acc:=[]) (s2:=.non) (s3:=.non) h (by simpa using hl)
 have hs:aS 1 [] (dc ae) [Slot.val (.tuple ps),.non,.non,.non]=some (.nx [.val (.tuple ps),.own [],.non,.non]):=rfl
 have hh:hand [0] 0 [Slot.val (.tuple ps),.own [],.non,.non]=[Slot.val (.tuple ps),.own [],.non,.non]:=rfl
 have hf:bz (aa (ab 0) ae) (cf [Slot.val (.tuple ps),.own [],.non,.non])=some (bB 0 ps):=rfl
 simp! [bx,g0,hs,dM,hh,hf]
 rw[show Cn 1 [2,3] (ao 1 [2] (aX (f2 aq (ab 3) (fC (.int 1)))) (fG 0) (fun _=>some true) (aM (aa (ab 1) (aa (ab 0) ae))))=pB from rfl,e]
 simp! []
noncomputable def fA(d:D):List Int:=[iK ((cR d).getD 0 .none),iK ((cR d).getD 1 .none)]
theorem xv{g t:Int}{d:D}(h:jq g t d=true):∃ds c,d=.tuple ds/\ds.length=3/\ds.getD 0 .none=.int (iK (ds.getD 0 .none))/\ds.getD 1 .none=.int (iK (ds.getD 1 .none))/\ds.getD 2 .none=.int c/\1<=c/\c<=9 /\
  0<=iK (ds.getD 0 .none)/\iK (ds.getD 0 .none)<=g - 1/\0<=iK (ds.getD 1 .none)/\iK (ds.getD 1 .none)<=t - 1:=by
 cases d<;>simp only[jq] at h<;>try cases h
 rename_i ds
 simp only[zF,zJ] at h
 obtain⟨h1,h2,h3,h4⟩:=h
 have a:=fR h2
 have b:=fR h3
 have c:=fR h4
 exact⟨ds,_,rfl,h1,a.1,b.1,c.1,c.2.1,c.2.2,a.2.1,a.2.2,b.2.1,b.2.2⟩
noncomputable def xO(g t w:D):Bool:=decide ((cR w).map fA=tq (lu 0 (cR g)))&&decide ((cR w).map fA=tq ((lu 0 (cR t)).map List.reverse))
noncomputable def M9(d:D):Bool:=long 3 3 d&&(jj ((cR d).getD 0 .none) ((cR d).getD 1 .none) ((cR d).getD 2 .none)&&xO ((cR d).getD 0 .none) ((cR d).getD 1 .none) ((cR d).getD 2 .none))
theorem j9:∀ {ps:List D}{k:Nat},∀r∈lu k ps,∃i j,r=[i,j]
 | [],k,r,h=>by cases h
 | p::ps,k,r,h=>by
  rcases List.mem_append.mp h with h|h
  ·obtain⟨j,_,rfl⟩:=zQ.mp h;exact⟨_,_,rfl⟩
  ·exact j9 r h
theorem lQ{a:List (List Int)}(h:∀r∈a,∃i j,r=[i,j])(hl:a.length < 64):gK [.list (a.map af)]=some ((tq a).map af):=by
 have:∀ns∈a,ns≠[]:=fun ns hn=>by obtain⟨i,j,rfl⟩:=h ns hn;exact List.cons_ne_nil _ _
 simp only[gK,oneOf,zA,lh this,if_pos hl]
theorem sj:∀ {a:List (List Int)},(∀r∈a,∃i j,r=[i,j])->cx (f7 0 1) (fun _=>some true) (aM (aa (ab 1) (aa (ab 0) ae))) [none,none] (a.map af)=some ((a.map List.reverse).map af)
 | [],_=>rfl
 | r::a,h=>by
  obtain⟨i,j,rfl⟩:=h r zE
  have ih:=sj (a:=a) fun q hq=>h q (zC _ hq)
  have e:f7 0 1 [none,none] (af [i,j])=some [some (.int i),some (.int j)]:=rfl
  rw[zI,cx,e,zA,zA,if_pos rfl,ih]
  simp! [bf (show [PyData.int j,.int i].length<=4000 by simp)]
  rfl
theorem A6{a:List (List Int)}{fi:Dl.Env->Option (List D)}{ρ:Dl.Env}(hfi:fi ρ=some (a.map af))(hl:a.length<=4000)(h:∀r∈a,∃i j,r=[i,j]):ao 2 [] fi (f7 0 1) (fun _=>some true) (aM (aa (ab 1) (aa (ab 0) ae))) ρ=some ((a.map List.reverse).map af):=by
 simp only[ao,hfi,zA,d9,List.replicate,List.cons_append,List.nil_append,List.map_nil]
 rw[sj h,zA,bf (by rw[zD,zD];exact hl)]
theorem xh{g t w:D}(h:jj g t w=true):∃gs ts ws,g=.tuple gs/\t=.tuple ts/\w=.tuple ws/\1<=gs.length/\gs.length<=4/\1<=ts.length/\ts.length<=4/\(∀p∈gs,placeOk ts.length p=true)/\(∀p∈ts,placeOk gs.length p=true)/\∀x∈ws,jq gs.length ts.length x=true:=by
 simp only[jj,m7,zF] at h
 obtain⟨h1,h2,h3,h4,h5,h6⟩:=h
 cases w<;>try cases h5
 rename_i ws
 have e1:=jK h1
 have e2:=jK h2
 generalize cR g=gs at *
 generalize cR t=ts at *
 subst e1 e2
 simp only[long,zF,zJ] at h1 h2
 exact⟨gs,ts,ws,rfl,rfl,rfl,by omega,by omega,by omega,by omega,List.all_eq_true.mp h3,List.all_eq_true.mp h4,List.all_eq_true.mp h6⟩
theorem yW{b k:Nat}{d:D}(h:iI b k d)(hb:b<=100):cD [d]=some (.bool (M9 d)):=by
 unfold M9
 cases e1:long 3 3 d with
 | false=>simp! [cD,gm,dG h.nd,e1,Bool.not_false,Bool.false_and]
 | true =>
  obtain⟨ds,rfl⟩:∃ds,d=.tuple ds:=⟨_,jK e1⟩
  obtain⟨j,rfl,hl,hf⟩:=h.of_tup
  rw[show long 3 3 (.tuple ds)=decide (ds.length=3) from uJ 3 ds,zJ] at e1
  have f0:=hf _ (getD_mem (i:=0) (by omega))
  have f1:=hf _ (getD_mem (i:=1) (by omega))
  have f2':=hf _ (getD_mem (i:=2) (by omega))
  have i0:=zy (show 0 < ds.length by omega)
  have i1:=wF (show 1 < ds.length by omega)
  have i2:=Jf (show 2 < ds.length by omega)
  have el:aQ [.tuple ds,.int 3,.int 3]=some (.bool true):=by rw[dG rfl,show long 3 3 (.tuple ds)=decide (ds.length=3) from uJ 3 ds,yB e1]
  rw[show cR (.tuple ds)=ds from rfl,Bool.true_and]
  generalize hg:ds.getD 0 .none=g at *
  generalize ht:ds.getD 1 .none=t at *
  generalize hw:ds.getD 2 .none=w at *
  cases e2:jj g t w with
  | false=>simp! [cD,gm,el,i0,i1,i2,nM f0 f1 f2' hb,e2,Bool.not_false,Bool.not_true,Bool.false_and]
  | true =>
   obtain⟨gs,ts,ws,rfl,rfl,rfl,g1,g4,t1,t4,hG,hT,hW⟩:=xh e2
   have hfw:=f2'.of_tup
   obtain⟨j2,_,hwl,_⟩:=hfw
   have q1:=tO (k:=0) hG
   have q2:=tO (k:=0) hT
   have m1:gs.length * ts.length<=16:=Nat.mul_le_mul g4 t4
   have m2:ts.length * gs.length<=16:=Nat.mul_le_mul t4 g4
   have l1:=AD hG (by omega) (by omega)
   have l2:=AD hT (by omega) (by omega)
   have s1:=lQ (a:=lu 0 gs) j9 (by omega)
   have s2:=lQ (a:=(lu 0 ts).map List.reverse) (fun r hr=>by
    obtain⟨q,hq,rfl⟩:=zQ.mp hr
    obtain⟨i,j,rfl⟩:=j9 q hq
    exact⟨j,i,rfl⟩) (by rw[zD];omega)
   have c1:ao 1 [] (aX (f2 aq (ab 0) (fC (.int 2)))) (fG 0) (fun _=>some true) (aM (aa (f2 aq (ab 0) (fC (.int 0))) (aa (f2 aq (ab 0) (fC (.int 1))) ae))) [some (.tuple ds),none,none,none]=some ((ws.map fA).map af):=by
    rw[bQ (ds:=ws) (h:=fun x=>af (fA x)) (by simp! [i2]) (by omega) fun x hx=>?_,zM]
    ·rfl
    ·obtain⟨vs,c,rfl,v3,v0,v1,_⟩:=xv (hW x hx)
     simp! [zy (show 0 < vs.length by omega),wF (show 1 < vs.length by omega),bf (show [vs.getD 0 PyData.none,vs.getD 1 .none].length<=4000 by simp),af,fA,cR]
     rw[<- v0,<- v1]
   have c2:∀x y z,ao 2 [] (aX (ah 1 bx (aa (f2 aq (ab 0) (fC (.int 1))) ae))) (f7 0 1) (fun _=>some true) (aM (aa (ab 1) (aa (ab 0) ae))) [some (.tuple ds),x,y,z]=some (((lu 0 ts).map List.reverse).map af):=fun x y z =>
    A6 (by simp! [i1,l2]) (by omega) j9
   have st1:aS 1 [0] (ao 1 [] (aX (f2 aq (ab 0) (fC (.int 2)))) (fG 0) (fun _=>some true) (aM (aa (f2 aq (ab 0) (fC (.int 0))) (aa (f2 aq (ab 0) (fC (.int 1))) ae)))) [Slot.val (.tuple ds),.non,.non,.non]=some (.nx [.val (.tuple ds),.own ((ws.map fA).map af),.non,.non]):=by
    have hh:hand [0] 0 [Slot.val (.tuple ds),.non,.non,.non]=[Slot.val (.tuple ds),.non,.non,.non]:=rfl
    simp only[aS,hh,cf,zI,List.map_nil,Slot.frz,c1,zB,List.set_cons_succ,List.set_cons_zero]
   have st2:aS 2 [0] (mU gK (aa (ah 1 bx (aa (f2 aq (ab 0) (fC (.int 0))) ae)) ae)) [Slot.val (.tuple ds),.own ((ws.map fA).map af),.non,.non]=some (.nx [.val (.tuple ds),.own ((ws.map fA).map af),.own ((tq (lu 0 gs)).map af),.non]):=by
    have hh:hand [0] 0 [Slot.val (.tuple ds),.own ((ws.map fA).map af),.non,.non]=[Slot.val (.tuple ds),.own ((ws.map fA).map af),.non,.non]:=rfl
    simp only[aS,hh,cf,zI,List.map_nil,Slot.frz]
    simp! [i0,l1,s1,List.set_cons_succ,List.set_cons_zero]
   have st3:aS 3 [0] (mU gK (aa (bP (ao 2 [] (aX (ah 1 bx (aa (f2 aq (ab 0) (fC (.int 1))) ae))) (f7 0 1) (fun _=>some true) (aM (aa (ab 1) (aa (ab 0) ae))))) ae)) [Slot.val (.tuple ds),.own ((ws.map fA).map af),.own ((tq (lu 0 gs)).map af),.non]
      =some (.nx [.val (.tuple ds),.own ((ws.map fA).map af),.own ((tq (lu 0 gs)).map af),.own ((tq ((lu 0 ts).map List.reverse)).map af)]):=by
    have hh:hand [0] 0 [Slot.val (.tuple ds),.own ((ws.map fA).map af),.own ((tq (lu 0 gs)).map af),.non]=[Slot.val (.tuple ds),.own ((ws.map fA).map af),.own ((tq (lu 0 gs)).map af),.non]:=rfl
    simp only[aS,hh,cf,zI,List.map_nil,Slot.frz]
    simp! [c2,s2,List.set_cons_succ,List.set_cons_zero]
   simp! [cD,gm,el,i0,i1,i2,nM f0 f1 f2' hb,e2,Bool.not_true,Bool.false_eq_true,st1,st2,st3,Bg,xO,cR,Bool.true_and]
   by_cases hq:List.map fA ws=tq (lu 0 gs)<;>simp[hq]
theorem xS(xs:List D):PyData.eqvAll xs []=xs.isEmpty:=by cases xs<;>simp[PyData.eqvAll]
theorem xy:SeqAt.shaped (.list [])=true:=by simp[SeqAt.shaped,PyData.canLay0,PyData.canLayAll0,PyData.depth,PyData.depthAll]
theorem DN{b k:Nat}{xs:List D}(h:∀x∈xs,iI b k x)(hk:k<=60):bS (.list xs) (.list [])=some (.bool xs.isEmpty):=by
 have hs:SeqAt.shaped (.list xs)=true:=(iI.lst (b:=max b xs.length) (k:=k) (Nat.le_max_right _ _) fun x hx=>(h x hx).mono (Nat.le_max_left _ _) (Nat.le_refl _)).shaped (by omega)
 simp only[bS,JE,hs,xy,and_self,if_true,PyData.eqv,xS,zB]
theorem iG:small []=some []:=rfl
theorem vx{α:Type}(xs:List α)(k:Nat):cut xs none (some (k:Int))=xs.take k:=by
 simp only[cut,HT.vT,HT.zr,List.drop_zero,Nat.sub_zero]
 rw[List.take_eq_take_iff];omega
theorem wA{α:Type}(xs:List α)(k:Nat):cut xs (some (k:Int)) none=xs.drop k:=by
 simp only[cut,HT.vT,HT.zr]
 rw[List.take_of_length_le (by rw[List.length_drop];omega)]
 by_cases h:k<=xs.length
 ·rw[Nat.min_eq_left h]
 ·rw[Nat.min_eq_right (by omega),List.drop_of_length_le (Nat.le_refl _),List.drop_of_length_le (by omega)]
theorem gC(b:Bool):gB (.bool b)=some b:=rfl
theorem yp(a b:D):small [a,b]=some [a,b]:=rfl
theorem lR:∀ (ρ:aj) (k:Nat),hand [] k ρ=ρ
 | [],k=>rfl
 | s::r,k=>by simp[hand,lR r]
theorem oE:∀ {ps:List D}{k:Nat}{i j:Int},[i,j]∈lu k ps↔∃m p,ps[m]?=some p/\i=((k+m:Nat):Int)/\j∈jP p
 | [],k,i,j=>by simp[lu]
 | p::ps,k,i,j=>by
  rw[lu,List.mem_append,oE (ps:=ps)]
  constructor
  ·rintro (h|⟨m,q,h1,h2,h3⟩)
   ·obtain⟨y,hy,e⟩:=zQ.mp h
    injection e with e1 e2
    injection e2 with e2 _
    exact⟨0,p,rfl,by simpa using e1.symm,e2 ▸ hy⟩
   ·exact⟨m+1,q,by simpa using h1,by rw[h2];congr 1;omega,h3⟩
  ·rintro⟨m,q,h1,h2,h3⟩
   cases m with
   | zero =>
    simp at h1
    subst h1
    exact .inl (zQ.mpr ⟨j,h3,by rw[h2];rfl⟩)
   | succ m=>exact .inr ⟨m,q,by simpa using h1,by rw[h2];congr 1;omega,h3⟩
theorem rY:∀ {ps:List D}{k:Nat},(∀p∈ps,(jP p).Nodup)->(lu k ps).Nodup
 | [],k,_=>List.nodup_nil
 | p::ps,k,h=>by
  rw[lu,List.nodup_append]
  refine⟨List.pairwise_map.mpr ((h p zE).imp fun hne e=>hne ?_),rY fun q hq=>h q (zC _ hq),?_⟩
  rotate_left
  ·injection e with _ e2
   injection e2
  ·rintro a ha b hb rfl
   obtain⟨y,hy,rfl⟩:=zQ.mp ha
   obtain⟨m,q,h1,h2,h3⟩:=oE.mp hb
   omega
theorem Mg{a b:List Int}(h:Dl.lexLt a b=true):lexLe a b=true:=by
 unfold lexLe
 cases e:Dl.lexLt b a with
 | false=>rfl
 | true=>have:=ek h e;rw[gf] at this;cases this
theorem eW{i j:Int}(h:rA i j):Dl.eB (.int i) (.int j)=some (.int (i * j)):=by
 simp only[Dl.eB,uZ,if_pos h,Option.some_or]
theorem iF{i j:Int}(h:0 < j):Dl.ku (.int i) (.int j)=some (.int (i % j)):=if_pos h
theorem j1{i j:Int}(h:0 < j/\j < 1073741824):Dl.lW (.int i) (.int j)=some (.int (i / j)):=if_pos h
theorem fP(i j:Int):Dl.wJ (.int i) (.int j)=some (.bool (decide (j < i))):=rfl
theorem mq(i j:Int):Dl.Ak (.int i) (.int j)=some (.bool (decide (i < j))):=rfl
theorem kY{i j:Int}(h:-(2 ^ 64) < i/\i < 2 ^ 64):rA i j:=.inl h
theorem Ks{i j:Int}(h:-(2 ^ 64) < j/\j < 2 ^ 64):rA i j:=.inr h
theorem wt(i:Int):Dl.qq (.int i)=true:=rfl
theorem vI(i:List D):Dl.qq (.tuple i)=false:=rfl
noncomputable def cw(ns:List Int):D:=.list (ns.map PyData.int)
theorem Jq{ns:List Int}(k:Int)(hl:ns.length<=63):∃c,dI [cw ns,.int k]=some (.int c):=by
 have heq:bS (.list (ns.map PyData.int)) (.list [])=some (.bool ns.isEmpty):=by
  have:=DN (b:=0) (k:=0) (xs:=ns.map PyData.int) (fun x hx=>by obtain⟨i,_,rfl⟩:=zQ.mp hx;exact iR i) (by decide)
  rw[this];cases ns<;>rfl
 by_cases hn:ns=[]
 ·subst hn
  refine⟨7 * k,?_⟩
  rw[List.map_nil,List.isEmpty_nil] at heq
  simp! [dI,gA,cw,iG,heq,List.isEmpty_nil,eW (kY (i:=7) (j:=k) (by decide))]
 ·have hpos:(0:Int) < (ns.length:Int):=by have:=List.length_pos_iff.mpr hn;omega
  have he:ns.isEmpty=false:=by cases ns<;>first|rfl|exact absurd rfl hn
  obtain⟨j,hj⟩:=Int.eq_ofNat_of_zero_le (Int.emod_nonneg k (show (ns.length:Int)≠0 by omega))
  have hlt:=Int.emod_lt_of_pos k hpos
  have hx:uU (ns.map PyData.int) (k % (ns.length:Int))=some (.int (ns.getD j 0)):=by
   rw[hj]
   have:j < (ns.map PyData.int).length:=by rw[zD];omega
   rw[lL this,zG,zO,zG]
   rw[zK (by omega)]
   rfl
  refine⟨ns.getD j 0+6553 * (k / (ns.length:Int)),?_⟩
  simp! [dI,gA,cw,iG,heq,he,Bool.false_eq_true,zD,iF hpos,hx,j1 (i:=k) (j:=(ns.length:Int)) ⟨hpos,by omega⟩,eW (kY (i:=6553) (j:=k / (ns.length:Int)) (by decide))]
theorem F0{ns:List Int}(k many:Int)(hl:ns.length<=63)(hm:0 < many):∃r,ak [cw ns,.int k,.int many]=some (.int r)/\0<=r/\r < many:=by
 obtain⟨c,hc⟩:=Jq k hl
 have m1:∀i:Int,Dl.ku (.int i) (.int 2147483563)=some (.int (i % 2147483563)):=fun i=>iF (by decide)
 have m2:∀i:Int,Dl.ku (.int i) (.int 2147483399)=some (.int (i % 2147483399)):=fun i=>iF (by decide)
 have m3:∀i:Int,Dl.ku (.int i) (.int 2147483647)=some (.int (i % 2147483647)):=fun i=>iF (by decide)
 have d1:∀i:Int,Dl.lW (.int i) (.int 3)=some (.int (i / 3)):=fun i=>j1 (by decide)
 have d2:∀i:Int,Dl.lW (.int i) (.int 7)=some (.int (i / 7)):=fun i=>j1 (by decide)
 have d3:∀i:Int,Dl.lW (.int i) (.int 11)=some (.int (i / 11)):=fun i=>j1 (by decide)
 have u1:∀i:Int,Dl.eB (.int i) (.int 69069)=some (.int (i * 69069)):=fun i=>eW (Ks (by decide))
 have u2:∀i:Int,Dl.eB (.int 104723) (.int i)=some (.int (104723 * i)):=fun i=>eW (kY (by decide))
 have b1:∀x:Int,Dl.eB (.int (x % 2147483563)) (.int (x % 2147483563))=some (.int (x % 2147483563 * (x % 2147483563))):=fun x=>eW (kY (by
  have:=Int.emod_nonneg x (show (2147483563:Int)≠0 by decide)
  have:=Int.emod_lt_of_pos x (show (0:Int) < 2147483563 by decide)
  omega))
 have b2:∀x:Int,Dl.eB (.int (x % 2147483399)) (.int (x % 2147483399))=some (.int (x % 2147483399 * (x % 2147483399))):=fun x=>eW (kY (by
  have:=Int.emod_nonneg x (show (2147483399:Int)≠0 by decide)
  have:=Int.emod_lt_of_pos x (show (0:Int) < 2147483399 by decide)
  omega))
 suffices h:∃x,ak [cw ns,.int k,.int many]=some (.int (x % many)) by
  obtain⟨x,hx⟩:=h
  exact⟨_,hx,Int.emod_nonneg x (show many≠0 by omega),Int.emod_lt_of_pos x hm⟩
 ·refine⟨(((((c % 2147483563 * 69069+104723 * (k+1)) % 2147483563) * ((c % 2147483563 * 69069+104723 * (k+1)) % 2147483563)+((c % 2147483563 * 69069+104723 * (k+1)) % 2147483563) / 3) % 2147483399) * ((((c % 2147483563 * 69069+104723 * (k+1)) % 2147483563) * ((c % 2147483563 * 69069+104723 * (k+1)) % 2147483563)+((c % 2147483563 * 69069+104723 * (k+1)) % 2147483563) / 3) % 2147483399)+((((c % 2147483563 * 69069+104723 * (k+1)) % 2147483563) * ((c % 2147483563 * 69069+104723 * (k+1)) % 2147483563)+((c % 2147483563 * 69069+104723 * (k+1)) % 2147483563) / 3) % 2147483399) / 7) % 2147483647 / 11,?_⟩
  simp! [ak,iL,hc,m1,u1,u2,Dl.ay,wt,List.set_cons_succ,List.set_cons_zero,b1,d1,m2,b2,d2,m3,d3,iF (j:=many) hm]
noncomputable def dr(ns:List Int)(k many:Int):Int:=iK ((ak [cw ns,.int k,.int many]).getD .none)
theorem gg{ns:List Int}(k many:Int)(hl:ns.length<=63)(hm:0 < many):ak [cw ns,.int k,.int many]=some (.int (dr ns k many))/\0<=dr ns k many/\dr ns k many < many:=by
 obtain⟨r,h1,h2⟩:=F0 k many hl hm
 have:dr ns k many=r:=by simp only[dr,h1,Option.getD_some,iK]
 rw[this];exact⟨h1,h2⟩
theorem r0{ns:List Int}(k many:Int)(hl:ns.length<=63)(hm:0 < many):ak [cw ns,.int k,.int many]=some (.int (dr ns k many)):=(gg k many hl hm).1
theorem IZ{ns:List Int}(k many:Int)(hl:ns.length<=63)(hm:0 < many):0<=dr ns k many:=(gg k many hl hm).2.1
theorem IJ{ns:List Int}(k many:Int)(hl:ns.length<=63)(hm:0 < many):dr ns k many < many:=(gg k many hl hm).2.2
noncomputable def cq(r:List Int):D:=.list (r.map PyData.int)
noncomputable def insI(ds:List Int)(k:Int)(d:Int):List Int:=let j:=if k < 0 then (k+(ds.length:Int)).toNat else min k.toNat ds.length;ds.take j++d::ds.drop j
theorem Ca(ds:List Int)(k d:Int):AW (ds.map PyData.int) k (.int d)=(insI ds k d).map PyData.int:=by
 simp only[AW,insI,zD,List.map_append,zI,List.map_take,List.map_drop]
theorem insI_perm(ds:List Int)(k d:Int):(insI ds k d).Perm (d::ds):=by
 simp only[insI]
 refine List.perm_middle.trans ?_
 rw[List.take_append_drop]
noncomputable def oB:aj->Option Out:=(C4 6 [8] (ah 3 ak (aa (ab 0) (aa (f2 aI (f2 aI (ab 1) (f2 eB (fC (.int 4)) (ab 4))) (ab 7)) (aa (f2 aI (bb bj (aa (ab 6) ae)) (fC (.int 1))) ae)))) (ab 8))
theorem Ke{ns order:List Int}{a k j x:Int}{s2 s3 s5:Slot}(hl:ns.length<=63)(ho:order.length<=1000) :
  oB [.val (cw ns),.val (.int a),s2,s3,.val (.int k),s5,.own (order.map PyData.int),.val (.int j),.val (.int x)] =
   some (.nx [.val (cw ns),.val (.int a),s2,s3,.val (.int k),s5,.own ((insI order (dr ns (a+4 * k+j) ((order.length:Int)+1)) x).map PyData.int),.val (.int j),.val (.int x)]):=by
 have h4:Dl.eB (.int 4) (.int k)=some (.int (4 * k)):=eW (kY (by decide))
 have hd:=gg (ns:=ns) (a+4 * k+j) ((order.length:Int)+1) hl (by omega)
 have hr:xq (dr ns (a+4 * k+j) ((order.length:Int)+1))=true:=by
  simp only[xq,zF,zJ]
  omega
 have hz:(order.map PyData.int).length < sizeLine:=by rw[zD];exact Nat.lt_of_le_of_lt ho (by decide)
 simp! [oB,C4,kK,wt,oe,zD,h4,hd.1]
 rw[zD] at hz
 simp only[hr,hz,and_self,if_true,zB,Ca,List.set_cons_succ,List.set_cons_zero]
theorem CY{ns:List Int}{a k:Int}{s2 s3 s5:Slot}(hl:ns.length<=63):∀ {row order:List Int}{j:Nat}{s7 s8:Slot},order.length+row.length<=1000 ->
  ∃ (o:List Int) (t7 t8:Slot),d7 (fK 7 8) oB (bB j (row.map PyData.int)) [.val (cw ns),.val (.int a),s2,s3,.val (.int k),s5,.own (order.map PyData.int),s7,s8] =
   some (.nx [.val (cw ns),.val (.int a),s2,s3,.val (.int k),s5,.own (o.map PyData.int),t7,t8])/\o.Perm (row++order)
 | [],order,j,s7,s8,_=>⟨order,s7,s8,by simp[bB,d7],by simp⟩
 | x::row,order,j,s7,s8,h=>by
  rw[zL] at h
  have hp:=insI_perm order (dr ns (a+4 * k+((j:Nat):Int)) ((order.length:Int)+1)) x
  have hlen:=hp.length_eq
  rw[zL] at hlen
  obtain⟨o,t7,t8,e,p⟩:=CY (s2:=s2) (s3:=s3) (s5:=s5) (a:=a) (k:=k) hl (row:=row) (order:=insI order (dr ns (a+4 * k+((j:Nat):Int)) ((order.length:Int)+1)) x) (j:=j+1) (s7:=.val (.int (j:Nat))) (s8:=.val (.int x)) (by omega)
  refine⟨o,t7,t8,?_,p.trans ?_⟩
  ·have hs:fK 7 8 [.val (cw ns),.val (.int a),s2,s3,.val (.int k),s5,.own (order.map PyData.int),s7,s8] (.tuple [.int (j:Nat),.int x])=some [.val (cw ns),.val (.int a),s2,s3,.val (.int k),s5,.own (order.map PyData.int),.val (.int (j:Nat)),.val (.int x)]:=rfl
   simp only[zI,bB,d7,hs,zA,Ke hl (show order.length<=1000 by omega),e]
  ·refine (hp.append_left row).trans ?_
   rw[List.cons_append]
   exact List.perm_middle
noncomputable def qw:List (List Int)->List (List Int)->Prop|[],[]=>True|a::l,b::m=>a.Perm b/\qw l m|_,_=>False
noncomputable def rB:aj->Option Out:=(ar (aS 6 [] (dc ae)) (ar (dM [5] (bz (aa (ab 5) ae)) (fK 7 8) oB) (k3 3 [6] (bb bM (aa (ab 6) ae)))))
theorem JI{ns row:List Int}{a k:Int}{rows:D}{found:List D}{s6 s7 s8:Slot}(hl:ns.length<=63)(hr:row.length<=1000)(hf:found.length<=1000) :
  ∃ (o:List Int) (t7 t8:Slot),rB [.val (cw ns),.val (.int a),.val rows,.own found,.val (.int k),.val (cq row),s6,s7,s8]=some (.nx [.val (cw ns),.val (.int a),.val rows,.own (found++[af o]),.val (.int k),.val (cq row),.val (cq o),t7,t8])/\o.Perm row:=by
 obtain⟨o,t7,t8,e,p⟩:=CY (s2:=.val rows) (s3:=.own found) (s5:=.val (cq row)) (a:=a) (k:=k) hl (row:=row) (order:=[]) (j:=0) (s7:=s7) (s8:=s8) (by simpa using hr)
 rw[List.append_nil] at p
 refine⟨o,t7,t8,?_,p⟩
 have h1:aS 6 [] (dc ae) [.val (cw ns),.val (.int a),.val rows,.own found,.val (.int k),.val (cq row),s6,s7,s8]=some (.nx [.val (cw ns),.val (.int a),.val rows,.own found,.val (.int k),.val (cq row),.own [],s7,s8]):=by
  simp only[aS,lR,dc,ae,zA,iG,zB,List.set_cons_succ,List.set_cons_zero]
 have h2:dM [5] (bz (aa (ab 5) ae)) (fK 7 8) oB [.val (cw ns),.val (.int a),.val rows,.own found,.val (.int k),.val (cq row),.own [],s7,s8]=some (.nx [.val (cw ns),.val (.int a),.val rows,.own found,.val (.int k),.val (cq row),.own (o.map PyData.int),t7,t8]):=by
  have hh:hand [5] 0 [Slot.val (cw ns),.val (.int a),.val rows,.own found,.val (.int k),.val (cq row),.own [],s7,s8]=[Slot.val (cw ns),.val (.int a),.val rows,.own found,.val (.int k),.val (cq row),.own [],s7,s8]:=rfl
  have hq:bz (aa (ab 5) ae) (cf [Slot.val (cw ns),.val (.int a),.val rows,.own found,.val (.int k),.val (cq row),.own [],s7,s8])=some (bB 0 (row.map PyData.int)):=by
   simp only[cf,zI,List.map_nil]
   simp! [bz,cq]
  simp only[dM,hh,hq,zA]
  exact e
 have h3:k3 3 [6] (bb bM (aa (ab 6) ae)) [.val (cw ns),.val (.int a),.val rows,.own found,.val (.int k),.val (cq row),.own (o.map PyData.int),t7,t8]=some (.nx [.val (cw ns),.val (.int a),.val rows,.own (found++[af o]),.val (.int k),.val (cq row),.val (cq o),t7,t8]):=by
  have hz:found.length < sizeLine:=Nat.lt_of_le_of_lt hf (by decide)
  have hh:hand [6] 0 [Slot.val (cw ns),.val (.int a),.val rows,.own found,.val (.int k),.val (cq row),.own (o.map PyData.int),t7,t8]=[Slot.val (cw ns),.val (.int a),.val rows,.own found,.val (.int k),.val (cq row),.val (cq o),t7,t8]:=rfl
  simp only[k3,kK,hh,cf,zI,List.map_nil]
  simp! [vI,Bool.false_eq_true,oe,hz,List.set_cons_succ,List.set_cons_zero,cq,af]
 simp only[rB,ar,h1,h2,h3,zA]
theorem Ed{ns:List Int}{a:Int}{rws:D}(hl:ns.length<=63):∀ {rows:List (List Int)}{found:List D}{k:Nat}{s4 s5 s6 s7 s8:Slot},(∀r∈rows,r.length<=1000)->found.length+rows.length<=1000 ->
  ∃ (os:List (List Int)) (t4 t5 t6 t7 t8:Slot),d7 (fK 4 5) rB (bB k (rows.map cq)) [.val (cw ns),.val (.int a),.val rws,.own found,s4,s5,s6,s7,s8]=some (.nx [.val (cw ns),.val (.int a),.val rws,.own (found++os.map af),t4,t5,t6,t7,t8])/\qw os rows
 | [],found,k,s4,s5,s6,s7,s8,_,_=>⟨[],s4,s5,s6,s7,s8,by simp[bB,d7],trivial⟩
 | r::rows,found,k,s4,s5,s6,s7,s8,h,hf=>by
  rw[zL] at hf
  obtain⟨o,u7,u8,e1,p1⟩:=JI (rows:=rws) (a:=a) (k:=((k:Nat):Int)) (s6:=s6) (s7:=s7) (s8:=s8) hl (h r zE) (show found.length<=1000 by omega)
  obtain⟨os,t4,t5,t6,t7,t8,e,p⟩:=Ed hl (rws:=rws) (a:=a) (rows:=rows) (found:=found++[af o]) (k:=k+1) (s4:=.val (.int (k:Nat))) (s5:=.val (cq r)) (s6:=.val (cq o)) (s7:=u7) (s8:=u8) (fun r' hr'=>h r' (zC _ hr')) (by rw[zN,List.length_singleton];omega)
  refine⟨o::os,t4,t5,t6,t7,t8,?_,p1,p⟩
  have hs:fK 4 5 [.val (cw ns),.val (.int a),.val rws,.own found,s4,s5,s6,s7,s8] (.tuple [.int (k:Nat),cq r])=some [.val (cw ns),.val (.int a),.val rws,.own found,.val (.int (k:Nat)),.val (cq r),s6,s7,s8]:=rfl
  simp only[zI,bB,d7,hs,zA,e1]
  rw[e,List.append_assoc]
  rfl
theorem vP{ns:List Int}{a:Int}{rows:List (List Int)}(hl:ns.length<=63)(hr:∀r∈rows,r.length<=1000)(hn:rows.length<=1000):∃os:List (List Int),bK [cw ns,.int a,.list (rows.map cq)]=some (.list (os.map af))/\qw os rows:=by
 obtain⟨os,t4,t5,t6,t7,t8,e,p⟩:=Ed hl (rws:=.list (rows.map cq)) (a:=a) (rows:=rows) (found:=[]) (k:=0) (s4:=.non) (s5:=.non) (s6:=.non) (s7:=.non) (s8:=.non) hr (by simpa using hn)
 refine⟨os,?_,p⟩
 rw[List.nil_append] at e
 have h1:aS 3 [] (dc ae) [.val (cw ns),.val (.int a),.val (.list (rows.map cq)),.non,.non,.non,.non,.non,.non]=some (.nx [.val (cw ns),.val (.int a),.val (.list (rows.map cq)),.own [],.non,.non,.non,.non,.non]):=by
  simp only[aS,lR,dc,ae,zA,iG,zB,List.set_cons_succ,List.set_cons_zero]
 have h2:dM [2] (bz (aa (ab 2) ae)) (fK 4 5) rB [.val (cw ns),.val (.int a),.val (.list (rows.map cq)),.own [],.non,.non,.non,.non,.non]=some (.nx [.val (cw ns),.val (.int a),.val (.list (rows.map cq)),.own (os.map af),t4,t5,t6,t7,t8]):=by
  have hh:hand [2] 0 [Slot.val (cw ns),.val (.int a),.val (.list (rows.map cq)),.own [],.non,.non,.non,.non,.non]=[Slot.val (cw ns),.val (.int a),.val (.list (rows.map cq)),.own [],.non,.non,.non,.non,.non]:=rfl
  have hq:bz (aa (ab 2) ae) (cf [Slot.val (cw ns),.val (.int a),.val (.list (rows.map cq)),.own [],.non,.non,.non,.non,.non])=some (bB 0 (rows.map cq)):=by
   simp only[cf,zI,List.map_nil]
   simp! [bz]
  simp only[dM,hh,hq,zA]
  exact e
 unfold rB oB at h2
 simp! [bK,ib,h1,h2]
noncomputable abbrev Pl:=Int×List Int
noncomputable abbrev Wy:=Int×Int×Int
noncomputable def bF(p:Pl):D:=.tuple [.int p.1,af p.2]
noncomputable def au(w:Wy):D:=.tuple [.int w.1,.int w.2.1,.int w.2.2]
noncomputable def aw(G T:List Pl)(W:List Wy):D:=.tuple [.tuple (G.map bF),.tuple (T.map bF),.tuple (W.map au)]
noncomputable def As(W:List Wy)(i:Int):List Int:=(W.filter fun w=>decide (w.1=i)).map fun w=>w.2.1
noncomputable def ofT(W:List Wy)(j:Int):List Int:=(W.filter fun w=>decide (w.2.1=j)).map fun w=>w.1
abbrev uO(W:List Wy):Prop:=W.Pairwise fun a b=>a.1 < b.1\/(a.1=b.1/\a.2.1 < b.2.1)
structure Wd(G T:List Pl)(W:List Wy):Prop where
 g1:1<=G.length
 g4:G.length<=4
 t1:1<=T.length
 t4:T.length<=4
 ga:∀p∈G,0<=p.1/\p.1<=9
 ta:∀p∈T,0<=p.1/\p.1<=9
 gl:∀ (i:Nat) (p:Pl),G[i]?=some p->p.2.Perm (As W i)
 tl:∀ (j:Nat) (p:Pl),T[j]?=some p->p.2.Perm (ofT W j)
 wr:∀w∈W,(0<=w.1/\w.1 < G.length)/\(0<=w.2.1/\w.2.1 < T.length)/\1<=w.2.2/\w.2.2<=9
 wp:uO W
 wl:W.length<=16
theorem sX{W:List Wy}{i j:Int}:j∈As W i↔[i,j]∈W.map fun w=>[w.1,w.2.1]:=by
 simp only[As,zQ,List.mem_filter,zJ,List.cons.injEq,and_true]
 constructor
 ·rintro⟨w,⟨h1,h2⟩,h3⟩;exact⟨w,h1,h2,h3⟩
 ·rintro⟨w,h1,h2,h3⟩;exact⟨w,⟨h1,h2⟩,h3⟩
theorem tj{W:List Wy}{i j:Int}:i∈ofT W j↔[i,j]∈W.map fun w=>[w.1,w.2.1]:=by
 simp only[ofT,zQ,List.mem_filter,zJ,List.cons.injEq,and_true]
 constructor
 ·rintro⟨w,⟨h1,h2⟩,h3⟩;exact⟨w,h1,h3,h2⟩
 ·rintro⟨w,h1,h2,h3⟩;exact⟨w,⟨h1,h3⟩,h2⟩
theorem nr{W:List Wy}(h:uO W)(i:Int):(As W i).Nodup:=by
 unfold As List.Nodup
 rw[List.pairwise_map,List.pairwise_filter]
 refine h.imp fun hab ha hb=>?_
 rw[zJ] at ha hb
 omega
theorem mF{W:List Wy}(h:uO W)(i:Int):(ofT W i).Nodup:=by
 unfold ofT List.Nodup
 rw[List.pairwise_map,List.pairwise_filter]
 refine h.imp fun hab ha hb=>?_
 rw[zJ] at ha hb
 omega
theorem fS(p:Pl):jP (bF p)=p.2:=by
 show ((p.2.map PyData.int).map iK)=p.2
 rw[zM]
 exact List.map_id _
theorem nQ{n:Int}{p:Pl}(ha:0<=p.1/\p.1<=9)(hn:p.2.Nodup)(hr:∀j∈p.2,0<=j/\j < n):placeOk n (bF p)=true:=by
 have e:(p.2.map PyData.int).map iK=p.2:=fS p
 have e2:(p.2.map PyData.int).all (whole 0 (n - 1))=true:=by
  rw[List.all_eq_true]
  intro x hx
  obtain⟨j,hj,rfl⟩:=zQ.mp hx
  have:=hr j hj
  simp only[whole,zF,zJ]
  omega
 simp only[placeOk,bF,af,zL,List.length_nil,List.getD_cons_zero,List.getD_cons_succ,jh,whole,e,e2,ha.1,ha.2,hn,decide_true,Bool.and_self]
theorem Cu{g t:Int}{w:Wy}(h:(0<=w.1/\w.1 < g)/\(0<=w.2.1/\w.2.1 < t)/\1<=w.2.2/\w.2.2<=9):jq g t (au w)=true:=by
 obtain⟨⟨a,b⟩,⟨c,d⟩,e,f⟩:=h
 have b':w.1<=g - 1:=by omega
 have d':w.2.1<=t - 1:=by omega
 simp only[jq,au,zL,List.length_nil,List.getD_cons_zero,List.getD_cons_succ,whole,a,b',c,d',e,f,decide_true,Bool.and_self]
theorem N9{a b c d:Int}(h:a < c\/(a=c/\b < d)):Dl.lexLt [a,b] [c,d]=true:=by
 show HT.lexLt [a,b] [c,d]=true
 rw[HT.dA]
 by_cases e:a=c
 ·rw[if_pos e,HT.dA,if_neg (by omega)]
  simp only[zJ];omega
 ·rw[if_neg e];simp only[zJ];omega
theorem Wd.glike{G T:List Pl}{W:List Wy}(h:Wd G T W){p:Pl}(hp:p∈G):∃i:Nat,i < G.length/\p.2.Perm (As W i):=by
 obtain⟨i,hi,e⟩:=List.getElem_of_mem hp
 exact⟨i,hi,h.gl i p (by rw[zK hi,e])⟩
theorem Wd.tlike{G T:List Pl}{W:List Wy}(h:Wd G T W){p:Pl}(hp:p∈T):∃i:Nat,i < T.length/\p.2.Perm (ofT W i):=by
 obtain⟨i,hi,e⟩:=List.getElem_of_mem hp
 exact⟨i,hi,h.tl i p (by rw[zK hi,e])⟩
theorem Wd.gok{G T:List Pl}{W:List Wy}(h:Wd G T W):(G.map bF).all (placeOk T.length)=true:=by
 rw[List.all_eq_true]
 intro x hx
 obtain⟨p,hp,rfl⟩:=zQ.mp hx
 obtain⟨i,hi,q⟩:=h.glike hp
 refine nQ (h.ga p hp) (q.nodup_iff.mpr (nr h.wp _)) fun j hj=>?_
 obtain⟨w,hw,e⟩:=zQ.mp (sX.mp (q.mem_iff.mp hj))
 injection e with e1 e2
 injection e2 with e2 _
 have:=(h.wr w hw).2.1
 rw[e2] at this;exact this
theorem Wd.tok{G T:List Pl}{W:List Wy}(h:Wd G T W):(T.map bF).all (placeOk G.length)=true:=by
 rw[List.all_eq_true]
 intro x hx
 obtain⟨p,hp,rfl⟩:=zQ.mp hx
 obtain⟨i,hi,q⟩:=h.tlike hp
 refine nQ (h.ta p hp) (q.nodup_iff.mpr (mF h.wp _)) fun j hj=>?_
 obtain⟨w,hw,e⟩:=zQ.mp (tj.mp (q.mem_iff.mp hj))
 injection e with e1 e2
 have:=(h.wr w hw).1
 rw[e1] at this;exact this
theorem qr{W:List Wy}{p:Wy->Bool}(h:W.length<=16):(W.filter p).length<=16:=yE (List.length_filter_le _ _) h
theorem AQ{p:Pl}(h:p.2.length<=16):iI 16 2 (bF p):=.tup (by simp only[zL,List.length_nil];omega) fun x hx=>by
 rcases zR.mp hx with rfl|hx
 ·exact iR _
 ·rw[yL] at hx
  subst hx
  exact AU h
theorem Hr(w:Wy):iI 16 1 (au w):=.tup (by simp only[zL,List.length_nil];omega) fun x hx=>by
 simp only[zR,yG,or_false] at hx
 rcases hx with rfl|rfl|rfl<;>exact iR _
theorem Wd.fit{G T:List Pl}{W:List Wy}(h:Wd G T W):iI 16 4 (aw G T W):=by
 refine .tup (by simp only[zL,List.length_nil];omega) fun x hx=>?_
 simp only[zR,yG,or_false] at hx
 have h4:=h.g4
 have h5:=h.t4
 have h6:=h.wl
 rcases hx with rfl|rfl|rfl
 ·refine .tup (by rw[zD];omega) fun x hx=>?_
  obtain⟨p,hp,rfl⟩:=zQ.mp hx
  obtain⟨i,hi,q⟩:=h.glike hp
  exact AQ (by rw[q.length_eq,As,zD];exact qr h.wl)
 ·refine .tup (by rw[zD];omega) fun x hx=>?_
  obtain⟨p,hp,rfl⟩:=zQ.mp hx
  obtain⟨i,hi,q⟩:=h.tlike hp
  exact AQ (by rw[q.length_eq,ofT,zD];exact qr h.wl)
 ·refine .tup (by rw[zD];omega) fun x hx=>?_
  obtain⟨p,hp,rfl⟩:=zQ.mp hx
  exact (Hr p).mono (Nat.le_refl _) (by decide)
theorem Cd{c:Int}(h0:0<=c)(h9:c<=9):Wd [(c,[0,1]),(c,[1,0])] [(c,[1,0]),(c,[0,1])] [(0,0,2),(0,1,2),(1,0,2),(1,1,2)] where
 g1:=by simp only[zL,List.length_nil];omega
 g4:=by simp only[zL,List.length_nil];omega
 t1:=by simp only[zL,List.length_nil];omega
 t4:=by simp only[zL,List.length_nil];omega
 ga:=by intro p hp;simp only[zR,yG,or_false] at hp;rcases hp with rfl|rfl<;>exact⟨h0,h9⟩
 ta:=by intro p hp;simp only[zR,yG,or_false] at hp;rcases hp with rfl|rfl<;>exact⟨h0,h9⟩
 gl:=by
  intro i p hp
  match i,hp with
  | 0,hp=>injection hp with hp;subst hp;exact (show List.Perm ([0,1]:List Int) (As [(0,0,2),(0,1,2),(1,0,2),(1,1,2)] ((0:Nat):Int)) by decide)
  | 1,hp=>injection hp with hp;subst hp;exact (show List.Perm ([1,0]:List Int) (As [(0,0,2),(0,1,2),(1,0,2),(1,1,2)] ((1:Nat):Int)) by decide)
 tl:=by
  intro i p hp
  match i,hp with
  | 0,hp=>injection hp with hp;subst hp;exact (show List.Perm ([1,0]:List Int) (ofT [(0,0,2),(0,1,2),(1,0,2),(1,1,2)] ((0:Nat):Int)) by decide)
  | 1,hp=>injection hp with hp;subst hp;exact (show List.Perm ([0,1]:List Int) (ofT [(0,0,2),(0,1,2),(1,0,2),(1,1,2)] ((1:Nat):Int)) by decide)
 wr:=show ∀w∈([(0,0,2),(0,1,2),(1,0,2),(1,1,2)]:List Wy),(0<=w.1/\w.1 < ((2:Nat):Int))/\(0<=w.2.1/\w.2.1 < ((2:Nat):Int))/\1<=w.2.2/\w.2.2<=9 by decide
 wp:=by decide
 wl:=by decide
noncomputable def js(f:Nat->Int):Nat->List (List Int)->List Pl|_,[]=>[]|k,r::rs=>(f k,r)::js f (k+1) rs
theorem iC(f:Nat->Int):∀ (rs:List (List Int)) (k:Nat),(js f k rs).length=rs.length
 | [],k=>rfl
 | r::rs,k=>by rw[js,zL,zL,iC f rs]
theorem iq(f:Nat->Int):∀ {rs:List (List Int)}{k i:Nat}{p:Pl},(js f k rs)[i]?=some p->∃r,rs[i]?=some r/\p=(f (k+i),r)
 | [],k,i,p,h=>by simp[js] at h
 | r::rs,k,0,p,h=>by simp[js] at h;exact⟨r,rfl,h.symm⟩
 | r::rs,k,i+1,p,h=>by
  simp only[js,List.getElem?_cons_succ] at h
  obtain⟨y,h1,h2⟩:=iq f h
  exact⟨y,by simpa using h1,by rw[h2];congr 2;omega⟩
theorem eG:∀ {a b:List (List Int)},qw a b->a.length=b.length
 | [],[],_=>rfl
 | x::a,y::b,h=>by rw[zL,zL,eG h.2]
 | [],_::_,h=>h.elim
 | _::_,[],h=>h.elim
theorem mL:∀ {a b:List (List Int)}{i:Nat}{r:List Int},qw a b->a[i]?=some r->∃s,b[i]?=some s/\r.Perm s
 | [],[],i,r,_,h=>by simp at h
 | x::a,y::b,0,r,h,e=>by
  simp only[List.getElem?_cons_zero,yM] at e
  subst e
  exact⟨y,rfl,h.1⟩
 | x::a,y::b,i+1,r,h,e=>by
  simp only[List.getElem?_cons_succ] at e
  obtain⟨s,h1,h2⟩:=mL h.2 e
  exact⟨s,by simpa using h1,h2⟩
 | [],_::_,i,r,h,_=>h.elim
 | _::_,[],i,r,h,_=>h.elim
noncomputable def kN(W:List Wy)(m:Nat):List (List Int):=(List.range m).map fun i=>As W ((i:Nat):Int)
noncomputable def kJ(W:List Wy)(m:Nat):List (List Int):=(List.range m).map fun i=>ofT W ((i:Nat):Int)
theorem HZ{m s:Nat}{W:List Wy}{mine yours:List (List Int)}{f g:Nat->Int}(m1:1<=m)(m4:m<=4)(s1:1<=s)(s4:s<=4)(hf:∀k,0<=f k/\f k<=9)(hg:∀k,0<=g k/\g k<=9)
  (hm:qw mine (kN W m)) (hy:qw yours (kJ W s)) (wr:∀w∈W,(0<=w.1/\w.1 < m)/\(0<=w.2.1/\w.2.1 < s)/\1<=w.2.2/\w.2.2<=9) (wp:uO W) (wl:W.length<=16):Wd (js f 0 mine) (js g 0 yours) W:=by
 have lm:(js f 0 mine).length=m:=by rw[iC,eG hm,kN,zD,zS]
 have ly:(js g 0 yours).length=s:=by rw[iC,eG hy,kJ,zD,zS]
 have am:∀ {h:Nat->Int}{rs:List (List Int)},(∀k,0<=h k/\h k<=9)->∀p∈js h 0 rs,0<=p.1/\p.1<=9:=fun {h rs} hh p hp=>by
  obtain⟨i,hi⟩:=List.mem_iff_getElem?.mp hp
  obtain⟨r,_,rfl⟩:=iq h hi
  exact hh _
 refine⟨by omega,by omega,by omega,by omega,am hf,am hg,fun i p hp=>?_,fun i p hp=>?_,by rw[lm,ly];exact wr,wp,wl⟩
 ·obtain⟨r,h1,rfl⟩:=iq f hp
  obtain⟨t,h2,h3⟩:=mL hm h1
  rw[kN,zO] at h2
  obtain⟨k,hk,rfl⟩:=Option.map_eq_some_iff.mp h2
  have:k=i:=by
   rw[zU] at hk
   obtain⟨h,e⟩:=hk
   rw[List.getElem_range] at e
   exact e.symm
  subst this
  exact h3
 ·obtain⟨r,h1,rfl⟩:=iq g hp
  obtain⟨t,h2,h3⟩:=mL hy h1
  rw[kJ,zO] at h2
  obtain⟨k,hk,rfl⟩:=Option.map_eq_some_iff.mp h2
  have:k=i:=by
   rw[zU] at hk
   obtain⟨h,e⟩:=hk
   rw[List.getElem_range] at e
   exact e.symm
  subst this
  exact h3
theorem cn{i:Nat}{fz:List Nat}{f:Dl.Env->Option D}{ρ ρ':aj}{d:D}(hf:f (bg ρ)=some d)(hs:Dl.qq d=false)(hh:hand fz 0 ρ=ρ')(hv:cf ρ'=bg ρ):Dl.ay i fz f ρ=some (.nx (ρ'.set i (.val d))):=by
 simp only[Dl.ay,hf,zA,hs,Bool.false_eq_true,if_false,hh,hv,zB]
theorem eE{i:Nat}{fz:List Nat}{f:Dl.Env->Option D}{ρ:aj}{d:D}(hf:f (bg ρ)=some d)(hs:Dl.qq d=true):Dl.ay i fz f ρ=some (.nx (ρ.set i (.val d))):=by
 simp only[Dl.ay,hf,zA,hs,if_true]
theorem IY(w:Wy):aq (au w) (.int 0)=some (.int w.1):=rfl
theorem Ji(w:Wy):aq (au w) (.int 1)=some (.int w.2.1):=rfl
theorem yO(a b c:D):small [a,b,c]=some [a,b,c]:=rfl
theorem MT{a b s:Int}(hs:s=1\/s=2\/s=3)(h:a < b):a / s < b / s\/(a / s=b / s/\a % s < b % s):=by rcases hs with rfl|rfl|rfl<;>omega
theorem Lr{k m s:Int}(hs:s=1\/s=2\/s=3)(hm:m=1\/m=2\/m=3)(h0:0<=k)(h:k < m * s):(0<=k / s/\k / s < m)/\0<=k % s/\k % s < s:=by
 rcases hs with rfl|rfl|rfl<;>rcases hm with rfl|rfl|rfl<;>omega
noncomputable def lB:aj->Option Out:=(dN (dm (fB (f2 Ak (bb bj (aa (ab 7) ae)) (ab 2))) (fB (f2 wJ (ah 3 ak (aa (ab 0) (aa (f2 aI (f2 aI (ab 1) (fC (.int 2))) (ab 8)) (aa (fC (.int 4)) ae)))) (fC (.int 0))))) (k3 7 [0,1,6,8] (aM (aa (f2 lW (ab 8) (ab 6)) (aa (f2 ku (ab 8) (ab 6)) (aa (f2 aI (fC (.int 1)) (ah 3 ak (aa (ab 0) (aa (f2 aI (f2 aI (ab 1) (fC (.int 12))) (ab 8)) (aa (fC (.int 2)) ae))))) ae))))) dJ)
noncomputable abbrev st(ns:List Int)(a mo m s:Int)(x4 x7 x8 x9 x10 x11:Slot):aj:=[.val (cw ns),.val (.int a),.val (.int mo),.non,x4,.val (.int m),.val (.int s),x7,x8,x9,x10,x11]
noncomputable def GA(ns:List Int)(a mo s k:Int)(W:List Wy):List Wy:=if (W.length:Int) < mo/\0 < dr ns (a+2+k) 4 then W++[(k / s,k % s,1+dr ns (a+12+k) 2)] else W
theorem JD{ns:List Int}{a mo m s k:Int}{W:List Wy}(hl:ns.length<=63)(hs:s=1\/s=2\/s=3)(hw:W.length<=9) :
  lB (st ns a mo m s .non (.own (W.map au)) (.val (.int k)) .non .non .non)=some (.nx (st ns a mo m s .non (.own ((GA ns a mo s k W).map au)) (.val (.int k)) .non .non .non)):=by
 have hs0:0 < s:=by omega
 have hz:W.length < sizeLine:=Nat.lt_of_le_of_lt hw (by decide)
 have hd:Dl.lW (.int k) (.int s)=some (.int (k / s)):=j1 ⟨hs0,by omega⟩
 have hm:Dl.ku (.int k) (.int s)=some (.int (k % s)):=iF hs0
 have e4:=r0 (ns:=ns) (a+2+k) 4 hl (by decide)
 have e2:=r0 (ns:=ns) (a+12+k) 2 hl (by decide)
 have hh:hand [0,1,6,8] 0 (st ns a mo m s .non (.own (W.map au)) (.val (.int k)) .non .non .non)=st ns a mo m s .non (.own (W.map au)) (.val (.int k)) .non .non .non:=rfl
 have ha:k3 7 [0,1,6,8] (aM (aa (f2 lW (ab 8) (ab 6)) (aa (f2 ku (ab 8) (ab 6)) (aa (f2 aI (fC (.int 1)) (ah 3 ak (aa (ab 0) (aa (f2 aI (f2 aI (ab 1) (fC (.int 12))) (ab 8)) (aa (fC (.int 2)) ae))))) ae)))) (st ns a mo m s .non (.own (W.map au)) (.val (.int k)) .non .non .non)=some (.nx (st ns a mo m s .non (.own ((W++[(k / s,k % s,1+dr ns (a+12+k) 2)]).map au)) (.val (.int k)) .non .non .non)):=by
  simp only[k3,kK,hh,cf,zI,List.map_nil]
  simp! [vI,Bool.false_eq_true,oe,hd,hm,e2,yO,zD,hz,List.set_cons_succ,List.set_cons_zero,List.map_append]
  rfl
 by_cases c1:(W.length:Int) < mo
 ·by_cases c2:0 < dr ns (a+2+k) 4
  ·rw[show GA ns a mo s k W=W++[(k / s,k % s,1+dr ns (a+12+k) 2)] from if_pos ⟨c1,c2⟩,<- ha]
   simp! [lB,mq,fP,zD,c1,c2,decide_true,gC,e4]
  ·rw[show GA ns a mo s k W=W from if_neg fun h=>c2 h.2]
   simp! [lB,mq,fP,zD,c1,c2,decide_true,decide_false,gC,e4,Bool.false_eq_true]
 ·rw[show GA ns a mo s k W=W from if_neg fun h=>c1 h.1]
  simp! [lB,mq,fP,zD,c1,decide_false,gC,Bool.false_eq_true]
structure B8(mo s k:Int)(W:List Wy):Prop where
 mem:∀w∈W,∃j:Int,0<=j/\j < k/\w.1=j / s/\w.2.1=j % s/\1<=w.2.2/\w.2.2<=2
 ris:uO W
 len:(W.length:Int)<=k
 lem:(W.length:Int)<=mo
theorem B8.next{ns:List Int}{a mo s k:Int}{W:List Wy}(hl:ns.length<=63)(hs:s=1\/s=2\/s=3)(hk:0<=k)(h:B8 mo s k W):B8 mo s (k+1) (GA ns a mo s k W):=by
 have old:∀w∈W,∃j:Int,0<=j/\j < k+1/\w.1=j / s/\w.2.1=j % s/\1<=w.2.2/\w.2.2<=2:=fun w hw=>by
  obtain⟨j,a,b,c⟩:=h.mem w hw
  exact⟨j,a,by omega,c⟩
 by_cases c:(W.length:Int) < mo/\0 < dr ns (a+2+k) 4
 ·rw[show GA ns a mo s k W=W++[(k / s,k % s,1+dr ns (a+12+k) 2)] from if_pos c]
  have g1:=IZ (ns:=ns) (a+12+k) 2 hl (by decide)
  have g2:=IJ (ns:=ns) (a+12+k) 2 hl (by decide)
  refine⟨fun w hw=>?_,?_,?_,?_⟩
  ·rcases List.mem_append.mp hw with hw|hw
   ·exact old w hw
   ·rw[yL] at hw
    subst hw
    exact⟨k,hk,by omega,rfl,rfl,by simp only;omega,by simp only;omega⟩
  ·refine List.pairwise_append.mpr ⟨h.ris,List.pairwise_singleton _ _,fun a ha b hb=>?_⟩
   rw[yL] at hb
   subst hb
   obtain⟨j,_,b,c1,c2,_⟩:=h.mem a ha
   rw[c1,c2]
   exact MT hs b
  ·have:=h.len;rw[zN,List.length_singleton];omega
  ·have:=c.1;rw[zN,List.length_singleton];omega
 ·rw[show GA ns a mo s k W=W from if_neg c]
  exact⟨old,h.ris,by have:=h.len;omega,h.lem⟩
theorem FB{ns:List Int}{a mo m s:Int}(hl:ns.length<=63)(hs:s=1\/s=2\/s=3):∀ (n k:Nat) {W:List Wy}{x8:Slot},k+n<=9->B8 mo s k W ->
  ∃W' t8,d7 (n0 8) lB ((List.range' k n).map fun i=>PyData.int ((i:Nat):Int)) (st ns a mo m s .non (.own (W.map au)) x8 .non .non .non)=some (.nx (st ns a mo m s .non (.own (W'.map au)) t8 .non .non .non))/\(n=0/\t8=x8\/∃d,t8=.val d)/\B8 mo s ((k+n:Nat):Int) W'
 | 0,k,W,x8,hk,h=>⟨W,x8,rfl,.inl ⟨rfl,rfl⟩,h⟩
 | n+1,k,W,x8,hk,h=>by
  have h':B8 mo s ((k+1:Nat):Int) (GA ns a mo s k W):=by
   have:=h.next (ns:=ns) (a:=a) hl hs (by omega)
   rwa [show ((k:Int)+1)=((k+1:Nat):Int) by omega] at this
  obtain⟨W',t8,e,q,b⟩:=FB hl hs n (k+1) (W:=GA ns a mo s k W) (x8:=.val (.int (k:Nat))) (by omega) h'
  refine⟨W',t8,?_,.inr (q.elim (fun z=>⟨_,z.2⟩) id),by rw[show k+(n+1)=k+1+n by omega];exact b⟩
  have hsg:∀d,n0 8 (st ns a mo m s .non (.own (W.map au)) x8 .non .non .non) d=some (st ns a mo m s .non (.own (W.map au)) (.val d) .non .non .non):=fun d=>rfl
  rw[List.range'_succ,zI,d7,hsg,zA,JD hl hs (by have:=h.len;omega)]
  exact e
theorem ON(W:List Wy)(i:Int)(hw:W.length<=20):ao 1 [0] (aX (ab 1)) (fG 0) (fB (f2 bS (f2 aq (ab 0) (fC (.int 0))) (ab 1))) (f2 aq (ab 0) (fC (.int 1))) [some (.int i),some (.list (W.map au))]=some ((As W i).map PyData.int):=by
 rw[lX (ds:=W.map au) (p:=fun d=>decide (iK ((cR d).getD 0 .none)=i)) (h:=fun d=>(cR d).getD 1 .none) rfl (by rw[zD];omega) (fun d hd=>?_) fun d hd _=>?_]
 ·rw[List.filter_map,zM,As,zM];rfl
 ·obtain⟨w,_,rfl⟩:=zQ.mp hd
  simp! [IY,dk,gC]
  rfl
 ·obtain⟨w,_,rfl⟩:=zQ.mp hd
  simp! [Ji]
  rfl
theorem OR(W:List Wy)(i:Int)(hw:W.length<=20):ao 1 [0] (aX (ab 1)) (fG 0) (fB (f2 bS (f2 aq (ab 0) (fC (.int 1))) (ab 1))) (f2 aq (ab 0) (fC (.int 0))) [some (.int i),some (.list (W.map au))]=some ((ofT W i).map PyData.int):=by
 rw[lX (ds:=W.map au) (p:=fun d=>decide (iK ((cR d).getD 1 .none)=i)) (h:=fun d=>(cR d).getD 0 .none) rfl (by rw[zD];omega) (fun d hd=>?_) fun d hd _=>?_]
 ·rw[List.filter_map,zM,ofT,zM];rfl
 ·obtain⟨w,_,rfl⟩:=zQ.mp hd
  simp! [Ji,dk,gC]
  rfl
 ·obtain⟨w,_,rfl⟩:=zQ.mp hd
  simp! [IY]
  rfl
theorem sP{m:Nat}(hm:m<=1000):xq ((m:Nat):Int)=true:=by
 unfold xq
 rw[zF,zJ,zJ]
 have h1:(0:Int)<=(m:Int):=Int.natCast_nonneg m
 have h2:(m:Int)<=1000:=by omega
 exact⟨Int.le_trans (by decide) h1,Int.lt_of_le_of_lt h2 (by decide)⟩
theorem va{j:Int}(h:xq j=true):k5 [.int j]=some ((List.range j.toNat).map fun i=>PyData.int ((i:Nat):Int)):=by
 rw[k5,if_pos h]
theorem uX{fi:Dl.Env->Option D}{ρ:Dl.Env}(m:Nat)(hm:m<=1000)(h:fi ρ=some (.int (m:Nat))):bC (aa fi ae) ρ=some ((List.range m).map fun i=>PyData.int ((i:Nat):Int)):=by
 have e:aa fi ae ρ=some [.int ((m:Nat):Int)]:=by simp only[aa,ae,h,zA,zB]
 have e2:bC (aa fi ae) ρ=(aa fi ae ρ).bind k5:=rfl
 rw[e2,e,zA,va (sP hm),yH]
theorem Ie{W:List Wy}{m:Nat}{i7 i5:Nat}{ρ:Dl.Env}(hw:W.length<=20)(hm:m<=1000)(h5:ab i5 ρ=some (.int (m:Nat)))(h7:(ρ[i7]?).getD none=some (.list (W.map au))) :
  ao 1 [i7] (bC (aa (ab i5) ae)) (fG 0) (fun _=>some true) (bP (ao 1 [0] (aX (ab 1)) (fG 0) (fB (f2 bS (f2 aq (ab 0) (fC (.int 0))) (ab 1))) (f2 aq (ab 0) (fC (.int 1))))) ρ=some ((kN W m).map cq):=by
 rw[bQ (h:=fun d=>cq (As W (iK d))) (uX m hm h5) (by rw[zD,zS];omega) fun d hd=>?_]
 ·rw[kN,zM,zM];rfl
 ·obtain⟨i,_,rfl⟩:=zQ.mp hd
  simp only[zI,List.map_nil,h7,bP,ON W _ hw,zB,cq,iK]
theorem GH{W:List Wy}{m:Nat}{i7 i5:Nat}{ρ:Dl.Env}(hw:W.length<=20)(hm:m<=1000)(h5:ab i5 ρ=some (.int (m:Nat)))(h7:(ρ[i7]?).getD none=some (.list (W.map au))) :
  ao 1 [i7] (bC (aa (ab i5) ae)) (fG 0) (fun _=>some true) (bP (ao 1 [0] (aX (ab 1)) (fG 0) (fB (f2 bS (f2 aq (ab 0) (fC (.int 1))) (ab 1))) (f2 aq (ab 0) (fC (.int 0))))) ρ=some ((kJ W m).map cq):=by
 rw[bQ (h:=fun d=>cq (ofT W (iK d))) (uX m hm h5) (by rw[zD,zS];omega) fun d hd=>?_]
 ·rw[kJ,zM,zM];rfl
 ·obtain⟨i,_,rfl⟩:=zQ.mp hd
  simp only[zI,List.map_nil,h7,bP,OR W _ hw,zB,cq,iK]
noncomputable def IC(c:Int):Dl.Env->Option D:=(aM (aa (ah 3 ak (aa (ab 2) (aa (f2 aI (f2 aI (ab 3) (fC (.int c))) (ab 0)) (aa (fC (.int 4)) ae)))) (aa (ab 1) ae)))
theorem MN{ns:List Int}{a:Int}(c:Int)(hl:ns.length<=63):∀ (mine:List (List Int)) (k:Nat),cx (f7 0 1) (fun _=>some true) (IC c) [none,none,some (cw ns),some (.int a)] (bB k (mine.map af))=some ((js (fun k=>dr ns (a+c+((k:Nat):Int)) 4) k mine).map bF)
 | [],k=>rfl
 | r::mine,k=>by
  have hg:f7 0 1 [none,none,some (cw ns),some (.int a)] (.tuple [.int ((k:Nat):Int),af r])=some [some (.int ((k:Nat):Int)),some (af r),some (cw ns),some (.int a)]:=rfl
  have he:IC c [some (.int ((k:Nat):Int)),some (af r),some (cw ns),some (.int a)]=some (bF (dr ns (a+c+((k:Nat):Int)) 4,r)):=by
   simp! [IC,r0 (ns:=ns) (a+c+((k:Nat):Int)) 4 hl (by decide),yp,bF]
  have ih:=MN (a:=a) c hl mine (k+1)
  rw[zI,bB,cx,hg]
  simp only[zA,if_true,he,ih,zB,js,zI]
theorem kg:∀ (ds:List D) (k:Nat),(bB k ds).length=ds.length
 | [],k=>rfl
 | d::ds,k=>by rw[bB,zL,zL,kg ds]
theorem xk{ns:List Int}{a c:Int}{i9:Nat}{ρ:Dl.Env}{mine:List (List Int)}(hl:ns.length<=63)(hm:mine.length<=1000)(h9:ab i9 ρ=some (.list (mine.map af)))(h0:(ρ[0]?).getD none=some (cw ns))(h1:(ρ[1]?).getD none=some (.int a)) :
  bb bM (aa (bP (ao 2 [0,1] (bz (aa (ab i9) ae)) (f7 0 1) (fun _=>some true) (IC c))) ae) ρ=some (.tuple ((js (fun k=>dr ns (a+c+((k:Nat):Int)) 4) 0 mine).map bF)):=by
 have hi:bz (aa (ab i9) ae) ρ=some (bB 0 (mine.map af)):=by
  simp only[bz,aa,ae,h9,zA,zB,dg,oneOf,gH]
 have hc:ao 2 [0,1] (bz (aa (ab i9) ae)) (f7 0 1) (fun _=>some true) (IC c) ρ=some ((js (fun k=>dr ns (a+c+((k:Nat):Int)) 4) 0 mine).map bF):=by
  simp only[ao,hi,zA,d9,zI,List.map_nil,h0,h1,List.replicate,List.cons_append,List.nil_append,MN c hl]
  exact bf (by rw[zD,iC];omega)
 simp only[bb,aa,ae,bP,hc,zB,zA,bM,dg,oneOf,gH]
theorem ai{g1 g2:aj->Option Out}{ρ ρ':aj}(h:g1 ρ=some (.nx ρ')):ar g1 g2 ρ=g2 ρ':=by
 simp only[ar,h,zA]
theorem aG{g:aj->Option Out}{n:Nat}{args:List D}{d:D}(h:g (args.map Slot.val++List.replicate (n - args.length) .non)=some (.rt d)):bh g n args=some d:=by
 simp only[bh,h,zB]
theorem iD{g:D->D->Option D}{fa fb:Dl.Env->Option D}{ρ:Dl.Env}{a b:D}(ha:fa ρ=some a)(hb:fb ρ=some b):f2 g fa fb ρ=g a b:=by
 simp only[f2,ha,hb,zA]
theorem JV{ns:List Int}{a mo:Int}{m s:Nat}(m1:m<=3)(s1:s<=3):f2 eB (ab 5) (ab 6) (cf (st ns a mo m s .non (.own []) .non .non .non .non))=some (.int ((m * s:Nat):Int)):=by
 have h:Dl.eB (.int (m:Int)) (.int (s:Int))=some (.int ((m:Int) * (s:Int))):=eW (kY (by omega))
 rw[iD (a:=.int (m:Int)) (b:=.int (s:Int)) rfl rfl,h,Int.natCast_mul]
theorem Lx{ns:List Int}{a mo:Int}{m s:Nat}(m1:m<=3)(s1:s<=3)(hms:m * s<=9){W:List Wy}{t8:Slot}(e: d7 (n0 8) lB ((List.range' 0 (m * s)).map fun i=>PyData.int ((i:Nat):Int)) (st ns a mo m s .non (.own (([]:List Wy).map au)) .non .non .non .non)=some (.nx (st ns a mo m s .non (.own (W.map au)) t8 .non .non .non))):dM [5,6] (bC (aa (f2 eB (ab 5) (ab 6)) ae)) (n0 8) lB (st ns a mo m s .non (.own []) .non .non .non .non)=some (.nx (st ns a mo m s .non (.own (W.map au)) t8 .non .non .non)):=by
 have hh:hand [5,6] 0 (st ns a mo m s .non (.own []) .non .non .non .non)=st ns a mo m s .non (.own []) .non .non .non .non:=rfl
 have hr:=uX (fi:=f2 eB (ab 5) (ab 6)) (ρ:=cf (st ns a mo m s .non (.own []) .non .non .non .non)) (m * s) (by omega) (JV m1 s1)
 rw[yI] at hr
 rw[List.map_nil] at e
 simp only[dM,hh,hr,zA]
 exact e
structure NR(mo:Int)(G T:List Pl)(W:List Wy):Prop where
 g3:G.length<=3
 t3:T.length<=3
 w2:∀w∈W,w.2.2<=2
 ga:∀p∈G,p.1<=3
 ta:∀p∈T,p.1<=3
 wm:(W.length:Int)<=mo
theorem uL{ns:List Int}{a mo:Int}(hl:ns.length<=63)(hmo:3 < mo)(c:dr ns (a+64) 4=0):∃G T W,bW [cw ns,.int a,.int mo]=some (aw G T W)/\Wd G T W/\NR mo G T W:=by
 have e64:=r0 (ns:=ns) (a+64) 4 hl (by decide)
 have e65:=gg (ns:=ns) (a+65) 2 hl (by decide)
 refine⟨_,_,_,?_,Cd (c:=1+dr ns (a+65) 2) (by omega) (by omega),⟨by simp,by simp,by decide,fun p hp=>?_,fun p hp=>?_,by simp;omega⟩⟩
 rotate_left
 ·simp only[zR,yG,or_false] at hp;rcases hp with rfl|rfl<;>(simp only;omega)
 ·simp only[zR,yG,or_false] at hp;rcases hp with rfl|rfl<;>(simp only;omega)
 have s1:Dl.ay 3 [0,1] (f2 aI (fC (.int 1)) (ah 3 ak (aa (ab 0) (aa (f2 aI (ab 1) (fC (.int 65))) (aa (fC (.int 2)) ae))))) [.val (cw ns),.val (.int a),.val (.int mo),.non,.non,.non,.non,.non,.non,.non,.non,.non]=some (.nx [.val (cw ns),.val (.int a),.val (.int mo),.val (.int (1+dr ns (a+65) 2)),.non,.non,.non,.non,.non,.non,.non,.non]) :=
  eE (d:=.int (1+dr ns (a+65) 2)) (by simp! [e65.1]) rfl
 generalize 1+dr ns (a+65) 2=x at *
 have s2:Dl.ay 4 [3] (aM (aa (aM (aa (ab 3) (aa (aM (aa (fC (.int 1)) (aa (fC (.int 0)) ae))) ae))) (aa (aM (aa (ab 3) (aa (aM (aa (fC (.int 0)) (aa (fC (.int 1)) ae))) ae))) ae))) [.val (cw ns),.val (.int a),.val (.int mo),.val (.int x),.non,.non,.non,.non,.non,.non,.non,.non]=some (.nx [.val (cw ns),.val (.int a),.val (.int mo),.val (.int x),.val (.tuple [bF (x,[1,0]),bF (x,[0,1])]),.non,.non,.non,.non,.non,.non,.non]) :=
  cn (d:=.tuple [bF (x,[1,0]),bF (x,[0,1])]) (by simp! [yp];rfl) rfl rfl rfl
 simp! [bW,d5,fP,e64,c,dk,decide_true,gC,show decide ((3:Int) < mo)=true from yB hmo,s1,s2,yp,yO,show ∀a b c d:D,small [a,b,c,d]=some [a,b,c,d] from fun _ _ _ _=>rfl]
 rfl
theorem ua{ns:List Int}{a mo:Int}(hl:ns.length<=63)(hm0:0<=mo)(c:¬ (3 < mo/\dr ns (a+64) 4=0)):∃G T W,bW [cw ns,.int a,.int mo]=some (aw G T W)/\Wd G T W/\NR mo G T W:=by
 have e64:=r0 (ns:=ns) (a+64) 4 hl (by decide)
 have em:=gg (ns:=ns) a 3 hl (by decide)
 have es:=gg (ns:=ns) (a+1) 3 hl (by decide)
 obtain⟨m,hm⟩:=Int.eq_ofNat_of_zero_le (show 0<=1+dr ns a 3 by omega)
 obtain⟨s,hs⟩:=Int.eq_ofNat_of_zero_le (show 0<=1+dr ns (a+1) 3 by omega)
 have m1:1<=m/\m<=3:=by omega
 have s1:1<=s/\s<=3:=by omega
 have hs':(s:Int)=1\/(s:Int)=2\/(s:Int)=3:=by omega
 have hm':(m:Int)=1\/(m:Int)=2\/(m:Int)=3:=by omega
 have t5:Dl.ay 5 [0,1] (f2 aI (fC (.int 1)) (ah 3 ak (aa (ab 0) (aa (ab 1) (aa (fC (.int 3)) ae))))) [.val (cw ns),.val (.int a),.val (.int mo),.non,.non,.non,.non,.non,.non,.non,.non,.non]=some (.nx [.val (cw ns),.val (.int a),.val (.int mo),.non,.non,.val (.int (m:Nat)),.non,.non,.non,.non,.non,.non]) :=
  eE (d:=.int (m:Nat)) (by simp! [em.1,hm]) rfl
 have t6:Dl.ay 6 [0,1] (f2 aI (fC (.int 1)) (ah 3 ak (aa (ab 0) (aa (f2 aI (ab 1) (fC (.int 1))) (aa (fC (.int 3)) ae))))) [.val (cw ns),.val (.int a),.val (.int mo),.non,.non,.val (.int (m:Nat)),.non,.non,.non,.non,.non,.non]=some (.nx (st ns a mo m s .non .non .non .non .non .non)) :=
  eE (d:=.int (s:Nat)) (by simp! [es.1,hs]) rfl
 have t7:aS 7 [] (dc ae) (st ns a mo m s .non .non .non .non .non .non)=some (.nx (st ns a mo m s .non (.own []) .non .non .non .non)):=by
  simp only[aS,lR,dc,ae,zA,iG,zB,List.set_cons_succ,List.set_cons_zero]
 have hms:m * s<=9:=Nat.mul_le_mul m1.2 s1.2
 have hms1:1<=m * s:=Nat.mul_le_mul m1.1 s1.1
 obtain⟨W,t8,e,h8,I⟩:=FB (ns:=ns) (a:=a) (m:=m) (s:=s) hl hs' (m * s) 0 (W:=[]) (x8:=.non) (by omega) (mo:=mo) ⟨fun w hw=>(by cases hw),List.Pairwise.nil,by decide,hm0⟩
 rw[Nat.zero_add] at I
 obtain⟨d8,rfl⟩:∃d,t8=.val d:=h8.elim (fun z=>by omega) id
 have hlen9:W.length<=9:=by have:=I.len;omega
 have tf:=Lx m1.2 s1.2 hms e
 unfold lB at tf
 have hwl:W.length<=20:=by omega
 have wr:∀w∈W,(0<=w.1/\w.1 < m)/\(0<=w.2.1/\w.2.1 < s)/\1<=w.2.2/\w.2.2<=9:=fun w hw=>by
  obtain⟨j,j0,jk,ea,b,c1,c2⟩:=I.mem w hw
  have:=Lr hs' hm' j0 (by rw[<- Int.natCast_mul];exact jk)
  rw[ea,b]
  exact⟨this.1,this.2,c1,by omega⟩
 have lenG:∀r∈kN W m,r.length<=1000:=fun r hr=>by
  obtain⟨i,_,rfl⟩:=zQ.mp hr
  rw[As,zD]
  exact yE (List.length_filter_le _ _) (by omega)
 have lenT:∀r∈kJ W s,r.length<=1000:=fun r hr=>by
  obtain⟨i,_,rfl⟩:=zQ.mp hr
  rw[ofT,zD]
  exact yE (List.length_filter_le _ _) (by omega)
 obtain⟨mine,om,pm⟩:=vP (ns:=ns) (a:=a+24) (rows:=kN W m) hl lenG (by rw[kN,zD,zS];omega)
 obtain⟨yours,oy,py⟩:=vP (ns:=ns) (a:=a+40) (rows:=kJ W s) hl lenT (by rw[kJ,zD,zS];omega)
 have lm:mine.length<=1000:=by rw[eG pm,kN,zD,zS];omega
 have ly:yours.length<=1000:=by rw[eG py,kJ,zD,zS];omega
 have t9:Dl.ay 9 [0,1,5,7] (ah 3 bK (aa (ab 0) (aa (f2 aI (ab 1) (fC (.int 24))) (aa (bP (ao 1 [7] (bC (aa (ab 5) ae)) (fG 0) (fun _=>some true) (bP (ao 1 [0] (aX (ab 1)) (fG 0) (fB (f2 bS (f2 aq (ab 0) (fC (.int 0))) (ab 1))) (f2 aq (ab 0) (fC (.int 1))))))) ae)))) (st ns a mo m s .non (.own (W.map au)) (.val d8) .non .non .non)=some (.nx (st ns a mo m s .non (.val (.list (W.map au))) (.val d8) (.val (.list (mine.map af))) .non .non)):=by
  refine (cn (ρ':=st ns a mo m s .non (.val (.list (W.map au))) (.val d8) .non .non .non) (d:=.list (mine.map af)) ?_ rfl rfl ?_).trans rfl
  ·have q:=Ie (ρ:=bg (st ns a mo m s .non (.own (W.map au)) (.val d8) .non .non .non)) (i5:=5) (i7:=7) hwl (show m<=1000 by omega) rfl rfl
   simp only[ah,aa,ae,bP,q,zB,zA]
   simp! [om]
  ·simp only[st,cf,bg,zI,List.map_nil];rfl
 have t10:Dl.ay 10 [0,1,6,7] (ah 3 bK (aa (ab 0) (aa (f2 aI (ab 1) (fC (.int 40))) (aa (bP (ao 1 [7] (bC (aa (ab 6) ae)) (fG 0) (fun _=>some true) (bP (ao 1 [0] (aX (ab 1)) (fG 0) (fB (f2 bS (f2 aq (ab 0) (fC (.int 1))) (ab 1))) (f2 aq (ab 0) (fC (.int 0))))))) ae)))) (st ns a mo m s .non (.val (.list (W.map au))) (.val d8) (.val (.list (mine.map af))) .non .non)=some (.nx (st ns a mo m s .non (.val (.list (W.map au))) (.val d8) (.val (.list (mine.map af))) (.val (.list (yours.map af))) .non)):=by
  refine (cn (ρ':=st ns a mo m s .non (.val (.list (W.map au))) (.val d8) (.val (.list (mine.map af))) .non .non) (d:=.list (yours.map af)) ?_ rfl ?_ ?_).trans rfl
  ·have q:=GH (ρ:=bg (st ns a mo m s .non (.val (.list (W.map au))) (.val d8) (.val (.list (mine.map af))) .non .non)) (i5:=6) (i7:=7) hwl (show s<=1000 by omega) rfl rfl
   simp only[ah,aa,ae,bP,q,zB,zA]
   simp! [oy]
  ·rfl
  ·simp only[st,cf,bg,zI,List.map_nil];rfl
 have t11:Dl.ay 11 [0,1,8,9] (bb bM (aa (bP (ao 2 [0,1] (bz (aa (ab 9) ae)) (f7 0 1) (fun _=>some true) (IC 56))) ae)) (st ns a mo m s .non (.val (.list (W.map au))) (.val d8) (.val (.list (mine.map af))) (.val (.list (yours.map af))) .non)=some (.nx (st ns a mo m s .non (.val (.list (W.map au))) (.val d8) (.val (.list (mine.map af))) (.val (.list (yours.map af))) (.val (.tuple ((js (fun k=>dr ns (a+56+((k:Nat):Int)) 4) 0 mine).map bF))))):=by
  refine (cn (ρ':=st ns a mo m s .non (.val (.list (W.map au))) (.val d8) (.val (.list (mine.map af))) (.val (.list (yours.map af))) .non) (xk hl lm rfl rfl rfl) rfl rfl ?_).trans rfl
  simp only[st,cf,bg,zI,List.map_nil];rfl
 have t4:∀G:D,Dl.ay 4 [0,1,8,10] (bb bM (aa (bP (ao 2 [0,1] (bz (aa (ab 10) ae)) (f7 0 1) (fun _=>some true) (IC 60))) ae)) (st ns a mo m s .non (.val (.list (W.map au))) (.val d8) (.val (.list (mine.map af))) (.val (.list (yours.map af))) (.val G))=some (.nx (st ns a mo m s (.val (.tuple ((js (fun k=>dr ns (a+60+((k:Nat):Int)) 4) 0 yours).map bF))) (.val (.list (W.map au))) (.val d8) (.val (.list (mine.map af))) (.val (.list (yours.map af))) (.val G))):=fun G=>by
  refine (cn (ρ':=st ns a mo m s .non (.val (.list (W.map au))) (.val d8) (.val (.list (mine.map af))) (.val (.list (yours.map af))) (.val G)) (xk hl ly rfl rfl rfl) rfl rfl ?_).trans rfl
  simp only[st,cf,bg,zI,List.map_nil];rfl
 refine⟨_,_,W,?_,HZ (f:=fun k=>dr ns (a+56+((k:Nat):Int)) 4) (g:=fun k=>dr ns (a+60+((k:Nat):Int)) 4) m1.1 (by omega) s1.1 (by omega) (fun k=>?_) (fun k=>?_) pm py wr I.ris (by omega),⟨by rw[iC,eG pm,kN,zD,zS];omega,by rw[iC,eG py,kJ,zD,zS];omega,fun w hw=>(by obtain⟨j,_,_,_,_,_,z⟩:=I.mem w hw;exact z),fun p hp=>?_,fun p hp=>?_,I.lem⟩⟩
 ·unfold IC at t11 t4
  have tA:∀g,dN (dm (fB (f2 wJ (ab 2) (fC (.int 3)))) (fB (f2 bS (ah 3 ak (aa (ab 0) (aa (f2 aI (ab 1) (fC (.int 64))) (aa (fC (.int 4)) ae)))) (fC (.int 0))))) g dJ [.val (cw ns),.val (.int a),.val (.int mo),.non,.non,.non,.non,.non,.non,.non,.non,.non]=some (.nx [.val (cw ns),.val (.int a),.val (.int mo),.non,.non,.non,.non,.non,.non,.non,.non,.non]):=fun g=>by
   by_cases c1:3 < mo
   ·have c2:¬ dr ns (a+64) 4=0:=fun z=>c ⟨c1,z⟩
    simp! [fP,e64,c1,c2,dk,decide_false,decide_true,gC,Bool.false_eq_true]
   ·simp! [fP,c1,decide_false,gC,Bool.false_eq_true]
  refine aG ?_
  show d5 [.val (cw ns),.val (.int a),.val (.int mo),.non,.non,.non,.non,.non,.non,.non,.non,.non]=_
  unfold d5
  rw[ai (tA _),ai t5,ai t6,ai t7,ai tf,ai t9,ai t10,ai t11,ai (t4 _)]
  simp! [yO,aw]
 ·have q:=gg (ns:=ns) (a+56+((k:Nat):Int)) 4 hl (by decide)
  exact⟨q.2.1,by omega⟩
 ·have q:=gg (ns:=ns) (a+60+((k:Nat):Int)) 4 hl (by decide)
  exact⟨q.2.1,by omega⟩
 ·obtain⟨i,hi⟩:=List.getElem?_of_mem hp
  obtain⟨r,_,rfl⟩:=iq _ hi
  have q:=gg (ns:=ns) (a+56+((0+i:Nat):Int)) 4 hl (by decide)
  simp only;omega
 ·obtain⟨i,hi⟩:=List.getElem?_of_mem hp
  obtain⟨r,_,rfl⟩:=iq _ hi
  have q:=gg (ns:=ns) (a+60+((0+i:Nat):Int)) 4 hl (by decide)
  simp only;omega
theorem wg{ns:List Int}{a mo:Int}(hl:ns.length<=63)(hm0:0<=mo):∃G T W,bW [cw ns,.int a,.int mo]=some (aw G T W)/\Wd G T W/\NR mo G T W:=by
 by_cases c:3 < mo/\dr ns (a+64) 4=0
 ·exact uL hl c.1 c.2
 ·exact ua hl hm0 c
section
variable {G T:List Pl}{W:List Wy}
theorem Je(h:uO W):(W.map fun w=>[w.1,w.2.1]).Pairwise fun a b=>Dl.lexLt a b=true:=List.pairwise_map.mpr (h.imp fun hab=>N9 hab)
theorem Ds(h:uO W):(W.map fun w=>[w.1,w.2.1]).Nodup:=(Je h).imp fun {a b} hab e=>by
 rw[e,gf] at hab
 cases hab
theorem Dz(h:uO W){m:List (List Int)}(hn:m.Nodup)(hm:∀r,r∈W.map (fun w=>[w.1,w.2.1])↔r∈m):W.map (fun w=>[w.1,w.2.1])=tq m :=
 Fh ((List.perm_ext_iff_of_nodup (Ds h) hn).mpr hm) ((Je h).imp fun hab=>Mg hab)
theorem Wd.wok(h:Wd G T W):M9 (aw G T W)=true:=by
 have hP:(W.map au).map fA=W.map fun w=>[w.1,w.2.1]:=by rw[zM];rfl
 have hpg:∀i j:Int,[i,j]∈W.map (fun w=>[w.1,w.2.1])↔[i,j]∈lu 0 (G.map bF):=fun i j=>by
  rw[oE]
  constructor
  ·intro hm
   obtain⟨w,hw,e⟩:=zQ.mp hm
   simp only[List.cons.injEq,and_true] at e
   have hr:=(h.wr w hw).1
   obtain⟨p,hp⟩:∃p,G[i.toNat]?=some p:=⟨G[i.toNat]'(by omega),zK (by omega)⟩
   refine⟨i.toNat,bF p,by rw[zO,hp];rfl,by omega,?_⟩
   rw[fS,(h.gl _ p hp).mem_iff,sX,show ((i.toNat:Nat):Int)=i by omega]
   exact hm
  ·rintro⟨m,p,hp,rfl,hj⟩
   rw[zO] at hp
   obtain⟨p',hp',rfl⟩:=Option.map_eq_some_iff.mp hp
   rw[fS,(h.gl m p' hp').mem_iff,sX] at hj
   rwa [Nat.zero_add]
 have hpt:∀i j:Int,[i,j]∈W.map (fun w=>[w.1,w.2.1])↔[j,i]∈lu 0 (T.map bF):=fun i j=>by
  rw[oE]
  constructor
  ·intro hm
   obtain⟨w,hw,e⟩:=zQ.mp hm
   simp only[List.cons.injEq,and_true] at e
   have hr:=(h.wr w hw).2.1
   obtain⟨p,hp⟩:∃p,T[j.toNat]?=some p:=⟨T[j.toNat]'(by omega),zK (by omega)⟩
   refine⟨j.toNat,bF p,by rw[zO,hp];rfl,by omega,?_⟩
   rw[fS,(h.tl _ p hp).mem_iff,tj,show ((j.toNat:Nat):Int)=j by omega]
   exact hm
  ·rintro⟨m,p,hp,rfl,hj⟩
   rw[zO] at hp
   obtain⟨p',hp',rfl⟩:=Option.map_eq_some_iff.mp hp
   rw[fS,(h.tl m p' hp').mem_iff,tj] at hj
   rwa [Nat.zero_add]
 have two:∀ {r:List Int},r∈W.map (fun w=>[w.1,w.2.1])->∃i j,r=[i,j]:=fun hr=>by
  obtain⟨w,_,rfl⟩:=zQ.mp hr
  exact⟨_,_,rfl⟩
 have ng:∀ (L:List Pl),(∀p∈L,p.2.Nodup)->(lu 0 (L.map bF)).Nodup:=fun L hL=>rY fun p hp=>by
  obtain⟨p',hp',rfl⟩:=zQ.mp hp
  rw[fS]
  exact hL p' hp'
 have e1:W.map (fun w=>[w.1,w.2.1])=tq (lu 0 (G.map bF)):=Dz h.wp (ng G fun p hp=>by
   obtain⟨i,hi,e⟩:=List.getElem_of_mem hp
   exact (h.gl i p (by rw[zK hi,e])).nodup_iff.mpr (nr h.wp i)) fun r=>⟨fun hr=>by
   obtain⟨i,j,rfl⟩:=two hr
   exact (hpg i j).mp hr,fun hr=>by
   obtain⟨i,j,rfl⟩:=j9 r hr
   exact (hpg i j).mpr hr⟩
 have e2:W.map (fun w=>[w.1,w.2.1])=tq ((lu 0 (T.map bF)).map List.reverse):=Dz h.wp (by
   exact List.pairwise_map.mpr (List.Pairwise.imp (fun {a b} hne e=>hne (List.reverse_inj.mp e)) (ng T fun p hp=>by
    obtain⟨i,hi,e⟩:=List.getElem_of_mem hp
    exact (h.tl i p (by rw[zK hi,e])).nodup_iff.mpr (mF h.wp i)))) fun r=>⟨fun hr=>by
   obtain⟨i,j,rfl⟩:=two hr
   exact zQ.mpr ⟨[j,i],(hpt i j).mp hr,rfl⟩,fun hr=>by
   obtain⟨r',hr',rfl⟩:=zQ.mp hr
   obtain⟨i,j,rfl⟩:=j9 r' hr'
   exact (hpt j i).mpr hr'⟩
 have hw:(W.map au).all (jq G.length T.length)=true:=by
  rw[List.all_eq_true]
  intro x hx
  obtain⟨w,hw,rfl⟩:=zQ.mp hx
  exact Cu (h.wr w hw)
 have hs:∀ {L:List Pl},1<=L.length->L.length<=4->m7 (.tuple (L.map bF))=true:=fun {L} a b=>by
  simp only[m7,long,zD,zF,zJ];omega
 have h3:long 3 3 (aw G T W)=true:=rfl
 have hg:=h.gok
 have ht:=h.tok
 unfold M9 xO
 rw[h3,Bool.true_and]
 simp only[aw,cR,List.getD_cons_zero,List.getD_cons_succ,hP,<- e1,<- e2,decide_true,Bool.and_true,jj,hs h.g1 h.g4,hs h.t1 h.t4,zD,hg,ht,hw,IU]
end
noncomputable def sI(b:Bool):Int:=if b then 1 else 0
noncomputable def br(b:Bool)(w:Wy):Int:=if b then w.2.1 else w.1
noncomputable def b8(b:Bool)(w:Wy):Int:=br (!b) w
noncomputable def bq(b:Bool)(G T:List Pl):List Pl:=if b then T else G
theorem oD(b:Bool)(G T:List Pl)(W:List Wy):aq (aw G T W) (.int (sI b))=some (.tuple ((bq b G T).map bF)):=by cases b<;>rfl
theorem mh(G T:List Pl)(W:List Wy):aq (aw G T W) (.int 2)=some (.tuple (W.map au)):=rfl
theorem oR(b:Bool)(w:Wy):aq (au w) (.int (sI b))=some (.int (br b w)):=by cases b<;>rfl
theorem HB(b:Bool)(w:Wy):aq (au w) (.int (1 - sI b))=some (.int (b8 b w)):=by cases b<;>rfl
theorem Ao(w:Wy):aq (au w) (.int 2)=some (.int w.2.2):=rfl
theorem Gf(p:Pl):aq (bF p) (.int 0)=some (.int p.1):=rfl
theorem F6(p:Pl):aq (bF p) (.int 1)=some (af p.2):=rfl
theorem qx{ds:List D}{i:Nat}{d:D}(h:ds[i]?=some d):aq (.tuple ds) (.int ((i:Nat):Int))=some d:=by
 show uU ds (i:Nat)=_
 exact sZ h
theorem Fe{ds:List D}{i:Nat}{d:D}(h:ds[i]?=some d):aq (.list ds) (.int ((i:Nat):Int))=some d:=by
 show uU ds (i:Nat)=_
 exact sZ h
theorem nv{α:Type}{f:α->D}{l:List α}{i:Nat}{x:α}(h:l[i]?=some x):aq (.tuple (l.map f)) (.int ((i:Nat):Int))=some (f x):=qx (by rw[zO,h];rfl)
theorem Ig{α:Type}{f:α->D}{l:List α}{i:Nat}{x:α}(h:l[i]?=some x):aq (.list (l.map f)) (.int ((i:Nat):Int))=some (f x):=Fe (by rw[zO,h];rfl)
noncomputable def LB(b:Bool)(W:List Wy)(p:Int):List Int:=(W.filter fun w=>decide (br b w=p)).map (b8 b)
theorem Wd.lik{G T:List Pl}{W:List Wy}(h:Wd G T W){b:Bool}{i:Nat}{p:Pl}(e:(bq b G T)[i]?=some p):p.2.Perm (LB b W i):=by
 cases b
 ·exact h.gl i p e
 ·exact h.tl i p e
theorem Wd.nod{G T:List Pl}{W:List Wy}(h:Wd G T W)(b:Bool)(i:Int):(LB b W i).Nodup:=by
 cases b
 ·exact nr h.wp i
 ·exact mF h.wp i
theorem qa{tt:Dl.Env->Option Bool}{te:Dl.Env->Option D}{r:List (Option D)}{p:Nat->D->Bool}{h:Nat->D->D}:∀ {ds:List D}{k:Nat},
  (∀i d,ds[i]?=some d->tt (some (.int ((k+i:Nat):Int))::some d::r)=some (p (k+i) d)/\(p (k+i) d=true->te (some (.int ((k+i:Nat):Int))::some d::r)=some (h (k+i) d))) ->
  cx (f7 0 1) tt te (none::none::r) (bB k ds)=some (((ds.zipIdx k).filter fun q=>p q.2 q.1).map fun q=>h q.2 q.1)
 | [],k,_=>rfl
 | d::ds,k,hh=>by
  obtain⟨h1,h2⟩:=hh 0 d rfl
  have ih:=qa (ds:=ds) (k:=k+1) fun i x hx=>by
   have:=hh (i+1) x (by simpa using hx)
   rw[show k+1+i=k+(i+1) by omega]
   exact this
  have hg:f7 0 1 (none::none::r) (.tuple [.int ((k:Nat):Int),d])=some (some (.int ((k:Nat):Int))::some d::r):=by
   simp only[f7,isFree,List.getElem?_cons_zero,List.getElem?_cons_succ,Option.getD_some,Option.isNone_none,and_self,if_true,List.set_cons_zero,List.set_cons_succ]
  rw[bB,cx,hg,List.zipIdx_cons]
  simp only[Nat.add_zero] at h1 h2
  simp only[zA,h1]
  cases hp:p k d with
  | true=>simp[h2 hp,ih,hp]
  | false=>simp[ih,hp]
theorem A9{cs:List Nat}{fi:Dl.Env->Option (List D)}{tt:Dl.Env->Option Bool}{te:Dl.Env->Option D}{ρ:Dl.Env}{ds:List D}{p:Nat->D->Bool}{h:Nat->D->D}(hfi:fi ρ=some (bB 0 ds))(hl:ds.length<=1000)
  (hh:∀i d,ds[i]?=some d->tt (some (.int ((i:Nat):Int))::some d::cs.map fun j=>(ρ[j]?).getD none)=some (p i d)/\(p i d=true->te (some (.int ((i:Nat):Int))::some d::cs.map fun j=>(ρ[j]?).getD none)=some (h i d))) :
  ao 2 cs fi (f7 0 1) tt te ρ=some ((ds.zipIdx.filter fun q=>p q.2 q.1).map fun q=>h q.2 q.1):=by
 have:=qa (tt:=tt) (te:=te) (r:=cs.map fun j=>(ρ[j]?).getD none) (p:=p) (h:=h) (ds:=ds) (k:=0) (by simpa using hh)
 simp only[ao,hfi,zA,d9,List.replicate,List.cons_append,List.nil_append,this]
 refine bf ?_
 rw[zD]
 refine yE (List.length_filter_le _ _) ?_
 rw[List.length_zipIdx]
 omega
theorem ie{α:Type}(f:α->Int):∀ {l m:List α},l.Perm m->(l.Pairwise fun a b=>f a<=f b)->(m.Pairwise fun a b=>f a < f b)->l=m
 | l,[],hp,_,_=>hp.eq_nil
 | [],x::m,hp,_,_=>absurd hp.symm.eq_nil (by simp)
 | y::l,x::m,hp,h1,h2=>by
  rw[List.pairwise_cons] at h1 h2
  have e:y=x:=by
   have hx:x∈y::l:=hp.mem_iff.mpr zE
   rcases zR.mp hx with z|hx
   ·exact z.symm
   ·have hy:y∈x::m:=hp.mem_iff.mp zE
    rcases zR.mp hy with z|hy
    ·exact z
    ·have:=h1.1 x hx
     have:=h2.1 y hy
     omega
  subst e
  rw[ie f ((List.perm_cons y).mp hp) h1.2 h2.2]
theorem p8{α:Type}(z:Nat->Int)(l:List α)(d:α)(f:α->Int)(h:∀i,i < l.length->z i=f (l.getD i d)):(oK z l d).Pairwise fun a b=>f a<=f b:=by
 unfold oK
 split
 ·rename_i hl
  match l,hl with
  | [],_=>exact List.Pairwise.nil
  | [a],_=>exact List.pairwise_singleton _ _
 ·rename_i hl
  obtain⟨hp,hs⟩:=SP.gN (z:=z) (n:=l.length) (by omega)
  rw[List.pairwise_map] at hs ⊢
  refine hs.imp_of_mem fun {i j} hi hj hij=>?_
  have hi':i < l.length:=by have:=hp.mem_iff.mp hi;simpa using this
  have hj':j < l.length:=by have:=hp.mem_iff.mp hj;simpa using this
  rw[<- h i hi',<- h j hj']
  exact hij
noncomputable def aA(W:List Wy)(i:Nat):Wy:=W.getD i (0,0,0)
theorem gY{W:List Wy}{k:Nat}(hk:k < W.length):W[k]=aA W k:=by simp[aA,hk]
theorem lD{W:List Wy}{k:Nat}(hk:k < W.length):W[k]?=some (aA W k):=by rw[zK hk,gY hk]
noncomputable def own(b:Bool)(W:List Wy)(p:Int):List Nat:=(List.range W.length).filter fun i=>decide (br b (aA W i)=p)
noncomputable def nW(b:Bool)(W:List Wy)(p o:Int):Nat:=W.findIdx fun w=>decide (br b w=p)&&decide (b8 b w=o)
noncomputable def fg(b:Bool)(W:List Wy)(p:Int)(L:List Int):List Nat:=L.map (nW b W p)
theorem cC{b:Bool}{W:List Wy}{p:Int}{i:Nat}:i∈own b W p↔i < W.length/\br b (aA W i)=p:=by simp[own]
theorem map_range{α β:Type}(d:α)(f:α->β)(l:List α):(List.range l.length).map (fun i=>f (l.getD i d))=l.map f:=by
 apply List.ext_getElem
 ·simp
 ·intro i h1 h2
  have:i < l.length:=by simpa using h2
  simp[this]
theorem uK{α:Type}(d:α)(q:α->Bool):∀ (l:List α),((List.range l.length).filter fun i=>q (l.getD i d)).map (fun i=>l.getD i d)=l.filter q:=by
 intro l
 have e:l=(List.range l.length).map fun i=>l.getD i d:=by
  have:=map_range d (fun x=>x) l
  simp at this
  simpa using this.symm
 conv=>rhs;rw[e]
 rw[List.filter_map]
 rfl
theorem j6(b:Bool)(W:List Wy)(p:Int):(own b W p).map (fun i=>b8 b (aA W i))=LB b W p:=by
 unfold own LB aA
 rw[<- uK (0,0,0) (fun w=>decide (br b w=p)) W,zM]
 rfl
theorem uE{W:List Wy}(h:uO W){i j:Nat}(hi:i < W.length)(hj:j < W.length)(h1:(aA W i).1=(aA W j).1)(h2:(aA W i).2.1=(aA W j).2.1):i=j:=by
 have e:∀k,k < W.length->W[k]?=some (aA W k):=fun k hk=>by simp[aA,hk]
 rcases Nat.lt_trichotomy i j with z|z|z
 ·have:=List.pairwise_iff_getElem.mp h i j hi hj z
  have a:=e i hi
  have b:=e j hj
  rw[zK hi] at a
  rw[zK hj] at b
  rw[Option.some.inj a,Option.some.inj b] at this
  rcases this with z|z<;>omega
 ·exact z
 ·have:=List.pairwise_iff_getElem.mp h j i hj hi z
  have a:=e i hi
  have b:=e j hj
  rw[zK hi] at a
  rw[zK hj] at b
  rw[Option.some.inj a,Option.some.inj b] at this
  rcases this with z|z<;>omega
theorem wb{W:List Wy}(h:uO W){b:Bool}{i j:Nat}(hi:i < W.length)(hj:j < W.length)(h1:br b (aA W i)=br b (aA W j))(h2:b8 b (aA W i)=b8 b (aA W j)):i=j:=by
 cases b
 ·exact uE h hi hj h1 h2
 ·exact uE h hi hj h2 h1
theorem uu{W:List Wy}(h:uO W){b:Bool}{p:Int}{i:Nat}(hi:i∈own b W p):nW b W p (b8 b (aA W i))=i:=by
 obtain⟨hl,he⟩:=cC.mp hi
 have hw:W[i]=aA W i:=by simp[aA,hl]
 unfold nW
 have hlt:W.findIdx (fun w=>decide (br b w=p)&&decide (b8 b w=b8 b (aA W i))) < W.length:=by
  apply List.findIdx_lt_length_of_exists
  exact⟨W[i],List.getElem_mem _,by rw[hw];simp[he]⟩
 have hq:=List.findIdx_getElem (w:=hlt)
 rw[zF,zJ,zJ] at hq
 rw[gY hlt] at hq
 exact wb h hlt hl (by rw[hq.1,he]) hq.2
theorem eU{G T:List Pl}{W:List Wy}(h:Wd G T W){b:Bool}{i:Nat}{p:Pl}(e:(bq b G T)[i]?=some p):(fg b W i p.2).Perm (own b W i):=by
 have h1:=(h.lik e).map (nW b W i)
 rw[<- j6 b W i,zM] at h1
 have e2:(own b W i).map (nW b W i ∘ fun j=>b8 b (aA W j))=own b W i:=by
  conv=>rhs;rw[<- List.map_id (own b W i)]
  exact yJ fun j hj=>uu h.wp hj
 rw[e2] at h1
 exact h1
theorem lT{G T:List Pl}{W:List Wy}(h:Wd G T W){b:Bool}{i:Nat}{p:Pl}(e:(bq b G T)[i]?=some p){o:Int}(ho:o∈p.2):nW b W i o < W.length/\br b (aA W (nW b W i o))=i/\b8 b (aA W (nW b W i o))=o:=by
 have hm:=(h.lik e).mem_iff.mp ho
 rw[<- j6 b W i] at hm
 obtain⟨j,hj,rfl⟩:=zQ.mp hm
 rw[uu h.wp hj]
 obtain⟨h1,h2⟩:=cC.mp hj
 exact⟨h1,h2,rfl⟩
noncomputable def kD(b:Bool)(W:List Wy)(L:List Int)(d:D):Int:=(L.findIdx fun o=>decide (o=b8 b (aA W (iK d).toNat)):Nat)
theorem nu:∀ {L:List Int}{x:Int},x∈L->vt x L=some (L.findIdx fun o=>decide (o=x))
 | [],x,h=>by cases h
 | o::L,x,h=>by
  unfold vt
  by_cases e:o=x
  ·simp[e,List.findIdx_cons]
  ·rw[if_neg e]
   have hx:x∈L:=(zR.mp h).resolve_left fun z=>e z.symm
   rw[nu hx]
   simp[List.findIdx_cons,e]
theorem EO{G T:List Pl}{W:List Wy}(h:Wd G T W){b:Bool}{i:Nat}{p:Pl}(e:(bq b G T)[i]?=some p)(z:Nat->Int)(hz:∀j,j < (own b W i).length->z j=kD b W p.2 (((own b W i).map fun n=>PyData.int ((n:Nat):Int)).getD j .none)) :
  oK z ((own b W i).map fun n=>PyData.int ((n:Nat):Int)) .none=(fg b W i p.2).map fun n=>PyData.int ((n:Nat):Int):=by
 refine ie (kD b W p.2) ((fY _ _ _).trans ((eU h e).symm.map _)) (p8 z _ _ _ fun j hj=>hz j (by simpa using hj)) ?_
 have hn:p.2.Nodup:=(h.lik e).nodup_iff.mpr (h.nod b i)
 unfold fg
 rw[zM,List.pairwise_map]
 have key:∀k (hk:k < p.2.length),kD b W p.2 (PyData.int ((nW b W i p.2[k]:Nat):Int))=(k:Nat):=fun k hk=>by
  obtain⟨_,_,e3⟩:=lT h e (List.getElem_mem hk)
  unfold kD
  simp only[iK,yH,e3]
  congr 1
  rw[List.findIdx_eq (by exact hk)]
  refine⟨by simp,fun j hj=>?_⟩
  have:=List.pairwise_iff_getElem.mp hn j k (by omega) hk hj
  simpa using this
 refine List.pairwise_iff_getElem.mpr fun j k hj hk hjk=>?_
 show kD b W p.2 (PyData.int ((nW b W i p.2[j]:Nat):Int)) < kD b W p.2 (PyData.int ((nW b W i p.2[k]:Nat):Int))
 rw[key j hj,key k hk]
 omega
noncomputable abbrev nD(n:Nat):D:=.int ((n:Nat):Int)
theorem m9{te:Dl.Env->Option D}{ρ:Dl.Env}{h:D->D}:∀ {ds:List D},(∀d∈ds,te (ρ.set 0 (some d))=some (h d))->iw te ρ ds=some (ds.map h)
 | [],_=>rfl
 | d::ds,hh=>by
  unfold iw
  rw[hh d zE,zA,m9 fun x hx=>hh x (zC _ hx)]
  rfl
theorem ui(b:Bool)(W:List Wy)(p:Int):(own b W p).length<=W.length:=by
 unfold own
 refine yE (List.length_filter_le _ _) ?_
 rw[zS]
 exact Nat.le_refl _
theorem y0(b:Bool)(W:List Wy)(p:Int):(((W.map au).zipIdx.filter fun q=>decide (br b (aA W q.2)=p)).map fun q=>nD q.2)=(own b W p).map nD:=by
 have e:(W.map au).zipIdx=(List.range W.length).map fun i=>(au (aA W i),i):=by
  apply List.ext_getElem
  ·simp
  ·intro i h1 h2
   have:i < W.length:=by simpa using h2
   simp[gY this]
 rw[e,List.filter_map,zM]
 rfl
theorem rK{G T:List Pl}{W:List Wy}(h:Wd G T W){b:Bool}{i:Nat}{p:Pl}(e:(bq b G T)[i]?=some p):ee [aw G T W,.int (sI b),nD i]=some (.list ((fg b W i p.2).map nD)):=by
 have hw:=h.wl
 have ep:aq (.tuple ((bq b G T).map bF)) (nD i)=some (bF p):=nv e
 have hl:=ui b W i
 have t3:Dl.ay 3 [0] (f2 aq (ab 0) (fC (.int 2))) [.val (aw G T W),.val (.int (sI b)),.val (nD i),.non,.non,.non]=some (.nx [.val (aw G T W),.val (.int (sI b)),.val (nD i),.val (.tuple (W.map au)),.non,.non]) :=
  cn (d:=.tuple (W.map au)) rfl rfl rfl rfl
 have t4:Dl.ay 4 [0,1,2] (f2 aq (f2 aq (f2 aq (ab 0) (ab 1)) (ab 2)) (fC (.int 1))) [.val (aw G T W),.val (.int (sI b)),.val (nD i),.val (.tuple (W.map au)),.non,.non]=some (.nx [.val (aw G T W),.val (.int (sI b)),.val (nD i),.val (.tuple (W.map au)),.val (af p.2),.non]):=by
  refine cn (d:=af p.2) ?_ rfl rfl rfl
  rw[iD (a:=bF p) (b:=.int 1) ?_ rfl,F6]
  rw[iD (a:=.tuple ((bq b G T).map bF)) (b:=nD i) ?_ rfl,ep]
  rw[iD (a:=aw G T W) (b:=.int (sI b)) rfl rfl,oD]
 have c5:ao 2 [1,2] (bz (aa (ab 3) ae)) (f7 0 1) (fB (f2 bS (f2 aq (ab 1) (ab 2)) (ab 3))) (ab 0) [some (aw G T W),some (.int (sI b)),some (nD i),some (.tuple (W.map au)),some (af p.2),none]=some ((own b W i).map nD):=by
  rw[A9 (ds:=W.map au) (p:=fun j _=>decide (br b (aA W j)=i)) (h:=fun j _=>nD j) rfl (by rw[zD];omega) fun j d hd=>?_,y0]
  rw[zO] at hd
  obtain⟨w,hw',rfl⟩:=Dl.ag hd
  have hj:j < W.length:=(zU.mp hw').1
  rw[lD hj] at hw'
  cases hw'
  refine⟨?_,fun _=>rfl⟩
  show fB (f2 bS (f2 aq (ab 1) (ab 2)) (ab 3)) [some (nD j),some (au (aA W j)),some (.int (sI b)),some (nD i)]=_
  simp only[fB]
  rw[iD (a:=.int (br b (aA W j))) (b:=nD i) (by rw[iD (a:=au (aA W j)) (b:=.int (sI b)) rfl rfl,oR]) rfl,dk]
  rfl
 have t5:aS 5 [1,2,3] (ao 2 [1,2] (bz (aa (ab 3) ae)) (f7 0 1) (fB (f2 bS (f2 aq (ab 1) (ab 2)) (ab 3))) (ab 0)) [.val (aw G T W),.val (.int (sI b)),.val (nD i),.val (.tuple (W.map au)),.val (af p.2),.non]=some (.nx [.val (aw G T W),.val (.int (sI b)),.val (nD i),.val (.tuple (W.map au)),.val (af p.2),.own ((own b W i).map nD)]):=by
  have hh:hand [1,2,3] 0 [Slot.val (aw G T W),.val (.int (sI b)),.val (nD i),.val (.tuple (W.map au)),.val (af p.2),.non]=[Slot.val (aw G T W),.val (.int (sI b)),.val (nD i),.val (.tuple (W.map au)),.val (af p.2),.non]:=rfl
  simp only[aS,hh,cf,zI,List.map_nil,Slot.frz,c5,zB,List.set_cons_succ,List.set_cons_zero]
 have hk:iw (f2 n6 (ab 3) (f2 aq (f2 aq (ab 2) (ab 0)) (f2 Dl.fJ (fC (.int 1)) (ab 1)))) [none,some (.int (sI b)),some (.tuple (W.map au)),some (af p.2)] ((own b W i).map nD)=some (((own b W i).map nD).map fun d=>.int (kD b W p.2 d)):=by
  refine m9 fun d hd=>?_
  obtain⟨j,hj,rfl⟩:=zQ.mp hd
  obtain⟨hjl,hje⟩:=cC.mp hj
  show f2 n6 (ab 3) (f2 aq (f2 aq (ab 2) (ab 0)) (f2 Dl.fJ (fC (.int 1)) (ab 1))) [some (nD j),some (.int (sI b)),some (.tuple (W.map au)),some (af p.2)]=_
  have ew:aq (.tuple (W.map au)) (nD j)=some (au (aA W j)):=nv (lD hjl)
  rw[iD (a:=af p.2) (b:=.int (b8 b (aA W j))) rfl ?_]
  ·have hm:b8 b (aA W j)∈p.2:=(h.lik e).mem_iff.mpr (by rw[<- j6];exact zQ.mpr ⟨j,hj,rfl⟩)
   simp only[n6,af,cS,zA,nu hm,zB,kD,iK,yH]
   all_goals first|rfl|(congr 3;funext o;congr)
  ·rw[iD (a:=au (aA W j)) (b:=.int (1 - sI b)) ?_ ?_,HB]
   ·rw[iD (a:=.tuple (W.map au)) (b:=nD j) rfl rfl,ew]
   ·rw[iD (a:=.int 1) (b:=.int (sI b)) rfl rfl,p5]
 have hi:intsOf (((own b W i).map nD).map fun d=>PyData.int (kD b W p.2 d))=some (((own b W i).map nD).map (kD b W p.2)):=by
  rw[show (((own b W i).map nD).map fun d=>PyData.int (kD b W p.2 d))=(((own b W i).map nD).map (kD b W p.2)).map PyData.int by simp only[zM];rfl,cS]
 have t6:az (bP (mE [1,3,4] (ab 5) (f2 n6 (ab 3) (f2 aq (f2 aq (ab 2) (ab 0)) (f2 Dl.fJ (fC (.int 1)) (ab 1)))))) [.val (aw G T W),.val (.int (sI b)),.val (nD i),.val (.tuple (W.map au)),.val (af p.2),.own ((own b W i).map nD)]=some (.rt (.list ((fg b W i p.2).map nD))):=by
  have es:mE [1,3,4] (ab 5) (f2 n6 (ab 3) (f2 aq (f2 aq (ab 2) (ab 0)) (f2 Dl.fJ (fC (.int 1)) (ab 1)))) [some (aw G T W),some (.int (sI b)),some (nD i),some (.tuple (W.map au)),some (af p.2),some (.list ((own b W i).map nD))]=some ((fg b W i p.2).map nD):=by
   unfold mE
   show (iw _ [none,some (.int (sI b)),some (.tuple (W.map au)),some (af p.2)] ((own b W i).map nD)).bind _=_
   rw[hk,zA,hi,zA,if_pos (by rw[zD];omega),EO h e _ fun j hj=>?_]
   simp[hj]
  simp only[az,bg,zI,List.map_nil,sY,uy,bP,es,zB]
 refine aG ?_
 show j7 [.val (aw G T W),.val (.int (sI b)),.val (nD i),.non,.non,.non]=_
 unfold j7
 rw[ai t3,ai t4,ai t5,t6]
local macro_rules|`(tactic| dsimp! [$ts,*])=>`(tactic| simp only[ab,fC,f1,f2,aa,ae,ah,bb,mU,aX,gH,bP,fB,gB,ba,dm,il,bz,bg,cf,sY,uy,Au,AG,z6,Ai,zI,List.map_nil,List.getElem?_cons_zero,List.getElem?_cons_succ,zA,zB,Option.getD_some,zL,List.length_nil,Nat.reduceAdd,Nat.zero_add,reduceIte,List.set_cons_succ,List.set_cons_zero,$ts,*])
theorem ma{S α:Type}{tgt:aj->D->Option aj}{gb:aj->Option Out}(R:S->aj->Prop)(f:α->D)(st:S->α->S):∀ {l:List α}{s:S}{ρ:aj},
  (∀s ρ x,x∈l->R s ρ->∃ρ1 ρ2,tgt ρ (f x)=some ρ1/\gb ρ1=some (.nx ρ2)/\R (st s x) ρ2)->R s ρ->∃ρ',d7 tgt gb (l.map f) ρ=some (.nx ρ')/\R (l.foldl st s) ρ'
 | [],s,ρ,_,h=>⟨ρ,rfl,h⟩
 | d::ds,s,ρ,hh,h=>by
  obtain⟨ρ1,ρ2,e1,e2,h2⟩:=hh s ρ d zE h
  obtain⟨ρ',e3,h3⟩:=ma R f st (fun s ρ x hx=>hh s ρ x (zC _ hx)) h2
  refine⟨ρ',?_,h3⟩
  rw[zI,d7,e1,zA,e2]
  exact e3
theorem fX{α:Type}{tgt:aj->D->Option aj}{gb:aj->Option Out}(R:aj->Prop)(f:α->D)(q:α->Bool)(out:α->D):∀ {l:List α}{ρ:aj},
  (∀ρ x,x∈l->R ρ->∃ρ1,tgt ρ (f x)=some ρ1/\(q x=true->gb ρ1=some (.rt (out x)))/\(q x=false->∃ρ2,gb ρ1=some (.nx ρ2)/\R ρ2))->R ρ ->
  (∀x,l.find? q=some x->d7 tgt gb (l.map f) ρ=some (.rt (out x)))/\(l.find? q=none->∃ρ',d7 tgt gb (l.map f) ρ=some (.nx ρ')/\R ρ')
 | [],ρ,_,h=>⟨fun x hx=>(by cases hx),fun _=>⟨ρ,rfl,h⟩⟩
 | x::l,ρ,hh,h=>by
  obtain⟨ρ1,e1,e2,e3⟩:=hh ρ x zE h
  rw[zI,d7,e1,zA]
  cases hq:q x with
  | true =>
   rw[List.find?_cons_of_pos (by simpa using hq),e2 hq]
   exact⟨fun y hy=>(by cases hy;rfl),fun hn=>(by cases hn)⟩
  | false =>
   obtain⟨ρ2,e4,h2⟩:=e3 hq
   rw[List.find?_cons_of_neg (by simp[hq]),e4]
   exact fX R f q out (fun ρ x hx=>hh ρ x (zC _ hx)) h2
theorem bU{fz:List Nat}{fi:Dl.Env->Option (List D)}{tgt:aj->D->Option aj}{gb:aj->Option Out}{ρ ρ1:aj}{ds:List D}{o:Option Out}(h:d7 tgt gb ds ρ1=o)(hi:fi (cf ρ1)=some ds)(hh:hand fz 0 ρ=ρ1):dM fz fi tgt gb ρ=o:=by
 simp only[dM,hh,hi,zA,h]
theorem tL{i:Nat}{fz:List Nat}{f:Dl.Env->Option (List D)}{ρ ρ':aj}{ds:List D}(hh:hand fz 0 ρ=ρ')(hf:f (cf ρ')=some ds):aS i fz f ρ=some (.nx (ρ'.set i (.own ds))):=by
 simp only[aS,hh,hf,zB]
theorem mC{i:Nat}{fz:List Nat}{f:Dl.Env->Option (List D)}{ρ:aj}{ds:List D}(hf:f (cf ρ)=some ds)(hh:hand fz 0 ρ=ρ):aS i fz f ρ=some (.nx (ρ.set i (.own ds))):=tL hh hf
theorem pN{i:Nat}{fz:List Nat}{f:Dl.Env->Option D}{ρ ρ':aj}(hh:hand fz 0 ρ=ρ'){d:D}(hA:f (bg ρ)=some d)(hF:f (cf ρ')=some d)(hs:Dl.qq d=false):Dl.ay i fz f ρ=some (.nx (ρ'.set i (.val d))):=by
 simp only[Dl.ay,hA,zA,hs,Bool.false_eq_true,if_false,hh,hF,zB]
theorem call_of{n:Nat}{m:List D->Option D}{fs:Dl.Env->Option (List D)}{ρ:Dl.Env}{ds:List D}{d:D}(h:m ds=some d)(hf:fs ρ=some ds)(hn:ds.length=n):ah n m fs ρ=some d:=by
 unfold ah
 rw[hf,zA,if_pos hn,h]
theorem cons_of{f:Dl.Env->Option D}{fs:Dl.Env->Option (List D)}{ρ:Dl.Env}{d:D}{ds:List D}(h:f ρ=some d)(hs:fs ρ=some ds):aa f fs ρ=some (d::ds):=by
 unfold aa
 rw[h,hs]
 rfl
theorem aH{f:Dl.Env->Option D}{ρ:aj}{d:D}(hf:f (bg ρ)=some d):az f ρ=some (.rt d):=by
 simp only[az,hf,zB]
theorem iU{f:Dl.Env->Option D}{ρ:aj}{d:D}(hf:f (bg ρ)=some d):mO f ρ=some (.nx ρ):=by
 simp only[mO,hf,zB]
theorem bE{t:Dl.Env->Option Bool}{g:aj->Option Out}{ρ:aj}(h:t (bg ρ)=some false):dN t g dJ ρ=some (.nx ρ):=by
 simp[dN,h,dJ]
theorem eQ{t:Dl.Env->Option Bool}{g g2:aj->Option Out}{ρ:aj}(h:t (bg ρ)=some true):dN t g g2 ρ=g ρ:=by
 simp[dN,h]
theorem fu{g1 g2:aj->Option Out}{ρ:aj}{d:D}(h:g1 ρ=some (.rt d)):ar g1 g2 ρ=some (.rt d):=by
 simp only[ar,h,zA]
theorem Bv{i:Nat}{fz:List Nat}{fk f:Dl.Env->Option D}{ρ:aj}{d:D}{k:Nat}{ds:List D}(hf:f (bg ρ)=some d)(hs:Dl.qq d=true)(hk:fk (bg ρ)=some (nD k))(ho:ρ[i]?=some (.own ds))(hl:k < ds.length):yx i fz fk f ρ=some (.nx (ρ.set i (.own (ds.set k d)))):=by
 have hx:FK ds.length ((k:Nat):Int)=some k:=by
  unfold FK
  rw[if_pos (Int.natCast_nonneg k),if_pos (by omega)]
  simp
 simp only[yx,kK,hf,zA,hs,if_true,hk,oe,ho,hx,zB]
noncomputable def lp{S:Type}(cont:S->Bool)(st:S->S):Nat->S->S
 | 0,s=>s
 | n+1,s=>if cont s=true then lp cont st n (st s) else s
theorem we{S:Type}{t:Dl.Env->Option Bool}{gb:aj->Option Out}(R:S->aj->Prop)(cont:S->Bool)(st:S->S)(μ:S->Nat)
  (ht:∀s ρ,R s ρ->t (bg ρ)=some (cont s)) (hb:∀s ρ,R s ρ->cont s=true->∃ρ',gb ρ=some (.nx ρ')/\R (st s) ρ'/\μ (st s) < μ s) :
  ∀ (n:Nat) (s:S) (ρ:aj),μ s < n->R s ρ->∃ρ',GP t gb n ρ=some (.nx ρ')/\R (lp cont st n s) ρ'/\cont (lp cont st n s)=false
 | 0,s,ρ,h,_=>absurd h (by omega)
 | n+1,s,ρ,h,r=>by
  rw[GP,ht s ρ r,zA,lp]
  cases hc:cont s with
  | false=>exact⟨ρ,by simp,by simpa [hc] using r,by simpa [hc] using hc⟩
  | true =>
   obtain⟨ρ',e,r',hm⟩:=hb s ρ r hc
   obtain⟨ρ2,e2,r2,c2⟩:=we R cont st μ ht hb n (st s) ρ' (by omega) r'
   refine⟨ρ2,?_,by simpa [hc] using r2,by simpa [hc] using c2⟩
   simp only[if_true,e,zA]
   exact e2
theorem fV{off:List Int}{i:Nat}(h:i < off.length):aq (af off) (nD i)=some (.int (off.getD i 0)):=nv (f:=PyData.int) (l:=off) (by simp[h])
theorem Ko{off:List Int}{i:Nat}(h:i < off.length):aq (.list (off.map PyData.int)) (nD i)=some (.int (off.getD i 0)):=Ig (f:=PyData.int) (l:=off) (by simp[h])
theorem pY{W:List Wy}{i:Nat}(h:i < W.length):aq (.tuple (W.map au)) (nD i)=some (au (aA W i)):=nv (lD h)
theorem Nu(a b c:Int):vv [.int a,.int b,.int c]=some (.int (min (min a b) c)):=rfl
theorem FX(l:List Int)(k:Nat)(v:Int):(l.map PyData.int).set k (.int v)=(l.set k v).map PyData.int:=by rw[List.map_set]
theorem Hh(l:List Int):bM [.list (l.map PyData.int)]=some (af l):=rfl
theorem Fx(l:List D):bM [.list l]=some (.tuple l):=rfl
theorem Ae(l:List D):bj [.tuple l]=some (nD l.length):=rfl
theorem FQ(l:List Int):bj [af l]=some (nD l.length):=by
 show some (PyData.int ((l.map PyData.int).length:Nat))=_
 rw[zD]
theorem Ba{n:Nat}(h:n<=1000):k5 [nD n]=some ((List.range n).map nD):=by
 rw[va (sP h),yH]
theorem ni{fs:Dl.Env->Option (List D)}{ρ:Dl.Env}{n:Nat}(h:fs ρ=some [nD n])(hn:n<=1000):bC fs ρ=some ((List.range n).map nD):=by
 unfold bC
 rw[h,zA,Ba hn]
theorem sub_int(i j:Int):Dl.fJ (.int i) (.int j)=some (.int (i - j)):=p5 i j
theorem zeros{fi:Dl.Env->Option (List D)}{ρ:Dl.Env}{ds:List D}(hfi:fi ρ=some ds)(hl:ds.length<=1000):ao 1 [] fi (fG 0) (fun _=>some true) (fC (.int 0)) ρ=some ((List.replicate ds.length (0:Int)).map PyData.int):=by
 rw[bQ (h:=fun _=>.int 0) hfi (by omega) fun d hd=>rfl]
 simp[List.map_const']
theorem Jb:∀n,(List.replicate n [PyData.int 0]).flatten=(List.replicate n (0:Int)).map PyData.int
 | 0=>rfl
 | n+1=>by rw[List.replicate_succ,List.flatten_cons,Jb n,List.replicate_succ];rfl
theorem rM{r:List (Option D)}:∀ (a b:List Int),cx (f7 0 1) (fun _=>some true) (f2 aI (ab 0) (ab 1)) (none::none::r) (gz (a.map PyData.int) (b.map PyData.int))=some ((List.zipWith (·+·) a b).map PyData.int)
 | [],b=>by cases b<;>rfl
 | x::a,[]=>rfl
 | x::a,y::b=>by
  have ih:=rM (r:=r) a b
  have hg:f7 0 1 (none::none::r) (.tuple [.int x,.int y])=some (some (.int x)::some (.int y)::r):=by
   simp only[f7,isFree,List.getElem?_cons_zero,List.getElem?_cons_succ,Option.getD_some,Option.isNone_none,and_self,if_true,List.set_cons_zero,List.set_cons_succ]
  rw[zI,zI,gz,cx,hg,zA]
  dsimp! [gu,ih,List.zipWith_cons_cons]
theorem Dq{fi:Dl.Env->Option (List D)}{ρ:Dl.Env}{a b:List Int}(hfi:fi ρ=some (gz (a.map PyData.int) (b.map PyData.int)))(hl:a.length<=1000) :
  ao 2 [] fi (f7 0 1) (fun _=>some true) (f2 aI (ab 0) (ab 1)) ρ=some ((List.zipWith (·+·) a b).map PyData.int):=by
 have:=rM (r:=[]) a b
 simp only[ao,hfi,zA,d9,List.replicate,List.map_nil,List.append_nil,this]
 refine bf ?_
 rw[zD,List.length_zipWith]
 omega
noncomputable def cV(W:List Wy)(off:List Int)(left:Int)(i:Nat):Int:=min (min (off.getD i 0) (aA W i).2.2) left
noncomputable def lq(W:List Wy)(off:List Int)(s:Int×List Int)(i:Nat):Int×List Int:=(s.1 - cV W off s.1 i,s.2.set i (cV W off s.1 i))
noncomputable def qy(W:List Wy)(off:List Int)(amt:Int)(is:List Nat):List Int:=(is.foldl (lq W off) (amt,List.replicate W.length 0)).2
theorem Ah(W:List Wy)(off:List Int):∀ (is:List Nat) (s:Int×List Int),(is.foldl (lq W off) s).2.length=s.2.length
 | [],s=>rfl
 | i::is,s=>by rw[yK,Ah W off is];simp[lq]
theorem tU(W:List Wy)(off:List Int)(amt:Int)(is:List Nat):(qy W off amt is).length=W.length:=by rw[qy,Ah];simp
theorem LH{G T:List Pl}{W:List Wy}{b:Bool}{i:Nat}{p:Pl}(e:(bq b G T)[i]?=some p):aq (.tuple ((bq b G T).map bF)) (nD i)=some (bF p):=nv e
theorem KM{G T:List Pl}{W:List Wy}{off:List Int}{d1 d2:D}{s:Int×List Int}{i:Nat}(hi:i < W.length)(ho:off.length=W.length)(hs:s.2.length=W.length) :
  (ar (yx 4 [0,3,5,6] (ab 6) (bb vv (aa (f2 aq (ab 3) (ab 6)) (aa (f2 aq (f2 aq (f2 aq (ab 0) (fC (.int 2))) (ab 6)) (fC (.int 2))) (aa (ab 5) ae))))) (Dl.ay 5 [4,5,6] (f2 Dl.fJ (ab 5) (f2 aq (ab 4) (ab 6))))) [.val (aw G T W),.val d1,.val d2,.val (af off),.own (s.2.map PyData.int),.val (.int s.1),.val (nD i)]=some (.nx [.val (aw G T W),.val d1,.val d2,.val (af off),.own ((lq W off s i).2.map PyData.int),.val (.int (lq W off s i).1),.val (nD i)]):=by
 have hv:(bb vv (aa (f2 aq (ab 3) (ab 6)) (aa (f2 aq (f2 aq (f2 aq (ab 0) (fC (.int 2))) (ab 6)) (fC (.int 2))) (aa (ab 5) ae)))) (bg [.val (aw G T W),.val d1,.val d2,.val (af off),.own (s.2.map PyData.int),.val (.int s.1),.val (nD i)])=some (.int (cV W off s.1 i)):=by
  dsimp! [fV (show i < off.length by omega),mh,pY hi,Ao,Nu,cV]
 have t1:=Bv (i:=4) (fz:=[0,3,5,6]) (fk:=ab 6) (k:=i) (ds:=s.2.map PyData.int) hv rfl rfl rfl (by rw[zD];omega)
 rw[FX] at t1
 rw[ai t1]
 have hl:i < (s.2.set i (cV W off s.1 i)).length:=by rw[yD];omega
 have hg:(s.2.set i (cV W off s.1 i)).getD i 0=cV W off s.1 i:=by
  have:i < s.2.length:=by omega
  simp[this]
 have hv2:(f2 Dl.fJ (ab 5) (f2 aq (ab 4) (ab 6))) (bg ([.val (aw G T W),.val d1,.val d2,.val (af off),.own (s.2.map PyData.int),.val (.int s.1),.val (nD i)].set 4 (.own ((s.2.set i (cV W off s.1 i)).map PyData.int))))=some (.int (lq W off s i).1):=by
  dsimp! [Ko hl,sub_int,hg,lq]
 rw[eE hv2 rfl]
 rfl
theorem nN{G T:List Pl}{W:List Wy}{off:List Int}(h:Wd G T W)(ho:off.length=W.length){b:Bool}{i:Nat}{p:Pl}(e:(bq b G T)[i]?=some p) :
  dE [aw G T W,.int (sI b),nD i,af off]=some (af (qy W off p.1 (fg b W i p.2))):=by
 have hw:W.length<=16:=h.wl
 have t4:aS 4 [0] (ao 1 [] (aX (f2 aq (ab 0) (fC (.int 2)))) (fG 0) (fun _=>some true) (fC (.int 0))) [.val (aw G T W),.val (.int (sI b)),.val (nD i),.val (af off),.non,.non,.non]=some (.nx [.val (aw G T W),.val (.int (sI b)),.val (nD i),.val (af off),.own ((List.replicate W.length (0:Int)).map PyData.int),.non,.non]):=by
  have z:=zeros (fi:=aX (f2 aq (ab 0) (fC (.int 2)))) (ρ:=cf [.val (aw G T W),.val (.int (sI b)),.val (nD i),.val (af off),.non,.non,.non]) (ds:=W.map au) rfl (by rw[zD];omega)
  rw[zD] at z
  exact tL rfl z
 have t5:Dl.ay 5 [0,1,2] (f2 aq (f2 aq (f2 aq (ab 0) (ab 1)) (ab 2)) (fC (.int 0))) [.val (aw G T W),.val (.int (sI b)),.val (nD i),.val (af off),.own ((List.replicate W.length (0:Int)).map PyData.int),.non,.non]=some (.nx [.val (aw G T W),.val (.int (sI b)),.val (nD i),.val (af off),.own ((List.replicate W.length (0:Int)).map PyData.int),.val (.int p.1),.non]) :=
  eE (d:=.int p.1) (by dsimp! [oD,LH (W:=W) e,Gf]) rfl
 obtain⟨ρ',e3,hs',x,rfl⟩:=ma (tgt:=n0 6) (gb:=(ar (yx 4 [0,3,5,6] (ab 6) (bb vv (aa (f2 aq (ab 3) (ab 6)) (aa (f2 aq (f2 aq (f2 aq (ab 0) (fC (.int 2))) (ab 6)) (fC (.int 2))) (aa (ab 5) ae))))) (Dl.ay 5 [4,5,6] (f2 Dl.fJ (ab 5) (f2 aq (ab 4) (ab 6)))))) (R:=fun s ρ=>s.2.length=W.length/\∃x,ρ=[.val (aw G T W),.val (.int (sI b)),.val (nD i),.val (af off),.own (s.2.map PyData.int),.val (.int s.1),x]) nD (lq W off)
  (l:=fg b W i p.2) (s:=(p.1,List.replicate W.length (0:Int))) (ρ:=[.val (aw G T W),.val (.int (sI b)),.val (nD i),.val (af off),.own ((List.replicate W.length (0:Int)).map PyData.int),.val (.int p.1),.non])
  (fun s ρ j hj ⟨hs,x,hρ⟩=>by
   subst hρ
   obtain⟨hjl,_⟩:=cC.mp ((eU h e).mem_iff.mp hj)
   refine⟨_,_,rfl,KM hjl ho hs,?_,.val (nD j),rfl⟩
   simp[lq,hs]) ⟨by simp,_,rfl⟩
 refine aG ?_
 show gP [.val (aw G T W),.val (.int (sI b)),.val (nD i),.val (af off),.non,.non,.non]=_
 unfold gP
 rw[ai t4,ai t5,ai (bU e3 (by dsimp! [rK h e]) rfl)]
 exact aH rfl
noncomputable def b9(b:Bool)(G T:List Pl)(i:Nat):Pl:=(bq b G T).getD i (0,[])
noncomputable def wB(b:Bool)(G T:List Pl)(W:List Wy)(off s:List Int)(i:Nat):List Int:=List.zipWith (·+·) s (qy W off (b9 b G T i).1 (fg b W i (b9 b G T i).2))
noncomputable def bw(b:Bool)(G T:List Pl)(W:List Wy)(off:List Int):List Int:=(List.range (bq b G T).length).foldl (wB b G T W off) (List.replicate W.length 0)
theorem lg{b:Bool}{G T:List Pl}{i:Nat}(h:i < (bq b G T).length):(bq b G T)[i]?=some (b9 b G T i):=by simp[b9,h]
theorem oI{b:Bool}{G T:List Pl}{W:List Wy}{off s:List Int}{i:Nat}(h:s.length=W.length):(wB b G T W off s i).length=W.length:=by
 unfold wB
 rw[List.length_zipWith,tU,h,Nat.min_self]
theorem kj{S α:Type}{f:S->α->S}(R:S->Prop):∀ {l:List α}{s:S},(∀s x,x∈l->R s->R (f s x))->R s->R (l.foldl f s)
 | [],s,_,h=>h
 | x::l,s,hh,h=>by
  rw[yK]
  exact kj (l:=l) R (fun s y hy=>hh s y (zC _ hy)) (hh s x zE h)
theorem eP(b:Bool)(G T:List Pl)(W:List Wy)(off:List Int):(bw b G T W off).length=W.length :=
 kj (fun s:List Int=>s.length=W.length) (fun s i _ h=>oI h) (by simp)
theorem Wd.pl{G T:List Pl}{W:List Wy}(h:Wd G T W)(b:Bool):(bq b G T).length<=4:=by
 cases b
 ·exact h.g4
 ·exact h.t4
noncomputable def OA:aj->Option Out:=(ar (Dl.ay 5 [0,1,2,4] (ah 4 dE (aa (ab 0) (aa (ab 1) (aa (ab 4) (aa (ab 2) ae)))))) (aS 3 [3,5] (ao 2 [] (dU (aa (ab 3) (aa (ab 5) ae))) (f7 0 1) (fun _=>some true) (f2 aI (ab 0) (ab 1)))))
theorem bR{G T:List Pl}{W:List Wy}{off:List Int}(h:Wd G T W)(ho:off.length=W.length)(b:Bool) :
  aD [aw G T W,.int (sI b),af off]=some (af (bw b G T W off)):=by
 have hw:W.length<=16:=h.wl
 have hp:=h.pl b
 have t3:aS 3 [0] (ao 1 [] (aX (f2 aq (ab 0) (fC (.int 2)))) (fG 0) (fun _=>some true) (fC (.int 0))) [.val (aw G T W),.val (.int (sI b)),.val (af off),.non,.non,.non]=some (.nx [.val (aw G T W),.val (.int (sI b)),.val (af off),.own ((List.replicate W.length (0:Int)).map PyData.int),.non,.non]):=by
  have z:=zeros (fi:=aX (f2 aq (ab 0) (fC (.int 2)))) (ρ:=cf [.val (aw G T W),.val (.int (sI b)),.val (af off),.non,.non,.non]) (ds:=W.map au) rfl (by rw[zD];omega)
  rw[zD] at z
  exact mC z rfl
 obtain⟨ρ',e3,hs',x,y,rfl⟩:=ma (tgt:=n0 4) (gb:=OA) (R:=fun s ρ=>s.length=W.length/\∃x y,ρ=[.val (aw G T W),.val (.int (sI b)),.val (af off),.own (s.map PyData.int),x,y]) nD (wB b G T W off)
  (l:=List.range (bq b G T).length) (s:=List.replicate W.length (0:Int)) (ρ:=[.val (aw G T W),.val (.int (sI b)),.val (af off),.own ((List.replicate W.length (0:Int)).map PyData.int),.non,.non])
  (fun s ρ i hi ⟨hs,x,y,hρ⟩=>by
   subst hρ
   have ei:=lg (zT.mp hi)
   have t1:Dl.ay 5 [0,1,2,4] (ah 4 dE (aa (ab 0) (aa (ab 1) (aa (ab 4) (aa (ab 2) ae))))) [.val (aw G T W),.val (.int (sI b)),.val (af off),.own (s.map PyData.int),.val (nD i),y]=some (.nx [.val (aw G T W),.val (.int (sI b)),.val (af off),.own (s.map PyData.int),.val (nD i),.val (af (qy W off (b9 b G T i).1 (fg b W i (b9 b G T i).2)))]):=by
    refine pN (ρ':=[.val (aw G T W),.val (.int (sI b)),.val (af off),.own (s.map PyData.int),.val (nD i),y]) rfl (d:=af (qy W off (b9 b G T i).1 (fg b W i (b9 b G T i).2))) ?_ ?_ rfl
    ·dsimp! [nN h ho ei]
    ·dsimp! [nN h ho ei]
   have t2:aS 3 [3,5] (ao 2 [] (dU (aa (ab 3) (aa (ab 5) ae))) (f7 0 1) (fun _=>some true) (f2 aI (ab 0) (ab 1))) [.val (aw G T W),.val (.int (sI b)),.val (af off),.own (s.map PyData.int),.val (nD i),.val (af (qy W off (b9 b G T i).1 (fg b W i (b9 b G T i).2)))]=some (.nx [.val (aw G T W),.val (.int (sI b)),.val (af off),.own ((wB b G T W off s i).map PyData.int),.val (nD i),.val (af (qy W off (b9 b G T i).1 (fg b W i (b9 b G T i).2)))]):=by
    refine tL (ρ':=[.val (aw G T W),.val (.int (sI b)),.val (af off),.val (.list (s.map PyData.int)),.val (nD i),.val (af (qy W off (b9 b G T i).1 (fg b W i (b9 b G T i).2)))]) rfl (ds:=(wB b G T W off s i).map PyData.int) ?_
    exact Dq (a:=s) (b:=qy W off (b9 b G T i).1 (fg b W i (b9 b G T i).2)) rfl (by omega)
   exact⟨_,_,rfl,(ai t1).trans t2,oI hs,_,_,rfl⟩) ⟨by simp,_,_,rfl⟩
 refine aG ?_
 show dy [.val (aw G T W),.val (.int (sI b)),.val (af off),.non,.non,.non]=_
 unfold dy
 rw[ai t3]
 refine (ai (bU e3 (ni (by dsimp! [oD,Ae,zD]) (by omega)) rfl)).trans ?_
 exact aH rfl
theorem uf{xs ys:List D}(h:(xs++ys).length<=4000):Dl.aI (.tuple xs) (.tuple ys)=some (.tuple (xs++ys)):=by
 simp only[Dl.aI,uZ,Hx,bf h,zB,Option.none_or,Option.some_or]
theorem HQ{f:Dl.Env->Option D}{ρ:Dl.Env}{d:D}(h:f ρ=some d):aM (aa f ae) ρ=some (.tuple [d]):=by
 simp only[aM,aa,ae,h,zA,zB]
 rw[bf (by simp),zB]
theorem NO{f g:Dl.Env->Option D}{ρ:Dl.Env}{d e:D}(h:f ρ=some d)(h2:g ρ=some e):aM (aa f (aa g ae)) ρ=some (.tuple [d,e]):=by
 simp only[aM,aa,ae,h,h2,zA,zB]
 rw[bf (by simp),zB]
theorem ax{g:D->D->Option D}{fa fb:Dl.Env->Option D}{ρ:Dl.Env}{a b c:D}(h:g a b=some c)(ha:fa ρ=some a)(hb:fb ρ=some b):f2 g fa fb ρ=some c:=by rw[iD ha hb,h]
theorem Lv{f g:Dl.Env->Option D}{ρ:Dl.Env}{ds:List D}{k:Nat}(h:f ρ=some (.tuple ds))(h2:g ρ=some (nD k)):fM cQ f fF (oT g) ρ=some (.tuple (ds.take k)):=by
 simp only[fM,h,fF,oT,h2,zA,gI,zB,cQ,vx]
theorem Ju{f g:Dl.Env->Option D}{ρ:Dl.Env}{ds:List D}{k:Nat}(h:f ρ=some (.tuple ds))(h2:g ρ=some (nD k)):fM cQ f (oT g) fF ρ=some (.tuple (ds.drop k)):=by
 simp only[fM,h,fF,oT,h2,zA,gI,zB,cQ,wA]
theorem Nz(d:D)(ds:List D):aq (.tuple (d::ds)) (.int 0)=some d:=qx (i:=0) rfl
theorem ND(c d:D)(ds:List D):aq (.tuple (c::d::ds)) (.int 1)=some d:=qx (i:=1) rfl
theorem Aq(c:List Int)(i:Nat)(v:Int)(h:i < c.length):((c.map PyData.int).take i++[PyData.int v])++(c.map PyData.int).drop (i+1)=(c.set i v).map PyData.int:=by
 rw[List.set_eq_take_append_cons_drop,if_pos h]
 simp
theorem OP(i:Nat):Dl.aI (nD i) (.int 1)=some (nD (i+1)):=by
 rw[gu]
 rfl
theorem xA{c:List Int}{i:Nat}{v:Int}(h:i < c.length)(hl:c.length<=1000):i4 [af c,nD i,.int v]=some (af (c.set i v)):=by
 refine aG ?_
 show kR [.val (af c),.val (nD i),.val (.int v)]=_
 refine aH ?_
 refine ax (a:=.tuple ((c.map PyData.int).take i++[PyData.int v])) (b:=.tuple ((c.map PyData.int).drop (i+1))) ?_ (ax (a:=.tuple ((c.map PyData.int).take i)) (b:=.tuple [.int v]) (uf ?_) (Lv rfl rfl) (HQ rfl)) (Ju rfl (ax (OP i) rfl rfl))
 ·rw[uf,Aq c i v h]
  ·rfl
  ·rw[Aq c i v h];simp;omega
 ·simp;omega
theorem j8{c:List Int}{i:Nat}{v:Int}(h:i < c.length)(hl:c.length<=1000):aY [af c,nD i,.int v]=some (af (c.set i v)):=by
 refine aG ?_
 show nj [.val (af c),.val (nD i),.val (.int v)]=_
 exact aH (call_of (xA h hl) rfl rfl)
noncomputable def bL(W:List Wy):List Int:=W.map fun w=>w.2.2
theorem Ez{G T:List Pl}{W:List Wy}(h:Wd G T W){f:Dl.Env->Option D}{ρ:Dl.Env}(hf:f ρ=some (aw G T W)):(bb bM (aa (bP (ao 1 [] (aX (f2 aq f (fC (.int 2)))) (fG 0) (fun _=>some true) (f2 aq (ab 0) (fC (.int 2))))) ae)) ρ=some (af (bL W)):=by
 have hw:=h.wl
 have hs:(aX (f2 aq f (fC (.int 2)))) ρ=some (W.map au):=by
  unfold aX
  rw[ax (mh G T W) hf rfl]
  rfl
 have e:ao 1 [] (aX (f2 aq f (fC (.int 2)))) (fG 0) (fun _=>some true) (f2 aq (ab 0) (fC (.int 2))) ρ=some ((bL W).map PyData.int):=by
  rw[bQ (h:=fun d=>.int (iK ((cR d).getD 2 .none))) hs (by rw[zD];omega) fun d hd=>?_]
  ·rw[bL,zM,zM]
   rfl
  ·obtain⟨w,hw',rfl⟩:=zQ.mp hd
   rfl
 simp only[bb,aa,ae,bP,e,zB,zA,Hh]
theorem fT{G T:List Pl}{W:List Wy}(h:Wd G T W):bA [aw G T W]=some (af (bL W)):=by
 refine aG ?_
 show pe [.val (aw G T W)]=_
 exact aH (Ez h rfl)
theorem fE(W:List Wy):(bL W).length=W.length:=by simp[bL]
noncomputable def ig(G T:List Pl)(W:List Wy)(c:List Int):List Int:=bw true G T W (bw false G T W c)
noncomputable def qR(G T:List Pl)(W:List Wy)(c:List Int)(k:Nat):Bool:=decide ((ig G T W c).getD k 0 < (bw false G T W c).getD k 0)
noncomputable def lr(G T:List Pl)(W:List Wy)(c:List Int):Option (Nat×Int):=((List.range W.length).find? (qR G T W c)).map fun k=>(k,(ig G T W c).getD k 0)
noncomputable def u3:Option (Nat×Int)->D
 | none=>.none
 | some p=>.tuple [nD p.1,.int p.2]
theorem enum_zip:∀ (ds:List D) (k:Nat),bB k ds=(ds.zipIdx k).map fun q=>.tuple [nD q.2,q.1]
 | [],k=>rfl
 | d::ds,k=>by rw[bB,enum_zip ds (k+1),List.zipIdx_cons];rfl
theorem BD(l:List Int):bB 0 (l.map PyData.int)=(List.range l.length).map fun k=>.tuple [nD k,.int (l.getD k 0)]:=by
 rw[enum_zip]
 apply List.ext_getElem
 ·simp
 ·intro i h1 h2
  have:i < l.length:=by simpa using h2
  simp[this]
theorem Jv(G T:List Pl)(W:List Wy)(c:List Int):(ig G T W c).length=W.length:=eP _ _ _ _ _
noncomputable def NF:aj->Option Out:=(dN (fB (f2 Ak (ab 5) (f2 aq (ab 2) (ab 4)))) (az (aM (aa (ab 4) (aa (ab 5) ae)))) dJ)
theorem iB{G T:List Pl}{W:List Wy}{c:List Int}(h:Wd G T W)(ho:c.length=W.length):cm [aw G T W,af c]=some (u3 (lr G T W c)):=by
 have hw:W.length<=16:=h.wl
 have t2:Dl.ay 2 [0,1] (ah 3 aD (aa (ab 0) (aa (fC (.int 0)) (aa (ab 1) ae)))) [.val (aw G T W),.val (af c),.non,.non,.non,.non]=some (.nx [.val (aw G T W),.val (af c),.val (af (bw false G T W c)),.non,.non,.non]) :=
  cn (call_of (bR h ho false) rfl rfl) rfl rfl rfl
 have t3:Dl.ay 3 [0,2] (ah 3 aD (aa (ab 0) (aa (fC (.int 1)) (aa (ab 2) ae)))) [.val (aw G T W),.val (af c),.val (af (bw false G T W c)),.non,.non,.non]=some (.nx [.val (aw G T W),.val (af c),.val (af (bw false G T W c)),.val (af (ig G T W c)),.non,.non]) :=
  cn (call_of (bR h (eP _ _ _ _ _) true) rfl rfl) rfl rfl rfl
 have hl:=fX (tgt:=fK 4 5) (gb:=NF) (R:=fun ρ=>∃x y,ρ=[.val (aw G T W),.val (af c),.val (af (bw false G T W c)),.val (af (ig G T W c)),x,y]) (fun k=>.tuple [nD k,.int ((ig G T W c).getD k 0)]) (qR G T W c) (fun k=>.tuple [nD k,.int ((ig G T W c).getD k 0)])
  (l:=List.range W.length) (ρ:=[.val (aw G T W),.val (af c),.val (af (bw false G T W c)),.val (af (ig G T W c)),.non,.non])
  (fun ρ k hk ⟨x,y,hρ⟩=>by
   subst hρ
   have hk':k < (bw false G T W c).length:=by rw[eP];exact zT.mp hk
   have hc:(fB (f2 Ak (ab 5) (f2 aq (ab 2) (ab 4)))) (bg [.val (aw G T W),.val (af c),.val (af (bw false G T W c)),.val (af (ig G T W c)),.val (nD k),.val (.int ((ig G T W c).getD k 0))])=some (qR G T W c k):=by
    dsimp! [fV hk',mq,qR]
   refine⟨[.val (aw G T W),.val (af c),.val (af (bw false G T W c)),.val (af (ig G T W c)),.val (nD k),.val (.int ((ig G T W c).getD k 0))],rfl,fun hq=>?_,fun hq=>?_⟩
   ·rw[hq] at hc
    unfold NF
    rw[eQ hc]
    exact aH (NO rfl rfl)
   ·rw[hq] at hc
    unfold NF
    rw[bE hc]
    exact⟨_,rfl,_,_,rfl⟩) ⟨_,_,rfl⟩
 have hi:(bz (aa (ab 3) ae)) (cf [.val (aw G T W),.val (af c),.val (af (bw false G T W c)),.val (af (ig G T W c)),.non,.non])=some ((List.range W.length).map fun k=>.tuple [nD k,.int ((ig G T W c).getD k 0)]):=by
  have:=BD (ig G T W c)
  rw[Jv] at this
  rw[<- this]
  rfl
 refine aG ?_
 show ke [.val (aw G T W),.val (af c),.non,.non,.non,.non]=_
 unfold ke
 rw[ai t2,ai t3]
 unfold lr
 cases hq:(List.range W.length).find? (qR G T W c) with
 | some k =>
  exact fu (bU (hl.1 k hq) hi rfl)
 | none =>
  obtain⟨ρ',e,x,y,rfl⟩:=hl.2 hq
  exact (ai (bU e hi rfl)).trans (aH rfl)
theorem bT(l:List Int)(k:Nat)(v:Int)(i:Nat):(l.set k v).getD i 0=if k=i/\i < l.length then v else l.getD i 0:=by
 simp only[zG,List.getElem?_set]
 by_cases h:k=i
 ·subst h
  by_cases h2:k < l.length
  ·simp[h2]
  ·simp[h2]
 ·simp[h]
theorem wO{a b:List Int}{i:Nat}(ha:i < a.length)(hb:i < b.length):(List.zipWith (·+·) a b).getD i 0=a.getD i 0+b.getD i 0:=by
 rw[zG,zG,zG,List.getElem?_zipWith,zK ha,zK hb]
 rfl
def Off(off:List Int):Prop:=∀i,0<=off.getD i 0
def MZ(W:List Wy):Prop:=∀i,0<=(aA W i).2.2
theorem Wd.lim{G T:List Pl}{W:List Wy}(h:Wd G T W):MZ W:=fun i=>by
 by_cases hi:i < W.length
 ·have:=h.wr (aA W i) (by rw[<- gY hi];exact List.getElem_mem hi)
  omega
 ·simp only[aA,zG]
  rw[List.getElem?_eq_none (by omega)]
  simp
theorem Wd.amt{G T:List Pl}{W:List Wy}(h:Wd G T W)(b:Bool)(i:Nat):0<=(b9 b G T i).1:=by
 unfold b9
 rw[zG]
 cases e:(bq b G T)[i]? with
 | none=>simp
 | some p =>
  have hm:=List.mem_of_getElem? e
  cases b
  ·exact (h.ga p hm).1
  ·exact (h.ta p hm).1
theorem JC{W:List Wy}{off:List Int}(ho:Off off)(hl:MZ W){amt:Int}(ha:0<=amt)(is:List Nat)(i:Nat):0<=(qy W off amt is).getD i 0/\(qy W off amt is).getD i 0<=off.getD i 0:=by
 have:=kj (l:=is) (f:=lq W off) (s:=(amt,List.replicate W.length 0)) (fun s=>0<=s.1/\∀i,0<=s.2.getD i 0/\s.2.getD i 0<=off.getD i 0) (fun s k _ ⟨h1,h2⟩=>by
  have ok:=ho k
  have lk:=hl k
  have v0:0<=cV W off s.1 k:=by unfold cV;omega
  have v1:cV W off s.1 k<=off.getD k 0:=by unfold cV;omega
  have v2:cV W off s.1 k<=s.1:=by unfold cV;omega
  refine⟨by simp only[lq];omega,fun i=>?_⟩
  simp only[lq,bT]
  split
  ·rename_i z
   rw[<- z.1]
   exact⟨v0,v1⟩
  ·exact h2 i) ⟨ha,fun i=>by
   have:=ho i
   have z:(List.replicate W.length (0:Int)).getD i 0=0:=by
    simp only[zG,List.getElem?_replicate]
    split<;>rfl
   simp only[z]
   omega⟩
 exact this.2 i
theorem AV{W:List Wy}{off:List Int}{amt:Int}{is:List Nat}{i:Nat}(hi:i∉is):(qy W off amt is).getD i 0=0:=by
 refine kj (l:=is) (f:=lq W off) (s:=(amt,List.replicate W.length 0)) (fun s=>s.2.getD i 0=0) (fun s k hk h=>?_) ?_
 ·simp only[lq,bT]
  have hki:¬ (k=i/\i < s.2.length):=fun z=>hi (z.1 ▸ hk)
  rw[if_neg hki,h]
 ·simp only[zG,List.getElem?_replicate]
  split<;>rfl
theorem ur{G T:List Pl}{W:List Wy}(h:Wd G T W){off:List Int}(ho:Off off)(b:Bool):∀ (n:Nat),n<=(bq b G T).length ->
  ((List.range n).foldl (wB b G T W off) (List.replicate W.length 0)).length=W.length/\∀i,i < W.length->(0<=((List.range n).foldl (wB b G T W off) (List.replicate W.length 0)).getD i 0/\((List.range n).foldl (wB b G T W off) (List.replicate W.length 0)).getD i 0<=off.getD i 0)/\((n:Nat)<=br b (aA W i)->((List.range n).foldl (wB b G T W off) (List.replicate W.length 0)).getD i 0=0)
 | 0,_=>by
  refine⟨by simp,fun i hi=>?_⟩
  have:=ho i
  have z:((List.range 0).foldl (wB b G T W off) (List.replicate W.length 0)).getD i 0=0:=by simp[zG,hi]
  rw[z]
  exact⟨by omega,fun _=>rfl⟩
 | n+1,hn=>by
  obtain⟨h1,h2⟩:=ur h ho b n (by omega)
  rw[List.range_succ,List.foldl_append,yK,List.foldl_nil]
  generalize (List.range n).foldl (wB b G T W off) (List.replicate W.length 0)=s at h1 h2
  refine⟨oI h1,fun i hi=>?_⟩
  obtain⟨h3,h4⟩:=h2 i hi
  have e:=lg (b:=b) (G:=G) (T:=T) (i:=n) (by omega)
  have hc:=JC ho h.lim (h.amt b n) (fg b W n (b9 b G T n).2) i
  have hz:(wB b G T W off s n).getD i 0=s.getD i 0+(qy W off (b9 b G T n).1 (fg b W n (b9 b G T n).2)).getD i 0:=wO (by omega) (by rw[tU];exact hi)
  rw[hz]
  by_cases he:br b (aA W i)=n
  ·rw[h4 (by omega)]
   exact⟨by omega,fun z=>by omega⟩
  ·have hni:i∉fg b W n (b9 b G T n).2:=fun z=>he (cC.mp ((eU h e).mem_iff.mp z)).2
   rw[AV hni]
   exact⟨by omega,fun z=>by rw[h4 (by omega)];rfl⟩
theorem md{l:List Int}{i:Nat}(h:l.length<=i):l.getD i 0=0:=by simp[zG,h]
theorem iQ{G T:List Pl}{W:List Wy}(h:Wd G T W){off:List Int}(ho:Off off)(b:Bool):Off (bw b G T W off):=fun i=>by
 by_cases hi:i < W.length
 ·exact ((ur h ho b _ (Nat.le_refl _)).2 i hi).1.1
 ·rw[md (by rw[eP];omega)]
  exact Int.le_refl 0
theorem yw{G T:List Pl}{W:List Wy}(h:Wd G T W){off:List Int}(ho:Off off)(b:Bool){i:Nat}(hi:i < W.length):(bw b G T W off).getD i 0<=off.getD i 0 :=
 ((ur h ho b _ (Nat.le_refl _)).2 i hi).1.2
theorem o3{G T:List Pl}{W:List Wy}(h:Wd G T W){c:List Int}(ho:Off c){p:Nat×Int}(e:lr G T W c=some p):p.1 < W.length/\0<=p.2/\p.2 < c.getD p.1 0:=by
 unfold lr at e
 obtain⟨k,hk,rfl⟩:=Dl.ag e
 have hm:=List.mem_of_find?_eq_some hk
 have hq:=List.find?_some hk
 have hi:=zT.mp hm
 rw[qR,zJ] at hq
 have a:=yw h ho false hi
 have b:=iQ h (iQ h ho false) true k
 exact⟨hi,b,by simp only;omega⟩
noncomputable def mea(c:List Int):Nat:=(c.map Int.toNat).sum
theorem uG:∀ {c:List Int}{k:Nat}{v:Int},0<=v->v < c.getD k 0->mea (c.set k v) < mea c
 | [],k,v,h0,h1=>by simp at h1;omega
 | x::c,0,v,h0,h1=>by
  simp at h1
  simp only[mea,List.set_cons_zero,zI,List.sum_cons]
  omega
 | x::c,k+1,v,h0,h1=>by
  have:=uG (c:=c) (k:=k) h0 (by simpa using h1)
  simp only[mea,List.set_cons_succ,zI,List.sum_cons] at this ⊢
  omega
theorem Ag:∀ {W:List Wy},(∀w∈W,w.2.2<=9)->mea (bL W)<=9 * W.length
 | [],_=>by simp[mea,bL]
 | w::W,h=>by
  have:=Ag (W:=W) fun x hx=>h x (zC _ hx)
  have:=h w zE
  simp only[mea,bL,zI,List.sum_cons,zL] at *
  omega
theorem oz{G T:List Pl}{W:List Wy}(h:Wd G T W):Off (bL W):=fun i=>by
 have:=h.lim i
 by_cases hi:i < W.length
 ·simpa [bL,aA,zG,hi] using this
 ·rw[md (by rw[fE];omega)]
  exact Int.le_refl 0
theorem lV{c:List Int}(h:Off c){k:Nat}{v:Int}(hv:0<=v):Off (c.set k v):=fun i=>by
 rw[bT]
 split
 ·exact hv
 ·exact h i
theorem pA(a:List Int):SeqAt.shaped (af a)=true :=
 (iI.tup (b:=a.length) (k:=0) (by simp) fun x hx=>by obtain⟨i,_,rfl⟩:=zQ.mp hx;exact iR _).shaped (by decide)
theorem qj(a b:List Int):PyData.eqv (af a) (af b)=decide (a=b):=by
 rw[af,af,PyData.eqv,o9]
theorem aU{f:Dl.Env->Option D}{ρ:Dl.Env}{b:Bool}(h:f ρ=some (.bool b)):fB f ρ=some b:=by
 simp only[fB,h,zA,gB]
theorem bN{t:Dl.Env->Option Bool}{ρ:Dl.Env}{b:Bool}(h:t ρ=some b):ba t ρ=some (!b):=by
 simp only[ba,h,zB]
theorem ny{t u:Dl.Env->Option Bool}{ρ:Dl.Env}(h:t ρ=some false)(h2:u ρ=some false):il t u ρ=some false:=by
 simp only[il,h,zA,h2]
theorem wC(a b:List Int):cB (af a) (af b)=some (.bool (!decide (a=b))):=by
 simp only[cB,HS,pA,and_self,if_true,qj,zB]
theorem E4(a b:List Int):bS (af a) (af b)=some (.bool (decide (a=b))):=by
 simp only[bS,JE,pA,and_self,if_true,qj,zB]
theorem nF(a:List Int):cB (af a) (af a)=some (.bool false):=by rw[wC];simp
theorem Ci(a b:List (List Int)):cB (.list (a.map af)) (.list (b.map af))=some (.bool (!decide (a=b))):=by
 simp only[cB,HS,nS,and_self,if_true,PyData.eqv,pW,zB]
theorem B0:cB .none .none=some (.bool false):=by
 simp[cB,HS,SeqAt.shaped,PyData.canLay0,PyData.depth,PyData.eqv]
theorem Gz(x:Option (Nat×Int)):cB (u3 x) (u3 x)=some (.bool false):=by
 cases x with
 | none=>exact B0
 | some p=>exact nF [((p.1:Nat):Int),p.2]
theorem F3(x:Option (Nat×Int)):lF (u3 x) .none=some (.bool x.isSome):=by cases x<;>rfl
theorem aL{i:Nat}{fz:List Nat}{f:Dl.Env->Option D}{ρ:aj}{d:D}(hA:f (bg ρ)=some d)(hF:f (cf ρ)=some d)(hh:hand fz 0 ρ=ρ):Dl.ay i fz f ρ=some (.nx (ρ.set i (.val d))):=by
 cases hs:Dl.qq d with
 | true=>exact eE hA hs
 | false=>exact pN hh hA hF hs
theorem J1{i:Nat}{fz:List Nat}{f:Dl.Env->Option D}{ρ:aj}{d:D}{ds:List D}(hA:f (bg ρ)=some d)(hF:f (cf ρ)=some d)(hh:hand fz 0 ρ=ρ)(ho:ρ[i]?=some (.own ds))(hl:ds.length < 4000):k3 i fz f ρ=some (.nx (ρ.set i (.own (ds++[d])))):=by
 have hz:ds.length < sizeLine:=zP hl (by decide)
 have hi:kK fz f ρ=some (d,ρ):=by
  unfold kK
  rw[hA,zA,hh,hF]
  cases Dl.qq d<;>rfl
 simp only[k3,hi,zA,oe,ho,hz,if_true,zB]
theorem cM{G T:List Pl}{W:List Wy}(h:Wd G T W):aN [aw G T W]=some .none:=by
 have hw:cD [aw G T W]=some (.bool true):=by rw[yW h.fit (by decide),h.wok]
 have hc:(ba (fB (ah 1 cD (aa (ab 0) ae)))) (bg [.val (aw G T W)])=some false:=bN (aU (call_of hw rfl rfl))
 have:dq [.val (aw G T W)]=some (.nx [.val (aw G T W)]):=by
  unfold dq
  rw[bE hc]
 show (dq [.val (aw G T W)]).map _=_
 rw[this]
 rfl
noncomputable abbrev Sp:=List (Nat×Int)×List Int
noncomputable def Cp(G T:List Pl)(W:List Wy)(s:Sp):Bool:=(lr G T W s.2).isSome
noncomputable def spS(G T:List Pl)(W:List Wy)(s:Sp):Sp:=match lr G T W s.2 with|some p=>(s.1++[p],s.2.set p.1 p.2)|none=>s
noncomputable def low(c:List Int)(p:Nat×Int):List Int:=c.set p.1 p.2
structure xr(W:List Wy)(s:Sp):Prop where
 len:s.2.length=W.length
 off:Off s.2
 eq:s.2=s.1.foldl low (bL W)
 bd:s.1.length+mea s.2<=mea (bL W)
 mem:∀p∈s.1,p.1 < W.length
theorem xr.start{G T:List Pl}{W:List Wy}(h:Wd G T W):xr W ([],bL W):=⟨fE W,oz h,rfl,by simp,fun p hp=>by cases hp⟩
theorem mR{G T:List Pl}{W:List Wy}{s:Sp}{p:Nat×Int}(e:lr G T W s.2=some p):spS G T W s=(s.1++[p],s.2.set p.1 p.2):=by
 unfold spS
 rw[e]
theorem xr.step{G T:List Pl}{W:List Wy}(h:Wd G T W){s:Sp}(i:xr W s){p:Nat×Int}(e:lr G T W s.2=some p):xr W (spS G T W s)/\mea (spS G T W s).2 < mea s.2:=by
 obtain⟨h1,h2,h3⟩:=o3 h i.off e
 have hm:=uG h2 h3
 rw[mR e]
 refine⟨⟨by simp[i.len],lV i.off h2,?_,?_,fun q hq=>?_⟩,hm⟩
 ·rw[List.foldl_append,<- i.eq]
  rfl
 ·have:=i.bd
  simp only[zN,List.length_singleton]
  omega
 ·rcases List.mem_append.mp hq with z|z
  ·exact i.mem q z
  ·rw[yL] at z
   rw[z]
   exact h1
theorem Wd.mea{G T:List Pl}{W:List Wy}(h:Wd G T W):mea (bL W)<=144:=by
 have:=Ag (W:=W) fun w hw=>(h.wr w hw).2.2.2
 have:=h.wl
 omega
noncomputable def nz(r:List (Nat×Int)):List D:=(r.map fun p=>[((p.1:Nat):Int),p.2]).map af
theorem HD(r:List (Nat×Int))(p:Nat×Int):nz (r++[p])=nz r++[u3 (some p)]:=by simp[nz];rfl
theorem Ia(r:List (Nat×Int)):(nz r).length=r.length:=by simp[nz]
noncomputable def fin(G T:List Pl)(W:List Wy):Sp:=lp (Cp G T W) (spS G T W) Rf.turns ([],bL W)
noncomputable def N5:aj->Option Out:=(ar (k3 1 [3] (ab 3)) (ar (Dl.ay 2 [2,3] (ah 3 aY (aa (ab 2) (aa (f2 aq (ab 3) (fC (.int 0))) (aa (f2 aq (ab 3) (fC (.int 1))) ae))))) (Dl.ay 3 [0,2] (ah 2 cm (aa (ab 0) (aa (ab 2) ae))))))
noncomputable def Iy(G T:List Pl)(W:List Wy)(s:Sp):aj:=[.val (aw G T W),.own (nz s.1),.val (af s.2),.val (u3 (lr G T W s.2))]
theorem G6{G T:List Pl}{W:List Wy}(h:Wd G T W){s:Sp}(i:xr W s){p:Nat×Int}(e:lr G T W s.2=some p):N5 (Iy G T W s)=some (.nx (Iy G T W (spS G T W s))):=by
 obtain⟨h1,h2,h3⟩:=o3 h i.off e
 obtain⟨i2,hm⟩:=i.step h e
 have hb:=h.mea
 have hbd:=i.bd
 have hw:=h.wl
 have t1:k3 1 [3] (ab 3) (Iy G T W s)=some (.nx [.val (aw G T W),.own (nz s.1++[u3 (some p)]),.val (af s.2),.val (u3 (some p))]):=by
  unfold Iy
  rw[e]
  exact J1 rfl rfl rfl rfl (by rw[Ia];omega)
 have hlow:∀ρ:Dl.Env,ab 2 ρ=some (af s.2)->ab 3 ρ=some (u3 (some p))->(ah 3 aY (aa (ab 2) (aa (f2 aq (ab 3) (fC (.int 0))) (aa (f2 aq (ab 3) (fC (.int 1))) ae)))) ρ=some (af (s.2.set p.1 p.2)):=fun ρ a b =>
  call_of (j8 (c:=s.2) (i:=p.1) (v:=p.2) (by rw[i.len];exact h1) (by rw[i.len];omega)) (cons_of a (cons_of (ax (Nz _ _) b rfl) (cons_of (ax (ND _ _ _) b rfl) rfl))) rfl
 have t2:Dl.ay 2 [2,3] (ah 3 aY (aa (ab 2) (aa (f2 aq (ab 3) (fC (.int 0))) (aa (f2 aq (ab 3) (fC (.int 1))) ae)))) [.val (aw G T W),.own (nz s.1++[u3 (some p)]),.val (af s.2),.val (u3 (some p))]=some (.nx [.val (aw G T W),.own (nz s.1++[u3 (some p)]),.val (af (s.2.set p.1 p.2)),.val (u3 (some p))]) :=
  aL (hlow _ rfl rfl) (hlow _ rfl rfl) rfl
 have hl2:(s.2.set p.1 p.2).length=W.length:=by rw[yD,i.len]
 have t3:Dl.ay 3 [0,2] (ah 2 cm (aa (ab 0) (aa (ab 2) ae))) [.val (aw G T W),.own (nz s.1++[u3 (some p)]),.val (af (s.2.set p.1 p.2)),.val (u3 (some p))]=some (.nx [.val (aw G T W),.own (nz s.1++[u3 (some p)]),.val (af (s.2.set p.1 p.2)),.val (u3 (lr G T W (s.2.set p.1 p.2)))]) :=
  aL (call_of (iB h hl2) rfl rfl) (call_of (iB h hl2) rfl rfl) rfl
 unfold N5
 rw[ai t1,ai t2,t3,mR e]
 unfold Iy
 rw[HD]
theorem lZ{G T:List Pl}{W:List Wy}{s:Sp}(h:Cp G T W s=true):∃p,lr G T W s.2=some p:=Option.isSome_iff_exists.mp h
theorem Al{G T:List Pl}{W:List Wy}(h:Wd G T W):eO [aw G T W]=some (.list (nz (fin G T W).1))/\xr W (fin G T W):=by
 have hb:=h.mea
 have t1:aS 1 [] (dc ae) [.val (aw G T W),.non,.non,.non]=some (.nx [.val (aw G T W),.own [],.non,.non]):=mC (f:=dc ae) (ds:=[]) (show small []=some [] from bf (by simp)) rfl
 have t2:Dl.ay 2 [0] (ah 1 bA (aa (ab 0) ae)) [.val (aw G T W),.own [],.non,.non]=some (.nx [.val (aw G T W),.own [],.val (af (bL W)),.non]) :=
  aL (call_of (fT h) rfl rfl) (call_of (fT h) rfl rfl) rfl
 have t3:Dl.ay 3 [0,2] (ah 2 cm (aa (ab 0) (aa (ab 2) ae))) [.val (aw G T W),.own [],.val (af (bL W)),.non]=some (.nx (Iy G T W ([],bL W))) :=
  aL (call_of (iB h (fE W)) rfl rfl) (call_of (iB h (fE W)) rfl rfl) rfl
 obtain⟨ρ',ew,⟨rfl,iv⟩,_⟩:=we (t:=(fB (f2 lF (ab 3) (fC .none)))) (gb:=N5) (R:=fun s ρ=>ρ=Iy G T W s/\xr W s) (Cp G T W) (spS G T W) (fun s=>mea s.2)
  (fun s ρ ⟨hρ,i⟩=>by
   subst hρ
   exact aU (ax (F3 _) rfl rfl))
  (fun s ρ ⟨hρ,i⟩ hc=>by
   subst hρ
   obtain⟨p,e⟩:=lZ hc
   exact⟨_,G6 h i e,⟨rfl,(i.step h e).1⟩,(i.step h e).2⟩)
  Rf.turns ([],bL W) (Iy G T W ([],bL W)) (Nat.lt_of_le_of_lt hb (by decide)) ⟨rfl,xr.start h⟩
 refine⟨?_,iv⟩
 refine aG ?_
 show oA [.val (aw G T W),.non,.non,.non]=_
 unfold oA
 rw[ai t1,ai t2,ai t3]
 refine (ai ew).trans ?_
 exact aH rfl
theorem tQ(c:List Int)(p:Nat×Int):(low c p).length=c.length:=by simp[low]
theorem pO{G T:List Pl}{W:List Wy}(h:Wd G T W){r:List (Nat×Int)}(hr:∀p∈r,p.1 < W.length):eV [aw G T W,.list (nz r)]=some (af (r.foldl low (bL W))):=by
 have hw:=h.wl
 have t2:Dl.ay 2 [0] (ah 1 bA (aa (ab 0) ae)) [.val (aw G T W),.val (.list (nz r)),.non,.non,.non]=some (.nx [.val (aw G T W),.val (.list (nz r)),.val (af (bL W)),.non,.non]) :=
  aL (call_of (fT h) rfl rfl) (call_of (fT h) rfl rfl) rfl
 obtain⟨ρ',e3,hs',x,y,rfl⟩:=ma (tgt:=fK 3 4) (gb:=Dl.ay 2 [2,3,4] (ah 3 aY (aa (ab 2) (aa (ab 3) (aa (ab 4) ae))))) (R:=fun (c:List Int) ρ=>c.length=W.length/\∃x y,ρ=[.val (aw G T W),.val (.list (nz r)),.val (af c),x,y]) (fun p:Nat×Int=>af [((p.1:Nat):Int),p.2]) low
  (l:=r) (s:=bL W) (ρ:=[.val (aw G T W),.val (.list (nz r)),.val (af (bL W)),.non,.non])
  (fun c ρ p hp ⟨hc,x,y,hρ⟩=>by
   subst hρ
   have el:=j8 (c:=c) (i:=p.1) (v:=p.2) (by rw[hc];exact hr p hp) (by omega)
   have t:Dl.ay 2 [2,3,4] (ah 3 aY (aa (ab 2) (aa (ab 3) (aa (ab 4) ae)))) [.val (aw G T W),.val (.list (nz r)),.val (af c),.val (nD p.1),.val (.int p.2)]=some (.nx [.val (aw G T W),.val (.list (nz r)),.val (af (low c p)),.val (nD p.1),.val (.int p.2)]) :=
    aL (call_of el rfl rfl) (call_of el rfl rfl) rfl
   exact⟨_,_,rfl,t,by rw[tQ,hc],_,_,rfl⟩) ⟨fE W,_,_,rfl⟩
 refine aG ?_
 show mi [.val (aw G T W),.val (.list (nz r)),.non,.non,.non]=_
 unfold mi
 rw[ai t2]
 refine (ai (bU e3 ?_ rfl)).trans (aH rfl)
 show some (nz r)=_
 rw[nz,zM]
 rfl
theorem qZ{G T:List Pl}{W:List Wy}(h:Wd G T W):bu [aw G T W]=some (af (bw false G T W (fin G T W).2)):=by
 obtain⟨e1,i⟩:=Al h
 have e2:=pO h i.mem
 rw[<- i.eq] at e2
 refine aG ?_
 show eH [.val (aw G T W)]=_
 unfold eH
 refine (ai (iU (call_of (cM h) rfl rfl))).trans ?_
 exact aH (call_of (bR h i.len false) (cons_of rfl (cons_of rfl (cons_of (call_of e2 (cons_of rfl (cons_of (call_of e1 rfl rfl) rfl)) rfl) rfl))) rfl)
noncomputable def Kc(w:Wy):Wy:=(w.2.1,w.1,w.2.2)
structure Ord(W:List Wy)(π:List Nat):Prop where
 perm:π.Perm (List.range W.length)
 up:π.Pairwise fun i j=>(aA W i).2.1 < (aA W j).2.1\/((aA W i).2.1=(aA W j).2.1/\(aA W i).1 < (aA W j).1)
noncomputable def gx(W:List Wy)(π:List Nat):List Wy:=π.map fun i=>Kc (aA W i)
noncomputable def xu(P:List Int)(π:List Nat):List Int:=π.map fun i=>P.getD i 0
section
variable {W:List Wy}{π π':List Nat}{P:List Int}{G T:List Pl}
theorem Ord.len(o:Ord W π):π.length=W.length:=by rw[o.perm.length_eq,zS]
theorem Ord.lt(o:Ord W π){k:Nat}(hk:k < W.length):π.getD k 0 < W.length:=by
 have h:k < π.length:=by rw[o.len];exact hk
 have:=o.perm.mem_iff.mp (List.getElem_mem h)
 rw[zG,zK h]
 simpa using this
theorem Ord.ex(o:Ord W π){i:Nat}(hi:i < W.length):∃k,k < W.length/\π.getD k 0=i:=by
 have:i∈π:=o.perm.mem_iff.mpr (by simpa using hi)
 obtain⟨k,hk,e⟩:=List.getElem_of_mem this
 exact⟨k,by rw[<- o.len];exact hk,by rw[zG,zK hk];exact e⟩
theorem eL(o:Ord W π):(gx W π).length=W.length:=by simp[gx,o.len]
theorem G9(o:Ord W π):(xu P π).length=W.length:=by simp[xu,o.len]
theorem g8(o:Ord W π){k:Nat}(hk:k < W.length):aA (gx W π) k=Kc (aA W (π.getD k 0)):=by
 have h:k < π.length:=by rw[o.len];exact hk
 simp[aA,gx,h,zG]
theorem uw(o:Ord W π){k:Nat}(hk:k < W.length):(xu P π).getD k 0=P.getD (π.getD k 0) 0:=by
 have h:k < π.length:=by rw[o.len];exact hk
 simp[xu,h,zG]
theorem uq(b:Bool)(w:Wy):br (!b) (Kc w)=br b w:=by cases b<;>rfl
theorem uo(b:Bool)(w:Wy):b8 (!b) (Kc w)=b8 b w:=by cases b<;>rfl
theorem Ord.ris(o:Ord W π):uO (gx W π):=by
 unfold uO gx
 rw[List.pairwise_map]
 exact o.up
theorem Lb(h:uO W){i j:Nat}(hi:i < W.length)(hj:j < W.length)(e:(aA W i).1 < (aA W j).1\/((aA W i).1=(aA W j).1/\(aA W i).2.1 < (aA W j).2.1)):i < j:=by
 rcases Nat.lt_or_ge i j with q|q
 ·exact q
 ·exfalso
  rcases Nat.eq_or_lt_of_le q with q|q
  ·subst q;omega
  ·have:=List.pairwise_iff_getElem.mp h j i hj hi q
   rw[gY hi,gY hj] at this
   omega
theorem zf{l:List Nat}{n:Nat}(p:l.Perm (List.range n))(h:l.Pairwise (· < ·)):l=List.range n:=by
 refine ie (fun i=>((i:Nat):Int)) p (h.imp fun {a b} q=>by omega) (List.pairwise_lt_range.imp fun {a b} q=>by omega)
theorem map_getD(l:List Nat):(List.range l.length).map (fun k=>l.getD k 0)=l:=by
 apply List.ext_getElem
 ·simp
 ·intro i h1 h2
  simp[h2]
theorem Ord.back(h:uO W)(o:Ord W π)(o':Ord (gx W π) π'):π'.map (fun k=>π.getD k 0)=List.range W.length:=by
 have hl:(gx W π).length=W.length:=eL o
 refine zf ?_ ?_
 ·have:=(o'.perm.map fun k=>π.getD k 0)
  rw[hl,<- o.len,map_getD] at this
  exact this.trans o.perm
 ·rw[List.pairwise_map]
  refine o'.up.imp_of_mem fun {i j} hi hj q=>?_
  have hi':i < W.length:=by have:=o'.perm.mem_iff.mp hi;rw[hl] at this;simpa using this
  have hj':j < W.length:=by have:=o'.perm.mem_iff.mp hj;rw[hl] at this;simpa using this
  rw[g8 o hi',g8 o hj'] at q
  exact Lb h (o.lt hi') (o.lt hj') q
theorem z9(h:uO W)(o:Ord W π)(o':Ord (gx W π) π'):gx (gx W π) π'=W:=by
 have hl:(gx W π).length=W.length:=eL o
 have e:gx (gx W π) π'=(π'.map fun k=>π.getD k 0).map fun i=>aA W i:=by
  unfold gx
  rw[zM]
  refine yJ fun k hk=>?_
  have hk':k < W.length:=by have:=o'.perm.mem_iff.mp hk;rw[hl] at this;simpa using this
  have:=g8 o hk'
  unfold gx at this
  rw[this];rfl
 rw[e,o.back h o']
 have:=map_range (0,0,0) (fun w:Wy=>w) W
 simpa [aA] using this
theorem Df(o:Ord W π)(b:Bool)(p:Int):((own (!b) (gx W π) p).map fun k=>π.getD k 0).Perm (own b W p):=by
 have hl:(gx W π).length=W.length:=eL o
 have e:((own (!b) (gx W π) p).map fun k=>π.getD k 0)=π.filter fun i=>decide (br b (aA W i)=p):=by
  conv=>rhs;rw[<- map_getD π,List.filter_map,o.len]
  unfold own
  rw[hl]
  congr 1
  refine List.filter_congr fun k hk=>?_
  have hk':k < W.length:=by simpa using hk
  rw[g8 o hk',uq];rfl
 rw[e]
 exact o.perm.filter _
theorem Eb(o:Ord W π)(b:Bool)(p:Int):(LB (!b) (gx W π) p).Perm (LB b W p):=by
 have hl:(gx W π).length=W.length:=eL o
 rw[<- j6,<- j6]
 have:=(Df o b p).map fun i=>b8 b (aA W i)
 rw[zM] at this
 refine List.Perm.trans (List.Perm.of_eq ?_) this
 refine yJ fun k hk=>?_
 have hk':k < W.length:=by have:=(cC.mp hk).1;rwa [hl] at this
 show b8 (!b) (aA (gx W π) k)=b8 b (aA W (π.getD k 0))
 rw[g8 o hk',uo]
theorem Ord.wd(h:Wd G T W)(o:Ord W π):Wd T G (gx W π) where
 g1:=h.t1
 g4:=h.t4
 t1:=h.g1
 t4:=h.g4
 ga:=h.ta
 ta:=h.ga
 gl:=fun i p e=>(h.tl i p e).trans (Eb o true i).symm
 tl:=fun i p e=>(h.gl i p e).trans (Eb o false i).symm
 wr:=fun w hw=>by
  obtain⟨i,hi,rfl⟩:=zQ.mp hw
  have hi':i < W.length:=by have:=o.perm.mem_iff.mp hi;simpa using this
  have:=h.wr (aA W i) (by rw[<- gY hi'];exact List.getElem_mem _)
  exact⟨this.2.1,this.1,this.2.2⟩
 wp:=o.ris
 wl:=by rw[eL o];exact h.wl
theorem uD(b:Bool)(G T:List Pl):bq (!b) T G=bq b G T:=by cases b<;>rfl
theorem Fo(b:Bool)(G T:List Pl)(i:Nat):b9 (!b) T G i=b9 b G T i:=by unfold b9;rw[uD]
noncomputable def kM(b:Bool)(W:List Wy)(P:List Int)(p:Int):Int:=((own b W p).map fun i=>P.getD i 0).sum
theorem vE{l m:List Int}(p:l.Perm m):l.sum=m.sum:=by
 induction p with
 | nil=>rfl
 | cons x _ ih=>simp[ih]
 | swap x y l=>simp only[List.sum_cons];omega
 | trans _ _ h1 h2=>exact h1.trans h2
theorem EL(o:Ord W π)(b:Bool)(p:Int):kM (!b) (gx W π) (xu P π) p=kM b W P p:=by
 have hl:(gx W π).length=W.length:=eL o
 have:=vE ((Df o b p).map fun i=>P.getD i 0)
 unfold kM
 rw[<- this,zM]
 congr 1
 refine yJ fun k hk=>?_
 have hk':k < W.length:=by have:=(cC.mp hk).1;rwa [hl] at this
 exact uw o hk'
theorem Jt(h:Wd G T W)(o:Ord W π){b:Bool}{i:Nat}{p:Pl}(e:(bq b G T)[i]?=some p){x:Int}(hx:x∈p.2):nW (!b) (gx W π) i x < W.length/\π.getD (nW (!b) (gx W π) i x) 0=nW b W i x:=by
 have e':(bq (!b) T G)[i]?=some p:=by rw[uD];exact e
 obtain⟨h1,h2,h3⟩:=lT (o.wd h) e' hx
 obtain⟨g1,g2,g3⟩:=lT h e hx
 rw[eL o] at h1
 rw[g8 o h1,uq] at h2
 rw[g8 o h1,uo] at h3
 exact⟨h1,wb h.wp (o.lt h1) g1 (by rw[h2,g2]) (by rw[h3,g3])⟩
end
noncomputable def rE(L:List Int)(x:Int):Nat:=L.findIdx fun o=>decide (o=x)
noncomputable def uF(b:Bool)(G T:List Pl)(W:List Wy)(P:List Int)(k:Nat):Bool :=
 decide (kM b W P (br b (aA W k)) < (b9 b G T (br b (aA W k)).toNat).1) ||
 ((b9 b G T (br b (aA W k)).toNat).2.drop (rE (b9 b G T (br b (aA W k)).toNat).2 (b8 b (aA W k))+1)).any fun o=>decide (0 < P.getD (nW b W (br b (aA W k)) o) 0)
noncomputable def kA(G T:List Pl)(W:List Wy)(P:List Int)(k:Nat):Nat :=
 if P.getD k 0=(aA W k).2.2 then 0 else if uF false G T W P k=false then 1 else if uF true G T W P k=false then 2 else 3
noncomputable def u4(G T:List Pl)(W:List Wy)(P:List Int):List Nat:=(List.range W.length).filter fun k=>decide (kA G T W P k=3)
section
variable {W:List Wy}{π π':List Nat}{P:List Int}{G T:List Pl}
theorem Wd.end_pl(h:Wd G T W)(b:Bool){k:Nat}(hk:k < W.length):0<=br b (aA W k)/\(br b (aA W k)).toNat < (bq b G T).length/\((br b (aA W k)).toNat:Int)=br b (aA W k):=by
 have:=h.wr (aA W k) (by rw[<- gY hk];exact List.getElem_mem _)
 cases b
 ·simp only[br,bq,Bool.false_eq_true,if_false];omega
 ·simp only[br,bq,if_true];omega
theorem sL{α:Type}{p q:α->Bool}:∀ {l:List α},(∀x∈l,p x=q x)->l.any p=l.any q
 | [],_=>rfl
 | a::l,h=>by rw[List.any_cons,List.any_cons,h a zE,sL fun x hx=>h x (zC _ hx)]
theorem EC(h:Wd G T W)(o:Ord W π)(b:Bool){k:Nat}(hk:k < W.length):uF (!b) T G (gx W π) (xu P π) k=uF b G T W P (π.getD k 0):=by
 obtain⟨h1,h2,h3⟩:=h.end_pl b (o.lt hk)
 unfold uF
 rw[g8 o hk,uq,uo,Fo,EL o]
 congr 1
 rw[<- h3]
 simp only[yH]
 refine sL fun x hx=>?_
 obtain⟨e1,e2⟩:=Jt h o (lg h2) (List.mem_of_mem_drop hx)
 rw[uw o e1,e2]
theorem Lq(h:Wd G T W)(o:Ord W π){k:Nat}(hk:k < W.length):(kA T G (gx W π) (xu P π) k=3)↔(kA G T W P (π.getD k 0)=3):=by
 have e1:=EC (P:=P) h o false hk
 have e2:=EC (P:=P) h o true hk
 simp only[Bool.not_false,Bool.not_true] at e1 e2
 unfold kA
 rw[uw o hk,g8 o hk,e1,e2]
 have:(Kc (aA W (π.getD k 0))).2.2=(aA W (π.getD k 0)).2.2:=rfl
 rw[this]
 cases uF false G T W P (π.getD k 0)<;>cases uF true G T W P (π.getD k 0)<;>simp<;>split<;>simp
theorem Mj(h:Wd G T W)(o:Ord W π):((u4 T G (gx W π) (xu P π)).map fun k=>π.getD k 0).Perm (u4 G T W P):=by
 have hl:(gx W π).length=W.length:=eL o
 have e:((u4 T G (gx W π) (xu P π)).map fun k=>π.getD k 0)=π.filter fun i=>decide (kA G T W P i=3):=by
  conv=>rhs;rw[<- map_getD π,List.filter_map,o.len]
  unfold u4
  rw[hl]
  congr 1
  refine List.filter_congr fun k hk=>?_
  have hk':k < W.length:=by simpa using hk
  exact decide_eq_decide.mpr (Lq h o hk')
 rw[e]
 exact o.perm.filter _
theorem Ly(h:Wd G T W)(o:Ord W π):(u4 T G (gx W π) (xu P π)=[])↔(u4 G T W P=[]):=by
 have:=(Mj (P:=P) h o).length_eq
 rw[zD] at this
 rw[<- List.length_eq_zero_iff,<- List.length_eq_zero_iff,this]
structure Pn(G T:List Pl)(W:List Wy)(P:List Int):Prop where
 len:P.length=W.length
 bd:∀k,k < W.length->0<=P.getD k 0/\P.getD k 0<=(aA W k).2.2
 am:∀ (b:Bool) (i:Nat),i < (bq b G T).length->kM b W P i<=(b9 b G T i).1
theorem Pn.tu(h:Wd G T W)(o:Ord W π)(p:Pn G T W P):Pn T G (gx W π) (xu P π) where
 len:=by rw[G9 o,eL o]
 bd:=fun k hk=>by
  rw[eL o] at hk
  rw[uw o hk,g8 o hk]
  exact p.bd _ (o.lt hk)
 am:=fun b i hi=>by
  have:=p.am (!b) i (by rw[<- uD b T G] at hi;exact hi)
  rw[<- EL o (!b),<- Fo (!b),Bool.not_not] at this
  exact this
end
section
variable {W:List Wy}{G T:List Pl}{off:List Int}
theorem AO(h:Wd G T W)(b:Bool):∀ (n:Nat),n<=(bq b G T).length ->
  ((List.range n).foldl (wB b G T W off) (List.replicate W.length 0)).length=W.length/\∀k,k < W.length ->
   ((List.range n).foldl (wB b G T W off) (List.replicate W.length 0)).getD k 0=if br b (aA W k) < n then (qy W off (b9 b G T (br b (aA W k)).toNat).1 (fg b W (br b (aA W k)).toNat (b9 b G T (br b (aA W k)).toNat).2)).getD k 0 else 0
 | 0,_=>by
  refine⟨by simp,fun k hk=>?_⟩
  obtain⟨h1,_,_⟩:=h.end_pl b hk
  rw[if_neg (by omega)]
  simp[zG,hk]
 | n+1,hn=>by
  obtain⟨h1,h2⟩:=AO h b n (by omega)
  rw[List.range_succ,List.foldl_append,yK,List.foldl_nil]
  generalize (List.range n).foldl (wB b G T W off) (List.replicate W.length 0)=s at h1 h2
  refine⟨oI h1,fun k hk=>?_⟩
  have hz:(wB b G T W off s n).getD k 0=s.getD k 0+(qy W off (b9 b G T n).1 (fg b W n (b9 b G T n).2)).getD k 0:=wO (by omega) (by rw[tU];exact hk)
  rw[hz,h2 k hk]
  obtain⟨g1,_,_⟩:=h.end_pl b hk
  have e:=lg (b:=b) (G:=G) (T:=T) (i:=n) (by omega)
  by_cases he:br b (aA W k)=n
  ·have hn':(br b (aA W k)).toNat=n:=by omega
   rw[if_neg (by omega),if_pos (by omega),hn']
   omega
  ·have hni:k∉fg b W n (b9 b G T n).2:=fun z=>he (cC.mp ((eU h e).mem_iff.mp z)).2
   rw[AV hni]
   by_cases hlt:br b (aA W k) < n
   ·rw[if_pos hlt,if_pos (by omega)];omega
   ·rw[if_neg hlt,if_neg (by omega)];rfl
theorem C6(h:Wd G T W)(b:Bool){k:Nat}(hk:k < W.length):(bw b G T W off).getD k 0=(qy W off (b9 b G T (br b (aA W k)).toNat).1 (fg b W (br b (aA W k)).toNat (b9 b G T (br b (aA W k)).toNat).2)).getD k 0:=by
 have:=(AO (off:=off) h b _ (Nat.le_refl _)).2 k hk
 obtain⟨_,h2,h3⟩:=h.end_pl b hk
 rw[if_pos (by omega)] at this
 exact this
theorem AJ{amt:Int}:∀ (is:List Nat) (s:Int×List Int),is.Nodup->(∀i∈is,i < s.2.length/\s.2.getD i 0=0) ->
  ((is.foldl (lq W off) s).2.length=s.2.length)/\(is.map fun i=>(is.foldl (lq W off) s).2.getD i 0).sum=s.1 - (is.foldl (lq W off) s).1/\∀j,j∉is->(is.foldl (lq W off) s).2.getD j 0=s.2.getD j 0
 | [],s,_,_=>⟨rfl,by simp,fun _ _=>rfl⟩
 | i::is,s,hn,hz=>by
  rw[List.nodup_cons] at hn
  obtain⟨hi,h0⟩:=hz i zE
  have hs:∀j∈is,j < (lq W off s i).2.length/\(lq W off s i).2.getD j 0=0:=fun j hj=>by
   obtain⟨a,b⟩:=hz j (zC _ hj)
   refine⟨by simpa [lq] using a,?_⟩
   simp only[lq,bT]
   have hne:¬ (i=j/\j < s.2.length):=fun z=>hn.1 (z.1 ▸ hj)
   rw[if_neg hne,b]
  obtain⟨r1,r2,r3⟩:=AJ (amt:=amt) is (lq W off s i) hn.2 hs
  rw[yK]
  refine⟨by rw[r1];simp[lq],?_,fun j hj=>?_⟩
  ·rw[zI,List.sum_cons,r2,r3 i hn.1]
   simp only[lq,bT]
   rw[if_pos ⟨trivial,hi⟩]
   omega
  ·rw[r3 j fun z=>hj (zC _ z)]
   simp only[lq,bT]
   have hne:¬ (i=j/\j < s.2.length):=fun z=>hj (z.1 ▸ zE)
   rw[if_neg hne]
theorem vi(ho:Off off)(hl:MZ W):∀ (is:List Nat) (s:Int×List Int),0<=s.1->0<=(is.foldl (lq W off) s).1
 | [],s,h=>h
 | i::is,s,h=>by
  rw[yK]
  refine vi ho hl is _ ?_
  simp only[lq,cV]
  have:=ho i;have:=hl i
  omega
theorem Im(h:Wd G T W)(ho:Off off){b:Bool}{i:Nat}(hi:i < (bq b G T).length) :
  ((own b W i).map fun k=>(qy W off (b9 b G T i).1 (fg b W i (b9 b G T i).2)).getD k 0).sum<=(b9 b G T i).1:=by
 have e:=lg hi
 have pm:=eU h e
 rw[<- vE (pm.map fun k=>(qy W off (b9 b G T i).1 (fg b W i (b9 b G T i).2)).getD k 0)]
 have hn:(fg b W i (b9 b G T i).2).Nodup:=pm.nodup_iff.mpr (List.nodup_range.filter _)
 obtain⟨_,r2,_⟩:=AJ (W:=W) (off:=off) (amt:=0) (fg b W i (b9 b G T i).2) ((b9 b G T i).1,List.replicate W.length 0) hn fun k hk=>by
  have hk':=(cC.mp (pm.mem_iff.mp hk)).1
  refine⟨by simpa using hk',by simp[zG,hk']⟩
 have:=vi ho h.lim (fg b W i (b9 b G T i).2) ((b9 b G T i).1,List.replicate W.length 0) (h.amt b i)
 unfold qy
 rw[r2]
 show (b9 b G T i).1 - _<=(b9 b G T i).1
 omega
theorem AC(h:Wd G T W)(ho:Off off){b:Bool}{i:Nat}(hi:i < (bq b G T).length):kM b W (bw b G T W off) i<=(b9 b G T i).1:=by
 refine Int.le_trans (Int.le_of_eq ?_) (Im h ho hi)
 unfold kM
 congr 1
 refine yJ fun k hk=>?_
 obtain⟨hk',he⟩:=cC.mp hk
 have:=C6 (off:=off) h b hk'
 rw[he,yH] at this
 exact this
theorem mW{b:Bool}{P Q:List Int}{p:Int}(h:∀k,k < W.length->P.getD k 0=Q.getD k 0):kM b W P p=kM b W Q p:=by
 unfold kM
 congr 1
 exact yJ fun k hk=>h k (cC.mp hk).1
theorem Hz(h:Wd G T W){c:List Int}(ho:Off c)(hc:∀k,k < W.length->c.getD k 0<=(aA W k).2.2)(e:lr G T W c=none):Pn G T W (bw false G T W c) where
 len:=eP _ _ _ _ _
 bd:=fun k hk=>⟨iQ h ho false k,Int.le_trans (yw h ho false hk) (hc k hk)⟩
 am:=fun b i hi=>by
  cases b
  ·exact AC h ho hi
  ·have hke:∀k,k < W.length->(ig G T W c).getD k 0=(bw false G T W c).getD k 0:=fun k hk=>by
    have h1:=yw h (iQ h ho false) true hk
    have h2:qR G T W c k=false:=by
     unfold lr at e
     rw[Option.map_eq_none_iff] at e
     have:=List.find?_eq_none.mp e k (by simpa using hk)
     simpa using this
    unfold qR at h2
    have h3:=of_decide_eq_false h2
    unfold ig at h3 ⊢
    omega
   rw[<- mW hke]
   exact AC h (iQ h ho false) hi
end
noncomputable def pL(G T:List Pl)(W:List Wy)(P:List Int):Bool :=
 ((List.range G.length).all fun i=>decide (kM false W P i<=(b9 false G T i).1))&&((List.range T.length).all fun i=>decide (kM true W P i<=(b9 true G T i).1))
noncomputable def zs(n:Nat):List Int:=List.replicate n 0
noncomputable def k9(d:Nat->Int)(G T:List Pl)(W:List Wy):Nat->List Int
 | 0=>[]
 | k+1=>if pL G T W ((k9 d G T W k++[d k])++zs (W.length - (k9 d G T W k++[d k]).length))=true then k9 d G T W k++[d k] else k9 d G T W k++[0]
section
variable {W:List Wy}{G T:List Pl}{d:Nat->Int}
theorem fW{P:List Int}:pL G T W P=true↔∀ (b:Bool) (i:Nat),i < (bq b G T).length->kM b W P i<=(b9 b G T i).1:=by
 unfold pL
 rw[zF,List.all_eq_true,List.all_eq_true]
 constructor
 ·rintro⟨h1,h2⟩ b i hi
  cases b
  ·exact of_decide_eq_true (h1 i (by simpa [bq] using hi))
  ·exact of_decide_eq_true (h2 i (by simpa [bq] using hi))
 ·intro h
  exact⟨fun i hi=>yB (h false i (by simpa [bq] using hi)),fun i hi=>yB (h true i (by simpa [bq] using hi))⟩
theorem l8:∀k,(k9 d G T W k).length=k
 | 0=>rfl
 | k+1=>by
  unfold k9
  split<;>simp[l8 k]
theorem Ew{b:Bool}{P:List Int}{p:Int}(h:∀k,P.getD k 0=0):kM b W P p=0:=by
 unfold kM
 have:((own b W p).map fun i=>P.getD i 0)=(own b W p).map fun _=>(0:Int):=yJ fun k _=>h k
 rw[this]
 generalize own b W p=l
 induction l with
 | nil=>rfl
 | cons a l ih=>simp[ih]
theorem IV(n k:Nat):(zs n).getD k 0=0:=by
 simp only[zs,zG,List.getElem?_replicate]
 split<;>rfl
theorem Fw(l:List Int)(n k:Nat):(l++zs n).getD k 0=l.getD k 0:=by
 by_cases h:k < l.length
 ·simp[zG,List.getElem?_append_left h]
 ·have h':l.length<=k:=by omega
  have:=IV n (k - l.length)
  simp only[zG] at this ⊢
  rw[List.getElem?_append_right h',this]
  simp[h']
theorem Ob(l:List Int)(k:Nat):(l++[0]).getD k 0=l.getD k 0:=Fw l 1 k
theorem Ad(h:Wd G T W):∀k,pL G T W (k9 d G T W k)=true
 | 0=>fW.mpr fun b i hi=>by
  rw[Ew fun k=>by simp[k9]]
  exact h.amt b i
 | k+1=>by
  unfold k9
  split
  ·rename_i e
   refine fW.mpr fun b i hi=>?_
   have:=fW.mp e b i hi
   rw[mW (Q:=k9 d G T W k++[d k]) fun j _=>Fw _ _ _] at this
   exact this
  ·refine fW.mpr fun b i hi=>?_
   rw[mW (Q:=k9 d G T W k) fun j _=>Ob _ _]
   exact fW.mp (Ad h k) b i hi
theorem ym(hd:∀k,k < W.length->0<=d k/\d k<=(aA W k).2.2)(hl:MZ W):∀k,k<=W.length->∀j,j < k->0<=(k9 d G T W k).getD j 0/\(k9 d G T W k).getD j 0<=(aA W j).2.2
 | 0,_,j,hj=>by omega
 | k+1,hk,j,hj=>by
  have ih:=ym hd hl k (by omega) j
  have len:(k9 d G T W k).length=k:=l8 k
  have key:∀x,(0<=x/\x<=(aA W k).2.2)->0<=(k9 d G T W k++[x]).getD j 0/\(k9 d G T W k++[x]).getD j 0<=(aA W j).2.2:=fun x hx=>by
   by_cases hjk:j < k
   ·rw[zG,List.getElem?_append_left (by omega),<- zG]
    exact ih hjk
   ·have:j=k:=by omega
    subst this
    rw[zG,List.getElem?_append_right (by omega),len]
    simpa using hx
  unfold k9
  split
  ·exact key _ (hd k (by omega))
  ·exact key _ ⟨by omega,hl k⟩
theorem JJ(h:Wd G T W)(hd:∀k,k < W.length->0<=d k/\d k<=(aA W k).2.2):Pn G T W (k9 d G T W W.length) where
 len:=l8 _
 bd:=ym hd h.lim W.length (Nat.le_refl _)
 am:=fW.mp (Ad h _)
theorem Pn.fit{P:List Int}(p:Pn G T W P):pL G T W P=true:=fW.mpr p.am
end
theorem sC{tt:Dl.Env->Option Bool}{te:Dl.Env->Option D}{r:List (Option D)}{x y h:Nat->D}{p:Nat->Bool}:∀ (is:List Nat),
  (∀i∈is,tt (some (x i)::some (y i)::r)=some (p i)/\(p i=true->te (some (x i)::some (y i)::r)=some (h i))) ->
  cx (f7 0 1) tt te (none::none::r) (is.map fun i=>.tuple [x i,y i])=some ((is.filter p).map h)
 | [],_=>rfl
 | i::is,hh=>by
  obtain⟨h1,h2⟩:=hh i zE
  have ih:=sC is fun j hj=>hh j (zC _ hj)
  have hg:f7 0 1 (none::none::r) (.tuple [x i,y i])=some (some (x i)::some (y i)::r):=by
   simp only[f7,isFree,List.getElem?_cons_zero,List.getElem?_cons_succ,Option.getD_some,Option.isNone_none,and_self,if_true,List.set_cons_zero,List.set_cons_succ]
  rw[zI,cx,hg]
  simp only[zA,h1]
  cases hp:p i with
  | true=>simp[h2 hp,ih,hp]
  | false=>simp[ih,hp]
theorem jJ{cs:List Nat}{fi:Dl.Env->Option (List D)}{tt:Dl.Env->Option Bool}{te:Dl.Env->Option D}{ρ:Dl.Env}{n:Nat}{x y h:Nat->D}{p:Nat->Bool}(hfi:fi ρ=some ((List.range n).map fun i=>.tuple [x i,y i]))(hl:n<=1000)
  (hh:∀i,i < n->tt (some (x i)::some (y i)::cs.map fun j=>(ρ[j]?).getD none)=some (p i)/\(p i=true->te (some (x i)::some (y i)::cs.map fun j=>(ρ[j]?).getD none)=some (h i))) :
  ao 2 cs fi (f7 0 1) tt te ρ=some (((List.range n).filter p).map h):=by
 have:=sC (tt:=tt) (te:=te) (r:=cs.map fun j=>(ρ[j]?).getD none) (p:=p) (h:=h) (List.range n) fun i hi=>hh i (by simpa using hi)
 simp only[ao,hfi,zA,d9,List.replicate,List.cons_append,List.nil_append,this]
 refine bf ?_
 rw[zD]
 refine yE (List.length_filter_le _ _) ?_
 rw[zS]
 omega
theorem r8{W:List Wy}{P:List Int}(h:P.length=W.length):gz (W.map au) (P.map PyData.int)=(List.range W.length).map fun i=>.tuple [au (aA W i),.int (P.getD i 0)]:=by
 apply List.ext_getElem?
 intro i
 by_cases hi:i < W.length
 ·have hz:i < (gz (W.map au) (P.map PyData.int)).length:=by rw[lM];simp[h];exact hi
  rw[zK hz]
  obtain⟨x,y,e1,e2,e3⟩:=qk (zK hz)
  rw[zO,lD hi] at e1
  rw[zO,zK (by omega)] at e2
  cases e1
  have e2:PyData.int P[i]=y:=by simpa using e2
  rw[e3,<- e2]
  have:i < P.length:=by omega
  simp[hi,this,zG]
 ·rw[List.getElem?_eq_none (by rw[lM];simp;omega),List.getElem?_eq_none (by simp;omega)]
def Sm(P:List Int):Prop:=∀k,-1000000<=P.getD k 0/\P.getD k 0<=1000000
theorem Ax{W:List Wy}{P:List Int}(hs:Sm P)(hw:W.length<=16)(b:Bool)(p:Int):KN ((own b W p).map fun i=>P.getD i 0)=true:=by
 unfold KN
 rw[zF,zJ,List.all_eq_true]
 refine⟨?_,fun x hx=>?_⟩
 ·have:=ui b W p
  rw[zD]
  omega
 ·obtain⟨i,_,rfl⟩:=zQ.mp hx
  rw[zF,zJ,zJ]
  exact hs i
theorem sr{G T:List Pl}{W:List Wy}(h:Wd G T W){P:List Int}(hp:P.length=W.length)(hs:Sm P)(b:Bool)(p:Int):cZ [aw G T W,af P,.int (sI b),.int p]=some (.int (kM b W P p)):=by
 have hw:=h.wl
 refine aG ?_
 show mz [.val (aw G T W),.val (af P),.val (.int (sI b)),.val (.int p)]=_
 have hz:dU (aa (f2 aq (ab 0) (fC (.int 2))) (aa (ab 1) ae)) [some (aw G T W),some (af P),some (.int (sI b)),some (.int p)]=some ((List.range W.length).map fun i=>.tuple [au (aA W i),.int (P.getD i 0)]):=by
  rw[<- r8 hp]
  rfl
 have c:ao 2 [2,3] (dU (aa (f2 aq (ab 0) (fC (.int 2))) (aa (ab 1) ae))) (f7 0 1) (fB (f2 bS (f2 aq (ab 0) (ab 2)) (ab 3))) (ab 1) [some (aw G T W),some (af P),some (.int (sI b)),some (.int p)]=some ((own b W p).map fun i=>.int (P.getD i 0)):=by
  rw[jJ (p:=fun i=>decide (br b (aA W i)=p)) (h:=fun i=>.int (P.getD i 0)) hz (by omega) fun i hi=>⟨?_,fun _=>rfl⟩]
  ·rfl
  ·show fB (f2 bS (f2 aq (ab 0) (ab 2)) (ab 3)) [some (au (aA W i)),some (.int (P.getD i 0)),some (.int (sI b)),some (.int p)]=_
   exact aU (by rw[iD (a:=.int (br b (aA W i))) (b:=.int p) (ax (oR b _) rfl rfl) rfl,dk])
 refine aH ?_
 have e:((own b W p).map fun i=>PyData.int (P.getD i 0))=((own b W p).map fun i=>P.getD i 0).map PyData.int:=by rw[zM];rfl
 show bb qE (aa (bP (ao 2 [2,3] (dU (aa (f2 aq (ab 0) (fC (.int 2))) (aa (ab 1) ae))) (f7 0 1) (fB (f2 bS (f2 aq (ab 0) (ab 2)) (ab 3))) (ab 1))) ae) [some (aw G T W),some (af P),some (.int (sI b)),some (.int p)]=_
 rw[e] at c
 simp only[bb,aa,ae,bP,c,zB,zA]
 show qE [.list (((own b W p).map fun i=>P.getD i 0).map PyData.int)]=_
 simp only[qE,dg,oneOf,gH,zA,cS,Ax hs hw b p,if_true]
 rfl
theorem o6(L:List Pl):bB 0 (L.map bF)=(List.range L.length).map fun i=>.tuple [nD i,bF (L.getD i (0,[]))]:=by
 rw[enum_zip]
 apply List.ext_getElem
 ·simp
 ·intro i h1 h2
  have:i < L.length:=by simpa using h2
  simp[this,zG]
theorem mZ{p:Nat->Bool}(is:List Nat):jc [.list (is.map fun i=>.bool (p i))]=some (.bool (is.all p)):=by
 have:∀is:List Nat,boolsOf (is.map fun i=>PyData.bool (p i))=some (is.map p):=fun is=>by
  induction is with
  | nil=>rfl
  | cons i is ih=>simp[boolsOf,ih]
 simp only[jc,oneOf,zA,this,zB,List.all_map]
 rfl
theorem An{G T:List Pl}{W:List Wy}(h:Wd G T W){P:List Int}(hp:P.length=W.length)(hs:Sm P)(b:Bool):cG [aw G T W,af P,.int (sI b)]=some (.bool ((List.range (bq b G T).length).all fun i=>decide (kM b W P i<=(b9 b G T i).1))):=by
 have hl:=h.pl b
 refine aG ?_
 show ft [.val (aw G T W),.val (af P),.val (.int (sI b))]=_
 have he:bz (aa (f2 aq (ab 0) (ab 2)) ae) [some (aw G T W),some (af P),some (.int (sI b))]=some ((List.range (bq b G T).length).map fun i=>.tuple [nD i,bF (b9 b G T i)]):=by
  have:=o6 (bq b G T)
  unfold b9
  rw[<- this]
  cases b<;>rfl
 have c:=jJ (cs:=[0,1,2]) (tt:=fun _=>some true) (te:=f2 rL (ah 4 cZ (aa (ab 2) (aa (ab 3) (aa (ab 4) (aa (ab 0) ae))))) (f2 aq (ab 1) (fC (.int 0)))) (p:=fun _=>true) (h:=fun i=>.bool (decide (kM b W P i<=(b9 b G T i).1))) he (by omega) fun i hi=>⟨rfl,fun _=>ax (a:=.int (kM b W P i)) (b:=.int (b9 b G T i).1) rfl (call_of (sr h hp hs b i) rfl rfl) rfl⟩
 refine aH ?_
 show bb jc (aa (bP (ao 2 [0,1,2] (bz (aa (f2 aq (ab 0) (ab 2)) ae)) (f7 0 1) (fun _=>some true) (f2 rL (ah 4 cZ (aa (ab 2) (aa (ab 3) (aa (ab 4) (aa (ab 0) ae))))) (f2 aq (ab 1) (fC (.int 0)))))) ae) [some (aw G T W),some (af P),some (.int (sI b))]=_
 simp only[bb,aa,ae,bP,c,zB,zA]
 rw[show (List.range (bq b G T).length).filter (fun _=>true)=List.range (bq b G T).length by simp,mZ]
theorem pV{fa fb:Dl.Env->Option D}{ρ:Dl.Env}{d:D}(ha:fa ρ=some (.bool true))(hb:fb ρ=some d):jt fa fb ρ=some d:=by
 simp only[jt,ha,zA,hb]
theorem HA{fa fb:Dl.Env->Option D}{ρ:Dl.Env}(ha:fa ρ=some (.bool false)):jt fa fb ρ=some (.bool false):=by
 simp only[jt,ha,zA]
theorem Gs{fa fb:Dl.Env->Option D}{ρ:Dl.Env}{a b:Bool}(ha:fa ρ=some (.bool a))(hb:fb ρ=some (.bool b)):jt fa fb ρ=some (.bool (a&&b)):=by
 cases a
 ·exact HA ha
 ·exact pV ha hb
theorem mV{g:List D->Option D}{f:Dl.Env->Option D}{ρ:Dl.Env}{d:D}(h:f ρ=some d):bb g (aa f ae) ρ=g [d]:=by
 simp only[bb,aa,ae,h,zB,zA]
theorem jE{α:Type}{k:α->D}{f:Dl.Env->Option D}{ρ:Dl.Env}{l:List α}(h:f ρ=some (.tuple (l.map k))):bb bj (aa f ae) ρ=some (nD l.length):=by
 rw[mV h,Ae,zD]
noncomputable def Nh(W:List Wy)(P:List Int):Bool:=(List.range W.length).all fun k=>decide (0<=P.getD k 0)&&decide (P.getD k 0<=(aA W k).2.2)
noncomputable def zp(b:Bool)(G T:List Pl)(W:List Wy)(P:List Int):Bool:=(List.range (bq b G T).length).all fun i=>decide (kM b W P i<=(b9 b G T i).1)
noncomputable def Md(G T:List Pl)(W:List Wy)(P:List Int):Bool:=Nh W P&&(zp false G T W P&&zp true G T W P)
theorem HR{G T:List Pl}{W:List Wy}{P:List Int}(hp:P.length=W.length):Md G T W P=true↔Pn G T W P:=by
 simp only[Md,Nh,zp,zF,List.all_eq_true,zT,zJ]
 constructor
 ·rintro⟨h1,h2,h3⟩
  exact⟨hp,h1,fun b=>by cases b<;>assumption⟩
 ·intro p
  exact⟨p.bd,p.am false,p.am true⟩
theorem Kh(P:List Int):nR (af P)=true:=rfl
theorem BX{G T:List Pl}{W:List Wy}(h:Wd G T W){P:List Int}(hp:P.length=W.length)(hs:Sm P):eC [aw G T W,af P]=some (.bool (Md G T W P)):=by
 have hw:=h.wl
 have hlen:(P.map PyData.int).length=W.length:=by rw[zD,hp]
 refine aG ?_
 show kf [.val (aw G T W),.val (af P),.non]=_
 unfold kf
 have t1:Dl.ay 2 [0] (f2 aq (ab 0) (fC (.int 2))) [.val (aw G T W),.val (af P),.non]=some (.nx [.val (aw G T W),.val (af P),.val (.tuple (W.map au))]):=cn (d:=.tuple (W.map au)) rfl rfl rfl rfl
 rw[ai t1]
 have el:aQ [af P,nD W.length,nD W.length]=some (.bool true):=by
  rw[show nD W.length=.int ((W.length:Nat):Int) from rfl,dG (Kh P)]
  simp[long,af,hp]
 have hl:∀ρ:Dl.Env,ab 2 ρ=some (.tuple (W.map au))->bb bj (aa (ab 2) ae) ρ=some (nD W.length):=fun ρ hr=>jE hr
 have c1:(ba (fB (ah 3 aQ (aa (ab 1) (aa (bb bj (aa (ab 2) ae)) (aa (bb bj (aa (ab 2) ae)) ae)))))) (bg [.val (aw G T W),.val (af P),.val (.tuple (W.map au))])=some false :=
  bN (aU (call_of el (cons_of rfl (cons_of (hl _ rfl) (cons_of (hl _ rfl) rfl))) rfl))
 rw[ai (bE c1)]
 have hz:dU (aa (ab 2) (aa (ab 1) ae)) [some (aw G T W),some (af P),some (.tuple (W.map au))]=some ((List.range W.length).map fun i=>.tuple [au (aA W i),.int (P.getD i 0)]):=by
  rw[<- r8 hp]
  rfl
 have c2:=jJ (cs:=[]) (tt:=fun _=>some true) (te:=ah 3 aW (aa (ab 1) (aa (fC (.int 0)) (aa (f2 aq (ab 0) (fC (.int 2))) ae)))) (p:=fun _=>true) (h:=fun k=>.bool (decide (0<=P.getD k 0)&&decide (P.getD k 0<=(aA W k).2.2))) hz (by omega)
  fun i hi=>⟨rfl,fun _=>call_of (gc (d:=.int (P.getD i 0)) rfl 0 (aA W i).2.2) rfl rfl⟩
 have hall:(fB (bb jc (aa (bP (ao 2 [] (dU (aa (ab 2) (aa (ab 1) ae))) (f7 0 1) (fun _=>some true) (ah 3 aW (aa (ab 1) (aa (fC (.int 0)) (aa (f2 aq (ab 0) (fC (.int 2))) ae)))))) ae))) [some (aw G T W),some (af P),some (.tuple (W.map au))]=some (Nh W P):=by
  refine aU ?_
  simp only[bb,aa,ae,bP,c2,zB,zA]
  rw[show (List.range W.length).filter (fun _=>true)=List.range W.length by simp,mZ]
  rfl
 have k0:=An h hp hs false
 have k1:=An h hp hs true
 cases hb:Nh W P with
 | false =>
  rw[hb] at hall
  refine fu ((eQ (bN hall)).trans ?_)
  rw[Md,hb]
  exact aH rfl
 | true =>
  rw[hb] at hall
  rw[ai (bE (bN hall)),Md,hb,Bool.true_and]
  exact aH (Gs (call_of k0 rfl rfl) (call_of k1 rfl rfl))
theorem mT{W:List Wy}{k:Nat}(hk:k < W.length):aA W k∈W:=gY hk ▸ List.getElem_mem hk
theorem Pn.smP{G T:List Pl}{W:List Wy}(h:Wd G T W){P:List Int}(p:Pn G T W P):Sm P:=fun k=>by
 by_cases hk:k < W.length
 ·have:=p.bd k hk
  have:=(h.wr _ (mT hk)).2.2.2
  omega
 ·rw[zG,List.getElem?_eq_none (by rw[p.len];omega)]
  simp
section
variable {G T:List Pl}{W:List Wy}{P:List Int}
theorem kE(h:Wd G T W)(p:Pn G T W P):eC [aw G T W,af P]=some (.bool true):=by
 rw[BX h p.len (p.smP h),(HR p.len).mpr p]
theorem iM(h:Wd G T W)(p:Pn G T W P):bY [aw G T W,af P]=some .none:=by
 have:dY [.val (aw G T W),.val (af P)]=some (.nx [.val (aw G T W),.val (af P)]):=by
  unfold dY
  refine (ai (iU (call_of (cM h) rfl rfl))).trans ?_
  exact bE (bN (aU (call_of (kE h p) rfl rfl)))
 show (dY [.val (aw G T W),.val (af P)]).map _=_
 rw[this]
 rfl
end
noncomputable def lP(W:List Wy)(i:Nat):List Int:=[(aA W i).2.1,(aA W i).1]
noncomputable def gQ(W:List Wy):List (List Int):=(List.range W.length).map (lP W)
noncomputable def dh(W:List Wy):List Nat:=oK (fun i=>rk (gQ W) ((gQ W).getD i [])) (List.range W.length) 0
theorem C9(z:Nat->Int)(n:Nat):oK z ((List.range n).map nD) .none=(oK z (List.range n) 0).map nD:=by
 unfold oK
 rw[zD]
 split
 ·rfl
 ·rename_i h
  rw[zM]
  obtain⟨hp,_⟩:=SP.gN (z:=z) (n:=(List.range n).length) (by omega)
  refine yJ fun i hi=>?_
  have hi':i < (List.range n).length:=by have:=hp.mem_iff.mp hi;simpa using this
  rw[zS] at hi'
  simp[hi']
theorem Ee{W:List Wy}{i:Nat}(hi:i < W.length):(gQ W).getD i []=lP W i:=by
 simp[gQ,hi]
theorem gF{W:List Wy}(h:uO W):Ord W (dh W) where
 perm:=fY _ _ _
 up:=by
  have hp:(dh W).Perm (List.range W.length):=fY _ _ _
  have hs:(dh W).Pairwise fun i j=>rk (gQ W) (lP W i)<=rk (gQ W) (lP W j):=by
   refine p8 _ _ _ (fun i=>rk (gQ W) (lP W i)) fun i hi=>?_
   rw[zS] at hi
   have e:(List.range W.length).getD i 0=i:=by simp[hi]
   show rk (gQ W) ((gQ W).getD i [])=rk (gQ W) (lP W ((List.range W.length).getD i 0))
   rw[e,Ee hi]
  have hn:(dh W).Nodup:=hp.nodup_iff.mpr List.nodup_range
  refine (hs.and hn).imp_of_mem fun {i j} hi hj hij=>?_
  have hi':i < W.length:=by have:=hp.mem_iff.mp hi;simpa using this
  have hj':j < W.length:=by have:=hp.mem_iff.mp hj;simpa using this
  obtain⟨hle,hne⟩:=hij
  have mj:lP W j∈gQ W:=zQ.mpr ⟨j,by simpa using hj',rfl⟩
  have n1:Dl.lexLt (lP W j) (lP W i)=false:=by
   rw[zz mj,decide_eq_false_iff_not]
   omega
  simp only[lP,HT.lexLt] at n1
  by_cases e1:(aA W j).2.1=(aA W i).2.1
  ·rw[if_pos e1] at n1
   by_cases e2:(aA W j).1=(aA W i).1
   ·exact absurd (uE h hj' hi' e2 e1).symm hne
   ·rw[if_neg e2,decide_eq_false_iff_not] at n1
    exact .inr ⟨e1.symm,by omega⟩
  ·rw[if_neg e1,decide_eq_false_iff_not] at n1
   exact .inl (by omega)
theorem tup_is{fs:Dl.Env->Option (List D)}{ρ:Dl.Env}{ds:List D}(h:fs ρ=some ds)(hl:ds.length<=1000):aM fs ρ=some (.tuple ds):=by
 simp only[aM,h,zA,bf (show ds.length<=4000 by omega),zB]
theorem Nx(w:Wy):aq (au w) (.int 0)=some (.int w.1):=rfl
theorem NC(w:Wy):aq (au w) (.int 1)=some (.int w.2.1):=rfl
section
variable {G T:List Pl}{W:List Wy}{P:List Int}
theorem jS(h:Wd G T W):aZ [aw G T W]=some (.list ((dh W).map nD)):=by
 have hw:=h.wl
 have t1:Dl.ay 1 [0] (f2 aq (ab 0) (fC (.int 2))) [.val (aw G T W),.non]=some (.nx [.val (aw G T W),.val (.tuple (W.map au))]):=cn (d:=.tuple (W.map au)) rfl rfl rfl rfl
 have hl:(bb bj (aa (ab 1) ae)) [some (aw G T W),some (.tuple (W.map au))]=some (nD W.length):=jE (l:=W) (k:=au) rfl
 have hk:iw (aM (aa (f2 aq (f2 aq (ab 1) (ab 0)) (fC (.int 1))) (aa (f2 aq (f2 aq (ab 1) (ab 0)) (fC (.int 0))) ae))) [none,some (.tuple (W.map au))] ((List.range W.length).map nD)=some (((List.range W.length).map nD).map fun d=>af (lP W (iK d).toNat)):=by
  refine m9 fun d hd=>?_
  obtain⟨j,hj,rfl⟩:=zQ.mp hd
  have hj':j < W.length:=by simpa using hj
  have a:∀ρ:Dl.Env,ab 1 ρ=some (.tuple (W.map au))->ab 0 ρ=some (nD j)->(f2 aq (ab 1) (ab 0)) ρ=some (au (aA W j)):=fun ρ e1 e2=>ax (pY hj') e1 e2
  show aM (aa (f2 aq (f2 aq (ab 1) (ab 0)) (fC (.int 1))) (aa (f2 aq (f2 aq (ab 1) (ab 0)) (fC (.int 0))) ae)) [some (nD j),some (.tuple (W.map au))]=_
  have c2:(aa (f2 aq (f2 aq (ab 1) (ab 0)) (fC (.int 1))) (aa (f2 aq (f2 aq (ab 1) (ab 0)) (fC (.int 0))) ae)) [some (nD j),some (.tuple (W.map au))]=some [.int (aA W j).2.1,.int (aA W j).1] :=
   cons_of (ax (NC (aA W j)) (a _ rfl rfl) rfl) (cons_of (ax (Nx (aA W j)) (a _ rfl rfl) rfl) rfl)
  rw[tup_is c2 (by simp)]
  simp[iK,lP,af]
 have hr:rowsOf (((List.range W.length).map nD).map fun d=>af (lP W (iK d).toNat))=some (gQ W):=by
  have e:(((List.range W.length).map nD).map fun d=>af (lP W (iK d).toNat))=(gQ W).map af:=by
   simp only[zM,gQ]
   refine yJ fun j hj=>?_
   simp[iK]
  rw[e,lh]
  intro ns hns
  obtain⟨j,_,rfl⟩:=zQ.mp hns
  exact List.cons_ne_nil _ _
 refine aG ?_
 show dX [.val (aw G T W),.non]=_
 unfold dX
 rw[ai t1]
 refine aH ?_
 have es:qv [1] (aa (bb bj (aa (ab 1) ae)) ae) (aM (aa (f2 aq (f2 aq (ab 1) (ab 0)) (fC (.int 1))) (aa (f2 aq (f2 aq (ab 1) (ab 0)) (fC (.int 0))) ae))) [some (aw G T W),some (.tuple (W.map au))]=some ((dh W).map nD):=by
  unfold qv
  rw[cons_of hl rfl,zA]
  show (if (0:Int)<=((W.length:Nat):Int)/\((W.length:Nat):Int) < 64 then _ else none)=_
  rw[if_pos ⟨by omega,by omega⟩,yH]
  show (iw _ [none,some (.tuple (W.map au))] ((List.range W.length).map nD)).bind _=_
  rw[hk,zA,hr,zB]
  exact congrArg some (C9 _ _)
 show bP _ [some (aw G T W),some (.tuple (W.map au))]=_
 simp only[bP,es,zB]
theorem mB{cs:List Nat}{fi:Dl.Env->Option (List D)}{te:Dl.Env->Option D}{ρ:Dl.Env}{is:List Nat}{f:Nat->D}(hfi:fi ρ=some (is.map nD))(hl:is.length<=1000)(hh:∀i∈is,te (some (nD i)::cs.map fun j=>(ρ[j]?).getD none)=some (f i)):ao 1 cs fi (fG 0) (fun _=>some true) te ρ=some (is.map f):=by
 rw[bQ (h:=fun d=>f (iK d).toNat) hfi (by rw[zD];omega) fun d hd=>?_]
 ·rw[zM]
  refine congrArg some (yJ fun i _=>?_)
  simp[iK]
 ·obtain⟨i,hi,rfl⟩:=zQ.mp hd
  rw[hh i hi]
  simp[iK]
theorem wc{n:Nat}{m:List D->Option D}{fs:Dl.Env->Option (List D)}{ρ:Dl.Env}{ds es:List D}(h:m ds=some (.list es))(hf:fs ρ=some ds)(hn:ds.length=n):aX (ah n m fs) ρ=some es:=by
 simp only[aX,call_of h hf hn,zA,gH]
theorem Ay(h:uO W){i:Nat}(hi:i∈dh W):i < W.length:=by
 have:=(gF h).perm.mem_iff.mp hi
 simpa using this
theorem wX(h:uO W):(dh W).length=W.length:=(gF h).len
theorem nV{r:List (Option D)}:∀ (l:List Wy),cx (FN 0 1 2) (fun _=>some true) (aM (aa (ab 1) (aa (ab 0) (aa (ab 2) ae)))) (none::none::none::r) (l.map au)=some ((l.map Kc).map au)
 | []=>rfl
 | w::l=>by
  have ih:=nV (r:=r) l
  have hg:FN 0 1 2 (none::none::none::r) (au w)=some (some (.int w.1)::some (.int w.2.1)::some (.int w.2.2)::r):=rfl
  rw[zI,cx,hg,zA]
  have e:aM (aa (ab 1) (aa (ab 0) (aa (ab 2) ae))) (some (.int w.1)::some (.int w.2.1)::some (.int w.2.2)::r)=some (au (Kc w)):=rfl
  simp only[zA,if_true,e,ih,zB,zI]
theorem wx(h:Wd G T W):jR [aw G T W]=some (aw T G (gx W (dh W))):=by
 have hw:=h.wl
 have hn:=wX h.wp
 refine aG ?_
 show lE [.val (aw G T W),.non]=_
 unfold lE
 refine (ai (iU (call_of (cM h) rfl rfl))).trans ?_
 have c:ao 1 [0] (aX (ah 1 aZ (aa (ab 0) ae))) (fG 0) (fun _=>some true) (f2 aq (f2 aq (ab 1) (fC (.int 2))) (ab 0)) [some (aw G T W),none]=some ((dh W).map fun i=>au (aA W i)) :=
  mB (wc (jS h) rfl rfl) (by omega) fun i hi=>ax (pY (Ay h.wp hi)) rfl rfl
 have t2:aS 1 [0] (ao 1 [0] (aX (ah 1 aZ (aa (ab 0) ae))) (fG 0) (fun _=>some true) (f2 aq (f2 aq (ab 1) (fC (.int 2))) (ab 0))) [.val (aw G T W),.non]=some (.nx [.val (aw G T W),.own ((dh W).map fun i=>au (aA W i))]):=mC c rfl
 rw[ai t2]
 refine aH ?_
 have e3:ao 3 [] (aX (ab 1)) (FN 0 1 2) (fun _=>some true) (aM (aa (ab 1) (aa (ab 0) (aa (ab 2) ae)))) [some (aw G T W),some (.list ((dh W).map fun i=>au (aA W i)))]=some ((gx W (dh W)).map au):=by
  have:=nV (r:=[]) ((dh W).map fun i=>aA W i)
  rw[zM,zM] at this
  have hf:aX (ab 1) [some (aw G T W),some (.list ((dh W).map fun i=>au (aA W i)))]=some ((dh W).map fun i=>au (aA W i)):=rfl
  unfold ao
  rw[hf,zA]
  show (cx (FN 0 1 2) (fun _=>some true) (aM (aa (ab 1) (aa (ab 0) (aa (ab 2) ae)))) [none,none,none] ((dh W).map fun i=>au (aA W i))).bind small=_
  rw[show ((dh W).map fun i=>au (aA W i))=List.map (au ∘ fun i=>aA W i) (dh W) from rfl,this,zA]
  rw[bf (by simp;omega),gx]
  simp only[zM]
  rfl
 show aM (aa (f2 aq (ab 0) (fC (.int 1))) (aa (f2 aq (ab 0) (fC (.int 0))) (aa (bb bM (aa (bP (ao 3 [] (aX (ab 1)) (FN 0 1 2) (fun _=>some true) (aM (aa (ab 1) (aa (ab 0) (aa (ab 2) ae)))))) ae)) ae))) [some (aw G T W),some (.list ((dh W).map fun i=>au (aA W i)))]=_
 have e4:(bb bM (aa (bP (ao 3 [] (aX (ab 1)) (FN 0 1 2) (fun _=>some true) (aM (aa (ab 1) (aa (ab 0) (aa (ab 2) ae)))))) ae)) [some (aw G T W),some (.list ((dh W).map fun i=>au (aA W i)))]=some (.tuple ((gx W (dh W)).map au)):=by
  simp only[bb,aa,ae,bP,e3,zB,zA,Fx]
 exact tup_is (ds:=[.tuple (T.map bF),.tuple (G.map bF),.tuple ((gx W (dh W)).map au)]) (cons_of (ax (a:=aw G T W) (b:=.int 1) (c:=.tuple (T.map bF)) rfl rfl rfl) (cons_of (ax (a:=aw G T W) (b:=.int 0) (c:=.tuple (G.map bF)) rfl rfl rfl) (cons_of e4 rfl))) (by simp)
theorem qT(h:Wd G T W)(p:Pn G T W P):eJ [aw G T W,af P]=some (af (xu P (dh W))):=by
 have hw:=h.wl
 have hn:=wX h.wp
 refine aG ?_
 show eM [.val (aw G T W),.val (af P)]=_
 unfold eM
 refine (ai (iU (call_of (iM h p) rfl rfl))).trans ?_
 have c:ao 1 [1] (aX (ah 1 aZ (aa (ab 0) ae))) (fG 0) (fun _=>some true) (f2 aq (ab 1) (ab 0)) [some (aw G T W),some (af P)]=some ((dh W).map fun i=>.int (P.getD i 0)) :=
  mB (wc (jS h) rfl rfl) (by omega) fun i hi=>ax (fV (by rw[p.len];exact Ay h.wp hi)) rfl rfl
 refine aH ?_
 show bb bM (aa (bP (ao 1 [1] (aX (ah 1 aZ (aa (ab 0) ae))) (fG 0) (fun _=>some true) (f2 aq (ab 1) (ab 0)))) ae) [some (aw G T W),some (af P)]=_
 simp only[bb,aa,ae,bP,c,zB,zA,Fx]
 simp[af,xu]
end
theorem F9{f g:Dl.Env->Option D}{ρ:Dl.Env}{ds:List D}{k:Nat}(h:f ρ=some (.list ds))(h2:g ρ=some (nD k)):fM cQ f (oT g) fF ρ=some (.list (ds.drop k)):=by
 have:=wA ds k
 simp only[fM,h,oT,h2,fF,gI,cQ,zA,zB,this]
theorem Bs{p:Nat->Bool}(is:List Nat):Rf.EM [.list (is.map fun i=>.bool (p i))]=some (.bool (is.any p)):=by
 have:∀is:List Nat,boolsOf (is.map fun i=>PyData.bool (p i))=some (is.map p):=fun is=>by
  induction is with
  | nil=>rfl
  | cons i is ih=>simp[boolsOf,ih]
 simp only[Rf.EM,oneOf,zA,this,zB,List.any_map]
 rfl
theorem l5{α β:Type}(f:α->β)(p:β->Bool)(q:α->Bool):∀ (l:List α),(∀x∈l,p (f x)=q x)->(l.map f).findIdx p=l.findIdx q
 | [],_=>rfl
 | x::l,h=>by
  rw[zI,List.findIdx_cons,List.findIdx_cons,h x zE,l5 f p q l fun y hy=>h y (zC _ hy)]
section
variable {G T:List Pl}{W:List Wy}{P:List Int}
theorem Kn(h:Wd G T W){b:Bool}{i:Nat}{p:Pl}(e:(bq b G T)[i]?=some p){k:Nat}(hk:k < W.length)(he:br b (aA W k)=i):n6 (.list ((fg b W i p.2).map nD)) (nD k)=some (nD (rE p.2 (b8 b (aA W k)))):=by
 have ko:k∈own b W i:=cC.mpr ⟨hk,he⟩
 have km:k∈fg b W i p.2:=(eU h e).mem_iff.mpr ko
 have e1:(fg b W i p.2).map nD=((fg b W i p.2).map fun j=>((j:Nat):Int)).map PyData.int:=by rw[zM];rfl
 have m1:((k:Nat):Int)∈(fg b W i p.2).map fun j=>((j:Nat):Int):=zQ.mpr ⟨k,km,rfl⟩
 rw[e1]
 show (intsOf _).bind _=_
 rw[cS,zA,nu m1,zB]
 have e2:((fg b W i p.2).map fun j=>((j:Nat):Int)).findIdx (fun o=>decide (o=((k:Nat):Int)))=rE p.2 (b8 b (aA W k)):=by
  unfold fg rE
  rw[zM]
  refine l5 _ _ _ _ fun x hx=>?_
  obtain⟨hl,h1,h2⟩:=lT h e hx
  show decide (((nW b W i x:Nat):Int)=(k:Int))=decide (x=b8 b (aA W k))
  rw[decide_eq_decide]
  constructor
  ·intro z
   have z:nW b W i x=k:=by omega
   rw[<- z,h2]
  ·intro z
   rw[z,uu h.wp ko]
 rw[e2]
theorem lA(h:Wd G T W)(hp:P.length=W.length)(hs:Sm P)(b:Bool){k:Nat}(hk:k < W.length):cA [aw G T W,af P,.int (sI b),nD k]=some (.bool (uF b G T W P k)):=by
 have hw:=h.wl
 obtain⟨z1,z2,z3⟩:=h.end_pl b hk
 have hx:(bq b G T)[(br b (aA W k)).toNat]?=some (b9 b G T (br b (aA W k)).toNat):=by
  rw[zK z2]
  simp[b9,z2]
 have hL:∀x∈(b9 b G T (br b (aA W k)).toNat).2,_:=fun x hx'=>lT h hx hx'
 have hb:(b9 b G T (br b (aA W k)).toNat).2.length<=16:=by
  have:=(eU h hx).length_eq
  have h2:=ui b W ((br b (aA W k)).toNat:Int)
  unfold fg at this
  rw[zD] at this
  omega
 have ei:=Kn h hx hk z3.symm
 have ew:=rK h hx
 generalize hpl:b9 b G T (br b (aA W k)).toNat=pl at *
 generalize hj:(br b (aA W k)).toNat=j at *
 have ez:PyData.int (br b (aA W k))=nD j:=by rw[<- z3]
 refine aG ?_
 show fI [.val (aw G T W),.val (af P),.val (.int (sI b)),.val (nD k),.non,.non,.non]=_
 unfold fI
 have t4:Dl.ay 4 [0,2,3] (f2 aq (f2 aq (f2 aq (ab 0) (fC (.int 2))) (ab 3)) (ab 2)) [.val (aw G T W),.val (af P),.val (.int (sI b)),.val (nD k),.non,.non,.non]=some (.nx [.val (aw G T W),.val (af P),.val (.int (sI b)),.val (nD k),.val (nD j),.non,.non]):=by
  rw[<- ez]
  exact eE (d:=.int (br b (aA W k))) (ax (oR b _) (ax (pY hk) rfl rfl) rfl) rfl
 rw[ai t4]
 have ep:aq (.tuple ((bq b G T).map bF)) (nD j)=some (bF pl):=nv hx
 have ct:(fB (f2 Ak (ah 4 cZ (aa (ab 0) (aa (ab 1) (aa (ab 2) (aa (ab 4) ae))))) (f2 aq (f2 aq (f2 aq (ab 0) (ab 2)) (ab 4)) (fC (.int 0))))) (bg [.val (aw G T W),.val (af P),.val (.int (sI b)),.val (nD k),.val (nD j),.non,.non])=some (decide (kM b W P j < pl.1)):=by
  refine aU (ax (mq _ _) (call_of (sr h hp hs b j) rfl rfl) ?_)
  refine ax (a:=bF pl) (b:=.int 0) rfl (ax ep (ax (oD b G T W) rfl rfl) rfl) rfl
 have hm:uF b G T W P k=(decide (kM b W P j < pl.1)||(pl.2.drop (rE pl.2 (b8 b (aA W k))+1)).any fun o=>decide (0 < P.getD (nW b W j o) 0)):=by
  unfold uF
  rw[hj,hpl,z3]
 rw[hm]
 cases hc:decide (kM b W P j < pl.1) with
 | true =>
  rw[hc] at ct
  exact fu ((eQ ct).trans (aH rfl))
 | false =>
  rw[hc] at ct
  rw[ai (bE ct),Bool.false_or]
  have t5:Dl.ay 5 [0,2,4] (ah 3 ee (aa (ab 0) (aa (ab 2) (aa (ab 4) ae)))) [.val (aw G T W),.val (af P),.val (.int (sI b)),.val (nD k),.val (nD j),.non,.non]=some (.nx [.val (aw G T W),.val (af P),.val (.int (sI b)),.val (nD k),.val (nD j),.val (.list ((fg b W j pl.2).map nD)),.non]) :=
   aL (call_of ew rfl rfl) (call_of ew rfl rfl) rfl
  rw[ai t5]
  have cu:∀ρ:Dl.Env,ab 5 ρ=some (.list ((fg b W j pl.2).map nD))->ab 3 ρ=some (nD k)->(fM cQ (ab 5) (oT (f2 aI (f2 n6 (ab 5) (ab 3)) (fC (.int 1)))) fF) ρ=some (.list (((fg b W j pl.2).map nD).drop (rE pl.2 (b8 b (aA W k))+1))):=fun ρ a c =>
   F9 a (ax (gu _ _) (ax ei a c) rfl)
  have t6:Dl.ay 6 [3,5] (fM cQ (ab 5) (oT (f2 aI (f2 n6 (ab 5) (ab 3)) (fC (.int 1)))) fF) [.val (aw G T W),.val (af P),.val (.int (sI b)),.val (nD k),.val (nD j),.val (.list ((fg b W j pl.2).map nD)),.non]=some (.nx [.val (aw G T W),.val (af P),.val (.int (sI b)),.val (nD k),.val (nD j),.val (.list ((fg b W j pl.2).map nD)),.val (.list (((fg b W j pl.2).drop (rE pl.2 (b8 b (aA W k))+1)).map nD))]):=by
   rw[List.map_drop]
   exact aL (cu _ rfl rfl) (cu _ rfl rfl) rfl
  rw[ai t6]
  have c:ao 1 [1] (aX (ab 6)) (fG 0) (fun _=>some true) (f2 wJ (f2 aq (ab 1) (ab 0)) (fC (.int 0))) [some (aw G T W),some (af P),some (.int (sI b)),some (nD k),some (nD j),some (.list ((fg b W j pl.2).map nD)),some (.list (((fg b W j pl.2).drop (rE pl.2 (b8 b (aA W k))+1)).map nD))]=some (((fg b W j pl.2).drop (rE pl.2 (b8 b (aA W k))+1)).map fun i=>.bool (decide (0 < P.getD i 0))):=by
   refine mB rfl ?_ fun i hi=>?_
   ·rw[List.length_drop,fg,zD]
    omega
   ·have hi':=List.mem_of_mem_drop hi
    unfold fg at hi'
    obtain⟨x,hx',rfl⟩:=zQ.mp hi'
    exact ax (fP _ _) (ax (fV (by rw[hp];exact (hL x hx').1)) rfl rfl) rfl
  refine aH ?_
  show bb Rf.EM (aa (bP (ao 1 [1] (aX (ab 6)) (fG 0) (fun _=>some true) (f2 wJ (f2 aq (ab 1) (ab 0)) (fC (.int 0))))) ae) [some (aw G T W),some (af P),some (.int (sI b)),some (nD k),some (nD j),some (.list ((fg b W j pl.2).map nD)),some (.list (((fg b W j pl.2).drop (rE pl.2 (b8 b (aA W k))+1)).map nD))]=_
  simp only[bb,aa,ae,bP,c,zB,zA,Bs]
  unfold fg
  rw[<- List.map_drop,List.any_map]
  rfl
noncomputable def Mh:Nat->D|0=>.str "full" | 1=>.str "giver" | 2=>.str "taker" | _=>.none
theorem y6(h:Wd G T W)(hp:P.length=W.length)(hs:Sm P){k:Nat}(hk:k < W.length):ej [aw G T W,af P,nD k]=some (Mh (kA G T W P k)):=by
 refine aG ?_
 show jd [.val (aw G T W),.val (af P),.val (nD k)]=_
 unfold jd kA
 have c1:(fB (f2 bS (f2 aq (ab 1) (ab 2)) (f2 aq (f2 aq (f2 aq (ab 0) (fC (.int 2))) (ab 2)) (fC (.int 2))))) (bg [.val (aw G T W),.val (af P),.val (nD k)])=some (decide (P.getD k 0=(aA W k).2.2)) :=
  aU (ax (dk _ _) (ax (fV (by rw[hp];exact hk)) rfl rfl) (ax (a:=au (aA W k)) (b:=.int 2) rfl (ax (pY hk) rfl rfl) rfl))
 have w0:=lA h hp hs false hk
 have w1:=lA h hp hs true hk
 have c2:(ba (fB (ah 4 cA (aa (ab 0) (aa (ab 1) (aa (fC (.int 0)) (aa (ab 2) ae))))))) (bg [.val (aw G T W),.val (af P),.val (nD k)])=some (!(uF false G T W P k)):=bN (aU (call_of w0 rfl rfl))
 have c3:(ba (fB (ah 4 cA (aa (ab 0) (aa (ab 1) (aa (fC (.int 1)) (aa (ab 2) ae))))))) (bg [.val (aw G T W),.val (af P),.val (nD k)])=some (!(uF true G T W P k)):=bN (aU (call_of w1 rfl rfl))
 by_cases e1:P.getD k 0=(aA W k).2.2
 ·rw[yB e1] at c1
  rw[if_pos e1]
  exact fu ((eQ c1).trans (aH rfl))
 ·rw[yA e1] at c1
  rw[if_neg e1,ai (bE c1)]
  cases e2:uF false G T W P k with
  | false =>
   rw[e2] at c2
   rw[if_pos rfl]
   exact fu ((eQ c2).trans (aH rfl))
  | true =>
   rw[e2] at c2
   rw[if_neg (by simp),ai (bE c2)]
   cases e3:uF true G T W P k with
   | false =>
    rw[e3] at c3
    rw[if_pos rfl]
    exact fu ((eQ c3).trans (aH rfl))
   | true =>
    rw[e3] at c3
    rw[if_neg (by simp),ai (bE c3)]
    exact aH rfl
theorem JF(G T:List Pl)(W:List Wy)(P:List Int)(k:Nat):kA G T W P k<=3:=by
 unfold kA
 split
 ·omega
 ·split
  ·omega
  ·split<;>omega
theorem FT(n:Nat)(h:n<=3):mn (Mh n) .none=some (.bool (decide (n=3))):=by
 match n,h with
 | 0,_=>rfl
 | 1,_=>rfl
 | 2,_=>rfl
 | 3,_=>rfl
theorem wG{ρ:Dl.Env}{f:Dl.Env->Option D}(hp:P.length=W.length)(hf:f ρ=some (af P)):(aa (bb bj (aa f ae)) ae) ρ=some [nD W.length]:=by
 have:=FQ P
 rw[hp] at this
 refine cons_of ?_ rfl
 rw[mV hf,this]
theorem oa(h:Wd G T W)(hp:P.length=W.length)(hs:Sm P):dz [aw G T W,af P]=some (match (List.range W.length).find? fun k=>decide (kA G T W P k=3) with|some k=>nD k|none=>.none):=by
 have hw:=h.wl
 refine aG ?_
 show dv [.val (aw G T W),.val (af P),.non]=_
 unfold dv
 obtain⟨f1,f2'⟩:=fX (tgt:=n0 2) (gb:=dN (fB (f2 mn (ah 3 ej (aa (ab 0) (aa (ab 1) (aa (ab 2) ae)))) (fC .none))) (az (ab 2)) dJ) (fun ρ=>∃x,ρ=[.val (aw G T W),.val (af P),x]) nD (fun k=>decide (kA G T W P k=3)) nD
  (l:=List.range W.length) (ρ:=[.val (aw G T W),.val (af P),.non])
  (fun ρ k hk hρ=>by
   obtain⟨x,rfl⟩:=hρ
   have hk':k < W.length:=by simpa using hk
   have c:(fB (f2 mn (ah 3 ej (aa (ab 0) (aa (ab 1) (aa (ab 2) ae)))) (fC .none))) (bg [.val (aw G T W),.val (af P),.val (nD k)])=some (decide (kA G T W P k=3)) :=
    aU (ax (FT _ (JF G T W P k)) (call_of (y6 h hp hs hk') rfl rfl) rfl)
   refine⟨_,rfl,fun hq=>?_,fun hq=>?_⟩
   ·show dN _ _ _ [.val (aw G T W),.val (af P),.val (nD k)]=_
    rw[hq] at c
    exact (eQ c).trans (aH rfl)
   ·rw[hq] at c
    exact⟨_,bE c,_,rfl⟩) ⟨_,rfl⟩
 have hr:bC (aa (bb bj (aa (ab 1) ae)) ae) [some (aw G T W),some (af P),none]=some ((List.range W.length).map nD):=ni (wG hp rfl) (by omega)
 cases e:(List.range W.length).find? fun k=>decide (kA G T W P k=3) with
 | some k=>exact fu (bU (f1 k e) hr rfl)
 | none =>
  obtain⟨ρ',e',x,rfl⟩:=f2' e
  exact (ai (bU e' hr rfl)).trans (aH rfl)
theorem pG(h:Wd G T W)(hp:P.length=W.length)(hs:Sm P):dD [aw G T W,af P]=some (.bool (decide (u4 G T W P=[]))):=by
 refine aG ?_
 show i8 [.val (aw G T W),.val (af P)]=_
 unfold i8
 refine aH (ax ?_ (call_of (oa h hp hs) rfl rfl) rfl)
 cases e:(List.range W.length).find? fun k=>decide (kA G T W P k=3) with
 | some k =>
  have:u4 G T W P≠[]:=fun z=>by
   have hm:=List.mem_of_find?_eq_some e
   have hq:=List.find?_some e
   have:k∈u4 G T W P:=List.mem_filter.mpr ⟨hm,hq⟩
   rw[z] at this
   cases this
  rw[yA this]
  rfl
 | none =>
  have:u4 G T W P=[]:=by
   rw[List.find?_eq_none] at e
   exact List.filter_eq_nil_iff.mpr e
  rw[yB this]
  rfl
theorem FU(h:Wd G T W)(p:Pn G T W P):l0 [aw G T W,af P]=some (.bool (decide (u4 G T W P=[]))):=by
 refine aG ?_
 show oC [.val (aw G T W),.val (af P)]=_
 unfold oC
 refine (ai (iU (call_of (iM h p) rfl rfl))).trans ?_
 exact aH (call_of (pG h p.len (p.smP h)) rfl rfl)
theorem nO{tt:Dl.Env->Option Bool}{te:Dl.Env->Option D}{r:List (Option D)}{f:Nat->D}{q:Nat->Bool}:∀ (is:List Nat),(∀i∈is,tt (some (nD i)::r)=some (q i)/\(q i=true->te (some (nD i)::r)=some (f i)))->cx (fG 0) tt te (none::r) (is.map nD)=some ((is.filter q).map f)
 | [],_=>rfl
 | i::is,h=>by
  have ih:=nO (tt:=tt) (te:=te) (r:=r) (f:=f) (q:=q) is fun j hj=>h j (zC _ hj)
  obtain⟨h1,h2⟩:=h i zE
  have hg:fG 0 (none::r) (nD i)=some (some (nD i)::r):=rfl
  rw[zI,cx,hg,zA,h1,zA,List.filter_cons]
  cases e:q i with
  | true =>
   rw[if_pos rfl,if_pos rfl,h2 e,zA,ih]
   rfl
  | false =>
   rw[if_neg (by simp),if_neg (by simp),ih]
theorem yr{cs:List Nat}{fi:Dl.Env->Option (List D)}{tt:Dl.Env->Option Bool}{te:Dl.Env->Option D}{ρ:Dl.Env}{is:List Nat}{f:Nat->D}{q:Nat->Bool}(hfi:fi ρ=some (is.map nD))(hl:is.length<=1000)(hh:∀i∈is,tt (some (nD i)::cs.map fun j=>(ρ[j]?).getD none)=some (q i)/\(q i=true->te (some (nD i)::cs.map fun j=>(ρ[j]?).getD none)=some (f i))):ao 1 cs fi (fG 0) tt te ρ=some ((is.filter q).map f):=by
 have:=nO is hh
 simp only[ao,hfi,zA,d9,List.replicate,List.cons_append,List.nil_append,this]
 refine bf ?_
 rw[zD]
 refine yE (List.length_filter_le _ _) ?_
 omega
theorem qH(h:Wd G T W){c:List Int}(hb:bu [aw T G (gx W (dh W))]=some (af c))(p:Pn T G (gx W (dh W)) c):cO [aw G T W]=some (af (xu c (dh (gx W (dh W))))):=by
 have o:=gF h.wp
 have h':=o.wd h
 refine aG ?_
 show eI [.val (aw G T W),.non]=_
 unfold eI
 have t1:Dl.ay 1 [0] (ah 1 jR (aa (ab 0) ae)) [.val (aw G T W),.non]=some (.nx [.val (aw G T W),.val (aw T G (gx W (dh W)))]):=aL (call_of (wx h) rfl rfl) (call_of (wx h) rfl rfl) rfl
 rw[ai t1]
 exact aH (call_of (qT h' p) (cons_of rfl (cons_of (call_of hb rfl rfl) rfl)) rfl)
end
theorem oS{tgt:aj->D->Option aj}{gb:aj->Option Out}(f:Nat->D)(R:Nat->aj->Prop):∀ (n k:Nat) (ρ:aj),
  (∀j ρ,k<=j->j < k+n->R j ρ->∃ρ1 ρ2,tgt ρ (f j)=some ρ1/\gb ρ1=some (.nx ρ2)/\R (j+1) ρ2)->R k ρ->∃ρ',d7 tgt gb ((List.range' k n).map f) ρ=some (.nx ρ')/\R (k+n) ρ'
 | 0,k,ρ,_,h=>⟨ρ,rfl,h⟩
 | n+1,k,ρ,hh,h=>by
  obtain⟨ρ1,ρ2,e1,e2,h2⟩:=hh k ρ (Nat.le_refl _) (by omega) h
  obtain⟨ρ',e3,h3⟩:=oS f R n (k+1) ρ2 (fun j ρ a b=>hh j ρ (by omega) (by omega)) h2
  refine⟨ρ',?_,by rw[show k+(n+1)=k+1+n by omega];exact h3⟩
  rw[List.range'_succ,zI,d7,e1,zA,e2]
  exact e3
theorem Mf{n:Nat}(hl:n<=1000):Dl.eB (.tuple [.int 0]) (nD n)=some (af (zs n)):=by
 have e:vf (.tuple [.int 0]) (nD n)=some (af (zs n)):=by
  show (if xq ((n:Nat):Int)=true/\[PyData.int 0].length * ((n:Nat):Int).toNat<=sizeLine then some (PyData.tuple (List.replicate ((n:Nat):Int).toNat [PyData.int 0]).flatten) else none)=_
  have hz:[PyData.int 0].length * n<=sizeLine:=by
   rw[List.length_singleton,Nat.one_mul]
   exact yE hl (by decide)
  rw[yH,if_pos ⟨sP hl,hz⟩,Jb]
  rfl
 show ((uZ rA fun i j=>PyData.int (i * j)) (.tuple [.int 0]) (nD n)).or (vf (.tuple [.int 0]) (nD n))=_
 rw[e]
 rfl
section
variable {G T:List Pl}{W:List Wy}{P:List Int}
theorem ye(h:P.length=W.length):gz (P.map PyData.int) (W.map au)=(List.range W.length).map fun i=>.tuple [.int (P.getD i 0),au (aA W i)]:=by
 have:∀ (a:List Int) (l:List Wy),a.length=l.length->gz (a.map PyData.int) (l.map au)=(List.range l.length).map fun i=>.tuple [.int (a.getD i 0),au (aA l i)]:=by
  intro a
  induction a with
  | nil=>intro l e;cases l with|nil=>rfl|cons _ _=>simp at e
  | cons x a ih =>
   intro l e
   cases l with
   | nil=>simp at e
   | cons w l =>
    rw[zI,zI,gz,ih l (by simpa using e),zL,List.range_succ_eq_map,zI,zM]
    rfl
 exact this P W h
theorem xR(h:Wd G T W)(hp:P.length=W.length)(hs:Sm P)(b:Bool)(p:Int):cY [aw G T W,af P,.int (sI b),.int p]=some (.int (kM b W P p)):=by
 have hw:=h.wl
 refine aG ?_
 show jU [.val (aw G T W),.val (af P),.val (.int (sI b)),.val (.int p)]=_
 have hz:dU (aa (ab 1) (aa (f2 aq (ab 0) (fC (.int 2))) ae)) [some (aw G T W),some (af P),some (.int (sI b)),some (.int p)]=some ((List.range W.length).map fun i=>.tuple [.int (P.getD i 0),au (aA W i)]):=by
  rw[<- ye hp]
  rfl
 have c:ao 2 [2,3] (dU (aa (ab 1) (aa (f2 aq (ab 0) (fC (.int 2))) ae))) (f7 0 1) (fB (f2 bS (f2 aq (ab 1) (ab 2)) (ab 3))) (ab 0) [some (aw G T W),some (af P),some (.int (sI b)),some (.int p)]=some ((own b W p).map fun i=>.int (P.getD i 0)):=by
  rw[jJ (p:=fun i=>decide (br b (aA W i)=p)) (h:=fun i=>.int (P.getD i 0)) hz (by omega) fun i hi=>⟨?_,fun _=>rfl⟩]
  ·rfl
  ·show fB (f2 bS (f2 aq (ab 1) (ab 2)) (ab 3)) [some (.int (P.getD i 0)),some (au (aA W i)),some (.int (sI b)),some (.int p)]=_
   exact aU (by rw[iD (a:=.int (br b (aA W i))) (b:=.int p) (ax (oR b _) rfl rfl) rfl,dk])
 refine aH ?_
 have e:((own b W p).map fun i=>PyData.int (P.getD i 0))=((own b W p).map fun i=>P.getD i 0).map PyData.int:=by rw[zM];rfl
 show bb qE (aa (bP (ao 2 [2,3] (dU (aa (ab 1) (aa (f2 aq (ab 0) (fC (.int 2))) ae))) (f7 0 1) (fB (f2 bS (f2 aq (ab 1) (ab 2)) (ab 3))) (ab 0))) ae) [some (aw G T W),some (af P),some (.int (sI b)),some (.int p)]=_
 rw[e] at c
 simp only[bb,aa,ae,bP,c,zB,zA]
 show qE [.list (((own b W p).map fun i=>P.getD i 0).map PyData.int)]=_
 simp only[qE,dg,oneOf,gH,zA,cS,Ax hs hw b p,if_true]
 rfl
noncomputable def NG:aj->Option Out:=(dM [0,2] (bz (aa (f2 aq (ab 0) (ab 2)) ae)) (fK 3 4) (dN (fB (f2 wJ (ah 4 cY (aa (ab 0) (aa (ab 1) (aa (ab 2) (aa (ab 3) ae))))) (f2 aq (ab 4) (fC (.int 0))))) (az (fC (.bool false))) dJ))
theorem F8(h:Wd G T W)(hp:P.length=W.length)(hs:Sm P)(b:Bool)(x y:Slot):(zp b G T W P=false->NG [.val (aw G T W),.val (af P),.val (.int (sI b)),x,y]=some (.rt (.bool false)))/\(zp b G T W P=true->∃x' y',NG [.val (aw G T W),.val (af P),.val (.int (sI b)),x,y]=some (.nx [.val (aw G T W),.val (af P),.val (.int (sI b)),x',y'])):=by
 have hl:=h.pl b
 obtain⟨f1,f2'⟩:=fX (tgt:=fK 3 4) (gb:=dN (fB (f2 wJ (ah 4 cY (aa (ab 0) (aa (ab 1) (aa (ab 2) (aa (ab 3) ae))))) (f2 aq (ab 4) (fC (.int 0))))) (az (fC (.bool false))) dJ)
  (fun ρ=>∃x y,ρ=[.val (aw G T W),.val (af P),.val (.int (sI b)),x,y]) (fun i:Nat=>.tuple [nD i,bF (b9 b G T i)]) (fun i=>decide ((b9 b G T i).1 < kM b W P i)) (fun _=>.bool false)
  (l:=List.range (bq b G T).length) (ρ:=[.val (aw G T W),.val (af P),.val (.int (sI b)),x,y])
  (fun ρ i hi hρ=>by
   obtain⟨x,y,rfl⟩:=hρ
   have c:(fB (f2 wJ (ah 4 cY (aa (ab 0) (aa (ab 1) (aa (ab 2) (aa (ab 3) ae))))) (f2 aq (ab 4) (fC (.int 0))))) (bg [.val (aw G T W),.val (af P),.val (.int (sI b)),.val (nD i),.val (bF (b9 b G T i))])=some (decide ((b9 b G T i).1 < kM b W P i)) :=
    aU (ax (fP _ _) (call_of (xR h hp hs b i) rfl rfl) (ax (a:=bF (b9 b G T i)) (b:=.int 0) rfl rfl rfl))
   refine⟨_,rfl,fun hq=>?_,fun hq=>?_⟩
   ·rw[hq] at c
    exact (eQ c).trans (aH rfl)
   ·rw[hq] at c
    exact⟨_,bE c,_,_,rfl⟩) ⟨_,_,rfl⟩
 have he:bz (aa (f2 aq (ab 0) (ab 2)) ae) (cf [.val (aw G T W),.val (af P),.val (.int (sI b)),x,y])=some ((List.range (bq b G T).length).map fun i=>.tuple [nD i,bF (b9 b G T i)]):=by
  have:=o6 (bq b G T)
  unfold b9
  rw[<- this]
  cases b<;>rfl
 have hh:hand [0,2] 0 [Slot.val (aw G T W),.val (af P),.val (.int (sI b)),x,y]=[Slot.val (aw G T W),.val (af P),.val (.int (sI b)),x,y]:=rfl
 unfold zp
 constructor
 ·intro hk
  cases e:(List.range (bq b G T).length).find? fun i=>decide ((b9 b G T i).1 < kM b W P i) with
  | some i=>exact bU (f1 i e) he hh
  | none =>
   rw[List.find?_eq_none] at e
   rw[List.all_eq_false] at hk
   obtain⟨i,hi,hn⟩:=hk
   have:=e i hi
   simp only[zJ] at this hn
   omega
 ·intro hk
  have e:(List.range (bq b G T).length).find? (fun i=>decide ((b9 b G T i).1 < kM b W P i))=none:=by
   rw[List.find?_eq_none]
   intro i hi
   have:=List.all_eq_true.mp hk i hi
   simp only[zJ] at this ⊢
   omega
  obtain⟨ρ',e',x',y',rfl⟩:=f2' e
  exact⟨x',y',bU e' he hh⟩
theorem KG:pL G T W P=(zp false G T W P&&zp true G T W P):=rfl
theorem x3(h:Wd G T W)(hp:P.length=W.length)(hs:Sm P):cX [aw G T W,af P]=some (.bool (pL G T W P)):=by
 obtain⟨f1,f2'⟩:=fX (tgt:=n0 2) (gb:=NG)
  (fun ρ=>∃x y z,ρ=[.val (aw G T W),.val (af P),x,y,z]) (fun b:Bool=>.int (sI b)) (fun b=>!(zp b G T W P)) (fun _=>.bool false)
  (l:=[false,true]) (ρ:=[.val (aw G T W),.val (af P),.non,.non,.non])
  (fun ρ b _ hρ=>by
   obtain⟨x,y,z,rfl⟩:=hρ
   obtain⟨r1,r2⟩:=F8 h hp hs b y z
   refine⟨_,rfl,fun hq=>?_,fun hq=>?_⟩
   ·exact r1 (by simpa using hq)
   ·obtain⟨x',y',e⟩:=r2 (by simpa using hq)
    exact⟨_,e,_,_,_,rfl⟩) ⟨_,_,_,rfl⟩
 have hr:bC (aa (fC (.int 2)) ae) (cf [.val (aw G T W),.val (af P),.non,.non,.non])=some ([false,true].map fun b=>.int (sI b)):=ni (n:=2) rfl (by omega)
 refine aG ?_
 show gD [.val (aw G T W),.val (af P),.non,.non,.non]=_
 unfold gD
 rw[KG]
 cases e0:zp false G T W P with
 | false =>
  have e:[false,true].find? (fun b=>!(zp b G T W P))=some false:=by rw[List.find?_cons_of_pos (by simp[e0])]
  exact fu (bU (f1 _ e) hr rfl)
 | true =>
  cases e1:zp true G T W P with
  | false =>
   have e:[false,true].find? (fun b=>!(zp b G T W P))=some true:=by rw[List.find?_cons_of_neg (by simp[e0]),List.find?_cons_of_pos (by simp[e1])]
   exact fu (bU (f1 _ e) hr rfl)
  | true =>
   have e:[false,true].find? (fun b=>!(zp b G T W P))=none:=by rw[List.find?_cons_of_neg (by simp[e0]),List.find?_cons_of_neg (by simp[e1])];rfl
   obtain⟨ρ',e',x,y,z,rfl⟩:=f2' e
   exact (ai (bU e' hr rfl)).trans (aH rfl)
end
theorem Sm.app{a b:List Int}(ha:Sm a)(hb:Sm b):Sm (a++b):=fun k=>by
 by_cases hk:k < a.length
 ·have:=ha k
  rwa [show (a++b).getD k 0=a.getD k 0 by simp[List.getElem?_append_left hk]]
 ·have:=hb (k - a.length)
  rwa [show (a++b).getD k 0=b.getD (k - a.length) 0 by simp[List.getElem?_append_right (by omega:a.length<=k)]]
theorem Lk{x:Int}(h1:-1000000<=x)(h2:x<=1000000):Sm [x]:=fun k=>by
 cases k with
 | zero=>exact⟨h1,h2⟩
 | succ k=>simp
theorem L9(n:Nat):Sm (zs n):=fun k=>by rw[IV];omega
section
variable {ns:List Int}{G T:List Pl}{W:List Wy}{at':Int}
noncomputable def qA(ns:List Int)(at':Int)(W:List Wy)(k:Nat):Int:=dr ns (at'+(k:Nat)) ((aA W k).2.2+1)
theorem yy(hl:ns.length<=63)(h:Wd G T W){k:Nat}(hk:k < W.length):0<=qA ns at' W k/\qA ns at' W k<=(aA W k).2.2:=by
 have:=(h.wr _ (mT hk)).2.2
 have h1:=IZ (ns:=ns) (at'+(k:Nat)) ((aA W k).2.2+1) hl (by omega)
 have h2:=IJ (ns:=ns) (at'+(k:Nat)) ((aA W k).2.2+1) hl (by omega)
 unfold qA
 omega
noncomputable def Ny:aj->Option Out:=(ar (ay 6 [0,1,3,4,5] (f2 aI (ab 3) (aM (aa (ah 3 ak (aa (ab 0) (aa (f2 aI (ab 1) (ab 4)) (aa (f2 aI (f2 aq (ab 5) (fC (.int 2))) (fC (.int 1))) ae)))) ae)))) (ar (ay 7 [2,6] (ah 2 cX (aa (ab 2) (aa (f2 aI (ab 6) (f2 eB (aM (aa (fC (.int 0)) ae)) (f2 Dl.fJ (bb bj (aa (f2 aq (ab 2) (fC (.int 2))) ae)) (bb bj (aa (ab 6) ae))))) ae)))) (ay 3 [3,6,7] (IH (fB (ab 7)) (ab 6) (f2 aI (ab 3) (aM (aa (fC (.int 0)) ae)))))))
theorem uB{a b:List Int}(h:a.length+b.length<=1000):Dl.aI (af a) (af b)=some (af (a++b)):=by
 unfold af
 rw[uf (by simp;omega),List.map_append]
theorem Ar{tc:Dl.Env->Option Bool}{fa fb:Dl.Env->Option D}{ρ:Dl.Env}{d:D}(h:tc ρ=some true)(ha:fa ρ=some d):IH tc fa fb ρ=some d:=by
 simp only[IH,h,zA,ha]
theorem CP{tc:Dl.Env->Option Bool}{fa fb:Dl.Env->Option D}{ρ:Dl.Env}{d:D}(h:tc ρ=some false)(ha:fb ρ=some d):IH tc fa fb ρ=some d:=by
 simp only[IH,h,zA,ha]
theorem Lz(hl:ns.length<=63)(h:Wd G T W){k:Nat}(hk:k<=W.length):Sm (k9 (qA ns at' W) G T W k):=fun j=>by
 by_cases hj:j < k
 ·have:=ym (d:=qA ns at' W) (G:=G) (T:=T) (W:=W) (fun k hk=>yy hl h hk) h.lim k hk j hj
  have:=(h.wr _ (mT (show j < W.length by omega))).2.2
  omega
 ·rw[zG,List.getElem?_eq_none (by rw[l8];omega)]
  simp
theorem FY(hl:ns.length<=63)(h:Wd G T W){k:Nat}(hk:k < W.length)(x y:Slot):∃x' y',Ny [.val (cw ns),.val (.int at'),.val (aw G T W),.val (af (k9 (qA ns at' W) G T W k)),.val (nD k),.val (au (aA W k)),x,y]=some (.nx [.val (cw ns),.val (.int at'),.val (aw G T W),.val (af (k9 (qA ns at' W) G T W (k+1))),.val (nD k),.val (au (aA W k)),x',y']):=by
 have hw:=h.wl
 have hr:=(h.wr _ (mT hk)).2.2
 have hsm:=Lz (at':=at') hl h (Nat.le_of_lt hk)
 have hfl:=l8 (d:=qA ns at' W) (G:=G) (T:=T) (W:=W) k
 have hdb:=yy (at':=at') hl h hk
 have e2:k9 (qA ns at' W) G T W (k+1)=if pL G T W ((k9 (qA ns at' W) G T W k++[qA ns at' W k])++zs (W.length - (k9 (qA ns at' W) G T W k++[qA ns at' W k]).length))=true then k9 (qA ns at' W) G T W k++[qA ns at' W k] else k9 (qA ns at' W) G T W k++[0]:=rfl
 rw[e2]
 clear e2
 generalize hf:k9 (qA ns at' W) G T W k=f at hsm hfl ⊢
 generalize hd:qA ns at' W k=d at hdb ⊢
 have ed:∀ρ:Dl.Env,ab 0 ρ=some (cw ns)->ab 1 ρ=some (.int at')->ab 4 ρ=some (nD k)->ab 5 ρ=some (au (aA W k))->(ah 3 ak (aa (ab 0) (aa (f2 aI (ab 1) (ab 4)) (aa (f2 aI (f2 aq (ab 5) (fC (.int 2))) (fC (.int 1))) ae)))) ρ=some (.int d):=fun ρ a b c e=>by
  rw[<- hd]
  exact call_of (r0 (at'+((k:Nat):Int)) ((aA W k).2.2+1) hl (by omega)) (cons_of a (cons_of (ax (gu at' k) b c) (cons_of (ax (gu (aA W k).2.2 1) (ax (Ao _) e rfl) rfl) rfl))) rfl
 have em:∀ρ:Dl.Env,ab 0 ρ=some (cw ns)->ab 1 ρ=some (.int at')->ab 3 ρ=some (af f)->ab 4 ρ=some (nD k)->ab 5 ρ=some (au (aA W k))->(f2 aI (ab 3) (aM (aa (ah 3 ak (aa (ab 0) (aa (f2 aI (ab 1) (ab 4)) (aa (f2 aI (f2 aq (ab 5) (fC (.int 2))) (fC (.int 1))) ae)))) ae))) ρ=some (af (f++[d])):=fun ρ a b z c e =>
  ax (uB (a:=f) (b:=[d]) (by simp;omega)) z (HQ (ed ρ a b c e))
 have t6:Dl.ay 6 [0,1,3,4,5] (f2 aI (ab 3) (aM (aa (ah 3 ak (aa (ab 0) (aa (f2 aI (ab 1) (ab 4)) (aa (f2 aI (f2 aq (ab 5) (fC (.int 2))) (fC (.int 1))) ae)))) ae))) [.val (cw ns),.val (.int at'),.val (aw G T W),.val (af f),.val (nD k),.val (au (aA W k)),x,y]=some (.nx [.val (cw ns),.val (.int at'),.val (aw G T W),.val (af f),.val (nD k),.val (au (aA W k)),.val (af (f++[d])),y]) :=
  aL (em _ rfl rfl rfl rfl rfl) (em _ rfl rfl rfl rfl rfl) rfl
 have hlen:(f++[d]).length=k+1:=by simp[hfl]
 have hsub:((W.length:Nat):Int) - (((f++[d]).length:Nat):Int)=((W.length - (f++[d]).length:Nat):Int):=by omega
 have hwl:((f++[d])++zs (W.length - (f++[d]).length)).length=W.length:=by simp[zs,hfl];omega
 have hsl:Sm ((f++[d])++zs (W.length - (f++[d]).length)):=(hsm.app (Lk (by omega) (by omega))).app (L9 _)
 have ef:∀ρ:Dl.Env,ab 2 ρ=some (aw G T W)->ab 6 ρ=some (af (f++[d]))->(ah 2 cX (aa (ab 2) (aa (f2 aI (ab 6) (f2 eB (aM (aa (fC (.int 0)) ae)) (f2 Dl.fJ (bb bj (aa (f2 aq (ab 2) (fC (.int 2))) ae)) (bb bj (aa (ab 6) ae))))) ae))) ρ=some (.bool (pL G T W ((f++[d])++zs (W.length - (f++[d]).length)))):=fun ρ a b=>by
  refine call_of (x3 h hwl hsl) (cons_of a (cons_of (ax (uB ?_) b (ax (Mf (n:=W.length - (f++[d]).length) (by omega)) (HQ rfl) ?_)) rfl)) rfl
  ·rw[<- zN,hwl];omega
  ·rw[show nD (W.length - (f++[d]).length)=.int (((W.length:Nat):Int) - (((f++[d]).length:Nat):Int)) by rw[hsub]]
   exact ax (sub_int _ _) (jE (l:=W) (k:=au) (ax (mh G T W) a rfl)) (jE (l:=f++[d]) (k:=PyData.int) b)
 have t7:Dl.ay 7 [2,6] (ah 2 cX (aa (ab 2) (aa (f2 aI (ab 6) (f2 eB (aM (aa (fC (.int 0)) ae)) (f2 Dl.fJ (bb bj (aa (f2 aq (ab 2) (fC (.int 2))) ae)) (bb bj (aa (ab 6) ae))))) ae))) [.val (cw ns),.val (.int at'),.val (aw G T W),.val (af f),.val (nD k),.val (au (aA W k)),.val (af (f++[d])),y]=some (.nx [.val (cw ns),.val (.int at'),.val (aw G T W),.val (af f),.val (nD k),.val (au (aA W k)),.val (af (f++[d])),.val (.bool (pL G T W ((f++[d])++zs (W.length - (f++[d]).length))))]) :=
  aL (ef _ rfl rfl) (ef _ rfl rfl) rfl
 unfold Ny
 rw[ai t6,ai t7]
 have h0:∀ρ:Dl.Env,ab 3 ρ=some (af f)->(f2 aI (ab 3) (aM (aa (fC (.int 0)) ae))) ρ=some (af (f++[0])):=fun ρ z=>ax (uB (a:=f) (b:=[0]) (by simp;omega)) z (HQ rfl)
 generalize pL G T W ((f++[d])++zs (W.length - (f++[d]).length))=fb
 cases fb with
 | true =>
  rw[if_pos rfl]
  exact⟨_,_,aL (Ar (aU rfl) rfl) (Ar (aU rfl) rfl) rfl⟩
 | false =>
  rw[if_neg (by simp)]
  exact⟨_,_,aL (CP (aU rfl) (h0 _ rfl)) (CP (aU rfl) (h0 _ rfl)) rfl⟩
theorem Be(W:List Wy):bB 0 (W.map au)=(List.range' 0 W.length).map fun i=>.tuple [nD i,au (aA W i)]:=by
 rw[<- yI,enum_zip]
 apply List.ext_getElem
 ·simp
 ·intro i h1 h2
  have:i < W.length:=by simpa using h2
  simp[gY this]
theorem xw(hl:ns.length<=63)(h:Wd G T W):eR [cw ns,.int at',aw G T W]=some (af (k9 (qA ns at' W) G T W W.length)):=by
 have hw:=h.wl
 obtain⟨ρ',e,x4,x5,x6,x7,rfl⟩:=oS (tgt:=fK 4 5) (gb:=Ny) (fun i=>.tuple [nD i,au (aA W i)]) (fun k ρ=>∃x4 x5 x6 x7,ρ=[.val (cw ns),.val (.int at'),.val (aw G T W),.val (af (k9 (qA ns at' W) G T W k)),x4,x5,x6,x7]) W.length 0 [.val (cw ns),.val (.int at'),.val (aw G T W),.val (af []),.non,.non,.non,.non]
  (fun j ρ _ hj hρ=>by
   obtain⟨x4,x5,x6,x7,rfl⟩:=hρ
   obtain⟨x',y',e⟩:=FY (at':=at') hl h (show j < W.length by omega) x6 x7
   exact⟨_,_,rfl,e,_,_,_,_,rfl⟩) ⟨_,_,_,_,rfl⟩
 refine aG ?_
 show gG [.val (cw ns),.val (.int at'),.val (aw G T W),.non,.non,.non,.non,.non]=_
 unfold gG
 have t3:Dl.ay 3 [] (aM ae) [.val (cw ns),.val (.int at'),.val (aw G T W),.non,.non,.non,.non,.non]=some (.nx [.val (cw ns),.val (.int at'),.val (aw G T W),.val (af []),.non,.non,.non,.non]) :=
  aL (tup_is (ds:=[]) rfl (by simp)) (tup_is (ds:=[]) rfl (by simp)) rfl
 rw[ai t3]
 have he:bz (aa (f2 aq (ab 2) (fC (.int 2))) ae) (cf [.val (cw ns),.val (.int at'),.val (aw G T W),.val (af []),.non,.non,.non,.non])=some ((List.range' 0 W.length).map fun i=>.tuple [nD i,au (aA W i)]):=by
  rw[<- Be]
  rfl
 rw[Nat.zero_add] at e
 exact (ai (bU e he rfl)).trans (aH rfl)
theorem He(hl:ns.length<=63)(h:Wd G T W):Pn G T W (k9 (qA ns at' W) G T W W.length):=JJ h fun k hk=>yy hl h hk
end
theorem oJ{S:Type}(cont:S->Bool)(st:S->S)(μ:S->Nat)(I:S->Prop)(hb:∀s,I s->cont s=true->I (st s)/\μ (st s) < μ s):∀ (n:Nat) (s:S),μ s < n->I s->cont (lp cont st n s)=false/\I (lp cont st n s)
 | 0,s,h,_=>absurd h (by omega)
 | n+1,s,h,i=>by
  rw[lp]
  cases hc:cont s with
  | false=>exact⟨by simpa [hc] using hc,by simpa using i⟩
  | true =>
   obtain⟨i2,hm⟩:=hb s i hc
   have:=oJ cont st μ I hb n (st s) (by omega) i2
   simpa using this
section
variable {G T:List Pl}{W:List Wy}
theorem pj{k:Nat}(hk:k < W.length):(bL W).getD k 0=(aA W k).2.2:=by
 unfold bL
 rw[zG,zO,lD hk]
 rfl
theorem lz(h:Wd G T W):lr G T W (fin G T W).2=none/\xr W (fin G T W)/\∀k,k < W.length->(fin G T W).2.getD k 0<=(aA W k).2.2:=by
 have hb:=h.mea
 obtain⟨h1,i,h2⟩:=oJ (Cp G T W) (spS G T W) (fun s=>mea s.2) (fun s=>xr W s/\∀k,k < W.length->s.2.getD k 0<=(aA W k).2.2)
  (fun s ⟨i,l⟩ hc=>by
   obtain⟨p,e⟩:=lZ hc
   obtain⟨a,b,c⟩:=o3 h i.off e
   obtain⟨i2,hm⟩:=i.step h e
   refine⟨⟨i2,fun k hk=>?_⟩,hm⟩
   rw[mR e]
   show (s.2.set p.1 p.2).getD k 0<=_
   by_cases z:k=p.1
   ·subst z
    have:=l p.1 a
    have hl:p.1 < s.2.length:=by rw[i.len];exact a
    rw[show (s.2.set p.1 p.2).getD p.1 0=p.2 by simp[hl]]
    omega
   ·rw[show (s.2.set p.1 p.2).getD k 0=s.2.getD k 0 by simp[List.getElem?_set_ne (Ne.symm z)]]
    exact l k hk) Rf.turns ([],bL W) (Nat.lt_of_le_of_lt hb (by decide)) ⟨xr.start h,fun k hk=>by rw[pj hk];omega⟩
 refine⟨?_,i,h2⟩
 have:Cp G T W (fin G T W)=false:=h1
 unfold Cp at this
 exact Option.isNone_iff_eq_none.mp (by simpa using this)
noncomputable def og(G T:List Pl)(W:List Wy):List Int:=bw false G T W (fin G T W).2
theorem um(h:Wd G T W):Pn G T W (og G T W):=by
 obtain⟨h1,i,h2⟩:=lz h
 exact Hz h i.off h2 h1
theorem yX(h:Wd G T W):bu [aw G T W]=some (af (og G T W)):=qZ h
theorem nL:∀ {l:List D},(∀d∈l,PyData.eqv d d=true)->PyData.eqvAll l l=true
 | [],_=>by simp[PyData.eqvAll]
 | d::l,h=>by
  rw[PyData.eqvAll,h d zE,nL fun x hx=>h x (zC _ hx)]
  rfl
theorem Lj(a:List Int):PyData.eqv (af a) (af a)=true:=by rw[qj];simp
theorem DX(a:Int):PyData.eqv (.int a) (.int a)=true:=by
 have:=Lj [a]
 rw[af,PyData.eqv,zI,List.map_nil,PyData.eqvAll] at this
 simp only[zF] at this
 exact this.1
theorem BL(a:Bool):cB (.bool a) (.bool a)=some (.bool false):=by cases a<;>simp[cB,HS,SeqAt.shaped,PyData.canLay0,PyData.depth,PyData.eqv]
theorem Ik(a:Int):cB (.int a) (.int a)=some (.bool false):=by
 have hs:SeqAt.shaped (.int a)=true:=(iR (b:=1) (k:=0) a).shaped (by decide)
 simp only[cB,HS,hs,and_self,if_true,DX,zB,Bool.not_true]
end
section
variable {W:List Wy}{G T:List Pl}{P off:List Int}
theorem Es:∀ (xs:List Nat),(∀i∈xs,0<=off.getD i 0)->0<=(xs.map fun i=>off.getD i 0).sum
 | [],_=>by simp
 | i::xs,h=>by
  have:=Es xs fun j hj=>h j (zC _ hj)
  have:=h i zE
  rw[zI,List.sum_cons];omega
theorem zu:∀ (xs:List Nat),(∀i∈xs,0<=P.getD i 0)->(0 < (xs.map fun i=>P.getD i 0).sum↔(xs.any fun i=>decide (0 < P.getD i 0))=true)
 | [],_=>by simp
 | i::xs,h=>by
  have ih:=zu xs fun j hj=>h j (zC _ hj)
  have h0:=Es (off:=P) xs fun j hj=>h j (zC _ hj)
  have hi:=h i zE
  rw[zI,List.sum_cons,List.any_cons,Bool.or_eq_true,zJ,<- ih]
  omega
theorem GI(h:Wd G T W){b:Bool}{k:Nat}(hk:k < W.length) :
  let i:=(br b (aA W k)).toNat
  let L:=(b9 b G T i).2
  fg b W i L=(L.take (rE L (b8 b (aA W k)))).map (nW b W i)++k::(L.drop (rE L (b8 b (aA W k))+1)).map (nW b W i):=by
 intro i L
 obtain⟨h1,h2,h3⟩:=h.end_pl b hk
 have e:=lg h2
 have hm:b8 b (aA W k)∈L:=by
  rw[(h.lik e).mem_iff,<- j6]
  exact zQ.mpr ⟨k,cC.mpr ⟨hk,h3.symm⟩,rfl⟩
 have hlt:rE L (b8 b (aA W k)) < L.length:=by
  unfold rE
  exact List.findIdx_lt_length_of_exists ⟨_,hm,by simp⟩
 have hg:L[rE L (b8 b (aA W k))]=b8 b (aA W k):=by
  have:=List.findIdx_getElem (w:=hlt)
  exact of_decide_eq_true this
 have hx:nW b W i (b8 b (aA W k))=k:=uu h.wp (cC.mpr ⟨hk,h3.symm⟩)
 unfold fg
 conv=>lhs;rw[<- List.take_append_drop (rE L (b8 b (aA W k))) L,List.drop_eq_getElem_cons hlt,hg,List.map_append,zI,hx]
end
noncomputable def sm(l:List Nat)(f:Nat->Int):Int:=(l.map f).sum
theorem bG(q:Nat)(l:List Nat)(f:Nat->Int):sm (q::l) f=f q+sm l f:=by simp[sm]
theorem tR(l r:List Nat)(f:Nat->Int):sm (l++r) f=sm l f+sm r f:=by simp[sm]
theorem oN(q:Nat)(f:Nat->Int):sm [q] f=f q:=by simp[sm]
theorem iz:∀ {l:List Nat}{f g:Nat->Int},(∀q∈l,f q=g q)->sm l f=sm l g
 | [],_,_,_=>rfl
 | q::l,f,g,h=>by rw[bG,bG,h q zE,iz fun x hx=>h x (zC _ hx)]
theorem zw:∀ {l:List Nat}{f g:Nat->Int},(∀q∈l,f q<=g q)->sm l f<=sm l g
 | [],_,_,_=>Int.le_refl _
 | q::l,f,g,h=>by
  have h1:=h q zE
  have h2:=zw (l:=l) fun x hx=>h x (zC _ hx)
  rw[bG,bG]
  omega
theorem sG{l:List Nat}{f:Nat->Int}(h:∀q∈l,0<=f q):0<=sm l f:=by
 have:sm l (fun _=>0)=0:=by induction l with
  | nil=>rfl
  | cons q l ih=>rw[bG,ih fun x hx=>h x (zC _ hx)];rfl
 rw[<- this]
 exact zw h
theorem CC:∀ {l:List Nat}{f g:Nat->Int}{p:Nat},(∀q∈l,f q<=g q)->p∈l->f p < g p->sm l f < sm l g
 | q::l,f,g,p,h,hp,e=>by
  have h1:=h q zE
  have h2:=zw (l:=l) fun x hx=>h x (zC _ hx)
  rw[bG,bG]
  rcases zR.mp hp with z|z
  ·subst z;omega
  ·have:=CC (l:=l) (fun x hx=>h x (zC _ hx)) z e
   omega
theorem LJ{l:List Nat}{f g:Nat->Int}{p:Nat}(h:sm l f<=sm l g)(hp:p∈l)(e:g p < f p):∃q∈l,f q < g q:=by
 refine Classical.byContradiction fun hn=>?_
 have:∀q∈l,g q<=f q:=fun q hq=>by
  refine Classical.byContradiction fun z=>hn ⟨q,hq,by omega⟩
 have:=CC this hp e
 omega
theorem KE{l:List Nat}{f:Nat->Int}{p:Nat}(h:∀q∈l,0<=f q)(hp:p∈l):f p<=sm l f:=by
 obtain⟨xs,ys,rfl⟩:=List.append_of_mem hp
 rw[tR,bG]
 have h1:=sG (l:=xs) fun q hq=>h q (List.mem_append_left _ hq)
 have h2:=sG (l:=ys) fun q hq=>h q (yF _ (zC _ hq))
 omega
theorem Gm{l r:List Nat}(p:l.Perm r)(f:Nat->Int):sm l f=sm r f:=by
 induction p with
 | nil=>rfl
 | cons x _ ih=>rw[bG,bG,ih]
 | swap x y l=>rw[bG,bG,bG,bG];omega
 | trans _ _ h1 h2=>rw[h1,h2]
noncomputable def ch(m:Nat->Int):Int->List Nat->Nat->Int
 | _,[],_=>0
 | a,q::r,k=>if k=q then min (m q) a else ch m (a - min (m q) a) r k
theorem bX(m:Nat->Int)(a:Int)(q:Nat)(r:List Nat):ch m a (q::r) q=min (m q) a:=by simp[ch]
theorem bO{m:Nat->Int}{a:Int}{q k:Nat}{r:List Nat}(h:k≠q):ch m a (q::r) k=ch m (a - min (m q) a) r k:=by simp[ch,h]
theorem EK{m:Nat->Int}:∀ {a:Int}{l:List Nat},(∀q∈l,0<=m q)->0<=a->∀k,0<=ch m a l k/\ch m a l k<=a/\(k∈l->ch m a l k<=m k)
 | a,[],_,ha,k=>⟨Int.le_refl _,ha,fun h=>by cases h⟩
 | a,q::r,hm,ha,k=>by
  have h0:=hm q zE
  by_cases e:k=q
  ·subst e
   rw[bX]
   exact⟨by omega,by omega,fun _=>by omega⟩
  ·rw[bO e]
   obtain⟨h1,h2,h3⟩:=EK (m:=m) (a:=a - min (m q) a) (l:=r) (fun x hx=>hm x (zC _ hx)) (by omega) k
   refine⟨h1,by omega,fun hk=>?_⟩
   rcases zR.mp hk with z|z
   ·exact absurd z e
   ·exact h3 z
theorem Aa{m:Nat->Int}:∀ {a a':Int}{l:List Nat}{k:Nat},a<=a'->ch m a l k<=ch m a' l k
 | _,_,[],_,_=>Int.le_refl _
 | a,a',q::r,k,h=>by
  by_cases e:k=q
  ·subst e
   rw[bX,bX]
   omega
  ·rw[bO e,bO e]
   exact Aa (by omega)
theorem oX{m m':Nat->Int}:∀ {a:Int}{l:List Nat},(∀q∈l,m q=m' q)->∀k,ch m a l k=ch m' a l k
 | _,[],_,_=>rfl
 | a,q::r,h,k=>by
  have h0:=h q zE
  by_cases e:k=q
  ·subst e
   rw[bX,bX,h0]
  ·rw[bO e,bO e,h0]
   exact oX (fun x hx=>h x (zC _ hx)) k
noncomputable def up:List Nat->Nat->List Nat
 | [],_=>[]
 | q::r,k=>if k=q then [q] else q::up r k
theorem fH(q:Nat)(r:List Nat):up (q::r) q=[q]:=by simp[up]
theorem fO{q k:Nat}{r:List Nat}(h:k≠q):up (q::r) k=q::up r k:=by simp[up,h]
theorem fv:∀ {l:List Nat}{k q:Nat},q∈up l k->q∈l
 | [],_,_,h=>by cases h
 | x::l,k,q,h=>by
  by_cases e:k=x
  ·subst e
   rw[fH,yL] at h
   exact h ▸ zE
  ·rw[fO e] at h
   rcases zR.mp h with z|z
   ·exact z ▸ zE
   ·exact zC _ (fv z)
theorem tZ:∀ {l:List Nat}{k:Nat},k∈l->k∈up l k
 | x::l,k,h=>by
  by_cases e:k=x
  ·subst e
   rw[fH]
   exact zE
  ·rw[fO e]
   rcases zR.mp h with z|z
   ·exact absurd z e
   ·exact zC _ (tZ z)
theorem ue:∀ {xs ys:List Nat}{k:Nat},k∉xs->up (xs++k::ys) k=xs++[k]
 | [],ys,k,_=>fH _ _
 | x::xs,ys,k,h=>by
  rw[zR,not_or] at h
  rw[List.cons_append,fO h.1,ue h.2]
  rfl
theorem zt{l:List Nat}{k:Nat}(hn:l.Nodup)(hk:k∈l):∃ys,l=up l k++ys/\(∀q∈ys,q∉up l k):=by
 obtain⟨xs,ys,rfl⟩:=List.append_of_mem hk
 have hx:k∉xs:=fun z=>by
  rw[List.nodup_append] at hn
  exact hn.2.2 k z k zE rfl
 refine⟨ys,by rw[ue hx];simp,fun q hq hq2=>?_⟩
 rw[ue hx] at hq2
 rw[show xs++k::ys=(xs++[k])++ys by simp,List.nodup_append] at hn
 exact hn.2.2 q hq2 q hq rfl
theorem Ac:∀ {l:List Nat}{k q:Nat},l.Nodup->q∈up l k->k∈up l q->k=q
 | [],_,_,_,h,_=>by cases h
 | x::l,k,q,hn,h1,h2=>by
  rw[List.nodup_cons] at hn
  by_cases e:k=x
  ·subst e
   rw[fH,yL] at h1
   exact h1.symm
  ·by_cases e2:q=x
   ·subst e2
    rw[fH,yL] at h2
    exact h2
   ·rw[fO e] at h1
    rw[fO e2] at h2
    rcases zR.mp h1 with z|z
    ·exact absurd z e2
    ·rcases zR.mp h2 with z2|z2
     ·exact absurd z2 e
     ·exact Ac hn.2 z z2
theorem AZ{m:Nat->Int}:∀ {a:Int}{l:List Nat}{k:Nat},l.Nodup->k∈l->ch m a l k < m k->sm (up l k) (ch m a l)=a
 | a,q::r,k,hn,hk,h=>by
  rw[List.nodup_cons] at hn
  by_cases e:k=q
  ·subst e
   rw[bX] at h
   rw[fH,oN,bX]
   omega
  ·rw[bO e] at h
   have hk':k∈r:=by
    rcases zR.mp hk with z|z
    ·exact absurd z e
    ·exact z
   have ih:=AZ hn.2 hk' h
   rw[fO e,bG,bX,iz (g:=ch m (a - min (m q) a) r) fun x hx=>bO fun z=>hn.1 (z ▸ fv hx),ih]
   omega
theorem CS{m:Nat->Int}:∀ {a:Int}{l:List Nat}{k q:Nat},l.Nodup->(∀x∈l,0<=m x)->0<=a->0 < ch m a l k->q∈up l k->q≠k->ch m a l q=m q
 | a,[],_,_,_,_,_,_,h,_=>by cases h
 | a,x::r,k,q,hn,hm,ha,h,hq,hne=>by
  rw[List.nodup_cons] at hn
  have h0:=hm x zE
  have hr:∀y∈r,0<=m y:=fun y hy=>hm y (zC _ hy)
  by_cases e:k=x
  ·subst e
   rw[fH,yL] at hq
   exact absurd hq hne
  ·rw[bO e] at h
   rw[fO e] at hq
   rcases zR.mp hq with z|z
   ·subst z
    rw[bX]
    have:=(EK (m:=m) (a:=a - min (m q) a) hr (by omega) k).2.1
    omega
   ·have hqx:q≠x:=fun w=>hn.1 (w ▸ fv z)
    rw[bO hqx]
    exact CS hn.2 hr (by omega) h z hne
theorem Jh{m:Nat->Int}:∀ {a:Int}{l:List Nat}{k:Nat},l.Nodup->(∀x∈l,0<=m x)->0<=a->k∈l->sm (up l k) (ch m a l)=min a (sm (up l k) m)
 | a,q::r,k,hn,hm,ha,hk=>by
  rw[List.nodup_cons] at hn
  have h0:=hm q zE
  have hr:∀y∈r,0<=m y:=fun y hy=>hm y (zC _ hy)
  by_cases e:k=q
  ·subst e
   rw[fH,oN,oN,bX]
   omega
  ·have hk':k∈r:=by
    rcases zR.mp hk with z|z
    ·exact absurd z e
    ·exact z
   have ih:=Jh (m:=m) (a:=a - min (m q) a) hn.2 hr (by omega) hk'
   have hs:=sG (l:=up r k) fun y hy=>hr y (fv hy)
   rw[fO e,bG,bG,bX,iz (g:=ch m (a - min (m q) a) r) fun x hx=>bO fun z=>hn.1 (z ▸ fv hx),ih]
   omega
theorem Fc{m m':Nat->Int}{p:Nat}:∀ {a:Int}{l:List Nat},l.Nodup->(∀x∈l,x≠p->m' x=m x)->m' p<=ch m a l p->(∀k∈l,k≠p->ch m a l k<=ch m' a l k)/\(p∈l->ch m' a l p=m' p)
 | _,[],_,_,_=>⟨fun _ h=>absurd h yG,fun h=>absurd h yG⟩
 | a,q::r,hn,h,hp=>by
  rw[List.nodup_cons] at hn
  by_cases e:q=p
  ·subst e
   rw[bX] at hp
   have hs:∀x∈r,m' x=m x:=fun x hx=>h x (zC _ hx) fun z=>hn.1 (z ▸ hx)
   refine⟨fun k hk hne=>?_,fun _=>?_⟩
   ·rw[bO hne,bO hne,oX (m:=m') (m':=m) hs]
    exact Aa (by omega)
   ·rw[bX];omega
  ·have hq:=h q zE e
   rw[bO (Ne.symm e)] at hp
   obtain⟨i1,i2⟩:=Fc (m:=m) (m':=m') (p:=p) (a:=a - min (m q) a) hn.2 (fun x hx=>h x (zC _ hx)) hp
   refine⟨fun k hk hne=>?_,fun hk=>?_⟩
   ·by_cases e2:k=q
    ·subst e2
     rw[bX,bX,hq]
     exact Int.le_refl _
    ·rw[bO e2,bO e2,hq]
     rcases zR.mp hk with z|z
     ·exact absurd z e2
     ·exact i1 k z hne
   ·rw[bO (Ne.symm e),hq]
    rcases zR.mp hk with z|z
    ·exact absurd z.symm e
    ·exact i2 z
theorem II{m X:Nat->Int}:∀ {a:Int}{l:List Nat},l.Nodup->(∀q∈l,0<=X q/\X q<=m q)->sm l X<=a->(∀k∈l,X k=m k\/sm (up l k) X=a)->∀k∈l,ch m a l k=X k
 | _,[],_,_,_,_,_,h=>by cases h
 | a,q::r,hn,hX,hs,h,k,hk=>by
  rw[List.nodup_cons] at hn
  have h0:=hX q zE
  have hr:∀y∈r,0<=X y/\X y<=m y:=fun y hy=>hX y (zC _ hy)
  have hnn:=sG (l:=r) fun y hy=>(hr y hy).1
  rw[bG] at hs
  have e0:min (m q) a=X q:=by
   rcases h q zE with z|z
   ·omega
   ·rw[fH,oN] at z
    omega
  by_cases e:k=q
  ·subst e
   rw[bX,e0]
  ·rw[bO e,e0]
   rcases zR.mp hk with z|z
   ·exact absurd z e
   ·refine II hn.2 hr (by omega) (fun j hj=>?_) k z
    have hjq:j≠q:=fun w=>hn.1 (w ▸ hj)
    rcases h j (zC _ hj) with w|w
    ·exact .inl w
    ·rw[fO hjq,bG] at w
     exact .inr (by omega)
noncomputable def dQ(b:Bool)(W:List Wy)(k:Nat):Nat:=(br b (aA W k)).toNat
noncomputable def lst(b:Bool)(G T:List Pl)(W:List Wy)(i:Nat):List Nat:=fg b W i (b9 b G T i).2
noncomputable def amt(b:Bool)(G T:List Pl)(i:Nat):Int:=(b9 b G T i).1
noncomputable def mm(W:List Wy)(off:List Int)(q:Nat):Int:=min (off.getD q 0) (aA W q).2.2
noncomputable def vl(P:List Int)(q:Nat):Int:=P.getD q 0
section
variable {G T:List Pl}{W:List Wy}{P X c off:List Int}{b:Bool}{i k q:Nat}
theorem eF(h:Wd G T W)(b:Bool)(hk:k < W.length):dQ b W k < (bq b G T).length:=(h.end_pl b hk).2.1
theorem qd(h:Wd G T W)(hi:i < (bq b G T).length):(lst b G T W i).Perm (own b W i):=eU h (lg hi)
theorem cN(h:Wd G T W)(hi:i < (bq b G T).length):(lst b G T W i).Nodup:=(qd h hi).nodup_iff.mpr (List.nodup_range.filter _)
theorem lU(h:Wd G T W)(hi:i < (bq b G T).length):q∈lst b G T W i↔q < W.length/\dQ b W q=i:=by
 rw[(qd h hi).mem_iff,cC]
 constructor
 ·rintro⟨h1,h2⟩
  exact⟨h1,by unfold dQ;rw[h2];simp⟩
 ·rintro⟨h1,h2⟩
  have:=(h.end_pl b h1).2.2
  unfold dQ at h2
  rw[h2] at this
  exact⟨h1,this.symm⟩
theorem cH(h:Wd G T W)(b:Bool)(hk:k < W.length):k∈lst b G T W (dQ b W k):=(lU h (eF h b hk)).mpr ⟨hk,rfl⟩
theorem C5(h:Wd G T W)(ho:Off off)(q:Nat):0<=mm W off q:=by
 have h1:=ho q
 have h2:=h.lim q
 unfold mm
 omega
theorem ET:∀ (is:List Nat) (a:Int) (l:List Int),is.Nodup->(∀i∈is,i < l.length)->∀k,(is.foldl (lq W off) (a,l)).2.getD k 0=if k∈is then ch (mm W off) a is k else l.getD k 0
 | [],a,l,_,_,k=>by simp
 | q::is,a,l,hn,hl,k=>by
  rw[List.nodup_cons] at hn
  have ih:=ET is (a - cV W off a q) (l.set q (cV W off a q)) hn.2 (fun i hi=>by rw[yD];exact hl i (zC _ hi)) k
  rw[yK]
  show (is.foldl (lq W off) (a - cV W off a q,l.set q (cV W off a q))).2.getD k 0=_
  rw[ih]
  have hq:=hl q zE
  by_cases e:k=q
  ·subst e
   rw[if_neg hn.1,if_pos zE,bX,bT,if_pos ⟨rfl,hq⟩]
   rfl
  ·rw[bO e]
   by_cases hk:k∈is
   ·rw[if_pos hk,if_pos (zC _ hk)]
    rfl
   ·rw[if_neg hk,if_neg (by rw[zR,not_or];exact⟨e,hk⟩),bT,if_neg (fun z=>e z.1.symm)]
theorem jW(h:Wd G T W)(b:Bool)(off:List Int)(hk:k < W.length):(bw b G T W off).getD k 0=ch (mm W off) (amt b G T (dQ b W k)) (lst b G T W (dQ b W k)) k:=by
 have hi:=eF h b hk
 rw[C6 h b hk]
 show (qy W off (amt b G T (dQ b W k)) (lst b G T W (dQ b W k))).getD k 0=_
 unfold qy
 rw[ET _ _ _ (cN h hi) (fun j hj=>by rw[List.length_replicate];exact ((lU h hi).mp hj).1),if_pos (cH h b hk)]
theorem xI(h:Wd G T W)(b:Bool)(i:Nat):0<=amt b G T i:=h.amt b i
theorem D5(h:Wd G T W)(hi:i < (bq b G T).length):kM b W P i=sm (lst b G T W i) (vl P):=by
 unfold kM
 rw[Gm (qd h hi)]
 rfl
def Fl(b:Bool)(G T:List Pl)(W:List Wy)(P:List Int)(k:Nat):Prop:=sm (up (lst b G T W (dQ b W k)) k) (vl P)=amt b G T (dQ b W k)
def Rs(G T:List Pl)(W:List Wy)(P:List Int):Prop:=∀k,k < W.length->P.getD k 0=(aA W k).2.2\/Fl false G T W P k\/Fl true G T W P k
theorem Pn.nn(p:Pn G T W P)(q:Nat):0<=vl P q:=by
 by_cases hq:q < W.length
 ·exact (p.bd q hq).1
 ·unfold vl
  rw[md (by rw[p.len];omega)]
  omega
theorem Pn.le_sm(h:Wd G T W)(p:Pn G T W P)(hi:i < (bq b G T).length):sm (lst b G T W i) (vl P)<=amt b G T i:=by
 rw[<- D5 h hi]
 exact p.am b i hi
theorem z8(h:Wd G T W)(p:Pn G T W P)(b:Bool)(hk:k < W.length):uF b G T W P k=false↔Fl b G T W P k:=by
 obtain⟨z1,z2,z3⟩:=h.end_pl b hk
 have hc:lst b G T W (dQ b W k)=((b9 b G T (dQ b W k)).2.take (rE (b9 b G T (dQ b W k)).2 (b8 b (aA W k)))).map (nW b W (dQ b W k))++k::((b9 b G T (dQ b W k)).2.drop (rE (b9 b G T (dQ b W k)).2 (b8 b (aA W k))+1)).map (nW b W (dQ b W k)):=GI h hk
 have hn:=cN (b:=b) h z2
 change (lst b G T W (dQ b W k)).Nodup at hn
 have hle:=p.le_sm h z2
 change sm (lst b G T W (dQ b W k)) (vl P)<=amt b G T (dQ b W k) at hle
 have hth:=D5 (P:=P) h z2
 have hy:uF b G T W P k=(decide (kM b W P ((dQ b W k:Nat):Int) < amt b G T (dQ b W k))||(((b9 b G T (dQ b W k)).2.drop (rE (b9 b G T (dQ b W k)).2 (b8 b (aA W k))+1)).map (nW b W (dQ b W k))).any fun q=>decide (0 < vl P q)):=by
  unfold uF
  rw[List.any_map]
  unfold dQ amt
  rw[z3]
  rfl
 change kM b W P ((dQ b W k:Nat):Int)=sm (lst b G T W (dQ b W k)) (vl P) at hth
 unfold Fl
 rw[hy,hth]
 revert hc
 generalize ((b9 b G T (dQ b W k)).2.take (rE (b9 b G T (dQ b W k)).2 (b8 b (aA W k)))).map (nW b W (dQ b W k))=xs
 generalize ((b9 b G T (dQ b W k)).2.drop (rE (b9 b G T (dQ b W k)).2 (b8 b (aA W k))+1)).map (nW b W (dQ b W k))=ys
 intro hc
 have hx:k∉xs:=fun z=>by
  rw[hc,List.nodup_append] at hn
  exact hn.2.2 k z k zE rfl
 rw[hc,ue hx]
 rw[hc] at hle
 have e:sm (xs++k::ys) (vl P)=sm (xs++[k]) (vl P)+sm ys (vl P):=by
  rw[<- tR]
  simp
 have hnn:=sG (l:=ys) fun q _=>p.nn q
 have hpos:=zu (P:=P) ys fun q _=>p.nn q
 change (0 < sm ys (vl P)↔(ys.any fun q=>decide (0 < vl P q))=true) at hpos
 rw[e] at hle ⊢
 rw[Bool.or_eq_false_iff,decide_eq_false_iff_not]
 constructor
 ·rintro⟨h1,h2⟩
  have:¬ 0 < sm ys (vl P):=fun z=>by rw[hpos.mp z] at h2;cases h2
  omega
 ·intro h1
  refine⟨by omega,?_⟩
  cases hh:(ys.any fun q=>decide (0 < vl P q)) with
  | false=>rfl
  | true=>have:=hpos.mpr hh;omega
theorem o7(h:Wd G T W)(p:Pn G T W P):u4 G T W P=[]↔Rs G T W P:=by
 unfold u4
 rw[List.filter_eq_nil_iff]
 constructor
 ·intro hh k hk
  have:=hh k (by simpa using hk)
  rw[zJ] at this
  unfold kA at this
  by_cases e1:P.getD k 0=(aA W k).2.2
  ·exact .inl e1
  ·rw[if_neg e1] at this
   by_cases e2:uF false G T W P k=false
   ·exact .inr (.inl ((z8 h p false hk).mp e2))
   ·rw[if_neg e2] at this
    by_cases e3:uF true G T W P k=false
    ·exact .inr (.inr ((z8 h p true hk).mp e3))
    ·rw[if_neg e3] at this
     exact absurd rfl this
 ·intro hh k hk
  rw[zJ]
  unfold kA
  rcases hh k (by simpa using hk) with e|e|e
  ·rw[if_pos e];omega
  ·rw[if_pos ((z8 h p false (by simpa using hk)).mpr e)]
   split<;>omega
  ·rw[if_pos ((z8 h p true (by simpa using hk)).mpr e)]
   split
   ·omega
   ·split<;>omega
theorem l4(e:lr G T W c=some (k,q')):k < W.length/\q'=(ig G T W c).getD k 0/\(ig G T W c).getD k 0 < (bw false G T W c).getD k 0:=by
 unfold lr at e
 obtain⟨j,hj,e2⟩:=Dl.ag e
 cases e2
 have hm:=List.mem_of_find?_eq_some hj
 have hq:=List.find?_some hj
 rw[qR,zJ] at hq
 exact⟨zT.mp hm,rfl,hq⟩
theorem GC(e:lr G T W c=none)(hk:k < W.length):(bw false G T W c).getD k 0<=(ig G T W c).getD k 0:=by
 unfold lr at e
 rw[Option.map_eq_none_iff] at e
 have:=List.find?_eq_none.mp e k (by simpa using hk)
 rw[qR,zJ] at this
 omega
end
section
variable {G T:List Pl}{W:List Wy}{P X c off:List Int}{b:Bool}{i k q:Nat}
theorem mQ(h:Wd G T W)(hk:k < W.length)(hq:q∈lst b G T W (dQ b W k)):q < W.length/\dQ b W q=dQ b W k:=(lU h (eF h b hk)).mp hq
theorem sR(h:Wd G T W)(hi:i < (bq b G T).length)(hq:q∈lst b G T W i):vl (bw b G T W off) q=ch (mm W off) (amt b G T i) (lst b G T W i) q:=by
 obtain⟨h1,h2⟩:=(lU h hi).mp hq
 have:=jW h b off h1
 rw[h2] at this
 exact this
theorem Et(h:Wd G T W)(ho:Off off)(b:Bool)(hk:k < W.length):sm (up (lst b G T W (dQ b W k)) k) (vl (bw b G T W off))=min (amt b G T (dQ b W k)) (sm (up (lst b G T W (dQ b W k)) k) (mm W off)):=by
 have hi:=eF h b hk
 rw[iz fun q hq=>sR h hi (fv hq)]
 exact Jh (cN h hi) (fun q _=>C5 h ho q) (xI h b _) (cH h b hk)
theorem oU(h:Wd G T W)(b:Bool)(hk:k < W.length)(e:(bw b G T W off).getD k 0 < mm W off k):Fl b G T W (bw b G T W off) k:=by
 have hi:=eF h b hk
 rw[jW h b off hk] at e
 unfold Fl
 rw[iz fun q hq=>sR h hi (fv hq)]
 exact AZ (cN h hi) (cH h b hk) e
theorem Ga(h:Wd G T W)(ho:Off off)(hk:k < W.length)(e:0 < (bw b G T W off).getD k 0)(hq:q∈up (lst b G T W (dQ b W k)) k)(hne:q≠k):(bw b G T W off).getD q 0=mm W off q:=by
 have hi:=eF h b hk
 rw[jW h b off hk] at e
 have:=sR (off:=off) h hi (fv hq)
 unfold vl at this
 rw[this]
 exact CS (cN h hi) (fun q _=>C5 h ho q) (xI h b _) e hq hne
theorem yl(h:Wd G T W)(ho:Off off)(b:Bool)(hk:k < W.length):0<=(bw b G T W off).getD k 0/\(bw b G T W off).getD k 0<=mm W off k:=by
 have hi:=eF h b hk
 rw[jW h b off hk]
 have:=EK (m:=mm W off) (a:=amt b G T (dQ b W k)) (l:=lst b G T W (dQ b W k)) (fun q _=>C5 h ho q) (xI h b _) k
 exact⟨this.1,this.2.2 (cH h b hk)⟩
theorem Mx(h:Wd G T W)(p:Pn G T W X)(b:Bool)(hk:k < W.length):sm (up (lst b G T W (dQ b W k)) k) (vl X)<=amt b G T (dQ b W k):=by
 have hi:=eF h b hk
 have:=p.le_sm h hi
 obtain⟨ys,e,_⟩:=zt (cN h hi) (cH h b hk)
 rw[e,tR] at this
 have hn:=sG (l:=ys) fun q _=>p.nn q
 omega
theorem yv(h:Wd G T W)(p:Pn G T W X)(hq:q < W.length)(f:Fl b G T W X q)(hk:k∈lst b G T W (dQ b W q))(hn:k∉up (lst b G T W (dQ b W q)) q):X.getD k 0=0:=by
 have hi:=eF h b hq
 have hle:=p.le_sm h hi
 obtain⟨ys,e,_⟩:=zt (cN h hi) (cH h b hq)
 have hy:k∈ys:=by
  rw[e] at hk
  rcases List.mem_append.mp hk with z|z
  ·exact absurd z hn
  ·exact z
 rw[e,tR] at hle
 unfold Fl at f
 have:=KE (l:=ys) (fun q _=>p.nn q) hy
 have h0:=p.nn k
 unfold vl at this h0
 have:sm ys (vl X)=sm ys fun q=>X.getD q 0:=rfl
 omega
theorem E5(h:Wd G T W)(p:Pn G T W X)(ho:Off c)(hc:∀k,k < W.length->X.getD k 0<=c.getD k 0)(hq:q < W.length)(e:X.getD q 0 < (bw false G T W c).getD q 0):¬ Fl false G T W X q:=fun f=>by
 have hi:=eF h false hq
 have hpos:0 < (bw false G T W c).getD q 0:=by have:=p.nn q;unfold vl at this;omega
 have hlt:sm (up (lst false G T W (dQ false W q)) q) (vl X) < sm (up (lst false G T W (dQ false W q)) q) (vl (bw false G T W c)):=by
  refine CC (p:=q) (fun r hr=>?_) (tZ (cH h false hq)) e
  by_cases z:r=q
  ·subst z;exact Int.le_of_lt e
  ·have hr':=(mQ h hq (fv hr)).1
   unfold vl
   rw[Ga h ho hq hpos hr z]
   have h1:=hc r hr'
   have h2:=(p.bd r hr').2
   unfold mm
   omega
 have h2:=Et h ho false hq
 unfold Fl at f
 omega
end
section
variable {G T:List Pl}{W:List Wy}{P X c off:List Int}{b:Bool}{i k q:Nat}{v:Int}
theorem lx(h:Wd G T W)(ho:Off c)(hk:k < W.length):0<=(ig G T W c).getD k 0/\(ig G T W c).getD k 0<=(bw false G T W c).getD k 0/\(bw false G T W c).getD k 0<=c.getD k 0/\(bw false G T W c).getD k 0<=(aA W k).2.2/\mm W (bw false G T W c) k=(bw false G T W c).getD k 0:=by
 have h1:=yl h ho false hk
 have h2:=yl h (iQ h ho false) true hk
 change 0<=(ig G T W c).getD k 0/\(ig G T W c).getD k 0<=_ at h2
 unfold mm at h1 h2 ⊢
 omega
theorem FC(h:Wd G T W)(p:Pn G T W X)(r:Rs G T W X)(ho:Off c)(hc:∀k,k < W.length->X.getD k 0<=c.getD k 0)(e:lr G T W c=some (k,v)):X.getD k 0<=v:=by
 obtain⟨hk,rfl,hlt⟩:=l4 e
 refine Classical.byContradiction fun hn=>?_
 have hn:(ig G T W c).getD k 0 < X.getD k 0:=by omega
 obtain⟨b0,b1,b2,b3,b4⟩:=lx h ho hk
 have ff:Fl true G T W (ig G T W c) k:=oU h true hk (by rw[b4];exact hlt)
 have hle:=Mx h p true hk
 unfold Fl at ff
 obtain⟨q,hq,hqx⟩:=LJ (f:=vl X) (g:=vl (ig G T W c)) (l:=up (lst true G T W (dQ true W k)) k) (p:=k) (by omega) (tZ (cH h true hk)) hn
 obtain⟨hq1,hq2⟩:=mQ h hk (fv hq)
 unfold vl at hqx
 have hne:q≠k:=fun z=>by subst z;omega
 obtain⟨d0,d1,d2,d3,d4⟩:=lx h ho hq1
 have hxq:=(p.bd q hq1).1
 rcases r q hq1 with z|z|z
 ·omega
 ·exact E5 h p ho hc hq1 (by omega) z
 ·have hn2:k∉up (lst true G T W (dQ true W q)) q:=fun w=>by
   rw[hq2] at w
   exact hne (Ac (cN h (eF h true hk)) hq w).symm
  have:=yv h p hq1 z (by rw[hq2];exact cH h true hk) hn2
  omega
theorem HX(h:Wd G T W)(p:Pn G T W X)(r:Rs G T W X)(hk:k < W.length):X.getD k 0<=(fin G T W).2.getD k 0:=by
 have hb:=h.mea
 obtain⟨_,_,h2⟩:=oJ (Cp G T W) (spS G T W) (fun s=>mea s.2) (fun s=>xr W s/\∀k,k < W.length->X.getD k 0<=s.2.getD k 0)
  (fun s ⟨i,l⟩ hc=>by
   obtain⟨⟨k,v⟩,e⟩:=lZ hc
   obtain⟨i2,hm⟩:=i.step h e
   have hx:=FC h p r i.off l e
   refine⟨⟨i2,fun j hj=>?_⟩,hm⟩
   rw[mR e]
   show _<=(s.2.set k v).getD j 0
   rw[bT]
   split
   ·rename_i z
    rw[<- z.1]
    exact hx
   ·exact l j hj) Rf.turns ([],bL W) (Nat.lt_of_le_of_lt hb (by decide)) ⟨xr.start h,fun k hk=>by rw[pj hk];exact (p.bd k hk).2⟩
 exact h2 k hk
def Jn(G T:List Pl)(W:List Wy)(c:List Int):Prop:=∀k,k < W.length->c.getD k 0 < (aA W k).2.2->Fl true G T W (ig G T W c) k
theorem Kt(h:Wd G T W)(ho:Off c)(hl:c.length=W.length)(e:lr G T W c=some (k,v))(hq:q < W.length):(ig G T W c).getD q 0<=(bw false G T W (c.set k v)).getD q 0:=by
 obtain⟨hk,rfl,hlt⟩:=l4 e
 obtain⟨b0,b1,b2,b3,b4⟩:=lx h ho hk
 obtain⟨d0,d1,d2,d3,d4⟩:=lx h ho hq
 have hi:=eF h false hq
 have hm:∀x,x≠k->mm W (c.set k ((ig G T W c).getD k 0)) x=mm W c x:=fun x hx=>by
  unfold mm
  rw[bT,if_neg (fun z=>hx z.1.symm)]
 have hmk:mm W (c.set k ((ig G T W c).getD k 0)) k=(ig G T W c).getD k 0:=by
  unfold mm
  rw[bT,if_pos ⟨rfl,by rw[hl];exact hk⟩]
  omega
 rw[jW h false _ hq]
 by_cases z:dQ false W q=dQ false W k
 ·have hkL:k∈lst false G T W (dQ false W q):=by rw[z];exact cH h false hk
  have hA:vl (bw false G T W c) k=ch (mm W c) (amt false G T (dQ false W q)) (lst false G T W (dQ false W q)) k:=sR h hi hkL
  unfold vl at hA
  obtain⟨l1,l2⟩:=Fc (m:=mm W c) (m':=mm W (c.set k ((ig G T W c).getD k 0))) (p:=k) (a:=amt false G T (dQ false W q)) (l:=lst false G T W (dQ false W q)) (cN h hi) (fun x _ hx=>hm x hx) (by rw[hmk,<- hA];exact b1)
  by_cases y:q=k
  ·subst y
   rw[l2 hkL,hmk]
   exact Int.le_refl _
  ·have:=l1 q (cH h false hq) y
   rw[<- jW h false c hq] at this
   omega
 ·rw[oX (m:=mm W (c.set k ((ig G T W c).getD k 0))) (m':=mm W c) fun x hx=>hm x fun w=>by
   subst w
   exact z ((lU h hi).mp hx).2.symm]
  rw[<- jW h false c hq]
  exact d1
theorem Jn.step(h:Wd G T W)(ho:Off c)(hl:c.length=W.length)(j:Jn G T W c)(e:lr G T W c=some (k,v)):Jn G T W (c.set k v):=fun q hq hlim=>by
 have ho':Off (c.set k v):=lV ho (o3 h ho e).2.1
 have fq:Fl true G T W (ig G T W c) q:=by
  obtain⟨hk,rfl,hlt⟩:=l4 e
  by_cases z:q=k
  ·subst z
   exact oU h true hq (by rw[(lx h ho hq).2.2.2.2];exact hlt)
  ·rw[bT,if_neg (fun w=>z w.1.symm)] at hlim
   exact j q hq hlim
 have hu:=Et h (iQ h ho' false) true hq
 change sm _ (vl (ig G T W (c.set k v)))=_ at hu
 unfold Fl at fq ⊢
 have hs:sm (up (lst true G T W (dQ true W q)) q) (vl (ig G T W c))<=sm (up (lst true G T W (dQ true W q)) q) (mm W (bw false G T W (c.set k v))):=zw fun x hx=>by
  have hx':=(mQ h hq (fv hx)).1
  have h1:=Kt h ho hl e hx'
  have h2:=lx h ho hx'
  unfold vl mm
  omega
 rw[hu]
 omega
theorem LM(h:Wd G T W):Jn G T W (fin G T W).2:=by
 have hb:=h.mea
 obtain⟨_,_,h2⟩:=oJ (Cp G T W) (spS G T W) (fun s=>mea s.2) (fun s=>xr W s/\Jn G T W s.2)
  (fun s ⟨i,j⟩ hc=>by
   obtain⟨⟨k,v⟩,e⟩:=lZ hc
   obtain⟨i2,hm⟩:=i.step h e
   refine⟨⟨i2,?_⟩,hm⟩
   rw[mR e]
   exact j.step h i.off i.len e) Rf.turns ([],bL W) (Nat.lt_of_le_of_lt hb (by decide)) ⟨xr.start h,fun k hk hl=>by rw[pj hk] at hl;omega⟩
 exact h2
theorem yj(h:Wd G T W):Rs G T W (og G T W):=fun k hk=>by
 obtain⟨hnone,i,hlim⟩:=lz h
 have j:=LM h
 have heq:∀q,q < W.length->(og G T W).getD q 0=(ig G T W (fin G T W).2).getD q 0:=fun q hq=>by
  have h1:=GC hnone hq
  have h2:=(lx h i.off hq).2.1
  unfold og
  omega
 obtain⟨d0,d1,d2,d3,d4⟩:=lx h i.off hk
 by_cases e:(og G T W).getD k 0=(aA W k).2.2
 ·exact .inl e
 ·by_cases e2:(og G T W).getD k 0 < mm W (fin G T W).2 k
  ·exact .inr (.inl (oU h false hk e2))
  ·have h3:=(yl h i.off false hk).2
   have:(fin G T W).2.getD k 0 < (aA W k).2.2:=by
    unfold og at e e2
    unfold mm at e2 h3
    omega
   have f:=j k hk this
   refine .inr (.inr ?_)
   unfold Fl at f ⊢
   rw[<- f]
   exact iz fun q hq=>heq q (mQ h hk (fv hq)).1
end
section
variable {G T:List Pl}{W:List Wy}{P X c off:List Int}{b:Bool}{i k q:Nat}{π:List Nat}
theorem Gy{P X:List Int}(h:P.length=X.length)(e:∀k,k < P.length->P.getD k 0=X.getD k 0):P=X:=by
 apply List.ext_getElem h
 intro k h1 h2
 have:=e k h1
 simpa [h1,h2] using this
theorem Rs.tu(h:Wd G T W)(o:Ord W π)(p:Pn G T W P)(r:Rs G T W P):Rs T G (gx W π) (xu P π):=(o7 (o.wd h) (p.tu h o)).mp ((Ly h o).mpr ((o7 h p).mpr r))
noncomputable def iu(G T:List Pl)(W:List Wy):List Int:=xu (og T G (gx W (dh W))) (dh (gx W (dh W)))
theorem MK(h:Wd G T W):Pn G T W (iu G T W):=by
 have o:=gF h.wp
 have h':=o.wd h
 have o':=gF h'.wp
 have:=(um h').tu h' o'
 rwa [z9 h.wp o o'] at this
theorem LQ(h:Wd G T W):Rs G T W (iu G T W):=by
 have o:=gF h.wp
 have h':=o.wd h
 have o':=gF h'.wp
 have:=(yj h').tu h' o' (um h')
 rwa [z9 h.wp o o'] at this
end
section
variable {G T:List Pl}{W:List Wy}{P X:List Int}{b:Bool}{i:Nat}
theorem zip_rows:∀ {P X:List Int},P.length=X.length->gz (P.map PyData.int) (X.map PyData.int)=(List.range P.length).map fun i=>.tuple [.int (P.getD i 0),.int (X.getD i 0)]
 | [],[],_=>rfl
 | [],_::_,h=>by simp at h
 | _::_,[],h=>by simp at h
 | x::P,y::X,h=>by
  rw[zI,zI,gz,zip_rows (P:=P) (X:=X) (by simpa using h),zL,List.range_succ_eq_map,zI,zM]
  rfl
theorem zl(h:Wd G T W):cO [aw G T W]=some (af (iu G T W)):=by
 have h':=(gF h.wp).wd h
 exact qH h (yX h') (um h')
end
theorem jb{f:Dl.Env->Option (List D)}{ρ:Dl.Env}{ds:List D}(h:f ρ=some ds):bP f ρ=some (.list ds):=by
 simp only[bP,h,zB]
theorem yk{fs:Dl.Env->Option (List D)}{ρ:Dl.Env}{ds:List D}(h:fs ρ=some ds)(hl:ds.length<=1000):dc fs ρ=some ds:=by
 simp only[dc,h,zA,bf (show ds.length<=4000 by omega)]
theorem nil_of(ρ:Dl.Env):bP (dc ae) ρ=some (.list []):=jb (yk (ds:=[]) rfl (by simp))
theorem uW{t u:Dl.Env->Option Bool}{ρ:Dl.Env}(h:t ρ=some false):dm t u ρ=some false:=by
 simp only[dm,h,zA]
theorem pI{t u:Dl.Env->Option Bool}{ρ:Dl.Env}{b:Bool}(h:t ρ=some true)(h2:u ρ=some b):dm t u ρ=some b:=by
 simp only[dm,h,zA,h2]
theorem Dj(l:List Nat):PyData.eqvAll (l.map nD) (l.map nD)=true:=nL fun d hd=>by
 obtain⟨i,_,rfl⟩:=zQ.mp hd
 exact DX _
theorem vg{l:List Nat}:SeqAt.shaped (.list (l.map nD))=true :=
 (iI.lst (b:=l.length) (k:=0) (by simp) fun x hx=>by obtain⟨i,_,rfl⟩:=zQ.mp hx;exact iR _).shaped (by decide)
theorem si(l:List Nat):cB (.list (l.map nD)) (.list (l.map nD))=some (.bool false):=by
 simp only[cB,HS,vg,and_self,if_true,PyData.eqv,Dj,zB,Bool.not_true]
theorem B9{cs:List Nat}{fi:Dl.Env->Option (List D)}{tt:Dl.Env->Option Bool}{te:Dl.Env->Option D}{ρ:Dl.Env}{is:List Nat}(hfi:fi ρ=some (is.map nD))(hl:is.length<=1000)(hh:∀i∈is,tt (some (nD i)::cs.map fun j=>(ρ[j]?).getD none)=some false):fB (f2 cB (bP (ao 1 cs fi (fG 0) tt te)) (bP (dc ae))) ρ=some false:=by
 have c:=yr (te:=te) (f:=fun _=>.none) (q:=fun _=>false) hfi hl fun i hi=>⟨hh i hi,fun z=>by cases z⟩
 rw[show is.filter (fun _=>false)=[] by simp] at c
 exact aU (ax (si []) (jb c) (nil_of ρ))
section
variable {G T:List Pl}{W:List Wy}{P X:List Int}
theorem Eg(h:Wd G T W):eO [aw G T W]=some (.list (nz (fin G T W).1))/\eV [aw G T W,.list (nz (fin G T W).1)]=some (af (fin G T W).2)/\(fin G T W).2.length=W.length:=by
 obtain⟨e1,i⟩:=Al h
 have e2:=pO h i.mem
 rw[<- i.eq] at e2
 exact⟨e1,e2,i.len⟩
end
section
variable {G T:List Pl}{W:List Wy}{P X c:List Int}{b:Bool}{k:Nat}
noncomputable def LA(G T:List Pl)(W:List Wy):List Int->List (Nat×Int)->Prop
 | c,[]=>lr G T W c=none
 | c,p::r=>lr G T W c=some p/\LA G T W (low c p) r
theorem Dx(h:Wd G T W):∀ (n:Nat) (s:Sp),mea s.2 < n->Off s.2->∃r,LA G T W s.2 r/\lp (Cp G T W) (spS G T W) n s=(s.1++r,r.foldl low s.2)
 | 0,s,hm,_=>absurd hm (by omega)
 | n+1,s,hm,ho=>by
  rw[lp]
  cases e:lr G T W s.2 with
  | none =>
   have:Cp G T W s=false:=by unfold Cp;rw[e];rfl
   rw[this]
   exact⟨[],e,by simp⟩
  | some p =>
   have hc:Cp G T W s=true:=by unfold Cp;rw[e];rfl
   obtain⟨h1,h2,h3⟩:=o3 h ho e
   have hs:=mR e
   obtain⟨r,h4,h5⟩:=Dx h n (spS G T W s) (by rw[hs];have:=uG h2 h3;show mea (s.2.set p.1 p.2) < n;omega) (by rw[hs];exact lV ho h2)
   rw[hc,if_pos rfl]
   refine⟨p::r,⟨e,?_⟩,?_⟩
   ·rw[hs] at h4
    exact h4
   ·rw[h5,hs]
    simp[low]
theorem oH(h:Wd G T W):LA G T W (bL W) (fin G T W).1/\(fin G T W).2=(fin G T W).1.foldl low (bL W):=by
 obtain⟨r,h1,h2⟩:=Dx h Rf.turns ([],bL W) (Nat.lt_of_le_of_lt h.mea (by decide)) (oz h)
 unfold fin
 rw[h2]
 exact⟨h1,rfl⟩
noncomputable def JQ(G T:List Pl)(W:List Wy)(c:List Int)(p:Nat×Int):Bool:=decide ((ig G T W c).getD p.1 0<=p.2)&&decide (p.2 < (bw false G T W c).getD p.1 0)
noncomputable def cb(G T:List Pl)(W:List Wy):List Int->List (Nat×Int)->Option (List Int)
 | c,[]=>some c
 | c,p::r=>if JQ G T W c p=true then cb G T W (low c p) r else none
theorem LK{p:Nat×Int}(e:lr G T W c=some p):JQ G T W c p=true:=by
 obtain⟨k,v⟩:=p
 obtain⟨_,rfl,h⟩:=l4 e
 unfold JQ
 simp only[zF,zJ]
 omega
theorem CW:∀ {r:List (Nat×Int)}{c:List Int},LA G T W c r->∀n,n<=r.length->cb G T W c (r.take n)=some ((r.take n).foldl low c)/\lr G T W ((r.take n).foldl low c)=r[n]?
 | [],c,h,n,hn=>by
  have:n=0:=by simpa using hn
  subst this
  exact⟨rfl,h⟩
 | p::r,c,h,0,_=>⟨rfl,h.1⟩
 | p::r,c,h,n+1,hn=>by
  obtain⟨h1,h2⟩:=CW h.2 n (by simpa using hn)
  rw[List.take_succ_cons,yK,cb,if_pos (LK h.1)]
  exact⟨h1,by simpa using h2⟩
theorem DD(c:List Int)(p:Nat×Int)(k:Nat):(low c p).getD k 0=if p.1=k/\k < c.length then p.2 else c.getD k 0:=bT c p.1 p.2 k
theorem Cz(h:Wd G T W):∀ {r:List (Nat×Int)}{c:List Int},Off c->LA G T W c r->∀n k,Off ((r.take n).foldl low c)/\((r.take n).foldl low c).getD k 0<=c.getD k 0/\((r.take (n+1)).foldl low c).getD k 0<=((r.take n).foldl low c).getD k 0
 | [],c,ho,_,n,k=>by simp;exact ho
 | p::r,c,ho,hc,n,k=>by
  obtain⟨h1,h2,h3⟩:=o3 h ho hc.1
  have ho':Off (low c p):=lV ho h2
  have hl:(low c p).getD k 0<=c.getD k 0:=by
   rw[DD]
   split
   ·rename_i z
    rw[<- z.1]
    exact Int.le_of_lt h3
   ·exact Int.le_refl _
  cases n with
  | zero =>
   refine⟨ho,Int.le_refl _,?_⟩
   exact hl
  | succ n =>
   obtain⟨i1,i2,i3⟩:=Cz h ho' hc.2 n k
   rw[List.take_succ_cons,List.take_succ_cons,yK,yK]
   exact⟨i1,Int.le_trans i2 hl,i3⟩
theorem vd:∀ (r:List (Nat×Int)) (c:List Int),(r.foldl low c).length=c.length
 | [],_=>rfl
 | p::r,c=>by rw[yK,vd r,tQ]
theorem wQ(h:Wd G T W):∀ {r:List (Nat×Int)}{c:List Int},Off c->(∀k,c.getD k 0<=9)->LA G T W c r->∀p∈r,p.1 < W.length/\0<=p.2/\p.2<=9
 | p::r,c,ho,h9,hc,q,hq=>by
  obtain⟨h1,h2,h3⟩:=o3 h ho hc.1
  rcases zR.mp hq with z|z
  ·subst z
   have:=h9 q.1
   exact⟨h1,h2,by omega⟩
  ·refine wQ h (lV ho h2:Off (low c p)) (fun k=>?_) hc.2 q z
   have h4:=h9 k
   have h5:=h9 p.1
   show (low c p).getD k 0<=9
   rw[DD]
   split<;>omega
theorem NK(h:Wd G T W)(k:Nat):(bL W).getD k 0<=9:=by
 by_cases hk:k < W.length
 ·rw[pj hk]
  exact (h.wr _ (mT hk)).2.2.2
 ·rw[md (by rw[fE];omega)]
  omega
theorem Fg(h:Wd G T W)(x:Pn G T W X)(b:Bool):bw b G T W X=X:=by
 refine Gy (by rw[eP,x.len]) fun k hk=>?_
 rw[eP] at hk
 have hi:=eF h b hk
 rw[jW h b _ hk]
 refine II (X:=vl X) (cN h hi) (fun q hq=>?_) (x.le_sm h hi) (fun q hq=>.inl ?_) k (cH h b hk)
 ·have hq':=(mQ h hk hq).1
  have:=x.bd q hq'
  unfold vl mm
  omega
 ·have hq':=(mQ h hk hq).1
  have:=x.bd q hq'
  unfold vl mm
  omega
theorem none_of(h:Wd G T W)(x:Pn G T W (bw false G T W c)):lr G T W c=none:=by
 cases e:lr G T W c with
 | none=>rfl
 | some p =>
  obtain⟨k,v⟩:=p
  obtain⟨_,_,hlt⟩:=l4 e
  unfold ig at hlt
  rw[Fg h x true] at hlt
  omega
end
section
variable {G T:List Pl}{W:List Wy}{P X c:List Int}{r:List (Nat×Int)}{k:Nat}
theorem Dy{fa fb fc:Dl.Env->Option D}{ρ:Dl.Env}{x y z:Int}(ha:fa ρ=some (.int x))(hb:fb ρ=some (.int y))(hc:fc ρ=some (.int z)):fU Dl.rL Dl.Ak fa fb fc ρ=some (.bool (decide (x<=y)&&decide (y < z))):=by
 simp only[fU,ha,hb,hc,zA]
 have e:Dl.rL (.int x) (.int y)=some (.bool (decide (x<=y))):=rfl
 rw[e]
 cases decide (x<=y)<;>rfl
noncomputable def pD(p:Nat×Int):D:=af [((p.1:Nat):Int),p.2]
theorem uT(r:List (Nat×Int)):nz r=r.map pD:=by unfold nz;rw[zM];rfl
theorem Mu(p:Nat×Int):aq (pD p) (.int 0)=some (nD p.1):=rfl
theorem M5(p:Nat×Int):aq (pD p) (.int 1)=some (.int p.2):=rfl
def IE(W:List Wy)(r:List (Nat×Int)):Prop:=∀p∈r,p.1 < W.length/\0<=p.2/\p.2<=9
theorem zd(h:Wd G T W){p:Nat×Int}(hp:p.1 < W.length/\0<=p.2/\p.2<=9):ck [aw G T W,pD p]=some (.bool true):=by
 have e1:aQ [pD p,.int 2,.int 2]=some (.bool true):=by rw[dG (d:=pD p) rfl];rfl
 have e2:bo [nD p.1,.int ((W.length:Nat):Int)]=some (.bool true):=by
  rw[gJ rfl]
  simp[whole]
  omega
 have e3:aW [.int p.2,.int 0,.int 9]=some (.bool true):=by
  rw[gc rfl]
  simp[whole,hp.2.1,hp.2.2]
 refine aG ?_
 show dR [.val (aw G T W),.val (pD p)]=_
 unfold dR
 exact aH (pV (call_of e1 rfl rfl) (pV (call_of e2 (cons_of (ax (Mu p) rfl rfl) (cons_of (jE (l:=W) (k:=au) (ax (mh G T W) rfl rfl)) rfl)) rfl) (call_of e3 (cons_of (ax (M5 p) rfl rfl) rfl) rfl)))
theorem A7(h:Wd G T W)(hc:c.length=W.length){p:Nat×Int}(hp:p.1 < W.length):ix [aw G T W,af c,pD p]=some (.bool (JQ G T W c p)):=by
 have a0:=bR h hc false
 have a1:=bR (off:=bw false G T W c) h (eP _ _ _ _ _) true
 refine aG ?_
 show kr [.val (aw G T W),.val (af c),.val (pD p),.non,.non]=_
 unfold kr
 refine (ai (aL (call_of a0 rfl rfl) (call_of a0 rfl rfl) rfl)).trans ?_
 refine (ai (aL (call_of a1 rfl rfl) (call_of a1 rfl rfl) rfl)).trans ?_
 exact aH (Dy (ax (fV (off:=ig G T W c) (i:=p.1) (by unfold ig;rw[eP];exact hp)) rfl (ax (Mu p) rfl rfl)) (ax (M5 p) rfl rfl) (ax (fV (i:=p.1) (by rw[eP];exact hp)) rfl (ax (Mu p) rfl rfl)))
noncomputable def Ng:aj->Option Out:=(ar (dN (ba (fB (ah 3 ix (aa (ab 0) (aa (ab 2) (aa (ab 3) ae)))))) (az (fC .none)) dJ) (Dl.ay 2 [2,3] (ah 3 aY (aa (ab 2) (aa (f2 aq (ab 3) (fC (.int 0))) (aa (f2 aq (ab 3) (fC (.int 1))) ae))))))
theorem zj(h:Wd G T W){d:D}:∀ (r:List (Nat×Int)) (c:List Int) (x:Slot),IE W r->c.length=W.length ->
  (cb G T W c r=none->d7 (n0 3) Ng (r.map pD) [.val (aw G T W),.val d,.val (af c),x]=some (.rt .none))/\(∀c',cb G T W c r=some c'->∃y,d7 (n0 3) Ng (r.map pD) [.val (aw G T W),.val d,.val (af c),x]=some (.nx [.val (aw G T W),.val d,.val (af c'),y]))
 | [],c,x,_,_=>⟨(fun e=>nomatch e),(fun c' e=>by cases e;exact⟨x,rfl⟩)⟩
 | p::r,c,x,hf,hc=>by
  have hw:=h.wl
  have hp:=hf p zE
  have ef:=A7 h hc hp.1
  have el:=j8 (c:=c) (i:=p.1) (v:=p.2) (by rw[hc];exact hp.1) (by omega)
  obtain⟨i1,i2⟩:=zj h (d:=d) r (low c p) (.val (pD p)) (fun q hq=>hf q (zC _ hq)) (by rw[tQ,hc])
  have ht:n0 3 [.val (aw G T W),.val d,.val (af c),x] (pD p)=some [.val (aw G T W),.val d,.val (af c),.val (pD p)]:=rfl
  rw[zI,d7,ht,zA,cb]
  cases e:JQ G T W c p with
  | false =>
   rw[e] at ef
   have hb:Ng [.val (aw G T W),.val d,.val (af c),.val (pD p)]=some (.rt .none):=fu ((eQ (bN (aU (call_of ef rfl rfl)))).trans (aH rfl))
   rw[hb]
   exact⟨fun _=>rfl,fun c' z=>by simp at z⟩
  | true =>
   rw[e] at ef
   have hb:Ng [.val (aw G T W),.val d,.val (af c),.val (pD p)]=some (.nx [.val (aw G T W),.val d,.val (af (low c p)),.val (pD p)]) :=
    (ai (bE (bN (aU (call_of ef rfl rfl))))).trans (aL (call_of el (cons_of rfl (cons_of (ax (Mu p) rfl rfl) (cons_of (ax (M5 p) rfl rfl) rfl))) rfl) (call_of el (cons_of rfl (cons_of (ax (Mu p) rfl rfl) (cons_of (ax (M5 p) rfl rfl) rfl))) rfl) rfl)
   rw[hb]
   exact⟨fun z=>i1 (by simpa using z),fun c' z=>i2 c' (by simpa using z)⟩
noncomputable def Of:Option (List Int)->D|none=>.none|some c=>af c
theorem kG(h:Wd G T W)(hf:IE W r)(hr:r.length<=1000):cL [aw G T W,.list (r.map pD)]=some (Of (cb G T W (bL W) r)):=by
 refine aG ?_
 show eN [.val (aw G T W),.val (.list (r.map pD)),.non,.non]=_
 unfold eN
 have c:ao 1 [0] (aX (ab 1)) (fG 0) (fun _=>some true) (ah 2 ck (aa (ab 1) (aa (ab 0) ae))) [some (aw G T W),some (.list (r.map pD)),none,none]=some ((r.map pD).map fun _=>.bool true) :=
  bQ (ds:=r.map pD) rfl (by rw[zD];omega) fun d hd=>by
   obtain⟨p,hp,rfl⟩:=zQ.mp hd
   exact call_of (zd h (hf p hp)) rfl rfl
 have ha:bb jc (aa (bP (ao 1 [0] (aX (ab 1)) (fG 0) (fun _=>some true) (ah 2 ck (aa (ab 1) (aa (ab 0) ae))))) ae) [some (aw G T W),some (.list (r.map pD)),none,none]=some (.bool true):=by
  rw[mV (jb c)]
  have:∀l:List D,boolsOf (l.map fun _=>PyData.bool true)=some (l.map fun _=>true):=fun l=>by
   induction l with
   | nil=>rfl
   | cons d l ih=>simp[boolsOf,ih]
  simp only[jc,oneOf,zA,this,zB]
  simp
 have hl:FL "list" (ab 1) [some (aw G T W),some (.list (r.map pD)),none,none]=some (.bool true):=rfl
 refine (ai (bE (ny (bN (aU hl)) (bN (aU ha))))).trans ?_
 refine (ai (aL (call_of (fT h) rfl rfl) (call_of (fT h) rfl rfl) rfl)).trans ?_
 obtain⟨f1,f2'⟩:=zj h (d:=.list (r.map pD)) r (bL W) .non hf (fE W)
 cases e:cb G T W (bL W) r with
 | none=>exact fu (bU (f1 e) rfl rfl)
 | some c' =>
  obtain⟨y,e2⟩:=f2' c' e
  exact (ai (bU e2 rfl rfl)).trans (aH rfl)
theorem nE(h:Wd G T W)(hf:IE W r)(hr:r.length<=1000):cK [aw G T W,.list (r.map pD)]=some (Of (cb G T W (bL W) r)):=by
 refine aG ?_
 show ka [.val (aw G T W),.val (.list (r.map pD))]=_
 unfold ka
 refine (ai (iU (call_of (cM h) rfl rfl))).trans ?_
 exact aH (call_of (kG h hf hr) rfl rfl)
theorem HJ(h:Wd G T W)(hf:IE W r)(hr:r.length<=1000):l6 [aw G T W,.list (r.map pD)]=some (.bool (cb G T W (bL W) r).isSome):=by
 refine aG ?_
 show oP [.val (aw G T W),.val (.list (r.map pD))]=_
 unfold oP
 refine aH (ax ?_ (call_of (nE h hf hr) rfl rfl) rfl)
 cases cb G T W (bL W) r<;>rfl
theorem sV(h:Wd G T W)(x:Pn G T W X)(hf:IE W r)(hr:r.length<=1000)(e:cb G T W (bL W) r=some c)(hc:c.length=W.length):eK [aw G T W,af X,.list (r.map pD)]=some (.bool (decide (u4 G T W X=[])&&decide (X=bw false G T W c))):=by
 have eb:=kG h hf hr
 rw[e] at eb
 have es:=pG h x.len (x.smP h)
 refine aG ?_
 show oQ [.val (aw G T W),.val (af X),.val (.list (r.map pD)),.non]=_
 unfold oQ
 refine (ai (iU (call_of (iM h x) rfl rfl))).trans ?_
 refine (ai (aL (call_of eb rfl rfl) (call_of eb rfl rfl) rfl)).trans ?_
 cases hs:decide (u4 G T W X=[]) with
 | false =>
  rw[hs] at es
  refine fu ((eQ ?_).trans (aH rfl))
  have h1:fB (f2 mn (ab 3) (fC .none)) (bg [.val (aw G T W),.val (af X),.val (.list (r.map pD)),.val (af c)])=some false:=rfl
  have h2:ba (fB (ah 2 dD (aa (ab 0) (aa (ab 1) ae)))) (bg [.val (aw G T W),.val (af X),.val (.list (r.map pD)),.val (af c)])=some true:=bN (aU (call_of es rfl rfl))
  show il _ _ (bg [.val (aw G T W),.val (af X),.val (.list (r.map pD)),.val (af c)])=_
  simp only[il,h1,h2,zA]
 | true =>
  rw[hs] at es
  refine (ai (bE (ny rfl (bN (aU (call_of es rfl rfl)))))).trans ?_
  exact aH (ax (E4 _ _) rfl (call_of (bR h hc false) rfl rfl))
noncomputable def xt(W:List Wy)(P c:List Int):Bool:=(List.range W.length).all fun k=>decide (P.getD k 0<=c.getD k 0)
theorem kn:xt W P c=true↔∀k,k < W.length->P.getD k 0<=c.getD k 0:=by
 simp only[xt,List.all_eq_true,zT,zJ]
theorem eS(h:Wd G T W)(x:Pn G T W X)(hc:c.length=W.length):aB [aw G T W,af X,af c]=some (.bool (xt W X c)):=by
 have hw:=h.wl
 refine aG ?_
 show gO [.val (aw G T W),.val (af X),.val (af c)]=_
 unfold gO
 refine (ai (iU (call_of (cM h) rfl rfl))).trans ?_
 have hn:fB (f2 cB (bb bj (aa (ab 1) ae)) (bb bj (aa (ab 2) ae))) [some (aw G T W),some (af X),some (af c)]=some false:=by
  refine aU (ax (Ik ((W.length:Nat):Int)) ?_ ?_)
  ·have:=jE (l:=X) (k:=PyData.int) (f:=ab 1) (ρ:=[some (aw G T W),some (af X),some (af c)]) rfl
   rw[x.len] at this
   exact this
  ·have:=jE (l:=c) (k:=PyData.int) (f:=ab 2) (ρ:=[some (aw G T W),some (af X),some (af c)]) rfl
   rw[hc] at this
   exact this
 refine (ai (bE (ny (bN (aU (call_of (kE h x) rfl rfl))) hn))).trans ?_
 have hz:dU (aa (ab 1) (aa (ab 2) ae)) [some (aw G T W),some (af X),some (af c)]=some ((List.range X.length).map fun i=>.tuple [.int (X.getD i 0),.int (c.getD i 0)]):=by
  rw[<- zip_rows (by rw[x.len,hc])]
  rfl
 have cc:=jJ (cs:=[]) (tt:=fun _=>some true) (te:=f2 Dl.rL (ab 0) (ab 1)) (p:=fun _=>true) (h:=fun k=>.bool (decide (X.getD k 0<=c.getD k 0))) hz (by rw[x.len];omega) fun i hi=>⟨rfl,fun _=>rfl⟩
 refine aH ?_
 show bb jc (aa (bP (ao 2 [] (dU (aa (ab 1) (aa (ab 2) ae))) (f7 0 1) (fun _=>some true) (f2 Dl.rL (ab 0) (ab 1)))) ae) [some (aw G T W),some (af X),some (af c)]=_
 rw[mV (jb cc),show (List.range X.length).filter (fun _=>true)=List.range X.length by simp,mZ,x.len]
 rfl
theorem F1(h:Wd G T W):me [aw G T W]=some (.list ((fin G T W).1.map pD)):=by
 have e:=(Eg h).1
 rw[uT] at e
 refine aG ?_
 show oO [.val (aw G T W)]=_
 unfold oO
 refine (ai (iU (call_of (cM h) rfl rfl))).trans ?_
 exact aH (call_of e rfl rfl)
end
namespace K62M
section
variable {G T:List Pl}{W:List Wy}{P X c:List Int}
noncomputable def cj(G T:List Pl)(W:List Wy)(j:Nat):List Int:=((fin G T W).1.take j).foldl low (bL W)
theorem hC(j:Nat):(cj G T W j).length=W.length:=by unfold cj;rw[vd,fE]
theorem nB(h:Wd G T W):cj G T W (fin G T W).1.length=(fin G T W).2:=by
 unfold cj
 rw[List.take_length,(oH h).2]
theorem AB(h:Wd G T W){j:Nat}(hj:j<=(fin G T W).1.length):cb G T W (bL W) ((fin G T W).1.take j)=some (cj G T W j)/\lr G T W (cj G T W j)=(fin G T W).1[j]?:=CW (oH h).1 j hj
theorem Jc(h:Wd G T W)(j k:Nat):(cj G T W (j+1)).getD k 0<=(cj G T W j).getD k 0:=(Cz h (oz h) (oH h).1 j k).2.2
theorem AM(h:Wd G T W)(k j:Nat):∀n,(cj G T W (j+n)).getD k 0<=(cj G T W j).getD k 0
 | 0=>Int.le_refl _
 | n+1=>Int.le_trans (Jc h (j+n) k) (AM h k j n)
theorem MR(h:Wd G T W)(x:Pn G T W X)(r:Rs G T W X){j:Nat}(hj:j<=(fin G T W).1.length):xt W X (cj G T W j)=true:=kn.mpr fun k hk=>by
 have h1:=HX h x r hk
 have h2:=AM h k j ((fin G T W).1.length - j)
 rw[show j+((fin G T W).1.length - j)=(fin G T W).1.length by omega,nB h] at h2
 omega
theorem NX(h:Wd G T W):IE W (fin G T W).1:=fun p hp=>wQ h (oz h) (NK h) (oH h).1 p hp
theorem Ek(h:Wd G T W)(j:Nat):IE W ((fin G T W).1.take j):=fun p hp=>NX h p (List.mem_of_mem_take hp)
theorem uH(h:Wd G T W):(fin G T W).1.length<=144:=by
 have:=(lz h).2.1.bd
 have:=h.mea
 omega
theorem CF(h:Wd G T W){j:Nat}(hj:j<=(fin G T W).1.length)(x:Pn G T W (bw false G T W (cj G T W j))):j=(fin G T W).1.length:=by
 have h1:=none_of h x
 rw[(AB h hj).2,List.getElem?_eq_none_iff] at h1
 omega
theorem ki{f g:Dl.Env->Option D}{ρ:Dl.Env}{r:List (Nat×Int)}{k:Nat}(h:f ρ=some (.list (r.map pD)))(h2:g ρ=some (nD k)):fM cQ f fF (oT g) ρ=some (.list ((r.take k).map pD)):=by
 have:=vx (r.map pD) k
 simp only[fM,h,oT,h2,fF,gI,cQ,zA,zB,this,List.map_take]
theorem Dm{f g:Dl.Env->Option D}{ρ:Dl.Env}{xs ys:List D}(h:f ρ=some (.list xs))(h2:g ρ=some (.list ys))(hl:(xs++ys).length<=4000):IS jo f g ρ=some (xs++ys):=by
 simp only[IS,h,h2,zA,jo,bf hl]
theorem K0{r:List (Nat×Int)}{j:Nat}(hj:j<=r.length):aq (.list (r.map pD++[.none])) (nD j)=some (u3 r[j]?):=by
 refine Fe ?_
 by_cases e:j < r.length
 ·rw[List.getElem?_append_left (by rw[zD];exact e),zO,zK e]
  rfl
 ·have:j=r.length:=by omega
  subst this
  rw[List.getElem?_append_right (by rw[zD];exact Nat.le_refl _),zD,Nat.sub_self,List.getElem?_eq_none (Nat.le_refl _)]
  rfl
theorem EH{cs:List Nat}{fi:Dl.Env->Option (List D)}{tt:Dl.Env->Option Bool}{te:Dl.Env->Option D}{ρ:Dl.Env}{l:List (List Int)}(hfi:fi ρ=some (l.map af))(hh:∀x∈l,tt (some (af x)::cs.map fun j=>(ρ[j]?).getD none)=some false):fB (f2 cB (bP (ao 1 cs fi (fG 0) tt te)) (bP (dc ae))) ρ=some false:=by
 have key:∀l:List (List Int),(∀x∈l,tt (some (af x)::cs.map fun j=>(ρ[j]?).getD none)=some false)->cx (fG 0) tt te (none::cs.map fun j=>(ρ[j]?).getD none) (l.map af)=some []:=by
  intro l
  induction l with
  | nil=>intro _;rfl
  | cons x l ih =>
   intro hx
   have hg:fG 0 (none::cs.map fun j=>(ρ[j]?).getD none) (af x)=some (some (af x)::cs.map fun j=>(ρ[j]?).getD none):=rfl
   rw[zI,cx,hg,zA,hx x zE,zA,if_neg (by simp)]
   exact ih fun y hy=>hx y (zC _ hy)
 have c:ao 1 cs fi (fG 0) tt te ρ=some []:=by
  simp only[ao,hfi,zA,d9,List.replicate,List.cons_append,List.nil_append,key l hh]
  exact bf (by simp)
 exact aU (ax (si []) (jb c) (nil_of ρ))
theorem not_of{f:Dl.Env->Option D}{ρ:Dl.Env}{b:Bool}(h:f ρ=some (.bool b)):xE f ρ=some (.bool (!b)):=by
 simp only[xE,h,zA,Kx]
theorem J2{f g:Dl.Env->Option D}{ρ:Dl.Env}(h:f ρ=some (.bool true)):Gr f g ρ=some (.bool true):=by
 simp only[Gr,h,zA]
theorem LL{f g:Dl.Env->Option D}{ρ:Dl.Env}{d:D}(h:f ρ=some (.bool false))(h2:g ρ=some d):Gr f g ρ=some d:=by
 simp only[Gr,h,zA,h2]
noncomputable def M4:aj->Option Out:=(ar (Dl.ay 7 [1,3,6] (ah 2 cK (aa (ab 1) (aa (fM cQ (ab 3) fF (oT (ab 6))) ae)))) (ar (dN (il (fB (f2 mn (ab 7) (fC .none))) (fB (f2 cB (ab 7) (ah 2 eV (aa (ab 1) (aa (fM cQ (ab 3) fF (oT (ab 6))) ae)))))) (az (fC (.bool false))) dJ) (ar (dN (fB (f2 cB (bP (ao 1 [5,7] (bC (aa (bb bj (aa (ab 7) ae)) ae)) (fG 0) (fB (f2 wJ (f2 aq (ab 2) (ab 0)) (f2 aq (ab 1) (ab 0)))) (ab 0))) (bP (dc ae)))) (az (fC (.bool false))) dJ) (ar (dN (fB (f2 cB (bP (ao 1 [1,7] (aX (ab 4)) (fG 0) (ba (fB (ah 3 aB (aa (ab 1) (aa (ab 0) (aa (ab 2) ae)))))) (ab 0))) (bP (dc ae)))) (az (fC (.bool false))) dJ) (ar (dN (dm (fB (ah 3 aB (aa (ab 1) (aa (ab 2) (aa (ab 7) ae))))) (ba (fB (ah 3 aB (aa (ab 1) (aa (ab 2) (aa (ab 5) ae))))))) (az (fC (.bool false))) dJ) (ar (dN (fB (f2 cB (ah 2 cm (aa (ab 1) (aa (ab 7) ae))) (f2 aq (bP (IS jo (ab 3) (bP (dc (aa (fC .none) ae))))) (ab 6)))) (az (fC (.bool false))) dJ) (ar (dN (fB (f2 cB (ah 3 eK (aa (ab 1) (aa (f2 aq (ab 4) (fC (.int 0))) (aa (fM cQ (ab 3) fF (oT (ab 6))) ae)))) (f2 bS (ab 6) (bb bj (aa (ab 3) ae))))) (az (fC (.bool false))) dJ) (ar (dN (dm (fB (ah 3 eK (aa (ab 1) (aa (f2 aq (ab 4) (fC (.int 1))) (aa (fM cQ (ab 3) fF (oT (ab 6))) ae))))) (fB (f2 cB (f2 aq (ab 4) (fC (.int 0))) (f2 aq (ab 4) (fC (.int 1)))))) (az (fC (.bool false))) dJ) (Dl.ay 5 [7] (ab 7))))))))))
theorem Ii(h:Wd G T W)(x:Pn G T W P){s:D}{j:Nat}(hj:j<=(fin G T W).1.length){x7 x8 x9:Slot}:∃y7,M4 [.val s,.val (aw G T W),.val (af P),.val (.list ((fin G T W).1.map pD)),.val (.tuple [af (og G T W),af (iu G T W)]),.val (af (cj G T W (j - 1))),.val (nD j),x7,x8,x9]=some (.nx [.val s,.val (aw G T W),.val (af P),.val (.list ((fin G T W).1.map pD)),.val (.tuple [af (og G T W),af (iu G T W)]),.val (af (cj G T W j)),.val (nD j),y7,x8,x9]):=by
 have hw:=h.wl
 have hfew:=uH h
 have b:=um h
 have t:=MK h
 obtain⟨hcb,hrf⟩:=AB h hj
 have ff:=Ek h j
 have hl:((fin G T W).1.take j).length<=1000:=by rw[List.length_take];omega
 have eo:=nE h ff hl
 rw[hcb] at eo
 have ec:=pO h (fun p hp=>(ff p hp).1)
 rw[uT] at ec
 have ei:∀ {X c:List Int},Pn G T W X->c.length=W.length->aB [aw G T W,af X,af c]=some (.bool (xt W X c)):=fun x hc=>eS h x hc
 have hle:∀k,(cj G T W j).getD k 0<=(cj G T W (j - 1)).getD k 0:=fun k=>by
  cases j with
  | zero=>exact Int.le_refl _
  | succ n=>exact Jc h n k
 have er:=iB h (hC (G:=G) (T:=T) (W:=W) j)
 rw[hrf] at er
 have s0:=sV h b ff hl hcb (hC j)
 have s1:=sV h t ff hl hcb (hC j)
 have q0:(decide (u4 G T W (og G T W)=[])&&decide (og G T W=bw false G T W (cj G T W j)))=decide (((j:Nat):Int)=(((fin G T W).1.length:Nat):Int)):=by
  rw[yB ((o7 h b).mpr (yj h)),Bool.true_and]
  rw[decide_eq_decide]
  constructor
  ·intro z
   have:=CF h hj (by rw[<- z];exact b)
   omega
  ·intro z
   have z:j=(fin G T W).1.length:=by omega
   rw[z,nB h]
   rfl
 rw[q0] at s0
 unfold M4
 refine⟨.val (af (cj G T W j)),?_⟩
 refine (ai (aL (call_of eo (cons_of rfl (cons_of (ki rfl rfl) rfl)) rfl) (call_of eo (cons_of rfl (cons_of (ki rfl rfl) rfl)) rfl) rfl)).trans ?_
 refine (ai (bE (ny rfl (aU (ax (nF (cj G T W j)) rfl (call_of ec (cons_of rfl (cons_of (ki rfl rfl) rfl)) rfl)))))).trans ?_
 refine (ai (bE (B9 (is:=List.range W.length) (ni (wG (hC j) rfl) (by omega)) (by rw[zS];omega) fun i hi=>aU (ax ((fP _ _).trans (by rw[yA (by have:=hle i;omega)])) (ax (fV (i:=i) (by rw[hC];simpa using hi)) rfl rfl) (ax (fV (i:=i) (by rw[hC];simpa using hi)) rfl rfl))))).trans ?_
 refine (ai (bE (EH (l:=[og G T W,iu G T W]) rfl fun X hX=>?_))).trans ?_
 ·have:Pn G T W X/\Rs G T W X:=by
   simp only[zR,yG,or_false] at hX
   rcases hX with rfl|rfl
   ·exact⟨b,yj h⟩
   ·exact⟨t,LQ h⟩
  have e:=ei this.1 (hC (G:=G) (T:=T) (W:=W) j)
  rw[MR h this.1 this.2 hj] at e
  exact bN (aU (call_of e rfl rfl))
 have hin:(dm (fB (ah 3 aB (aa (ab 1) (aa (ab 2) (aa (ab 7) ae))))) (ba (fB (ah 3 aB (aa (ab 1) (aa (ab 2) (aa (ab 5) ae))))))) (bg [.val s,.val (aw G T W),.val (af P),.val (.list ((fin G T W).1.map pD)),.val (.tuple [af (og G T W),af (iu G T W)]),.val (af (cj G T W (j - 1))),.val (nD j),.val (af (cj G T W j)),x8,x9])=some false:=by
  cases e:xt W P (cj G T W j) with
  | false=>exact uW (aU (call_of ((ei x (hC j)).trans (by rw[e])) rfl rfl))
  | true =>
   have e2:xt W P (cj G T W (j - 1))=true:=kn.mpr fun k hk=>Int.le_trans (kn.mp e k hk) (hle k)
   exact pI (aU (call_of ((ei x (hC j)).trans (by rw[e])) rfl rfl)) (bN (aU (call_of ((ei x (hC (j - 1))).trans (by rw[e2])) rfl rfl)))
 refine (ai (bE hin)).trans ?_
 refine (ai (bE (aU (ax (Gz (fin G T W).1[j]?) (call_of er rfl rfl) (ax (K0 hj) (jb (Dm (ys:=[.none]) rfl (jb (yk (ds:=[.none]) rfl (by simp))) (by simp;omega))) rfl))))).trans ?_
 refine (ai (bE (aU (ax (BL (decide (((j:Nat):Int)=(((fin G T W).1.length:Nat):Int)))) (call_of s0 (cons_of rfl (cons_of rfl (cons_of (ki rfl rfl) rfl))) rfl) (ax (dk _ _) rfl (by rw[mV (d:=.list ((fin G T W).1.map pD)) rfl];show some (PyData.int (((fin G T W).1.map pD).length:Nat))=_;rw[zD])))))).trans ?_
 have hsh:(dm (fB (ah 3 eK (aa (ab 1) (aa (f2 aq (ab 4) (fC (.int 1))) (aa (fM cQ (ab 3) fF (oT (ab 6))) ae))))) (fB (f2 cB (f2 aq (ab 4) (fC (.int 0))) (f2 aq (ab 4) (fC (.int 1)))))) (bg [.val s,.val (aw G T W),.val (af P),.val (.list ((fin G T W).1.map pD)),.val (.tuple [af (og G T W),af (iu G T W)]),.val (af (cj G T W (j - 1))),.val (nD j),.val (af (cj G T W j)),x8,x9])=some false:=by
  cases e:(decide (u4 G T W (iu G T W)=[])&&decide (iu G T W=bw false G T W (cj G T W j))) with
  | false=>exact uW (aU (call_of (s1.trans (by rw[e])) (cons_of rfl (cons_of rfl (cons_of (ki rfl rfl) rfl))) rfl))
  | true =>
   have z:iu G T W=bw false G T W (cj G T W j):=of_decide_eq_true (Bool.and_eq_true_iff.mp e).2
   have z2:=CF h hj (by rw[<- z];exact t)
   have z3:og G T W=iu G T W:=by
    rw[z,z2,nB h]
    rfl
   refine pI (aU (call_of (s1.trans (by rw[e])) (cons_of rfl (cons_of rfl (cons_of (ki rfl rfl) rfl))) rfl)) (aU (ax ((wC (og G T W) (iu G T W)).trans ?_) rfl rfl))
   rw[yB z3]
   rfl
 refine (ai (bE hsh)).trans ?_
 exact aL rfl rfl rfl
noncomputable def Na:aj->Option Out:=(ar (Dl.ay 9 [5,8] (ah 3 aY (aa (ab 5) (aa (ab 8) (aa (bb yz (aa (fC (.int 0)) (aa (f2 Dl.fJ (f2 aq (ab 5) (ab 8)) (fC (.int 1))) ae))) ae))))) (ar (dN (dm (fB (ah 3 aB (aa (ab 1) (aa (ab 2) (aa (ab 9) ae))))) (ba (fB (ah 3 aB (aa (ab 1) (aa (ab 2) (aa (ab 5) ae))))))) (az (fC (.bool false))) dJ) (dN (fB (ah 2 l6 (aa (ab 1) (aa (bP (IS jo (ab 3) (bP (dc (aa (aM (aa (ab 8) (aa (f2 aq (ab 5) (ab 8)) ae))) ae))))) ae)))) (az (fC (.bool false))) dJ)))
theorem Ge(h:Wd G T W)(x:Pn G T W P){s d:D}{k:Nat}(hk:k < W.length){x6 x7 x9:Slot}:∃y9,Na [.val s,.val (aw G T W),.val (af P),.val (.list ((fin G T W).1.map pD)),.val d,.val (af (fin G T W).2),x6,x7,.val (nD k),x9]=some (.nx [.val s,.val (aw G T W),.val (af P),.val (.list ((fin G T W).1.map pD)),.val d,.val (af (fin G T W).2),x6,x7,.val (nD k),y9]):=by
 have hw:=h.wl
 have hfew:=uH h
 obtain⟨hnone,sp,hlim⟩:=lz h
 have hcl:=sp.len
 have hkc:k < (fin G T W).2.length:=by rw[hcl];exact hk
 have hc0:0<=(fin G T W).2.getD k 0:=sp.off k
 have el:=j8 (c:=(fin G T W).2) (i:=k) (v:=max 0 ((fin G T W).2.getD k 0 - 1)) hkc (by omega)
 have hll:((fin G T W).2.set k (max 0 ((fin G T W).2.getD k 0 - 1))).length=W.length:=by rw[yD,hcl]
 have hle:∀q,((fin G T W).2.set k (max 0 ((fin G T W).2.getD k 0 - 1))).getD q 0<=(fin G T W).2.getD q 0:=fun q=>by
  rw[bT]
  split
  ·rename_i z
   rw[<- z.1]
   omega
  ·exact Int.le_refl _
 have ff:IE W ((fin G T W).1++[(k,(fin G T W).2.getD k 0)]):=fun p hp=>by
  rcases List.mem_append.mp hp with z|z
  ·exact NX h p z
  ·rw[yL] at z
   subst z
   have:=hlim k hk
   have:=(h.wr _ (mT hk)).2.2.2
   exact⟨hk,hc0,by show (fin G T W).2.getD k 0<=9;omega⟩
 have eh:=HJ h ff (by simp;omega)
 have hcbn:cb G T W (bL W) ((fin G T W).1++[(k,(fin G T W).2.getD k 0)])=none:=by
  have app:∀ (r:List (Nat×Int)) (c:List Int) (p:Nat×Int),cb G T W c (r++[p])=(cb G T W c r).bind fun c'=>if JQ G T W c' p=true then some (low c' p) else none:=by
   intro r
   induction r with
   | nil=>intro c p;simp[cb]
   | cons q r ih =>
    intro c p
    rw[List.cons_append,cb,cb]
    split
    ·exact ih _ _
    ·rfl
  have hce:=(AB h (Nat.le_refl (fin G T W).1.length)).1
  rw[List.take_length,nB h] at hce
  rw[app,hce,zA,if_neg]
  unfold JQ
  have:=(lx h sp.off hk).2.2.1
  simp only[zF,zJ]
  omega
 rw[hcbn] at eh
 have hlow:∀ρ:Dl.Env,ab 5 ρ=some (af (fin G T W).2)->ab 8 ρ=some (nD k)->(ah 3 aY (aa (ab 5) (aa (ab 8) (aa (bb yz (aa (fC (.int 0)) (aa (f2 Dl.fJ (f2 aq (ab 5) (ab 8)) (fC (.int 1))) ae))) ae)))) ρ=some (af ((fin G T W).2.set k (max 0 ((fin G T W).2.getD k 0 - 1)))):=fun ρ a b=>by
  refine call_of el (cons_of a (cons_of b (cons_of ?_ rfl))) rfl
  have e:(aa (fC (.int 0)) (aa (f2 Dl.fJ (f2 aq (ab 5) (ab 8)) (fC (.int 1))) ae)) ρ=some [.int 0,.int ((fin G T W).2.getD k 0 - 1)]:=cons_of rfl (cons_of (ax (sub_int _ _) (ax (fV hkc) a b) rfl) rfl)
  simp only[bb,e,zA,yz]
 unfold Na
 refine⟨.val (af ((fin G T W).2.set k (max 0 ((fin G T W).2.getD k 0 - 1)))),?_⟩
 refine (ai (aL (hlow _ rfl rfl) (hlow _ rfl rfl) rfl)).trans ?_
 have hin:(dm (fB (ah 3 aB (aa (ab 1) (aa (ab 2) (aa (ab 9) ae))))) (ba (fB (ah 3 aB (aa (ab 1) (aa (ab 2) (aa (ab 5) ae))))))) (bg [.val s,.val (aw G T W),.val (af P),.val (.list ((fin G T W).1.map pD)),.val d,.val (af (fin G T W).2),x6,x7,.val (nD k),.val (af ((fin G T W).2.set k (max 0 ((fin G T W).2.getD k 0 - 1))))])=some false:=by
  cases e:xt W P ((fin G T W).2.set k (max 0 ((fin G T W).2.getD k 0 - 1))) with
  | false=>exact uW (aU (call_of ((eS h x hll).trans (by rw[e])) rfl rfl))
  | true =>
   have e2:xt W P (fin G T W).2=true:=kn.mpr fun q hq=>Int.le_trans (kn.mp e q hq) (hle q)
   exact pI (aU (call_of ((eS h x hll).trans (by rw[e])) rfl rfl)) (bN (aU (call_of ((eS h x hcl).trans (by rw[e2])) rfl rfl)))
 refine (ai (bE hin)).trans ?_
 refine bE (aU (call_of eh (cons_of rfl (cons_of (jb ?_) rfl)) rfl))
 rw[List.map_append]
 exact Dm rfl (jb (yk (ds:=[pD (k,(fin G T W).2.getD k 0)]) (cons_of (tup_is (ds:=[nD k,.int ((fin G T W).2.getD k 0)]) (cons_of rfl (cons_of (ax (fV hkc) rfl rfl) rfl)) (by simp)) rfl) (by simp))) (by simp;omega)
theorem main(ns:List Int)(hl:ns.length<=63):iA [.list (ns.map PyData.int)]=some (.bool true):=by
 obtain⟨G,T,W,ew,h,_⟩:=wg (ns:=ns) (a:=0) (mo:=9) hl (by omega)
 have ep:=xw (ns:=ns) (at':=70) hl h
 have p:=He (ns:=ns) (at':=70) hl h
 generalize k9 (qA ns 70 W) G T W W.length=P at ep p
 have hw:=h.wl
 have hfew:=uH h
 have es:=(Eg h).1
 rw[uT] at es
 have epa:=F1 h
 have elim:=fT h
 have ein:aB [aw G T W,af P,af (bL W)]=some (.bool true):=by
  rw[eS h p (fE W),kn.mpr fun k hk=>by rw[pj hk];exact (p.bd k hk).2]
 have eo:cK [aw G T W,.list []]=some (af (bL W)):=nE (r:=[]) h (fun q hq=>by cases hq) (by simp)
 have hcl:=(lz h).2.1.len
 have hce:=(AB h (Nat.le_refl (fin G T W).1.length)).1
 rw[List.take_length,nB h] at hce
 have esh:=sV h p (NX h) (by omega) hce hcl
 have hrow:cB (.list ((fin G T W).1.map pD)) (.list ((fin G T W).1.map pD))=some (.bool false):=by
  rw[<- uT]
  unfold nz
  rw[Ci]
  simp
 obtain⟨ρ1,e1,x6,x7,rfl⟩:=oS (tgt:=n0 6) (gb:=M4) nD (fun j ρ=>∃x6 x7,ρ=[.val (cw ns),.val (aw G T W),.val (af P),.val (.list ((fin G T W).1.map pD)),.val (.tuple [af (og G T W),af (iu G T W)]),.val (af (cj G T W (j - 1))),x6,x7,.non,.non]) ((fin G T W).1.length+1) 0 [.val (cw ns),.val (aw G T W),.val (af P),.val (.list ((fin G T W).1.map pD)),.val (.tuple [af (og G T W),af (iu G T W)]),.val (af (bL W)),.non,.non,.non,.non]
  (fun j ρ _ hj hρ=>by
   obtain⟨x6,x7,rfl⟩:=hρ
   obtain⟨y7,e⟩:=Ii (s:=cw ns) (x7:=x7) (x8:=.non) (x9:=.non) h p (show j<=(fin G T W).1.length by omega)
   exact⟨_,_,rfl,e,_,_,rfl⟩) ⟨_,_,rfl⟩
 rw[show 0+((fin G T W).1.length+1) - 1=(fin G T W).1.length by omega,nB h] at e1
 obtain⟨ρ2,e2,x8,x9,rfl⟩:=oS (tgt:=n0 8) (gb:=Na) nD (fun _ ρ=>∃x8 x9,ρ=[.val (cw ns),.val (aw G T W),.val (af P),.val (.list ((fin G T W).1.map pD)),.val (.tuple [af (og G T W),af (iu G T W)]),.val (af (fin G T W).2),x6,x7,x8,x9]) W.length 0 [.val (cw ns),.val (aw G T W),.val (af P),.val (.list ((fin G T W).1.map pD)),.val (.tuple [af (og G T W),af (iu G T W)]),.val (af (fin G T W).2),x6,x7,.non,.non]
  (fun j ρ _ hj hρ=>by
   obtain⟨x8,x9,rfl⟩:=hρ
   obtain⟨y9,e⟩:=Ge (s:=cw ns) (d:=.tuple [af (og G T W),af (iu G T W)]) (x6:=x6) (x7:=x7) (x9:=x9) h p (show j < W.length by omega)
   exact⟨_,_,rfl,e,_,_,rfl⟩) ⟨_,_,rfl⟩
 rw[<- yI] at e1 e2
 refine aG ?_
 show (ar (Dl.ay 1 [0] (ah 3 bW (aa (ab 0) (aa (fC (.int 0)) (aa (fC (.int 9)) ae))))) (ar (Dl.ay 2 [0,1] (ah 3 eR (aa (ab 0) (aa (fC (.int 70)) (aa (ab 1) ae))))) (ar (Dl.ay 3 [1] (ah 1 me (aa (ab 1) ae))) (ar (Dl.ay 4 [1] (aM (aa (ah 1 bu (aa (ab 1) ae)) (aa (ah 1 cO (aa (ab 1) ae)) ae)))) (ar (dN (il (fB (f2 cB (ab 3) (ah 1 eO (aa (ab 1) ae)))) (il (ba (fB (ah 3 aB (aa (ab 1) (aa (ab 2) (aa (ah 1 bA (aa (ab 1) ae)) ae)))))) (fB (f2 cB (ah 2 cK (aa (ab 1) (aa (bP (dc ae)) ae))) (ah 1 bA (aa (ab 1) ae)))))) (az (fC (.bool false))) dJ) (ar (Dl.ay 5 [1] (ah 1 bA (aa (ab 1) ae))) (ar (dM [3] (bC (aa (f2 aI (bb bj (aa (ab 3) ae)) (fC (.int 1))) ae)) (n0 6) M4) (ar (dM [1] (bC (aa (bb bj (aa (f2 aq (ab 1) (fC (.int 2))) ae)) ae)) (n0 8) Na) (az (Gr (xE (ah 3 eK (aa (ab 1) (aa (ab 2) (aa (ab 3) ae))))) (ah 2 l0 (aa (ab 1) (aa (ab 2) ae))))))))))))) [.val (cw ns),.non,.non,.non,.non,.non,.non,.non,.non,.non]=_
 refine (ai (aL (call_of ew rfl rfl) (call_of ew rfl rfl) rfl)).trans ?_
 refine (ai (aL (call_of ep rfl rfl) (call_of ep rfl rfl) rfl)).trans ?_
 refine (ai (aL (call_of epa rfl rfl) (call_of epa rfl rfl) rfl)).trans ?_
 refine (ai (aL (tup_is (ds:=[af (og G T W),af (iu G T W)]) (cons_of (call_of (yX h) rfl rfl) (cons_of (call_of (zl h) rfl rfl) rfl)) (by simp)) (tup_is (ds:=[af (og G T W),af (iu G T W)]) (cons_of (call_of (yX h) rfl rfl) (cons_of (call_of (zl h) rfl rfl) rfl)) (by simp)) rfl)).trans ?_
 refine (ai (bE (ny (aU (ax hrow rfl (call_of es rfl rfl))) (ny (bN (aU (call_of ein (cons_of rfl (cons_of rfl (cons_of (call_of elim rfl rfl) rfl))) rfl))) (aU (ax (nF (bL W)) (call_of eo (cons_of rfl (cons_of (nil_of _) rfl)) rfl) (call_of elim rfl rfl))))))).trans ?_
 refine (ai (aL (call_of elim rfl rfl) (call_of elim rfl rfl) rfl)).trans ?_
 refine (ai (bU e1 (ni (n:=(fin G T W).1.length+1) (cons_of (ax (gu (((fin G T W).1.length:Nat):Int) 1) ?_ rfl) rfl) (by omega)) rfl)).trans ?_
 ·rw[mV (d:=.list ((fin G T W).1.map pD)) rfl]
  show some (PyData.int (((fin G T W).1.map pD).length:Nat))=_
  rw[zD]
 refine (ai (bU e2 (ni (n:=W.length) (cons_of (jE (l:=W) (k:=au) (ax (mh G T W) rfl rfl)) rfl) (by omega)) rfl)).trans ?_
 refine aH ?_
 have er:=FU h p
 cases e:decide (u4 G T W P=[])&&decide (P=bw false G T W (fin G T W).2) with
 | false =>
  rw[e] at esh
  exact J2 (not_of (call_of esh rfl rfl))
 | true =>
  rw[e] at esh
  rw[(Bool.and_eq_true_iff.mp e).1] at er
  exact LL (not_of (call_of esh rfl rfl)) (call_of er rfl rfl)
end
end K62M
end Wm
namespace K62
open PySem L2 Dl PySem.Spec PyProof.Rows Pg Hd
theorem main(ns:List Int)(h:ns.length<=63):iA [.list (ns.map PyData.int)]=some (.bool true):=Wm.K62M.main ns h
theorem ins(P:Params):Mb (Kf P):=⟨f3 58 57 ju,f2 65 64 ju,f3 72 71 ju,f2 77 76 ju,f2 84 83 ju,f3 91 90 ju,f3 96 95 ju,f1 101 100 ju,f1 106 105 ju,f4 111 110 ju,f3 116 115 ju,f2 121 120 ju,f1 128 127 ju,f2 135 134 ju,f3 142 141 ju,l1 149 148 ju,f1 154 153 ju,f2 159 158 ju,l3 164 163 Aw,f4 169 168 Aw,f4 174 173 Aw,f3 181 180 Aw,f2 188 187 Aw,f2 195 194 Aw,f2 202 201 Aw,f3 207 206 xn,f1 212 211 xn,f3 219 218 xn,f2 226 225 xn,f1 233 232 xn,f2 240 239 xn,f1 247 246 xn,f1 254 253 xn,f1 261 260 xo,f2 268 267 xo,f3 275 274 xo,f2 280 279 xo,f2 287 286 xo,f2 294 293 xo,f3 301 300 xo,f3 306 305 xo,f2 313 312 u0,f3 320 319 u0,f3 327 326 u0,f3 332 331 u0,f4 337 336 u0,f2 344 343 u0,f1 349 348 u0,f3 356 355 u0,f1 361 360 u0,Dl.IF (t:=241) (by kernel_rfl),Dl.IF (t:=243) (by kernel_rfl),Dl.J0 (by kernel_rfl) (by kernel_rfl) (by kernel_rfl) (by kernel_rfl) (by kernel_rfl) (by kernel_rfl) (by kernel_rfl) (by kernel_rfl) (by kernel_rfl) (by kernel_rfl) (by kernel_rfl) (by kernel_rfl) (by kernel_rfl) (by kernel_rfl) (by kernel_rfl) (by kernel_rfl) (by kernel_rfl)⟩
theorem OK(w:World):lI (Kf w.params) [144,161]=true:=by kernel_rfl
end K62
open PySem PySem.W PyProof.Rows
theorem PySem.Challenge.cw_stillflow_k62_whole_within_holds : PySem.Challenge.rw_stillflow_k62_whole_within.Holds := by
 refine holds_law K62.Nj fun k1=>?_
 refine holds_open (XP:=XL K62.vw []) (YP:=K62.hk.says) K62.left K62.hk.of K62.hk.keeps (fun s e=>xl_of s (Bool.and_eq_true_iff.mp e).1) XL.keeps (by rfl) (by rfl) (by rfl) (fun s e=>recFacts_of (Bool.and_eq_true_iff.mp e).2) (by rfl) k1 (by decide +kernel) ⟨rfl,rfl,rfl,rfl,rfl,by decide +kernel⟩ ?hw ?hc
 case hw=>w_witness2
 case hc=>exact K62.walk (l:=PySem.Challenge.rw_stillflow_k62_whole_within) (K:=K62.Kf) (ts:=[144,161]) rfl rfl rfl (fun w h Y=>⟨Y.1,Y.2⟩) K62.OK (fun w=>K62.ins w.params) K62.main
