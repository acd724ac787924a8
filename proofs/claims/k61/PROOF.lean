import PyProof.Rows.All
import Wide.All
import OpenK.AllK
import Wide.FinOn
import Lean
import PyProof.EqAt
import PyProof.EqKinds
import PyProof.TupleCall
import PyProof.Draws
import PyProof.ListRange
import PySem.Challenge.RW_stillflow_k61_whole_papers
set_option Elab.async false
set_option linter.all false
set_option maxRecDepth 100000
set_option maxHeartbeats 4000000
abbrev _root_.zA:=@Option.bind_some
abbrev _root_.zB:=@Option.map_some
abbrev _root_.zC:=@List.mem_cons_of_mem
abbrev _root_.zD:=@List.length_map
abbrev _root_.zE:=@List.mem_cons_self
abbrev _root_.zF:=@Bool.and_eq_true
abbrev _root_.zG:=@List.getD_eq_getElem?_getD
abbrev _root_.zH:=@List.size_toArray
abbrev _root_.zI:=@List.map_cons
abbrev _root_.zJ:=@decide_eq_true_eq
abbrev _root_.zK:=@List.getElem?_eq_getElem
abbrev _root_.zL:=@List.length_cons
abbrev _root_.zM:=@List.map_map
abbrev _root_.zN:=@List.length_append
abbrev _root_.zO:=@List.getElem?_map
abbrev _root_.zP:=@Nat.lt_of_lt_of_le
abbrev _root_.zQ:=@List.mem_map
abbrev _root_.zR:=@List.mem_cons
abbrev _root_.zS:=@List.length_range
abbrev _root_.zT:=@List.mem_range
abbrev _root_.zU:=@List.getElem?_eq_some_iff
abbrev _root_.zV:=@PySem.Heap.get?_push_of_some
abbrev _root_.zW:=@PySem.wpAny_bind
abbrev _root_.zX:=@PySem.wpAny_pure
abbrev _root_.zY:=@PySem.Heap.get?_push_size
abbrev _root_.zZ:=@PySem.Heap.lt_size
abbrev _root_.yA:=@decide_eq_false
abbrev _root_.yB:=@decide_eq_true
abbrev _root_.yC:=@List.lookup_cons
abbrev _root_.yD:=@List.length_set
abbrev _root_.yE:=@Nat.le_trans
abbrev _root_.yF:=@List.mem_append_right
abbrev _root_.yG:=@List.not_mem_nil
abbrev _root_.yH:=@Int.toNat_natCast
abbrev _root_.yI:=@List.map_congr_left
abbrev _root_.yJ:=@List.foldl_cons
abbrev _root_.yK:=@List.mem_singleton
abbrev _root_.yL:=@Option.some.injEq
namespace L2
open PySem PySem.Spec PyProof.Rows
noncomputable abbrev yq:=Sum Int Str
noncomputable def JE:yq->Value->Bool
 | .inl k,v=>Value.isInt k v
 | .inr x,v=>Value.isStrOf x v
noncomputable def N7(w:World):yq->Int
 | .inl k=>hashInt k
 | .inr x=>hashStr w x
theorem bX:∀ {k:yq}{v:Value},JE k v=true->(∃i t,k=Sum.inl i/\v=Value.int i t)\/(∃x t,k=Sum.inr x/\v=Value.str x t)
 | .inl i,v,h=>by
  obtain⟨t,e⟩:=Value.isInt_shape (k:=i) (v:=v) h
  exact .inl ⟨i,t,rfl,e⟩
 | .inr x,v,h=>by
  obtain⟨t,e⟩:=Value.isStrOf_shape (x:=x) (v:=v) h
  exact .inr ⟨x,t,rfl,e⟩
theorem Ln(a b:Int):decide ((Sum.inl a:yq)=Sum.inl b)=(a == b):=by
 by_cases e:a=b
 ·subst e;simp
 ·have h:¬ (Sum.inl a:yq)=Sum.inl b:=fun q=>e (Sum.inl.inj q)
  rw[yA h]
  exact (beq_eq_false_iff_ne.mpr e).symm
theorem L9(a b:Str):decide ((Sum.inr a:yq)=Sum.inr b)=decide (a=b):=by
 by_cases e:a=b
 ·subst e;simp
 ·have h:¬ (Sum.inr a:yq)=Sum.inr b:=fun q=>e (Sum.inr.inj q)
  rw[yA h,yA e]
theorem Lq(a:Int)(b:Str):decide ((Sum.inl a:yq)=Sum.inr b)=false:=yA (fun q=>nomatch q)
theorem LW(a:Str)(b:Int):decide ((Sum.inr a:yq)=Sum.inl b)=false:=yA (fun q=>nomatch q)
noncomputable def A8(prog:Program)(w:World):PySem.KeyKind prog w yq where
 is:=JE
 hash:=N7 w
 inj:=fun v a b ha hb=>by
  rcases bX ha with ⟨i,t,rfl,rfl⟩|⟨x,t,rfl,rfl⟩
  ·rcases bX hb with ⟨j,u,rfl,e⟩|⟨y,u,rfl,e⟩
   ·injection e with e1 _;rw[e1]
   ·exact nomatch e
  ·rcases bX hb with ⟨j,u,rfl,e⟩|⟨y,u,rfl,e⟩
   ·exact nomatch e
   ·injection e with e1 _;rw[e1]
 byValue:=fun k v h=>by
  rcases bX h with ⟨i,t,rfl,rfl⟩|⟨x,t,rfl,rfl⟩<;>rfl
 pyHash:=fun hv h=>by
  rcases bX hv with ⟨i,t,rfl,rfl⟩|⟨x,t,rfl,rfl⟩
  ·exact wpAny_pyHash_int h
  ·exact wpAny_pyHash_str h
 eqBool:=fun hu hv h=>by
  rcases bX hu with ⟨i,t,rfl,rfl⟩|⟨x,t,rfl,rfl⟩
  ·rcases bX hv with ⟨j,u,rfl,rfl⟩|⟨y,u,rfl,rfl⟩
   ·rw[Ln] at h;exact wpAny_eqBool_int h
   ·rw[Lq] at h;exact SeqAt.EqAt.int_str i t y u _ _ _ _ h
  ·rcases bX hv with ⟨j,u,rfl,rfl⟩|⟨y,u,rfl,rfl⟩
   ·rw[LW] at h;exact SeqAt.EqAt.str_int x t j u _ _ _ _ h
   ·rw[L9] at h;exact wpAny_eqBool_str h
 «strs»:=fun k x t v h=>by
  rcases bX h with ⟨i,u,rfl,e⟩|⟨y,u,rfl,e⟩
  ·exact nomatch e
  ·injection e with e1 _
   subst e1
   cases v<;>rfl
inductive V where
 | non|bl (b:Bool)|int (i:Int)|str (x:Str)|byt (b:Array UInt8)|flt (b:UInt64)|ref (a:Addr)|ty (n:String)
 deriving DecidableEq
noncomputable def RelV:V->Value->Prop
 | .non,u=>u=Value.none
 | .bl b,u=>u=Value.bool b
 | .int i,u=>∃t,u=Value.int i t
 | .str x,u=>∃t,u=Value.str x t
 | .byt b,u=>∃t,u=Value.bytes b t
 | .flt b,u=>∃t,u=Value.float b t
 | .ref a,u=>u=Value.ref a
 | .ty n,u=>u=Value.type n
noncomputable abbrev aF:List V->List Value->Prop:=Paired RelV
theorem aF.length{xs:List V}{us:List Value}(r:aF xs us):xs.length=us.length:=Paired.length r
theorem aF.get:∀ {xs:List V}{us:List Value}{i:Nat}{x:V},aF xs us->xs[i]?=some x->∃u,us[i]?=some u/\RelV x u
 | _,_,_,_,.nil,e=>by simp at e
 | _,_,0,_,.cons r _,e=>by simp at e;subst e;exact⟨_,rfl,r⟩
 | _,_,i+1,x,.cons _ t,e=>by
  obtain⟨u,h1,h2⟩:=aF.get (i:=i) (x:=x) t (by simpa using e)
  exact⟨u,by simpa using h1,h2⟩
theorem aF.set{x:V}{u:Value}(r:RelV x u):∀ {xs:List V}{us:List Value}(i:Nat),aF xs us->aF (xs.set i x) (us.set i u)
 | _,_,_,.nil=>.nil
 | _,_,0,.cons _ t=>.cons r t
 | _,_,i+1,.cons q t=>.cons q (aF.set r i t)
theorem aF.append:∀ {xs ys:List V}{us ws:List Value},aF xs us->aF ys ws->aF (xs++ys) (us++ws)
 | _,_,_,_,.nil,s=>s
 | _,_,_,_,.cons r t,s=>.cons r (aF.append t s)
theorem aF.take:∀ {xs:List V}{us:List Value}(n:Nat),aF xs us->aF (xs.take n) (us.take n)
 | _,_,0,_=>.nil
 | _,_,_+1,.nil=>.nil
 | _,_,n+1,.cons r t=>.cons r (aF.take n t)
theorem aF.drop:∀ {xs:List V}{us:List Value}(n:Nat),aF xs us->aF (xs.drop n) (us.drop n)
 | _,_,0,r=>r
 | _,_,_+1,.nil=>.nil
 | _,_,n+1,.cons _ t=>aF.drop n t
noncomputable def MO:Option V->Option Value->Prop
 | some v,some u=>RelV v u
 | none,none=>True
 | _,_=>False
noncomputable def KV{κ:Type}:List (κ×V)->List (κ×Value)->Prop:=Paired fun (p:κ×V) (q:κ×Value)=>p.1=q.1/\RelV p.2 q.2
noncomputable def kV:yq->V
 | .inl i=>.int i
 | .inr x=>.str x
inductive HO where
  | lst (xs:List V)
  | tup (xs:List V)
  | dK (kvs:List (yq×V))|dT (kvs:List (List yq×V))
  | set (S:Int->Bool) (n:Nat)
  | ins (C dx:Addr) (fs:List (Str×V))
  | own (x:Addr)
  | xd (fs:List (Str×V))
  | met (f x:Addr)
  | rng (lo hi:Int)
  | frz (o:Obj) (u:HO)
  | tab (q:Str)
 | cod (q:Str)
  | ext (φ:Heap->Prop)
noncomputable abbrev Hp:=Addr->Option HO
noncomputable def upd(H:Hp)(a:Addr)(o:HO):Hp:=fun b=>if b=a then some o else H b
theorem aL{H:Hp}{a:Addr}{o:HO}:upd H a o a=some o:=by unfold upd;rw[if_pos rfl]
theorem aE{H:Hp}{a b:Addr}{o:HO}(h:b≠a):upd H a o b=H b:=by unfold upd;rw[if_neg h]
theorem aQ{H:Hp}{a b:Addr}{o:HO}(h:H a=some o)(h':H b=none):a≠b:=by
 intro e;subst e;rw[h] at h';cases h'
def m7(h:Heap)(a:Addr)(its:Array Value):Prop:=IsTup h a its/\∃o,h.get? a=some o/\o.dict=none
theorem m7.new(h:Heap)(its:Array Value):m7 (h.push { cls:=.type "tuple",data:=.seq its }) h.objs.size its:=⟨IsTup.new _ _,_,zY _ rfl,rfl⟩
section
variable (P:Program) (w:World)
noncomputable def e9(H:Hp)(h:Heap)(a:Addr):HO->Prop
 | .lst xs=>xs.length<=sizeLine/\∃ (its:List Value) (n:Nat),aF xs its/\h.get? a=some { cls:=.type "list",data:=.seq its.toArray n }
 | .tup xs=>xs.length<=sizeLine/\∃its:List Value,aF xs its/\m7 h a its.toArray
 | .dK kvs=>kvs.length<=sizeLine/\(a == sysModules)=false/\∃vs,KV kvs vs/\h.DictOf (A8 P w) a vs
 | .dT kvs=>kvs.length<=sizeLine/\(a == sysModules)=false/\∃xs:List (List yq×Addr×Value),
   Paired (fun (p:List yq×V) (q:List yq×Addr×Value)=>p.1=q.1/\H q.2.1=some (.tup (p.1.map kV))/\RelV p.2 q.2.2) kvs xs /\
   ∃o es ep,h.get? a=some o/\o.ExactDict/\o.data=.dict es ep/\es.toList=xs.map (entryOfKey (tupleKind (A8 P w)))/\(xs.map (·.1)).Nodup
 | .set S n=>h.SetOf (intKind P w) a S n
 | .ins C dx fs=>H dx=some (.own a)/\fs.length<=1000/\dx≠a/\h.get? a=some (W.instObj C dx) /\
   ∃mA,h.Ns1 dx mA/\(∀f,MO (fs.lookup f) (mA f))/\PySem.Within mA (fs.map (·.1))
 | .own _=>∃o,h.get? a=some o
 | .xd fs=>∃mA,h.Ns1 a mA/\∀f,MO (fs.lookup f) (mA f)
 | .rng lo hi=>∃t u v,h.get? a=some { cls:=.type "range",data:=.fields #[.int lo t,.int hi u,.int 1 v] }
 | .frz o u=>h.get? a=some o/\e9 H h a u
 | .tab q=>∃ps:Array Value,h.get? a=some { cls:=.none,data:=.fields ps }/\TriplesOk ps.toList/\∀pos v,codeAmong pos ps.toList=some v->∃c,v=.ref c/\H c=some (.cod q)
 | .cod q=>h.CodeRec (.ref a) q
 | .met f x=>h.get? a=some (W.methodObj (.ref f) (.ref x))
 | .ext φ=>φ h/\(∃o,h.get? a=some o)/\∀h1 h2:Heap,φ h1->(∀o,h1.get? a=some o->h2.get? a=some o)->φ h2
def pe(H:Hp)(h:Heap):Prop:=∀a o,H a=some o->e9 P w H h a o
end
section
variable {P:Program}{w:World}{H H':Hp}{h h':Heap}{a:Addr}{o:HO}
theorem e9.lt(x:e9 P w H h a o):a < h.objs.size:=by
 cases o with
 | lst xs=>obtain⟨_,_,_,_,e⟩:=x;exact zZ e
 | tup xs=>obtain⟨_,_,_,p⟩:=x;exact p.1.lt
 | dK kvs=>obtain⟨_,_,_,_,o,_,_,e,_⟩:=x;exact zZ e
 | dT kvs=>obtain⟨_,_,_,_,o,_,_,e,_⟩:=x;exact zZ e
 | set S n=>obtain⟨o,_,_,_,e,_⟩:=x;exact zZ e
 | ins C dx fs=>obtain⟨_,_,_,e,_⟩:=x;exact zZ e
 | own y=>obtain⟨_,e⟩:=x;exact zZ e
 | xd fs=>obtain⟨_,⟨_,_,_,e,_⟩,_⟩:=x;exact zZ e
 | rng lo hi=>obtain⟨_,_,_,e⟩:=x;exact zZ e
 | frz ob u=>obtain⟨e,_⟩:=x;exact zZ e
 | tab q=>obtain⟨_,e,_⟩:=x;exact zZ e
 | cod q=>obtain⟨_,_,_,_,e0,e,_⟩:=x;cases e0;exact zZ e
 | met f y=>exact zZ (show h.get? a=some _ from x)
 | ext φ=>obtain⟨_,⟨_,e⟩,_⟩:=x;exact zZ e
theorem Paired.mapP{α β:Type}{F G:α->β->Prop}:∀ {l₁:List α}{l₂:List β},Paired F l₁ l₂->(∀a b,F a b->G a b)->Paired G l₁ l₂
 | _,_,.nil,_=>.nil
 | _,_,.cons r t,f=>.cons (f _ _ r) (Paired.mapP t f)
noncomputable def OQ:HO->Prop
 | .tup _=>True
 | .cod _=>True
 | _=>False
theorem e9.stay(x:e9 P w H h a o)(k:∀b u,(b=a\/H b=some (.own a))->h.get? b=some u->h'.get? b=some u)
  (ho:∀b,H b=some (.own a)->H' b=some (.own a)) (ht:∀b u,H b=some u->OQ u->H' b=some u):e9 P w H' h' a o:=by
 induction o with
 | lst xs=>obtain⟨z,its,n,r,e⟩:=x;exact⟨z,its,n,r,k _ _ (.inl rfl) e⟩
 | tup xs=>obtain⟨z,its,r,⟨ob,e,c⟩,o2,e2,d2⟩:=x;exact⟨z,its,r,⟨ob,k _ _ (.inl rfl) e,c⟩,o2,k _ _ (.inl rfl) e2,d2⟩
 | dK kvs=>obtain⟨z,y,vs,r,ob,es,ep,e,c⟩:=x;exact⟨z,y,vs,r,ob,es,ep,k _ _ (.inl rfl) e,c⟩
 | dT kvs =>
  obtain⟨z,y,xs,r,ob,es,ep,e,c⟩:=x
  exact⟨z,y,xs,Paired.mapP r fun p q z=>⟨z.1,ht _ _ z.2.1 trivial,z.2.2⟩,ob,es,ep,k _ _ (.inl rfl) e,c⟩
 | set S n=>obtain⟨ob,es,ep,t,e,c⟩:=x;exact⟨ob,es,ep,t,k _ _ (.inl rfl) e,c⟩
 | ins C dx fs =>
  obtain⟨d,z,ne,e,mA,⟨od,es,ep,e2,c⟩,r⟩:=x
  exact⟨ho _ d,z,ne,k _ _ (.inl rfl) e,mA,⟨od,es,ep,k _ _ (.inr d) e2,c⟩,r⟩
 | own y=>obtain⟨ob,e⟩:=x;exact⟨ob,k _ _ (.inl rfl) e⟩
 | xd fs=>obtain⟨mA,⟨od,es,ep,e,c⟩,r⟩:=x;exact⟨mA,⟨od,es,ep,k _ _ (.inl rfl) e,c⟩,r⟩
 | rng lo hi=>obtain⟨t,u,v,e⟩:=x;exact⟨t,u,v,k _ _ (.inl rfl) e⟩
 | frz ob u ih=>obtain⟨e,q⟩:=x;exact⟨k _ _ (.inl rfl) e,ih q⟩
 | tab q=>obtain⟨ps,e,t,c⟩:=x;exact⟨ps,k a _ (.inl rfl) e,t,fun pos v z=>let ⟨c0,z1,z2⟩:=c pos v z;⟨c0,z1,ht _ _ z2 trivial⟩⟩
 | cod q=>obtain⟨c,oc,vs,t,e0,e,r⟩:=x;cases e0;exact⟨_,oc,vs,t,rfl,k _ _ (.inl rfl) e,r⟩
 | met f y =>
  have e:h.get? a=some (W.methodObj (.ref f) (.ref y)):=x
  show h'.get? a=some (W.methodObj (.ref f) (.ref y))
  exact k a _ (.inl rfl) e
 | ext φ=>obtain⟨p,⟨o,e⟩,st⟩:=x;exact⟨st _ _ p fun o q=>k _ _ (.inl rfl) q,⟨o,k _ _ (.inl rfl) e⟩,st⟩
theorem pe.lt(x:pe P w H h)(e:H a=some o):a < h.objs.size:=(x a o e).lt
theorem pe.fresh(x:pe P w H h)(e:h.objs.size<=a):H a=none:=by
 cases q:H a with
 | none=>rfl
 | some u=>exact absurd (zP (x.lt q) e) (Nat.lt_irrefl _)
theorem pe.kept(x:pe P w H h)(k:∀b u,h.get? b=some u->h'.get? b=some u):pe P w H h':=fun a o e =>
 (x a o e).stay (fun b u _ q=>k b u q) (fun _ q=>q) fun _ _ q _=>q
theorem pe.laid(x:pe P w H h)(k:∀b u,h.get? b=some u->h'.get? b=some u)(hp:h.objs.size<=a)(new:e9 P w (upd H a o) h' a o):pe P w (upd H a o) h':=fun b u e=>by
 have hn:=x.fresh hp
 by_cases hb:b=a
 ·subst hb;rw[aL] at e;cases e;exact new
 ·rw[aE hb] at e
  exact (x b u e).stay (fun c v _ q=>k c v q) (fun c q=>by rw[aE (aQ q hn)];exact q) fun c xs q _=>by rw[aE (aQ q hn)];exact q
end
def Rd(H:Hp)(a:Addr)(u:HO):Prop:=H a=some u\/∃o,H a=some (.frz o u)
theorem Rd.ok{P:Program}{w:World}{H:Hp}{h:Heap}{a:Addr}{u:HO}(r:Rd H a u)(x:pe P w H h):e9 P w H h a u:=by
 rcases r with r|⟨o,r⟩
 ·exact x a u r
 ·obtain⟨_,q⟩:=x a _ r
  exact q
noncomputable def Mr:Option HO->Prop
 | some (.lst _)=>True
 | some (.dK _)=>True
 | some (.dT _)=>True
 | some (.set _ _)=>True
 | some (.ins _ _ _)=>True
 | some (.ext _)=>True
 | _=>False
section
variable {P:Program}{w:World}{H:Hp}{h h':Heap}{x e:Addr}{o':HO}
theorem pe.write(ok:pe P w H h)(mu:Mr (H x))(he:e=x\/H e=some (.own x))(k:∀b u,b≠e->h.get? b=some u->h'.get? b=some u)(heo:∃u,h'.get? e=some u)
  (new:e9 P w (upd H x o') h' x o'):pe P w (upd H x o') h':=fun b u q=>by
 have nown:∀c y,H c=some (.own y)->c≠x:=fun c y r z=>by subst z;rw[r] at mu;exact mu
 have ntup:∀c u,H c=some u->OQ u->c≠x:=fun c u r hr z=>by subst z;rw[r] at mu;cases u<;>first|exact mu|exact hr
 by_cases hb:b=x
 ·subst hb;rw[aL] at q;cases q;exact new
 ·rw[aE hb] at q
  by_cases hbe:b=e
  ·have q':H b=some (.own x):=by
    rcases he with z|z
    ·exact absurd (hbe.trans z) hb
    ·rw[hbe];exact z
   rw[q] at q';cases q'
   obtain⟨v,hv⟩:=heo
   exact⟨v,by rw[hbe];exact hv⟩
  ·refine (ok b u q).stay (fun c v hc r=>k c v ?_ r) (fun c r=>by rw[aE (nown c b r)];exact r) fun c xs r hr=>by rw[aE (ntup c xs r hr)];exact r
   rcases hc with rfl|hc
   ·exact hbe
   ·rintro rfl
    rcases he with z|z
    ·exact nown c b hc z
    ·rw[hc] at z;cases z;exact hb rfl
end
noncomputable def NM:HO->Prop
 | .tab _=>True
 | .cod _=>True
 | _=>False
theorem NM.not_mut{u:HO}(h:NM u):¬ Mr (some u):=by cases u<;>first|exact fun z=>z|exact h.elim
structure JI(H H':Hp)(h h':Heap):Prop where
 st:∀b u,H b=some u->NM u->H' b=some u
 gr:∀b q ps,H b=some (.tab q)->h.get? b=some { cls:=.none,data:=.fields ps }->∃more:Array Value,h'.get? b=some { cls:=.none,data:=.fields (ps++more) }
theorem JI.kept{H H':Hp}{h h':Heap}(k:∀b u,(∃q,H b=some (.tab q))->h.get? b=some u->h'.get? b=some u)(st:∀b u,H b=some u->NM u->H' b=some u):JI H H' h h' :=
 ⟨st,fun b q ps e z=>⟨#[],by rw[Array.append_empty];exact k b _ ⟨q,e⟩ z⟩⟩
theorem JI.trans{H H1 H2:Hp}{h h1 h2:Heap}(a:JI H H1 h h1)(b:JI H1 H2 h1 h2):JI H H2 h h2 :=
 ⟨fun c u q t=>b.st c u (a.st c u q t) t,fun c q ps e z=>by
  obtain⟨m1,z1⟩:=a.gr c q ps e z
  obtain⟨m2,z2⟩:=b.gr c q _ (a.st c _ e trivial) z1
  exact⟨m1++m2,by rw[z2,Array.append_assoc]⟩⟩
structure Un(fs ex:List Addr)(H H':Hp)(h h':Heap):Prop where
 keep:∀b o,h.get? b=some o->H b=none->b∉fs->b∉ex->h'.get? b=some o
 slot:∀b o,h.get? b=some o->H b=none->b∈fs->b∉ex->∃sl,h'.get? b=some { o with slots:=sl }
 free:∀b o,h.get? b=some o->H b=none->b∉ex->H' b=none
 there:∀b o,h.get? b=some o->b∉ex->∃o',h'.get? b=some o'
 tups:∀b xs,H b=some (.tup xs)->H' b=some (.tup xs)
 frzs:∀b o u,H b=some (.frz o u)->H' b=some (.frz o u)
 tbls:JI H H' h h'
section
variable {fs fs' ex ex':List Addr}{H H1 H2:Hp}{h h1 h2 h':Heap}{a x e:Addr}{o:HO}
theorem Un.any(u:Un fs ex H H1 h h1){b:Addr}{ob:Obj}(q:h.get? b=some ob)(n:H b=none)(hx:b∉ex):∃sl,h1.get? b=some { ob with slots:=sl }:=by
 by_cases hb:b∈fs
 ·exact u.slot b ob q n hb hx
 ·exact⟨ob.slots,u.keep b ob q n hb hx⟩
theorem Un.kept(k:∀b u,h.get? b=some u->h'.get? b=some u):Un fs ex H H h h' :=
 ⟨fun b ob q _ _ _=>k b ob q,fun b ob q _ _ _=>⟨ob.slots,k b ob q⟩,fun _ _ _ n _=>n,fun b ob q _=>⟨ob,k b ob q⟩,fun _ _ q=>q,fun _ _ _ q=>q,.kept (fun b u _ e=>k b u e) fun _ _ e _=>e⟩
theorem Un.refl:Un fs ex H H h h:=Un.kept fun _ _ q=>q
theorem Un.laid(k:∀b u,h.get? b=some u->h'.get? b=some u)(hp:h.objs.size<=a)(hn:H a=none):Un fs ex H (upd H a o) h h' where
 keep:=fun b u q _ _ _=>k b u q
 slot:=fun b u q _ _ _=>⟨u.slots,k b u q⟩
 free:=fun b u q n _=>by rw[aE (Nat.ne_of_lt (zP (zZ q) hp))];exact n
 there:=fun b u q _=>⟨u,k b u q⟩
 tups:=fun b xs q=>by rw[aE (aQ q hn)];exact q
 frzs:=fun b u xs q=>by rw[aE (aQ q hn)];exact q
 tbls:=.kept (fun b u _ e=>k b u e) fun b u q _=>by rw[aE (aQ q hn)];exact q
theorem Un.write(mu:Mr (H x))(he:e=x\/H e=some (.own x))(k:∀b u,b≠e->h.get? b=some u->h'.get? b=some u)(heo:∃u,h'.get? e=some u):Un fs ex H (upd H x o) h h':=by
 have hx:∀b,H b=none->b≠x:=fun b n z=>by subst z;rw[n] at mu;exact mu
 have hb:∀b,H b=none->b≠e:=fun b n z=>by
  subst z
  rcases he with r|r
  ·exact hx b n r
  ·rw[n] at r;cases r
 have hm:∀b u,H b=some u->¬ Mr (some u)->b≠x:=fun b u q nm z=>by subst z;rw[q] at mu;exact nm mu
 refine⟨fun b u q n _ _=>k b u (hb b n) q,fun b u q n _ _=>⟨u.slots,k b u (hb b n) q⟩,fun b u q n _=>by rw[aE (hx b n)];exact n,fun b u q _=>?_,
  fun b xs q=>by rw[aE (hm b _ q fun z=>z)];exact q,fun b u xs q=>by rw[aE (hm b _ q fun z=>z)];exact q,.kept (fun b u z e=>k b u (fun r=>by subst r;rcases he with r|r<;>first|(subst r;rcases z with ⟨q,z⟩;rw[z] at mu;exact mu)|(rcases z with ⟨q,z⟩;rw[z] at r;cases r)) e) fun b u q nm=>by rw[aE (hm b _ q (nm.not_mut))];exact q⟩
 by_cases hbe:b=e
 ·subst hbe;exact heo
 ·exact⟨u,k b u hbe q⟩
end
noncomputable def NC(h:Heap)(H:Hp):List Addr:=(List.range h.objs.size).filter fun a=>(H a).isSome
noncomputable def ub(h:Heap)(H:Hp):Heap:=W.hideAll h (NC h H)
theorem Cs(h:Heap)(H:Hp):(ub h H).objs.size=h.objs.size:=W.hideAll_size _ _
theorem EW{h:Heap}{H:Hp}{b:Addr}{o:Obj}(e:h.get? b=some o)(n:H b=none):(ub h H).get? b=some o :=
 W.hideAll_get _ e fun hm=>by
  have q:(H b).isSome=true:=(List.mem_filter.mp hm).2
  rw[n] at q;simp at q
theorem HZ{h:Heap}{H:Hp}{b:Addr}{o:Obj}(e:(ub h H).get? b=some o):h.get? b=some o/\H b=none:=by
 have e':h.get? b=some o:=W.of_hideAll (NC h H) e
 refine⟨e',?_⟩
 cases q:H b with
 | none=>rfl
 | some x =>
  have hm:b∈NC h H:=List.mem_filter.mpr ⟨zT.mpr (zZ e'),by simp[q]⟩
  have z:(ub h H).get? b=none:=W.hideAll_none (NC h H) hm
  rw[z] at e;cases e
def NL(mg:Str->Option Value)(base:Heap):Prop:=∃bm o,mg "__builtins__"=some (.ref bm)/\bm≠builtinsNs/\bm≠mainGlobals/\base.get? bm=some o/\o.cls=.type "module"/\o.dict=some builtinsNs/\o.data=.plain
structure Mod(K:W.Frag)(mg:Str->Option Value)(base:Heap):Prop where
 kin:K.In base
 glob:base.Ns mainGlobals mg
 blt:∃mb,base.Ns builtinsNs mb/\∀x:Str,x≠"__name__"->mb x=bootBuiltins x
 nolimit:base.NoLimit
 bmd:NL mg base
structure Cx where
 prog:Program
 w:World
 K:W.Frag
 mg:Str->Option Value
 base:Heap
 A:Around
 N:List Str
 s₀:Shared
 H₀:Hp
 env:Env
 outer:List Env
 stack:List Env
 ex:List Addr
 fn:Str->Bool
 calm:Bool
 pn:List (Addr×Obj)
 xe:Value->Shared->Prop
noncomputable def Fs(l:List Env):List Addr:=l.filterMap (·.frame)
noncomputable abbrev Cx.fs(X:Cx):List Addr:=Fs X.outer
def GT(sc:Scope)(x:Str):Prop:=sc.names.lookup x=some .local \/ sc.names.lookup x=some .cell\/sc.names.lookup x=some .free
def Loc(sc:Scope)(x:Str):Prop:=sc.names.lookup x=some .local \/ sc.names.lookup x=some .cell
noncomputable def Look(env:Env)(h:Heap)(m:Str->Option Value)(x:Str)(u:Value):Prop :=
 (env.kindOf x=some .local /\ m x=some u)\/((env.kindOf x=some .cell\/env.kindOf x=some .free)/\∃c,env.cells.lookup x=some c/\h.IsCell c (some u))
structure Cx.Ok(X:Cx):Prop where
 mod:Mod X.K X.mg X.base
 kind:X.env.scope.kind=.function
 glob:X.env.globals=mainGlobals
 blt:X.env.builtins=builtinsNs
 above:X.s₀.heap.objs.size<=X.env.locals
 inj:∀x y c,X.env.cells.lookup x=some c->X.env.cells.lookup y=some c->x=y
 has:∀x,(X.env.kindOf x=some .cell\/X.env.kindOf x=some .free)->∃c,X.env.cells.lookup x=some c
 cab:∀x c,X.fn x=true->X.env.cells.lookup x=some c->X.s₀.heap.objs.size<=c
 hd:X.calm=true->X.A.handled=none
 frames:X.A.frames=some X.stack
 stk:X.stack=X.outer\/(X.stack=X.env::X.outer/\X.env.frame=some X.env.locals)
 exf:∀b∈X.ex,b≠X.env.locals/\∀x c,X.env.cells.lookup x=some c->c≠b
 bs:∀b o,X.base.get? b=some o->X.s₀.heap.get? b=some o/\X.H₀ b=none
 bsz:X.base.objs.size<=X.s₀.heap.objs.size
 noex:∀b o,X.base.get? b=some o->b∉X.ex
 exfs:∀b∈X.ex,b∉X.fs
 funs:X.s₀.heap.FunFrames X.base X.outer
 frf:∀b∈X.fs,X.H₀ b=none
structure Inv(X:Cx)(pins:List (Addr×Obj))(σ:List (Option V))(H:Hp)(s:Shared):Prop where
 ok:X.Ok
 os:s.os=X.s₀.os
 bare:AllBare s.gens
 base:Un X.fs X.ex X.H₀ H X.s₀.heap s.heap
 loc:∃m,s.heap.Ns X.env.locals m/\∀ (i:Nat) (x:Str) (v:V),X.N[i]?=some x->σ[i]?=some (some v)->GT X.env.scope x->∃u,RelV v u/\Look X.env s.heap m x u
 cell:∀x c,X.env.cells.lookup x=some c->∃v,s.heap.IsCell c v
 free:H X.env.locals=none
 freeC:∀x c,X.env.cells.lookup x=some c->H c=none
 pin:∀p∈X.pn++pins,s.heap.get? p.1=some p.2/\H p.1=none/\p.1≠X.env.locals/\p.1∉X.fs/\∀v,p.2.data≠.cell v
 hok:pe X.prog X.w H s.heap
 len:σ.length=X.N.length
section
variable {X:Cx}{pins:List (Addr×Obj)}{σ:List (Option V)}{H H':Hp}{s:Shared}{h':Heap}
theorem Cx.Ok.nofr(ok:X.Ok){b:Addr}{o:Obj}(e:X.base.get? b=some o):b∉X.fs:=fun hb=>by
 have:=(ok.funs.mem hb).1
 rw[e] at this;cases this
theorem Inv.bs(I:Inv X pins σ H s):∀b o,X.base.get? b=some o->s.heap.get? b=some o/\H b=none:=fun b o e =>
 ⟨I.base.keep b o (I.ok.bs b o e).1 (I.ok.bs b o e).2 (I.ok.nofr e) (I.ok.noex b o e),I.base.free b o (I.ok.bs b o e).1 (I.ok.bs b o e).2 (I.ok.noex b o e)⟩
theorem Inv.bk(I:Inv X pins σ H s):∀b o,X.base.get? b=some o->s.heap.get? b=some o:=fun b o e=>(I.bs b o e).1
theorem Inv.mod(I:Inv X pins σ H s):Mod X.K X.mg X.base:=I.ok.mod
theorem Inv.kIn(I:Inv X pins σ H s):X.K.In s.heap:=I.ok.mod.kin.keeps I.bk
theorem Inv.nolimit(I:Inv X pins σ H s):s.heap.NoLimit:=I.ok.mod.nolimit.keeps I.bk
theorem Inv.fr(I:Inv X pins σ H s):∃m,Fr X.base X.env.locals s.heap m :=
 let ⟨m,hn,_⟩:=I.loc
 ⟨m,hn,I.bk,yE I.ok.bsz I.ok.above⟩
theorem Inv.lt(I:Inv X pins σ H s):X.env.locals < s.heap.objs.size:=let ⟨_,hn,_⟩:=I.loc;hn.lt
theorem Inv.sz(I:Inv X pins σ H s):X.s₀.heap.objs.size<=s.heap.objs.size:=yE I.ok.above (Nat.le_of_lt I.lt)
theorem Inv.nofs(I:Inv X pins σ H s){a:Addr}(h:s.heap.objs.size<=a):a∉X.fs:=fun hb=>by
 obtain⟨_,o,ho,_⟩:=I.ok.funs.mem hb
 exact absurd (zP (zZ ho) (yE I.sz h)) (Nat.lt_irrefl _)
theorem Inv.cne(I:Inv X pins σ H s):∀x c,X.env.cells.lookup x=some c->c≠X.env.locals:=fun x c e z=>by
 obtain⟨v,o,ho,hd⟩:=I.cell x c e
 obtain⟨m,⟨o',es,ep,ho',hd',_⟩,_⟩:=I.loc
 rw[z,ho'] at ho;cases ho;rw[hd'] at hd;cases hd
theorem Inv.funs(I:Inv X pins σ H s):s.heap.FunFrames X.base X.outer:=by
 have all:∀ (l:List Env),(∀b∈Fs l,b∈X.fs)->X.s₀.heap.FunFrames X.base l->s.heap.FunFrames X.base l:=by
  intro l
  induction l with
  | nil=>intro _ _;trivial
  | cons env r ih =>
   intro hs hl
   obtain⟨hk,⟨L,o,hf,hn,ho,hd⟩,hr⟩:=hl
   have hL:L∈X.fs:=hs L (by unfold Fs;rw[List.filterMap_cons,hf];exact zE)
   obtain⟨sl,e⟩:=I.base.slot L o ho (I.ok.frf L hL) hL fun z=>I.ok.exfs L z hL
   exact⟨hk,⟨L,_,hf,hn,e,hd⟩,ih (fun b hb=>hs b (by unfold Fs;rw[List.filterMap_cons,hf];exact zC _ hb)) hr⟩
 exact all X.outer (fun _ hb=>hb) I.ok.funs
theorem Inv.stack(I:Inv X pins σ H s):s.heap.FunFrames X.base X.stack:=by
 rcases I.ok.stk with e|⟨e,hf⟩
 ·rw[e];exact I.funs
 ·rw[e]
  obtain⟨m,hn,_⟩:=I.loc
  refine .cons (by rw[I.ok.kind];decide) hf hn ?_ I.funs
  exact Heap.get?_none_of_le (yE I.ok.bsz I.ok.above)
theorem Inv.stkSub(I:Inv X pins σ H s):∀b∈Fs X.stack,b∈X.env.locals::X.fs:=fun b hb=>by
 rcases I.ok.stk with e|⟨e,hf⟩
 ·rw[e] at hb;exact zC _ hb
 ·rw[e] at hb
  unfold Fs at hb
  rw[List.filterMap_cons,hf] at hb
  exact hb
theorem Inv.stkFree(I:Inv X pins σ H s):∀b∈Fs X.stack,H b=none:=fun b hb=>by
 rcases zR.mp (I.stkSub b hb) with e|hb
 ·rw[e];exact I.free
 ·obtain⟨_,o,ho,_⟩:=I.ok.funs.mem hb
  exact I.base.free b o ho (I.ok.frf b hb) fun z=>I.ok.exfs b z hb
theorem Inv.step{g':Array GenState}{t':Nat}{d':Drawn}{ch:List Addr}(I:Inv X pins σ H s)
  (hch:∀b∈ch,(b∈X.ex\/X.s₀.heap.objs.size<=b)/\b≠X.env.locals/\(∀x c,X.env.cells.lookup x=some c->c≠b)/\∀p∈X.pn++pins,p.1≠b)
  (keep:∀b o,b≠X.env.locals->b∉X.fs->b∉ch->s.heap.get? b=some o->H b=none->h'.get? b=some o)
  (slot:∀b o,b≠X.env.locals->b∈X.fs->b∉ch->s.heap.get? b=some o->H b=none->∃sl,h'.get? b=some { o with slots:=sl }) (free:∀b o,b∉ch->s.heap.get? b=some o->H b=none->H' b=none)
  (there:∀b o,b∉ch->s.heap.get? b=some o->∃o',h'.get? b=some o')
  (tups:∀b xs,H b=some (.tup xs)->H' b=some (.tup xs)) (frzs:∀b o u,H b=some (.frz o u)->H' b=some (.frz o u)) (tbls:JI H H' s.heap h')
  (ns:∀m,s.heap.Ns X.env.locals m->h'.Ns X.env.locals m) (hok:pe X.prog X.w H' h') (hg:AllBare g') :
  Inv X pins σ H' { s with heap:=h',gens:=g',drawn:=d',toks:=t' }:=by
 have neL:∀b o,X.s₀.heap.get? b=some o->b≠X.env.locals:=fun b o e=>Nat.ne_of_lt (zP (zZ e) I.ok.above)
 have neC:∀b o,X.s₀.heap.get? b=some o->b∉X.ex->b∉ch:=fun b o e hx hb=>by
  rcases (hch b hb).1 with z|z
  ·exact hx z
  ·exact absurd (zP (zZ e) z) (Nat.lt_irrefl _)
 have cellK:∀x c,X.env.cells.lookup x=some c->∀v,s.heap.IsCell c v->h'.IsCell c v:=fun x c e v ⟨o,ho,hd⟩=>by
  have nch:c∉ch:=fun z=>(hch c z).2.2.1 x c e rfl
  by_cases hc:c∈X.fs
  ·obtain⟨sl,q⟩:=slot c o (I.cne x c e) hc nch ho (I.freeC x c e)
   exact⟨_,q,hd⟩
  ·exact⟨o,keep c o (I.cne x c e) hc nch ho (I.freeC x c e),hd⟩
 refine⟨I.ok,I.os,hg,⟨fun b o e n hb hx=>?_,fun b o e n hb hx=>?_,fun b o e n hx=>?_,fun b o e hx=>?_,fun b xs e=>tups b xs (I.base.tups b xs e),fun b o xs e=>frzs b o xs (I.base.frzs b o xs e),I.base.tbls.trans tbls⟩,?_,fun x c e=>?_,?_,fun x c e=>?_,fun p hp=>?_,hok,I.len⟩
 ·exact keep b o (neL b o e) hb (neC b o e hx) (I.base.keep b o e n hb hx) (I.base.free b o e n hx)
 ·obtain⟨sl,e1⟩:=I.base.slot b o e n hb hx
  obtain⟨sl',e2⟩:=slot b _ (neL b o e) hb (neC b o e hx) e1 (I.base.free b o e n hx)
  exact⟨sl',e2⟩
 ·obtain⟨o',e1⟩:=I.base.there b o e hx
  exact free b o' (neC b o e hx) e1 (I.base.free b o e n hx)
 ·obtain⟨o',e1⟩:=I.base.there b o e hx
  exact there b o' (neC b o e hx) e1
 ·obtain⟨m,hn,hl⟩:=I.loc
  refine⟨m,ns m hn,fun i x v e1 e2 e3=>?_⟩
  obtain⟨u,r,l⟩:=hl i x v e1 e2 e3
  refine⟨u,r,?_⟩
  rcases l with l|⟨k,c,e,z⟩
  ·exact .inl l
  ·exact .inr ⟨k,c,e,cellK x c e _ z⟩
 ·obtain⟨v,z⟩:=I.cell x c e
  exact⟨v,cellK x c e v z⟩
 ·obtain⟨m,⟨o,_,_,ho,_⟩,_⟩:=I.loc
  exact free _ o (fun z=>(hch _ z).2.1 rfl) ho I.free
 ·obtain⟨v,o,ho,hd⟩:=I.cell x c e
  exact free c o (fun z=>(hch c z).2.2.1 x c e rfl) ho (I.freeC x c e)
 ·obtain⟨e,n,ne,nf,d⟩:=I.pin p hp
  have nch:p.1∉ch:=fun z=>(hch p.1 z).2.2.2 p hp rfl
  exact⟨keep p.1 p.2 ne nf nch e n,free p.1 p.2 nch e n,ne,nf,d⟩
theorem Inv.un{t':Nat}(I:Inv X pins σ H s)(u:Un X.fs [] H H' s.heap h')(hok:pe X.prog X.w H' h'):Inv X pins σ H' { s with heap:=h',toks:=t' }:=by
 obtain⟨m,⟨o,es,ep,ho,r⟩,_⟩:=id I.loc
 obtain⟨sl,hL⟩:=u.any ho I.free (by simp)
 exact I.step (g':=s.gens) (d':=s.drawn) (ch:=[]) (fun _ z=>nomatch z) (fun b o _ hb _ e n=>u.keep b o e n hb (by simp)) (fun b o _ hb _ e n=>u.slot b o e n hb (by simp)) (fun b o _ e n=>u.free b o e n (by simp)) (fun b o _ e=>u.there b o e (by simp)) u.tups u.frzs u.tbls (fun m' hm=>by
  obtain⟨o',es',ep',ho',r'⟩:=hm
  rw[ho] at ho';cases ho'
  exact⟨_,es',ep',hL,r'⟩) hok I.bare
theorem Inv.call{g':Array GenState}{t':Nat}{d':Drawn}{ch:List Addr}(I:Inv X pins σ H s)(u:Un (Fs X.stack) ch H H' s.heap h')(hok:pe X.prog X.w H' h')(hg:AllBare g')
  (hch:∀b∈ch,(b∈X.ex\/X.s₀.heap.objs.size<=b)/\b≠X.env.locals/\(∀x c,X.env.cells.lookup x=some c->c≠b)/\∀p∈X.pn++pins,p.1≠b) :
  Inv X pins σ H' { s with heap:=h',gens:=g',drawn:=d',toks:=t' }:=by
 obtain⟨m,⟨o,es,ep,ho,r⟩,_⟩:=id I.loc
 obtain⟨sl,hL⟩:=u.any ho I.free fun z=>(hch _ z).2.1 rfl
 exact I.step (ch:=ch) hch (fun b o hL hb hc e n=>u.keep b o e n (fun z=>(zR.mp (I.stkSub b z)).elim hL hb) hc) (fun b o _ _ hc e n=>u.any e n hc) (fun b o hc e n=>u.free b o e n hc) (fun b o hc e=>u.there b o e hc) u.tups u.frzs u.tbls (fun m' hm=>by
  obtain⟨o',es',ep',ho',r'⟩:=hm
  rw[ho] at ho';cases ho'
  exact⟨_,es',ep',hL,r'⟩) hok hg
theorem Inv.turned{t':Nat}{it:Addr}(I:Inv X pins σ H s)(k:∀b o,b≠it->s.heap.get? b=some o->h'.get? b=some o)(hn:H it=none)(hL:it≠X.env.locals)
  (h1:it∈X.ex\/X.s₀.heap.objs.size<=it) (h2:∀x c,X.env.cells.lookup x=some c->c≠it) (h3:∀p∈X.pn++pins,p.1≠it):Inv X pins σ H { s with heap:=h',toks:=t' }:=by
 have nit:∀b u,H b=some u->b≠it:=fun b u e z=>by rw[z,hn] at e;cases e
 refine I.step (g':=s.gens) (d':=s.drawn) (ch:=[it]) (fun b hb=>?_) (fun b o _ _ hc e _=>k b o (fun z=>hc (by simp[z])) e) (fun b o _ _ hc e _=>⟨o.slots,k b o (fun z=>hc (by simp[z])) e⟩) (fun _ _ _ _ n=>n)
  (fun b o hc e=>⟨o,k b o (fun z=>hc (by simp[z])) e⟩) (fun _ _ e=>e) (fun _ _ _ e=>e) (.kept (fun b u z e=>k b u (fun r=>by subst r;rcases z with ⟨q,z⟩;rw[hn] at z;cases z) e) fun _ _ e _=>e) (fun m hm=>?_) (fun b u e=>?_) I.bare
 ·have e:b=it:=by simpa using hb
  subst e
  exact⟨h1,hL,h2,h3⟩
 ·obtain⟨o,es,ep,ho,r⟩:=hm
  exact⟨o,es,ep,k _ o (Ne.symm hL) ho,r⟩
 ·refine (I.hok b u e).stay (fun c v hc q=>k c v ?_ q) (fun _ q=>q) fun _ _ q _=>q
  rcases hc with z|z
  ·rw[z];exact nit b u e
  ·exact nit c _ z
theorem Inv.tok(I:Inv X pins σ H s)(t:Nat):Inv X pins σ H { s with toks:=t }:=I.un (h':=s.heap) (t':=t) Un.refl I.hok
theorem Inv.kept{t':Nat}(I:Inv X pins σ H s)(k:∀b u,s.heap.get? b=some u->h'.get? b=some u):Inv X pins σ H { s with heap:=h',toks:=t' }:=I.un (Un.kept k) (I.hok.kept k)
theorem Inv.laid{a:Addr}{o:HO}{t':Nat}(I:Inv X pins σ H s)(k:∀b u,s.heap.get? b=some u->h'.get? b=some u)(hp:s.heap.objs.size<=a)(new:e9 X.prog X.w (upd H a o) h' a o) :
  Inv X pins σ (upd H a o) { s with heap:=h',toks:=t' }:=I.un (Un.laid k hp (I.hok.fresh hp)) (I.hok.laid k hp new)
theorem Inv.write{x e:Addr}{o:HO}{t':Nat}(I:Inv X pins σ H s)(mu:Mr (H x))(he:e=x\/H e=some (.own x))(k:∀b u,b≠e->s.heap.get? b=some u->h'.get? b=some u)(heo:∃u,h'.get? e=some u)
  (new:e9 X.prog X.w (upd H x o) h' x o):Inv X pins σ (upd H x o) { s with heap:=h',toks:=t' }:=I.un (Un.write mu he k heo) (I.hok.write mu he k heo new)
theorem Inv.pins_of{pins':List (Addr×Obj)}(I:Inv X pins σ H s)(h:∀p∈pins',s.heap.get? p.1=some p.2/\H p.1=none/\p.1≠X.env.locals/\p.1∉X.fs/\∀v,p.2.data≠.cell v):Inv X pins' σ H s :=
 ⟨I.ok,I.os,I.bare,I.base,I.loc,I.cell,I.free,I.freeC,fun p hp=>(List.mem_append.mp hp).elim (fun z=>I.pin p (List.mem_append_left _ z)) (h p),I.hok,I.len⟩
theorem xB{N:List Str}(hN:N.Nodup){i j:Nat}{x:Str}(a:N[i]?=some x)(b:N[j]?=some x):i=j:=by
 obtain⟨h1,e1⟩:=zU.mp a
 obtain⟨h2,e2⟩:=zU.mp b
 exact (List.getElem_inj hN).mp (e1.trans e2.symm)
theorem tj{M:Model}{A:Around}{E:Value->Shared->Prop}{i:Nat}{x:Str}{v:V}{u:Value}{Q:Unit->Shared->Prop}(I:Inv X pins σ H s)(hN:X.N.Nodup)(hi:X.N[i]?=some x)(hx:Loc X.env.scope x)(r:RelV v u)
  (h:∀s',Inv X pins (σ.set i (some v)) H s'->(∃a,Heap.SameBut a s.heap s'.heap/\(a=X.env.locals\/X.env.cells.lookup x=some a))->Q () s') (hf:X.fn x=true\/X.env.scope.names.lookup x=some .local:=by first|exact .inl rfl|exact .inr rfl|assumption):wpAny M A (storeName X.env x u) Q E s:=by
 obtain⟨m,hn,hl⟩:=id I.loc
 have hcls:(X.env.scope.kind == .class||(X.env.scope.kind == .module&&X.env.locals != X.env.globals))=false:=by rw[I.ok.kind];rfl
 have hiσ:i < σ.length:=by rw[I.len];exact (zU.mp hi).1
 have cne:=I.cne
 have tracked:∀ {a:Addr}{h':Heap},(∃o,s.heap.get? a=some o/\H a=none)->Heap.SameBut a s.heap h'->pe X.prog X.w H h':=fun {a h'} ha hs b ob e=>by
  obtain⟨_,_,hfree⟩:=ha
  refine (I.hok b ob e).stay (fun c w' hc q=>(hs.2 c ?_).trans q) (fun _ q=>q) fun _ _ q _=>q
  rintro rfl
  rcases hc with rfl|hc
  ·rw[hfree] at e;cases e
  ·rw[hfree] at hc;cases hc
 rcases hx with hk|hk
 ·refine wpAny_storeName_local hk hn (fun h' hn' hs=>?_) hcls
  obtain⟨oL,_,_,hoL,_⟩:=id hn
  refine h _ ⟨I.ok,I.os,I.bare,⟨fun b o e n hb hx=>?_,fun b o e n hb hx=>?_,I.base.free,fun b o e hx=>?_,I.base.tups,I.base.frzs,I.base.tbls.trans (.kept (fun b u z e=>(hs.2 b (fun r=>by rcases z with ⟨q,z⟩;rw[r,I.free] at z;cases z)).trans e) fun _ _ e _=>e)⟩,⟨_,hn',fun j y v' e1 e2 e3=>?_⟩,fun y c e=>?_,I.free,I.freeC,fun p hp=>?_,tracked ⟨oL,hoL,I.free⟩ hs,by simpa using I.len⟩ ⟨_,hs,.inl rfl⟩
  ·exact (hs.2 b (Nat.ne_of_lt (zP (zZ e) I.ok.above))).trans (I.base.keep b o e n hb hx)
  ·obtain⟨sl,e1⟩:=I.base.slot b o e n hb hx
   exact⟨sl,(hs.2 b (Nat.ne_of_lt (zP (zZ e) I.ok.above))).trans e1⟩
  ·obtain⟨o',e1⟩:=I.base.there b o e hx
   exact⟨o',(hs.2 b (Nat.ne_of_lt (zP (zZ e) I.ok.above))).trans e1⟩
  ·by_cases hj:j=i
   ·subst hj
    rw[hi] at e1;cases e1
    rw[List.getElem?_set_self hiσ] at e2
    cases e2
    exact⟨u,r,.inl ⟨hk,by simp⟩⟩
   ·rw[List.getElem?_set_ne (Ne.symm hj)] at e2
    obtain⟨u',r',q⟩:=hl j y v' e1 e2 e3
    refine⟨u',r',?_⟩
    rcases q with ⟨k,e⟩|⟨k,c,e,z⟩
    ·refine .inl ⟨k,?_⟩
     have:y≠x:=fun e=>hj (xB hN e1 (e ▸ hi))
     simp[this,e]
    ·exact .inr ⟨k,c,e,z.sameBut hs (cne y c e)⟩
  ·obtain⟨w',z⟩:=I.cell y c e
   exact⟨w',z.sameBut hs (cne y c e)⟩
  ·obtain⟨e,n,ne,nf,d⟩:=I.pin p hp
   exact⟨(hs.2 p.1 ne).trans e,n,ne,nf,d⟩
 ·have hfn:X.fn x=true:=by
   rcases hf with z|z
   ·exact z
   ·rw[z] at hk;cases hk
  obtain⟨c,hc⟩:=I.ok.has x (.inl hk)
  obtain⟨w',z⟩:=I.cell x c hc
  refine wpAny_storeName_cell I.ok.kind hk hc z (fun h' hc' hs=>?_)
  obtain⟨oc,hoc,hocd⟩:=id z
  refine h { s with heap:=h' } ⟨I.ok,I.os,I.bare,⟨fun b o e n hb hx=>?_,fun b o e n hb hx=>?_,I.base.free,fun b o e hx=>?_,I.base.tups,I.base.frzs,I.base.tbls.trans (.kept (fun b u z e=>(hs.2 b (fun r=>by rcases z with ⟨q,z⟩;rw[r,I.freeC x c hc] at z;cases z)).trans e) fun _ _ e _=>e)⟩,⟨m,hn.sameBut hs (Ne.symm (cne x c hc)),fun j y v' e1 e2 e3=>?_⟩,fun y c' e=>?_,I.free,I.freeC,fun p hp=>?_,tracked ⟨oc,hoc,I.freeC x c hc⟩ hs,by simpa using I.len⟩ ⟨c,hs,.inr hc⟩
  ·exact (hs.2 b (Nat.ne_of_lt (zP (zZ e) (I.ok.cab x c hfn hc)))).trans (I.base.keep b o e n hb hx)
  ·obtain⟨sl,e1⟩:=I.base.slot b o e n hb hx
   exact⟨sl,(hs.2 b (Nat.ne_of_lt (zP (zZ e) (I.ok.cab x c hfn hc)))).trans e1⟩
  ·obtain⟨o',e1⟩:=I.base.there b o e hx
   exact⟨o',(hs.2 b (Nat.ne_of_lt (zP (zZ e) (I.ok.cab x c hfn hc)))).trans e1⟩
  ·by_cases hj:j=i
   ·subst hj
    rw[hi] at e1;cases e1
    rw[List.getElem?_set_self hiσ] at e2
    cases e2
    exact⟨u,r,.inr ⟨.inl hk,c,hc,hc'⟩⟩
   ·rw[List.getElem?_set_ne (Ne.symm hj)] at e2
    obtain⟨u',r',q⟩:=hl j y v' e1 e2 e3
    refine⟨u',r',?_⟩
    rcases q with q|⟨k,c',e,z'⟩
    ·exact .inl q
    ·refine .inr ⟨k,c',e,z'.sameBut hs ?_⟩
     rintro rfl
     exact hj (xB hN e1 (I.ok.inj _ _ _ e hc ▸ hi))
  ·by_cases hcc:c'=c
   ·subst hcc;exact⟨_,hc'⟩
   ·obtain⟨w2,z2⟩:=I.cell y c' e
    exact⟨w2,z2.sameBut hs hcc⟩
  ·obtain⟨e,n,ne,nf,d⟩:=I.pin p hp
   refine⟨(hs.2 p.1 ?_).trans e,n,ne,nf,d⟩
   intro q
   rw[q,hoc] at e
   have q':oc=p.2:=Option.some.inj e
   exact d w' (by rw[<- q'];exact hocd)
theorem wZ{M:Model}{A:Around}{E:Value->Shared->Prop}{i:Nat}{x:Str}{v:V}{u:Value}{Q:Unit->Shared->Prop}(I:Inv X pins σ H s)(hN:X.N.Nodup)(hi:X.N[i]?=some x)(hx:Loc X.env.scope x)(r:RelV v u)
  (h:∀s',Inv X pins (σ.set i (some v)) H s'->Q () s') (hf:X.fn x=true\/X.env.scope.names.lookup x=some .local:=by first|exact .inl rfl|exact .inr rfl|assumption):wpAny M A (storeName X.env x u) Q E s :=
 tj I hN hi hx r (fun s' I' _=>h s' I') hf
theorem Inv.call'{s':Shared}{ch:List Addr}(I:Inv X pins σ H s)(ho:s'.os=s.os)(u:Un (Fs X.stack) ch H H' s.heap s'.heap)(hok:pe X.prog X.w H' s'.heap)(hg:AllBare s'.gens)
  (hch:∀b∈ch,(b∈X.ex\/X.s₀.heap.objs.size<=b)/\b≠X.env.locals/\(∀x c,X.env.cells.lookup x=some c->c≠b)/\∀p∈X.pn++pins,p.1≠b):Inv X pins σ H' s':=by
 obtain⟨h',g',d',t',o'⟩:=s'
 have e:o'=s.os:=ho
 subst e
 exact I.call (g':=g') (t':=t') (d':=d') u hok hg hch
end
noncomputable abbrev XK:=Value->Option Addr->Hp->Prop
noncomputable abbrev St:=List (Option V)
noncomputable abbrev VK:=V->Hp->Prop
noncomputable abbrev TE:=St->Hp->VK->Prop
noncomputable abbrev TT:=St->Hp->(Bool->Hp->Prop)->Prop
noncomputable abbrev TA:=St->Hp->(List V->Hp->Prop)->Prop
structure Ends where
 nx:St->Hp->Prop
 rt:VK
 bk:St->Hp->Prop:=fun _ _=>False
 ct:St->Hp->Prop:=fun _ _=>False
noncomputable abbrev TS:=Ends->St->Hp->Prop
def EP(X:Cx)(pins:List (Addr×Obj))(σ:St)(Q:VK)(u:Value)(s':Shared):Prop:=∃v H',Inv X pins σ H' s'/\RelV v u/\Q v H'
def TP(X:Cx)(pins:List (Addr×Obj))(σ:St)(Q:Bool->Hp->Prop)(b:Bool)(s':Shared):Prop:=∃H',Inv X pins σ H' s'/\Q b H'
def AP(X:Cx)(pins:List (Addr×Obj))(σ:St)(Q:List V->Hp->Prop)(us:List Value)(s':Shared):Prop:=∃vs H',Inv X pins σ H' s'/\aF vs us/\Q vs H'
noncomputable def SP(X:Cx)(pins:List (Addr×Obj))(D:Ends)(f:Flow)(s':Shared):Prop :=
 match f with
 | .next=>∃σ' H',Inv X pins σ' H' s'/\D.nx σ' H'
 | .brk=>∃σ' H',Inv X pins σ' H' s'/\D.bk σ' H'
 | .cont=>∃σ' H',Inv X pins σ' H' s'/\D.ct σ' H'
 | .ret u=>∃v σ' H',Inv X pins σ' H' s'/\RelV v u/\D.rt v H'
noncomputable def PE(X:Cx)(e:Expr)(t:TE):Prop :=
 ∀ (pins:List (Addr×Obj)) (s:Shared) (σ:St) (H:Hp) (Q:VK),Inv X pins σ H s->t σ H Q->wpAny (model X.prog X.w) X.A (eval e X.env) (EP X pins σ Q) X.xe s
noncomputable def PT(X:Cx)(e:Expr)(t:TT):Prop :=
 ∀ (pins:List (Addr×Obj)) (s:Shared) (σ:St) (H:Hp) (Q:Bool->Hp->Prop),Inv X pins σ H s->t σ H Q->wpAny (model X.prog X.w) X.A (isTrue e X.env (eval e X.env)) (TP X pins σ Q) X.xe s
noncomputable def PW(X:Cx)(e:Expr)(t:TT):Prop :=
 ∀ (whole:Sem Value) (pins:List (Addr×Obj)) (s:Shared) (σ:St) (H:Hp) (Q:Bool->Hp->Prop),Inv X pins σ H s->t σ H Q->wpAny (model X.prog X.w) X.A (isTrue e X.env whole) (TP X pins σ Q) X.xe s
theorem PW.pt{X:Cx}{e:Expr}{t:TT}(h:PW X e t):PT X e t:=h _
noncomputable def PA(X:Cx)(es:List Expr)(t:TA):Prop :=
 ∀ (pos:Pos) (pins:List (Addr×Obj)) (s:Shared) (σ:St) (H:Hp) (Q:List V->Hp->Prop),Inv X pins σ H s->t σ H Q->wpAny (model X.prog X.w) X.A (spliced (backTo pos (starEach es X.env))) (AP X pins σ Q) X.xe s
noncomputable def PS(X:Cx)(st:Stmt)(t:TS):Prop :=
 ∀ (pins:List (Addr×Obj)) (s:Shared) (σ:St) (H:Hp) (D:Ends),Inv X pins σ H s->t D σ H->wpAny (model X.prog X.w) X.A (exec st X.env) (SP X pins D) X.xe s
noncomputable def zm(X:Cx)(st:List Stmt)(t:TS):Prop :=
 ∀ (pins:List (Addr×Obj)) (s:Shared) (σ:St) (H:Hp) (D:Ends),Inv X pins σ H s->t D σ H->wpAny (model X.prog X.w) X.A (execs st X.env) (SP X pins D) X.xe s
theorem ck{α:Type}{t:Sem α}{Q Q':α->Shared->Prop}{M:Model}{A:Around}{E:Value->Shared->Prop}{s:Shared}(h:wpAny M A t Q E s)(hQ:∀a s,Q a s->Q' a s):wpAny M A t Q' E s:=wpAny_mono h hQ fun _ _ x=>x
section
variable {X:Cx}
def MM(i:Nat):TE:=fun σ H Q=>∃v,σ[i]?=some (some v)/\Q v H
def tC(v:V):TE:=fun _ H Q=>Q v H
theorem m9{i:Nat}{x:Str}{pos:Pos}(hN:X.N[i]?=some x)(hv:GT X.env.scope x)(hd:(x == ("__debug__":Str))=false:=by decide)(hcd:(x == ("__classdict__":Str))=false:=by decide):PE X (.Name x pos) (MM i):=by
 intro pins s σ H Q I h
 obtain⟨v,e,h⟩:=h
 obtain⟨m,hn,hl⟩:=I.loc
 obtain⟨u,r,l⟩:=hl i x v hN e hv
 have fin:EP X pins σ Q u s:=⟨v,H,I,r,h⟩
 rcases l with ⟨hk,hm⟩|⟨hk,c,hc,hcell⟩
 ·exact wpAny_Name (wpAny_loadName_local I.ok.kind hk hn hm fin) hd
 ·rcases hk with hk|hk
  ·exact wpAny_Name (wpAny_loadName_cell I.ok.kind hk hc hcell fin) hd
  ·exact wpAny_Name (wpAny_loadName_free I.ok.kind hk hc hcell fin hcd) hd
theorem ui{i j pos}:PE X (.Constant (.int i) j pos) (tC (.int i)):=fun _ _ _ H _ I h=>wpAny_Constant_int ⟨.int i,H,I.tok _,⟨_,rfl⟩,h⟩
theorem Nq{b j pos}:PE X (.Constant (.bool b) j pos) (tC (.bl b)):=fun _ _ _ H _ I h=>Constant_bool ⟨.bl b,H,I,rfl,h⟩
theorem Lz{j pos}:PE X (.Constant .none j pos) (tC .non):=fun _ _ _ H _ I h=>Constant_none ⟨.non,H,I,rfl,h⟩
theorem Kh{x j pos}:PE X (.Constant (.str x) j pos) (tC (.str x)):=fun _ _ _ H _ I h=>Calls.Constant_str ⟨.str x,H,I.tok _,⟨_,rfl⟩,h⟩
def Gl(X:Cx)(x:Str):Prop:=X.env.kindOf x=some .globalImplicit
theorem Br{E:Value->Shared->Prop}{pins:List (Addr×Obj)}{s:Shared}{σ:St}{H:Hp}{x:Str}{u:Value}{pos:Pos}{Q:Value->Shared->Prop}(I:Inv X pins σ H s)(hg:Gl X x)(hm:X.mg x=some u)(h:Q u s)
  (hd:(x == ("__debug__":Str))=false:=by decide):wpAny (model X.prog X.w) X.A (eval (.Name x pos) X.env) Q E s :=
 Calls.Name_function_global I.ok.kind hg (Calls.loadGlobal_global (by rw[I.ok.glob];exact I.mod.glob.keeps I.bk) hm h) hd
theorem jr{E:Value->Shared->Prop}{pins:List (Addr×Obj)}{s:Shared}{σ:St}{H:Hp}{x:Str}{u:Value}{pos:Pos}{Q:Value->Shared->Prop}(I:Inv X pins σ H s)(hg:Gl X x)(hm:X.mg x=none)(hv:bootBuiltins x=some u)(h:Q u s)
  (hn:x≠"__name__":=by decide) (hd:(x == ("__debug__":Str))=false:=by decide):wpAny (model X.prog X.w) X.A (eval (.Name x pos) X.env) Q E s:=by
 obtain⟨mb,h1,h2⟩:=I.mod.blt
 exact Calls.Name_function_global I.ok.kind hg (Calls.loadGlobal_builtin (by rw[I.ok.glob];exact I.mod.glob.keeps I.bk) hm (by rw[I.ok.blt];exact h1.keeps I.bk) ((h2 x hn).trans hv) h) hd
theorem GQ{x:Str}{v:V}{u:Value}{pos:Pos}(hg:Gl X x)(hm:X.mg x=some u)(r:RelV v u)(hd:(x == ("__debug__":Str))=false:=by decide):PE X (.Name x pos) (tC v) :=
 fun _ _ _ H _ I h=>Br I hg hm ⟨v,H,I,r,h⟩ hd
theorem Jk{x:Str}{v:V}{u:Value}{pos:Pos}(hg:Gl X x)(hm:X.mg x=none)(hv:bootBuiltins x=some u)(r:RelV v u)(hn:x≠"__name__":=by decide)(hd:(x == ("__debug__":Str))=false:=by decide):PE X (.Name x pos) (tC v) :=
 fun _ _ _ H _ I h=>jr I hg hm hv ⟨v,H,I,r,h⟩ hn hd
variable {a b:Expr}{ta tb:TE}{pos:Pos}
def tB(t:TE):TT:=fun σ H Q=>t σ H fun x H1=>∃c,x=.bl c/\Q c H1
theorem LN{e:Expr}{t:TE}(h:PE X e t)(he:∀whole,isTrue e X.env whole=(do let v <- whole;standAt e.pos;holding [v] (truthy v)):=by intro _;rfl):PT X e (tB t):=by
 intro pins s σ H Q I hw
 refine isTrue_plain (ck (h pins s σ H _ I hw) fun v s1 ⟨x,H1,I1,r1,q1⟩=>?_) (he _)
 obtain⟨d,rfl,q⟩:=q1
 cases r1
 exact wpAny_truthy_bool ⟨H1,I1,q⟩
variable {tA tB':TT}{rest:List Expr}
def NT(t u:TT):TT:=fun σ H Q=>t σ H fun c H1=>if c=true then u σ H1 Q else Q false H1
def O9(t u:TT):TT:=fun σ H Q=>t σ H fun c H1=>if c=true then Q true H1 else u σ H1 Q
def Of(t:TT):TT:=fun σ H Q=>t σ H fun c H1=>Q (!c) H1
theorem Hf(ha:PT X a tA):PW X (.BoolOp .And [a] pos) tA:=by
 intro wh pins s σ H Q I h
 refine isTrue_and (ck (ha pins s σ H Q I h) fun c s1 e=>?_)
 cases c with
 | true=>exact isTrue_and_nil e
 | false=>exact e
theorem KY(ha:PT X a tA):PW X (.BoolOp .Or [a] pos) tA:=by
 intro wh pins s σ H Q I h
 refine isTrue_or (ck (ha pins s σ H Q I h) fun c s1 e=>?_)
 cases c with
 | false=>exact isTrue_or_nil e
 | true=>exact e
theorem J5(ha:PT X a tA)(hb:PW X (.BoolOp .And (b::rest) pos) tB'):PW X (.BoolOp .And (a::b::rest) pos) (NT tA tB'):=by
 intro wh pins s σ H Q I h
 refine isTrue_and (ck (ha pins s σ H _ I h) fun c s1 ⟨H1,I1,q1⟩=>?_)
 cases c with
 | true=>exact hb wh pins s1 σ H1 Q I1 q1
 | false=>exact⟨H1,I1,q1⟩
theorem Nc(ha:PT X a tA)(hb:PW X (.BoolOp .Or (b::rest) pos) tB'):PW X (.BoolOp .Or (a::b::rest) pos) (O9 tA tB'):=by
 intro wh pins s σ H Q I h
 refine isTrue_or (ck (ha pins s σ H _ I h) fun c s1 ⟨H1,I1,q1⟩=>?_)
 cases c with
 | true=>exact⟨H1,I1,q1⟩
 | false=>exact hb wh pins s1 σ H1 Q I1 q1
theorem Kw(ha:PT X a tA):PT X (.UnaryOp .Not a pos) (Of tA):=by
 intro pins s σ H Q I h
 exact isTrue_not (ha pins s σ H (fun c H1=>Q (!c) H1) I h)
def MB(ta tb:TE):TE:=fun σ H Q=>ta σ H fun x H1=>∃c,x=.bl c/\if c=true then tb σ H1 Q else Q (.bl false) H1
def OF(ta tb:TE):TE:=fun σ H Q=>ta σ H fun x H1=>∃c,x=.bl c/\if c=true then Q (.bl true) H1 else tb σ H1 Q
def Nj(ta:TE):TE:=fun σ H Q=>ta σ H fun x H1=>∃c,x=.bl c/\Q (.bl (!c)) H1
theorem JX{op}{t:TE}(h:PE X a t):PE X (.BoolOp op [a] pos) t:=fun pins s σ H Q I hw=>BoolOp_one (h pins s σ H Q I hw)
theorem Lj(ha:PE X a ta)(hb:PE X (.BoolOp .And (b::rest) pos) tb):PE X (.BoolOp .And (a::b::rest) pos) (MB ta tb):=by
 intro pins s σ H Q I h
 refine BoolOp_and (ck (ha pins s σ H _ I h) fun v s1 ⟨x,H1,I1,r1,q1⟩=>?_)
 obtain⟨c,rfl,q1⟩:=q1
 cases r1
 refine wpAny_truthy_bool ?_
 cases c with
 | true=>exact hb pins s1 σ H1 Q I1 q1
 | false=>exact⟨.bl false,H1,I1,rfl,q1⟩
theorem Gj(ha:PE X a ta)(hb:PE X (.BoolOp .Or (b::rest) pos) tb):PE X (.BoolOp .Or (a::b::rest) pos) (OF ta tb):=by
 intro pins s σ H Q I h
 refine BoolOp_or (ck (ha pins s σ H _ I h) fun v s1 ⟨x,H1,I1,r1,q1⟩=>?_)
 obtain⟨c,rfl,q1⟩:=q1
 cases r1
 refine wpAny_truthy_bool ?_
 cases c with
 | false=>exact hb pins s1 σ H1 Q I1 q1
 | true=>exact⟨.bl true,H1,I1,rfl,q1⟩
theorem LI(ha:PE X a ta):PE X (.UnaryOp .Not a pos) (Nj ta):=by
 intro pins s σ H Q I h
 refine UnaryOp_ (ck (ha pins s σ H _ I h) fun v s1 ⟨x,H1,I1,r1,q1⟩=>?_)
 obtain⟨c,rfl,q1⟩:=q1
 cases r1
 exact not_of (wpAny_truthy_bool ⟨.bl (!c),H1,I1,rfl,q1⟩)
def Po(t:TT)(ta tb:TE):TE:=fun σ H Q=>t σ H fun c H1=>if c=true then ta σ H1 Q else tb σ H1 Q
theorem Fk{c:Expr}(hc:PT X c tA)(ha:PE X a ta)(hb:PE X b tb):PE X (.IfExp c a b pos) (Po tA ta tb):=by
 intro pins s σ H Q I h
 refine wpAny_IfExp (ck (hc pins s σ H _ I h) fun d s1 ⟨H1,I1,q1⟩=>?_)
 cases d with
 | true=>exact ha pins s1 σ H1 Q I1 q1
 | false=>exact hb pins s1 σ H1 Q I1 q1
end
noncomputable def iV(K:W.Frag)(H:Hp)(a:Addr)(xs:List V):Prop :=
 Rd H a (.lst xs) \/
  ∃ (o:Obj) (its:Array Value) (n:Nat),K.lookup a=some o/\o.cls=.type "list"/\o.dict=none/\o.data=.seq its n/\its.size<=sizeLine/\aF xs its.toList
noncomputable def ju(K:W.Frag)(H:Hp)(a:Addr)(xs:List V):Prop :=
 Rd H a (.tup xs) \/
  ∃ (o:Obj) (its:Array Value) (n:Nat),K.lookup a=some o/\o.cls=.type "tuple"/\o.dict=none/\o.data=.seq its n/\its.size<=sizeLine/\aF xs its.toList
noncomputable def Ob:Value->Option V
 | .none=>some .non
 | .bool b=>some (.bl b)
 | .int i _=>some (.int i)
 | .str x _=>some (.str x)
 | .bytes b _=>some (.byt b)
 | .float b _=>some (.flt b)
 | .ref a=>some (.ref a)
 | .type n=>some (.ty n)
 | _=>none
theorem RelV.abs{x:V}{u:Value}(r:RelV x u):Ob u=some x:=by
 cases x with
 | non=>cases r;rfl
 | bl _=>cases r;rfl
 | int _=>obtain⟨t,rfl⟩:=r;rfl
 | str _=>obtain⟨t,rfl⟩:=r;rfl
 | byt _=>obtain⟨t,rfl⟩:=r;rfl
 | flt _=>obtain⟨t,rfl⟩:=r;rfl
 | ref _=>cases r;rfl
 | ty _=>cases r;rfl
theorem RelV.inj{x y:V}{u:Value}(r:RelV x u)(q:RelV y u):x=y:=Option.some.inj (r.abs.symm.trans q.abs)
theorem aF.inj:∀ {xs ys:List V}{us:List Value},aF xs us->aF ys us->xs=ys
 | _,_,_,.nil,.nil=>rfl
 | _,_,_,.cons r t,.cons r' t'=>by rw[r.inj r',aF.inj t t']
section
variable {X:Cx}{pins:List (Addr×Obj)}{σ:St}{H:Hp}{s:Shared}{a:Addr}{xs ys:List V}
theorem iV.of{K:W.Frag}(h:H a=some (.lst xs)):iV K H a xs:=.inl (.inl h)
theorem Inv.list(I:Inv X pins σ H s)(h:iV X.K H a xs):∃its:List Value,aF xs its/\PlainL s.heap a its.toArray/\xs.length<=sizeLine:=by
 rcases h with h|⟨o,its,n,hk,hc,hd,hs,hz,r⟩
 ·obtain⟨z,its,n,r,e⟩:=h.ok I.hok
  exact⟨its,r,⟨_,n,e,rfl,rfl,rfl⟩,z⟩
 ·refine⟨its.toList,r,⟨o,n,I.kIn a o hk,hc,hd,by simpa using hs⟩,?_⟩
  have e:=r.length
  simp only[Array.length_toList] at e
  omega
theorem Inv.tuple(I:Inv X pins σ H s)(h:ju X.K H a xs):∃its:List Value,aF xs its/\IsTup s.heap a its.toArray/\xs.length<=sizeLine:=by
 rcases h with h|⟨o,its,n,hk,hc,_,hs,hz,r⟩
 ·obtain⟨z,its,r,p⟩:=h.ok I.hok
  exact⟨its,r,p.1,z⟩
 ·refine⟨its.toList,r,⟨o,I.kIn a o hk,hc,n,by simpa using hs⟩,?_⟩
  have e:=r.length
  simp only[Array.length_toList] at e
  omega
theorem Inv.list_inj(I:Inv X pins σ H s)(h:iV X.K H a xs)(h':iV X.K H a ys):xs=ys:=by
 obtain⟨its,r,⟨o,n,e,_,_,d⟩,_⟩:=I.list h
 obtain⟨its',r',⟨o',n',e',_,_,d'⟩,_⟩:=I.list h'
 rw[e] at e';cases e'
 rw[d] at d'
 injection d' with d1 _
 have:its=its':=by simpa using congrArg Array.toList d1
 subst this
 exact r.inj r'
theorem Inv.tuple_inj(I:Inv X pins σ H s)(h:ju X.K H a xs)(h':ju X.K H a ys):xs=ys:=by
 obtain⟨its,r,⟨o,e,_,n,d⟩,_⟩:=I.tuple h
 obtain⟨its',r',⟨o',e',_,n',d'⟩,_⟩:=I.tuple h'
 rw[e] at e';cases e'
 rw[d] at d'
 injection d' with d1 _
 have:its=its':=by simpa using congrArg Array.toList d1
 subst this
 exact r.inj r'
end
noncomputable abbrev Cx.wish(X:Cx)(E:Value->Shared->Prop):Cx:={ X with xe:=E }
noncomputable abbrev Cx.nox(X:Cx):Cx:=X.wish fun _ _=>False
theorem Cx.Ok.wish{X:Cx}(ok:X.Ok)(E:Value->Shared->Prop):(X.wish E).Ok :=
 ⟨ok.mod,ok.kind,ok.glob,ok.blt,ok.above,ok.inj,ok.has,ok.cab,ok.hd,ok.frames,ok.stk,ok.exf,ok.bs,ok.bsz,ok.noex,ok.exfs,ok.funs,ok.frf⟩
theorem Cx.Ok.unwish{X:Cx}{E:Value->Shared->Prop}(ok:(X.wish E).Ok):X.Ok :=
 ⟨ok.mod,ok.kind,ok.glob,ok.blt,ok.above,ok.inj,ok.has,ok.cab,ok.hd,ok.frames,ok.stk,ok.exf,ok.bs,ok.bsz,ok.noex,ok.exfs,ok.funs,ok.frf⟩
section
variable {X:Cx}{pins:List (Addr×Obj)}{σ:St}{H:Hp}{s:Shared}{E:Value->Shared->Prop}
theorem Inv.wish(I:Inv X pins σ H s)(E:Value->Shared->Prop):Inv (X.wish E) pins σ H s:=⟨I.ok.wish E,I.os,I.bare,I.base,I.loc,I.cell,I.free,I.freeC,I.pin,I.hok,I.len⟩
theorem Inv.unwish(I:Inv (X.wish E) pins σ H s):Inv X pins σ H s:=⟨I.ok.unwish,I.os,I.bare,I.base,I.loc,I.cell,I.free,I.freeC,I.pin,I.hok,I.len⟩
theorem SP.unwish{D:Ends}{f:Flow}{s':Shared}(h:SP (X.wish E) pins D f s'):SP X pins D f s':=by
 cases f with
 | next=>obtain⟨σ',H',I,q⟩:=h;exact⟨σ',H',I.unwish,q⟩
 | brk=>obtain⟨σ',H',I,q⟩:=h;exact⟨σ',H',I.unwish,q⟩
 | cont=>obtain⟨σ',H',I,q⟩:=h;exact⟨σ',H',I.unwish,q⟩
 | ret u=>obtain⟨v,σ',H',I,r,q⟩:=h;exact⟨v,σ',H',I.unwish,r,q⟩
theorem zm.nox{st:List Stmt}{t:TS}(h:zm X.nox st t):zm X st t:=fun pins s σ H D I hw =>
 wpAny_mono (h pins s σ H D (I.wish _) hw) (fun _ _ q=>q.unwish) fun _ _ z=>False.elim z
end
section
variable {X:Cx}{st:Stmt}{rest:List Stmt}{t u:TS}{e:Expr}{te:TE}{pos:Pos}
def F4:TS:=fun D σ H=>D.nx σ H
def Oj(t u:TS):TS:=fun D σ H=>t { D with nx:=u D } σ H
theorem IR:zm X [] F4:=fun _ _ σ H _ I h=>wpAny_execs_nil ⟨σ,H,I,h⟩
theorem DQ(h1:PS X st t)(h2:zm X rest u):zm X (st::rest) (Oj t u):=by
 intro pins s σ H D I h
 refine wpAny_execs_cons (ck (h1 pins s σ H { D with nx:=u D } I h) fun f s1 q=>?_)
 cases f with
 | next =>
  obtain⟨σ',H',I',q⟩:=q
  exact h2 pins s1 σ' H' D I' q
 | ret v=>exact q
 | brk=>exact q
 | cont=>exact q
theorem HB(h1:PS X st t):zm X [st] t:=by
 intro pins s σ H D I h
 refine wpAny_execs_cons (ck (h1 pins s σ H D I h) fun f s1 q=>?_)
 cases f with
 | next=>exact wpAny_execs_nil q
 | ret v=>exact q
 | brk=>exact q
 | cont=>exact q
theorem Jh:PS X (.Pass pos) F4:=fun _ _ σ H _ I h=>wpAny_Pass ⟨σ,H,I,h⟩
theorem Inv.quiet{pins:List (Addr×Obj)}{σ:St}{H:Hp}{s:Shared}(I:Inv X pins σ H s):interactive X.env=false:=by simp[interactive,I.ok.kind]
theorem KR{x j pos pos'}:PS X (.Expr (.Constant (.str x) j pos) pos') F4:=fun _ s σ H _ I h=>wpAny_Expr (Calls.Constant_str (show SP X _ _ .next { s with toks:=s.toks+1 } from ⟨σ,H,I.tok _,h⟩)) I.quiet
def Nk(te:TE):TS:=fun D σ H=>te σ H fun _ H1=>D.nx σ H1
theorem o8(he:PE X e te)(hs:swapsWith e none pos.line X.env=pure false:=by rfl):PS X (.Expr e pos) (Nk te):=by
 intro pins s σ H D I h
 exact wpAny_Expr_any (ck (he pins s σ H _ I h) fun v s1 ⟨x,H1,I1,r1,q1⟩=>⟨σ,H1,I1,q1⟩) I.quiet hs
def NW(te:TE):TS:=fun D σ H=>te σ H D.rt
theorem Ki(he:PE X e te):PS X (.Return (some e) pos) (NW te):=by
 intro pins s σ H D I h
 exact wpAny_Return_some (ck (he pins s σ H _ I h) fun v s1 ⟨x,H1,I1,r1,q1⟩=>⟨x,σ,H1,I1,r1,q1⟩)
def NZ(c:TT)(t u:TS):TS:=fun D σ H=>c σ H fun b H1=>if b=true then t D σ H1 else u D σ H1
theorem MH{c:Expr}{a b:List Stmt}{tc:TT}(hc:PT X c tc)(ha:zm X a t)(hb:zm X b u):PS X (.If c a b pos) (NZ tc t u):=by
 intro pins s σ H D I h
 refine wpAny_If (ck (hc pins s σ H _ I h) fun d s1 ⟨H1,I1,q1⟩=>?_)
 cases d with
 | true=>exact ha pins s1 σ H1 D I1 q1
 | false=>exact hb pins s1 σ H1 D I1 q1
end
noncomputable abbrev TG:=V->St->Hp->(St->Hp->Prop)->Prop
noncomputable abbrev KD:=List V->St->Hp->(St->Hp->Prop)->Prop
noncomputable def PG(X:Cx)(target:Expr)(t:TG):Prop :=
 ∀ (pins:List (Addr×Obj)) (s:Shared) (σ:St) (H:Hp) (v:V) (u:Value) (Q:St->Hp->Prop),Inv X pins σ H s->RelV v u->t v σ H Q ->
  wpAny (model X.prog X.w) X.A (assign target X.env u) (fun _ s'=>∃σ' H',Inv X pins σ' H' s'/\Q σ' H') X.xe s
noncomputable def NI(X:Cx)(ts:List Expr)(t:KD):Prop :=
 ∀ (pins:List (Addr×Obj)) (s:Shared) (σ:St) (H:Hp) (vs:List V) (us:List Value) (Q:St->Hp->Prop),Inv X pins σ H s->aF vs us->t vs σ H Q ->
  wpAny (model X.prog X.w) X.A (assignInOrder ((assignEach ts X.env).map (·.2)) us) (fun _ s'=>∃σ' H',Inv X pins σ' H' s'/\Q σ' H') X.xe s
noncomputable abbrev Lp:=V->V->V->Hp->(Hp->Prop)->Prop
noncomputable def Mu(X:Cx)(t:Lp):Prop :=
 ∀ (pins:List (Addr×Obj)) (s:Shared) (σ:St) (H:Hp) (o i v:V) (ov iv u:Value) (Q:Hp->Prop),Inv X pins σ H s->RelV o ov->RelV i iv->RelV v u->t o i v H Q ->
  wpAny (model X.prog X.w) X.A (setItem ov iv u) (fun _ s'=>∃H',Inv X pins σ H' s'/\Q H') X.xe s
section
variable {X:Cx}{pos:Pos}
def xr(i:Nat):TG:=fun v σ H Q=>Q (σ.set i (some v)) H
theorem dm{i:Nat}{x:Str}(hN:X.N.Nodup)(hi:X.N[i]?=some x)(hx:Loc X.env.scope x)(hf:X.fn x=true\/X.env.scope.names.lookup x=some .local:=by first|exact .inl rfl|exact .inr rfl|assumption):PG X (.Name x pos) (xr i):=by
 intro pins s σ H v u Q I r h
 exact wpAny_assign_Name (wZ I hN hi hx r (fun s' I'=>⟨_,H,I',h⟩) hf)
noncomputable def Oe:KD:=fun vs σ H Q=>vs=[]/\Q σ H
noncomputable def MQ(t:TG)(u:KD):KD:=fun vs σ H Q=>∃v r,vs=v::r/\t v σ H fun σ' H'=>u r σ' H' Q
theorem ml:NI X [] Oe:=by
 intro pins s σ H vs us Q I r h
 obtain⟨e,h⟩:=h
 subst e
 cases r
 exact assignInOrder_nil ⟨σ,H,I,h⟩
theorem cH{e:Expr}{es:List Expr}{t:TG}{u:KD}(h1:PG X e t)(h2:NI X es u)
  (hs:(assignEach (e::es) X.env).map (·.2)=assign e X.env::(assignEach es X.env).map (·.2):=by rfl):NI X (e::es) (MQ t u):=by
 intro pins s σ H vs us Q I r h
 obtain⟨v,vr,e1,h⟩:=h
 subst e1
 cases r with
 | cons r rr =>
  rw[hs]
  refine assignInOrder_cons (ck (h1 pins s σ H _ _ _ I r h) fun _ s1 ⟨σ1,H1,I1,q1⟩=>?_)
  exact h2 pins s1 σ1 H1 _ _ Q I1 rr q1
def NS(K:W.Frag)(n:Nat)(t:KD):TG:=fun v σ H Q=>∃a xs,v=.ref a/\ju K H a xs/\xs.length=n/\t xs σ H Q
theorem qc{es:List Expr}{k:Nat}{t:KD}{n:Nat}(hc:X.calm=true)(h:NI X es t)
  (hn:(assignEach es X.env).length=n:=by rfl) (hst:(assignEach es X.env).findIdx? (·.1)=none:=by rfl):PG X (.Tuple es k pos) (NS X.K n t):=by
 intro pins s σ H v u Q I r hw
 obtain⟨a,xs,e1,hq,hl,hw⟩:=hw
 subst e1
 cases r
 obtain⟨its,rv,ht,hz⟩:=I.tuple hq
 refine assign_Tuple_tuple (I.ok.hd hc) ht (by simp[hn,<- hl,rv.length]) hst fun h' hx=>?_
 have I1:Inv X pins σ H { s with heap:=h' }:=I.kept (t':=s.toks) fun b o e=>hx b o (Nat.ne_of_lt (zZ e)) e
 exact h pins _ σ H xs _ Q I1 (by simpa using rv) hw
def iw(to ti:TE)(t:Lp):TG:=fun v σ H Q=>to σ H fun o H1=>ti σ H1 fun i H2=>t o i v H2 fun H3=>Q σ H3
theorem LH{o i:Expr}{to ti:TE}{t:Lp}(ho:PE X o to)(hi:PE X i ti)(hs:Mu X t)
  (ha:∀v,assign (.Subscript o i pos) X.env v=(do
   let ov <- holding [v] (eval o X.env)
   let iv <- holding [v,ov] (eval i X.env)
   standAt pos
   holding [v,ov,iv] (setItem ov iv v)
   release [v,ov,iv] []):=by intro _;rfl):PG X (.Subscript o i pos) (iw to ti t):=by
 intro pins s σ H v u Q I r h
 rw[ha]
 refine zW (wpAny_holding (ck (ho pins s σ H _ I h) fun ov s1 ⟨x,H1,I1,r1,q1⟩=>?_))
 refine zW (wpAny_holding (ck (hi pins s1 σ H1 _ I1 q1) fun iv s2 ⟨y,H2,I2,r2,q2⟩=>?_))
 refine zW (wpAny_standAt (zW (wpAny_holding (ck (hs pins s2 σ H2 x y v ov iv u _ I2 r1 r2 r q2) fun _ s3 ⟨H3,I3,q3⟩=>?_))))
 exact wpAny_release ⟨σ,H3,I3,q3⟩
def FL(te:TE)(g:TG):TS:=fun D σ H=>te σ H fun x H1=>g x σ H1 D.nx
theorem Kt{tg e:Expr}{te:TE}{g:TG}(he:PE X e te)(hg:PG X tg g)(hs:swapsWithSole [tg] e pos.line X.env=pure false:=by rfl)(hw:swappedStores [tg] e X.env=pure none:=by rfl)
  (h1:(assignEach [tg] X.env).map (·.2)=[assign tg X.env]:=by rfl):PS X (.Assign [tg] e pos) (FL te g):=by
 intro pins s σ H D I h
 refine wpAny_Assign_stores (ck (he pins s σ H _ I h) fun v s1 ⟨x,H1,I1,r1,q1⟩=>?_) hs hw
 rw[h1]
 exact ck (hg pins s1 σ H1 x v _ I1 r1 q1) fun _ s2 q=>q
theorem Ey{i:Nat}{x:Str}{e:Expr}{te:TE}{pos':Pos}(hN:X.N.Nodup)(hi:X.N[i]?=some x)(hx:Loc X.env.scope x)(he:PE X e te)(hs:swapsWith e (some (.Name x pos')) pos.line X.env=pure false:=by rfl)(hf:X.fn x=true\/X.env.scope.names.lookup x=some .local:=by first|exact .inl rfl|exact .inr rfl|assumption) :
  PS X (.Assign [.Name x pos'] e pos) (FL te (xr i)):=by
 intro pins s σ H D I h
 refine wpAny_Assign_Name (ck (he pins s σ H _ I h) fun v s1 ⟨y,H1,I1,r1,q1⟩=>?_) hs
 exact wZ I1 hN hi hx r1 (fun s2 I2=>⟨_,H1,I2,q1⟩) hf
end
section
variable {X:Cx}{pos:Pos}
def K8(c:TT)(tb:TS):TS:=fun D σ H=>∃W:Nat->St->Hp->Prop,(∃m,W m σ H)/\∀m σ H,W m σ H ->
 c σ H fun b H1=>if b=true then ∃N:St->Hp->Prop,(∀σ' H',N σ' H'->∃m',m' < m/\W m' σ' H')/\tb { D with nx:=N,ct:=N,bk:=D.nx } σ H1 else D.nx σ H1
theorem FM{c:Expr}{body:List Stmt}{tc:TT}{tb:TS}(hp:PassesOwn (model X.prog X.w) X.A X.env X.xe)(hc:PT X c tc)(hb:zm X body tb):PS X (.While c body [] pos) (K8 tc tb):=by
 intro pins s σ H D I h
 obtain⟨W,⟨m0,w0⟩,turn⟩:=h
 refine wpAny_While (codeAny_whileLoop (fun n s'=>∃σ' H',Inv X pins σ' H' s'/\W n σ' H') ?_ m0 ⟨σ,H,I,w0⟩)
 rintro n s1 ⟨σ1,H1,I1,w1⟩
 refine wpAny_passesOwn hp (ck (hc pins s1 σ1 H1 _ I1 (turn n σ1 H1 w1)) fun b s2 ⟨H2,I2,q2⟩=>?_)
 cases b with
 | true =>
  obtain⟨N,hN,q2⟩:=q2
  rw[if_pos rfl]
  refine wpAny_passesOwn hp (ck (hb pins s2 σ1 H2 _ I2 q2) fun f s3 q3=>?_)
  cases f with
  | next =>
   obtain⟨σ3,H3,I3,n3⟩:=q3
   obtain⟨m',hm,w3⟩:=hN σ3 H3 n3
   exact⟨m',hm,σ3,H3,I3,w3⟩
  | cont =>
   obtain⟨σ3,H3,I3,n3⟩:=q3
   obtain⟨m',hm,w3⟩:=hN σ3 H3 n3
   exact⟨m',hm,σ3,H3,I3,w3⟩
  | brk=>exact q3
  | ret v=>exact q3
 | false =>
  rw[if_neg Bool.false_ne_true]
  exact wpAny_execs_nil ⟨σ1,H2,I2,q2⟩
end
structure It where
 go:Nat->Hp->Prop
 yld:Nat->Hp->V->Hp->Prop
 stop:Nat->Hp->Prop
noncomputable def cI(X:Cx)(pins:List (Addr×Obj))(H:Hp)(b:Addr):Prop :=
 H b=none/\b≠X.env.locals/\b∉X.fs/\(b∈X.ex\/X.s₀.heap.objs.size<=b)/\(∀x c,X.env.cells.lookup x=some c->c≠b)/\∀p∈X.pn++pins,p.1≠b
theorem Inv.fpOk{X:Cx}{pins:List (Addr×Obj)}{σ:St}{H H':Hp}{s:Shared}{b:Addr}(I:Inv X pins σ H s)(hb:s.heap.objs.size<=b)(hn:H' b=none):cI X pins H' b:=by
 refine⟨hn,Nat.ne_of_gt (zP I.lt hb),I.nofs hb,.inr (yE I.sz hb),fun x c e z=>?_,fun p hp z=>?_⟩
 ·obtain⟨v,q⟩:=I.cell x c e
  exact absurd (zP q.lt (by rw[z];exact hb)) (Nat.lt_irrefl _)
 ·exact absurd (zP (zZ (I.pin p hp).1) (by rw[z];exact hb)) (Nat.lt_irrefl _)
structure Turn(P:Program)(w:World)(K:W.Frag)(tg:Expr)(J:It)(fp:List Addr)(it:Addr)(tn:Nat->Heap->Prop):Prop where
 mem:it∈fp
 obj:∀i h,tn i h->∀b∈fp,∃o,h.get? b=some o/\∀v,o.data≠.cell v
 keep:∀i h h',tn i h->(∀b∈fp,∀o,h.get? b=some o->h'.get? b=some o)->tn i h'
 item:∀ (X:Cx),X.prog=P->X.w=w->X.K=K->X.calm=true->∀ (i:Nat) (pins:List (Addr×Obj)) (s:Shared) (σ:St) (H:Hp) (E:Value->Shared->Prop),Inv X pins σ H s->(∀b∈fp,cI X pins H b)->tn i s.heap->J.go i H ->
  wpAny (model P w) X.A (pyNext (.ref it)) (fun r s1=>∃u,r=some u /\
   wpAny (model P w) X.A (letOwnedTupleGo tg (.ref it) u) (fun _ s2=>∃x H',Inv X pins σ H' s2/\RelV x u/\J.yld i H x H'/\tn (i+1) s2.heap/\∀b∈fp,H' b=none) E s1) E s
 done:∀ (X:Cx),X.prog=P->X.w=w->X.K=K->X.calm=true->∀ (i:Nat) (pins:List (Addr×Obj)) (s:Shared) (σ:St) (H:Hp) (E:Value->Shared->Prop),Inv X pins σ H s->(∀b∈fp,cI X pins H b)->tn i s.heap->J.stop i H ->
  wpAny (model P w) X.A (pyNext (.ref it)) (fun r s1=>r=none/\Inv X pins σ H s1) E s
 self:∀ (A:Around) (i:Nat) (s:Shared) (Q:Value->Shared->Prop) (E:Value->Shared->Prop),tn i s.heap->Q (.ref it) s->wpAny (model P w) A (pyIter (.ref it)) Q E s
noncomputable abbrev TI:=St->Hp->(It->Hp->Prop)->Prop
noncomputable def OO(X:Cx)(pins:List (Addr×Obj))(σ:St)(tg:Expr)(R:It->Hp->Prop)(itv:Value)(s2:Shared):Prop :=
 ∃ (it:Addr) (fp:List Addr) (tn:Nat->Heap->Prop) (J:It) (H':Hp),itv=.ref it/\Inv X pins σ H' s2/\Turn X.prog X.w X.K tg J fp it tn/\tn 0 s2.heap/\(∀b∈fp,cI X pins H' b)/\R J H'
noncomputable def PI(X:Cx)(tg iter:Expr)(wi:TI):Prop :=
 ∀ (pins:List (Addr×Obj)) (s:Shared) (σ:St) (H:Hp) (R:It->Hp->Prop),Inv X pins σ H s->wi σ H R ->
  wpAny (model X.prog X.w) X.A (eval iter X.env) (fun v s1=>wpAny (model X.prog X.w) X.A (pyIter v) (OO X pins σ tg R) X.xe s1) X.xe s
theorem FT{M:Model}{A:Around}{E:Value->Shared->Prop}{s:Shared}{tg:Expr}{it:Addr}{u:Value}{o:Obj}{n:String}{vs:Array Value}{Q:Unit->Shared->Prop}(ho:s.heap.get? it=some o)(hc:o.cls=.type n)(hd:o.data=.fields vs)
  (hn:["enumerate","zip","dict_itemiterator","dict_reverseitemiterator","odict_iterator","itertools.zip_longest","itertools.pairwise"].contains n=false) (hQ:Q () s):wpAny M A (letOwnedTupleGo tg (.ref it) u) Q E s:=by
 unfold letOwnedTupleGo
 cases tg<;>first
  | exact zX hQ
  | (cases u<;>first
    | exact zX hQ
    | (refine zW (wpAny_load ho ?_)
       rw[hc,hd]
       show wpAny M A (if (["enumerate","zip","dict_itemiterator","dict_reverseitemiterator","odict_iterator","itertools.zip_longest","itertools.pairwise"].contains n&&vs[0]? == some (rawInt _))=true then _ else _) Q E s
       rw[if_neg (by intro h;rw[hn,Bool.false_and] at h;cases h)]
       exact zX hQ))
noncomputable def OJ(K:W.Frag)(a:Addr):It :=
 ⟨fun i H=>∃xs x,iV K H a xs/\xs[i]?=some x,fun i H x H'=>H'=H/\∀xs,iV K H a xs->xs[i]?=some x,fun i H=>∃xs,iV K H a xs/\xs.length<=i⟩
noncomputable def Om(K:W.Frag)(a:Addr):It :=
 ⟨fun i H=>∃xs x,ju K H a xs/\xs[i]?=some x,fun i H x H'=>H'=H/\∀xs,ju K H a xs->xs[i]?=some x,fun i H=>∃xs,ju K H a xs/\xs.length<=i⟩
noncomputable def NA(lo:Int)(n:Nat):It:=⟨fun i _=>i < n,fun i H x H'=>H'=H/\x=.int (lo+i),fun i _=>n<=i⟩
theorem B8{P:Program}{w:World}{K:W.Frag}{tg:Expr}(a it:Addr):Turn P w K tg (OJ K a) [it] it (fun i h=>h.IsListIter it a i) where
 mem:=by simp
 obj:=fun i h st b hb=>by
  have e:b=it:=by simpa using hb
  subst e
  obtain⟨o,e,c,d⟩:=st
  exact⟨o,e,fun v z=>by rw[d] at z;cases z⟩
 keep:=fun i h h' st k=>st.at fun o e=>k it (by simp) o e
 item:=by
  intro X hP hw hK hc i pins s σ H E I hf st hg
  subst hP hw hK
  obtain⟨xs,x,hq,hx⟩:=hg
  obtain⟨its,rv,p,hz⟩:=I.list hq
  obtain⟨u,hu,ru⟩:=rv.get hx
  obtain⟨f0,f1,f2,f3,f4,f5⟩:=hf it (by simp)
  refine wpAny_pyNext_list_item st p.isList (x:=u) (by simpa using hu) fun h' st' sb=>?_
  have I1:Inv X pins σ H { s with heap:=h' }:=I.turned (t':=s.toks) (fun b o hb e=>(sb.2 b hb).trans e) f0 f1 f3 f4 f5
  obtain⟨o,e,c,d⟩:=id st'
  exact⟨u,rfl,FT (s:={ s with heap:=h' }) e c d (by decide) ⟨x,H,I1,ru,⟨rfl,fun ys hy=>by rw[I.list_inj hy hq];exact hx⟩,st',fun b hb=>(hf b hb).1⟩⟩
 done:=by
  intro X hP hw hK hc i pins s σ H E I hf st hg
  subst hP hw hK
  obtain⟨xs,hq,hx⟩:=hg
  obtain⟨its,rv,p,hz⟩:=I.list hq
  obtain⟨f0,f1,f2,f3,f4,f5⟩:=hf it (by simp)
  have hl:=rv.length
  exact wpAny_pyNext_list_end (I.ok.hd hc) st p.isList (by simp;omega) fun h' eb=>⟨rfl,I.turned (t':=s.toks) (fun b o hb e=>eb b o hb e) f0 f1 f3 f4 f5⟩
 self:=fun _ _ _ _ _ st h=>wpAny_pyIter_listiter st h
theorem Au{P:Program}{w:World}{K:W.Frag}{tg:Expr}(a it:Addr):Turn P w K tg (Om K a) [it] it (fun i h=>h.IsTupleIter it a i) where
 mem:=by simp
 obj:=fun i h st b hb=>by
  have e:b=it:=by simpa using hb
  subst e
  obtain⟨o,e,c,d⟩:=st
  exact⟨o,e,fun v z=>by rw[d] at z;cases z⟩
 keep:=fun i h h' st k=>st.at fun o e=>k it (by simp) o e
 item:=by
  intro X hP hw hK hc i pins s σ H E I hf st hg
  subst hP hw hK
  obtain⟨xs,x,hq,hx⟩:=hg
  obtain⟨its,rv,p,hz⟩:=I.tuple hq
  obtain⟨u,hu,ru⟩:=rv.get hx
  obtain⟨f0,f1,f2,f3,f4,f5⟩:=hf it (by simp)
  refine wpAny_pyNext_tuple_item st (show s.heap.IsTuple a its.toArray from p) (x:=u) (by simpa using hu) fun h' st' sb=>?_
  have I1:Inv X pins σ H { s with heap:=h' }:=I.turned (t':=s.toks) (fun b o hb e=>(sb.2 b hb).trans e) f0 f1 f3 f4 f5
  obtain⟨o,e,c,d⟩:=id st'
  exact⟨u,rfl,FT (s:={ s with heap:=h' }) e c d (by decide) ⟨x,H,I1,ru,⟨rfl,fun ys hy=>by rw[I.tuple_inj hy hq];exact hx⟩,st',fun b hb=>(hf b hb).1⟩⟩
 done:=by
  intro X hP hw hK hc i pins s σ H E I hf st hg
  subst hP hw hK
  obtain⟨xs,hq,hx⟩:=hg
  obtain⟨its,rv,p,hz⟩:=I.tuple hq
  obtain⟨f0,f1,f2,f3,f4,f5⟩:=hf it (by simp)
  have hl:=rv.length
  exact wpAny_pyNext_tuple_end (I.ok.hd hc) st (show s.heap.IsTuple a its.toArray from p) (by simp;omega) fun h' eb=>⟨rfl,I.turned (t':=s.toks) (fun b o hb e=>eb b o hb e) f0 f1 f3 f4 f5⟩
 self:=fun _ _ _ _ _ st h=>wpAny_pyIter_tupleiter st h
theorem ze{P:Program}{w:World}{K:W.Frag}{tg:Expr}(it:Addr)(lo:Int)(n:Nat):Turn P w K tg (NA lo n) [it] it (fun i h=>IsRangeIter h it (lo+(i:Nat) * 1) ((n:Int) - (i:Nat)) 1) where
 mem:=by simp
 obj:=fun i h st b hb=>by
  have e:b=it:=by simpa using hb
  subst e
  exact⟨_,st,fun v z=>by
   have z':Data.fields _=Data.cell v:=z
   cases z'⟩
 keep:=fun i h h' st k=>k it (by simp) _ st
 item:=by
  intro X hP hw hK hc i pins s σ H E I hf st hg
  subst hP hw hK
  obtain⟨f0,f1,f2,f3,f4,f5⟩:=hf it (by simp)
  have W:=Walks.range (prog:=X.prog) (w:=X.w) (I.ok.hd hc) it lo 1 n
  refine W.item i s _ _ hg st fun v h' tk hv st' kk=>?_
  obtain⟨t,rfl⟩:=hv
  have I1:Inv X pins σ H { s with heap:=h',toks:=tk }:=I.turned (fun b o hb e=>kk b o (by simpa using hb) e) f0 f1 f3 f4 f5
  refine⟨_,rfl,FT (s:={ s with heap:=h',toks:=tk }) (n:="range_iterator") st' rfl rfl (by decide) ⟨.int (lo+i),H,I1,⟨t,?_⟩,⟨rfl,rfl⟩,st',fun b hb=>(hf b hb).1⟩⟩
  rw[Int.mul_one]
 done:=by
  intro X hP hw hK hc i pins s σ H E I hf st hg
  subst hP hw hK
  obtain⟨f0,f1,f2,f3,f4,f5⟩:=hf it (by simp)
  exact wpAny_pyNext_range_end (I.ok.hd hc) st (by have:n<=i:=hg;omega) fun h' eb=>⟨rfl,I.turned (t':=s.toks) (fun b o hb e=>eb b o hb e) f0 f1 f3 f4 f5⟩
 self:=fun _ _ _ _ _ st h=>wpAny_pyIter_rangeiter st h
section
variable {X:Cx}{tg:Expr}
theorem Ft{pins:List (Addr×Obj)}{σ:St}{H:Hp}{s:Shared}{R:It->Hp->Prop}{E:Value->Shared->Prop}{lo hi:Int}{t u v:Tok}{tk:Nat}(I:Inv X pins σ H s)(h1:-(2 ^ 62)<=lo)(h2:lo < 2 ^ 62)(h3:-(2 ^ 62)<=hi)(h4:hi < 2 ^ 62)
  (q:R (NA lo (hi - lo).toNat) H):wpAny (model X.prog X.w) X.A (pyIter (.ref s.heap.objs.size)) (OO X pins σ tg R) E { s with heap:=s.heap.push { cls:=.type "range",data:=.fields #[.int lo t,.int hi u,.int 1 v] },toks:=tk }:=by
 refine wpAny_pyIter_range (IsRange.new ..) (small_one h1 h2 h3 h4) ?_
 have I1:Inv X pins σ H { s with heap:=s.heap.push { cls:=.type "range",data:=.fields #[.int lo t,.int hi u,.int 1 v] },toks:=tk }:=I.kept fun b o e=>zV _ e
 refine⟨(s.heap.push { cls:=.type "range",data:=.fields #[.int lo t,.int hi u,.int 1 v] }).objs.size,[(s.heap.push { cls:=.type "range",data:=.fields #[.int lo t,.int hi u,.int 1 v] }).objs.size],_,_,H,rfl,
  I1.kept (t':=tk) fun b o e=>zV _ e,ze _ lo (hi - lo).toNat,?_,fun b hb=>?_,q⟩
 ·have e1:lo+((0:Nat):Int) * 1=lo:=by simp
  have e2:(((hi - lo).toNat:Nat):Int) - ((0:Nat):Int)=Builtin.Range.rangeSize lo hi 1:=by rw[rangeSize_one];split<;>omega
  show IsRangeIter _ _ (lo+((0:Nat):Int) * 1) ((((hi - lo).toNat:Nat):Int) - ((0:Nat):Int)) 1
  rw[e1,e2]
  exact zY _ rfl
 ·have e:b=(s.heap.push { cls:=.type "range",data:=.fields #[.int lo t,.int hi u,.int 1 v] }).objs.size:=by simpa using hb
  subst e
  exact I1.fpOk (Nat.le_refl _) (I1.hok.fresh (Nat.le_refl _))
def Nr(ta:TA):TI:=fun σ H R=>ta σ H fun vs H1=>∃j:Int,vs=[.int j]/\-(2 ^ 62)<=j/\j < 2 ^ 62/\R (NA 0 j.toNat) H1
theorem CZ{a:Expr}{ta:TA}{p pos:Pos}(hg:Gl X "range")(hm:X.mg "range"=none)(ha:PA X [a] ta)(hs:starEach [a] X.env=[(false,eval a X.env)]:=by rfl):PI X tg (.Call (.Name "range" p) [a] [] pos) (Nr ta):=by
 intro pins s σ H R I h
 refine Call_ (jr I hg hm boot_range (PyProof.Rows.callWith_type1 (ck (ha pos pins s σ H _ I h) fun us s1 ⟨vs,H1,I1,r1,q1⟩=>?_) hs rfl))
 obtain⟨j,e,q1,q2,q⟩:=q1
 subst e
 cases r1 with
 | cons r rr =>
  cases rr
  obtain⟨t,rfl⟩:=r
  exact call_range_1 (Ft I1 (by omega) (by omega) q1 q2 (by simpa using q))
def Og(wi:TI)(g:TG)(tb:TS):TS:=fun D σ H=>wi σ H fun J H1=>∃W:Nat->Nat->St->Hp->Prop,(∃m,W 0 m σ H1)/\∀i m σ H,W i m σ H ->
 (J.stop i H/\D.nx σ H)\/(J.go i H/\∃N:St->Hp->Prop,(∀σ' H',N σ' H'->∃m',m' < m/\W (i+1) m' σ' H')/\∀x H',J.yld i H x H'->g x σ H' fun σ2 H2=>tb { D with nx:=N,ct:=N,bk:=D.nx } σ2 H2)
noncomputable def nE(fp:List Addr)(h:Heap):List (Addr×Obj):=fp.filterMap fun b=>(h.get? b).map fun o=>(b,o)
theorem dH{fp:List Addr}{h:Heap}{b:Addr}{o:Obj}(hb:b∈fp)(e:h.get? b=some o):(b,o)∈nE fp h:=List.mem_filterMap.mpr ⟨b,hb,by rw[e];rfl⟩
theorem C6{fp:List Addr}{h:Heap}{p:Addr×Obj}(hp:p∈nE fp h):p.1∈fp/\h.get? p.1=some p.2:=by
 obtain⟨b,hb,e⟩:=List.mem_filterMap.mp hp
 cases q:h.get? b with
 | none=>rw[q] at e;cases e
 | some o =>
  rw[q] at e
  have e':(b,o)=p:=Option.some.inj e
  subst e'
  exact⟨hb,q⟩
theorem Inv.pinned{pins:List (Addr×Obj)}{σ:St}{H:Hp}{s:Shared}{fp:List Addr}(I:Inv X pins σ H s)(hf:∀b∈fp,cI X pins H b)(ho:∀b∈fp,∃o,s.heap.get? b=some o/\∀v,o.data≠.cell v):Inv X (pins++nE fp s.heap) σ H s :=
 I.pins_of fun p hp=>(List.mem_append.mp hp).elim (fun z=>I.pin p (yF _ z)) fun z=>by
  obtain⟨hb,e⟩:=C6 z
  obtain⟨f0,f1,f2,_⟩:=hf p.1 hb
  obtain⟨o,e',d⟩:=ho p.1 hb
  rw[e] at e';cases e'
  exact⟨e,f0,f1,f2,d⟩
theorem Inv.unpinned{pins pl:List (Addr×Obj)}{σ:St}{H:Hp}{s:Shared}(I:Inv X (pins++pl) σ H s):Inv X pins σ H s:=I.pins_of fun p hp=>I.pin p (yF _ (List.mem_append_left _ hp))
theorem K7{iter:Expr}{body:List Stmt}{wi:TI}{g:TG}{tb:TS}{pos:Pos}(hp:PassesOwn (model X.prog X.w) X.A X.env X.xe)(hc:X.calm=true)(hi:PI X tg iter wi)(hg:PG X tg g)(hb:zm X body tb)
  (hs:∀x,foldedSetIterable iter X.env x=pure x:=by intro _;rfl):PS X (.For tg iter body [] pos) (Og wi g tb):=by
 intro pins s σ H D I h
 refine wpAny_For (ck (hi pins s σ H _ I h) fun v s1 h1=>ck h1 fun itv s2 h2=>?_) hs
 obtain⟨it,fp,tn,J,H2,e,I2,T,st2,f2,W,⟨m0,w0⟩,turn⟩:=h2
 subst e
 have stat:∀ {H':Hp},(∀b∈fp,H' b=none)->∀b∈fp,cI X pins H' b:=fun hn b hb=>⟨hn b hb,(f2 b hb).2⟩
 refine codeAny_forLoop_any (fun n s'=>∃i σ' H',Inv X pins σ' H' s'/\tn i s'.heap/\(∀b∈fp,H' b=none)/\W i n σ' H') ?_ m0 ⟨0,σ,H2,I2,st2,fun b hb=>(f2 b hb).1,w0⟩
 rintro n s3 ⟨i,σ3,H3,I3,st3,fr3,w3⟩
 rcases turn i n σ3 H3 w3 with ⟨stop,qn⟩|⟨go,N,hN,step⟩
 ·refine wpAny_passesOwn hp (ck (T.done X rfl rfl rfl hc i pins s3 σ3 H3 X.xe I3 (stat fr3) st3 stop) fun r s4 ⟨hr,I4⟩=>?_)
  subst hr
  exact wpAny_execs_nil ⟨σ3,H3,I4,qn⟩
 ·refine wpAny_passesOwn hp (ck (T.item X rfl rfl rfl hc i pins s3 σ3 H3 X.xe I3 (stat fr3) st3 go) fun r s4 ⟨u,hr,h4⟩=>?_)
  subst hr
  refine wpAny_passesOwn hp (ck h4 fun _ s5 ⟨x,H5,I5,r5,y5,st5,fr5⟩=>?_)
  have I5':=I5.pinned (stat fr5) (T.obj _ _ st5)
  refine wpAny_passesOwn hp (ck (hg _ s5 σ3 H5 x u _ I5' r5 (step x H5 y5)) fun _ s6 ⟨σ6,H6,I6,q6⟩=>?_)
  refine wpAny_passesOwn hp (ck (hb _ s6 σ6 H6 _ I6 q6) fun f s7 q7=>?_)
  have again:∀ {σ7:St}{H7:Hp},Inv X (pins++nE fp s5.heap) σ7 H7 s7->N σ7 H7->∃m,m < n/\∃i σ' H',Inv X pins σ' H' s7/\tn i s7.heap/\(∀b∈fp,H' b=none)/\W i m σ' H':=fun {σ7 H7} I7 n7=>by
   obtain⟨m',hm,w7⟩:=hN σ7 H7 n7
   refine⟨m',hm,i+1,σ7,H7,I7.unpinned,T.keep _ _ _ st5 fun b hb o e=>(I7.pin (b,o) (yF _ (yF _ (dH hb e)))).1,fun b hb=>?_,w7⟩
   obtain⟨o,e,d⟩:=T.obj _ _ st5 b hb
   exact (I7.pin (b,o) (yF _ (yF _ (dH hb e)))).2.1
  cases f with
  | next=>obtain⟨σ7,H7,I7,n7⟩:=q7;exact again I7 n7
  | cont=>obtain⟨σ7,H7,I7,n7⟩:=q7;exact again I7 n7
  | brk=>obtain⟨σ7,H7,I7,q7⟩:=q7;exact⟨σ7,H7,I7.unpinned,q7⟩
  | ret v=>obtain⟨x7,σ7,H7,I7,r7,q7⟩:=q7;exact⟨x7,σ7,H7,I7.unpinned,r7,q7⟩
end
noncomputable abbrev R2:=V->V->Hp->VK->Prop
noncomputable def iz(X:Cx)(f:Value->Value->Sem Value)(r:R2):Prop :=
 ∀ (pins:List (Addr×Obj)) (s:Shared) (σ:St) (H:Hp) (x y:V) (v u:Value) (Q:VK),Inv X pins σ H s->RelV x v->RelV y u->r x y H Q ->
  wpAny (model X.prog X.w) X.A (f v u) (EP X pins σ Q) X.xe s
noncomputable def Ow(X:Cx)(f:Value->Sem Value)(r:V->Hp->VK->Prop):Prop :=
 ∀ (pins:List (Addr×Obj)) (s:Shared) (σ:St) (H:Hp) (x:V) (v:Value) (Q:VK),Inv X pins σ H s->RelV x v->r x H Q ->
  wpAny (model X.prog X.w) X.A (f v) (EP X pins σ Q) X.xe s
noncomputable def eA(X:Cx)(f:Value)(r:List V->Hp->VK->Prop):Prop :=
 ∀ (pins:List (Addr×Obj)) (s:Shared) (σ:St) (H:Hp) (xs:List V) (us:List Value) (Q:VK),Inv X pins σ H s->aF xs us->r xs H Q ->
  wpAny (model X.prog X.w) X.A (call f us) (EP X pins σ Q) X.xe s
def MS(r:R2)(ta tb:TE):TE:=fun σ H Q=>ta σ H fun x H1=>tb σ H1 fun y H2=>r x y H2 Q
def O5(r:V->Hp->VK->Prop)(ta:TE):TE:=fun σ H Q=>ta σ H fun x H1=>r x H1 Q
def rI(C:Int->Int->Prop)(g:Int->Int->V):R2:=fun x y H Q=>∃i j,x=.int i/\y=.int j/\C i j/\Q (g i j) H
def GC(g:Int->Int->V):R2:=fun x y H Q=>∃i j,x=.int i/\y=.int j/\Q (g i j) H
noncomputable def rU(g:Int->V):V->Hp->VK->Prop:=fun x H Q=>∃i,x=.int i/\Q (g i) H
section
variable {X:Cx}{a b c:Expr}{ta tb tc:TE}{pos:Pos}
theorem LQ(ha:PE X a ta)(hb:PE X b tb){pins:List (Addr×Obj)}{s:Shared}{σ:St}{H:Hp}{R:V->V->Hp->Prop}(I:Inv X pins σ H s)
  (h:ta σ H fun x H1=>tb σ H1 fun y H2=>R x y H2) {Q:Value->Shared->Prop}{f:Value->Value->Sem Value}
  (hf:∀v u s2 x y H2,Inv X pins σ H2 s2->RelV x v->RelV y u->R x y H2->wpAny (model X.prog X.w) X.A (f v u) Q X.xe s2) :
  wpAny (model X.prog X.w) X.A (eval a X.env) (fun v s₁=>wpAny (model X.prog X.w) X.A (eval b X.env) (fun u s₂=>wpAny (model X.prog X.w) X.A (f v u) Q X.xe s₂) X.xe s₁) X.xe s:=by
 refine ck (ha pins s σ H _ I h) fun v s1 ⟨x,H1,I1,r1,q1⟩=>?_
 refine ck (hb pins s1 σ H1 _ I1 q1) fun u s2 ⟨y,H2,I2,r2,q2⟩=>?_
 exact hf v u s2 x y H2 I2 r1 r2 q2
theorem EY{op:Operator}{r:R2}(ho:iz X (binaryOp op) r)(ha:PE X a ta)(hb:PE X b tb):PE X (.BinOp a op b pos) (MS r ta tb):=by
 intro pins s σ H Q I h
 exact wpAny_BinOp (LQ ha hb I h fun v u s2 x y H2 I2 rx ry q=>ho pins s2 σ H2 x y v u Q I2 rx ry q)
theorem FP{op:UnaryOp}{r:V->Hp->VK->Prop}(ho:Ow X (unaryOp op) r)(ha:PE X a ta):PE X (.UnaryOp op a pos) (O5 r ta):=by
 intro pins s σ H Q I h
 exact UnaryOp_ (ck (ha pins s σ H _ I h) fun v s1 ⟨x,H1,I1,r1,q1⟩=>ho pins s1 σ H1 x v Q I1 r1 q1)
theorem NQ{f:Value->Value->Sem Value}{C:Int->Int->Prop}{g:Int->Int->Int}
  (rule:∀ (i j:Int) (t u:Tok) (s:Shared) (Q:Value->Shared->Prop) (E:Value->Shared->Prop),C i j->Q (.int (g i j) s.toks) { s with toks:=s.toks+1 }->wpAny (model X.prog X.w) X.A (f (.int i t) (.int j u)) Q E s) :
  iz X f (rI C fun i j=>.int (g i j)):=by
 intro pins s σ H x y v u Q I rx ry h
 obtain⟨i,j,rfl,rfl,hc,q⟩:=h
 obtain⟨t,rfl⟩:=rx
 obtain⟨t',rfl⟩:=ry
 exact rule i j t t' s _ _ hc ⟨.int (g i j),H,I.tok _,⟨_,rfl⟩,q⟩
theorem MD{f:Value->Value->Sem Value}{g:Int->Int->Int}
  (rule:∀ (i j:Int) (t u:Tok) (s:Shared) (Q:Value->Shared->Prop) (E:Value->Shared->Prop),Q (.int (g i j) s.toks) { s with toks:=s.toks+1 }->wpAny (model X.prog X.w) X.A (f (.int i t) (.int j u)) Q E s) :
  iz X f (GC fun i j=>.int (g i j)):=by
 intro pins s σ H x y v u Q I rx ry h
 obtain⟨i,j,rfl,rfl,q⟩:=h
 obtain⟨t,rfl⟩:=rx
 obtain⟨t',rfl⟩:=ry
 exact rule i j t t' s _ _ ⟨.int (g i j),H,I.tok _,⟨_,rfl⟩,q⟩
theorem GX{f:Value->Value->Sem Value}{g:Int->Int->Bool}
  (rule:∀ (i j:Int) (t u:Tok) (s:Shared) (Q:Value->Shared->Prop) (E:Value->Shared->Prop),Q (.bool (g i j)) s->wpAny (model X.prog X.w) X.A (f (.int i t) (.int j u)) Q E s) :
  iz X f (GC fun i j=>.bl (g i j)):=by
 intro pins s σ H x y v u Q I rx ry h
 obtain⟨i,j,rfl,rfl,q⟩:=h
 obtain⟨t,rfl⟩:=rx
 obtain⟨t',rfl⟩:=ry
 exact rule i j t t' s _ _ ⟨.bl (g i j),H,I,rfl,q⟩
def Hw(i j:Int):Prop:=0 < j/\j < 1073741824
def vj(i j:Int):Prop:=(-(2 ^ 64) < i/\i < 2 ^ 64)\/(-(2 ^ 64) < j/\j < 2 ^ 64)
theorem vj.ok{i j:Int}(h:vj i j):IntMulOk i j:=by
 rcases h with ⟨h1,h2⟩|⟨h1,h2⟩
 ·exact .of_left (intBits_le_64 h1 h2)
 ·exact .of_right (intBits_le_64 h1 h2)
theorem L6:iz X (binaryOp .Add) (GC fun i j=>.int (i+j)):=MD fun _ _ _ _ _ _ _ q=>add_int q
theorem L8:iz X (binaryOp .Sub) (GC fun i j=>.int (i - j)):=MD fun _ _ _ _ _ _ _ q=>sub_int q
theorem JZ:iz X (binaryOp .Mult) (rI vj fun i j=>.int (i * j)):=NQ fun _ _ _ _ _ _ _ hc q=>mul_int q hc.ok
theorem Ja:iz X (binaryOp .FloorDiv) (rI Hw fun i j=>.int (i / j)):=NQ fun i j _ _ _ _ _ hc q=>by
 have h1:(0:Int) < j:=hc.1
 have h2:j < 1073741824:=hc.2
 exact floordiv_int (by omega) (by rw[Int.fdiv_eq_ediv_of_nonneg i (by omega)];exact q) (.inl (PyProof.noPylong_small (by omega)))
theorem Kg:iz X (binaryOp .Mod) (rI (fun _ j=>0 < j) fun i j=>.int (i % j)):=NQ fun i j _ _ _ _ _ hc q=>by
 have h1:(0:Int) < j:=hc
 exact mod_int' (by omega) (by rw[Int.fmod_eq_emod_of_nonneg i (by omega)];exact q)
theorem Pa{f:Value->Sem Value}{g:Int->Int}
  (rule:∀ (i:Int) (t:Tok) (s:Shared) (Q:Value->Shared->Prop) (E:Value->Shared->Prop),Q (.int (g i) s.toks) { s with toks:=s.toks+1 }->wpAny (model X.prog X.w) X.A (f (.int i t)) Q E s) :
  Ow X f (rU fun i=>.int (g i)):=by
 intro pins s σ H x v Q I rx h
 obtain⟨i,rfl,q⟩:=h
 obtain⟨t,rfl⟩:=rx
 exact rule i t s _ _ ⟨.int (g i),H,I.tok _,⟨_,rfl⟩,q⟩
theorem yv:Ow X (unaryOp .USub) (rU fun i=>.int (-i)):=Pa fun _ _ _ _ _ q=>neg_int q
end
section
variable {X:Cx}{a b c:Expr}{ta tb tc:TE}{pos:Pos}
theorem EU{pins:List (Addr×Obj)}{σ:St}{H:Hp}{s:Shared}{Q:VK}{k k':Bool}(I:Inv X pins σ H s)(q:Q (.bl k) H)(e:k=k'):EP X pins σ Q (.bool k') s:=by
 subst e
 exact⟨.bl k,H,I,rfl,q⟩
theorem Ei:iz X (compareOp .Lt) (GC fun i j=>.bl (decide (i < j))):=GX fun _ _ _ _ _ _ _ q=>lt_int q
theorem Gv:iz X (compareOp .LtE) (GC fun i j=>.bl (decide (i<=j))):=GX fun _ _ _ _ _ _ _ q=>le_int q
theorem JU:iz X (compareOp .Gt) (GC fun i j=>.bl (decide (j < i))):=GX fun _ _ _ _ _ _ _ q=>gt_int q
theorem Ju:iz X (compareOp .GtE) (GC fun i j=>.bl (decide (j<=i))):=GX fun _ _ _ _ _ _ _ q=>ge_int q
theorem Ee:iz X (compareOp .Is) (fun x y H Q=>y=.non/\Q (.bl (decide (x=.non))) H):=by
 intro pins s σ H x y v u Q I rx ry h
 obtain⟨rfl,q⟩:=h
 cases ry
 refine is_none_gen (EU I q ?_)
 cases x<;>first
  | (cases rx;rfl)
  | (obtain⟨t,rfl⟩:=rx;rfl)
theorem Bc:iz X (compareOp .IsNot) (fun x y H Q=>y=.non/\Q (.bl (!decide (x=.non))) H):=by
 intro pins s σ H x y v u Q I rx ry h
 obtain⟨rfl,q⟩:=h
 cases ry
 refine isnot_none_gen (EU I q ?_)
 cases x<;>first
  | (cases rx;rfl)
  | (obtain⟨t,rfl⟩:=rx;rfl)
theorem iz.or{f:Value->Value->Sem Value}{r r':R2}(h:iz X f r)(h':iz X f r'):iz X f (fun x y H Q=>r x y H Q\/r' x y H Q):=by
 intro pins s σ H x y v u Q I rx ry q
 rcases q with q|q
 ·exact h pins s σ H x y v u Q I rx ry q
 ·exact h' pins s σ H x y v u Q I rx ry q
theorem dq(b:Expr){op:CmpOp}(h:op≠.In:=by decide)(h2:op≠.NotIn:=by decide):behindInMarks op b=false:=by
 have e1:(op == CmpOp.In)=false:=by cases op<;>first|rfl|exact absurd rfl h
 have e2:(op == CmpOp.NotIn)=false:=by cases op<;>first|rfl|exact absurd rfl h2
 cases b<;>simp[behindInMarks,e1,e2]
theorem Hi{op:CmpOp}{r:R2}(ho:iz X (compareOp op) r)(ha:PE X a ta)(hb:PE X b tb)(hm:behindInMarks op b=false):PE X (.Compare a [op] [b] pos) (MS r ta tb):=by
 intro pins s σ H Q I h
 exact wpAny_Compare1 (LQ ha hb I h fun v u s2 x y H2 I2 rx ry q=>ho pins s2 σ H2 x y v u Q I2 rx ry q) hm
def Jv(t:TE):TT:=fun σ H Q=>t σ H fun x H'=>∃k,x=.bl k/\Q k H'
theorem HW{op:CmpOp}{r:R2}(ho:iz X (compareOp op) r)(ha:PE X a ta)(hb:PE X b tb)(hm:behindInMarks op b=false):PT X (.Compare a [op] [b] pos) (Jv (MS r ta tb)):=by
 intro pins s σ H Q I h
 refine wpAny_isTrue_Compare1 (ck (ha pins s σ H _ I h) fun v s1 ⟨x,H1,I1,r1,q1⟩=>ck (hb pins s1 σ H1 _ I1 q1) fun u s2 ⟨y,H2,I2,r2,q2⟩ =>
  ck (ho pins s2 σ H2 x y v u _ I2 r1 r2 q2) fun c s3 ⟨z,H3,I3,r3,k,e,q3⟩=>?_) hm
 subst e
 cases r3
 exact wpAny_truthy_bool ⟨H3,I3,q3⟩
def Ar(r r':R2)(ta tb tc:TE):TE:=fun σ H Q=>ta σ H fun x H1=>tb σ H1 fun y H2=>r x y H2 fun z H3=>∃k,z=.bl k /\
 (if k=true then tc σ H3 fun w' H4=>r' y w' H4 Q else Q (.bl false) H3)
theorem Gi{op op':CmpOp}{r r':R2}(ho:iz X (compareOp op) r)(ho':iz X (compareOp op') r')(ha:PE X a ta)(hb:PE X b tb)(hc:PE X c tc)
  (hm:lastMarks [op,op'] [b,c]=false:=by with_unfolding_all rfl):PE X (.Compare a [op,op'] [b,c] pos) (Ar r r' ta tb tc):=by
 intro pins s σ H Q I h
 refine Compare_chain (ck (ha pins s σ H _ I h) fun v s1 ⟨x,H1,I1,r1,q1⟩=>chain_link (ck (hb pins s1 σ H1 _ I1 q1) fun u s2 ⟨y,H2,I2,r2,q2⟩ =>
  ck (ho pins s2 σ H2 x y v u _ I2 r1 r2 q2) fun d s3 ⟨z,H3,I3,r3,k,e,q3⟩=>?_)) hm
 subst e
 cases r3
 refine wpAny_truthy_bool ?_
 cases k with
 | false=>exact ite_ff ⟨.bl false,H3,I3,rfl,q3⟩
 | true=>exact ite_tt (chain_last (ck (hc pins s3 σ H3 _ I3 q3) fun w' s4 ⟨z',H4,I4,r4,q4⟩=>ho' pins s4 σ H4 y z' u w' Q I4 r2 r4 q4))
theorem Ea{op op':CmpOp}{r r':R2}(ho:iz X (compareOp op) r)(ho':iz X (compareOp op') r')(ha:PE X a ta)(hb:PE X b tb)(hc:PE X c tc)
  (hm:lastMarks [op,op'] [b,c]=false:=by with_unfolding_all rfl):PT X (.Compare a [op,op'] [b,c] pos) (Jv (Ar r r' ta tb tc)):=by
 intro pins s σ H Q I h
 refine isTrue_chain (ck (ha pins s σ H _ I h) fun v s1 ⟨x,H1,I1,r1,q1⟩=>test_link (ck (hb pins s1 σ H1 _ I1 q1) fun u s2 ⟨y,H2,I2,r2,q2⟩ =>
  ck (ho pins s2 σ H2 x y v u _ I2 r1 r2 q2) fun d s3 ⟨z,H3,I3,r3,k,e,q3⟩=>?_)) hm
 subst e
 cases r3
 refine wpAny_truthy_bool ?_
 cases k with
 | false =>
  obtain⟨k',e',q'⟩:=q3
  cases e'
  exact ite_ff ⟨H3,I3,q'⟩
 | true =>
  refine ite_tt (test_last (ck (hc pins s3 σ H3 _ I3 q3) fun w' s4 ⟨z',H4,I4,r4,q4⟩=>ck (ho' pins s4 σ H4 y z' u w' _ I4 r2 r4 q4) fun d' s5 ⟨z2,H5,I5,r5,k2,e2,q5⟩=>?_))
  subst e2
  cases r5
  exact wpAny_truthy_bool ⟨H5,I5,q5⟩
theorem qu:(sizeLine:Nat) < 2 ^ 63:=by rw[sizeLine_eq];decide
theorem vals1{x:V}{us:List Value}(r:aF [x] us):∃u,us=[u]/\RelV x u:=by
 cases r with
 | cons r1 r2=>cases r2;exact⟨_,rfl,r1⟩
theorem vals2{x y:V}{us:List Value}(r:aF [x,y] us):∃u w',us=[u,w']/\RelV x u/\RelV y w':=by
 cases r with
 | cons r1 r2 =>
  cases r2 with
  | cons r3 r4=>cases r4;exact⟨_,_,rfl,r1,r3⟩
theorem De:eA X (.type "int") (fun xs H Q=>(∃i,xs=[.int i]/\Q (.int i) H)\/∃k,xs=[.bl k]/\Q (.int (if k then 1 else 0)) H):=by
 intro pins s σ H xs us Q I r h
 rcases h with ⟨i,rfl,q⟩|⟨k,rfl,q⟩
 ·obtain⟨u,rfl,t,rfl⟩:=vals1 r
  exact call_int_int ⟨.int i,H,I,⟨_,rfl⟩,q⟩
 ·obtain⟨u,rfl,r1⟩:=vals1 r
  cases r1
  exact call_int_bool ⟨.int (if k then 1 else 0),H,I.tok _,⟨_,rfl⟩,q⟩
end
section
variable {prog:Program}{w:World}{A:Around}{E:Value->Shared->Prop}{s:Shared}{K:W.Frag}{x dx C f:Addr}{mA:Str->Option Value}{name:Str}{v:Value}
end
section
variable {P:Program}{w:World}{H H':Hp}{h h':Heap}{a C dx:Addr}{fs fs':List (Str×V)}
end
section
variable {X:Cx}{pins:List (Addr×Obj)}{σ:St}{H:Hp}{s:Shared}{a C dx:Addr}{fs:List (Str×V)}{f:Str}{v:V}{A:Around}{E:Value->Shared->Prop}
end
section
variable {X:Cx}{o e value:Expr}{f:Str}{pos pos' tpos:Pos}{ta tv:TE}
end
section
variable {X:Cx}{pins:List (Addr×Obj)}{σ:St}{H:Hp}{s:Shared}{A:Around}{E:Value->Shared->Prop}{Q:Value->Shared->Prop}{c:Value}{b:Bool}
end
structure eP(k:Nat)(A:Around):Prop where
 hd:A.handled=none
 dp:A.depth+3 * k+5 < recursionLimit
 un:A.units+16 * k+200 < cLine
theorem eP.mono{j k:Nat}{A:Around}(r:eP k A)(h:j<=k):eP j A:=⟨r.hd,by have:=r.dp;omega,by have:=r.un;omega⟩
theorem eP.deeper{k:Nat}{A:Around}(r:eP (k+1) A)(env:Env):eP k (A.deeper env) :=
 ⟨r.hd,by have:=r.dp;show A.depth+1+3 * k+5 < _;omega,by have:=r.un;show A.units+3+16 * k+200 < _;omega⟩
theorem eP.in1{k:Nat}{A:Around}(r:eP (k+1) A):eP k A.in1 :=
 ⟨r.hd,by have:=r.dp;show A.depth+3 * k+5 < _;omega,by have:=r.un;show A.units+1+16 * k+200 < _;omega⟩
theorem eP.depth{k:Nat}{A:Around}(r:eP k A):A.depth < recursionLimit:=by have:=r.dp;omega
theorem eP.units{k:Nat}{A:Around}(r:eP k A):A.units+64 < cLine:=by have:=r.un;omega
theorem eP.units0{k:Nat}{A:Around}(r:eP k A):A.units < cLine:=by have:=r.un;omega
def OG:TA:=fun _ H Q=>Q [] H
def My(ta:TE)(tr:TA):TA:=fun σ H Q=>ta σ H fun x H1=>tr σ H1 fun xs H2=>Q (x::xs) H2
section
variable {X:Cx}{e:Expr}{es:List Expr}{te:TE}{t:TA}{pos:Pos}
theorem ip:PA X [] OG:=fun _ _ _ _ H Q I h=>Calls.spliced_nil ⟨[],H,I,.nil,h⟩
theorem dE(ha:PE X e te)(hr:PA X es t)(hs:starEach (e::es) X.env=(false,eval e X.env)::starEach es X.env:=by rfl):PA X (e::es) (My te t):=by
 intro pos pins s σ H Q I h
 rw[hs]
 show wpAny _ _ (spliced ((false,eval e X.env)::backTo pos (starEach es X.env))) _ _ s
 refine Calls.spliced_cons (ck (ha pins s σ H _ I h) fun u s1 ⟨x,H1,I1,r1,q1⟩=>?_)
 exact ck (hr pos pins s1 σ H1 _ I1 q1) fun us s2 ⟨xs,H2,I2,r2,q2⟩=>⟨x::xs,H2,I2,.cons r1 r2,q2⟩
def Ol(t:TA):TE:=fun σ H Q=>t σ H fun xs H1=>xs.length<=sizeLine/\∀p,H1 p=none->Q (.ref p) (upd H1 p (.tup xs))
def Ov(t:TA):TE:=fun σ H Q=>t σ H fun xs H1=>xs.length<=sizeLine/\∀p,H1 p=none->Q (.ref p) (upd H1 p (.lst xs))
theorem K1{x1}(h:PA X es t):PE X (.Tuple es x1 pos) (Ol t):=by
 intro pins s σ H Q I hq
 refine wpAny_Tuple_spliced (ck (h pos pins s σ H _ I hq) fun us s1 ⟨xs,H1,I1,r,z,q⟩=>⟨by rw[<- r.length];exact z,?_⟩)
 have hf:H1 s1.heap.objs.size=none:=I1.hok.fresh (Nat.le_refl _)
 refine⟨.ref s1.heap.objs.size,upd H1 s1.heap.objs.size (.tup xs),I1.laid (t':=s1.toks) (fun b u e=>zV _ e) (Nat.le_refl _) ?_,rfl,q _ hf⟩
 exact⟨z,us,r,⟨_,zY _ rfl,rfl,_,rfl⟩,_,zY _ rfl,rfl⟩
theorem K0(h:PA X es t):PE X (.List es pos) (Ov t):=by
 intro pins s σ H Q I hq
 refine wpAny_List_spliced (ck (h pos pins s σ H _ I hq) fun us s1 ⟨xs,H1,I1,r,z,q⟩=>⟨by rw[<- r.length];exact z,?_⟩)
 have hf:H1 s1.heap.objs.size=none:=I1.hok.fresh (Nat.le_refl _)
 refine⟨.ref s1.heap.objs.size,upd H1 s1.heap.objs.size (.lst xs),I1.laid (t':=s1.toks) (fun b u e=>zV _ e) (Nat.le_refl _) ?_,rfl,q _ hf⟩
 exact⟨z,us,0,r,zY _ rfl⟩
end
noncomputable abbrev Sp:=List V->Hp->VK->XK->Prop
noncomputable abbrev Dp:=List Env->Hp->Shared->XK->Value->Shared->Prop
structure Hj(P:Program)(w:World)(K:W.Frag)(mg:Str->Option Value)(base:Heap)(A:Around)(outer:List Env)(s:Shared)(H:Hp):Prop where
 frames:A.frames=some outer
 mod:Mod K mg base
 bs:∀b o,base.get? b=some o->s.heap.get? b=some o/\H b=none
 bsz:base.objs.size<=s.heap.objs.size
 funs:s.heap.FunFrames base outer
 frf:∀b∈Fs outer,H b=none
 hok:pe P w H s.heap
 bare:AllBare s.gens
noncomputable def CE(outer:List Env)(P:Program)(w:World)(H:Hp)(s:Shared)(Q:VK)(u:Value)(s':Shared):Prop :=
 ∃v H',s'.os=s.os/\AllBare s'.gens/\Un (Fs outer) [] H H' s.heap s'.heap/\pe P w H' s'.heap/\RelV v u/\Q v H'
noncomputable def CR(CX:Dp)(outer:List Env)(P:Program)(w:World)(H:Hp)(s:Shared)(Q:VK)(E:XK)(r:Result)(s':Shared):Prop :=
 match r with
 | .ok (.ret u)=>CE outer P w H s Q u s'
 | .ok _=>False
 | .error e=>CX outer H s E e s'
structure qs(P:Program)(w:World)(K:W.Frag)(mg:Str->Option Value)(base:Heap)(CX:Dp)(k:Nat)(f:Addr)(fd:FuncData)(ps:List Str)(sp:Sp):Prop where
 len:∀vs H Q E,sp vs H Q E->vs.length=ps.length
 run:∀ (A:Around) (outer:List Env) (s:Shared) (H:Hp) (args:Args) (us:List Value) (vs:List V) (Q:VK) (E:XK),eP k A->Hj P w K mg base A outer s H->BindsTo s fd args (ps.zip us)->aF vs us->sp vs H Q E ->
  codeAny (model P w) A (.call (.ref f) args) (CR CX outer P w H s Q E) s
theorem qs.mono{P:Program}{w:World}{K:W.Frag}{mg:Str->Option Value}{base:Heap}{CX:Dp}{j k:Nat}{f:Addr}{fd:FuncData}{ps:List Str}{sp:Sp}(F:qs P w K mg base CX j f fd ps sp)(h:j<=k) :
  qs P w K mg base CX k f fd ps sp:=⟨F.len,fun A outer s H args us vs Q E hr=>F.run A outer s H args us vs Q E (hr.mono h)⟩
section
variable {X:Cx}{pins:List (Addr×Obj)}{σ:St}{H:Hp}{s s':Shared}
theorem Inv.env0(I:Inv X pins σ H s):Hj X.prog X.w X.K X.mg X.base X.A X.stack s H :=
 ⟨I.ok.frames,I.ok.mod,I.bs,yE I.ok.bsz I.sz,I.stack,I.stkFree,I.hok,I.bare⟩
theorem Inv.after{Q:VK}{u:Value}(I:Inv X pins σ H s)(h:CE X.stack X.prog X.w H s Q u s'):EP X pins σ Q u s':=by
 obtain⟨v,H',os,bare,un,hok,r,q⟩:=h
 obtain⟨hh,g,d,t,os'⟩:=s'
 obtain rfl:os'=s.os:=os
 exact⟨v,H',I.call (h':=hh) (g':=g) (d':=d) (t':=t) (ch:=[]) un hok bare (fun b z=>absurd z (by simp)),r,q⟩
end
def M5(sp:Sp)(dvs:List V)(E:XK)(t:TA):TE:=fun σ H Q=>t σ H fun vs H1=>sp (vs++dvs) H1 Q E
noncomputable def Binds(K:W.Frag)(fd:FuncData)(ps:List Str)(ds:List Value):Prop :=
 ∀ (s:Shared) (us:List Value),K.In s.heap->(us++ds).length=ps.length->BindsTo s fd ⟨us,[]⟩ (ps.zip (us++ds))
theorem Binds.all{K:W.Frag}{fd:FuncData}{ps:List Str}(h:∀us:List Value,us.length=ps.length->bindArgs fd ⟨us,[]⟩=pure (ps.zip us)):Binds K fd ps []:=fun s us _ hl=>by
 rw[List.append_nil] at hl ⊢
 exact .of_eq (h us hl)
def y0(CX:Dp)(X:Cx)(E:XK):Prop:=∀ (pins:List (Addr×Obj)) (σ:St) (H:Hp) (s:Shared) (e:Value) (s':Shared),Inv X pins σ H s->CX X.stack H s E e s'->X.xe e s'
section
variable {X:Cx}{CX:Dp}{k:Nat}{f C:Addr}{fd:FuncData}{ps:List Str}{sp:Sp}{dvs:List V}{ds:List Value}{E:XK}{x m:Str}{p pos apos:Pos}{e o:Expr}{es:List Expr}{ta:TE}{t:TA}
theorem KF{pins:List (Addr×Obj)}{σ:St}{H:Hp}{s:Shared}{Q:VK}{us:List Value}{vs:List V}(F:qs X.prog X.w X.K X.mg X.base CX k f fd ps sp)(hr:eP k X.A)(hb:Binds X.K fd ps ds)(hd:aF dvs ds)(hx:y0 CX X E)
  (I:Inv X pins σ H s) (r:aF vs us) (h:sp (vs++dvs) H Q E):wpAny (model X.prog X.w) X.A (call (.ref f) us) (EP X pins σ Q) X.xe s:=by
 have r2:aF (vs++dvs) (us++ds):=r.append hd
 have hl:(us++ds).length=ps.length:=by rw[<- r2.length];exact F.len _ _ _ _ h
 refine wpAny_call (codeAny_mono (F.run X.A X.stack s H ⟨us,[]⟩ (us++ds) (vs++dvs) Q E hr I.env0 (hb s us I.kIn hl) r2 h) fun r s' hq=>?_)
 cases r with
 | error e=>exact hx pins σ H s e s' I hq
 | ok fl =>
  cases fl with
  | ret u=>exact I.after hq
  | next=>exact False.elim hq
  | brk=>exact False.elim hq
  | cont=>exact False.elim hq
theorem IG(F:qs X.prog X.w X.K X.mg X.base CX k f fd ps sp)(hr:eP k X.A)(hg:Gl X x)(hm:X.mg x=some (.ref f))(hk:W.keepIn X.K (.ref f)=true)(hb:Binds X.K fd ps ds)(hd:aF dvs ds)(hx:y0 CX X E)
  (ha:PA X (e::es) t) (hdb:(x == ("__debug__":Str))=false:=by decide) (he:starEach (e::es) X.env=(false,eval e X.env)::starEach es X.env:=by rfl) (hpl:(backTo pos (starEach es X.env)).any (·.1)=false:=by rfl) :
  PE X (.Call (.Name x p) (e::es) [] pos) (M5 sp dvs E t):=by
 intro pins s σ H Q I h
 refine wpAny_Call_Name_kw (Br I hg hm ?_ hdb)
 refine W.callWith_K (h₀:=X.base) I.ok.mod.kin hk (ck (ha pos pins s σ H _ I h) fun us s1 ⟨vs,H1,I1,r,q⟩=>⟨I1.kIn,?_⟩) he hpl
 exact KF F hr hb hd hx I1 r q
end
section
variable {X:Cx}{CX:Dp}{k:Nat}{f C:Addr}{fd:FuncData}{ps ks:List Str}{sp:Sp}{E:XK}{x m:Str}{p pos apos kpos:Pos}{e o:Expr}{es:List Expr}{kws:List Keyword}{te ta:TE}{t tk:TA}{nm:Option Str}
variable {g:List Value->List Value->List Value}{gV:List V->List V->List V}
end
structure fX(N P:List Str)(sc:Scope):Prop where
 kind:sc.kind=.function
 co:sc.isCoroutine=false
 gen:sc.isGenerator=false
 nd:N.Nodup
 pre:N.take P.length=P
 par:∀x∈P,sc.names.lookup x=some .local \/ sc.names.lookup x=some .cell
 nofree:∀y∈sc.names,y.2≠.free
theorem tH{kindOf:Str->Option NameKind}{x:Str}:∀ {binds:List (Str×Value)}{m:Str->Option Value},(∀v,(x,v)∉binds)->bindL kindOf binds m x=m x
 | [],_,_=>rfl
 | (n,v)::r,m,h=>by
  unfold bindL
  rw[tH fun w hw=>h w (zC _ hw)]
  split
  ·have:x≠n:=by rintro rfl;exact h v zE
   simp[this]
  ·rfl
theorem sA{kindOf:Str->Option NameKind}{x:Str}:∀ {binds:List (Str×Value)}{m:Str->Option Value},(∀v,(x,v)∉binds)->bindC kindOf binds m x=m x
 | [],_,_=>rfl
 | (n,v)::r,m,h=>by
  unfold bindC
  rw[sA fun w hw=>h w (zC _ hw)]
  split
  ·rfl
  ·have:x≠n:=by rintro rfl;exact h v zE
   simp[this]
theorem sM{kindOf:Str->Option NameKind}{x:Str}{v:Value}:∀ {P:List Str}{vs:List Value}{i:Nat}{m:Str->Option Value},P.Nodup->P[i]?=some x->vs[i]?=some v->kindOf x=some .local ->
  bindL kindOf (P.zip vs) m x=some v
 | [],_,_,_,_,h,_,_=>by simp at h
 | _::_,[],_,_,_,_,h,_=>by simp at h
 | p::P,w::vs,0,m,nd,h1,h2,hk=>by
  simp at h1 h2;subst h1;subst h2
  show bindL kindOf ((p,w)::P.zip vs) m p=_
  unfold bindL
  rw[tH fun v hv=>(List.nodup_cons.mp nd).1 (List.of_mem_zip hv).1,if_pos hk]
  simp
 | p::P,w::vs,i+1,m,nd,h1,h2,hk=>by
  show bindL kindOf ((p,w)::P.zip vs) m x=_
  unfold bindL
  exact sM (i:=i) (List.nodup_cons.mp nd).2 (by simpa using h1) (by simpa using h2) hk
theorem sY{kindOf:Str->Option NameKind}{x:Str}{v:Value}:∀ {P:List Str}{vs:List Value}{i:Nat}{m:Str->Option Value},P.Nodup->P[i]?=some x->vs[i]?=some v->kindOf x≠some .local ->
  bindC kindOf (P.zip vs) m x=some v
 | [],_,_,_,_,h,_,_=>by simp at h
 | _::_,[],_,_,_,_,h,_=>by simp at h
 | p::P,w::vs,0,m,nd,h1,h2,hk=>by
  simp at h1 h2;subst h1;subst h2
  show bindC kindOf ((p,w)::P.zip vs) m p=_
  unfold bindC
  rw[sA fun v hv=>(List.nodup_cons.mp nd).1 (List.of_mem_zip hv).1,if_neg hk]
  simp
 | p::P,w::vs,i+1,m,nd,h1,h2,hk=>by
  show bindC kindOf ((p,w)::P.zip vs) m x=_
  unfold bindC
  exact sY (i:=i) (List.nodup_cons.mp nd).2 (by simpa using h1) (by simpa using h2) hk
noncomputable def start(N:List Str)(vs:List V):St:=vs.map some++List.replicate (N.length - vs.length) none
noncomputable def B6(CX:Dp)(P:Program)(w:World)(K:W.Frag)(mg:Str->Option Value)(base:Heap)(N:List Str)(qual:Str)(scope:Scope)(f:Addr)(cd:Value)(A:Around)(outer:List Env)(s:Shared)(H:Hp)(E:XK):Cx where
 prog:=P
 w:=w
 K:=K
 mg:=mg
 base:=base
 A:=A.deeper (envOfC qual scope s.heap.objs.size f cd)
 N:=N
 s₀:=s
 H₀:=H
 env:=envOfC qual scope s.heap.objs.size f cd
 outer:=outer
 stack:=envOfC qual scope s.heap.objs.size f cd::outer
 ex:=[]
 calm:=true
 fn:=fun _=>true
 pn:=[]
 xe:=fun e s'=>wpAny (model P w) (A.deeper (envOfC qual scope s.heap.objs.size f cd)) (leaving (envOfC qual scope s.heap.objs.size f cd) e) (fun _ s''=>CX outer H s E e s'') (fun e' s''=>CX outer H s E e' s'') s'
theorem pG{sc:Scope}{n:Nat}{x:Str}(h:sc.names.lookup x=some .cell):∃c,(cellsFrom n sc.names []).lookup x=some c:=by
 have q:=W.cellsFrom_some sc.names n [] (.inl h)
 exact Option.isSome_iff_exists.mp q
theorem Da{CX:Dp}{P:Program}{w:World}{K:W.Frag}{mg:Str->Option Value}{base:Heap}{N ps:List Str}{qual:Str}{scope:Scope}{f:Addr}{cd:Value}{A:Around}{outer:List Env}{s s1:Shared}{H:Hp}{E:XK}{us:List Value}{vs:List V}
  (S:fX N ps scope) (hd:A.handled=none) (e0:Hj P w K mg base A outer s H) (hl:vs.length=ps.length) (r:aF vs us)
  (x:InCallC s s.heap.objs.size (bindL (envOfC qual scope s.heap.objs.size f cd).kindOf (ps.zip us) fun _=>none) (cellsFrom (s.heap.objs.size+1) scope.names []) (bindC (envOfC qual scope s.heap.objs.size f cd).kindOf (ps.zip us) fun _=>none) s1) :
  Inv (B6 CX P w K mg base N qual scope f cd A outer s H E) [] (start N vs) H s1:=by
 have hpl:ps.length<=N.length:=by have:=congrArg List.length S.pre;rw[List.length_take] at this;omega
 obtain⟨h1,tk,rfl,hk⟩:=x.done
 have noA:∀b:Addr,b∉(B6 CX P w K mg base N qual scope f cd A outer s H E).ex:=fun b z=>absurd (show b∈([]:List Addr) from z) (by simp)
 refine⟨⟨e0.mod,S.kind,rfl,rfl,Nat.le_refl _,fun y z c h1 h2=>?_,fun y hy=>?_,fun y c _ h=>?_,fun _=>hd,Around.frames_deeper e0.frames,.inr ⟨rfl,rfl⟩,fun b z=>absurd z (noA b),e0.bs,e0.bsz,fun b _ _=>noA b,fun b z=>absurd z (noA b),e0.funs,e0.frf⟩,
  rfl,e0.bare,Un.kept hk,⟨_,x.toInCall.ns,fun i y v h1 h2 h3=>?_⟩,fun y c h=>⟨_,x.cell y c h⟩,e0.hok.fresh (Nat.le_refl _),fun y c h=>?_,fun p hp=>absurd (show p∈([]:List (Addr×Obj)) from hp) (by simp),e0.hok.kept hk,?_⟩
 ·exact name_of_addr x.apart (PySem.mem_of_lookup h1) (PySem.mem_of_lookup h2)
 ·have hy:scope.names.lookup y=some .cell\/scope.names.lookup y=some .free:=hy
  rcases hy with hy|hy
  ·exact pG hy
  ·exact absurd rfl (S.nofree _ (PySem.mem_of_lookup hy))
 ·exact Nat.le_of_lt (x.above y c (PySem.mem_of_lookup h))
 ·have hi:i < vs.length:=by
   unfold start at h2
   by_cases hi:i < vs.length
   ·exact hi
   ·rw[List.getElem?_append_right (by simpa using hi)] at h2
    rw[List.getElem?_replicate] at h2
    split at h2<;>cases h2
  have ha:vs[i]?=some v:=by
   unfold start at h2
   rw[List.getElem?_append_left (by simpa using hi),zO] at h2
   cases e:vs[i]? with
   | none=>rw[e] at h2;cases h2
   | some a=>rw[e] at h2;cases h2;rfl
  obtain⟨u,hu,rv⟩:=r.get ha
  have hp:ps[i]?=some y:=by
   rw[<- S.pre,List.getElem?_take_of_lt (by omega)];exact h1
  have ndP:ps.Nodup:=by rw[<- S.pre];exact S.nd.sublist (List.take_sublist _ _)
  refine⟨u,rv,?_⟩
  rcases S.par y (List.mem_of_getElem? hp) with k|k
  ·exact .inl ⟨k,sM ndP hp hu k⟩
  ·obtain⟨c,e⟩:=pG (n:=s.heap.objs.size+1) k
   refine .inr ⟨.inl k,c,e,?_⟩
   have q:=x.cell y c e
   rw[sY ndP hp hu (by show scope.names.lookup y≠_;rw[k];decide)] at q
   exact q
 ·exact e0.hok.fresh (Nat.le_of_lt (x.above y c (PySem.mem_of_lookup h)))
 ·unfold start
  show _=N.length
  rw[zN,zD,List.length_replicate]
  omega
theorem M0{CX:Dp}{P:Program}{w:World}{K:W.Frag}{mg:Str->Option Value}{base:Heap}{k:Nat}{f:Addr}{name qual:Str}{params:Arguments}{body:List Stmt}{scope:Scope}{dV kV doc pm cdv ct oc:Value}{an od:Option Addr}
  {osl:Array (Option Value)}{N ps:List Str}{sp:Sp}(lk:K.lookup f=some ⟨oc,od,.func (W.fnOf name qual params body scope dV kV doc pm an cdv ct),osl⟩) (hcd:W.codeIn K cdv qual=true) (S:fX N ps scope)
  (len:∀vs H Q E,sp vs H Q E->vs.length=ps.length)
  (hbody:∀ (A:Around) (outer:List Env) (s:Shared) (H:Hp) (vs:List V) (Q:VK) (E:XK),eP k (A.deeper (envOfC qual scope s.heap.objs.size f cdv))->sp vs H Q E ->
   ∃t,zm (B6 CX P w K mg base N qual scope f cdv A outer s H E) body t/\t { nx:=fun _ H'=>Q .non H',rt:=Q } (start N vs) H) :
  qs P w K mg base CX (k+1) f (W.fnOf name qual params body scope dV kV doc pm an cdv ct) ps sp:=by
 refine⟨len,fun A outer s H args us vs Q E hr e0 hb r hsp=>?_⟩
 have hl:=len _ _ _ _ hsp
 have KX:K.In s.heap:=e0.mod.kin.keeps fun b o e=>(e0.bs b o e).1
 have lim:s.heap.NoLimit:=e0.mod.nolimit.keeps fun b o e=>(e0.bs b o e).1
 have hkind:∀y∈ps.zip us,scope.names.lookup y.1=some .local \/ (scope.names.lookup y.1=some .cell/\((cellsFrom (s.heap.objs.size+1) scope.names []).lookup y.1).isSome=true):=fun ⟨n,v⟩ hy=>by
  rcases S.par n (List.of_mem_zip hy).1 with q|q
  ·exact .inl q
  ·exact .inr ⟨q,W.cellsFrom_some _ _ _ (.inl q)⟩
 refine codeAny_call_function hr.depth (KX _ _ lk) rfl S.co S.gen rfl (W.codeRec_of KX hcd) (hb _ _ _ _ ?_)
 refine wpAny_newFunctionEnv_cells S.kind hkind fun env he s1 x=>?_
 subst he
 refine⟨lim.keeps x.toInCall.keep,codeAny_func ?_⟩
 obtain⟨t,ht,hq⟩:=hbody A outer s H vs Q E (hr.deeper _) hsp
 have I:Inv (B6 CX P w K mg base N qual scope f cdv A outer s H E) [] (start N vs) H s1:=Da S hr.hd e0 hl r x
 refine wpAny_mono (ht [] s1 (start N vs) H _ I hq) (fun fl s' hs=>?_) fun e s' hs=>hs
 have fin:∀ {σ':St}{H':Hp}{v:V}{u:Value},Inv (B6 CX P w K mg base N qual scope f cdv A outer s H E) [] σ' H' s'->RelV v u->Q v H'->CE outer P w H s Q u s' :=
  fun {σ' H' v u} J rv q=>⟨v,H',J.os,J.bare,J.base,J.hok,rv,q⟩
 cases fl with
 | ret u =>
  obtain⟨v,σ',H',J,rv,q⟩:=hs
  exact fin J rv q
 | next =>
  obtain⟨σ',H',J,q⟩:=hs
  exact fin (v:=V.non) (u:=Value.none) J rfl q
 | brk =>
  obtain⟨_,_,_,q⟩:=hs
  exact False.elim q
 | cont =>
  obtain⟨_,_,_,q⟩:=hs
  exact False.elim q
section
variable {X:Cx}{x:Str}{p pos:Pos}{e:Expr}{es:List Expr}{t:TA}{id T:String}{r:List V->Hp->VK->Prop}
def NK(r:List V->Hp->VK->Prop)(t:TA):TE:=fun σ H Q=>t σ H fun vs H1=>r vs H1 Q
theorem mr(hc:eA X (.builtin id) r)(hg:Gl X x)(hm:X.mg x=none)(hv:bootBuiltins x=some (.builtin id))(ha:PA X (e::es) t)(hn:x≠"__name__":=by decide)(hdb:(x == ("__debug__":Str))=false:=by decide)
  (he:starEach (e::es) X.env=(false,eval e X.env)::starEach es X.env:=by rfl) (hpl:(backTo pos (starEach es X.env)).any (·.1)=false:=by rfl):PE X (.Call (.Name x p) (e::es) [] pos) (NK r t):=by
 intro pins s σ H Q I h
 refine wpAny_Call_Name_kw (jr I hg hm hv ?_ hn hdb)
 exact PyProof.Rows.callWith_builtin1 (ck (ha pos pins s σ H _ I h) fun us s1 ⟨vs,H1,I1,r1,q1⟩=>hc pins s1 σ H1 vs us Q I1 r1 q1) he hpl
theorem mT(hc:eA X (.type T) r)(hg:Gl X x)(hm:X.mg x=none)(hv:bootBuiltins x=some (.type T))(ha:PA X (e::es) t)(hn:x≠"__name__":=by decide)(hdb:(x == ("__debug__":Str))=false:=by decide)
  (he:starEach (e::es) X.env=(false,eval e X.env)::starEach es X.env:=by rfl) (hpl:(backTo pos (starEach es X.env)).any (·.1)=false:=by rfl):PE X (.Call (.Name x p) (e::es) [] pos) (NK r t):=by
 intro pins s σ H Q I h
 refine wpAny_Call_Name_kw (jr I hg hm hv ?_ hn hdb)
 exact PyProof.Rows.callWith_type1 (ck (ha pos pins s σ H _ I h) fun us s1 ⟨vs,H1,I1,r1,q1⟩=>hc pins s1 σ H1 vs us Q I1 r1 q1) he hpl
end
end L2
namespace HT
open PySem PyProof.Rows
noncomputable def lexLt:List Int->List Int->Bool
 | [],[]=>false
 | [],_::_=>true
 | _::_,[]=>false
 | x::xs,y::ys=>if x=y then lexLt xs ys else decide (x < y)
theorem dI(x y:Int)(xs ys:List Int):lexLt (x::xs) (y::ys)=if x=y then lexLt xs ys else decide (x < y):=rfl
theorem rG:lexLt [] []=false:=rfl
theorem pW(y:Int)(ys:List Int):lexLt [] (y::ys)=true:=rfl
theorem pP(x:Int)(xs:List Int):lexLt (x::xs) []=false:=rfl
theorem EF(A:Around)(s:Shared)(a:Int)(t:Tok)(c:Int)(u:Tok):∃e,SeqAt.EqAt A s (.int a t) (.int c u) e/\(e=true↔a=c) :=
 ⟨(a == c),SeqAt.EqAt.int_int a t c u,by simp⟩
section
open PySem.SeqAt
open PySem.AutoSeq1 (wpAny_loadPart')
open PySem.MeetsSeq PySem.MeetsSeq2 PySem.MeetsSeq3
end
section
variable {prog:Program}{w:World}{A:Around}{E:Value->Shared->Prop}{s:Shared}
theorem G6{t b:Addr}{vs ws:List Value}{Q:Value->Shared->Prop}(ht:IsTup s.heap t vs.toArray)(hb:IsTup s.heap b ws.toArray)(hv:vs≠[])
  (h1:ws=[]->Q (.ref t) s) (h2:ws≠[]->Q (.ref s.heap.objs.size) { s with heap:=s.heap.push { cls:=.type "tuple",data:=.seq (vs++ws).toArray } })
  (hsz:vs.length+ws.length<=sizeLine):wpAny (model prog w) A (binaryOp .Add (.ref t) (.ref b)) Q E s:=by
 obtain⟨⟨cls,dd,data,sl⟩,ho,hc,n,hd⟩:=id ht
 obtain⟨⟨cls2,dd2,data2,sl2⟩,ho2,hc2,n2,hd2⟩:=id hb
 simp only at hc hd hc2 hd2
 subst hc hd hc2 hd2
 have e:vs.toArray++ws.toArray=(vs++ws).toArray:=by simp
 by_cases hw:ws=[]
 ·exact concat_meets ⟨_,ho,rfl⟩ ⟨_,ho2,rfl⟩ noFill_tuple_add seq_tuple_add PySem.F.slot_tuple_add PySem.F.entry_tuple_add (PySem.F.args_tuple_add_2 _ _)
   (tuple_addW1 t b vs.toArray ws.toArray n n2 dd dd2 sl sl2 (by simpa using hv) (by simp[hw])) ⟨ho,ho2,h1 hw⟩
 ·refine concat_meets ⟨_,ho,rfl⟩ ⟨_,ho2,rfl⟩ noFill_tuple_add seq_tuple_add PySem.F.slot_tuple_add PySem.F.entry_tuple_add (PySem.F.args_tuple_add_2 _ _)
   (tuple_addW2 t b vs.toArray ws.toArray n n2 dd dd2 sl sl2 (by simpa using hv) (by simpa using hw) (by rw[zH,zH];exact hsz)) ⟨ho,ho2,?_⟩
  rw[e]
  exact h2 hw
noncomputable def dS(n d:Nat):Option Int->Nat
 | none=>d
 | some v=>if v < 0 then (v+(n:Int)).toNat else min v.toNat n
theorem vT(n d:Nat):dS n d none=d:=rfl
theorem BF(n d k:Nat):dS n d (some (k:Int))=min k n:=by
 show (if (k:Int) < 0 then ((k:Int)+(n:Int)).toNat else min (k:Int).toNat n)=min k n
 rw[if_neg (by omega),yH]
theorem Lc(n d:Nat)(hd:d<=n)(o:Option Int):dS n d o<=n:=by
 cases o with
 | none=>exact hd
 | some v =>
  show (if v < 0 then (v+(n:Int)).toNat else min v.toNat n)<=n
  by_cases hv:v < 0
  ·rw[if_pos hv];omega
  ·rw[if_neg hv];exact Nat.min_le_right _ _
theorem Ba(v:Int)(n d:Nat):(if v < 0 then max (v+(n:Int)) 0 else min v (n:Int))=((dS n d (some v):Nat):Int):=by
 show (if v < 0 then max (v+(n:Int)) 0 else min v (n:Int))=(((if v < 0 then (v+(n:Int)).toNat else min v.toNat n):Nat):Int)
 by_cases hv:v < 0
 ·simp only[if_pos hv];omega
 ·simp only[if_neg hv];omega
theorem yT(lo hi:Option Int)(n:Nat):Builtin.Slice.sliceAdjust lo hi 1 (n:Int)=(((dS n 0 lo:Nat):Int),((dS n n hi:Nat):Int)):=by
 have h1:¬ ((1:Int) < 0):=by omega
 unfold Builtin.Slice.sliceAdjust
 simp only[h1,if_false]
 refine Prod.ext ?_ ?_
 ·cases lo with
  | none=>rfl
  | some v=>exact Ba v n 0
 ·cases hi with
  | none=>rfl
  | some v=>exact Ba v n n
theorem za(i j:Nat):Builtin.Slice.slicePlaces (i:Int) (j:Int) 1=j - i:=by
 unfold Builtin.Slice.slicePlaces
 have h1:(1:Int) > 0:=by omega
 simp only[h1,if_true,Int.ediv_one]
 split<;>omega
theorem qN{v:Value}{o:Option Int}{Q:Option Int->Shared->Prop}(p:IsPart v o)(h:Q o s):wpAny (model prog w) A (Builtin.Slice.slicePartIndex v) Q E s:=by
 cases p with
 | none=>exact slicePart_none h
 | int i t=>exact slicePart_int h
theorem iF{sl:Addr}{vl vu:Value}{lo hi:Option Int}{n:Nat}{Q:Int×Int×Nat->Shared->Prop}(hs:s.heap.IsSliceOf sl vl vu .none)(pl:IsPart vl lo)(pu:IsPart vu hi)
  (h:Q (((dS n 0 lo:Nat):Int),1,dS n n hi - dS n 0 lo) s):wpAny (model prog w) A (Builtin.Slice.sliceApplied (.ref sl) (pure (n:Int))) Q E s:=by
 obtain⟨os,hos,hcs,hds⟩:=id hs
 unfold Builtin.Slice.sliceApplied Builtin.Slice.sliceFields
 refine zW (zW (wpAny_field hos hds (x:=vl) rfl (zW (wpAny_field hos hds (x:=vu) rfl (zW (wpAny_field hos hds (x:=.none) rfl (zX ?_)))))))
 refine zW (slicePart_none ?_)
 show wpAny _ _ (if ((1:Int) == 0)=true then _ else _) _ _ s
 rw[if_neg (by decide)]
 refine zW (qN pl (zW (qN pu (zW (zX ?_)))))
 show wpAny _ _ (match Builtin.Slice.sliceAdjust lo hi 1 (n:Int) with|(lo,hi)=>pure (lo,(1:Int),Builtin.Slice.slicePlaces lo hi 1)) _ _ s
 rw[yT lo hi n]
 show wpAny _ _ (pure (((dS n 0 lo:Nat):Int),(1:Int),Builtin.Slice.slicePlaces ((dS n 0 lo:Nat):Int) ((dS n n hi:Nat):Int) 1)) _ _ s
 rw[za]
 exact zX h
theorem EZ(xs:Array Value)(i k:Nat):((List.range k).filterMap fun (m:Nat)=>xs[((i:Int)+(m:Int) * 1).toNat]?).toArray=((xs.toList.drop i).take k).toArray:=by
 have e:(fun (m:Nat)=>xs[((i:Int)+(m:Int) * 1).toNat]?)=fun m=>xs[i+m]?:=by
  funext m
  have:((i:Int)+(m:Int) * 1).toNat=i+m:=by omega
  rw[this]
 rw[e]
 have:=pick_run xs i k
 rw[List.filterMap_map] at this
 have e2:((fun x=>xs[x]?) ∘ fun x=>i+x)=fun m=>xs[i+m]?:=rfl
 rw[e2] at this
 rw[this]
theorem mw{t sl:Addr}{items:Array Value}{vl vu:Value}{lo hi:Option Int}{Q:Value->Shared->Prop}(ht:IsTup s.heap t items)(hs:s.heap.IsSliceOf sl vl vu .none)(pl:IsPart vl lo)(pu:IsPart vu hi)
  (hw:¬ (dS items.size 0 lo=0/\dS items.size items.size hi=items.size))
  (h:Q (.ref s.heap.objs.size) { s with heap:=s.heap.push { cls:=.type "tuple",data:=.seq ((items.toList.drop (dS items.size 0 lo)).take (dS items.size items.size hi - dS items.size 0 lo)).toArray } })
  (hsz:items.size<=sizeLine):wpAny (model prog w) A (getItem (.ref t) (.ref sl)) Q E s:=by
 have htake:sizeOk (.seq ((items.toList.drop (dS items.size 0 lo)).take (dS items.size items.size hi - dS items.size 0 lo)).toArray):=by
  show ((items.toList.drop (dS items.size 0 lo)).take (dS items.size items.size hi - dS items.size 0 lo)).toArray.size<=sizeLine
  rw[zH,List.length_take,List.length_drop,Array.length_toList]
  omega
 have hj:dS items.size items.size hi<=items.size:=Lc _ _ (Nat.le_refl _) hi
 obtain⟨os,hos,hcs,hds⟩:=id hs
 have hTs:s.TypeIs (.ref sl) "slice":=⟨os,hos,hcs⟩
 unfold getItem
 try with_reducible refine wpAny_holding ?_
 first|refine zW (zX ?_)|skip
 refine zW (wpAny_sequenceKey ht.typeIs (by decide) ?_)
 refine zW (wpAny_callSpecial?_slot (name:=Str.ofString "__getitem__") ht.typeIs PyProof.Rows.slot_tuple_getitem
  (wpAny_call_entry PyProof.Rows.slot_tuple_getitem ht.typeIs entry_tuple_getitem ?_ (args_tuple_getitem _ _)))
 show wpAny _ _ (Builtin.Tuple.tupleItemsOf (.ref t) >>= _) _ _ s
 refine zW (tupleItemsOf_ ht ?_)
 refine zW (wpAny_typeOf hTs ?_)
 rw[if_pos (by decide)]
 refine zW (iF hs pl pu ?_)
 have hno:¬ ((((dS items.size 0 lo:Nat):Int) == 0&&(1:Int) == 1&&(dS items.size items.size hi - dS items.size 0 lo) == items.size)=true):=by
  intro q
  rw[zF,zF] at q
  have q1:((dS items.size 0 lo:Nat):Int)=0:=eq_of_beq q.1.1
  have q2:dS items.size items.size hi - dS items.size 0 lo=items.size:=eq_of_beq q.2
  exact hw ⟨by omega,by omega⟩
 show wpAny _ _ (if (((dS items.size 0 lo:Nat):Int) == 0&&(1:Int) == 1&&(dS items.size items.size hi - dS items.size 0 lo) == items.size)=true then _ else _) _ _ s
 rw[if_neg hno,EZ]
 first
  | exact zW (m:=Builtin.Tuple.tupleExact _) (wpAny_newObj_type (zX ⟨_,rfl,zX h⟩) htake)
  | exact zW (m:=Builtin.Tuple.tupleExact _) (wpAny_newObj_type (zW (zX (zX ⟨_,rfl,zX h⟩))) htake)
  | exact zW (zW (m:=Builtin.Tuple.tupleExact _) (wpAny_newObj_type (zX (zX ⟨_,rfl,zX h⟩)) htake))
  | exact zW (zW (m:=Builtin.Tuple.tupleExact _) (wpAny_newObj_type (zX ⟨_,rfl,zX h⟩) htake))
end
end HT
namespace L2
open PySem PySem.Spec PyProof.Rows
noncomputable abbrev TO:=St->Hp->(Option Int->Hp->Prop)->Prop
noncomputable def PO(X:Cx)(e:Option Expr)(t:TO):Prop :=
 ∀ (pins:List (Addr×Obj)) (s:Shared) (σ:St) (H:Hp) (Q:Option Int->Hp->Prop),Inv X pins σ H s->t σ H Q ->
  wpAny (model X.prog X.w) X.A (evalPart e X.env) (fun u s'=>∃o H',Inv X pins σ H' s'/\IsPart u o/\Q o H') X.xe s
def Jp:TO:=fun _ H Q=>Q none H
def Nx(t:TE):TO:=fun σ H Q=>t σ H fun x H1=>∃i,x=.int i/\Q (some i) H1
theorem intsAre_of{ns:List Int}:∀ {us:List Value},aF (ns.map V.int) us->IntsAre us ns:=by
 induction ns with
 | nil=>intro us r;rw[List.map_nil] at r;cases r;exact .nil
 | cons n ns ih =>
  intro us r
  rw[zI] at r
  cases r with
  | cons r1 r2 =>
   obtain⟨t,e⟩:=r1
   subst e
   exact .cons n t (ih r2)
section
variable {X:Cx}{e:Expr}{te:TE}{lo hi:Option Expr}{tl th:TO}{pos p2:Pos}
theorem Hn:PO X none Jp:=by
 intro pins s σ H Q I h
 rw[evalPart_none]
 exact zX ⟨none,H,I,.none,h⟩
theorem oW(h:PE X e te):PO X (some e) (Nx te):=by
 intro pins s σ H Q I hw
 rw[evalPart_some]
 refine ck (h pins s σ H _ I hw) fun u s1 ⟨x,H1,I1,r1,q1⟩=>?_
 obtain⟨i,rfl,q⟩:=q1
 obtain⟨t,rfl⟩:=r1
 exact⟨some i,H1,I1,.int i t,q⟩
noncomputable def JK(X:Cx)(r:V->Option Int->Option Int->Hp->VK->Prop):Prop :=
 ∀ (pins:List (Addr×Obj)) (s:Shared) (σ:St) (H:Hp) (x:V) (v vl vu:Value) (lo hi:Option Int) (sl:Addr) (Q:VK),Inv X pins σ H s->RelV x v->s.heap.IsSliceOf sl vl vu .none->IsPart vl lo->IsPart vu hi->r x lo hi H Q ->
  ∃T id,typeLookup (.type T) "__getitem__"=pure (some (.builtin id))/\s.TypeIs v T/\wpAny (model X.prog X.w) X.A (getItem v (.ref sl)) (EP X pins σ Q) X.xe s
theorem JK.or{r r':V->Option Int->Option Int->Hp->VK->Prop}(h:JK X r)(h':JK X r'):JK X (fun x lo hi H Q=>r x lo hi H Q\/r' x lo hi H Q):=by
 intro pins s σ H x v vl vu lo hi sl Q I rx hs pl pu q
 rcases q with q|q
 ·exact h pins s σ H x v vl vu lo hi sl Q I rx hs pl pu q
 ·exact h' pins s σ H x v vl vu lo hi sl Q I rx hs pl pu q
def Pd(r:V->Option Int->Option Int->Hp->VK->Prop)(te:TE)(tl th:TO):TE:=fun σ H Q=>te σ H fun x H1=>tl σ H1 fun l H2=>th σ H2 fun u H3=>r x l u H3 Q
theorem Fm{r:V->Option Int->Option Int->Hp->VK->Prop}(hr:JK X r)(he:PE X e te)(hl:PO X lo tl)(hu:PO X hi th):PE X (.Subscript e (.Slice lo hi none p2) pos) (Pd r te tl th):=by
 intro pins s σ H Q I h
 refine Subscript_ (ck (he pins s σ H _ I h) fun v s1 ⟨x,H1,I1,r1,q1⟩=>?_)
 refine wpAny_Slice (ck (hl pins s1 σ H1 _ I1 q1) fun vl s2 ⟨l,H2,I2,pl,q2⟩=>ck (hu pins s2 σ H2 _ I2 q2) fun vu s3 ⟨u,H3,I3,pu,q3⟩=>?_)
 rw[evalPart_none]
 refine zX ?_
 have I4:Inv X pins σ H3 { s3 with heap:=s3.heap.push { cls:=.type "slice",data:=.fields #[vl,vu,.none] } }:=I3.kept (t':=s3.toks) fun b ob q=>zV _ q
 obtain⟨T,id,hT,ht,hg⟩:=hr pins { s3 with heap:=s3.heap.push { cls:=.type "slice",data:=.fields #[vl,vu,.none] } } σ H3 x v vl vu l u s3.heap.objs.size Q I4 r1 (Heap.IsSliceOf.new ..) pl pu q3
 show wpAny (model X.prog X.w) X.A (subscriptTail e (.Slice lo hi none p2) v (.ref s3.heap.objs.size)) (EP X pins σ Q) X.xe { s3 with heap:=s3.heap.push { cls:=.type "slice",data:=.fields #[vl,vu,.none] } }
 exact tail_any (ops:=[.ref s3.heap.objs.size,v]) ht hT hg (by with_unfolding_all rfl)
noncomputable def HH(xs:List V)(lo hi:Option Int):List V:=(xs.drop (HT.dS xs.length 0 lo)).take (HT.dS xs.length xs.length hi - HT.dS xs.length 0 lo)
theorem wW(xs:List V)(lo hi:Option Int):(HH xs lo hi).length<=xs.length:=by
 unfold HH
 rw[List.length_take,List.length_drop]
 omega
noncomputable def N0(K:W.Frag):V->Option Int->Option Int->Hp->VK->Prop:=fun x lo hi H Q=>∃a xs,x=.ref a/\ju K H a xs /\
 ¬ (HT.dS xs.length 0 lo=0/\HT.dS xs.length xs.length hi=xs.length)/\∀p,H p=none->Q (.ref p) (upd H p (.tup (HH xs lo hi)))
theorem KQ:JK X (N0 X.K):=by
 intro pins s σ H x v vl vu lo hi sl Q I rx hs pl pu h
 obtain⟨a,xs,rfl,hx,hw,q⟩:=h
 cases rx
 obtain⟨its,r,ht,hz⟩:=I.tuple hx
 have hlen:its.toArray.size=xs.length:=by rw[zH];exact r.length.symm
 refine⟨"tuple",_,PyProof.Rows.slot_tuple_getitem.lookup,ht.typeIs,?_⟩
 refine HT.mw ht hs pl pu (by rw[hlen];exact hw) ?_ (by rw[hlen];exact hz)
 rw[hlen]
 refine⟨.ref s.heap.objs.size,_,I.laid (t':=s.toks) (o:=.tup (HH xs lo hi)) (fun b ob q=>zV _ q) (Nat.le_refl _) ?_,rfl,q _ (I.hok.fresh (Nat.le_refl _))⟩
 exact⟨yE (wW xs lo hi) hz,_,(r.drop (HT.dS xs.length 0 lo)).take (HT.dS xs.length xs.length hi - HT.dS xs.length 0 lo),m7.new _ _⟩
def Mq(K:W.Frag):R2:=fun x y H Q=>∃a b xs ys,x=.ref a/\y=.ref b/\ju K H a xs/\ju K H b ys/\xs≠[]/\xs.length+ys.length<=sizeLine /\
 (ys=[]->Q (.ref a) H)/\(ys≠[]->∀p,H p=none->Q (.ref p) (upd H p (.tup (xs++ys))))
theorem aF.nil_iff{xs:List V}{us:List Value}(r:aF xs us):us=[]↔xs=[]:=by
 cases r with
 | nil=>simp
 | cons _ _=>simp
theorem HJ:iz X (binaryOp .Add) (Mq X.K):=by
 intro pins s σ H x y v u Q I rx ry h
 obtain⟨a,b,xs,ys,rfl,rfl,ha,hb,hx,hz,q1,q2⟩:=h
 cases rx
 cases ry
 obtain⟨its,r1,p1,_⟩:=I.tuple ha
 obtain⟨its2,r2,p2,_⟩:=I.tuple hb
 refine HT.G6 p1 p2 (fun z=>hx (r1.nil_iff.mp z)) (fun z=>⟨.ref a,H,I,rfl,q1 (r2.nil_iff.mp z)⟩) (fun z=>?_) (by rw[<- r1.length,<- r2.length];exact hz)
 refine⟨.ref s.heap.objs.size,_,I.laid (t':=s.toks) (o:=.tup (xs++ys)) (fun b ob q=>zV _ q) (Nat.le_refl _) ?_,rfl,q2 (fun w=>z (r2.nil_iff.mpr w)) _ (I.hok.fresh (Nat.le_refl _))⟩
 exact⟨by rw[zN];exact hz,_,r1.append r2,m7.new _ _⟩
end
noncomputable def GA(n:Nat)(i:Int):Option Nat:=if 0<=i then (if i < n then some i.toNat else none) else if -(n:Int)<=i then some (i+n).toNat else none
noncomputable def vH{α:Type}(xs:List α)(i:Int):Option α:=(GA xs.length i).bind fun j=>xs[j]?
theorem A5{n:Nat}{i:Int}{j:Nat}(h:GA n i=some j):seqIndex? i n=some j/\j < n/\-(n:Int)<=i/\i < n:=by
 unfold GA at h
 by_cases h0:0<=i
 ·rw[if_pos h0] at h
  by_cases h1:i < n
  ·rw[if_pos h1] at h
   have e:i.toNat=j:=Option.some.inj h
   exact⟨by rw[seqIndex_of h0 h1,e],by omega,by omega,h1⟩
  ·rw[if_neg h1] at h;cases h
 ·rw[if_neg h0] at h
  by_cases h1:-(n:Int)<=i
  ·rw[if_pos h1] at h
   have e:(i+n).toNat=j:=Option.some.inj h
   exact⟨by rw[seqIndex_neg (by omega) h1,e],by omega,h1,by omega⟩
  ·rw[if_neg h1] at h;cases h
theorem vE{α:Type}{xs:List α}{i:Int}{v:α}(h:vH xs i=some v):∃j,seqIndex? i xs.length=some j/\xs[j]?=some v/\j < xs.length/\-(xs.length:Int)<=i/\i < xs.length:=by
 unfold vH at h
 cases e:GA xs.length i with
 | none=>rw[e] at h;cases h
 | some j =>
  rw[e] at h
  obtain⟨h1,h2,h3,h4⟩:=A5 e
  exact⟨j,h1,h,h2,h3,h4⟩
theorem uf{α:Type}{xs:List α}{j:Nat}{v:α}(h:xs[j]?=some v):vH xs (j:Int)=some v:=by
 have hj:j < xs.length:=(zU.mp h).1
 have e:GA xs.length (j:Int)=some j:=by
  unfold GA
  rw[if_pos (by omega),if_pos (by omega)];simp
 unfold vH;rw[e];exact h
def uD(b:Expr):Prop:=∀o i,subscripted b false o i=operate [o,i] (getItem o i)
noncomputable def IT(X:Cx)(r:R2):Prop :=
 ∀ (value slice:Expr) (pins:List (Addr×Obj)) (s:Shared) (σ:St) (H:Hp) (x y:V) (v u:Value) (Q:VK),Inv X pins σ H s->RelV x v->RelV y u->r x y H Q ->
  subscripted slice false v u=operate [v,u] (getItem v u)->wpAny (model X.prog X.w) X.A (subscriptTail value slice v u) (EP X pins σ Q) X.xe s
noncomputable def OY(X:Cx)(id:String)(r:V->List V->Hp->VK->Prop):Prop :=
 ∀ (pins:List (Addr×Obj)) (s:Shared) (σ:St) (H:Hp) (x:V) (xs:List V) (v:Value) (us:List Value) (Q:VK),Inv X pins σ H s->RelV x v->aF xs us->r x xs H Q ->
  wpAny (model X.prog X.w) X.A (call (.builtin id) (v::us)) (EP X pins σ Q) X.xe s
section
variable {X:Cx}{a b:Expr}{ta tb:TE}{pos:Pos}
theorem IT.or{r r':R2}(h:IT X r)(h':IT X r'):IT X (fun x y H Q=>r x y H Q\/r' x y H Q):=by
 intro value slice pins s σ H x y v u Q I rx ry q hs
 rcases q with q|q
 ·exact h value slice pins s σ H x y v u Q I rx ry q hs
 ·exact h' value slice pins s σ H x y v u Q I rx ry q hs
theorem Ng{r:R2}(hr:IT X r)(ha:PE X a ta)(hb:PE X b tb)(hs:uD b):PE X (.Subscript a b pos) (MS r ta tb):=by
 intro pins s σ H Q I h
 exact Subscript_ (LQ ha hb I h fun v u s2 x y H2 I2 rx ry q=>hr a b pins s2 σ H2 x y v u Q I2 rx ry q (hs _ _))
def MU(K:W.Frag):R2:=fun x y H Q=>∃p xs i v,x=.ref p/\y=.int i/\iV K H p xs/\vH xs i=some v/\Q v H
def Nt(K:W.Frag):R2:=fun x y H Q=>∃p xs i v,x=.ref p/\y=.int i/\ju K H p xs/\vH xs i=some v/\Q v H
def MT:R2:=fun x y H Q=>∃z i c,x=.str z/\y=.int i/\z.length<=sizeLine/\vH z.cps.toList i=some c/\Q (.str ⟨#[c]⟩) H
theorem Ig:IT X (MU X.K):=by
 intro value slice pins s σ H x y v u Q I rx ry h hs
 obtain⟨p,xs,i,z,rfl,rfl,hq,he,q⟩:=h
 cases rx
 obtain⟨t,rfl⟩:=ry
 obtain⟨its,r,pl,hz⟩:=I.list hq
 obtain⟨j,h1,h2,h3,h4,h5⟩:=vE he
 obtain⟨w,ew,rw'⟩:=r.get h2
 have hl:=r.length
 have hn:=qu
 have fin:EP X pins σ Q w s:=⟨z,H,I,rw',q⟩
 by_cases h0:0<=i
 ·have hj:i.toNat=j:=by
   rw[seqIndex_of h0 h5] at h1
   exact Option.some.inj h1
  exact item_listR pl.isList h0 (by omega) (by rw[hj];simpa using ew) fin hs
 ·have hj:(i+(its.toArray.size:Int)).toNat=j:=by
   rw[seqIndex_neg (by omega) h4] at h1
   rw[zH,<- hl]
   exact Option.some.inj h1
  exact subscriptTail_builtinR (x:=w) pl.isList.typeIs slot_list_getitem.lookup
   (wpAny_getItem_list_neg (Q:=fun r s'=>r=w/\EP X pins σ Q r s') pl.isList (by omega) (by rw[zH]<;>omega) (by omega) (by rw[hj];simpa using ew) ⟨rfl,fin⟩) hs
theorem p5:IT X (Nt X.K):=by
 intro value slice pins s σ H x y v u Q I rx ry h hs
 obtain⟨p,xs,i,z,rfl,rfl,hq,he,q⟩:=h
 cases rx
 obtain⟨t,rfl⟩:=ry
 obtain⟨its,r,pl,hz⟩:=I.tuple hq
 obtain⟨j,h1,h2,h3,h4,h5⟩:=vE he
 obtain⟨w,ew,rw'⟩:=r.get h2
 have hl:=r.length
 have hn:=qu
 have fin:EP X pins σ Q w s:=⟨z,H,I,rw',q⟩
 exact subscriptTail_builtinR (x:=w) pl.typeIs slot_tuple_getitem.lookup
  (getItem_tuple (j:=j) (Q:=fun r s'=>r=w/\EP X pins σ Q r s') pl (by omega) (by omega) (by rw[zH,<- hl];exact h1) (by simpa using ew) ⟨rfl,fin⟩) hs
theorem L7:IT X MT:=by
 intro value slice pins s σ H x y v u Q I rx ry h hs
 obtain⟨z,i,c,rfl,rfl,hz,he,q⟩:=h
 obtain⟨t,rfl⟩:=rx
 obtain⟨t',rfl⟩:=ry
 obtain⟨j,h1,h2,h3,h4,h5⟩:=vE he
 have hl:z.cps.toList.length=z.length:=by simp[Str.length]
 rw[hl] at h1 h4 h5
 have hn:=qu
 exact tail_any (typeIs_str s z t) slot_str_getitem.lookup (getItem_str (c:=c) (by
  have e1:decide (i < -(2 ^ 63:Int))=false:=yA (by omega)
  have e2:decide (i >= 2 ^ 63)=false:=yA (by omega)
  rw[e1,e2,Bool.or_false]) (by rw[h1];simpa using h2) ⟨.str ⟨#[c]⟩,H,I.tok _,⟨_,rfl⟩,q⟩) hs
def OT(K:W.Frag):R2:=fun x y H Q=>MU K x y H Q\/Nt K x y H Q\/MT x y H Q
theorem Ma:IT X (OT X.K):=Ig.or (p5.or L7)
theorem y6(its:List Value)(n j:Nat)(u:Value):Obj.mapSeq (·.setIfInBounds j u) { cls:=.type "list",data:=.seq its.toArray n }={ cls:=.type "list",data:=.seq (its.set j u).toArray n }:=by
 simp[Obj.mapSeq]
theorem Inv.lst{pins:List (Addr×Obj)}{σ:St}{H:Hp}{s:Shared}{p:Addr}{xs:List V}(I:Inv X pins σ H s)(h:H p=some (.lst xs)) :
  ∃ (its:List Value) (n:Nat),aF xs its/\s.heap.get? p=some { cls:=.type "list",data:=.seq its.toArray n }/\xs.length<=sizeLine:=by
 obtain⟨z,its,n,r,e⟩:=I.hok p _ h
 exact⟨its,n,r,e,z⟩
theorem Inv.lstUpd{pins:List (Addr×Obj)}{σ:St}{H:Hp}{s:Shared}{p:Addr}{xs ys:List V}{its its':List Value}{n n':Nat}{f:Obj->Obj}(I:Inv X pins σ H s)(h:H p=some (.lst xs))
  (ho:s.heap.get? p=some { cls:=.type "list",data:=.seq its.toArray n }) (hf:f { cls:=.type "list",data:=.seq its.toArray n }={ cls:=.type "list",data:=.seq its'.toArray n' }) (r:aF ys its') (hz:ys.length<=sizeLine) (t:Nat) :
  Inv X pins σ (upd H p (.lst ys)) { s with heap:=s.heap.update p f,toks:=t }:=by
 have e:(s.heap.update p f).get? p=some { cls:=.type "list",data:=.seq its'.toArray n' }:=by
  rw[Heap.get?_update_self f ho (by rw[hf]<;>rfl),hf]
 refine I.write (x:=p) (e:=p) (by rw[h];trivial) (.inl rfl) (fun b u hb q=>(Heap.get?_update_other _ _ (Ne.symm hb)).trans q) ⟨_,e⟩ ?_
 exact⟨hz,its',n',r,e⟩
noncomputable def M6:V->V->V->Hp->(Hp->Prop)->Prop:=fun o i v H Q=>∃p xs k j,o=.ref p/\i=.int k/\H p=some (.lst xs)/\GA xs.length k=some j/\Q (upd H p (.lst (xs.set j v)))
theorem set_list:Mu X M6:=by
 intro pins s σ H o i v ov iv u Q I ro ri rv h
 obtain⟨p,xs,k,j,rfl,rfl,hp,hj,q⟩:=h
 cases ro
 obtain⟨t,rfl⟩:=ri
 obtain⟨its,n,r,ho,hz⟩:=I.lst hp
 obtain⟨h1,h2,h3,h4⟩:=A5 hj
 have hl:=r.length
 have hn:=qu
 have I':Inv X pins σ (upd H p (.lst (xs.set j v))) { s with heap:=s.heap.update p (Obj.mapSeq (·.setIfInBounds j u)) } :=
  I.lstUpd hp ho (y6 its n j u) (r.set rv j) (by rw[yD];exact hz) s.toks
 by_cases h0:0<=k
 ·have hk:k.toNat=j:=by
   rw[seqIndex_of h0 h4] at h1
   exact Option.some.inj h1
  exact W.ki_setAt ho h0 (by omega) (by rw[zH,<- hl];exact h4) (by rw[hk];exact⟨_,I',q⟩)
 ·have hk:(k+(its.toArray.size:Int)).toNat=j:=by
   rw[seqIndex_neg (by omega) h3] at h1
   rw[zH,<- hl]
   exact Option.some.inj h1
  exact W.ki_setBack ho (by omega) (by rw[zH,<- hl];exact h3) (by omega) (by rw[hk];exact⟨_,I',q⟩)
theorem vh:eA X (.builtin "len") (fun xs H Q=>∃p ys,xs=[.ref p]/\(iV X.K H p ys\/ju X.K H p ys)/\Q (.int ys.length) H):=by
 intro pins s σ H xs us Q I r h
 obtain⟨p,ys,rfl,hq,q⟩:=h
 obtain⟨u,rfl,rx⟩:=vals1 r
 cases rx
 have hn:=qu
 rcases hq with hq|hq
 ·obtain⟨its,r',pl,hz⟩:=I.list hq
  have hlen:=r'.length
  exact Calls.call_len_list pl.isList (by simp only[zH]<;>omega) ⟨.int ys.length,H,I.tok _,⟨s.toks+1,by rw[zH,hlen]⟩,q⟩
 ·obtain⟨its,r',pl,hz⟩:=I.tuple hq
  have hlen:=r'.length
  exact len_tuple pl (by simp only[zH]<;>omega) ⟨.int ys.length,H,I.tok _,⟨s.toks+1,by rw[zH,hlen]⟩,q⟩
theorem uR:eA X (.type "list") (fun xs H Q=>∃p ys,xs=[.ref p]/\(iV X.K H p ys\/ju X.K H p ys)/\∀l,H l=none->Q (.ref l) (upd H l (.lst ys))):=by
 intro pins s σ H xs us Q I r h
 obtain⟨p,ys,rfl,hq,q⟩:=h
 obtain⟨u,rfl,rx⟩:=vals1 r
 cases rx
 have fin:∀ (its:List Value),aF ys its->ys.length<=sizeLine->∀ (h':Heap) (c':Nat),(∀b o',s.heap.get? b=some o'->h'.get? b=some o') ->
   h'.get? s.heap.objs.size=some { cls:=.type "list",dict:=none,data:=.seq its.toArray c',slots:=#[] }->EP X pins σ Q (.ref s.heap.objs.size) { s with heap:=h' }:=fun its r' hz h' c' kp e =>
  ⟨.ref s.heap.objs.size,_,I.laid (t':=s.toks) kp (Nat.le_refl _) (show e9 X.prog X.w _ h' _ (.lst ys) from ⟨hz,its,c',r',e⟩),rfl,q _ (I.hok.fresh (Nat.le_refl _))⟩
 rcases hq with hq|hq
 ·obtain⟨its,r',pl,hz⟩:=I.list hq
  have hlen:=r'.length
  obtain⟨o,ho,hc,n,hd⟩:=pl.isList
  exact call_list_seq p (.inl rfl) ho hc hd (fun h' c' kp e=>fin its r' hz h' c' kp e) (by simp only[zH]<;>omega)
 ·obtain⟨its,r',pl,hz⟩:=I.tuple hq
  have hlen:=r'.length
  obtain⟨o,ho,hc,n,hd⟩:=pl
  exact call_list_seq p (.inr rfl) ho hc hd (fun h' c' kp e=>fin its r' hz h' c' kp e) (by simp only[zH]<;>omega)
theorem sj:eA X (.type "tuple") (fun xs H Q=>∃p ys,xs=[.ref p]/\((iV X.K H p ys/\∀l,H l=none->Q (.ref l) (upd H l (.tup ys)))\/(ju X.K H p ys/\Q (.ref p) H))):=by
 intro pins s σ H xs us Q I r h
 obtain⟨p,ys,rfl,h⟩:=h
 obtain⟨u,rfl,rx⟩:=vals1 r
 cases rx
 rcases h with ⟨hq,q⟩|⟨hq,q⟩
 ·obtain⟨its,r',pl,hz⟩:=I.list hq
  have hlen:=r'.length
  refine call_tuple_list pl.isList (fun h' kp=>?_) (by simp only[zH]<;>omega)
  have I1:Inv X pins σ H { s with heap:=h' }:=I.kept (t':=s.toks) kp
  have I2:Inv X pins σ (upd H h'.objs.size (.tup ys)) { s with heap:=h'.push { cls:=.type "tuple",data:=.seq its.toArray } } :=
   I1.laid (t':=s.toks) (fun b o e=>zV _ e) (Nat.le_refl _) (show e9 X.prog X.w _ _ _ (.tup ys) from ⟨hz,its,r',m7.new _ _⟩)
  exact⟨.ref h'.objs.size,_,I2,rfl,q _ (I1.hok.fresh (Nat.le_refl _))⟩
 ·obtain⟨its,r',pl,hz⟩:=I.tuple hq
  exact call_tuple_same pl ⟨.ref p,H,I,rfl,q⟩
def OW(K:W.Frag)(T:String)(x:V)(H:Hp):Prop:=match x with
 | .str _=>T="str"
 | .int _=>T="int"
 | .ref p=>(T="list"/\∃xs,iV K H p xs)\/(T="tuple"/\∃xs,ju K H p xs) \/
   (T="dict"/\((∃kvs,H p=some (.dK kvs))\/∃kvs,H p=some (.dT kvs)))\/(T="set"/\∃S n,H p=some (.set S n))
 | _=>False
theorem Lm{pins:List (Addr×Obj)}{σ:St}{H:Hp}{s:Shared}{T:String}{x:V}{v:Value}(I:Inv X pins σ H s)(r:RelV x v)(ty:OW X.K T x H) :
  s.TypeIs v T/\∀a,v=.ref a->∃ob,s.heap.get? a=some ob/\ob.dict=none:=by
 cases x with
 | str z =>
  obtain⟨t,rfl⟩:=r
  cases (show T="str" from ty)
  exact⟨typeIs_str s z t,fun _ e=>nomatch e⟩
 | int i =>
  obtain⟨t,rfl⟩:=r
  cases (show T="int" from ty)
  exact⟨typeIs_int s i t,fun _ e=>nomatch e⟩
 | ref p =>
  cases r
  rcases ty with ⟨rfl,xs,hq⟩|⟨rfl,xs,hq⟩|⟨rfl,hk⟩|⟨rfl,S,n,hk⟩
  ·obtain⟨its,_,pl,_⟩:=I.list hq
   refine⟨pl.isList.typeIs,fun a e=>?_⟩
   cases e
   obtain⟨o,n,e,c,hd,_⟩:=pl
   exact⟨o,e,hd⟩
  ·rcases hq with hq|⟨o,its,n,hk,hc,hd,_⟩
   ·obtain⟨_,_,_,⟨o,e1,e2,_⟩,o2,e3,e4⟩:=hq.ok I.hok
    exact⟨⟨o,e1,e2⟩,fun a e=>by cases e;exact⟨o2,e3,e4⟩⟩
   ·exact⟨⟨o,I.kIn p o hk,hc⟩,fun a e=>by cases e;exact⟨o,I.kIn _ o hk,hd⟩⟩
  ·have z:∃o,s.heap.get? p=some o/\o.ExactDict:=by
    rcases hk with ⟨kvs,hk⟩|⟨kvs,hk⟩
    ·obtain⟨_,_,_,_,o,_,_,e,ex,_⟩:=I.hok p _ hk
     exact⟨o,e,ex⟩
    ·obtain⟨_,_,_,_,o,_,_,e,ex,_⟩:=I.hok p _ hk
     exact⟨o,e,ex⟩
   obtain⟨o,e,ex⟩:=z
   refine⟨⟨o,e,ex.1⟩,fun a e2=>?_⟩
   cases e2
   exact⟨o,e,ex.2.1⟩
  ·obtain⟨o,_,_,_,e,ex,_⟩:=I.hok p _ hk
   refine⟨⟨o,e,ex.1⟩,fun a e2=>?_⟩
   cases e2
   exact⟨o,e,ex.2.1⟩
 | _=>exact False.elim ty
def O8(K:W.Frag)(T:String)(r:V->List V->Hp->VK->Prop)(to:TE)(t:TA):TE:=fun σ H Q=>to σ H fun x H1=>OW K T x H1/\t σ H1 fun xs H2=>r x xs H2 Q
variable {o e:Expr}{es:List Expr}{to:TE}{t:TA}{name:Str}{apos cpos:Pos}{T id:String}{r:V->List V->Hp->VK->Prop}
theorem sF(pa:PlainAttrs T)(slot:Slot T name id)(hty:typeOf (.builtin id)=pure (.type "method_descriptor"))(hm:OY X id r)(ho:PE X o to)(ha:PA X (e::es) t)
  (hbase:attributeBase o name X.env (eval o X.env)=eval o X.env:=by rfl)
  (hfew:((backTo cpos (starEach (e::es) X.env)).all (fun x=>!x.1)&&(backToKw cpos (keywordEach [] X.env)).all (fun x=>x.1.isSome)
   &&decide ((e::es).length+([]:List Keyword).length+(if ([]:List Keyword).isEmpty then 0 else 1) < 30))=true:=by rfl)
  (hline:(apos.endLine == cpos.line)=true:=by rfl) (hs:starEach (e::es) X.env=(false,eval e X.env)::starEach es X.env:=by rfl) (hplain:(backTo cpos (starEach es X.env)).any (·.1)=false:=by rfl) :
  PE X (.Call (.Attribute o name apos) (e::es) [] cpos) (O8 X.K T r to t):=by
 intro pins s σ H Q I h
 refine wpAny_Call_method_late hbase hfew hline rfl (ck (ho pins s σ H _ I h) fun v s1 ⟨x,H1,I1,r1,ty,q1⟩=>?_)
 obtain⟨h1,h2⟩:=Lm I1 r1 ty
 refine⟨T,id,pa,slot,hty,h1,h2,?_⟩
 have hA:=ha cpos pins s1 σ H1 _ I1 q1
 rw[hs] at hA ⊢
 refine Calls.callWith_builtin (by show (false||(backTo cpos (starEach es X.env)).any (·.1))=false;rw[hplain]<;>rfl) (Calls.evalArgs_plain ?_)
 exact ck hA fun us s2 ⟨vs,H2,I2,r2,q2⟩=>hm pins s2 σ H2 x vs v us Q I2 r1 r2 q2
/- xs.append(e),list.index on a module's tuple .. are OY facts of 06m -/
end
noncomputable def Mn(X:Cx)(id:String)(r:V->List V->Hp->VK->Prop):Prop :=
 ∀ (pins:List (Addr×Obj)) (s:Shared) (σ:St) (H:Hp) (x:V) (xs:List V) (v:Value) (us:List Value) (Q:VK),Inv X pins σ H s->RelV x v->aF xs us->r x xs H Q ->
  wpAny (model X.prog X.w) X.A (call (.builtin id) (v::us)) (EP X pins σ Q) X.xe s
theorem aF.one:∀ {x:V}{us:List Value},aF [x] us->∃u,us=[u]/\RelV x u
 | _,_,.cons r .nil=>⟨_,rfl,r⟩
theorem aF.two:∀ {x y:V}{us:List Value},aF [x,y] us->∃u v,us=[u,v]/\RelV x u/\RelV y v
 | _,_,_,.cons r (.cons q .nil)=>⟨_,_,rfl,r,q⟩
theorem aF.reverse{xs:List V}{us:List Value}(h:aF xs us):aF xs.reverse us.reverse:=by
 induction h with
 | nil=>exact .nil
 | cons r t ih=>rw[List.reverse_cons,List.reverse_cons];exact aF.append ih (.cons r .nil)
theorem aF.rep{xs:List V}{us:List Value}(h:aF xs us):∀k:Nat,aF (List.replicate k xs).flatten (List.replicate k us).flatten
 | 0=>.nil
 | k+1=>by
  rw[List.replicate_succ,List.replicate_succ,List.flatten_cons,List.flatten_cons]
  exact aF.append h (aF.rep h k)
theorem foldl_rep(its:List Value):∀ (k:Nat) (acc:List Value),
  List.foldl (fun x1 x2=>x1++x2) acc.toArray (List.replicate k its.toArray)=(acc++(List.replicate k its).flatten).toArray
 | 0,acc=>by simp
 | k+1,acc=>by
  have e:acc.toArray++its.toArray=(acc++its).toArray:=by simp
  have e2:(acc++its)++(List.replicate k its).flatten=acc++(List.replicate (k+1) its).flatten:=by
   rw[List.replicate_succ,List.flatten_cons,List.append_assoc]
  rw[<- e2,<- foldl_rep its k (acc++its),<- e,List.replicate_succ,yJ]
section
variable {X:Cx}{pins:List (Addr×Obj)}{σ:St}{H:Hp}{s:Shared}{l b:Addr}{xs ys zs:List V}
theorem Inv.lset{its its':List Value}{n:Nat}{f:Array Value->Array Value}{t':Nat}(I:Inv X pins σ H s)(hH:H l=some (.lst xs))
  (e:s.heap.get? l=some { cls:=.type "list",data:=.seq its.toArray n }) (hf:f its.toArray=its'.toArray) (hv:aF ys its') (hz:ys.length<=sizeLine) :
  Inv X pins σ (upd H l (.lst ys)) { s with heap:=s.heap.update l (Obj.mapSeq f),toks:=t' }:=by
 have q:=PySem.IsL.update e f
 rw[hf] at q
 refine I.write (x:=l) (e:=l) (by rw[hH];exact trivial) (.inl rfl) (fun b' u hb hu=>(Heap.get?_update_other s.heap (Obj.mapSeq f) (Ne.symm hb)).trans hu) ⟨_,q⟩ ?_
 exact⟨hz,its',_,hv,q⟩
theorem Inv.lnew{its:List Value}{t':Nat}(I:Inv X pins σ H s)(hv:aF ys its)(hz:ys.length<=sizeLine) :
  Inv X pins σ (upd H s.heap.objs.size (.lst ys)) { s with heap:=s.heap.push { cls:=.type "list",data:=.seq its.toArray },toks:=t' } :=
 I.laid (fun _ _ q=>zV _ q) (Nat.le_refl _) ⟨hz,its,0,hv,zY _ rfl⟩
theorem Inv.fresh(I:Inv X pins σ H s):H s.heap.objs.size=none:=I.hok.fresh (Nat.le_refl _)
theorem Inv.lstM(I:Inv X pins σ H s)(hH:H l=some (.lst xs)):xs.length<=sizeLine/\∃ (its:List Value) (n:Nat),aF xs its/\xs.length=its.length/\s.heap.get? l=some { cls:=.type "list",data:=.seq its.toArray n }:=by
 obtain⟨z,its,n,r,e⟩:=I.hok l _ hH
 exact⟨z,its,n,r,r.length,e⟩
theorem yn{n:Nat}(h:n<=sizeLine):Builtin.List.listTooLong n=false:=by
 unfold Builtin.List.listTooLong
 exact yA (by omega)
end
section
variable {X:Cx}
noncomputable def Hg:V->List V->Hp->VK->Prop:=fun x vs H Q=>∃l xs y,x=.ref l/\vs=[y]/\H l=some (.lst xs)/\xs.length < sizeLine/\Q .non (upd H l (.lst (xs++[y])))
theorem sS:Mn X "list.append" Hg:=by
 intro pins s σ H x vs v us Q I rx rv h
 obtain⟨l,xs,y,rfl,rfl,hH,hz,q⟩:=h
 cases rx
 obtain⟨u,rfl,ru⟩:=rv.one
 obtain⟨z,its,n,r,hl,e⟩:=I.lstM hH
 refine call_meets F.slot_list_append ⟨_,e,rfl⟩ F.entry_list_append (F.args_list_append_2 _ _) (PySem.list_append l its.toArray n u (by rw[zH];omega)) ⟨e,?_⟩
 refine⟨.non,_,I.lset (its':=its++[u]) hH e (by simp) (r.append (.cons ru .nil)) ?_,rfl,q⟩
 rw[zN,List.length_singleton]
 omega
noncomputable def Hz:V->List V->Hp->VK->Prop:=fun x vs H Q=>∃l b xs zs,x=.ref l/\vs=[.ref b]/\H l=some (.lst xs)/\H b=some (.lst zs)/\xs.length+zs.length<=sizeLine/\Q .non (upd H l (.lst (xs++zs)))
theorem Cp:Mn X "list.extend" Hz:=by
 intro pins s σ H x vs v us Q I rx rv h
 obtain⟨l,b,xs,zs,rfl,rfl,hH,hB,hz,q⟩:=h
 cases rx
 obtain⟨u,rfl,ru⟩:=rv.one
 cases ru
 obtain⟨z,its,n,r,hl,e⟩:=I.lstM hH
 obtain⟨z2,its2,n2,r2,hl2,e2⟩:=I.lstM hB
 have hsz:its.toArray.size+its2.toArray.size<=sizeLine:=by rw[zH,zH];omega
 have hlong:¬ (!its.toArray.isEmpty&&Builtin.List.listTooLong (its.toArray.size+its2.toArray.size))=true:=by
  rw[yn hsz,Bool.and_false]
  exact Bool.false_ne_true
 refine call_meets F.slot_list_extend ⟨_,e,rfl⟩ F.entry_list_extend (F.args_list_extend_2 _ _)
  (AutoSeq1.list_extend_list_list_0 l its.toArray n b its2.toArray n2 hlong (by rw[zH];omega) (by omega)) ⟨e,e2,?_⟩
 refine⟨.non,_,I.lset (its':=its++its2) hH e (by simp) (r.append r2) ?_,rfl,q⟩
 rw[zN]
 omega
def N5:R2:=fun x y H Q=>∃l k xs,x=.ref l/\y=.int k/\H l=some (.lst xs)/\-(2 ^ 63)<=k/\k < 2 ^ 63/\xs.length * k.toNat<=sizeLine /\
 ∀p,H p=none->Q (.ref p) (upd H p (.lst (List.replicate k.toNat xs).flatten))
theorem len_rep{α:Type}(xs:List α)(k:Nat):(List.replicate k xs).flatten.length=k * xs.length:=by
 induction k with
 | zero=>simp
 | succ k ih=>rw[List.replicate_succ,List.flatten_cons,zN,ih,Nat.succ_mul,Nat.add_comm]
theorem KN:iz X (binaryOp .Mult) N5:=by
 intro pins s σ H x y v u Q I rx ry h
 obtain⟨l,k,xs,rfl,rfl,hH,h1,h2,hz,q⟩:=h
 cases rx
 obtain⟨t,rfl⟩:=ry
 obtain⟨z,its,n,r,hl,e⟩:=I.lstM hH
 have hlen:its.toArray.size * k.toNat<=sizeLine:=by rw[zH,<- hl];exact hz
 have hcap:¬ its.toArray.size * k.toNat > (2 ^ 63 - 1) / 8:=by
  have:(sizeLine:Nat)<=(2 ^ 63 - 1) / 8:=by decide
  omega
 have hfit:¬ (!Builtin.List.listFitsIndex k)=true:=by
  rw[fitsIndex_both h1 h2]
  exact Bool.false_ne_true
 have hlong:¬ Builtin.List.listTooLong (its.toArray.size * k.toNat)=true:=by
  rw[yn hlen]
  exact Bool.false_ne_true
 have hnew:List.foldl (fun x1 x2=>x1++x2) #[] (List.replicate (if its.toArray.isEmpty=true then 0 else k.toNat) its.toArray)=(List.replicate k.toNat its).flatten.toArray:=by
  have f0:∀m:Nat,List.foldl (fun x1 x2=>x1++x2) #[] (List.replicate m its.toArray)=(List.replicate m its).flatten.toArray:=fun m=>by
   have:=foldl_rep its m []
   rw[List.nil_append] at this
   exact this
  rw[f0]
  cases its with
  | nil=>simp
  | cons a r'=>rw[if_neg (by simp)]
 refine wpAny_binaryOp_repeat_ref (T:="list") (U:="int") (by decide) ⟨_,e,rfl⟩ (fun s'=>typeIs_int s' k t) noFill_list_mul F.fills_int_mul F.slot_int_rmul repeat_list F.slot_int_index.lookup
  (call_meets F.slot_int_rmul (typeIs_int s k t) F.entry_int_rmul (F.args_int_rmul_2 _ _) (int___rmul___int_list k t l its.toArray n)
   ⟨e,rfl,⟨_,e,rfl⟩,call_meets F.slot_list_mul ⟨_,e,rfl⟩ F.entry_list_mul (F.args_list_mul_2 _ _) (AutoListH.list___mul___list_int_3 l its.toArray n k t hfit hcap hlong) ⟨e,?_⟩⟩)
 rw[hnew]
 exact⟨.ref _,_,I.lnew (t':=s.toks) (r.rep k.toNat) (by rw[len_rep,Nat.mul_comm];exact hz),rfl,q _ I.fresh⟩
end
section
variable {prog:Program}{w:World}{A:Around}{E:Value->Shared->Prop}{s:Shared}
end
section
variable {X:Cx}
end
end L2
namespace Att
open PySem PySem.W PySem.Calls PyProof.Rows
theorem ints_of_wellAll{P:Params}{h:Heap}:∀ (ns:List Int) (vs:List Value),WellAll P h vs (ns.map WData.int)->IntsAre vs ns:=by
 intro ns
 induction ns with
 | nil =>
  intro vs w
  rw[List.map_nil] at w
  cases w
  exact .nil
 | cons n ns ih =>
  intro vs w
  rw[zI] at w
  cases w with
  | cons a b =>
   cases a
   exact .cons _ _ (ih _ b)
theorem script_of{l:OpenLaw}{n:Nat}(hn:l.most=some n){P:Params}{h:Heap}{args:List WData}{vals:List Value}
  (hpre:l.row.toRowW.claim.pre args=true) (hwl:WellAll P h vals args) :
  ∃a vs ns,vals=[Value.ref a]/\args=[WData.list (ns.map WData.int)]/\h.get? a=some { cls:=.type "list",data:=.seq vs.toArray }/\IntsAre vs ns/\ns.length<=n:=by
 have hsh:WShape.hasAll [] args [.list .int]=true:=(pre_splitW hpre).1
 have hc:l.pre.holds [] { args:=args }=true:=(pre_splitW hpre).2
 obtain⟨d,r,rfl,h1,h2⟩:=hasAllW_cons hsh
 obtain rfl:=hasAllW_nil h2
 obtain⟨xs,rfl,h3⟩:=hasW_list h1
 obtain⟨ns,rfl⟩:=items_int h3
 have hlen:ns.length<=n:=by
  unfold OpenLaw.pre at hc
  have h4:(WTm.not (.lt (.lit (.int (n:Int))) (.len (.arg 0)))).holds [] { args:=[.list (ns.map .int)] }=true:=by
   have h4:=(holds_andW hc).1
   rw[hn] at h4
   exact h4
  have h5:=condW_of h4 (w_not (w_lt w_lit (w_len_list (w_arg rfl))))
  rw[zD] at h5
  refine Nat.le_of_not_lt fun q=>?_
  have q':(n:Int) < ((ns.length:Nat):Int):=by omega
  first
   | (rw[yB q'] at h5;exact absurd h5 (by decide))
   | (simp at h5;omega)
 cases hwl with
 | cons w1 w2 =>
  cases w2
  cases w1 with
  | list ho hall=>exact⟨_,_,ns,rfl,rfl,ho,ints_of_wellAll ns _ hall,hlen⟩
theorem post_true(l:OpenLaw)(args:List WData):l.row.toRowW.claim.post args (.bool true) args=true :=
 postW_of (r:=l.row.toRowW) (X:=(true == true))
  (show WShape.has [] (.bool true) .bool=true by first|rfl|decide|simp[WShape.has,WShape.arms,WShape.armsAll])
  (show (WTm.eq .res (.lit (.bool true))).value [] { args:=args,res:=some (.bool true),after:=args }=some (.bool (true == true)) from w_eq_bool (w_res rfl) w_lit) rfl
theorem attach_call{l:OpenLaw}{n:Nat}{q:Program}{loose:List Str}{XP:(Str->Option Value)->Heap->Prop}{YP:World->Heap->Prop}{d:DefRec}
  (hn:l.most=some n) (hdf:d.params.defaults=[])
  (call:∀ (w:World) (s₀ s₁:Shared) (mg mb:Str->Option Value) (fa:Addr) (o:Obj) (pm cd doc:Value) (a:Addr) (vs:List Value) (ns:List Int),
   Ground q loose [] XP w s₀ mg mb s₁.heap->YP w s₁.heap ->
   s₁.heap.get? fa=some o->o.data=.func (docDef d.name d.params d.body d.scope pm cd doc)->s₁.heap.CodeRec cd d.name->mg d.name=some (.ref fa) ->
   s₁.heap.get? a=some { cls:=.type "list",data:=.seq vs.toArray }->IntsAre vs ns->ns.length<=n->s₁.gens=#[] ->
   codeAny (model l.prog w) callerA (.call (.ref fa) ⟨[.ref a],[]⟩) (fun r s'=>r=.ok (.ret (.bool true))/\OldK s₁.heap s'.heap/\s'.os=s₁.os/\AllBare s'.gens) s₁) :
  WalkO q loose XP YP l.row.toRowW d [] (fun f vs=>PySem.call f vs):=by
 intro w s₀ s₁ mg mb G Y fa o pm cd doc dV kV ho hd hcd hD hmg hg args vals as hpre hlay hrd hwl hlo
 obtain rfl:dV=.none:=Dflts.none hD hdf
 obtain rfl:kV=.none:=Dflts.noKw hD
 obtain⟨a,vs,ns,rfl,rfl,hobj,hints,hlen⟩:=script_of hn hpre hwl
 refine enter_call (codeAny_mono (call w s₀ s₁ mg mb fa o pm cd doc a vs ns G Y ho (fd_plain hd) hcd hmg hobj hints hlen hg) fun r s' hq=>?_)
 obtain⟨rfl,h2,h3,h4⟩:=hq
 exact⟨.inl ⟨.bool true,.bool true,[],rfl,fun _=>rfl,.bool true,post_true l _,fun _=>⟨List.Pairwise.nil,fun _ hm=>(nomatch hm)⟩⟩,h2,h3,h4⟩
section
variable {prog:Program}{w:World}{A:Around}{E:Value->Shared->Prop}{s:Shared}{K:Frag}
end
end Att
namespace L2
open PySem PySem.Spec PyProof.Rows
theorem sO:∀ {vs:List Value}{ns:List Int},IntsAre vs ns->aF (ns.map V.int) vs
 | _,_,.nil=>.nil
 | _,_,.cons n t h=>.cons ⟨t,rfl⟩ (sO h)
noncomputable def gZ(s:Stmt):Arguments:=match s with
 | .FunctionDef _ a _ _ _ _ _ _ _ _=>a
 | _=>{ posonlyargs:=[],args:=[],vararg:=none,kwonlyargs:=[],kw_defaults:=[],kwarg:=none,defaults:=[] }
noncomputable def cC(s:Stmt):List Stmt:=match s with
 | .FunctionDef _ _ b _ _ _ _ _ _ _=>b
 | _=>[]
noncomputable def aN(s:Stmt):Scope:=match s with
 | .FunctionDef _ _ _ _ _ _ sc _ _ _=>sc
 | _=>{ kind:=.function,names:=[],isGenerator:=false,isCoroutine:=false }
noncomputable abbrev Ml:Dp:=fun _ _ _ _ _ _=>False
noncomputable abbrev E0:XK:=fun _ _ _=>False
theorem Nl{X:Cx}:y0 Ml X E0:=fun _ _ _ _ _ _ _ h=>h.elim
structure He(K:W.Frag)(x qual:Str)(st:Stmt)(f:Addr)(fd:FuncData):Prop where
 ex:∃ (oc:Value) (od:Option Addr) (kV doc pm:Value) (an:Option Addr) (cdv ct:Value) (osl:Array (Option Value)),
  fd=W.fnOf x qual (gZ st) (cC st) (aN st) .none kV doc pm an cdv ct/\K.lookup f=some ⟨oc,od,.func fd,osl⟩/\W.codeIn K cdv qual=true
 kp:W.keepIn K (.ref f)=true
section
variable {P:Program}{w:World}{K:W.Frag}{mg:Str->Option Value}{base:Heap}
theorem He.binds{x qual:Str}{st:Stmt}{f:Addr}{fd:FuncData}{ps:List Str}(F:He K x qual st f fd)
  (h:∀ (kV doc pm:Value) (an:Option Addr) (cdv ct:Value) (us:List Value),us.length=ps.length->bindArgs (W.fnOf x qual (gZ st) (cC st) (aN st) .none kV doc pm an cdv ct) ⟨us,[]⟩=pure (ps.zip us)):Binds K fd ps []:=by
 obtain⟨oc,od,kV,doc,pm,an,cdv,ct,osl,rfl,lk,hcd⟩:=F.ex
 exact .all (h kV doc pm an cdv ct)
theorem uJ{x qual:Str}{st:Stmt}{f:Addr}{oc:Value}{od an:Option Addr}{osl:Array (Option Value)}{kV doc pm cdv ct:Value}(l:K.lookup f=some ⟨oc,od,.func (W.fnOf x qual (gZ st) (cC st) (aN st) .none kV doc pm an cdv ct),osl⟩)
  (c:W.codeIn K cdv qual=true) (k:W.keepIn K (.ref f)=true):He K x qual st f (W.fnOf x qual (gZ st) (cC st) (aN st) .none kV doc pm an cdv ct):=⟨⟨oc,od,kV,doc,pm,an,cdv,ct,osl,rfl,l,c⟩,k⟩
end
section
variable {X:Cx}
theorem pv(i:Nat){x:Str}{pos:Pos}(hN:X.N[i]?=some x:=by rfl)(hv:GT X.env.scope x:=by first|exact Or.inl rfl|exact Or.inr (Or.inl rfl)|exact Or.inr (Or.inr rfl))(hd:(x == ("__debug__":Str))=false:=by decide)
  (hcd:(x == ("__classdict__":Str))=false:=by decide):PE X (.Name x pos) (MM i):=m9 hN hv hd hcd
end
theorem vY{A B:Prop}(h:B):if false=true then A else B:=by
 rw[if_neg Bool.false_ne_true]
 exact h
theorem xa{A B:Prop}(h:A):if true=true then A else B:=by
 rw[if_pos rfl]
 exact h
def aZ(H H':Hp):Prop:=∀b o,H b=some o->H' b=some o
theorem aZ.refl(H:Hp):aZ H H:=fun _ _ h=>h
theorem aZ.trans{H H1 H2:Hp}(a:aZ H H1)(b:aZ H1 H2):aZ H H2:=fun c o h=>b c o (a c o h)
theorem aZ.free{H H':Hp}(e:aZ H H'){l:Addr}(h:H' l=Option.none):H l=Option.none:=by
 cases q:H l with
 | none=>rfl
 | some o =>
  rw[e l o q] at h
  cases h
theorem aZ.seq{K:W.Frag}{H H':Hp}{a:Addr}{xs:List V}(e:aZ H H')(h:iV K H a xs):iV K H' a xs:=by
 rcases h with (h|⟨o,h⟩)|h
 ·exact .inl (.inl (e _ _ h))
 ·exact .inl (.inr ⟨o,e _ _ h⟩)
 ·exact .inr h
end L2
namespace Hd
open PySem L2 PySem.Spec PyProof.Rows
noncomputable def en(P:Params)(x:String)(t:Nat)(v:Value):DictEntry:=⟨PyData.keyHash P (Str.ofString x),.str (Str.ofString x) t,v⟩
noncomputable def fo(x:Str)(st:Stmt)(pm:Value)(c:Addr):Obj:=⟨.type "function",none,.func (W.fnOf x x (gZ st) (cC st) (aN st) .none .none .none pm none (.ref c) .none),#[]⟩
noncomputable def co(vs:List Value):Obj:=⟨.type "code",none,.fields vs.toArray,#[]⟩
noncomputable def rfV(n:Nat):Value:=if n=0 then .none else .ref n
noncomputable def cdo(x:Str)(t l n a b c d e f u:Nat):Obj:=co [.str x t,.str x (t+1),.str "/claim/cut.py" (t+2),.int l 0,.int n 0,.int 0 0,.int 0 0,.int 3 0,rfV a,.bool true,.int 181 0,rfV b,rfV c,rfV d,rfV e,rfV f,.int u 0,.int l 0,.str "/claim/cut.py" (u+1)]
theorem lf_all{S A B C D E F J O:Type}{x:Option S}{f:S->A×B×C×D×E×F×J}{o:S->O}{g:A×B×C×D×E×F×J}{v:O}(h0:x.map (fun s=>(f s).1)=some g.1)(h1:x.map (fun s=>(f s).2.1)=some g.2.1)(h2:x.map (fun s=>(f s).2.2.1)=some g.2.2.1)(h3:x.map (fun s=>((f s).2.2.2.1,(f s).2.2.2.2.1))=some (g.2.2.2.1,g.2.2.2.2.1))(h4:x.map (fun s=>(f s).2.2.2.2.2.1)=some g.2.2.2.2.2.1)(h5:x.map (fun s=>(f s).2.2.2.2.2.2)=some g.2.2.2.2.2.2)(h6:x.map o=some v):x.map (fun s=>(f s,o s))=some (g,v):=by
 obtain⟨a,b,c,d,e,i,j⟩:=g
 cases x with
 | none=>cases h0
 | some s =>
  simp only[zB,yL,Prod.mk.injEq] at h0 h1 h2 h3 h4 h5 h6 ⊢
  refine⟨?_,h6⟩
  generalize f s=t at *
  obtain⟨a',b',c',d',e',i',j'⟩:=t
  dsimp only at *
  obtain⟨h3,h3'⟩:=h3
  subst h0 h1 h2 h3 h3' h4 h5
  rfl
end Hd
namespace K61
open PySem L2 PySem.Spec PyProof.Rows Hd PySem.W
noncomputable abbrev top(i:Nat):Stmt:=PySem.Challenge.pw_stillflow_k61_whole_papers.main.body.getD i (.Pass ⟨0,0,0,0⟩)
noncomputable def vw:Program:=W.view PySem.Challenge.pw_stillflow_k61_whole_papers [1,2,3,4,5,7,8,9,10,11,12,13,14,15,16,17,18,19,20,21,22,23,24,25,26,27,28,29,31,32,33,34,35,36,38,39,40,41,42,43,44,45,46,48,49,50,51,52,53,54,55,57,58,59,60,61,63,64,65,66,67]
noncomputable def iy:Value:=(.str "stillflow.worlds" 271)
noncomputable def Dk:Value:=(.str "stillflow.flows" 430)
noncomputable def vQ:Value:=(.str "stillflow.finding" 476)
noncomputable def yp:Value:=(.str "stillflow.papers" 556)
noncomputable def Jy:Value:=(.str "stillflow.listing" 622)
noncomputable def Gx:Value:=(.str "law_stillflow_k61_whole_papers" 653)
noncomputable def Kf(P:Params):W.Frag:=[(3,⟨.type "dict",none,.dict #[en P "__name__" 165 (.str "law_stillflow_k61_whole_papers" 653),en P "__doc__" 166 .none,en P "__package__" 167 .none,en P "__loader__" 168 (.builtin "__main__.__loader__#opaque"),en P "__spec__" 169 .none,en P "__annotations__" 170 (.ref 6),en P "__builtins__" 171 (.ref 4),en P "__file__" 173 (.str "/claim/cut.py" 172),en P "__cached__" 174 .none,en P "FlowError" 206 (.ref 24),en P "NoWorld" 222 (.ref 37),en P "NoPlan" 238 (.ref 49),en P "NoPlace" 254 (.ref 61),en P "TooMany" 270 (.ref 73),en P "MOST_PLACES" 274 (.int 4 273),en P "MOST" 276 (.int 9 275),en P "is_whole" 285 (.ref 82),en P "is_number" 293 (.ref 89),en P "is_long" 302 (.ref 96),en P "are_likes" 308 (.ref 101),en P "is_end" 316 (.ref 108),en P "is_way" 325 (.ref 115),en P "are_parts" 331 (.ref 120),en P "liked_pairs" 337 (.ref 125),en P "is_world" 343 (.ref 130),en P "through" 349 (.ref 135),en P "keeps_amounts" 355 (.ref 140),en P "is_plan" 361 (.ref 145),en P "check_world" 368 (.ref 152),en P "check_plan" 376 (.ref 159),en P "check_whole" 385 (.ref 166),en P "check_number" 393 (.ref 173),en P "check_side" 400 (.ref 180),en P "replaced" 409 (.ref 187),en P "turned_order" 417 (.ref 194),en P "turned" 423 (.ref 199),en P "turned_plan" 429 (.ref 204),en P "ways_of" 437 (.ref 209),en P "chosen_by" 443 (.ref 214),en P "wants_more" 449 (.ref 219),en P "why_kept" 458 (.ref 226),en P "first_leaving" 467 (.ref 233),en P "is_still" 475 (.ref 240),en P "chosen_by_all" 483 (.ref 245),en P "both_ends" 492 (.ref 252),en P "limits" 498 (.ref 257),en P "lowered" 507 (.ref 264),en P "refused" 519 (.ref 271),en P "steps" 529 (.ref 278),en P "capped" 540 (.ref 285),en P "givers_best" 547 (.ref 292),en P "takers_best" 555 (.ref 299),en P "paper" 564 (.ref 306),en P "has_row_form" 572 (.ref 313),en P "follows" 583 (.ref 320),en P "caps_behind" 589 (.ref 325),en P "caps_of" 597 (.ref 332),en P "holds" 605 (.ref 339),en P "shows" 615 (.ref 346),en P "is_within" 621 (.ref 351),en P "MOST_LISTED" 625 (.int 3000 624),en P "check_many" 634 (.ref 358),en P "within_limits" 640 (.ref 363),en P "all_plans" 646 (.ref 368),en P "all_rests" 652 (.ref 373),en P "_law_cell" 662 (.ref 380),en P "_law_drawn" 672 (.ref 387),en P "_law_orders" 687 (.ref 394),en P "_law_world" 693 (.ref 399),en P "law" 699 (.ref 404)] 70,#[]⟩),
 (81,cdo "is_whole" 277 15 3 76 77 0 78 79 80 283),
 (82,fo "is_whole" (top 9) iy 81),
 (88,cdo "is_number" 286 19 2 83 84 0 85 86 87 291),
 (89,fo "is_number" (top 10) iy 88),
 (95,cdo "is_long" 294 21 3 90 91 0 92 93 94 300),
 (96,fo "is_long" (top 11) iy 95),
 (100,cdo "are_likes" 303 23 2 97 98 0 0 0 99 306),
 (101,fo "are_likes" (top 12) iy 100),
 (107,cdo "is_end" 309 29 2 102 103 0 104 105 106 314),
 (108,fo "is_end" (top 13) iy 107),
 (114,cdo "is_way" 317 31 3 109 110 0 111 112 113 323),
 (115,fo "is_way" (top 14) iy 114),
 (119,cdo "are_parts" 326 35 3 116 117 0 0 0 118 329),
 (120,fo "are_parts" (top 15) iy 119),
 (124,cdo "liked_pairs" 332 43 1 121 122 0 0 0 123 335),
 (125,fo "liked_pairs" (top 16) iy 124),
 (129,cdo "is_world" 338 48 1 126 127 0 0 0 128 341),
 (130,fo "is_world" (top 17) iy 129),
 (134,cdo "through" 344 55 4 131 132 0 0 0 133 347),
 (135,fo "through" (top 18) iy 134),
 (139,cdo "keeps_amounts" 350 57 3 136 137 0 0 0 138 353),
 (140,fo "keeps_amounts" (top 19) iy 139),
 (144,cdo "is_plan" 356 59 2 141 142 0 0 0 143 359),
 (145,fo "is_plan" (top 20) iy 144),
 (151,cdo "check_world" 362 66 1 146 147 0 148 149 150 366),
 (152,fo "check_world" (top 21) iy 151),
 (158,cdo "check_plan" 369 69 2 153 154 0 155 156 157 374),
 (159,fo "check_plan" (top 22) iy 158),
 (165,cdo "check_whole" 377 73 3 160 161 0 162 163 164 383),
 (166,fo "check_whole" (top 23) iy 165),
 (172,cdo "check_number" 386 76 2 167 168 0 169 170 171 391),
 (173,fo "check_number" (top 24) iy 172),
 (179,cdo "check_side" 394 78 1 174 175 0 176 177 178 398),
 (180,fo "check_side" (top 25) iy 179),
 (186,cdo "replaced" 401 80 3 181 182 0 183 184 185 407),
 (187,fo "replaced" (top 26) iy 186),
 (193,cdo "turned_order" 410 82 1 188 189 0 190 191 192 415),
 (194,fo "turned_order" (top 27) iy 193),
 (198,cdo "turned" 418 85 1 195 196 0 0 0 197 421),
 (199,fo "turned" (top 28) iy 198),
 (203,cdo "turned_plan" 424 89 2 200 201 0 0 0 202 427),
 (204,fo "turned_plan" (top 29) iy 203),
 (208,cdo "ways_of" 432 93 3 205 206 0 0 0 207 435),
 (209,fo "ways_of" (top 31) Dk 208),
 (213,cdo "chosen_by" 438 98 4 210 211 0 0 0 212 441),
 (214,fo "chosen_by" (top 32) Dk 213),
 (218,cdo "wants_more" 444 105 4 215 216 0 0 0 217 447),
 (219,fo "wants_more" (top 33) Dk 218),
 (225,cdo "why_kept" 450 112 3 220 221 0 222 223 224 456),
 (226,fo "why_kept" (top 34) Dk 225),
 (232,cdo "first_leaving" 459 120 2 227 228 0 229 230 231 465),
 (233,fo "first_leaving" (top 35) Dk 232),
 (239,cdo "is_still" 468 125 2 234 235 0 236 237 238 473),
 (240,fo "is_still" (top 36) Dk 239),
 (244,cdo "chosen_by_all" 478 128 3 241 242 0 0 0 243 481),
 (245,fo "chosen_by_all" (top 38) vQ 244),
 (251,cdo "both_ends" 484 134 3 246 247 0 248 249 250 490),
 (252,fo "both_ends" (top 39) vQ 251),
 (256,cdo "limits" 493 138 1 253 254 0 0 0 255 496),
 (257,fo "limits" (top 40) vQ 256),
 (263,cdo "lowered" 499 140 3 258 259 0 260 261 262 505),
 (264,fo "lowered" (top 41) vQ 263),
 (270,cdo "refused" 508 142 2 265 266 0 267 268 269 517),
 (271,fo "refused" (top 42) vQ 270),
 (277,cdo "steps" 520 149 1 272 273 0 274 275 276 527),
 (278,fo "steps" (top 43) vQ 277),
 (284,cdo "capped" 530 158 2 279 280 0 281 282 283 538),
 (285,fo "capped" (top 44) vQ 284),
 (291,cdo "givers_best" 541 163 1 286 287 0 288 289 290 545),
 (292,fo "givers_best" (top 45) vQ 291),
 (298,cdo "takers_best" 548 166 1 293 294 0 295 296 297 553),
 (299,fo "takers_best" (top 46) vQ 298),
 (305,cdo "paper" 558 170 1 300 301 0 302 303 304 562),
 (306,fo "paper" (top 48) yp 305),
 (312,cdo "has_row_form" 565 173 2 307 308 0 309 310 311 570),
 (313,fo "has_row_form" (top 49) yp 312),
 (319,cdo "follows" 573 175 3 314 315 0 316 317 318 581),
 (320,fo "follows" (top 50) yp 319),
 (324,cdo "caps_behind" 584 179 2 321 322 0 0 0 323 587),
 (325,fo "caps_behind" (top 51) yp 324),
 (331,cdo "caps_of" 590 188 2 326 327 0 328 329 330 595),
 (332,fo "caps_of" (top 52) yp 331),
 (338,cdo "holds" 598 191 2 333 334 0 335 336 337 603),
 (339,fo "holds" (top 53) yp 338),
 (345,cdo "shows" 606 193 3 340 341 0 342 343 344 613),
 (346,fo "shows" (top 54) yp 345),
 (350,cdo "is_within" 616 199 3 347 348 0 0 0 349 619),
 (351,fo "is_within" (top 55) yp 350),
 (357,cdo "check_many" 626 206 1 352 353 0 354 355 356 632),
 (358,fo "check_many" (top 58) Jy 357),
 (362,cdo "within_limits" 635 212 1 359 360 0 0 0 361 638),
 (363,fo "within_limits" (top 59) Jy 362),
 (367,cdo "all_plans" 641 220 1 364 365 0 0 0 366 644),
 (368,fo "all_plans" (top 60) Jy 367),
 (372,cdo "all_rests" 647 224 1 369 370 0 0 0 371 650),
 (373,fo "all_rests" (top 61) Jy 372),
 (379,cdo "_law_cell" 655 227 2 374 375 0 376 377 378 660),
 (380,fo "_law_cell" (top 63) Gx 379),
 (386,cdo "_law_drawn" 663 231 3 381 382 0 383 384 385 670),
 (387,fo "_law_drawn" (top 64) Gx 386),
 (393,cdo "_law_orders" 673 235 3 388 389 0 390 391 392 685),
 (394,fo "_law_orders" (top 65) Gx 393),
 (398,cdo "_law_world" 688 243 3 395 396 0 0 0 397 691),
 (399,fo "_law_world" (top 66) Gx 398),
 (403,cdo "law" 694 259 1 400 401 0 0 0 402 697),
 (404,fo "law" (top 67) Gx 403)]
noncomputable def hk:W.Hook:=W.kmHook Kf [3,81,82,88,89,95,96,100,101,107,108,114,115,119,120,124,125,129,130,134,135,139,140,144,145,151,152,158,159,165,166,172,173,179,180,186,187,193,194,198,199,203,204,208,209,213,214,218,219,225,226,232,233,239,240,244,245,251,252,256,257,263,264,270,271,277,278,284,285,291,292,298,299,305,306,312,313,319,320,324,325,331,332,338,339,345,346,350,351,357,358,362,363,367,368,372,373,379,380,386,387,393,394,398,399,403,404] (fun _=>rfl) [189,206]
noncomputable abbrev rn(w:World):=openEnds treeTable PySem.Challenge.pw_stillflow_k61_whole_papers w 6000
noncomputable abbrev sn(s:Shared):=openSeen vw [] (importedModules PySem.Challenge.pw_stillflow_k61_whole_papers.main.body) (fun s=>xlAt vw [] s&&recOk [] s) true s
noncomputable abbrev gd:=openGood vw []
theorem Pb(w:World):(rn w).map (fun s=>(sn s).1)=some (gd.1):=by kernel_rfl
theorem O7(w:World):(rn w).map (fun s=>(sn s).2.1)=some (gd.2.1):=by kernel_rfl
theorem Pp(w:World):(rn w).map (fun s=>(sn s).2.2.1)=some (gd.2.2.1):=by kernel_rfl
theorem Pi(w:World):(rn w).map (fun s=>((sn s).2.2.2.1,(sn s).2.2.2.2.1))=some ((gd.2.2.2.1,gd.2.2.2.2.1)):=by kernel_rfl
theorem Pk(w:World):(rn w).map (fun s=>(sn s).2.2.2.2.2.1)=some (gd.2.2.2.2.2.1):=by kernel_rfl
theorem O2(w:World):(rn w).map (fun s=>(sn s).2.2.2.2.2.2)=some (gd.2.2.2.2.2.2):=by kernel_rfl
theorem Pj(w:World):(rn w).map (fun s=>hk.obs s)=some (hk.val w):=by kernel_rfl
theorem left:LeftO PySem.Challenge.pw_stillflow_k61_whole_papers vw [] (fun s=>xlAt vw [] s&&recOk [] s) hk.obs hk.val 6000:=fun w=>lf_all (Pb w) (O7 w) (Pp w) (Pi w) (Pk w) (O2 w) (Pj w)
theorem On:PySem.Challenge.rw_stillflow_k61_whole_papers.wellSaid=true:=by kernel_rfl
end K61
namespace L2
open PySem PySem.Spec PyProof.Rows
theorem b9:∀ (names:List (Str×NameKind)) (n:Nat) (acc:List (Str×Addr)),cellsFrom n names acc=cellsFrom n names []++acc
 | [],_,_=>rfl
 | (name,kind)::r,n,acc=>by
  unfold cellsFrom
  split
  ·rw[b9 r (n+1) ((name,n)::acc),b9 r (n+1) [(name,n)]]
   simp
  ·exact b9 r n acc
theorem jE{α:Type}{x:Str}{c:α}:∀ {l m:List (Str×α)},(l++m).lookup x=some c->l.lookup x=some c\/(l.lookup x=none/\m.lookup x=some c)
 | [],_,h=>.inr ⟨rfl,h⟩
 | (k,v)::r,m,h=>by
  have ih:=@jE α x c r m
  rw[List.cons_append,yC] at h
  rw[yC]
  cases e:x == k with
  | true=>rw[e] at h;exact .inl h
  | false=>rw[e] at h;exact ih h
theorem jD{α:Type}{x:Str}{c:α}:∀ {l m:List (Str×α)},l.lookup x=some c->(l++m).lookup x=some c
 | [],_,h=>by cases h
 | (k,v)::r,m,h=>by
  have ih:=@jD α x c r m
  rw[yC] at h
  rw[List.cons_append,yC]
  cases e:x == k with
  | true=>rw[e] at h;exact h
  | false=>rw[e] at h;exact ih h
theorem iQ{α:Type}{x:Str}:∀ {l m:List (Str×α)},l.lookup x=none->(l++m).lookup x=m.lookup x
 | [],_,_=>rfl
 | (k,v)::r,m,h=>by
  have ih:=@iQ α x r m
  rw[yC] at h
  rw[List.cons_append,yC]
  cases e:x == k with
  | true=>rw[e] at h;cases h
  | false=>rw[e] at h;exact ih h
theorem gF:∀ (names:List (Str×NameKind)) (n:Nat) (x:Str) (c:Addr),(x,c)∈cellsFrom n names []->(x,NameKind.cell)∈names
 | [],_,_,_,h=>by cases h
 | (name,kind)::r,n,x,c,h=>by
  unfold cellsFrom at h
  split at h
  ·rename_i hk
   rw[b9] at h
   rcases List.mem_append.mp h with h|h
   ·exact zC _ (gF r _ x c h)
   ·have:(x,c)=(name,n):=by simpa using h
    cases this
    have:kind=.cell:=by simpa using hk
    subst this
    exact zE
  ·exact zC _ (gF r n x c h)
noncomputable def eH(env:Env):List (Str×NameKind)->List (Str×Addr)->List (Str×Addr)
 | [],acc=>acc
 | (n,k)::r,acc=>if k == .free then eH env r ((n,(env.cells.lookup n).getD 0)::acc) else eH env r acc
theorem lG(env:Env):∀ (names:List (Str×NameKind)) (acc:List (Str×Addr)),(∀x∈names,x.2=.free->∃c,env.cells.lookup x.1=some c) ->
  (forIn names acc (fun (p:Str×NameKind) (cs:List (Str×Addr))=>(if p.2 == .free then (do let a <- cellOf env p.1;pure (.yield ((p.1,a)::cs))) else pure (.yield cs):Sem (ForInStep (List (Str×Addr))))))=pure (eH env names acc)
 | [],acc,_=>rfl
 | (n,k)::r,acc,h=>by
  rw[List.forIn_cons]
  have hr:=fun x hx=>h x (zC _ hx)
  unfold eH
  by_cases hk:k=.free
  ·obtain⟨c,hc⟩:=h (n,k) zE hk
   subst hk
   have e1:cellOf env n=pure c:=by
    have hc':env.cells.lookup n=some c:=hc
    unfold cellOf;rw[hc']
   have hc':env.cells.lookup n=some c:=hc
   simp only[beq_self_eq_true,if_true,e1,pure_bind,hc',Option.getD_some]
   exact lG env r _ hr
  ·have hb:(k == NameKind.free)=false:=by simpa using hk
   simp only[hb,Bool.false_eq_true,if_false,pure_bind]
   exact lG env r _ hr
theorem lC{env:Env}{scope:Scope}(h:∀x∈scope.names,x.2=.free->∃c,env.cells.lookup x.1=some c):closureFor scope env=pure (eH env scope.names []):=by
 have:=lG env scope.names [] h
 unfold closureFor
 exact (bind_pure _).trans this
theorem kJ{env:Env}:∀ {names:List (Str×NameKind)}{acc:List (Str×Addr)},(∀x∈names,x.2=.free->∃c,env.cells.lookup x.1=some c)->(∀x c,(x,c)∈acc->env.cells.lookup x=some c) ->
  ∀x c,(x,c)∈eH env names acc->env.cells.lookup x=some c
 | [],acc,_,ha,x,c,hm=>ha x c hm
 | (n,k)::r,acc,h,ha,x,c,hm=>by
  unfold eH at hm
  have hr:=fun x hx=>h x (zC _ hx)
  split at hm
  ·rename_i hk
   have hk':k=.free:=by simpa using hk
   obtain⟨c',hc⟩:=h (n,k) zE hk'
   have hc:env.cells.lookup n=some c':=hc
   refine kJ hr (fun y d hy=>?_) x c hm
   rcases zR.mp hy with e|hy
   ·cases e;rw[hc];rfl
   ·exact ha y d hy
  ·exact kJ hr ha x c hm
theorem gD{env:Env}:∀ {names:List (Str×NameKind)}{acc:List (Str×Addr)}{x:Str},(names.lookup x=some .free\/∃c,acc.lookup x=some c)->∃c,(eH env names acc).lookup x=some c
 | [],acc,x,h=>by
  rcases h with h|h
  ·cases h
  ·exact h
 | (n,k)::r,acc,x,h=>by
  unfold eH
  split
  ·rename_i hk
   refine gD ?_
   rcases h with h|⟨c,h⟩
   ·rw[yC] at h
    cases e:x == n with
    | true=>exact .inr ⟨_,by rw[yC,e]⟩
    | false=>rw[e] at h;exact .inl h
   ·refine .inr ?_
    rw[yC]
    cases e:x == n with
    | true=>exact⟨_,rfl⟩
    | false=>exact⟨c,h⟩
  ·rename_i hk
   refine gD ?_
   rcases h with h|h
   ·rw[yC] at h
    cases e:x == n with
    | true =>
     rw[e] at h
     cases h
     exact absurd rfl hk
    | false=>rw[e] at h;exact .inl h
   ·exact .inr h
theorem mP{env:Env}:∀ {names:List (Str×NameKind)}{x:Str}{k:NameKind},names.lookup x=some k ->
  (names.map fun (n,k)=>if (k == NameKind.free&&env.scope.kind == .function&&env.kindOf n == some .cell) then (n,NameKind.cell) else (n,k)).lookup x=some (if (k == NameKind.free&&env.scope.kind == .function&&env.kindOf x == some .cell) then NameKind.cell else k)
 | [],_,_,h=>by cases h
 | (n,k)::r,x,k',h=>by
  have ih:=@mP env r x k'
  rw[zI]
  dsimp only
  cases hx:x == n with
  | true =>
   have e:x=n:=by simpa using hx
   subst e
   rw[yC,hx] at h
   cases h
   split<;>simp[yC, *]
  | false =>
   rw[yC,hx] at h
   have ih:=ih h
   split
   ·rw[yC,hx];exact ih
   ·rw[yC,hx];exact ih
theorem oi{env:Env}:∀ {names:List (Str×NameKind)}{x:Str},names.lookup x=none ->
  (names.map fun (n,k)=>if (k == NameKind.free&&env.scope.kind == .function&&env.kindOf n == some .cell) then (n,NameKind.cell) else (n,k)).lookup x=none
 | [],_,h=>rfl
 | (n,k)::r,x,h=>by
  have ih:=@oi env r x
  rw[zI]
  dsimp only
  cases hx:x == n with
  | true=>rw[yC,hx] at h;cases h
  | false =>
   rw[yC,hx] at h
   split
   ·rw[yC,hx];exact ih h
   ·rw[yC,hx];exact ih h
noncomputable def fg(X:Cx)(scope:Scope)(C:Addr):Env :=
 { scope:=relabel scope X.env,locals:=C,globals:=X.env.globals,cells:=cellsFrom (C+1) scope.names (eH X.env scope.names []),qual:=X.env.qual,func:=none,code:=X.env.code,frame:=X.env.frame,builtins:=X.env.builtins }
noncomputable def aY(X:Cx)(scope:Scope)(N:List Str)(fp:List Addr)(s:Shared)(H:Hp):Cx :=
 { X with N:=N,s₀:=s,H₀:=H,env:=fg X scope s.heap.objs.size,outer:=X.stack,ex:=fp,fn:=fun x=>decide (scope.names.lookup x=some .cell),pn:=[],xe:=fun _ _=>False }
theorem yZ{M:Model}{A:Around}{E:Value->Shared->Prop}{s:Shared}{scope:Scope}{globals:Addr}{cl:List (Str×Addr)}{qual:Str}{env:Env}{Q:Env->Shared->Prop}
  (hQ:∀h',h'.Ns s.heap.objs.size (fun _=>none)->(∀b o,s.heap.get? b=some o->h'.get? b=some o)->CellsOk h' (s.heap.objs.size+1) (cellsFrom (s.heap.objs.size+1) scope.names []) ->
   Q { scope:=scope,locals:=s.heap.objs.size,globals:=globals,cells:=cellsFrom (s.heap.objs.size+1) scope.names cl,qual:=qual,func:=none,code:=env.code,frame:=env.frame,builtins:=env.builtins } { s with heap:=h' }) :
  wpAny M A (newFunctionEnv scope globals cl [] qual none .none (some env)) Q E s:=by
 simp only[newFunctionEnv,Option.isSome_some,if_true]
 refine zW (wpAny_alloc ?_)
 refine zW (wpAny_layCells _ (fun name kind cells=>by cases hkc:kind == NameKind.cell<;>simp[hkc]) _ _ _ _ ?_)
 have ok:=cellsFrom_ok scope.names (s.heap.push { cls:=.type "dict",data:=.dict #[] }) (s.heap.objs.size+1) [] ⟨fun _ _ hm=>(nomatch hm),List.Pairwise.nil⟩ (by rw[Heap.size_push];exact Nat.le_refl _)
 rw[Heap.size_push] at ok
 rw[show ({ s with heap:=s.heap.push { cls:=.type "dict",data:=.dict #[] } }:Shared).heap.objs.size=s.heap.objs.size+1 from Heap.size_push ..]
 rw[List.forIn_nil]
 refine zW (zX (zX ?_))
 exact hQ _ ((Heap.Ns.new s.heap (.type "dict")).keeps (pushCells_keeps _ _)) (fun b o e=>pushCells_keeps _ _ b o (zV _ e)) ok
section
variable {X:Cx}{pins:List (Addr×Obj)}{σ σ':St}{H:Hp}{s:Shared}{fp:List Addr}{scope:Scope}{N:List Str}{h4:Heap}
theorem jU(ok:X.Ok)(hfree:∀x∈scope.names,x.2=.free->X.env.kindOf x.1=some .cell\/X.env.kindOf x.1=some .free):∀x∈scope.names,x.2=.free->∃c,X.env.cells.lookup x.1=some c :=
 fun x hx hk=>ok.has x.1 (hfree x hx hk)
theorem nv{C:Addr}{x:Str}{k:NameKind}(h:scope.names.lookup x=some k):(fg X scope C).kindOf x=some k\/(k=.free/\(fg X scope C).kindOf x=some .cell):=by
 have q:=mP (env:=X.env) h
 have q':(fg X scope C).kindOf x=some (if (k == NameKind.free&&X.env.scope.kind == .function&&X.env.kindOf x == some .cell) then NameKind.cell else k):=q
 rw[q']
 split
 ·rename_i hc
  have:k=.free:=by
   simp only[zF,beq_iff_eq] at hc
   exact hc.1.1
  exact .inr ⟨this,rfl⟩
 ·exact .inl rfl
theorem kZ{C:Addr}{x:Str}{k:NameKind}(h:(fg X scope C).kindOf x=some k):scope.names.lookup x=some k\/(k=.cell/\scope.names.lookup x=some .free):=by
 cases e:scope.names.lookup x with
 | none =>
  have q:(fg X scope C).kindOf x=none:=oi (env:=X.env) e
  rw[q] at h;cases h
 | some k' =>
  rcases nv (X:=X) (C:=C) e with q|⟨q,q'⟩
  ·rw[q] at h;cases h;exact .inl rfl
  ·rw[q'] at h;cases h;subst q;exact .inr ⟨rfl,rfl⟩
theorem EV(I:Inv X pins σ H s)(hf:∀b∈fp,cI X pins H b)(hfl:∀b∈fp,b < s.heap.objs.size)(hk:scope.kind=.function)
  (hfree:∀x∈scope.names,x.2=.free->X.env.kindOf x.1=some .cell\/X.env.kindOf x.1=some .free)
  (hns:h4.Ns s.heap.objs.size (fun _=>none)) (hkeep:∀b o,s.heap.get? b=some o->h4.get? b=some o) (hco:CellsOk h4 (s.heap.objs.size+1) (cellsFrom (s.heap.objs.size+1) scope.names []))
  (hdup:∀ {x:Str},(x,NameKind.cell)∈scope.names->(x,NameKind.free)∈scope.names->False) (hcap:∀ (i:Nat) (x:Str) (v:V),N[i]?=some x->σ'[i]?=some (some v)->scope.names.lookup x=some .free/\∃j:Nat,X.N[j]?=some x/\σ[j]?=some (some v)) (hlen:σ'.length=N.length) (t':Nat) :
  Inv (aY X scope N fp s H) [] σ' H { s with heap:=h4,toks:=t' }:=by
 have hcl:=jU I.ok hfree
 have clx:∀x c,(eH X.env scope.names []).lookup x=some c->X.env.cells.lookup x=some c:=fun x c e=>kJ hcl (fun _ _ z=>by cases z) x c (mem_of_lookup e)
 have look:∀x c,(fg X scope s.heap.objs.size).cells.lookup x=some c->(x,c)∈cellsFrom (s.heap.objs.size+1) scope.names []\/X.env.cells.lookup x=some c:=fun x c e=>by
  have e:(cellsFrom (s.heap.objs.size+1) scope.names (eH X.env scope.names [])).lookup x=some c:=e
  rw[b9] at e
  rcases jE e with q|⟨_,q⟩
  ·exact .inl (mem_of_lookup q)
  ·exact .inr (clx x c q)
 have old:∀x c,X.env.cells.lookup x=some c->c < s.heap.objs.size:=fun x c e=>let ⟨_,q⟩:=I.cell x c e;q.lt
 have new:∀x c,(x,c)∈cellsFrom (s.heap.objs.size+1) scope.names []->s.heap.objs.size < c:=fun x c e=>(hco.empty x c e).2
 refine⟨⟨I.ok.mod,?_,I.ok.glob,I.ok.blt,Nat.le_refl _,?_,?_,?_,I.ok.hd,I.ok.frames,.inl rfl,?_,I.bs,yE I.ok.bsz I.sz,?_,?_,I.stack,I.stkFree⟩,rfl,I.bare,Un.kept hkeep,⟨_,hns,?_⟩,?_,I.hok.fresh (Nat.le_refl _),?_,
  fun p hp=>absurd (show p∈([]:List (Addr×Obj)) from hp) (by simp),I.hok.kept hkeep,hlen⟩
 ·show (relabel scope X.env).kind=_
  exact hk
 ·intro x y c e1 e2
  rcases look x c e1 with a|a<;>rcases look y c e2 with b|b
  ·exact name_of_addr hco.apart a b
  ·exact absurd (Nat.lt_trans (new x c a) (old y c b)) (Nat.lt_irrefl _)
  ·exact absurd (Nat.lt_trans (new y c b) (old x c a)) (Nat.lt_irrefl _)
  ·exact I.ok.inj x y c a b
 ·intro x hx
  show ∃c,(cellsFrom (s.heap.objs.size+1) scope.names (eH X.env scope.names [])).lookup x=some c
  refine Option.isSome_iff_exists.mp (W.cellsFrom_some _ _ _ ?_)
  rcases hx with hx|hx
  ·rcases kZ hx with q|⟨_,q⟩
   ·exact .inl q
   ·exact .inr (Option.isSome_iff_exists.mpr (gD (.inl q)))
  ·rcases kZ hx with q|⟨q,_⟩
   ·exact .inr (Option.isSome_iff_exists.mpr (gD (.inl q)))
   ·cases q
 ·intro x c hfn e
  have hfn:scope.names.lookup x=some .cell:=of_decide_eq_true hfn
  have e:(cellsFrom (s.heap.objs.size+1) scope.names (eH X.env scope.names [])).lookup x=some c:=e
  obtain⟨c',hc'⟩:=pG (n:=s.heap.objs.size+1) hfn
  rw[b9,jD hc'] at e
  cases e
  exact Nat.le_of_lt (new x c (mem_of_lookup hc'))
 ·intro b hb
  refine⟨Nat.ne_of_lt (hfl b hb),fun x c e z=>?_⟩
  rcases look x c e with a|a
  ·exact absurd (Nat.lt_trans (new x c a) (by rw[z];exact hfl b hb)) (Nat.lt_irrefl _)
  ·exact (hf b hb).2.2.2.2.1 x c a z
 ·intro b o e hb
  obtain⟨f0,f1,f2,f3,f4,f5⟩:=hf b hb
  rcases f3 with z|z
  ·exact I.ok.noex b o e z
  ·exact absurd (zP (zZ (I.ok.bs b o e).1) z) (Nat.lt_irrefl _)
 ·intro b hb hz
  obtain⟨f0,f1,f2,f3,f4,f5⟩:=hf b hb
  rcases zR.mp (I.stkSub b hz) with z|z
  ·exact f1 z
  ·exact f2 z
 ·intro i x v e1 e2 e3
  obtain⟨hfr,j,hj,hv⟩:=hcap i x v e1 e2
  have hm:(x,NameKind.free)∈scope.names:=mem_of_lookup hfr
  obtain⟨m,hn,hl⟩:=I.loc
  have kx:=hfree _ hm rfl
  obtain⟨u,ru,lk⟩:=hl j x v hj hv (kx.elim (fun k=>.inr (.inl k)) fun k=>.inr (.inr k))
  refine⟨u,ru,.inr ⟨?_,?_⟩⟩
  ·rcases nv (X:=X) (C:=s.heap.objs.size) hfr with q|⟨_,q⟩
   ·exact .inr q
   ·exact .inl q
  ·rcases lk with ⟨k,_⟩|⟨_,c,ec,ic⟩
   ·have k:X.env.kindOf x=some .local:=k
    rcases kx with k'|k'<;>· rw[k] at k';cases k'
   ·obtain⟨c',hc'⟩:=gD (env:=X.env) (acc:=[]) (.inl hfr)
    have e':=clx x c' hc'
    rw[ec] at e'
    cases e'
    refine⟨c,?_,ic.keeps hkeep⟩
    show (cellsFrom (s.heap.objs.size+1) scope.names (eH X.env scope.names [])).lookup x=some c
    rw[b9]
    cases eo:(cellsFrom (s.heap.objs.size+1) scope.names []).lookup x with
    | none=>rw[iQ eo];exact hc'
    | some d =>
     have hcm:=gF _ _ _ _ (mem_of_lookup eo)
     exact (hdup hcm hm).elim
 ·intro x c e
  rcases look x c e with a|a
  ·exact⟨_,(hco.empty x c a).1⟩
  ·obtain⟨v,q⟩:=I.cell x c a
   exact⟨v,q.keeps hkeep⟩
 ·intro x c e
  rcases look x c e with a|a
  ·exact I.hok.fresh (Nat.le_of_lt (new x c a))
  ·exact I.freeC x c a
end
noncomputable abbrev v9(ifs:List Expr)(env:Env):Sem Bool:=forIn ifs true fun c r=>if r=true then do let ok <- isTrue c env (eval c env);pure (ForInStep.yield ok) else pure (ForInStep.yield r)
noncomputable def Mg(X:Cx)(ifs:List Expr)(t:TT):Prop :=
 ∀ (pins:List (Addr×Obj)) (s:Shared) (σ:St) (H:Hp) (Q:Bool->Hp->Prop),Inv X pins σ H s->t σ H Q->wpAny (model X.prog X.w) X.A (v9 ifs X.env) (TP X pins σ Q) X.xe s
theorem Ie{X:Cx}:Mg X [] (fun _ H Q=>Q true H):=fun _ _ _ H _ I h=>wpAny_tests_nil ⟨H,I,h⟩
theorem GP{X:Cx}{c:Expr}{t:TT}(h:PT X c t):Mg X [c] t:=fun pins s σ H Q I q=>wpAny_tests_one (h pins s σ H Q I q)
theorem vx{prog:Program}{w:World}{A:Around}{R:Result->Shared->Prop}{s:Shared}{elt target iter:Expr}{ifs:List Expr}{scope:Scope}{pos:Pos}{it acc:Value}{env:Env}(I:Nat->Shared->Prop)
  (turn:∀n s,I n s->wpAny (model prog w) A (pyNext it) (fun r s₁=>match r with
   | none=>R (.ok .next) s₁
   | some v=>wpAny (model prog w) A (letOwnedTupleGo target it v) (fun _ s₁'=>wpAny (model prog w) A (assign target env v) (fun _ s₂ =>
     wpAny (model prog w) A (v9 ifs env) (fun ok s₃ =>
      if ok=true then wpAny (model prog w) A (eval elt env) (fun x s₄ =>
       wpAny (model prog w) A (call (.builtin "list.append") [acc,x]) (fun _ s₅=>∃m,m < n/\I m s₅) (fun _ _=>False) s₄) (fun _ _=>False) s₃
      else ∃m,m < n/\I m s₃) (fun _ _=>False) s₂) (fun _ _=>False) s₁') (fun _ _=>False) s₁) (fun _ _=>False) s)
  (n:Nat) (h:I n s) :
  codeAny (model prog w) A (.compLoop (.ListComp elt [⟨target,iter,ifs,0⟩] scope pos) 0 it acc env) R s:=by
 refine codeAny_loop rfl I (fun n s hI=>?_) n h
 show wpAny _ A ((compTurn (.ListComp elt [⟨target,iter,ifs,0⟩] scope pos) 0 it acc env).onRaise (fun x=>do noteFrame x env;theTreesLotGoes x)) _ _ s
 refine wpAny_noted ?_
 rw[compTurn_list]
 refine zW (wpAny_standAt (zW (wpAny_mono (turn n s hI) (fun r s₁ h₁=>?_) fun _ _ h'=>h'.elim)))
 cases r with
 | none=>exact zX h₁
 | some v =>
  refine zW (wpAny_mono h₁ (fun _ s₁' h₁'=>?_) fun _ _ h'=>h'.elim)
  refine zW (wpAny_mono h₁' (fun _ s₂ h₂=>zW (wpAny_mono h₂ (fun ok s₃ h₃=>?_) fun _ _ h'=>h'.elim)) fun _ _ h'=>h'.elim)
  cases ok with
  | false=>exact zX ⟨rfl,h₃⟩
  | true =>
   exact zW (zW (wpAny_mono h₃ (fun x s₄ h₄=>zW (wpAny_mono h₄ (fun _ s₅ h₅=>zX (zX ⟨rfl,h₅⟩)) fun _ _ h'=>h'.elim)) fun _ _ h'=>h'.elim))
noncomputable def AF(X:Cx)(pins:List (Addr×Obj))(σ:St)(Q:VK)(acc:Value)(C:Addr)(r:Result)(s5:Shared):Prop :=
 ∃ (D:Addr) (H5:Hp) (m:Str->Option Value),acc=.ref D/\r=.ok .next/\Inv X pins σ H5 s5/\s5.heap.Ns C m/\cI X pins H5 C/\Q (.ref D) H5
noncomputable def FF(J:It)(g:TG)(tt:TT)(te:TE)(D:Addr)(σ0:St)(H0:Hp)(Q:VK):Prop :=
 ∃W:Nat->Nat->St->Hp->Prop,(∃m,W 0 m σ0 H0)/\∀i m σ H,W i m σ H ->
  (J.stop i H/\Q (.ref D) H)\/(J.go i H/\∀x H',J.yld i H x H'->g x σ H' fun σ2 H2=>tt σ2 H2 fun b H3 =>
   if b=true then te σ2 H3 fun v H4=>∃ys,H4 D=some (.lst ys)/\ys.length < sizeLine/\∃m',m' < m/\W (i+1) m' σ2 (upd H4 D (.lst (ys++[v])))
   else ∃m',m' < m/\W (i+1) m' σ2 H3)
section
variable {X:Cx}{pins:List (Addr×Obj)}{σ σ':St}{H:Hp}{s:Shared}{scope:Scope}{N:List Str}
 {tg iter elt:Expr}{ifs:List Expr}{pos:Pos}{g:TG}{tt:TT}{te:TE}
theorem tR{J:It}{fp:List Addr}{it:Addr}{tn:Nat->Heap->Prop}{Q:VK}(hc:X.calm=true)(I:Inv X pins σ H s)(T:Turn X.prog X.w X.K tg J fp it tn)(st:tn 0 s.heap)(hf:∀b∈fp,cI X pins H b)(hk:scope.kind=.function)
  (hfree:∀x∈scope.names,x.2=.free->X.env.kindOf x.1=some .cell\/X.env.kindOf x.1=some .free) (hdup:∀ {x:Str},(x,NameKind.cell)∈scope.names->(x,NameKind.free)∈scope.names->False)
  (hcap:∀ (i:Nat) (x:Str) (v:V),N[i]?=some x->σ'[i]?=some (some v)->scope.names.lookup x=some .free/\∃j:Nat,X.N[j]?=some x/\σ[j]?=some (some v)) (hlen:σ'.length=N.length)
  (hY:∀fp s H,PG (aY X scope N fp s H) tg g/\Mg (aY X scope N fp s H) ifs tt/\PE (aY X scope N fp s H) elt te)
  (hrd:∀D,H D=none->FF J g tt te D σ' (upd H D (.lst [])) Q) {E:Value->Shared->Prop} :
  wpAny (model X.prog X.w) X.A (newList []) (fun acc s₃=>wpAny (model X.prog X.w) X.A (newFunctionEnv scope X.env.globals (eH X.env scope.names []) [] X.env.qual none .none (some X.env)) (fun cenv s₄ =>
   codeAny (model X.prog X.w) X.A (.compStart (.ListComp elt [⟨tg,iter,ifs,0⟩] scope pos) 0 (.ref it) acc { cenv with scope:=relabel scope X.env }) (AF X pins σ Q acc cenv.locals) s₄) E s₃) E s:=by
 refine wpAny_newObj_type ?_
 have hfl:∀b∈fp,b < s.heap.objs.size:=fun b hb=>let ⟨o,e,_⟩:=T.obj _ _ st b hb;zZ e
 have I3:=I.lnew (ys:=[]) (its:=[]) (t':=s.toks) .nil (Nat.zero_le _)
 have hD:H s.heap.objs.size=none:=I.fresh
 obtain⟨W,⟨m0,w0⟩,turn⟩:=hrd _ hD
 generalize e3:({ s with heap:=s.heap.push { cls:=.type "list",data:=.seq ([]:List Value).toArray },toks:=s.toks }:Shared)=s3 at I3
 have e3h:s3.heap=s.heap.push { cls:=.type "list",data:=.seq ([]:List Value).toArray }:=by rw[<- e3]
 generalize hH3:upd H s.heap.objs.size (.lst [])=H3 at I3 w0 turn
 have hlt:s.heap.objs.size < s3.heap.objs.size:=by rw[e3h,Heap.size_push];exact Nat.lt_succ_self _
 have hk3:∀b o,s.heap.get? b=some o->s3.heap.get? b=some o:=fun b o e=>by rw[e3h];exact zV _ e
 generalize s.heap.objs.size=D at *
 have f3:∀b∈fp,cI X pins H3 b:=fun b hb=>by
  obtain⟨f0,f⟩:=hf b hb
  refine⟨?_,f⟩
  rw[<- hH3,aE (Nat.ne_of_lt (hfl b hb))]
  exact f0
 have st3:tn 0 s3.heap:=T.keep _ _ _ st fun b _ o e=>hk3 b o e
 refine yZ fun h4 hns hkp hco=>?_
 dsimp only
 have I4:=EV (N:=N) (σ':=σ') (fp:=fp) I3 f3 (fun b hb=>Nat.lt_trans (hfl b hb) hlt) hk hfree hns hkp hco hdup hcap hlen s3.toks
 have fC:∀H',H' s3.heap.objs.size=none->cI X pins H' s3.heap.objs.size:=fun H' hn=>I3.fpOk (Nat.le_refl _) hn
 obtain⟨hg,htt,hte⟩:=hY fp s3 H3
 have efp:∀b∈fp,∀H':Hp,H' b=none->cI (aY X scope N fp s3 H3) [] H' b:=fun b hb H' hn=>by
  refine⟨hn,(I4.ok.exf b hb).1,I4.ok.exfs b hb,.inl hb,(I4.ok.exf b hb).2,fun p hp=>?_⟩
  cases hp
 have loop:codeAny (model X.prog X.w) X.A (.compLoop (.ListComp elt [⟨tg,iter,ifs,0⟩] scope pos) 0 (.ref it) (.ref D) (fg X scope s3.heap.objs.size)) (AF X pins σ Q (.ref D) s3.heap.objs.size) { s3 with heap:=h4 }:=by
  refine vx (fun n s'=>∃i σ' H',Inv (aY X scope N fp s3 H3) [] σ' H' s'/\tn i s'.heap/\(∀b∈fp,H' b=none)/\W i n σ' H') ?_ m0
   ⟨0,σ',H3,I4,T.keep _ _ _ st3 fun b _ o e=>hkp b o e,fun b hb=>(f3 b hb).1,w0⟩
  rintro n s5 ⟨i,σ5,H5,I5,st5,fr5,w5⟩
  rcases turn i n σ5 H5 w5 with ⟨stop,q⟩|⟨go,step⟩
  ·refine ck (T.done (aY X scope N fp s3 H3) rfl rfl rfl hc i [] s5 σ5 H5 _ I5 (fun b hb=>efp b hb H5 (fr5 b hb)) st5 stop) fun r s6 ⟨hr,I6⟩=>?_
   subst hr
   obtain⟨m,hn6,_⟩:=I6.loc
   refine⟨D,H5,m,rfl,rfl,I3.call' I6.os I6.base I6.hok I6.bare (fun b hb=>?_),hn6,fC H5 I6.free,q⟩
   obtain⟨f0,f1,f2,f4,f5,f6⟩:=f3 b hb
   exact⟨f4,f1,f5,f6⟩
  ·refine ck (T.item (aY X scope N fp s3 H3) rfl rfl rfl hc i [] s5 σ5 H5 _ I5 (fun b hb=>efp b hb H5 (fr5 b hb)) st5 go) fun r s6 ⟨u,hr,h6⟩=>?_
   subst hr
   refine ck h6 fun _ s7 ⟨x,H7,I7,r7,y7,st7,fr7⟩=>?_
   have I7':=I7.pinned (fun b hb=>efp b hb H7 (fr7 b hb)) (T.obj _ _ st7)
   have again:∀ {pl:List (Addr×Obj)}{σ9:St}{H9:Hp}{s9:Shared}{n':Nat},Inv (aY X scope N fp s3 H3) ([]++nE fp s7.heap) σ9 H9 s9->W (i+1) n' σ9 H9->∃i σ' H',Inv (aY X scope N fp s3 H3) [] σ' H' s9/\tn i s9.heap/\(∀b∈fp,H' b=none)/\W i n' σ' H':=fun {pl σ9 H9 s9 n'} I9 w9=>by
    refine⟨i+1,σ9,H9,I9.unpinned,T.keep _ _ _ st7 fun b hb o e=>(I9.pin (b,o) (yF _ (yF _ (dH hb e)))).1,fun b hb=>?_,w9⟩
    obtain⟨o,e,d⟩:=T.obj _ _ st7 b hb
    exact (I9.pin (b,o) (yF _ (yF _ (dH hb e)))).2.1
   refine ck (hg _ s7 σ5 H7 x u _ I7' r7 (step x H7 y7)) fun _ s8 ⟨σ8,H8,I8,q8⟩=>?_
   refine ck (htt _ s8 σ8 H8 _ I8 q8) fun ok s9 ⟨H9,I9,q9⟩=>?_
   cases ok with
   | false =>
    rw[if_neg (by decide)] at q9
    rw[if_neg (by decide)]
    obtain⟨m',hm,w9⟩:=q9
    exact⟨m',hm,again (pl:=[]) I9 w9⟩
   | true =>
    rw[if_pos rfl] at q9
    rw[if_pos rfl]
    refine ck (hte _ s9 σ8 H9 _ I9 q9) fun y s10 ⟨v,H10,I10,r10,ys,hD10,hz,m',hm,w10⟩=>?_
    refine ck (sS (X:=aY X scope N fp s3 H3) _ s10 σ8 H10 (.ref D) [v] (.ref D) [y] (fun _ H'=>W (i+1) m' σ8 H') I10 rfl (.cons r10 .nil) ⟨D,ys,v,rfl,rfl,hD10,hz,w10⟩) fun _ s11 ⟨_,H11,I11,_,w11⟩=>?_
    exact⟨m',hm,again (pl:=[]) I11 w11⟩
 exact codeAny_compStart_list loop (T.self _ 0 _ _ _ (T.keep _ _ _ st3 fun b _ o e=>hkp b o e) loop)
end
def Gn(wi:TI)(g:TG)(tt:TT)(te:TE)(caps:St->St):TE:=fun σ H Q=>wi σ H fun J H1=>∀D,H1 D=none->FF J g tt te D (caps σ) (upd H1 D (.lst [])) Q
structure i6(X:Cx)(scope:Scope)(N:List Str)(caps:St->St):Prop where
 kind:scope.kind=.function
 free:∀x∈scope.names,x.2=.free->X.env.kindOf x.1=some .cell\/X.env.kindOf x.1=some .free
 dup:∀ {x:Str},(x,NameKind.cell)∈scope.names->(x,NameKind.free)∈scope.names->False
 loc:∀x∈scope.names,x.2=.local -> scope.names.lookup x.1=some .local
 cap:∀ (σ:St) (i:Nat) (x:Str) (v:V),N[i]?=some x->(caps σ)[i]?=some (some v)->scope.names.lookup x=some .free/\∃j:Nat,X.N[j]?=some x/\σ[j]?=some (some v)
 len:∀σ:St,(caps σ).length=N.length
section
variable {X:Cx}{scope:Scope}{N:List Str}{caps:St->St}{tg iter elt:Expr}{ifs:List Expr}{pos:Pos}{wi:TI}{g:TG}{tt:TT}{te:TE}
theorem HG(hc:X.calm=true)(S:i6 X scope N caps)(hi:PI X tg iter wi)
  (hY:∀fp s H,PG (aY X scope N fp s H) tg g/\Mg (aY X scope N fp s H) ifs tt/\PE (aY X scope N fp s H) elt te)
  (hs:∀x,foldedSetIterable iter X.env x=pure x:=by intro _;rfl):PE X (.ListComp elt [⟨tg,iter,ifs,0⟩] scope pos) (Gn wi g tt te caps):=by
 intro pins s σ H Q I h
 rw[eval_ListComp]
 refine wpAny_comprehension_free (use:=none) rfl hs (lC (jU I.ok S.free)) S.kind S.loc (ck (hi pins s σ H _ I h) fun v s1 h1=>ck h1 fun itv s2 h2=>?_)
 obtain⟨it,fp,tn,J,H2,e,I2,T,st2,f2,rd⟩:=h2
 subst e
 refine ck (tR (iter:=iter) (pos:=pos) (E:=X.xe) hc I2 T st2 f2 S.kind S.free S.dup (S.cap σ) (S.len σ) hY rd) fun acc s3 h3=>ck h3 fun cenv s4 h4=>?_
 refine codeAny_mono h4 fun r s5 h5=>?_
 obtain⟨D,H5,m,rfl,rfl,I5,hn,fC,q⟩:=h5
 refine⟨m,hn,fun h' sb=>?_⟩
 obtain⟨f0,f1,f2',f3,f4,f5⟩:=fC
 exact⟨.ref D,H5,I5.turned (t':=s5.toks) (fun b o hb e=>(sb.2 b hb).trans e) f0 f1 f3 f4 f5,rfl,q⟩
theorem GZ{i:Nat}{y:Str}{py spos:Pos}(hc:X.calm=true)(S:i6 X scope N caps)(hi:PI X tg iter wi)
  (hY:∀fp s H,PG (aY X scope N fp s H) tg g/\Mg (aY X scope N fp s H) ifs tt/\PE (aY X scope N fp s H) elt te)
  (hN:X.N.Nodup) (hiy:X.N[i]?=some y) (hy:X.env.scope.names.lookup y=some .local)
  (hsw:swapsWith (.ListComp elt [⟨tg,iter,ifs,0⟩] scope pos) (some (.Name y py)) spos.line X.env=pure true)
  (hs:∀x,foldedSetIterable iter X.env x=pure x:=by intro _;rfl):PS X (.Assign [.Name y py] (.ListComp elt [⟨tg,iter,ifs,0⟩] scope pos) spos) (FL (Gn wi g tt te caps) (xr i)):=by
 intro pins s σ H D I h
 rw[exec_Assign_Name_used _ _ _ _ hsw]
 refine zW (wpAny_standAt (zW ?_))
 show wpAny _ X.A (do let _ <- comprehension (.ListComp elt [⟨tg,iter,ifs,0⟩] scope pos) scope X.env _ (newList []) false (eval iter X.env) (some (assign (.Name y py) X.env))) _ _ s
 refine zW (wpAny_mono (wpAny_comprehension_free (use:=some (assign (.Name y py) X.env)) (Q:=fun _ s'=>SP X pins D .next s') rfl hs (lC (jU I.ok S.free)) S.kind S.loc
  (ck (hi pins s σ H _ I h) fun v s1 h1=>ck h1 fun itv s2 h2=>?_)) (fun _ s' hq=>zX (zX hq)) fun _ _ e=>e)
 obtain⟨it,fp,tn,J,H2,e,I2,T,st2,f2,rd⟩:=h2
 subst e
 refine ck (tR (iter:=iter) (pos:=pos) (E:=X.xe) hc I2 T st2 f2 S.kind S.free S.dup (S.cap σ) (S.len σ) hY rd) fun acc s3 h3=>ck h3 fun cenv s4 h4=>?_
 refine codeAny_mono h4 fun r s5 h5=>?_
 obtain⟨D',H5,m,rfl,rfl,I5,hn,fC,q⟩:=h5
 show wpAny _ X.A (assign (.Name y py) X.env (.ref D')) _ _ _
 refine wpAny_assign_Name (tj (v:=.ref D') I5 hN hiy (.inl hy) rfl (fun s6 I6 ⟨a,sa,ha⟩=>?_) (.inr hy))
 obtain⟨f0,f1,f2',f3,f4,f5⟩:=fC
 have hne:cenv.locals≠a:=by
  rcases ha with z|z
  ·rw[z];exact f1
  ·exact fun w=>f4 y a z w.symm
 refine⟨m,hn.sameBut sa hne,fun h' sb=>?_⟩
 exact⟨_,H5,I6.turned (t':=s6.toks) (fun b o hb e=>(sb.2 b hb).trans e) f0 f1 f3 f4 f5,q⟩
end
noncomputable abbrev N1(X:Cx)(qual:Str)(scope:Scope)(f c L:Addr):Env:=W.envX qual scope L f (.ref c) (eH X.env scope.names [])
noncomputable def gL(X:Cx)(A:Around)(qual:Str)(scope:Scope)(N:List Str)(f c:Addr)(s:Shared)(H:Hp):Cx where
 prog:=X.prog
 w:=X.w
 K:=X.K
 mg:=X.mg
 base:=X.base
 A:=A.deeper (N1 X qual scope f c s.heap.objs.size)
 N:=N
 s₀:=s
 H₀:=H
 env:=N1 X qual scope f c s.heap.objs.size
 outer:=X.stack
 stack:=N1 X qual scope f c s.heap.objs.size::X.stack
 ex:=[]
 fn:=fun _=>false
 calm:=true
 pn:=[]
 xe:=fun _ _=>False
section
variable {X:Cx}{pins:List (Addr×Obj)}{σ:St}{H:Hp}{s:Shared}{scope:Scope}{N:List Str}{h1:Heap}{A:Around}{caps:St->St}{p qual:Str}{f c:Addr}{u:Value}{v:V}
theorem Iv(I:Inv X pins σ H s)(hd:A.handled=none)(hA:A.frames=some X.stack)(S:i6 X scope N caps)(hnc:∀x∈scope.names,x.2≠.cell)(hN0:N[0]?=some p)(hp:scope.names.lookup p=some .local)(hNd:N.Nodup)(r:RelV v u)
  (hns:h1.Ns s.heap.objs.size (fun x=>[(p,u)].reverse.lookup x)) (hkeep:∀b o,s.heap.get? b=some o->h1.get? b=some o) (t':Nat) :
  Inv (gL X A qual scope N f c s H) [] ((caps σ).set 0 (some v)) H { s with heap:=h1,toks:=t' }:=by
 have hcl:=jU I.ok S.free
 have clx:∀x c,(eH X.env scope.names []).lookup x=some c->X.env.cells.lookup x=some c:=fun x c e=>kJ hcl (fun _ _ z=>by cases z) x c (mem_of_lookup e)
 have noA:∀b:Addr,b∉(gL X A qual scope N f c s H).ex:=fun b z=>absurd (show b∈([]:List Addr) from z) (by simp)
 refine⟨⟨I.ok.mod,S.kind,rfl,rfl,Nat.le_refl _,fun x y d e1 e2=>I.ok.inj x y d (clx x d e1) (clx y d e2),fun x hx=>?_,fun x d z=>?_,fun _=>hd,Around.frames_deeper hA,.inr ⟨rfl,rfl⟩,fun b z=>absurd z (noA b),I.bs,yE I.ok.bsz I.sz,fun b _ _=>noA b,fun b z=>absurd z (noA b),I.stack,I.stkFree⟩,
  rfl,I.bare,Un.kept hkeep,⟨_,hns,fun i x w e1 e2 e3=>?_⟩,fun x d e=>?_,I.hok.fresh (Nat.le_refl _),fun x d e=>I.freeC x d (clx x d e),fun q hq=>absurd (show q∈([]:List (Addr×Obj)) from hq) (by simp),I.hok.kept hkeep,?_⟩
 ·rcases hx with hx|hx
  ·exact absurd rfl (hnc _ (mem_of_lookup (show scope.names.lookup x=some .cell from hx)))
  ·exact gD (.inl hx)
 ·cases z
 ·cases i with
  | zero =>
   have e1:N[0]?=some x:=e1
   rw[hN0] at e1
   cases e1
   have hl:0 < (caps σ).length:=by rw[S.len];exact (zU.mp hN0).1
   rw[List.getElem?_set_self hl] at e2
   cases e2
   exact⟨u,r,.inl ⟨hp,by simp⟩⟩
  | succ i =>
   have e2':(caps σ)[i+1]?=some (some w):=by
    rw[List.getElem?_set_ne (by omega)] at e2;exact e2
   obtain⟨hfr,j,hj,hv⟩:=S.cap σ (i+1) x w e1 e2'
   have hm:(x,NameKind.free)∈scope.names:=mem_of_lookup hfr
   obtain⟨m,hn,hl⟩:=I.loc
   have kx:=S.free _ hm rfl
   obtain⟨u',ru,lk⟩:=hl j x w hj hv (kx.elim (fun k=>.inr (.inl k)) fun k=>.inr (.inr k))
   refine⟨u',ru,.inr ⟨.inr hfr,?_⟩⟩
   rcases lk with ⟨k,_⟩|⟨_,c',ec,ic⟩
   ·have k:X.env.kindOf x=some .local:=k
    rcases kx with k'|k'<;>· rw[k] at k';cases k'
   ·obtain⟨c'',hc'⟩:=gD (env:=X.env) (acc:=[]) (.inl hfr)
    have e':=clx x c'' hc'
    rw[ec] at e'
    cases e'
    exact⟨c',hc',ic.keeps hkeep⟩
 ·obtain⟨w,q⟩:=I.cell x d (clx x d e)
  exact⟨w,q.keeps hkeep⟩
 ·rw[yD];exact S.len σ
theorem xI{k:Nat}{params:Arguments}{body:Expr}{pm ctv:Value}{name:Str}{te:TE}{Q:VK}(I:Inv X pins σ H s)(hr:eP (k+1) A)(hA:A.frames=some X.stack)(S:i6 X scope N caps)(hnc:∀x∈scope.names,x.2≠.cell)
  (hN0:N[0]?=some p) (hp:scope.names.lookup p=some .local) (hNd:N.Nodup) (hco:scope.isCoroutine=false) (hgen:scope.isGenerator=false)
  (hf:s.heap.get? f=some (W.kla_obj name qual params body scope (eH X.env scope.names []) pm c ctv)) (hcod:H c=some (.cod qual)) (hb:bindArgs (W.kla_fn name qual params body scope (eH X.env scope.names []) pm (.ref c) ctv) ⟨[u],[]⟩=pure [(p,u)])
  (r:RelV v u) (hY:PE (gL X A qual scope N f c s H) body te) (q:te ((caps σ).set 0 (some v)) H Q) :
  wpAny (model X.prog X.w) A (call (.ref f) [u]) (EP X pins σ Q) (fun _ _=>False) s:=by
 have hcd:s.heap.CodeRec (.ref c) qual:=I.hok c _ hcod
 refine wpAny_call (W.kla_callFunE hr.depth hf rfl hco hgen rfl hcd ?_)
 rw[hb]
 refine zX (wpAny_newFunctionEnv hnc (fun y hy=>?_) (fun h1 hns hsb=>⟨?_,?_⟩) S.kind)
 ·rw[yK.mp hy];exact hp
 ·exact I.nolimit.fresh _ hsb
 ·have hk1:∀b o,s.heap.get? b=some o->h1.get? b=some o:=fun b o e=>hsb.extBut b o (Nat.ne_of_lt (zZ e)) (zV _ e)
  have I1:=Iv (qual:=qual) (f:=f) (c:=c) I hr.hd hA S hnc hN0 hp hNd r hns hk1 (s.toks+[(p,u)].length)
  refine W.kla_codeExpr (wpAny_mono (hY [] _ _ H Q I1 q) (fun w s' ⟨v',H',I',r',q'⟩=>?_) fun e s' h=>False.elim h)
  exact⟨v',H',I.call' I'.os I'.base I'.hok I'.bare (fun b z=>absurd (show b∈([]:List Addr) from z) (by simp)),r',q'⟩
end
theorem Ae{pos pos':Pos}{c v:Value}(l:List Value)(h:TriplesOk l)(e:codeAmong pos' (l++[rawInt pos.line,rawInt pos.col,c])=some v):codeAmong pos' l=some v\/v=c:=by
 fun_induction TriplesOk l with
 | case1 =>
  simp only[List.nil_append,codeAmong,rawInt] at e
  split at e
  ·cases e;exact .inr rfl
  ·cases e
 | case2 a t b u x rest ih =>
  simp only[List.cons_append,codeAmong] at e ⊢
  split at e
  ·rename_i hc;rw[if_pos hc];exact .inl e
  ·rename_i hc;rw[if_neg hc];exact ih h e
 | case3 l h1 h2=>exact h.elim
section
variable {X:Cx}{pins:List (Addr×Obj)}{σ:St}{H:Hp}{s:Shared}{scope:Scope}{N:List Str}{caps:St->St}{qual:Str}{c P:Addr}
theorem w6{params:Arguments}{body:Expr}{lpos:Pos}{Q:Value->Shared->Prop}(I:Inv X pins σ H s)(S:i6 X scope N caps)(hq:X.env.qual++"<lambda>"=qual)(hcode:X.env.code=.ref c)(C:W.CodeHd X.base c P)(hT:H P=some (.tab qual))(hB:NL X.mg X.base)
  (hdef:defaultsOf params X.env=([],[]))
  (h:∀ (f c':Addr) (pm ctv:Value) (s':Shared) (H':Hp),Inv X pins σ H' s'->s'.heap.get? f=some (W.kla_obj "<lambda>" qual params body scope (eH X.env scope.names []) pm c' ctv)->H' f=none->H' c'=some (.cod qual)->aZ H H'->cI X pins H' f->(∀b,H' b≠none->H b≠none\/H' b=some (.cod qual))->Q (.ref f) s') :
  wpAny (model X.prog X.w) X.A (eval (.Lambda params body scope lpos) X.env) Q X.xe s:=by
 have hcl:=lC (jU I.ok S.free)
 have hCs:=C.keeps I.bk
 have hg:s.heap.Ns mainGlobals X.mg:=by
  obtain⟨o,es,ep,e,r⟩:=I.ok.mod.glob
  exact⟨o,es,ep,I.bk _ _ e,r⟩
 have hPn:X.base.get? P=none:=by
  cases e:X.base.get? P with
  | none=>rfl
  | some o=>rw[(I.bs P o e).2] at hT;cases hT
 obtain⟨ps,hP,ht,hco⟩:=I.hok P _ hT
 have hb:s.heap.BuiltinsAt X.mg P:=by
  obtain⟨bm,o,b1,b2,b3,b4,b5⟩:=hB
  exact⟨bm,o,b1,b2,b3,(fun z=>by rw[z,hPn] at b4;cases b4),I.bk _ _ b4,b5⟩
 refine W.kla_eval hdef ?_
 rw[hq]
 cases hf:codeAmong lpos ps.toList with
 | some cv =>
  obtain⟨c',rfl,hc'⟩:=hco lpos cv hf
  refine W.kla_makeFunctionHit hcl I.ok.glob hg hcode hCs hP ht hf hb fun ctv h' tk kp hz=>?_
  have kp2:∀b o,s.heap.get? b=some o->(h'.push (W.kla_obj "<lambda>" qual params body scope (eH X.env scope.names []) ((X.mg "__name__").getD .none) c' ctv)).get? b=some o:=fun b o e=>zV _ (kp b o e)
  have hn:H h'.objs.size=none:=I.hok.fresh hz
  exact h _ c' _ ctv _ H (I.kept (t':=tk) kp2) (zY _ rfl) hn hc' (.refl _) (I.fpOk hz hn) fun b z=>.inl z
 | none =>
  have hgP:mainGlobals≠P:=fun z=>by
   obtain⟨o,es,ep,e,r⟩:=I.ok.mod.glob
   rw[z,hPn] at e;cases e
  refine W.kla_makeFunction hcl I.ok.glob hg hcode hCs hP ht hf hgP hb fun c' ctv h' tk hx hc1 hc2 hcr hP'=>?_
  have hn:H c'=none:=I.hok.fresh hc1
  have hz:s.heap.objs.size<=h'.objs.size:=Nat.le_of_lt (Nat.lt_of_le_of_lt hc1 hc2)
  have nP:∀ {b:Addr}{u:HO},H b=some u->(∀q,u≠.tab q)->b≠P:=fun {b u} e hne z=>by subst z;rw[hT] at e;cases e;exact hne _ rfl
  have kp:∀b o,b≠P->s.heap.get? b=some o->(h'.push (W.kla_obj "<lambda>" qual params body scope (eH X.env scope.names []) ((X.mg "__name__").getD .none) c' ctv)).get? b=some o:=fun b o hb e=>zV _ (hx b o hb e)
  have hPc:P≠c':=fun z=>by rw[<- z,hT] at hn;cases hn
  have up:∀b u,H b=some u->upd H c' (.cod qual) b=some u:=fun b u e=>by rw[aE (aQ e hn)];exact e
  have un:Un X.fs [] H (upd H c' (.cod qual)) s.heap (h'.push (W.kla_obj "<lambda>" qual params body scope (eH X.env scope.names []) ((X.mg "__name__").getD .none) c' ctv)):=by
   refine⟨fun b o e n _ _=>kp b o (fun z=>by rw[z,hT] at n;cases n) e,fun b o e n _ _=>⟨o.slots,kp b o (fun z=>by rw[z,hT] at n;cases n) e⟩,fun b o e n _=>?_,fun b o e _=>?_,fun b xs e=>up b _ e,fun b o u e=>up b _ e,⟨fun b u e _=>up b u e,fun b q ps' e z=>?_⟩⟩
   ·rw[aE (Nat.ne_of_lt (zP (zZ e) hc1))];exact n
   ·by_cases hb:b=P
    ·subst hb;exact⟨_,zV _ hP'⟩
    ·exact⟨o,kp b o hb e⟩
   ·by_cases hb:b=P
    ·subst hb
     rw[hP] at z
     cases z
     exact⟨_,zV _ hP'⟩
    ·exact⟨#[],by rw[Array.append_empty];exact kp b _ hb z⟩
  have hok:pe X.prog X.w (upd H c' (.cod qual)) (h'.push (W.kla_obj "<lambda>" qual params body scope (eH X.env scope.names []) ((X.mg "__name__").getD .none) c' ctv)):=by
   intro b u e
   by_cases hbc:b=c'
   ·subst hbc
    rw[aL] at e
    cases e
    obtain⟨c0,oc,vs,t,e0,e1,r⟩:=hcr
    exact⟨c0,oc,vs,t,e0,zV _ e1,r⟩
   ·rw[aE hbc] at e
    by_cases hb:b=P
    ·subst hb
     rw[hT] at e
     cases e
     refine⟨_,zV _ hP',?_,fun pos v hv=>?_⟩
     ·have:=TriplesOk_snoc lpos.line lpos.col (.ref c') ps.toList ht
      simpa using this
     ·have hv':codeAmong pos (ps.toList++[rawInt lpos.line,rawInt lpos.col,.ref c'])=some v:=by simpa using hv
      rcases Ae ps.toList ht hv' with z|z
      ·obtain⟨c0,z1,z2⟩:=hco pos v z
       exact⟨c0,z1,up _ _ z2⟩
      ·exact⟨c',z,aL⟩
    ·exact (I.hok b u e).stay (fun d o hd eo=>kp d o (by
      rcases hd with rfl|hd
      ·exact hb
      ·exact nP hd fun q z=>by cases z) eo) (fun d hd=>up d _ hd) fun d o hd _=>up d _ hd
  have I':=I.un (t':=tk) un hok
  have hnf:upd H c' (.cod qual) h'.objs.size=none:=by
   rw[aE (Nat.ne_of_gt hc2)];exact I.hok.fresh hz
  refine h _ c' _ ctv _ _ I' (zY _ rfl) hnf aL up (I.fpOk hz hnf) fun b z=>?_
  by_cases hbc:b=c'
  ·subst hbc;exact .inr aL
  ·rw[aE hbc] at z;exact .inl z
end
end L2
namespace Dl
open PySem L2 PySem.Spec PyProof.Rows
noncomputable abbrev D:=PyData
mutual
noncomputable def Rep(K:W.Frag)(H:Hp):D->V->Prop
 | .none,v=>v=.non
 | .bool b,v=>v=.bl b
 | .int i,v=>v=.int i
 | .str x,v=>v=.str x
 | .tuple ds,v=>∃a vs,v=.ref a/\ju K H a vs/\au K H ds vs
 | .list ds,v=>∃a vs,v=.ref a/\iV K H a vs/\au K H ds vs
 | .dict _,_=>False
noncomputable def au(K:W.Frag)(H:Hp):List D->List V->Prop
 | [],vs=>vs=[]
 | d::ds,vs=>∃v r,vs=v::r/\Rep K H d v/\au K H ds r
end
theorem aB{K:W.Frag}{H H':Hp}{a:Addr}{xs:List V}(e:aZ H H')(h:ju K H a xs):ju K H' a xs:=by
 rcases h with (h|⟨o,h⟩)|h
 ·exact .inl (.inl (e _ _ h))
 ·exact .inl (.inr ⟨o,e _ _ h⟩)
 ·exact .inr h
mutual
theorem Rep.mono{K:W.Frag}{H H':Hp}(e:aZ H H'):∀ {d:D}{v:V},Rep K H d v->Rep K H' d v
 | .none,_,h=>h
 | .bool _,_,h=>h
 | .int _,_,h=>h
 | .str _,_,h=>h
 | .tuple ds,_,h=>by
  simp only[Rep] at h ⊢
  obtain⟨a,vs,rfl,q,r⟩:=h
  exact⟨a,vs,rfl,aB e q,au.mono e r⟩
 | .list ds,_,h=>by
  simp only[Rep] at h ⊢
  obtain⟨a,vs,rfl,q,r⟩:=h
  exact⟨a,vs,rfl,e.seq q,au.mono e r⟩
 | .dict _,_,h=>h
theorem au.mono{K:W.Frag}{H H':Hp}(e:aZ H H'):∀ {ds:List D}{vs:List V},au K H ds vs->au K H' ds vs
 | [],_,h=>h
 | d::ds,_,h=>by
  simp only[au] at h ⊢
  obtain⟨v,r,rfl,a,b⟩:=h
  exact⟨v,r,rfl,Rep.mono e a,au.mono e b⟩
end
section
variable {K:W.Frag}{H:Hp}
theorem au.nil:au K H [] []:=by simp[au]
theorem au.cons{d:D}{v:V}{ds:List D}{vs:List V}(a:Rep K H d v)(b:au K H ds vs):au K H (d::ds) (v::vs):=by
 simp only[au];exact⟨v,vs,rfl,a,b⟩
theorem au.cons_inv{d:D}{ds:List D}{vs:List V}(h:au K H (d::ds) vs):∃v r,vs=v::r/\Rep K H d v/\au K H ds r:=by simpa only[au] using h
theorem au.nil_inv{vs:List V}(h:au K H [] vs):vs=[]:=by simpa only[au] using h
theorem au.length:∀ {ds:List D}{vs:List V},au K H ds vs->vs.length=ds.length
 | [],_,h=>by rw[h.nil_inv];rfl
 | d::ds,_,h=>by obtain⟨v,r,rfl,_,b⟩:=h.cons_inv;simp[au.length b]
theorem au.get:∀ {ds:List D}{vs:List V}{i:Nat}{v:V},au K H ds vs->vs[i]?=some v->∃d,ds[i]?=some d/\Rep K H d v
 | [],_,i,v,h,e=>by rw[h.nil_inv] at e;simp at e
 | d::ds,_,i,v,h,e=>by
  obtain⟨v',r,rfl,a,b⟩:=h.cons_inv
  cases i with
  | zero=>simp at e;subst e;exact⟨d,rfl,a⟩
  | succ i=>simp at e;obtain⟨d',h1,h2⟩:=au.get b e;exact⟨d',by simpa using h1,h2⟩
theorem au.getD:∀ {ds:List D}{vs:List V}{i:Nat}{d:D},au K H ds vs->ds[i]?=some d->∃v,vs[i]?=some v/\Rep K H d v
 | [],_,i,d,h,e=>by simp at e
 | d::ds,_,i,d',h,e=>by
  obtain⟨v',r,rfl,a,b⟩:=h.cons_inv
  cases i with
  | zero=>simp at e;subst e;exact⟨v',rfl,a⟩
  | succ i=>simp at e;obtain⟨v,h1,h2⟩:=au.getD b e;exact⟨v,by simpa using h1,h2⟩
theorem au.append:∀ {ds es:List D}{vs us:List V},au K H ds vs->au K H es us->au K H (ds++es) (vs++us)
 | [],_,_,_,h,g=>by rw[h.nil_inv];exact g
 | d::ds,_,_,_,h,g=>by obtain⟨v,r,rfl,a,b⟩:=h.cons_inv;exact au.cons a (au.append b g)
theorem au.take:∀ {ds:List D}{vs:List V}(n:Nat),au K H ds vs->au K H (ds.take n) (vs.take n)
 | [],_,n,h=>by rw[h.nil_inv];simp[au]
 | d::ds,_,0,h=>by simp[au]
 | d::ds,_,n+1,h=>by obtain⟨v,r,rfl,a,b⟩:=h.cons_inv;exact au.cons a (au.take n b)
theorem au.drop:∀ {ds:List D}{vs:List V}(n:Nat),au K H ds vs->au K H (ds.drop n) (vs.drop n)
 | [],_,n,h=>by rw[h.nil_inv];simp[au]
 | d::ds,_,0,h=>h
 | d::ds,_,n+1,h=>by obtain⟨v,r,rfl,a,b⟩:=h.cons_inv;exact au.drop n b
theorem au.reverse:∀ {ds:List D}{vs:List V},au K H ds vs->au K H ds.reverse vs.reverse
 | [],_,h=>by rw[h.nil_inv];simp[au]
 | d::ds,_,h=>by
  obtain⟨v,r,rfl,a,b⟩:=h.cons_inv
  rw[List.reverse_cons,List.reverse_cons]
  exact au.append (au.reverse b) (au.cons a au.nil)
end
structure cy(HF H HF' H':Hp):Prop where
 hh:aZ H H'
 ff:aZ HF HF'
 fh:aZ HF' H'
 nw:∀a o,HF' a=some o->HF a=some o\/H a=none
theorem cy.refl{HF H:Hp}(s:aZ HF H):cy HF H HF H:=⟨.refl _,.refl _,s,fun _ _ e=>.inl e⟩
theorem cy.trans{HF H HF1 H1 HF2 H2:Hp}(a:cy HF H HF1 H1)(b:cy HF1 H1 HF2 H2):cy HF H HF2 H2 :=
 ⟨a.hh.trans b.hh,a.ff.trans b.ff,b.fh,fun x o e=>(b.nw x o e).elim (fun z=>a.nw x o z) fun z=>.inr (a.hh.free z)⟩
theorem eE{H:Hp}{p:Addr}{o:HO}(h:H p=none):aZ H (upd H p o):=fun b u e=>by rw[aE (aQ e h)];exact e
theorem cy.new{HF H:Hp}{p:Addr}{o:HO}(s:aZ HF H)(h:H p=none):cy HF H (upd HF p o) (upd H p o):=by
 have hf:HF p=none:=s.free h
 refine⟨eE h,eE hf,fun b u e=>?_,fun b u e=>?_⟩
 ·by_cases hb:b=p
  ·subst hb;rw[aL] at e ⊢;exact e
  ·rw[aE hb] at e ⊢;exact s b u e
 ·by_cases hb:b=p
  ·subst hb;exact .inr h
  ·rw[aE hb] at e;exact .inl e
theorem cy.own{HF H:Hp}{p:Addr}{o:HO}(s:aZ HF H)(h:H p=none):cy HF H HF (upd H p o) :=
 ⟨eE h,.refl _,fun b u e=>by rw[aE (aQ (s b u e) h)];exact s b u e,fun _ _ e=>.inl e⟩
theorem cy.freeze{HF H HF1 H1:Hp}{p:Addr}{o:HO}(g:cy HF H HF1 H1)(h:H p=none)(h1:H1 p=some o)(hf:HF1 p=none):cy HF H (upd HF1 p o) H1 :=
 ⟨g.hh,g.ff.trans (eE hf),fun b u e=>by
  by_cases hb:b=p
  ·subst hb;rw[aL] at e;rw[h1,<- e]
  ·rw[aE hb] at e;exact g.fh b u e,fun b u e=>by
  by_cases hb:b=p
  ·subst hb;exact .inr h
  ·rw[aE hb] at e;exact g.nw b u e⟩
def ki:List Str:=["ways_of","turned_order","fairest"]
def gy(K:W.Frag)(HF:Hp):Prop:=∀ (f:Addr) (oc:Value) (od:Option Addr) (fd:FuncData) (sl:Array (Option Value)) (c P:Addr),K.lookup f=some ⟨oc,od,.func fd,sl⟩->fd.qualname∈ki->fd.code=.ref c->W.codeHdIn K c P=true->HF P=some (.tab (fd.qualname++".<locals>."++"<lambda>"))
theorem gy.mono{K:W.Frag}{HF HF':Hp}(h:gy K HF)(e:aZ HF HF'):gy K HF':=fun f oc od fd sl c P a b d q=>e _ _ (h f oc od fd sl c P a b d q)
noncomputable abbrev Env:=List (Option D)
structure cW(K:W.Frag)(HF:Hp)(ρ:Env)(σ:L2.St):Prop where
 get:∀ (i:Nat) (d:D),ρ[i]?=some (some d)->∃v,σ[i]?=some (some v)/\Rep K HF d v
 len:ρ.length<=σ.length
 tb:gy K HF
theorem cW.mono{K:W.Frag}{HF HF':Hp}{ρ:Env}{σ:L2.St}(h:cW K HF ρ σ)(e:aZ HF HF'):cW K HF' ρ σ:=⟨fun i d q=>let ⟨v,a,b⟩:=h.get i d q;⟨v,a,b.mono e⟩,h.len,h.tb.mono e⟩
def tD(K:W.Frag)(f:Env->Option D):TE:=fun σ H Q=>∃HF ρ d,aZ HF H/\cW K HF ρ σ/\f ρ=some d/\∀v H' HF',cy HF H HF' H'->Rep K HF' d v->Q v H'
def DE(X:Cx)(e:Expr)(f:Env->Option D):Prop:=PE X e (tD X.K f)
def tF(K:W.Frag)(f:Env->Option (List D)):TE:=fun σ H Q=>∃HF ρ ds,aZ HF H/\cW K HF ρ σ/\f ρ=some ds /\
 ∀a vs H' HF',cy HF H HF' H'->H a=none->HF' a=none->H' a=some (.lst vs)->au K HF' ds vs->Q (.ref a) H'
def DF(X:Cx)(e:Expr)(f:Env->Option (List D)):Prop:=PE X e (tF X.K f)
def Lv(K:W.Frag)(f:Env->Option Bool):TT:=fun σ H Q=>∃HF ρ b,aZ HF H/\cW K HF ρ σ/\f ρ=some b/\∀H' HF',cy HF H HF' H'->Q b H'
def DT(X:Cx)(e:Expr)(f:Env->Option Bool):Prop:=PT X e (Lv X.K f)
def OI(K:W.Frag)(f:Env->Option (List D)):TA:=fun σ H Q=>∃HF ρ ds,aZ HF H/\cW K HF ρ σ/\f ρ=some ds/\∀vs H' HF',cy HF H HF' H'->au K HF' ds vs->Q vs H'
def DA(X:Cx)(es:List Expr)(f:Env->Option (List D)):Prop:=PA X es (OI X.K f)
section
variable {X:Cx}
theorem aV{e:Expr}{t t':TE}(h:PE X e t)(i:∀σ H Q,t' σ H Q->t σ H Q):PE X e t':=fun pins s σ H Q I q=>h pins s σ H Q I (i σ H Q q)
theorem u5{e:Expr}{t t':TT}(h:PT X e t)(i:∀σ H Q,t' σ H Q->t σ H Q):PT X e t':=fun pins s σ H Q I q=>h pins s σ H Q I (i σ H Q q)
theorem EE{e:List Expr}{t t':TA}(h:PA X e t)(i:∀σ H Q,t' σ H Q->t σ H Q):PA X e t':=fun pos pins s σ H Q I q=>h pos pins s σ H Q I (i σ H Q q)
theorem bs{α β:Type}{x:Option α}{f:α->Option β}{b:β}(h:x.bind f=some b):∃a,x=some a/\f a=some b:=by
 cases x with
 | none=>cases h
 | some a=>exact⟨a,rfl,h⟩
theorem DF.de{e:Expr}{f:Env->Option (List D)}(h:DF X e f):DE X e (fun ρ=>(f ρ).map PyData.list):=aV h fun σ H Q ⟨HF,ρ,d,sm,eo,hf,q⟩=>by
 have hf:(f ρ).map PyData.list=some d:=hf
 cases e1:f ρ with
 | none=>rw[e1] at hf;cases hf
 | some ds =>
  rw[e1] at hf
  obtain rfl:PyData.list ds=d:=Option.some.inj hf
  refine⟨HF,ρ,ds,sm,eo,e1,fun a vs H' HF' g ha hf' h' r=>q _ _ (upd HF' a (.lst vs)) (g.freeze ha h' hf') ?_⟩
  simp only[Rep]
  exact⟨a,vs,rfl,.inl (.inl aL),r.mono (eE hf')⟩
noncomputable def ab(i:Nat):Env->Option D:=fun ρ=>(ρ[i]?).getD none
theorem LO(i:Nat){x:Str}{pos:Pos}(hN:X.N[i]?=some x)(hv:GT X.env.scope x)(hd:(x == ("__debug__":Str))=false:=by decide)(hcd:(x == ("__classdict__":Str))=false:=by decide):DE X (.Name x pos) (ab i) :=
 aV (m9 hN hv hd hcd) fun σ H Q ⟨HF,ρ,d,sm,eo,hf,q⟩=>by
  have hf:(ρ[i]?).getD none=some d:=hf
  cases e:ρ[i]? with
  | none=>rw[e] at hf;cases hf
  | some o =>
   rw[e] at hf
   have hf:o=some d:=hf
   subst hf
   obtain⟨v,a,b⟩:=eo.get i d e
   exact⟨v,a,q v H HF (.refl sm) b⟩
noncomputable def fC(d:D):Env->Option D:=fun _=>some d
theorem J3{i j pos}:DE X (.Constant (.int i) j pos) (fC (.int i)):=aV ui fun σ H Q ⟨HF,ρ,d,sm,eo,hf,q⟩=>by cases hf;exact q _ H HF (.refl sm) (by simp[Rep])
theorem MJ{b j pos}:DE X (.Constant (.bool b) j pos) (fC (.bool b)):=aV Nq fun σ H Q ⟨HF,ρ,d,sm,eo,hf,q⟩=>by cases hf;exact q _ H HF (.refl sm) (by simp[Rep])
theorem LL{j pos}:DE X (.Constant .none j pos) (fC .none):=aV Lz fun σ H Q ⟨HF,ρ,d,sm,eo,hf,q⟩=>by cases hf;exact q _ H HF (.refl sm) (by simp[Rep])
theorem LR{x j pos}:DE X (.Constant (.str x) j pos) (fC (.str x)):=aV Kh fun σ H Q ⟨HF,ρ,d,sm,eo,hf,q⟩=>by cases hf;exact q _ H HF (.refl sm) (by simp[Rep])
theorem ID{x:Str}{i:Int}{t:Tok}{pos:Pos}(hg:Gl X x)(hm:X.mg x=some (.int i t))(hd:(x == ("__debug__":Str))=false:=by decide):DE X (.Name x pos) (fC (.int i)) :=
 aV (GQ (v:=.int i) hg hm ⟨t,rfl⟩ hd) fun σ H Q ⟨HF,ρ,d,sm,eo,hf,q⟩=>by cases hf;exact q _ H HF (.refl sm) (by simp[Rep])
def fY(K:W.Frag)(r:R2)(g:D->D->Option D):Prop:=∀HF H x y v1 v2 d Q,aZ HF H->Rep K HF x v1->Rep K HF y v2->g x y=some d->(∀v H' HF',cy HF H HF' H'->Rep K HF' d v->Q v H')->r v1 v2 H Q
noncomputable def f2(g:D->D->Option D)(f1 f2:Env->Option D):Env->Option D:=fun ρ=>(f1 ρ).bind fun x=>(f2 ρ).bind fun y=>g x y
variable {a b c:Expr}{fa fb fc:Env->Option D}{pos:Pos}
theorem IQ{r:R2}{g:D->D->Option D}(hr:fY X.K r g):∀σ H Q,tD X.K (f2 g fa fb) σ H Q->MS r (tD X.K fa) (tD X.K fb) σ H Q:=fun σ H Q ⟨HF,ρ,d,sm,eo,hf,q⟩=>by
 obtain⟨x,hx,hf⟩:=bs hf
 obtain⟨y,hy,hg⟩:=bs hf
 exact⟨HF,ρ,x,sm,eo,hx,fun v1 H1 HF1 g1 r1=>⟨HF1,ρ,y,g1.fh,eo.mono g1.ff,hy,fun v2 H2 HF2 g2 r2=>hr HF2 H2 x y v1 v2 d Q g2.fh (r1.mono g2.ff) r2 hg fun v H' HF' g3 r3=>q v H' HF' ((g1.trans g2).trans g3) r3⟩⟩
theorem v7{op:Operator}{r:R2}{g:D->D->Option D}(ho:iz X (binaryOp op) r)(hr:fY X.K r g)(ha:DE X a fa)(hb:DE X b fb):DE X (.BinOp a op b pos) (f2 g fa fb):=aV (EY ho ha hb) (IQ hr)
theorem jn{op:CmpOp}{r:R2}{g:D->D->Option D}(ho:iz X (compareOp op) r)(hr:fY X.K r g)(ha:DE X a fa)(hb:DE X b fb)(hm:behindInMarks op b=false):DE X (.Compare a [op] [b] pos) (f2 g fa fb):=aV (Hi ho ha hb hm) (IQ hr)
noncomputable def vR(C:Int->Int->Prop)[∀i j,Decidable (C i j)](g:Int->Int->D):D->D->Option D
 | .int i,.int j=>if C i j then some (g i j) else none
 | _,_=>none
theorem EX{K:W.Frag}{C:Int->Int->Prop}[∀i j,Decidable (C i j)]{gi:Int->Int->Int}:fY K (rI C fun i j=>.int (gi i j)) (vR C fun i j=>.int (gi i j)):=by
 intro HF H x y v1 v2 d Q sm r1 r2 hg q
 cases x<;>cases y<;>simp only[vR] at hg<;>try cases hg
 rename_i i j
 simp only[Rep] at r1 r2
 by_cases hc:C i j
 ·rw[if_pos hc] at hg
  cases hg
  exact⟨i,j,r1,r2,hc,q _ H HF (.refl sm) (by simp[Rep])⟩
 ·rw[if_neg hc] at hg;cases hg
theorem Gm{K:W.Frag}{gi:Int->Int->Int}:fY K (GC fun i j=>.int (gi i j)) (vR (fun _ _=>True) fun i j=>.int (gi i j)):=by
 intro HF H x y v1 v2 d Q sm r1 r2 hg q
 cases x<;>cases y<;>simp only[vR] at hg<;>try cases hg
 rename_i i j
 simp only[Rep] at r1 r2
 exact⟨i,j,r1,r2,q _ H HF (.refl sm) (by simp[Rep])⟩
theorem ij{K:W.Frag}{gi:Int->Int->Bool}:fY K (GC fun i j=>.bl (gi i j)) (vR (fun _ _=>True) fun i j=>.bool (gi i j)):=by
 intro HF H x y v1 v2 d Q sm r1 r2 hg q
 cases x<;>cases y<;>simp only[vR] at hg<;>try cases hg
 rename_i i j
 simp only[Rep] at r1 r2
 exact⟨i,j,r1,r2,q _ H HF (.refl sm) (by simp[Rep])⟩
noncomputable instance (i j:Int):Decidable (vj i j):=by unfold vj;infer_instance
noncomputable instance (i j:Int):Decidable (Hw i j):=by unfold Hw;infer_instance
end
section
variable {X:Cx}{a b c:Expr}{fa fb fc:Env->Option D}{pos:Pos}{rest:List Expr}
noncomputable def iO(fa fb:Env->Option D):Env->Option D:=fun ρ=>(fa ρ).bind fun|.bool true=>fb ρ|.bool false=>some (.bool false)|_=>none
noncomputable def OM(fa fb:Env->Option D):Env->Option D:=fun ρ=>(fa ρ).bind fun|.bool true=>some (.bool true)|.bool false=>fb ρ|_=>none
noncomputable def KI:D->Option D|.bool b=>some (.bool (!b))|_=>none
noncomputable def u0(fa:Env->Option D):Env->Option D:=fun ρ=>(fa ρ).bind KI
theorem L5{op}(h:DE X a fa):DE X (.BoolOp op [a] pos) fa:=JX h
theorem KJ(ha:DE X a fa)(hb:DE X (.BoolOp .And (b::rest) pos) fb):DE X (.BoolOp .And (a::b::rest) pos) (iO fa fb):=aV (Lj ha hb) fun σ H Q ⟨HF,ρ,d,sm,eo,hf,q⟩=>by
 obtain⟨x,hx,hf⟩:=bs hf
 refine⟨HF,ρ,x,sm,eo,hx,fun v1 H1 HF1 g1 r1=>?_⟩
 cases x<;>try cases hf
 rename_i k
 simp only[Rep] at r1
 refine⟨k,r1,?_⟩
 cases k with
 | true=>exact xa ⟨HF1,ρ,d,g1.fh,eo.mono g1.ff,hf,fun v H' HF' g r=>q v H' HF' (g1.trans g) r⟩
 | false=>cases hf;exact vY (q _ H1 HF1 g1 (by simp[Rep]))
theorem Nf(ha:DE X a fa)(hb:DE X (.BoolOp .Or (b::rest) pos) fb):DE X (.BoolOp .Or (a::b::rest) pos) (OM fa fb):=aV (Gj ha hb) fun σ H Q ⟨HF,ρ,d,sm,eo,hf,q⟩=>by
 obtain⟨x,hx,hf⟩:=bs hf
 refine⟨HF,ρ,x,sm,eo,hx,fun v1 H1 HF1 g1 r1=>?_⟩
 cases x<;>try cases hf
 rename_i k
 simp only[Rep] at r1
 refine⟨k,r1,?_⟩
 cases k with
 | false=>exact vY ⟨HF1,ρ,d,g1.fh,eo.mono g1.ff,hf,fun v H' HF' g r=>q v H' HF' (g1.trans g) r⟩
 | true=>cases hf;exact xa (q _ H1 HF1 g1 (by simp[Rep]))
theorem L4(ha:DE X a fa):DE X (.UnaryOp .Not a pos) (u0 fa):=aV (LI ha) fun σ H Q ⟨HF,ρ,d,sm,eo,hf,q⟩=>by
 obtain⟨x,hx,hf⟩:=bs hf
 refine⟨HF,ρ,x,sm,eo,hx,fun v1 H1 HF1 g1 r1=>?_⟩
 cases x<;>try cases hf
 rename_i k
 simp only[Rep] at r1
 exact⟨k,r1,q _ H1 HF1 g1 (by simp[Rep])⟩
noncomputable def gB:D->Option Bool|.bool b=>some b|_=>none
noncomputable def fB(f:Env->Option D):Env->Option Bool:=fun ρ=>(f ρ).bind gB
theorem zz{f:Env->Option D}:∀σ H (Q:Bool->Hp->Prop),Lv X.K (fB f) σ H Q->tD X.K f σ H fun x H1=>∃c,x=.bl c/\Q c H1:=fun σ H Q ⟨HF,ρ,k,sm,eo,hf,q⟩=>by
 obtain⟨x,hx,hf⟩:=bs hf
 refine⟨HF,ρ,x,sm,eo,hx,fun v1 H1 HF1 g1 r1=>?_⟩
 cases x<;>try cases hf
 simp only[Rep] at r1
 exact⟨_,r1,q H1 HF1 g1⟩
theorem Ly{f:Env->Option D}(h:DE X a f)(he:∀whole,isTrue a X.env whole=(do let v <- whole;standAt a.pos;holding [v] (truthy v)):=by intro _;rfl):DT X a (fB f):=u5 (LN h he) zz
theorem jx{op:CmpOp}{r:R2}{g:D->D->Option D}(ho:iz X (compareOp op) r)(hr:fY X.K r g)(ha:DE X a fa)(hb:DE X b fb)(hm:behindInMarks op b=false):DT X (.Compare a [op] [b] pos) (fB (f2 g fa fb)) :=
 u5 (HW ho ha hb hm) fun σ H Q h=>IQ hr σ H _ (zz σ H Q h)
noncomputable def fS(fa fb:Env->Option Bool):Env->Option Bool:=fun ρ=>(fa ρ).bind fun|true=>fb ρ|false=>some false
noncomputable def iD(fa fb:Env->Option Bool):Env->Option Bool:=fun ρ=>(fa ρ).bind fun|true=>some true|false=>fb ρ
noncomputable def aX(fa:Env->Option Bool):Env->Option Bool:=fun ρ=>(fa ρ).map (!·)
variable {ta tb:Env->Option Bool}
def DW(X:Cx)(e:Expr)(f:Env->Option Bool):Prop:=PW X e (Lv X.K f)
theorem Fi{e:Expr}{t t':TT}(h:PW X e t)(i:∀σ H Q,t' σ H Q->t σ H Q):PW X e t':=fun wh pins s σ H Q I q=>h wh pins s σ H Q I (i σ H Q q)
theorem DW.dt(h:DW X a ta):DT X a ta:=PW.pt h
theorem HK(ha:DT X a ta):DW X (.BoolOp .And [a] pos) ta:=Hf ha
theorem LS(ha:DT X a ta):DW X (.BoolOp .Or [a] pos) ta:=KY ha
theorem Me(ha:DT X a ta)(hb:DW X (.BoolOp .And (b::rest) pos) tb):DW X (.BoolOp .And (a::b::rest) pos) (fS ta tb):=Fi (J5 ha hb) fun σ H Q ⟨HF,ρ,d,sm,eo,hf,q⟩=>by
 obtain⟨x,hx,hf⟩:=bs hf
 refine⟨HF,ρ,x,sm,eo,hx,fun H1 HF1 g1=>?_⟩
 cases x with
 | true=>exact xa ⟨HF1,ρ,d,g1.fh,eo.mono g1.ff,hf,fun H' HF' g=>q H' HF' (g1.trans g)⟩
 | false=>cases hf;exact vY (q H1 HF1 g1)
theorem Mx(ha:DT X a ta)(hb:DW X (.BoolOp .Or (b::rest) pos) tb):DW X (.BoolOp .Or (a::b::rest) pos) (iD ta tb):=Fi (Nc ha hb) fun σ H Q ⟨HF,ρ,d,sm,eo,hf,q⟩=>by
 obtain⟨x,hx,hf⟩:=bs hf
 refine⟨HF,ρ,x,sm,eo,hx,fun H1 HF1 g1=>?_⟩
 cases x with
 | false=>exact vY ⟨HF1,ρ,d,g1.fh,eo.mono g1.ff,hf,fun H' HF' g=>q H' HF' (g1.trans g)⟩
 | true=>cases hf;exact xa (q H1 HF1 g1)
theorem LJ(ha:DT X a ta):DT X (.UnaryOp .Not a pos) (aX ta):=u5 (Kw ha) fun σ H Q ⟨HF,ρ,d,sm,eo,hf,q⟩=>by
 have hf:(ta ρ).map (!·)=some d:=hf
 cases e:ta ρ with
 | none=>rw[e] at hf;cases hf
 | some k=>rw[e] at hf;cases hf;exact⟨HF,ρ,k,sm,eo,e,fun H1 HF1 g1=>q H1 HF1 g1⟩
noncomputable def OS(tc:Env->Option Bool)(fa fb:Env->Option D):Env->Option D:=fun ρ=>(tc ρ).bind fun|true=>fa ρ|false=>fb ρ
theorem Nd{c:Expr}(hc:DT X c ta)(ha:DE X a fa)(hb:DE X b fb):DE X (.IfExp c a b pos) (OS ta fa fb):=aV (Fk hc ha hb) fun σ H Q ⟨HF,ρ,d,sm,eo,hf,q⟩=>by
 obtain⟨x,hx,hf⟩:=bs hf
 refine⟨HF,ρ,x,sm,eo,hx,fun H1 HF1 g1=>?_⟩
 cases x with
 | true=>exact xa ⟨HF1,ρ,d,g1.fh,eo.mono g1.ff,hf,fun v H' HF' g r=>q v H' HF' (g1.trans g) r⟩
 | false=>exact vY ⟨HF1,ρ,d,g1.fh,eo.mono g1.ff,hf,fun v H' HF' g r=>q v H' HF' (g1.trans g) r⟩
noncomputable def gw(g g':D->D->Option D)(fa fb fc:Env->Option D):Env->Option D:=fun ρ=>(fa ρ).bind fun x=>(fb ρ).bind fun y=>(g x y).bind fun|.bool true=>(fc ρ).bind fun z=>g' y z|.bool false=>some (.bool false)|_=>none
theorem Bf{r r':R2}{g g':D->D->Option D}(hr:fY X.K r g)(hr':fY X.K r' g'):∀σ H Q,tD X.K (gw g g' fa fb fc) σ H Q->Ar r r' (tD X.K fa) (tD X.K fb) (tD X.K fc) σ H Q:=fun σ H Q ⟨HF,ρ,d,sm,eo,hf,q⟩=>by
 obtain⟨x,hx,hf⟩:=bs hf
 obtain⟨y,hy,hf⟩:=bs hf
 obtain⟨z,hz,hf⟩:=bs hf
 refine⟨HF,ρ,x,sm,eo,hx,fun v1 H1 HF1 g1 r1=>⟨HF1,ρ,y,g1.fh,eo.mono g1.ff,hy,fun v2 H2 HF2 g2 r2=>hr HF2 H2 x y v1 v2 z _ g2.fh (r1.mono g2.ff) r2 hz fun v3 H3 HF3 g3 r3=>?_⟩⟩
 cases z<;>try cases hf
 rename_i k
 simp only[Rep] at r3
 refine⟨k,r3,?_⟩
 have G:=(g1.trans g2).trans g3
 cases k with
 | false=>cases hf;exact vY (q _ H3 HF3 G (by simp[Rep]))
 | true =>
  obtain⟨w,hw,hg⟩:=bs hf
  exact xa ⟨HF3,ρ,w,G.fh,eo.mono G.ff,hw,fun v4 H4 HF4 g4 r4=>hr' HF4 H4 y w v2 v4 d Q g4.fh (r2.mono (g3.ff.trans g4.ff)) r4 hg fun v H' HF' g5 r5=>q v H' HF' ((G.trans g4).trans g5) r5⟩
theorem ED{op op':CmpOp}{r r':R2}{g g':D->D->Option D}(ho:iz X (compareOp op) r)(hr:fY X.K r g)(ho':iz X (compareOp op') r')(hr':fY X.K r' g')(ha:DE X a fa)(hb:DE X b fb)(hc:DE X c fc)
  (hm:lastMarks [op,op'] [b,c]=false:=by with_unfolding_all rfl):DE X (.Compare a [op,op'] [b,c] pos) (gw g g' fa fb fc):=aV (Gi ho ho' ha hb hc hm) (Bf hr hr')
theorem Eg{op op':CmpOp}{r r':R2}{g g':D->D->Option D}(ho:iz X (compareOp op) r)(hr:fY X.K r g)(ho':iz X (compareOp op') r')(hr':fY X.K r' g')(ha:DE X a fa)(hb:DE X b fb)(hc:DE X c fc)
  (hm:lastMarks [op,op'] [b,c]=false:=by with_unfolding_all rfl):DT X (.Compare a [op,op'] [b,c] pos) (fB (gw g g' fa fb fc)) :=
 u5 (Ea ho ho' ha hb hc hm) fun σ H Q h=>Bf hr hr' σ H _ (zz σ H Q h)
noncomputable def ae:Env->Option (List D):=fun _=>some []
noncomputable def aa(f:Env->Option D)(g:Env->Option (List D)):Env->Option (List D):=fun ρ=>(f ρ).bind fun x=>(g ρ).map (x::·)
theorem Gs:DA X [] ae:=EE ip fun σ H Q ⟨HF,ρ,d,sm,eo,hf,q⟩=>by cases hf;exact q [] H HF (.refl sm) au.nil
theorem Bm{e:Expr}{es:List Expr}{f:Env->Option D}{g:Env->Option (List D)}(he:DE X e f)(hs:DA X es g)(hst:starEach (e::es) X.env=(false,eval e X.env)::starEach es X.env:=by rfl):DA X (e::es) (aa f g) :=
 EE (dE he hs hst) fun σ H Q ⟨HF,ρ,d,sm,eo,hf,q⟩=>by
  obtain⟨x,hx,hf⟩:=bs hf
  have hf:(g ρ).map (x::·)=some d:=hf
  cases e1:g ρ with
  | none=>rw[e1] at hf;cases hf
  | some xs =>
   rw[e1] at hf;cases hf
   exact⟨HF,ρ,x,sm,eo,hx,fun v1 H1 HF1 g1 r1=>⟨HF1,ρ,xs,g1.fh,eo.mono g1.ff,e1,fun vs H2 HF2 g2 r2=>q (v1::vs) H2 HF2 (g1.trans g2) (au.cons (r1.mono g2.ff) r2)⟩⟩
variable {es:List Expr}{fs:Env->Option (List D)}
noncomputable def small(ds:List D):Option (List D):=if ds.length<=sizeLine then some ds else none
theorem eJ{ds es:List D}(h:small ds=some es):es=ds/\ds.length<=sizeLine:=by
 unfold small at h
 split at h
 ·cases h;exact⟨rfl,‹_›⟩
 ·cases h
noncomputable def aS(g:Env->Option (List D)):Env->Option D:=fun ρ=>(g ρ).bind fun ds=>(small ds).map PyData.tuple
noncomputable def cG(g:Env->Option (List D)):Env->Option (List D):=fun ρ=>(g ρ).bind small
theorem JW{x1}(h:DA X es fs):DE X (.Tuple es x1 pos) (aS fs):=aV (K1 h) fun σ H Q ⟨HF,ρ,d,sm,eo,hf,q⟩=>by
 obtain⟨ds,hx,hf⟩:=bs hf
 have hf:(small ds).map PyData.tuple=some d:=hf
 cases e:small ds with
 | none=>rw[e] at hf;cases hf
 | some es' =>
  rw[e] at hf;cases hf
  obtain⟨rfl,hz⟩:=eJ e
  refine⟨HF,ρ,_,sm,eo,hx,fun vs H1 HF1 g1 r1=>⟨by rw[r1.length];exact hz,fun p hp=>q _ _ (upd HF1 p (.tup vs)) (g1.trans (.new g1.fh hp)) ?_⟩⟩
  simp only[Rep]
  exact⟨p,vs,rfl,.inl (.inl aL),r1.mono (eE (g1.fh.free hp))⟩
theorem KG(h:DA X es fs):DF X (.List es pos) (cG fs):=aV (K0 h) fun σ H Q ⟨HF,ρ,d,sm,eo,hf,q⟩=>by
 obtain⟨ds,hx,hf⟩:=bs hf
 obtain⟨rfl,hz⟩:=eJ hf
 exact⟨HF,ρ,_,sm,eo,hx,fun vs H1 HF1 g1 r1=>⟨by rw[r1.length];exact hz,fun p hp=>q p vs _ HF1 (g1.trans (.own g1.fh hp)) (g1.hh.free hp) (g1.fh.free hp) aL r1⟩⟩
noncomputable def av:D->D->Option D
 | .tuple ds,.int i=>vH ds i
 | .list ds,.int i=>vH ds i
 | _,_=>none
theorem wk{K:W.Frag}{HF:Hp}{ds:List D}{vs:List V}{i:Int}{d:D}(r:au K HF ds vs)(h:vH ds i=some d):∃v,vH vs i=some v/\Rep K HF d v:=by
 unfold vH at h ⊢
 rw[r.length]
 obtain⟨j,hj,h⟩:=bs h
 obtain⟨v,a,b⟩:=r.getD h
 exact⟨v,by rw[hj];exact a,b⟩
theorem KZ{K:W.Frag}:fY K (OT K) av:=by
 intro HF H x y v1 v2 d Q sm r1 r2 hg q
 cases x<;>cases y<;>simp only[av] at hg<;>try cases hg
 ·simp only[Rep] at r1 r2
  obtain⟨a,vs,rfl,hs,r⟩:=r1
  obtain⟨v,hv,rv⟩:=wk r hg
  exact .inl ⟨a,vs,_,v,rfl,r2,sm.seq hs,hv,q v H HF (.refl sm) rv⟩
 ·simp only[Rep] at r1 r2
  obtain⟨a,vs,rfl,hs,r⟩:=r1
  obtain⟨v,hv,rv⟩:=wk r hg
  exact .inr (.inl ⟨a,vs,_,v,rfl,r2,aB sm hs,hv,q v H HF (.refl sm) rv⟩)
theorem Np(ha:DE X a fa)(hb:DE X b fb)(hs:uD b:=by intro _ _;rfl):DE X (.Subscript a b pos) (f2 av fa fb):=aV (Ng Ma ha hb hs) (IQ KZ)
mutual
theorem et{pins:List (Addr×Obj)}{σ:L2.St}{H HF:Hp}{s:Shared}(I:Inv X pins σ H s)(sm:aZ HF H):∀ {d:D}{v:V}{u:Value},Rep X.K HF d v->RelV v u->∃as,Reads s.heap u d as
 | .none,_,_,h,r=>by simp only[Rep] at h;subst h;cases r;exact⟨_,.none⟩
 | .bool b,_,_,h,r=>by simp only[Rep] at h;subst h;cases r;exact⟨_,.bool b⟩
 | .int i,_,_,h,r=>by simp only[Rep] at h;subst h;obtain⟨t,rfl⟩:=r;exact⟨_,.int i t⟩
 | .str i,_,_,h,r=>by simp only[Rep] at h;subst h;obtain⟨t,rfl⟩:=r;exact⟨_,.str i t⟩
 | .tuple ds,_,_,h,r=>by
  simp only[Rep] at h
  obtain⟨a,vs,rfl,hs,rr⟩:=h
  cases r
  obtain⟨its,rv,⟨o,ho,hc,n,hd⟩,_⟩:=I.tuple (aB sm hs)
  obtain⟨as,q⟩:=nX I sm rr rv
  exact⟨as,.tuple ho hc hd (by simpa using q)⟩
 | .list ds,_,_,h,r=>by
  simp only[Rep] at h
  obtain⟨a,vs,rfl,hs,rr⟩:=h
  cases r
  obtain⟨its,rv,pl,_⟩:=I.list (sm.seq hs)
  obtain⟨o,ho,hc,n,hd⟩:=pl.isList
  obtain⟨as,q⟩:=nX I sm rr rv
  exact⟨_,.list ho hc hd (by simpa using q)⟩
 | .dict _,_,_,h,r=>by simp only[Rep] at h
theorem nX{pins:List (Addr×Obj)}{σ:L2.St}{H HF:Hp}{s:Shared}(I:Inv X pins σ H s)(sm:aZ HF H):∀ {ds:List D}{vs:List V}{us:List Value},au X.K HF ds vs->aF vs us->∃as,ReadsAll s.heap us ds as
 | [],_,_,h,r=>by rw[h.nil_inv] at r;cases r;exact⟨_,.nil⟩
 | d::ds,_,_,h,r=>by
  obtain⟨v,vr,rfl,a,b⟩:=h.cons_inv
  cases r with
  | cons r rr =>
   obtain⟨as,q⟩:=et I sm a r
   obtain⟨bs,p⟩:=nX I sm b rr
   exact⟨_,.cons q p⟩
end
def M4(K:W.Frag)(g:D->D->Option Bool):R2:=fun v1 v2 H Q=>∃HF x y k,aZ HF H/\Rep K HF x v1/\Rep K HF y v2/\g x y=some k/\Q (.bl k) H
theorem j5{K:W.Frag}{g:D->D->Option Bool}:fY K (M4 K g) (fun x y=>(g x y).map PyData.bool):=by
 intro HF H x y v1 v2 d Q sm r1 r2 hg q
 have hg:(g x y).map PyData.bool=some d:=hg
 cases e:g x y with
 | none=>rw[e] at hg;cases hg
 | some k=>rw[e] at hg;cases hg;exact⟨HF,x,y,k,sm,r1,r2,e,q _ H HF (.refl sm) (by simp[Rep])⟩
noncomputable def Kb(x y:D):Option Bool:=if SeqAt.shaped x=true/\SeqAt.shaped y=true then some (PyData.eqv x y) else none
noncomputable def JP(x y:D):Option Bool:=if SeqAt.shaped x=true/\SeqAt.shaped y=true then some (!PyData.eqv x y) else none
theorem Ec(hu:X.A.units+64 < cLine):iz X (compareOp .Eq) (M4 X.K Kb):=by
 intro pins s σ H v1 v2 u1 u2 Q I rx ry h
 obtain⟨HF,x,y,k,sm,r1,r2,hg,q⟩:=h
 unfold Kb at hg
 split at hg<;>cases hg
 rename_i hh
 obtain⟨as,ra⟩:=et I sm r1 rx
 obtain⟨bs,rb⟩:=et I sm r2 ry
 exact eq_dataH ra rb hh.1 hh.2 hu ⟨.bl _,H,I,rfl,q⟩
theorem FR(hu:X.A.units+64 < cLine):iz X (compareOp .NotEq) (M4 X.K JP):=by
 intro pins s σ H v1 v2 u1 u2 Q I rx ry h
 obtain⟨HF,x,y,k,sm,r1,r2,hg,q⟩:=h
 unfold JP at hg
 split at hg<;>cases hg
 rename_i hh
 obtain⟨as,ra⟩:=et I sm r1 rx
 obtain⟨bs,rb⟩:=et I sm r2 ry
 exact ne_dataH ra rb hh.1 hh.2 hu ⟨.bl _,H,I,rfl,q⟩
noncomputable def items:D->Option (List D)|.tuple ds=>some ds|.list ds=>some ds|_=>none
noncomputable def OH(x y:D):Option Bool:=match y with
 | .tuple ds=>if SeqAt.shaped x=true/\SeqAt.shaped y=true then some (ds.any fun z=>PyData.eqv z x) else none
 | .list ds=>if SeqAt.shaped x=true/\SeqAt.shaped y=true then some (ds.any fun z=>PyData.eqv z x) else none
 | _=>none
theorem E8(hu:X.A.units+66 < cLine):iz X (compareOp .In) (M4 X.K OH):=by
 intro pins s σ H v1 v2 u1 u2 Q I rx ry h
 obtain⟨HF,x,y,k,sm,r1,r2,hg,q⟩:=h
 obtain⟨as,ra⟩:=et I sm r1 rx
 obtain⟨bs,rb⟩:=et I sm r2 ry
 cases y<;>simp only[OH] at hg<;>try cases hg
 all_goals
  split at hg<;>cases hg
  rename_i ds hh
  have c1:=SeqAt.canLay_of_shaped hh.1
  have c2:=SeqAt.canLay_of_shaped hh.2
  have d1:=SeqAt.depth_of_shaped hh.1
  simp only[PyData.canLay0] at c2
  have m:=Nat.min_le_right (PyData.depthAll ds) x.depth
  first
   | exact SeqAt.in_list_reads rb ra c2 c1 (by omega) ⟨.bl _,H,I,rfl,q⟩
   | exact SeqAt.in_tuple_reads rb ra c2 c1 (by omega) ⟨.bl _,H,I,rfl,q⟩
end
noncomputable def Nv(K:W.Frag)(n:Nat)(m:List D->Option D):Sp:=fun vs H Q _=>∃HF ds d,aZ HF H/\gy K HF/\au K HF ds vs/\ds.length=n/\m ds=some d/\∀v H' HF',cy HF H HF' H'->Rep K HF' d v->Q v H'
structure dw(P:Program)(w:World)(K:W.Frag)(mg:Str->Option Value)(base:Heap)(k:Nat)(x:Str)(n:Nat)(m:List D->Option D):Prop where
 ex:∃ (f:Addr) (fd:FuncData) (ps:List Str),qs P w K mg base Ml k f fd ps (Nv K n m)/\mg x=some (.ref f)/\W.keepIn K (.ref f)=true/\Binds K fd ps []
theorem dw.mono{P:Program}{w:World}{K:W.Frag}{mg:Str->Option Value}{base:Heap}{k j:Nat}{x:Str}{n:Nat}{m:List D->Option D}(F:dw P w K mg base k x n m)(h:k<=j):dw P w K mg base j x n m:=by
 obtain⟨f,fd,ps,a,b,c,d⟩:=F.ex
 exact⟨f,fd,ps,a.mono h,b,c,d⟩
section
variable {X:Cx}{a b c e:Expr}{es:List Expr}{fa fb fc:Env->Option D}{fs:Env->Option (List D)}{pos p:Pos}{x:Str}
noncomputable def ah(n:Nat)(m:List D->Option D)(fs:Env->Option (List D)):Env->Option D:=fun ρ=>(fs ρ).bind fun ds=>if ds.length=n then m ds else none
theorem Jd{k n:Nat}{m:List D->Option D}(F:dw X.prog X.w X.K X.mg X.base k x n m)(hr:eP k X.A)(hg:Gl X x)(ha:DA X (e::es) fs)(hdb:(x == ("__debug__":Str))=false:=by decide)
  (he:starEach (e::es) X.env=(false,eval e X.env)::starEach es X.env:=by rfl) (hpl:(backTo pos (starEach es X.env)).any (·.1)=false:=by rfl):DE X (.Call (.Name x p) (e::es) [] pos) (ah n m fs):=by
 obtain⟨f,fd,ps,ok,hm,hk,hb⟩:=F.ex
 refine aV (IG (E:=E0) ok hr hg hm hk hb .nil Nl ha hdb he hpl) fun σ H Q ⟨HF,ρ,d,sm,eo,hf,q⟩=>?_
 obtain⟨ds,hx,hf⟩:=bs hf
 split at hf
 ·rename_i hl
  exact⟨HF,ρ,ds,sm,eo,hx,fun vs H1 HF1 g1 r1=>⟨HF1,ds,d,g1.fh,eo.tb.mono g1.ff,by rw[List.append_nil];exact r1,hl,hf,fun v H' HF' g r=>q v H' HF' (g1.trans g) r⟩⟩
 ·cases hf
def CY(K:W.Frag)(r:List V->Hp->VK->Prop)(g:List D->Option D):Prop:=∀HF H ds vs d Q,aZ HF H->au K HF ds vs->g ds=some d->(∀v H' HF',cy HF H HF' H'->Rep K HF' d v->Q v H')->r vs H Q
noncomputable def bf(g:List D->Option D)(fs:Env->Option (List D)):Env->Option D:=fun ρ=>(fs ρ).bind g
theorem Mv{r:List V->Hp->VK->Prop}{g:List D->Option D}(hs:CY X.K r g):∀σ H Q,tD X.K (bf g fs) σ H Q->NK r (OI X.K fs) σ H Q:=fun σ H Q ⟨HF,ρ,d,sm,eo,hf,q⟩=>by
 obtain⟨ds,hx,hf⟩:=bs hf
 exact⟨HF,ρ,ds,sm,eo,hx,fun vs H1 HF1 g1 r1=>hs HF1 H1 ds vs d Q g1.fh r1 hf fun v H' HF' g2 r2=>q v H' HF' (g1.trans g2) r2⟩
def Bq(K:W.Frag)(r:List V->Hp->VK->Prop)(g:List D->Option (List D)):Prop:=∀HF H ds vs es Q,aZ HF H->au K HF ds vs->g ds=some es ->
 (∀a us H' HF',cy HF H HF' H'->H a=none->HF' a=none->H' a=some (.lst us)->au K HF' es us->Q (.ref a) H')->r vs H Q
noncomputable def mV(g:List D->Option (List D))(fs:Env->Option (List D)):Env->Option (List D):=fun ρ=>(fs ρ).bind g
theorem Jz{r:List V->Hp->VK->Prop}{g:List D->Option (List D)}(hs:Bq X.K r g):∀σ H Q,tF X.K (mV g fs) σ H Q->NK r (OI X.K fs) σ H Q:=fun σ H Q ⟨HF,ρ,d,sm,eo,hf,q⟩=>by
 obtain⟨ds,hx,hf⟩:=bs hf
 exact⟨HF,ρ,ds,sm,eo,hx,fun vs H1 HF1 g1 r1=>hs HF1 H1 ds vs d Q g1.fh r1 hf fun a us H' HF' g2 ha hf' h' r2=>q a us H' HF' (g1.trans g2) (g1.hh.free ha) hf' h' r2⟩
structure nU(X:Cx)(x:Str)(v:Value):Prop where
 gl:Gl X x
 mg:X.mg x=none
 bt:bootBuiltins x=some v
theorem iM{id:String}{r:List V->Hp->VK->Prop}{g:List D->Option D}(hc:eA X (.builtin id) r)(hs:CY X.K r g)(B:nU X x (.builtin id))(ha:DA X (e::es) fs)(hn:x≠"__name__":=by decide)(hdb:(x == ("__debug__":Str))=false:=by decide)
  (he:starEach (e::es) X.env=(false,eval e X.env)::starEach es X.env:=by rfl) (hpl:(backTo pos (starEach es X.env)).any (·.1)=false:=by rfl):DE X (.Call (.Name x p) (e::es) [] pos) (bf g fs) :=
 aV (mr hc B.gl B.mg B.bt ha hn hdb he hpl) (Mv hs)
theorem Ge{id:String}{r:List V->Hp->VK->Prop}{g:List D->Option (List D)}(hc:eA X (.builtin id) r)(hs:Bq X.K r g)(B:nU X x (.builtin id))(ha:DA X (e::es) fs)(hn:x≠"__name__":=by decide)(hdb:(x == ("__debug__":Str))=false:=by decide)
  (he:starEach (e::es) X.env=(false,eval e X.env)::starEach es X.env:=by rfl) (hpl:(backTo pos (starEach es X.env)).any (·.1)=false:=by rfl):DF X (.Call (.Name x p) (e::es) [] pos) (mV g fs) :=
 aV (mr hc B.gl B.mg B.bt ha hn hdb he hpl) (Jz hs)
theorem sV{T:String}{r:List V->Hp->VK->Prop}{g:List D->Option D}(hc:eA X (.type T) r)(hs:CY X.K r g)(B:nU X x (.type T))(ha:DA X (e::es) fs)(hn:x≠"__name__":=by decide)(hdb:(x == ("__debug__":Str))=false:=by decide)
  (he:starEach (e::es) X.env=(false,eval e X.env)::starEach es X.env:=by rfl) (hpl:(backTo pos (starEach es X.env)).any (·.1)=false:=by rfl):DE X (.Call (.Name x p) (e::es) [] pos) (bf g fs) :=
 aV (mT hc B.gl B.mg B.bt ha hn hdb he hpl) (Mv hs)
theorem Df{T:String}{r:List V->Hp->VK->Prop}{g:List D->Option (List D)}(hc:eA X (.type T) r)(hs:Bq X.K r g)(B:nU X x (.type T))(ha:DA X (e::es) fs)(hn:x≠"__name__":=by decide)(hdb:(x == ("__debug__":Str))=false:=by decide)
  (he:starEach (e::es) X.env=(false,eval e X.env)::starEach es X.env:=by rfl) (hpl:(backTo pos (starEach es X.env)).any (·.1)=false:=by rfl):DF X (.Call (.Name x p) (e::es) [] pos) (mV g fs) :=
 aV (mT hc B.gl B.mg B.bt ha hn hdb he hpl) (Jz hs)
noncomputable def iI:D->Option (List D)|.tuple ds=>some ds|.list ds=>some ds|_=>none
noncomputable def oneOf:List D->Option D|[d]=>some d|_=>none
theorem gx{ds:List D}{d:D}(h:oneOf ds=some d):ds=[d]:=by
 cases ds with
 | nil=>cases h
 | cons x r=>cases r with
  | nil=>cases h;rfl
  | cons _ _=>cases h
theorem lx{d:D}{ds:List D}(h:iI d=some ds):d=.tuple ds\/d=.list ds:=by
 cases d<;>cases h
 ·exact .inr rfl
 ·exact .inl rfl
noncomputable def dO:List D->Option (List D):=fun ds=>(oneOf ds).bind iI
theorem gT{ds es:List D}(h:dO ds=some es):ds=[.tuple es]\/ds=[.list es]:=by
 obtain⟨d,h1,h2⟩:=bs h
 rw[gx h1]
 rcases lx h2 with rfl|rfl
 ·exact .inl rfl
 ·exact .inr rfl
noncomputable def bq:List D->Option D:=fun ds=>(dO ds).map fun es=>.int es.length
theorem ag{α β:Type}{x:Option α}{f:α->β}{b:β}(h:x.map f=some b):∃a,x=some a/\f a=b:=by
 cases x with
 | none=>cases h
 | some a=>exact⟨a,rfl,Option.some.inj h⟩
theorem IB{K:W.Frag}:CY K (fun xs H Q=>∃p ys,xs=[.ref p]/\(iV K H p ys\/ju K H p ys)/\Q (.int ys.length) H) bq:=by
 intro HF H ds vs d Q sm r hg q
 obtain⟨es,h1,rfl⟩:=ag hg
 rcases gT h1 with rfl|rfl
 all_goals
  obtain⟨v,r',rfl,a,b⟩:=r.cons_inv
  rw[b.nil_inv]
  simp only[Rep] at a
  obtain⟨p,us,rfl,h,rr⟩:=a
 ·exact⟨p,us,rfl,.inr (aB sm h),q _ H HF (.refl sm) (by simp[Rep,rr.length])⟩
 ·exact⟨p,us,rfl,.inl (sm.seq h),q _ H HF (.refl sm) (by simp[Rep,rr.length])⟩
theorem K3(B:nU X "len" (.builtin "len"))(ha:DA X [e] fs)(he:starEach [e] X.env=(false,eval e X.env)::starEach [] X.env:=by rfl):DE X (.Call (.Name "len" p) [e] [] pos) (bf bq fs) :=
 iM vh IB B ha (by decide) (by decide) he rfl
theorem FN{K:W.Frag}:Bq K (fun xs H Q=>∃p ys,xs=[.ref p]/\(iV K H p ys\/ju K H p ys)/\∀l,H l=none->Q (.ref l) (upd H l (.lst ys))) dO:=by
 intro HF H ds vs d Q sm r hg q
 rcases gT hg with rfl|rfl
 all_goals
  obtain⟨v,r',rfl,a,b⟩:=r.cons_inv
  rw[b.nil_inv]
  simp only[Rep] at a
  obtain⟨p,us,rfl,h,rr⟩:=a
 ·exact⟨p,us,rfl,.inr (aB sm h),fun l hl=>q l us _ HF (.own sm hl) hl (sm.free hl) aL rr⟩
 ·exact⟨p,us,rfl,.inl (sm.seq h),fun l hl=>q l us _ HF (.own sm hl) hl (sm.free hl) aL rr⟩
theorem GM(B:nU X "list" (.type "list"))(ha:DA X [e] fs)(he:starEach [e] X.env=(false,eval e X.env)::starEach [] X.env:=by rfl):DF X (.Call (.Name "list" p) [e] [] pos) (mV dO fs) :=
 Df uR FN B ha (by decide) (by decide) he rfl
theorem cZ{K:W.Frag}{HF:Hp}{l:Addr}{ds:List D}{vs:List V}(h:HF l=none)(r:au K HF ds vs):Rep K (upd HF l (.tup vs)) (.tuple ds) (.ref l):=by
 simp only[Rep];exact⟨l,vs,rfl,.inl (.inl aL),r.mono (eE h)⟩
theorem CN{K:W.Frag}:CY K (fun xs H Q=>∃p ys,xs=[.ref p]/\((iV K H p ys/\∀l,H l=none->Q (.ref l) (upd H l (.tup ys)))\/(ju K H p ys/\Q (.ref p) H))) (fun ds=>(dO ds).map PyData.tuple):=by
 intro HF H ds vs d Q sm r hg q
 obtain⟨es,h1,rfl⟩:=ag hg
 rcases gT h1 with rfl|rfl
 all_goals
  obtain⟨v,r',rfl,a,b⟩:=r.cons_inv
  rw[b.nil_inv]
  have a':=a
  simp only[Rep] at a
  obtain⟨p,us,rfl,h,rr⟩:=a
 ·exact⟨p,us,rfl,.inr ⟨aB sm h,q _ H HF (.refl sm) a'⟩⟩
 ·exact⟨p,us,rfl,.inl ⟨sm.seq h,fun l hl=>q _ _ _ (.new sm hl) (cZ (sm.free hl) rr)⟩⟩
theorem D2(B:nU X "tuple" (.type "tuple"))(ha:DA X [e] fs)(he:starEach [e] X.env=(false,eval e X.env)::starEach [] X.env:=by rfl):DE X (.Call (.Name "tuple" p) [e] [] pos) (bf (fun ds=>(dO ds).map PyData.tuple) fs) :=
 sV sj CN B ha (by decide) (by decide) he rfl
noncomputable def hZ:D->String|.none=>"NoneType" | .bool _=>"bool" | .int _=>"int" | .str _=>"str" | .tuple _=>"tuple" | .list _=>"list" | .dict _=>"dict"
noncomputable def vK(a b:String):Option Bool:=if ((Value.type a) == (Value.type b))=true then some true else if W.kitMeta b=true then (fastBuiltinMro a).map (·.contains (Value.type b)) else none
theorem IU:∀a∈["NoneType","bool","int","str","tuple","list"],vK a "int"=some (a == "int"||a == "bool"):=by decide +kernel
theorem Fh:∀a∈["NoneType","bool","int","str","tuple","list"],vK a "bool"=some (a == "bool"):=by decide +kernel
theorem kit_tuple:∀a∈["NoneType","bool","int","str","tuple","list"],vK a "tuple"=some (a == "tuple"):=by decide +kernel
theorem FZ{pins:List (Addr×Obj)}{σ:L2.St}{H HF:Hp}{s:Shared}{A:Around}{E:Value->Shared->Prop}{Q:Value->Shared->Prop}{d:D}{v:V}{u:Value}{T:String}{k:Bool}(I:Inv X pins σ H s)(sm:aZ HF H)(r:Rep X.K HF d v)(rv:RelV v u)
  (e:vK (hZ d) T=some k) (h:∀tk,Q (.bool k) { s with toks:=tk }):wpAny (model X.prog X.w) A (call (.builtin "isinstance") [u,.type T]) Q E s:=by
 have e':W.kitOne X.K (.type (hZ d)) (.type T)=some k:=e
 cases d<;>simp only[Rep] at r
 ·subst r;cases rv;exact W.kia_one W.kitx_none I.kIn True.intro e' (fun z=>nomatch z) h
 ·subst r;cases rv;exact W.kia_one W.kitx_bool I.kIn True.intro e' (fun z=>nomatch z) h
 ·subst r;obtain⟨t,rfl⟩:=rv;exact W.kia_one W.kitx_int I.kIn True.intro e' (fun z=>nomatch z) h
 ·subst r;obtain⟨t,rfl⟩:=rv;exact W.kia_one W.kitx_str I.kIn True.intro e' (fun z=>nomatch z) h
 ·obtain⟨a,vs,rfl,hs,rr⟩:=r
  cases rv
  obtain⟨its,rv,pl,_⟩:=I.list (sm.seq hs)
  obtain⟨o,ho,hc,n,hd⟩:=pl.isList
  exact W.kia_one W.kitx_list I.kIn ⟨o,ho,hc⟩ e' (fun z=>nomatch z) h
 ·obtain⟨a,vs,rfl,hs,rr⟩:=r
  cases rv
  obtain⟨its,rv,⟨o,ho,hc,n,hd⟩,_⟩:=I.tuple (aB sm hs)
  exact W.kia_one W.kitx_tuple I.kIn ⟨o,ho,hc⟩ e' (fun z=>nomatch z) h
noncomputable def GB(T:String)(f:Env->Option D):Env->Option D:=fun ρ=>(f ρ).bind fun d=>(vK (hZ d) T).map PyData.bool
theorem MP{T:String}{xT:Str}{pT:Pos}{f:Env->Option D}(B:nU X "isinstance" (.builtin "isinstance"))(C:nU X xT (.type T))(h:DE X e f)(hn:xT≠"__name__":=by decide)(hd:(xT == ("__debug__":Str))=false:=by decide)
  (he:starEach [e,.Name xT pT] X.env=(false,eval e X.env)::starEach [.Name xT pT] X.env:=by rfl):DE X (.Call (.Name "isinstance" p) [e,.Name xT pT] [] pos) (GB T f):=by
 have hc:eA X (.builtin "isinstance") (fun xs H Q=>∃HF d v k,xs=[v,.ty T]/\aZ HF H/\Rep X.K HF d v/\vK (hZ d) T=some k/\Q (.bl k) H):=by
  intro pins s σ H xs us Q I r h
  obtain⟨HF,d,v,k,rfl,sm,rp,hk,q⟩:=h
  cases r with
  | cons ra rr =>
   cases rr with
   | cons rb rn =>
    cases rn
    cases rb
    exact FZ I sm rp ra hk fun tk=>⟨.bl k,H,I.tok _,rfl,q⟩
 refine aV (mr hc B.gl B.mg B.bt (dE h (dE (Jk (v:=.ty T) C.gl C.mg C.bt rfl hn hd) ip) he) (by decide) (by decide) he rfl) fun σ H Q ⟨HF,ρ,d,sm,eo,hf,q⟩=>?_
 obtain⟨x,hx,hf⟩:=bs hf
 obtain⟨k,hk,rfl⟩:=ag hf
 exact⟨HF,ρ,x,sm,eo,hx,fun v1 H1 HF1 g1 r1=>⟨HF1,x,v1,k,rfl,g1.fh,r1,hk,q _ H1 HF1 g1 (by simp[Rep])⟩⟩
noncomputable def Hv:D->D->Option D
 | .tuple xs,.tuple ys=>(small (xs++ys)).map PyData.tuple
 | _,_=>none
def Bs(K:W.Frag):R2:=fun x y H Q=>∃a b xs ys,x=.ref a/\y=.ref b/\ju K H a xs/\ju K H b ys/\xs.length+ys.length<=sizeLine /\
 (xs=[]->Q (.ref b) H)/\(ys=[]->Q (.ref a) H)/\(∀p,H p=none->Q (.ref p) (upd H p (.tup (xs++ys))))
theorem Cf:iz X (binaryOp .Add) (Bs X.K):=by
 intro pins s σ H x y v u Q I rx ry h
 obtain⟨a,b,xs,ys,rfl,rfl,ha,hb,hz,q0,q1,q2⟩:=h
 by_cases hx:xs=[]
 ·cases rx
  cases ry
  obtain⟨its,r1,p1,_⟩:=I.tuple ha
  obtain⟨its2,r2,p2,_⟩:=I.tuple hb
  obtain⟨⟨cls,dd,data,sl⟩,ho,hc,n,hd⟩:=id p1
  obtain⟨⟨cls2,dd2,data2,sl2⟩,ho2,hc2,n2,hd2⟩:=id p2
  simp only at hc hd hc2 hd2
  subst hc hd hc2 hd2
  have e:its=[]:=(L2.aF.nil_iff r1).mpr hx
  exact concat_meets ⟨_,ho,rfl⟩ ⟨_,ho2,rfl⟩ noFill_tuple_add seq_tuple_add PySem.F.slot_tuple_add PySem.F.entry_tuple_add (PySem.F.args_tuple_add_2 _ _)
   (tuple_addW0 a b its.toArray its2.toArray n n2 dd dd2 sl sl2 (by simp[e])) ⟨ho,ho2,⟨.ref b,H,I,rfl,q0 hx⟩⟩
 ·exact HJ pins s σ H _ _ v u Q I rx ry ⟨a,b,xs,ys,rfl,rfl,ha,hb,hx,hz,q1,fun _ p hp=>q2 p hp⟩
theorem Hx{K:W.Frag}:fY K (Bs K) Hv:=by
 intro HF H x y v1 v2 d Q sm r1 r2 hg q
 cases x<;>cases y<;>simp only[Hv] at hg<;>try cases hg
 rename_i xs ys
 obtain⟨es,h1,rfl⟩:=ag hg
 obtain⟨rfl,hz⟩:=eJ h1
 have r1':=r1
 have r2':=r2
 simp only[Rep] at r1 r2
 obtain⟨a,vs,rfl,ha,ra⟩:=r1
 obtain⟨b,us,rfl,hb,rb⟩:=r2
 refine⟨a,b,vs,us,rfl,rfl,aB sm ha,aB sm hb,by rw[ra.length,rb.length,<- zN];exact hz,fun e=>?_,fun e=>?_,fun p hp=>q _ _ _ (.new sm hp) (cZ (sm.free hp) (ra.append rb))⟩
 ·have:xs=[]:=by have:=ra.length;rw[e] at this;exact List.length_eq_zero_iff.mp this.symm
  subst this
  exact q _ H HF (.refl sm) r2'
 ·have:ys=[]:=by have:=rb.length;rw[e] at this;exact List.length_eq_zero_iff.mp this.symm
  subst this
  rw[List.append_nil] at q
  exact q _ H HF (.refl sm) r1'
end
structure tU(K:W.Frag)(J:It)(HF:Hp)(ds:List D):Prop where
 go:∀i d H₁ HF₁,ds[i]?=some d->aZ HF HF₁->aZ HF₁ H₁->J.go i H₁/\∀x H₂,J.yld i H₁ x H₂->∃HF₂,cy HF₁ H₁ HF₂ H₂/\Rep K HF₂ d x
 stop:∀H₁ HF₁,aZ HF HF₁->aZ HF₁ H₁->J.stop ds.length H₁
def OR(K:W.Frag)(f:Env->Option (List D)):TI:=fun σ H R=>∃HF ρ ds,aZ HF H/\cW K HF ρ σ/\f ρ=some ds/\∀J H' HF',cy HF H HF' H'->tU K J HF' ds->R J H'
def DI(X:Cx)(tg iter:Expr)(f:Env->Option (List D)):Prop:=PI X tg iter (OR X.K f)
theorem B7{K:W.Frag}{HF:Hp}{a:Addr}{ds:List D}{vs:List V}(h:iV K HF a vs)(r:au K HF ds vs):tU K (OJ K a) HF ds where
 go:=fun i d H₁ HF₁ e s1 s2=>by
  obtain⟨v,hv,rv⟩:=r.getD e
  have q:=s2.seq (s1.seq h)
  refine⟨⟨vs,v,q,hv⟩,fun x H₂ ⟨e2,hy⟩=>⟨HF₁,by rw[e2];exact .refl s2,?_⟩⟩
  have:=hy vs q
  rw[hv] at this
  cases this
  exact rv.mono s1
 stop:=fun H₁ HF₁ s1 s2=>⟨vs,s2.seq (s1.seq h),by rw[r.length];exact Nat.le_refl _⟩
theorem D0{K:W.Frag}{HF:Hp}{a:Addr}{ds:List D}{vs:List V}(h:ju K HF a vs)(r:au K HF ds vs):tU K (Om K a) HF ds where
 go:=fun i d H₁ HF₁ e s1 s2=>by
  obtain⟨v,hv,rv⟩:=r.getD e
  have q:=aB s2 (aB s1 h)
  refine⟨⟨vs,v,q,hv⟩,fun x H₂ ⟨e2,hy⟩=>⟨HF₁,by rw[e2];exact .refl s2,?_⟩⟩
  have:=hy vs q
  rw[hv] at this
  cases this
  exact rv.mono s1
 stop:=fun H₁ HF₁ s1 s2=>⟨vs,aB s2 (aB s1 h),by rw[r.length];exact Nat.le_refl _⟩
theorem z8{K:W.Frag}{HF:Hp}{lo:Int}{n:Nat}:tU K (NA lo n) HF ((List.range n).map fun i=>PyData.int (lo+(i:Nat))) where
 go:=fun i d H₁ HF₁ e s1 s2=>by
  rw[zO] at e
  obtain⟨j,hj,rfl⟩:=ag e
  obtain⟨hi,hj'⟩:=zU.mp hj
  have hi':i < n:=by simpa using hi
  have:j=i:=by rw[<- hj'];simp
  subst this
  exact⟨hi',fun x H₂ ⟨e2,hx⟩=>⟨HF₁,by rw[e2];exact .refl s2,by simp[Rep,hx]⟩⟩
 stop:=fun H₁ HF₁ s1 s2=>by
  show n<=_
  simp
section
variable {X:Cx}{tg l e:Expr}{f:Env->Option D}{fs:Env->Option (List D)}{pos p:Pos}
theorem vo{t t':TI}(h:PI X tg l t)(i:∀σ H R,t' σ H R->t σ H R):PI X tg l t':=fun pins s σ H R I q=>h pins s σ H R I (i σ H R q)
theorem Lr{tl:TE}(hl:PE X l tl):PI X tg l (fun σ H R=>tl σ H fun x H1=>∃a,x=.ref a/\((∃xs,iV X.K H1 a xs/\R (OJ X.K a) H1)\/∃xs,ju X.K H1 a xs/\R (Om X.K a) H1)):=by
 intro pins s σ H R I h
 refine ck (hl pins s σ H _ I h) fun v s1 ⟨x,H1,I1,r1,q1⟩=>?_
 obtain⟨a,e,q⟩:=q1
 subst e
 cases r1
 rcases q with ⟨xs,hq,q⟩|⟨xs,hq,q⟩
 ·obtain⟨its,rv,pl,hz⟩:=I1.list hq
  refine wpAny_pyIter_list pl.isList ⟨s1.heap.objs.size,[s1.heap.objs.size],_,_,H1,rfl,I1.kept (t':=s1.toks) fun b o e=>zV _ e,B8 a _,⟨_,zY _ rfl,rfl,rfl⟩,fun b hb=>?_,q⟩
  cases yK.mp hb
  exact I1.fpOk (Nat.le_refl _) I1.fresh
 ·obtain⟨its,rv,pl,hz⟩:=I1.tuple hq
  refine wpAny_pyIter_tuple (show s1.heap.IsTuple a its.toArray from pl) ⟨s1.heap.objs.size,[s1.heap.objs.size],_,_,H1,rfl,I1.kept (t':=s1.toks) fun b o e=>zV _ e,Au a _,⟨_,zY _ rfl,rfl,rfl⟩,fun b hb=>?_,q⟩
  cases yK.mp hb
  exact I1.fpOk (Nat.le_refl _) I1.fresh
noncomputable def aR(f:Env->Option D):Env->Option (List D):=fun ρ=>(f ρ).bind iI
theorem E6(h:DE X l f):DI X tg l (aR f):=vo (Lr h) fun σ H R ⟨HF,ρ,ds,sm,eo,hf,q⟩=>by
 obtain⟨x,hx,hf⟩:=bs hf
 refine⟨HF,ρ,x,sm,eo,hx,fun v1 H1 HF1 g1 r1=>?_⟩
 rcases lx hf with rfl|rfl
 ·simp only[Rep] at r1
  obtain⟨a,vs,rfl,hs,rr⟩:=r1
  exact⟨a,rfl,.inr ⟨vs,aB g1.fh hs,q _ H1 HF1 g1 (D0 hs rr)⟩⟩
 ·simp only[Rep] at r1
  obtain⟨a,vs,rfl,hs,rr⟩:=r1
  exact⟨a,rfl,.inl ⟨vs,g1.fh.seq hs,q _ H1 HF1 g1 (B7 hs rr)⟩⟩
noncomputable def Ab(i:Int):Bool:=decide (-(2 ^ 62)<=i)&&decide (i < 2 ^ 62)
noncomputable def lO:List D->Option (List D)
 | [.int j]=>if Ab j then some ((List.range j.toNat).map fun i=>PyData.int ((i:Nat):Int)) else none
 | _=>none
theorem vV{ds es:List D}(h:lO ds=some es):∃j,ds=[.int j]/\Ab j=true/\es=(List.range j.toNat).map fun i=>PyData.int ((i:Nat):Int):=by
 unfold lO at h
 split at h
 ·split at h
  ·cases h;exact⟨_,rfl,‹_›,rfl⟩
  ·cases h
 ·cases h
noncomputable def bF(fs:Env->Option (List D)):Env->Option (List D):=fun ρ=>(fs ρ).bind lO
theorem Ej(B:nU X "range" (.type "range"))(h:DA X [e] fs)(hs:starEach [e] X.env=[(false,eval e X.env)]:=by rfl):DI X tg (.Call (.Name "range" p) [e] [] pos) (bF fs) :=
 vo (CZ B.gl B.mg h hs) fun σ H R ⟨HF,ρ,ds,sm,eo,hf,q⟩=>by
  obtain⟨x,hx,hf⟩:=bs hf
  obtain⟨j,rfl,hj,rfl⟩:=vV hf
  refine⟨HF,ρ,_,sm,eo,hx,fun vs H1 HF1 g1 r1=>?_⟩
  obtain⟨v,r,rfl,a,b⟩:=r1.cons_inv
  rw[b.nil_inv]
  simp only[Rep] at a
  subst a
  unfold Ab at hj
  rw[zF] at hj
  refine⟨j,rfl,of_decide_eq_true hj.1,of_decide_eq_true hj.2,q _ H1 HF1 g1 ?_⟩
  have:=z8 (K:=X.K) (HF:=HF1) (lo:=0) (n:=j.toNat)
  simpa using this
def ND(K:W.Frag)(f:Env->D->Option Env):TG:=fun v σ H Q=>∃HF ρ d ρ',aZ HF H/\cW K HF ρ σ/\Rep K HF d v/\f ρ d=some ρ'/\∀σ',cW K HF ρ' σ'->cW K HF ρ σ'->Q σ' H
def DG(X:Cx)(tg:Expr)(f:Env->D->Option Env):Prop:=PG X tg (ND X.K f)
theorem nB{t t':TG}(h:PG X tg t)(i:∀v σ H Q,t' v σ H Q->t v σ H Q):PG X tg t':=fun pins s σ H v u Q I r q=>h pins s σ H v u Q I r (i v σ H Q q)
noncomputable def isFree(ρ:Env)(i:Nat):Bool:=((ρ[i]?).getD none).isNone
theorem iX{K:W.Frag}{HF:Hp}{ρ:Env}{σ:L2.St}{i:Nat}{d:D}{v:V}(eo:cW K HF ρ σ)(r:Rep K HF d v):cW K HF (ρ.set i (some d)) (σ.set i (some v)):=by
 refine⟨fun j e h=>?_,by rw[yD,yD];exact eo.len,eo.tb⟩
 rw[List.getElem?_set] at h ⊢
 by_cases hij:i=j
 ·rw[if_pos hij] at h ⊢
  by_cases hl:i < ρ.length
  ·rw[if_pos hl] at h
   cases h
   rw[if_pos (zP hl eo.len)]
   exact⟨v,rfl,r⟩
  ·rw[if_neg hl] at h;cases h
 ·rw[if_neg hij] at h ⊢
  exact eo.get j e h
theorem kL{K:W.Frag}{HF:Hp}{ρ:Env}{σ:L2.St}{i:Nat}{v:V}(eo:cW K HF ρ σ)(hf:isFree ρ i=true):cW K HF ρ (σ.set i (some v)):=by
 refine⟨fun j e h=>?_,by rw[yD];exact eo.len,eo.tb⟩
 have hij:i≠j:=by
  intro z;subst z
  unfold isFree at hf;rw[h] at hf;cases hf
 rw[List.getElem?_set,if_neg hij]
 exact eo.get j e h
noncomputable def fG(i:Nat):Env->D->Option Env:=fun ρ d=>if isFree ρ i=true then some (ρ.set i (some d)) else none
theorem Ik(i:Nat){x:Str}(hN:X.N.Nodup)(hi:X.N[i]?=some x)(hx:Loc X.env.scope x)(hf:X.fn x=true\/X.env.scope.names.lookup x=some .local:=by first|exact .inl rfl|exact .inr rfl|assumption):DG X (.Name x pos) (fG i) :=
 nB (dm hN hi hx hf) fun v σ H Q ⟨HF,ρ,d,ρ',sm,eo,r,hf,q⟩=>by
  unfold fG at hf
  split at hf
  ·cases hf;exact q _ (iX eo r) (kL eo ‹_›)
  ·cases hf
noncomputable def gN(i j:Nat):Env->D->Option Env:=fun ρ d=>match d with
 | .tuple [x,y]=>if isFree ρ i=true/\isFree ρ j=true then some ((ρ.set i (some x)).set j (some y)) else none
 | _=>none
theorem KP(i j:Nat){x y:Str}{px py:Pos}{k:Nat}(hc:X.calm=true)(hN:X.N.Nodup)(hi:X.N[i]?=some x)(hx:Loc X.env.scope x)(hj:X.N[j]?=some y)(hy:Loc X.env.scope y)
  (hf:X.fn x=true\/X.env.scope.names.lookup x=some .local:=by first|exact .inl rfl|exact .inr rfl|assumption) (hf':X.fn y=true\/X.env.scope.names.lookup y=some .local:=by first|exact .inl rfl|exact .inr rfl|assumption) :
  DG X (.Tuple [.Name x px,.Name y py] k pos) (gN i j) :=
 nB (qc hc (cH (dm hN hi hx hf) (cH (dm hN hj hy hf') ml))) fun v σ H Q ⟨HF,ρ,d,ρ',sm,eo,r,hf,q⟩=>by
  unfold gN at hf
  split at hf
  ·rename_i x' y'
   split at hf
   ·rename_i hh
    cases hf
    simp only[Rep] at r
    obtain⟨a,vs,rfl,hs,rr⟩:=r
    obtain⟨v1,r1,rfl,a1,b1⟩:=rr.cons_inv
    obtain⟨v2,r2,rfl,a2,b2⟩:=b1.cons_inv
    rw[b2.nil_inv] at hs
    exact⟨a,_,rfl,aB sm hs,rfl,v1,_,rfl,v2,_,rfl,rfl,q _ (iX (iX eo a1) a2) (kL (kL eo hh.1) hh.2)⟩
   ·cases hf
  ·cases hf
noncomputable def cx(tgt:Env->D->Option Env)(tt:Env->Option Bool)(te:Env->Option D)(ρ:Env):List D->Option (List D)
 | []=>some []
 | d::ds=>(tgt ρ d).bind fun ρ'=>(tt ρ').bind fun b=>if b=true then (te ρ').bind fun x=>(cx tgt tt te ρ ds).map (x::·) else cx tgt tt te ρ ds
def MW(X:Cx)(ifs:List Expr)(f:Env->Option Bool):Prop:=Mg X ifs (Lv X.K f)
theorem Jg:MW X [] (fun _=>some true):=fun pins s σ H Q I ⟨HF,ρ,b,sm,eo,hf,q⟩=>Ie pins s σ H Q I (by cases hf;exact q H HF (.refl sm))
theorem HQ{c:Expr}{t:Env->Option Bool}(h:DT X c t):MW X [c] t:=GP h
noncomputable def j8(t:Nat)(cs:List Nat)(σ:L2.St):L2.St:=List.replicate t none++cs.map fun j=>(σ[j]?).getD none
noncomputable def eG(t:Nat)(cs:List Nat)(ρ:Env):Env:=List.replicate t none++cs.map fun j=>(ρ[j]?).getD none
theorem BE{K:W.Frag}{HF:Hp}{ρ:Env}{σ:L2.St}{t:Nat}{cs:List Nat}(eo:cW K HF ρ σ):cW K HF (eG t cs ρ) (j8 t cs σ):=by
 refine⟨fun i d h=>?_,by simp[eG,j8],eo.tb⟩
 unfold eG at h
 unfold j8
 by_cases hi:i < t
 ·rw[List.getElem?_append_left (by simpa using hi),List.getElem?_replicate,if_pos hi] at h
  cases h
 ·rw[List.getElem?_append_right (by simpa using hi),zO,List.length_replicate] at h
  rw[List.getElem?_append_right (by simpa using hi),zO,List.length_replicate]
  obtain⟨j,hj,h⟩:=ag h
  rw[hj]
  cases e:ρ[j]? with
  | none=>rw[e] at h;cases h
  | some o =>
   rw[e] at h
   have h:o=some d:=h
   subst h
   obtain⟨v,a,b⟩:=eo.get j d e
   exact⟨v,by show some ((σ[j]?).getD none)=_;rw[a];rfl,b⟩
noncomputable def ao(t:Nat)(cs:List Nat)(fi:Env->Option (List D))(tgt:Env->D->Option Env)(tt:Env->Option Bool)(te:Env->Option D):Env->Option (List D):=fun ρ=>(fi ρ).bind fun ds=>(cx tgt tt te (eG t cs ρ) ds).bind small
variable {elt iter:Expr}{ifs:List Expr}{scope:Scope}{N:List Str}{t:Nat}{cs:List Nat}{fi:Env->Option (List D)}{tgt:Env->D->Option Env}{tt:Env->Option Bool}{te:Env->Option D}
theorem Ep:∀σ H Q,tF X.K (ao t cs fi tgt tt te) σ H Q->Gn (OR X.K fi) (ND X.K tgt) (Lv X.K tt) (tD X.K te) (j8 t cs) σ H Q:=fun σ H Q ⟨HF,ρ,out,sm,eo,hf,q⟩=>by
 obtain⟨ds,hx,hf⟩:=bs hf
 obtain⟨out',ho,hf⟩:=bs hf
 obtain⟨rfl,hz⟩:=eJ hf
 refine⟨HF,ρ,ds,sm,eo,hx,fun J H1 HF1 g1 it Dn hD=>?_⟩
 have eo1:=BE (t:=t) (cs:=cs) (eo.mono g1.ff)
 have hFD:HF1 Dn=none:=g1.fh.free hD
 refine⟨fun i m σ' H'=>m+i=ds.length/\∃HF' xs ys rest,cy HF1 H1 HF' H'/\HF' Dn=none/\H' Dn=some (.lst ys)/\au X.K HF' xs ys/\cW X.K HF' (eG t cs ρ) σ'/\cx tgt tt te (eG t cs ρ) (ds.drop i)=some rest/\xs++rest=out,
  ⟨ds.length,rfl,HF1,[],[],out,.own g1.fh hD,hFD,aL,au.nil,eo1,ho,rfl⟩,?_⟩
 rintro i m σ' H' ⟨hm,HF',xs,ys,rest,G,hFD',hHD,rr,eo',hc,hout⟩
 by_cases hi:i < ds.length
 ·refine .inr ?_
  have hd:ds.drop i=ds[i]::ds.drop (i+1):=List.drop_eq_getElem_cons hi
  have he:ds[i]?=some ds[i]:=zU.mpr ⟨hi,rfl⟩
  generalize ds[i]=d at hd he
  rw[hd] at hc
  unfold cx at hc
  obtain⟨ρ',h1,hc⟩:=bs hc
  obtain⟨b,h2,hc⟩:=bs hc
  obtain⟨go,yld⟩:=it.go i d H' HF' he G.ff G.fh
  refine⟨go,fun x H2 y=>?_⟩
  obtain⟨HF2,G2,rx⟩:=yld x H2 y
  refine⟨HF2,_,d,ρ',G2.fh,eo'.mono G2.ff,rx,h1,fun σ2 eo2 eo2'=>?_⟩
  refine⟨HF2,ρ',b,G2.fh,eo2,h2,fun H3 HF3 G3=>?_⟩
  have nof:∀HF4 H4,cy HF' H' HF4 H4->HF4 Dn=none:=fun HF4 H4 G4=>by
   cases e4:HF4 Dn with
   | none=>rfl
   | some o =>
    rcases G4.nw Dn o e4 with z|z
    ·rw[hFD'] at z;cases z
    ·rw[hHD] at z;cases z
  cases b with
  | false =>
   refine vY ⟨m - 1,by omega,by omega,HF3,xs,ys,rest,(G.trans G2).trans G3,nof _ _ (G2.trans G3),(G2.trans G3).hh _ _ hHD,rr.mono (G2.trans G3).ff,eo2'.mono G3.ff,by simpa using hc,hout⟩
  | true =>
   rw[if_pos rfl] at hc
   obtain⟨z,h3,hc⟩:=bs hc
   obtain⟨rest',h4,rfl⟩:=ag hc
   refine xa ⟨HF3,ρ',z,G3.fh,eo2.mono G3.ff,h3,fun v H4 HF4 G4 rv=>?_⟩
   have GG:=(G2.trans G3).trans G4
   have n4:=nof _ _ GG
   have h4D:=GG.hh _ _ hHD
   have hlen:ys.length < sizeLine:=by
    have e1:=rr.length
    have e2:out.length=xs.length+(rest'.length+1):=by rw[<- hout];simp
    omega
   refine⟨ys,h4D,hlen,m - 1,by omega,by omega,HF4,xs++[z],ys++[v],rest',?_,n4,aL,(rr.mono GG.ff).append (au.cons rv au.nil),eo2'.mono (G3.ff.trans G4.ff),h4,by simp[<- hout]⟩
   have G5:=G.trans GG
   refine⟨fun b o e=>?_,G5.ff,fun b o e=>?_,G5.nw⟩
   ·rw[aE (aQ e hD)];exact G5.hh b o e
   ·rw[aE (aQ e n4)];exact G5.fh b o e
 ·have hi':i=ds.length:=by omega
  subst hi'
  rw[List.drop_length] at hc
  cases hc
  rw[List.append_nil] at hout
  subst hout
  exact .inl ⟨it.stop H' HF' G.ff G.fh,q Dn ys H' HF' (g1.trans G) (g1.hh.free hD) hFD' hHD rr⟩
theorem GV(hc:X.calm=true)(S:i6 X scope N (j8 t cs))(hi:DI X tg iter fi)
  (hY:∀fp s H,DG (aY X scope N fp s H) tg tgt/\MW (aY X scope N fp s H) ifs tt/\DE (aY X scope N fp s H) elt te)
  (hs:∀x,foldedSetIterable iter X.env x=pure x:=by intro _;rfl):DF X (.ListComp elt [⟨tg,iter,ifs,0⟩] scope pos) (ao t cs fi tgt tt te):=aV (HG (g:=ND X.K tgt) (tt:=Lv X.K tt) (te:=tD X.K te) hc S hi hY hs) Ep
end
inductive Slot where
 | non|val (d:D)|own (ds:List D)
noncomputable abbrev ak:=List Slot
noncomputable def Slot.all:Slot->Option D|.non=>none|.val d=>some d|.own ds=>some (.list ds)
noncomputable def Slot.frz:Slot->Option D|.val d=>some d|_=>none
noncomputable def Slot.thaw:Slot->Slot|.own ds=>.val (.list ds)|s=>s
noncomputable def bg(ρ:ak):Env:=ρ.map Slot.all
noncomputable def cn(ρ:ak):Env:=ρ.map Slot.frz
noncomputable def hand(fz:List Nat):Nat->ak->ak
 | _,[]=>[]
 | k,s::r=>(if fz.contains k=true then s.thaw else s)::hand fz (k+1) r
theorem iE(fz:List Nat):∀ (ρ:ak) (k i:Nat),(hand fz k ρ)[i]?=(ρ[i]?).map fun s=>if fz.contains (k+i)=true then s.thaw else s
 | [],k,i=>by simp[hand]
 | s::r,k,0=>by simp[hand]
 | s::r,k,i+1=>by
  simp only[hand,List.getElem?_cons_succ]
  rw[iE fz r (k+1) i,Nat.add_assoc,Nat.add_comm 1 i]
theorem xC(fz:List Nat):∀ (ρ:ak) (k:Nat),(hand fz k ρ).length=ρ.length
 | [],k=>rfl
 | s::r,k=>by simp[hand,xC fz r (k+1)]
structure jJ(K:W.Frag)(HF₀ H₀ HF H:Hp)(ρ:ak)(σ:L2.St):Prop where
 gr:cy HF₀ H₀ HF H
 val:∀ (i:Nat) (d:D),ρ[i]?=some (.val d)->∃v,σ[i]?=some (some v)/\Rep K HF d v
 own:∀ (i:Nat) (ds:List D),ρ[i]?=some (.own ds)->∃a vs,σ[i]?=some (some (.ref a))/\H a=some (.lst vs)/\HF a=none/\H₀ a=none/\au K HF ds vs
 inj:∀ (i j:Nat) (ds es:List D) (a:Addr),ρ[i]?=some (.own ds)->ρ[j]?=some (.own es)->σ[i]?=some (some (.ref a))->σ[j]?=some (some (.ref a))->i=j
 len:ρ.length<=σ.length
 tb:gy K HF
section
variable {K:W.Frag}{HF₀ H₀ HF H HF' H':Hp}{ρ:ak}{σ:L2.St}
theorem jJ.all(S:jJ K HF₀ H₀ HF H ρ σ):cW K H (bg ρ) σ:=by
 refine⟨fun i d h=>?_,by simpa [bg] using S.len,S.tb.mono S.gr.fh⟩
 unfold bg at h
 rw[zO] at h
 obtain⟨s,hs,h⟩:=ag h
 cases s with
 | non=>cases h
 | val e=>cases h;obtain⟨v,a,b⟩:=S.val i _ hs;exact⟨v,a,b.mono S.gr.fh⟩
 | own ds =>
  cases h
  obtain⟨a,vs,e1,e2,e3,_,e4⟩:=S.own i ds hs
  exact⟨.ref a,e1,by simp only[Rep];exact⟨a,vs,rfl,iV.of e2,e4.mono S.gr.fh⟩⟩
theorem jJ.frz(S:jJ K HF₀ H₀ HF H ρ σ):cW K HF (cn ρ) σ:=by
 refine⟨fun i d h=>?_,by simpa [cn] using S.len,S.tb⟩
 unfold cn at h
 rw[zO] at h
 obtain⟨s,hs,h⟩:=ag h
 cases s with
 | non=>cases h
 | val e=>cases h;exact S.val i _ hs
 | own ds=>cases h
theorem jJ.grow(S:jJ K HF₀ H₀ HF H ρ σ)(g:cy HF H HF' H'):jJ K HF₀ H₀ HF' H' ρ σ where
 gr:=S.gr.trans g
 val:=fun i d h=>let ⟨v,a,b⟩:=S.val i d h;⟨v,a,b.mono g.ff⟩
 own:=fun i ds h=>by
  obtain⟨a,vs,e1,e2,e3,e5,e4⟩:=S.own i ds h
  refine⟨a,vs,e1,g.hh _ _ e2,?_,e5,e4.mono g.ff⟩
  cases e:HF' a with
  | none=>rfl
  | some o =>
   rcases g.nw a o e with z|z
   ·rw[e3] at z;cases z
   ·rw[e2] at z;cases z
 inj:=S.inj
 len:=S.len
 tb:=S.tb.mono g.ff
theorem jJ.step(S:jJ K HF₀ H₀ HF H ρ σ)(g:aZ H H'):jJ K HF₀ H₀ HF H' ρ σ:=S.grow ⟨g,.refl _,S.gr.fh.trans g,fun _ _ e=>.inl e⟩
theorem jJ.hand(S:jJ K HF₀ H₀ HF H ρ σ)(fz:List Nat):∃HF1,aZ HF HF1/\jJ K HF₀ H₀ HF1 H (hand fz 0 ρ) σ:=by
 let P:Addr->Prop:=fun a=>∃i ds,fz.contains i=true/\ρ[i]?=some (.own ds)/\σ[i]?=some (some (.ref a))
 have cl:=Classical.propDecidable
 let HF1:Hp:=fun a=>if P a then H a else HF a
 have hP:∀a,P a->HF a=none/\H₀ a=none:=fun a ⟨i,ds,_,h1,h2⟩=>by
  obtain⟨a',vs,e1,e2,e3,e5,e4⟩:=S.own i ds h1
  rw[h2] at e1
  cases e1
  exact⟨e3,e5⟩
 have s1:aZ HF HF1:=fun b o e=>by
  show (if P b then H b else HF b)=some o
  by_cases h:P b
  ·rw[(hP b h).1] at e;cases e
  ·rw[if_neg h];exact e
 have s2:aZ HF1 H:=fun b o e=>by
  have e:(if P b then H b else HF b)=some o:=e
  by_cases h:P b
  ·rw[if_pos h] at e;exact e
  ·rw[if_neg h] at e;exact S.gr.fh b o e
 refine⟨HF1,s1,⟨S.gr.hh,S.gr.ff.trans s1,s2,fun b o e=>?_⟩,fun i d h=>?_,fun i ds h=>?_,fun i j ds es a h1 h2=>?_,by rw[xC];exact S.len,S.tb.mono s1⟩
 ·have e:(if P b then H b else HF b)=some o:=e
  by_cases h:P b
  ·exact .inr (hP b h).2
  ·rw[if_neg h] at e;exact S.gr.nw b o e
 ·rw[iE] at h
  obtain⟨s,hs,h⟩:=ag h
  rw[Nat.zero_add] at h
  cases s with
  | non=>split at h<;>cases h
  | val e =>
   have:Slot.val e=Slot.val d:=by split at h<;>exact h
   cases this
   obtain⟨v,a,b⟩:=S.val i _ hs
   exact⟨v,a,b.mono s1⟩
  | own ds =>
   split at h
   ·rename_i hc
    cases h
    obtain⟨a,vs,e1,e2,e3,e5,e4⟩:=S.own i ds hs
    refine⟨.ref a,e1,?_⟩
    simp only[Rep]
    refine⟨a,vs,rfl,.inl (.inl ?_),e4.mono s1⟩
    show (if P a then H a else HF a)=_
    rw[if_pos ⟨i,ds,hc,hs,e1⟩]
    exact e2
   ·cases h
 ·rw[iE] at h
  obtain⟨s,hs,h⟩:=ag h
  rw[Nat.zero_add] at h
  cases s with
  | non=>split at h<;>cases h
  | val e=>split at h<;>cases h
  | own es =>
   split at h
   ·cases h
   ·rename_i hc
    cases h
    obtain⟨a,vs,e1,e2,e3,e5,e4⟩:=S.own i ds hs
    refine⟨a,vs,e1,e2,?_,e5,e4.mono s1⟩
    show (if P a then H a else HF a)=none
    rw[if_neg ?_]
    ·exact e3
    ·rintro⟨j,es,hj,h1,h2⟩
     have:=S.inj i j ds es a hs h1 e1 h2
     subst this
     exact hc hj
 ·rw[iE] at h1 h2
  obtain⟨s,hs,h1⟩:=ag h1
  obtain⟨s',hs',h2⟩:=ag h2
  rw[Nat.zero_add] at h1 h2
  cases s with
  | non=>split at h1<;>cases h1
  | val e=>split at h1<;>cases h1
  | own xs =>
   cases s' with
   | non=>split at h2<;>cases h2
   | val e=>split at h2<;>cases h2
   | own ys=>exact S.inj i j _ _ a hs hs'
theorem jJ.setV(S:jJ K HF₀ H₀ HF H ρ σ){i:Nat}{d:D}{v:V}(r:Rep K HF d v):jJ K HF₀ H₀ HF H (ρ.set i (.val d)) (σ.set i (some v)):=by
 have ne:∀ {j:Nat}{s:Slot},(ρ.set i (.val d))[j]?=some s->(∀e,s≠.val e)->i≠j/\ρ[j]?=some s:=fun {j s} h hn=>by
  rw[List.getElem?_set] at h
  by_cases hij:i=j
  ·rw[if_pos hij] at h
   split at h
   ·cases h;exact absurd rfl (hn _)
   ·cases h
  ·rw[if_neg hij] at h;exact⟨hij,h⟩
 refine⟨S.gr,fun j e h=>?_,fun j ds h=>?_,fun j k ds es a h1 h2 h3 h4=>?_,by rw[yD,yD];exact S.len,S.tb⟩
 ·rw[List.getElem?_set] at h ⊢
  by_cases hij:i=j
  ·rw[if_pos hij] at h ⊢
   split at h
   ·rename_i hl
    cases h
    rw[if_pos (zP hl S.len)]
    exact⟨v,rfl,r⟩
   ·cases h
  ·rw[if_neg hij] at h ⊢
   exact S.val j e h
 ·obtain⟨hij,h⟩:=ne h fun e z=>by cases z
  rw[List.getElem?_set,if_neg hij]
  exact S.own j ds h
 ·obtain⟨n1,h1⟩:=ne h1 fun e z=>by cases z
  obtain⟨n2,h2⟩:=ne h2 fun e z=>by cases z
  rw[List.getElem?_set,if_neg n1] at h3
  rw[List.getElem?_set,if_neg n2] at h4
  exact S.inj j k ds es a h1 h2 h3 h4
theorem jJ.setO(S:jJ K HF₀ H₀ HF H ρ σ){i:Nat}{ds:List D}{a:Addr}{vs:List V}(hs:aZ H H')(h1:H' a=some (.lst vs))(h2:HF a=none)(h3:H₀ a=none)(r:au K HF ds vs)
  (fr:∀j es,i≠j->ρ[j]?=some (.own es)->σ[j]?≠some (some (.ref a))):jJ K HF₀ H₀ HF H' (ρ.set i (.own ds)) (σ.set i (some (.ref a))):=by
 have S:=S.step hs
 refine⟨S.gr,fun j e h=>?_,fun j es h=>?_,fun j k xs ys b e1 e2 e3 e4=>?_,by rw[yD,yD];exact S.len,S.tb⟩
 ·rw[List.getElem?_set] at h ⊢
  by_cases hij:i=j
  ·rw[if_pos hij] at h
   split at h<;>cases h
  ·rw[if_neg hij] at h ⊢
   exact S.val j e h
 ·rw[List.getElem?_set] at h ⊢
  by_cases hij:i=j
  ·rw[if_pos hij] at h ⊢
   split at h
   ·rename_i hl
    cases h
    rw[if_pos (zP hl S.len)]
    exact⟨a,vs,rfl,h1,h2,h3,r⟩
   ·cases h
  ·rw[if_neg hij] at h ⊢
   exact S.own j es h
 ·rw[List.getElem?_set] at e1 e2 e3 e4
  by_cases hij:i=j
  ·by_cases hik:i=k
   ·exact hij.symm.trans hik
   ·rw[if_pos hij] at e1 e3
    rw[if_neg hik] at e2 e4
    split at e3
    ·cases e3;exact absurd e4 (fr k ys hik e2)
    ·cases e3
  ·by_cases hik:i=k
   ·rw[if_neg hij] at e1 e3
    rw[if_pos hik] at e2 e4
    split at e4
    ·cases e4;exact absurd e3 (fr j xs hij e1)
    ·cases e4
   ·rw[if_neg hij] at e1 e3
    rw[if_neg hik] at e2 e4
    exact S.inj j k xs ys b e1 e2 e3 e4
end
inductive Out where
 | nx (ρ:ak)|rt (d:D)
noncomputable def Bl(K:W.Frag)(HF₀ H₀ HF:Hp)(E:Ends):Out->Prop
 | .nx ρ'=>∀σ' H' HF',jJ K HF₀ H₀ HF' H' ρ' σ'->aZ HF HF'->E.nx σ' H'
 | .rt d=>∀v H' HF',cy HF₀ H₀ HF' H'->Rep K HF' d v->E.rt v H'
def tS(K:W.Frag)(HF₀ H₀:Hp)(g:ak->Option Out):TS:=fun E σ H=>∃HF ρ o,jJ K HF₀ H₀ HF H ρ σ/\g ρ=some o/\Bl K HF₀ H₀ HF E o
def DS(X:Cx)(HF₀ H₀:Hp)(st:Stmt)(g:ak->Option Out):Prop:=PS X st (tS X.K HF₀ H₀ g)
def Do(X:Cx)(HF₀ H₀:Hp)(st:List Stmt)(g:ak->Option Out):Prop:=zm X st (tS X.K HF₀ H₀ g)
section
variable {X:Cx}{HF₀ H₀:Hp}{st:Stmt}{rest:List Stmt}{g g1 g2:ak->Option Out}{e:Expr}{pos:Pos}
theorem eC{t t':TS}(h:PS X st t)(i:∀E σ H,t' E σ H->t E σ H):PS X st t':=fun pins s σ H E I q=>h pins s σ H E I (i E σ H q)
theorem Bj{t t':TS}(h:zm X rest t)(i:∀E σ H,t' E σ H->t E σ H):zm X rest t':=fun pins s σ H E I q=>h pins s σ H E I (i E σ H q)
noncomputable def eF:ak->Option Out:=fun ρ=>some (.nx ρ)
noncomputable def aq(g1 g2:ak->Option Out):ak->Option Out:=fun ρ=>(g1 ρ).bind fun|.nx ρ'=>g2 ρ'|.rt d=>some (.rt d)
theorem Bl.mono{K:W.Frag}{HF HF':Hp}{E:Ends}{o:Out}(s:aZ HF HF')(h:Bl K HF₀ H₀ HF E o):Bl K HF₀ H₀ HF' E o:=by
 cases o with
 | nx ρ'=>exact fun σ' H' HF2 S s2=>h σ' H' HF2 S (s.trans s2)
 | rt d=>exact h
theorem Ji:Do X HF₀ H₀ [] eF:=Bj IR fun E σ H ⟨HF,ρ,o,S,hg,q⟩=>by cases hg;exact q σ H HF S (.refl _)
theorem ER(h1:DS X HF₀ H₀ st g1)(h2:Do X HF₀ H₀ rest g2):Do X HF₀ H₀ (st::rest) (aq g1 g2):=Bj (DQ h1 h2) fun E σ H ⟨HF,ρ,o,S,hg,q⟩=>by
 obtain⟨o1,h,hg⟩:=bs hg
 refine⟨HF,ρ,o1,S,h,?_⟩
 cases o1 with
 | nx ρ'=>exact fun σ' H' HF' S' s=>⟨HF',ρ',o,S',hg,q.mono s⟩
 | rt d=>cases hg;exact q
theorem HU(h1:DS X HF₀ H₀ st g1):Do X HF₀ H₀ [st] g1:=HB h1
theorem Io:DS X HF₀ H₀ (.Pass pos) eF:=eC Jh fun E σ H ⟨HF,ρ,o,S,hg,q⟩=>by cases hg;exact q σ H HF S (.refl _)
theorem LY{x j pos pos'}:DS X HF₀ H₀ (.Expr (.Constant (.str x) j pos) pos') eF:=eC KR fun E σ H ⟨HF,ρ,o,S,hg,q⟩=>by cases hg;exact q σ H HF S (.refl _)
noncomputable def eL(t:Env->Option Bool)(g1 g2:ak->Option Out):ak->Option Out:=fun ρ=>(t (bg ρ)).bind fun b=>if b=true then g1 ρ else g2 ρ
theorem Mt{c:Expr}{a b:List Stmt}{t:Env->Option Bool}(hc:DT X c t)(ha:Do X HF₀ H₀ a g1)(hb:Do X HF₀ H₀ b g2):DS X HF₀ H₀ (.If c a b pos) (eL t g1 g2):=eC (MH hc ha hb) fun E σ H ⟨HF,ρ,o,S,hg,q⟩=>by
 obtain⟨b,h,hg⟩:=bs hg
 refine⟨H,bg ρ,b,.refl _,S.all,h,fun H' HF' G=>?_⟩
 cases b with
 | true=>exact xa ⟨HF,ρ,o,S.step G.hh,hg,q⟩
 | false=>exact vY ⟨HF,ρ,o,S.step G.hh,hg,q⟩
theorem xg:∀ (ρ:ak) (k n:Nat),k+ρ.length<=n->cn (hand (List.range n) k ρ)=bg ρ
 | [],k,n,h=>rfl
 | s::r,k,n,h=>by
  have hk:(List.range n).contains k=true:=by simp at h ⊢;omega
  have ih:=xg r (k+1) n (by simp at h;omega)
  unfold cn bg at ih ⊢
  rw[hand,if_pos hk,zI,zI,ih]
  cases s<;>rfl
noncomputable def aD(f:Env->Option D):ak->Option Out:=fun ρ=>(f (bg ρ)).map Out.rt
theorem Kx{f:Env->Option D}(h:DE X e f):DS X HF₀ H₀ (.Return (some e) pos) (aD f):=eC (Ki h) fun E σ H ⟨HF,ρ,o,S,hg,q⟩=>by
 obtain⟨d,h,rfl⟩:=ag hg
 obtain⟨HF1,s1,S1⟩:=S.hand (List.range ρ.length)
 refine⟨HF1,bg ρ,d,S1.gr.fh,?_,h,fun v H' HF' G r=>q v H' HF' (S1.gr.trans G) r⟩
 have:=S1.frz
 rw[xg ρ 0 ρ.length (by omega)] at this
 exact this
noncomputable def oJ:D->Bool|.none=>true|.bool _=>true|.int _=>true|.str _=>true|_=>false
theorem ym{K:W.Frag}{HF HF':Hp}{d:D}{v:V}(h:oJ d=true)(r:Rep K HF d v):Rep K HF' d v:=by
 cases d<;>cases h<;>(simp only[Rep] at r ⊢;exact r)
mutual
noncomputable def iA:D->Bool
 | .tuple ds=>lE ds
 | .list _=>false
 | .dict _=>false
 | _=>true
noncomputable def lE:List D->Bool
 | []=>true
 | d::ds=>iA d&&lE ds
end
mutual
theorem xR{K:W.Frag}{H1 H2:Hp}(ht:∀a xs,ju K H1 a xs->ju K H2 a xs):∀ {d:D}{v:V},iA d=true->Rep K H1 d v->Rep K H2 d v
 | .none,_,_,r=>by simp only[Rep] at r ⊢;exact r
 | .bool _,_,_,r=>by simp only[Rep] at r ⊢;exact r
 | .int _,_,_,r=>by simp only[Rep] at r ⊢;exact r
 | .str _,_,_,r=>by simp only[Rep] at r ⊢;exact r
 | .tuple ds,v,h,r=>by
  simp only[iA] at h
  simp only[Rep] at r ⊢
  obtain⟨a,vs,e,q,rr⟩:=r
  exact⟨a,vs,e,ht _ _ q,sU ht h rr⟩
 | .list _,_,h,_=>by simp[iA] at h
 | .dict _,_,h,_=>by simp[iA] at h
theorem sU{K:W.Frag}{H1 H2:Hp}(ht:∀a xs,ju K H1 a xs->ju K H2 a xs):∀ {ds:List D}{vs:List V},lE ds=true->au K H1 ds vs->au K H2 ds vs
 | [],_,_,r=>by simp only[au] at r ⊢;exact r
 | d::ds,vs,h,r=>by
  simp only[lE,zF] at h
  simp only[au] at r ⊢
  obtain⟨v,r',e,a,b⟩:=r
  exact⟨v,r',e,xR ht h.1 a,sU ht h.2 b⟩
end
theorem jJ.back{K:W.Frag}{HF₀ H₀ HF H HF1 HF' H':Hp}{ρ ρ1:ak}{σ:L2.St}(S:jJ K HF₀ H₀ HF H ρ σ)(S1:jJ K HF₀ H₀ HF1 H ρ1 σ)(s1:aZ HF HF1)(G:cy HF1 H HF' H'):∃HF2,aZ HF HF2/\jJ K HF₀ H₀ HF2 H' ρ σ/\∀d v,iA d=true->Rep K HF' d v->Rep K HF2 d v:=by
 have cl:=Classical.propDecidable
 let O:Addr->Prop:=fun a=>∃ (i:Nat) (ds:List D),ρ[i]?=some (Slot.own ds)/\σ[i]?=some (some (V.ref a))
 let HF2:Hp:=fun a=>if O a then none else HF' a
 have hO:∀a,O a->HF a=none/\∃vs,H a=some (.lst vs):=fun a ⟨i,ds,h1,h2⟩=>by
  obtain⟨a',vs,e1,e2,e3,_,_⟩:=S.own i ds h1
  rw[h2] at e1
  cases e1
  exact⟨e3,vs,e2⟩
 have h2:∀a,¬ O a->HF2 a=HF' a:=fun a n=>if_neg n
 have h3:∀a,O a->HF2 a=none:=fun a n=>if_pos n
 have sa:aZ HF HF2:=fun b o e=>by
  have nb:¬ O b:=fun z=>by rw[(hO b z).1] at e;cases e
  rw[h2 b nb]
  exact G.ff b o (s1 b o e)
 have sb:∀b o,HF2 b=some o->HF' b=some o:=fun b o e=>by
  by_cases z:O b
  ·rw[h3 b z] at e;cases e
  ·rwa [h2 b z] at e
 have g2:=S1.gr.trans G
 refine⟨HF2,sa,⟨⟨g2.hh,S.gr.ff.trans sa,fun b o e=>G.fh b o (sb b o e),fun b o e=>g2.nw b o (sb b o e)⟩,fun i d h=>?_,fun i ds h=>?_,S.inj,S.len,S.tb.mono sa⟩,fun d v hn r=>xR (fun a xs q=>?_) hn r⟩
 ·obtain⟨v,e1,r⟩:=S.val i d h
  exact⟨v,e1,r.mono sa⟩
 ·obtain⟨a,vs,e1,e2,e3,e5,e4⟩:=S.own i ds h
  exact⟨a,vs,e1,G.hh _ _ e2,h3 a ⟨i,ds,h,e1⟩,e5,e4.mono sa⟩
 ·have nt:∀o,HF' a=some o->(∀vs,o≠.lst vs)->HF2 a=some o:=fun o e hne=>by
   by_cases z:O a
   ·obtain⟨_,vs,e2⟩:=hO a z
    have:=G.hh _ _ e2
    rw[G.fh a o e] at this
    cases this
    exact absurd rfl (hne vs)
   ·rw[h2 a z];exact e
  rcases q with (q|⟨o,q⟩)|q
  ·exact .inl (.inl (nt _ q fun vs z=>by cases z))
  ·exact .inl (.inr ⟨o,nt _ q fun vs z=>by cases z⟩)
  ·exact .inr q
noncomputable def ay(i:Nat)(fz:List Nat)(f:Env->Option D):ak->Option Out:=fun ρ=>(f (bg ρ)).bind fun d=>if oJ d=true then some (.nx (ρ.set i (.val d))) else (f (cn (hand fz 0 ρ))).map fun d'=>.nx ((if iA d'=true then ρ else hand fz 0 ρ).set i (.val d'))
theorem Mz{i:Nat}{fz:List Nat}{f:Env->Option D}:∀E σ H,tS X.K HF₀ H₀ (ay i fz f) E σ H->FL (tD X.K f) (xr i) E σ H:=fun E σ H ⟨HF,ρ,o,S,hg,q⟩=>by
 obtain⟨d,h,hg⟩:=bs hg
 split at hg
 ·rename_i hs
  cases hg
  exact⟨H,bg ρ,d,.refl _,S.all,h,fun v H' HF' G r=>q _ H' HF ((S.step G.hh).setV (ym hs r)) (.refl _)⟩
 ·obtain⟨d',h',rfl⟩:=ag hg
  obtain⟨HF1,s1,S1⟩:=S.hand fz
  refine⟨HF1,_,d',S1.gr.fh,S1.frz,h',fun v H' HF' G r=>?_⟩
  by_cases hn:iA d'=true
  ·rw[if_pos hn] at q
   obtain⟨HF2,s2,S2,hb⟩:=S.back S1 s1 G
   exact q _ H' HF2 (S2.setV (hb d' v hn r)) s2
  ·rw[if_neg hn] at q
   exact q _ H' HF' ((S1.grow G).setV r) (s1.trans G.ff)
theorem LG(i:Nat)(fz:List Nat){x:Str}{f:Env->Option D}{pos':Pos}(hN:X.N.Nodup)(hi:X.N[i]?=some x)(hx:Loc X.env.scope x)(he:DE X e f)(hs:swapsWith e (some (.Name x pos')) pos.line X.env=pure false:=by rfl)
  (hf:X.fn x=true\/X.env.scope.names.lookup x=some .local:=by first|exact .inl rfl|exact .inr rfl|assumption):DS X HF₀ H₀ (.Assign [.Name x pos'] e pos) (ay i fz f):=eC (Ey hN hi hx he hs hf) Mz
noncomputable def aO(i:Nat)(fz:List Nat)(f:Env->Option (List D)):ak->Option Out:=fun ρ=>(f (cn (hand fz 0 ρ))).map fun ds=>.nx ((hand fz 0 ρ).set i (.own ds))
theorem D4{i:Nat}{fz:List Nat}{f:Env->Option (List D)}:∀E σ H,tS X.K HF₀ H₀ (aO i fz f) E σ H->FL (tF X.K f) (xr i) E σ H:=fun E σ H ⟨HF,ρ,o,S,hg,q⟩=>by
 obtain⟨ds,h,rfl⟩:=ag hg
 obtain⟨HF1,s1,S1⟩:=S.hand fz
 refine⟨HF1,_,ds,S1.gr.fh,S1.frz,h,fun a vs H' HF' G ha hf h' r=>q _ H' HF' ?_ (s1.trans G.ff)⟩
 have S2:=S1.grow G
 refine S2.setO (.refl _) h' hf (S1.gr.hh.free ha) r fun j es _ hj z=>?_
 obtain⟨b,us,e1,e2,_⟩:=S1.own j es hj
 rw[e1] at z
 cases z
 rw[ha] at e2;cases e2
theorem uz(i:Nat)(fz:List Nat){x:Str}{f:Env->Option (List D)}{pos':Pos}(hN:X.N.Nodup)(hi:X.N[i]?=some x)(hx:Loc X.env.scope x)(he:DF X e f)(hs:swapsWith e (some (.Name x pos')) pos.line X.env=pure false:=by rfl)
  (hf:X.fn x=true\/X.env.scope.names.lookup x=some .local:=by first|exact .inl rfl|exact .inr rfl|assumption):DS X HF₀ H₀ (.Assign [.Name x pos'] e pos) (aO i fz f):=eC (Ey hN hi hx he hs hf) D4
theorem Ia(i:Nat)(fz:List Nat){y:Str}{py spos:Pos}{tg iter elt:Expr}{ifs:List Expr}{scope:Scope}{N:List Str}{t:Nat}{cs:List Nat}{fi:Env->Option (List D)}{tgt:Env->D->Option Env}{tt:Env->Option Bool}{te:Env->Option D}
  (hc:X.calm=true) (S:i6 X scope N (j8 t cs)) (hi:DI X tg iter fi)
  (hY:∀fp s H,DG (aY X scope N fp s H) tg tgt/\MW (aY X scope N fp s H) ifs tt/\DE (aY X scope N fp s H) elt te)
  (hN:X.N.Nodup) (hiy:X.N[i]?=some y) (hy:X.env.scope.names.lookup y=some .local)
  (hsw:swapsWith (.ListComp elt [⟨tg,iter,ifs,0⟩] scope pos) (some (.Name y py)) spos.line X.env=pure true)
  (hs:∀x,foldedSetIterable iter X.env x=pure x:=by intro _;rfl):DS X HF₀ H₀ (.Assign [.Name y py] (.ListComp elt [⟨tg,iter,ifs,0⟩] scope pos) spos) (aO i fz (ao t cs fi tgt tt te)) :=
 eC (GZ (g:=ND X.K tgt) (tt:=Lv X.K tt) (te:=tD X.K te) hc S hi hY hN hiy hy hsw hs) fun E σ H q=>by
  have:=D4 E σ H q
  exact Ep σ H _ this
def Ph(K:W.Frag)(HF₀ H₀:Hp)(f:ak->D->Option ak):TG:=fun v σ H Q=>∃HF ρ d ρ',jJ K HF₀ H₀ HF H ρ σ/\Rep K HF d v/\f ρ d=some ρ'/\∀σ',jJ K HF₀ H₀ HF H ρ' σ'->Q σ' H
def Ny(X:Cx)(HF₀ H₀:Hp)(tg:Expr)(f:ak->D->Option ak):Prop:=PG X tg (Ph X.K HF₀ H₀ f)
noncomputable def mQ(i:Nat):ak->D->Option ak:=fun ρ d=>some (ρ.set i (.val d))
theorem FY(i:Nat){x:Str}(hN:X.N.Nodup)(hi:X.N[i]?=some x)(hx:Loc X.env.scope x)(hf:X.fn x=true\/X.env.scope.names.lookup x=some .local:=by first|exact .inl rfl|exact .inr rfl|assumption):Ny X HF₀ H₀ (.Name x pos) (mQ i) :=
 nB (dm hN hi hx hf) fun v σ H Q ⟨HF,ρ,d,ρ',S,r,hf,q⟩=>by cases hf;exact q _ (S.setV r)
noncomputable def js(i j:Nat):ak->D->Option ak:=fun ρ d=>match d with
 | .tuple [x,y]=>some ((ρ.set i (.val x)).set j (.val y))
 | _=>none
theorem Hr(i j:Nat){x y:Str}{px py:Pos}{k:Nat}(hc:X.calm=true)(hN:X.N.Nodup)(hi:X.N[i]?=some x)(hx:Loc X.env.scope x)(hj:X.N[j]?=some y)(hy:Loc X.env.scope y)
  (hf:X.fn x=true\/X.env.scope.names.lookup x=some .local:=by first|exact .inl rfl|exact .inr rfl|assumption) (hf':X.fn y=true\/X.env.scope.names.lookup y=some .local:=by first|exact .inl rfl|exact .inr rfl|assumption) :
  Ny X HF₀ H₀ (.Tuple [.Name x px,.Name y py] k pos) (js i j) :=
 nB (qc hc (cH (dm hN hi hx hf) (cH (dm hN hj hy hf') ml))) fun v σ H Q ⟨HF,ρ,d,ρ',S,r,hf,q⟩=>by
  unfold js at hf
  split at hf
  ·cases hf
   simp only[Rep] at r
   obtain⟨a,vs,rfl,hs,rr⟩:=r
   obtain⟨v1,r1,rfl,a1,b1⟩:=rr.cons_inv
   obtain⟨v2,r2,rfl,a2,b2⟩:=b1.cons_inv
   rw[b2.nil_inv] at hs
   exact⟨a,_,rfl,aB S.gr.fh hs,rfl,v1,_,rfl,v2,_,rfl,rfl,q _ ((S.setV a1).setV a2)⟩
  ·cases hf
noncomputable def dc(tgt:ak->D->Option ak)(gb:ak->Option Out):List D->ak->Option Out
 | [],ρ=>some (.nx ρ)
 | d::ds,ρ=>(tgt ρ d).bind fun ρ1=>(gb ρ1).bind fun|.nx ρ2=>dc tgt gb ds ρ2|.rt v=>some (.rt v)
noncomputable def fH(fz:List Nat)(fi:Env->Option (List D))(tgt:ak->D->Option ak)(gb:ak->Option Out):ak->Option Out:=fun ρ=>(fi (cn (hand fz 0 ρ))).bind fun ds=>dc tgt gb ds (hand fz 0 ρ)
theorem L3(fz:List Nat){tg iter:Expr}{body:List Stmt}{fi:Env->Option (List D)}{tgt:ak->D->Option ak}{gb:ak->Option Out}(hp:PassesOwn (model X.prog X.w) X.A X.env X.xe)(hc:X.calm=true)(hi:DI X tg iter fi)(hg:Ny X HF₀ H₀ tg tgt)(hb:Do X HF₀ H₀ body gb)
  (hs:∀x,foldedSetIterable iter X.env x=pure x:=by intro _;rfl):DS X HF₀ H₀ (.For tg iter body [] pos) (fH fz fi tgt gb):=eC (K7 hp hc hi hg hb hs) fun E σ H ⟨HF,ρ,o,S,hg,q⟩=>by
 obtain⟨ds,h,hg⟩:=bs hg
 obtain⟨HF1,s1,S1⟩:=S.hand fz
 refine⟨HF1,_,ds,S1.gr.fh,S1.frz,h,fun J H2 HF2 G it=>?_⟩
 refine⟨fun i m σ' H'=>m+i=ds.length/\∃HF' ρ',jJ X.K HF₀ H₀ HF' H' ρ' σ'/\aZ HF2 HF'/\dc tgt gb (ds.drop i) ρ'=some o,⟨ds.length,rfl,HF2,_,S1.grow G,.refl _,hg⟩,?_⟩
 rintro i m σ' H' ⟨hm,HF',ρ',S',s',hf⟩
 by_cases hi:i < ds.length
 ·refine .inr ?_
  have hd:ds.drop i=ds[i]::ds.drop (i+1):=List.drop_eq_getElem_cons hi
  have he:ds[i]?=some ds[i]:=zU.mpr ⟨hi,rfl⟩
  generalize ds[i]=d at hd he
  rw[hd] at hf
  unfold dc at hf
  obtain⟨ρ1,h1,hf⟩:=bs hf
  obtain⟨o1,h2,hf⟩:=bs hf
  obtain⟨go,yld⟩:=it.go i d H' HF' he s' S'.gr.fh
  refine⟨go,fun σ2 H3=>∃HF3 ρ3,jJ X.K HF₀ H₀ HF3 H3 ρ3 σ2/\aZ HF2 HF3/\dc tgt gb (ds.drop (i+1)) ρ3=some o,fun σ2 H3 ⟨HF3,ρ3,a1,a2,a3⟩=>⟨m - 1,by omega,by omega,HF3,ρ3,a1,a2,a3⟩,fun x H3 y=>?_⟩
  obtain⟨HF3,G3,rx⟩:=yld x H3 y
  refine⟨HF3,ρ',d,ρ1,S'.grow G3,rx,h1,fun σ2 S2=>⟨HF3,ρ1,o1,S2,h2,?_⟩⟩
  cases o1 with
  | nx ρ2=>exact fun σ4 H4 HF4 S4 s4=>⟨HF4,ρ2,S4,(s'.trans G3.ff).trans s4,hf⟩
  | rt d=>cases hf;exact q
 ·have hi':i=ds.length:=by omega
  subst hi'
  rw[List.drop_length] at hf
  cases hf
  exact .inl ⟨it.stop H' HF' s' S'.gr.fh,q σ' H' HF' S' ((s1.trans G.ff).trans s')⟩
end
def Oy(X:Cx)(sc:Scope):Prop:=∀x k,sc.names.lookup x=some k->X.env.kindOf x=some k\/(k=.free/\X.env.kindOf x=some .cell)
structure Bk(X:Cx)(N:List Str)(sc:Scope)(k:Nat):Prop where
 n:X.N=N
 nd:N.Nodup
 tb:Oy X sc
 calm:X.calm=true
 fn:∀x,sc.names.lookup x=some .cell->X.fn x=true
 room:eP k X.A
 xe:X.xe=fun _ _=>False
 kd:X.env.scope.kind=.function
def cY:List Str:=["len","isinstance","int","bool","tuple","list","range","all","any","set","sorted","enumerate","zip","sum","min","max","reversed"]
def Bn(X:Cx):Prop:=∀x∈cY,X.mg x=none
noncomputable def AC(sc:Scope)(x:Str):Bool:=decide (sc.names.lookup x=some .globalImplicit)
noncomputable def B2(N:List Str)(sc:Scope)(i:Nat)(x:Str):Bool:=decide (N[i]?=some x)&&(decide (sc.names.lookup x=some .local)||decide (sc.names.lookup x=some .cell)||decide (sc.names.lookup x=some .free))&&!(x == ("__debug__":Str))&&!(x == ("__classdict__":Str))
noncomputable def qE(N:List Str)(sc:Scope)(i:Nat)(x:Str):Bool:=decide (N[i]?=some x)&&(decide (sc.names.lookup x=some .local)||decide (sc.names.lookup x=some .cell))
section
variable {X:Cx}{N:List Str}{sc:Scope}{k:Nat}
theorem Bk.gl(C:Bk X N sc k){x:Str}(h:AC sc x=true):Gl X x:=by
 rcases C.tb x _ (of_decide_eq_true h) with q|⟨q,_⟩
 ·exact q
 ·cases q
theorem Bk.vis(C:Bk X N sc k){i:Nat}{x:Str}(h:B2 N sc i x=true):X.N[i]?=some x/\GT X.env.scope x/\(x == ("__debug__":Str))=false/\(x == ("__classdict__":Str))=false:=by
 unfold B2 at h
 simp only[zF,Bool.or_eq_true,zJ,Bool.not_eq_true'] at h
 obtain⟨⟨⟨h1,h2⟩,h3⟩,h4⟩:=h
 refine⟨by rw[C.n];exact h1,?_,h3,h4⟩
 rcases h2 with (h2|h2)|h2
 ·rcases C.tb x _ h2 with q|⟨q,_⟩
  ·exact .inl q
  ·cases q
 ·rcases C.tb x _ h2 with q|⟨q,_⟩
  ·exact .inr (.inl q)
  ·cases q
 ·rcases C.tb x _ h2 with q|⟨_,q⟩
  ·exact .inr (.inr q)
  ·exact .inr (.inl q)
theorem Bk.loc(C:Bk X N sc k){i:Nat}{x:Str}(h:qE N sc i x=true):X.N.Nodup/\X.N[i]?=some x/\Loc X.env.scope x/\(X.fn x=true\/X.env.scope.names.lookup x=some .local):=by
 unfold qE at h
 simp only[zF,Bool.or_eq_true,zJ] at h
 obtain⟨h1,h2⟩:=h
 refine⟨by rw[C.n];exact C.nd,by rw[C.n];exact h1,?_⟩
 rcases h2 with h2|h2
 ·rcases C.tb x _ h2 with q|⟨q,_⟩
  ·exact⟨.inl q,.inr q⟩
  ·cases q
 ·rcases C.tb x _ h2 with q|⟨q,_⟩
  ·exact⟨.inr q,.inl (C.fn x h2)⟩
  ·cases q
theorem Bk.blt(C:Bk X N sc k)(B:Bn X){x:Str}{v:Value}(h:AC sc x=true)(hm:x∈cY)(hv:bootBuiltins x=some v):nU X x v:=⟨C.gl h,B x hm,hv⟩
theorem Bk.v(C:Bk X N sc k)(i:Nat){x:Str}{pos:Pos}(h:B2 N sc i x=true):DE X (.Name x pos) (ab i):=let ⟨a,b,c,d⟩:=C.vis h;LO i a b c d
theorem Bk.pass(C:Bk X N sc k):PassesOwn (model X.prog X.w) X.A X.env X.xe:=by rw[C.xe];exact PassesOwn.never
noncomputable def ji(sc scope:Scope)(N N':List Str)(t:Nat)(cs:List Nat):Bool :=
 decide (scope.kind=.function)&&scope.names.all (fun p=>(!decide (p.2=NameKind.free)||decide (sc.names.lookup p.1=some .cell)||decide (sc.names.lookup p.1=some .free))&&(!decide (p.2=NameKind.local)||decide (scope.names.lookup p.1=some .local)))
  &&scope.names.all (fun p=>!decide (p.2=NameKind.cell)||!scope.names.any fun q=>decide (q.1=p.1)&&decide (q.2=NameKind.free))
  &&decide (N'.length=t+cs.length)&&decide (N'.drop t=cs.filterMap fun j=>N[j]?)&&cs.all (fun j=>decide (j < N.length))&&(N'.drop t).all (fun x=>decide (scope.names.lookup x=some .free))&&decide N'.Nodup
theorem filterMap_get{α:Type}(N:List α):∀ (cs:List Nat),(∀j∈cs,j < N.length)->∀ (i:Nat),(cs.filterMap fun j=>N[j]?)[i]?=(cs[i]?).bind fun j=>N[j]?
 | [],_,i=>by simp
 | c::cs,h,i=>by
  have hc:=h c zE
  rw[List.filterMap_cons,zK hc]
  cases i with
  | zero=>simp[hc]
  | succ i =>
   simp only[List.getElem?_cons_succ]
   exact filterMap_get N cs (fun j hj=>h j (zC _ hj)) i
theorem Bk.comp(C:Bk X N sc k){scope:Scope}{N':List Str}{t:Nat}{cs:List Nat}(h:ji sc scope N N' t cs=true):i6 X scope N' (j8 t cs)/\∀fp s H,Bk (aY X scope N' fp s H) N' scope k:=by
 unfold ji at h
 simp only[zF,zJ,List.all_eq_true,Bool.or_eq_true,Bool.not_eq_true',decide_eq_false_iff_not] at h
 obtain⟨⟨⟨⟨⟨⟨⟨h1,h2⟩,h3⟩,h4⟩,h5⟩,h6⟩,h7⟩,h8⟩:=h
 refine⟨⟨h1,fun x hx hk=>?_,fun {x} a b=>?_,fun x hx hk=>?_,fun σ i x v e1 e2=>?_,fun σ=>?_⟩,fun fp s H=>⟨rfl,h8,fun x k hx=>nv hx,C.calm,fun x hx=>yB hx,C.room,rfl,h1⟩⟩
 ·rcases (h2 x hx).1 with (q|q)|q
  ·exact absurd hk q
  ·rcases C.tb _ _ q with z|⟨z,_⟩
   ·exact .inl z
   ·cases z
  ·rcases C.tb _ _ q with z|⟨_,z⟩
   ·exact .inr z
   ·exact .inl z
 ·rcases h3 _ a with q|q
  ·exact q rfl
  ·have:(scope.names.any fun q=>decide (q.1=x)&&decide (q.2=NameKind.free))=true:=List.any_eq_true.mpr ⟨_,b,by simp⟩
   rw[this] at q
   cases q
 ·rcases (h2 x hx).2 with q|q
  ·exact absurd hk q
  ·exact q
 ·unfold j8 at e2
  by_cases hi:i < t
  ·rw[List.getElem?_append_left (by simpa using hi),List.getElem?_replicate,if_pos hi] at e2
   cases e2
  ·rw[List.getElem?_append_right (by simpa using hi),zO,List.length_replicate] at e2
   obtain⟨j,hj,e2⟩:=ag e2
   have e3:(N'.drop t)[i - t]?=some x:=by rw[List.getElem?_drop];rw[show t+(i - t)=i by omega];exact e1
   refine⟨h7 x (List.mem_of_getElem? e3),j,?_,?_⟩
   ·rw[h5,filterMap_get N cs h6,hj] at e3
    rw[C.n];exact e3
   ·cases e:σ[j]? with
    | none=>rw[e] at e2;cases e2
    | some o=>rw[e] at e2;have e2:o=some v:=e2;rw[e2]
 ·unfold j8
  rw[zN,List.length_replicate,zD,h4]
noncomputable def bb(g:ak->Option Out)(n:Nat)(args:List D):Option D:=(g (args.map Slot.val++List.replicate (n - args.length) .non)).map fun|.rt d=>d|.nx _=>.none
theorem Jt{P:Program}{w:World}{K:W.Frag}{mg:Str->Option Value}{base:Heap}{x qual:Str}{st:Stmt}{f:Addr}{fd:FuncData}{ps:List Str}{g:ak->Option Out}(F:He K x qual st f fd)(S:fX N ps (aN st))
  (body:∀X:Cx,X.prog=P->X.w=w->X.K=K->X.mg=mg->X.base=base->Bk X N (aN st) k->X.env.code=fd.code->X.env.qual=qual++".<locals>."->∀HF₀ H₀,Do X HF₀ H₀ (cC st) g):qs P w K mg base Ml (k+1) f fd ps (Nv K ps.length (bb g N.length)):=by
 obtain⟨oc,od,kV,doc,pm,an,cdv,ct,osl,rfl,lk,hcd⟩:=F.ex
 refine M0 lk hcd S (fun vs H Q E ⟨HF,ds,d,h1,_,h2,h3,_⟩=>by rw[h2.length,h3]) fun A outer s H vs Q E hr ⟨HF,ds,d,sm,tb,rr,hl,hd,q⟩=>?_
 refine⟨_,(body (B6 Ml P w K mg base N qual (aN st) f cdv A outer s H E).nox rfl rfl rfl rfl rfl ⟨rfl,S.nd,fun y kd hy=>.inl hy,rfl,fun _ _=>rfl,hr,rfl,S.kind⟩ rfl rfl HF H).nox,?_⟩
 unfold bb at hd
 obtain⟨o,ho,hd⟩:=ag hd
 have hpl:ps.length<=N.length:=by have:=congrArg List.length S.pre;rw[List.length_take] at this;omega
 refine⟨HF,_,o,⟨.refl sm,fun i e h=>?_,fun i es h=>?_,fun i j es fs a h=>?_,?_,tb⟩,ho,?_⟩
 ·have hi:i < ds.length:=by
   by_cases hi:i < ds.length
   ·exact hi
   ·rw[List.getElem?_append_right (by simpa using hi),List.getElem?_replicate] at h
    split at h<;>cases h
  rw[List.getElem?_append_left (by simpa using hi),zO] at h
  obtain⟨d',hd',h⟩:=ag h
  cases h
  obtain⟨v,hv,rv⟩:=rr.getD hd'
  refine⟨v,?_,rv⟩
  unfold L2.start
  rw[List.getElem?_append_left (by simpa [rr.length] using hi),zO,hv]
  rfl
 ·exfalso
  by_cases hi:i < ds.length
  ·rw[List.getElem?_append_left (by simpa using hi),zO] at h
   obtain⟨d',hd',h⟩:=ag h
   cases h
  ·rw[List.getElem?_append_right (by simpa using hi),List.getElem?_replicate] at h
   split at h<;>cases h
 ·exfalso
  by_cases hi:i < ds.length
  ·rw[List.getElem?_append_left (by simpa using hi),zO] at h
   obtain⟨d',hd',h⟩:=ag h
   cases h
  ·rw[List.getElem?_append_right (by simpa using hi),List.getElem?_replicate] at h
   split at h<;>cases h
 ·unfold L2.start
  rw[zN,zN,zD,zD,List.length_replicate,List.length_replicate,rr.length]
  exact Nat.le_refl _
 ·cases o with
  | rt d'=>cases hd;exact fun v H' HF' G r=>q v H' HF' G r
  | nx ρ'=>cases hd;exact fun σ' H' HF' S' _=>q .non H' HF' S'.gr (by simp[Rep])
theorem OX{P:Program}{w:World}{K:W.Frag}{mg:Str->Option Value}{base:Heap}{x qual:Str}{st:Stmt}{f:Addr}{fd:FuncData}{ps:List Str}{g:ak->Option Out}(F:He K x qual st f fd)(S:fX N ps (aN st))(hb:Binds K fd ps [])(hm:mg x=some (.ref f))
  (body:∀X:Cx,X.prog=P->X.w=w->X.K=K->X.mg=mg->X.base=base->Bk X N (aN st) k->X.env.code=fd.code->X.env.qual=qual++".<locals>."->∀HF₀ H₀,Do X HF₀ H₀ (cC st) g):dw P w K mg base (k+1) x ps.length (bb g N.length):=⟨f,fd,ps,Jt F S body,hm,F.kp,hb⟩
end
section
variable {X:Cx}{HF₀ H₀:Hp}{e e2:Expr}{pos apos cpos px:Pos}{x:Str}
noncomputable def lh(fz:List Nat)(f:Env->Option D)(ρ:ak):Option (D×ak):=(f (bg ρ)).bind fun d=>if oJ d=true then some (d,ρ) else (f (cn (hand fz 0 ρ))).map fun d'=>(d',hand fz 0 ρ)
theorem mR{K:W.Frag}{HF H:Hp}{ρ ρ':ak}{σ:L2.St}{fz:List Nat}{f:Env->Option D}{d:D}(S:jJ K HF₀ H₀ HF H ρ σ)(h:lh fz f ρ=some (d,ρ')){Q:VK}
  (q:∀v H' HF',aZ HF HF'->jJ K HF₀ H₀ HF' H' ρ' σ->aZ H H'->Rep K HF' d v->Q v H'):tD K f σ H Q:=by
 obtain⟨d1,h1,h⟩:=bs h
 split at h
 ·rename_i hs
  cases h
  exact⟨H,bg ρ,d,.refl _,S.all,h1,fun v H' HF' G r=>q v H' HF (.refl _) (S.step G.hh) G.hh (ym hs r)⟩
 ·obtain⟨d2,h2,h⟩:=ag h
  cases h
  obtain⟨HF1,s1,S1⟩:=S.hand fz
  exact⟨HF1,_,d,S1.gr.fh,S1.frz,h2,fun v H' HF' G r=>q v H' HF' (s1.trans G.ff) (S1.grow G) G.hh r⟩
noncomputable def nI(i:Nat)(m:List D->Option (List D))(ρ:ak):Option Out:=match ρ[i]? with
 | some (.own ds)=>(m ds).map fun es=>.nx (ρ.set i (.own es))
 | _=>none
theorem kG{i:Nat}{m:List D->Option (List D)}{ρ:ak}{o:Out}(h:nI i m ρ=some o):∃ds es,ρ[i]?=some (.own ds)/\m ds=some es/\o=.nx (ρ.set i (.own es)):=by
 unfold nI at h
 split at h
 ·rename_i ds hd
  obtain⟨es,h1,h2⟩:=ag h
  exact⟨ds,es,hd,h1,h2.symm⟩
 ·cases h
theorem jJ.mut{K:W.Frag}{HF H:Hp}{ρ:ak}{σ:L2.St}(S:jJ K HF₀ H₀ HF H ρ σ){i:Nat}{ds es:List D}{a:Addr}{vs us:List V}(h:ρ[i]?=some (.own ds))(ha:σ[i]?=some (some (.ref a)))(hH:H a=some (.lst vs))(r:au K HF es us) :
  jJ K HF₀ H₀ HF (upd H a (.lst us)) (ρ.set i (.own es)) σ:=by
 obtain⟨a',vs',e1,e2,e3,e5,e4⟩:=S.own i ds h
 rw[ha] at e1;cases e1
 have hl:i < ρ.length:=(zU.mp h).1
 have gr:cy HF₀ H₀ HF (upd H a (.lst us)):=⟨fun b o e=>by rw[aE (aQ e e5)];exact S.gr.hh b o e,S.gr.ff,fun b o e=>by rw[aE (aQ e e3)];exact S.gr.fh b o e,S.gr.nw⟩
 refine⟨gr,fun j d hj=>?_,fun j xs hj=>?_,fun j k xs ys b f1 f2 f3 f4=>?_,by rw[yD];exact S.len,S.tb⟩
 ·rw[List.getElem?_set] at hj
  by_cases hij:i=j
  ·rw[if_pos hij] at hj
   split at hj<;>cases hj
  ·rw[if_neg hij] at hj;exact S.val j d hj
 ·rw[List.getElem?_set] at hj
  by_cases hij:i=j
  ·subst hij
   rw[if_pos rfl,if_pos hl] at hj
   cases hj
   exact⟨a,us,ha,aL,e3,e5,r⟩
  ·rw[if_neg hij] at hj
   obtain⟨b,ws,f1,f2,f3,f5,f4⟩:=S.own j xs hj
   refine⟨b,ws,f1,?_,f3,f5,f4⟩
   rw[aE]
   ·exact f2
   ·rintro rfl
    exact hij (S.inj i j ds xs b h hj ha f1)
 ·have old:∀ {j:Nat}{xs:List D},(ρ.set i (.own es))[j]?=some (.own xs)->∃ys,ρ[j]?=some (.own ys):=fun {j xs} hj=>by
   rw[List.getElem?_set] at hj
   by_cases hij:i=j
   ·subst hij;exact⟨ds,h⟩
   ·rw[if_neg hij] at hj;exact⟨xs,hj⟩
  obtain⟨xs',g1⟩:=old f1
  obtain⟨ys',g2⟩:=old f2
  exact S.inj j k xs' ys' b g1 g2 f3 f4
noncomputable def jI(i:Nat)(fz:List Nat)(f:Env->Option D):ak->Option Out:=fun ρ=>(lh fz f ρ).bind fun p=>nI i (fun ds=>if ds.length < sizeLine then some (ds++[p.1]) else none) p.2
theorem BV(i:Nat)(fz:List Nat){f:Env->Option D}(hN:X.N[i]?=some x)(hv:GT X.env.scope x)(h:DE X e f)(hd:(x == ("__debug__":Str))=false:=by decide)(hcd:(x == ("__classdict__":Str))=false:=by decide)
  (hfew:((backTo cpos (starEach [e] X.env)).all (fun x=>!x.1)&&(backToKw cpos (keywordEach [] X.env)).all (fun x=>x.1.isSome)&&decide ([e].length+([]:List Keyword).length+(if ([]:List Keyword).isEmpty then 0 else 1) < 30))=true:=by rfl)
  (hline:(apos.endLine == cpos.line)=true:=by rfl) (hs:starEach [e] X.env=(false,eval e X.env)::starEach [] X.env:=by rfl) :
  DS X HF₀ H₀ (.Expr (.Call (.Attribute (.Name x px) "append" apos) [e] [] cpos) pos) (jI i fz f) :=
 eC (o8 (sF PySem.F.plainAttrs_list PySem.F.slot_list_append PySem.F.type_list_append sS (m9 hN hv hd hcd) (dE h ip hs) rfl hfew hline hs rfl)) fun E σ H ⟨HF,ρ,o,S,hg,q⟩=>by
  obtain⟨⟨d,ρ'⟩,h1,hg⟩:=bs hg
  obtain⟨ds,es,h2,h3,rfl⟩:=kG hg
  have hown:∃ds',ρ[i]?=some (.own ds'):=by
   obtain⟨d1,_,h1⟩:=bs h1
   split at h1
   ·cases h1;exact⟨ds,h2⟩
   ·obtain⟨d2,_,h1⟩:=ag h1
    cases h1
    rw[iE] at h2
    obtain⟨s,hs,h2⟩:=ag h2
    cases s with
    | non=>split at h2<;>cases h2
    | val _=>split at h2<;>cases h2
    | own xs=>exact⟨xs,hs⟩
  obtain⟨ds',hown⟩:=hown
  obtain⟨a,vs,e1,e2,e3,e5,e4⟩:=S.own i ds' hown
  refine⟨.ref a,e1,.inl ⟨rfl,vs,iV.of e2⟩,mR S h1 fun v H' HF' s1 S' sh r=>?_⟩
  obtain⟨a',vs',f1,f2,f3,f5,f4⟩:=S'.own i ds h2
  rw[e1] at f1;cases f1
  split at h3
  ·rename_i hz
   cases h3
   exact⟨a,vs',v,rfl,rfl,f2,by rw[f4.length];exact hz,q σ _ HF' (S'.mut h2 e1 f2 (f4.append (au.cons r au.nil))) s1⟩
  ·cases h3
end
noncomputable def uC(K:W.Frag)(o:Obj):Option (Addr×Str):=match o.data with
 | .func fd=>if ki.contains fd.qualname=true then (match fd.code with
   | .ref c=>(match K.lookup c with
    | some ⟨_,_,.fields vs,_⟩=>(match (vs[11]?:Option Value) with
     | some (.ref P)=>if W.codeHdIn K c P=true then some (P,fd.qualname++".<locals>."++"<lambda>") else none
     | _=>none)
    | _=>none)
   | _=>none) else none
 | _=>none
noncomputable def hV(K:W.Frag):List (Addr×Str):=K.filterMap fun p=>uC K p.2
noncomputable def mD(K:W.Frag)(ts:List Addr):Bool:=(hV K).all fun p=>ts.contains p.1&&(K.lookup p.1).isNone&&decide ((hV K).lookup p.1=some p.2)
theorem xV{K:W.Frag}{o:Obj}{P:Addr}{q:Str}(h:uC K o=some (P,q)):∃c,W.codeHdIn K c P=true:=by
 unfold uC at h
 split at h
 ·split at h
  ·split at h
   ·split at h
    ·split at h
     ·split at h
      ·cases h;exact⟨_,‹_›⟩
      ·cases h
     ·cases h
    ·cases h
   ·cases h
  ·cases h
 ·cases h
theorem xX{K:W.Frag}{P:Addr}{q:Str}(h:(P,q)∈hV K):∃c,W.codeHdIn K c P=true:=by
 obtain⟨p,_,e⟩:=List.mem_filterMap.mp h
 exact xV e
theorem zp{K:W.Frag}{f c P:Addr}{oc:Value}{od:Option Addr}{fd:FuncData}{sl:Array (Option Value)}(a:K.lookup f=some ⟨oc,od,.func fd,sl⟩)(b:fd.qualname∈ki)(d:fd.code=.ref c)(e:W.codeHdIn K c P=true) :
  (P,fd.qualname++".<locals>."++"<lambda>")∈hV K:=by
 refine List.mem_filterMap.mpr ⟨(f,_),W.mem_of_lookupK a,?_⟩
 have e':=e
 unfold W.codeHdIn at e'
 unfold uC
 simp only[d,List.contains_iff_mem,b,if_true]
 split at e'
 ·rename_i vs sl' hl
  simp only[hl]
  simp only[zF] at e'
  have e1:=e'.1.1.1.1.1
  split at e1
  ·rename_i P' hv
   have:P'=P:=by simpa using e1
   subst this
   simp only[hv,e,if_true]
  ·cases e1
 ·cases e'
theorem Fc{α:Type}{b:Addr}{q:α}:∀ {l:List (Addr×α)},l.lookup b=some q->(b,q)∈l
 | [],e=>by cases e
 | (c,x)::r,e=>by
  rw[yC] at e
  cases h:b == c with
  | true=>rw[h] at e;cases e;rw[eq_of_beq h];exact zE
  | false=>rw[h] at e;exact zC _ (Fc e)
noncomputable def ft(K:W.Frag)(h0:Hp):Hp:=fun b=>match (hV K).lookup b with|some q=>some (.tab q)|none=>h0 b
theorem C9{K:W.Frag}{ts:List Addr}{h0:Hp}(h:mD K ts=true):gy K (ft K h0):=fun f oc od fd sl c P a b d e=>by
 have hm:=zp a b d e
 have:=List.all_eq_true.mp h _ hm
 simp only[zF,zJ] at this
 unfold ft
 rw[this.2]
theorem BP{P:Program}{w:World}{K:W.Frag}{mg mb:Str->Option Value}{CX:Dp}{k:Nat}{fa a:Addr}{fd:FuncData}{x:Str}{sp:Sp}{s₁:Shared}{vs:List Value}{ns:List Int}{ts:List Addr}
  (KX:K.In s₁.heap) (hns:s₁.heap.Ns mainGlobals mg) (hb:s₁.heap.Ns builtinsNs mb) (hbb:∀x:Str,x≠"__name__"->mb x=bootBuiltins x) (hlim:s₁.heap.NoLimit) (hbm:NL mg s₁.heap) (hg:s₁.gens=#[])
  (ht:mD K ts=true) (hts:∀P∈ts,s₁.heap.get? P=some (W.tabObj #[]))
  (ha:s₁.heap.get? a=some { cls:=.type "list",data:=.seq vs.toArray }) (hi:IntsAre vs ns) (hl:ns.length<=sizeLine) (hr:eP k callerA)
  (F:∀base:Heap,K.In base->base.Ns mainGlobals mg->qs P w K mg base CX k fa fd [x] sp) (hbind:∀ (s:Shared) (u:Value),BindsTo s fd ⟨[u],[]⟩ [(x,u)])
  (hsp:∀H:Hp,gy K H->iV K H a (ns.map V.int)->sp [.ref a] H (fun v _=>v=.bl true) fun _ _ _=>False)
  (hCX:∀H e s',CX [] H s₁ (fun _ _ _=>False) e s'->False) :
  codeAny (model P w) callerA (.call (.ref fa) ⟨[.ref a],[]⟩) (fun r s'=>r=.ok (.ret (.bool true))/\OldK s₁.heap s'.heap/\s'.os=s₁.os/\AllBare s'.gens) s₁:=by
 have rv:=sO hi
 have lenV:=hi.length
 have tabAt:∀b q,(hV K).lookup b=some q->s₁.heap.get? b=some (W.tabObj #[])/\K.lookup b=none/\∃c,W.CodeHd s₁.heap c b:=fun b q e=>by
  have hm:=Fc e
  have:=List.all_eq_true.mp ht _ hm
  simp only[zF,zJ,List.contains_iff_mem,Option.isNone_iff_eq_none] at this
  obtain⟨c,hc⟩:=xX hm
  exact⟨hts b this.1.1,this.1.2,c,W.codeHd_of_K KX hc⟩
 have aT:(hV K).lookup a=none:=by
  cases e:(hV K).lookup a with
  | none=>rfl
  | some q=>have:=(tabAt a q e).1;rw[ha] at this;cases this
 have core:∀h0:Hp,iV K (ft K h0) a (ns.map V.int)->pe P w (ft K h0) s₁.heap->(∀b,h0 b≠none->b=a)->(h0 a≠none->K.lookup a=none)->(∀b,h0 b=none\/∃o xs,h0 b=some (.frz o (.lst xs))) ->
   codeAny (model P w) callerA (.call (.ref fa) ⟨[.ref a],[]⟩) (fun r s'=>r=.ok (.ret (.bool true))/\OldK s₁.heap s'.heap/\s'.os=s₁.os/\AllBare s'.gens) s₁:=by
  intro h0 hS hok hA hK hO
  have look:∀b u,ft K h0 b=some u->(∃q,(hV K).lookup b=some q/\u=.tab q)\/(b=a/\h0 b=some u):=fun b u e=>by
   unfold ft at e
   split at e
   ·rename_i q hq;cases e;exact .inl ⟨q,hq,rfl⟩
   ·exact .inr ⟨hA b (by rw[e];simp),e⟩
  have kF:∀ {b:Addr}{o:Obj},s₁.heap.get? b=some o->ft K h0 b=none->(ub s₁.heap (ft K h0)).get? b=some o:=fun e n=>EW e n
  have noA:∀ {b:Addr}{o:Obj},s₁.heap.get? b=some o->(∀vs n,o.data≠.seq vs n)->(∀vs,o.data≠.fields vs)->ft K h0 b=none:=fun {b o} e d d2=>by
   cases q:ft K h0 b with
   | none=>rfl
   | some u =>
    rcases look b u q with ⟨q',z,_⟩|⟨z,_⟩
    ·rw[(tabAt b q' z).1] at e;cases e;exact absurd rfl (d2 _)
    ·subst z;rw[ha] at e;cases e;exact absurd rfl (d _ _)
  have nsK:∀ {b:Addr}{m:Str->Option Value},s₁.heap.Ns b m->(ub s₁.heap (ft K h0)).Ns b m:=fun {b m} ⟨o,es,ep,e,d,r⟩=>⟨o,es,ep,kF e (noA e (fun _ _ z=>by rw[d] at z;cases z) fun _ z=>by rw[d] at z;cases z),d,r⟩
  have hKb:K.In (ub s₁.heap (ft K h0)):=fun b o e=>kF (KX b o e) (by
   cases q:ft K h0 b with
   | none=>rfl
   | some u =>
    rcases look b u q with ⟨q',z,_⟩|⟨z,z2⟩
    ·rw[(tabAt b q' z).2.1] at e;cases e
    ·subst z;rw[hK (by rw[z2];simp)] at e;cases e)
  have hM:Mod K mg (ub s₁.heap (ft K h0)):=⟨hKb,nsK hns,⟨mb,nsK hb,hbb⟩,let ⟨mc,h1,h2⟩:=hlim;⟨mc,nsK h1,h2⟩,
   let ⟨bm,o,b1,b2,b3,b4,b5,b6,b7⟩:=hbm;⟨bm,o,b1,b2,b3,kF b4 (noA b4 (fun _ _ z=>by rw[b7] at z;cases z) fun _ z=>by rw[b7] at z;cases z),b5,b6,b7⟩⟩
  have e0:Hj P w K mg (ub s₁.heap (ft K h0)) callerA [] s₁ (ft K h0):=⟨rfl,hM,fun b o e=>HZ e,Nat.le_of_eq (Cs _ _),trivial,fun b hb=>absurd (show b∈([]:List Addr) from hb) (by simp),hok,.of_eq hg⟩
  refine codeAny_mono ((F _ hKb (nsK hns)).run callerA [] s₁ (ft K h0) ⟨[.ref a],[]⟩ [.ref a] [.ref a] _ _ hr e0 (hbind s₁ (.ref a)) (.cons rfl .nil) (hsp _ (C9 ht) hS)) fun r s' h=>?_
  cases r with
  | error e=>exact (hCX _ e s' h).elim
  | ok fl =>
   cases fl with
   | next=>exact False.elim h
   | brk=>exact False.elim h
   | cont=>exact False.elim h
   | ret u =>
    obtain⟨v,H',os,bare,un,hok',r',q⟩:=h
    have q':v=.bl true:=q
    subst q'
    obtain rfl:u=Value.bool true:=r'
    have key:∀b o,s₁.heap.get? b=some o->s'.heap.get? b=some o\/(isCodeTable s₁.heap b/\o=W.tabObj #[]/\∃ps,s'.heap.get? b=some (W.tabObj ps)):=fun b o e=>by
     cases q:ft K h0 b with
     | none=>exact .inl (un.keep b o e q (by intro z;exact absurd (show b∈([]:List Addr) from z) (by simp)) (by simp))
     | some u =>
      rcases look b u q with ⟨q',z,rfl⟩|⟨z,z2⟩
      ·obtain⟨t1,_,c,t3⟩:=tabAt b q' z
       obtain⟨more,m1⟩:=un.tbls.gr b q' #[] q t1
       rw[e] at t1
       cases t1
       exact .inr ⟨(t3.tab e).isCodeTable,rfl,_,m1⟩
      ·rcases hO b with z3|⟨ob,xs,z3⟩
       ·rw[z2] at z3;cases z3
       ·rw[z2] at z3
        cases z3
        have z4:=un.frzs b ob _ q
        obtain⟨e1,_⟩:=hok b _ q
        obtain⟨e2,_⟩:=hok' b _ z4
        rw[e] at e1;cases e1
        exact .inl e2
    refine⟨rfl,⟨fun b o e=>?_,fun b o e=>?_⟩,os,bare⟩
    ·rcases key b o e with z|⟨t,rfl,ps,z⟩
     ·exact .inl z
     ·exact .inr (.inl ⟨t,rfl,#[],ps,rfl,by rw[Array.empty_append];exact z⟩)
    ·rcases key b o e with z|⟨_,_,ps,z⟩
     ·exact⟨o,z⟩
     ·exact⟨_,z⟩
 have hoT:∀ (h0:Hp) b q,(hV K).lookup b=some q->e9 P w (ft K h0) s₁.heap b (.tab q):=fun h0 b q e=>⟨#[],(tabAt b q e).1,trivial,fun pos v z=>by cases z⟩
 cases hk:K.lookup a with
 | some o =>
  have e:=KX a o hk
  rw[ha] at e
  cases e
  refine core (fun _=>none) (.inr ⟨_,vs.toArray,_,hk,rfl,rfl,rfl,by rw[zH,lenV];exact hl,by simpa using rv⟩) (fun b u z=>?_) (fun b z=>absurd rfl z) (fun z=>absurd rfl z) fun _=>.inl rfl
  unfold ft at z
  split at z
  ·rename_i q hq;cases z;exact hoT _ b q hq
  ·cases z
 | none =>
  refine core (fun b=>if b=a then some (.frz { cls:=.type "list",data:=.seq vs.toArray } (.lst (ns.map V.int))) else none) (.inl (.inr ⟨{ cls:=.type "list",data:=.seq vs.toArray },?_⟩)) (fun b u z=>?_) (fun b z=>?_) (fun _=>hk) fun b=>?_
  ·unfold ft;rw[aT];exact if_pos rfl
  ·unfold ft at z
   split at z
   ·rename_i q hq;cases z;exact hoT _ b q hq
   ·by_cases hb:b=a
    ·replace z:=(if_pos hb).symm.trans z
     cases z
     subst hb
     exact⟨ha,by rw[zD];exact hl,vs,_,rv,ha⟩
    ·replace z:=(if_neg hb).symm.trans z;cases z
  ·by_cases hb:b=a
   ·exact hb
   ·exact absurd (if_neg hb) z
  ·by_cases hb:b=a
   ·exact .inr ⟨_,_,if_pos hb⟩
   ·exact .inl (if_neg hb)
theorem D6{l:W.OpenLaw}{n k:Nat}{q:Program}{loose:List Str}{XP:(Str->Option Value)->Heap->Prop}{YP:World->Heap->Prop}{d:DefRec}{K:Params->W.Frag}{CX:World->Dp}{sp:World->Sp}{x:Str}{ts:List Addr}
  (hn:l.most=some n) (hn2:n<=sizeLine) (hdf:d.params.defaults=[]) (hr:eP k callerA)
  (hY:∀ (w:World) (h:Heap),YP w h->(K w.params).In h/\∀P∈ts,h.get? P=some (W.tabObj #[])) (ht:∀w:World,mD (K w.params) ts=true)
  (F:∀ (w:World) (mg:Str->Option Value) (fa:Addr) (h:Heap),(K w.params).In h->h.Ns mainGlobals mg->mg d.name=some (.ref fa) ->
   ∃fd:FuncData,(∀ (s:Shared) (u:Value),BindsTo s fd ⟨[u],[]⟩ [(x,u)]) /\
    ∀base:Heap,(K w.params).In base->base.Ns mainGlobals mg->qs l.prog w (K w.params) mg base (CX w) k fa fd [x] (sp w))
  (hsp:∀ (w:World) (H:Hp) (a:Addr) (ns:List Int),ns.length<=n->gy (K w.params) H->iV (K w.params) H a (ns.map V.int)->sp w [.ref a] H (fun v _=>v=.bl true) fun _ _ _=>False)
  (hCX:∀ (w:World) (H:Hp) (s:Shared) (e:Value) (s':Shared),CX w [] H s (fun _ _ _=>False) e s'->False) :
  W.WalkO q loose XP YP l.row.toRowW d [] (fun f vs=>PySem.call f vs):=by
 refine Att.attach_call hn hdf fun w s₀ s₁ mg mb fa o pm cd doc a vs ns G Y ho hd hcd hmg hobj hints hlen hg=>?_
 obtain⟨KX,hts⟩:=hY w _ Y
 obtain⟨fd,hb,hF⟩:=F w mg fa _ KX G.T.g hmg
 have hbm:NL mg s₁.heap:=by
  obtain⟨bm,ob,b1,b2,b3,b4,b5,b6⟩:=G.T.bmain
  refine⟨bm,ob,b1,b2,fun z=>?_,b3,b4,b5,b6⟩
  obtain⟨o',es,ep,e1,e2,_⟩:=G.T.g
  rw[<- z,b3] at e1
  cases e1
  rw[b6] at e2;cases e2
 exact BP KX G.T.g G.T.b G.T.builtins G.T.nolimit hbm hg (ht w) hts hobj hints (yE hlen hn2) hr hF hb (fun H hT hS=>hsp w H a ns hlen hT hS) fun H e s'=>hCX w H s₁ e s'
end Dl
namespace SP
open PySem PySem.W PyProof.Rows
noncomputable def run{α:Type}(lt:Nat->Nat->Bool):KasT α->α
 | .ret a=>a
 | .ask i j k=>run lt (k (lt i j))
theorem iG{α β:Type}(lt:Nat->Nat->Bool)(f:α->KasT β):∀t:KasT α,run lt (t.bind f)=run lt (f (run lt t))
 | .ret a=>rfl
 | .ask i j k=>by
  show run lt ((k (lt i j)).bind f)=run lt (f (run lt (k (lt i j))))
  exact iG lt f (k (lt i j))
noncomputable def Gz(n:Nat){α:Type}:KasT α->Prop
 | .ret _=>True
 | .ask i j k=>i < n/\j < n/\∀b,Gz n (k b)
theorem wp_run{α:Type}{n:Nat}{cmp:Nat->Nat->(Bool->Shared->Prop)->Shared->Prop}{lt:Nat->Nat->Bool}{s:Shared}(hc:∀i j C,i < n->j < n->C (lt i j) s->cmp i j C s):∀ (t:KasT α) {Q:α->Shared->Prop},Gz n t->Q (run lt t) s->t.kasWp cmp Q s
 | .ret a,Q,_,h=>h
 | .ask i j k,Q,b,h=>hc i j _ b.1 b.2.1 (wp_run hc (k (lt i j)) (b.2.2 _) h)
noncomputable def rg(n:Nat){α:Type}(R:α->Prop):KasT α->Prop
 | .ret a=>R a
 | .ask i j k=>i < n/\j < n/\∀b,rg n R (k b)
theorem nF{α β:Type}{n:Nat}{R:α->Prop}{f:α->KasT β}:∀ {t:KasT α},rg n R t->(∀a,R a->Gz n (f a))->Gz n (t.bind f)
 | .ret a,b,h=>h a b
 | .ask i j k,b,h=>⟨b.1,b.2.1,fun c=>nF (b.2.2 c) h⟩
theorem iZ{α β:Type}{n:Nat}{R:α->Prop}{S:β->Prop}{f:α->KasT β}:∀ {t:KasT α},rg n R t->(∀a,R a->rg n S (f a))->rg n S (t.bind f)
 | .ret a,b,h=>h a b
 | .ask i j k,b,h=>⟨b.1,b.2.1,fun c=>iZ (b.2.2 c) h⟩
def Bd(n:Nat)(p:Array Nat):Prop:=∀a,p.getD a 0 < n
theorem Bd.perm{n:Nat}{p q:Array Nat}(h:Bd n p)(e:q.Perm p):Bd n q:=by
 intro a
 rw[Array.getD_eq_getD_getElem?]
 cases ha:q[a]? with
 | none=>have:=h p.size;rw[Array.getD_eq_getD_getElem?] at this;simpa using this
 | some x =>
  have hx:x∈q:=Array.mem_of_getElem? ha
  have hx':x∈p:=e.mem_iff.mp hx
  obtain⟨i,hi,rfl⟩:=Array.mem_iff_getElem.mp hx'
  have:=h i
  rw[Array.getD_eq_getD_getElem?] at this
  simpa [hi] using this
theorem DU{n:Nat}{p:Array Nat}(h:Bd n p):∀f m,rg n (fun _=>True) (kas_asc p f m)
 | 0,m=>trivial
 | f+1,m=>⟨h _,h _,fun c=>by
  dsimp only
  split
  ·trivial
  ·exact DU h f (m+1)⟩
theorem yg{n:Nat}{p:Array Nat}(h:Bd n p)(i j:Nat):Bd n (kas_rev p i j):=h.perm (mirror_perm _ _ _ _)
theorem uv{n:Nat}:∀ (f:Nat) {p:Array Nat}(h:Bd n p) (m q:Nat),rg n (fun r=>Bd n r.1) (kas_desc f p m q)
 | 0,p,h,m,q=>h
 | f+1,p,h,m,q=>⟨h _,h _,fun c=>by
  dsimp only
  split
  ·split
   ·exact uv f (yg h _ _) (m+1) 0
   ·exact uv f h (m+1) 0
  ·exact⟨h _,h _,fun d=>by
    dsimp only
    split
    ·exact h
    ·exact uv f h (m+1) (q+1)⟩⟩
theorem AO{n:Nat}{p:Array Nat}(h:Bd n p)(m nrem:Nat):rg n (fun r=>Bd n r.2) (kas_tail3 m nrem p):=iZ (DU (yg h 0 m) _ _) fun _ _=>yg h 0 m
theorem pI{n:Nat}{p:Array Nat}(h:Bd n p)(m nrem:Nat):rg n (fun r=>Bd n r.2) (kas_descPart m nrem p):=iZ (uv _ h _ _) fun r hr=>by
 split
 ·exact AO (yg hr _ _) _ _
 ·exact AO hr _ _
theorem HI{n:Nat}{p:Array Nat}(h:Bd n p)(nrem:Nat):rg n (fun r=>Bd n r.2) (kas_count nrem p):=iZ (DU h _ _) fun m _=>by
 split
 ·exact h
 ·split
  ·exact⟨h _,h _,fun c=>by
    dsimp only
    split
    ·exact h
    ·exact pI (yg h _ _) _ _⟩
  ·exact pI h _ _
theorem vI{n:Nat}{p:Array Nat}(h:Bd n p)(k:Nat):∀f l r,rg n (fun _=>True) (kas_place p k f l r)
 | 0,l,r=>trivial
 | f+1,l,r=>by
  unfold kas_place
  split
  ·trivial
  ·exact⟨h _,h _,fun c=>by
    dsimp only
    split
    ·exact vI h k f _ _
    ·exact vI h k f _ _⟩
theorem Jr{n:Nat}:∀ (f:Nat) {p:Array Nat}(h:Bd n p) (k:Nat),Gz n (kas_bin f p k)
 | 0,p,h,k=>trivial
 | f+1,p,h,k=>nF (vI h k _ _ _) fun l _=>Jr f (h.perm (bubble_perm _ _ _)) (k+1)
theorem Ef{n:Nat}(h1:1<=n):Gz n (kas_sort n):=by
 have h:Bd n (List.toArray (List.range n)):=fun a=>by
  rw[Array.getD_eq_getD_getElem?]
  by_cases ha:a < n
  ·simp[ha]
  ·simp[ha];omega
 refine nF (HI h n) fun r hr=>?_
 split
 ·exact Jr _ hr _
 ·trivial
section
variable (z:Nat->Int)
noncomputable def Z(p:Array Nat)(a:Nat):Int:=z (p.getD a 0)
noncomputable def eK:Nat->Nat->Bool:=fun i j=>decide (z i < z j)
theorem mE{p q:Array Nat}{a b:Nat}(h:p[a]?=q[b]?):Z z p a=Z z q b:=by
 unfold Z
 rw[Array.getD_eq_getD_getElem?,Array.getD_eq_getD_getElem?,h]
theorem Gu{p:Array Nat}{i j:Nat}(hj:j<=p.size)(k:Nat):Z z (kas_rev p i j) k=if i<=k/\k < j then Z z p (i+j - 1 - k) else Z z p k:=by
 have e:=getElem?_mirror_all (xs:=p) (i:=i) hj k
 unfold kas_rev
 by_cases h1:i<=k/\k < j
 ·rw[if_pos h1] at e ⊢;exact mE z e
 ·rw[if_neg h1] at e ⊢;exact mE z e
theorem Ed{p:Array Nat}{src d:Nat}(hs:src < p.size)(hd:d<=src)(k:Nat):Z z (bubble p src d) k=if k=src - d then Z z p src else if src - d < k/\k<=src then Z z p (k - 1) else Z z p k:=by
 have e:=getElem?_bubble hs d hd k
 by_cases h1:k=src - d
 ·rw[if_pos h1] at e ⊢;exact mE z e
 ·rw[if_neg h1] at e ⊢
  by_cases h2:src - d < k/\k<=src
  ·rw[if_pos h2] at e ⊢;exact mE z e
  ·rw[if_neg h2] at e ⊢;exact mE z e
def Up(p:Array Nat)(n:Nat):Prop:=∀a b,a<=b->b < n->Z z p a<=Z z p b
def Dn(p:Array Nat)(n:Nat):Prop:=∀a b,a<=b->b < n->Z z p b<=Z z p a
variable {z}
theorem Hu{p:Array Nat}{n:Nat}(h:Up z p n)(hn:1<=n)(h1:Z z p (n - 1)<=Z z p n):Up z p (n+1):=by
 intro a b hab hb
 by_cases hbn:b < n
 ·exact h a b hab hbn
 ·have e:b=n:=by omega
  subst e
  by_cases ha:a=b
  ·subst ha;exact Int.le_refl _
  ·exact Int.le_trans (h a (b - 1) (by omega) (by omega)) h1
theorem Oc{p:Array Nat}:∀ (f n:Nat),1<=n->Up z p n->n<=run (eK z) (kas_asc p f n)/\run (eK z) (kas_asc p f n)<=n+f/\Up z p (run (eK z) (kas_asc p f n))/\(run (eK z) (kas_asc p f n) < n+f->Z z p (run (eK z) (kas_asc p f n)) < Z z p (run (eK z) (kas_asc p f n) - 1))
 | 0,n,hn,h=>⟨Nat.le_refl _,Nat.le_refl _,h,fun q=>absurd q (Nat.lt_irrefl _)⟩
 | f+1,n,hn,h=>by
  unfold kas_asc
  show n<=run (eK z) (if eK z (p.getD n 0) (p.getD (n - 1) 0)=true then .ret n else kas_asc p f (n+1))/\run (eK z) (if eK z (p.getD n 0) (p.getD (n - 1) 0)=true then .ret n else kas_asc p f (n+1))<=n+(f+1)/\Up z p (run (eK z) (if eK z (p.getD n 0) (p.getD (n - 1) 0)=true then .ret n else kas_asc p f (n+1)))/\(run (eK z) (if eK z (p.getD n 0) (p.getD (n - 1) 0)=true then .ret n else kas_asc p f (n+1)) < n+(f+1)->Z z p (run (eK z) (if eK z (p.getD n 0) (p.getD (n - 1) 0)=true then .ret n else kas_asc p f (n+1))) < Z z p (run (eK z) (if eK z (p.getD n 0) (p.getD (n - 1) 0)=true then .ret n else kas_asc p f (n+1)) - 1))
  by_cases hc:eK z (p.getD n 0) (p.getD (n - 1) 0)=true
  ·rw[if_pos hc]
   exact⟨Nat.le_refl _,Nat.le_add_right _ _,h,fun _=>of_decide_eq_true hc⟩
  ·rw[if_neg hc]
   have h1:Z z p (n - 1)<=Z z p n:=by
    have:¬ (Z z p n < Z z p (n - 1)):=fun q=>hc (yB q)
    omega
   obtain⟨a,b,c,d⟩:=Oc f (n+1) (by omega) (Hu h hn h1)
   exact⟨by omega,by omega,c,fun q=>d (by omega)⟩
theorem Aj{p:Array Nat}{i j:Nat}(hj:j<=p.size)(h:∀a b,i<=a->a < j->i<=b->b < j->Z z p a=Z z p b)(k:Nat):Z z (kas_rev p i j) k=Z z p k:=by
 rw[Gu z hj]
 split
 ·rename_i hk
  exact h _ _ (by omega) (by omega) hk.1 hk.2
 ·rfl
theorem Ez{p q:Array Nat}{n:Nat}(e:∀k,Z z q k=Z z p k)(h:Dn z p n):Dn z q n:=fun a b hab hb=>by rw[e,e];exact h a b hab hb
theorem Ka{p:Array Nat}{n:Nat}(hn:n<=p.size)(h:Dn z p n):Up z (kas_rev p 0 n) n:=by
 intro a b hab hb
 rw[Gu z hn,Gu z hn,if_pos ⟨Nat.zero_le _,by omega⟩,if_pos ⟨Nat.zero_le _,hb⟩]
 exact h _ _ (by omega) (by omega)
theorem mz(p:Array Nat)(i j:Nat):(kas_rev p i j).size=p.size:=mirror_size _ _ _ _
theorem mq(p:Array Nat)(i j:Nat):(kas_rev p i j).Perm p:=mirror_perm _ _ _ _
structure Mb(z:Nat->Int)(p₀ p:Array Nat)(n q nrem:Nat):Prop where
 perm:p.Perm p₀
 size:p.size=p₀.size
 le:n<=nrem
 qn:q+1<=n
 dn:Dn z p n
 eq:∀a b,n - (q+1)<=a->a < n->n - (q+1)<=b->b < n->Z z p a=Z z p b
theorem IY{p₀:Array Nat}{nrem:Nat}(hz:nrem<=p₀.size):∀ (f:Nat) (p:Array Nat) (n q:Nat),n+f<=nrem->Mb z p₀ p n q nrem ->
  let r:=run (eK z) (kas_desc f p n q);Mb z p₀ r.1 r.2.1 r.2.2 nrem
 | 0,p,n,q,hn,h=>h
 | f+1,p,n,q,hn,h=>by
  intro r
  have hr:r=run (eK z) (if eK z (p.getD n 0) (p.getD (n - 1) 0)=true then (if q > 0 then kas_desc f (kas_rev p (n - (q+1)) n) (n+1) 0 else kas_desc f p (n+1) 0)
   else .ask (p.getD (n - 1) 0) (p.getD n 0) fun d=>if d=true then .ret (p,n,q) else kas_desc f p (n+1) (q+1)):=rfl
  have hq:=h.qn
  by_cases hc:eK z (p.getD n 0) (p.getD (n - 1) 0)=true
  ·rw[if_pos hc] at hr
   have hlt:Z z p n < Z z p (n - 1):=of_decide_eq_true hc
   have step:∀p':Array Nat,p'.Perm p₀->p'.size=p₀.size->(∀k,Z z p' k=Z z p k)->Mb z p₀ p' (n+1) 0 nrem:=fun p' a1 a2 a3=>by
    refine⟨a1,a2,by omega,by omega,fun a b hab hb=>?_,fun a b h1 h2 h3 h4=>by rw[show a=b by omega]⟩
    rw[a3,a3]
    by_cases hbn:b < n
    ·exact h.dn a b hab hbn
    ·have e:b=n:=by omega
     subst e
     by_cases ha:a=b
     ·subst ha;exact Int.le_refl _
     ·exact Int.le_trans (Int.le_of_lt hlt) (h.dn a (b - 1) (by omega) (by omega))
   by_cases hq0:q > 0
   ·rw[if_pos hq0] at hr
    rw[hr]
    exact IY hz f _ (n+1) 0 (by omega) (step _ ((mq _ _ _).trans h.perm) (by rw[mz,h.size]) (Aj (by rw[h.size];omega) h.eq))
   ·rw[if_neg hq0] at hr
    rw[hr]
    exact IY hz f p (n+1) 0 (by omega) (step p h.perm h.size fun _=>rfl)
  ·rw[if_neg hc] at hr
   have hge:Z z p (n - 1)<=Z z p n:=by
    have:¬ (Z z p n < Z z p (n - 1)):=fun q=>hc (yB q)
    omega
   have hr':r=run (eK z) (if eK z (p.getD (n - 1) 0) (p.getD n 0)=true then .ret (p,n,q) else kas_desc f p (n+1) (q+1)):=hr
   by_cases hd:eK z (p.getD (n - 1) 0) (p.getD n 0)=true
   ·rw[if_pos hd] at hr'
    rw[hr']
    exact h
   ·rw[if_neg hd] at hr'
    rw[hr']
    have heq:Z z p n=Z z p (n - 1):=by
     have:¬ (Z z p (n - 1) < Z z p n):=fun q=>hd (yB q)
     omega
    refine IY hz f p (n+1) (q+1) (by omega) ⟨h.perm,h.size,by omega,by omega,fun a b hab hb=>?_,fun a b h1 h2 h3 h4=>?_⟩
    ·by_cases hbn:b < n
     ·exact h.dn a b hab hbn
     ·have e:b=n:=by omega
      subst e
      by_cases ha:a=b
      ·subst ha;exact Int.le_refl _
      ·rw[heq];exact h.dn a (b - 1) (by omega) (by omega)
    ·have key:∀c,n+1 - (q+1+1)<=c->c < n+1->Z z p c=Z z p (n - 1):=fun c c1 c2=>by
      by_cases hcn:c < n
      ·exact h.eq c (n - 1) (by omega) hcn (by omega) (by omega)
      ·have e:c=n:=by omega
       subst e;exact heq
     rw[key a h1 h2,key b h3 h4]
structure NO(z:Nat->Int)(p₀:Array Nat)(nrem:Nat)(r:Nat×Array Nat):Prop where
 perm:r.2.Perm p₀
 size:r.2.size=p₀.size
 ge:1<=r.1
 le:r.1<=nrem
 up:Up z r.2 r.1
theorem tail3{p₀ p:Array Nat}{n nrem:Nat}(hz:nrem<=p₀.size)(h1:1<=n)(hn:n<=nrem)(hp:p.Perm p₀)(hs:p.size=p₀.size)(hd:Dn z p n):NO z p₀ nrem (run (eK z) (kas_tail3 n nrem p)):=by
 unfold kas_tail3
 rw[iG]
 obtain⟨a,b,c,_⟩:=Oc (nrem - n) n h1 (Ka (by omega) hd)
 exact⟨(mq _ _ _).trans hp,by show (kas_rev p 0 n).size=_;rw[mz,hs],by show 1<=run _ (kas_asc _ _ _);omega,by show run _ (kas_asc _ _ _)<=nrem;omega,c⟩
theorem descPart{p₀ p:Array Nat}{n nrem:Nat}(hz:nrem<=p₀.size)(h1:1<=n)(hn:n < nrem)(hp:p.Perm p₀)(hs:p.size=p₀.size)(hd:Dn z p n)(hlt:Z z p n<=Z z p (n - 1)):NO z p₀ nrem (run (eK z) (kas_descPart n nrem p)):=by
 unfold kas_descPart
 rw[iG]
 have D:=IY (z:=z) hz (nrem - (n+1)) p (n+1) 0 (by omega) ⟨hp,hs,by omega,by omega,fun a b hab hb=>by
  by_cases hbn:b < n
  ·exact hd a b hab hbn
  ·have e:b=n:=by omega
   subst e
   by_cases ha:a=b
   ·subst ha;exact Int.le_refl _
   ·exact Int.le_trans hlt (hd a (b - 1) (by omega) (by omega)),fun a b h1 h2 h3 h4=>by rw[show a=b by omega]⟩
 dsimp only at D
 generalize run (eK z) (kas_desc (nrem - (n+1)) p (n+1) 0)=r at D
 have hq:=D.qn
 split
 ·exact tail3 hz (by omega) D.le ((mq _ _ _).trans D.perm) (by rw[mz,D.size]) (Ez (Aj (by have:=D.size;have:=D.le;omega) D.eq) D.dn)
 ·exact tail3 hz (by omega) D.le D.perm D.size D.dn
theorem count{p:Array Nat}{nrem:Nat}(hz:nrem<=p.size)(h1:1<=nrem):NO z p nrem (run (eK z) (kas_count nrem p)):=by
 unfold kas_count
 rw[iG]
 obtain⟨a,b,c,d⟩:=Oc (z:=z) (p:=p) (nrem - 1) 1 (Nat.le_refl _) (fun x y hxy hy=>by rw[show x=y by omega];exact Int.le_refl _)
 generalize run (eK z) (kas_asc p (nrem - 1) 1)=n at a b c d
 split
 ·exact⟨Array.Perm.refl _,rfl,a,by show n<=nrem;omega,c⟩
 ·rename_i hne
  have hlt:n < nrem:=by
   have:n≠nrem:=fun e=>hne (by simp[e])
   omega
  have hd:=d (by omega)
  split
  ·rename_i hn1
   show NO z p nrem (run (eK z) (if eK z (p.getD 0 0) (p.getD (n - 1) 0)=true then .ret (n,p) else kas_descPart n nrem (kas_rev p 0 n)))
   by_cases hc:eK z (p.getD 0 0) (p.getD (n - 1) 0)=true
   ·rw[if_pos hc]
    exact⟨Array.Perm.refl _,rfl,a,by show n<=nrem;omega,c⟩
   ·rw[if_neg hc]
    have hge:Z z p (n - 1)<=Z z p 0:=by
     have:¬ (Z z p 0 < Z z p (n - 1)):=fun q=>hc (yB q)
     omega
    have all:∀x,x < n->Z z p x=Z z p 0:=fun x hx=>by
     have e1:=c 0 x (Nat.zero_le _) hx
     have e2:=c x (n - 1) (by omega) (by omega)
     omega
    have same:=Aj (z:=z) (p:=p) (i:=0) (j:=n) (by omega) fun x y _ hx _ hy=>by rw[all x hx,all y hy]
    refine descPart hz (by omega) hlt (mq _ _ _) (by rw[mz]) (fun x y hxy hy=>?_) ?_
    ·rw[same,same,all x (by omega),all y hy];exact Int.le_refl _
    ·rw[same,same];omega
  ·exact descPart hz (by omega) hlt (Array.Perm.refl _) rfl (fun x y hxy hy=>by rw[show x=y by omega];exact Int.le_refl _) (by omega)
theorem place{p:Array Nat}{k:Nat}(hu:Up z p k):∀ (f l r:Nat),r - l<=f->l<=r->r<=k->(∀a,a < l->Z z p a<=Z z p k)->(∀a,r<=a->a < k->Z z p k<=Z z p a) ->
  let m:=run (eK z) (kas_place p k f l r);m<=k/\(∀a,a < m->Z z p a<=Z z p k)/\(∀a,m<=a->a < k->Z z p k<=Z z p a)
 | 0,l,r,hf,hl,hr,h1,h2=>by
  intro m
  have e:l=r:=by omega
  subst e
  exact⟨hr,h1,h2⟩
 | f+1,l,r,hf,hl,hr,h1,h2=>by
  intro m
  have hm:m=run (eK z) (if l >= r then .ret l else .ask (p.getD k 0) (p.getD ((l+r) / 2) 0) fun c=>if c=true then kas_place p k f l ((l+r) / 2) else kas_place p k f ((l+r) / 2+1) r):=rfl
  by_cases hlr:l >= r
  ·rw[if_pos hlr] at hm
   rw[hm]
   have e:l=r:=by omega
   subst e
   exact⟨hr,h1,h2⟩
  ·rw[if_neg hlr] at hm
   have hm':m=run (eK z) (if eK z (p.getD k 0) (p.getD ((l+r) / 2) 0)=true then kas_place p k f l ((l+r) / 2) else kas_place p k f ((l+r) / 2+1) r):=hm
   by_cases hc:eK z (p.getD k 0) (p.getD ((l+r) / 2) 0)=true
   ·rw[if_pos hc] at hm'
    rw[hm']
    have hlt:Z z p k < Z z p ((l+r) / 2):=of_decide_eq_true hc
    exact place hu f l ((l+r) / 2) (by omega) (by omega) (by omega) h1 fun a ha hak=>Int.le_trans (Int.le_of_lt hlt) (hu _ a ha hak)
   ·rw[if_neg hc] at hm'
    rw[hm']
    have hge:Z z p ((l+r) / 2)<=Z z p k:=by
     have:¬ (Z z p k < Z z p ((l+r) / 2)):=fun q=>hc (yB q)
     omega
    exact place hu f ((l+r) / 2+1) r (by omega) (by omega) hr (fun a ha=>Int.le_trans (hu a ((l+r) / 2) (by omega) (by omega)) hge) h2
theorem bin{p₀:Array Nat}:∀ (f:Nat) (p:Array Nat) (k:Nat),p.Perm p₀->p.size=p₀.size->k+f<=p₀.size->Up z p k ->
  (run (eK z) (kas_bin f p k)).Perm p₀/\(run (eK z) (kas_bin f p k)).size=p₀.size/\Up z (run (eK z) (kas_bin f p k)) (k+f)
 | 0,p,k,hp,hs,hk,hu=>⟨hp,hs,hu⟩
 | f+1,p,k,hp,hs,hk,hu=>by
  unfold kas_bin
  rw[iG]
  have P:=place hu k 0 k (by omega) (by omega) (Nat.le_refl _) (fun a ha=>absurd ha (Nat.not_lt_zero _)) fun a ha hak=>absurd ha (by omega)
  dsimp only at P
  generalize run (eK z) (kas_place p k k 0 k)=l at P
  obtain⟨p1,p2,p3⟩:=P
  have zb:=Ed z (p:=p) (src:=k) (d:=k - l) (by omega) (by omega)
  have e:k - (k - l)=l:=by omega
  rw[e] at zb
  obtain⟨q1,q2,q3⟩:=bin f (bubble p k (k - l)) (k+1) ((bubble_perm _ _ _).trans hp) (by rw[bubble_size,hs]) (by omega) fun a b hab hb=>by
   rw[zb,zb]
   by_cases ha1:a=l
   ·rw[if_pos ha1]
    by_cases hb1:b=l
    ·rw[if_pos hb1];exact Int.le_refl _
    ·rw[if_neg hb1]
     rw[if_pos (by omega)]
     exact p3 _ (by omega) (by omega)
   ·rw[if_neg ha1]
    by_cases hb1:b=l
    ·rw[if_pos hb1,if_neg (by omega)]
     exact p2 a (by omega)
    ·rw[if_neg hb1]
     by_cases ha2:l < a/\a<=k
     ·rw[if_pos ha2,if_pos (by omega)]
      exact hu _ _ (by omega) (by omega)
     ·rw[if_neg ha2]
      by_cases hb2:l < b/\b<=k
      ·rw[if_pos hb2]
       exact hu _ _ (by omega) (by omega)
      ·rw[if_neg hb2]
       exact hu _ _ hab (by omega)
  exact⟨q1,q2,by rw[show k+(f+1)=k+1+f by omega];exact q3⟩
theorem gU{n:Nat}(h1:1<=n):(run (eK z) (kas_sort n)).toList.Perm (List.range n)/\((run (eK z) (kas_sort n)).toList.map z).Pairwise (·<=·):=by
 have hsz:(List.toArray (List.range n)).size=n:=by simp
 have C:=count (z:=z) (p:=List.toArray (List.range n)) (nrem:=n) (by omega) h1
 have fin:∀p:Array Nat,p.Perm (List.toArray (List.range n))->p.size=n->Up z p n->p.toList.Perm (List.range n)/\(p.toList.map z).Pairwise (·<=·):=fun p a b c=>by
  refine⟨by have:=a.toList;simpa using this,?_⟩
  rw[List.pairwise_iff_getElem]
  intro i j hi hj hij
  have hi':i < n:=by simpa [b] using hi
  have hj':j < n:=by simpa [b] using hj
  have:=c i j (Nat.le_of_lt hij) hj'
  unfold Z at this
  have e1:p.getD i 0=p[i]:=by simp[Array.getD,b,hi']
  have e2:p.getD j 0=p[j]:=by simp[Array.getD,b,hj']
  rw[e1,e2] at this
  simpa using this
 unfold kas_sort
 rw[iG]
 generalize run (eK z) (kas_count n (List.toArray (List.range n)))=r at C
 obtain⟨k,p⟩:=r
 have hs:=C.size
 rw[hsz] at hs
 split
 ·rename_i hlt
  have hge:=C.ge
  have e:max k 1=k:=by have:1<=k:=hge;omega
  rw[e]
  obtain⟨q1,q2,q3⟩:=bin (z:=z) (n - k) p k C.perm C.size (by rw[hsz];have:k < n:=hlt;omega) C.up
  refine fin _ q1 (by rw[q2,hsz]) ?_
  rw[show k+(n - k)=n by have:k < n:=hlt;omega] at q3
  exact q3
 ·rename_i hnlt
  have hle:=C.le
  have e:k=n:=by have h3:k<=n:=hle;have h4:¬ k < n:=hnlt;omega
  subst e
  exact fin p C.perm hs C.up
end
end SP
namespace Srt
open PySem PySem.W PySem.Calls PyProof.Rows
noncomputable def outV(z:Nat->Int)(vs:List Value):List Value:=if vs.length < 2 then vs else (SP.run (SP.eK z) (kas_sort vs.length)).toList.map fun i=>vs.getD i Value.none
theorem outV_len(z:Nat->Int)(vs:List Value):(outV z vs).length=vs.length:=by
 unfold outV
 split
 ·rfl
 ·rename_i h
  have:=(SP.gU (z:=z) (n:=vs.length) (by omega)).1.length_eq
  simpa using this
section
variable {prog:Program}{w:World}{A:Around}{E:Value->Shared->Prop}{s:Shared}
theorem list_sortG{a:Addr}{vs:List Value}{n:Nat}{P:PySem.Fin->Shared->Prop}(ho:s.heap.get? a=some (seqObj "list" vs.toArray n))(h64:vs.length < 64)(z:Nat->Int)(κ:SortKind)
  (hk:2<=vs.length->∀h':Heap,(∀b o,b≠a->s.heap.get? b=some o->h'.get? b=some o)->∀Q':SortKind->Shared->Prop,Q' κ { s with heap:=h' }->wpAny (model prog w) A (keyKind' vs.toArray) Q' (fun _ _=>False) { s with heap:=h' })
  (hlt:2<=vs.length->∀h':Heap,(∀b o,b≠a->s.heap.get? b=some o->h'.get? b=some o)->∀i j C,i < vs.length->j < vs.length->C (SP.eK z i j) { s with heap:=h' }->kas_ask prog w A κ vs i j C { s with heap:=h' })
  (h:∀ (h':Heap) (c:Nat),(∀b o,b≠a->s.heap.get? b=some o->h'.get? b=some o)->h'.get? a=some (seqObj "list" (outV z vs).toArray c)->P (.done (.ret .none)) { s with heap:=h' }) :
  wpAny (model prog w) A (Builtin.«list.sort» ⟨[.ref a],[]⟩) P E s:=by
 rw[list_sort_plain]
 have ha:a < s.heap.objs.size:=zZ ho
 have hsl:vs.length<=sizeLine:=by rw[sizeLine_eq];omega
 refine zW (listItems_at ho rfl (zW (listUpdate_at ho rfl ?_ (by simpa using hsl) (Nat.zero_le _))))
 obtain⟨e1,ho1⟩:∃e,(s.heap.update a (Obj.mapSeq fun _=>(#[]:Array Value))).get? a=some (seqObj "list" #[] e):=⟨_,get?_update_seq ho fun _=>#[]⟩
 have kp1:∀b o,b≠a->s.heap.get? b=some o->(s.heap.update a (Obj.mapSeq fun _=>(#[]:Array Value))).get? b=some o:=fun b o hb e=>(Heap.get?_update_other _ _ (Ne.symm hb)).trans e
 refine zW (seqEpoch_at ho1 rfl (zW (wpAny_newTuple ?_ (by simpa using hsl))))
 refine zW (wpAny_newList (wpAny_holding ?_) (Nat.zero_le _))
 have ho3:(((s.heap.update a (Obj.mapSeq fun _=>(#[]:Array Value))).push (seqObj "tuple" vs.toArray 0)).push (seqObj "list" #[] 0)).get? a=some (seqObj "list" #[] e1):=zV _ (zV _ ho1)
 have kp3:∀b o,b≠a->s.heap.get? b=some o->(((s.heap.update a (Obj.mapSeq fun _=>(#[]:Array Value))).push (seqObj "tuple" vs.toArray 0)).push (seqObj "list" #[] 0)).get? b=some o:=fun b o hb e=>zV _ (zV _ (kp1 b o hb e))
 show wpAny _ A _ P E { s with heap:=((s.heap.update a (Obj.mapSeq fun _=>(#[]:Array Value))).push (seqObj "tuple" vs.toArray 0)).push (seqObj "list" #[] 0) }
 generalize ((s.heap.update a (Obj.mapSeq fun _=>(#[]:Array Value))).push (seqObj "tuple" vs.toArray 0)).push (seqObj "list" #[] 0)=h3 at ho3 kp3
 clear ho1 kp1
 dsimp only
 have fin:∀st':SortSt,(arrOf st').map (·.2)=(outV z vs).toArray->failedOf st'=none ->
   wpAny (model prog w) A (do
    let sorted:=(arrOf st').map (·.2)
    let touched:=(<- seqEpoch a) != e1
    Builtin.List.listUpdate (.ref a) fun _=>sorted
    if let some e:=failedOf st' then rule "list.sort.comparison-raised";throw e
    if touched then rule "list.sort.modified";raiseError "ValueError" "list modified during sort"
    ret .none) P E { s with heap:=h3 }:=fun st' h1 h2=>by
  dsimp only
  rw[h1,h2]
  refine zW (seqEpoch_at ho3 rfl ?_)
  refine zW (listUpdate_at ho3 rfl ?_ (Nat.zero_le _) (by show (outV z vs).toArray.size<=_;rw[zH,outV_len];omega))
  obtain⟨c,hc⟩:∃c,(h3.update a (Obj.mapSeq fun _=>(outV z vs).toArray)).get? a=some (seqObj "list" (outV z vs).toArray c):=⟨_,get?_update_seq ho3 fun _=>(outV z vs).toArray⟩
  have q:=h _ c (fun b o hb e=>(Heap.get?_update_other _ _ (Ne.symm hb)).trans (kp3 b o hb e)) hc
  simp only[bne_self_eq_false,Bool.false_eq_true,if_false]
  exact zX q
 by_cases h2:vs.toArray.size < 2
 ·rw[if_pos h2,if_pos h2]
  refine zW (zX ?_)
  rw[StateT.run_pure]
  refine zW (zX (fin _ ?_ rfl))
  have h2':vs.length < 2:=by simpa using h2
  unfold outV
  rw[if_pos h2']
  show ((vs.toArray.zip vs.toArray).map (·.2))=vs.toArray
  apply Array.toList_inj.mp
  simp only[Array.toList_map,Array.toList_zip]
  exact List.map_snd_zip (Nat.le_refl _)
 ·rw[if_neg h2,if_neg h2]
  have h2':2<=vs.length:=by
   have:¬ vs.length < 2:=by simpa using h2
   omega
  refine zW (wpAny_mono (hk h2' h3 kp3 (fun κ' s'=>κ'=κ/\s'={ s with heap:=h3 }) ⟨rfl,rfl⟩) (fun κ' s' hs=>?_) fun _ _ x=>x.elim)
  obtain⟨rfl,rfl⟩:=hs
  refine zW (wpAny_mono (kat_run (Q:=fun st' s'=>s'={ s with heap:=h3 }/\(arrOf st').map (·.2)=(outV z vs).toArray/\failedOf st'=none) (G:=fun p s'=>s'={ s with heap:=h3 }/\p=SP.run (SP.eK z) (kas_sort vs.length))
   rfl h2' h64 (fun p st' s' a1 a2 a3 a4=>⟨a4.1,?_,a3⟩) (SP.wp_run (hlt h2' h3 kp3) (kas_sort vs.length) (SP.Ef (by omega)) ⟨rfl,rfl⟩)) ?_ fun _ _ e=>e)
  ·rw[kat_snds rfl a2,a4.2]
   unfold outV
   rw[if_neg (by omega)]
  ·rintro⟨⟨⟩,st'⟩ s' ⟨hs,h4,h5⟩
   subst hs
   exact fin st' h4 h5
theorem sortedG{l:Addr}{vs:List Value}{Q:Value->Shared->Prop}(hl:s.heap.IsList l vs.toArray)(h64:vs.length < 64)(z:Nat->Int)(κ:SortKind)
  (hk:2<=vs.length->∀h':Heap,(∀b o,s.heap.get? b=some o->h'.get? b=some o)->∀Q':SortKind->Shared->Prop,Q' κ { s with heap:=h' }->wpAny (model prog w) A.in1.in1 (keyKind' vs.toArray) Q' (fun _ _=>False) { s with heap:=h' })
  (hlt:2<=vs.length->∀h':Heap,(∀b o,s.heap.get? b=some o->h'.get? b=some o)->∀i j C,i < vs.length->j < vs.length->C (SP.eK z i j) { s with heap:=h' }->kas_ask prog w A.in1.in1 κ vs i j C { s with heap:=h' })
  (h:∀ (h':Heap) (D:Addr) (c:Nat),(∀b o,s.heap.get? b=some o->h'.get? b=some o)->s.heap.objs.size<=D->h'.get? D=some (seqObj "list" (outV z vs).toArray c)->Q (.ref D) { s with heap:=h' }) :
  wpAny (model prog w) A (call (.builtin "sorted") [.ref l]) Q E s:=by
 have hsl:vs.length<=sizeLine:=by rw[sizeLine_eq];omega
 refine Calls.call_function_entry kind_sorted plain_sorted entry_sorted (args_sorted1 _) ?_
 unfold Builtin.«sorted»
 refine zW (m:=checkCount "sorted" 1 1 _) (zX (zW (collect_list hl ?_ hsl)))
 refine zW (wpAny_newList ?_ (by simpa using hsl))
 have hsz:((s.heap.push (seqObj "list" #[] 0)).update s.heap.objs.size (Obj.mapSeq (·++vs.toArray))).objs.size=s.heap.objs.size+1:=by rw[Heap.size_update,size_push']
 have kp:∀b o,s.heap.get? b=some o->(((s.heap.push (seqObj "list" #[] 0)).update s.heap.objs.size (Obj.mapSeq (·++vs.toArray))).push (seqObj "list" vs.toArray 0)).get? b=some o:=fun b o e =>
  zV _ ((Heap.get?_update_other _ _ (Nat.ne_of_gt (zZ e))).trans (zV _ e))
 have hoD:(((s.heap.push (seqObj "list" #[] 0)).update s.heap.objs.size (Obj.mapSeq (·++vs.toArray))).push (seqObj "list" vs.toArray 0)).get? (s.heap.objs.size+1)=some (seqObj "list" vs.toArray 0):=by
  rw[<- hsz];exact zY _ rfl
 show wpAny _ _ _ _ _ { s with heap:=((s.heap.push (seqObj "list" #[] 0)).update s.heap.objs.size (Obj.mapSeq (·++vs.toArray))).push (seqObj "list" vs.toArray 0) }
 rw[hsz]
 generalize ((s.heap.push (seqObj "list" #[] 0)).update s.heap.objs.size (Obj.mapSeq (·++vs.toArray))).push (seqObj "list" vs.toArray 0)=h1 at kp hoD
 have kk:∀h':Heap,(∀b o,b≠s.heap.objs.size+1->h1.get? b=some o->h'.get? b=some o)->∀b o,s.heap.get? b=some o->h'.get? b=some o:=fun h' q b o e=>q b o (Nat.ne_of_lt (Nat.lt_succ_of_lt (zZ e))) (kp b o e)
 refine zW (wpAny_holding (wpAny_call_entry slot_list_sort ⟨_,hoD,rfl⟩ entry_list_sort (list_sortG hoD h64 z κ (fun a h' q=>hk a h' (kk h' q)) (fun a h' q=>hlt a h' (kk h' q)) fun h' c q e=>⟨_,rfl,?_⟩) (args_list_sort _)))
 exact zX ⟨_,rfl,h h' _ c (kk h' q) (by omega) e⟩
end
end Srt
namespace Dl
open PySem L2 PySem.Spec PyProof.Rows
section
variable {X:Cx}{HF₀ H₀:Hp}{e e2:Expr}{es:List Expr}{pos apos cpos px p:Pos}{x:Str}{fs:Env->Option (List D)}
noncomputable def vC(i:Nat)(fz:List Nat)(f:Env->Option (List D)):ak->Option Out:=fun ρ=>(f (cn (hand fz 0 ρ))).bind fun us=>nI i (fun ds=>if ds.length+us.length<=sizeLine then some (ds++us) else none) (hand fz 0 ρ)
theorem Co(i:Nat)(fz:List Nat){f:Env->Option (List D)}(hN:X.N[i]?=some x)(hv:GT X.env.scope x)(h:DF X e f)(hd:(x == ("__debug__":Str))=false:=by decide)(hcd:(x == ("__classdict__":Str))=false:=by decide)
  (hfew:((backTo cpos (starEach [e] X.env)).all (fun x=>!x.1)&&(backToKw cpos (keywordEach [] X.env)).all (fun x=>x.1.isSome)&&decide ([e].length+([]:List Keyword).length+(if ([]:List Keyword).isEmpty then 0 else 1) < 30))=true:=by rfl)
  (hline:(apos.endLine == cpos.line)=true:=by rfl) (hs:starEach [e] X.env=(false,eval e X.env)::starEach [] X.env:=by rfl) :
  DS X HF₀ H₀ (.Expr (.Call (.Attribute (.Name x px) "extend" apos) [e] [] cpos) pos) (vC i fz f) :=
 eC (o8 (sF PySem.F.plainAttrs_list PySem.F.slot_list_extend PySem.F.type_list_extend Cp (m9 hN hv hd hcd) (dE h ip hs) rfl hfew hline hs rfl)) fun E σ H ⟨HF,ρ,o,S,hg,q⟩=>by
  obtain⟨us,h1,hg⟩:=bs hg
  obtain⟨ds,es,h2,h3,rfl⟩:=kG hg
  obtain⟨HF1,s1,S1⟩:=S.hand fz
  obtain⟨a,vs,e1,e2,e3,e5,e4⟩:=S1.own i ds h2
  refine⟨.ref a,e1,.inl ⟨rfl,vs,iV.of e2⟩,HF1,_,us,S1.gr.fh,S1.frz,h1,fun b ws H' HF' G hb hf h' r=>?_⟩
  have S2:=S1.grow G
  obtain⟨a',vs',f1,f2,f3,f5,f4⟩:=S2.own i ds h2
  rw[e1] at f1;cases f1
  split at h3
  ·rename_i hz
   cases h3
   exact⟨a,b,vs',ws,rfl,rfl,f2,h',by rw[f4.length,r.length];exact hz,q σ _ HF' (S2.mut h2 e1 f2 (f4.append r)) (s1.trans G.ff)⟩
  ·cases h3
noncomputable def AX(ds:List D)(k:Int)(d:D):List D:=let j:=if k < 0 then (k+(ds.length:Int)).toNat else min k.toNat ds.length;ds.take j++d::ds.drop j
noncomputable def II:V->List V->Hp->VK->Prop:=fun x vs H Q=>∃l xs k y,x=.ref l/\vs=[.int k,y]/\H l=some (.lst xs)/\xs.length < sizeLine/\-(2 ^ 62)<=k/\k < 2 ^ 62 /\
 Q .non (upd H l (.lst (xs.take (if k < 0 then (k+(xs.length:Int)).toNat else min k.toNat xs.length)++y::xs.drop (if k < 0 then (k+(xs.length:Int)).toNat else min k.toNat xs.length))))
theorem CM:Mn X "list.insert" II:=by
 intro pins s σ H x vs v us Q I rx rv h
 obtain⟨l,xs,k,y,rfl,rfl,hH,hz,k1,k2,q⟩:=h
 cases rx
 obtain⟨u1,u2,rfl,⟨t,rfl⟩,ru⟩:=L2.aF.two rv
 obtain⟨z,its,n,r,hl,e⟩:=I.lstM hH
 have hfit:¬(!Builtin.List.listFitsIndex k)=true:=by
  have:Builtin.List.listFitsIndex k=true:=by
   unfold Builtin.List.listFitsIndex
   simp only[zF,zJ]
   omega
  rw[this];simp
 refine call_meets F.slot_list_insert ⟨_,e,rfl⟩ F.entry_list_insert (F.args_list_insert_3 _ _ _) (AutoListH.list_insert_list_int_val_1 l its.toArray n k t u2 hfit (by rw[zH];omega)) ⟨e,?_⟩
 have hlen:its.length=xs.length:=hl.symm
 refine⟨.non,_,I.lset (its':=its.take (if k < 0 then (k+(xs.length:Int)).toNat else min k.toNat xs.length)++u2::its.drop (if k < 0 then (k+(xs.length:Int)).toNat else min k.toNat xs.length)) hH e ?_ ((r.take _).append (.cons ru (r.drop _))) ?_,rfl,q⟩
 ·dsimp only
  rw[zH,hlen]
  apply Array.toList_inj.mp
  simp
  exact List.take_of_length_le (by rw[List.length_drop,hlen];exact Nat.le_refl _)
 ·rw[zN,zL,List.length_take,List.length_drop]
  omega
noncomputable def Fb(i:Nat)(fz:List Nat)(fk f:Env->Option D):ak->Option Out:=fun ρ=>(fk (bg ρ)).bind fun kd=>match kd with
 | .int k=>(lh fz f ρ).bind fun p=>nI i (fun ds=>if Ab k=true/\ds.length < sizeLine then some (AX ds k p.1) else none) p.2
 | _=>none
theorem B9(i:Nat)(fz:List Nat){fk f:Env->Option D}(hN:X.N[i]?=some x)(hv:GT X.env.scope x)(hk:DE X e fk)(h:DE X e2 f)(hd:(x == ("__debug__":Str))=false:=by decide)(hcd:(x == ("__classdict__":Str))=false:=by decide)
  (hfew:((backTo cpos (starEach [e,e2] X.env)).all (fun x=>!x.1)&&(backToKw cpos (keywordEach [] X.env)).all (fun x=>x.1.isSome)&&decide ([e,e2].length+([]:List Keyword).length+(if ([]:List Keyword).isEmpty then 0 else 1) < 30))=true:=by rfl)
  (hline:(apos.endLine == cpos.line)=true:=by rfl) (hs:starEach [e,e2] X.env=(false,eval e X.env)::starEach [e2] X.env:=by rfl) (hs2:starEach [e2] X.env=(false,eval e2 X.env)::starEach [] X.env:=by rfl) :
  DS X HF₀ H₀ (.Expr (.Call (.Attribute (.Name x px) "insert" apos) [e,e2] [] cpos) pos) (Fb i fz fk f) :=
 eC (o8 (sF PySem.F.plainAttrs_list PySem.F.slot_list_insert PySem.F.type_list_insert CM (m9 hN hv hd hcd) (dE hk (dE h ip hs2) hs) rfl hfew hline hs (by rw[hs2];rfl))) fun E σ H ⟨HF,ρ,o,S,hg,q⟩=>by
  obtain⟨kd,hkd,hg⟩:=bs hg
  cases kd<;>try cases hg
  rename_i k
  obtain⟨⟨d,ρ'⟩,h1,hg⟩:=bs hg
  obtain⟨ds,es,h2,h3,rfl⟩:=kG hg
  have hown:∃ds',ρ[i]?=some (.own ds'):=by
   obtain⟨d1,_,h1⟩:=bs h1
   split at h1
   ·cases h1;exact⟨ds,h2⟩
   ·obtain⟨d2,_,h1⟩:=ag h1
    cases h1
    rw[iE] at h2
    obtain⟨s,hs,h2⟩:=ag h2
    cases s with
    | non=>split at h2<;>cases h2
    | val _=>split at h2<;>cases h2
    | own xs=>exact⟨xs,hs⟩
  obtain⟨ds',hown⟩:=hown
  obtain⟨a,vs,e1,e2,e3,e5,e4⟩:=S.own i ds' hown
  refine⟨.ref a,e1,.inl ⟨rfl,vs,iV.of e2⟩,H,bg ρ,_,.refl _,S.all,hkd,fun vk Hk HFk Gk rk=>?_⟩
  simp only[Rep] at rk
  subst rk
  refine mR (S.step Gk.hh) h1 fun v H' HF' s1 S' sh r=>?_
  obtain⟨a',vs',f1,f2,f3,f5,f4⟩:=S'.own i ds h2
  rw[e1] at f1;cases f1
  split at h3
  ·rename_i hz
   cases h3
   have ok:=hz.1
   unfold Ab at ok
   rw[zF] at ok
   refine⟨a,vs',k,v,rfl,rfl,f2,by rw[f4.length];exact hz.2,of_decide_eq_true ok.1,of_decide_eq_true ok.2,q σ _ HF' (S'.mut h2 e1 f2 ?_) s1⟩
   unfold AX
   rw[f4.length]
   exact (f4.take _).append (au.cons r (f4.drop _))
  ·cases h3
noncomputable def sN:D->D->Option (List D)
 | .list xs,.list ys=>small (xs++ys)
 | _,_=>none
def Eh(K:W.Frag):R2:=fun x y H Q=>∃a b xs ys,x=.ref a/\y=.ref b/\iV K H a xs/\iV K H b ys/\xs.length+ys.length<=sizeLine/\∀p,H p=none->Q (.ref p) (upd H p (.lst (xs++ys)))
theorem w8:iz X (binaryOp .Add) (Eh X.K):=by
 intro pins s σ H x y v u Q I rx ry h
 obtain⟨a,b,xs,ys,rfl,rfl,ha,hb,hz,q⟩:=h
 cases rx
 cases ry
 obtain⟨its,r1,p1,_⟩:=I.list ha
 obtain⟨its2,r2,p2,_⟩:=I.list hb
 obtain⟨⟨cls,dd,data,sl⟩,ho,hc,n,hd⟩:=id p1.isList
 obtain⟨⟨cls2,dd2,data2,sl2⟩,ho2,hc2,n2,hd2⟩:=id p2.isList
 simp only at hc hd hc2 hd2
 subst hc hd hc2 hd2
 refine concat_meets ⟨_,ho,rfl⟩ ⟨_,ho2,rfl⟩ noFill_list_add seq_list_add PySem.F.slot_list_add PySem.F.entry_list_add (PySem.F.args_list_add_2 _ _) (list_addW a b its.toArray its2.toArray n n2 dd dd2 sl sl2 (by rw[zH,zH,<- r1.length,<- r2.length];exact hz)) ⟨ho,ho2,?_⟩
 have e:its.toArray++its2.toArray=(its++its2).toArray:=by simp
 rw[e]
 exact⟨.ref s.heap.objs.size,_,I.lnew (t':=s.toks) (r1.append r2) (by rw[zN];exact hz),rfl,q _ I.fresh⟩
noncomputable def OV(g:D->D->Option (List D))(f1 f2:Env->Option D):Env->Option (List D):=fun ρ=>(f1 ρ).bind fun x=>(f2 ρ).bind fun y=>g x y
theorem Mf{a b:Expr}{fa fb:Env->Option D}(ha:DE X a fa)(hb:DE X b fb):DF X (.BinOp a .Add b pos) (OV sN fa fb):=aV (EY w8 ha hb) fun σ H Q ⟨HF,ρ,d,sm,eo,hf,q⟩=>by
 obtain⟨x,hx,hf⟩:=bs hf
 obtain⟨y,hy,hg⟩:=bs hf
 refine⟨HF,ρ,x,sm,eo,hx,fun v1 H1 HF1 g1 r1=>⟨HF1,ρ,y,g1.fh,eo.mono g1.ff,hy,fun v2 H2 HF2 g2 r2=>?_⟩⟩
 have r1:=r1.mono g2.ff
 cases x<;>cases y<;>simp only[sN] at hg<;>try cases hg
 rename_i xs ys
 obtain⟨rfl,hz⟩:=eJ hg
 simp only[Rep] at r1 r2
 obtain⟨a,vs,rfl,ha,ra⟩:=r1
 obtain⟨b,us,rfl,hb,rb⟩:=r2
 have G:=g1.trans g2
 exact⟨a,b,vs,us,rfl,rfl,g2.fh.seq ha,g2.fh.seq hb,by rw[ra.length,rb.length,<- zN];exact hz,fun p hp=>q p _ _ HF2 (G.trans (.own G.fh hp)) (G.hh.free hp) (G.fh.free hp) aL (ra.append rb)⟩
noncomputable def boolsOf:List D->Option (List Bool)
 | []=>some []
 | .bool b::r=>(boolsOf r).map (b::·)
 | _::_=>none
theorem i4:∀ {ds:List D}{bs:List Bool},boolsOf ds=some bs->ds=bs.map PyData.bool
 | [],bs,h=>by cases h;rfl
 | d::r,bs,h=>by
  cases d<;>simp only[boolsOf] at h<;>try cases h
  obtain⟨bs',h1,rfl⟩:=ag h
  rw[i4 h1]
  rfl
theorem lL{K:W.Frag}{H:Hp}:∀ {bs:List Bool}{vs:List V},au K H (bs.map PyData.bool) vs->vs=bs.map V.bl
 | [],vs,h=>h.nil_inv
 | b::bs,vs,h=>by
  obtain⟨v,r,rfl,a,c⟩:=h.cons_inv
  simp only[Rep] at a
  rw[a,lL c]
  rfl
theorem lJ:∀ {bs:List Bool}{us:List Value},aF (bs.map V.bl) us->us=bs.map Value.bool
 | [],us,h=>by cases h;rfl
 | b::bs,us,h=>by
  cases h with
  | cons r rr=>cases r;rw[lJ rr];rfl
theorem range_all(bs:List Bool):(List.range bs.length).all (fun i=>bs.getD i false)=bs.all id:=by
 induction bs with
 | nil=>rfl
 | cons b bs ih=>rw[zL,List.range_succ_eq_map,List.all_cons,List.all_map,List.all_cons];simpa [Function.comp_def] using congrArg (b&&·) ih
theorem range_any(bs:List Bool):(List.range bs.length).any (fun i=>bs.getD i false)=bs.any id:=by
 induction bs with
 | nil=>rfl
 | cons b bs ih=>rw[zL,List.range_succ_eq_map,List.any_cons,List.any_map,List.any_cons];simpa [Function.comp_def] using congrArg (b||·) ih
theorem zj(hc:X.calm=true):eA X (.builtin "all") (fun xs H Q=>∃ (a:Addr) (bs:List Bool),xs=[.ref a]/\iV X.K H a (bs.map V.bl)/\Q (.bl (bs.all id)) H):=by
 intro pins s σ H xs us Q I r h
 obtain⟨a,bs,rfl,hq,q⟩:=h
 obtain⟨u,rfl,rx⟩:=vals1 r
 cases rx
 obtain⟨its,rv,pl,hz⟩:=I.list hq
 have hv:=lJ rv
 subst hv
 have hh:X.A.in1.handled=none:=I.ok.hd hc
 refine call_all_walk (wpAny_pyIter_list pl.isList ?_)
 obtain⟨o,ho,hcl,n,hd⟩:=pl.isList
 have hne:a≠s.heap.objs.size:=Nat.ne_of_lt (zZ ho)
 refine⟨_,_,_,_,_,_,fun i=>bs.getD i false,rfl,Walks.list hh s.heap.objs.size a hne (bs.map Value.bool).toArray,⟨⟨_,zY _ rfl,rfl,rfl⟩,pl.isList.push _⟩,fun i v s' Q' E' hP hQ=>?_,fun h' tk kp=>?_⟩
 ·have e:v=Value.bool (bs.getD i false):=by
   have hP:(bs.map Value.bool).toArray[i]?=some v:=hP
   rw[List.getElem?_toArray,zO] at hP
   obtain⟨b,hb,rfl⟩:=ag hP
   rw[zG,hb]
   rfl
  subst e
  exact wpAny_truthy_bool hQ
 ·refine⟨.bl (bs.all id),H,?_,?_,q⟩
  ·exact I.kept (t':=tk) fun b o' e=>kp b o' (by simp;exact Nat.ne_of_lt (zZ e)) (zV _ e)
  ·show Value.bool _=Value.bool _
   have:=range_all bs
   simp only[zH,zD]
   rw[this]
noncomputable def jo:List D->Option D:=fun ds=>(oneOf ds).bind fun d=>match d with
 | .list es=>(boolsOf es).map fun bs=>.bool (bs.all id)
 | _=>none
theorem Ll(hc:X.calm=true)(B:nU X "all" (.builtin "all"))(ha:DA X [e] fs)(he:starEach [e] X.env=(false,eval e X.env)::starEach [] X.env:=by rfl):DE X (.Call (.Name "all" p) [e] [] pos) (bf jo fs) :=
 iM (zj hc) (by
  intro HF H ds vs d Q sm r hg q
  obtain⟨x,hx,hg⟩:=bs hg
  rw[gx hx] at r
  cases x<;>try cases hg
  obtain⟨bs,hb,rfl⟩:=ag hg
  obtain⟨v,r',rfl,a,b⟩:=r.cons_inv
  rw[b.nil_inv]
  simp only[Rep] at a
  obtain⟨p,us,rfl,h,rr⟩:=a
  rw[i4 hb] at rr
  have:=lL rr
  subst this
  exact⟨p,bs,rfl,sm.seq h,q _ H HF (.refl sm) (by simp[Rep])⟩) B ha (by decide) (by decide) he rfl
end
noncomputable abbrev lexLt:=HT.lexLt
theorem gv:∀a:List Int,lexLt a a=false
 | []=>rfl
 | x::a=>by show HT.lexLt (x::a) (x::a)=false;rw[HT.dI,if_pos rfl];exact gv a
theorem eS:∀ {a b c:List Int},lexLt a b=true->lexLt b c=true->lexLt a c=true
 | [],[],_,h,_=>by cases h
 | [],_::_,[],_,h=>by cases h
 | [],_::_,_::_,_,_=>rfl
 | _::_,[],_,h,_=>by cases h
 | _::_,_::_,[],_,h=>by cases h
 | x::a,y::b,z::c,h1,h2=>by
  have h1:HT.lexLt (x::a) (y::b)=true:=h1
  have h2:HT.lexLt (y::b) (z::c)=true:=h2
  show HT.lexLt (x::a) (z::c)=true
  rw[HT.dI] at h1 h2 ⊢
  by_cases e1:x=y
  ·rw[if_pos e1] at h1
   by_cases e2:y=z
   ·rw[if_pos e2] at h2
    rw[if_pos (e1.trans e2)]
    exact eS h1 h2
   ·rw[if_neg e2] at h2
    rw[if_neg (by omega)]
    have:=of_decide_eq_true h2
    exact yB (by omega)
  ·rw[if_neg e1] at h1
   have q1:=of_decide_eq_true h1
   by_cases e2:y=z
   ·rw[if_neg (by omega)]
    exact yB (by omega)
   ·rw[if_neg e2] at h2
    have q2:=of_decide_eq_true h2
    rw[if_neg (by omega)]
    exact yB (by omega)
theorem kR:∀ {a b:List Int},lexLt a b=false->lexLt b a=false->a=b
 | [],[],_,_=>rfl
 | [],_::_,h,_=>by cases h
 | _::_,[],_,h=>by cases h
 | x::a,y::b,h1,h2=>by
  have h1:HT.lexLt (x::a) (y::b)=false:=h1
  have h2:HT.lexLt (y::b) (x::a)=false:=h2
  rw[HT.dI] at h1 h2
  by_cases e:x=y
  ·rw[if_pos e] at h1
   rw[if_pos e.symm] at h2
   rw[e,kR h1 h2]
  ·rw[if_neg e] at h1
   rw[if_neg (fun z=>e z.symm)] at h2
   have:=of_decide_eq_false h1
   have:=of_decide_eq_false h2
   omega
noncomputable def lexLe(a b:List Int):Bool:=!lexLt b a
theorem xw(a b c:List Int)(h1:lexLe a b=true)(h2:lexLe b c=true):lexLe a c=true:=by
 unfold lexLe at *
 rw[Bool.not_eq_true'] at *
 cases e:lexLt c a with
 | false=>rfl
 | true =>
  cases e1:lexLt a b with
  | true=>rw[eS e e1] at h2;cases h2
  | false =>
   have:=kR e1 h1
   subst this
   rw[e] at h2;cases h2
theorem xq(a b:List Int):(lexLe a b||lexLe b a)=true:=by
 unfold lexLe
 cases e1:lexLt b a with
 | false=>rfl
 | true =>
  cases e2:lexLt a b with
  | false=>rfl
  | true=>have:=eS e1 e2;rw[gv] at this;cases this
theorem zg{a b:List Int}(h1:lexLe a b=true)(h2:lexLe b a=true):a=b:=by
 unfold lexLe at *
 rw[Bool.not_eq_true'] at *
 exact kR h2 h1
theorem tN{α:Type}{le:α->α->Bool}(anti:∀a b,le a b=true->le b a=true->a=b):∀ {l m:List α},l.Perm m->l.Pairwise (fun a b=>le a b=true)->m.Pairwise (fun a b=>le a b=true)->l=m
 | [],m,p,_,_=>p.nil_eq
 | a::l,[],p,_,_=>by have:=p.length_eq;simp at this
 | a::l,b::m,p,h1,h2=>by
  obtain⟨h1a,h1b⟩:=List.pairwise_cons.mp h1
  obtain⟨h2a,h2b⟩:=List.pairwise_cons.mp h2
  have e:a=b:=by
   have ha:a∈b::m:=p.mem_iff.mp zE
   have hb:b∈a::l:=p.mem_iff.mpr zE
   rcases zR.mp ha with e|ha
   ·exact e
   ·rcases zR.mp hb with e|hb
    ·exact e.symm
    ·exact anti a b (h1a b hb) (h2a a ha)
  subst e
  rw[tN anti (List.perm_cons a |>.mp p) h1b h2b]
noncomputable def vc(l:List (List Int)):List (List Int):=l.mergeSort lexLe
theorem F5(l:List (List Int)):(vc l).Perm l:=List.mergeSort_perm l lexLe
theorem KC(l:List (List Int)):(vc l).Pairwise (fun a b=>lexLe a b=true):=List.pairwise_mergeSort xw xq l
theorem DH{l m:List (List Int)}(p:l.Perm m)(h:l.Pairwise (fun a b=>lexLe a b=true)):l=vc m:=tN (fun _ _=>zg) (p.trans (F5 m).symm) h (KC m)
noncomputable def rk(l:List (List Int))(a:List Int):Int:=((l.countP fun b=>lexLt b a:Nat):Int)
theorem AB{l:List (List Int)}{a b:List Int}(ha:a∈l):lexLt a b=decide (rk l a < rk l b):=by
 unfold rk
 have mono:∀ {a b:List Int},lexLt a b=true->(l.countP fun c=>lexLt c a)<=l.countP fun c=>lexLt c b:=fun {a b} h=>List.countP_mono_left fun c _ hc=>eS hc h
 have strict:∀ {a b:List Int}(ha:a∈l),lexLt a b=true->(l.countP fun c=>lexLt c a) < l.countP fun c=>lexLt c b:=fun {a b} ha h=>by
  have key:∀m:List (List Int),a∈m->(m.countP fun c=>lexLt c a) < m.countP fun c=>lexLt c b:=fun m hm=>by
   induction m with
   | nil=>cases hm
   | cons x m ih =>
    rw[List.countP_cons,List.countP_cons]
    have mo:(m.countP fun c=>lexLt c a)<=m.countP fun c=>lexLt c b:=List.countP_mono_left fun c _ hc=>eS hc h
    rcases zR.mp hm with e|hm
    ·subst e
     rw[gv,h]
     simp only[Bool.false_eq_true,if_false,if_true]
     omega
    ·have:=ih hm
     by_cases hx:lexLt x a=true
     ·rw[hx,eS hx h];simp only[if_true];omega
     ·have hx':lexLt x a=false:=by simpa using hx
      rw[hx']
      simp only[Bool.false_eq_true,if_false]
      split<;>omega
  exact key l ha
 cases e:lexLt a b with
 | true=>exact (yB (by have:=strict ha e;omega)).symm
 | false =>
  refine (yA ?_).symm
  cases e2:lexLt b a with
  | true=>have:=mono e2;omega
  | false=>rw[kR e e2];omega
section
variable {prog:Program}{w:World}{A:Around}{E:Value->Shared->Prop}{s:Shared}
theorem pX{Q:Bool->Shared->Prop}:∀ {us ws:List Value}{ns ms:List Int}(i:Nat),IntsAre us ns->IntsAre ws ms->Q (lexLt ns ms) s->W.KatLex prog w A true (decide (ns.length < ms.length)) Q (us.zip ws) i s
 | [],[],_,_,i,.nil,.nil,h=>h
 | [],_::_,_,_,i,.nil,.cons _ _ _,h=>by
  show Q (decide (0 < _+1)) s
  rw[yB (Nat.succ_pos _)]
  exact h
 | _::_,[],_,_,i,.cons _ _ _,.nil,h=>by
  show Q (decide (_+1 < 0)) s
  rw[yA (Nat.not_lt_zero _)]
  exact h
 | _::us,_::ws,_,_,i,.cons n t r1,.cons m u r2,h=>by
  have h:Q (HT.lexLt (n::_) (m::_)) s:=h
  rw[HT.dI] at h
  refine W.kat_cons (SeqAt.EqAt.int_int n t m u prog w _ _ ?_)
  cases e:(n == m) with
  | true =>
   have e':n=m:=eq_of_beq e
   rw[if_pos e'] at h
   refine W.kat_yes ?_
   have:=pX (i+1) r1 r2 h
   simp only[zL,Nat.add_lt_add_iff_right]
   exact this
  | false =>
   have e':¬ n=m:=fun q=>by rw[q] at e;simp at e
   rw[if_neg e'] at h
   refine W.kat_no ?_
   by_cases hi:(true&&i == 0)=true
   ·rw[hi]
    exact oneLt_int h
   ·have hi':(true&&i == 0)=false:=by simpa using hi
    rw[hi']
    refine W.kat_one _ _ (lt_int ?_)
    exact h
end
noncomputable def af(ns:List Int):D:=.tuple (ns.map PyData.int)
noncomputable def intsOf:List D->Option (List Int)
 | []=>some []
 | .int n::r=>(intsOf r).map (n::·)
 | _::_=>none
theorem dW:∀ {ds:List D}{ns:List Int},intsOf ds=some ns->ds=ns.map PyData.int
 | [],ns,h=>by cases h;rfl
 | d::r,ns,h=>by
  cases d<;>simp only[intsOf] at h<;>try cases h
  obtain⟨ns',h1,rfl⟩:=ag h
  rw[dW h1]
  rfl
theorem dM:∀ns:List Int,intsOf (ns.map PyData.int)=some ns
 | []=>rfl
 | n::ns=>by simp[intsOf,dM ns]
noncomputable def Bz:D->Option (List Int)|.tuple ds=>(intsOf ds).bind fun ns=>if ns=[] then none else some ns|_=>none
theorem yy{d:D}{ns:List Int}(h:Bz d=some ns):d=af ns/\ns≠[]:=by
 cases d<;>try cases h
 obtain⟨ms,h1,h2⟩:=bs h
 split at h2
 ·cases h2
 ·rename_i hn
  cases h2
  rw[dW h1]
  exact⟨rfl,hn⟩
theorem CO{ns:List Int}(h:ns≠[]):Bz (af ns)=some ns:=by
 unfold af Bz
 simp only[dM,zA]
 rw[if_neg h]
noncomputable def rowsOf:List D->Option (List (List Int))
 | []=>some []
 | d::r=>(Bz d).bind fun ns=>(rowsOf r).map (ns::·)
theorem jO:∀ {ds:List D}{nss:List (List Int)},rowsOf ds=some nss->ds=nss.map af/\∀ns∈nss,ns≠[]
 | [],nss,h=>by cases h;exact⟨rfl,fun _ z=>by cases z⟩
 | d::r,nss,h=>by
  obtain⟨ns,h1,h⟩:=bs h
  obtain⟨rest,h2,rfl⟩:=ag h
  obtain⟨e,hn⟩:=yy h1
  obtain⟨e2,hn2⟩:=jO h2
  refine⟨by rw[e,e2];rfl,fun m hm=>?_⟩
  rcases zR.mp hm with q|q
  ·subst q;exact hn
  ·exact hn2 m q
theorem lH:∀ {nss:List (List Int)},(∀ns∈nss,ns≠[])->rowsOf (nss.map af)=some nss
 | [],_=>rfl
 | ns::r,h=>by
  simp only[zI,rowsOf,CO (h ns zE),zA,lH fun m hm=>h m (zC _ hm),zB]
structure wg(h:Heap)(v:Value)(ns:List Int):Prop where
 ex:∃ (a:Addr) (o:Obj) (its:Array Value) (n:Nat),v=.ref a/\h.get? a=some o/\o.cls=.type "tuple"/\o.data=.seq its n/\IntsAre its.toList ns
theorem wg.keep{h h':Heap}{v:Value}{ns:List Int}(r:wg h v ns)(k:∀b o,h.get? b=some o->h'.get? b=some o):wg h' v ns:=let ⟨a,o,its,n,e,e1,e2,e3,e4⟩:=r.ex;⟨a,o,its,n,e,k _ _ e1,e2,e3,e4⟩
section
variable {prog:Program}{w:World}{A:Around}{E:Value->Shared->Prop}{s:Shared}
theorem qC{h:Heap}:∀ {vs:List Value}{nss:List (List Int)},Paired (wg h) vs nss->(∀ns∈nss,ns≠[])->∃fs:List Value,W.KatTups h vs fs/\fs.length=vs.length/\∀f∈fs,∃n t,f=Value.int n t
 | _,_,.nil,_=>⟨[],trivial,rfl,fun _ z=>by cases z⟩
 | _,_,.cons (a:=v) (b:=ns) r p,hn=>by
  obtain⟨fs,h1,h2,h3⟩:=qC p fun m hm=>hn m (zC _ hm)
  obtain⟨a,o,its,n,rfl,e1,e2,e3,e4⟩:=r.ex
  cases hits:its.toList with
  | nil =>
   rw[hits] at e4
   cases e4
   exact absurd rfl (hn [] zE)
  | cons f rest =>
   rw[hits] at e4
   cases e4 with
   | cons m t e5 =>
    have h0:its[0]?=some (.int m t):=by
     have:its.toList[0]?=some (Value.int m t):=by rw[hits];rfl
     simpa using this
    exact⟨.int m t::fs,W.KatTups.cons e1 e2 e3 h0 h1,by simp[h2],fun g hg=>by
     rcases zR.mp hg with q|q
     ·exact⟨m,t,q⟩
     ·exact h3 g q⟩
theorem gA{α β:Type}{R:α->β->Prop}{d:α}{d':β}:∀ {l:List α}{m:List β}{i:Nat},Paired R l m->i < l.length->R (l.getD i d) (m.getD i d')
 | _,_,i,.nil,h=>by simp at h
 | _,_,0,.cons r _,_=>r
 | _,_,i+1,.cons _ p,h=>by simpa using gA (i:=i) (d:=d) (d':=d') p (by simpa using h)
theorem xS{l:Addr}{vs:List Value}{nss:List (List Int)}{Q:Value->Shared->Prop}(hl:s.heap.IsList l vs.toArray)(hp:Paired (wg s.heap) vs nss)(hn:∀ns∈nss,ns≠[])(h64:vs.length < 64)
  (h:∀ (h':Heap) (D:Addr) (c:Nat),(∀b o,s.heap.get? b=some o->h'.get? b=some o)->s.heap.objs.size<=D->h'.get? D=some (seqObj "list" (Srt.outV (fun i=>rk nss (nss.getD i [])) vs).toArray c)->Q (.ref D) { s with heap:=h' }) :
  wpAny (model prog w) A (call (.builtin "sorted") [.ref l]) Q E s:=by
 refine Srt.sortedG hl h64 (fun i=>rk nss (nss.getD i [])) (tuples' true) (fun h2 h' kp Q' q=>?_) (fun h2 h' kp i j C hi hj q=>?_) h
 ·have hp':Paired (wg h') vs nss:=Paired.mapP hp fun _ _ r=>r.keep kp
  obtain⟨fs,t,hlen,hf⟩:=qC hp' hn
  refine W.kat_kind (s:={ s with heap:=h' }) (T:=.type "int") t (by omega) (fun v hv=>?_) (by decide) q
  obtain⟨n,t,rfl⟩:=hf v hv
  exact W.Looks.of_pure rfl
 ·have ri:=(gA (d:=Value.none) (d':=[]) hp hi).keep kp
  have rj:=(gA (d:=Value.none) (d':=[]) hp hj).keep kp
  have hlen:=hp.length
  obtain⟨a,o,its,n,ea,e1,e2,e3,e4⟩:=ri.ex
  obtain⟨b,o',its',n',eb,f1,f2,f3,f4⟩:=rj.ex
  unfold W.kas_ask
  rw[ea,eb]
  have hmem:nss.getD i []∈nss:=by
   rw[zG,zK (by omega)]
   exact List.getElem_mem _
  have q':C (lexLt (nss.getD i []) (nss.getD j [])) { s with heap:=h' }:=by
   rw[AB hmem]
   exact q
  refine W.kat_lt (s:={ s with heap:=h' }) e1 e3 f1 f3 ?_
  have:=pX (prog:=prog) (w:=w) (A:=A.in1.in1) (s:={ s with heap:=h' }) 0 e4 f4 q'
  have l1:its.size=(nss.getD i []).length:=by have:=IntsAre.length e4;simpa using this
  have l2:its'.size=(nss.getD j []).length:=by have:=IntsAre.length f4;simpa using this
  rw[l1,l2]
  exact this
end
noncomputable def oS{α:Type}(z:Nat->Int)(l:List α)(d:α):List α:=if l.length < 2 then l else (SP.run (SP.eK z) (W.kas_sort l.length)).toList.map fun i=>l.getD i d
theorem j3{α:Type}(l:List α)(d:α):(List.range l.length).map (fun i=>l.getD i d)=l:=by
 apply List.ext_getElem
 ·simp
 ·intro i h1 h2
  simp[h2]
theorem gG{α:Type}(z:Nat->Int)(l:List α)(d:α):(oS z l d).Perm l:=by
 unfold oS
 split
 ·exact List.Perm.refl _
 ·rename_i h
  have:=((SP.gU (z:=z) (n:=l.length) (by omega)).1).map fun i=>l.getD i d
  rw[j3] at this
  exact this
theorem IV(nss:List (List Int)):oS (fun i=>rk nss (nss.getD i [])) nss []=vc nss:=by
 refine DH (gG _ _ _) ?_
 unfold oS
 split
 ·rename_i h
  match nss,h with
  | [],_=>exact List.Pairwise.nil
  | [a],_=>exact List.pairwise_singleton _ _
 ·rename_i h
  obtain⟨hp,hs⟩:=SP.gU (z:=fun i=>rk nss (nss.getD i [])) (n:=nss.length) (by omega)
  rw[List.pairwise_map] at hs ⊢
  refine hs.imp_of_mem fun {i j} hi hj hij=>?_
  have hj':j < nss.length:=by have:=hp.mem_iff.mp hj;simpa using this
  unfold lexLe
  rw[AB (l:=nss) (a:=nss.getD j []) (by rw[zG,zK hj'];exact List.getElem_mem _)]
  simp only[Bool.not_eq_true',decide_eq_false_iff_not]
  omega
section
variable {X:Cx}
theorem pK{K:W.Frag}{HF:Hp}{ds:List D}{vs:List V}(z:Nat->Int)(r:au K HF ds vs):au K HF (oS z ds .none) (oS z vs .non):=by
 unfold oS
 rw[r.length]
 split
 ·exact r
 ·rename_i h
  obtain⟨hp,_⟩:=SP.gU (z:=z) (n:=ds.length) (by omega)
  have key:∀l:List Nat,(∀i∈l,i < ds.length)->au K HF (l.map fun i=>ds.getD i .none) (l.map fun i=>vs.getD i .non):=fun l=>by
   induction l with
   | nil=>exact fun _=>au.nil
   | cons i l ih =>
    intro hl
    have hi:=hl i zE
    obtain⟨v,e1,e2⟩:=r.getD (zK hi)
    refine au.cons ?_ (ih fun j hj=>hl j (zC _ hj))
    dsimp only
    rw[zG,zG,e1,zK hi]
    exact e2
  exact key _ fun i hi=>by have:=hp.mem_iff.mp hi;simpa using this
theorem qT{vs:List V}{us:List Value}(z:Nat->Int)(r:aF vs us):aF (oS z vs .non) (Srt.outV z us):=by
 unfold oS Srt.outV
 rw[r.length]
 split
 ·exact r
 ·rename_i h
  obtain⟨hp,_⟩:=SP.gU (z:=z) (n:=us.length) (by omega)
  have key:∀l:List Nat,(∀i∈l,i < vs.length)->aF (l.map fun i=>vs.getD i .non) (l.map fun i=>us.getD i Value.none):=fun l=>by
   induction l with
   | nil=>exact fun _=>.nil
   | cons i l ih =>
    intro hl
    have hi:=hl i zE
    obtain⟨v,e1,e2⟩:=r.get (zK hi)
    refine .cons ?_ (ih fun j hj=>hl j (zC _ hj))
    dsimp only
    rw[zG,zG,e1,zK hi]
    exact e2
  exact key _ fun i hi=>by have:=hp.mem_iff.mp hi;rw[r.length];simpa using this
theorem IE(z:Nat->Int)(nss:List (List Int)):oS z (nss.map af) .none=(oS z nss []).map af:=by
 unfold oS
 rw[zD]
 split
 ·rfl
 ·rename_i h
  rw[zM]
  obtain⟨hp,_⟩:=SP.gU (z:=z) (n:=nss.length) (by omega)
  refine yI fun i hi=>?_
  have hi':i < nss.length:=by have:=hp.mem_iff.mp hi;simpa using this
  simp[hi']
theorem mC{pins:List (Addr×Obj)}{σ:L2.St}{H HF:Hp}{s:Shared}(I:Inv X pins σ H s)(sm:aZ HF H):∀ {nss:List (List Int)}{vs:List V}{us:List Value},au X.K HF (nss.map af) vs->aF vs us->Paired (wg s.heap) us nss
 | [],_,_,h,r=>by rw[h.nil_inv] at r;cases r;exact .nil
 | ns::nss,_,_,h,r=>by
  obtain⟨v,vr,rfl,a,b⟩:=h.cons_inv
  cases r with
  | cons r rr =>
   refine .cons ?_ (mC I sm b rr)
   unfold af at a
   simp only[Rep] at a
   obtain⟨p,ws,rfl,hs,rw'⟩:=a
   cases r
   obtain⟨its,rv,⟨o,ho,hc,n,hd⟩,_⟩:=I.tuple (aB sm hs)
   have:ws=ns.map V.int:=by
    have key:∀ {ns:List Int}{ws:List V},au X.K HF (ns.map PyData.int) ws->ws=ns.map V.int:=fun {ns}=>by
     induction ns with
     | nil=>exact fun h=>h.nil_inv
     | cons n ns ih =>
      intro ws h
      obtain⟨v,r,rfl,a,b⟩:=h.cons_inv
      simp only[Rep] at a
      rw[a,ih b]
      rfl
    exact key rw'
   subst this
   exact⟨p,o,its.toArray,n,rfl,ho,hc,hd,intsAre_of rv⟩
theorem mU:eA X (.builtin "sorted") (fun xs H Q=>∃ (HF:Hp) (a:Addr) (vs:List V) (nss:List (List Int)),xs=[.ref a]/\aZ HF H/\iV X.K HF a vs/\au X.K HF (nss.map af) vs/\(∀ns∈nss,ns≠[])/\nss.length < 64 /\
  ∀ (Dn:Addr) (us:List V),H Dn=none->au X.K HF ((vc nss).map af) us->Q (.ref Dn) (upd H Dn (.lst us))):=by
 intro pins s σ H xs us Q I r h
 obtain⟨HF,a,vs,nss,rfl,sm,hq,rr,hn,h64,q⟩:=h
 obtain⟨u,rfl,rx⟩:=vals1 r
 cases rx
 obtain⟨its,rv,pl,hz⟩:=I.list (sm.seq hq)
 have hl1:=rr.length
 rw[zD] at hl1
 refine xS pl.isList (mC I sm rr rv) hn (by have:=rv.length;omega) fun h' Dn c kp hD e=>?_
 have hv:=qT (fun i=>rk nss (nss.getD i [])) rv
 have hr:=pK (fun i=>rk nss (nss.getD i [])) rr
 rw[IE,IV] at hr
 refine⟨.ref Dn,_,I.laid (t':=s.toks) (o:=.lst (oS (fun i=>rk nss (nss.getD i [])) vs .non)) kp hD ⟨?_,_,c,hv,e⟩,rfl,q Dn _ (I.hok.fresh hD) hr⟩
 rw[(gG _ _ _).length_eq]
 exact hz
noncomputable def gH:List D->Option (List D):=fun ds=>(oneOf ds).bind fun d=>match d with
 | .list es=>(rowsOf es).bind fun nss=>if nss.length < 64 then some ((vc nss).map af) else none
 | _=>none
variable {e:Expr}{fs:Env->Option (List D)}{p pos:Pos}
theorem Cu(B:nU X "sorted" (.builtin "sorted"))(ha:DA X [e] fs)(he:starEach [e] X.env=(false,eval e X.env)::starEach [] X.env:=by rfl):DF X (.Call (.Name "sorted" p) [e] [] pos) (mV gH fs) :=
 Ge mU (by
  intro HF H ds vs d Q sm r hg q
  obtain⟨x,hx,hg⟩:=bs hg
  rw[gx hx] at r
  cases x<;>try cases hg
  obtain⟨nss,hb,hg⟩:=bs hg
  split at hg
  ·rename_i h64
   cases hg
   obtain⟨v,r',rfl,a,b⟩:=r.cons_inv
   rw[b.nil_inv]
   simp only[Rep] at a
   obtain⟨p,us,rfl,h,rr⟩:=a
   obtain⟨e1,e2⟩:=jO hb
   rw[e1] at rr
   exact⟨HF,p,us,nss,rfl,sm,h,rr,e2,h64,fun Dn ws hD hr=>q Dn ws _ HF (.own sm hD) hD (sm.free hD) aL hr⟩
  ·cases hg) B ha (by decide) (by decide) he rfl
end
end Dl
namespace En
open PySem PyProof.Rows
open AutoSeq1 (wpAny_loadPart')
section
variable {prog:Program}{w:World}{A:Around}{E:Value->Shared->Prop}{s:Shared}
theorem nextT_item{j t:Addr}{k:Nat}{its:Array Value}{v:Value}{Q:Value->Shared->Prop}(hj:s.heap.IsTupleIter j t k)(ht:s.heap.IsTuple t its)(hv:its[k]?=some v)
  (hQ:∀g,g.IsTupleIter j t (k+1)->Heap.SameBut j s.heap g->Q v { s with heap:=g }):wpAny (model prog w) A (Builtin.SmallTypes.nextOf (.ref j)) Q E s:=by
 obtain⟨oj,gj,cj,dj⟩:=id hj
 obtain⟨ot,gt,_,nt,dt⟩:=ht
 unfold Builtin.SmallTypes.nextOf
 refine zW (wpAny_callSpecial?_slot (name:=Str.ofString "__next__") hj.typeIs F.slot_tuple_iterator_next (wpAny_call_entry F.slot_tuple_iterator_next hj.typeIs F.entry_tuple_iterator_next ?_ (F.args_tuple_iterator_next_1 _)))
 refine zW (m:=field (.ref j) 0) (wpAny_field gj dj (x:=.ref t) rfl ?_)
 show wpAny _ _ (if (Value.ref t == Value.none)=true then _ else _) _ _ s
 rw[if_neg (show ¬ ((Value.ref t == Value.none)=true) by exact Bool.false_ne_true)]
 refine zW (m:=field (.ref j) 1) (wpAny_field gj dj (x:=.int k 0) rfl ?_)
 refine zW (m:=seqItems? (.ref t)) (wpAny_seqItems gt dt ?_)
 simp only[yH,hv]
 refine zW (wpAny_setField gj dj (by simp) (zX ⟨v,rfl,zX (hQ _ ⟨_,Heap.get?_update_self _ gj (Obj.isFreed_of_fields (Obj.data_mapFields dj _)),(Obj.cls_mapFields ..).trans cj,?_⟩ (Heap.SameBut.update ..))⟩))
 rw[Obj.data_mapFields dj];simp[rawInt]
theorem nextT_end{j t:Addr}{k:Nat}{its:Array Value}{Q:Value->Shared->Prop}(hh:A.handled=none)(hj:s.heap.IsTupleIter j t k)(ht:s.heap.IsTuple t its)(hv:its[k]?=none)
  (hE:∀g x,Heap.ExtBut j s.heap g->(∃o,g.get? x=some o/\o.cls=.type "StopIteration")->E (.ref x) { s with heap:=g }):wpAny (model prog w) A (Builtin.SmallTypes.nextOf (.ref j)) Q E s:=by
 obtain⟨oj,gj,cj,dj⟩:=id hj
 obtain⟨ot,gt,_,nt,dt⟩:=ht
 unfold Builtin.SmallTypes.nextOf
 refine zW (wpAny_callSpecial?_slot (name:=Str.ofString "__next__") hj.typeIs F.slot_tuple_iterator_next (wpAny_call_entry F.slot_tuple_iterator_next hj.typeIs F.entry_tuple_iterator_next ?_ (F.args_tuple_iterator_next_1 _)))
 refine zW (m:=field (.ref j) 0) (wpAny_field gj dj (x:=.ref t) rfl ?_)
 show wpAny _ _ (if (Value.ref t == Value.none)=true then _ else _) _ _ s
 rw[if_neg (show ¬ ((Value.ref t == Value.none)=true) by exact Bool.false_ne_true)]
 refine zW (m:=field (.ref j) 1) (wpAny_field gj dj (x:=.int k 0) rfl ?_)
 refine zW (m:=seqItems? (.ref t)) (wpAny_seqItems gt dt ?_)
 simp only[yH,hv]
 refine zW (wpAny_rule (zW (wpAny_setField gj dj (by simp) (zW (m:=newExc (.type "StopIteration") []) ?_))))
 simp only[newExc,newTuple]
 refine zW (wpAny_newObj_type (zW (m:=firstArgMember _ _) (wpAny_of_eq (a:=Value.none) (by first|rfl|(simp only[firstArgMember];rfl)) ?_)) (by size_fits))
 refine wpAny_newObj_type ?_ (by size_fits);simp only[raiseNew]
 refine zW (wpAny_handled ?_)
 first|rw[show A.in1.handled=none from hh]|rw[hh]
 exact zW (zX (wpAny_throw (hE _ _ (((Heap.SameBut.update ..).extBut.push _).push _) ⟨_,zY _ rfl,rfl⟩)))
theorem meets_enumT(t:Addr)(its:Array Value)(n:Nat)(dd:Option Addr)(sl:Array (Option Value)) :
  Meets (Builtin.«enumerate.__new__» ⟨[.type "enumerate",.ref t],[]⟩) (fun _ R s=>s.heap.get? t=some { cls:=.type "tuple",dict:=dd,data:=.seq its n,slots:=sl } /\
   R (.ok (.ret (.ref (s.heap.push { cls:=.type "tuple_iterator",data:=.fields #[.ref t,.int 0 0] }).objs.size)))
    { s with heap:=(s.heap.push { cls:=.type "tuple_iterator",data:=.fields #[.ref t,.int 0 0] }).push { cls:=.type "enumerate",data:=.fields #[.none,.bool false,.ref s.heap.objs.size,rawInt 0,.none,.none] } }) :=
 .of_wp fun prog w A R s h=>by
  obtain⟨hp,g,d,tk,os⟩:=s
  obtain⟨hl,h⟩:=h
  have hsub:=sub_enumerate
  have hL:Heap.IsTuple (Shared.heap ⟨hp,g,d,tk,os⟩) t its:=⟨_,hl,rfl,n,rfl⟩
  wp_walk using wpAny_loadPart' hl
  refine wpAny_stack_any fun st=>zX ?_
  split
  ·rename_i c _ _ _ _ _
   cases (c == Value.type "enumerate")
   ·wp_walk using wpAny_loadPart' hl,wpAny_pyIter_tuple hL
    exact⟨_,rfl,h⟩
   ·wp_walk using wpAny_loadPart' hl,wpAny_pyIter_tuple hL
    exact⟨_,rfl,h⟩
  ·wp_walk using wpAny_loadPart' hl,wpAny_pyIter_tuple hL
   exact⟨_,rfl,h⟩
theorem call_enumT{t:Addr}{its:Array Value}{Q:Value->Shared->Prop}(ht:s.heap.IsTuple t its)
  (h:∀h',IsEnum h' (s.heap.objs.size+1) s.heap.objs.size 0 .none->h'.IsTupleIter s.heap.objs.size t 0->h'.objs.size=s.heap.objs.size+2->(∀b o,s.heap.get? b=some o->h'.get? b=some o)->Q (.ref (s.heap.objs.size+1)) { s with heap:=h' }) :
  wpAny (model prog w) A (call (.type "enumerate") [.ref t]) Q E s:=by
 obtain⟨⟨c,dct,dt,sl⟩,hl,hc,n,hd⟩:=ht
 simp only at hc hd
 subst hc hd
 refine callType_new F.called_enumerate (by decide) (F.typeCall_enumerate_1 _) (F.newCall_enumerate_1 _) (fun obj=>F.args_object_init_2 obj _) F.entry_enumerate_new (meets_enumT t its n dct sl) ⟨hl,?_⟩
 have hz:(s.heap.push { cls:=.type "tuple_iterator",data:=.fields #[.ref t,.int 0 0] }).objs.size=s.heap.objs.size+1:=by rw[Heap.size_push]
 have he:=zY (s.heap.push { cls:=.type "tuple_iterator",data:=.fields #[.ref t,.int 0 0] }) (o:={ cls:=.type "enumerate",data:=.fields #[.none,.bool false,.ref s.heap.objs.size,rawInt 0,.none,.none] }) rfl
 show _/\_
 rw[hz] at he ⊢
 refine⟨⟨_,he,rfl⟩,h _ he ⟨_,zV _ (zY _ rfl),rfl,rfl⟩ ?_ fun b o x=>zV _ (zV _ x)⟩
 show (Heap.push _ _).objs.size=_
 rw[Heap.size_push,hz]
end
end En
namespace Dl
open PySem L2 PySem.Spec PyProof.Rows
section
variable {X:Cx}{pins:List (Addr×Obj)}{σ:L2.St}{H:Hp}{s:Shared}{h':Heap}{t':Nat}{ch:List Addr}
theorem wH(I:Inv X pins σ H s)(hch:∀b∈ch,cI X pins H b)(k:∀b o,b∉ch->s.heap.get? b=some o->h'.get? b=some o){T:Addr}{vals:List Value}{xs:List V}(hT:s.heap.objs.size<=T)(ht:m7 h' T vals.toArray)
  (rv:aF xs vals) (hz:xs.length<=sizeLine):Inv X pins σ (upd H T (.tup xs)) { s with heap:=h',toks:=t' }:=by
 have nT:H T=none:=I.hok.fresh hT
 have ne:∀b o,s.heap.get? b=some o->b≠T:=fun b o e=>Nat.ne_of_lt (zP (zZ e) hT)
 have ne2:∀b o,H b=some o->b≠T:=fun b o e=>aQ e nT
 have nch:∀b o,H b=some o->b∉ch:=fun b o e z=>by rw[(hch b z).1] at e;cases e
 refine I.step (g':=s.gens) (d':=s.drawn) (ch:=ch) (fun b hb=>?_) (fun b o _ _ hc e _=>k b o hc e) (fun b o _ _ hc e _=>⟨o.slots,k b o hc e⟩) (fun b o _ e n=>by rw[aE (ne b o e)];exact n)
  (fun b o hc e=>⟨o,k b o hc e⟩) (fun b ys e=>by rw[aE (ne2 b _ e)];exact e) (fun b o u e=>by rw[aE (ne2 b _ e)];exact e) (.kept (fun b u ⟨q,z⟩ e=>k b u (nch b _ z) e) fun b u e _=>by rw[aE (ne2 b _ e)];exact e) (fun m hm=>?_) (fun b u e=>?_) I.bare
 ·obtain⟨f0,f1,f2,f3,f4,f5⟩:=hch b hb
  exact⟨f3,f1,f4,f5⟩
 ·obtain⟨o,es,ep,ho,r⟩:=hm
  exact⟨o,es,ep,k _ o (fun z=>(hch _ z).2.1 rfl) ho,r⟩
 ·by_cases hb:b=T
  ·subst hb
   rw[aL] at e
   cases e
   exact⟨hz,vals,rv,ht⟩
  ·rw[aE hb] at e
   refine (I.hok b u e).stay (fun c v hc q=>k c v ?_ q) (fun _ q=>?_) fun c v q _=>?_
   ·rcases hc with z|z
    ·rw[z];exact nch b u e
    ·exact nch c _ z
   all_goals first
    | (rw[aE (ne2 _ _ q)];exact q)
    | exact q
theorem MR(I:Inv X pins σ H s){a b:Addr}{o:Obj}(hf:cI X pins H b)(h:X.K.lookup a=some o):a≠b:=by
 rintro rfl
 have hb:=I.ok.mod.kin a o h
 rcases hf.2.2.2.1 with z|z
 ·exact I.ok.noex a o hb z
 ·exact absurd (zP (zZ (I.ok.bs a o hb).1) z) (Nat.lt_irrefl _)
theorem KM(I:Inv X pins σ H s){a b:Addr}{xs:List V}(hf:cI X pins H b)(h:iV X.K H a xs):a≠b:=by
 rcases h with (h|⟨o,h⟩)|⟨o,its,n,h,_⟩
 ·exact aQ h hf.1
 ·exact aQ h hf.1
 ·exact MR I hf h
theorem Ko(I:Inv X pins σ H s){a b:Addr}{xs:List V}(hf:cI X pins H b)(h:ju X.K H a xs):a≠b:=by
 rcases h with (h|⟨o,h⟩)|⟨o,its,n,h,_⟩
 ·exact aQ h hf.1
 ·exact aQ h hf.1
 ·exact MR I hf h
end
noncomputable def Od(sq:Hp->List V->Prop):It:=⟨fun i H=>∃xs x,sq H xs/\xs[i]?=some x,fun i H v H'=>∃T y,v=.ref T/\H T=none/\H'=upd H T (.tup [.int (i:Nat),y])/\∀xs,sq H xs->xs[i]?=some y,fun i H=>∃xs,sq H xs/\xs.length<=i⟩
noncomputable def bJ(k:Nat):List D->List D
 | []=>[]
 | d::ds=>.tuple [.int (k:Nat),d]::bJ (k+1) ds
theorem tV:∀ {ds:List D}{k i:Nat}{d:D},(bJ k ds)[i]?=some d->∃x,ds[i]?=some x/\d=.tuple [.int ((k+i:Nat):Int),x]
 | [],k,i,d,h=>by simp[bJ] at h
 | x::ds,k,0,d,h=>by simp[bJ] at h;exact⟨x,rfl,h.symm⟩
 | x::ds,k,i+1,d,h=>by
  simp only[bJ,List.getElem?_cons_succ] at h
  obtain⟨y,h1,h2⟩:=tV h
  refine⟨y,by simpa using h1,?_⟩
  rw[h2,show k+1+i=k+(i+1) by omega]
theorem kn:∀ (ds:List D) (k:Nat),(bJ k ds).length=ds.length
 | [],k=>rfl
 | x::ds,k=>by simp[bJ,kn ds (k+1)]
theorem CK{K:W.Frag}{HF:Hp}{sq:Hp->List V->Prop}{ds:List D}{vs:List V}(h:sq HF vs)(mo:∀H H',aZ H H'->sq H vs->sq H' vs)(r:au K HF ds vs):tU K (Od sq) HF (bJ 0 ds) where
 go:=fun i d H₁ HF₁ e s1 s2=>by
  obtain⟨x,hx,rfl⟩:=tV e
  rw[Nat.zero_add]
  obtain⟨v,hv,rv⟩:=r.getD hx
  have q:=mo _ _ s2 (mo _ _ s1 h)
  refine⟨⟨vs,v,q,hv⟩,fun y H₂ ⟨T,z,e1,hT,e2,hy⟩=>?_⟩
  have:=hy vs q
  rw[hv] at this
  cases this
  subst e1 e2
  exact⟨_,.new s2 hT,cZ (s2.free hT) (au.cons (by simp[Rep]) (au.cons (rv.mono s1) au.nil))⟩
 stop:=fun H₁ HF₁ s1 s2=>⟨vs,mo _ _ s2 (mo _ _ s1 h),by rw[kn,r.length];exact Nat.le_refl _⟩
noncomputable def OK(sq1 sq2:Hp->List V->Prop):It:=⟨fun i H=>∃xs ys x y,sq1 H xs/\sq2 H ys/\xs[i]?=some x/\ys[i]?=some y,
 fun i H v H'=>∃T x y,v=.ref T/\H T=none/\H'=upd H T (.tup [x,y])/\(∀xs,sq1 H xs->xs[i]?=some x)/\∀ys,sq2 H ys->ys[i]?=some y,
 fun i H=>∃xs ys,sq1 H xs/\sq2 H ys/\(xs.length<=i\/ys.length<=i)⟩
section
variable {X:Cx}{pins:List (Addr×Obj)}{σ:L2.St}{H:Hp}{s:Shared}{h':Heap}{t':Nat}{ch:List Addr}
theorem BN(I:Inv X pins σ H s)(hch:∀b∈ch,cI X pins H b)(k:∀b o,b∉ch->s.heap.get? b=some o->h'.get? b=some o):Inv X pins σ H { s with heap:=h',toks:=t' }:=by
 have nch:∀b o,H b=some o->b∉ch:=fun b o e z=>by rw[(hch b z).1] at e;cases e
 refine I.step (g':=s.gens) (d':=s.drawn) (ch:=ch) (fun b hb=>?_) (fun b o _ _ hc e _=>k b o hc e) (fun b o _ _ hc e _=>⟨o.slots,k b o hc e⟩) (fun b o _ e n=>n)
  (fun b o hc e=>⟨o,k b o hc e⟩) (fun b ys e=>e) (fun b o u e=>e) (.kept (fun b u ⟨q,z⟩ e=>k b u (nch b _ z) e) fun b u e _=>e) (fun m hm=>?_) (fun b u e=>?_) I.bare
 ·obtain⟨f0,f1,f2,f3,f4,f5⟩:=hch b hb
  exact⟨f3,f1,f4,f5⟩
 ·obtain⟨o,es,ep,ho,r⟩:=hm
  exact⟨o,es,ep,k _ o (fun z=>(hch _ z).2.1 rfl) ho,r⟩
 ·refine (I.hok b u e).stay (fun c v hc q=>k c v ?_ q) (fun _ q=>q) fun c v q _=>q
  rcases hc with z|z
  ·rw[z];exact nch b u e
  ·exact nch c _ z
end
structure O3(z TI TO i1 i2:Addr):Prop where
 a1:TI≠z
 a2:TO≠z
 a3:i1≠z
 a4:i2≠z
 a5:TI≠TO
 a6:TI≠i1
 a7:TI≠i2
 a8:TO≠i1
 a9:TO≠i2
 a0:i1≠i2
section
variable {X:Cx}{l l':Expr}{fs:Env->Option (List D)}{elts:List Expr}{k:Nat}{pos p tp:Pos}
noncomputable def ja:List D->List D->List D
 | x::xs,y::ys=>.tuple [x,y]::ja xs ys
 | _,_=>[]
theorem p7:∀ {xs ys:List D}{i:Nat}{d:D},(ja xs ys)[i]?=some d->∃x y,xs[i]?=some x/\ys[i]?=some y/\d=.tuple [x,y]
 | [],_,i,d,h=>by simp[ja] at h
 | _::_,[],i,d,h=>by simp[ja] at h
 | x::xs,y::ys,0,d,h=>by simp[ja] at h;exact⟨x,y,rfl,rfl,h.symm⟩
 | x::xs,y::ys,i+1,d,h=>by
  simp only[ja,List.getElem?_cons_succ] at h
  obtain⟨a,b,h1,h2,h3⟩:=p7 h
  exact⟨a,b,by simpa using h1,by simpa using h2,h3⟩
theorem l9:∀ (xs ys:List D),(ja xs ys).length=min xs.length ys.length
 | [],_=>by simp[ja]
 | _::_,[]=>by simp[ja]
 | x::xs,y::ys=>by simp[ja,l9 xs ys]
theorem F2{K:W.Frag}{HF:Hp}{sq1 sq2:Hp->List V->Prop}{xs ys:List D}{vs us:List V}(h1:sq1 HF vs)(mo1:∀H H',aZ H H'->sq1 H vs->sq1 H' vs)(h2:sq2 HF us)(mo2:∀H H',aZ H H'->sq2 H us->sq2 H' us)(r1:au K HF xs vs)(r2:au K HF ys us) :
  tU K (OK sq1 sq2) HF (ja xs ys) where
 go:=fun i d H₁ HF₁ e s1 s2=>by
  obtain⟨x,y,hx,hy,rfl⟩:=p7 e
  obtain⟨v,hv,rv⟩:=r1.getD hx
  obtain⟨u,hu,ru⟩:=r2.getD hy
  have q1:=mo1 _ _ s2 (mo1 _ _ s1 h1)
  have q2:=mo2 _ _ s2 (mo2 _ _ s1 h2)
  refine⟨⟨vs,us,v,u,q1,q2,hv,hu⟩,fun w H₂ ⟨T,a,b,e1,hT,e2,ha,hb⟩=>?_⟩
  have ea:=ha vs q1
  have eb:=hb us q2
  rw[hv] at ea
  rw[hu] at eb
  cases ea
  cases eb
  subst e1 e2
  exact⟨_,.new s2 hT,cZ (s2.free hT) (au.cons (rv.mono s1) (au.cons (ru.mono s1) au.nil))⟩
 stop:=fun H₁ HF₁ s1 s2=>⟨vs,us,mo1 _ _ s2 (mo1 _ _ s1 h1),mo2 _ _ s2 (mo2 _ _ s1 h2),by rw[l9,r1.length,r2.length];omega⟩
end
noncomputable def cut{α:Type}(xs:List α)(lo hi:Option Int):List α:=(xs.drop (HT.dS xs.length 0 lo)).take (HT.dS xs.length xs.length hi - HT.dS xs.length 0 lo)
theorem HA{α:Type}(xs:List α)(lo hi:Option Int):(cut xs lo hi).length<=xs.length:=by
 unfold cut;rw[List.length_take,List.length_drop];omega
theorem qm{K:W.Frag}{H:Hp}{ds:List D}{vs:List V}(r:au K H ds vs)(lo hi:Option Int):au K H (cut ds lo hi) (cut vs lo hi):=by
 unfold cut;rw[r.length];exact (r.drop _).take _
section
variable {X:Cx}
theorem Cv{prog:Program}{w:World}{A:Around}{E:Value->Shared->Prop}{s:Shared}{t sl:Addr}{its:Array Value}{vl vu:Value}{lo hi:Option Int}{Q:Value->Shared->Prop}(ht:IsTup s.heap t its)(hs:s.heap.IsSliceOf sl vl vu .none)(pl:IsPart vl lo)(pu:IsPart vu hi)
  (hw:HT.dS its.size 0 lo=0/\HT.dS its.size its.size hi=its.size) (h:Q (.ref t) s):wpAny (model prog w) A (getItem (.ref t) (.ref sl)) Q E s:=by
 obtain⟨os,hos,hcs,hds⟩:=id hs
 have hTs:s.TypeIs (.ref sl) "slice":=⟨os,hos,hcs⟩
 unfold getItem
 try with_reducible refine wpAny_holding ?_
 first|refine zW (zX ?_)|skip
 refine zW (wpAny_sequenceKey ht.typeIs (by decide) (zW (wpAny_callSpecial?_slot (name:=Str.ofString "__getitem__") ht.typeIs PyProof.Rows.slot_tuple_getitem (wpAny_call_entry PyProof.Rows.slot_tuple_getitem ht.typeIs entry_tuple_getitem ?_ (args_tuple_getitem _ _)))))
 refine zW (m:=Builtin.Tuple.tupleItemsOf (.ref t)) (tupleItemsOf_ ht (zW (wpAny_typeOf hTs ?_)))
 rw[if_pos (by decide)]
 refine zW (HT.iF hs pl pu ?_)
 show wpAny _ _ (if (((HT.dS its.size 0 lo:Nat):Int) == 0&&(1:Int) == 1&&(HT.dS its.size its.size hi - HT.dS its.size 0 lo) == its.size)=true then _ else _) _ _ s
 rw[hw.1,hw.2,if_pos (by simp)]
 unfold Builtin.Tuple.tupleIsExact
 refine zW (zW (wpAny_typeOf ht.typeIs (zX ?_)))
 rw[if_pos (by decide)]
 first
  | exact zW (wpAny_rule (zX ⟨_,rfl,zX h⟩))
  | exact zW (wpAny_rule (zW (zX (zX ⟨_,rfl,zX h⟩))))
noncomputable def Oa(K:W.Frag):V->Option Int->Option Int->Hp->VK->Prop:=fun x lo hi H Q=>∃a xs,x=.ref a/\ju K H a xs/\(cut xs lo hi=xs->Q (.ref a) H)/\∀p,H p=none->Q (.ref p) (upd H p (.tup (cut xs lo hi)))
theorem J4:JK X (Oa X.K):=by
 intro pins s σ H x v vl vu lo hi sl Q I rx hs pl pu h
 obtain⟨a,xs,rfl,hx,q1,q2⟩:=h
 by_cases hw:HT.dS xs.length 0 lo=0/\HT.dS xs.length xs.length hi=xs.length
 ·cases rx
  obtain⟨its,r,ht,hz⟩:=I.tuple hx
  have hlen:its.toArray.size=xs.length:=by rw[zH];exact r.length.symm
  refine⟨"tuple",_,PyProof.Rows.slot_tuple_getitem.lookup,ht.typeIs,Cv ht hs pl pu (by rw[hlen];exact hw) ⟨.ref a,H,I,rfl,q1 ?_⟩⟩
  unfold cut
  rw[hw.1,hw.2,List.drop_zero,Nat.sub_zero,List.take_length]
 ·exact KQ pins s σ H (.ref a) v vl vu lo hi sl Q I rx hs pl pu ⟨a,xs,rfl,hx,hw,q2⟩
noncomputable def Ox(K:W.Frag):V->Option Int->Option Int->Hp->VK->Prop:=fun x lo hi H Q=>∃a xs,x=.ref a/\iV K H a xs/\∀p,H p=none->Q (.ref p) (upd H p (.lst (cut xs lo hi)))
theorem An(lo hi:Option Int)(n:Nat):sliceBounds lo hi none n=(((HT.dS n 0 lo:Nat):Int),((HT.dS n n hi:Nat):Int),1):=by
 have h1:(1:Int) > 0:=by omega
 refine Prod.ext ?_ (Prod.ext ?_ rfl)
 ·cases lo with
  | none=>simp[sliceBounds,HT.dS]
  | some x =>
   by_cases h:x < 0
   ·simp only[sliceBounds,HT.dS,Option.getD_none,h1,if_true,if_pos h];omega
   ·simp only[sliceBounds,HT.dS,Option.getD_none,h1,if_true,if_neg h];omega
 ·cases hi with
  | none=>simp[sliceBounds,HT.dS]
  | some x =>
   by_cases h:x < 0
   ·simp only[sliceBounds,HT.dS,Option.getD_none,h1,if_true,if_pos h];omega
   ·simp only[sliceBounds,HT.dS,Option.getD_none,h1,if_true,if_neg h];omega
theorem Hh:JK X (Ox X.K):=by
 intro pins s σ H x v vl vu lo hi sl Q I rx hs pl pu h
 obtain⟨a,xs,rfl,hx,q⟩:=h
 cases rx
 obtain⟨its,r,p,hz⟩:=I.list hx
 have hlen:=r.length
 refine⟨"list",_,slot_list_getitem.lookup,p.isList.typeIs,wpAny_getItem_list_slice p.isList hs pl pu .none (by simp) ?_ (by rw[zH];omega)⟩
 rw[W.kmk_pick_nat its.toArray (An lo hi its.toArray.size)]
 have e:((its.toArray.toList.drop (HT.dS its.toArray.size 0 lo)).take (HT.dS its.toArray.size its.toArray.size hi - HT.dS its.toArray.size 0 lo))=cut its lo hi:=by unfold cut;simp
 rw[e]
 have rc:aF (cut xs lo hi) (cut its lo hi):=by unfold cut;rw[hlen];exact (r.drop _).take _
 exact⟨.ref s.heap.objs.size,_,I.lnew (t':=s.toks) rc (yE (HA xs lo hi) hz),rfl,q _ I.fresh⟩
def O0(K:W.Frag)(f:Env->Option (Option Int)):TO:=fun σ H Q=>∃HF ρ o,aZ HF H/\cW K HF ρ σ/\f ρ=some o/\∀H' HF',cy HF H HF' H'->Q o H'
def DO(X:Cx)(e:Option Expr)(f:Env->Option (Option Int)):Prop:=PO X e (O0 X.K f)
noncomputable def j1:Env->Option (Option Int):=fun _=>some none
noncomputable def gI:D->Option Int|.int i=>some i|_=>none
noncomputable def wt(f:Env->Option D):Env->Option (Option Int):=fun ρ=>(f ρ).bind fun d=>(gI d).map some
theorem HL:DO X none j1:=fun pins s σ H Q I ⟨HF,ρ,o,sm,eo,hf,q⟩=>Hn pins s σ H Q I (by cases hf;exact q H HF (.refl sm))
theorem Il{e:Expr}{f:Env->Option D}(h:DE X e f):DO X (some e) (wt f):=fun pins s σ H Q I ⟨HF,ρ,o,sm,eo,hf,q⟩=>oW h pins s σ H Q I (by
 obtain⟨d,hd,hf⟩:=bs hf
 obtain⟨i,hi,rfl⟩:=ag hf
 cases d<;>try cases hi
 exact⟨HF,ρ,_,sm,eo,hd,fun v H1 HF1 g1 r1=>⟨_,by simpa only[Rep] using r1,q H1 HF1 g1⟩⟩)
variable {a:Expr}{lo hi:Option Expr}{fa:Env->Option D}{fl fh:Env->Option (Option Int)}{pos p2:Pos}
noncomputable def kb{β:Type}(g:D->Option Int->Option Int->Option β)(fa:Env->Option D)(fl fh:Env->Option (Option Int)):Env->Option β:=fun ρ=>(fa ρ).bind fun x=>(fl ρ).bind fun l=>(fh ρ).bind fun h=>g x l h
end
theorem xo{α β:Type}{f g:α->Option β}:∀ {l:List α},(∀x∈l,f x=g x)->l.filterMap f=l.filterMap g
 | [],_=>rfl
 | x::l,h=>by rw[List.filterMap_cons,List.filterMap_cons,h x zE,xo fun y hy=>h y (zC _ hy)]
theorem Ew(xs:List Value):((List.range xs.length).filterMap fun (k:Nat)=>xs.toArray[(((xs.length:Nat):Int) - 1+(k:Int) * (-1)).toNat]?)=xs.reverse:=by
 have e:∀k∈List.range xs.length,xs.toArray[(((xs.length:Nat):Int) - 1+(k:Int) * (-1)).toNat]?=xs.reverse[k]?:=fun k hk=>by
  have hk':k < xs.length:=by simpa using hk
  have:(((xs.length:Nat):Int) - 1+(k:Int) * (-1)).toNat=xs.length - 1 - k:=by omega
  rw[this,List.getElem?_toArray,List.getElem?_reverse hk']
 rw[xo e]
 have:=xs.length_reverse
 apply List.ext_getElem?
 intro i
 have key:∀ (l:List Value),(List.range l.length).filterMap (fun (k:Nat)=>l[k]?)=l:=fun l=>by
  induction l with
  | nil=>rfl
  | cons x l ih =>
   rw[zL,List.range_succ_eq_map,List.filterMap_cons]
   simp only[List.getElem?_cons_zero]
   rw[List.filterMap_map]
   congr 1
 have k2:=key xs.reverse
 rw[List.length_reverse] at k2
 rw[k2]
theorem Hs{prog:Program}{w:World}{A:Around}{E:Value->Shared->Prop}{s:Shared}{t sl:Addr}{its:List Value}{tk:Tok}{Q:Value->Shared->Prop}(ht:IsTup s.heap t its.toArray)(hs:s.heap.IsSliceOf sl .none .none (.int (-1) tk))
  (hz:its.length<=sizeLine) (h:Q (.ref s.heap.objs.size) { s with heap:=s.heap.push { cls:=.type "tuple",data:=.seq its.reverse.toArray } }):wpAny (model prog w) A (getItem (.ref t) (.ref sl)) Q E s:=by
 obtain⟨os,hos,hcs,hds⟩:=id hs
 have hTs:s.TypeIs (.ref sl) "slice":=⟨os,hos,hcs⟩
 unfold getItem
 try with_reducible refine wpAny_holding ?_
 first|refine zW (zX ?_)|skip
 refine zW (wpAny_sequenceKey ht.typeIs (by decide) (zW (wpAny_callSpecial?_slot (name:=Str.ofString "__getitem__") ht.typeIs PyProof.Rows.slot_tuple_getitem (wpAny_call_entry PyProof.Rows.slot_tuple_getitem ht.typeIs entry_tuple_getitem ?_ (args_tuple_getitem _ _)))))
 refine zW (m:=Builtin.Tuple.tupleItemsOf (.ref t)) (tupleItemsOf_ ht (zW (wpAny_typeOf hTs ?_)))
 rw[if_pos (by decide)]
 have hap:∀ {R:Int×Int×Nat->Shared->Prop},R (((its.length:Nat):Int) - 1,-1,its.length) s->wpAny (model prog w) A.in1 (Builtin.Slice.sliceApplied (.ref sl) (pure ((its.toArray.size:Nat):Int))) R E s:=fun {R} hR=>by
  unfold Builtin.Slice.sliceApplied Builtin.Slice.sliceFields
  refine zW (zW (wpAny_field hos hds (x:=.none) rfl (zW (wpAny_field hos hds (x:=.none) rfl (zW (wpAny_field hos hds (x:=.int (-1) tk) rfl (zX ?_)))))))
  refine zW (slicePart_int ?_)
  show wpAny _ _ (if ((-1:Int) == 0)=true then _ else _) _ _ s
  rw[if_neg (by decide)]
  refine zW (slicePart_none (zW (slicePart_none (zW (zX ?_)))))
  have e1:Builtin.Slice.sliceAdjust none none (-1) ((its.toArray.size:Nat):Int)=(((its.length:Nat):Int) - 1,-1):=by simp[Builtin.Slice.sliceAdjust]
  show wpAny _ _ (match Builtin.Slice.sliceAdjust none none (-1) ((its.toArray.size:Nat):Int) with|(lo,hi)=>pure (lo,(-1:Int),Builtin.Slice.slicePlaces lo hi (-1))) _ _ s
  rw[e1]
  have e2:Builtin.Slice.slicePlaces (((its.length:Nat):Int) - 1) (-1) (-1)=its.length:=by
   unfold Builtin.Slice.slicePlaces
   rw[if_neg (by decide)]
   simp only[Int.neg_neg,Int.ediv_one]
   split<;>omega
  show wpAny _ _ (pure (((its.length:Nat):Int) - 1,(-1:Int),Builtin.Slice.slicePlaces (((its.length:Nat):Int) - 1) (-1) (-1))) _ _ s
  rw[e2]
  exact zX hR
 first
  | refine zW (hap ?_)
  | refine zW (wpAny_of_in1 (hap ?_))
 show wpAny _ _ (if ((((its.length:Nat):Int) - 1) == 0&&(-1:Int) == 1&&its.length == its.toArray.size)=true then _ else _) _ _ s
 rw[if_neg (by simp),Ew]
 have hz':sizeOk (.seq its.reverse.toArray):=by show its.reverse.toArray.size<=sizeLine;simpa using hz
 first
  | exact zW (m:=Builtin.Tuple.tupleExact _) (wpAny_newObj_type (zX ⟨_,rfl,zX h⟩) hz')
  | exact zW (m:=Builtin.Tuple.tupleExact _) (wpAny_newObj_type (zW (zX (zX ⟨_,rfl,zX h⟩))) hz')
  | exact zW (zW (m:=Builtin.Tuple.tupleExact _) (wpAny_newObj_type (zX (zX ⟨_,rfl,zX h⟩)) hz'))
  | exact zW (zW (m:=Builtin.Tuple.tupleExact _) (wpAny_newObj_type (zX ⟨_,rfl,zX h⟩) hz'))
section
variable {X:Cx}{a:Expr}{fa:Env->Option D}{pos p2 p3 p4:Pos}{j:Nat}
theorem Kr{ta:TE}(ha:PE X a ta):PE X (.Subscript a (.Slice none none (some (.UnaryOp .USub (.Constant (.int 1) j p4) p3)) p2) pos) (fun σ H Q=>ta σ H fun x H1=>∃b xs,x=.ref b/\ju X.K H1 b xs/\∀p,H1 p=none->Q (.ref p) (upd H1 p (.tup xs.reverse))):=by
 intro pins s σ H Q I h
 refine Subscript_ (ck (ha pins s σ H _ I h) fun v s1 ⟨x,H1,I1,r1,b,xs,e,hq,q⟩=>?_)
 subst e
 cases r1
 refine wpAny_Slice ?_
 rw[evalPart_none]
 refine zX (zX ?_)
 have hst:=oW (X:=X) (FP (op:=.USub) yv (ui (X:=X) (i:=1) (j:=j) (pos:=p4)) (pos:=p3)) pins s1 σ H1 (fun o H'=>o=some (-1)/\H'=H1) I1 ⟨1,rfl,-1,rfl,rfl,rfl⟩
 refine ck hst fun vst s2 ⟨o,H2,I2,pst,e1,e2⟩=>?_
 subst e1 e2
 cases pst with
 | int _ tk =>
 obtain⟨its,r,ht,hz⟩:=I2.tuple hq
 have I4:Inv X pins σ H2 { s2 with heap:=s2.heap.push { cls:=.type "slice",data:=.fields #[.none,.none,.int (-1) tk] } }:=I2.kept (t':=s2.toks) fun b ob q=>zV _ q
 obtain⟨its',r',ht',_⟩:=I4.tuple hq
 refine tail_any (ops:=[.ref b,.ref s2.heap.objs.size]) ht'.typeIs PyProof.Rows.slot_tuple_getitem.lookup (Hs ht' (Heap.IsSliceOf.new ..) (by rw[<- r'.length];exact hz) ?_) (by with_unfolding_all rfl)
 have hv:aF xs.reverse its'.reverse:=L2.aF.reverse r'
 exact⟨.ref _,_,I4.laid (t':=s2.toks) (o:=.tup xs.reverse) (fun b ob q=>zV _ q) (Nat.le_refl _) ⟨by rw[List.length_reverse];exact hz,_,hv,m7.new _ _⟩,rfl,q _ I4.fresh⟩
noncomputable def Ni:D->Option D|.tuple ds=>some (.tuple ds.reverse)|_=>none
noncomputable def f1(g:D->Option D)(f:Env->Option D):Env->Option D:=fun ρ=>(f ρ).bind g
theorem Kk(ha:DE X a fa):DE X (.Subscript a (.Slice none none (some (.UnaryOp .USub (.Constant (.int 1) j p4) p3)) p2) pos) (f1 Ni fa):=aV (Kr ha) fun σ H Q ⟨HF,ρ,d,sm,eo,hf,q⟩=>by
 obtain⟨x,hx,hf⟩:=bs hf
 refine⟨HF,ρ,x,sm,eo,hx,fun v1 H1 HF1 g1 r1=>?_⟩
 cases x<;>try cases hf
 simp only[Rep] at r1
 obtain⟨b,vs,rfl,hs,rr⟩:=r1
 exact⟨b,vs,rfl,aB g1.fh hs,fun p hp=>q _ _ _ (g1.trans (.new g1.fh hp)) (cZ (g1.fh.free hp) rr.reverse)⟩
end
end Dl
namespace HT
open PySem PyProof.Rows
section
open PySem.SeqAt
open PySem.AutoSeq1 (wpAny_loadPart')
open PySem.MeetsSeq PySem.MeetsSeq2 PySem.MeetsSeq3
theorem E7(A:Around)(s:Shared)(a:Int)(t:Tok)(c:Int)(u:Tok)(prog:Program)(w:World)(E:Value->Shared->Prop)(Q:Value->Shared->Prop)(h:Q (.bool (decide (c<=a))) s) :
  wpAny (model prog w) A (richCompare .GtE (.int a t) (.int c u)) Q E s :=
 (PyProof.Rows.ge_int h:wpAny (model prog w) A (compareOp .GtE (.int a t) (.int c u)) Q E s)
theorem rC(l b:Addr)(items items2:Array Value)(n n2:Nat)(dd dd2:Option Addr)(sl sl2:Array (Option Value))(ns ms:List Int)(hi:IntsAre items.toList ns)(hj:IntsAre items2.toList ms) :
  Meets (Builtin.«tuple.__ge__» ⟨[.ref l,.ref b],[]⟩)
   (fun _ R s=>s.heap.get? l=some { cls:=.type "tuple",dict:=dd,data:=.seq items n,slots:=sl }/\s.heap.get? b=some { cls:=.type "tuple",dict:=dd2,data:=.seq items2 n2,slots:=sl2 } /\
    R (.ok (.ret (.bool (!lexLt ns ms)))) s) :=
 .of_wp fun prog w A R s h=>by
  obtain⟨hp,g,d,tk,os⟩:=s;obtain⟨hl,hb,h⟩:=h
  have f2:=AutoSeq1.sub_tuple_tuple
  have z1:items.size=ns.length:=by rw[<- hi.length];simp
  have z2:items2.size=ms.length:=by rw[<- hj.length];simp
  wp_walk using wpAny_loadPart' hl,wpAny_loadPart' hb,wpAny_forIn_list _ (fun rest b s'=>b.1=none/\s'=⟨hp,g,d,tk,os⟩/\∃ (vs ws:List Value) (ns' ms':List Int),rest=vs.zip ws /\
   IntsAre vs ns'/\IntsAre ws ms'/\ns'.length+items2.size=ms'.length+items.size/\R (.ok (.ret (.bool (!lexLt ns' ms')))) ⟨hp,g,d,tk,os⟩) _
  case turn =>
   rintro⟨y,x⟩ rest b s' ⟨hb',rfl,vs,ws,ns',ms',hz,hvi,hwi,hlen,hR⟩
   cases hvi with
   | nil=>rw[List.zip_nil_left] at hz;cases hz
   | cons a t hvi' =>
    cases hwi with
    | nil=>rw[List.zip_nil_right] at hz;cases hz
    | cons c u hwi' =>
     rw[List.zip_cons_cons] at hz
     injection hz with hyx hrest
     injection hyx with hy hx
     subst hy hx
     rw[dI] at hR
     simp only[zL] at hlen
     obtain⟨e,he,hiff⟩:=EF A.in1 ⟨hp,g,d,tk,os⟩ a t c u
     refine zW (he prog w _ _ ?_)
     cases e with
     | true =>
      rw[if_pos (hiff.mp rfl)] at hR
      wp_walk
      exact⟨rfl,rfl,_,_,_,_,hrest,hvi',hwi',by omega,hR⟩
     | false =>
      rw[if_neg (fun q=>absurd (hiff.mpr q) Bool.false_ne_true)] at hR
      have hri:=E7 A.in1 ⟨hp,g,d,tk,os⟩ a t c u prog w
      have e1:(!decide (a < c))=decide (c<=a):=by
       rw[<- decide_not]
       exact decide_eq_decide.mpr (by omega)
      rw[e1] at hR
      wp_walk using hri
      exact⟨_,rfl,hR⟩
  case fin =>
   rintro⟨b1,b2⟩ s' ⟨hb',rfl,vs,ws,ns',ms',hz,hvi,hwi,hlen,hR⟩
   simp only at hb'
   subst hb'
   have hv:lexLt ns' ms'=decide (items.size < items2.size):=by
    cases hvi with
    | nil =>
     cases hwi with
     | nil =>
      simp only[List.length_nil] at hlen
      rw[rG]
      exact (yA (by omega)).symm
     | cons c u hw =>
      simp only[List.length_nil,zL] at hlen
      rw[pW]
      exact (yB (by omega)).symm
    | cons a t hv =>
     cases hwi with
     | nil =>
      simp only[List.length_nil,zL] at hlen
      rw[pP]
      exact (yA (by omega)).symm
     | cons c u hw =>
      rw[List.zip_cons_cons] at hz
      cases hz
   have hv2:(!lexLt ns' ms')=decide (items.size >= items2.size):=by
    rw[hv,<- decide_not]
    exact decide_eq_decide.mpr (by omega)
   rw[hv2] at hR
   wp_walk
   exact⟨_,rfl,hR⟩
  case h =>
   exact⟨rfl,rfl,items.toList,items2.toList,ns,ms,rfl,hi,hj,by omega,h⟩
end
end HT
namespace Dl
open PySem L2 PySem.Spec PyProof.Rows
section
variable {X:Cx}
noncomputable def my:D->Option (List Int)|.tuple ds=>intsOf ds|_=>none
theorem jq{x:D}{ns:List Int}(h:my x=some ns):x=.tuple (ns.map PyData.int):=by
 cases x<;>try cases h
 rename_i xs
 have h:intsOf xs=some ns:=h
 rw[dW h]
noncomputable def Nm:D->D->Option Bool:=fun x y=>(my x).bind fun ns=>(my y).map fun ms=>!lexLt ns ms
theorem Ga(hu:X.A.units < cLine):iz X (compareOp .GtE) (M4 X.K Nm):=by
 intro pins s σ H v1 v2 u1 u2 Q I rx ry h
 obtain⟨HF,x,y,k,sm,r1,r2,hg,q⟩:=h
 obtain⟨ns,h1,hg⟩:=bs hg
 obtain⟨ms,h2,rfl⟩:=ag hg
 rw[jq h1] at r1
 rw[jq h2] at r2
 have key:∀ {ns:List Int}{v:V}{u:Value},Rep X.K HF (.tuple (ns.map PyData.int)) v->RelV v u->∃a its,u=.ref a/\IsTup s.heap a its/\IntsAre its.toList ns:=fun {ns v u} r rv=>by
  have p:wg s.heap u ns:=by
   cases mC (X:=X) (us:=[u]) (vs:=[v]) (nss:=[ns]) I sm (au.cons r au.nil) (.cons rv .nil) with
   | cons p _=>exact p
  obtain⟨a,o,its,n,rfl,e1,e2,e3,e4⟩:=p.ex
  exact⟨a,its,rfl,⟨o,e1,e2,n,e3⟩,e4⟩
 obtain⟨a,its,rfl,⟨⟨cls,dd,data,sl⟩,ho,hc,n,hd⟩,i1⟩:=key r1 rx
 obtain⟨b,its2,rfl,⟨⟨cls2,dd2,data2,sl2⟩,ho2,hc2,n2,hd2⟩,i2⟩:=key r2 ry
 simp only at hc hd hc2 hd2
 subst hc hd hc2 hd2
 exact richCompare_meets_room (op:=.GtE) ⟨_,ho,rfl⟩ ⟨_,ho2,rfl⟩ PySem.F.slot_tuple_ge PySem.F.entry_tuple_ge (PySem.F.args_tuple_ge_2 _ _) (HT.rC a b its its2 n n2 dd dd2 sl sl2 ns ms i1 i2)
  ⟨ho,ho2,show Value.bool (!lexLt ns ms)≠Value.notImplemented/\EP X pins σ Q (.bool (!lexLt ns ms)) s from ⟨(fun x=>nomatch x),⟨.bl _,H,I,rfl,q⟩⟩⟩ hu
end
end Dl
namespace En
open PySem PyProof.Rows
open AutoSeq1 (wpAny_loadPart')
theorem noFill_tup:fillsNumberSlot (.type "tuple") "mul"=pure false:=PySem.fillsNumberSlot_seq (id:="tuple.__mul__") (r:=some (.builtin "tuple.__rmul__")) F.slot_tuple_mul.lookup (by decide +kernel) F.slot_tuple_rmul.lookup (by decide +kernel)
theorem repeat_tup:seqRepeat? (.type "tuple")=pure (some (.builtin "tuple.__mul__")):=by
 unfold seqRepeat?
 rw[PySem.seqSlot_of (T:="tuple") (name:="__mul__") (id:="tuple.__mul__") F.slot_tuple_mul.lookup (by decide +kernel),PySem.seqSlot_of (T:="tuple") (name:="__rmul__") (id:="tuple.__rmul__") F.slot_tuple_rmul.lookup (by decide +kernel)];rfl
theorem rmul_tup(a:Int)(t:Tok)(l:Addr)(its:Array Value)(n:Nat)(dd:Option Addr)(sl:Array (Option Value)) :
  Meets (Builtin.«int.__rmul__» ⟨[.int a t,.ref l],[]⟩) (fun _ R s=>s.heap.get? l=some { cls:=.type "tuple",dict:=dd,data:=.seq its n,slots:=sl }/\R (.ok (.ret Value.notImplemented)) s) :=
 .of_wp fun prog w A R s h=>by
  obtain⟨hp,g,d,tk,os⟩:=s;obtain⟨hl,h⟩:=h
  wp_walk
  exact⟨_,rfl,h⟩
theorem mulT_same(l:Addr)(its:Array Value)(n:Nat)(dd:Option Addr)(sl:Array (Option Value))(k:Int)(t:Tok)(h1:¬ (decide (k < -(2 ^ 63))||decide (k >= 2 ^ 63))=true)(h2:(its.isEmpty||k == 1)=true) :
  Meets (Builtin.«tuple.__mul__» ⟨[.ref l,.int k t],[]⟩) (fun _ R s=>s.heap.get? l=some { cls:=.type "tuple",dict:=dd,data:=.seq its n,slots:=sl }/\R (.ok (.ret (.ref l))) s) :=
 .of_wp fun prog w A R s h=>by
  obtain⟨hp,g,d,tk,os⟩:=s;obtain⟨hl,h⟩:=h
  have f1:=AutoSeq1.idx_int
  wp_walk using wpAny_loadPart' hl
  rw[if_neg h1]
  wp_walk using wpAny_loadPart' hl
  exact⟨_,rfl,h⟩
theorem mulT_none(l:Addr)(its:Array Value)(n:Nat)(dd:Option Addr)(sl:Array (Option Value))(k:Int)(t:Tok)(h1:¬ (decide (k < -(2 ^ 63))||decide (k >= 2 ^ 63))=true)(h2:¬ (its.isEmpty||k == 1)=true)(h3:(decide (k<=0)||its.isEmpty)=true) :
  Meets (Builtin.«tuple.__mul__» ⟨[.ref l,.int k t],[]⟩) (fun _ R s=>s.heap.get? l=some { cls:=.type "tuple",dict:=dd,data:=.seq its n,slots:=sl }/\R (.ok (.ret (.ref s.heap.objs.size))) { s with heap:=s.heap.push { cls:=.type "tuple",data:=.seq #[] } }) :=
 .of_wp fun prog w A R s h=>by
  obtain⟨hp,g,d,tk,os⟩:=s;obtain⟨hl,h⟩:=h
  have f1:=AutoSeq1.idx_int
  wp_walk using wpAny_loadPart' hl
  rw[if_neg h1]
  wp_walk using wpAny_loadPart' hl
  exact⟨_,rfl,h⟩
theorem mulT_many(l:Addr)(its:Array Value)(n:Nat)(dd:Option Addr)(sl:Array (Option Value))(k:Int)(t:Tok)(h1:¬ (decide (k < -(2 ^ 63))||decide (k >= 2 ^ 63))=true)(h2:¬ (its.isEmpty||k == 1)=true)(h3:¬ (decide (k<=0)||its.isEmpty)=true)
  (h4:¬ ((its.size:Nat):Int) * k > (2 ^ 63 - 1) / 8) (h5:¬ Builtin.Tuple.tupleTooMany (((its.size:Nat):Int) * k)=true) (hz:((List.replicate k.toNat its).foldl (·++·) #[]).size<=sizeLine) :
  Meets (Builtin.«tuple.__mul__» ⟨[.ref l,.int k t],[]⟩) (fun _ R s=>s.heap.get? l=some { cls:=.type "tuple",dict:=dd,data:=.seq its n,slots:=sl }/\R (.ok (.ret (.ref s.heap.objs.size))) { s with heap:=s.heap.push { cls:=.type "tuple",data:=.seq ((List.replicate k.toNat its).foldl (·++·) #[]) } }) :=
 .of_wp fun prog w A R s h=>by
  obtain⟨hp,g,d,tk,os⟩:=s;obtain⟨hl,h⟩:=h
  have f1:=AutoSeq1.idx_int
  wp_walk using wpAny_loadPart' hl
  rw[if_neg h1]
  wp_walk using wpAny_loadPart' hl
  rw[if_neg h4]
  wp_walk using wpAny_loadPart' hl
  exact⟨_,rfl,h⟩
end En
namespace Dl
open PySem L2 PySem.Spec PyProof.Rows
section
variable {X:Cx}
def JJ(K:W.Frag):R2:=fun x y H Q=>∃a k xs,x=.ref a/\y=.int k/\ju K H a xs/\-(2 ^ 62)<=k/\k < 2 ^ 62/\xs.length * k.toNat<=sizeLine/\((List.replicate k.toNat xs).flatten=xs->Q (.ref a) H) /\
 ∀p,H p=none->Q (.ref p) (upd H p (.tup (List.replicate k.toNat xs).flatten))
theorem HP:iz X (binaryOp .Mult) (JJ X.K):=by
 intro pins s σ H x y v u Q I rx ry h
 obtain⟨a,k,xs,rfl,rfl,hq,k1,k2,hz,q1,q2⟩:=h
 cases rx
 obtain⟨t,rfl⟩:=ry
 obtain⟨its,r,pl,hzx⟩:=I.tuple hq
 have hl:=r.length
 obtain⟨⟨cls,dd,data,sl⟩,ho,hc,n,hd⟩:=id pl
 simp only at hc hd
 subst hc hd
 have b1:¬ (decide (k < -(2 ^ 63))||decide (k >= 2 ^ 63))=true:=by
  simp only[Bool.or_eq_true,zJ]
  omega
 refine wpAny_binaryOp_repeat_ref (T:="tuple") (U:="int") (by decide) ⟨_,ho,rfl⟩ (fun s'=>typeIs_int s' k t) En.noFill_tup F.fills_int_mul F.slot_int_rmul En.repeat_tup F.slot_int_index.lookup
  (call_meets F.slot_int_rmul (typeIs_int s k t) F.entry_int_rmul (F.args_int_rmul_2 _ _) (En.rmul_tup k t a its.toArray n dd sl) ⟨ho,rfl,⟨_,ho,rfl⟩,?_⟩)
 have hfl:∀m:Nat,List.foldl (fun x1 x2=>x1++x2) #[] (List.replicate m its.toArray)=(List.replicate m its).flatten.toArray:=fun m=>by
  have:=foldl_rep its m []
  rw[List.nil_append] at this
  exact this
 by_cases h2:(its.toArray.isEmpty||k == 1)=true
 ·refine call_meets F.slot_tuple_mul ⟨_,ho,rfl⟩ F.entry_tuple_mul (F.args_tuple_mul_2 _ _) (En.mulT_same a its.toArray n dd sl k t b1 h2) ⟨ho,⟨.ref a,H,I,rfl,q1 ?_⟩⟩
  rw[Bool.or_eq_true] at h2
  rcases h2 with h2|h2
  ·have:xs=[]:=by
    have e:its=[]:=by simpa using h2
    rw[e] at hl
    exact List.length_eq_zero_iff.mp hl
   rw[this]
   simp
  ·have:k=1:=eq_of_beq h2
   subst this
   simp
 ·by_cases h3:(decide (k<=0)||its.toArray.isEmpty)=true
  ·refine call_meets F.slot_tuple_mul ⟨_,ho,rfl⟩ F.entry_tuple_mul (F.args_tuple_mul_2 _ _) (En.mulT_none a its.toArray n dd sl k t b1 h2 h3) ⟨ho,?_⟩
   have hk0:k.toNat=0:=by
    simp only[Bool.or_eq_true,zJ] at h3 h2
    rcases h3 with h3|h3
    ·omega
    ·exact absurd (.inl h3) h2
   have q3:=q2 s.heap.objs.size I.fresh
   rw[hk0] at q3
   exact⟨.ref s.heap.objs.size,_,I.laid (t':=s.toks) (o:=.tup []) (fun b ob q=>zV _ q) (Nat.le_refl _) ⟨Nat.zero_le _,[],.nil,m7.new _ _⟩,rfl,q3⟩
  ·have hm:its.length * k.toNat<=sizeLine:=by rw[<- hl];exact hz
   have hkn:(k.toNat:Int)=k:=by
    simp only[Bool.or_eq_true,zJ,not_or] at h3
    omega
   have hmi:((its.toArray.size:Nat):Int) * k=((its.length * k.toNat:Nat):Int):=by rw[zH,Int.natCast_mul,hkn]
   have hv:=L2.aF.rep r k.toNat
   have hlen2:(List.replicate k.toNat xs).flatten.length<=sizeLine:=by rw[len_rep,Nat.mul_comm];exact hz
   have hs8:(sizeLine:Nat)<=(2 ^ 63 - 1) / 8:=by decide
   have h4:¬ ((its.toArray.size:Nat):Int) * k > (2 ^ 63 - 1) / 8:=by rw[hmi];omega
   have h5:¬ Builtin.Tuple.tupleTooMany (((its.toArray.size:Nat):Int) * k)=true:=by
    unfold Builtin.Tuple.tupleTooMany
    rw[hmi]
    simp only[zJ]
    omega
   refine call_meets F.slot_tuple_mul ⟨_,ho,rfl⟩ F.entry_tuple_mul (F.args_tuple_mul_2 _ _) (En.mulT_many a its.toArray n dd sl k t b1 h2 h3 h4 h5 (by rw[hfl,zH,<- hv.length];exact hlen2)) ⟨ho,?_⟩
   rw[hfl]
   exact⟨.ref s.heap.objs.size,_,I.laid (t':=s.toks) (o:=.tup (List.replicate k.toNat xs).flatten) (fun b ob q=>zV _ q) (Nat.le_refl _) ⟨hlen2,_,hv,m7.new _ _⟩,rfl,q2 _ I.fresh⟩
noncomputable def EG:D->D->Option D
 | .tuple ds,.int k=>if Ab k=true/\ds.length * k.toNat<=sizeLine then some (.tuple (List.replicate k.toNat ds).flatten) else none
 | _,_=>none
theorem mJ{K:W.Frag}{HF:Hp}{ds:List D}{vs:List V}(r:au K HF ds vs):∀k:Nat,au K HF (List.replicate k ds).flatten (List.replicate k vs).flatten
 | 0=>au.nil
 | k+1=>by rw[List.replicate_succ,List.replicate_succ,List.flatten_cons,List.flatten_cons];exact r.append (mJ r k)
theorem DZ{K:W.Frag}:fY K (JJ K) EG:=by
 intro HF H x y v1 v2 d Q sm r1 r2 hg q
 cases x<;>cases y<;>simp only[EG] at hg<;>try cases hg
 split at hg
 ·rename_i xs k hh
  cases hg
  simp only[Rep] at r1 r2
  obtain⟨a,vs,rfl,ha,ra⟩:=r1
  have ok:=hh.1
  unfold Ab at ok
  rw[zF] at ok
  refine⟨a,k,vs,rfl,r2,aB sm ha,of_decide_eq_true ok.1,of_decide_eq_true ok.2,by rw[ra.length];exact hh.2,fun e=>q _ H HF (.refl sm) ?_,fun p hp=>q _ _ _ (.new sm hp) (cZ (sm.free hp) (mJ ra _))⟩
  simp only[Rep]
  refine⟨a,vs,rfl,ha,?_⟩
  have:=mJ ra k.toNat
  rw[e] at this
  exact this
 ·cases hg
end
end Dl
namespace En
open PySem PyProof.Rows
section
variable {prog:Program}{w:World}{A:Around}{E:Value->Shared->Prop}{s:Shared}
theorem call_setT{l:Addr}{its:Array Value}{ns:List Int}{Q:Value->Shared->Prop}(hh:A.handled=none)(hl:s.heap.IsTuple l its)(hi:IntsAre its.toList ns)(hb:its.size+1 < scanBound)
  (h:∀ (h':Heap) (tk:Nat),h'.SetOf (intKind prog w) s.heap.objs.size (fun k'=>(firstMet (fun i=>ns.getD i 0) its.size).any (· == k')) (firstMet (fun i=>ns.getD i 0) its.size).length->(∀b o,b < s.heap.objs.size->s.heap.get? b=some o->h'.get? b=some o)->Q (.ref s.heap.objs.size) { s with heap:=h',toks:=tk }) :
  wpAny (model prog w) A (call (.type "set") [.ref l]) Q E s:=by
 obtain⟨c,tl,hmro⟩:=F.called_set.mro
 have hmade:=F.called_set.made
 have hsub:=F.called_set.sub
 refine wpAny_call (codeAny_of_tree ?_);show wpAny _ _ (callAny (.type "set") _) _ _ _
 refine zX ⟨Code.quiet_builtin _ (by decide +kernel),codeAny_builtin F.entry_type_call ?_⟩
 rw[Around.under_plain (weight_type_call_type "set" [.ref l] []) rfl]
 have h1:=F.called_set.notType
 have h2:=F.called_set.canCreate
 have hct:=F.typeCall_set_1 (.ref l)
 repeat (any_goals (first|assumption|wp_step))
 refine codeAny_mono (code_set_new_1 (.ref l) (E:=E) (Q₁:=fun obj s1=>∃led:Bool,obj=.ref s.heap.objs.size/\s1={ s with heap:=s.heap.push { cls:=.type "set",dict:=none,data:=.set #[] 0 (.fresh 0 0 led) } }) fun led=>⟨led,rfl,rfl⟩) fun r s1 hr=>?_
 cases r with
 | error e=>exact hr
 | ok fl =>
  cases fl with
  | ret obj =>
   obtain⟨led,rfl,rfl⟩:=hr
   have hS:(s.heap.push { cls:=.type "set",dict:=none,data:=.set #[] 0 (.fresh 0 0 led) }).get? s.heap.objs.size=some { cls:=.type "set",dict:=none,data:=.set #[] 0 (.fresh 0 0 led) }:=by exact zY _ rfl
   have hT:Shared.TypeIs { s with heap:=s.heap.push { cls:=.type "set",dict:=none,data:=.set #[] 0 (.fresh 0 0 led) } } (.ref s.heap.objs.size) "set":=⟨_,hS,rfl⟩
   have hli:=F.called_set.init.lookup
   have hbi:=F.called_set.init.bind (.ref s.heap.objs.size)
   repeat (any_goals (first|assumption|wp_step))
   refine codeAny_mono (codeAny_call_builtin (R:=wants (fun r s2=>r=.none/\∃h' tk,s2={ s with heap:=h',toks:=tk }/\h'.SetOf (intKind prog w) s.heap.objs.size (fun k'=>(firstMet (fun i=>ns.getD i 0) its.size).any (· == k')) (firstMet (fun i=>ns.getD i 0) its.size).length /\
     (∀b o,b < s.heap.objs.size->s.heap.get? b=some o->h'.get? b=some o)) E) F.called_set.init.plain F.entry_set_init (check_set_init_1 hT ?_)) fun r2 s2 hr2=>?_
   ·obtain⟨ol,hol,hcl,nl,hdl⟩:=hl
    obtain⟨ocls,odict,odata,oslots⟩:=ol
    simp only at hcl hdl
    subst hcl hdl
    have hol':(s.heap.push { cls:=.type "set",dict:=none,data:=.set #[] 0 (.fresh 0 0 led) }).get? l=some { cls:=.type "tuple",dict:=odict,data:=.seq its nl,slots:=oslots }:=zV _ hol
    have hsls:=F.sub_tuple_set
    have hslf:=F.sub_tuple_frozenset
    have hne:(Value.type "tuple" == Value.type "dict")=false:=by decide
    have hl1:(s.heap.push { cls:=.type "set",dict:=none,data:=.set #[] 0 (.fresh 0 0 led) }).IsTuple l its:=⟨_,hol',rfl,nl,rfl⟩
    unfold Builtin.«set.__init__» noKeywords Builtin.Frozenset.updateFrom
    generalize hPI:pyIter=PI
    wp_walk
    subst hPI
    refine wpAny_pyIter_tuple hl1 (zW (wpAny_runValue ?_))
    have hlS:l < s.heap.objs.size:=zZ hol
    have hh3:A.in1.in1.in1.handled=none:=by simp[hh]
    have hneI:l≠(s.heap.push { cls:=.type "set",dict:=none,data:=.set #[] 0 (.fresh 0 0 led) }).objs.size:=by rw[Heap.size_push];exact Nat.ne_of_lt (Nat.lt_succ_of_lt hlS)
    have hSf:s.heap.objs.size∉[(s.heap.push { cls:=.type "set",dict:=none,data:=.set #[] 0 (.fresh 0 0 led) }).objs.size,l]:=by
     rw[Heap.size_push];simp only[zR,yG,or_false,not_or]
     exact⟨Nat.ne_of_lt (Nat.lt_succ_self _),Nat.ne_of_gt hlS⟩
    have hval:∀ (i:Nat) (v:Value),its[i]?=some v->∃t,v=.int ((fun i=>ns.getD i 0) i) t:=fun i v hv=>IntsAre.int_at hi i v (by rw[Array.getElem?_toList];exact hv)
    refine codeAny_set_update_loopS ((Walks.tuple hh3 _ l hneI its).toS) s.heap.objs.size hSf (fun i=>ns.getD i 0) hval hb (its.size - 0) 0 _ (by omega) (Nat.zero_le _) ⟨⟨_,zY _ rfl,rfl,rfl⟩,?ht⟩ ?hS0 ?hR
    case ht=>exact⟨_,zV _ hol',rfl,nl,rfl⟩
    case hS0 =>
     have hget:((s.heap.push { cls:=.type "set",dict:=none,data:=.set #[] 0 (.fresh 0 0 led) }).push { cls:=.type "tuple_iterator",data:=.fields #[.ref l,.int 0 0] }).get? s.heap.objs.size=some { cls:=.type "set",dict:=none,data:=.set #[] 0 (.fresh 0 0 led) }:=by exact zV _ hS
     exact SetOf_congr ((setObjOf_fresh (knd:=intKind prog w) led).setOf hget (by unfold scanBound;omega)) (fun _=>rfl) rfl
    case hR =>
     intro s' hm hS'
     obtain⟨h',g',d',tk',os'⟩:=s'
     have eg:g'=s.gens:=hm.gens
     have ed:d'=s.drawn:=hm.drawn
     have eo:os'=s.os:=hm.os
     subst eg ed eo
     show wpAny _ _ _ _ _ _
     refine zX ?_
     show wpAny _ _ (ret Value.none) _ _ _
     refine zX ⟨rfl,h',tk',rfl,hS',fun b o hb' e=>?_⟩
     refine hm.heap b o ?_ (zV _ (zV _ e))
     simp only[zR,yG,or_false,not_or]
     exact⟨Nat.ne_of_lt hb',by rw[Heap.size_push];exact Nat.ne_of_lt (Nat.lt_succ_of_lt hb')⟩
   ·cases r2 with
    | error e=>exact hr2
    | ok fl2 =>
     cases fl2 with
     | ret r =>
      obtain⟨rfl,h',tk,rfl,hS',hk'⟩:=hr2
      repeat (any_goals (first|assumption|wp_step))
      exact h _ _ hS' hk'
     | _=>exact hr2.elim
  | _=>exact hr.elim
end
end En
namespace Dl
open PySem L2 PySem.Spec PyProof.Rows
noncomputable def many(ns:List Int):Nat:=(firstMet (fun i=>ns.getD i 0) ns.length).length
section
variable {X:Cx}{e:Expr}{f:Env->Option D}{pos p p' pos':Pos}
theorem BQ(hc:X.calm=true):eA X (.type "set") (fun xs H Q=>∃ (a:Addr) (ns:List Int),xs=[.ref a]/\ju X.K H a (ns.map V.int)/\ns.length+1 < scanBound/\∀q S,H q=none->Q (.ref q) (upd H q (.set S (many ns)))):=by
 intro pins s σ H xs us Q I r h
 obtain⟨a,ns,rfl,hq,hb,q⟩:=h
 obtain⟨u,rfl,rx⟩:=vals1 r
 cases rx
 obtain⟨its,rv,pl,hz⟩:=I.tuple hq
 have hi:IntsAre its.toArray.toList ns:=intsAre_of rv
 have hlen:its.toArray.size=ns.length:=by have:=rv.length;simpa using this.symm
 refine En.call_setT (I.ok.hd hc) (show s.heap.IsTuple a its.toArray from pl) hi (by rw[hlen];exact hb) fun h' tk hS hk=>?_
 rw[hlen] at hS
 exact⟨.ref s.heap.objs.size,_,I.laid (t':=tk) (fun b o e=>hk b o (zZ e) e) (Nat.le_refl _) (show e9 X.prog X.w _ h' _ (.set _ (many ns)) from hS),rfl,q _ _ I.fresh⟩
theorem C0:eA X (.builtin "len") (fun xs H Q=>∃ (a:Addr) (S:Int->Bool) (n:Nat),xs=[.ref a]/\H a=some (.set S n)/\Q (.int n) H):=by
 intro pins s σ H xs us Q I r h
 obtain⟨a,S,n,rfl,hq,q⟩:=h
 obtain⟨u,rfl,rx⟩:=vals1 r
 cases rx
 obtain⟨o,es,ep,t,ho,hex,hd,hel,hmem,hlt,hf,hn⟩:=(show s.heap.SetOf (intKind X.prog X.w) a S n from I.hok a _ hq)
 have hfit:((es.size:Nat):Int) < 2 ^ 63:=by unfold scanBound at hlt;omega
 refine call_len_set ho hex hd hf hfit ⟨.int n,H,I.tok _,⟨s.toks+1,by rw[hn]⟩,q⟩
noncomputable def kU:D->Option D:=fun d=>(my d).bind fun ns=>if ns.length+1 < scanBound then some (.int (many ns)) else none
theorem B0(hc:X.calm=true)(B:nU X "len" (.builtin "len"))(C:nU X "set" (.type "set"))(h:DE X e f)(he:starEach [e] X.env=(false,eval e X.env)::starEach [] X.env:=by rfl) :
  DE X (.Call (.Name "len" p) [.Call (.Name "set" p') [e] [] pos'] [] pos) (f1 kU f) :=
 aV (mr C0 B.gl B.mg B.bt (dE (mT (BQ hc) C.gl C.mg C.bt (dE h ip he) (by decide) (by decide) he rfl) ip) (by decide) (by decide) rfl rfl) fun σ H Q ⟨HF,ρ,d,sm,eo,hf,q⟩=>by
  obtain⟨x,hx,hf⟩:=bs hf
  obtain⟨ns,h1,hf⟩:=bs hf
  split at hf
  ·rename_i hb
   cases hf
   refine⟨HF,ρ,x,sm,eo,hx,fun v1 H1 HF1 g1 r1=>?_⟩
   rw[jq h1] at r1
   simp only[Rep] at r1
   obtain⟨a,vs,rfl,hs,rr⟩:=r1
   have key:∀ {ns:List Int}{ws:List V},au X.K HF1 (ns.map PyData.int) ws->ws=ns.map V.int:=fun {ns}=>by
    induction ns with
    | nil=>exact fun h=>h.nil_inv
    | cons n ns ih =>
     intro ws h
     obtain⟨v,r,rfl,a,b⟩:=h.cons_inv
     simp only[Rep] at a
     rw[a,ih b]
     rfl
   have:=key rr
   subst this
   refine⟨a,ns,rfl,aB g1.fh hs,hb,fun b S hb'=>⟨b,S,_,rfl,aL,q _ _ HF1 (g1.trans (.own g1.fh hb')) (by simp[Rep])⟩⟩
  ·cases hf
end
theorem jX(val:Nat->Int):∀i,(firstMet val i).length=i↔((List.range i).map val).Nodup
 | 0=>by simp[firstMet]
 | i+1=>by
  have hle:=firstMet_length_le val i
  rw[firstMet_succ,step_length,List.range_succ,List.map_append,List.nodup_append]
  have ha:=firstMet_any val i (val i)
  have ih:=jX val i
  constructor
  ·intro h
   by_cases hin:(firstMet val i).any (· == val i)=true
   ·rw[if_pos hin] at h;omega
   ·rw[if_neg hin] at h
    refine⟨ih.mp (by omega),by simp,fun a hm b hb z=>?_⟩
    have hb':b=val i:=by simpa using hb
    subst z hb'
    rw[ha] at hin
    exact hin (List.any_eq_true.mpr ⟨_,hm,by simp⟩)
  ·rintro⟨h1,_,h3⟩
   rw[if_neg ?_]
   ·rw[ih.mpr h1]
   ·rw[ha]
    intro hin
    obtain⟨x,hx,he⟩:=List.any_eq_true.mp hin
    have he':x=val i:=by simpa using he
    exact h3 x hx (val i) (by simp) he'
theorem zw(ns:List Int):many ns=ns.length↔ns.Nodup:=by
 unfold many
 rw[jX]
 have:(List.range ns.length).map (fun i=>ns.getD i 0)=ns:=j3 ns 0
 rw[this]
section
variable {X:Cx}{N:List Str}{sc:Scope}{k:Nat}{a b c e e2:Expr}{es:List Expr}{fa fb fc f:Env->Option D}{fs:Env->Option (List D)}{pos p p' pos' p2 p3 p4 px apos cpos tp:Pos}{x y:Str}{HF₀ H₀:Hp}
theorem pC{K:W.Frag}{r r':R2}{g g':D->D->Option D}(h:fY K r g)(h':fY K r' g'):fY K (fun x y H Q=>r x y H Q\/r' x y H Q) (fun x y=>(g x y).or (g' x y)):=by
 intro HF H x y v1 v2 d Q sm r1 r2 hg q
 cases e:g x y with
 | some d' =>
  have hg:(g x y).or (g' x y)=some d:=hg
  rw[e] at hg
  cases hg
  exact .inl (h HF H x y v1 v2 d Q sm r1 r2 e q)
 | none =>
  have hg:(g x y).or (g' x y)=some d:=hg
  rw[e] at hg
  exact .inr (h' HF H x y v1 v2 d Q sm r1 r2 hg q)
theorem BS{K:W.Frag}:fY K (Eh K) (fun x y=>(sN x y).map PyData.list):=by
 intro HF H x y v1 v2 d Q sm r1 r2 hg q
 obtain⟨zs,hg',rfl⟩:=ag hg
 clear hg
 cases x<;>cases y<;>simp only[sN] at hg'<;>try cases hg'
 obtain⟨rfl,hz⟩:=eJ hg'
 simp only[Rep] at r1 r2
 obtain⟨a,vs,rfl,ha,ra⟩:=r1
 obtain⟨b,us,rfl,hb,rb⟩:=r2
 refine⟨a,b,vs,us,rfl,rfl,sm.seq ha,sm.seq hb,by rw[ra.length,rb.length,<- zN];exact hz,fun p hp=>q _ _ _ (.new sm hp) ?_⟩
 simp only[Rep]
 exact⟨p,_,rfl,.inl (.inl aL),(ra.append rb).mono (eE (sm.free hp))⟩
noncomputable def aM:D->D->Option D:=fun x y=>((vR (fun _ _=>True) fun i j=>.int (i+j)) x y).or ((Hv x y).or ((sN x y).map PyData.list))
theorem Bk.add(C:Bk X N sc k)(ha:DE X a fa)(hb:DE X b fb):DE X (.BinOp a .Add b pos) (f2 aM fa fb):=v7 (L6.or (Cf.or w8)) (pC Gm (pC Hx BS)) ha hb
noncomputable def iw:D->D->Option D:=vR (fun _ _=>True) fun i j=>.int (i - j)
theorem Bk.sub(C:Bk X N sc k)(ha:DE X a fa)(hb:DE X b fb):DE X (.BinOp a .Sub b pos) (f2 iw fa fb):=v7 L8 Gm ha hb
noncomputable def eQ:D->D->Option D:=fun x y=>((vR vj fun i j=>.int (i * j)) x y).or (EG x y)
theorem Bk.mul(C:Bk X N sc k)(ha:DE X a fa)(hb:DE X b fb):DE X (.BinOp a .Mult b pos) (f2 eQ fa fb):=v7 (JZ.or HP) (pC EX DZ) ha hb
noncomputable def md:D->D->Option D:=vR Hw fun i j=>.int (i / j)
theorem Bk.div(C:Bk X N sc k)(ha:DE X a fa)(hb:DE X b fb):DE X (.BinOp a .FloorDiv b pos) (f2 md fa fb):=v7 Ja EX ha hb
noncomputable def kX:D->D->Option D:=vR (fun _ j=>0 < j) fun i j=>.int (i % j)
theorem Bk.mod(C:Bk X N sc k)(ha:DE X a fa)(hb:DE X b fb):DE X (.BinOp a .Mod b pos) (f2 kX fa fb):=v7 Kg EX ha hb
noncomputable def xb:D->D->Option D:=vR (fun _ _=>True) fun i j=>.bool (decide (i < j))
noncomputable def tq:D->D->Option D:=vR (fun _ _=>True) fun i j=>.bool (decide (i<=j))
noncomputable def Dq:D->D->Option D:=vR (fun _ _=>True) fun i j=>.bool (decide (j < i))
noncomputable def N4:D->D->Option D:=fun x y=>((vR (fun _ _=>True) fun i j=>.bool (decide (j<=i))) x y).or ((Nm x y).map PyData.bool)
noncomputable def cf:D->D->Option D:=fun x y=>(Kb x y).map PyData.bool
noncomputable def dg:D->D->Option D:=fun x y=>(JP x y).map PyData.bool
noncomputable def K4:D->D->Option D:=fun x y=>(OH x y).map PyData.bool
theorem Bk.u64(C:Bk X N sc k):X.A.units+64 < cLine:=C.room.units
theorem Bk.u66(C:Bk X N sc k):X.A.units+66 < cLine:=by have:=C.room.un;omega
theorem Bk.lt(C:Bk X N sc k)(ha:DE X a fa)(hb:DE X b fb):DE X (.Compare a [.Lt] [b] pos) (f2 xb fa fb):=jn Ei ij ha hb (dq _)
theorem Bk.le(C:Bk X N sc k)(ha:DE X a fa)(hb:DE X b fb):DE X (.Compare a [.LtE] [b] pos) (f2 tq fa fb):=jn Gv ij ha hb (dq _)
theorem Bk.gt(C:Bk X N sc k)(ha:DE X a fa)(hb:DE X b fb):DE X (.Compare a [.Gt] [b] pos) (f2 Dq fa fb):=jn JU ij ha hb (dq _)
theorem Bk.ge(C:Bk X N sc k)(ha:DE X a fa)(hb:DE X b fb):DE X (.Compare a [.GtE] [b] pos) (f2 N4 fa fb):=jn (Ju.or (Ga C.room.units0)) (pC ij j5) ha hb (dq _)
theorem Bk.eq(C:Bk X N sc k)(ha:DE X a fa)(hb:DE X b fb):DE X (.Compare a [.Eq] [b] pos) (f2 cf fa fb):=jn (Ec C.u64) j5 ha hb (dq _)
theorem Bk.ne(C:Bk X N sc k)(ha:DE X a fa)(hb:DE X b fb):DE X (.Compare a [.NotEq] [b] pos) (f2 dg fa fb):=jn (FR C.u64) j5 ha hb (dq _)
theorem Bk.isin(C:Bk X N sc k)(ha:DE X a fa)(hb:DE X b fb)(hm:behindInMarks .In b=false:=by rfl):DE X (.Compare a [.In] [b] pos) (f2 K4 fa fb):=jn (E8 C.u66) j5 ha hb hm
theorem Bk.tlt(C:Bk X N sc k)(ha:DE X a fa)(hb:DE X b fb):DT X (.Compare a [.Lt] [b] pos) (fB (f2 xb fa fb)):=jx Ei ij ha hb (dq _)
theorem Bk.tle(C:Bk X N sc k)(ha:DE X a fa)(hb:DE X b fb):DT X (.Compare a [.LtE] [b] pos) (fB (f2 tq fa fb)):=jx Gv ij ha hb (dq _)
theorem Bk.tgt(C:Bk X N sc k)(ha:DE X a fa)(hb:DE X b fb):DT X (.Compare a [.Gt] [b] pos) (fB (f2 Dq fa fb)):=jx JU ij ha hb (dq _)
theorem Bk.tge(C:Bk X N sc k)(ha:DE X a fa)(hb:DE X b fb):DT X (.Compare a [.GtE] [b] pos) (fB (f2 N4 fa fb)):=jx (Ju.or (Ga C.room.units0)) (pC ij j5) ha hb (dq _)
theorem Bk.teq(C:Bk X N sc k)(ha:DE X a fa)(hb:DE X b fb):DT X (.Compare a [.Eq] [b] pos) (fB (f2 cf fa fb)):=jx (Ec C.u64) j5 ha hb (dq _)
theorem Bk.tne(C:Bk X N sc k)(ha:DE X a fa)(hb:DE X b fb):DT X (.Compare a [.NotEq] [b] pos) (fB (f2 dg fa fb)):=jx (FR C.u64) j5 ha hb (dq _)
theorem Bk.tin(C:Bk X N sc k)(ha:DE X a fa)(hb:DE X b fb)(hm:behindInMarks .In b=false:=by rfl):DT X (.Compare a [.In] [b] pos) (fB (f2 K4 fa fb)):=jx (E8 C.u66) j5 ha hb hm
noncomputable def fA:D->Option Int->Option Int->Option D|.tuple ds,lo,hi=>some (.tuple (cut ds lo hi))|.list ds,lo,hi=>some (.list (cut ds lo hi))|_,_,_=>none
theorem Bk.cut(C:Bk X N sc k){lo hi:Option Expr}{fl fh:Env->Option (Option Int)}(ha:DE X a fa)(hl:DO X lo fl)(hh:DO X hi fh):DE X (.Subscript a (.Slice lo hi none p2) pos) (kb fA fa fl fh):=aV (Fm (J4.or Hh) ha hl hh) fun σ H Q ⟨HF,ρ,d,sm,eo,hf,q⟩=>by
 obtain⟨x,hx,hf⟩:=bs hf
 obtain⟨l,hl,hf⟩:=bs hf
 obtain⟨u,hu,hf⟩:=bs hf
 refine⟨HF,ρ,x,sm,eo,hx,fun v1 H1 HF1 g1 r1=>⟨HF1,ρ,l,g1.fh,eo.mono g1.ff,hl,fun H2 HF2 g2=>⟨HF2,ρ,u,g2.fh,eo.mono (g1.ff.trans g2.ff),hu,fun H3 HF3 g3=>?_⟩⟩⟩
 have G:=(g1.trans g2).trans g3
 have r3:=r1.mono (g2.ff.trans g3.ff)
 cases x<;>try cases hf
 ·simp only[Rep] at r3
  obtain⟨b,vs,rfl,hs,rr⟩:=r3
  refine .inr ⟨b,vs,rfl,G.fh.seq hs,fun p hp=>q _ _ _ (G.trans (.new G.fh hp)) ?_⟩
  simp only[Rep]
  exact⟨p,_,rfl,.inl (.inl aL),(qm rr l u).mono (eE (G.fh.free hp))⟩
 ·simp only[Rep] at r3
  obtain⟨b,vs,rfl,hs,rr⟩:=r3
  refine .inl ⟨b,vs,rfl,aB G.fh hs,fun e=>q _ H3 HF3 G ?_,fun p hp=>q _ _ _ (G.trans (.new G.fh hp)) (cZ (G.fh.free hp) (qm rr l u))⟩
  simp only[Rep]
  refine⟨b,vs,rfl,hs,?_⟩
  have:=qm rr l u
  rw[e] at this
  exact this
noncomputable def Nz:D->Option D|.int i=>some (.int (-i))|_=>none
theorem Bk.neg(C:Bk X N sc k)(ha:DE X a fa):DE X (.UnaryOp .USub a pos) (f1 Nz fa):=aV (FP yv ha) fun σ H Q ⟨HF,ρ,d,sm,eo,hf,q⟩=>by
 obtain⟨x,hx,hf⟩:=bs hf
 refine⟨HF,ρ,x,sm,eo,hx,fun v1 H1 HF1 g1 r1=>?_⟩
 cases x<;>try cases hf
 exact⟨_,by simpa only[Rep] using r1,q _ H1 HF1 g1 (by simp[Rep])⟩
theorem EB:bootBuiltins "len"=some (.builtin "len"):=by decide +kernel
theorem su:bootBuiltins "isinstance"=some (.builtin "isinstance"):=by decide +kernel
theorem Kp:bootBuiltins "int"=some (.type "int"):=by decide +kernel
theorem DV:bootBuiltins "tuple"=some (.type "tuple"):=by decide +kernel
theorem Jo:bootBuiltins "list"=some (.type "list"):=by decide +kernel
theorem xY:bootBuiltins "range"=some (.type "range"):=by decide +kernel
theorem Lh:bootBuiltins "all"=some (.builtin "all"):=by decide +kernel
theorem L0:bootBuiltins "set"=some (.type "set"):=by decide +kernel
theorem nr:bootBuiltins "sorted"=some (.builtin "sorted"):=by decide +kernel
theorem uB:bootBuiltins "enumerate"=some (.type "enumerate"):=by decide +kernel
theorem Kd:bootBuiltins "zip"=some (.type "zip"):=by decide +kernel
end
noncomputable abbrev bZ(f:Env->Option (List D)):Env->Option D:=fun ρ=>(f ρ).map PyData.list
noncomputable abbrev bQ:List D->Option D:=fun ds=>(dO ds).map PyData.tuple
section
variable {X:Cx}{N:List Str}{sc:Scope}{k:Nat}
theorem Bk.locl(C:Bk X N sc k){x:Str}(h:decide (sc.names.lookup x=some .local)=true):X.env.scope.names.lookup x=some .local:=by
 rcases C.tb x _ (of_decide_eq_true h) with q|⟨q,_⟩
 ·exact q
 ·cases q
noncomputable def isStar:Expr->Bool|.Starred ..=>true|_=>false
theorem bj{e:Expr}{es:List Expr}{env:PySem.Env}(h:isStar e=false):starEach (e::es) env=(false,eval e env)::starEach es env:=by
 cases e<;>first|rfl|cases h
theorem Kn{e:Expr}{es:List Expr}{f:Env->Option D}{g:Env->Option (List D)}(he:DE X e f)(hs:DA X es g)(h:isStar e=false:=by rfl):DA X (e::es) (aa f g):=Bm he hs (bj h)
theorem qv{elt:Expr}{gens:List Comprehension}{scope:Scope}{pos py:Pos}{x:Str}{line:Nat}{env:PySem.Env}:swapsWith (.ListComp elt gens scope pos) (some (.Name x py)) line env=pure (env.blockKind == .function&&env.kindOf x == some .local && py.line == pos.line
     &&!(scope.names.any fun (n,k)=>n == x&&(k == .local || k == .cell))):=rfl
theorem Jw{env:PySem.Env}(h:env.scope.kind=.function):env.blockKind=.function:=by unfold PySem.Env.blockKind;rw[h];rfl
theorem Bk.swap(C:Bk X N sc k){elt:Expr}{gens:List Comprehension}{scope:Scope}{pos py:Pos}{x:Str}{line:Nat}(h:decide (sc.names.lookup x=some .local)=true)(h2:(py.line == pos.line&&!(scope.names.any fun (n,k)=>n == x&&(k == .local || k == .cell)))=true) :
  swapsWith (.ListComp elt gens scope pos) (some (.Name x py)) line X.env=pure true:=by
 rw[qv,Jw C.kd,show X.env.kindOf x=some .local from C.locl h]
 rw[Bool.and_assoc,h2]
 rfl
theorem Bk.noswap(C:Bk X N sc k){elt:Expr}{gens:List Comprehension}{scope:Scope}{pos py:Pos}{x:Str}{line:Nat}(h:decide (sc.names.lookup x=some .cell)=true) :
  swapsWith (.ListComp elt gens scope pos) (some (.Name x py)) line X.env=pure false:=by
 have q:X.env.kindOf x=some .cell:=by
  rcases C.tb x _ (of_decide_eq_true h) with q|⟨q,_⟩
  ·exact q
  ·cases q
 rw[qv,q,Jw C.kd]
 rfl
end
section
variable {K:W.Frag}
structure aG(K:W.Frag)(x:Str)(st:Stmt)(ps:List Str):Prop where
 ex:∃ (f:Addr) (fd:FuncData),W.nsIn K mainGlobals x=some (some (.ref f))/\He K x x st f fd/\Binds K fd ps []
structure bu(K:W.Frag)(mg:Str->Option Value)(x:Str)(st:Stmt)(ps:List Str):Prop where
 ex:∃ (f:Addr) (fd:FuncData),mg x=some (.ref f)/\He K x x st f fd/\Binds K fd ps []
theorem aG.mg{h:Heap}{mg:Str->Option Value}{x:Str}{st:Stmt}{ps:List Str}(D:aG K x st ps)(X:K.In h)(G:h.Ns mainGlobals mg):bu K mg x st ps:=by
 obtain⟨f,fd,a,b,c⟩:=D.ex
 exact⟨f,fd,W.mg_of X G a,b,c⟩
def ik(st:Stmt)(ps:List Str):Prop:=∀ (x qual:Str) (kV doc pm:Value) (an:Option Addr) (cdv ct:Value) (us:List Value),us.length=ps.length->bindArgs (W.fnOf x qual (gZ st) (cC st) (aN st) .none kV doc pm an cdv ct) ⟨us,[]⟩=pure (ps.zip us)
theorem MG{x:Str}{st:Stmt}{ps:List Str}{f:Addr}{oc:Value}{od an:Option Addr}{osl:Array (Option Value)}{kV doc pm cdv ct:Value}(hb:ik st ps)(a:W.nsIn K mainGlobals x=some (some (.ref f)))(l:K.lookup f=some ⟨oc,od,.func (W.fnOf x x (gZ st) (cC st) (aN st) .none kV doc pm an cdv ct),osl⟩)
  (c:W.codeIn K cdv x=true) (k:W.keepIn K (.ref f)=true):aG K x st ps:=⟨f,_,a,uJ (st:=st) l c k,(uJ (st:=st) l c k).binds fun kV doc pm an cdv ct us h=>hb _ _ kV doc pm an cdv ct us h⟩
structure n5(K:W.Frag)(x:Str)(st:Stmt)(ps:List Str):Prop where
 ex:∃ (f:Addr) (fd:FuncData) (c P:Addr),W.nsIn K mainGlobals x=some (some (.ref f))/\He K x x st f fd/\Binds K fd ps []/\fd.code=.ref c/\W.codeHdIn K c P=true
structure D3(K:W.Frag)(mg:Str->Option Value)(x:Str)(st:Stmt)(ps:List Str):Prop where
 ex:∃ (f:Addr) (fd:FuncData) (c P:Addr),mg x=some (.ref f)/\He K x x st f fd/\Binds K fd ps []/\fd.code=.ref c/\W.codeHdIn K c P=true
theorem n5.mg{h:Heap}{mg:Str->Option Value}{x:Str}{st:Stmt}{ps:List Str}(D:n5 K x st ps)(X:K.In h)(G:h.Ns mainGlobals mg):D3 K mg x st ps:=by
 obtain⟨f,fd,c,P,a,b⟩:=D.ex
 exact⟨f,fd,c,P,W.mg_of X G a,b⟩
noncomputable def FB(K:W.Frag)(c:Addr):Addr:=match K.lookup c with
 | some ⟨_,_,.fields vs,_⟩=>(match (vs[11]?:Option Value) with|some (.ref P)=>P|_=>0)
 | _=>0
theorem MC{x:Str}{st:Stmt}{ps:List Str}{f c:Addr}{oc:Value}{od an:Option Addr}{osl:Array (Option Value)}{kV doc pm ct:Value}(hb:ik st ps)(a:W.nsIn K mainGlobals x=some (some (.ref f)))(l:K.lookup f=some ⟨oc,od,.func (W.fnOf x x (gZ st) (cC st) (aN st) .none kV doc pm an (.ref c) ct),osl⟩)
  (cd:W.codeIn K (.ref c) x=true) (k:W.keepIn K (.ref f)=true) (hh:W.codeHdIn K c (FB K c)=true):n5 K x st ps:=⟨f,_,c,FB K c,a,uJ (st:=st) l cd k,(uJ (st:=st) l cd k).binds fun kV doc pm an cdv ct us h=>hb _ _ kV doc pm an cdv ct us h,rfl,hh⟩
theorem DB{x:Str}{i:Int}{t:Tok}(h:W.nsIn K mainGlobals x=some (some (.int i t))):∃t,W.nsIn K mainGlobals x=some (some (.int i t)):=⟨t,h⟩
theorem LD{K:W.Frag}(h0:W.nsIn K mainGlobals "len"=some none)(h1:W.nsIn K mainGlobals "isinstance"=some none)(h2:W.nsIn K mainGlobals "int"=some none)(h3:W.nsIn K mainGlobals "bool"=some none)(h4:W.nsIn K mainGlobals "tuple"=some none)(h5:W.nsIn K mainGlobals "list"=some none)(h6:W.nsIn K mainGlobals "range"=some none)(h7:W.nsIn K mainGlobals "all"=some none)(h8:W.nsIn K mainGlobals "any"=some none)(h9:W.nsIn K mainGlobals "set"=some none)(h10:W.nsIn K mainGlobals "sorted"=some none)(h11:W.nsIn K mainGlobals "enumerate"=some none)(h12:W.nsIn K mainGlobals "zip"=some none)(h13:W.nsIn K mainGlobals "sum"=some none)(h14:W.nsIn K mainGlobals "min"=some none)(h15:W.nsIn K mainGlobals "max"=some none)(h16:W.nsIn K mainGlobals "reversed"=some none):∀x∈cY,W.nsIn K mainGlobals x=some none:=by
 intro x hx
 simp only[cY,zR,yG,or_false] at hx
 rcases hx with rfl|rfl|rfl|rfl|rfl|rfl|rfl|rfl|rfl|rfl|rfl|rfl|rfl|rfl|rfl|rfl|rfl<;>assumption
theorem y1{K:W.Frag}{H:Hp}{a:Addr}{ns:List Int}{m:List D->Option D}(hS:iV K H a (ns.map V.int))(hT:gy K H)(h:m [.list (ns.map PyData.int)]=some (.bool true)){X:_}:Nv K 1 m [.ref a] H (fun v _=>v=.bl true) X:=by
 refine⟨H,[.list (ns.map PyData.int)],.bool true,.refl _,hT,au.cons ?_ au.nil,rfl,h,fun v H' HF' G r=>by simpa only[Rep] using r⟩
 simp only[Rep]
 refine⟨a,_,rfl,hS,?_⟩
 clear h hS hT
 induction ns with
 | nil=>exact au.nil
 | cons n ns ih=>exact au.cons (by simp[Rep]) ih
end
theorem OC{X:Cx}{e:Expr}{es:List Expr}{f:Env->Option D}{g:Env->Option (List D)}(h:isStar e=false)(he:DE X e f)(hs:DA X es g):DA X (e::es) (aa f g):=Kn he hs h
section
variable {X:Cx}{N:List Str}{sc:Scope}{k:Nat}{HF₀ H₀:Hp}{e c:Expr}{es:List Expr}{fs:Env->Option (List D)}{pos p:Pos}
noncomputable def Mm:ak->Option Out:=fun _=>none
theorem MI{st:Stmt}:DS X HF₀ H₀ st Mm:=fun pins s σ H E I ⟨HF,ρ,o,S,hg,q⟩=>by cases hg
noncomputable def jF(f:Env->Option D):ak->Option Out:=fun ρ=>(f (bg ρ)).map fun _=>.nx ρ
theorem HE{f:Env->Option D}(hs:swapsWith e none pos.line X.env=pure false)(h:DE X e f):DS X HF₀ H₀ (.Expr e pos) (jF f):=eC (o8 h hs) fun E σ H ⟨HF,ρ,o,S,hg,q⟩=>by
 obtain⟨d,h,rfl⟩:=ag hg
 exact⟨H,bg ρ,d,.refl _,S.all,h,fun v H' HF' G r=>q σ H' HF (S.step G.hh) (.refl _)⟩
noncomputable def Gw(t:Env->Option Bool)(gb:ak->Option Out):Nat->ak->Option Out
 | 0,_=>none
 | n+1,ρ=>(t (bg ρ)).bind fun b=>if b=true then (gb ρ).bind fun|.nx ρ'=>Gw t gb n ρ'|.rt d=>some (.rt d) else some (.nx ρ)
theorem Gf(n:Nat){body:List Stmt}{t:Env->Option Bool}{gb:ak->Option Out}(hp:PassesOwn (model X.prog X.w) X.A X.env X.xe)(hc:DT X c t)(hb:Do X HF₀ H₀ body gb):DS X HF₀ H₀ (.While c body [] pos) (Gw t gb n) :=
 eC (FM hp hc hb) fun E σ H ⟨HF,ρ,o,S,hg,q⟩=>by
  refine⟨fun m σ' H'=>∃HF' ρ',jJ X.K HF₀ H₀ HF' H' ρ' σ'/\aZ HF HF'/\Gw t gb m ρ'=some o,⟨n,HF,ρ,S,.refl _,hg⟩,?_⟩
  rintro m σ' H' ⟨HF',ρ',S',s',hf⟩
  cases m with
  | zero=>cases hf
  | succ m =>
   unfold Gw at hf
   obtain⟨b,hb,hf⟩:=bs hf
   refine⟨H',bg ρ',b,.refl _,S'.all,hb,fun H1 HF1 G=>?_⟩
   cases b with
   | false =>
    rw[if_neg Bool.false_ne_true] at hf ⊢
    cases hf
    exact q σ' H1 HF' (S'.step G.hh) s'
   | true =>
    rw[if_pos rfl] at hf ⊢
    obtain⟨o1,h2,hf⟩:=bs hf
    refine⟨fun σ2 H3=>∃HF3 ρ3,jJ X.K HF₀ H₀ HF3 H3 ρ3 σ2/\aZ HF HF3/\Gw t gb m ρ3=some o,fun σ2 H3 ⟨HF3,ρ3,a1,a2,a3⟩=>⟨m,Nat.lt_succ_self _,HF3,ρ3,a1,a2,a3⟩,HF',ρ',o1,S'.step G.hh,h2,?_⟩
    cases o1 with
    | nx ρ2=>exact fun σ4 H4 HF4 S4 s4=>⟨HF4,ρ2,S4,s'.trans s4,hf⟩
    | rt d=>cases hf;exact q
noncomputable def xW:List D->Option D
 | [.int a,.int b]=>some (.int (min a b))
 | [.int a,.int b,.int c]=>some (.int (min (min a b) c))
 | _=>none
theorem Fz(hc:X.calm=true):eA X (.builtin "min") (fun xs H Q=>(∃a b:Int,xs=[.int a,.int b]/\Q (.int (min a b)) H)\/(∃a b c:Int,xs=[.int a,.int b,.int c]/\Q (.int (min (min a b) c)) H)):=by
 intro pins s σ H xs us Q I r h
 have hh:X.A.handled=none:=I.ok.hd hc
 rcases h with ⟨a,b,rfl,q⟩|⟨a,b,c,rfl,q⟩
 ·cases r with
  | cons r1 r =>
   cases r with
   | cons r2 r =>
    cases r
    obtain⟨t,rfl⟩:=r1
    obtain⟨u,rfl⟩:=r2
    refine min_two_ints hh fun h' tk kp=>⟨.int (min a b),H,I.kept (t':=tk) kp,?_,q⟩
    by_cases h:b < a
    ·rw[if_pos h,show min a b=b by omega];exact⟨_,rfl⟩
    ·rw[if_neg h,show min a b=a by omega];exact⟨_,rfl⟩
 ·cases r with
  | cons r1 r =>
   cases r with
   | cons r2 r =>
    cases r with
    | cons r3 r =>
     cases r
     obtain⟨t,rfl⟩:=r1
     obtain⟨u,rfl⟩:=r2
     obtain⟨x,rfl⟩:=r3
     refine min_three_ints hh fun h' tk kp=>⟨.int (min (min a b) c),H,I.kept (t':=tk) kp,?_,q⟩
     by_cases h:b < a
     ·rw[if_pos h]
      by_cases h2:c < b
      ·rw[if_pos h2,show min (min a b) c=c by omega];exact⟨_,rfl⟩
      ·rw[if_neg h2,show min (min a b) c=b by omega];exact⟨_,rfl⟩
     ·rw[if_neg h]
      by_cases h2:c < a
      ·rw[if_pos h2,show min (min a b) c=c by omega];exact⟨_,rfl⟩
      ·rw[if_neg h2,show min (min a b) c=a by omega];exact⟨_,rfl⟩
theorem xp{K:W.Frag}{H:Hp}{d:D}{v:V}(r:Rep K H d v):∀ {ds:List D}{vs:List V}(j:Nat),au K H ds vs->au K H (ds.set j d) (vs.set j v)
 | [],vs,j,h=>by rw[h.nil_inv];exact au.nil
 | x::ds,vs,j,h=>by
  obtain⟨u,us,rfl,a,b⟩:=h.cons_inv
  cases j with
  | zero=>exact au.cons r b
  | succ j=>exact au.cons a (xp r j b)
noncomputable def z9(i:Nat)(fz:List Nat)(fk f:Env->Option D):ak->Option Out:=fun ρ=>(lh fz f ρ).bind fun p=>(fk (bg p.2)).bind fun kd=>match kd with
 | .int k=>nI i (fun ds=>(GA ds.length k).map fun j=>ds.set j p.1) p.2
 | _=>none
theorem F9(i:Nat)(fz:List Nat){x:Str}{e2:Expr}{px spos:Pos}{fk f:Env->Option D}(hN:X.N[i]?=some x)(hv:GT X.env.scope x)(hk:DE X e fk)(h:DE X e2 f)(hd:(x == ("__debug__":Str))=false:=by decide)(hcd:(x == ("__classdict__":Str))=false:=by decide)
  (ha:∀v,assign (.Subscript (.Name x px) e spos) X.env v=(do
   let ov <- holding [v] (eval (.Name x px) X.env)
   let iv <- holding [v,ov] (eval e X.env)
   standAt spos
   holding [v,ov,iv] (setItem ov iv v)
   release [v,ov,iv] []):=by intro _;rfl)
  (hs:swapsWithSole [.Subscript (.Name x px) e spos] e2 pos.line X.env=pure false:=by rfl) (hw:swappedStores [.Subscript (.Name x px) e spos] e2 X.env=pure none:=by rfl)
  (h1:(assignEach [.Subscript (.Name x px) e spos] X.env).map (·.2)=[assign (.Subscript (.Name x px) e spos) X.env]:=by rfl):DS X HF₀ H₀ (.Assign [.Subscript (.Name x px) e spos] e2 pos) (z9 i fz fk f) :=
 eC (Kt h (LH (m9 hN hv hd hcd) hk set_list ha) hs hw h1) fun E σ H ⟨HF,ρ,o,S,hg,q⟩=>by
  obtain⟨⟨d,ρ'⟩,h1,hg⟩:=bs hg
  obtain⟨kd,h2,hg⟩:=bs hg
  cases kd<;>try cases hg
  rename_i k
  obtain⟨ds,es,h3,h4,rfl⟩:=kG hg
  obtain⟨j,hj,rfl⟩:=ag h4
  refine mR S h1 fun v H1 HF1 s1 S1 s2 r=>?_
  obtain⟨a,vs,e1,e2,e3,e5,e4⟩:=S1.own i ds h3
  refine⟨.ref a,e1,H1,bg ρ',.int k,.refl _,S1.all,h2,fun kv H2 HF2 G rk=>?_⟩
  simp only[Rep] at rk
  have S2:=S1.step G.hh
  obtain⟨a',vs',f1,f2,f3,f5,f4⟩:=S2.own i ds h3
  rw[e1] at f1;cases f1
  exact⟨a,vs',k,j,rfl,rk,f2,by rw[f4.length];exact hj,q σ _ HF1 (S2.mut h3 e1 f2 (xp r j f4)) s1⟩
end
section
variable {X:Cx}{N:List Str}{sc:Scope}{k:Nat}{HF₀ H₀:Hp}{a b e c:Expr}{es:List Expr}{fa fb:Env->Option D}{fs:Env->Option (List D)}{pos p:Pos}
noncomputable def Nb:D->Bool|.none=>true|_=>false
theorem pj{K:W.Frag}{HF:Hp}{d:D}{v:V}(r:Rep K HF d v):decide (v=.non)=Nb d:=by
 cases d<;>simp only[Rep] at r<;>first
  | (subst r;rfl)
  | (obtain⟨a,vs,rfl,_⟩:=r;rfl)
  | exact r.elim
noncomputable def mi:D->D->Option D:=fun x y=>if Nb y=true then some (.bool (Nb x)) else none
noncomputable def mK:D->D->Option D:=fun x y=>if Nb y=true then some (.bool (!Nb x)) else none
theorem BI{K:W.Frag}:fY K (fun x y H Q=>y=.non/\Q (.bl (decide (x=.non))) H) mi:=by
 intro HF H x y v1 v2 d Q sm r1 r2 hg q
 unfold mi at hg
 split at hg
 ·rename_i h
  cases hg
  have h2:=pj r2
  rw[h,zJ] at h2
  refine⟨h2,?_⟩
  rw[pj r1]
  exact q _ H HF (.refl sm) (by simp[Rep])
 ·cases hg
theorem xh{K:W.Frag}:fY K (fun x y H Q=>y=.non/\Q (.bl (!decide (x=.non))) H) mK:=by
 intro HF H x y v1 v2 d Q sm r1 r2 hg q
 unfold mK at hg
 split at hg
 ·rename_i h
  cases hg
  have h2:=pj r2
  rw[h,zJ] at h2
  refine⟨h2,?_⟩
  rw[pj r1]
  exact q _ H HF (.refl sm) (by simp[Rep])
 ·cases hg
theorem Bk.is0(C:Bk X N sc k)(ha:DE X a fa)(hb:DE X b fb):DE X (.Compare a [.Is] [b] pos) (f2 mi fa fb):=jn Ee BI ha hb (dq _)
theorem Bk.not0(C:Bk X N sc k)(ha:DE X a fa)(hb:DE X b fb):DE X (.Compare a [.IsNot] [b] pos) (f2 mK fa fb):=jn Bc xh ha hb (dq _)
theorem Bk.tis0(C:Bk X N sc k)(ha:DE X a fa)(hb:DE X b fb):DT X (.Compare a [.Is] [b] pos) (fB (f2 mi fa fb)):=jx Ee BI ha hb (dq _)
theorem Bk.tnot0(C:Bk X N sc k)(ha:DE X a fa)(hb:DE X b fb):DT X (.Compare a [.IsNot] [b] pos) (fB (f2 mK fa fb)):=jx Bc xh ha hb (dq _)
theorem J2(hc:X.calm=true)(B:nU X "min" (.builtin "min"))(he:starEach (e::es) X.env=(false,eval e X.env)::starEach es X.env)(hpl:(backTo pos (starEach es X.env)).any (·.1)=false)(ha:DA X (e::es) fs):DE X (.Call (.Name "min" p) (e::es) [] pos) (bf xW fs) :=
 iM (Fz hc) (by
  intro HF H ds vs d Q sm r hg q
  unfold xW at hg
  split at hg
  ·cases hg
   obtain⟨v1,r1,rfl,a1,b1⟩:=r.cons_inv
   obtain⟨v2,r2,rfl,a2,b2⟩:=b1.cons_inv
   rw[b2.nil_inv]
   simp only[Rep] at a1 a2
   exact .inl ⟨_,_,by rw[a1,a2],q _ H HF (.refl sm) (by simp[Rep])⟩
  ·cases hg
   obtain⟨v1,r1,rfl,a1,b1⟩:=r.cons_inv
   obtain⟨v2,r2,rfl,a2,b2⟩:=b1.cons_inv
   obtain⟨v3,r3,rfl,a3,b3⟩:=b2.cons_inv
   rw[b3.nil_inv]
   simp only[Rep] at a1 a2 a3
   exact .inr ⟨_,_,_,by rw[a1,a2,a3],q _ H HF (.refl sm) (by simp[Rep])⟩
  ·cases hg) B ha (by decide) (by decide) he hpl
end
section
variable {X:Cx}{a b e c:Expr}{es:List Expr}{fa fb:Env->Option D}{fl fs:Env->Option (List D)}{pos p:Pos}
noncomputable def ME(ds:List D):D->Option (List D)
 | .int k=>if Ab k=true/\ds.length * k.toNat<=sizeLine then some (List.replicate k.toNat ds).flatten else none
 | _=>none
noncomputable def JR(fl:Env->Option (List D))(fb:Env->Option D):Env->Option (List D):=fun ρ=>(fl ρ).bind fun ds=>(fb ρ).bind (ME ds)
theorem LB(ha:DF X a fl)(hb:DE X b fb):DF X (.BinOp a .Mult b pos) (JR fl fb):=aV (EY KN ha hb) fun σ H Q ⟨HF,ρ,d,sm,eo,hf,q⟩=>by
 obtain⟨ds,hx,hf⟩:=bs hf
 obtain⟨y,hy,hg⟩:=bs hf
 refine⟨HF,ρ,ds,sm,eo,hx,fun l vs H1 HF1 g1 h0 hn h1 r1=>⟨HF1,ρ,y,g1.fh,eo.mono g1.ff,hy,fun v2 H2 HF2 g2 r2=>?_⟩⟩
 cases y<;>try cases hg
 rename_i k
 have hg:(if Ab k=true/\ds.length * k.toNat<=sizeLine then some (List.replicate k.toNat ds).flatten else none)=some d:=hg
 split at hg
 ·rename_i hz
  cases hg
  simp only[Rep] at r2
  have r1:=r1.mono g2.ff
  have G:=g1.trans g2
  have ok:=hz.1
  simp only[Ab,zF,zJ] at ok
  exact⟨l,k,vs,rfl,r2,g2.hh _ _ h1,by omega,by omega,by rw[r1.length];exact hz.2,fun p hp=>q p _ _ HF2 (G.trans (.own G.fh hp)) (G.hh.free hp) (G.fh.free hp) aL (mJ r1 _)⟩
 ·cases hg
theorem zf(hc:X.calm=true):eA X (.builtin "any") (fun xs H Q=>∃ (a:Addr) (bs:List Bool),xs=[.ref a]/\iV X.K H a (bs.map V.bl)/\Q (.bl (bs.any id)) H):=by
 intro pins s σ H xs us Q I r h
 obtain⟨a,bs,rfl,hq,q⟩:=h
 obtain⟨u,rfl,rx⟩:=vals1 r
 cases rx
 obtain⟨its,rv,pl,hz⟩:=I.list hq
 have hv:=lJ rv
 subst hv
 have hh:X.A.in1.handled=none:=I.ok.hd hc
 refine call_any_walk (wpAny_pyIter_list pl.isList ?_)
 obtain⟨o,ho,hcl,n,hd⟩:=pl.isList
 have hne:a≠s.heap.objs.size:=Nat.ne_of_lt (zZ ho)
 refine⟨_,_,_,_,_,_,fun i=>bs.getD i false,rfl,Walks.list hh s.heap.objs.size a hne (bs.map Value.bool).toArray,⟨⟨_,zY _ rfl,rfl,rfl⟩,pl.isList.push _⟩,fun i v s' Q' E' hP hQ=>?_,fun h' tk kp=>?_⟩
 ·have e:v=Value.bool (bs.getD i false):=by
   have hP:(bs.map Value.bool).toArray[i]?=some v:=hP
   rw[List.getElem?_toArray,zO] at hP
   obtain⟨b,hb,rfl⟩:=ag hP
   rw[zG,hb]
   rfl
  subst e
  exact wpAny_truthy_bool hQ
 ·refine⟨.bl (bs.any id),H,?_,?_,q⟩
  ·exact I.kept (t':=tk) fun b o' e=>kp b o' (by simp;exact Nat.ne_of_lt (zZ e)) (zV _ e)
  ·show Value.bool _=Value.bool _
   have:=range_any bs
   simp only[zH,zD]
   rw[this]
end
section
variable {X:Cx}{e:Expr}{fs:Env->Option (List D)}{pos p:Pos}
theorem Lg(hc:X.calm=true)(B:nU X "any" (.builtin "any"))(he:starEach [e] X.env=(false,eval e X.env)::starEach [] X.env)(ha:DA X [e] fs):DE X (.Call (.Name "any" p) [e] [] pos) (bf (fun ds=>(oneOf ds).bind fun d=>match d with
 | .list es=>(boolsOf es).map fun bs=>.bool (bs.any id)
 | _=>none) fs) :=
 iM (zf hc) (by
  intro HF H ds vs d Q sm r hg q
  obtain⟨x,hx,hg⟩:=bs hg
  rw[gx hx] at r
  cases x<;>try cases hg
  obtain⟨bs,hb,rfl⟩:=ag hg
  obtain⟨v,r',rfl,a,b⟩:=r.cons_inv
  rw[b.nil_inv]
  simp only[Rep] at a
  obtain⟨p,us,rfl,h,rr⟩:=a
  rw[i4 hb] at rr
  have:=lL rr
  subst this
  exact⟨p,bs,rfl,sm.seq h,q _ H HF (.refl sm) (by simp[Rep])⟩) B ha (by decide) (by decide) he rfl
theorem oa(ns:List Int):∀j:Nat,preSum (fun i=>ns.getD i 0) j=(ns.take j).sum
 | 0=>by simp[preSum]
 | j+1=>by
  rw[preSum,oa ns j,List.take_add_one,List.sum_append]
  congr 1
  rw[zG]
  cases ns[j]?<;>simp
theorem sZ(val:Nat->Int)(B:Int)(h:∀i,-B<=val i/\val i<=B):∀j:Nat,-(B * j)<=preSum val j/\preSum val j<=B * j
 | 0=>by simp[preSum]
 | j+1=>by
  have ih:=sZ val B h j
  have:=h j
  rw[preSum]
  have e:B * ((j+1:Nat):Int)=B * (j:Int)+B:=by rw[Int.natCast_add,Int.mul_add];simp
  rw[e]
  omega
noncomputable def Le(ns:List Int):Bool:=decide (ns.length<=1000)&&ns.all fun n=>decide (-1000000<=n)&&decide (n<=1000000)
theorem Mc{ns:List Int}(h:Le ns=true):ns.length<=1000/\∀i,-1000000<=ns.getD i 0/\ns.getD i 0<=1000000:=by
 unfold Le at h
 rw[zF,zJ,List.all_eq_true] at h
 refine⟨h.1,fun i=>?_⟩
 rw[zG]
 cases e:ns[i]? with
 | none=>simp
 | some n =>
  have:=h.2 n (List.mem_of_getElem? e)
  simpa using this
theorem o4{ns:List Int}{its:List Value}(r:aF (ns.map V.int) its){i:Nat}{v:Value}(h:its.toArray[i]?=some v):∃t,v=.int (ns.getD i 0) t:=by
 rw[List.getElem?_toArray] at h
 induction ns generalizing its i with
 | nil=>cases r;simp at h
 | cons n ns ih =>
  cases r with
  | cons r1 rr =>
   cases i with
   | zero =>
    simp only[List.getElem?_cons_zero,yL] at h
    subst h
    obtain⟨t,rfl⟩:=r1
    exact⟨t,rfl⟩
   | succ i =>
    simp only[List.getElem?_cons_succ] at h
    exact ih rr h
theorem Ag(hc:X.calm=true):eA X (.builtin "sum") (fun xs H Q=>∃ (a:Addr) (ns:List Int),xs=[.ref a]/\(iV X.K H a (ns.map V.int)\/ju X.K H a (ns.map V.int))/\Le ns=true/\Q (.int ns.sum) H):=by
 intro pins s σ H xs us Q I r h
 obtain⟨a,ns,rfl,hq,hok,q⟩:=h
 obtain⟨u,rfl,rx⟩:=vals1 r
 cases rx
 have hh:X.A.in1.handled=none:=I.ok.hd hc
 obtain⟨hlen,hbd⟩:=Mc hok
 have hin:∀n:Nat,n<=1000->∀j,j < n->InLong ((fun i=>ns.getD i 0) j)/\InLong (preSum (fun i=>ns.getD i 0) (j+1)):=fun n hn j hj=>by
  have h1:=hbd j
  have h2:=sZ (fun i=>ns.getD i 0) 1000000 hbd (j+1)
  refine⟨⟨?_,?_⟩,?_,?_⟩
  ·show -(2 ^ 63)<=ns.getD j 0
   omega
  ·show ns.getD j 0 < 2 ^ 63
   omega
  ·omega
  ·omega
 have hsum:preSum (fun i=>ns.getD i 0) ns.length=ns.sum:=by rw[oa,List.take_length]
 rcases hq with hq|hq
 ·obtain⟨its,rv,pl,hz⟩:=I.list hq
  have hl:its.length=ns.length:=by rw[<- rv.length,zD]
  refine call_sum_walk (wpAny_pyIter_list pl.isList ?_)
  obtain⟨o,ho,hcl,n,hd⟩:=pl.isList
  have hlt:=zZ ho
  have hne:a≠s.heap.objs.size:=Nat.ne_of_lt hlt
  refine⟨_,_,_,_,_,_,fun i=>ns.getD i 0,rfl,Walks.list hh s.heap.objs.size a hne its.toArray,⟨⟨_,zY _ rfl,rfl,rfl⟩,pl.isList.push _⟩,fun b hb=>?_,fun i v hP=>o4 rv hP,by rw[zH,hl];exact hin _ hlen,fun h' tk t' kp=>?_⟩
  ·show b < (s.heap.push _).objs.size
   rw[Heap.size_push]
   simp only[zR,yG,or_false] at hb
   rcases hb with rfl|rfl
   ·exact Nat.lt_succ_self _
   ·exact Nat.lt_succ_of_lt hlt
  ·refine⟨.int ns.sum,H,I.kept (t':=tk) fun b o' e=>kp b o' (by simp;exact Nat.ne_of_lt (zZ e)) (zV _ e),⟨t',?_⟩,q⟩
   rw[zH,hl,hsum]
 ·obtain⟨its,rv,pl,hz⟩:=I.tuple hq
  have pl:s.heap.IsTuple a its.toArray:=pl
  have hl:its.length=ns.length:=by rw[<- rv.length,zD]
  refine call_sum_walk (wpAny_pyIter_tuple pl ?_)
  obtain⟨o,ho,hcl,n,hd⟩:=id pl
  have hlt:=zZ ho
  have hne:a≠s.heap.objs.size:=Nat.ne_of_lt hlt
  refine⟨_,_,_,_,_,_,fun i=>ns.getD i 0,rfl,Walks.tuple hh s.heap.objs.size a hne its.toArray,⟨⟨_,zY _ rfl,rfl,rfl⟩,pl.push _⟩,fun b hb=>?_,fun i v hP=>o4 rv hP,by rw[zH,hl];exact hin _ hlen,fun h' tk t' kp=>?_⟩
  ·show b < (s.heap.push _).objs.size
   rw[Heap.size_push]
   simp only[zR,yG,or_false] at hb
   rcases hb with rfl|rfl
   ·exact Nat.lt_succ_self _
   ·exact Nat.lt_succ_of_lt hlt
  ·refine⟨.int ns.sum,H,I.kept (t':=tk) fun b o' e=>kp b o' (by simp;exact Nat.ne_of_lt (zZ e)) (zV _ e),⟨t',?_⟩,q⟩
   rw[zH,hl,hsum]
end
section
variable {X:Cx}{e:Expr}{fs:Env->Option (List D)}{pos p:Pos}
noncomputable def Cw:List D->Option D:=fun ds=>(dO ds).bind fun es=>(intsOf es).bind fun ns=>if Le ns=true then some (.int ns.sum) else none
theorem kP{K:W.Frag}{H:Hp}:∀ {ns:List Int}{vs:List V},au K H (ns.map PyData.int) vs->vs=ns.map V.int
 | [],vs,h=>h.nil_inv
 | b::bs,vs,h=>by
  obtain⟨v,r,rfl,a,c⟩:=h.cons_inv
  simp only[Rep] at a
  rw[a,kP c]
  rfl
theorem KS(hc:X.calm=true)(B:nU X "sum" (.builtin "sum"))(he:starEach [e] X.env=(false,eval e X.env)::starEach [] X.env)(ha:DA X [e] fs):DE X (.Call (.Name "sum" p) [e] [] pos) (bf Cw fs) :=
 iM (Ag hc) (by
  intro HF H ds vs d Q sm r hg q
  obtain⟨es,h1,hg⟩:=bs hg
  obtain⟨ns,h2,hg⟩:=bs hg
  have hg:(if Le ns=true then some (PyData.int ns.sum) else none)=some d:=hg
  split at hg
  ·rename_i hok
   cases hg
   have e2:=dW h2
   subst e2
   rcases gT h1 with rfl|rfl
   all_goals
    obtain⟨v,r',rfl,a,b⟩:=r.cons_inv
    rw[b.nil_inv]
    simp only[Rep] at a
    obtain⟨p,us,rfl,h,rr⟩:=a
    have:=kP rr
    subst this
   ·exact⟨p,ns,rfl,.inr (aB sm h),hok,q _ H HF (.refl sm) (by simp[Rep])⟩
   ·exact⟨p,ns,rfl,.inl (sm.seq h),hok,q _ H HF (.refl sm) (by simp[Rep])⟩
  ·cases hg) B ha (by decide) (by decide) he rfl
end
section
variable {X:Cx}
noncomputable def Mi(i:Int):Value->Bool|.int a _=>a == i|_=>false
theorem Ce:Mn X "list.index" (fun x vs H Q=>∃ (l:Addr) (ns:List Int) (i:Int) (j:Nat),x=.ref l/\vs=[.int i]/\iV X.K H l (ns.map V.int)/\ns[j]?=some i/\(∀m,m < j->ns[m]?≠some i)/\Q (.int j) H):=by
 intro pins s σ H x vs v us Q I rx rv h
 obtain⟨l,ns,i,j,rfl,rfl,hq,hj,hno,q⟩:=h
 cases rx
 obtain⟨u,rfl,ru⟩:=rv.one
 obtain⟨t,rfl⟩:=ru
 obtain⟨its,r,pl,hz⟩:=I.list hq
 obtain⟨⟨cls,dd,data,sl⟩,ho,hc,n,hd⟩:=id pl.isList
 simp only at hc hd
 subst hc hd
 have hl:its.length=ns.length:=by rw[<- r.length,zD]
 have hj1:j < ns.length:=(zU.mp hj).1
 have hz':ns.length<=sizeLine:=by rw[zD] at hz;exact hz
 have hs63:(sizeLine:Nat) < 2 ^ 62:=by decide
 have at_:∀m (hm:m < its.toArray.size),∃t',its.toArray[m]=.int (ns.getD m 0) t':=fun m hm=>o4 r (Array.getElem?_eq_getElem hm)
 refine call_meets F.slot_list_index ⟨_,ho,rfl⟩ F.entry_list_index (F.args_list_index_2 _ _) (PySem.SeqAt.list_indexAt l its.toArray n dd sl (.int i t) (Mi i) j (by rw[zH,hl];exact hj1) (by omega) ?_ ?_) ⟨ho,?_,?_⟩
 ·obtain⟨t',e⟩:=at_ j (by rw[zH,hl];exact hj1)
  rw[e,Mi,zG,hj]
  simp
 ·intro m hm hmj
  obtain⟨t',e⟩:=at_ m hm
  have hm':m < ns.length:=by omega
  have:=hno m hmj
  rw[e,Mi,zG]
  rw[zK hm'] at this ⊢
  simp only[Option.getD_some,beq_eq_false_iff_ne]
  exact fun h=>this (by rw[h])
 ·intro y hy
  obtain⟨m,hm,rfl⟩:=Array.getElem_of_mem hy
  obtain⟨t',e⟩:=at_ m hm
  rw[e]
  exact PySem.SeqAt.EqAt.int_int _ _ _ _
 ·exact⟨.int j,H,I.tok _,⟨_,rfl⟩,q⟩
noncomputable def wa(i:Int):List Int->Option Nat
 | []=>none
 | n::ns=>if n=i then some 0 else (wa i ns).map (·+1)
theorem nj{i:Int}:∀ {ns:List Int}{j:Nat},wa i ns=some j->ns[j]?=some i/\∀m,m < j->ns[m]?≠some i
 | [],j,h=>by cases h
 | n::ns,j,h=>by
  unfold wa at h
  split at h
  ·cases h
   rename_i e
   exact⟨by rw[e];rfl,fun m hm=>absurd hm (Nat.not_lt_zero _)⟩
  ·rename_i e
   obtain⟨k,hk,rfl⟩:=ag h
   obtain⟨a,b⟩:=nj hk
   refine⟨by simpa using a,fun m hm=>?_⟩
   cases m with
   | zero=>simpa using e
   | succ m=>simpa using b m (by omega)
noncomputable def OD:D->D->Option D
 | .list es,.int i=>(intsOf es).bind fun ns=>(wa i ns).map fun j=>.int ((j:Nat):Int)
 | _,_=>none
theorem Gq{o e:Expr}{apos cpos:Pos}{fo fe:Env->Option D}(hbase:attributeBase o "index" X.env (eval o X.env)=eval o X.env)
  (hfew:((backTo cpos (starEach [e] X.env)).all (fun x=>!x.1)&&(backToKw cpos (keywordEach [] X.env)).all (fun x=>x.1.isSome)&&decide ([e].length+([]:List Keyword).length+(if ([]:List Keyword).isEmpty then 0 else 1) < 30))=true)
  (hline:(apos.endLine == cpos.line)=true) (hs:starEach [e] X.env=(false,eval e X.env)::starEach [] X.env) (ho:DE X o fo) (he:DE X e fe):DE X (.Call (.Attribute o "index" apos) [e] [] cpos) (f2 OD fo fe) :=
 aV (sF PySem.F.plainAttrs_list PySem.F.slot_list_index PySem.F.type_list_index Ce ho (dE he ip hs) hbase hfew hline hs rfl) fun σ H Q ⟨HF,ρ,d,sm,eo,hf,q⟩=>by
  obtain⟨x,hx,hf⟩:=bs hf
  obtain⟨y,hy,hg⟩:=bs hf
  refine⟨HF,ρ,x,sm,eo,hx,fun v1 H1 HF1 g1 r1=>?_⟩
  cases x<;>try cases hg
  cases y<;>try cases hg
  rename_i es i
  obtain⟨ns,h1,hg⟩:=bs hg
  obtain⟨j,h2,rfl⟩:=ag hg
  have e1:=dW h1
  subst e1
  simp only[Rep] at r1
  obtain⟨l,us,rfl,hq,rr⟩:=r1
  have:=kP rr
  subst this
  refine⟨.inl ⟨rfl,_,g1.fh.seq hq⟩,HF1,ρ,.int i,g1.fh,eo.mono g1.ff,hy,fun v2 H2 HF2 g2 r2=>?_⟩
  simp only[Rep] at r2
  obtain⟨a,b⟩:=nj h2
  exact⟨l,ns,i,j,rfl,by rw[r2],g2.fh.seq (g2.ff.seq hq),a,b,q _ H2 HF2 (g1.trans g2) (by simp[Rep])⟩
end
end Dl
namespace Tx
open PySem PySem.SeqAt PyProof.Rows
open PySem.AutoSeq1 (wpAny_loadPart')
open PySem.MeetsSeq PySem.MeetsSeq2 PySem.MeetsSeq3
theorem wpR{M:Model}{A:Around}{E:Value->Shared->Prop}{s:Shared}{β:Type}(f:Nat->β->Sem (ForInStep β))(I:List Nat->β->Shared->Prop)(Q:β->Shared->Prop)
  (turn:∀x rest b s,I (x::rest) b s->wpAny M A (f x b) (fun r s'=>match r with|.yield b'=>I rest b' s'|.done b'=>Q b' s') E s)
  (fin:∀b s,I [] b s->Q b s) (n:Nat) (b:β) (h:I (List.range' 0 n 1) b s):wpAny M A (forIn [:n] b f) Q E s:=by
 have e:forIn [:n] b f=forIn (List.range' 0 n 1) b f:=by
  rw[Std.Legacy.Range.forIn_eq_forIn_range']
  simp[Std.Legacy.Range.size]
 rw[e]
 exact wpAny_forIn_list f I Q turn fin _ b h
theorem tuple_indexAt(l:Addr)(items:Array Value)(n:Nat)(dd:Option Addr)(sl:Array (Option Value))(x:Value)(e:Value->Bool)(j:Nat)(hj:j < items.size)(h1:e items[j]=true)(h2:∀m (hm:m < items.size),m < j->e items[m]=false) :
  Meets (Builtin.«tuple.index» ⟨[.ref l,x],[]⟩)
   (fun A R s=>s.heap.get? l=some { cls:=.type "tuple",dict:=dd,data:=.seq items n,slots:=sl }/\(∀y,y∈items->EqAt A.in1 s y x (e y))/\R (.ok (.ret (.int (j:Nat) s.toks))) { s with toks:=s.toks+1 }) :=
 .of_wp fun prog w A R s h=>by
  obtain⟨hp,g,d,tk,os⟩:=s;obtain⟨hl,he,h⟩:=h
  wp_walk using wpAny_loadPart' hl,wpR _ (fun rest b s'=>s'=⟨hp,g,d,tk,os⟩/\b.1=none/\∃i,i<=j/\rest=List.range' i (items.size - i) 1) _
  case turn =>
   rintro i rest b s' ⟨rfl,hb,i',hi,e1⟩
   have hlt:i' < items.size:=by omega
   rw[show items.size - i'=(items.size - (i'+1))+1 by omega,List.range'_succ] at e1
   injection e1 with e2 e3
   subst e2
   subst e3
   simp only[Array.getElem?_eq_getElem hlt]
   refine zW (he _ (Array.getElem_mem hlt) prog w _ _ ?_)
   by_cases hij:i=j
   ·subst hij
    rw[h1]
    wp_walk
    exact⟨_,rfl,h⟩
   ·rw[h2 i hlt (by omega)]
    wp_walk
    exact⟨rfl,rfl,i+1,by omega,rfl⟩
  case fin =>
   rintro b s' ⟨rfl,hb,i,hi,e1⟩
   have:=congrArg List.length e1
   simp at this
   omega
  case h =>
   exact⟨rfl,rfl,0,Nat.zero_le _,by simp⟩
end Tx
namespace Dl
open PySem L2 PySem.Spec PyProof.Rows
section
variable {X:Cx}
theorem CH:Mn X "tuple.index" (fun x vs H Q=>∃ (l:Addr) (ns:List Int) (i:Int) (j:Nat),x=.ref l/\vs=[.int i]/\ju X.K H l (ns.map V.int)/\ns[j]?=some i/\(∀m,m < j->ns[m]?≠some i)/\Q (.int j) H):=by
 intro pins s σ H x vs v us Q I rx rv h
 obtain⟨l,ns,i,j,rfl,rfl,hq,hj,hno,q⟩:=h
 cases rx
 obtain⟨u,rfl,ru⟩:=rv.one
 obtain⟨t,rfl⟩:=ru
 obtain⟨its,r,pl,hz⟩:=I.tuple hq
 obtain⟨⟨cls,dd,data,sl⟩,ho,hc,n,hd⟩:=id pl
 simp only at hc hd
 subst hc hd
 have hl:its.length=ns.length:=by rw[<- r.length,zD]
 have hj1:j < ns.length:=(zU.mp hj).1
 have at_:∀m (hm:m < its.toArray.size),∃t',its.toArray[m]=.int (ns.getD m 0) t':=fun m hm=>o4 r (Array.getElem?_eq_getElem hm)
 refine call_meets F.slot_tuple_index ⟨_,ho,rfl⟩ F.entry_tuple_index (F.args_tuple_index_2 _ _) (Tx.tuple_indexAt l its.toArray n dd sl (.int i t) (Mi i) j (by rw[zH,hl];exact hj1) ?_ ?_) ⟨ho,?_,?_⟩
 ·obtain⟨t',e⟩:=at_ j (by rw[zH,hl];exact hj1)
  rw[e,Mi,zG,hj]
  simp
 ·intro m hm hmj
  obtain⟨t',e⟩:=at_ m hm
  have hm':m < ns.length:=by
   rw[zH] at hm
   omega
  have:=hno m hmj
  rw[e,Mi,zG]
  rw[zK hm'] at this ⊢
  simp only[Option.getD_some,beq_eq_false_iff_ne]
  exact fun h=>this (by rw[h])
 ·intro y hy
  obtain⟨m,hm,rfl⟩:=Array.getElem_of_mem hy
  obtain⟨t',e⟩:=at_ m hm
  rw[e]
  exact PySem.SeqAt.EqAt.int_int _ _ _ _
 ·exact⟨.int j,H,I.tok _,⟨_,rfl⟩,q⟩
theorem Gj{e:Expr}{t u:TE}(h:PE X e t)(g:PE X e u):PE X e (fun σ H Q=>t σ H Q\/u σ H Q):=fun pins s σ H Q I q=>q.elim (h pins s σ H Q I) (g pins s σ H Q I)
noncomputable def oC:D->D->Option D
 | .list es,.int i=>(intsOf es).bind fun ns=>(wa i ns).map fun j=>.int ((j:Nat):Int)
 | .tuple es,.int i=>(intsOf es).bind fun ns=>(wa i ns).map fun j=>.int ((j:Nat):Int)
 | _,_=>none
theorem CS{o e:Expr}{apos cpos:Pos}{fo fe:Env->Option D}(hbase:attributeBase o "index" X.env (eval o X.env)=eval o X.env)
  (hfew:((backTo cpos (starEach [e] X.env)).all (fun x=>!x.1)&&(backToKw cpos (keywordEach [] X.env)).all (fun x=>x.1.isSome)&&decide ([e].length+([]:List Keyword).length+(if ([]:List Keyword).isEmpty then 0 else 1) < 30))=true)
  (hline:(apos.endLine == cpos.line)=true) (hs:starEach [e] X.env=(false,eval e X.env)::starEach [] X.env) (ho:DE X o fo) (he:DE X e fe):DE X (.Call (.Attribute o "index" apos) [e] [] cpos) (f2 oC fo fe) :=
 aV (Gj (Gq hbase hfew hline hs ho he) (sF PySem.F.plainAttrs_tuple PySem.F.slot_tuple_index PySem.F.type_tuple_index CH ho (dE he ip hs) hbase hfew hline hs rfl)) fun σ H Q ⟨HF,ρ,d,sm,eo,hf,q⟩=>by
  obtain⟨x,hx,hf⟩:=bs hf
  obtain⟨y,hy,hg⟩:=bs hf
  cases x<;>try cases hg
  ·cases y<;>try cases hg
   rename_i es i
   exact .inl ⟨HF,ρ,d,sm,eo,by simp only[f2,hx,hy,zA];exact hg,q⟩
  ·cases y<;>try cases hg
   rename_i es i
   obtain⟨ns,h1,hg⟩:=bs hg
   obtain⟨j,h2,rfl⟩:=ag hg
   have e1:=dW h1
   subst e1
   refine .inr ⟨HF,ρ,_,sm,eo,hx,fun v1 H1 HF1 g1 r1=>?_⟩
   simp only[Rep] at r1
   obtain⟨l,us,rfl,hq,rr⟩:=r1
   have:=kP rr
   subst this
   refine⟨?_,HF1,ρ,.int i,g1.fh,eo.mono g1.ff,hy,fun v2 H2 HF2 g2 r2=>?_⟩
   ·first|exact .inr (.inl ⟨rfl,_,aB g1.fh hq⟩)|exact .inl ⟨rfl,_,aB g1.fh hq⟩|exact .inr ⟨rfl,_,aB g1.fh hq⟩
   ·simp only[Rep] at r2
    obtain⟨a,b⟩:=nj h2
    exact⟨l,ns,i,j,rfl,by rw[r2],aB g2.fh (aB g2.ff hq),a,b,q _ H2 HF2 (g1.trans g2) (by simp[Rep])⟩
end
end Dl
namespace Zp
open PySem PyProof.Rows
def IsI(b:Bool)(h:Heap)(it l:Addr)(k:Nat):Prop:=match b with|true=>h.IsTupleIter it l k|false=>h.IsListIter it l k
def IsS(b:Bool)(h:Heap)(l:Addr)(xs:Array Value):Prop:=match b with|true=>h.IsTuple l xs|false=>h.IsList l xs
theorem IsI.obj{b:Bool}{h:Heap}{it l:Addr}{k:Nat}(x:IsI b h it l k):∃o,h.get? it=some o/\∀v,o.data≠.cell v:=by
 cases b
 ·obtain⟨o,e,_,d⟩:=(show h.IsListIter it l k from x);exact⟨o,e,fun v q=>by rw[d] at q;cases q⟩
 ·obtain⟨o,e,_,d⟩:=(show h.IsTupleIter it l k from x);exact⟨o,e,fun v q=>by rw[d] at q;cases q⟩
theorem IsI.at{b:Bool}{h h':Heap}{it l:Addr}{k:Nat}(x:IsI b h it l k)(e:∀o,h.get? it=some o->h'.get? it=some o):IsI b h' it l k:=by
 cases b
 ·exact Heap.IsListIter.at x e
 ·exact Heap.IsTupleIter.at x e
theorem IsI.extBut{b:Bool}{h h':Heap}{a it l:Addr}{k:Nat}(x:IsI b h it l k)(e:Heap.ExtBut a h h')(n:it≠a):IsI b h' it l k:=x.at fun o q=>e it o n q
theorem IsS.at{b:Bool}{h h':Heap}{l:Addr}{xs:Array Value}(x:IsS b h l xs)(e:∀o,h.get? l=some o->h'.get? l=some o):IsS b h' l xs:=by
 cases b
 ·obtain⟨o,q,r⟩:=(show h.IsList l xs from x);exact⟨o,e o q,r⟩
 ·obtain⟨o,q,r⟩:=(show h.IsTuple l xs from x);exact⟨o,e o q,r⟩
theorem IsS.extBut{b:Bool}{h h':Heap}{a l:Addr}{xs:Array Value}(x:IsS b h l xs)(e:Heap.ExtBut a h h')(n:l≠a):IsS b h' l xs:=x.at fun o q=>e l o n q
section
variable {prog:Program}{w:World}{A:Around}{E:Value->Shared->Prop}{s:Shared}
theorem nxt{b:Bool}{j t:Addr}{k:Nat}{its:Array Value}{v:Value}{Q:Value->Shared->Prop}(hj:IsI b s.heap j t k)(ht:IsS b s.heap t its)(hv:its[k]?=some v)
  (hQ:∀g,IsI b g j t (k+1)->Heap.SameBut j s.heap g->Q v { s with heap:=g }):wpAny (model prog w) A (Builtin.SmallTypes.nextOf (.ref j)) Q E s:=by
 cases b
 ·exact wpAny_nextOf_list_item hj ht hv hQ
 ·exact En.nextT_item hj ht hv hQ
theorem nxtE{b:Bool}{j t:Addr}{k:Nat}{its:Array Value}{Q:Value->Shared->Prop}(hh:A.handled=none)(hj:IsI b s.heap j t k)(ht:IsS b s.heap t its)(hv:its[k]?=none)
  (hE:∀g x,Heap.ExtBut j s.heap g->(∃o,g.get? x=some o/\o.cls=.type "StopIteration")->E (.ref x) { s with heap:=g }):wpAny (model prog w) A (Builtin.SmallTypes.nextOf (.ref j)) Q E s:=by
 cases b
 ·exact wpAny_nextOf_list_end hh hj ht hv hE
 ·exact En.nextT_end hh hj ht hv hE
structure ZS(b₁ b₂:Bool)(h₀ h:Heap)(z TI TO i j l m:Addr)(xs ys:Array Value)(f:Value)(p q:Nat)(a b:Value):Prop where
 zo:IsZip h z TI TO f
 ti:IsPair h TI (.ref i) (.ref j)
 to:IsPair h TO a b
 wi:IsI b₁ h i l p
 wj:IsI b₂ h j m q
 sl:IsS b₁ h l xs
 sm:IsS b₂ h m ys
 kp:∀c o,c≠z->c≠TO->c≠i->c≠j->h₀.get? c=some o->h.get? c=some o
 sz:h.objs.size=h₀.objs.size
section
variable {b₁ b₂:Bool}{h₀ h g:Heap}{z TI TO i j l m:Addr}{xs ys:Array Value}{f f':Value}{p q:Nat}{a b x y:Value}
theorem ZS.fl(Z:ZS b₁ b₂ h₀ h z TI TO i j l m xs ys f p q a b)(D:ZipApart z TI TO i j l m)(e:IsZip g z TI TO f')(t:Heap.SameBut z h g):ZS b₁ b₂ h₀ g z TI TO i j l m xs ys f' p q a b :=
 ⟨e,t.extBut _ _ D.TIz Z.ti,t.extBut _ _ D.TOz Z.to,Z.wi.extBut t.extBut D.i1z,Z.wj.extBut t.extBut D.i2z,Z.sl.extBut t.extBut D.l1z,Z.sm.extBut t.extBut D.l2z,fun c o n1 n2 n3 n4 r=>t.extBut _ _ n1 (Z.kp c o n1 n2 n3 n4 r),t.1.trans Z.sz⟩
theorem ZS.fst(Z:ZS b₁ b₂ h₀ h z TI TO i j l m xs ys f p q a b)(D:ZipApart z TI TO i j l m)(e:IsI b₁ g i l (p+1))(t:Heap.SameBut i h g):ZS b₁ b₂ h₀ g z TI TO i j l m xs ys f (p+1) q a b :=
 ⟨t.extBut _ _ D.i1z.symm Z.zo,t.extBut _ _ D.TIi1 Z.ti,t.extBut _ _ D.TOi1 Z.to,e,Z.wj.extBut t.extBut D.i12.symm,Z.sl.extBut t.extBut D.l1i1,Z.sm.extBut t.extBut D.l2i1,fun c o n1 n2 n3 n4 r=>t.extBut _ _ n3 (Z.kp c o n1 n2 n3 n4 r),t.1.trans Z.sz⟩
theorem ZS.snd(Z:ZS b₁ b₂ h₀ h z TI TO i j l m xs ys f p q a b)(D:ZipApart z TI TO i j l m)(e:IsI b₂ g j m (q+1))(t:Heap.SameBut j h g):ZS b₁ b₂ h₀ g z TI TO i j l m xs ys f p (q+1) a b :=
 ⟨t.extBut _ _ D.i2z.symm Z.zo,t.extBut _ _ D.TIi2 Z.ti,t.extBut _ _ D.TOi2 Z.to,Z.wi.extBut t.extBut D.i12,e,Z.sl.extBut t.extBut D.l1i2,Z.sm.extBut t.extBut D.l2i2,fun c o n1 n2 n3 n4 r=>t.extBut _ _ n4 (Z.kp c o n1 n2 n3 n4 r),t.1.trans Z.sz⟩
theorem ZS.put(Z:ZS b₁ b₂ h₀ h z TI TO i j l m xs ys f p q a b)(D:ZipApart z TI TO i j l m)(e:IsPair g TO x y)(t:Heap.SameBut TO h g):ZS b₁ b₂ h₀ g z TI TO i j l m xs ys f p q x y :=
 ⟨t.extBut _ _ D.TOz.symm Z.zo,t.extBut _ _ D.TITO Z.ti,e,Z.wi.extBut t.extBut D.TOi1.symm,Z.wj.extBut t.extBut D.TOi2.symm,Z.sl.extBut t.extBut D.l1TO,Z.sm.extBut t.extBut D.l2TO,fun c o n1 n2 n3 n4 r=>t.extBut _ _ n2 (Z.kp c o n1 n2 n3 n4 r),t.1.trans Z.sz⟩
end
variable {b₁ b₂:Bool}{z TI TO i j l m:Addr}{xs ys:Array Value}{p q:Nat}{a b:Value}
theorem zipN{Q:Value->Shared->Prop}(hn:A.handled=none)(D:ZipApart z TI TO i j l m)(Z:ZS b₁ b₂ s.heap s.heap z TI TO i j l m xs ys .none p q a b)
  (item:∀x y g g',xs[p]?=some x->ys[q]?=some y->ZS b₁ b₂ s.heap g z TI TO i j l m xs ys .ellipsis (p+1) (q+1) x y->IsZip g' z TI TO (rawInt g.objs.size) ->
   Heap.SameBut z (g.push { cls:=.type "tuple",data:=.seq #[x,y] }) g'->Q (.ref g.objs.size) { s with heap:=g' })
  (over:(xs[p]?=none\/ys[q]?=none)->∀g e,(∀c o,c≠z->c≠TO->c≠i->c≠j->s.heap.get? c=some o->g.get? c=some o)->(∃o,g.get? e=some o/\o.cls=.type "StopIteration")->E (.ref e) { s with heap:=g }) :
  wpAny (model prog w) A (Builtin.«zip.__next__» ⟨[.ref z],[]⟩) (fun r s'=>∃v,r=.done (.ret v)/\Q v s') E s:=by
 have stop:∀ {g1 g2:Heap}{e:Addr}{c:Addr}{p' q':Nat}{a' b':Value},ZS b₁ b₂ s.heap g1 z TI TO i j l m xs ys .ellipsis p' q' a' b'->(c=i\/c=j)->(xs[p]?=none\/ys[q]?=none)->Heap.ExtBut c g1 g2 ->
   (∃o,g2.get? e=some o/\o.cls=.type "StopIteration")->wpAny (model prog w) A (setField (.ref z) 0 Value.none) (fun _ t=>E (.ref e) t) E { s with heap:=g2 }:=by
  intro g1 g2 e c p' q' a' b' Y hc hv k ⟨o,ho,ht⟩
  have cz:z≠c:=hc.elim (fun e=>e ▸ D.i1z.symm) fun e=>e ▸ D.i2z.symm
  have Yz:IsZip g2 z TI TO .ellipsis:=k _ _ cz Y.zo
  refine wpAny_setField_rec Yz (by simp) fun g3 _ t=>over hv g3 e (fun d u n1 n2 n3 n4 r=>t.extBut _ _ n1 (k _ _ ?_ (Y.kp d u n1 n2 n3 n4 r))) ⟨o,t.extBut _ _ ?_ ho,ht⟩
  ·exact hc.elim (fun e=>e ▸ n3) fun e=>e ▸ n4
  ·rintro rfl;rw[Yz] at ho;cases ho;simp at ht
 show wpAny _ _ (field (.ref z) 2 >>= _) _ _ _
 refine zW (wpAny_field Z.zo rfl (x:=.bool false) rfl (zW (wpAny_field Z.zo rfl (x:=.ref TI) rfl (zW (wpAny_seqItems Z.ti rfl (zW (m:=Builtin.SmallTypes.ownedTupleIsFree _) ?_))))))
 refine zW (wpAny_field Z.zo rfl (x:=.none) rfl (zX ?_))
 rw[if_pos rfl]
 refine zW (wpAny_rule (zW (wpAny_field Z.zo rfl (x:=.ref TO) rfl (zW (wpAny_setField_rec Z.zo (by simp) fun g1 e1 t1=>?_)))))
 have Z1:=Z.fl D (f':=.ellipsis) e1 t1
 refine zW ?_
 simp only[List.zipIdx_cons,List.zipIdx_nil,List.forIn_cons,List.forIn_nil]
 refine zW (zW (wpAny_onRaise (zW (m:=Builtin.SmallTypes.nextOf _) ?_)))
 cases hx:xs[p]? with
 | none=>exact nxtE hn Z1.wi Z1.sl hx fun g2 e k o=>stop Z1 (.inl rfl) (.inl hx) k o
 | some x =>
 refine nxt Z1.wi Z1.sl hx fun g2 e2 t2=>zX ?_
 have Z2:=Z1.fst D e2 t2
 refine zW (wpAny_seqItems Z2.to rfl (zW (wpAny_updateSeq_pair Z2.to fun g3 e3 t3=>zW (wpAny_letGo (zX ?_)))))
 have Z3:=Z2.put D (x:=x) (y:=b) e3 t3
 refine zW (zW (wpAny_onRaise (zW (m:=Builtin.SmallTypes.nextOf _) ?_)))
 cases hy:ys[q]? with
 | none=>exact nxtE hn Z3.wj Z3.sm hy fun g4 e k o=>stop Z3 (.inr rfl) (.inr hy) k o
 | some y =>
 refine nxt Z3.wj Z3.sm hy fun g4 e4 t4=>zX ?_
 have Z4:=Z3.snd D e4 t4
 refine zW (wpAny_seqItems Z4.to rfl (zW (wpAny_updateSeq_pair Z4.to fun g5 e5 t5=>zW (wpAny_letGo (zX (zX ?_))))))
 have Z5:=Z4.put D (x:=x) (y:=y) e5 t5
 refine zW (wpAny_seqItems Z5.to rfl (zW (wpAny_newTuple (zW (m:=Builtin.SmallTypes.ownedTupleHandOut _ _) ?_))))
 refine zW (wpAny_setField_rec (zV _ Z5.zo) (by simp) fun g6 e6 t6=>wpAny_setField_rec e6 (by simp) fun g7 e7 t7=>zX ⟨_,rfl,?_⟩)
 exact item x y g5 g7 hx hy Z5 e7 (t6.trans t7)
theorem nextZ{x y:Value}{Q:Option Value->Shared->Prop}(hn:A.handled=none)(D:ZipApart z TI TO i j l m)
  (qz:IsZip s.heap z TI TO .none) (qI:IsPair s.heap TI (.ref i) (.ref j)) (qO:IsPair s.heap TO a b)
  (p1:IsI b₁ s.heap i l p) (p2:IsI b₂ s.heap j m q) (r1:IsS b₁ s.heap l xs) (r2:IsS b₂ s.heap m ys) (ex:xs[p]?=some x) (ey:ys[q]?=some y)
  (kQ:∀g,IsZip g z TI TO (rawInt s.heap.objs.size)->IsPair g TO x y->IsI b₁ g i l (p+1)->IsI b₂ g j m (q+1)->IsPair g s.heap.objs.size x y->g.objs.size=s.heap.objs.size+1 ->
   (∀c o,c≠z->c≠TO->c≠i->c≠j->s.heap.get? c=some o->g.get? c=some o)->Q (some (.ref s.heap.objs.size)) { s with heap:=g }) :
  wpAny (model prog w) A (pyNext (.ref z)) Q E s:=by
 have ty:s.TypeIs (.ref z) "zip":=⟨_,qz,rfl⟩
 have Z:ZS b₁ b₂ s.heap s.heap z TI TO i j l m xs ys .none p q a b:=⟨qz,qI,qO,p1,p2,r1,r2,fun _ _ _ _ _ _ e=>e,rfl⟩
 refine zW (wpAny_attempt (wpAny_callSpecial?_slot (name:=Str.ofString "__next__") ty F.slot_zip_next (wpAny_call_entry F.slot_zip_next ty F.entry_zip_next (zipN hn D Z ?_ ?_) (F.args_zip_next_1 _))))
 ·intro x' y' g g' hx hy Y ez t
  rw[ex] at hx;rw[ey] at hy;cases hx;cases hy
  rw[Y.sz] at ez ⊢
  have lt:=zZ Y.zo
  have up:∀c o,c≠z->g.get? c=some o->g'.get? c=some o:=fun c o n e=>t.extBut _ _ n (zV _ e)
  refine zX (kQ g' ez (up _ _ D.TOz Y.to) (Y.wi.at fun o e=>up _ _ D.i1z e) (Y.wj.at fun o e=>up _ _ D.i2z e) ?_ (by rw[t.1,Heap.size_push,Y.sz]) fun c o n1 n2 n3 n4 e=>up c o n1 (Y.kp c o n1 n2 n3 n4 e))
  rw[<- Y.sz]
  exact t.extBut _ _ (Nat.ne_of_gt lt) (zY _ rfl)
 ·intro no
  rw[ex,ey] at no
  rcases no with no|no<;>cases no
theorem nextZE{Q:Option Value->Shared->Prop}(hn:A.handled=none)(D:ZipApart z TI TO i j l m)
  (qz:IsZip s.heap z TI TO .none) (qI:IsPair s.heap TI (.ref i) (.ref j)) (qO:IsPair s.heap TO a b)
  (p1:IsI b₁ s.heap i l p) (p2:IsI b₂ s.heap j m q) (r1:IsS b₁ s.heap l xs) (r2:IsS b₂ s.heap m ys) (ends:xs[p]?=none\/ys[q]?=none)
  (kQ:∀g,(∀c o,c≠z->c≠TO->c≠i->c≠j->s.heap.get? c=some o->g.get? c=some o)->Q none { s with heap:=g }):wpAny (model prog w) A (pyNext (.ref z)) Q E s:=by
 have ty:s.TypeIs (.ref z) "zip":=⟨_,qz,rfl⟩
 have Z:ZS b₁ b₂ s.heap s.heap z TI TO i j l m xs ys .none p q a b:=⟨qz,qI,qO,p1,p2,r1,r2,fun _ _ _ _ _ _ e=>e,rfl⟩
 refine zW (wpAny_attempt (wpAny_callSpecial?_slot (name:=Str.ofString "__next__") ty F.slot_zip_next (wpAny_call_entry F.slot_zip_next ty F.entry_zip_next (zipN hn D Z ?_ ?_) (F.args_zip_next_1 _))))
 ·intro x y g g' hx hy
  rw[hx,hy] at ends
  rcases ends with no|no<;>cases no
 ·rintro _ g e kp ⟨o,ho,ht⟩
  exact zW (wpAny_isInstance (T:="StopIteration") (b:=true) ⟨o,ho,ht⟩ isSubtype_stop (zX (kQ _ kp)))
end
noncomputable abbrev itO(b:Bool)(l:Addr):Obj:={ cls:=.type (if b then "tuple_iterator" else "list_iterator"),data:=.fields #[.ref l,.int 0 0] }
noncomputable abbrev z1(b:Bool)(h:Heap)(l:Addr):Heap:=h.push (itO b l)
noncomputable abbrev z2(b c:Bool)(h:Heap)(l m:Addr):Heap:=(z1 b h l).push (itO c m)
noncomputable abbrev z3(b c:Bool)(h:Heap)(l m:Addr):Heap:=(z2 b c h l m).push { cls:=.type "tuple",data:=.seq #[.ref h.objs.size,.ref (z1 b h l).objs.size] }
noncomputable abbrev z4(b c:Bool)(h:Heap)(l m:Addr):Heap:=(z3 b c h l m).push { cls:=.type "tuple",data:=.seq #[.none,.none] }
noncomputable abbrev z5(b c:Bool)(h:Heap)(l m:Addr):Heap:=(z4 b c h l m).push { cls:=.type "zip",data:=.fields #[.none,.bool false,.bool false,.ref (z2 b c h l m).objs.size,.ref (z3 b c h l m).objs.size] }
theorem IsS.push{b:Bool}{h:Heap}{l:Addr}{xs:Array Value}(x:IsS b h l xs)(o:Obj):IsS b (h.push o) l xs:=x.at fun o' e=>zV _ e
theorem new_zip(b c:Bool)(l m:Addr)(xs ys:Array Value):Meets (Builtin.«zip.__new__» ⟨[.type "zip",.ref l,.ref m],[]⟩) (fun _ R s=>IsS b s.heap l xs/\IsS c s.heap m ys/\R (.ok (.ret (.ref (z4 b c s.heap l m).objs.size))) { s with heap:=z5 b c s.heap l m }) :=
 .of_wp fun prog w A R s h=>by
  obtain⟨hp,g,d,tk,os⟩:=s;obtain⟨q1,q2,h⟩:=h
  have hsub:=sub_zip
  cases b<;>cases c
  ·have L1:Heap.IsList (Shared.heap ⟨hp,g,d,tk,os⟩) l xs:=q1
   have L2:Heap.IsList (Shared.heap ⟨hp.push { cls:=.type "list_iterator",data:=.fields #[.ref l,.int 0 0] },g,d,tk,os⟩) m ys:=IsS.push (b:=false) q2 _
   wp_walk using wpAny_pyIter_list L1,wpAny_pyIter_list L2
   exact⟨_,rfl,h⟩
  ·have L1:Heap.IsList (Shared.heap ⟨hp,g,d,tk,os⟩) l xs:=q1
   have L2:Heap.IsTuple (Shared.heap ⟨hp.push { cls:=.type "list_iterator",data:=.fields #[.ref l,.int 0 0] },g,d,tk,os⟩) m ys:=IsS.push (b:=true) q2 _
   wp_walk using wpAny_pyIter_list L1,wpAny_pyIter_tuple L2
   exact⟨_,rfl,h⟩
  ·have L1:Heap.IsTuple (Shared.heap ⟨hp,g,d,tk,os⟩) l xs:=q1
   have L2:Heap.IsList (Shared.heap ⟨hp.push { cls:=.type "tuple_iterator",data:=.fields #[.ref l,.int 0 0] },g,d,tk,os⟩) m ys:=IsS.push (b:=false) q2 _
   wp_walk using wpAny_pyIter_tuple L1,wpAny_pyIter_list L2
   exact⟨_,rfl,h⟩
  ·have L1:Heap.IsTuple (Shared.heap ⟨hp,g,d,tk,os⟩) l xs:=q1
   have L2:Heap.IsTuple (Shared.heap ⟨hp.push { cls:=.type "tuple_iterator",data:=.fields #[.ref l,.int 0 0] },g,d,tk,os⟩) m ys:=IsS.push (b:=true) q2 _
   wp_walk using wpAny_pyIter_tuple L1,wpAny_pyIter_tuple L2
   exact⟨_,rfl,h⟩
section
variable {prog:Program}{w:World}{A:Around}{E:Value->Shared->Prop}{s:Shared}
theorem isI_new{b:Bool}{h:Heap}{it l:Addr}(e:h.get? it=some (itO b l)):IsI b h it l 0:=by
 cases b
 ·exact⟨_,e,rfl,rfl⟩
 ·exact⟨_,e,rfl,rfl⟩
theorem call_zip{b c:Bool}{l m:Addr}{xs ys:Array Value}{Q:Value->Shared->Prop}(q1:IsS b s.heap l xs)(q2:IsS c s.heap m ys)
  (h:∀g,IsZip g (s.heap.objs.size+4) (s.heap.objs.size+2) (s.heap.objs.size+3) .none->IsPair g (s.heap.objs.size+2) (.ref s.heap.objs.size) (.ref (s.heap.objs.size+1))->IsPair g (s.heap.objs.size+3) .none .none ->
   IsI b g s.heap.objs.size l 0->IsI c g (s.heap.objs.size+1) m 0->(∀a o,s.heap.get? a=some o->g.get? a=some o)->Q (.ref (s.heap.objs.size+4)) { s with heap:=g }) :
  wpAny (model prog w) A (call (.type "zip") [.ref l,.ref m]) Q E s:=by
 refine callType_new F.called_zip (by decide) (F.typeCall_zip_2 _ _) (F.newCall_zip_2 _ _) (fun obj=>F.args_object_init_3 obj _ _) F.entry_zip_new (new_zip b c l m xs ys) ⟨q1,q2,?_⟩
 have n1:(z1 b s.heap l).objs.size=s.heap.objs.size+1:=Heap.size_push ..
 have n2:(z2 b c s.heap l m).objs.size=s.heap.objs.size+2:=by rw[Heap.size_push,n1]
 have n3:(z3 b c s.heap l m).objs.size=s.heap.objs.size+3:=by rw[Heap.size_push,n2]
 have n4:(z4 b c s.heap l m).objs.size=s.heap.objs.size+4:=by rw[Heap.size_push,n3]
 have g5:(z5 b c s.heap l m).get? (z4 b c s.heap l m).objs.size=some _:=zY _ rfl
 have g4:(z5 b c s.heap l m).get? (z3 b c s.heap l m).objs.size=some _:=zV _ (zY _ rfl)
 have g3:(z5 b c s.heap l m).get? (z2 b c s.heap l m).objs.size=some _:=zV _ (zV _ (zY _ rfl))
 have g2:(z5 b c s.heap l m).get? (z1 b s.heap l).objs.size=some (itO c m):=zV _ (zV _ (zV _ (zY _ rfl)))
 have g1:(z5 b c s.heap l m).get? s.heap.objs.size=some (itO b l):=zV _ (zV _ (zV _ (zV _ (zY _ rfl))))
 show _/\_
 rw[n2,n3,n4] at g5
 rw[n1,n2] at g3
 rw[n3] at g4
 rw[n1] at g2
 rw[n4]
 exact⟨⟨_,g5,rfl⟩,h _ g5 g3 g4 (isI_new g1) (isI_new g2) fun a o x=>zV _ (zV _ (zV _ (zV _ (zV _ x))))⟩
end
end Zp
namespace Dl
open PySem L2 PySem.Spec PyProof.Rows Zp
def sQ(K:W.Frag)(b:Bool)(a:Addr)(H:Hp)(xs:List V):Prop:=match b with|true=>ju K H a xs|false=>iV K H a xs
section
variable {X:Cx}{pins:List (Addr×Obj)}{σ:L2.St}{H:Hp}{s:Shared}{b:Bool}{a:Addr}{xs ys:List V}
theorem sQ.src(I:Inv X pins σ H s)(h:sQ X.K b a H xs):∃its:List Value,aF xs its/\IsS b s.heap a its.toArray/\xs.length<=sizeLine:=by
 cases b
 ·obtain⟨its,rv,pl,hz⟩:=I.list (show iV X.K H a xs from h);exact⟨its,rv,pl.isList,hz⟩
 ·obtain⟨its,rv,pl,hz⟩:=I.tuple (show ju X.K H a xs from h);exact⟨its,rv,pl,hz⟩
theorem sQ.ne(I:Inv X pins σ H s){c:Addr}(hf:cI X pins H c)(h:sQ X.K b a H xs):a≠c:=by
 cases b
 ·exact KM I hf h
 ·exact Ko I hf h
theorem sQ.inj(I:Inv X pins σ H s)(h:sQ X.K b a H xs)(h':sQ X.K b a H ys):xs=ys:=by
 cases b
 ·exact I.list_inj h h'
 ·exact I.tuple_inj h h'
theorem sQ.mono{K:W.Frag}{H H':Hp}(e:aZ H H')(h:sQ K b a H xs):sQ K b a H' xs:=by
 cases b
 ·exact e.seq h
 ·exact aB e h
end
theorem Dh{P:Program}{w:World}{K:W.Frag}{elts:List Expr}{k:Nat}{pos:Pos}(b c:Bool)(l1 l2 z TI TO i1 i2:Addr)(Z:O3 z TI TO i1 i2) :
  Turn P w K (.Tuple elts k pos) (OK (sQ K b l1) (sQ K c l2)) [z,TI,TO,i1,i2] z (fun i h=>IsZip h z TI TO .none/\IsPair h TI (.ref i1) (.ref i2)/\(∃a b,IsPair h TO a b)/\IsI b h i1 l1 i/\IsI c h i2 l2 i) where
 mem:=by simp
 obj:=fun i h st d hd=>by
  obtain⟨hz,hTI,⟨a,b',hTO⟩,p1,p2⟩:=st
  simp only[zR,yG,or_false] at hd
  rcases hd with rfl|rfl|rfl|rfl|rfl
  ·exact⟨_,hz,fun v q=>by have q:Data.fields _=Data.cell v:=q;cases q⟩
  ·exact⟨_,hTI,fun v q=>by have q:Data.seq _ _=Data.cell v:=q;cases q⟩
  ·exact⟨_,hTO,fun v q=>by have q:Data.seq _ _=Data.cell v:=q;cases q⟩
  ·exact p1.obj
  ·exact p2.obj
 keep:=fun i h h' st kk=>by
  obtain⟨hz,hTI,⟨a,b',hTO⟩,h1,h2⟩:=st
  exact⟨kk z (by simp) _ hz,kk TI (by simp) _ hTI,⟨a,b',kk TO (by simp) _ hTO⟩,h1.at fun o q=>kk i1 (by simp) o q,h2.at fun o q=>kk i2 (by simp) o q⟩
 item:=by
  intro X hP hw hK hc i pins s σ H E I hf st hg
  subst hP hw hK
  obtain⟨xs,ys,x,y,hq1,hq2,hx,hy⟩:=hg
  obtain⟨its1,rv1,p1,hz1⟩:=hq1.src I
  obtain⟨its2,rv2,p2,hz2⟩:=hq2.src I
  obtain⟨u1,hu1,ru1⟩:=rv1.get hx
  obtain⟨u2,hu2,ru2⟩:=rv2.get hy
  have D:ZipApart z TI TO i1 i2 l1 l2:=⟨Z.a1,Z.a2,Z.a3,Z.a4,Z.a5,Z.a6,Z.a7,Z.a8,Z.a9,Z.a0,hq1.ne I (hf z (by simp)),hq1.ne I (hf TO (by simp)),hq1.ne I (hf i1 (by simp)),hq1.ne I (hf i2 (by simp)),hq2.ne I (hf z (by simp)),hq2.ne I (hf TO (by simp)),hq2.ne I (hf i1 (by simp)),hq2.ne I (hf i2 (by simp))⟩
  obtain⟨hz,hTI,⟨a,b',hTO⟩,h1,h2⟩:=st
  refine nextZ (I.ok.hd hc) D hz hTI hTO h1 h2 p1 p2 (x:=u1) (y:=u2) (by simpa using hu1) (by simpa using hu2) fun g b1 b2 b3 b4 b5 b6 hk=>⟨.ref s.heap.objs.size,rfl,?_⟩
  have lt:∀ {c:Addr}{o:Obj},s.heap.get? c=some o->s.heap.objs.size≠c:=fun e=>Nat.ne_of_gt (zZ e)
  refine wpAny_letOwnedTupleGo_zip (s:={ s with heap:=g }) b1 fun g' hz' hs'=>?_
  have b5':g'.get? s.heap.objs.size=some { cls:=.type "tuple",data:=.seq #[u1,u2] }:=hs'.extBut _ _ (lt hz) b5
  have ht:m7 g' s.heap.objs.size (List.toArray [u1,u2]):=⟨⟨_,b5',rfl,_,rfl⟩,_,b5',rfl⟩
  refine⟨.ref s.heap.objs.size,_,wH (ch:=[z,TI,TO,i1,i2]) (xs:=[x,y]) (t':=s.toks) I hf (fun b o hb q=>?_) (Nat.le_refl _) ht (.cons ru1 (.cons ru2 .nil)) (by show 2<=sizeLine;decide),rfl,
   ⟨s.heap.objs.size,x,y,rfl,I.fresh,rfl,fun zs hzs=>by rw[hzs.inj I hq1];exact hx,fun zs hzs=>by rw[hzs.inj I hq2];exact hy⟩,
   ⟨hz',hs'.extBut _ _ Z.a1 (hk _ _ D.TIz D.TITO D.TIi1 D.TIi2 hTI),⟨_,_,hs'.extBut _ _ Z.a2 b2⟩,b3.extBut hs'.extBut Z.a3,b4.extBut hs'.extBut Z.a4⟩,fun b hb=>?_⟩
  ·simp only[zR,yG,or_false,not_or] at hb
   exact hs'.extBut _ _ hb.1 (hk b o hb.1 hb.2.2.1 hb.2.2.2.1 hb.2.2.2.2 q)
  ·have:s.heap.objs.size≠b:=by
    simp only[zR,yG,or_false] at hb
    obtain⟨o1,g1,_⟩:=h1.obj
    obtain⟨o2,g2,_⟩:=h2.obj
    rcases hb with rfl|rfl|rfl|rfl|rfl
    ·exact lt hz
    ·exact lt hTI
    ·exact lt hTO
    ·exact lt g1
    ·exact lt g2
   rw[aE (Ne.symm this)]
   exact (hf b hb).1
 done:=by
  intro X hP hw hK hc i pins s σ H E I hf st hg
  subst hP hw hK
  obtain⟨xs,ys,hq1,hq2,hx⟩:=hg
  obtain⟨its1,rv1,p1,hz1⟩:=hq1.src I
  obtain⟨its2,rv2,p2,hz2⟩:=hq2.src I
  have D:ZipApart z TI TO i1 i2 l1 l2:=⟨Z.a1,Z.a2,Z.a3,Z.a4,Z.a5,Z.a6,Z.a7,Z.a8,Z.a9,Z.a0,hq1.ne I (hf z (by simp)),hq1.ne I (hf TO (by simp)),hq1.ne I (hf i1 (by simp)),hq1.ne I (hf i2 (by simp)),hq2.ne I (hf z (by simp)),hq2.ne I (hf TO (by simp)),hq2.ne I (hf i1 (by simp)),hq2.ne I (hf i2 (by simp))⟩
  obtain⟨hz,hTI,⟨a,b',hTO⟩,h1,h2⟩:=st
  have e1:=rv1.length
  have e2:=rv2.length
  refine nextZE (I.ok.hd hc) D hz hTI hTO h1 h2 p1 p2 (hx.elim (fun q=>.inl (by simp;omega)) fun q=>.inr (by simp;omega)) fun g hk=>⟨rfl,?_⟩
  refine BN (ch:=[z,TI,TO,i1,i2]) (t':=s.toks) I hf fun b o hb q=>?_
  simp only[zR,yG,or_false,not_or] at hb
  exact hk b o hb.1 hb.2.2.1 hb.2.2.2.1 hb.2.2.2.2 q
 self:=fun _ _ _ _ _ st h=>wpAny_pyIter_zip st.1 h
section
variable {X:Cx}{l l':Expr}{fs:Env->Option (List D)}{elts:List Expr}{k:Nat}{pos p tp:Pos}
theorem GF{tl:TA}(B:nU X "zip" (.type "zip"))(ha:PA X [l,l'] tl)(hs:starEach [l,l'] X.env=(false,eval l X.env)::starEach [l'] X.env)(hs2:(backTo pos (starEach [l'] X.env)).any (·.1)=false) :
  PI X (.Tuple elts k tp) (.Call (.Name "zip" p) [l,l'] [] pos) (fun σ H R=>tl σ H fun vs H1=>∃a b,vs=[.ref a,.ref b]/\∃c d xs ys,sQ X.K c a H1 xs/\sQ X.K d b H1 ys/\R (OK (sQ X.K c a) (sQ X.K d b)) H1):=by
 intro pins s σ H R I h
 refine Call_ (jr I B.gl B.mg B.bt (PyProof.Rows.callWith_type1 (ck (ha pos pins s σ H _ I h) fun us s1 ⟨vs,H1,I1,r1,q1⟩=>?_) hs hs2))
 obtain⟨a,b,e,c,d,xs,ys,hq1,hq2,q⟩:=q1
 subst e
 obtain⟨u,u',rfl,rx,ry⟩:=vals2 r1
 cases rx
 cases ry
 obtain⟨its,rv,pl,hz⟩:=hq1.src I1
 obtain⟨its',rv',pl',hz'⟩:=hq2.src I1
 refine call_zip pl pl' fun g b1 b2 b3 b4 b5 kp=>wpAny_pyIter_zip (s:={ s1 with heap:=g }) b1 ?_
 refine⟨_,_,_,_,H1,rfl,I1.kept (t':=s1.toks) kp,Dh c d a b (s1.heap.objs.size+4) (s1.heap.objs.size+2) (s1.heap.objs.size+3) s1.heap.objs.size (s1.heap.objs.size+1) ?_,⟨b1,b2,⟨_,_,b3⟩,b4,b5⟩,fun c hc=>?_,q⟩
 ·constructor<;>(intro z;have z:(_:Nat)=_:=z;omega)
 ·have hge:s1.heap.objs.size<=c:=by
   simp only[zR,yG,or_false] at hc
   rcases hc with rfl|rfl|rfl|rfl|rfl
   ·exact Nat.le_add_right _ _
   ·exact Nat.le_add_right _ _
   ·exact Nat.le_add_right _ _
   ·exact Nat.le_refl _
   ·exact Nat.le_add_right _ _
  exact I1.fpOk hge (I1.hok.fresh hge)
noncomputable def Nu:List D->Option (List D):=fun ds=>match ds with
 | [x,y]=>(iI x).bind fun xs=>(iI y).map fun ys=>ja xs ys
 | _=>none
theorem Ap{K:W.Frag}{HF:Hp}{d:D}{v:V}{xs:List D}(h:iI d=some xs)(r:Rep K HF d v):∃b a vs,v=.ref a/\sQ K b a HF vs/\au K HF xs vs:=by
 rcases lx h with rfl|rfl
 ·simp only[Rep] at r
  obtain⟨a,vs,rfl,q,rr⟩:=r
  exact⟨true,a,vs,rfl,q,rr⟩
 ·simp only[Rep] at r
  obtain⟨a,vs,rfl,q,rr⟩:=r
  exact⟨false,a,vs,rfl,q,rr⟩
noncomputable def gh(fs:Env->Option (List D)):Env->Option (List D):=fun ρ=>(fs ρ).bind Nu
theorem HN(B:nU X "zip" (.type "zip"))(hs:starEach [l,l'] X.env=(false,eval l X.env)::starEach [l'] X.env)(hs2:(backTo pos (starEach [l'] X.env)).any (·.1)=false)(h:DA X [l,l'] fs) :
  DI X (.Tuple elts k tp) (.Call (.Name "zip" p) [l,l'] [] pos) (gh fs) :=
 vo (GF B h hs hs2) fun σ H R ⟨HF,ρ,ds,sm,eo,hf,q⟩=>by
  obtain⟨x,hx,hf⟩:=bs hf
  refine⟨HF,ρ,_,sm,eo,hx,fun vs H1 HF1 g1 r1=>?_⟩
  unfold Nu at hf
  split at hf
  ·obtain⟨xs,h1,hf⟩:=bs hf
   obtain⟨ys,h2,rfl⟩:=ag hf
   obtain⟨v,r',rfl,a,b⟩:=r1.cons_inv
   obtain⟨v',r'',rfl,a',b'⟩:=b.cons_inv
   rw[b'.nil_inv]
   obtain⟨c,ad,us,rfl,hq,rr⟩:=Ap h1 a
   obtain⟨c',ad',us',rfl,hq',rr'⟩:=Ap h2 a'
   exact⟨ad,ad',rfl,c,c',us,us',hq.mono g1.fh,hq'.mono g1.fh,q _ H1 HF1 g1 (F2 hq (fun _ _ s h=>h.mono s) hq' (fun _ _ s h=>h.mono s) rr rr')⟩
  ·cases hf
end
end Dl
namespace Zp
open PySem PyProof.Rows
theorem IsI.ne{b:Bool}{h:Heap}{it l:Addr}{k:Nat}{xs:Array Value}(x:IsI b h it l k)(y:IsS b h l xs):l≠it:=by
 rintro rfl
 cases b
 ·obtain⟨o,e,c,d⟩:=(show h.IsListIter l l k from x)
  obtain⟨o',e',r⟩:=(show h.IsList l xs from y)
  rw[e] at e';cases e'
  simp_all
 ·obtain⟨o,e,c,d⟩:=(show h.IsTupleIter l l k from x)
  obtain⟨o',e',r⟩:=(show h.IsTuple l xs from y)
  rw[e] at e';cases e'
  simp_all
section
variable {prog:Program}{w:World}{A:Around}{E:Value->Shared->Prop}{s:Shared}
theorem drawsI(hn:A.handled=none)(b:Bool)(it l:Addr)(xs:Array Value):Draws prog w A it [it,l] xs.size (fun i x=>xs[i]?=some x) (fun i h=>IsI b h it l i/\IsS b h l xs) where
 live:=fun i h st=>let ⟨o,e,_⟩:=st.1.obj;⟨o,e⟩
 frame:=fun i h h' st k=>⟨st.1.at (k it (by simp)),st.2.at (k l (by simp))⟩
 item:=fun i s Q E hi st hQ=>nxt st.1 st.2 (v:=xs[i]) (by simp[hi]) fun g e t=>hQ _ g s.toks (by simp[hi]) ⟨e,st.2.extBut t.extBut (st.1.ne st.2)⟩ t
 done:=fun s Q E st hE=>nxtE hn st.1 st.2 (by simp) hE
theorem nextE{b₁:Bool}{e it l:Addr}{i:Nat}{items:Array Value}{x old:Value}{Q:Option Value->Shared->Prop}(hn:A.handled=none)
  (qe:IsEnum s.heap e it i old) (qi:IsI b₁ s.heap it l i) (ql:IsS b₁ s.heap l items) (ex:items[i]?=some x) (nei:e≠it)
  (kQ:∀g tk,IsEnumOut g e it ((i:Int)+1) x s.heap.objs.size->IsI b₁ g it l (i+1)->g.get? s.heap.objs.size=some { cls:=.type "tuple",data:=.seq #[.int i tk,x] } ->
   g.objs.size=s.heap.objs.size+1->(∀c o,c≠e->c≠it->s.heap.get? c=some o->g.get? c=some o)->Q (some (.ref s.heap.objs.size)) { s with heap:=g,toks:=tk+1 }) :
  wpAny (model prog w) A (pyNext (.ref e)) Q E s:=by
 have nel:e≠l:=by
  rintro rfl
  cases b₁
  ·obtain⟨o,e1,r⟩:=(show s.heap.IsList e items from ql)
   rw[qe] at e1;cases e1;simp at r
  ·obtain⟨o,e1,r⟩:=(show s.heap.IsTuple e items from ql)
   rw[qe] at e1;cases e1;simp at r
 have D:Draws prog w A.in1 it [it,l] items.size (fun i x=>items[i]?=some x) (fun i h=>IsI b₁ h it l i/\IsS b₁ h l items):=drawsI (A:=A.in1) hn b₁ it l items
 refine wpAny_pyNext_enum_itemD D qe ⟨qi,ql⟩ (Array.getElem?_eq_some_iff.mp ex).1 nei (by simp[nei,nel]) fun y g tk hy a b c d k=>?_
 rw[ex] at hy;cases hy
 exact kQ g tk a b.1 c d k
end
end Zp
namespace Dl
open PySem L2 PySem.Spec PyProof.Rows Zp
theorem pH{P:Program}{w:World}{K:W.Frag}{elts:List Expr}{k:Nat}{pos:Pos}(b:Bool)(a it e:Addr)(hei:e≠it):Turn P w K (.Tuple elts k pos) (Od (sQ K b a)) [e,it] e (fun i h=>(∃old,IsEnum h e it i old)/\IsI b h it a i) where
 mem:=by simp
 obj:=fun i h st c hc=>by
  obtain⟨⟨old,he⟩,hi⟩:=st
  rcases zR.mp hc with z|z
  ·subst z;exact⟨_,he,fun v q=>by have q:Data.fields _=Data.cell v:=q;cases q⟩
  ·rw[yK.mp z];exact hi.obj
 keep:=fun i h h' st kk=>⟨let ⟨old,he⟩:=st.1;⟨old,kk e (by simp) _ he⟩,st.2.at fun o q=>kk it (by simp) o q⟩
 item:=by
  intro X hP hw hK hc i pins s σ H E I hf st hg
  subst hP hw hK
  obtain⟨xs,x,hq,hx⟩:=hg
  obtain⟨its,rv,p,hz⟩:=hq.src I
  obtain⟨u,hu,ru⟩:=rv.get hx
  obtain⟨⟨old,he⟩,hi⟩:=st
  refine nextE (I.ok.hd hc) he hi p (x:=u) (by simpa using hu) hei fun g tk b1 b2 b3 b4 hk=>⟨.ref s.heap.objs.size,rfl,?_⟩
  have lt:∀ {c:Addr}{o:Obj},s.heap.get? c=some o->s.heap.objs.size≠c:=fun e=>Nat.ne_of_gt (zZ e)
  have hte:s.heap.objs.size≠e:=lt he
  refine wpAny_letOwnedTupleGo_enum (s:={ s with heap:=g,toks:=tk+1 }) b1 fun g' he' hs'=>?_
  have b3':g'.get? s.heap.objs.size=some { cls:=.type "tuple",data:=.seq #[.int i tk,u] }:=hs'.extBut _ _ hte b3
  have ht:m7 g' s.heap.objs.size (List.toArray [Value.int (i:Nat) tk,u]):=⟨⟨_,b3',rfl,_,rfl⟩,_,b3',rfl⟩
  refine⟨.ref s.heap.objs.size,_,wH (ch:=[e,it]) (xs:=[.int (i:Nat),x]) (t':=tk+1) I hf (fun c o hb q=>?_) (Nat.le_refl _) ht (.cons ⟨_,rfl⟩ (.cons ru .nil)) (by show 2<=sizeLine;decide),rfl,
   ⟨s.heap.objs.size,x,rfl,I.fresh,rfl,fun zs hzs=>by rw[hzs.inj I hq];exact hx⟩,⟨⟨_,he'⟩,b2.extBut hs'.extBut (Ne.symm hei)⟩,fun c hc'=>?_⟩
  ·simp only[zR,yG,or_false,not_or] at hb
   exact hs'.extBut _ _ hb.1 (hk c o hb.1 hb.2 q)
  ·have:s.heap.objs.size≠c:=by
    simp only[zR,yG,or_false] at hc'
    obtain⟨o1,g1,_⟩:=hi.obj
    rcases hc' with rfl|rfl
    ·exact lt he
    ·exact lt g1
   rw[aE (Ne.symm this)]
   exact (hf c hc').1
 done:=by
  intro X hP hw hK hc i pins s σ H E I hf st hg
  subst hP hw hK
  obtain⟨xs,hq,hx⟩:=hg
  obtain⟨its,rv,p,hz⟩:=hq.src I
  have hh:X.A.in1.handled=none:=I.ok.hd hc
  have hl:=rv.length
  obtain⟨⟨old,he⟩,hi⟩:=st
  have hT:s.TypeIs (.ref e) "enumerate":=⟨_,he,rfl⟩
  unfold pyNext
  refine zW (wpAny_attempt (wpAny_callSpecial?_slot (name:=Str.ofString "__next__") hT F.slot_enumerate_next (wpAny_call_entry F.slot_enumerate_next hT F.entry_enumerate_next ?_ (F.args_enumerate_next_1 _))))
  refine zW (m:=field (.ref e) 2) (wpAny_field he rfl (x:=.ref it) rfl ?_)
  refine zW (nxtE hh hi p (by simp;omega) fun h1 x k1 hx1=>?_)
  obtain⟨o,ho,hc1⟩:=hx1
  refine zW (wpAny_isInstance (T:="StopIteration") (b:=true) ⟨o,ho,hc1⟩ isSubtype_stop (zX ⟨rfl,?_⟩))
  obtain⟨f0,f1,f2,f3,f4,f5⟩:=hf it (by simp)
  exact I.turned (t':=s.toks) (fun b o hb q=>k1 b o hb q) f0 f1 f3 f4 f5
 self:=fun _ _ _ _ _ st h=>let ⟨_,he⟩:=st.1;wpAny_pyIter_enum he h
section
variable {X:Cx}{l:Expr}{f:Env->Option D}{fs:Env->Option (List D)}{elts:List Expr}{k:Nat}{pos p tp:Pos}
theorem HV{tl:TA}(B:nU X "enumerate" (.type "enumerate"))(ha:PA X [l] tl)(hs:starEach [l] X.env=[(false,eval l X.env)]):PI X (.Tuple elts k tp) (.Call (.Name "enumerate" p) [l] [] pos) (fun σ H R=>tl σ H fun vs H1=>∃a,vs=[.ref a]/\∃b xs,sQ X.K b a H1 xs/\R (Od (sQ X.K b a)) H1):=by
 intro pins s σ H R I h
 refine Call_ (jr I B.gl B.mg B.bt (PyProof.Rows.callWith_type1 (ck (ha pos pins s σ H _ I h) fun us s1 ⟨vs,H1,I1,r1,q1⟩=>?_) hs rfl))
 obtain⟨a,e,b,xs,hq,q⟩:=q1
 subst e
 obtain⟨u,rfl,rx⟩:=vals1 r1
 cases rx
 have fresh:∀b∈[s1.heap.objs.size+1,s1.heap.objs.size],cI X pins H1 b:=fun b hb=>by
  rcases zR.mp hb with z|z
  ·subst z;exact I1.fpOk (Nat.le_succ _) (I1.hok.fresh (Nat.le_succ _))
  ·cases yK.mp z;exact I1.fpOk (Nat.le_refl _) I1.fresh
 obtain⟨its,rv,pl,hz⟩:=hq.src I1
 cases b with
 | false =>
  refine call_enumerate_list pl fun h' he hit hsz kp=>wpAny_pyIter_enum (s:={ s1 with heap:=h' }) he ?_
  exact⟨_,_,_,_,H1,rfl,I1.kept (t':=s1.toks) kp,pH false a s1.heap.objs.size (s1.heap.objs.size+1) (Nat.succ_ne_self _),⟨⟨_,he⟩,hit⟩,fresh,q⟩
 | true =>
  refine En.call_enumT (show s1.heap.IsTuple a its.toArray from pl) fun h' he hit hsz kp=>wpAny_pyIter_enum (s:={ s1 with heap:=h' }) he ?_
  exact⟨_,_,_,_,H1,rfl,I1.kept (t':=s1.toks) kp,pH true a s1.heap.objs.size (s1.heap.objs.size+1) (Nat.succ_ne_self _),⟨⟨_,he⟩,hit⟩,fresh,q⟩
noncomputable def bV(fs:Env->Option (List D)):Env->Option (List D):=fun ρ=>(fs ρ).bind fun ds=>(dO ds).map (bJ 0)
theorem IJ(B:nU X "enumerate" (.type "enumerate"))(h:DA X [l] fs)(hs:starEach [l] X.env=[(false,eval l X.env)]):DI X (.Tuple elts k tp) (.Call (.Name "enumerate" p) [l] [] pos) (bV fs) :=
 vo (HV B h hs) fun σ H R ⟨HF,ρ,ds,sm,eo,hf,q⟩=>by
  obtain⟨x,hx,hf⟩:=bs hf
  obtain⟨es,h1,rfl⟩:=ag hf
  obtain⟨d,h0,h1⟩:=bs h1
  rw[gx h0] at hx
  refine⟨HF,ρ,_,sm,eo,hx,fun vs H1 HF1 g1 r1=>?_⟩
  obtain⟨v,r',rfl,a,b⟩:=r1.cons_inv
  rw[b.nil_inv]
  obtain⟨c,ad,us,rfl,hq,rr⟩:=Ap h1 a
  exact⟨ad,rfl,c,us,hq.mono g1.fh,q _ H1 HF1 g1 (CK hq (fun _ _ s h=>h.mono s) rr)⟩
end
end Dl
namespace Srt
open PySem PySem.W PySem.Calls PyProof.Rows L2
theorem cI.at{X:Cx}{pins:List (Addr×Obj)}{H H':Hp}{b:Addr}(h:cI X pins H b)(e:H' b=none):cI X pins H' b:=⟨e,h.2⟩
section
variable {X:Cx}{pins:List (Addr×Obj)}{σ:L2.St}{H:Hp}{s:Shared}{A:Around}{E:Value->Shared->Prop}
theorem upd_inv{b:Addr}{g:Array Value->Array Value}(I:Inv X pins σ H s)(f:cI X pins H b):Inv X pins σ H { s with heap:=s.heap.update b (Obj.mapSeq g) }:=by
 obtain⟨f0,f1,f2,f3,f4,f5⟩:=f
 exact I.turned (t':=s.toks) (h':=s.heap.update b (Obj.mapSeq g)) (fun c o hc e=>(Heap.get?_update_other _ _ (Ne.symm hc)).trans e) f0 f1 f3 f4 f5
theorem pin_get{fp:List Addr}{h:Heap}{b:Addr}{o:Obj}{H':Hp}{s':Shared}(I:Inv X (pins++nE fp h) σ H' s')(hb:b∈fp)(e:h.get? b=some o):s'.heap.get? b=some o/\H' b=none :=
 let q:=I.pin (b,o) (yF _ (yF _ (dH hb e)));⟨q.1,q.2.1⟩
theorem list_sortK{a:Addr}{f:Value}{vs:List Value}{n:Nat}{P:PySem.Fin->Shared->Prop}(I:Inv X pins σ H s)(ho:s.heap.get? a=some (seqObj "list" vs.toArray n))(fa:cI X pins H a)(h64:vs.length < 64)
  (J:List Value->Hp->Prop) (j0:J [] H)
  (step:∀us v,vs[us.length]?=some v->∀pl s' H',Inv X (pins++pl) σ H' s'->J us H'->wpAny (model X.prog X.w) A (call f [v]) (fun u s''=>∃H'',Inv X (pins++pl) σ H'' s''/\J (us++[u]) H'') (fun _ _=>False) s')
  (fin:∀us H',us.length=vs.length->J us H'->∃ (z:Nat->Int) (κ:SortKind),(2<=vs.length->∀s',Inv X pins σ H' s'->(∀Q':SortKind->Shared->Prop,Q' κ s'->wpAny (model X.prog X.w) A (keyKind' us.toArray) Q' (fun _ _=>False) s') /\
    ∀i j C,i < vs.length->j < vs.length->C (SP.eK z i j) s'->kas_ask X.prog X.w A κ us i j C s') /\
   ∀s' c,Inv X pins σ H' s'->cI X pins H' a->s'.heap.get? a=some (seqObj "list" (outV z vs).toArray c)->P (.done (.ret .none)) s') :
  wpAny (model X.prog X.w) A (ksk_tree a f false) P E s:=by
 have hsl:vs.length<=sizeLine:=by rw[sizeLine_eq];omega
 unfold ksk_tree
 refine zW (listItems_at ho rfl ?_)
 refine zW (listUpdate_at ho rfl ?_ (by simpa using hsl) (Nat.zero_le _))
 obtain⟨e1,ho1⟩:∃e,(s.heap.update a (Obj.mapSeq fun _=>(#[]:Array Value))).get? a=some (seqObj "list" #[] e):=⟨_,get?_update_seq ho fun _=>#[]⟩
 have I1:=upd_inv (g:=fun _=>(#[]:Array Value)) I fa
 refine zW (seqEpoch_at ho1 rfl ?_)
 refine zW (wpAny_newTuple ?_ (by simpa using hsl))
 refine zW (wpAny_newList ?_ (Nat.zero_le _))
 refine wpAny_holding ?_
 have ho3:(((s.heap.update a (Obj.mapSeq fun _=>(#[]:Array Value))).push (seqObj "tuple" vs.toArray 0)).push (seqObj "list" #[] 0)).get? a=some (seqObj "list" #[] e1):=zV _ (zV _ ho1)
 have hk3:(((s.heap.update a (Obj.mapSeq fun _=>(#[]:Array Value))).push (seqObj "tuple" vs.toArray 0)).push (seqObj "list" #[] 0)).get? ((s.heap.update a (Obj.mapSeq fun _=>(#[]:Array Value))).push (seqObj "tuple" vs.toArray 0)).objs.size=some (seqObj "list" #[] 0):=zY _ rfl
 have I3:=(I1.kept (t':=s.toks) (h':=((s.heap.update a (Obj.mapSeq fun _=>(#[]:Array Value))).push (seqObj "tuple" vs.toArray 0)).push (seqObj "list" #[] 0)) fun b o e=>zV _ (zV _ e))
 have I2:=(I1.kept (t':=s.toks) (h':=(s.heap.update a (Obj.mapSeq fun _=>(#[]:Array Value))).push (seqObj "tuple" vs.toArray 0)) fun b o e=>zV _ e)
 have fk:cI X pins H ((s.heap.update a (Obj.mapSeq fun _=>(#[]:Array Value))).push (seqObj "tuple" vs.toArray 0)).objs.size:=I2.fpOk (Nat.le_refl _) (I2.hok.fresh (Nat.le_refl _))
 have hka:((s.heap.update a (Obj.mapSeq fun _=>(#[]:Array Value))).push (seqObj "tuple" vs.toArray 0)).objs.size≠a:=by
  have hlt:=zZ ho1
  rw[Heap.size_push]
  exact Nat.ne_of_gt (Nat.lt_succ_of_lt hlt)
 show wpAny _ A _ P E { s with heap:=((s.heap.update a (Obj.mapSeq fun _=>(#[]:Array Value))).push (seqObj "tuple" vs.toArray 0)).push (seqObj "list" #[] 0) }
 generalize ((s.heap.update a (Obj.mapSeq fun _=>(#[]:Array Value))).push (seqObj "tuple" vs.toArray 0)).objs.size=kS at hk3 fk hka
 generalize e3:({ s with heap:=((s.heap.update a (Obj.mapSeq fun _=>(#[]:Array Value))).push (seqObj "tuple" vs.toArray 0)).push (seqObj "list" #[] 0) }:Shared)=s3 at I3
 have ho3:s3.heap.get? a=some (seqObj "list" #[] e1):=by rw[<- e3];exact ho3
 have hk3:s3.heap.get? kS=some (seqObj "list" #[] 0):=by rw[<- e3];exact hk3
 clear e3 I2 I1 ho1 ho
 unfold ksk_rest
 refine zW (wpAny_rule ?_)
 first
  | rw[List.forIn_toArray]
  | (rw[<- Array.forIn_toList];simp only[List.toList_toArray])
  | rw[<- Array.forIn_toList]
 refine zW (ksk_fold (fun i s'=>∃us H' e,us.length=i/\Inv X pins σ H' s'/\H' a=none/\H' kS=none/\s'.heap.get? a=some (seqObj "list" #[] e1)/\s'.heap.get? kS=some (seqObj "list" us.toArray e)/\J us H') vs 0 s3
  ⟨[],H,0,rfl,I3,fa.1,fk.1,ho3,hk3,j0⟩ ?step ?done)
 case step =>
  rintro j x s' hx ⟨us,H',e,hu,I',ha',hk',hoa,hok,j'⟩
  have hu:us.length=j:=by omega
  have hj:j < vs.length:=(zU.mp hx).1
  have Ip:=I'.pinned (fp:=[a,kS]) (fun b hb=>by
   rcases zR.mp hb with rfl|hb
   ·exact cI.at fa ha'
   ·rw[yK.mp hb];exact cI.at fk hk') (fun b hb=>by
   rcases zR.mp hb with rfl|hb
   ·exact⟨_,hoa,fun v z=>by cases z⟩
   ·rw[yK.mp hb];exact⟨_,hok,fun v z=>by cases z⟩)
  refine zW (wpAny_attempt (wpAny_mono (step us x (by rw[hu];exact hx) _ s' H' Ip j') (fun u s'' he=>?_) fun _ _ hF=>hF.elim))
  obtain⟨H'',I'',j''⟩:=he
  try dsimp only
  obtain⟨ga,na⟩:=pin_get I'' (b:=a) zE hoa
  obtain⟨gk,nk⟩:=pin_get I'' (b:=kS) (zC _ zE) hok
  have I4:=I''.unpinned
  obtain⟨c2,hc2⟩:∃c2,(s''.heap.update kS (Obj.mapSeq (·.push u))).get? kS=some (seqObj "list" (us.toArray.push u) c2):=⟨_,get?_update_seq gk (·.push u)⟩
  refine zW (listUpdate_at gk rfl ?_ (by rw[zH,sizeLine_eq];omega) (yE (Nat.le_of_eq (Array.size_push ..)) (by rw[zH,sizeLine_eq];omega)))
  refine zX ⟨rfl,us++[u],H'',c2,by rw[zN,hu];simp,upd_inv I4 (cI.at fk nk),na,nk,(Heap.get?_update_other _ _ hka).trans ga,?_,j''⟩
  rw[hc2]
  simp
 case done =>
  rintro s' ⟨us,H',e,hu,I',ha',hk',hoa,hok,j'⟩
  have hu:us.length=vs.length:=by omega
  try dsimp only
  refine zW (listItems_at hok rfl ?_)
  obtain⟨z,κ,hz,hP⟩:=fin us H' hu j'
  have last:∀st':SortSt,(arrOf st').map (·.2)=(outV z vs).toArray->failedOf st'=none->wpAny (model X.prog X.w) A (ksk_tail a false e1 (.ref kS) st') P E s':=fun st' h1 h2=>by
   unfold ksk_tail
   try dsimp only
   rw[h1,h2]
   have na1:(s'.heap.update kS (Obj.mapSeq fun _=>(#[]:Array Value))).get? a=some (seqObj "list" #[] e1):=(Heap.get?_update_other _ _ hka).trans hoa
   have I5:=upd_inv (g:=fun _=>(#[]:Array Value)) I' (cI.at fk hk')
   have I6:=upd_inv (s:={ s' with heap:=s'.heap.update kS (Obj.mapSeq fun _=>(#[]:Array Value)) }) (g:=fun _=>(outV z vs).toArray) I5 (cI.at fa ha')
   refine zW (listUpdate_at hok rfl ?_ (by rw[zH,sizeLine_eq];omega) (Nat.zero_le _))
   refine zW (wpAny_letGo ?_)
   refine zW (seqEpoch_at na1 rfl ?_)
   refine zW (listUpdate_at na1 rfl ?_ (Nat.zero_le _) (by
    simp only[Bool.false_eq_true,if_false]
    show (outV z vs).toArray.size<=_;rw[zH,outV_len];omega))
   obtain⟨c,hc⟩:∃c,((s'.heap.update kS (Obj.mapSeq fun _=>(#[]:Array Value))).update a (Obj.mapSeq fun _=>(outV z vs).toArray)).get? a=some (seqObj "list" (outV z vs).toArray c):=⟨_,get?_update_seq na1 fun _=>(outV z vs).toArray⟩
   simp only[bne_self_eq_false,Bool.false_eq_true,if_false]
   exact zX (hP _ c I6 (cI.at fa ha') hc)
  unfold ksk_end
  try dsimp only
  simp only[Bool.false_eq_true,if_false]
  by_cases h2:vs.toArray.size < 2
  ·rw[if_pos h2,if_pos h2]
   refine zW (zX ?_)
   rw[StateT.run_pure]
   refine zW (zX (last _ ?_ rfl))
   have h2':vs.length < 2:=by simpa using h2
   unfold outV
   rw[if_pos h2']
   show ((us.toArray.zip vs.toArray).map (·.2))=vs.toArray
   apply Array.toList_inj.mp
   simp only[Array.toList_map,Array.toList_zip]
   exact List.map_snd_zip (by rw[hu];exact Nat.le_refl _)
  ·rw[if_neg h2,if_neg h2]
   have h2':2<=vs.length:=by
    have:¬ vs.length < 2:=by simpa using h2
    omega
   obtain⟨hk,hlt⟩:=hz h2' s' I'
   refine zW (wpAny_mono (hk (fun κ' s''=>κ'=κ/\s''=s') ⟨rfl,rfl⟩) (fun κ' s'' hs=>?_) fun _ _ x=>x.elim)
   obtain⟨rfl,rfl⟩:=hs
   refine zW (wpAny_mono (kat_run (Q:=fun st' s2=>s2=s''/\(arrOf st').map (·.2)=(outV z vs).toArray/\failedOf st'=none) (G:=fun p s2=>s2=s''/\p=SP.run (SP.eK z) (kas_sort vs.length))
    hu h2' h64 (fun p st' s2 a1 a2 a3 a4=>⟨a4.1,?_,a3⟩) (SP.wp_run hlt (kas_sort vs.length) (SP.Ef (by omega)) ⟨rfl,rfl⟩)) ?_ fun _ _ e=>e)
   ·rw[kat_snds hu a2,a4.2]
    unfold outV
    rw[if_neg (by omega)]
   ·rintro⟨⟨⟩,st'⟩ s2 ⟨hs,h4,h5⟩
    subst hs
    exact last st' h4 h5
theorem sortedK{l:Value}{f:Addr}{vs:List Value}{Q:Value->Shared->Prop}(I:Inv X pins σ H s)(h64:vs.length < 64)
  (hcol:∀ {Q':List Value->Shared->Prop},(∀h':Heap,(∀b o,s.heap.get? b=some o->h'.get? b=some o)->Q' vs { s with heap:=h' })->wpAny (model X.prog X.w) A.in1 (collect l) Q' E s)
  (J:List Value->Hp->Prop) (j0:J [] H)
  (step:∀us v,vs[us.length]?=some v->∀pl s' H',Inv X (pins++pl) σ H' s'->J us H'->wpAny (model X.prog X.w) A.in1.in1 (call (.ref f) [v]) (fun u s''=>∃H'',Inv X (pins++pl) σ H'' s''/\J (us++[u]) H'') (fun _ _=>False) s')
  (fin:∀us H',us.length=vs.length->J us H'->∃ (z:Nat->Int) (κ:SortKind),(2<=vs.length->∀s',Inv X pins σ H' s'->(∀Q':SortKind->Shared->Prop,Q' κ s'->wpAny (model X.prog X.w) A.in1.in1 (keyKind' us.toArray) Q' (fun _ _=>False) s') /\
    ∀i j C,i < vs.length->j < vs.length->C (SP.eK z i j) s'->kas_ask X.prog X.w A.in1.in1 κ us i j C s') /\
   ∀s' D c,Inv X pins σ H' s'->cI X pins H' D->s'.heap.get? D=some (seqObj "list" (outV z vs).toArray c)->Q (.ref D) s') :
  wpAny (model X.prog X.w) A (call (.builtin "sorted") [l] [(Str.ofString "key",.ref f)]) Q E s:=by
 have hsl:vs.length<=sizeLine:=by rw[sizeLine_eq];omega
 refine call_function_entry_kw kind_sorted plain_sorted entry_sorted (ksk_s1 _ _) ?_
 unfold Builtin.«sorted»
 refine zW (m:=checkCount "sorted" 1 1 _) (zX (zW (hcol fun h1 kp=>?_)))
 refine zW (wpAny_newList ?_ (by simpa using hsl))
 have I1:=I.kept (t':=s.toks) kp
 have fD:cI X pins H h1.objs.size:=I1.fpOk (Nat.le_refl _) (I1.hok.fresh (Nat.le_refl _))
 have hoD:(h1.push (seqObj "list" vs.toArray 0)).get? h1.objs.size=some (seqObj "list" vs.toArray 0):=zY _ rfl
 have I2:=I1.kept (t':=s.toks) (h':=h1.push (seqObj "list" vs.toArray 0)) fun b o e=>zV _ e
 show wpAny _ _ _ _ _ { s with heap:=h1.push (seqObj "list" vs.toArray 0) }
 refine zW (wpAny_holding (wpAny_call_entry_kw slot_list_sort ⟨_,hoD,rfl⟩ entry_list_sort ?body (ksk_l1 _ _)))
 case body =>
  show wpAny (model X.prog X.w) A.in1.in1 (Builtin.«list.sort» ⟨[.ref h1.objs.size],[(Str.ofString "key",.ref f)]⟩) _ _ _
  rw[ksk_t1]
  refine list_sortK I2 hoD fD h64 J j0 step fun us H' hu j'=>?_
  obtain⟨z,κ,hz,hP⟩:=fin us H' hu j'
  exact⟨z,κ,hz,fun s' c I' f' e=>⟨_,rfl,zX ⟨_,rfl,hP s' _ c I' f' e⟩⟩⟩
end
end Srt
namespace Dl
open PySem L2 PySem.Spec PyProof.Rows
theorem _root_.L2.Inv.track{X:Cx}{pins:List (Addr×Obj)}{σ:L2.St}{H:Hp}{s:Shared}{b:Addr}{o:HO}(I:Inv X pins σ H s)(f:cI X pins H b)(ho:e9 X.prog X.w (upd H b o) s.heap b o):Inv X pins σ (upd H b o) s:=by
 obtain⟨f0,f1,f2,f3,f4,f5⟩:=f
 have up:∀c u,H c=some u->upd H b o c=some u:=fun c u e=>by rw[aE (aQ e f0)];exact e
 refine⟨I.ok,I.os,I.bare,⟨I.base.keep,I.base.slot,fun c oc e n hx=>?_,I.base.there,fun c xs e=>up c _ (I.base.tups c xs e),fun c oc u e=>up c _ (I.base.frzs c oc u e),⟨fun c u e t=>up c u (I.base.tbls.st c u e t),I.base.tbls.gr⟩⟩,I.loc,I.cell,?_,fun x c e=>?_,fun p hp=>?_,fun c u e=>?_,I.len⟩
 ·have hne:c≠b:=fun z=>by
   rcases f3 with g|g
   ·exact hx (z ▸ g)
   ·exact absurd (zP (zZ e) (z ▸ g)) (Nat.lt_irrefl _)
  rw[aE hne];exact I.base.free c oc e n hx
 ·rw[aE (Ne.symm f1)];exact I.free
 ·rw[aE (f4 x c e)];exact I.freeC x c e
 ·obtain⟨e,n,r⟩:=I.pin p hp
  exact⟨e,by rw[aE (f5 p hp)];exact n,r⟩
 ·by_cases hc:c=b
  ·subst hc;rw[aL] at e;cases e;exact ho
  ·rw[aE hc] at e
   exact (I.hok c u e).stay (fun d w _ q=>q) (fun d q=>up d _ q) fun d w q _=>up d _ q
noncomputable def n9(scope:Scope)(N':List Str)(p:Str):Bool:=scope.names.all (fun q=>!decide (q.2=NameKind.cell))&&decide (N'[0]?=some p)&&decide (scope.names.lookup p=some .local)&&decide (scope.isCoroutine=false)&&decide (scope.isGenerator=false)
section
variable {X:Cx}{N:List Str}{sc:Scope}{k:Nat}
theorem Fo{scope:Scope}{N':List Str}{p qual:Str}{A:Around}{f c:Addr}{s:Shared}{H:Hp}(C:Bk X N sc (k+3))(hA:eP (k+1) A)(hk:scope.kind=.function)(hnd:N'.Nodup)(hl:n9 scope N' p=true):Bk (gL X A qual scope N' f c s H) N' scope k where
 n:=rfl
 nd:=hnd
 tb:=fun x kd hx=>.inl hx
 calm:=rfl
 fn:=fun x hx=>by
  unfold n9 at hl
  simp only[zF,List.all_eq_true,Bool.not_eq_true',decide_eq_false_iff_not] at hl
  exact absurd rfl (hl.1.1.1.1 _ (mem_of_lookup hx))
 room:=hA.deeper _
 xe:=rfl
 kd:=hk
structure rh(X:Cx)(qual:Str):Prop where
 ex:∃c P,X.env.code=.ref c/\X.env.qual++"<lambda>"=qual/\W.codeHdIn X.K c P=true/\∀HF,gy X.K HF->HF P=some (.tab qual)
noncomputable def iR(te:Env->Option D)(ρ:Env):List D->Option (List D)
 | []=>some []
 | d::ds=>(te (ρ.set 0 (some d))).bind fun x=>(iR te ρ ds).map (x::·)
theorem nM{te:Env->Option D}{ρ:Env}:∀ {ds ks:List D},iR te ρ ds=some ks->ks.length=ds.length
 | [],ks,h=>by cases h;rfl
 | d'::ds,ks,h=>by
  unfold iR at h
  obtain⟨y,h1,h⟩:=bs h
  obtain⟨ys,h2,rfl⟩:=ag h
  simp[nM h2]
theorem qK{te:Env->Option D}{ρ:Env}:∀ {ds ks:List D}{i:Nat}{d:D},iR te ρ ds=some ks->ds[i]?=some d->∃x,te (ρ.set 0 (some d))=some x/\ks[i]?=some x
 | [],ks,i,d,h,e=>by simp at e
 | d'::ds,ks,i,d,h,e=>by
  unfold iR at h
  obtain⟨y,h1,h⟩:=bs h
  obtain⟨ys,h2,rfl⟩:=ag h
  cases i with
  | zero=>simp at e;subst e;exact⟨y,h1,rfl⟩
  | succ i=>obtain⟨x,a,b⟩:=qK h2 (by simpa using e);exact⟨x,a,by simpa using b⟩
noncomputable def nO(cs:List Nat)(fl te:Env->Option D):Env->Option (List D):=fun ρ=>(fl ρ).bind fun l=>match l with
 | .list ds=>(iR te (eG 1 cs ρ) ds).bind fun ks=>(intsOf ks).bind fun zs=>if ds.length < 64 then some (oS (fun i=>zs.getD i 0) ds .none) else none
 | _=>none
theorem wL{K:W.Frag}{HF:Hp}{ρ:Env}{σ:L2.St}{cs:List Nat}{d:D}{v:V}(eo:cW K HF ρ σ)(r:Rep K HF d v):cW K HF ((eG 1 cs ρ).set 0 (some d)) ((j8 1 cs σ).set 0 (some v)):=iX (BE eo) r
theorem l6{K:W.Frag}{HF:Hp}:∀ {ks:List D}{zs:List Int}{kvs:List V}{us:List Value},intsOf ks=some zs->au K HF ks kvs->aF kvs us->IntsAre us zs
 | [],zs,kvs,us,h,r,v=>by
  cases h
  rw[r.nil_inv] at v
  cases v
  exact .nil
 | d::ks,zs,kvs,us,h,r,v=>by
  cases d<;>simp only[intsOf] at h<;>try cases h
  rename_i i
  obtain⟨ys,h2,rfl⟩:=ag h
  obtain⟨w,ws,rfl,a,b⟩:=r.cons_inv
  simp only[Rep] at a
  subst a
  cases v with
  | cons r1 r2 =>
   obtain⟨t,rfl⟩:=r1
   exact .cons i t (l6 h2 b r2)
theorem je:∀ {us:List Value}{zs:List Int}{i:Nat},IntsAre us zs->i < us.length->∃t,us.getD i Value.none=.int (zs.getD i 0) t
 | _,_,i,.nil,h=>by simp at h
 | _,_,0,.cons n t r,h=>⟨t,rfl⟩
 | _,_,i+1,.cons n t r,h=>by
  obtain⟨t',e⟩:=je (i:=i) r (by simpa using h)
  exact⟨t',by simpa using e⟩
variable {l body:Expr}{fl te:Env->Option D}{params:Arguments}{scope:Scope}{lpos pos p0 kpos:Pos}{N':List Str}{cs:List Nat}{p qual:Str}
theorem Bk.sortK(C:Bk X N sc (k+3))(B:nU X "sorted" (.builtin "sorted"))(L:rh X qual)(ok:ji sc scope N N' 1 cs=true)(hl:n9 scope N' p=true)
  (hb:∀ (cl:List (Str×Addr)) (pm ctv u:Value) (c:Addr),bindArgs (W.kla_fn "<lambda>" qual params body scope cl pm (.ref c) ctv) ⟨[u],[]⟩=pure [(p,u)]) (hdef:defaultsOf params X.env=([],[])) (h:DE X l fl)
  (hY:∀A f c s H,Bk (gL X A qual scope N' f c s H) N' scope k->DE (gL X A qual scope N' f c s H) body te)
  (hst:starEach [l] X.env=(false,eval l X.env)::starEach [] X.env) (he:backTo pos (starEach [l] X.env)=(false,eval l X.env)::backTo pos (starEach [] X.env)) (hpl:(backTo pos (starEach [l] X.env)).any (·.1)=false) :
  DF X (.Call (.Name "sorted" p0) [l] [⟨some "key",.Lambda params body scope lpos,kpos⟩] pos) (nO cs fl te):=by
 obtain⟨S,_⟩:=C.comp ok
 have hnd:N'.Nodup:=by
  unfold ji at ok
  simp only[zF,zJ] at ok
  exact ok.2
 have hl':=hl
 unfold n9 at hl'
 simp only[zF,List.all_eq_true,Bool.not_eq_true',decide_eq_false_iff_not,zJ] at hl'
 obtain⟨⟨⟨⟨hnc,hN0⟩,hp⟩,hco⟩,hgen⟩:=hl'
 obtain⟨cc,P,hcode,hqual,hhd,ft⟩:=L.ex
 intro pins s σ H Q I ⟨HF,ρ,out,sm,eo,hf,q⟩
 obtain⟨ld,hld,hf⟩:=bs hf
 cases ld<;>try cases hf
 rename_i ds
 obtain⟨ks,hks,hf⟩:=bs hf
 obtain⟨zs,hzs,hf⟩:=bs hf
 split at hf<;>cases hf
 rename_i h64
 refine wpAny_Call_Name_kw (jr I B.gl B.mg B.bt ?_ (by decide) (by decide))
 refine PyProof.Rows.callWith_kw (e:=l) (rest:=[]) (kws:=[⟨some "key",.Lambda params body scope lpos,kpos⟩]) ?_ he hpl rfl rfl
 refine ck (Bm h Gs hst pos pins s σ H _ I ⟨HF,ρ,[.list ds],sm,eo,by simp[aa,ae,hld],fun vs H1 HF1 g1 r1=>(⟨HF1,g1,r1⟩:∃HF1,cy HF H HF1 H1/\au X.K HF1 [.list ds] vs)⟩) fun us s1 ⟨vs,H1,I1,rv,HF1,g1,r1⟩=>?_
 obtain⟨v,vr,rfl,a1,b1⟩:=r1.cons_inv
 rw[b1.nil_inv] at rv
 obtain⟨u,rfl,rx⟩:=vals1 rv
 simp only[Rep] at a1
 obtain⟨la,ws,rfl,hq,rr⟩:=a1
 cases rx
 have hT1:H1 P=some (.tab qual):=g1.fh _ _ (ft HF1 (eo.tb.mono g1.ff))
 show wpAny _ _ (evalAll ((do let v <- eval (.Lambda params body scope lpos) X.env;standAt pos;pure v)::[])) _ _ s1
 refine wpAny_evalAll_cons (zW ?_)
 refine w6 (P:=P) I1 S hqual hcode (W.codeHd_of_K I1.ok.mod.kin hhd) hT1 I1.ok.mod.bmd hdef fun f c' pm ctv s2 H2 I2 hfo hfn hcod s12 fp2 _=>?_
 refine zW (wpAny_standAt (zX (wpAny_evalAll_nil ?_)))
 show wpAny _ _ (call (.builtin "sorted") [.ref la] [(Str.ofString "key",.ref f)]) _ _ s2
 have Ip:=I2.pinned (fp:=[f]) (fun b hb=>by rw[yK.mp hb];exact fp2) (fun b hb=>by rw[yK.mp hb];exact⟨_,hfo,fun v z=>by cases z⟩)
 have g2:cy HF1 H1 HF1 H2:=⟨s12,.refl _,g1.fh.trans s12,fun _ _ e=>.inl e⟩
 obtain⟨its,rvi,pl,hz⟩:=Ip.list (s12.seq (g1.fh.seq hq))
 have hlen:its.length=ds.length:=by rw[<- rvi.length,rr.length]
 have hkl:=nM hks
 have hR:eP (k+1) X.A.in1.in1:=C.room.in1.in1
 refine Srt.sortedK (vs:=its) Ip (by omega) (fun {Q'} hQ=>?_) (fun us H'=>∃HF' kvs,cy HF1 H2 HF' H'/\au X.K HF' (ks.take us.length) kvs/\aF kvs us) ⟨HF1,[],.refl g2.fh,by simpa using au.nil,.nil⟩ (fun us x hx pl' s3 H3 I3 ⟨HF3,kvs,g3,rk,rvk⟩=>?_) fun us H3 hu ⟨HF3,kvs,g3,rk,rvk⟩=>?_
 ·refine collect_list pl.isList (hQ _ fun b o e=>?_) (by rw[sizeLine_eq];omega)
  exact (Heap.get?_update_other _ _ (Nat.ne_of_gt (zZ e))).trans (zV _ e)
 ·have hi:us.length < its.length:=(zU.mp hx).1
  obtain⟨w,hw⟩:∃w,ws[us.length]?=some w:=⟨_,zK (by rw[rvi.length];exact hi)⟩
  obtain⟨x',hx',rw'⟩:=rvi.get hw
  rw[hx] at hx'
  cases hx'
  obtain⟨d,hd,rd⟩:=rr.get hw
  obtain⟨kd,hkd,hki⟩:=qK hks hd
  have hfo3:s3.heap.get? f=some (W.kla_obj "<lambda>" qual params body scope (eH X.env scope.names []) pm c' ctv) :=
   (I3.pin (f,_) (yF _ (List.mem_append_left _ (yF _ (dH zE hfo))))).1
  refine wpAny_mono (xI (Q:=fun v H4=>∃HF4,cy HF3 H3 HF4 H4/\Rep X.K HF4 kd v) (te:=tD X.K te) I3 hR I3.ok.frames S hnc hN0 hp hnd hco hgen hfo3 (g3.hh _ _ hcod) (hb _ _ _ _ _) rw' (hY _ _ _ _ _ (Fo C hR S.kind hnd hl))
   ⟨HF3,_,kd,g3.fh,wL (eo.mono (g1.ff.trans g3.ff)) (rd.mono g3.ff),hkd,fun v H4 HF4 g4 r4=>⟨HF4,g4,r4⟩⟩) (fun u s4 ⟨v4,H4,I4,r4,HF4,g4,rp⟩=>⟨H4,I4,HF4,kvs++[v4],g3.trans g4,?_,rvk.append (.cons r4 .nil)⟩) fun _ _ e=>e
  rw[zN,List.length_singleton,List.take_add_one,hki]
  exact (rk.mono g4.ff).append (au.cons rp au.nil)
 ·have hk':ks.take us.length=ks:=List.take_of_length_le (by omega)
  rw[hk'] at rk
  have ia:=l6 hzs rk rvk
  refine⟨fun i=>zs.getD i 0,oneType',fun h2 s3 I3=>⟨fun Q' q'=>?_,fun i j Cc hi hj q'=>?_⟩,fun s3 Dn c I3 fD e=>?_⟩
  ·rw[PyProof.Rows.ksk_kind (keys:=us.toArray) (kz:=zs) (by simpa using ia) (by simpa [hu] using h2)]
   exact zX q'
  ·obtain⟨t1,e1⟩:=je ia (i:=i) (by omega)
   obtain⟨t2,e2⟩:=je ia (i:=j) (by omega)
   unfold W.kas_ask
   rw[e1,e2]
   exact W.kat_lt_int q'
  ·have hv:=qT (fun i=>zs.getD i 0) rvi
   have hr:=pK (fun i=>zs.getD i 0) rr
   have hnD:H3 Dn=none:=fD.1
   have I4:=Inv.track (o:=.lst (oS (fun i=>zs.getD i 0) ws .non)) I3 fD ⟨by rw[(gG _ _ _).length_eq];exact hz,_,c,hv,e⟩
   have G:=(g1.trans g2).trans g3
   refine⟨.ref Dn,_,I4.unpinned,rfl,q Dn _ _ HF3 (G.trans (.own G.fh hnD)) (G.hh.free hnD) (G.fh.free hnD) aL (hr.mono g3.ff)⟩
end
end Dl
namespace Srt
open PySem PySem.W PySem.Calls PyProof.Rows L2
section
variable {prog:Program}{w:World}{A:Around}{E:Value->Shared->Prop}{s:Shared}
theorem iadd_rng{R:Result->Shared->Prop}{r S:Addr}{a b c:Int}{t u v:Tok}{n:Nat}(hh:A.handled=none)(hr:IsRange s.heap r a b c t u v)(hsmall:Builtin.Range.small a b c=true)(hn:Builtin.Range.rangeSize a b c=n)(hlen:n<=2 ^ 24)
  (hS:s.heap.get? S=some { cls:=.type "list",data:=.seq #[] })
  (hR:∀h' tk acc' c',(∀b o,b≠S->s.heap.get? b=some o->h'.get? b=some o)->h'.get? S=some { cls:=.type "list",dict:=none,data:=.seq acc' c',slots:=#[] } ->
   ItemsOf (fun i v=>∃t,v=.int (a+i * c) t) acc' n->R (.ok (.ret (.ref S))) { s with heap:=h',toks:=tk }):codeAny (model prog w) A (.builtin "list.__iadd__" ⟨[.ref S,.ref r],[]⟩) R s:=by
 refine codeAny_builtin entry_list_iadd' ?_
 rw[Around.under_plainId (by decide +kernel:plainId "list.__iadd__"=true) _]
 exact wpAny_extend_range (A:=A) hh hr hsmall hn hlen S (.ref S) _ hS hR
theorem collect_rng{r:Addr}{a b c:Int}{t u v:Tok}{n:Nat}{Q:List Value->Shared->Prop}(hh:A.handled=none)(hr:IsRange s.heap r a b c t u v)(hsmall:Builtin.Range.small a b c=true)(hn:Builtin.Range.rangeSize a b c=n)(hlen:n<=2 ^ 24)
  (h:∀h' tk acc,(∀b o,s.heap.get? b=some o->h'.get? b=some o)->ItemsOf (fun i v=>∃t,v=.int (a+i * c) t) acc n->Q acc.toList { s with heap:=h',toks:=tk }):wpAny (model prog w) A (collect (.ref r)) Q E s:=by
 unfold collect
 refine zW (wpAny_runValue (codeAny_builtin entry_proto_collect' ?_))
 rw[Around.under_plainId (by decide +kernel:plainId "proto.collect"=true) _]
 show wpAny _ A.in1 (newList [] >>= fun l=>again (.builtin "list.__iadd__" ⟨[l,.ref r],[]⟩)) _ _ s
 refine zW (wpAny_newObj_type ?_)
 have hS:(s.heap.push { cls:=.type "list",data:=.seq #[] }).get? s.heap.objs.size=some { cls:=.type "list",data:=.seq #[] }:=zY _ rfl
 refine zX ⟨plainId_quiet (by decide +kernel) _,iadd_rng (s:={ s with heap:=s.heap.push { cls:=.type "list",data:=.seq #[] } }) hh (zV _ hr) hsmall hn hlen hS fun h' tk acc' c' hk hS' hacc=>?_⟩
 show wpAny _ A (load s.heap.objs.size >>= _) _ _ _
 refine zW (wpAny_load hS' ?_)
 exact zX (h h' tk acc' (fun b o e=>hk b o (Nat.ne_of_lt (zZ e)) (zV _ e)) hacc)
end
section
variable {X:Cx}{pins:List (Addr×Obj)}{σ:L2.St}{H:Hp}{s:Shared}{A:Around}{E:Value->Shared->Prop}
theorem sortedR{l:Value}{f:Addr}{PV:List Value->Prop}{Q:Value->Shared->Prop}(I:Inv X pins σ H s)
  (hcol:∀ {Q':List Value->Shared->Prop},(∀ (h':Heap) (tk:Nat) (vs:List Value),PV vs->(∀b o,s.heap.get? b=some o->h'.get? b=some o)->Q' vs { s with heap:=h',toks:=tk })->wpAny (model X.prog X.w) A.in1 (collect l) Q' E s)
  (rest:∀vs,PV vs->vs.length < 64/\∃J:List Value->Hp->Prop,J [] H /\
   (∀us v,vs[us.length]?=some v->∀pl s' H',Inv X (pins++pl) σ H' s'->J us H'->wpAny (model X.prog X.w) A.in1.in1 (call (.ref f) [v]) (fun u s''=>∃H'',Inv X (pins++pl) σ H'' s''/\J (us++[u]) H'') (fun _ _=>False) s') /\
   (∀us H',us.length=vs.length->J us H'->∃ (z:Nat->Int) (κ:SortKind),(2<=vs.length->∀s',Inv X pins σ H' s'->(∀Q':SortKind->Shared->Prop,Q' κ s'->wpAny (model X.prog X.w) A.in1.in1 (keyKind' us.toArray) Q' (fun _ _=>False) s') /\
    ∀i j C,i < vs.length->j < vs.length->C (SP.eK z i j) s'->kas_ask X.prog X.w A.in1.in1 κ us i j C s') /\
   ∀s' D c,Inv X pins σ H' s'->cI X pins H' D->s'.heap.get? D=some (seqObj "list" (outV z vs).toArray c)->Q (.ref D) s')) :
  wpAny (model X.prog X.w) A (call (.builtin "sorted") [l] [(Str.ofString "key",.ref f)]) Q E s:=by
 refine call_function_entry_kw kind_sorted plain_sorted entry_sorted (ksk_s1 _ _) ?_
 unfold Builtin.«sorted»
 refine zW (m:=checkCount "sorted" 1 1 _) (zX (zW (hcol fun h1 tk vs hv kp=>?_)))
 obtain⟨h64,J,j0,step,fin⟩:=rest vs hv
 have hsl:vs.length<=sizeLine:=by rw[sizeLine_eq];omega
 refine zW (wpAny_newList ?_ (by simpa using hsl))
 have I1:=I.kept (t':=tk) kp
 have fD:cI X pins H h1.objs.size:=I1.fpOk (Nat.le_refl _) (I1.hok.fresh (Nat.le_refl _))
 have hoD:(h1.push (seqObj "list" vs.toArray 0)).get? h1.objs.size=some (seqObj "list" vs.toArray 0):=zY _ rfl
 have I2:=I1.kept (t':=tk) (h':=h1.push (seqObj "list" vs.toArray 0)) fun b o e=>zV _ e
 show wpAny _ _ _ _ _ { s with heap:=h1.push (seqObj "list" vs.toArray 0),toks:=tk }
 refine zW (wpAny_holding (wpAny_call_entry_kw slot_list_sort ⟨_,hoD,rfl⟩ entry_list_sort ?body (ksk_l1 _ _)))
 case body =>
  show wpAny (model X.prog X.w) A.in1.in1 (Builtin.«list.sort» ⟨[.ref h1.objs.size],[(Str.ofString "key",.ref f)]⟩) _ _ _
  rw[ksk_t1]
  refine list_sortK I2 hoD fD h64 J j0 step fun us H' hu j'=>?_
  obtain⟨z,κ,hz,hP⟩:=fin us H' hu j'
  exact⟨z,κ,hz,fun s' c I' f' e=>⟨_,rfl,zX ⟨_,rfl,hP s' _ c I' f' e⟩⟩⟩
end
end Srt
namespace Dl
open PySem L2 PySem.Spec PyProof.Rows
noncomputable def qG(n:Nat):List D:=(List.range n).map fun i=>PyData.int ((i:Nat):Int)
noncomputable def pQ(cs:List Nat)(fs:Env->Option (List D))(te:Env->Option D):Env->Option (List D):=fun ρ=>(fs ρ).bind fun l=>match l with
 | [.int n]=>if 0<=n/\n < 64 then (iR te (eG 1 cs ρ) (qG n.toNat)).bind fun ks=>(rowsOf ks).map fun nss=>oS (fun i=>rk nss (nss.getD i [])) (qG n.toNat) .none else none
 | _=>none
theorem sR:∀ {vs:List Value}{k:Nat},(∀i v,vs[i]?=some v->∃t,v=Value.int ((k+i:Nat):Int) t)->aF ((List.range' k vs.length).map fun i=>V.int ((i:Nat):Int)) vs
 | [],k,_=>.nil
 | v::vs,k,h=>by
  rw[zL,List.range'_succ,zI]
  obtain⟨t,e⟩:=h 0 v rfl
  refine .cons ⟨t,by simpa using e⟩ (sR fun i u hu=>?_)
  obtain⟨t',e'⟩:=h (i+1) u (by simpa using hu)
  exact⟨t',by rw[e'];congr 1;omega⟩
theorem tJ{K:W.Frag}{HF:Hp}:∀ (l:List Nat),au K HF (l.map fun i=>PyData.int ((i:Nat):Int)) (l.map fun i=>V.int ((i:Nat):Int))
 | []=>au.nil
 | i::l=>au.cons (by simp[Rep]) (tJ l)
section
variable {X:Cx}{N:List Str}{sc:Scope}{k:Nat}
variable {e body:Expr}{fs:Env->Option (List D)}{te:Env->Option D}{params:Arguments}{scope:Scope}{lpos pos p0 kpos rpos p1:Pos}{N':List Str}{cs:List Nat}{p qual:Str}
theorem Bk.sortR(C:Bk X N sc (k+3))(B:nU X "sorted" (.builtin "sorted"))(BR:nU X "range" (.type "range"))(L:rh X qual)(ok:ji sc scope N N' 1 cs=true)(hl:n9 scope N' p=true)
  (hb:∀ (cl:List (Str×Addr)) (pm ctv u:Value) (c:Addr),bindArgs (W.kla_fn "<lambda>" qual params body scope cl pm (.ref c) ctv) ⟨[u],[]⟩=pure [(p,u)]) (hdef:defaultsOf params X.env=([],[])) (h:DA X [e] fs)
  (hY:∀A f c s H,Bk (gL X A qual scope N' f c s H) N' scope k->DE (gL X A qual scope N' f c s H) body te)
  (hsR:starEach [e] X.env=[(false,eval e X.env)])
  (hst:starEach [.Call (.Name "range" p1) [e] [] rpos] X.env=(false,eval (.Call (.Name "range" p1) [e] [] rpos) X.env)::starEach [] X.env) (he:backTo pos (starEach [.Call (.Name "range" p1) [e] [] rpos] X.env)=(false,eval (.Call (.Name "range" p1) [e] [] rpos) X.env)::backTo pos (starEach [] X.env)) (hpl:(backTo pos (starEach [.Call (.Name "range" p1) [e] [] rpos] X.env)).any (·.1)=false) :
  DF X (.Call (.Name "sorted" p0) [.Call (.Name "range" p1) [e] [] rpos] [⟨some "key",.Lambda params body scope lpos,kpos⟩] pos) (pQ cs fs te):=by
 obtain⟨S,_⟩:=C.comp ok
 have hnd:N'.Nodup:=by
  unfold ji at ok
  simp only[zF,zJ] at ok
  exact ok.2
 have hl':=hl
 unfold n9 at hl'
 simp only[zF,List.all_eq_true,Bool.not_eq_true',decide_eq_false_iff_not,zJ] at hl'
 obtain⟨⟨⟨⟨hnc,hN0⟩,hp⟩,hco⟩,hgen⟩:=hl'
 obtain⟨cc,P,hcode,hqual,hhd,ft⟩:=L.ex
 intro pins s σ H Q I ⟨HF,ρ,out,sm,eo,hf,q⟩
 obtain⟨ld,hld,hf⟩:=bs hf
 obtain⟨n,rfl⟩:∃n,ld=[.int n]:=by
  split at hf
  ·exact⟨_,rfl⟩
  ·cases hf
 simp only at hf
 split at hf
 rotate_left
 ·cases hf
 rename_i h64
 obtain⟨ks,hks,hf⟩:=bs hf
 obtain⟨nss,hns,rfl⟩:=ag hf
 obtain⟨hkr,hne⟩:=jO hns
 refine wpAny_Call_Name_kw (jr I B.gl B.mg B.bt ?_ (by decide) (by decide))
 refine PyProof.Rows.callWith_kw (e:=.Call (.Name "range" p1) [e] [] rpos) (rest:=[]) (kws:=[⟨some "key",.Lambda params body scope lpos,kpos⟩]) ?_ he hpl rfl rfl
 rw[he]
 refine Calls.spliced_cons ?_
 refine Call_ (jr I BR.gl BR.mg boot_range (PyProof.Rows.callWith_type1 (ck (h rpos pins s σ H _ I ⟨HF,ρ,[.int n],sm,eo,hld,fun vs H1 HF1 g1 r1=>(⟨HF1,g1,r1⟩:∃HF1,cy HF H HF1 H1/\au X.K HF1 [.int n] vs)⟩) fun us s1 ⟨vs,H1,I1,rv,HF1,g1,r1⟩=>?_) hsR rfl))
 obtain⟨v,vr,rfl,a1,b1⟩:=r1.cons_inv
 rw[b1.nil_inv] at rv
 obtain⟨u,rfl,rx⟩:=vals1 rv
 simp only[Rep] at a1
 subst a1
 obtain⟨t,rfl⟩:=rx
 refine call_range_1 ?_
 refine Calls.spliced_nil ?_
 obtain⟨hn0,hn64⟩:=h64
 have I1':=I1.kept (t':=s1.toks+1+1) (h':=s1.heap.push { cls:=Value.type "range",data:=Data.fields #[Value.int 0 s1.toks,Value.int n t,Value.int 1 (s1.toks+1)] }) fun b o e=>zV _ e
 have hro:(s1.heap.push { cls:=Value.type "range",data:=Data.fields #[Value.int 0 s1.toks,Value.int n t,Value.int 1 (s1.toks+1)] }).get? s1.heap.objs.size=some { cls:=Value.type "range",data:=Data.fields #[Value.int 0 s1.toks,Value.int n t,Value.int 1 (s1.toks+1)] }:=zY _ rfl
 have Ir:=I1'.pinned (fp:=[s1.heap.objs.size]) (fun b hb=>by rw[yK.mp hb];exact I1.fpOk (Nat.le_refl _) I1.fresh) (fun b hb=>by rw[yK.mp hb];exact⟨_,hro,fun v z=>by cases z⟩)
 have hT1:H1 P=some (.tab qual):=g1.fh _ _ (ft HF1 (eo.tb.mono g1.ff))
 show wpAny _ _ (evalAll ((do let v <- eval (.Lambda params body scope lpos) X.env;standAt pos;pure v)::[])) _ _ _
 refine wpAny_evalAll_cons (zW ?_)
 refine w6 (P:=P) Ir S hqual hcode (W.codeHd_of_K Ir.ok.mod.kin hhd) hT1 Ir.ok.mod.bmd hdef fun f c' pm ctv s2 H2 I2 hfo hfn hcod s12 fp2 _=>?_
 refine zW (wpAny_standAt (zX (wpAny_evalAll_nil ?_)))
 show wpAny _ _ (call (.builtin "sorted") [.ref s1.heap.objs.size] [(Str.ofString "key",.ref f)]) _ _ s2
 have hr2:IsRange s2.heap s1.heap.objs.size 0 n 1 s1.toks t (s1.toks+1):=(Srt.pin_get I2 zE hro).1
 have Ip:=I2.pinned (fp:=[f]) (fun b hb=>by rw[yK.mp hb];exact fp2) (fun b hb=>by rw[yK.mp hb];exact⟨_,hfo,fun v z=>by cases z⟩)
 have g2:cy HF1 H1 HF1 H2:=⟨s12,.refl _,g1.fh.trans s12,fun _ _ e=>.inl e⟩
 have hkl:=nM hks
 have hnl:(qG n.toNat).length=n.toNat:=by simp[qG]
 have hR:eP (k+1) X.A.in1.in1:=C.room.in1.in1
 refine Srt.sortedR (PV:=fun vs=>vs.length=n.toNat/\∀i v,vs[i]?=some v->∃t,v=Value.int ((i:Nat):Int) t) Ip (fun {Q'} hQ=>?_) fun its ⟨hil,hiv⟩=>⟨by omega,fun us H'=>∃HF' kvs,cy HF1 H2 HF' H'/\au X.K HF' (ks.take us.length) kvs/\aF kvs us,⟨HF1,[],.refl g2.fh,by simpa using au.nil,.nil⟩,fun us x hx pl' s3 H3 I3 ⟨HF3,kvs,g3,rk,rvk⟩=>?_,fun us H3 hu ⟨HF3,kvs,g3,rk,rvk⟩=>?_⟩
 ·refine Srt.collect_rng (n:=n.toNat) C.room.in1.hd hr2 (small_one (by omega) (by omega) (by omega) (by omega)) (by rw[rangeSize_one];split<;>omega) (by omega) fun h' tk acc kp ha=>?_
  refine hQ h' tk acc.toList ⟨by have:=ha.1;simpa using this,fun i v hv=>?_⟩ kp
  obtain⟨t',e'⟩:=ha.2 i v (by simpa using hv)
  exact⟨t',by rw[e'];congr 1;omega⟩
 ·have hi:us.length < n.toNat:=by rw[<- hil];exact (zU.mp hx).1
  obtain⟨tx,rfl⟩:=hiv _ _ hx
  have hd:(qG n.toNat)[us.length]?=some (.int ((us.length:Nat):Int)):=by simp[qG,hi]
  obtain⟨kd,hkd,hki⟩:=qK hks hd
  have hfo3:s3.heap.get? f=some (W.kla_obj "<lambda>" qual params body scope (eH X.env scope.names []) pm c' ctv) :=
   (I3.pin (f,_) (yF _ (List.mem_append_left _ (yF _ (dH zE hfo))))).1
  refine wpAny_mono (xI (v:=V.int ((us.length:Nat):Int)) (Q:=fun v H4=>∃HF4,cy HF3 H3 HF4 H4/\Rep X.K HF4 kd v) (te:=tD X.K te) I3 hR I3.ok.frames S hnc hN0 hp hnd hco hgen hfo3 (g3.hh _ _ hcod) (hb _ _ _ _ _) ⟨tx,rfl⟩ (hY _ _ _ _ _ (Fo C hR S.kind hnd hl))
   ⟨HF3,_,kd,g3.fh,wL (eo.mono (g1.ff.trans g3.ff)) (by simp[Rep]),hkd,fun v H4 HF4 g4 r4=>⟨HF4,g4,r4⟩⟩) (fun u s4 ⟨v4,H4,I4,r4,HF4,g4,rp⟩=>⟨H4,I4,HF4,kvs++[v4],g3.trans g4,?_,rvk.append (.cons r4 .nil)⟩) fun _ _ e=>e
  rw[zN,List.length_singleton,List.take_add_one,hki]
  exact (rk.mono g4.ff).append (au.cons rp au.nil)
 ·have hk':ks.take us.length=ks:=List.take_of_length_le (by omega)
  rw[hk',hkr] at rk
  have hnn:nss.length=n.toNat:=by
   have:=congrArg List.length hkr
   rw[zD] at this
   omega
  refine⟨fun i=>Dl.rk nss (nss.getD i []),tuples' true,fun h2 s3 I3=>⟨fun Q' q'=>?_,fun i j Cc hi hj q'=>?_⟩,fun s3 Dn c I3 fD e=>?_⟩
  ·obtain⟨fs',tt,hlen,hff⟩:=qC (mC I3 g3.fh rk rvk) hne
   refine W.kat_kind (T:=.type "int") tt (by omega) (fun v hv=>?_) (by decide) q'
   obtain⟨n',t',rfl⟩:=hff v hv
   exact W.Looks.of_pure rfl
  ·have hp3:=mC I3 g3.fh rk rvk
   have ri:=gA (d:=Value.none) (d':=[]) hp3 (show i < us.length by omega)
   have rj:=gA (d:=Value.none) (d':=[]) hp3 (show j < us.length by omega)
   obtain⟨a,o,its1,n1,ea,e1,e2,e3,e4⟩:=ri.ex
   obtain⟨b,o',its',n',eb,f1,f2,f3,f4⟩:=rj.ex
   unfold W.kas_ask
   rw[ea,eb]
   have hmem:nss.getD i []∈nss:=by
    rw[zG,zK (by omega)]
    exact List.getElem_mem _
   have q2:Cc (lexLt (nss.getD i []) (nss.getD j [])) s3:=by
    rw[AB hmem]
    exact q'
   refine W.kat_lt e1 e3 f1 f3 ?_
   have:=pX (prog:=X.prog) (w:=X.w) (A:=X.A.in1.in1) (s:=s3) 0 e4 f4 q2
   have l1:its1.size=(nss.getD i []).length:=by have:=IntsAre.length e4;simpa using this
   have l2:its'.size=(nss.getD j []).length:=by have:=IntsAre.length f4;simpa using this
   rw[l1,l2]
   exact this
  ·have rvi:aF ((List.range n.toNat).map fun i=>V.int ((i:Nat):Int)) its:=by
    have:=sR (vs:=its) (k:=0) fun i v hv=>by
     obtain⟨t',e'⟩:=hiv i v hv
     exact⟨t',by rw[e'];congr 1;omega⟩
    rw[hil,<- List.range_eq_range'] at this
    exact this
   have rr:au X.K HF1 (qG n.toNat) ((List.range n.toNat).map fun i=>V.int ((i:Nat):Int)):=tJ _
   have hv:=qT (fun i=>Dl.rk nss (nss.getD i [])) rvi
   have hr:=pK (fun i=>Dl.rk nss (nss.getD i [])) rr
   have hnD:H3 Dn=none:=fD.1
   have I4:=Inv.track (o:=.lst (oS (fun i=>Dl.rk nss (nss.getD i [])) ((List.range n.toNat).map fun i=>V.int ((i:Nat):Int)) .non)) I3 fD ⟨by rw[(gG _ _ _).length_eq,zD,zS,PySem.sizeLine_eq];omega,_,c,hv,e⟩
   have G:=(g1.trans g2).trans g3
   refine⟨.ref Dn,_,I4.unpinned.unpinned,rfl,q Dn _ _ HF3 (G.trans (.own G.fh hnD)) (G.hh.free hnD) (G.fh.free hnD) aL (hr.mono g3.ff)⟩
end
section
variable {X:Cx}{pos:Pos}
noncomputable def Gy(i j l:Nat):Env->D->Option Env:=fun ρ d=>match d with
 | .tuple [x,y,z]=>if isFree ρ i=true/\isFree ρ j=true/\isFree ρ l=true then some (((ρ.set i (some x)).set j (some y)).set l (some z)) else none
 | _=>none
theorem F0(i j l:Nat){x y z:Str}{px py pz:Pos}{k:Nat}(hc:X.calm=true)(hN:X.N.Nodup)(hi:X.N[i]?=some x)(hx:Loc X.env.scope x)(hj:X.N[j]?=some y)(hy:Loc X.env.scope y)(hl:X.N[l]?=some z)(hz:Loc X.env.scope z)
  (hf:X.fn x=true\/X.env.scope.names.lookup x=some .local) (hf':X.fn y=true\/X.env.scope.names.lookup y=some .local) (hf'':X.fn z=true\/X.env.scope.names.lookup z=some .local) :
  DG X (.Tuple [.Name x px,.Name y py,.Name z pz] k pos) (Gy i j l) :=
 nB (qc hc (cH (dm hN hi hx hf) (cH (dm hN hj hy hf') (cH (dm hN hl hz hf'') ml)))) fun v σ H Q ⟨HF,ρ,d,ρ',sm,eo,r,hf,q⟩=>by
  unfold Gy at hf
  split at hf
  ·rename_i x' y' z'
   split at hf
   ·rename_i hh
    cases hf
    simp only[Rep] at r
    obtain⟨a,vs,rfl,hs,rr⟩:=r
    obtain⟨v1,r1,rfl,a1,b1⟩:=rr.cons_inv
    obtain⟨v2,r2,rfl,a2,b2⟩:=b1.cons_inv
    obtain⟨v3,r3,rfl,a3,b3⟩:=b2.cons_inv
    rw[b3.nil_inv] at hs
    exact⟨a,_,rfl,aB sm hs,rfl,v1,_,rfl,v2,_,rfl,v3,_,rfl,rfl,q _ (iX (iX (iX eo a1) a2) a3) (kL (kL (kL eo hh.1) hh.2.1) hh.2.2)⟩
   ·cases hf
  ·cases hf
end
theorem Mw{xs:List Value}(h:2<=xs.length):((List.range 2).filterMap fun (k:Nat)=>xs.toArray[((1:Int)+(k:Int) * (-1)).toNat]?)=(xs.take 2).reverse:=by
 match xs,h with
 | a::b::r,_=>rfl
theorem EL{prog:Program}{w:World}{A:Around}{E:Value->Shared->Prop}{s:Shared}{t sl:Addr}{its:List Value}{tk tk1:Tok}{Q:Value->Shared->Prop}(ht:IsTup s.heap t its.toArray)(hs:s.heap.IsSliceOf sl (.int 1 tk1) .none (.int (-1) tk))
  (h2:2<=its.length) (h:Q (.ref s.heap.objs.size) { s with heap:=s.heap.push { cls:=.type "tuple",data:=.seq (its.take 2).reverse.toArray } }):wpAny (model prog w) A (getItem (.ref t) (.ref sl)) Q E s:=by
 obtain⟨os,hos,hcs,hds⟩:=id hs
 have hTs:s.TypeIs (.ref sl) "slice":=⟨os,hos,hcs⟩
 unfold getItem
 try with_reducible refine wpAny_holding ?_
 first|refine zW (zX ?_)|skip
 refine zW (wpAny_sequenceKey ht.typeIs (by decide) (zW (wpAny_callSpecial?_slot (name:=Str.ofString "__getitem__") ht.typeIs PyProof.Rows.slot_tuple_getitem (wpAny_call_entry PyProof.Rows.slot_tuple_getitem ht.typeIs entry_tuple_getitem ?_ (args_tuple_getitem _ _)))))
 refine zW (m:=Builtin.Tuple.tupleItemsOf (.ref t)) (tupleItemsOf_ ht (zW (wpAny_typeOf hTs ?_)))
 rw[if_pos (by decide)]
 have hap:∀ {R:Int×Int×Nat->Shared->Prop},R (1,-1,2) s->wpAny (model prog w) A.in1 (Builtin.Slice.sliceApplied (.ref sl) (pure ((its.toArray.size:Nat):Int))) R E s:=fun {R} hR=>by
  unfold Builtin.Slice.sliceApplied Builtin.Slice.sliceFields
  refine zW (zW (wpAny_field hos hds (x:=.int 1 tk1) rfl (zW (wpAny_field hos hds (x:=.none) rfl (zW (wpAny_field hos hds (x:=.int (-1) tk) rfl (zX ?_)))))))
  refine zW (slicePart_int ?_)
  show wpAny _ _ (if ((-1:Int) == 0)=true then _ else _) _ _ s
  rw[if_neg (by decide)]
  refine zW (slicePart_int (zW (slicePart_none (zW (zX ?_)))))
  have e1:Builtin.Slice.sliceAdjust (some 1) none (-1) ((its.toArray.size:Nat):Int)=(1,-1):=by
   simp[Builtin.Slice.sliceAdjust]
   omega
  show wpAny _ _ (match Builtin.Slice.sliceAdjust (some 1) none (-1) ((its.toArray.size:Nat):Int) with|(lo,hi)=>pure (lo,(-1:Int),Builtin.Slice.slicePlaces lo hi (-1))) _ _ s
  rw[e1]
  have e2:Builtin.Slice.slicePlaces 1 (-1) (-1)=2:=by decide
  show wpAny _ _ (pure ((1:Int),(-1:Int),Builtin.Slice.slicePlaces 1 (-1) (-1))) _ _ s
  rw[e2]
  exact zX hR
 first
  | refine zW (hap ?_)
  | refine zW (wpAny_of_in1 (hap ?_))
 show wpAny _ _ (if ((1:Int) == 0&&(-1:Int) == 1&&2 == its.toArray.size)=true then _ else _) _ _ s
 rw[if_neg (by simp),Mw h2]
 have hz':sizeOk (.seq (its.take 2).reverse.toArray):=yE (m:=2) (by simp;omega) (by decide)
 first
  | exact zW (m:=Builtin.Tuple.tupleExact _) (wpAny_newObj_type (zX ⟨_,rfl,zX h⟩) hz')
  | exact zW (m:=Builtin.Tuple.tupleExact _) (wpAny_newObj_type (zW (zX (zX ⟨_,rfl,zX h⟩))) hz')
  | exact zW (zW (m:=Builtin.Tuple.tupleExact _) (wpAny_newObj_type (zX (zX ⟨_,rfl,zX h⟩)) hz'))
  | exact zW (zW (m:=Builtin.Tuple.tupleExact _) (wpAny_newObj_type (zX ⟨_,rfl,zX h⟩) hz'))
section
variable {X:Cx}{a:Expr}{fa:Env->Option D}{pos p1 p2 p3 p4:Pos}{i j:Nat}
theorem GU{ta:TE}(ha:PE X a ta):PE X (.Subscript a (.Slice (some (.Constant (.int 1) i p1)) none (some (.UnaryOp .USub (.Constant (.int 1) j p4) p3)) p2) pos) (fun σ H Q=>ta σ H fun x H1=>∃b xs,x=.ref b/\ju X.K H1 b xs/\2<=xs.length/\∀p,H1 p=none->Q (.ref p) (upd H1 p (.tup (xs.take 2).reverse))):=by
 intro pins s σ H Q I h
 refine Subscript_ (ck (ha pins s σ H _ I h) fun v s1 ⟨x,H1,I1,r1,b,xs,e,hq,h2,q⟩=>?_)
 subst e
 cases r1
 refine wpAny_Slice ?_
 have hlo:=oW (X:=X) (ui (X:=X) (i:=1) (j:=i) (pos:=p1)) pins s1 σ H1 (fun o H'=>o=some 1/\H'=H1) I1 ⟨1,rfl,rfl,rfl⟩
 refine ck hlo fun vlo s0 ⟨o,H0,I0,plo,e1,e2⟩=>?_
 subst e1 e2
 rw[evalPart_none]
 refine zX ?_
 have hst:=oW (X:=X) (FP (op:=.USub) yv (ui (X:=X) (i:=1) (j:=j) (pos:=p4)) (pos:=p3)) pins s0 σ H0 (fun o H'=>o=some (-1)/\H'=H0) I0 ⟨1,rfl,-1,rfl,rfl,rfl⟩
 refine ck hst fun vst s2 ⟨o,H2,I2,pst,e1,e2⟩=>?_
 subst e1 e2
 cases plo with
 | int _ tk1 =>
 cases pst with
 | int _ tk =>
 obtain⟨its,r,ht,hz⟩:=I2.tuple hq
 have I4:Inv X pins σ H2 { s2 with heap:=s2.heap.push { cls:=.type "slice",data:=.fields #[.int 1 tk1,.none,.int (-1) tk] } }:=I2.kept (t':=s2.toks) fun b ob q=>zV _ q
 obtain⟨its',r',ht',_⟩:=I4.tuple hq
 refine tail_any (ops:=[.ref b,.ref s2.heap.objs.size]) ht'.typeIs PyProof.Rows.slot_tuple_getitem.lookup (EL ht' (Heap.IsSliceOf.new ..) (by rw[<- r'.length];exact h2) ?_) (by with_unfolding_all rfl)
 have hv:aF (xs.take 2).reverse (its'.take 2).reverse:=L2.aF.reverse (r'.take 2)
 exact⟨.ref _,_,I4.laid (t':=s2.toks) (o:=.tup (xs.take 2).reverse) (fun b ob q=>zV _ q) (Nat.le_refl _) ⟨by rw[List.length_reverse,List.length_take];omega,_,hv,m7.new _ _⟩,rfl,q _ I4.fresh⟩
noncomputable def FI:D->Option D|.tuple ds=>if 2<=ds.length then some (.tuple (ds.take 2).reverse) else none|_=>none
theorem HD(ha:DE X a fa):DE X (.Subscript a (.Slice (some (.Constant (.int 1) i p1)) none (some (.UnaryOp .USub (.Constant (.int 1) j p4) p3)) p2) pos) (f1 FI fa):=aV (GU ha) fun σ H Q ⟨HF,ρ,d,sm,eo,hf,q⟩=>by
 obtain⟨x,hx,hf⟩:=bs hf
 refine⟨HF,ρ,x,sm,eo,hx,fun v1 H1 HF1 g1 r1=>?_⟩
 unfold FI at hf
 split at hf<;>try cases hf
 split at hf
 ·rename_i h2
  cases hf
  simp only[Rep] at r1
  obtain⟨b,vs,rfl,hs,rr⟩:=r1
  exact⟨b,vs,rfl,aB g1.fh hs,by rw[rr.length];exact h2,fun p hp=>q _ _ _ (g1.trans (.new g1.fh hp)) (cZ (g1.fh.free hp) (rr.take 2).reverse)⟩
 ·cases hf
end
section
variable {X:Cx}
noncomputable def EJ(d:D):List D->Option Nat
 | []=>none
 | x::xs=>if PyData.eqv x d=true then some 0 else (EJ d xs).map (·+1)
theorem sP{d:D}:∀ {xs:List D}{j:Nat},EJ d xs=some j->j < xs.length/\(∀x,xs[j]?=some x->PyData.eqv x d=true)/\∀m,m < j->∀x,xs[m]?=some x->PyData.eqv x d=false
 | [],j,h=>by cases h
 | x::xs,j,h=>by
  unfold EJ at h
  split at h
  ·cases h
   rename_i e
   exact⟨Nat.succ_pos _,fun y hy=>by cases hy;exact e,fun m hm=>absurd hm (Nat.not_lt_zero _)⟩
  ·rename_i e
   obtain⟨k,hk,rfl⟩:=ag h
   obtain⟨a,b,c⟩:=sP hk
   refine⟨by simpa using a,fun y hy=>b y (by simpa using hy),fun m hm y hy=>?_⟩
   cases m with
   | zero=>cases hy;simpa using e
   | succ m=>exact c m (by omega) y (by simpa using hy)
theorem C7(hu:X.A.units+66 < cLine):Mn X "list.index" (fun x vs H Q=>∃ (HF:Hp) (ds:List D) (d:D) (y:V) (j:Nat),aZ HF H/\Rep X.K HF (.list ds) x/\vs=[y]/\Rep X.K HF d y/\SeqAt.shaped d=true/\SeqAt.shaped (.list ds)=true/\ds.length<=sizeLine/\EJ d ds=some j/\Q (.int j) H):=by
 intro pins s σ H x vs v us Q I rx rv h
 obtain⟨HF,ds,d,y,j,sm,r1,rfl,r2,hd,hl,hz,hj,q⟩:=h
 obtain⟨u,rfl,ru⟩:=rv.one
 obtain⟨as,ra⟩:=et I sm r1 rx
 obtain⟨bs,rb⟩:=et I sm r2 ru
 have c1:=SeqAt.canLay_of_shaped hd
 have c2:=SeqAt.canLay_of_shaped hl
 have d1:=SeqAt.depth_of_shaped hd
 simp only[PyData.canLay0] at c2
 have m:=Nat.min_le_right (PyData.depthAll ds) d.depth
 obtain⟨hj1,hj2,hj3⟩:=sP hj
 cases ra with
 | list h1 h2 h3 h4 =>
  rename_i l o its n as
  obtain⟨cls,dd,data,sl⟩:=o
  simp only at h2 h3
  subst h2 h3
  have hm:=SeqAt.readsAll_map _ _ _ c2 h4
  have hlen:its.size=ds.length:=by rw[<- hm];simp
  have hs63:(sizeLine:Nat) < 2 ^ 62:=by decide
  have at_:∀m (hm:m < its.size),ds[m]?=some (SeqAt.readOf s.heap its[m]):=fun m hm'=>by
   rw[<- hm,zO,Array.getElem?_toList,Array.getElem?_eq_getElem hm']
   rfl
  refine call_meets F.slot_list_index ⟨_,h1,rfl⟩ F.entry_list_index (F.args_list_index_2 _ _) (PySem.SeqAt.list_indexAt l its n dd sl u (fun y=>PyData.eqv (SeqAt.readOf s.heap y) d) j (by rw[hlen];exact hj1) (by omega) ?_ ?_) ⟨h1,?_,?_⟩
  ·exact hj2 _ (at_ j (by rw[hlen];exact hj1))
  ·intro m hm' hmj
   exact hj3 m hmj _ (at_ m hm')
  ·exact SeqAt.items_eqAt h4 rb c2 c1 (by omega)
  ·exact⟨.int j,H,I.tok _,⟨_,rfl⟩,q⟩
noncomputable def LV:D->D->Option D
 | .list es,d=>if SeqAt.shaped d=true/\SeqAt.shaped (.list es)=true/\es.length<=sizeLine then (EJ d es).map fun j=>.int ((j:Nat):Int) else none
 | _,_=>none
theorem Cb(hu:X.A.units+66 < cLine){o e:Expr}{apos cpos:Pos}{fo fe:Env->Option D}(hbase:attributeBase o "index" X.env (eval o X.env)=eval o X.env)
  (hfew:((backTo cpos (starEach [e] X.env)).all (fun x=>!x.1)&&(backToKw cpos (keywordEach [] X.env)).all (fun x=>x.1.isSome)&&decide ([e].length+([]:List Keyword).length+(if ([]:List Keyword).isEmpty then 0 else 1) < 30))=true)
  (hline:(apos.endLine == cpos.line)=true) (hs:starEach [e] X.env=(false,eval e X.env)::starEach [] X.env) (ho:DE X o fo) (he:DE X e fe):DE X (.Call (.Attribute o "index" apos) [e] [] cpos) (f2 LV fo fe) :=
 aV (sF PySem.F.plainAttrs_list PySem.F.slot_list_index PySem.F.type_list_index (C7 hu) ho (dE he ip hs) hbase hfew hline hs rfl) fun σ H Q ⟨HF,ρ,d,sm,eo,hf,q⟩=>by
  obtain⟨x,hx,hf⟩:=bs hf
  obtain⟨y,hy,hg⟩:=bs hf
  refine⟨HF,ρ,x,sm,eo,hx,fun v1 H1 HF1 g1 r1=>?_⟩
  unfold LV at hg
  split at hg
  ·split at hg
   ·rename_i es hh
    obtain⟨j,h2,rfl⟩:=ag hg
    have r1':=r1
    simp only[Rep] at r1
    obtain⟨l,us,rfl,hq,rr⟩:=r1
    refine⟨.inl ⟨rfl,_,g1.fh.seq hq⟩,HF1,ρ,y,g1.fh,eo.mono g1.ff,hy,fun v2 H2 HF2 g2 r2=>?_⟩
    exact⟨HF2,es,y,v2,j,g2.fh,r1'.mono g2.ff,rfl,r2,hh.1,hh.2.1,hh.2.2,h2,q _ H2 HF2 (g1.trans g2) (by simp[Rep])⟩
   ·cases hg
  ·cases hg
noncomputable def Jc:List D->Option D
 | [.int i]=>some (.int i)
 | [.bool b]=>some (.int (if b then 1 else 0))
 | _=>none
theorem IZ{K:W.Frag}:CY K (fun xs H Q=>(∃i,xs=[.int i]/\Q (.int i) H)\/∃k,xs=[.bl k]/\Q (.int (if k then 1 else 0)) H) Jc:=by
 intro HF H ds vs d Q sm r hg q
 unfold Jc at hg
 split at hg
 ·cases hg
  obtain⟨v,r',rfl,a,b⟩:=r.cons_inv
  rw[b.nil_inv]
  simp only[Rep] at a
  subst a
  exact .inl ⟨_,rfl,q _ H HF (.refl sm) (by simp[Rep])⟩
 ·cases hg
  obtain⟨v,r',rfl,a,b⟩:=r.cons_inv
  rw[b.nil_inv]
  simp only[Rep] at a
  subst a
  exact .inr ⟨_,rfl,q _ H HF (.refl sm) (by simp[Rep])⟩
 ·cases hg
theorem Fp{e:Expr}{fs:Env->Option (List D)}{p pos:Pos}(B:nU X "int" (.type "int"))(ha:DA X [e] fs)(he:starEach [e] X.env=(false,eval e X.env)::starEach [] X.env:=by rfl):DE X (.Call (.Name "int" p) [e] [] pos) (bf Jc fs) :=
 sV De IZ B ha (by decide) (by decide) he rfl
noncomputable def E4(i j k l:Nat):ak->D->Option ak:=fun ρ d=>match d with
 | .tuple [x,.tuple [a,b,c]]=>some ((((ρ.set i (.val x)).set j (.val a)).set k (.val b)).set l (.val c))
 | _=>none
variable {HF₀ H₀:Hp}
theorem Kq(i j k l:Nat){x y z w:Str}{px py pz pw p2 pos:Pos}{m n:Nat}(hc:X.calm=true)(hN:X.N.Nodup)(hi:X.N[i]?=some x)(hx:Loc X.env.scope x)(hj:X.N[j]?=some y)(hy:Loc X.env.scope y)(hk:X.N[k]?=some z)(hz:Loc X.env.scope z)(hl:X.N[l]?=some w)(hw:Loc X.env.scope w)
  (f1:X.fn x=true\/X.env.scope.names.lookup x=some .local) (f2:X.fn y=true\/X.env.scope.names.lookup y=some .local) (f3:X.fn z=true\/X.env.scope.names.lookup z=some .local) (f4:X.fn w=true\/X.env.scope.names.lookup w=some .local) :
  Ny X HF₀ H₀ (.Tuple [.Name x px,.Tuple [.Name y py,.Name z pz,.Name w pw] m p2] n pos) (E4 i j k l) :=
 nB (qc hc (cH (dm hN hi hx f1) (cH (qc hc (cH (dm hN hj hy f2) (cH (dm hN hk hz f3) (cH (dm hN hl hw f4) ml)))) ml))) fun v σ H Q ⟨HF,ρ,d,ρ',S,r,hf,q⟩=>by
  unfold E4 at hf
  split at hf
  ·cases hf
   simp only[Rep] at r
   obtain⟨a,vs,rfl,hs,rr⟩:=r
   obtain⟨v1,r1,rfl,a1,b1⟩:=rr.cons_inv
   obtain⟨v2,r2,rfl,a2,b2⟩:=b1.cons_inv
   rw[b2.nil_inv] at hs
   simp only[Rep] at a2
   obtain⟨a',vs',rfl,hs',rr'⟩:=a2
   obtain⟨v3,r3,rfl,a3,b3⟩:=rr'.cons_inv
   obtain⟨v4,r4,rfl,a4,b4⟩:=b3.cons_inv
   obtain⟨v5,r5,rfl,a5,b5⟩:=b4.cons_inv
   rw[b5.nil_inv] at hs'
   exact⟨a,_,rfl,aB S.gr.fh hs,rfl,v1,_,rfl,_,_,rfl,⟨a',_,rfl,aB S.gr.fh hs',rfl,v3,_,rfl,v4,_,rfl,v5,_,rfl,rfl,rfl,q _ ((((S.setV a1).setV a3).setV a4).setV a5)⟩⟩
  ·cases hf
end
section
variable {X:Cx}{e:Expr}{es:List Expr}{fs:Env->Option (List D)}{pos p:Pos}
noncomputable def LA:List D->Option D
 | [.int a,.int b]=>some (.int (max a b))
 | _=>none
theorem DR(hc:X.calm=true):eA X (.builtin "max") (fun xs H Q=>∃a b:Int,xs=[.int a,.int b]/\Q (.int (max a b)) H):=by
 intro pins s σ H xs us Q I r h
 have hh:X.A.handled=none:=I.ok.hd hc
 obtain⟨a,b,rfl,q⟩:=h
 cases r with
 | cons r1 r =>
  cases r with
  | cons r2 r =>
   cases r
   obtain⟨t,rfl⟩:=r1
   obtain⟨u,rfl⟩:=r2
   refine max_two_ints hh fun h' tk kp=>⟨.int (max a b),H,I.kept (t':=tk) kp,?_,q⟩
   by_cases h:b > a
   ·rw[if_pos h,show max a b=b by omega];exact⟨_,rfl⟩
   ·rw[if_neg h,show max a b=a by omega];exact⟨_,rfl⟩
theorem LF(hc:X.calm=true)(B:nU X "max" (.builtin "max"))(he:starEach (e::es) X.env=(false,eval e X.env)::starEach es X.env)(hpl:(backTo pos (starEach es X.env)).any (·.1)=false)(ha:DA X (e::es) fs):DE X (.Call (.Name "max" p) (e::es) [] pos) (bf LA fs) :=
 iM (DR hc) (by
  intro HF H ds vs d Q sm r hg q
  unfold LA at hg
  split at hg
  ·cases hg
   obtain⟨v1,r1,rfl,a1,b1⟩:=r.cons_inv
   obtain⟨v2,r2,rfl,a2,b2⟩:=b1.cons_inv
   rw[b2.nil_inv]
   simp only[Rep] at a1 a2
   exact⟨_,_,by rw[a1,a2],q _ H HF (.refl sm) (by simp[Rep])⟩
  ·cases hg) B ha (by decide) (by decide) he hpl
end
end Dl
namespace Rf
open PySem L2 Dl PySem.Spec PyProof.Rows
structure Tr where
 e:Expr->Option (Dl.Env->Option D)
 f:Expr->Option (Dl.Env->Option (List D))
 t:Expr->Option (Dl.Env->Option Bool)
structure Sg where
 fn:List (Str×Nat×(List D->Option D))
 int:List (Str×Int)
noncomputable abbrev FE:=Dl.Env->Option D
noncomputable def Af(G:Sg)(sc:Scope)(N:List Str)(x:Str):Option FE:=match N.idxOf? x with
 | some i=>if B2 N sc i x=true then some (ab i) else none
 | none=>if (AC sc x&&!(x == ("__debug__":Str)))=true then (G.int.lookup x).map fun n=>fC (.int n) else none
noncomputable def Bw:Const->Option FE
 | .int i=>some (fC (.int i))
 | .bool b=>some (fC (.bool b))
 | .none=>some (fC .none)
 | .str x=>some (fC (.str x))
 | _=>none
noncomputable def MK(T:Tr)(op:UnaryOp)(a:Expr):Option FE:=match op with
 | .Not=>(T.e a).map u0
 | .USub=>(T.e a).map (f1 Nz)
 | _=>none
noncomputable def N2:Operator->Option (D->D->Option D)
 | .Add=>some aM
 | .Sub=>some Dl.iw
 | .Mult=>some eQ
 | .FloorDiv=>some md
 | .Mod=>some kX
 | _=>none
noncomputable def JV:Expr->Bool
 | .List ..=>true
 | .ListComp ..=>true
 | _=>false
noncomputable def A1:Expr->Bool
 | .List ..=>true
 | .ListComp ..=>true
 | .BinOp a .Mult _ _=>JV a
 | .BinOp a .Add b _=>A1 a||A1 b
 | .Call (.Name x _) _ _ _=>x == ("sorted":Str)||x == ("list":Str)
 | _=>false
noncomputable def FS(T:Tr)(whole a:Expr)(op:Operator)(b:Expr):Option FE :=
 if A1 whole=true then (T.f whole).map bZ else (N2 op).bind fun g=>(T.e a).bind fun x=>(T.e b).map fun y=>f2 g x y
noncomputable def ug(T:Tr)(op:BoolOp):List Expr->Option FE
 | []=>none
 | [a]=>T.e a
 | a::b::r=>(T.e a).bind fun x=>(ug T op (b::r)).map fun y=>match op with|.And=>iO x y|.Or=>OM x y
noncomputable def ML:CmpOp->Option (D->D->Option D)
 | .Lt=>some xb
 | .LtE=>some tq
 | .Gt=>some Dq
 | .GtE=>some N4
 | .Eq=>some cf
 | .NotEq=>some dg
 | .In=>some K4
 | .Is=>some mi
 | .IsNot=>some mK
 | _=>none
noncomputable def Ot:CmpOp->Option (D->D->Option D)
 | .Lt=>some xb
 | .LtE=>some tq
 | _=>none
noncomputable def AW(T:Tr)(a:Expr)(ops:List CmpOp)(cs:List Expr):Option FE:=match ops,cs with
 | [op],[b]=>if behindInMarks op b=false then (ML op).bind fun g=>(T.e a).bind fun x=>(T.e b).map fun y=>f2 g x y else none
 | [op,op'],[b,c]=>if lastMarks [op,op'] [b,c]=false then (Ot op).bind fun g=>(Ot op').bind fun g'=>(T.e a).bind fun x=>(T.e b).bind fun y=>(T.e c).map fun z=>gw g g' x y z else none
 | _,_=>none
noncomputable def sE(T:Tr):List Expr->Option (Dl.Env->Option (List D))
 | []=>some ae
 | e::es=>if isStar e=false then (T.e e).bind fun x=>(sE T es).map fun r=>aa x r else none
noncomputable def Oq(T:Tr):Option Expr->Option (Dl.Env->Option (Option Int))
 | none=>some j1
 | some e=>(T.e e).map wt
noncomputable def Fv:Expr->Bool
 | .Slice ..=>true
 | .Tuple ..=>true
 | .Starred ..=>true
 | _=>false
noncomputable def lW:Expr->Bool
 | .UnaryOp .USub (.Constant (.int 1) _ _) _=>true
 | _=>false
noncomputable def Dy:Expr->Bool
 | .Constant (.int 1) _ _=>true
 | _=>false
noncomputable def E1(T:Tr)(a b:Expr):Option FE:=match b with
 | .Slice lo hi none _=>(T.e a).bind fun x=>(Oq T lo).bind fun l=>(Oq T hi).map fun h=>kb fA x l h
 | .Slice none none (some s) _=>if lW s=true then (T.e a).map fun x=>f1 Ni x else none
 | .Slice (some l) none (some s) _=>if (Dy l&&lW s)=true then (T.e a).map fun x=>f1 FI x else none
 | _=>if Fv b=false then (T.e a).bind fun x=>(T.e b).map fun y=>f2 av x y else none
noncomputable def Fj:List D->Option D:=fun ds=>(oneOf ds).bind fun d=>match d with
 | .list es=>(boolsOf es).map fun bs=>.bool (bs.any id)
 | _=>none
noncomputable def mS:Expr->Option Expr
 | .Call (.Name x _) [e] [] _=>if x="set" then some e else none
 | _=>none
noncomputable def K5(x:Str):Option String:=if x="int" then some "int" else if x="bool" then some "bool" else if x="tuple" then some "tuple" else if x="list" then some "list" else none
noncomputable def Aw(T:Tr)(x:Str)(args:List Expr):Option FE :=
 if x="int" then (if args.length=1 then (sE T args).map fun fs=>bf Jc fs else none)
 else if x="max" then (if args.isEmpty=true then none else (sE T args).map fun fs=>bf LA fs)
 else none
noncomputable def zk(G:Sg)(sc:Scope)(T:Tr)(whole:Expr)(x:Str)(args:List Expr):Option FE :=
 if (AC sc x&&args.all fun e=>!isStar e)=true then
  match G.fn.lookup x with
  | some (n,m)=>if (args.isEmpty||x == ("__debug__":Str))=true then none else (sE T args).map fun fs=>ah n m fs
  | none =>
   if x="len" then (match args with
    | [e]=>(match mS e with
     | some e'=>if (AC sc "set"&&!isStar e')=true then (T.e e').map fun y=>f1 kU y else none
     | none=>(sE T args).map fun fs=>bf bq fs)
    | _=>none)
   else if x="isinstance" then (match args with
    | [e,.Name y _]=>if AC sc y=true then (K5 y).bind fun ty=>(T.e e).map fun z=>GB ty z else none
    | _=>none)
   else if x="tuple" then (if args.length=1 then (sE T args).map fun fs=>bf bQ fs else none)
   else if x="all" then (if args.length=1 then (sE T args).map fun fs=>bf jo fs else none)
   else if x="any" then (if args.length=1 then (sE T args).map fun fs=>bf Fj fs else none)
   else if x="sum" then (if args.length=1 then (sE T args).map fun fs=>bf Cw fs else none)
   else if x="min" then (if args.isEmpty=true then none else (sE T args).map fun fs=>bf xW fs)
   else if (x == ("list":Str)||x == ("sorted":Str))=true then (T.f whole).map bZ
   else Aw T x args
 else none
noncomputable def Az:Expr->Bool
 | .Call ..=>true
 | _=>false
noncomputable def LU:Expr->Bool
 | .Tuple ..=>true
 | _=>false
noncomputable def Al(T:Tr)(o:Expr)(m:Str)(apos:Pos)(args:List Expr)(cpos:Pos):Option FE :=
 if (m == ("index":Str)&&apos.endLine == cpos.line&&!Az o)=true then (match args with
  | [e]=>if isStar e=false then (T.e o).bind fun x=>(T.e e).map fun y=>if LU e=true then f2 LV x y else f2 oC x y else none
  | _=>none)
 else none
noncomputable def Fu(G:Sg)(sc:Scope)(N:List Str)(T:Tr)(whole:Expr):Option FE:=match whole with
 | .Name x _=>Af G sc N x
 | .Constant c _ _=>Bw c
 | .UnaryOp op a _=>MK T op a
 | .BinOp a op b _=>FS T whole a op b
 | .BoolOp op es _=>ug T op es
 | .Compare a ops cs _=>AW T a ops cs
 | .IfExp c a b _=>(T.t c).bind fun z=>(T.e a).bind fun x=>(T.e b).map fun y=>OS z x y
 | .Tuple es _ _=>(sE T es).map aS
 | .Subscript a b _=>E1 T a b
 | .List ..=>(T.f whole).map bZ
 | .ListComp ..=>(T.f whole).map bZ
 | .Call (.Name x _) args [] _=>zk G sc T whole x args
 | .Call (.Name _ _) _ (_::_) _=>(T.f whole).map bZ
 | .Call (.Attribute o m apos) args [] cpos=>Al T o m apos args cpos
 | _=>none
noncomputable def NJ(T:Tr)(op:BoolOp):List Expr->Option (Dl.Env->Option Bool)
 | []=>none
 | [a]=>T.t a
 | a::b::r=>(T.t a).bind fun x=>(NJ T op (b::r)).map fun y=>match op with|.And=>fS x y|.Or=>iD x y
noncomputable def Eb:Expr->Bool
 | .Name ..=>true
 | .Call ..=>true
 | .Subscript ..=>true
 | _=>false
noncomputable def stepT(T:Tr)(whole:Expr):Option (Dl.Env->Option Bool):=match whole with
 | .Compare a ops cs _=>(AW T a ops cs).map fB
 | .UnaryOp .Not a _=>(T.t a).map aX
 | .BoolOp op es _=>NJ T op es
 | _=>if Eb whole=true then (T.e whole).map fB else none
noncomputable def vL:Expr->Bool
 | .Tuple ..=>true
 | _=>false
noncomputable def NP(sc:Scope)(T:Tr)(tg iter:Expr):Option (Dl.Env->Option (List D)):=match iter with
 | .Call (.Name x _) args [] _ =>
  if x="range" then (match args with|[e]=>if (AC sc "range"&&!isStar e)=true then (sE T args).map bF else none|_=>none)
  else if x="enumerate" then (match args with|[e]=>if (AC sc "enumerate"&&!isStar e&&vL tg)=true then (sE T args).map bV else none|_=>none)
  else if x="zip" then (match args with|[e,e']=>if (AC sc "zip"&&!isStar e&&!isStar e'&&vL tg)=true then (sE T args).map gh else none|_=>none)
  else (T.e iter).map aR
 | .Set ..=>none
 | _=>(T.e iter).map aR
noncomputable def NU:Expr->Option (List Str)
 | .Name x _=>some [x]
 | .Tuple [.Name x _,.Name y _] _ _=>some [x,y]
 | _=>none
noncomputable def Oz:Expr->Option (List Str)
 | .Tuple [.Name x _,.Name y _,.Name z _] _ _=>some [x,y,z]
 | tg=>NU tg
noncomputable def fP(N:List Str)(scope:Scope):List Nat:=(List.range N.length).filter fun j=>match N[j]? with|some x=>decide (scope.names.lookup x=some .free)|none=>false
noncomputable def Lk:Expr->Bool
 | .Set ..=>false
 | _=>true
noncomputable def JT(B:Tr)(ifs:List Expr):Option (Dl.Env->Option Bool):=match ifs with
 | []=>some fun _=>some true
 | [c]=>B.t c
 | _=>none
noncomputable def ud(sc:Scope)(N:List Str)(T:Tr)(blk:Scope->List Str->Tr)(elt:Expr)(gens:List Comprehension)(scope:Scope):Option (Dl.Env->Option (List D)):=match gens with
 | [⟨tg,iter,ifs,as⟩] =>
  if as=0 then (Oz tg).bind fun xs =>
   if (ji sc scope N (xs++(fP N scope).filterMap fun j=>N[j]?) xs.length (fP N scope)&&(List.range xs.length).all fun i=>qE (xs++(fP N scope).filterMap fun j=>N[j]?) scope i (xs.getD i ""))=true then
    (NP sc T tg iter).bind fun fi=>(JT (blk scope (xs++(fP N scope).filterMap fun j=>N[j]?)) ifs).bind fun tt =>
     ((blk scope (xs++(fP N scope).filterMap fun j=>N[j]?)).e elt).map fun te=>ao xs.length (fP N scope) fi (match xs with|[_]=>fG 0|[_,_]=>gN 0 1|_=>Gy 0 1 2) tt te
   else none
  else none
 | _=>none
noncomputable def AI:Arguments->Option Str
 | ⟨[],[⟨x,none,_⟩],none,[],[],none,[]⟩=>if x="number" then some x else if x="plan" then some x else none
 | _=>none
noncomputable def vq(lam:Option Str)(sc:Scope)(N:List Str)(T:Tr)(lmb:Scope->List Str->Tr)(l:Expr)(params:Arguments)(body:Expr)(scope:Scope):Option (Dl.Env->Option (List D)) :=
 if (lam.isSome&&AC sc "sorted"&&!isStar l)=true then
  (AI params).bind fun p =>
   if (ji sc scope N (p::(fP N scope).filterMap fun j=>N[j]?) 1 (fP N scope)&&n9 scope (p::(fP N scope).filterMap fun j=>N[j]?) p)=true then
    (T.e l).bind fun fl=>((lmb scope (p::(fP N scope).filterMap fun j=>N[j]?)).e body).map fun te=>nO (fP N scope) fl te
   else none
 else none
noncomputable def uK(lam:Option Str)(sc:Scope)(N:List Str)(T:Tr)(lmb:Scope->List Str->Tr)(l:Expr)(params:Arguments)(body:Expr)(scope:Scope):Option (Dl.Env->Option (List D)):=match l with
 | .Call (.Name r _) [e] [] _ =>
  if (lam.isSome&&AC sc "sorted"&&r == ("range":Str)&&AC sc "range"&&!isStar e)=true then
   (AI params).bind fun p =>
    if (ji sc scope N (p::(fP N scope).filterMap fun j=>N[j]?) 1 (fP N scope)&&n9 scope (p::(fP N scope).filterMap fun j=>N[j]?) p)=true then
     (sE T [e]).bind fun fs=>((lmb scope (p::(fP N scope).filterMap fun j=>N[j]?)).e body).map fun te=>pQ (fP N scope) fs te
    else none
  else none
 | _=>none
noncomputable def Bx(lam:Option Str)(sc:Scope)(N:List Str)(T:Tr)(blk lmb:Scope->List Str->Tr)(whole:Expr):Option (Dl.Env->Option (List D)):=match whole with
 | .List es _=>(sE T es).map cG
 | .ListComp elt gens scope _=>ud sc N T blk elt gens scope
 | .BinOp a .Mult b _=>if JV a=true then (T.f a).bind fun x=>(T.e b).map fun y=>JR x y else none
 | .BinOp a .Add b _=>(T.e a).bind fun x=>(T.e b).map fun y=>OV sN x y
 | .Call (.Name x _) [l] [⟨some ky,.Lambda params body scope _,_⟩] _=>if (x == ("sorted":Str)&&ky == ("key":Str))=true then (match vq lam sc N T lmb l params body scope with|some f=>some f|none=>uK lam sc N T lmb l params body scope) else none
 | .Call (.Name x _) [e] [] _ =>
  if (AC sc x&&!isStar e)=true then
   if x="list" then (sE T [e]).map fun fs=>mV dO fs
   else if x="sorted" then (sE T [e]).map fun fs=>mV gH fs
   else none
  else none
 | _=>none
noncomputable def tr(G:Sg):Nat->Option Str->Scope->List Str->Tr
 | 0,_,_,_=>⟨fun _=>none,fun _=>none,fun _=>none⟩
 | n+1,lam,sc,N=>⟨Fu G sc N (tr G n lam sc N),Bx lam sc N (tr G n lam sc N) (tr G n none) (tr G n none),stepT (tr G n lam sc N)⟩
structure MV(G:Sg)(X:Cx)(j:Nat):Prop where
 fn:∀x n m,G.fn.lookup x=some (n,m)->dw X.prog X.w X.K X.mg X.base j x n m
 int:∀x i,G.int.lookup x=some i->∃t,X.mg x=some (.int i t)
 bn:Bn X
structure pL(X:Cx)(tg iter:Expr)(ifs:List Expr)(elt:Expr)(scope:Scope)(f:Dl.Env->Option (List D)):Prop where
 ex:∃ (N':List Str) (t:Nat) (cs:List Nat) (fi:Dl.Env->Option (List D)) (tgt:Dl.Env->D->Option Dl.Env) (tt:Dl.Env->Option Bool) (te:FE),f=ao t cs fi tgt tt te/\i6 X scope N' (j8 t cs)/\DI X tg iter fi/\(∀x,foldedSetIterable iter X.env x=pure x) /\
  ∀fp s H,DG (aY X scope N' fp s H) tg tgt/\MW (aY X scope N' fp s H) ifs tt/\DE (aY X scope N' fp s H) elt te
structure d5(X:Cx)(T:Tr):Prop where
 c:∀elt gens scope p f,T.f (.ListComp elt gens scope p)=some f->∃tg iter ifs,gens=[⟨tg,iter,ifs,0⟩]/\pL X tg iter ifs elt scope f
 e:∀e f,T.e e=some f->DE X e f
 f:∀e f,T.f e=some f->DF X e f
 t:∀e f,T.t e=some f->DT X e f
section
variable {G:Sg}{X:Cx}{N:List Str}{sc:Scope}{k j:Nat}{T:Tr}{pos p:Pos}
theorem BL(C:Bk X N sc k)(g:MV G X j){x:Str}{f:FE}(h:Af G sc N x=some f):DE X (.Name x pos) f:=by
 unfold Af at h
 split at h
 ·split at h
  ·cases h;exact C.v _ ‹_›
  ·cases h
 ·split at h
  ·rename_i hg
   obtain⟨n,hn,rfl⟩:=ag h
   obtain⟨t,ht⟩:=g.int x n hn
   simp only[zF,Bool.not_eq_true'] at hg
   exact ID (C.gl hg.1) ht hg.2
  ·cases h
theorem yQ{c:Const}{i:Nat}{f:FE}(h:Bw c=some f):DE X (.Constant c i pos) f:=by
 cases c<;>cases h<;>first|exact J3|exact MJ|exact LL|exact LR
theorem Ic(C:Bk X N sc k)(O:d5 X T){op:UnaryOp}{a:Expr}{f:FE}(h:MK T op a=some f):DE X (.UnaryOp op a pos) f:=by
 cases op<;>try cases h
 ·obtain⟨x,hx,rfl⟩:=ag h;exact L4 (O.e _ _ hx)
 ·obtain⟨x,hx,rfl⟩:=ag h;exact C.neg (O.e _ _ hx)
theorem FJ(C:Bk X N sc k)(O:d5 X T){op:Operator}{a b:Expr}{f:FE}(h:FS T (.BinOp a op b pos) a op b=some f):DE X (.BinOp a op b pos) f:=by
 unfold FS at h
 split at h
 ·obtain⟨x,hx,rfl⟩:=ag h;exact DF.de (O.f _ _ hx)
 ·obtain⟨g,hg,h⟩:=bs h
  obtain⟨x,hx,h⟩:=bs h
  obtain⟨y,hy,rfl⟩:=ag h
  cases op<;>cases hg
  ·exact C.add (O.e _ _ hx) (O.e _ _ hy)
  ·exact C.sub (O.e _ _ hx) (O.e _ _ hy)
  ·exact C.mul (O.e _ _ hx) (O.e _ _ hy)
  ·exact C.mod (O.e _ _ hx) (O.e _ _ hy)
  ·exact C.div (O.e _ _ hx) (O.e _ _ hy)
theorem tE(O:d5 X T){op:BoolOp}:∀ {es:List Expr}{f:FE},ug T op es=some f->DE X (.BoolOp op es pos) f
 | [],f,h=>by cases h
 | [a],f,h=>L5 (O.e _ _ h)
 | a::b::r,f,h=>by
  unfold ug at h
  obtain⟨x,hx,h⟩:=bs h
  obtain⟨y,hy,rfl⟩:=ag h
  have ih:=tE O hy
  cases op with
  | And=>exact KJ (O.e _ _ hx) ih
  | Or=>exact Nf (O.e _ _ hx) ih
theorem Km(C:Bk X N sc k){op:CmpOp}{a b:Expr}{g:D->D->Option D}{x y:FE}(hg:ML op=some g)(hm:behindInMarks op b=false)(ha:DE X a x)(hb:DE X b y):DE X (.Compare a [op] [b] pos) (f2 g x y)/\DT X (.Compare a [op] [b] pos) (fB (f2 g x y)):=by
 cases op<;>cases hg
 ·exact⟨C.eq ha hb,C.teq ha hb⟩
 ·exact⟨C.ne ha hb,C.tne ha hb⟩
 ·exact⟨C.lt ha hb,C.tlt ha hb⟩
 ·exact⟨C.le ha hb,C.tle ha hb⟩
 ·exact⟨C.gt ha hb,C.tgt ha hb⟩
 ·exact⟨C.ge ha hb,C.tge ha hb⟩
 ·exact⟨C.is0 ha hb,C.tis0 ha hb⟩
 ·exact⟨C.not0 ha hb,C.tnot0 ha hb⟩
 ·exact⟨C.isin ha hb hm,C.tin ha hb hm⟩
theorem JH{op:CmpOp}{g:D->D->Option D}(h:Ot op=some g):∃r,iz X (compareOp op) r/\fY X.K r g:=by
 cases op<;>cases h
 ·exact⟨_,Ei,ij⟩
 ·exact⟨_,Gv,ij⟩
theorem xZ(C:Bk X N sc k)(O:d5 X T){a:Expr}{ops:List CmpOp}{cs:List Expr}{f:FE}(h:AW T a ops cs=some f):DE X (.Compare a ops cs pos) f/\DT X (.Compare a ops cs pos) (fB f):=by
 unfold AW at h
 split at h
 ·split at h
  ·rename_i hm
   obtain⟨g,hg,h⟩:=bs h
   obtain⟨x,hx,h⟩:=bs h
   obtain⟨y,hy,rfl⟩:=ag h
   exact Km C hg hm (O.e _ _ hx) (O.e _ _ hy)
  ·cases h
 ·split at h
  ·rename_i hm
   obtain⟨g,hg,h⟩:=bs h
   obtain⟨g',hg',h⟩:=bs h
   obtain⟨x,hx,h⟩:=bs h
   obtain⟨y,hy,h⟩:=bs h
   obtain⟨z,hz,rfl⟩:=ag h
   obtain⟨r,r1,r2⟩:=JH (X:=X) hg
   obtain⟨r',r1',r2'⟩:=JH (X:=X) hg'
   exact⟨ED r1 r2 r1' r2' (O.e _ _ hx) (O.e _ _ hy) (O.e _ _ hz) hm,Eg r1 r2 r1' r2' (O.e _ _ hx) (O.e _ _ hy) (O.e _ _ hz) hm⟩
  ·cases h
 ·cases h
theorem cN(O:d5 X T):∀ {es:List Expr}{fs:Dl.Env->Option (List D)},sE T es=some fs->DA X es fs
 | [],fs,h=>by cases h;exact Gs
 | e::es,fs,h=>by
  unfold sE at h
  split at h
  ·rename_i hs
   obtain⟨x,hx,h⟩:=bs h
   obtain⟨r,hr,rfl⟩:=ag h
   exact OC hs (O.e _ _ hx) (cN O hr)
  ·cases h
theorem Fw(O:d5 X T){o:Option Expr}{f:Dl.Env->Option (Option Int)}(h:Oq T o=some f):DO X o f:=by
 cases o with
 | none=>cases h;exact HL
 | some e=>obtain⟨x,hx,rfl⟩:=ag h;exact Il (O.e _ _ hx)
theorem zy{b:Expr}(h:Fv b=false):uD b:=by
 cases b<;>first|(intro _ _;rfl)|cases h
theorem tX{e:Expr}(h:lW e=true):∃j p4 p3,e=.UnaryOp .USub (.Constant (.int 1) j p4) p3:=by
 unfold lW at h
 split at h
 ·exact⟨_,_,_,rfl⟩
 ·cases h
theorem Lb{e:Expr}(h:Dy e=true):∃j p,e=.Constant (.int 1) j p:=by
 unfold Dy at h
 split at h
 ·exact⟨_,_,rfl⟩
 ·cases h
theorem F1(C:Bk X N sc k)(O:d5 X T){a b:Expr}{f:FE}(h:E1 T a b=some f):DE X (.Subscript a b pos) f:=by
 unfold E1 at h
 split at h
 ·obtain⟨x,hx,h⟩:=bs h
  obtain⟨l,hl,h⟩:=bs h
  obtain⟨u,hu,rfl⟩:=ag h
  exact C.cut (O.e _ _ hx) (Fw O hl) (Fw O hu)
 ·split at h
  ·rename_i hm
   obtain⟨x,hx,rfl⟩:=ag h
   obtain⟨_,_,_,rfl⟩:=tX hm
   exact Kk (O.e _ _ hx)
  ·cases h
 ·split at h
  ·rename_i hm
   rw[zF] at hm
   obtain⟨x,hx,rfl⟩:=ag h
   obtain⟨_,_,_,rfl⟩:=tX hm.2
   obtain⟨_,_,rfl⟩:=Lb hm.1
   exact HD (O.e _ _ hx)
  ·cases h
 ·split at h
  ·rename_i hc
   obtain⟨x,hx,h⟩:=bs h
   obtain⟨y,hy,rfl⟩:=ag h
   exact Np (O.e _ _ hx) (O.e _ _ hy) (zy hc)
  ·cases h
theorem dJ{env:PySem.Env}:∀ {es:List Expr},(es.all fun e=>!isStar e)=true->(backTo pos (starEach es env)).any (·.1)=false
 | [],_=>rfl
 | e::es,h=>by
  rw[List.all_cons,zF,Bool.not_eq_true'] at h
  rw[bj h.1]
  show (false||(backTo pos (starEach es env)).any (·.1))=false
  rw[dJ h.2]
  rfl
theorem El{e e':Expr}(h:mS e=some e'):∃p q,e=.Call (.Name "set" p) [e'] [] q:=by
 unfold mS at h
 split at h
 ·split at h
  ·rename_i hx;cases h;subst hx;exact⟨_,_,rfl⟩
  ·cases h
 ·cases h
theorem Jm{y:Str}{ty:String}(h:K5 y=some ty):y∈cY/\bootBuiltins y=some (.type ty)/\y≠"__name__"/\(y == ("__debug__":Str))=false:=by
 unfold K5 at h
 split at h
 ·rename_i e;cases h;subst e;exact⟨by decide +kernel,by decide +kernel,by decide,by decide⟩
 ·split at h
  ·rename_i e;cases h;subst e;exact⟨by decide +kernel,by decide +kernel,by decide,by decide⟩
  ·split at h
   ·rename_i e;cases h;subst e;exact⟨by decide +kernel,by decide +kernel,by decide,by decide⟩
   ·split at h
    ·rename_i e;cases h;subst e;exact⟨by decide +kernel,by decide +kernel,by decide,by decide⟩
    ·cases h
theorem Lu:bootBuiltins "any"=some (.builtin "any"):=by decide +kernel
theorem Kj:bootBuiltins "sum"=some (.builtin "sum"):=by decide +kernel
theorem Kz:bootBuiltins "max"=some (.builtin "max"):=by decide +kernel
theorem Lo:bootBuiltins "min"=some (.builtin "min"):=by decide +kernel
theorem uM{α:Type}{l:List α}(h:l.length=1):∃a,l=[a]:=by
 match l,h with
 | [a],_=>exact⟨a,rfl⟩
theorem CW(C:Bk X N sc k)(g:MV G X j)(O:d5 X T){x:Str}{args:List Expr}{f:FE}(hg:AC sc x=true)(hs:args.all (fun e=>!isStar e)=true)(h:Aw T x args=some f):DE X (.Call (.Name x p) args [] pos) f:=by
 have st1:∀ {e:Expr}{es:List Expr},args=e::es->starEach (e::es) X.env=(false,eval e X.env)::starEach es X.env:=fun {e es} q=>by
  subst q
  rw[List.all_cons,zF,Bool.not_eq_true'] at hs
  exact bj hs.1
 have st2:∀ {e:Expr}{es:List Expr},args=e::es->(backTo pos (starEach es X.env)).any (·.1)=false:=fun {e es} q=>by
  subst q
  rw[List.all_cons,zF] at hs
  exact dJ hs.2
 unfold Aw at h
 split at h
 ·rename_i hx
  subst hx
  split at h
  ·rename_i hl
   obtain⟨fs,hfs,rfl⟩:=ag h
   obtain⟨e,rfl⟩:=uM hl
   exact Fp (C.blt g.bn hg (by decide +kernel) Kp) (cN O hfs) (st1 rfl)
  ·cases h
 ·split at h
  ·rename_i hx
   subst hx
   split at h
   ·cases h
   ·rename_i hl
    obtain⟨fs,hfs,rfl⟩:=ag h
    cases args with
    | nil=>exact absurd rfl hl
    | cons e es=>exact LF C.calm (C.blt g.bn hg (by decide +kernel) Kz) (st1 rfl) (st2 rfl) (cN O hfs)
  ·cases h
theorem Di(C:Bk X N sc k)(g:MV G X j)(hjk:j<=k)(O:d5 X T){x:Str}{args:List Expr}{f:FE}(h:zk G sc T (.Call (.Name x p) args [] pos) x args=some f):DE X (.Call (.Name x p) args [] pos) f:=by
 unfold zk at h
 split at h
 ·rename_i hg
  rw[zF] at hg
  obtain⟨hg,hs⟩:=hg
  have st1:∀ {e:Expr}{es:List Expr},args=e::es->starEach (e::es) X.env=(false,eval e X.env)::starEach es X.env:=fun {e es} q=>by
   subst q
   rw[List.all_cons,zF,Bool.not_eq_true'] at hs
   exact bj hs.1
  have st2:∀ {e:Expr}{es:List Expr},args=e::es->(backTo pos (starEach es X.env)).any (·.1)=false:=fun {e es} q=>by
   subst q
   rw[List.all_cons,zF] at hs
   exact dJ hs.2
  split at h
  ·rename_i n m hfn
   split at h
   ·cases h
   ·rename_i hne
    obtain⟨fs,hfs,rfl⟩:=ag h
    cases args with
    | nil=>exact absurd (by simp) hne
    | cons e es =>
     have hd:(x == ("__debug__":Str))=false:=by simpa using hne
     exact Jd (g.fn x n m hfn) (C.room.mono hjk) (C.gl hg) (cN O hfs) hd (st1 rfl) (st2 rfl)
  ·split at h
   ·rename_i hx
    subst hx
    split at h
    ·rename_i e
     split at h
     ·rename_i e' he'
      split at h
      ·rename_i hg2
       rw[zF,Bool.not_eq_true'] at hg2
       obtain⟨y,hy,rfl⟩:=ag h
       obtain⟨p1,p2,rfl⟩:=El he'
       exact B0 C.calm (C.blt g.bn hg (by decide +kernel) EB) (C.blt g.bn hg2.1 (by decide +kernel) L0) (O.e _ _ hy) (bj hg2.2)
      ·cases h
     ·obtain⟨fs,hfs,rfl⟩:=ag h
      exact K3 (C.blt g.bn hg (by decide +kernel) EB) (cN O hfs) (st1 rfl)
    ·cases h
   ·split at h
    ·rename_i hx
     subst hx
     split at h
     ·rename_i e y py
      split at h
      ·rename_i hgy
       obtain⟨ty,hty,h⟩:=bs h
       obtain⟨z,hz,rfl⟩:=ag h
       obtain⟨t1,t2,t3,t4⟩:=Jm hty
       exact MP (C.blt g.bn hg (by decide +kernel) su) (C.blt g.bn hgy t1 t2) (O.e _ _ hz) t3 t4 (st1 rfl)
      ·cases h
     ·cases h
    ·split at h
     ·rename_i hx
      subst hx
      split at h
      ·rename_i hl
       obtain⟨fs,hfs,rfl⟩:=ag h
       obtain⟨e,rfl⟩:=uM hl
       exact D2 (C.blt g.bn hg (by decide +kernel) DV) (cN O hfs) (st1 rfl)
      ·cases h
     ·split at h
      ·rename_i hx
       subst hx
       split at h
       ·rename_i hl
        obtain⟨fs,hfs,rfl⟩:=ag h
        obtain⟨e,rfl⟩:=uM hl
        exact Ll C.calm (C.blt g.bn hg (by decide +kernel) Lh) (cN O hfs) (st1 rfl)
       ·cases h
      ·split at h
       ·rename_i hx
        subst hx
        split at h
        ·rename_i hl
         obtain⟨fs,hfs,rfl⟩:=ag h
         obtain⟨e,rfl⟩:=uM hl
         exact Lg C.calm (C.blt g.bn hg (by decide +kernel) Lu) (st1 rfl) (cN O hfs)
        ·cases h
       ·split at h
        ·rename_i hx
         subst hx
         split at h
         ·rename_i hl
          obtain⟨fs,hfs,rfl⟩:=ag h
          obtain⟨e,rfl⟩:=uM hl
          exact KS C.calm (C.blt g.bn hg (by decide +kernel) Kj) (st1 rfl) (cN O hfs)
         ·cases h
        ·split at h
         ·rename_i hx
          subst hx
          split at h
          ·cases h
          ·rename_i hl
           obtain⟨fs,hfs,rfl⟩:=ag h
           cases args with
           | nil=>exact absurd rfl hl
           | cons e es=>exact J2 C.calm (C.blt g.bn hg (by decide +kernel) Lo) (st1 rfl) (st2 rfl) (cN O hfs)
         ·split at h
          ·obtain⟨y,hy,rfl⟩:=ag h
           exact DF.de (O.f _ _ hy)
          ·exact CW C g O hg hs h
 ·cases h
end
section
variable {G:Sg}{X:Cx}{N:List Str}{sc:Scope}{k j:Nat}{T:Tr}{pos p:Pos}
theorem M7{env:PySem.Env}{e:Expr}{cpos:Pos}(h:isStar e=false):((backTo cpos (starEach [e] env)).all (fun x=>!x.1)&&(backToKw cpos (keywordEach [] env)).all (fun x=>x.1.isSome)&&decide ([e].length+([]:List Keyword).length+(if ([]:List Keyword).isEmpty then 0 else 1) < 30))=true:=by
 rw[bj h];rfl
theorem kF{o:Expr}{a:Str}{env:PySem.Env}{w:Sem Value}(h:Az o=false):attributeBase o a env w=w:=by
 cases o<;>first|rfl|cases h
theorem CD(C:Bk X N sc k)(O:d5 X T){o:Expr}{m:Str}{apos cpos:Pos}{args:List Expr}{f:FE}(h:Al T o m apos args cpos=some f):DE X (.Call (.Attribute o m apos) args [] cpos) f:=by
 unfold Al at h
 split at h
 ·rename_i hm
  rw[zF,zF,Bool.not_eq_true'] at hm
  obtain⟨⟨hm1,hm⟩,hcl⟩:=hm
  have e1:m="index":=eq_of_beq hm1
  subst e1
  split at h
  ·rename_i e
   split at h
   ·rename_i hs
    obtain⟨x,hx,h⟩:=bs h
    obtain⟨y,hy,rfl⟩:=ag h
    split
    ·exact Cb C.u66 (kF hcl) (M7 hs) hm (bj hs) (O.e _ _ hx) (O.e _ _ hy)
    ·exact CS (kF hcl) (M7 hs) hm (bj hs) (O.e _ _ hx) (O.e _ _ hy)
   ·cases h
  ·cases h
 ·cases h
theorem Gh(C:Bk X N sc k)(g:MV G X j)(hjk:j<=k)(O:d5 X T){e:Expr}{f:FE}(h:Fu G sc N T e=some f):DE X e f:=by
 unfold Fu at h
 split at h
 ·exact BL C g h
 ·exact yQ h
 ·exact Ic C O h
 ·exact FJ C O h
 ·exact tE O h
 ·exact (xZ C O h).1
 ·obtain⟨z,hz,h⟩:=bs h
  obtain⟨x,hx,h⟩:=bs h
  obtain⟨y,hy,rfl⟩:=ag h
  exact Nd (O.t _ _ hz) (O.e _ _ hx) (O.e _ _ hy)
 ·obtain⟨x,hx,rfl⟩:=ag h;exact JW (cN O hx)
 ·exact F1 C O h
 ·obtain⟨x,hx,rfl⟩:=ag h;exact DF.de (O.f _ _ hx)
 ·obtain⟨x,hx,rfl⟩:=ag h;exact DF.de (O.f _ _ hx)
 ·exact Di C g hjk O h
 ·obtain⟨x,hx,rfl⟩:=ag h;exact DF.de (O.f _ _ hx)
 ·exact CD C O h
 ·cases h
theorem Ex(O:d5 X T){op:BoolOp}:∀ {es:List Expr}{f:Dl.Env->Option Bool},NJ T op es=some f->DW X (.BoolOp op es pos) f
 | [],f,h=>by cases h
 | [a],f,h=>by
  cases op with
  | And=>exact HK (O.t _ _ h)
  | Or=>exact LS (O.t _ _ h)
 | a::b::r,f,h=>by
  unfold NJ at h
  obtain⟨x,hx,h⟩:=bs h
  obtain⟨y,hy,rfl⟩:=ag h
  have ih:=Ex O hy
  cases op with
  | And=>exact Me (O.t _ _ hx) ih
  | Or=>exact Mx (O.t _ _ hx) ih
theorem FA(C:Bk X N sc k)(O:d5 X T){e:Expr}{f:Dl.Env->Option Bool}(h:stepT T e=some f):DT X e f:=by
 unfold stepT at h
 split at h
 ·obtain⟨x,hx,rfl⟩:=ag h;exact (xZ C O hx).2
 ·obtain⟨x,hx,rfl⟩:=ag h;exact LJ (O.t _ _ hx)
 ·exact DW.dt (Ex O h)
 ·split at h
  ·rename_i hp
   obtain⟨x,hx,rfl⟩:=ag h
   refine Ly (O.e _ _ hx) ?_
   revert hp
   cases e<;>first|(intro hp;cases hp;done)|(intro hp _;rfl)
  ·cases h
theorem J0{e:Expr}{env:PySem.Env}(h:Lk e=true):∀x,foldedSetIterable e env x=pure x:=by
 cases e<;>first|(intro _;rfl)|cases h
theorem DK(C:Bk X N sc k)(B:Bn X)(O:d5 X T){tg iter:Expr}{fi:Dl.Env->Option (List D)}(h:NP sc T tg iter=some fi):DI X tg iter fi/\∀x,foldedSetIterable iter X.env x=pure x:=by
 unfold NP at h
 split at h
 ·refine⟨?_,fun _=>rfl⟩
  split at h
  ·rename_i hx
   subst hx
   split at h
   ·split at h
    ·rename_i hg
     rw[zF,Bool.not_eq_true'] at hg
     obtain⟨x,hx,rfl⟩:=ag h
     exact Ej (C.blt B hg.1 (by decide +kernel) xY) (cN O hx) (bj hg.2)
    ·cases h
   ·cases h
  ·split at h
   ·rename_i hx
    subst hx
    split at h
    ·split at h
     ·rename_i hg
      simp only[zF,Bool.not_eq_true'] at hg
      obtain⟨x,hx,rfl⟩:=ag h
      cases tg<;>first|exact IJ (C.blt B hg.1.1 (by decide +kernel) uB) (cN O hx) (bj hg.1.2)|exact absurd hg.2 (by simp[vL])
     ·cases h
    ·cases h
   ·split at h
    ·rename_i hx
     subst hx
     split at h
     ·split at h
      ·rename_i e e' hg
       simp only[zF,Bool.not_eq_true'] at hg
       obtain⟨x,hx,rfl⟩:=ag h
       cases tg<;>first|exact HN (C.blt B hg.1.1.1 (by decide +kernel) Kd) (bj hg.1.1.2) (dJ (by simp[hg.1.2])) (cN O hx)|exact absurd hg.2 (by simp[vL])
      ·cases h
     ·cases h
    ·obtain⟨x,hx,rfl⟩:=ag h
     exact E6 (O.e _ _ hx)
 ·cases h
 ·rename_i h1 h2
  obtain⟨x,hx,rfl⟩:=ag h
  refine⟨E6 (O.e _ _ hx),J0 ?_⟩
  cases iter<;>first|rfl|exact absurd rfl (h2 _ _ _)
theorem Ls{tg:Expr}{xs:List Str}(h:NU tg=some xs):(∃x px,tg=.Name x px/\xs=[x])\/∃x px y py m pt,tg=.Tuple [.Name x px,.Name y py] m pt/\xs=[x,y]:=by
 unfold NU at h
 split at h
 ·cases h;exact .inl ⟨_,_,rfl,rfl⟩
 ·cases h;exact .inr ⟨_,_,_,_,_,_,rfl,rfl⟩
 ·cases h
theorem J6{tg:Expr}{xs:List Str}(h:Oz tg=some xs):((∃x px,tg=.Name x px/\xs=[x])\/∃x px y py m pt,tg=.Tuple [.Name x px,.Name y py] m pt/\xs=[x,y])\/∃x px y py z pz m pt,tg=.Tuple [.Name x px,.Name y py,.Name z pz] m pt/\xs=[x,y,z]:=by
 unfold Oz at h
 split at h
 ·cases h;exact .inr ⟨_,_,_,_,_,_,_,_,rfl,rfl⟩
 ·exact .inl (Ls h)
theorem tw(C:Bk X N sc k)(B:Bn X)(O:d5 X T){blk:Scope->List Str->Tr}(OB:∀scope N' fp s H,Bk (aY X scope N' fp s H) N' scope k->d5 (aY X scope N' fp s H) (blk scope N')){tg iter elt:Expr}{ifs:List Expr}{as:Int}{scope:Scope}{f:Dl.Env->Option (List D)}
  (h:ud sc N T blk elt [⟨tg,iter,ifs,as⟩] scope=some f):as=0/\pL X tg iter ifs elt scope f:=by
 unfold ud at h
 dsimp only at h
 split at h
 ·rename_i has
  refine⟨has,?_⟩
  obtain⟨xs,hxs,h⟩:=bs h
  split at h
  ·rename_i hok
   rw[zF] at hok
   obtain⟨fi,hfi,h⟩:=bs h
   obtain⟨tt,htt,h⟩:=bs h
   obtain⟨te,hte,rfl⟩:=ag h
   obtain⟨S,CB⟩:=C.comp hok.1
   obtain⟨hd,hfold⟩:=DK C B O hfi
   refine⟨_,_,_,_,_,_,_,rfl,S,hd,hfold,fun fp s H=>?_⟩
   have C1:=CB fp s H
   have O1:=OB scope _ fp s H C1
   refine⟨?_,?_,O1.e _ _ hte⟩
   ·rcases J6 hxs with (⟨x,px,rfl,rfl⟩|⟨x,px,y,py,m,pt,rfl,rfl⟩)|⟨x,px,y,py,z,pz,m,pt,rfl,rfl⟩
    ·have z:=C1.loc (i:=0) (x:=x) (List.all_eq_true.mp hok.2 0 (by simp))
     exact Ik 0 z.1 z.2.1 z.2.2.1 z.2.2.2
    ·have z:=C1.loc (i:=0) (x:=x) (List.all_eq_true.mp hok.2 0 (by simp))
     have w:=C1.loc (i:=1) (x:=y) (List.all_eq_true.mp hok.2 1 (by simp))
     exact KP 0 1 C1.calm z.1 z.2.1 z.2.2.1 w.2.1 w.2.2.1 z.2.2.2 w.2.2.2
    ·have z0:=C1.loc (i:=0) (x:=x) (List.all_eq_true.mp hok.2 0 (by simp))
     have w:=C1.loc (i:=1) (x:=y) (List.all_eq_true.mp hok.2 1 (by simp))
     have u:=C1.loc (i:=2) (x:=z) (List.all_eq_true.mp hok.2 2 (by simp))
     exact F0 0 1 2 C1.calm z0.1 z0.2.1 z0.2.2.1 w.2.1 w.2.2.1 u.2.1 u.2.2.1 z0.2.2.2 w.2.2.2 u.2.2.2
   ·unfold JT at htt
    split at htt
    ·cases htt;exact Jg
    ·exact HQ (O1.t _ _ htt)
    ·cases htt
  ·cases h
 ·cases h
theorem pL.df{tg iter elt:Expr}{ifs:List Expr}{scope:Scope}{f:Dl.Env->Option (List D)}(hc:X.calm=true)(h:pL X tg iter ifs elt scope f):DF X (.ListComp elt [⟨tg,iter,ifs,0⟩] scope pos) f:=by
 obtain⟨N',t,cs,fi,tgt,tt,te,rfl,S,hd,hfold,hY⟩:=h.ex
 exact GV hc S hd hY hfold
theorem xK{a:Arguments}{x:Str}(h:AI a=some x):∃px,a=⟨[],[⟨x,none,px⟩],none,[],[],none,[]⟩/\(x="number"\/x="plan"):=by
 unfold AI at h
 split at h
 ·split at h
  ·cases h;exact⟨_,rfl,.inl ‹_›⟩
  ·split at h
   ·cases h;exact⟨_,rfl,.inr ‹_›⟩
   ·cases h
 ·cases h
theorem bind1{x q:Str}{px:Pos}{body:Expr}{scope:Scope}{cl:List (Str×Addr)}{pm ctv u:Value}{c:Addr}(h:x="number"\/x="plan") :
  bindArgs (W.kla_fn "<lambda>" q ⟨[],[⟨x,none,px⟩],none,[],[],none,[]⟩ body scope cl pm (.ref c) ctv) ⟨[u],[]⟩=pure [(x,u)]:=by
 rcases h with rfl|rfl<;>rfl
theorem yS{lam:Option Str}(C:Bk X N sc k)(B:Bn X)(hlam:∀q,lam=some q->rh X q/\j+3<=k)(O:d5 X T){lmb:Scope->List Str->Tr}
  (OL:∀scope N' qual A f c s H,Bk (gL X A qual scope N' f c s H) N' scope (k - 3)->j<=k - 3->d5 (gL X A qual scope N' f c s H) (lmb scope N')) {l body:Expr}{params:Arguments}{scope:Scope}{p0 lpos kpos:Pos}{f:Dl.Env->Option (List D)}
  (h:vq lam sc N T lmb l params body scope=some f):DF X (.Call (.Name "sorted" p0) [l] [⟨some "key",.Lambda params body scope lpos,kpos⟩] pos) f:=by
 unfold vq at h
 split at h
 ·rename_i hg
  simp only[zF,Bool.not_eq_true'] at hg
  obtain⟨⟨hl,hg⟩,hs⟩:=hg
  obtain⟨q,rfl⟩:=Option.isSome_iff_exists.mp hl
  obtain⟨L,hk⟩:=hlam q rfl
  obtain⟨x,hx,h2⟩:=bs h
  clear h
  obtain⟨px,rfl,hpx⟩:=xK hx
  split at h2
  ·rename_i hok
   rw[zF] at hok
   obtain⟨fl,hfl,h⟩:=bs h2
   obtain⟨te,hte,rfl⟩:=ag h
   obtain⟨k',rfl⟩:∃k',k=k'+3:=⟨k - 3,by omega⟩
   exact Bk.sortK (p:=x) C (C.blt B hg (by decide +kernel) nr) L hok.1 hok.2 (fun _ _ _ _ _=>bind1 hpx) rfl (O.e _ _ hfl) (fun A f c s H C'=>(OL scope _ q A f c s H C' (by omega)).e _ _ hte) (bj hs) (by rw[bj hs];rfl) (dJ (by simp[hs]))
  ·cases h2
 ·cases h
theorem zr{lam:Option Str}(C:Bk X N sc k)(B:Bn X)(hlam:∀q,lam=some q->rh X q/\j+3<=k)(O:d5 X T){lmb:Scope->List Str->Tr}
  (OL:∀scope N' qual A f c s H,Bk (gL X A qual scope N' f c s H) N' scope (k - 3)->j<=k - 3->d5 (gL X A qual scope N' f c s H) (lmb scope N')) {l body:Expr}{params:Arguments}{scope:Scope}{p0 lpos kpos:Pos}{f:Dl.Env->Option (List D)}
  (h:uK lam sc N T lmb l params body scope=some f):DF X (.Call (.Name "sorted" p0) [l] [⟨some "key",.Lambda params body scope lpos,kpos⟩] pos) f:=by
 unfold uK at h
 split at h
 ·split at h
  ·rename_i hg
   simp only[zF,Bool.not_eq_true'] at hg
   obtain⟨⟨⟨⟨hl,hg⟩,hr⟩,hgr⟩,hs⟩:=hg
   have er:=eq_of_beq hr
   subst er
   obtain⟨q,rfl⟩:=Option.isSome_iff_exists.mp hl
   obtain⟨L,hk⟩:=hlam q rfl
   obtain⟨x,hx,h2⟩:=bs h
   clear h
   obtain⟨px,rfl,hpx⟩:=xK hx
   split at h2
   ·rename_i hok
    rw[zF] at hok
    obtain⟨fl,hfl,h⟩:=bs h2
    obtain⟨te,hte,rfl⟩:=ag h
    obtain⟨k',rfl⟩:∃k',k=k'+3:=⟨k - 3,by omega⟩
    exact Bk.sortR (p:=x) C (C.blt B hg (by decide +kernel) nr) (C.blt B hgr (by decide +kernel) xY) L hok.1 hok.2 (fun _ _ _ _ _=>bind1 hpx) rfl (cN O hfl) (fun A f c s H C'=>(OL scope _ q A f c s H C' (by omega)).e _ _ hte) (bj hs) (bj rfl) (by rw[bj rfl];rfl) (dJ (by rfl))
   ·cases h2
  ·cases h
 ·cases h
theorem Et{lam:Option Str}(C:Bk X N sc k)(B:Bn X)(hlam:∀q,lam=some q->rh X q/\j+3<=k)(O:d5 X T){blk lmb:Scope->List Str->Tr}
  (OB:∀scope N' fp s H,Bk (aY X scope N' fp s H) N' scope k->d5 (aY X scope N' fp s H) (blk scope N'))
  (OL:∀scope N' qual A f c s H,Bk (gL X A qual scope N' f c s H) N' scope (k - 3)->j<=k - 3->d5 (gL X A qual scope N' f c s H) (lmb scope N')) {e:Expr}{f:Dl.Env->Option (List D)}(h:Bx lam sc N T blk lmb e=some f):DF X e f:=by
 unfold Bx at h
 split at h
 ·obtain⟨x,hx,rfl⟩:=ag h;exact KG (cN O hx)
 ·rename_i elt gens scope ps
  match gens,h with
  | [⟨tg,iter,ifs,as⟩],h =>
   obtain⟨rfl,q⟩:=tw C B O OB h
   exact q.df C.calm
 ·split at h
  ·obtain⟨x,hx,h⟩:=bs h
   obtain⟨y,hy,rfl⟩:=ag h
   exact LB (O.f _ _ hx) (O.e _ _ hy)
  ·cases h
 ·obtain⟨x,hx,h⟩:=bs h
  obtain⟨y,hy,rfl⟩:=ag h
  exact Mf (O.e _ _ hx) (O.e _ _ hy)
 ·split at h
  ·rename_i hk
   rw[zF] at hk
   have e1:=eq_of_beq hk.1
   have e2:=eq_of_beq hk.2
   subst e1 e2
   split at h
   ·cases h;exact yS C B hlam O OL ‹_›
   ·exact zr C B hlam O OL h
  ·cases h
 ·split at h
  ·rename_i hg
   rw[zF,Bool.not_eq_true'] at hg
   split at h
   ·rename_i hx
    subst hx
    obtain⟨x,hx,rfl⟩:=ag h
    exact GM (C.blt B hg.1 (by decide +kernel) Jo) (cN O hx) (bj hg.2)
   ·split at h
    ·rename_i hx
     subst hx
     obtain⟨x,hx,rfl⟩:=ag h
     exact Cu (C.blt B hg.1 (by decide +kernel) nr) (cN O hx) (bj hg.2)
    ·cases h
  ·cases h
 ·cases h
theorem HY{lam:Option Str}(C:Bk X N sc k)(B:Bn X)(O:d5 X T){blk lmb:Scope->List Str->Tr}(OB:∀scope N' fp s H,Bk (aY X scope N' fp s H) N' scope k->d5 (aY X scope N' fp s H) (blk scope N'))
  {elt:Expr}{gens:List Comprehension}{scope:Scope}{p:Pos}{f:Dl.Env->Option (List D)}(h:Bx lam sc N T blk lmb (.ListComp elt gens scope p)=some f):∃tg iter ifs,gens=[⟨tg,iter,ifs,0⟩]/\pL X tg iter ifs elt scope f:=by
 have h:ud sc N T blk elt gens scope=some f:=h
 match gens,h with
 | [⟨tg,iter,ifs,as⟩],h =>
  obtain⟨rfl,q⟩:=tw C B O OB h
  exact⟨tg,iter,ifs,rfl,q⟩
theorem JG(n:Nat):∀ {lam:Option Str}{X:Cx}{N:List Str}{sc:Scope}{k:Nat},Bk X N sc k->MV G X j->j<=k->(∀q,lam=some q->rh X q/\j+3<=k)->d5 X (tr G n lam sc N):=by
 induction n with
 | zero=>intro lam X N sc k C g hjk hlam;exact⟨fun _ _ _ _ _ h=>(by cases h),fun _ _ h=>(by cases h),fun _ _ h=>(by cases h),fun _ _ h=>(by cases h)⟩
 | succ n ih =>
  intro lam X N sc k C g hjk hlam
  have O:=ih C g hjk hlam
  exact⟨fun elt gens scope p f h=>HY (lam:=lam) (lmb:=tr G n none) (p:=p) C g.bn O (fun scope N' fp s H C'=>ih C' ⟨g.fn,g.int,g.bn⟩ hjk fun q z=>by cases z) h,fun e f h=>Gh C g hjk O h,
   fun e f h=>Et C g.bn hlam O (fun scope N' fp s H C'=>ih C' ⟨g.fn,g.int,g.bn⟩ hjk fun q z=>by cases z) (fun scope N' qual A f c s H C' hk=>ih C' ⟨g.fn,g.int,g.bn⟩ hk fun q z=>by cases z) h,
   fun e f h=>FA C O h⟩
end
noncomputable def qr:Nat->Expr->List Str
 | 0,_=>[]
 | n+1,e=>match e with
  | .Name x _=>[x]
  | .UnaryOp _ a _=>qr n a
  | .BinOp a _ b _=>qr n a++qr n b
  | .BoolOp _ es _=>es.flatMap (qr n)
  | .Compare a _ cs _=>qr n a++cs.flatMap (qr n)
  | .IfExp c a b _=>qr n c++(qr n a++qr n b)
  | .Tuple es _ _=>es.flatMap (qr n)
  | .List es _=>es.flatMap (qr n)
  | .Subscript a b _=>qr n a++qr n b
  | .Slice lo hi st _=>(lo.toList++(hi.toList++st.toList)).flatMap (qr n)
  | .Call f args kws _=>qr n f++(args.flatMap (qr n)++kws.flatMap fun k=>qr n k.value)
  | .Attribute o _ _=>qr n o
  | .ListComp elt gens _ _=>qr n elt++gens.flatMap fun g=>qr n g.iter++g.ifs.flatMap (qr n)
  | .Lambda _ b _ _=>qr n b
  | _=>[]
noncomputable def sx(N:List Str)(e:Expr):List Nat:=let ns:=qr 60 e;(List.range N.length).filter fun j=>match N[j]? with|some x=>ns.contains x|none=>false
noncomputable abbrev GS:=ak->Option Out
noncomputable def turns:Nat:=1000000
noncomputable def yt:Expr->Bool
 | .ListComp ..=>true
 | .SetComp ..=>true
 | .DictComp ..=>true
 | _=>false
noncomputable def FX(sc:Scope)(N:List Str)(T:Tr)(x:Str)(px:Pos)(e:Expr):Option GS :=
 (N.idxOf? x).bind fun i=>if qE N sc i x=true then
  (if A1 e=true then (match e with
   | .ListComp _ _ scope lp =>
    if (decide (sc.names.lookup x=some .local)&&(px.line == lp.line&&!(scope.names.any fun (n,k)=>n == x&&(k == .local || k == .cell))))=true then (T.f e).map fun f=>aO i (sx N e) f
    else if decide (sc.names.lookup x=some .cell)=true then (T.f e).map fun f=>aO i (sx N e) f
    else if (px.line == lp.line)=false then (T.f e).map fun f=>aO i (sx N e) f
    else none
   | _=>(T.f e).map fun f=>aO i (sx N e) f)
  else if yt e=false then (T.e e).map fun f=>ay i (sx N e) f else none) else none
noncomputable def DJ(N:List Str)(sc:Scope)(T:Tr)(e:Expr):Option GS:=match e with
 | .Constant (.str _) _ _=>some eF
 | .Call (.Attribute (.Name x _) m apos) args [] cpos =>
  (N.idxOf? x).bind fun i=>if (B2 N sc i x&&apos.endLine == cpos.line&&args.all fun e=>!isStar e)=true then
   (if m="append" then (match args with
    | [a]=>(T.e a).map fun f=>jI i (sx N a) f
    | _=>none)
   else if m="extend" then (match args with
    | [a]=>(T.f a).map fun f=>vC i (sx N a) f
    | _=>none)
   else if m="insert" then (match args with
    | [a,b]=>(T.e a).bind fun fk=>(T.e b).map fun f=>Fb i (sx N b) fk f
    | _=>none)
   else none) else none
 | .Call (.Name _ _) _ _ _=>(T.e e).map jF
 | _=>none
noncomputable def NX(sc:Scope)(N:List Str)(tg:Expr):Option (ak->D->Option ak):=match tg with
 | .Name x _=>(N.idxOf? x).bind fun i=>if qE N sc i x=true then some (mQ i) else none
 | .Tuple [.Name x _,.Name y _] _ _=>(N.idxOf? x).bind fun i=>(N.idxOf? y).bind fun j=>if (qE N sc i x&&qE N sc j y)=true then some (js i j) else none
 | .Tuple [.Name x _,.Tuple [.Name y _,.Name z _,.Name w _] _ _] _ _=>(N.idxOf? x).bind fun i=>(N.idxOf? y).bind fun j=>(N.idxOf? z).bind fun k=>(N.idxOf? w).bind fun l=>if ((qE N sc i x&&qE N sc j y)&&(qE N sc k z&&qE N sc l w))=true then some (E4 i j k l) else none
 | _=>none
noncomputable def Dw(sc:Scope)(N:List Str)(T:Tr)(x:Str)(kx e:Expr):Option GS :=
 (N.idxOf? x).bind fun i=>if (B2 N sc i x&&!Fv kx&&!yt e)=true then (T.e kx).bind fun fk=>(T.e e).map fun f=>z9 i (sx N e) fk f else none
noncomputable def qY(f:Stmt->Option GS):List Stmt->Option GS
 | []=>some eF
 | [s]=>f s
 | s::r=>(f s).bind fun g=>(qY f r).map fun h=>aq g h
noncomputable def GD(sc:Scope)(N:List Str)(T:Tr):Nat->Stmt->Option GS
 | 0,_=>none
 | n+1,st=>match st with
  | .Return (some e) _=>(T.e e).map aD
  | .If c a b _=>(T.t c).bind fun t=>(qY (GD sc N T n) a).bind fun g=>(qY (GD sc N T n) b).map fun h=>eL t g h
  | .Assign [.Name x px] e _=>FX sc N T x px e
  | .Assign [.Subscript (.Name x _) kx _] e _=>Dw sc N T x kx e
  | .For tg iter body [] _=>(NP sc T tg iter).bind fun fi=>(NX sc N tg).bind fun t=>(qY (GD sc N T n) body).map fun g=>fH (sx N iter) fi t g
  | .While c body [] _=>(T.t c).bind fun t=>(qY (GD sc N T n) body).map fun g=>Gw t g turns
  | .Expr e _=>DJ N sc T e
  | .Raise ..=>some Mm
  | .Pass _=>some eF
  | _=>none
section
variable {X:Cx}{N:List Str}{sc:Scope}{k:Nat}{T:Tr}{HF₀ H₀:Hp}{pos:Pos}
theorem jc{f:Stmt->Option GS}(H:∀s g,f s=some g->DS X HF₀ H₀ s g):∀ {l:List Stmt}{g:GS},qY f l=some g->Do X HF₀ H₀ l g
 | [],g,h=>by cases h;exact Ji
 | [s],g,h=>HU (H _ _ h)
 | s::t::r,g,h=>by
  unfold qY at h
  obtain⟨x,hx,h⟩:=bs h
  obtain⟨y,hy,rfl⟩:=ag h
  exact ER (H _ _ hx) (jc H hy)
theorem tK{e:Expr}{x:Str}{px:Pos}{line:Nat}{env:PySem.Env}(h:yt e=false):swapsWith e (some (.Name x px)) line env=pure false:=by
 cases e<;>first|rfl|cases h
theorem DP(C:Bk X N sc k)(O:d5 X T){x:Str}{px:Pos}{e:Expr}{g:GS}(h:FX sc N T x px e=some g):DS X HF₀ H₀ (.Assign [.Name x px] e pos) g:=by
 unfold FX at h
 obtain⟨i,hi,h⟩:=bs h
 split at h
 ·rename_i hloc
  obtain⟨z1,z2,z3,z4⟩:=C.loc hloc
  split at h
  ·split at h
   ·rename_i elt gens scope lp hl
    split at h
    ·rename_i hc
     rw[zF] at hc
     obtain⟨f,hf,rfl⟩:=ag h
     obtain⟨tg,iter,ifs,rfl,q⟩:=O.c _ _ _ _ _ hf
     obtain⟨N',t,cs,fi,tgt,tt,te,rfl,S,hd,hfold,hY⟩:=q.ex
     exact Ia i _ C.calm S hd hY z1 z2 (C.locl hc.1) (C.swap hc.1 hc.2) hfold
    ·split at h
     ·rename_i hc
      obtain⟨f,hf,rfl⟩:=ag h
      exact uz i _ z1 z2 z3 (O.f _ _ hf) (C.noswap hc) z4
     ·split at h
      ·rename_i hc
       obtain⟨f,hf,rfl⟩:=ag h
       refine uz i _ z1 z2 z3 (O.f _ _ hf) ?_ z4
       rw[qv,hc]
       simp
      ·cases h
   ·rename_i hl hn
    obtain⟨f,hf,rfl⟩:=ag h
    refine uz i _ z1 z2 z3 (O.f _ _ hf) (tK ?_) z4
    cases e<;>first|rfl|exact absurd rfl (hn _ _ _ _)|(rename_i hl _;cases hl;done)
  ·split at h
   ·rename_i hc
    obtain⟨f,hf,rfl⟩:=ag h
    exact LG i _ z1 z2 z3 (O.e _ _ hf) (tK hc) z4
   ·cases h
 ·cases h
theorem yO{env:PySem.Env}{es:List Expr}{cpos:Pos}(h:(es.all fun e=>!isStar e)=true)(hl:es.length < 20):((backTo cpos (starEach es env)).all (fun x=>!x.1)&&(backToKw cpos (keywordEach [] env)).all (fun x=>x.1.isSome)&&decide (es.length+([]:List Keyword).length+(if ([]:List Keyword).isEmpty then 0 else 1) < 30))=true:=by
 have h1:(backTo cpos (starEach es env)).all (fun x=>!x.1)=true:=by
  have:=dJ (pos:=cpos) (env:=env) h
  rw[List.all_eq_not_any_not]
  simpa using this
 rw[h1]
 simp[backToKw,keywordEach]
 omega
theorem Du(C:Bk X N sc k)(O:d5 X T){e:Expr}{g:GS}(h:DJ N sc T e=some g):DS X HF₀ H₀ (.Expr e pos) g:=by
 unfold DJ at h
 split at h
 ·cases h;exact LY
 ·rename_i x px m apos args cpos
  replace h:=bs h
  obtain⟨i,hi,h⟩:=h
  split at h
  ·rename_i hv
   simp only[zF] at hv
   obtain⟨⟨hv,hline⟩,hs⟩:=hv
   obtain⟨z1,z2,z3,z4⟩:=C.vis hv
   split at h
   ·rename_i hm
    subst hm
    split at h
    ·obtain⟨f,hf,rfl⟩:=ag h
     exact BV i _ z1 z2 (O.e _ _ hf) z3 z4 (yO hs (by simp)) hline (bj (by simpa using hs))
    ·cases h
   ·split at h
    ·rename_i hm
     subst hm
     split at h
     ·obtain⟨f,hf,rfl⟩:=ag h
      exact Co i _ z1 z2 (O.f _ _ hf) z3 z4 (yO hs (by simp)) hline (bj (by simpa using hs))
     ·cases h
    ·split at h
     ·rename_i hm
      subst hm
      split at h
      ·obtain⟨fk,hfk,h⟩:=bs h
       obtain⟨f,hf,rfl⟩:=ag h
       have hs':=hs
       simp only[List.all_cons,List.all_nil,Bool.and_true,zF,Bool.not_eq_true'] at hs'
       exact B9 i _ z1 z2 (O.e _ _ hfk) (O.e _ _ hf) z3 z4 (yO hs (by simp)) hline (bj hs'.1) (bj hs'.2)
      ·cases h
     ·cases h
  ·cases h
 ·obtain⟨f,hf,rfl⟩:=ag h
  exact HE rfl (O.e _ _ hf)
 ·cases h
theorem Md(C:Bk X N sc k){tg:Expr}{t:ak->D->Option ak}(h:NX sc N tg=some t):Ny X HF₀ H₀ tg t:=by
 unfold NX at h
 split at h
 ·obtain⟨i,hi,h⟩:=bs h
  split at h
  ·rename_i hl
   cases h
   have z:=C.loc hl
   exact FY i z.1 z.2.1 z.2.2.1 z.2.2.2
  ·cases h
 ·obtain⟨i,hi,h⟩:=bs h
  obtain⟨j,hj,h⟩:=bs h
  split at h
  ·rename_i hl
   rw[zF] at hl
   cases h
   have z:=C.loc hl.1
   have w:=C.loc hl.2
   exact Hr i j C.calm z.1 z.2.1 z.2.2.1 w.2.1 w.2.2.1 z.2.2.2 w.2.2.2
  ·cases h
 ·obtain⟨i,hi,h⟩:=bs h
  obtain⟨j,hj,h⟩:=bs h
  obtain⟨m,hm,h⟩:=bs h
  obtain⟨l,hl,h⟩:=bs h
  split at h
  ·rename_i hl
   rw[zF,zF,zF] at hl
   cases h
   have z:=C.loc hl.1.1
   have w:=C.loc hl.1.2
   have y:=C.loc hl.2.1
   have u:=C.loc hl.2.2
   exact Kq i j m l C.calm z.1 z.2.1 z.2.2.1 w.2.1 w.2.2.1 y.2.1 y.2.2.1 u.2.1 u.2.2.1 z.2.2.2 w.2.2.2 y.2.2.2 u.2.2.2
  ·cases h
 ·cases h
theorem FD(C:Bk X N sc k)(O:d5 X T){x:Str}{px spos:Pos}{kx e:Expr}{g:GS}(h:Dw sc N T x kx e=some g):DS X HF₀ H₀ (.Assign [.Subscript (.Name x px) kx spos] e pos) g:=by
 unfold Dw at h
 obtain⟨i,hi,h⟩:=bs h
 split at h
 ·rename_i hv
  simp only[zF,Bool.not_eq_true'] at hv
  obtain⟨⟨hv,hc⟩,he⟩:=hv
  obtain⟨z1,z2,z3,z4⟩:=C.vis hv
  obtain⟨fk,hfk,h⟩:=bs h
  obtain⟨f,hf,rfl⟩:=ag h
  refine F9 i _ z1 z2 (O.e _ _ hfk) (O.e _ _ hf) z3 z4 (fun v=>?_) ?_ ?_ rfl
  ·cases kx<;>first|rfl|cases hc
  ·cases e<;>first|rfl|cases he
  ·rfl
 ·cases h
theorem yM(C:Bk X N sc k)(B:Bn X)(O:d5 X T):∀ (n:Nat) {st:Stmt}{g:GS},GD sc N T n st=some g->DS X HF₀ H₀ st g
 | 0,st,g,h=>by cases h
 | n+1,st,g,h=>by
  have ih:=fun s g h=>yM C B O n (st:=s) (g:=g) h
  unfold GD at h
  split at h
  ·obtain⟨f,hf,rfl⟩:=ag h;exact Kx (O.e _ _ hf)
  ·obtain⟨t,ht,h⟩:=bs h
   obtain⟨a,ha,h⟩:=bs h
   obtain⟨b,hb,rfl⟩:=ag h
   exact Mt (O.t _ _ ht) (jc ih ha) (jc ih hb)
  ·exact DP C O h
  ·exact FD C O h
  ·obtain⟨fi,hfi,h⟩:=bs h
   obtain⟨t,ht,h⟩:=bs h
   obtain⟨b,hb,rfl⟩:=ag h
   obtain⟨hd,hfold⟩:=DK C B O hfi
   exact L3 _ C.pass C.calm hd (Md C ht) (jc ih hb) hfold
  ·obtain⟨t,ht,h⟩:=bs h
   obtain⟨b,hb,rfl⟩:=ag h
   exact Gf _ C.pass (O.t _ _ ht) (jc ih hb)
  ·exact Du C O h
  ·cases h;exact MI
  ·cases h;exact Io
  ·cases h
end
section
variable {P:Program}{w:World}{K:W.Frag}{mg:Str->Option Value}{base:Heap}{j:Nat}
def lq(P:Program)(w:World)(K:W.Frag)(mg:Str->Option Value)(base:Heap)(j:Nat)(l:List (Str×Nat×(List D->Option D))):Prop:=∀x n m,l.lookup x=some (n,m)->dw P w K mg base j x n m
def kf(mg:Str->Option Value)(l:List (Str×Int)):Prop:=∀x i,l.lookup x=some i->∃t,mg x=some (.int i t)
theorem bB:lq P w K mg base j []:=fun _ _ _ h=>by cases h
theorem Nn{x:Str}{n:Nat}{m:List D->Option D}{l:List (Str×Nat×(List D->Option D))}(F:dw P w K mg base j x n m)(h:lq P w K mg base j l):lq P w K mg base j ((x,n,m)::l):=fun y n' m' e=>by
 rw[yC] at e
 cases q:y == x with
 | true=>rw[q] at e;cases e;rw[eq_of_beq q];exact F
 | false=>rw[q] at e;exact h y n' m' e
theorem bz:kf mg []:=fun _ _ h=>by cases h
theorem wq{x:Str}{i:Int}{l:List (Str×Int)}(F:∃t,mg x=some (.int i t))(h:kf mg l):kf mg ((x,i)::l):=fun y i' e=>by
 rw[yC] at e
 cases q:y == x with
 | true=>rw[q] at e;cases e;rw[eq_of_beq q];exact F
 | false=>rw[q] at e;exact h y i' e
theorem JD{X:Cx}{N:List Str}{st:Stmt}{g:ak->Option Out}{fs:List (Str×Nat×(List D->Option D))}{is:List (Str×Int)}{HF₀ H₀:Hp}(C:Bk X N (aN st) j)(B:Bn X)(hf:lq X.prog X.w X.K X.mg X.base j fs)(hi:kf X.mg is)
  (t:qY (GD (aN st) N (tr ⟨fs,is⟩ 40 none (aN st) N) 40) (cC st)=some g):Do X HF₀ H₀ (cC st) g :=
 jc (fun s g h=>yM C B (JG (G:=⟨fs,is⟩) 40 C ⟨hf,hi,B⟩ (Nat.le_refl j) fun q z=>by cases z) 40 h) t
theorem Pe{x:Str}{st:Stmt}{ps N:List Str}{g:ak->Option Out}{fs:List (Str×Nat×(List D->Option D))}{is:List (Str×Int)}(D:bu K mg x st ps)(S:fX N ps (aN st))(B:∀x∈cY,mg x=none)(hf:lq P w K mg base j fs)(hi:kf mg is)
  (t:qY (GD (aN st) N (tr ⟨fs,is⟩ 40 none (aN st) N) 40) (cC st)=some g):dw P w K mg base (j+1) x ps.length (bb g N.length):=by
 obtain⟨f,fd,hm,F,hb⟩:=D.ex
 exact OX F S hb hm fun X hP hw hK hm' hb' C _ _ HF H=>by subst hP;subst hw;subst hK;subst hm';subst hb';exact JD C B hf hi t
theorem Pm{x q:Str}{st:Stmt}{ps N:List Str}{g:ak->Option Out}{fs:List (Str×Nat×(List D->Option D))}{is:List (Str×Int)}(D:D3 K mg x st ps)(S:fX N ps (aN st))(B:∀x∈cY,mg x=none)(hf:lq P w K mg base j fs)(hi:kf mg is)
  (hq:x∈ki/\x++".<locals>."++"<lambda>"=q) (t:qY (GD (aN st) N (tr ⟨fs,is⟩ 40 (some q) (aN st) N) 40) (cC st)=some g):dw P w K mg base (j+4) x ps.length (bb g N.length):=by
 obtain⟨f,fd,c,P',hm,F,hb,hc,hh⟩:=D.ex
 refine OX (k:=j+3) F S hb hm fun X hP hw hK hm' hb' C h1 h2 HF H=>?_
 subst hP;subst hw;subst hK;subst hm';subst hb'
 have L:rh X q:=by
  refine⟨c,P',by rw[h1,hc],by rw[h2];exact hq.2,hh,fun HF tb=>?_⟩
  obtain⟨oc,od,kV,doc,pm,an,cdv,ct,osl,rfl,lk,_⟩:=F.ex
  have:=tb f oc od _ osl c P' lk hq.1 hc hh
  rw[<- hq.2]
  exact this
 exact jc (fun s g h=>yM C B (JG (G:=⟨fs,is⟩) (j:=j) 40 C ⟨hf,hi,B⟩ (Nat.le_add_right _ _) fun q' z=>by cases z;exact⟨L,Nat.le_refl _⟩) 40 h) t
end
noncomputable abbrev tW(s:Stmt)(N:List Str)(S:Sg)(l:Option Str):Option GS:=qY (GD (aN s) N (tr S 40 l (aN s) N) 40) (cC s)
theorem N9{N P:List Str}{sc:Scope}(a:sc.kind=.function:=by rfl)(b:sc.isCoroutine=false:=by rfl)(c:sc.isGenerator=false:=by rfl)(d:N.Nodup:=by decide +kernel)(e:N.take P.length=P:=by rfl)(f:∀x∈P,sc.names.lookup x=some .local \/ sc.names.lookup x=some .cell:=by decide +kernel)(g:∀y∈sc.names,y.2≠.free:=by decide +kernel):fX N P sc:=⟨a,b,c,d,e,f,g⟩
section
variable {P:Program}{w:World}{K:W.Frag}{mg:Str->Option Value}{base:Heap}{i j:Nat}
theorem fm{x:Str}{n:Nat}{m:List D->Option D}{l:List (Str×Nat×(List D->Option D))}(F:dw P w K mg base i x n m)(h:lq P w K mg base j l)(e:i<=j:=by decide):lq P w K mg base j ((x,n,m)::l):=Nn (F.mono e) h
theorem fR{x:Str}{st:Stmt}{ps N:List Str}{g:ak->Option Out}{S:Sg}(D:bu K mg x st ps)(B:∀x∈cY,mg x=none)(hf:lq P w K mg base j S.fn)(hi:kf mg S.int)(t:tW st N S none=some g)(F:fX N ps (aN st):=by exact Rf.N9):dw P w K mg base (j+1) x ps.length (bb g N.length):=Pe D F B hf hi t
theorem OP{x q:Str}{st:Stmt}{ps N:List Str}{g:ak->Option Out}{S:Sg}(D:D3 K mg x st ps)(B:∀x∈cY,mg x=none)(hf:lq P w K mg base j S.fn)(hi:kf mg S.int)(t:tW st N S (some q)=some g)(F:fX N ps (aN st):=by exact Rf.N9)(hq:x∈ki/\x++".<locals>."++"<lambda>"=q:=by decide +kernel):dw P w K mg base (j+4) x ps.length (bb g N.length):=Pm D F B hf hi hq t
end
end Rf
namespace Hd
open PySem L2 Dl PySem.Spec PyProof.Rows
section
variable {K:W.Frag}
theorem fIn{x:Str}{st:Stmt}{ps:List Str}{f c:Addr}{pm:Value}(hb:ik st ps)(a:W.nsIn K mainGlobals x=some (some (.ref f)))(l:K.lookup f=some (fo x st pm c))(d:W.codeIn K (.ref c) x=true)(k:W.keepIn K (.ref f)=true):aG K x st ps:=MG hb a l d k
theorem lIn{x:Str}{st:Stmt}{ps:List Str}{f c:Addr}{pm:Value}(hb:ik st ps)(a:W.nsIn K mainGlobals x=some (some (.ref f)))(l:K.lookup f=some (fo x st pm c))(d:W.codeIn K (.ref c) x=true)(k:W.keepIn K (.ref f)=true)(hh:W.codeHdIn K c (FB K c)=true):n5 K x st ps:=MC hb a l d k hh
end
section
variable {α:Type}{R:List α->Prop}
theorem uM(h:∀a,R [a])(us:List α)(e:us.length=1):R us:=by
 obtain⟨a,rfl⟩:=List.length_eq_one_iff.mp e;exact h a
theorem lenS{n:Nat}(us:List α)(e:us.length=n+1):∃a r,us=a::r/\r.length=n:=by
 cases us with
 | nil=>cases e
 | cons a r=>exact⟨a,r,rfl,by simpa using e⟩
theorem len2(h:∀a b,R [a,b])(us:List α)(e:us.length=2):R us:=by
 obtain⟨a,r,rfl,e'⟩:=lenS us e;exact uM (R:=fun r=>R (a::r)) (h a) r e'
theorem len3(h:∀a b c,R [a,b,c])(us:List α)(e:us.length=3):R us:=by
 obtain⟨a,r,rfl,e'⟩:=lenS us e;exact len2 (R:=fun r=>R (a::r)) (h a) r e'
theorem len4(h:∀a b c d,R [a,b,c,d])(us:List α)(e:us.length=4):R us:=by
 obtain⟨a,r,rfl,e'⟩:=lenS us e;exact len3 (R:=fun r=>R (a::r)) (h a) r e'
end
section
variable {K:W.Frag}
theorem f1(f c:Addr)(pm:Value){x:Str}{st:Stmt}{ps:List Str}(hb:ik st ps:=by exact fun _ _ _ _ _ _ _ _ us hl=>uM (R:=fun us=>bindArgs _ ⟨us,[]⟩=pure (List.zip _ us)) (fun _=>rfl) us hl)(a:W.nsIn K mainGlobals x=some (some (.ref f)):=by kernel_rfl)(l:K.lookup f=some (fo x st pm c):=by kernel_rfl)(d:W.codeIn K (.ref c) x=true:=by kernel_rfl)(k:W.keepIn K (.ref f)=true:=by kernel_rfl):aG K x st ps:=fIn hb a l d k
theorem l1(f c:Addr)(pm:Value){x:Str}{st:Stmt}{ps:List Str}(hb:ik st ps:=by exact fun _ _ _ _ _ _ _ _ us hl=>uM (R:=fun us=>bindArgs _ ⟨us,[]⟩=pure (List.zip _ us)) (fun _=>rfl) us hl)(a:W.nsIn K mainGlobals x=some (some (.ref f)):=by kernel_rfl)(l:K.lookup f=some (fo x st pm c):=by kernel_rfl)(d:W.codeIn K (.ref c) x=true:=by kernel_rfl)(k:W.keepIn K (.ref f)=true:=by kernel_rfl)(hh:W.codeHdIn K c (FB K c)=true:=by kernel_rfl):n5 K x st ps:=lIn hb a l d k hh
theorem f2(f c:Addr)(pm:Value){x:Str}{st:Stmt}{ps:List Str}(hb:ik st ps:=by exact fun _ _ _ _ _ _ _ _ us hl=>len2 (R:=fun us=>bindArgs _ ⟨us,[]⟩=pure (List.zip _ us)) (fun _ _=>rfl) us hl)(a:W.nsIn K mainGlobals x=some (some (.ref f)):=by kernel_rfl)(l:K.lookup f=some (fo x st pm c):=by kernel_rfl)(d:W.codeIn K (.ref c) x=true:=by kernel_rfl)(k:W.keepIn K (.ref f)=true:=by kernel_rfl):aG K x st ps:=fIn hb a l d k
theorem f3(f c:Addr)(pm:Value){x:Str}{st:Stmt}{ps:List Str}(hb:ik st ps:=by exact fun _ _ _ _ _ _ _ _ us hl=>len3 (R:=fun us=>bindArgs _ ⟨us,[]⟩=pure (List.zip _ us)) (fun _ _ _=>rfl) us hl)(a:W.nsIn K mainGlobals x=some (some (.ref f)):=by kernel_rfl)(l:K.lookup f=some (fo x st pm c):=by kernel_rfl)(d:W.codeIn K (.ref c) x=true:=by kernel_rfl)(k:W.keepIn K (.ref f)=true:=by kernel_rfl):aG K x st ps:=fIn hb a l d k
theorem l3(f c:Addr)(pm:Value){x:Str}{st:Stmt}{ps:List Str}(hb:ik st ps:=by exact fun _ _ _ _ _ _ _ _ us hl=>len3 (R:=fun us=>bindArgs _ ⟨us,[]⟩=pure (List.zip _ us)) (fun _ _ _=>rfl) us hl)(a:W.nsIn K mainGlobals x=some (some (.ref f)):=by kernel_rfl)(l:K.lookup f=some (fo x st pm c):=by kernel_rfl)(d:W.codeIn K (.ref c) x=true:=by kernel_rfl)(k:W.keepIn K (.ref f)=true:=by kernel_rfl)(hh:W.codeHdIn K c (FB K c)=true:=by kernel_rfl):n5 K x st ps:=lIn hb a l d k hh
theorem f4(f c:Addr)(pm:Value){x:Str}{st:Stmt}{ps:List Str}(hb:ik st ps:=by exact fun _ _ _ _ _ _ _ _ us hl=>len4 (R:=fun us=>bindArgs _ ⟨us,[]⟩=pure (List.zip _ us)) (fun _ _ _ _=>rfl) us hl)(a:W.nsIn K mainGlobals x=some (some (.ref f)):=by kernel_rfl)(l:K.lookup f=some (fo x st pm c):=by kernel_rfl)(d:W.codeIn K (.ref c) x=true:=by kernel_rfl)(k:W.keepIn K (.ref f)=true:=by kernel_rfl):aG K x st ps:=fIn hb a l d k
end
end Hd
namespace Pg
open PySem L2 Dl PySem.Spec PyProof.Rows
abbrev zl:List Str:=["thing","least","most"]
noncomputable def lI:ak->Option Out:=(aq (eL (iD (aX (fB (GB "int" (ab 0)))) (fB (GB "bool" (ab 0)))) (aD (fC (.bool false))) eF) (aD (gw tq tq (ab 1) (ab 0) (ab 2))))
noncomputable def aK:List D->Option D:=bb lI 3
abbrev xi:List Str:=["thing","many"]
noncomputable def jR:ak->Option Out:=(aD (ah 3 aK (aa (ab 0) (aa (fC (.int 0)) (aa (f2 Dl.iw (ab 1) (fC (.int 1))) ae)))))
noncomputable def bh:List D->Option D:=bb jR 2
abbrev BK:List Str:=["thing","least","most"]
noncomputable def nJ:ak->Option Out:=(aD (iO (GB "tuple" (ab 0)) (gw tq tq (ab 1) (bf bq (aa (ab 0) ae)) (ab 2))))
noncomputable def aU:List D->Option D:=bb nJ 3
abbrev x5:List Str:=["thing","many"]
noncomputable def kg:ak->Option Out:=(aq (eL (aX (fB (GB "tuple" (ab 0)))) (aD (fC (.bool false))) eF) (aq (eL (aX (fB (bf jo (aa (bZ (ao 1 [1] (aR (ab 0)) (fG 0) (fun _=>some true) (ah 2 bh (aa (ab 0) (aa (ab 1) ae))))) ae)))) (aD (fC (.bool false))) eF) (aD (f2 cf (f1 kU (ab 0)) (bf bq (aa (ab 0) ae))))))
noncomputable def fI:List D->Option D:=bb kg 2
abbrev F3:List Str:=["thing","many"]
noncomputable def qw:ak->Option Out:=(aD (iO (ah 3 aU (aa (ab 0) (aa (fC (.int 2)) (aa (fC (.int 2)) ae)))) (iO (ah 3 aK (aa (f2 av (ab 0) (fC (.int 0))) (aa (fC (.int 0)) (aa (fC (.int 9)) ae)))) (ah 2 fI (aa (f2 av (ab 0) (fC (.int 1))) (aa (ab 1) ae))))))
noncomputable def fj:List D->Option D:=bb qw 2
abbrev Em:List Str:=["thing","givers","takers"]
noncomputable def pY:ak->Option Out:=(aq (eL (aX (fB (ah 3 aU (aa (ab 0) (aa (fC (.int 3)) (aa (fC (.int 3)) ae)))))) (aD (fC (.bool false))) eF) (aD (iO (ah 2 bh (aa (f2 av (ab 0) (fC (.int 0))) (aa (ab 1) ae))) (iO (ah 2 bh (aa (f2 av (ab 0) (fC (.int 1))) (aa (ab 2) ae))) (ah 3 aK (aa (f2 av (ab 0) (fC (.int 2))) (aa (fC (.int 1)) (aa (fC (.int 9)) ae))))))))
noncomputable def iJ:List D->Option D:=bb pY 3
abbrev wc:List Str:=["givers","takers","ways"]
noncomputable def j4:ak->Option Out:=(aq (eL (iD (aX (fB (ah 3 aU (aa (ab 0) (aa (fC (.int 1)) (aa (fC (.int 4)) ae)))))) (aX (fB (ah 3 aU (aa (ab 1) (aa (fC (.int 1)) (aa (fC (.int 4)) ae))))))) (aD (fC (.bool false))) eF) (aq (eL (aX (fB (bf jo (aa (bZ (ao 1 [1] (aR (ab 0)) (fG 0) (fun _=>some true) (ah 2 fj (aa (ab 0) (aa (bf bq (aa (ab 1) ae)) ae))))) ae)))) (aD (fC (.bool false))) eF) (aq (eL (aX (fB (bf jo (aa (bZ (ao 1 [0] (aR (ab 1)) (fG 0) (fun _=>some true) (ah 2 fj (aa (ab 0) (aa (bf bq (aa (ab 1) ae)) ae))))) ae)))) (aD (fC (.bool false))) eF) (aD (iO (GB "tuple" (ab 2)) (bf jo (aa (bZ (ao 1 [0,1] (aR (ab 2)) (fG 0) (fun _=>some true) (ah 3 iJ (aa (ab 0) (aa (bf bq (aa (ab 1) ae)) (aa (bf bq (aa (ab 2) ae)) ae)))))) ae)))))))
noncomputable def fu:List D->Option D:=bb j4 3
abbrev sk:List Str:=["places","pairs","number","place"]
noncomputable def ig:ak->Option Out:=(aq (aO 1 [] (cG ae)) (aq (fH [0] (bV (aa (ab 0) ae)) (js 2 3) (vC 1 [2,3] (ao 1 [2] (aR (f2 av (ab 3) (fC (.int 1)))) (fG 0) (fun _=>some true) (aS (aa (ab 1) (aa (ab 0) ae)))))) (aD (ab 1))))
noncomputable def bx:List D->Option D:=bb ig 4
abbrev z7:List Str:=["thing","joined","by_givers","by_takers"]
noncomputable def gq:ak->Option Out:=(aq (eL (iD (aX (fB (ah 3 aU (aa (ab 0) (aa (fC (.int 3)) (aa (fC (.int 3)) ae)))))) (aX (fB (ah 3 fu (aa (f2 av (ab 0) (fC (.int 0))) (aa (f2 av (ab 0) (fC (.int 1))) (aa (f2 av (ab 0) (fC (.int 2))) ae))))))) (aD (fC (.bool false))) eF) (aq (aO 1 [0] (ao 1 [] (aR (f2 av (ab 0) (fC (.int 2)))) (fG 0) (fun _=>some true) (aS (aa (f2 av (ab 0) (fC (.int 0))) (aa (f2 av (ab 0) (fC (.int 1))) ae))))) (aq (aO 2 [0] (mV gH (aa (ah 1 bx (aa (f2 av (ab 0) (fC (.int 0))) ae)) ae))) (aq (aO 3 [0] (mV gH (aa (bZ (ao 2 [] (aR (ah 1 bx (aa (f2 av (ab 0) (fC (.int 1))) ae))) (gN 0 1) (fun _=>some true) (aS (aa (ab 1) (aa (ab 0) ae))))) ae))) (aD (iO (f2 cf (ab 1) (ab 2)) (f2 cf (ab 1) (ab 3))))))))
noncomputable def cB:List D->Option D:=bb gq 4
abbrev r6:List Str:=["world"]
noncomputable def dz:ak->Option Out:=(eL (aX (fB (ah 1 cB (aa (ab 0) ae)))) Mm eF)
noncomputable def aA:List D->Option D:=bb dz 1
abbrev sg:List Str:=["thing","least","most"]
noncomputable def dy:ak->Option Out:=(eL (aX (fB (ah 3 aK (aa (ab 0) (aa (ab 1) (aa (ab 2) ae)))))) Mm eF)
noncomputable def eZ:List D->Option D:=bb dy 3
abbrev rf:List Str:=["thing","many"]
noncomputable def cX:ak->Option Out:=(jF (ah 3 eZ (aa (ab 0) (aa (fC (.int 0)) (aa (f2 Dl.iw (ab 1) (fC (.int 1))) ae)))))
noncomputable def d9:List D->Option D:=bb cX 2
abbrev tY:List Str:=["thing"]
noncomputable def ej:ak->Option Out:=(jF (ah 2 d9 (aa (ab 0) (aa (fC (.int 2)) ae))))
noncomputable def fV:List D->Option D:=bb ej 1
abbrev zv:List Str:=["parts","number","part"]
noncomputable def lQ:ak->Option Out:=(aD (f2 aM (f2 aM (kb fA (ab 0) j1 (wt (ab 1))) (aS (aa (ab 2) ae))) (kb fA (ab 0) (wt (f2 aM (ab 1) (fC (.int 1)))) j1)))
noncomputable def i3:List D->Option D:=bb lQ 3
abbrev BW:List Str:=["world","side","place","ways","likes","own"]
noncomputable def kW:ak->Option Out:=(aq (ay 3 [0] (f2 av (ab 0) (fC (.int 2)))) (aq (ay 4 [0,1,2] (f2 av (f2 av (f2 av (ab 0) (ab 1)) (ab 2)) (fC (.int 1)))) (aq (aO 5 [1,2,3] (ao 2 [1,2] (bV (aa (ab 3) ae)) (gN 0 1) (fB (f2 cf (f2 av (ab 1) (ab 2)) (ab 3))) (ab 0))) (aD (bZ (nO [1,3,4] (ab 5) (f2 oC (ab 3) (f2 av (f2 av (ab 2) (ab 0)) (f2 Dl.iw (fC (.int 1)) (ab 1))))))))))
noncomputable def eM:List D->Option D:=bb kW 6
abbrev wo:List Str:=["world","side","place","offers","chosen","left","number"]
noncomputable def gJ:ak->Option Out:=(aq (aO 4 [0] (ao 1 [] (aR (f2 av (ab 0) (fC (.int 2)))) (fG 0) (fun _=>some true) (fC (.int 0)))) (aq (ay 5 [0,1,2] (f2 av (f2 av (f2 av (ab 0) (ab 1)) (ab 2)) (fC (.int 0)))) (aq (fH [0,1,2] (aR (ah 3 eM (aa (ab 0) (aa (ab 1) (aa (ab 2) ae))))) (mQ 6) (aq (z9 4 [0,3,5,6] (ab 6) (bf xW (aa (f2 av (ab 3) (ab 6)) (aa (f2 av (f2 av (f2 av (ab 0) (fC (.int 2))) (ab 6)) (fC (.int 2))) (aa (ab 5) ae))))) (ay 5 [4,5,6] (f2 Dl.iw (ab 5) (f2 av (ab 4) (ab 6)))))) (aD (bf bQ (aa (ab 4) ae))))))
noncomputable def dR:List D->Option D:=bb gJ 7
abbrev oG:List Str:=["world","side","offers","sums","place","chosen"]
noncomputable def dA:ak->Option Out:=(aq (aO 3 [0] (ao 1 [] (aR (f2 av (ab 0) (fC (.int 2)))) (fG 0) (fun _=>some true) (fC (.int 0)))) (aq (fH [0,1] (bF (aa (bf bq (aa (f2 av (ab 0) (ab 1)) ae)) ae)) (mQ 4) (aq (ay 5 [0,1,2,4] (ah 4 dR (aa (ab 0) (aa (ab 1) (aa (ab 4) (aa (ab 2) ae)))))) (aO 3 [3,5] (ao 2 [] (gh (aa (ab 3) (aa (ab 5) ae))) (gN 0 1) (fun _=>some true) (f2 aM (ab 0) (ab 1)))))) (aD (bf bQ (aa (ab 3) ae)))))
noncomputable def az:List D->Option D:=bb dA 6
abbrev xP:List Str:=["world","side","offers"]
noncomputable def g0:ak->Option Out:=(aq (jF (ah 1 aA (aa (ab 0) ae))) (aq (jF (ah 1 fV (aa (ab 1) ae))) (aD (ah 3 az (aa (ab 0) (aa (ab 1) (aa (ab 2) ae)))))))
noncomputable def cU:List D->Option D:=bb g0 3
abbrev D1:List Str:=["world"]
noncomputable def pR:ak->Option Out:=(aD (bf bQ (aa (bZ (ao 1 [] (aR (f2 av (ab 0) (fC (.int 2)))) (fG 0) (fun _=>some true) (f2 av (ab 0) (fC (.int 2))))) ae)))
noncomputable def du:List D->Option D:=bb pR 1
abbrev Ca:List Str:=["caps","way","cap"]
noncomputable def nK:ak->Option Out:=(aD (ah 3 i3 (aa (ab 0) (aa (ab 1) (aa (ab 2) ae)))))
noncomputable def bD:List D->Option D:=bb nK 3
abbrev C2:List Str:=["world","caps","given","kept","way","many"]
noncomputable def kq:ak->Option Out:=(aq (ay 2 [0,1] (ah 3 az (aa (ab 0) (aa (fC (.int 0)) (aa (ab 1) ae))))) (aq (ay 3 [0,2] (ah 3 az (aa (ab 0) (aa (fC (.int 1)) (aa (ab 2) ae))))) (aq (fH [3] (bV (aa (ab 3) ae)) (js 4 5) (eL (fB (f2 xb (ab 5) (f2 av (ab 2) (ab 4)))) (aD (aS (aa (ab 4) (aa (ab 5) ae)))) eF)) (aD (fC .none)))))
noncomputable def dZ:List D->Option D:=bb kq 6
abbrev Jf:List Str:=["world","rows","caps","row"]
noncomputable def o7:ak->Option Out:=(aq (aO 1 [] (cG ae)) (aq (ay 2 [0] (ah 1 du (aa (ab 0) ae))) (aq (ay 3 [0,2] (ah 2 dZ (aa (ab 0) (aa (ab 2) ae)))) (aq (Gw (fB (f2 mK (ab 3) (fC .none))) (aq (jI 1 [3] (ab 3)) (aq (ay 2 [2,3] (ah 3 bD (aa (ab 2) (aa (f2 av (ab 3) (fC (.int 0))) (aa (f2 av (ab 3) (fC (.int 1))) ae))))) (ay 3 [0,2] (ah 2 dZ (aa (ab 0) (aa (ab 2) ae)))))) Rf.turns) (aD (ab 1))))))
noncomputable def jw:List D->Option D:=bb o7 4
abbrev ES:List Str:=["world","rows","caps","way","cap"]
noncomputable def l0:ak->Option Out:=(aq (ay 2 [0] (ah 1 du (aa (ab 0) ae))) (aq (fH [1] (aR (ab 1)) (js 3 4) (ay 2 [2,3,4] (ah 3 bD (aa (ab 2) (aa (ab 3) (aa (ab 4) ae)))))) (aD (ab 2))))
noncomputable def fv:List D->Option D:=bb l0 5
abbrev rY:List Str:=["world"]
noncomputable def eX:ak->Option Out:=(aq (jF (ah 1 aA (aa (ab 0) ae))) (aD (ah 3 az (aa (ab 0) (aa (fC (.int 0)) (aa (ah 2 fv (aa (ab 0) (aa (ah 1 jw (aa (ab 0) ae)) ae))) ae))))))
noncomputable def aP:List D->Option D:=bb eX 1
abbrev vU:List Str:=["_law_script","_law_k"]
noncomputable def gS:ak->Option Out:=(aq (eL (fB (f2 cf (ab 0) (bZ (cG ae)))) (aD (f2 eQ (fC (.int 7)) (ab 1))) eF) (aD (f2 aM (f2 av (ab 0) (f2 kX (ab 1) (bf bq (aa (ab 0) ae)))) (f2 eQ (fC (.int 6553)) (f2 md (ab 1) (bf bq (aa (ab 0) ae)))))))
noncomputable def dY:List D->Option D:=bb gS 2
abbrev ua:List Str:=["_law_script","_law_k","_law_many","_law_cell_here"]
noncomputable def jy:ak->Option Out:=(aq (ay 3 [0,1] (f2 kX (f2 aM (f2 eQ (f2 kX (ah 2 dY (aa (ab 0) (aa (ab 1) ae))) (fC (.int 2147483563))) (fC (.int 69069))) (f2 eQ (fC (.int 104723)) (f2 aM (ab 1) (fC (.int 1))))) (fC (.int 2147483563)))) (aq (ay 3 [3] (f2 kX (f2 aM (f2 eQ (ab 3) (ab 3)) (f2 md (ab 3) (fC (.int 3)))) (fC (.int 2147483399)))) (aD (f2 kX (f2 md (f2 kX (f2 aM (f2 eQ (ab 3) (ab 3)) (f2 md (ab 3) (fC (.int 7)))) (fC (.int 2147483647))) (fC (.int 11))) (ab 2)))))
noncomputable def aj:List D->Option D:=bb jy 4
abbrev rR:List Str:=["_law_script","_law_at","_law_rows","_law_found","_law_k","_law_row","_law_order","_law_j","_law_one"]
noncomputable def il:ak->Option Out:=(aq (aO 3 [] (cG ae)) (aq (fH [2] (bV (aa (ab 2) ae)) (js 4 5) (aq (aO 6 [] (cG ae)) (aq (fH [5] (bV (aa (ab 5) ae)) (js 7 8) (Fb 6 [8] (ah 3 aj (aa (ab 0) (aa (f2 aM (f2 aM (ab 1) (f2 eQ (fC (.int 4)) (ab 4))) (ab 7)) (aa (f2 aM (bf bq (aa (ab 6) ae)) (fC (.int 1))) ae)))) (ab 8))) (jI 3 [6] (bf bQ (aa (ab 6) ae)))))) (aD (ab 3))))
noncomputable def bN:List D->Option D:=bb il 9
abbrev uX:List Str:=["_law_script","_law_at","_law_most","_law_each","_law_takers","_law_many","_law_size","_law_ways","_law_k","_law_mine","_law_yours","_law_givers"]
noncomputable def eu:ak->Option Out:=(aq (eL (fS (fB (f2 Dq (ab 2) (fC (.int 3)))) (fB (f2 cf (ah 3 aj (aa (ab 0) (aa (f2 aM (ab 1) (fC (.int 64))) (aa (fC (.int 4)) ae)))) (fC (.int 0))))) (aq (ay 3 [0,1] (f2 aM (fC (.int 1)) (ah 3 aj (aa (ab 0) (aa (f2 aM (ab 1) (fC (.int 65))) (aa (fC (.int 2)) ae)))))) (aq (ay 4 [3] (aS (aa (aS (aa (ab 3) (aa (aS (aa (fC (.int 1)) (aa (fC (.int 0)) ae))) ae))) (aa (aS (aa (ab 3) (aa (aS (aa (fC (.int 0)) (aa (fC (.int 1)) ae))) ae))) ae)))) (aD (aS (aa (aS (aa (aS (aa (ab 3) (aa (aS (aa (fC (.int 0)) (aa (fC (.int 1)) ae))) ae))) (aa (aS (aa (ab 3) (aa (aS (aa (fC (.int 1)) (aa (fC (.int 0)) ae))) ae))) ae))) (aa (ab 4) (aa (aS (aa (aS (aa (fC (.int 0)) (aa (fC (.int 0)) (aa (fC (.int 2)) ae)))) (aa (aS (aa (fC (.int 0)) (aa (fC (.int 1)) (aa (fC (.int 2)) ae)))) (aa (aS (aa (fC (.int 1)) (aa (fC (.int 0)) (aa (fC (.int 2)) ae)))) (aa (aS (aa (fC (.int 1)) (aa (fC (.int 1)) (aa (fC (.int 2)) ae)))) ae))))) ae))))))) eF) (aq (ay 5 [0,1] (f2 aM (fC (.int 1)) (ah 3 aj (aa (ab 0) (aa (ab 1) (aa (fC (.int 3)) ae)))))) (aq (ay 6 [0,1] (f2 aM (fC (.int 1)) (ah 3 aj (aa (ab 0) (aa (f2 aM (ab 1) (fC (.int 1))) (aa (fC (.int 3)) ae)))))) (aq (aO 7 [] (cG ae)) (aq (fH [5,6] (bF (aa (f2 eQ (ab 5) (ab 6)) ae)) (mQ 8) (eL (fS (fB (f2 xb (bf bq (aa (ab 7) ae)) (ab 2))) (fB (f2 Dq (ah 3 aj (aa (ab 0) (aa (f2 aM (f2 aM (ab 1) (fC (.int 2))) (ab 8)) (aa (fC (.int 4)) ae)))) (fC (.int 0))))) (jI 7 [0,1,6,8] (aS (aa (f2 md (ab 8) (ab 6)) (aa (f2 kX (ab 8) (ab 6)) (aa (f2 aM (fC (.int 1)) (ah 3 aj (aa (ab 0) (aa (f2 aM (f2 aM (ab 1) (fC (.int 12))) (ab 8)) (aa (fC (.int 2)) ae))))) ae))))) eF)) (aq (ay 9 [0,1,5,7] (ah 3 bN (aa (ab 0) (aa (f2 aM (ab 1) (fC (.int 24))) (aa (bZ (ao 1 [7] (bF (aa (ab 5) ae)) (fG 0) (fun _=>some true) (bZ (ao 1 [0] (aR (ab 1)) (fG 0) (fB (f2 cf (f2 av (ab 0) (fC (.int 0))) (ab 1))) (f2 av (ab 0) (fC (.int 1))))))) ae))))) (aq (ay 10 [0,1,6,7] (ah 3 bN (aa (ab 0) (aa (f2 aM (ab 1) (fC (.int 40))) (aa (bZ (ao 1 [7] (bF (aa (ab 6) ae)) (fG 0) (fun _=>some true) (bZ (ao 1 [0] (aR (ab 1)) (fG 0) (fB (f2 cf (f2 av (ab 0) (fC (.int 1))) (ab 1))) (f2 av (ab 0) (fC (.int 0))))))) ae))))) (aq (ay 11 [0,1,8,9] (bf bQ (aa (bZ (ao 2 [0,1] (bV (aa (ab 9) ae)) (gN 0 1) (fun _=>some true) (aS (aa (ah 3 aj (aa (ab 2) (aa (f2 aM (f2 aM (ab 3) (fC (.int 56))) (ab 0)) (aa (fC (.int 4)) ae)))) (aa (ab 1) ae))))) ae))) (aq (ay 4 [0,1,8,10] (bf bQ (aa (bZ (ao 2 [0,1] (bV (aa (ab 10) ae)) (gN 0 1) (fun _=>some true) (aS (aa (ah 3 aj (aa (ab 2) (aa (f2 aM (f2 aM (ab 3) (fC (.int 60))) (ab 0)) (aa (fC (.int 4)) ae)))) (aa (ab 1) ae))))) ae))) (aD (aS (aa (ab 11) (aa (ab 4) (aa (bf bQ (aa (ab 7) ae)) ae))))))))))))))
noncomputable def bY:List D->Option D:=bb eu 12
abbrev BM:List Str:=["world","plan","side","place"]
noncomputable def m5:ak->Option Out:=(aD (bf Cw (aa (bZ (ao 2 [2,3] (gh (aa (f2 av (ab 0) (fC (.int 2))) (aa (ab 1) ae))) (gN 0 1) (fB (f2 cf (f2 av (ab 0) (ab 2)) (ab 3))) (ab 1))) ae)))
noncomputable def dh:List D->Option D:=bb m5 4
abbrev oE:List Str:=["world","plan","side"]
noncomputable def fK:ak->Option Out:=(aD (bf jo (aa (bZ (ao 2 [0,1,2] (bV (aa (f2 av (ab 0) (ab 2)) ae)) (gN 0 1) (fun _=>some true) (f2 tq (ah 4 dh (aa (ab 2) (aa (ab 3) (aa (ab 4) (aa (ab 0) ae))))) (f2 av (ab 1) (fC (.int 0)))))) ae)))
noncomputable def cF:List D->Option D:=bb fK 3
abbrev BZ:List Str:=["world","thing","ways"]
noncomputable def kr:ak->Option Out:=(aq (ay 2 [0] (f2 av (ab 0) (fC (.int 2)))) (aq (eL (aX (fB (ah 3 aU (aa (ab 1) (aa (bf bq (aa (ab 2) ae)) (aa (bf bq (aa (ab 2) ae)) ae)))))) (aD (fC (.bool false))) eF) (aq (eL (aX (fB (bf jo (aa (bZ (ao 2 [] (gh (aa (ab 2) (aa (ab 1) ae))) (gN 0 1) (fun _=>some true) (ah 3 aK (aa (ab 1) (aa (fC (.int 0)) (aa (f2 av (ab 0) (fC (.int 2))) ae)))))) ae)))) (aD (fC (.bool false))) eF) (aD (iO (ah 3 cF (aa (ab 0) (aa (ab 1) (aa (fC (.int 0)) ae)))) (ah 3 cF (aa (ab 0) (aa (ab 1) (aa (fC (.int 1)) ae)))))))))
noncomputable def da:List D->Option D:=bb kr 3
abbrev ur:List Str:=["world","plan"]
noncomputable def eD:ak->Option Out:=(aq (jF (ah 1 aA (aa (ab 0) ae))) (eL (aX (fB (ah 2 da (aa (ab 0) (aa (ab 1) ae))))) Mm eF))
noncomputable def dk:List D->Option D:=bb eD 2
abbrev qb:List Str:=["world","ways"]
noncomputable def ek:ak->Option Out:=(aq (ay 1 [0] (f2 av (ab 0) (fC (.int 2)))) (aD (bZ (pQ [1] (aa (bf bq (aa (ab 1) ae)) ae) (aS (aa (f2 av (f2 av (ab 1) (ab 0)) (fC (.int 1))) (aa (f2 av (f2 av (ab 1) (ab 0)) (fC (.int 0))) ae)))))))
noncomputable def ba:List D->Option D:=bb ek 2
abbrev EK:List Str:=["world","ways"]
noncomputable def mn:ak->Option Out:=(aq (jF (ah 1 aA (aa (ab 0) ae))) (aq (aO 1 [0] (ao 1 [0] (aR (ah 1 ba (aa (ab 0) ae))) (fG 0) (fun _=>some true) (f2 av (f2 av (ab 1) (fC (.int 2))) (ab 0)))) (aD (aS (aa (f2 av (ab 0) (fC (.int 1))) (aa (f2 av (ab 0) (fC (.int 0))) (aa (bf bQ (aa (bZ (ao 3 [] (aR (ab 1)) (Gy 0 1 2) (fun _=>some true) (aS (aa (ab 1) (aa (ab 0) (aa (ab 2) ae)))))) ae)) ae)))))))
noncomputable def fy:List D->Option D:=bb mn 2
abbrev rA:List Str:=["world","plan"]
noncomputable def eV:ak->Option Out:=(aq (jF (ah 2 dk (aa (ab 0) (aa (ab 1) ae)))) (aD (bf bQ (aa (bZ (ao 1 [1] (aR (ah 1 ba (aa (ab 0) ae))) (fG 0) (fun _=>some true) (f2 av (ab 1) (ab 0)))) ae))))
noncomputable def b8:List D->Option D:=bb eV 2
abbrev uQ:List Str:=["world","plan","side","way","place","own","less_liked"]
noncomputable def f7:ak->Option Out:=(aq (ay 4 [0,2,3] (f2 av (f2 av (f2 av (ab 0) (fC (.int 2))) (ab 3)) (ab 2))) (aq (eL (fB (f2 xb (ah 4 dh (aa (ab 0) (aa (ab 1) (aa (ab 2) (aa (ab 4) ae))))) (f2 av (f2 av (f2 av (ab 0) (ab 2)) (ab 4)) (fC (.int 0))))) (aD (fC (.bool true))) eF) (aq (ay 5 [0,2,4] (ah 3 eM (aa (ab 0) (aa (ab 2) (aa (ab 4) ae))))) (aq (ay 6 [3,5] (kb fA (ab 5) (wt (f2 aM (f2 oC (ab 5) (ab 3)) (fC (.int 1)))) j1)) (aD (bf Rf.Fj (aa (bZ (ao 1 [1] (aR (ab 6)) (fG 0) (fun _=>some true) (f2 Dq (f2 av (ab 1) (ab 0)) (fC (.int 0))))) ae)))))))
noncomputable def cA:List D->Option D:=bb f7 7
abbrev As:List Str:=["world","plan","way"]
noncomputable def jv:ak->Option Out:=(aq (eL (fB (f2 cf (f2 av (ab 1) (ab 2)) (f2 av (f2 av (f2 av (ab 0) (fC (.int 2))) (ab 2)) (fC (.int 2))))) (aD (fC (.str "full"))) eF) (aq (eL (aX (fB (ah 4 cA (aa (ab 0) (aa (ab 1) (aa (fC (.int 0)) (aa (ab 2) ae))))))) (aD (fC (.str "giver"))) eF) (aq (eL (aX (fB (ah 4 cA (aa (ab 0) (aa (ab 1) (aa (fC (.int 1)) (aa (ab 2) ae))))))) (aD (fC (.str "taker"))) eF) (aD (fC .none)))))
noncomputable def eR:List D->Option D:=bb jv 3
abbrev oH:List Str:=["world","plan","way"]
noncomputable def dC:ak->Option Out:=(aq (fH [1] (bF (aa (bf bq (aa (ab 1) ae)) ae)) (mQ 2) (eL (fB (f2 mi (ah 3 eR (aa (ab 0) (aa (ab 1) (aa (ab 2) ae)))) (fC .none))) (aD (ab 2)) eF)) (aD (fC .none)))
noncomputable def dD:List D->Option D:=bb dC 3
abbrev yN:List Str:=["world","plan"]
noncomputable def jt:ak->Option Out:=(aD (f2 mi (ah 2 dD (aa (ab 0) (aa (ab 1) ae))) (fC .none)))
noncomputable def dQ:List D->Option D:=bb jt 2
abbrev se:List Str:=["world","other"]
noncomputable def eY:ak->Option Out:=(aq (ay 1 [0] (ah 1 fy (aa (ab 0) ae))) (aD (ah 2 b8 (aa (ab 1) (aa (ah 1 aP (aa (ab 1) ae)) ae)))))
noncomputable def cM:List D->Option D:=bb eY 2
abbrev HC:List Str:=["world"]
noncomputable def oU:ak->Option Out:=(aq (jF (ah 1 aA (aa (ab 0) ae))) (aD (ah 1 jw (aa (ab 0) ae))))
noncomputable def jf:List D->Option D:=bb oU 1
abbrev qX:List Str:=["world","thing"]
noncomputable def d7:ak->Option Out:=(aD (iO (ah 3 aU (aa (ab 1) (aa (fC (.int 2)) (aa (fC (.int 2)) ae)))) (iO (ah 2 bh (aa (f2 av (ab 1) (fC (.int 0))) (aa (bf bq (aa (f2 av (ab 0) (fC (.int 2))) ae)) ae))) (ah 3 aK (aa (f2 av (ab 1) (fC (.int 1))) (aa (fC (.int 0)) (aa (fC (.int 9)) ae)))))))
noncomputable def cq:List D->Option D:=bb d7 2
abbrev Cq:List Str:=["world","caps","row","given","kept"]
noncomputable def ku:ak->Option Out:=(aq (ay 3 [0,1] (ah 3 az (aa (ab 0) (aa (fC (.int 0)) (aa (ab 1) ae))))) (aq (ay 4 [0,3] (ah 3 az (aa (ab 0) (aa (fC (.int 1)) (aa (ab 3) ae))))) (aD (gw tq xb (f2 av (ab 4) (f2 av (ab 2) (fC (.int 0)))) (f2 av (ab 2) (fC (.int 1))) (f2 av (ab 3) (f2 av (ab 2) (fC (.int 0))))))))
noncomputable def iP:List D->Option D:=bb ku 5
abbrev rX:List Str:=["world","rows","caps","row"]
noncomputable def eU:ak->Option Out:=(aq (eL (iD (aX (fB (GB "list" (ab 1)))) (aX (fB (bf jo (aa (bZ (ao 1 [0] (aR (ab 1)) (fG 0) (fun _=>some true) (ah 2 cq (aa (ab 1) (aa (ab 0) ae))))) ae))))) (aD (fC .none)) eF) (aq (ay 2 [0] (ah 1 du (aa (ab 0) ae))) (aq (fH [1] (aR (ab 1)) (mQ 3) (aq (eL (aX (fB (ah 3 iP (aa (ab 0) (aa (ab 2) (aa (ab 3) ae)))))) (aD (fC .none)) eF) (ay 2 [2,3] (ah 3 bD (aa (ab 2) (aa (f2 av (ab 3) (fC (.int 0))) (aa (f2 av (ab 3) (fC (.int 1))) ae))))))) (aD (ab 2)))))
noncomputable def cK:List D->Option D:=bb eU 4
abbrev BO:List Str:=["world","rows"]
noncomputable def kC:ak->Option Out:=(aq (jF (ah 1 aA (aa (ab 0) ae))) (aD (ah 2 cK (aa (ab 0) (aa (ab 1) ae)))))
noncomputable def cL:List D->Option D:=bb kC 2
abbrev G1:List Str:=["world","rows"]
noncomputable def oX:ak->Option Out:=(aD (f2 mK (ah 2 cL (aa (ab 0) (aa (ab 1) ae))) (fC .none)))
noncomputable def fU:List D->Option D:=bb oX 2
abbrev GH:List Str:=["world","plan","rows","caps"]
noncomputable def oY:ak->Option Out:=(aq (jF (ah 2 dk (aa (ab 0) (aa (ab 1) ae)))) (aq (ay 3 [0,2] (ah 2 cK (aa (ab 0) (aa (ab 2) ae)))) (aq (eL (iD (fB (f2 mi (ab 3) (fC .none))) (aX (fB (ah 2 dQ (aa (ab 0) (aa (ab 1) ae)))))) (aD (fC (.bool false))) eF) (aD (f2 cf (ab 1) (ah 3 az (aa (ab 0) (aa (fC (.int 0)) (aa (ab 3) ae)))))))))
noncomputable def cO:List D->Option D:=bb oY 4
abbrev xG:List Str:=["world","thing","caps"]
noncomputable def gX:ak->Option Out:=(aq (jF (ah 1 aA (aa (ab 0) ae))) (aq (eL (iD (aX (fB (ah 2 da (aa (ab 0) (aa (ab 1) ae))))) (fB (f2 dg (bf bq (aa (ab 1) ae)) (bf bq (aa (ab 2) ae))))) (aD (fC (.bool false))) eF) (aD (bf jo (aa (bZ (ao 2 [] (gh (aa (ab 1) (aa (ab 2) ae))) (gN 0 1) (fun _=>some true) (f2 tq (ab 0) (ab 1)))) ae)))))
noncomputable def e8:List D->Option D:=bb gX 3
abbrev um:List Str:=["world","many","way"]
noncomputable def ee:ak->Option Out:=(aq (ay 1 [] (fC (.int 1))) (aq (fH [0] (aR (f2 av (ab 0) (fC (.int 2)))) (mQ 2) (ay 1 [1,2] (f2 eQ (ab 1) (f2 aM (f2 av (ab 2) (fC (.int 2))) (fC (.int 1)))))) (eL (fB (f2 Dq (ab 1) (fC (.int 3000)))) Mm eF)))
noncomputable def fZ:List D->Option D:=bb ee 3
abbrev oz:List Str:=["ways","found","way","longer","begun"]
noncomputable def dG:ak->Option Out:=(aq (aO 1 [] (cG (aa (aS ae) ae))) (aq (fH [0] (aR (ab 0)) (mQ 2) (aq (aO 3 [] (cG ae)) (aq (fH [1] (aR (ab 1)) (mQ 4) (vC 3 [2,4] (ao 1 [4] (bF (aa (f2 aM (f2 av (ab 2) (fC (.int 2))) (fC (.int 1))) ae)) (fG 0) (fun _=>some true) (f2 aM (ab 1) (aS (aa (ab 0) ae)))))) (ay 1 [3] (ab 3))))) (aD (ab 1))))
noncomputable def dB:List D->Option D:=bb dG 5
abbrev xy:List Str:=["world"]
noncomputable def gM:ak->Option Out:=(aq (jF (ah 1 aA (aa (ab 0) ae))) (aq (jF (ah 1 fZ (aa (ab 0) ae))) (aD (bZ (ao 1 [0] (aR (ah 1 dB (aa (f2 av (ab 0) (fC (.int 2))) ae))) (fG 0) (fB (ah 2 da (aa (ab 1) (aa (ab 0) ae)))) (ab 0))))))
noncomputable def gP:List D->Option D:=bb gM 1
abbrev wU:List Str:=["world"]
noncomputable def gO:ak->Option Out:=(aD (bZ (ao 1 [0] (aR (ah 1 gP (aa (ab 0) ae))) (fG 0) (fB (ah 2 dQ (aa (ab 1) (aa (ab 0) ae)))) (ab 0))))
noncomputable def fF:List D->Option D:=bb gO 1
abbrev tL:List Str:=["_law_script","_law_world_here","_law_plans","_law_best","_law_own","_law_rows","_law_more","_law_caps","_law_offers","_law_some","_law_ways","_law_here","_law_way","_law_other","_law_yours"]
noncomputable def tm:ak->Option Out:=(aq (ay 1 [0] (ah 3 bY (aa (ab 0) (aa (fC (.int 0)) (aa (fC (.int 4)) ae))))) (aq (ay 2 [1] (ah 1 fF (aa (ab 1) ae))) (aq (ay 3 [1] (ah 1 aP (aa (ab 1) ae))) (aq (ay 4 [1] (ah 1 jf (aa (ab 1) ae))) (aq (eL (iD (aX (fB (ah 2 fU (aa (ab 1) (aa (ab 4) ae))))) (iD (aX (fB (ah 3 cO (aa (ab 1) (aa (ab 3) (aa (ab 4) ae)))))) (fB (f2 dg (ah 2 cL (aa (ab 1) (aa (ab 4) ae))) (ah 2 fv (aa (ab 1) (aa (ab 4) ae))))))) (aD (fC (.bool false))) eF) (aq (eL (fB (f2 dg (bZ (ao 1 [1,3,4] (aR (ab 2)) (fG 0) (fS (fB (f2 dg (ab 0) (ab 2))) (fB (ah 3 cO (aa (ab 1) (aa (ab 0) (aa (ab 3) ae)))))) (ab 0))) (bZ (cG ae)))) (aD (fC (.bool false))) eF) (aq (aO 5 [] (cG ae)) (aq (ay 6 [] (fC (.bool true))) (aq (Gw (fB (ab 6)) (aq (ay 7 [1,5] (ah 2 cL (aa (ab 1) (aa (ab 5) ae)))) (aq (eL (fB (f2 mi (ab 7) (fC .none))) (aD (fC (.bool false))) eF) (aq (eL (fB (f2 dg (bZ (ao 1 [1,7] (aR (ab 2)) (fG 0) (aX (fB (ah 3 e8 (aa (ab 1) (aa (ab 0) (aa (ab 2) ae)))))) (ab 0))) (bZ (cG ae)))) (aD (fC (.bool false))) eF) (aq (ay 8 [1,7] (ah 3 cU (aa (ab 1) (aa (fC (.int 0)) (aa (ab 7) ae))))) (aq (ay 9 [1,8] (ah 3 cU (aa (ab 1) (aa (fC (.int 1)) (aa (ab 8) ae))))) (aq (aO 10 [7,8,9,12] (ao 1 [8,9] (bF (aa (bf bq (aa (ab 7) ae)) ae)) (fG 0) (fB (f2 xb (f2 av (ab 2) (ab 0)) (f2 av (ab 1) (ab 0)))) (ab 0))) (aq (ay 6 [10] (f2 dg (ab 10) (bZ (cG ae)))) (aq (eL (iD (fB (f2 dg (ah 3 cO (aa (ab 1) (aa (ab 3) (aa (ab 5) ae)))) (u0 (ab 6)))) (fS (fB (f2 dg (f2 cf (ab 8) (ab 3)) (u0 (ab 6)))) (aX (fB (ab 6))))) (aD (fC (.bool false))) eF) (eL (fB (ab 6)) (aq (ay 11 [5] (f2 aM (fC (.int 70)) (f2 eQ (fC (.int 2)) (bf bq (aa (ab 5) ae))))) (aq (ay 12 [0,10,11] (f2 av (ab 10) (ah 3 aj (aa (ab 0) (aa (ab 11) (aa (bf bq (aa (ab 10) ae)) ae)))))) (jI 5 [0,8,9,11,12] (aS (aa (ab 12) (aa (f2 aM (f2 av (ab 9) (ab 12)) (ah 3 aj (aa (ab 0) (aa (f2 aM (ab 11) (fC (.int 1))) (aa (f2 Dl.iw (f2 av (ab 8) (ab 12)) (f2 av (ab 9) (ab 12))) ae))))) ae)))))) eF))))))))) Rf.turns) (aq (eL (fB (f2 dg (bZ (ao 1 [1,5] (bF (aa (bf bq (aa (ab 5) ae)) ae)) (fG 0) (aX (fB (ah 2 fU (aa (ab 1) (aa (kb fA (ab 2) j1 (wt (ab 0))) ae))))) (ab 0))) (bZ (cG ae)))) (aD (fC (.bool false))) eF) (aq (ay 13 [1] (ah 1 fy (aa (ab 1) ae))) (aq (ay 14 [13] (ah 2 b8 (aa (ab 13) (aa (ah 1 aP (aa (ab 13) ae)) ae)))) (aD (iO (f2 cf (ab 14) (ah 1 cM (aa (ab 1) ae))) (ah 3 cO (aa (ab 13) (aa (ah 1 aP (aa (ab 13) ae)) (aa (ah 1 jf (aa (ab 13) ae)) ae))))))))))))))))))
noncomputable def iB:List D->Option D:=bb tm 15
end Pg
namespace K61
open PySem L2 Dl PySem.Spec PyProof.Rows
open Pg
noncomputable abbrev lr:Stmt:=top 9
noncomputable abbrev zq:Rf.Sg:=⟨[],[]⟩
theorem Aa:Rf.tW lr zl zq none=some lI:=by kernel_rfl
noncomputable abbrev jS:Stmt:=top 10
noncomputable abbrev xn:Rf.Sg:=⟨[("is_whole",3,aK)],[]⟩
theorem xQ:Rf.tW jS xi xn none=some jR:=by kernel_rfl
noncomputable abbrev nG:Stmt:=top 11
noncomputable abbrev Cy:Rf.Sg:=⟨[],[]⟩
theorem CT:Rf.tW nG BK Cy none=some nJ:=by kernel_rfl
noncomputable abbrev j9:Stmt:=top 12
noncomputable abbrev vS:Rf.Sg:=⟨[("is_number",2,bh)],[]⟩
theorem wD:Rf.tW j9 x5 vS none=some kg:=by kernel_rfl
noncomputable abbrev qQ:Stmt:=top 13
noncomputable abbrev Ds:Rf.Sg:=⟨[("is_long",3,aU),("is_whole",3,aK),("are_likes",2,fI)],[("MOST",9)]⟩
theorem E5:Rf.tW qQ F3 Ds none=some qw:=by kernel_rfl
noncomputable abbrev qV:Stmt:=top 14
noncomputable abbrev FU:Rf.Sg:=⟨[("is_long",3,aU),("is_number",2,bh),("is_whole",3,aK)],[("MOST",9)]⟩
theorem Dt:Rf.tW qV Em FU none=some pY:=by kernel_rfl
noncomputable abbrev j6:Stmt:=top 15
noncomputable abbrev xl:Rf.Sg:=⟨[("is_long",3,aU),("is_end",2,fj),("is_way",3,iJ)],[("MOST_PLACES",4)]⟩
theorem xD:Rf.tW j6 wc xl none=some j4:=by kernel_rfl
noncomputable abbrev hC:Stmt:=top 16
noncomputable abbrev rE:Rf.Sg:=⟨[],[]⟩
theorem rZ:Rf.tW hC sk rE none=some ig:=by kernel_rfl
noncomputable abbrev lP:Stmt:=top 17
noncomputable abbrev zt:Rf.Sg:=⟨[("liked_pairs",1,bx),("is_long",3,aU),("are_parts",3,fu)],[]⟩
theorem yz:Rf.tW lP z7 zt none=some gq:=by kernel_rfl
noncomputable abbrev nS:Stmt:=top 18
noncomputable abbrev C4:Rf.Sg:=⟨[],[]⟩
theorem Ck:Rf.tW nS BM C4 none=some m5:=by kernel_rfl
noncomputable abbrev fM:Stmt:=top 19
noncomputable abbrev oA:Rf.Sg:=⟨[("through",4,dh)],[]⟩
theorem oR:Rf.tW fM oE oA none=some fK:=by kernel_rfl
noncomputable abbrev nh:Stmt:=top 20
noncomputable abbrev CJ:Rf.Sg:=⟨[("is_long",3,aU),("keeps_amounts",3,cF),("is_whole",3,aK)],[]⟩
theorem Cn:Rf.tW nh BZ CJ none=some kr:=by kernel_rfl
noncomputable abbrev iu:Stmt:=top 21
noncomputable abbrev so:Rf.Sg:=⟨[("is_world",1,cB)],[]⟩
theorem rN:Rf.tW iu r6 so none=some dz:=by kernel_rfl
noncomputable abbrev iY:Stmt:=top 22
noncomputable abbrev uY:Rf.Sg:=⟨[("check_world",1,aA),("is_plan",2,da)],[]⟩
theorem vm:Rf.tW iY ur uY none=some eD:=by kernel_rfl
noncomputable abbrev hJ:Stmt:=top 23
noncomputable abbrev rJ:Rf.Sg:=⟨[("is_whole",3,aK)],[]⟩
theorem rQ:Rf.tW hJ sg rJ none=some dy:=by kernel_rfl
noncomputable abbrev gm:Stmt:=top 24
noncomputable abbrev qS:Rf.Sg:=⟨[("check_whole",3,eZ)],[]⟩
theorem pM:Rf.tW gm rf qS none=some cX:=by kernel_rfl
noncomputable abbrev jm:Stmt:=top 25
noncomputable abbrev uh:Rf.Sg:=⟨[("check_number",2,d9)],[]⟩
theorem uj:Rf.tW jm tY uh none=some ej:=by kernel_rfl
noncomputable abbrev lS:Stmt:=top 26
noncomputable abbrev Ao:Rf.Sg:=⟨[],[]⟩
theorem yX:Rf.tW lS zv Ao none=some lQ:=by kernel_rfl
noncomputable abbrev gC:Stmt:=top 27
noncomputable abbrev pJ:Rf.Sg:=⟨[],[]⟩
theorem qg:Rf.tW gC qb pJ (some "turned_order.<locals>.<lambda>")=some ek:=by kernel_rfl
noncomputable abbrev p8:Stmt:=top 28
noncomputable abbrev Fn:Rf.Sg:=⟨[("check_world",1,aA),("turned_order",1,ba)],[]⟩
theorem E2:Rf.tW p8 EK Fn none=some mn:=by kernel_rfl
noncomputable abbrev ix:Stmt:=top 29
noncomputable abbrev rW:Rf.Sg:=⟨[("check_plan",2,dk),("turned_order",1,ba)],[]⟩
theorem sr:Rf.tW ix rA rW none=some eV:=by kernel_rfl
noncomputable abbrev nW:Stmt:=top 31
noncomputable abbrev C5:Rf.Sg:=⟨[],[]⟩
theorem Dg:Rf.tW nW BW C5 (some "ways_of.<locals>.<lambda>")=some kW:=by kernel_rfl
noncomputable abbrev ka:Stmt:=top 32
noncomputable abbrev xj:Rf.Sg:=⟨[("ways_of",3,eM)],[]⟩
theorem wC:Rf.tW ka wo xj none=some gJ:=by kernel_rfl
noncomputable abbrev jj:Stmt:=top 33
noncomputable abbrev ve:Rf.Sg:=⟨[("ways_of",3,eM),("through",4,dh)],[]⟩
theorem vp:Rf.tW jj uQ ve none=some f7:=by kernel_rfl
noncomputable abbrev lD:Stmt:=top 34
noncomputable abbrev yY:Rf.Sg:=⟨[("wants_more",4,cA)],[]⟩
theorem zh:Rf.tW lD As yY none=some jv:=by kernel_rfl
noncomputable abbrev fN:Stmt:=top 35
noncomputable abbrev ow:Rf.Sg:=⟨[("why_kept",3,eR)],[]⟩
theorem oP:Rf.tW fN oH ow none=some dC:=by kernel_rfl
noncomputable abbrev lu:Stmt:=top 36
noncomputable abbrev yu:Rf.Sg:=⟨[("first_leaving",2,dD)],[]⟩
theorem yP:Rf.tW lu yN yu none=some jt:=by kernel_rfl
noncomputable abbrev fL:Stmt:=top 38
noncomputable abbrev oD:Rf.Sg:=⟨[("chosen_by",4,dR)],[]⟩
theorem oQ:Rf.tW fL oG oD none=some dA:=by kernel_rfl
noncomputable abbrev jW:Stmt:=top 39
noncomputable abbrev xm:Rf.Sg:=⟨[("check_world",1,aA),("check_side",1,fV),("chosen_by_all",3,az)],[]⟩
theorem xH:Rf.tW jW xP xm none=some g0:=by kernel_rfl
noncomputable abbrev qd:Stmt:=top 40
noncomputable abbrev FW:Rf.Sg:=⟨[],[]⟩
theorem FQ:Rf.tW qd D1 FW none=some pR:=by kernel_rfl
noncomputable abbrev nR:Stmt:=top 41
noncomputable abbrev CI:Rf.Sg:=⟨[("replaced",3,i3)],[]⟩
theorem BU:Rf.tW nR Ca CI none=some nK:=by kernel_rfl
noncomputable abbrev nN:Stmt:=top 42
noncomputable abbrev B3:Rf.Sg:=⟨[("chosen_by_all",3,az)],[]⟩
theorem CU:Rf.tW nN C2 B3 none=some kq:=by kernel_rfl
noncomputable abbrev uP:Stmt:=top 43
noncomputable abbrev G0:Rf.Sg:=⟨[("limits",1,du),("refused",2,dZ),("lowered",3,bD)],[]⟩
theorem GL:Rf.tW uP Jf G0 none=some o7:=by kernel_rfl
noncomputable abbrev qB:Stmt:=top 44
noncomputable abbrev Ff:Rf.Sg:=⟨[("limits",1,du),("lowered",3,bD)],[]⟩
theorem FC:Rf.tW qB ES Ff none=some l0:=by kernel_rfl
noncomputable abbrev hU:Stmt:=top 45
noncomputable abbrev rO:Rf.Sg:=⟨[("check_world",1,aA),("chosen_by_all",3,az),("capped",2,fv),("steps",1,jw)],[]⟩
theorem rH:Rf.tW hU rY rO none=some eX:=by kernel_rfl
noncomputable abbrev ib:Stmt:=top 46
noncomputable abbrev rM:Rf.Sg:=⟨[("turned",1,fy),("turned_plan",2,b8),("givers_best",1,aP)],[]⟩
theorem sd:Rf.tW ib se rM none=some eY:=by kernel_rfl
noncomputable abbrev vG:Stmt:=top 48
noncomputable abbrev Ib:Rf.Sg:=⟨[("check_world",1,aA),("steps",1,jw)],[]⟩
theorem Jl:Rf.tW vG HC Ib none=some oU:=by kernel_rfl
noncomputable abbrev gp:Stmt:=top 49
noncomputable abbrev qJ:Rf.Sg:=⟨[("is_long",3,aU),("is_number",2,bh),("is_whole",3,aK)],[("MOST",9)]⟩
theorem pE:Rf.tW gp qX qJ none=some d7:=by kernel_rfl
noncomputable abbrev ni:Stmt:=top 50
noncomputable abbrev CA:Rf.Sg:=⟨[("chosen_by_all",3,az)],[]⟩
theorem Cz:Rf.tW ni Cq CA none=some ku:=by kernel_rfl
noncomputable abbrev ie:Stmt:=top 51
noncomputable abbrev rq:Rf.Sg:=⟨[("limits",1,du),("lowered",3,bD),("follows",3,iP),("has_row_form",2,cq)],[]⟩
theorem sf:Rf.tW ie rX rq none=some eU:=by kernel_rfl
noncomputable abbrev nc:Stmt:=top 52
noncomputable abbrev Dd:Rf.Sg:=⟨[("check_world",1,aA),("caps_behind",2,cK)],[]⟩
theorem C8:Rf.tW nc BO Dd none=some kC:=by kernel_rfl
noncomputable abbrev uG:Stmt:=top 53
noncomputable abbrev IW:Rf.Sg:=⟨[("caps_of",2,cL)],[]⟩
theorem IP:Rf.tW uG G1 IW none=some oX:=by kernel_rfl
noncomputable abbrev vt:Stmt:=top 54
noncomputable abbrev GK:Rf.Sg:=⟨[("check_plan",2,dk),("caps_behind",2,cK),("chosen_by_all",3,az),("is_still",2,dQ)],[]⟩
theorem Hl:Rf.tW vt GH GK none=some oY:=by kernel_rfl
noncomputable abbrev jZ:Stmt:=top 55
noncomputable abbrev wI:Rf.Sg:=⟨[("check_world",1,aA),("is_plan",2,da)],[]⟩
theorem xk:Rf.tW jZ xG wI none=some gX:=by kernel_rfl
noncomputable abbrev jb:Stmt:=top 58
noncomputable abbrev uc:Rf.Sg:=⟨[],[("MOST_LISTED",3000)]⟩
theorem vd:Rf.tW jb um uc none=some ee:=by kernel_rfl
noncomputable abbrev fO:Stmt:=top 59
noncomputable abbrev oO:Rf.Sg:=⟨[],[]⟩
theorem oI:Rf.tW fO oz oO none=some dG:=by kernel_rfl
noncomputable abbrev j7:Stmt:=top 60
noncomputable abbrev xf:Rf.Sg:=⟨[("check_world",1,aA),("check_many",1,fZ),("within_limits",1,dB),("is_plan",2,da)],[]⟩
theorem xO:Rf.tW j7 xy xf none=some gM:=by kernel_rfl
noncomputable abbrev jM:Stmt:=top 61
noncomputable abbrev ya:Rf.Sg:=⟨[("all_plans",1,gP),("is_still",2,dQ)],[]⟩
theorem wx:Rf.tW jM wU ya none=some gO:=by kernel_rfl
noncomputable abbrev jQ:Stmt:=top 63
noncomputable abbrev wN:Rf.Sg:=⟨[],[]⟩
theorem yj:Rf.tW jQ vU wN none=some gS:=by kernel_rfl
noncomputable abbrev jg:Stmt:=top 64
noncomputable abbrev uT:Rf.Sg:=⟨[("_law_cell",2,dY)],[]⟩
theorem vf:Rf.tW jg ua uT none=some jy:=by kernel_rfl
noncomputable abbrev g9:Stmt:=top 65
noncomputable abbrev rP:Rf.Sg:=⟨[("_law_drawn",3,aj)],[]⟩
theorem rS:Rf.tW g9 rR rP none=some il:=by kernel_rfl
noncomputable abbrev jA:Stmt:=top 66
noncomputable abbrev uV:Rf.Sg:=⟨[("_law_orders",3,bN),("_law_drawn",3,aj)],[]⟩
theorem uA:Rf.tW jA uX uV none=some eu:=by kernel_rfl
noncomputable abbrev Eo:Stmt:=top 67
noncomputable abbrev Na:Rf.Sg:=⟨[("_law_world",3,bY),("all_rests",1,fF),("givers_best",1,aP),("paper",1,jf),("turned",1,fy),("turned_plan",2,b8),("caps_of",2,cL),("both_ends",3,cU),("shows",3,cO),("holds",2,fU),("capped",2,fv),("takers_best",1,cM),("_law_drawn",3,aj),("is_within",3,e8)],[]⟩
theorem M9:Rf.tW Eo tL Na none=some tm:=by kernel_rfl
structure Mo(K:W.Frag):Prop where
 c0:aG K "is_whole" lr ["thing","least","most"]
 c1:aG K "is_number" jS ["thing","many"]
 c2:aG K "is_long" nG ["thing","least","most"]
 c3:aG K "are_likes" j9 ["thing","many"]
 c4:aG K "is_end" qQ ["thing","many"]
 c5:aG K "is_way" qV ["thing","givers","takers"]
 c6:aG K "are_parts" j6 ["givers","takers","ways"]
 c7:aG K "liked_pairs" hC ["places"]
 c8:aG K "is_world" lP ["thing"]
 c9:aG K "through" nS ["world","plan","side","place"]
 c10:aG K "keeps_amounts" fM ["world","plan","side"]
 c11:aG K "is_plan" nh ["world","thing"]
 c12:aG K "check_world" iu ["world"]
 c13:aG K "check_plan" iY ["world","plan"]
 c14:aG K "check_whole" hJ ["thing","least","most"]
 c15:aG K "check_number" gm ["thing","many"]
 c16:aG K "check_side" jm ["thing"]
 c17:aG K "replaced" lS ["parts","number","part"]
 c18:n5 K "turned_order" gC ["world"]
 c19:aG K "turned" p8 ["world"]
 c20:aG K "turned_plan" ix ["world","plan"]
 c21:n5 K "ways_of" nW ["world","side","place"]
 c22:aG K "chosen_by" ka ["world","side","place","offers"]
 c23:aG K "wants_more" jj ["world","plan","side","way"]
 c24:aG K "why_kept" lD ["world","plan","way"]
 c25:aG K "first_leaving" fN ["world","plan"]
 c26:aG K "is_still" lu ["world","plan"]
 c27:aG K "chosen_by_all" fL ["world","side","offers"]
 c28:aG K "both_ends" jW ["world","side","offers"]
 c29:aG K "limits" qd ["world"]
 c30:aG K "lowered" nR ["caps","way","cap"]
 c31:aG K "refused" nN ["world","caps"]
 c32:aG K "steps" uP ["world"]
 c33:aG K "capped" qB ["world","rows"]
 c34:aG K "givers_best" hU ["world"]
 c35:aG K "takers_best" ib ["world"]
 c36:aG K "paper" vG ["world"]
 c37:aG K "has_row_form" gp ["world","thing"]
 c38:aG K "follows" ni ["world","caps","row"]
 c39:aG K "caps_behind" ie ["world","rows"]
 c40:aG K "caps_of" nc ["world","rows"]
 c41:aG K "holds" uG ["world","rows"]
 c42:aG K "shows" vt ["world","plan","rows"]
 c43:aG K "is_within" jZ ["world","thing","caps"]
 c44:aG K "check_many" jb ["world"]
 c45:aG K "within_limits" fO ["ways"]
 c46:aG K "all_plans" j7 ["world"]
 c47:aG K "all_rests" jM ["world"]
 c48:aG K "_law_cell" jQ ["_law_script","_law_k"]
 c49:aG K "_law_drawn" jg ["_law_script","_law_k","_law_many"]
 c50:aG K "_law_orders" g9 ["_law_script","_law_at","_law_rows"]
 c51:aG K "_law_world" jA ["_law_script","_law_at","_law_most"]
 c52:aG K "law" Eo ["_law_script"]
 i_MOST_PLACES:∃t,W.nsIn K mainGlobals "MOST_PLACES"=some (some (.int 4 t))
 i_MOST:∃t,W.nsIn K mainGlobals "MOST"=some (some (.int 9 t))
 i_MOST_LISTED:∃t,W.nsIn K mainGlobals "MOST_LISTED"=some (some (.int 3000 t))
 b:∀x∈cY,W.nsIn K mainGlobals x=some none
structure bA(K:W.Frag)(mg:Str->Option Value):Prop where
 c0:bu K mg "is_whole" lr ["thing","least","most"]
 c1:bu K mg "is_number" jS ["thing","many"]
 c2:bu K mg "is_long" nG ["thing","least","most"]
 c3:bu K mg "are_likes" j9 ["thing","many"]
 c4:bu K mg "is_end" qQ ["thing","many"]
 c5:bu K mg "is_way" qV ["thing","givers","takers"]
 c6:bu K mg "are_parts" j6 ["givers","takers","ways"]
 c7:bu K mg "liked_pairs" hC ["places"]
 c8:bu K mg "is_world" lP ["thing"]
 c9:bu K mg "through" nS ["world","plan","side","place"]
 c10:bu K mg "keeps_amounts" fM ["world","plan","side"]
 c11:bu K mg "is_plan" nh ["world","thing"]
 c12:bu K mg "check_world" iu ["world"]
 c13:bu K mg "check_plan" iY ["world","plan"]
 c14:bu K mg "check_whole" hJ ["thing","least","most"]
 c15:bu K mg "check_number" gm ["thing","many"]
 c16:bu K mg "check_side" jm ["thing"]
 c17:bu K mg "replaced" lS ["parts","number","part"]
 c18:D3 K mg "turned_order" gC ["world"]
 c19:bu K mg "turned" p8 ["world"]
 c20:bu K mg "turned_plan" ix ["world","plan"]
 c21:D3 K mg "ways_of" nW ["world","side","place"]
 c22:bu K mg "chosen_by" ka ["world","side","place","offers"]
 c23:bu K mg "wants_more" jj ["world","plan","side","way"]
 c24:bu K mg "why_kept" lD ["world","plan","way"]
 c25:bu K mg "first_leaving" fN ["world","plan"]
 c26:bu K mg "is_still" lu ["world","plan"]
 c27:bu K mg "chosen_by_all" fL ["world","side","offers"]
 c28:bu K mg "both_ends" jW ["world","side","offers"]
 c29:bu K mg "limits" qd ["world"]
 c30:bu K mg "lowered" nR ["caps","way","cap"]
 c31:bu K mg "refused" nN ["world","caps"]
 c32:bu K mg "steps" uP ["world"]
 c33:bu K mg "capped" qB ["world","rows"]
 c34:bu K mg "givers_best" hU ["world"]
 c35:bu K mg "takers_best" ib ["world"]
 c36:bu K mg "paper" vG ["world"]
 c37:bu K mg "has_row_form" gp ["world","thing"]
 c38:bu K mg "follows" ni ["world","caps","row"]
 c39:bu K mg "caps_behind" ie ["world","rows"]
 c40:bu K mg "caps_of" nc ["world","rows"]
 c41:bu K mg "holds" uG ["world","rows"]
 c42:bu K mg "shows" vt ["world","plan","rows"]
 c43:bu K mg "is_within" jZ ["world","thing","caps"]
 c44:bu K mg "check_many" jb ["world"]
 c45:bu K mg "within_limits" fO ["ways"]
 c46:bu K mg "all_plans" j7 ["world"]
 c47:bu K mg "all_rests" jM ["world"]
 c48:bu K mg "_law_cell" jQ ["_law_script","_law_k"]
 c49:bu K mg "_law_drawn" jg ["_law_script","_law_k","_law_many"]
 c50:bu K mg "_law_orders" g9 ["_law_script","_law_at","_law_rows"]
 c51:bu K mg "_law_world" jA ["_law_script","_law_at","_law_most"]
 c52:bu K mg "law" Eo ["_law_script"]
 i_MOST_PLACES:∃t,mg "MOST_PLACES"=some (.int 4 t)
 i_MOST:∃t,mg "MOST"=some (.int 9 t)
 i_MOST_LISTED:∃t,mg "MOST_LISTED"=some (.int 3000 t)
 b:∀x∈cY,mg x=none
theorem Mo.defs{K:W.Frag}{h:Heap}{mg:Str->Option Value}(I:Mo K)(X:K.In h)(G:h.Ns mainGlobals mg):bA K mg :=
 ⟨I.c0.mg X G,I.c1.mg X G,I.c2.mg X G,I.c3.mg X G,I.c4.mg X G,I.c5.mg X G,I.c6.mg X G,I.c7.mg X G,I.c8.mg X G,I.c9.mg X G,I.c10.mg X G,I.c11.mg X G,I.c12.mg X G,I.c13.mg X G,I.c14.mg X G,I.c15.mg X G,I.c16.mg X G,I.c17.mg X G,I.c18.mg X G,I.c19.mg X G,I.c20.mg X G,I.c21.mg X G,I.c22.mg X G,I.c23.mg X G,I.c24.mg X G,I.c25.mg X G,I.c26.mg X G,I.c27.mg X G,I.c28.mg X G,I.c29.mg X G,I.c30.mg X G,I.c31.mg X G,I.c32.mg X G,I.c33.mg X G,I.c34.mg X G,I.c35.mg X G,I.c36.mg X G,I.c37.mg X G,I.c38.mg X G,I.c39.mg X G,I.c40.mg X G,I.c41.mg X G,I.c42.mg X G,I.c43.mg X G,I.c44.mg X G,I.c45.mg X G,I.c46.mg X G,I.c47.mg X G,I.c48.mg X G,I.c49.mg X G,I.c50.mg X G,I.c51.mg X G,I.c52.mg X G,(let ⟨t,h⟩:=I.i_MOST_PLACES;⟨t,W.mg_of X G h⟩),(let ⟨t,h⟩:=I.i_MOST;⟨t,W.mg_of X G h⟩),(let ⟨t,h⟩:=I.i_MOST_LISTED;⟨t,W.mg_of X G h⟩),fun x hx=>W.mg_none_of X G (I.b x hx)⟩
section
variable {P:Program}{w:World}{K:W.Frag}{mg:Str->Option Value}{base:Heap}
theorem eN(D:bA K mg):dw P w K mg base 1 "is_whole" 3 aK:=Rf.fR (j:=0) D.c0 D.b Rf.bB Rf.bz Aa
theorem jY(D:bA K mg):dw P w K mg base 2 "is_number" 2 bh:=Rf.fR (j:=1) D.c1 D.b (Rf.fm (eN D) Rf.bB) Rf.bz xQ
theorem gc(D:bA K mg):dw P w K mg base 1 "is_long" 3 aU:=Rf.fR (j:=0) D.c2 D.b Rf.bB Rf.bz CT
theorem yk(D:bA K mg):dw P w K mg base 3 "are_likes" 2 fI:=Rf.fR (j:=2) D.c3 D.b (Rf.fm (jY D) Rf.bB) Rf.bz wD
theorem Gg(D:bA K mg):dw P w K mg base 4 "is_end" 2 fj:=Rf.fR (j:=3) D.c4 D.b (Rf.fm (gc D) (Rf.fm (eN D) (Rf.fm (yk D) Rf.bB))) (Rf.wq D.i_MOST Rf.bz) E5
theorem EN(D:bA K mg):dw P w K mg base 3 "is_way" 3 iJ:=Rf.fR (j:=2) D.c5 D.b (Rf.fm (gc D) (Rf.fm (jY D) (Rf.fm (eN D) Rf.bB))) (Rf.wq D.i_MOST Rf.bz) Dt
theorem we(D:bA K mg):dw P w K mg base 5 "are_parts" 3 fu:=Rf.fR (j:=4) D.c6 D.b (Rf.fm (gc D) (Rf.fm (Gg D) (Rf.fm (EN D) Rf.bB))) (Rf.wq D.i_MOST_PLACES Rf.bz) xD
theorem rL(D:bA K mg):dw P w K mg base 1 "liked_pairs" 1 bx:=Rf.fR (j:=0) D.c7 D.b Rf.bB Rf.bz rZ
theorem Ah(D:bA K mg):dw P w K mg base 6 "is_world" 1 cB:=Rf.fR (j:=5) D.c8 D.b (Rf.fm (rL D) (Rf.fm (gc D) (Rf.fm (we D) Rf.bB))) Rf.bz yz
theorem tQ(D:bA K mg):dw P w K mg base 1 "through" 4 dh:=Rf.fR (j:=0) D.c9 D.b Rf.bB Rf.bz Ck
theorem oK(D:bA K mg):dw P w K mg base 2 "keeps_amounts" 3 cF:=Rf.fR (j:=1) D.c10 D.b (Rf.fm (tQ D) Rf.bB) Rf.bz oR
theorem nu(D:bA K mg):dw P w K mg base 3 "is_plan" 2 da:=Rf.fR (j:=2) D.c11 D.b (Rf.fm (gc D) (Rf.fm (oK D) (Rf.fm (eN D) Rf.bB))) Rf.bz Cn
theorem bO(D:bA K mg):dw P w K mg base 7 "check_world" 1 aA:=Rf.fR (j:=6) D.c12 D.b (Rf.fm (Ah D) Rf.bB) Rf.bz rN
theorem mH(D:bA K mg):dw P w K mg base 8 "check_plan" 2 dk:=Rf.fR (j:=7) D.c13 D.b (Rf.fm (bO D) (Rf.fm (nu D) Rf.bB)) Rf.bz vm
theorem rz(D:bA K mg):dw P w K mg base 2 "check_whole" 3 eZ:=Rf.fR (j:=1) D.c14 D.b (Rf.fm (eN D) Rf.bB) Rf.bz rQ
theorem qU(D:bA K mg):dw P w K mg base 3 "check_number" 2 d9:=Rf.fR (j:=2) D.c15 D.b (Rf.fm (rz D) Rf.bB) Rf.bz pM
theorem vi(D:bA K mg):dw P w K mg base 4 "check_side" 1 fV:=Rf.fR (j:=3) D.c16 D.b (Rf.fm (qU D) Rf.bB) Rf.bz uj
theorem zc(D:bA K mg):dw P w K mg base 1 "replaced" 3 i3:=Rf.fR (j:=0) D.c17 D.b Rf.bB Rf.bz yX
theorem jL(D:bA K mg):dw P w K mg base 4 "turned_order" 1 ba:=Rf.OP (j:=0) D.c18 D.b Rf.bB Rf.bz qg
theorem xv(D:bA K mg):dw P w K mg base 8 "turned" 1 fy:=Rf.fR (j:=7) D.c19 D.b (Rf.fm (bO D) (Rf.fm (jL D) Rf.bB)) Rf.bz E2
theorem k7(D:bA K mg):dw P w K mg base 9 "turned_plan" 2 b8:=Rf.fR (j:=8) D.c20 D.b (Rf.fm (mH D) (Rf.fm (jL D) Rf.bB)) Rf.bz sr
theorem td(D:bA K mg):dw P w K mg base 4 "ways_of" 3 eM:=Rf.OP (j:=0) D.c21 D.b Rf.bB Rf.bz Dg
theorem wG(D:bA K mg):dw P w K mg base 5 "chosen_by" 4 dR:=Rf.fR (j:=4) D.c22 D.b (Rf.fm (td D) Rf.bB) Rf.bz wC
theorem uZ(D:bA K mg):dw P w K mg base 5 "wants_more" 4 cA:=Rf.fR (j:=4) D.c23 D.b (Rf.fm (td D) (Rf.fm (tQ D) Rf.bB)) Rf.bz vp
theorem z6(D:bA K mg):dw P w K mg base 6 "why_kept" 3 eR:=Rf.fR (j:=5) D.c24 D.b (Rf.fm (uZ D) Rf.bB) Rf.bz zh
theorem oN(D:bA K mg):dw P w K mg base 7 "first_leaving" 2 dD:=Rf.fR (j:=6) D.c25 D.b (Rf.fm (z6 D) Rf.bB) Rf.bz oP
theorem pF(D:bA K mg):dw P w K mg base 8 "is_still" 2 dQ:=Rf.fR (j:=7) D.c26 D.b (Rf.fm (oN D) Rf.bB) Rf.bz yP
theorem cJ(D:bA K mg):dw P w K mg base 6 "chosen_by_all" 3 az:=Rf.fR (j:=5) D.c27 D.b (Rf.fm (wG D) Rf.bB) Rf.bz oQ
theorem yi(D:bA K mg):dw P w K mg base 8 "both_ends" 3 cU:=Rf.fR (j:=7) D.c28 D.b (Rf.fm (bO D) (Rf.fm (vi D) (Rf.fm (cJ D) Rf.bB))) Rf.bz xH
theorem p6(D:bA K mg):dw P w K mg base 1 "limits" 1 du:=Rf.fR (j:=0) D.c29 D.b Rf.bB Rf.bz FQ
theorem nC(D:bA K mg):dw P w K mg base 2 "lowered" 3 bD:=Rf.fR (j:=1) D.c30 D.b (Rf.fm (zc D) Rf.bB) Rf.bz BU
theorem CF(D:bA K mg):dw P w K mg base 7 "refused" 2 dZ:=Rf.fR (j:=6) D.c31 D.b (Rf.fm (cJ D) Rf.bB) Rf.bz CU
theorem AU(D:bA K mg):dw P w K mg base 8 "steps" 1 jw:=Rf.fR (j:=7) D.c32 D.b (Rf.fm (p6 D) (Rf.fm (CF D) (Rf.fm (nC D) Rf.bB))) Rf.bz GL
theorem yf(D:bA K mg):dw P w K mg base 3 "capped" 2 fv:=Rf.fR (j:=2) D.c33 D.b (Rf.fm (p6 D) (Rf.fm (nC D) Rf.bB)) Rf.bz FC
theorem lg(D:bA K mg):dw P w K mg base 9 "givers_best" 1 aP:=Rf.fR (j:=8) D.c34 D.b (Rf.fm (bO D) (Rf.fm (cJ D) (Rf.fm (yf D) (Rf.fm (AU D) Rf.bB)))) Rf.bz rH
theorem rF(D:bA K mg):dw P w K mg base 10 "takers_best" 1 cM:=Rf.fR (j:=9) D.c35 D.b (Rf.fm (xv D) (Rf.fm (k7 D) (Rf.fm (lg D) Rf.bB))) Rf.bz sd
theorem IA(D:bA K mg):dw P w K mg base 9 "paper" 1 jf:=Rf.fR (j:=8) D.c36 D.b (Rf.fm (bO D) (Rf.fm (AU D) Rf.bB)) Rf.bz Jl
theorem qq(D:bA K mg):dw P w K mg base 3 "has_row_form" 2 cq:=Rf.fR (j:=2) D.c37 D.b (Rf.fm (gc D) (Rf.fm (jY D) (Rf.fm (eN D) Rf.bB))) (Rf.wq D.i_MOST Rf.bz) pE
theorem B1(D:bA K mg):dw P w K mg base 7 "follows" 3 iP:=Rf.fR (j:=6) D.c38 D.b (Rf.fm (cJ D) Rf.bB) Rf.bz Cz
theorem k6(D:bA K mg):dw P w K mg base 8 "caps_behind" 2 cK:=Rf.fR (j:=7) D.c39 D.b (Rf.fm (p6 D) (Rf.fm (nC D) (Rf.fm (B1 D) (Rf.fm (qq D) Rf.bB)))) Rf.bz sf
theorem sJ(D:bA K mg):dw P w K mg base 9 "caps_of" 2 cL:=Rf.fR (j:=8) D.c40 D.b (Rf.fm (bO D) (Rf.fm (k6 D) Rf.bB)) Rf.bz C8
theorem GR(D:bA K mg):dw P w K mg base 10 "holds" 2 fU:=Rf.fR (j:=9) D.c41 D.b (Rf.fm (sJ D) Rf.bB) Rf.bz IP
theorem Hm(D:bA K mg):dw P w K mg base 9 "shows" 3 cO:=Rf.fR (j:=8) D.c42 D.b (Rf.fm (mH D) (Rf.fm (k6 D) (Rf.fm (cJ D) (Rf.fm (pF D) Rf.bB)))) Rf.bz Hl
theorem wM(D:bA K mg):dw P w K mg base 8 "is_within" 3 e8:=Rf.fR (j:=7) D.c43 D.b (Rf.fm (bO D) (Rf.fm (nu D) Rf.bB)) Rf.bz xk
theorem uN(D:bA K mg):dw P w K mg base 1 "check_many" 1 fZ:=Rf.fR (j:=0) D.c44 D.b Rf.bB (Rf.wq D.i_MOST_LISTED Rf.bz) vd
theorem ox(D:bA K mg):dw P w K mg base 1 "within_limits" 1 dB:=Rf.fR (j:=0) D.c45 D.b Rf.bB Rf.bz oI
theorem xF(D:bA K mg):dw P w K mg base 8 "all_plans" 1 gP:=Rf.fR (j:=7) D.c46 D.b (Rf.fm (bO D) (Rf.fm (uN D) (Rf.fm (ox D) (Rf.fm (nu D) Rf.bB)))) Rf.bz xO
theorem wA(D:bA K mg):dw P w K mg base 9 "all_rests" 1 fF:=Rf.fR (j:=8) D.c47 D.b (Rf.fm (xF D) (Rf.fm (pF D) Rf.bB)) Rf.bz wx
theorem vZ(D:bA K mg):dw P w K mg base 1 "_law_cell" 2 dY:=Rf.fR (j:=0) D.c48 D.b Rf.bB Rf.bz yj
theorem jl(D:bA K mg):dw P w K mg base 2 "_law_drawn" 3 aj:=Rf.fR (j:=1) D.c49 D.b (Rf.fm (vZ D) Rf.bB) Rf.bz vf
theorem sv(D:bA K mg):dw P w K mg base 3 "_law_orders" 3 bN:=Rf.fR (j:=2) D.c50 D.b (Rf.fm (jl D) Rf.bB) Rf.bz rS
theorem uW(D:bA K mg):dw P w K mg base 4 "_law_world" 3 bY:=Rf.fR (j:=3) D.c51 D.b (Rf.fm (sv D) (Rf.fm (jl D) Rf.bB)) Rf.bz uA
end
theorem Kv{P:Program}{w:World}{K:W.Frag}{h:Heap}{mg:Str->Option Value}{fa:Addr}(X:K.In h)(G:h.Ns mainGlobals mg)(hfa:mg "law"=some (.ref fa))(I:Mo K):∃fd:FuncData,(∀ (s:Shared) (v:Value),BindsTo s fd ⟨[v],[]⟩ [("_law_script",v)])/\∀base:Heap,K.In base->base.Ns mainGlobals mg->qs P w K mg base Ml 11 fa fd ["_law_script"] (Nv K 1 iB):=by
 have D:=I.defs X G
 obtain⟨f,fd,hm,F,hb⟩:=D.c52.ex
 rw[hfa] at hm;cases hm
 refine⟨fd,fun s v=>?_,fun base _ _=>Jt F (Rf.N9 (N:=tL)) fun X hP hw hK hm' hb' C _ _ HF H=>by subst hP;subst hw;subst hK;subst hm';subst hb';exact Rf.JD (j:=10) C D.b (Rf.fm (uW D) (Rf.fm (wA D) (Rf.fm (lg D) (Rf.fm (IA D) (Rf.fm (xv D) (Rf.fm (k7 D) (Rf.fm (sJ D) (Rf.fm (yi D) (Rf.fm (Hm D) (Rf.fm (GR D) (Rf.fm (yf D) (Rf.fm (rF D) (Rf.fm (jl D) (Rf.fm (wM D) Rf.bB)))))))))))))) Rf.bz M9⟩
 obtain⟨oc,od,kV,doc,pm,an,cdv,ct,osl,rfl,lk,hcd⟩:=F.ex
 exact .of_eq rfl
theorem walk{l:W.OpenLaw}{q:Program}{loose:List Str}{XP:(Str->Option Value)->Heap->Prop}{YP:World->Heap->Prop}{d:DefRec}{K:Params->W.Frag}{ts:List Addr}(hn:l.most=some 63)(hdf:d.params.defaults=[])(hname:d.name="law")
  (hY:∀ (w:World) (h:Heap),YP w h->(K w.params).In h/\∀P∈ts,h.get? P=some (W.tabObj #[])) (ht:∀w:World,mD (K w.params) ts=true) (hI:∀w:World,Mo (K w.params)) (main:∀ns:List Int,ns.length<=63->iB [.list (ns.map PyData.int)]=some (.bool true)) :
  W.WalkO q loose XP YP l.row.toRowW d [] (fun f vs=>PySem.call f vs) :=
 D6 (n:=63) (k:=11) (x:="_law_script") (CX:=fun _=>Ml) (sp:=fun w=>Nv (K w.params) 1 iB) hn (by decide) hdf ⟨rfl,by decide,by decide⟩ hY ht (fun w mg fa h KX G hmg=>Kv KX G (by rw[<- hname];exact hmg) (hI w)) (fun _ _ a ns hl hT hS=>y1 hS hT (main ns hl)) fun _ _ _ _ _ z=>z
end K61
namespace Dl
open PySem L2 PySem.Spec PyProof.Rows
noncomputable def xJ:D->Prop|.none=>True|.bool _=>True|.int _=>True|.str x=>PyData.canLay0 (.str x)=true|_=>False
noncomputable def iT(b:Nat):Nat->D->Prop
 | 0,d=>xJ d
 | k+1,d=>xJ d\/(∃xs,(d=.list xs\/d=.tuple xs)/\xs.length<=b/\∀x∈xs,iT b k x)
theorem iT.leaf{b k:Nat}{d:D}(h:xJ d):iT b k d:=by
 cases k with
 | zero=>exact h
 | succ k=>exact .inl h
theorem iT.tup{b k:Nat}{xs:List D}(hb:xs.length<=b)(h:∀x∈xs,iT b k x):iT b (k+1) (.tuple xs):=.inr ⟨xs,.inr rfl,hb,h⟩
theorem iT.lst{b k:Nat}{xs:List D}(hb:xs.length<=b)(h:∀x∈xs,iT b k x):iT b (k+1) (.list xs):=.inr ⟨xs,.inl rfl,hb,h⟩
theorem iT.of_tup{b k:Nat}{xs:List D}(h:iT b k (.tuple xs)):∃j,k=j+1/\xs.length<=b/\∀x∈xs,iT b j x:=by
 cases k with
 | zero=>cases h
 | succ k =>
  rcases h with h|⟨ys,h|h,h1,h2⟩
  ·cases h
  ·cases h
  ·cases h;exact⟨k,rfl,h1,h2⟩
theorem iT.mono{b b':Nat}(hb:b<=b'):∀ {k k':Nat}{d:D},k<=k'->iT b k d->iT b' k' d
 | 0,k',d,_,h=>.leaf h
 | k+1,0,d,hk,h=>by omega
 | k+1,k'+1,d,hk,h=>by
  rcases h with h|⟨xs,h,h1,h2⟩
  ·exact .inl h
  ·exact .inr ⟨xs,h,yE h1 hb,fun x hx=>(h2 x hx).mono hb (by omega)⟩
theorem Ay{b k:Nat}:∀ {xs:List D},(∀x∈xs,PyData.canLay0 x=true/\x.depth<=k)->PyData.canLayAll0 xs=true/\PyData.depthAll xs<=k
 | [],_=>⟨by simp[PyData.canLayAll0],by simp[PyData.depthAll]⟩
 | x::xs,h=>by
  obtain⟨a,c⟩:=Ay (b:=b) (xs:=xs) fun y hy=>h y (zC _ hy)
  obtain⟨a',c'⟩:=h x zE
  exact⟨by simp[PyData.canLayAll0,a,a'],by simp[PyData.depthAll];omega⟩
theorem iT.lay{b:Nat}:∀ {k:Nat}{d:D},iT b k d->PyData.canLay0 d=true/\d.depth<=k:=by
 have lf:∀ {k:Nat}{d:D},xJ d->PyData.canLay0 d=true/\d.depth<=k:=fun {k d} h=>by
  cases d<;>simp only[xJ] at h<;>first|exact⟨h,by simp[PyData.depth]⟩|exact⟨by simp[PyData.canLay0],by simp[PyData.depth]⟩
 intro k
 induction k with
 | zero=>exact fun h=>lf h
 | succ k ih =>
  intro d h
  rcases h with h|⟨xs,h,h1,h2⟩
  ·exact lf h
  ·obtain⟨a,c⟩:=Ay (b:=b) (xs:=xs) fun y hy=>ih (h2 y hy)
   rcases h with rfl|rfl
   ·exact⟨by simp[PyData.canLay0,a],by simp[PyData.depth];omega⟩
   ·exact⟨by simp[PyData.canLay0,a],by simp[PyData.depth];omega⟩
theorem iT.shaped{b k:Nat}{d:D}(h:iT b k d)(hk:k<=64):SeqAt.shaped d=true:=by
 obtain⟨a,c⟩:=h.lay
 simp[SeqAt.shaped,a];omega
theorem iT.noDict{b k:Nat}{d:D}(h:iT b k d):∀kv,d≠.dict kv:=by
 rintro kv rfl
 have:=h.lay.1
 simp[PyData.canLay0] at this
noncomputable def nZ:D->Bool|.dict _=>false|_=>true
theorem iT.nd{b k:Nat}{d:D}(h:iT b k d):nZ d=true:=by
 cases d<;>first|rfl|exact absurd rfl (h.noDict _)
noncomputable def OU:D->Bool|.int _=>true|.bool _=>true|_=>false
noncomputable def OZ:D->Bool|.bool _=>true|_=>false
noncomputable def JS:D->Bool|.tuple _=>true|_=>false
theorem kI{d:D}(h:nZ d=true):vK (hZ d) "int"=some (OU d):=by cases d<;>first|cases h;done|exact IU _ (by simp[hZ])
theorem kB{d:D}(h:nZ d=true):vK (hZ d) "bool"=some (OZ d):=by cases d<;>first|cases h;done|exact Fh _ (by simp[hZ])
theorem kT{d:D}(h:nZ d=true):vK (hZ d) "tuple"=some (JS d):=by cases d<;>first|cases h;done|exact kit_tuple _ (by simp[hZ])
noncomputable def whole(a b:Int):D->Bool|.int i=>decide (a<=i)&&decide (i<=b)|_=>false
theorem sH{tgt:Env->D->Option Env}{te:Env->Option D}{ρ:Env}{h:D->D}:∀ {ds:List D},(∀d∈ds,∃ρ',tgt ρ d=some ρ'/\te ρ'=some (h d))->cx tgt (fun _=>some true) te ρ ds=some (ds.map h)
 | [],_=>rfl
 | d::ds,hh=>by
  obtain⟨ρ',h1,h2⟩:=hh d zE
  have ih:=sH (ds:=ds) fun y hy=>hh y (zC _ hy)
  unfold cx
  rw[h1]
  simp[h2,ih]
theorem mG{tgt:Env->D->Option Env}{tt:Env->Option Bool}{te:Env->Option D}{ρ:Env}{p:D->Bool}{h:D->D}:∀ {ds:List D},(∀d∈ds,∃ρ',tgt ρ d=some ρ'/\tt ρ'=some (p d)/\(p d=true->te ρ'=some (h d)))->cx tgt tt te ρ ds=some ((ds.filter p).map h)
 | [],_=>rfl
 | d::ds,hh=>by
  obtain⟨ρ',h1,h2,h3⟩:=hh d zE
  have ih:=mG (ds:=ds) fun y hy=>hh y (zC _ hy)
  unfold cx
  rw[h1]
  simp only[zA,h2]
  cases hp:p d with
  | true=>rw[if_pos rfl,h3 hp];simp[ih,List.filter_cons,hp]
  | false=>simp[ih,List.filter_cons,hp]
theorem n8{p:D->Bool}:∀ds:List D,boolsOf (ds.map fun d=>.bool (p d))=some (ds.map p)
 | []=>rfl
 | d::ds=>by simp[boolsOf,n8 ds]
theorem mF{p:D->Bool}(ds:List D):jo [.list (ds.map fun d=>.bool (p d))]=some (.bool (ds.all p)):=by
 simp only[jo,oneOf,zA,n8,zB,List.all_map]
 rfl
theorem bc{ds:List D}(h:ds.length<=4000):small ds=some ds:=if_pos (yE h (by decide))
theorem mM{ds:List D}{i:Nat}(h:i < ds.length):vH ds (i:Nat)=some (ds.getD i .none):=by
 have:=uf (xs:=ds) (j:=i) (v:=ds[i]) (zU.mpr ⟨h,rfl⟩)
 rw[this]
 simp[List.getD,h]
theorem BH{ds:List D}(h:0 < ds.length):vH ds 0=some (ds.getD 0 .none):=mM (i:=0) h
theorem xA{ds:List D}(h:1 < ds.length):vH ds 1=some (ds.getD 1 .none):=mM (i:=1) h
theorem JC{ds:List D}(h:2 < ds.length):vH ds 2=some (ds.getD 2 .none):=mM (i:=2) h
end Dl
namespace Wm
open PySem L2 Dl PySem.Spec PyProof.Rows Pg
theorem vW{fa fb fc:Dl.Env->Option D}{ρ:Dl.Env}{a i b:Int}(ha:fa ρ=some (.int a))(hb:fb ρ=some (.int i))(hc:fc ρ=some (.int b)):gw tq tq fa fb fc ρ=some (.bool (decide (a<=i)&&decide (i<=b))):=by
 simp only[gw,ha,hb,hc,zA,tq,vR,if_true]
 by_cases h:a<=i<;>simp[h]
theorem qj(i j:Int):Dl.iw (.int i) (.int j)=some (.int (i - j)):=rfl
theorem d6(i j:Int):Dl.aM (.int i) (.int j)=some (.int (i+j)):=rfl
theorem uk(d:D):Slot.all (.val d)=some d:=rfl
theorem uy(ds:List D):Slot.all (.own ds)=some (.list ds):=rfl
theorem Bu:Slot.all .non=none:=rfl
theorem AA(d:D):Slot.frz (.val d)=some d:=rfl
theorem Bh(ds:List D):Slot.frz (.own ds)=none:=rfl
theorem Be:Slot.frz .non=none:=rfl
local macro_rules|`(tactic| simp! [$ts,*])=>`(tactic| simp only[bb,aq,eL,aD,eF,iD,fS,aX,fB,gB,GB,ab,fC,iO,OM,u0,KI,f1,f2,qj,d6,aa,ae,ah,bf,mV,bq,dO,oneOf,iI,bg,uk,uy,Bu,AA,Bh,Be,aR,bZ,bQ,aS,cG,av,  zI,List.map_nil,List.cons_append,List.nil_append,zL,List.length_nil,List.replicate,List.getElem?_cons_zero,List.getElem?_cons_succ,Option.getD_some,Option.getD_none,zA,Option.bind_none,zB,Option.map_none,Nat.reduceAdd,Nat.reduceSub,Nat.zero_add,Nat.sub_self,if_true,reduceIte,$ts,*])
theorem eO{d:D}(h:nZ d=true)(a b:Int):aK [d,.int a,.int b]=some (.bool (whole a b d)):=by
 simp! [aK,lI,kI h,kB h]
 cases d<;>simp[OU,OZ,whole]
 rw[vW rfl rfl rfl]
theorem gR{d:D}(h:nZ d=true)(n:Int):bh [d,.int n]=some (.bool (whole 0 (n - 1) d)):=by
 simp! [bh,jR,eO h]
noncomputable def long(a b:Int):D->Bool|.tuple ds=>decide (a<=(ds.length:Int))&&decide ((ds.length:Int)<=b)|_=>false
theorem dU{d:D}(h:nZ d=true)(a b:Int):aU [d,.int a,.int b]=some (.bool (long a b d)):=by
 simp! [aU,nJ,kT h]
 cases d<;>simp[JS,long]
 rw[vW rfl (i:=_) rfl rfl]
noncomputable def iU:D->Int|.int i=>i|_=>0
theorem f9{a b:Int}{d:D}(h:whole a b d=true):d=.int (iU d)/\a<=iU d/\iU d<=b:=by
 cases d<;>simp[whole] at h
 exact⟨rfl,h⟩
theorem lN{a b:Int}:∀ {ls:List D},ls.all (whole a b)=true->ls=(ls.map iU).map PyData.int
 | [],_=>rfl
 | d::ls,h=>by
  rw[List.all_cons,zF] at h
  rw[zI,zI,<- (f9 h.1).1,<- lN h.2]
noncomputable def jh(n:Int):D->Bool|.tuple ls=>ls.all (whole 0 (n - 1))&&decide ((ls.map iU).Nodup)|_=>false
theorem fx(i j:Int):cf (.int i) (.int j)=some (.bool (decide (i=j))):=by
 simp[cf,Kb,SeqAt.shaped,PyData.canLay0,PyData.depth,PyData.eqv]
 rfl
theorem CL{ls:List D}{a b:Int}(h:ls.all (whole a b)=true)(hl:ls.length<=100):f2 cf (f1 kU (fun _=>some (.tuple ls))) (bf bq (aa (fun _=>some (.tuple ls)) ae)) []=some (.bool (decide ((ls.map iU).Nodup))):=by
 have e:=lN h
 have e1:kU (.tuple ls)=some (.int (many (ls.map iU))):=by
  simp only[kU,my]
  conv=>lhs;rw[e]
  rw[dM,zA,if_pos]
  rw[zD]
  exact Nat.lt_of_le_of_lt (Nat.add_le_add_right hl 1) (by decide)
 simp! [e1,fx]
 have:=zw (ls.map iU)
 rw[zD] at this
 simp only[<- this,Int.ofNat_inj,yL,PyData.bool.injEq]
theorem Nh(r:Dl.Env)(d:D):fG 0 (none::r) d=some (some d::r):=by simp[fG,isFree]
theorem bW{cs:List Nat}{fi:Dl.Env->Option (List D)}{ds:List D}{te:Dl.Env->Option D}{h:D->D}{ρ:Dl.Env}(hfi:fi ρ=some ds)(hl:ds.length<=4000)(hh:∀d∈ds,te (some d::cs.map fun j=>(ρ[j]?).getD none)=some (h d)):ao 1 cs fi (fG 0) (fun _=>some true) te ρ=some (ds.map h):=by
 simp only[ao,hfi,zA,eG,List.replicate,List.cons_append,List.nil_append]
 rw[sH (h:=h) fun d hd=>⟨_,Nh _ d,hh d hd⟩,zA,bc (by rw[zD];exact hl)]
theorem mN{cs:List Nat}{fi:Dl.Env->Option (List D)}{ds:List D}{tt:Dl.Env->Option Bool}{te:Dl.Env->Option D}{p:D->Bool}{h:D->D}{ρ:Dl.Env}(hfi:fi ρ=some ds)(hl:ds.length<=4000)
  (hp:∀d∈ds,tt (some d::cs.map fun j=>(ρ[j]?).getD none)=some (p d)) (hh:∀d∈ds,p d=true->te (some d::cs.map fun j=>(ρ[j]?).getD none)=some (h d)):ao 1 cs fi (fG 0) tt te ρ=some ((ds.filter p).map h):=by
 simp only[ao,hfi,zA,eG,List.replicate,List.cons_append,List.nil_append]
 rw[mG (p:=p) (h:=h) fun d hd=>⟨_,Nh _ d,hp d hd,hh d hd⟩,zA,bc (by rw[zD];exact yE (List.length_filter_le _ _) hl)]
theorem wQ{b k:Nat}{d:D}(h:iT b k d)(hb:b<=100)(n:Int):fI [d,.int n]=some (.bool (jh n d)):=by
 simp! [fI,kg,kT h.nd]
 cases d<;>try (simp[JS,jh];done)
 rename_i ls
 obtain⟨j,rfl,hl,hf⟩:=h.of_tup
 have c:=bW (cs:=[1]) (fi:=aR (ab 0)) (te:=(ah 2 bh (aa (ab 0) (aa (ab 1) ae)))) (h:=fun x=>.bool (whole 0 (n - 1) x)) (ρ:=[some (.tuple ls),some (.int n)]) rfl (by omega) fun x hx=>by simp! [gR (hf x hx).nd]
 simp! [JS,Bool.not_true,Bool.false_eq_true,c,mF]
 cases e:ls.all (whole 0 (n - 1)) with
 | false=>simp[jh,e]
 | true =>
  have:=CL e (yE hl hb)
  simp only[f2,f1,bf,aa,ae,zA,zB] at this
  simp! [jh,e,Bool.not_true,Bool.false_eq_true,Bool.true_and]
  simp only[bq,dO,oneOf,zA,iI,zB] at this
  simp! [this]
noncomputable def placeOk(n:Int):D->Bool|.tuple ds=>decide (ds.length=2)&&(whole 0 9 (ds.getD 0 .none)&&jh n (ds.getD 1 .none))|_=>false
noncomputable def jC(g t:Int):D->Bool|.tuple ds=>decide (ds.length=3)&&(whole 0 (g - 1) (ds.getD 0 .none)&&(whole 0 (t - 1) (ds.getD 1 .none)&&whole 1 9 (ds.getD 2 .none)))|_=>false
theorem vJ(n:Nat)(ds:List D):long (n:Int) (n:Int) (.tuple ds)=decide (ds.length=n):=by
 simp only[long]
 by_cases h:ds.length=n
 ·simp[h]
 ·rw[yA h,Bool.and_eq_false_iff,decide_eq_false_iff_not,decide_eq_false_iff_not];omega
theorem getD_mem{ds:List D}{i:Nat}(h:i < ds.length):ds.getD i .none∈ds:=by simp[List.getD,h]
theorem xx{b k:Nat}{d:D}(h:iT b k d)(hb:b<=100)(n:Int):fj [d,.int n]=some (.bool (placeOk n d)):=by
 simp! [fj,qw,dU h.nd]
 cases d<;>try (simp[long,placeOk];done)
 rename_i ds
 obtain⟨j,rfl,hl,hf⟩:=h.of_tup
 rw[show long 2 2 (.tuple ds)=decide (ds.length=2) from vJ 2 ds]
 by_cases e:ds.length=2
 ·have f0:=hf _ (getD_mem (i:=0) (by omega))
  have f1:=hf _ (getD_mem (i:=1) (by omega))
  simp! [e,decide_true,BH (show 0 < ds.length by omega),xA (show 1 < ds.length by omega),eO f0.nd,wQ f1 hb,placeOk]
  cases whole 0 9 (ds.getD 0 .none)<;>simp
 ·simp[e,placeOk]
theorem Er{b k:Nat}{d:D}(h:iT b k d)(hb:b<=100)(g t:Int):iJ [d,.int g,.int t]=some (.bool (jC g t d)):=by
 simp! [iJ,pY,dU h.nd]
 cases d<;>try (simp[long,jC];done)
 rename_i ds
 obtain⟨j,rfl,hl,hf⟩:=h.of_tup
 rw[show long 3 3 (.tuple ds)=decide (ds.length=3) from vJ 3 ds]
 by_cases e:ds.length=3
 ·have f0:=hf _ (getD_mem (i:=0) (by omega))
  have f1:=hf _ (getD_mem (i:=1) (by omega))
  have f2':=hf _ (getD_mem (i:=2) (by omega))
  simp! [e,decide_true,Bool.not_true,Bool.false_eq_true,BH (show 0 < ds.length by omega),xA (show 1 < ds.length by omega),JC (show 2 < ds.length by omega),eO f2'.nd,gR f0.nd,gR f1.nd,jC]
  cases whole 0 (g - 1) (ds.getD 0 .none)<;>cases whole 0 (t - 1) (ds.getD 1 .none)<;>simp
 ·simp[e,jC]
noncomputable def cS:D->List D|.tuple ds=>ds|_=>[]
noncomputable def m6(d:D):Bool:=long 1 4 d
noncomputable def jz(g t w:D):Bool:=m6 g&&(m6 t&&((cS g).all (placeOk (cS t).length)&&((cS t).all (placeOk (cS g).length)&&(JS w&&(cS w).all (jC (cS g).length (cS t).length)))))
theorem kc{a b:Int}{d:D}(h:long a b d=true):d=.tuple (cS d):=by cases d<;>first|rfl|cases h
theorem n6{b k:Nat}{g t w:D}(hg:iT b k g)(ht:iT b k t)(hw:iT b k w)(hb:b<=100):fu [g,t,w]=some (.bool (jz g t w)):=by
 simp! [fu,j4,dU hg.nd,dU ht.nd,kT hw.nd]
 unfold jz m6
 cases e1:long 1 4 g with
 | false=>simp
 | true =>
  cases e2:long 1 4 t with
  | false=>simp
  | true =>
   obtain⟨gs,rfl⟩:∃gs,g=.tuple gs:=⟨_,kc e1⟩
   obtain⟨ts,rfl⟩:∃ts,t=.tuple ts:=⟨_,kc e2⟩
   obtain⟨j,rfl,hgl,hgf⟩:=hg.of_tup
   obtain⟨j',hj,htl,htf⟩:=ht.of_tup
   have c1:=bW (cs:=[1]) (fi:=aR (ab 0)) (te:=(ah 2 fj (aa (ab 0) (aa (bf bq (aa (ab 1) ae)) ae)))) (h:=fun x=>.bool (placeOk ts.length x)) (ρ:=[some (.tuple gs),some (.tuple ts),some w]) rfl (by omega) fun x hx=>by simp! [xx (hgf x hx) hb]
   have c2:=bW (cs:=[0]) (fi:=aR (ab 1)) (te:=(ah 2 fj (aa (ab 0) (aa (bf bq (aa (ab 1) ae)) ae)))) (h:=fun x=>.bool (placeOk gs.length x)) (ρ:=[some (.tuple gs),some (.tuple ts),some w]) rfl (by omega) fun x hx=>by simp! [xx (htf x hx) hb]
   simp! [Bool.not_true,Bool.false_eq_true,c1,mF,cS,Bool.true_and]
   cases e3:gs.all (placeOk ts.length) with
   | false=>simp
   | true =>
    simp! [Bool.not_true,Bool.false_eq_true,c2,mF,Bool.true_and]
    cases e4:ts.all (placeOk gs.length) with
    | false=>simp
    | true =>
     cases hT:JS w with
     | false=>simp! [Bool.not_true,Bool.false_eq_true,kT hw.nd,hT,Bool.false_and,Bool.and_false]
     | true =>
     obtain⟨ws,rfl⟩:∃ws,w=.tuple ws:=by cases w<;>first|exact⟨_,rfl⟩|cases hT
     obtain⟨j2,hj2,hwl,hwf⟩:=hw.of_tup
     have c3:=bW (cs:=[0,1]) (fi:=aR (ab 2)) (te:=(ah 3 iJ (aa (ab 0) (aa (bf bq (aa (ab 1) ae)) (aa (bf bq (aa (ab 2) ae)) ae))))) (h:=fun x=>.bool (jC gs.length ts.length x)) (ρ:=[some (.tuple gs),some (.tuple ts),some (.tuple ws)]) rfl (by omega) fun x hx=>by simp! [Er (hwf x hx) hb]
     simp! [Bool.not_true,Bool.false_eq_true,c3,mF,Bool.true_and,kT hw.nd,JS]
theorem qh:∀ (a b:List Int),PyData.eqvAll (a.map PyData.int) (b.map PyData.int)=decide (a=b)
 | [],[]=>by simp[PyData.eqvAll]
 | [],_::_=>by simp[PyData.eqvAll]
 | _::_,[]=>by simp[PyData.eqvAll]
 | i::a,j::b=>by
  rw[zI,zI,PyData.eqvAll,qh a b]
  by_cases h:i=j
  ·subst h;simp[PyData.eqv]
  ·simp[PyData.eqv,h]
theorem yd:∀ (a b:List (List Int)),PyData.eqvAll (a.map af) (b.map af)=decide (a=b)
 | [],[]=>by simp[PyData.eqvAll]
 | [],_::_=>by simp[PyData.eqvAll]
 | _::_,[]=>by simp[PyData.eqvAll]
 | x::a,y::b=>by
  rw[zI,zI,PyData.eqvAll,yd a b,af,af,PyData.eqv,qh]
  by_cases h:x=y
  ·subst h;simp
  ·simp[h]
theorem iW{b k:Nat}(i:Int):iT b k (.int i):=.leaf trivial
theorem BD{b k:Nat}{r:List Int}(h:r.length<=b):iT b (k+1) (af r):=.tup (by rw[zD];exact h) fun x hx=>by
 obtain⟨i,_,rfl⟩:=zQ.mp hx
 exact iW i
theorem E9{b k:Nat}{a:List (List Int)}(h:a.length<=b)(hr:∀r∈a,r.length<=b):iT b (k+2) (.list (a.map af)):=.lst (by rw[zD];exact h) fun x hx=>by
 obtain⟨r,hr',rfl⟩:=zQ.mp hx
 exact BD (hr r hr')
theorem Cj(a:List (List Int)):∃b,a.length<=b/\∀r∈a,r.length<=b:=by
 induction a with
 | nil=>exact⟨0,Nat.le_refl _,fun r h=>by cases h⟩
 | cons x a ih =>
  obtain⟨b,h1,h2⟩:=ih
  refine⟨b+1+x.length,by rw[zL];omega,fun r hr=>?_⟩
  rcases zR.mp hr with rfl|hr
  ·omega
  ·have:=h2 r hr;omega
theorem wY(a:List (List Int)):SeqAt.shaped (.list (a.map af))=true:=by
 obtain⟨b,h1,h2⟩:=Cj a
 exact (E9 (b:=b) (k:=0) h1 h2).shaped (by decide)
theorem Dc(a b:List (List Int)):cf (.list (a.map af)) (.list (b.map af))=some (.bool (decide (a=b))):=by
 simp only[cf,Kb,wY,and_self,if_true,PyData.eqv,yd,zB]
noncomputable def jP(d:D):List Int:=(cS ((cS d).getD 1 .none)).map iU
theorem jd{n:Int}{d:D}(h:placeOk n d=true):∃a ds,d=.tuple ds/\ds.length=2/\ds.getD 0 .none=.int a/\0<=a/\a<=9/\ds.getD 1 .none=.tuple ((jP d).map PyData.int)/\(jP d).Nodup/\∀j∈jP d,0<=j/\j<=n - 1:=by
 cases d<;>simp only[placeOk] at h<;>try cases h
 rename_i ds
 simp only[zF,zJ] at h
 obtain⟨h1,h2,h3⟩:=h
 have e:jP (.tuple ds)=(cS (ds.getD 1 .none)).map iU:=rfl
 rw[e]
 generalize hl:ds.getD 1 .none=l at h3
 cases l<;>simp only[jh] at h3<;>try cases h3
 rename_i ls
 simp only[zF,zJ] at h3
 obtain⟨w1,w2,w3⟩:=f9 h2
 refine⟨_,ds,rfl,h1,w1,w2,w3,?_,h3.2,fun j hj=>?_⟩
 ·rw[show cS (.tuple ls)=ls from rfl,<- lN h3.1];exact hl
 ·obtain⟨x,hx,rfl⟩:=zQ.mp hj
  exact (f9 (List.all_eq_true.mp h3.1 x hx)).2
noncomputable def lT(k:Nat):List D->List (List Int)|[]=>[]|p::ps=>(jP p).map (fun j=>[((k:Nat):Int),j])++lT (k+1) ps
theorem qt:∀ (n:Nat) {l:List Int},l.Nodup->(∀j∈l,0<=j/\j<=(n:Int) - 1)->l.length<=n:=by
 intro n l hn h
 have hs:l.map Int.toNat ⊆ List.range n:=fun x hx=>by
  obtain⟨j,hj,rfl⟩:=zQ.mp hx
  have:=h j hj
  exact zT.mpr (by omega)
 have hnd:(l.map Int.toNat).Nodup:=by
  refine List.pairwise_map.mpr (hn.imp_of_mem fun {x y} hx hy hne e=>hne ?_)
  have:=h x hx;have:=h y hy;omega
 have:=List.Nodup.length_le_of_subset hnd hs
 simpa using this
theorem va{n:Nat}:∀ {ps:List D}{k:Nat},(∀p∈ps,placeOk n p=true)->(lT k ps).length<=ps.length * n
 | [],k,_=>Nat.zero_le _
 | p::ps,k,h=>by
  obtain⟨_,_,_,_,_,_,_,_,hn,hr⟩:=jd (h p zE)
  have h1:=qt n hn hr
  have h2:=va (ps:=ps) (k:=k+1) fun q hq=>h q (zC _ hq)
  rw[lT,zN,zD,zL,Nat.succ_mul]
  omega
noncomputable def pB:ak->Option Out:=vC 1 [2,3] (ao 1 [2] (aR (f2 av (ab 3) (fC (.int 1)))) (fG 0) (fun _=>some true) (aS (aa (ab 1) (aa (ab 0) ae))))
theorem Ld{n:Nat}{p x:D}{acc:List D}{k:Nat}(hp:placeOk n p=true)(hn:n<=100)(ha:acc.length<=1000):pB [.val x,.own acc,.val (.int (k:Nat)),.val p]=some (.nx [.val x,.own (acc++((jP p).map fun j=>af [((k:Nat):Int),j])),.val (.int (k:Nat)),.val p]):=by
 obtain⟨a,ds,rfl,hl,_,_,_,h1,hnd,hr⟩:=jd hp
 have hb:=qt n hnd hr
 generalize jP (.tuple ds)=ls at *
 have c:=bW (cs:=[2]) (fi:=aR (f2 av (ab 3) (fC (.int 1)))) (te:=aS (aa (ab 1) (aa (ab 0) ae))) (h:=fun y=>.tuple [.int (k:Nat),y]) (ρ:=[some x,none,some (.int (k:Nat)),some (.tuple ds)]) (ds:=ls.map PyData.int)
  (by simp! [xA (show 1 < ds.length by omega),h1]) (by rw[zD];omega) fun y hy=>by
   simp! [bc (show [PyData.int (k:Nat),y].length<=4000 by simp)]
 have hh:hand [2,3] 0 [Slot.val x,.own acc,.val (.int (k:Nat)),.val (.tuple ds)]=[Slot.val x,.own acc,.val (.int (k:Nat)),.val (.tuple ds)]:=rfl
 simp only[pB,vC,hh,cn,zI,List.map_nil,Slot.frz,c,zA,nI,List.getElem?_cons_succ,List.getElem?_cons_zero]
 rw[if_pos]
 ·simp only[zB,List.set_cons_succ,List.set_cons_zero,zM]
  rfl
 ·simp only[zD]
  exact yE (show acc.length+ls.length<=1100 by omega) (by decide)
theorem sC{n:Nat}{x:D}(hn:n<=100):∀ {ps:List D}{k:Nat}{acc:List D}{s2 s3:Slot},(∀p∈ps,placeOk n p=true)->acc.length+ps.length * n<=1000 ->
  ∃t2 t3,dc (js 2 3) pB (bJ k ps) [.val x,.own acc,s2,s3]=some (.nx [.val x,.own (acc++(lT k ps).map af),t2,t3])
 | [],k,acc,s2,s3,_,_=>⟨s2,s3,by simp[bJ,dc,lT]⟩
 | p::ps,k,acc,s2,s3,h,hl=>by
  have hp:=h p zE
  obtain⟨_,_,_,_,_,_,_,_,hnd,hr⟩:=jd hp
  have hb:=qt n hnd hr
  rw[zL,Nat.succ_mul] at hl
  obtain⟨t2,t3,e⟩:=sC hn (x:=x) (ps:=ps) (k:=k+1) (acc:=acc++((jP p).map fun j=>af [((k:Nat):Int),j])) (s2:=.val (.int (k:Nat))) (s3:=.val p) (fun q hq=>h q (zC _ hq)) (by rw[zN,zD];omega)
  refine⟨t2,t3,?_⟩
  have hs:js 2 3 [.val x,.own acc,s2,s3] (.tuple [.int (k:Nat),p])=some [.val x,.own acc,.val (.int (k:Nat)),.val p]:=rfl
  simp only[bJ,dc,hs,zA,Ld hp hn (show acc.length<=1000 by omega)]
  rw[e]
  simp[lT,zM,Function.comp_def]
theorem AJ{n:Nat}{ps:List D}(h:∀p∈ps,placeOk n p=true)(hn:n<=100)(hl:ps.length * n<=1000):bx [.tuple ps]=some (.list ((lT 0 ps).map af)):=by
 obtain⟨t2,t3,e⟩:=sC hn (x:=.tuple ps) (k:=0) (acc:=[]) (s2:=.non) (s3:=.non) h (by simpa using hl)
 have hs:aO 1 [] (cG ae) [Slot.val (.tuple ps),.non,.non,.non]=some (.nx [.val (.tuple ps),.own [],.non,.non]):=rfl
 have hh:hand [0] 0 [Slot.val (.tuple ps),.own [],.non,.non]=[Slot.val (.tuple ps),.own [],.non,.non]:=rfl
 have hf:bV (aa (ab 0) ae) (cn [Slot.val (.tuple ps),.own [],.non,.non])=some (bJ 0 ps):=rfl
 simp! [bx,ig,hs,fH,hh,hf]
 rw[show vC 1 [2,3] (ao 1 [2] (aR (f2 av (ab 3) (fC (.int 1)))) (fG 0) (fun _=>some true) (aS (aa (ab 1) (aa (ab 0) ae))))=pB from rfl,e]
 simp! []
noncomputable def fQ(d:D):List Int:=[iU ((cS d).getD 0 .none),iU ((cS d).getD 1 .none)]
theorem Am{g t:Int}{d:D}(h:jC g t d=true):∃ds c,d=.tuple ds/\ds.length=3/\ds.getD 0 .none=.int (iU (ds.getD 0 .none))/\ds.getD 1 .none=.int (iU (ds.getD 1 .none))/\ds.getD 2 .none=.int c/\1<=c/\c<=9 /\
  0<=iU (ds.getD 0 .none)/\iU (ds.getD 0 .none)<=g - 1/\0<=iU (ds.getD 1 .none)/\iU (ds.getD 1 .none)<=t - 1:=by
 cases d<;>simp only[jC] at h<;>try cases h
 rename_i ds
 simp only[zF,zJ] at h
 obtain⟨h1,h2,h3,h4⟩:=h
 have a:=f9 h2
 have b:=f9 h3
 have c:=f9 h4
 exact⟨ds,_,rfl,h1,a.1,b.1,c.1,c.2.1,c.2.2,a.2.1,a.2.2,b.2.1,b.2.2⟩
noncomputable def Av(g t w:D):Bool:=decide ((cS w).map fQ=vc (lT 0 (cS g)))&&decide ((cS w).map fQ=vc ((lT 0 (cS t)).map List.reverse))
noncomputable def NG(d:D):Bool:=long 3 3 d&&(jz ((cS d).getD 0 .none) ((cS d).getD 1 .none) ((cS d).getD 2 .none)&&Av ((cS d).getD 0 .none) ((cS d).getD 1 .none) ((cS d).getD 2 .none))
theorem kl:∀ {ps:List D}{k:Nat},∀r∈lT k ps,∃i j,r=[i,j]
 | [],k,r,h=>by cases h
 | p::ps,k,r,h=>by
  rcases List.mem_append.mp h with h|h
  ·obtain⟨j,_,rfl⟩:=zQ.mp h;exact⟨_,_,rfl⟩
  ·exact kl r h
theorem l5{a:List (List Int)}(h:∀r∈a,∃i j,r=[i,j])(hl:a.length < 64):gH [.list (a.map af)]=some ((vc a).map af):=by
 have:∀ns∈a,ns≠[]:=fun ns hn=>by obtain⟨i,j,rfl⟩:=h ns hn;exact List.cons_ne_nil _ _
 simp only[gH,oneOf,zA,lH this,if_pos hl]
theorem sG:∀ {a:List (List Int)},(∀r∈a,∃i j,r=[i,j])->cx (gN 0 1) (fun _=>some true) (aS (aa (ab 1) (aa (ab 0) ae))) [none,none] (a.map af)=some ((a.map List.reverse).map af)
 | [],_=>rfl
 | r::a,h=>by
  obtain⟨i,j,rfl⟩:=h r zE
  have ih:=sG (a:=a) fun q hq=>h q (zC _ hq)
  have e:gN 0 1 [none,none] (af [i,j])=some [some (.int i),some (.int j)]:=rfl
  rw[zI,cx,e,zA,zA,if_pos rfl,ih]
  simp! [bc (show [PyData.int j,.int i].length<=4000 by simp)]
  rfl
theorem Cm{a:List (List Int)}{fi:Dl.Env->Option (List D)}{ρ:Dl.Env}(hfi:fi ρ=some (a.map af))(hl:a.length<=4000)(h:∀r∈a,∃i j,r=[i,j]):ao 2 [] fi (gN 0 1) (fun _=>some true) (aS (aa (ab 1) (aa (ab 0) ae))) ρ=some ((a.map List.reverse).map af):=by
 simp only[ao,hfi,zA,eG,List.replicate,List.cons_append,List.nil_append,List.map_nil]
 rw[sG h,zA,bc (by rw[zD,zD];exact hl)]
theorem wJ{g t w:D}(h:jz g t w=true):∃gs ts ws,g=.tuple gs/\t=.tuple ts/\w=.tuple ws/\1<=gs.length/\gs.length<=4/\1<=ts.length/\ts.length<=4/\(∀p∈gs,placeOk ts.length p=true)/\(∀p∈ts,placeOk gs.length p=true)/\∀x∈ws,jC gs.length ts.length x=true:=by
 simp only[jz,m6,zF] at h
 obtain⟨h1,h2,h3,h4,h5,h6⟩:=h
 cases w<;>try cases h5
 rename_i ws
 have e1:=kc h1
 have e2:=kc h2
 generalize cS g=gs at *
 generalize cS t=ts at *
 subst e1 e2
 simp only[long,zF,zJ] at h1 h2
 exact⟨gs,ts,ws,rfl,rfl,rfl,by omega,by omega,by omega,by omega,List.all_eq_true.mp h3,List.all_eq_true.mp h4,List.all_eq_true.mp h6⟩
theorem zx{b k:Nat}{d:D}(h:iT b k d)(hb:b<=100):cB [d]=some (.bool (NG d)):=by
 unfold NG
 cases e1:long 3 3 d with
 | false=>simp! [cB,gq,dU h.nd,e1,Bool.not_false,Bool.false_and]
 | true =>
  obtain⟨ds,rfl⟩:∃ds,d=.tuple ds:=⟨_,kc e1⟩
  obtain⟨j,rfl,hl,hf⟩:=h.of_tup
  rw[show long 3 3 (.tuple ds)=decide (ds.length=3) from vJ 3 ds,zJ] at e1
  have f0:=hf _ (getD_mem (i:=0) (by omega))
  have f1:=hf _ (getD_mem (i:=1) (by omega))
  have f2':=hf _ (getD_mem (i:=2) (by omega))
  have i0:=BH (show 0 < ds.length by omega)
  have i1:=xA (show 1 < ds.length by omega)
  have i2:=JC (show 2 < ds.length by omega)
  have el:aU [.tuple ds,.int 3,.int 3]=some (.bool true):=by rw[dU rfl,show long 3 3 (.tuple ds)=decide (ds.length=3) from vJ 3 ds,yB e1]
  rw[show cS (.tuple ds)=ds from rfl,Bool.true_and]
  generalize hg:ds.getD 0 .none=g at *
  generalize ht:ds.getD 1 .none=t at *
  generalize hw:ds.getD 2 .none=w at *
  cases e2:jz g t w with
  | false=>simp! [cB,gq,el,i0,i1,i2,n6 f0 f1 f2' hb,e2,Bool.not_false,Bool.not_true,Bool.false_and]
  | true =>
   obtain⟨gs,ts,ws,rfl,rfl,rfl,g1,g4,t1,t4,hG,hT,hW⟩:=wJ e2
   have hfw:=f2'.of_tup
   obtain⟨j2,_,hwl,_⟩:=hfw
   have q1:=va (k:=0) hG
   have q2:=va (k:=0) hT
   have m1:gs.length * ts.length<=16:=Nat.mul_le_mul g4 t4
   have m2:ts.length * gs.length<=16:=Nat.mul_le_mul t4 g4
   have l1:=AJ hG (by omega) (by omega)
   have l2:=AJ hT (by omega) (by omega)
   have s1:=l5 (a:=lT 0 gs) kl (by omega)
   have s2:=l5 (a:=(lT 0 ts).map List.reverse) (fun r hr=>by
    obtain⟨q,hq,rfl⟩:=zQ.mp hr
    obtain⟨i,j,rfl⟩:=kl q hq
    exact⟨j,i,rfl⟩) (by rw[zD];omega)
   have c1:ao 1 [] (aR (f2 av (ab 0) (fC (.int 2)))) (fG 0) (fun _=>some true) (aS (aa (f2 av (ab 0) (fC (.int 0))) (aa (f2 av (ab 0) (fC (.int 1))) ae))) [some (.tuple ds),none,none,none]=some ((ws.map fQ).map af):=by
    rw[bW (ds:=ws) (h:=fun x=>af (fQ x)) (by simp! [i2]) (by omega) fun x hx=>?_,zM]
    ·rfl
    ·obtain⟨vs,c,rfl,v3,v0,v1,_⟩:=Am (hW x hx)
     simp! [BH (show 0 < vs.length by omega),xA (show 1 < vs.length by omega),bc (show [vs.getD 0 PyData.none,vs.getD 1 .none].length<=4000 by simp),af,fQ,cS]
     rw[<- v0,<- v1]
   have c2:∀x y z,ao 2 [] (aR (ah 1 bx (aa (f2 av (ab 0) (fC (.int 1))) ae))) (gN 0 1) (fun _=>some true) (aS (aa (ab 1) (aa (ab 0) ae))) [some (.tuple ds),x,y,z]=some (((lT 0 ts).map List.reverse).map af):=fun x y z =>
    Cm (by simp! [i1,l2]) (by omega) kl
   have st1:aO 1 [0] (ao 1 [] (aR (f2 av (ab 0) (fC (.int 2)))) (fG 0) (fun _=>some true) (aS (aa (f2 av (ab 0) (fC (.int 0))) (aa (f2 av (ab 0) (fC (.int 1))) ae)))) [Slot.val (.tuple ds),.non,.non,.non]=some (.nx [.val (.tuple ds),.own ((ws.map fQ).map af),.non,.non]):=by
    have hh:hand [0] 0 [Slot.val (.tuple ds),.non,.non,.non]=[Slot.val (.tuple ds),.non,.non,.non]:=rfl
    simp only[aO,hh,cn,zI,List.map_nil,Slot.frz,c1,zB,List.set_cons_succ,List.set_cons_zero]
   have st2:aO 2 [0] (mV gH (aa (ah 1 bx (aa (f2 av (ab 0) (fC (.int 0))) ae)) ae)) [Slot.val (.tuple ds),.own ((ws.map fQ).map af),.non,.non]=some (.nx [.val (.tuple ds),.own ((ws.map fQ).map af),.own ((vc (lT 0 gs)).map af),.non]):=by
    have hh:hand [0] 0 [Slot.val (.tuple ds),.own ((ws.map fQ).map af),.non,.non]=[Slot.val (.tuple ds),.own ((ws.map fQ).map af),.non,.non]:=rfl
    simp only[aO,hh,cn,zI,List.map_nil,Slot.frz]
    simp! [i0,l1,s1,List.set_cons_succ,List.set_cons_zero]
   have st3:aO 3 [0] (mV gH (aa (bZ (ao 2 [] (aR (ah 1 bx (aa (f2 av (ab 0) (fC (.int 1))) ae))) (gN 0 1) (fun _=>some true) (aS (aa (ab 1) (aa (ab 0) ae))))) ae)) [Slot.val (.tuple ds),.own ((ws.map fQ).map af),.own ((vc (lT 0 gs)).map af),.non]
      =some (.nx [.val (.tuple ds),.own ((ws.map fQ).map af),.own ((vc (lT 0 gs)).map af),.own ((vc ((lT 0 ts).map List.reverse)).map af)]):=by
    have hh:hand [0] 0 [Slot.val (.tuple ds),.own ((ws.map fQ).map af),.own ((vc (lT 0 gs)).map af),.non]=[Slot.val (.tuple ds),.own ((ws.map fQ).map af),.own ((vc (lT 0 gs)).map af),.non]:=rfl
    simp only[aO,hh,cn,zI,List.map_nil,Slot.frz]
    simp! [c2,s2,List.set_cons_succ,List.set_cons_zero]
   simp! [cB,gq,el,i0,i1,i2,n6 f0 f1 f2' hb,e2,Bool.not_true,Bool.false_eq_true,st1,st2,st3,Dc,Av,cS,Bool.true_and]
   by_cases hq:List.map fQ ws=vc (lT 0 gs)<;>simp[hq]
theorem pZ(xs:List D):PyData.eqvAll xs []=xs.isEmpty:=by cases xs<;>simp[PyData.eqvAll]
theorem Ac:SeqAt.shaped (.list [])=true:=by simp[SeqAt.shaped,PyData.canLay0,PyData.canLayAll0,PyData.depth,PyData.depthAll]
theorem Gc{b k:Nat}{xs:List D}(h:∀x∈xs,iT b k x)(hk:k<=60):cf (.list xs) (.list [])=some (.bool xs.isEmpty):=by
 have hs:SeqAt.shaped (.list xs)=true:=(iT.lst (b:=max b xs.length) (k:=k) (Nat.le_max_right _ _) fun x hx=>(h x hx).mono (Nat.le_max_left _ _) (Nat.le_refl _)).shaped (by omega)
 simp only[cf,Kb,hs,Ac,and_self,if_true,PyData.eqv,pZ,zB]
theorem iH:small []=some []:=rfl
theorem yb{α:Type}(xs:List α)(k:Nat):cut xs none (some (k:Int))=xs.take k:=by
 simp only[cut,HT.vT,HT.BF,List.drop_zero,Nat.sub_zero]
 rw[List.take_eq_take_iff];omega
theorem vX{α:Type}(xs:List α)(k:Nat):cut xs (some (k:Int)) none=xs.drop k:=by
 simp only[cut,HT.vT,HT.BF]
 rw[List.take_of_length_le (by rw[List.length_drop];omega)]
 by_cases h:k<=xs.length
 ·rw[Nat.min_eq_left h]
 ·rw[Nat.min_eq_right (by omega),List.drop_of_length_le (Nat.le_refl _),List.drop_of_length_le (by omega)]
theorem gY(b:Bool):gB (.bool b)=some b:=rfl
theorem Ad(a b:D):small [a,b]=some [a,b]:=rfl
theorem lX:∀ (ρ:ak) (k:Nat),hand [] k ρ=ρ
 | [],k=>rfl
 | s::r,k=>by simp[hand,lX r]
theorem o6:∀ {ps:List D}{k:Nat}{i j:Int},[i,j]∈lT k ps↔∃m p,ps[m]?=some p/\i=((k+m:Nat):Int)/\j∈jP p
 | [],k,i,j=>by simp[lT]
 | p::ps,k,i,j=>by
  rw[lT,List.mem_append,o6 (ps:=ps)]
  constructor
  ·rintro (h|⟨m,q,h1,h2,h3⟩)
   ·obtain⟨y,hy,e⟩:=zQ.mp h
    injection e with e1 e2
    injection e2 with e2 _
    exact⟨0,p,rfl,by simpa using e1.symm,e2 ▸ hy⟩
   ·exact⟨m+1,q,by simpa using h1,by rw[h2];congr 1;omega,h3⟩
  ·rintro⟨m,q,h1,h2,h3⟩
   cases m with
   | zero =>
    simp at h1
    subst h1
    exact .inl (zQ.mpr ⟨j,h3,by rw[h2];rfl⟩)
   | succ m=>exact .inr ⟨m,q,by simpa using h1,by rw[h2];congr 1;omega,h3⟩
theorem sy:∀ {ps:List D}{k:Nat},(∀p∈ps,(jP p).Nodup)->(lT k ps).Nodup
 | [],k,_=>List.nodup_nil
 | p::ps,k,h=>by
  rw[lT,List.nodup_append]
  refine⟨List.pairwise_map.mpr ((h p zE).imp fun hne e=>hne ?_),sy fun q hq=>h q (zC _ hq),?_⟩
  rotate_left
  ·injection e with _ e2
   injection e2
  ·rintro a ha b hb rfl
   obtain⟨y,hy,rfl⟩:=zQ.mp ha
   obtain⟨m,q,h1,h2,h3⟩:=o6.mp hb
   omega
theorem MY{a b:List Int}(h:Dl.lexLt a b=true):lexLe a b=true:=by
 unfold lexLe
 cases e:Dl.lexLt b a with
 | false=>rfl
 | true=>have:=eS h e;rw[gv] at this;cases this
theorem dv{i j:Int}(h:vj i j):Dl.eQ (.int i) (.int j)=some (.int (i * j)):=by
 simp only[Dl.eQ,vR,if_pos h,Option.some_or]
theorem iS{i j:Int}(h:0 < j):Dl.kX (.int i) (.int j)=some (.int (i % j)):=if_pos h
theorem kh{i j:Int}(h:0 < j/\j < 1073741824):Dl.md (.int i) (.int j)=some (.int (i / j)):=if_pos h
theorem g8(i j:Int):Dl.Dq (.int i) (.int j)=some (.bool (decide (j < i))):=rfl
theorem kE(i j:Int):Dl.xb (.int i) (.int j)=some (.bool (decide (i < j))):=rfl
theorem lK{i j:Int}(h:-(2 ^ 64) < i/\i < 2 ^ 64):vj i j:=.inl h
theorem KA{i j:Int}(h:-(2 ^ 64) < j/\j < 2 ^ 64):vj i j:=.inr h
theorem xE(i:Int):Dl.oJ (.int i)=true:=rfl
theorem yc(i:List D):Dl.oJ (.tuple i)=false:=rfl
noncomputable def di(ns:List Int):D:=.list (ns.map PyData.int)
theorem La{ns:List Int}(k:Int)(hl:ns.length<=63):∃c,dY [di ns,.int k]=some (.int c):=by
 have heq:cf (.list (ns.map PyData.int)) (.list [])=some (.bool ns.isEmpty):=by
  have:=Gc (b:=0) (k:=0) (xs:=ns.map PyData.int) (fun x hx=>by obtain⟨i,_,rfl⟩:=zQ.mp hx;exact iW i) (by decide)
  rw[this];cases ns<;>rfl
 by_cases hn:ns=[]
 ·subst hn
  refine⟨7 * k,?_⟩
  rw[List.map_nil,List.isEmpty_nil] at heq
  simp! [dY,gS,di,iH,heq,List.isEmpty_nil,dv (lK (i:=7) (j:=k) (by decide))]
 ·have hpos:(0:Int) < (ns.length:Int):=by have:=List.length_pos_iff.mpr hn;omega
  have he:ns.isEmpty=false:=by cases ns<;>first|rfl|exact absurd rfl hn
  obtain⟨j,hj⟩:=Int.eq_ofNat_of_zero_le (Int.emod_nonneg k (show (ns.length:Int)≠0 by omega))
  have hlt:=Int.emod_lt_of_pos k hpos
  have hx:vH (ns.map PyData.int) (k % (ns.length:Int))=some (.int (ns.getD j 0)):=by
   rw[hj]
   have:j < (ns.map PyData.int).length:=by rw[zD];omega
   rw[mM this,zG,zO,zG]
   rw[zK (by omega)]
   rfl
  refine⟨ns.getD j 0+6553 * (k / (ns.length:Int)),?_⟩
  simp! [dY,gS,di,iH,heq,he,Bool.false_eq_true,zD,iS hpos,hx,kh (i:=k) (j:=(ns.length:Int)) ⟨hpos,by omega⟩,dv (lK (i:=6553) (j:=k / (ns.length:Int)) (by decide))]
theorem Ij{ns:List Int}(k many:Int)(hl:ns.length<=63)(hm:0 < many):∃r,aj [di ns,.int k,.int many]=some (.int r)/\0<=r/\r < many:=by
 obtain⟨c,hc⟩:=La k hl
 have m1:∀i:Int,Dl.kX (.int i) (.int 2147483563)=some (.int (i % 2147483563)):=fun i=>iS (by decide)
 have m2:∀i:Int,Dl.kX (.int i) (.int 2147483399)=some (.int (i % 2147483399)):=fun i=>iS (by decide)
 have m3:∀i:Int,Dl.kX (.int i) (.int 2147483647)=some (.int (i % 2147483647)):=fun i=>iS (by decide)
 have d1:∀i:Int,Dl.md (.int i) (.int 3)=some (.int (i / 3)):=fun i=>kh (by decide)
 have d2:∀i:Int,Dl.md (.int i) (.int 7)=some (.int (i / 7)):=fun i=>kh (by decide)
 have d3:∀i:Int,Dl.md (.int i) (.int 11)=some (.int (i / 11)):=fun i=>kh (by decide)
 have u1:∀i:Int,Dl.eQ (.int i) (.int 69069)=some (.int (i * 69069)):=fun i=>dv (KA (by decide))
 have u2:∀i:Int,Dl.eQ (.int 104723) (.int i)=some (.int (104723 * i)):=fun i=>dv (lK (by decide))
 have b1:∀x:Int,Dl.eQ (.int (x % 2147483563)) (.int (x % 2147483563))=some (.int (x % 2147483563 * (x % 2147483563))):=fun x=>dv (lK (by
  have:=Int.emod_nonneg x (show (2147483563:Int)≠0 by decide)
  have:=Int.emod_lt_of_pos x (show (0:Int) < 2147483563 by decide)
  omega))
 have b2:∀x:Int,Dl.eQ (.int (x % 2147483399)) (.int (x % 2147483399))=some (.int (x % 2147483399 * (x % 2147483399))):=fun x=>dv (lK (by
  have:=Int.emod_nonneg x (show (2147483399:Int)≠0 by decide)
  have:=Int.emod_lt_of_pos x (show (0:Int) < 2147483399 by decide)
  omega))
 suffices h:∃x,aj [di ns,.int k,.int many]=some (.int (x % many)) by
  obtain⟨x,hx⟩:=h
  exact⟨_,hx,Int.emod_nonneg x (show many≠0 by omega),Int.emod_lt_of_pos x hm⟩
 ·refine⟨(((((c % 2147483563 * 69069+104723 * (k+1)) % 2147483563) * ((c % 2147483563 * 69069+104723 * (k+1)) % 2147483563)+((c % 2147483563 * 69069+104723 * (k+1)) % 2147483563) / 3) % 2147483399) * ((((c % 2147483563 * 69069+104723 * (k+1)) % 2147483563) * ((c % 2147483563 * 69069+104723 * (k+1)) % 2147483563)+((c % 2147483563 * 69069+104723 * (k+1)) % 2147483563) / 3) % 2147483399)+((((c % 2147483563 * 69069+104723 * (k+1)) % 2147483563) * ((c % 2147483563 * 69069+104723 * (k+1)) % 2147483563)+((c % 2147483563 * 69069+104723 * (k+1)) % 2147483563) / 3) % 2147483399) / 7) % 2147483647 / 11,?_⟩
  simp! [aj,jy,hc,m1,u1,u2,Dl.ay,xE,List.set_cons_succ,List.set_cons_zero,b1,d1,m2,b2,d2,m3,d3,iS (j:=many) hm]
noncomputable def dr(ns:List Int)(k many:Int):Int:=iU ((aj [di ns,.int k,.int many]).getD .none)
theorem gE{ns:List Int}(k many:Int)(hl:ns.length<=63)(hm:0 < many):aj [di ns,.int k,.int many]=some (.int (dr ns k many))/\0<=dr ns k many/\dr ns k many < many:=by
 obtain⟨r,h1,h2⟩:=Ij k many hl hm
 have:dr ns k many=r:=by simp only[dr,h1,Option.getD_some,iU]
 rw[this];exact⟨h1,h2⟩
theorem qM{ns:List Int}(k many:Int)(hl:ns.length<=63)(hm:0 < many):aj [di ns,.int k,.int many]=some (.int (dr ns k many)):=(gE k many hl hm).1
theorem EI{ns:List Int}(k many:Int)(hl:ns.length<=63)(hm:0 < many):0<=dr ns k many:=(gE k many hl hm).2.1
theorem Dz{ns:List Int}(k many:Int)(hl:ns.length<=63)(hm:0 < many):dr ns k many < many:=(gE k many hl hm).2.2
noncomputable def cw(r:List Int):D:=.list (r.map PyData.int)
noncomputable def insI(ds:List Int)(k:Int)(d:Int):List Int:=let j:=if k < 0 then (k+(ds.length:Int)).toNat else min k.toNat ds.length;ds.take j++d::ds.drop j
theorem CV(ds:List Int)(k d:Int):AX (ds.map PyData.int) k (.int d)=(insI ds k d).map PyData.int:=by
 simp only[AX,insI,zD,List.map_append,zI,List.map_take,List.map_drop]
theorem insI_perm(ds:List Int)(k d:Int):(insI ds k d).Perm (d::ds):=by
 simp only[insI]
 refine List.perm_middle.trans ?_
 rw[List.take_append_drop]
noncomputable def oB:ak->Option Out:=(Fb 6 [8] (ah 3 aj (aa (ab 0) (aa (f2 aM (f2 aM (ab 1) (f2 eQ (fC (.int 4)) (ab 4))) (ab 7)) (aa (f2 aM (bf bq (aa (ab 6) ae)) (fC (.int 1))) ae)))) (ab 8))
theorem Li{ns order:List Int}{a k j x:Int}{s2 s3 s5:Slot}(hl:ns.length<=63)(ho:order.length<=1000) :
  oB [.val (di ns),.val (.int a),s2,s3,.val (.int k),s5,.own (order.map PyData.int),.val (.int j),.val (.int x)] =
   some (.nx [.val (di ns),.val (.int a),s2,s3,.val (.int k),s5,.own ((insI order (dr ns (a+4 * k+j) ((order.length:Int)+1)) x).map PyData.int),.val (.int j),.val (.int x)]):=by
 have h4:Dl.eQ (.int 4) (.int k)=some (.int (4 * k)):=dv (lK (by decide))
 have hd:=gE (ns:=ns) (a+4 * k+j) ((order.length:Int)+1) hl (by omega)
 have hr:Ab (dr ns (a+4 * k+j) ((order.length:Int)+1))=true:=by
  simp only[Ab,zF,zJ]
  omega
 have hz:(order.map PyData.int).length < sizeLine:=by rw[zD];exact Nat.lt_of_le_of_lt ho (by decide)
 simp! [oB,Fb,lh,xE,nI,zD,h4,hd.1]
 rw[zD] at hz
 simp only[hr,hz,and_self,if_true,zB,CV,List.set_cons_succ,List.set_cons_zero]
theorem Fe{ns:List Int}{a k:Int}{s2 s3 s5:Slot}(hl:ns.length<=63):∀ {row order:List Int}{j:Nat}{s7 s8:Slot},order.length+row.length<=1000 ->
  ∃ (o:List Int) (t7 t8:Slot),dc (js 7 8) oB (bJ j (row.map PyData.int)) [.val (di ns),.val (.int a),s2,s3,.val (.int k),s5,.own (order.map PyData.int),s7,s8] =
   some (.nx [.val (di ns),.val (.int a),s2,s3,.val (.int k),s5,.own (o.map PyData.int),t7,t8])/\o.Perm (row++order)
 | [],order,j,s7,s8,_=>⟨order,s7,s8,by simp[bJ,dc],by simp⟩
 | x::row,order,j,s7,s8,h=>by
  rw[zL] at h
  have hp:=insI_perm order (dr ns (a+4 * k+((j:Nat):Int)) ((order.length:Int)+1)) x
  have hlen:=hp.length_eq
  rw[zL] at hlen
  obtain⟨o,t7,t8,e,p⟩:=Fe (s2:=s2) (s3:=s3) (s5:=s5) (a:=a) (k:=k) hl (row:=row) (order:=insI order (dr ns (a+4 * k+((j:Nat):Int)) ((order.length:Int)+1)) x) (j:=j+1) (s7:=.val (.int (j:Nat))) (s8:=.val (.int x)) (by omega)
  refine⟨o,t7,t8,?_,p.trans ?_⟩
  ·have hs:js 7 8 [.val (di ns),.val (.int a),s2,s3,.val (.int k),s5,.own (order.map PyData.int),s7,s8] (.tuple [.int (j:Nat),.int x])=some [.val (di ns),.val (.int a),s2,s3,.val (.int k),s5,.own (order.map PyData.int),.val (.int (j:Nat)),.val (.int x)]:=rfl
   simp only[zI,bJ,dc,hs,zA,Li hl (show order.length<=1000 by omega),e]
  ·refine (hp.append_left row).trans ?_
   rw[List.cons_append]
   exact List.perm_middle
noncomputable def qy:List (List Int)->List (List Int)->Prop|[],[]=>True|a::l,b::m=>a.Perm b/\qy l m|_,_=>False
noncomputable def rB:ak->Option Out:=(aq (aO 6 [] (cG ae)) (aq (fH [5] (bV (aa (ab 5) ae)) (js 7 8) oB) (jI 3 [6] (bf bQ (aa (ab 6) ae)))))
theorem Ke{ns row:List Int}{a k:Int}{rows:D}{found:List D}{s6 s7 s8:Slot}(hl:ns.length<=63)(hr:row.length<=1000)(hf:found.length<=1000) :
  ∃ (o:List Int) (t7 t8:Slot),rB [.val (di ns),.val (.int a),.val rows,.own found,.val (.int k),.val (cw row),s6,s7,s8]=some (.nx [.val (di ns),.val (.int a),.val rows,.own (found++[af o]),.val (.int k),.val (cw row),.val (cw o),t7,t8])/\o.Perm row:=by
 obtain⟨o,t7,t8,e,p⟩:=Fe (s2:=.val rows) (s3:=.own found) (s5:=.val (cw row)) (a:=a) (k:=k) hl (row:=row) (order:=[]) (j:=0) (s7:=s7) (s8:=s8) (by simpa using hr)
 rw[List.append_nil] at p
 refine⟨o,t7,t8,?_,p⟩
 have h1:aO 6 [] (cG ae) [.val (di ns),.val (.int a),.val rows,.own found,.val (.int k),.val (cw row),s6,s7,s8]=some (.nx [.val (di ns),.val (.int a),.val rows,.own found,.val (.int k),.val (cw row),.own [],s7,s8]):=by
  simp only[aO,lX,cG,ae,zA,iH,zB,List.set_cons_succ,List.set_cons_zero]
 have h2:fH [5] (bV (aa (ab 5) ae)) (js 7 8) oB [.val (di ns),.val (.int a),.val rows,.own found,.val (.int k),.val (cw row),.own [],s7,s8]=some (.nx [.val (di ns),.val (.int a),.val rows,.own found,.val (.int k),.val (cw row),.own (o.map PyData.int),t7,t8]):=by
  have hh:hand [5] 0 [Slot.val (di ns),.val (.int a),.val rows,.own found,.val (.int k),.val (cw row),.own [],s7,s8]=[Slot.val (di ns),.val (.int a),.val rows,.own found,.val (.int k),.val (cw row),.own [],s7,s8]:=rfl
  have hq:bV (aa (ab 5) ae) (cn [Slot.val (di ns),.val (.int a),.val rows,.own found,.val (.int k),.val (cw row),.own [],s7,s8])=some (bJ 0 (row.map PyData.int)):=by
   simp only[cn,zI,List.map_nil]
   simp! [bV,cw]
  simp only[fH,hh,hq,zA]
  exact e
 have h3:jI 3 [6] (bf bQ (aa (ab 6) ae)) [.val (di ns),.val (.int a),.val rows,.own found,.val (.int k),.val (cw row),.own (o.map PyData.int),t7,t8]=some (.nx [.val (di ns),.val (.int a),.val rows,.own (found++[af o]),.val (.int k),.val (cw row),.val (cw o),t7,t8]):=by
  have hz:found.length < sizeLine:=Nat.lt_of_le_of_lt hf (by decide)
  have hh:hand [6] 0 [Slot.val (di ns),.val (.int a),.val rows,.own found,.val (.int k),.val (cw row),.own (o.map PyData.int),t7,t8]=[Slot.val (di ns),.val (.int a),.val rows,.own found,.val (.int k),.val (cw row),.val (cw o),t7,t8]:=rfl
  simp only[jI,lh,hh,cn,zI,List.map_nil]
  simp! [yc,Bool.false_eq_true,nI,hz,List.set_cons_succ,List.set_cons_zero,cw,af]
 simp only[rB,aq,h1,h2,h3,zA]
theorem DN{ns:List Int}{a:Int}{rws:D}(hl:ns.length<=63):∀ {rows:List (List Int)}{found:List D}{k:Nat}{s4 s5 s6 s7 s8:Slot},(∀r∈rows,r.length<=1000)->found.length+rows.length<=1000 ->
  ∃ (os:List (List Int)) (t4 t5 t6 t7 t8:Slot),dc (js 4 5) rB (bJ k (rows.map cw)) [.val (di ns),.val (.int a),.val rws,.own found,s4,s5,s6,s7,s8]=some (.nx [.val (di ns),.val (.int a),.val rws,.own (found++os.map af),t4,t5,t6,t7,t8])/\qy os rows
 | [],found,k,s4,s5,s6,s7,s8,_,_=>⟨[],s4,s5,s6,s7,s8,by simp[bJ,dc],trivial⟩
 | r::rows,found,k,s4,s5,s6,s7,s8,h,hf=>by
  rw[zL] at hf
  obtain⟨o,u7,u8,e1,p1⟩:=Ke (rows:=rws) (a:=a) (k:=((k:Nat):Int)) (s6:=s6) (s7:=s7) (s8:=s8) hl (h r zE) (show found.length<=1000 by omega)
  obtain⟨os,t4,t5,t6,t7,t8,e,p⟩:=DN hl (rws:=rws) (a:=a) (rows:=rows) (found:=found++[af o]) (k:=k+1) (s4:=.val (.int (k:Nat))) (s5:=.val (cw r)) (s6:=.val (cw o)) (s7:=u7) (s8:=u8) (fun r' hr'=>h r' (zC _ hr')) (by rw[zN,List.length_singleton];omega)
  refine⟨o::os,t4,t5,t6,t7,t8,?_,p1,p⟩
  have hs:js 4 5 [.val (di ns),.val (.int a),.val rws,.own found,s4,s5,s6,s7,s8] (.tuple [.int (k:Nat),cw r])=some [.val (di ns),.val (.int a),.val rws,.own found,.val (.int (k:Nat)),.val (cw r),s6,s7,s8]:=rfl
  simp only[zI,bJ,dc,hs,zA,e1]
  rw[e,List.append_assoc]
  rfl
theorem wu{ns:List Int}{a:Int}{rows:List (List Int)}(hl:ns.length<=63)(hr:∀r∈rows,r.length<=1000)(hn:rows.length<=1000):∃os:List (List Int),bN [di ns,.int a,.list (rows.map cw)]=some (.list (os.map af))/\qy os rows:=by
 obtain⟨os,t4,t5,t6,t7,t8,e,p⟩:=DN hl (rws:=.list (rows.map cw)) (a:=a) (rows:=rows) (found:=[]) (k:=0) (s4:=.non) (s5:=.non) (s6:=.non) (s7:=.non) (s8:=.non) hr (by simpa using hn)
 refine⟨os,?_,p⟩
 rw[List.nil_append] at e
 have h1:aO 3 [] (cG ae) [.val (di ns),.val (.int a),.val (.list (rows.map cw)),.non,.non,.non,.non,.non,.non]=some (.nx [.val (di ns),.val (.int a),.val (.list (rows.map cw)),.own [],.non,.non,.non,.non,.non]):=by
  simp only[aO,lX,cG,ae,zA,iH,zB,List.set_cons_succ,List.set_cons_zero]
 have h2:fH [2] (bV (aa (ab 2) ae)) (js 4 5) rB [.val (di ns),.val (.int a),.val (.list (rows.map cw)),.own [],.non,.non,.non,.non,.non]=some (.nx [.val (di ns),.val (.int a),.val (.list (rows.map cw)),.own (os.map af),t4,t5,t6,t7,t8]):=by
  have hh:hand [2] 0 [Slot.val (di ns),.val (.int a),.val (.list (rows.map cw)),.own [],.non,.non,.non,.non,.non]=[Slot.val (di ns),.val (.int a),.val (.list (rows.map cw)),.own [],.non,.non,.non,.non,.non]:=rfl
  have hq:bV (aa (ab 2) ae) (cn [Slot.val (di ns),.val (.int a),.val (.list (rows.map cw)),.own [],.non,.non,.non,.non,.non])=some (bJ 0 (rows.map cw)):=by
   simp only[cn,zI,List.map_nil]
   simp! [bV]
  simp only[fH,hh,hq,zA]
  exact e
 unfold rB oB at h2
 simp! [bN,il,h1,h2]
noncomputable abbrev Pl:=Int×List Int
noncomputable abbrev Wy:=Int×Int×Int
noncomputable def bU(p:Pl):D:=.tuple [.int p.1,af p.2]
noncomputable def ar(w:Wy):D:=.tuple [.int w.1,.int w.2.1,.int w.2.2]
noncomputable def ax(G T:List Pl)(W:List Wy):D:=.tuple [.tuple (G.map bU),.tuple (T.map bU),.tuple (W.map ar)]
noncomputable def Bt(W:List Wy)(i:Int):List Int:=(W.filter fun w=>decide (w.1=i)).map fun w=>w.2.1
noncomputable def ofT(W:List Wy)(j:Int):List Int:=(W.filter fun w=>decide (w.2.1=j)).map fun w=>w.1
abbrev vP(W:List Wy):Prop:=W.Pairwise fun a b=>a.1 < b.1\/(a.1=b.1/\a.2.1 < b.2.1)
structure Wd(G T:List Pl)(W:List Wy):Prop where
 g1:1<=G.length
 g4:G.length<=4
 t1:1<=T.length
 t4:T.length<=4
 ga:∀p∈G,0<=p.1/\p.1<=9
 ta:∀p∈T,0<=p.1/\p.1<=9
 gl:∀ (i:Nat) (p:Pl),G[i]?=some p->p.2.Perm (Bt W i)
 tl:∀ (j:Nat) (p:Pl),T[j]?=some p->p.2.Perm (ofT W j)
 wr:∀w∈W,(0<=w.1/\w.1 < G.length)/\(0<=w.2.1/\w.2.1 < T.length)/\1<=w.2.2/\w.2.2<=9
 wp:vP W
 wl:W.length<=16
theorem tZ{W:List Wy}{i j:Int}:j∈Bt W i↔[i,j]∈W.map fun w=>[w.1,w.2.1]:=by
 simp only[Bt,zQ,List.mem_filter,zJ,List.cons.injEq,and_true]
 constructor
 ·rintro⟨w,⟨h1,h2⟩,h3⟩;exact⟨w,h1,h2,h3⟩
 ·rintro⟨w,h1,h2,h3⟩;exact⟨w,⟨h1,h2⟩,h3⟩
theorem vg{W:List Wy}{i j:Int}:i∈ofT W j↔[i,j]∈W.map fun w=>[w.1,w.2.1]:=by
 simp only[ofT,zQ,List.mem_filter,zJ,List.cons.injEq,and_true]
 constructor
 ·rintro⟨w,⟨h1,h2⟩,h3⟩;exact⟨w,h1,h3,h2⟩
 ·rintro⟨w,h1,h2,h3⟩;exact⟨w,⟨h1,h3⟩,h2⟩
theorem mW{W:List Wy}(h:vP W)(i:Int):(Bt W i).Nodup:=by
 unfold Bt List.Nodup
 rw[List.pairwise_map,List.pairwise_filter]
 refine h.imp fun hab ha hb=>?_
 rw[zJ] at ha hb
 omega
theorem nz{W:List Wy}(h:vP W)(i:Int):(ofT W i).Nodup:=by
 unfold ofT List.Nodup
 rw[List.pairwise_map,List.pairwise_filter]
 refine h.imp fun hab ha hb=>?_
 rw[zJ] at ha hb
 omega
theorem gf(p:Pl):jP (bU p)=p.2:=by
 show ((p.2.map PyData.int).map iU)=p.2
 rw[zM]
 exact List.map_id _
theorem oh{n:Int}{p:Pl}(ha:0<=p.1/\p.1<=9)(hn:p.2.Nodup)(hr:∀j∈p.2,0<=j/\j < n):placeOk n (bU p)=true:=by
 have e:(p.2.map PyData.int).map iU=p.2:=gf p
 have e2:(p.2.map PyData.int).all (whole 0 (n - 1))=true:=by
  rw[List.all_eq_true]
  intro x hx
  obtain⟨j,hj,rfl⟩:=zQ.mp hx
  have:=hr j hj
  simp only[whole,zF,zJ]
  omega
 simp only[placeOk,bU,af,zL,List.length_nil,List.getD_cons_zero,List.getD_cons_succ,jh,whole,e,e2,ha.1,ha.2,hn,decide_true,Bool.and_self]
theorem C3{g t:Int}{w:Wy}(h:(0<=w.1/\w.1 < g)/\(0<=w.2.1/\w.2.1 < t)/\1<=w.2.2/\w.2.2<=9):jC g t (ar w)=true:=by
 obtain⟨⟨a,b⟩,⟨c,d⟩,e,f⟩:=h
 have b':w.1<=g - 1:=by omega
 have d':w.2.1<=t - 1:=by omega
 simp only[jC,ar,zL,List.length_nil,List.getD_cons_zero,List.getD_cons_succ,whole,a,b',c,d',e,f,decide_true,Bool.and_self]
theorem Oi{a b c d:Int}(h:a < c\/(a=c/\b < d)):Dl.lexLt [a,b] [c,d]=true:=by
 show HT.lexLt [a,b] [c,d]=true
 rw[HT.dI]
 by_cases e:a=c
 ·rw[if_pos e,HT.dI,if_neg (by omega)]
  simp only[zJ];omega
 ·rw[if_neg e];simp only[zJ];omega
theorem Wd.glike{G T:List Pl}{W:List Wy}(h:Wd G T W){p:Pl}(hp:p∈G):∃i:Nat,i < G.length/\p.2.Perm (Bt W i):=by
 obtain⟨i,hi,e⟩:=List.getElem_of_mem hp
 exact⟨i,hi,h.gl i p (by rw[zK hi,e])⟩
theorem Wd.tlike{G T:List Pl}{W:List Wy}(h:Wd G T W){p:Pl}(hp:p∈T):∃i:Nat,i < T.length/\p.2.Perm (ofT W i):=by
 obtain⟨i,hi,e⟩:=List.getElem_of_mem hp
 exact⟨i,hi,h.tl i p (by rw[zK hi,e])⟩
theorem Wd.gok{G T:List Pl}{W:List Wy}(h:Wd G T W):(G.map bU).all (placeOk T.length)=true:=by
 rw[List.all_eq_true]
 intro x hx
 obtain⟨p,hp,rfl⟩:=zQ.mp hx
 obtain⟨i,hi,q⟩:=h.glike hp
 refine oh (h.ga p hp) (q.nodup_iff.mpr (mW h.wp _)) fun j hj=>?_
 obtain⟨w,hw,e⟩:=zQ.mp (tZ.mp (q.mem_iff.mp hj))
 injection e with e1 e2
 injection e2 with e2 _
 have:=(h.wr w hw).2.1
 rw[e2] at this;exact this
theorem Wd.tok{G T:List Pl}{W:List Wy}(h:Wd G T W):(T.map bU).all (placeOk G.length)=true:=by
 rw[List.all_eq_true]
 intro x hx
 obtain⟨p,hp,rfl⟩:=zQ.mp hx
 obtain⟨i,hi,q⟩:=h.tlike hp
 refine oh (h.ta p hp) (q.nodup_iff.mpr (nz h.wp _)) fun j hj=>?_
 obtain⟨w,hw,e⟩:=zQ.mp (vg.mp (q.mem_iff.mp hj))
 injection e with e1 e2
 have:=(h.wr w hw).1
 rw[e1] at this;exact this
theorem pq{W:List Wy}{p:Wy->Bool}(h:W.length<=16):(W.filter p).length<=16:=yE (List.length_filter_le _ _) h
theorem AN{p:Pl}(h:p.2.length<=16):iT 16 2 (bU p):=.tup (by simp only[zL,List.length_nil];omega) fun x hx=>by
 rcases zR.mp hx with rfl|hx
 ·exact iW _
 ·rw[yK] at hx
  subst hx
  exact BD h
theorem G8(w:Wy):iT 16 1 (ar w):=.tup (by simp only[zL,List.length_nil];omega) fun x hx=>by
 simp only[zR,yG,or_false] at hx
 rcases hx with rfl|rfl|rfl<;>exact iW _
theorem Wd.fit{G T:List Pl}{W:List Wy}(h:Wd G T W):iT 16 4 (ax G T W):=by
 refine .tup (by simp only[zL,List.length_nil];omega) fun x hx=>?_
 simp only[zR,yG,or_false] at hx
 have h4:=h.g4
 have h5:=h.t4
 have h6:=h.wl
 rcases hx with rfl|rfl|rfl
 ·refine .tup (by rw[zD];omega) fun x hx=>?_
  obtain⟨p,hp,rfl⟩:=zQ.mp hx
  obtain⟨i,hi,q⟩:=h.glike hp
  exact AN (by rw[q.length_eq,Bt,zD];exact pq h.wl)
 ·refine .tup (by rw[zD];omega) fun x hx=>?_
  obtain⟨p,hp,rfl⟩:=zQ.mp hx
  obtain⟨i,hi,q⟩:=h.tlike hp
  exact AN (by rw[q.length_eq,ofT,zD];exact pq h.wl)
 ·refine .tup (by rw[zD];omega) fun x hx=>?_
  obtain⟨p,hp,rfl⟩:=zQ.mp hx
  exact (G8 p).mono (Nat.le_refl _) (by decide)
theorem Ci{c:Int}(h0:0<=c)(h9:c<=9):Wd [(c,[0,1]),(c,[1,0])] [(c,[1,0]),(c,[0,1])] [(0,0,2),(0,1,2),(1,0,2),(1,1,2)] where
 g1:=by simp only[zL,List.length_nil];omega
 g4:=by simp only[zL,List.length_nil];omega
 t1:=by simp only[zL,List.length_nil];omega
 t4:=by simp only[zL,List.length_nil];omega
 ga:=by intro p hp;simp only[zR,yG,or_false] at hp;rcases hp with rfl|rfl<;>exact⟨h0,h9⟩
 ta:=by intro p hp;simp only[zR,yG,or_false] at hp;rcases hp with rfl|rfl<;>exact⟨h0,h9⟩
 gl:=by
  intro i p hp
  match i,hp with
  | 0,hp=>injection hp with hp;subst hp;exact (show List.Perm ([0,1]:List Int) (Bt [(0,0,2),(0,1,2),(1,0,2),(1,1,2)] ((0:Nat):Int)) by decide)
  | 1,hp=>injection hp with hp;subst hp;exact (show List.Perm ([1,0]:List Int) (Bt [(0,0,2),(0,1,2),(1,0,2),(1,1,2)] ((1:Nat):Int)) by decide)
 tl:=by
  intro i p hp
  match i,hp with
  | 0,hp=>injection hp with hp;subst hp;exact (show List.Perm ([1,0]:List Int) (ofT [(0,0,2),(0,1,2),(1,0,2),(1,1,2)] ((0:Nat):Int)) by decide)
  | 1,hp=>injection hp with hp;subst hp;exact (show List.Perm ([0,1]:List Int) (ofT [(0,0,2),(0,1,2),(1,0,2),(1,1,2)] ((1:Nat):Int)) by decide)
 wr:=show ∀w∈([(0,0,2),(0,1,2),(1,0,2),(1,1,2)]:List Wy),(0<=w.1/\w.1 < ((2:Nat):Int))/\(0<=w.2.1/\w.2.1 < ((2:Nat):Int))/\1<=w.2.2/\w.2.2<=9 by decide
 wp:=by decide
 wl:=by decide
noncomputable def jG(f:Nat->Int):Nat->List (List Int)->List Pl|_,[]=>[]|k,r::rs=>(f k,r)::jG f (k+1) rs
theorem iK(f:Nat->Int):∀ (rs:List (List Int)) (k:Nat),(jG f k rs).length=rs.length
 | [],k=>rfl
 | r::rs,k=>by rw[jG,zL,zL,iK f rs]
theorem iN(f:Nat->Int):∀ {rs:List (List Int)}{k i:Nat}{p:Pl},(jG f k rs)[i]?=some p->∃r,rs[i]?=some r/\p=(f (k+i),r)
 | [],k,i,p,h=>by simp[jG] at h
 | r::rs,k,0,p,h=>by simp[jG] at h;exact⟨r,rfl,h.symm⟩
 | r::rs,k,i+1,p,h=>by
  simp only[jG,List.getElem?_cons_succ] at h
  obtain⟨y,h1,h2⟩:=iN f h
  exact⟨y,by simpa using h1,by rw[h2];congr 2;omega⟩
theorem eI:∀ {a b:List (List Int)},qy a b->a.length=b.length
 | [],[],_=>rfl
 | x::a,y::b,h=>by rw[zL,zL,eI h.2]
 | [],_::_,h=>h.elim
 | _::_,[],h=>h.elim
theorem ny:∀ {a b:List (List Int)}{i:Nat}{r:List Int},qy a b->a[i]?=some r->∃s,b[i]?=some s/\r.Perm s
 | [],[],i,r,_,h=>by simp at h
 | x::a,y::b,0,r,h,e=>by
  simp only[List.getElem?_cons_zero,yL] at e
  subst e
  exact⟨y,rfl,h.1⟩
 | x::a,y::b,i+1,r,h,e=>by
  simp only[List.getElem?_cons_succ] at e
  obtain⟨s,h1,h2⟩:=ny h.2 e
  exact⟨s,by simpa using h1,h2⟩
 | [],_::_,i,r,h,_=>h.elim
 | _::_,[],i,r,h,_=>h.elim
noncomputable def k9(W:List Wy)(m:Nat):List (List Int):=(List.range m).map fun i=>Bt W ((i:Nat):Int)
noncomputable def lj(W:List Wy)(m:Nat):List (List Int):=(List.range m).map fun i=>ofT W ((i:Nat):Int)
theorem G9{m s:Nat}{W:List Wy}{mine yours:List (List Int)}{f g:Nat->Int}(m1:1<=m)(m4:m<=4)(s1:1<=s)(s4:s<=4)(hf:∀k,0<=f k/\f k<=9)(hg:∀k,0<=g k/\g k<=9)
  (hm:qy mine (k9 W m)) (hy:qy yours (lj W s)) (wr:∀w∈W,(0<=w.1/\w.1 < m)/\(0<=w.2.1/\w.2.1 < s)/\1<=w.2.2/\w.2.2<=9) (wp:vP W) (wl:W.length<=16):Wd (jG f 0 mine) (jG g 0 yours) W:=by
 have lm:(jG f 0 mine).length=m:=by rw[iK,eI hm,k9,zD,zS]
 have ly:(jG g 0 yours).length=s:=by rw[iK,eI hy,lj,zD,zS]
 have am:∀ {h:Nat->Int}{rs:List (List Int)},(∀k,0<=h k/\h k<=9)->∀p∈jG h 0 rs,0<=p.1/\p.1<=9:=fun {h rs} hh p hp=>by
  obtain⟨i,hi⟩:=List.mem_iff_getElem?.mp hp
  obtain⟨r,_,rfl⟩:=iN h hi
  exact hh _
 refine⟨by omega,by omega,by omega,by omega,am hf,am hg,fun i p hp=>?_,fun i p hp=>?_,by rw[lm,ly];exact wr,wp,wl⟩
 ·obtain⟨r,h1,rfl⟩:=iN f hp
  obtain⟨t,h2,h3⟩:=ny hm h1
  rw[k9,zO] at h2
  obtain⟨k,hk,rfl⟩:=Option.map_eq_some_iff.mp h2
  have:k=i:=by
   rw[zU] at hk
   obtain⟨h,e⟩:=hk
   rw[List.getElem_range] at e
   exact e.symm
  subst this
  exact h3
 ·obtain⟨r,h1,rfl⟩:=iN g hp
  obtain⟨t,h2,h3⟩:=ny hy h1
  rw[lj,zO] at h2
  obtain⟨k,hk,rfl⟩:=Option.map_eq_some_iff.mp h2
  have:k=i:=by
   rw[zU] at hk
   obtain⟨h,e⟩:=hk
   rw[List.getElem_range] at e
   exact e.symm
  subst this
  exact h3
theorem cm{i:Nat}{fz:List Nat}{f:Dl.Env->Option D}{ρ ρ':ak}{d:D}(hf:f (bg ρ)=some d)(hs:Dl.oJ d=false)(hh:hand fz 0 ρ=ρ')(hv:cn ρ'=bg ρ)(hr:iA d=false\/ρ'=ρ:=by first|exact .inr rfl|exact .inl rfl):Dl.ay i fz f ρ=some (.nx (ρ'.set i (.val d))):=by
 rcases hr with hr|hr
 ·simp only[Dl.ay,hf,zA,hs,Bool.false_eq_true,if_false,hh,hv,zB,hr]
 ·subst hr
  simp only[Dl.ay,hf,zA,hs,Bool.false_eq_true,if_false,hh,hv,zB,ite_self]
theorem bP{i:Nat}{fz:List Nat}{f:Dl.Env->Option D}{ρ:ak}{d:D}(hf:f (bg ρ)=some d)(hs:Dl.oJ d=true):Dl.ay i fz f ρ=some (.nx (ρ.set i (.val d))):=by
 simp only[Dl.ay,hf,zA,hs,if_true]
theorem JL(w:Wy):av (ar w) (.int 0)=some (.int w.1):=rfl
theorem Jx(w:Wy):av (ar w) (.int 1)=some (.int w.2.1):=rfl
theorem yU(a b c:D):small [a,b,c]=some [a,b,c]:=rfl
theorem Nw{a b s:Int}(hs:s=1\/s=2\/s=3)(h:a < b):a / s < b / s\/(a / s=b / s/\a % s < b % s):=by rcases hs with rfl|rfl|rfl<;>omega
theorem K9{k m s:Int}(hs:s=1\/s=2\/s=3)(hm:m=1\/m=2\/m=3)(h0:0<=k)(h:k < m * s):(0<=k / s/\k / s < m)/\0<=k % s/\k % s < s:=by
 rcases hs with rfl|rfl|rfl<;>rcases hm with rfl|rfl|rfl<;>omega
noncomputable def lB:ak->Option Out:=(eL (fS (fB (f2 xb (bf bq (aa (ab 7) ae)) (ab 2))) (fB (f2 Dq (ah 3 aj (aa (ab 0) (aa (f2 aM (f2 aM (ab 1) (fC (.int 2))) (ab 8)) (aa (fC (.int 4)) ae)))) (fC (.int 0))))) (jI 7 [0,1,6,8] (aS (aa (f2 md (ab 8) (ab 6)) (aa (f2 kX (ab 8) (ab 6)) (aa (f2 aM (fC (.int 1)) (ah 3 aj (aa (ab 0) (aa (f2 aM (f2 aM (ab 1) (fC (.int 12))) (ab 8)) (aa (fC (.int 2)) ae))))) ae))))) eF)
noncomputable abbrev st(ns:List Int)(a mo m s:Int)(x4 x7 x8 x9 x10 x11:Slot):ak:=[.val (di ns),.val (.int a),.val (.int mo),.non,x4,.val (.int m),.val (.int s),x7,x8,x9,x10,x11]
noncomputable def HS(ns:List Int)(a mo s k:Int)(W:List Wy):List Wy:=if (W.length:Int) < mo/\0 < dr ns (a+2+k) 4 then W++[(k / s,k % s,1+dr ns (a+12+k) 2)] else W
theorem Lf{ns:List Int}{a mo m s k:Int}{W:List Wy}(hl:ns.length<=63)(hs:s=1\/s=2\/s=3)(hw:W.length<=9) :
  lB (st ns a mo m s .non (.own (W.map ar)) (.val (.int k)) .non .non .non)=some (.nx (st ns a mo m s .non (.own ((HS ns a mo s k W).map ar)) (.val (.int k)) .non .non .non)):=by
 have hs0:0 < s:=by omega
 have hz:W.length < sizeLine:=Nat.lt_of_le_of_lt hw (by decide)
 have hd:Dl.md (.int k) (.int s)=some (.int (k / s)):=kh ⟨hs0,by omega⟩
 have hm:Dl.kX (.int k) (.int s)=some (.int (k % s)):=iS hs0
 have e4:=qM (ns:=ns) (a+2+k) 4 hl (by decide)
 have e2:=qM (ns:=ns) (a+12+k) 2 hl (by decide)
 have hh:hand [0,1,6,8] 0 (st ns a mo m s .non (.own (W.map ar)) (.val (.int k)) .non .non .non)=st ns a mo m s .non (.own (W.map ar)) (.val (.int k)) .non .non .non:=rfl
 have ha:jI 7 [0,1,6,8] (aS (aa (f2 md (ab 8) (ab 6)) (aa (f2 kX (ab 8) (ab 6)) (aa (f2 aM (fC (.int 1)) (ah 3 aj (aa (ab 0) (aa (f2 aM (f2 aM (ab 1) (fC (.int 12))) (ab 8)) (aa (fC (.int 2)) ae))))) ae)))) (st ns a mo m s .non (.own (W.map ar)) (.val (.int k)) .non .non .non)=some (.nx (st ns a mo m s .non (.own ((W++[(k / s,k % s,1+dr ns (a+12+k) 2)]).map ar)) (.val (.int k)) .non .non .non)):=by
  simp only[jI,lh,hh,cn,zI,List.map_nil]
  simp! [yc,Bool.false_eq_true,nI,hd,hm,e2,yU,zD,hz,List.set_cons_succ,List.set_cons_zero,List.map_append]
  rfl
 by_cases c1:(W.length:Int) < mo
 ·by_cases c2:0 < dr ns (a+2+k) 4
  ·rw[show HS ns a mo s k W=W++[(k / s,k % s,1+dr ns (a+12+k) 2)] from if_pos ⟨c1,c2⟩,<- ha]
   simp! [lB,kE,g8,zD,c1,c2,decide_true,gY,e4]
  ·rw[show HS ns a mo s k W=W from if_neg fun h=>c2 h.2]
   simp! [lB,kE,g8,zD,c1,c2,decide_true,decide_false,gY,e4,Bool.false_eq_true]
 ·rw[show HS ns a mo s k W=W from if_neg fun h=>c1 h.1]
  simp! [lB,kE,g8,zD,c1,decide_false,gY,Bool.false_eq_true]
structure Dj(mo s k:Int)(W:List Wy):Prop where
 mem:∀w∈W,∃j:Int,0<=j/\j < k/\w.1=j / s/\w.2.1=j % s/\1<=w.2.2/\w.2.2<=2
 ris:vP W
 len:(W.length:Int)<=k
 lem:(W.length:Int)<=mo
theorem Dj.next{ns:List Int}{a mo s k:Int}{W:List Wy}(hl:ns.length<=63)(hs:s=1\/s=2\/s=3)(hk:0<=k)(h:Dj mo s k W):Dj mo s (k+1) (HS ns a mo s k W):=by
 have old:∀w∈W,∃j:Int,0<=j/\j < k+1/\w.1=j / s/\w.2.1=j % s/\1<=w.2.2/\w.2.2<=2:=fun w hw=>by
  obtain⟨j,a,b,c⟩:=h.mem w hw
  exact⟨j,a,by omega,c⟩
 by_cases c:(W.length:Int) < mo/\0 < dr ns (a+2+k) 4
 ·rw[show HS ns a mo s k W=W++[(k / s,k % s,1+dr ns (a+12+k) 2)] from if_pos c]
  have g1:=EI (ns:=ns) (a+12+k) 2 hl (by decide)
  have g2:=Dz (ns:=ns) (a+12+k) 2 hl (by decide)
  refine⟨fun w hw=>?_,?_,?_,?_⟩
  ·rcases List.mem_append.mp hw with hw|hw
   ·exact old w hw
   ·rw[yK] at hw
    subst hw
    exact⟨k,hk,by omega,rfl,rfl,by simp only;omega,by simp only;omega⟩
  ·refine List.pairwise_append.mpr ⟨h.ris,List.pairwise_singleton _ _,fun a ha b hb=>?_⟩
   rw[yK] at hb
   subst hb
   obtain⟨j,_,b,c1,c2,_⟩:=h.mem a ha
   rw[c1,c2]
   exact Nw hs b
  ·have:=h.len;rw[zN,List.length_singleton];omega
  ·have:=c.1;rw[zN,List.length_singleton];omega
 ·rw[show HS ns a mo s k W=W from if_neg c]
  exact⟨old,h.ris,by have:=h.len;omega,h.lem⟩
theorem Gb{ns:List Int}{a mo m s:Int}(hl:ns.length<=63)(hs:s=1\/s=2\/s=3):∀ (n k:Nat) {W:List Wy}{x8:Slot},k+n<=9->Dj mo s k W ->
  ∃W' t8,dc (mQ 8) lB ((List.range' k n).map fun i=>PyData.int ((i:Nat):Int)) (st ns a mo m s .non (.own (W.map ar)) x8 .non .non .non)=some (.nx (st ns a mo m s .non (.own (W'.map ar)) t8 .non .non .non))/\(n=0/\t8=x8\/∃d,t8=.val d)/\Dj mo s ((k+n:Nat):Int) W'
 | 0,k,W,x8,hk,h=>⟨W,x8,rfl,.inl ⟨rfl,rfl⟩,h⟩
 | n+1,k,W,x8,hk,h=>by
  have h':Dj mo s ((k+1:Nat):Int) (HS ns a mo s k W):=by
   have:=h.next (ns:=ns) (a:=a) hl hs (by omega)
   rwa [show ((k:Int)+1)=((k+1:Nat):Int) by omega] at this
  obtain⟨W',t8,e,q,b⟩:=Gb hl hs n (k+1) (W:=HS ns a mo s k W) (x8:=.val (.int (k:Nat))) (by omega) h'
  refine⟨W',t8,?_,.inr (q.elim (fun z=>⟨_,z.2⟩) id),by rw[show k+(n+1)=k+1+n by omega];exact b⟩
  have hsg:∀d,mQ 8 (st ns a mo m s .non (.own (W.map ar)) x8 .non .non .non) d=some (st ns a mo m s .non (.own (W.map ar)) (.val d) .non .non .non):=fun d=>rfl
  rw[List.range'_succ,zI,dc,hsg,zA,Lf hl hs (by have:=h.len;omega)]
  exact e
theorem O6(W:List Wy)(i:Int)(hw:W.length<=20):ao 1 [0] (aR (ab 1)) (fG 0) (fB (f2 cf (f2 av (ab 0) (fC (.int 0))) (ab 1))) (f2 av (ab 0) (fC (.int 1))) [some (.int i),some (.list (W.map ar))]=some ((Bt W i).map PyData.int):=by
 rw[mN (ds:=W.map ar) (p:=fun d=>decide (iU ((cS d).getD 0 .none)=i)) (h:=fun d=>(cS d).getD 1 .none) rfl (by rw[zD];omega) (fun d hd=>?_) fun d hd _=>?_]
 ·rw[List.filter_map,zM,Bt,zM];rfl
 ·obtain⟨w,_,rfl⟩:=zQ.mp hd
  simp! [JL,fx,gY]
  rfl
 ·obtain⟨w,_,rfl⟩:=zQ.mp hd
  simp! [Jx]
  rfl
theorem Pq(W:List Wy)(i:Int)(hw:W.length<=20):ao 1 [0] (aR (ab 1)) (fG 0) (fB (f2 cf (f2 av (ab 0) (fC (.int 1))) (ab 1))) (f2 av (ab 0) (fC (.int 0))) [some (.int i),some (.list (W.map ar))]=some ((ofT W i).map PyData.int):=by
 rw[mN (ds:=W.map ar) (p:=fun d=>decide (iU ((cS d).getD 1 .none)=i)) (h:=fun d=>(cS d).getD 0 .none) rfl (by rw[zD];omega) (fun d hd=>?_) fun d hd _=>?_]
 ·rw[List.filter_map,zM,ofT,zM];rfl
 ·obtain⟨w,_,rfl⟩:=zQ.mp hd
  simp! [Jx,fx,gY]
  rfl
 ·obtain⟨w,_,rfl⟩:=zQ.mp hd
  simp! [JL]
  rfl
theorem Bp{m:Nat}(hm:m<=1000):Ab ((m:Nat):Int)=true:=by
 unfold Ab
 rw[zF,zJ,zJ]
 have h1:(0:Int)<=(m:Int):=Int.natCast_nonneg m
 have h2:(m:Int)<=1000:=by omega
 exact⟨Int.le_trans (by decide) h1,Int.lt_of_le_of_lt h2 (by decide)⟩
theorem xt{j:Int}(h:Ab j=true):lO [.int j]=some ((List.range j.toNat).map fun i=>PyData.int ((i:Nat):Int)):=by
 rw[lO,if_pos h]
theorem vD{fi:Dl.Env->Option D}{ρ:Dl.Env}(m:Nat)(hm:m<=1000)(h:fi ρ=some (.int (m:Nat))):bF (aa fi ae) ρ=some ((List.range m).map fun i=>PyData.int ((i:Nat):Int)):=by
 have e:aa fi ae ρ=some [.int ((m:Nat):Int)]:=by simp only[aa,ae,h,zA,zB]
 have e2:bF (aa fi ae) ρ=(aa fi ae ρ).bind lO:=rfl
 rw[e2,e,zA,xt (Bp hm),yH]
theorem Iw{W:List Wy}{m:Nat}{i7 i5:Nat}{ρ:Dl.Env}(hw:W.length<=20)(hm:m<=1000)(h5:ab i5 ρ=some (.int (m:Nat)))(h7:(ρ[i7]?).getD none=some (.list (W.map ar))) :
  ao 1 [i7] (bF (aa (ab i5) ae)) (fG 0) (fun _=>some true) (bZ (ao 1 [0] (aR (ab 1)) (fG 0) (fB (f2 cf (f2 av (ab 0) (fC (.int 0))) (ab 1))) (f2 av (ab 0) (fC (.int 1))))) ρ=some ((k9 W m).map cw):=by
 rw[bW (h:=fun d=>cw (Bt W (iU d))) (vD m hm h5) (by rw[zD,zS];omega) fun d hd=>?_]
 ·rw[k9,zM,zM];rfl
 ·obtain⟨i,_,rfl⟩:=zQ.mp hd
  simp only[zI,List.map_nil,h7,bZ,O6 W _ hw,zB,cw,iU]
theorem Iu{W:List Wy}{m:Nat}{i7 i5:Nat}{ρ:Dl.Env}(hw:W.length<=20)(hm:m<=1000)(h5:ab i5 ρ=some (.int (m:Nat)))(h7:(ρ[i7]?).getD none=some (.list (W.map ar))) :
  ao 1 [i7] (bF (aa (ab i5) ae)) (fG 0) (fun _=>some true) (bZ (ao 1 [0] (aR (ab 1)) (fG 0) (fB (f2 cf (f2 av (ab 0) (fC (.int 1))) (ab 1))) (f2 av (ab 0) (fC (.int 0))))) ρ=some ((lj W m).map cw):=by
 rw[bW (h:=fun d=>cw (ofT W (iU d))) (vD m hm h5) (by rw[zD,zS];omega) fun d hd=>?_]
 ·rw[lj,zM,zM];rfl
 ·obtain⟨i,_,rfl⟩:=zQ.mp hd
  simp only[zI,List.map_nil,h7,bZ,Pq W _ hw,zB,cw,iU]
noncomputable def Jq(c:Int):Dl.Env->Option D:=(aS (aa (ah 3 aj (aa (ab 2) (aa (f2 aM (f2 aM (ab 3) (fC (.int c))) (ab 0)) (aa (fC (.int 4)) ae)))) (aa (ab 1) ae)))
theorem M1{ns:List Int}{a:Int}(c:Int)(hl:ns.length<=63):∀ (mine:List (List Int)) (k:Nat),cx (gN 0 1) (fun _=>some true) (Jq c) [none,none,some (di ns),some (.int a)] (bJ k (mine.map af))=some ((jG (fun k=>dr ns (a+c+((k:Nat):Int)) 4) k mine).map bU)
 | [],k=>rfl
 | r::mine,k=>by
  have hg:gN 0 1 [none,none,some (di ns),some (.int a)] (.tuple [.int ((k:Nat):Int),af r])=some [some (.int ((k:Nat):Int)),some (af r),some (di ns),some (.int a)]:=rfl
  have he:Jq c [some (.int ((k:Nat):Int)),some (af r),some (di ns),some (.int a)]=some (bU (dr ns (a+c+((k:Nat):Int)) 4,r)):=by
   simp! [Jq,qM (ns:=ns) (a+c+((k:Nat):Int)) 4 hl (by decide),Ad,bU]
  have ih:=M1 (a:=a) c hl mine (k+1)
  rw[zI,bJ,cx,hg]
  simp only[zA,if_true,he,ih,zB,jG,zI]
theorem kn:∀ (ds:List D) (k:Nat),(bJ k ds).length=ds.length
 | [],k=>rfl
 | d::ds,k=>by rw[bJ,zL,zL,kn ds]
theorem xU{ns:List Int}{a c:Int}{i9:Nat}{ρ:Dl.Env}{mine:List (List Int)}(hl:ns.length<=63)(hm:mine.length<=1000)(h9:ab i9 ρ=some (.list (mine.map af)))(h0:(ρ[0]?).getD none=some (di ns))(h1:(ρ[1]?).getD none=some (.int a)) :
  bf bQ (aa (bZ (ao 2 [0,1] (bV (aa (ab i9) ae)) (gN 0 1) (fun _=>some true) (Jq c))) ae) ρ=some (.tuple ((jG (fun k=>dr ns (a+c+((k:Nat):Int)) 4) 0 mine).map bU)):=by
 have hi:bV (aa (ab i9) ae) ρ=some (bJ 0 (mine.map af)):=by
  simp only[bV,aa,ae,h9,zA,zB,dO,oneOf,iI]
 have hc:ao 2 [0,1] (bV (aa (ab i9) ae)) (gN 0 1) (fun _=>some true) (Jq c) ρ=some ((jG (fun k=>dr ns (a+c+((k:Nat):Int)) 4) 0 mine).map bU):=by
  simp only[ao,hi,zA,eG,zI,List.map_nil,h0,h1,List.replicate,List.cons_append,List.nil_append,M1 c hl]
  exact bc (by rw[zD,iK];omega)
 simp only[bf,aa,ae,bZ,hc,zB,zA,bQ,dO,oneOf,iI]
theorem ai{g1 g2:ak->Option Out}{ρ ρ':ak}(h:g1 ρ=some (.nx ρ')):aq g1 g2 ρ=g2 ρ':=by
 simp only[aq,h,zA]
theorem aH{g:ak->Option Out}{n:Nat}{args:List D}{d:D}(h:g (args.map Slot.val++List.replicate (n - args.length) .non)=some (.rt d)):bb g n args=some d:=by
 simp only[bb,h,zB]
theorem jB{g:D->D->Option D}{fa fb:Dl.Env->Option D}{ρ:Dl.Env}{a b:D}(ha:fa ρ=some a)(hb:fb ρ=some b):f2 g fa fb ρ=g a b:=by
 simp only[f2,ha,hb,zA]
theorem Lw{ns:List Int}{a mo:Int}{m s:Nat}(m1:m<=3)(s1:s<=3):f2 eQ (ab 5) (ab 6) (cn (st ns a mo m s .non (.own []) .non .non .non .non))=some (.int ((m * s:Nat):Int)):=by
 have h:Dl.eQ (.int (m:Int)) (.int (s:Int))=some (.int ((m:Int) * (s:Int))):=dv (lK (by omega))
 rw[jB (a:=.int (m:Int)) (b:=.int (s:Int)) rfl rfl,h,Int.natCast_mul]
theorem Kl{ns:List Int}{a mo:Int}{m s:Nat}(m1:m<=3)(s1:s<=3)(hms:m * s<=9){W:List Wy}{t8:Slot}(e: dc (mQ 8) lB ((List.range' 0 (m * s)).map fun i=>PyData.int ((i:Nat):Int)) (st ns a mo m s .non (.own (([]:List Wy).map ar)) .non .non .non .non)=some (.nx (st ns a mo m s .non (.own (W.map ar)) t8 .non .non .non))):fH [5,6] (bF (aa (f2 eQ (ab 5) (ab 6)) ae)) (mQ 8) lB (st ns a mo m s .non (.own []) .non .non .non .non)=some (.nx (st ns a mo m s .non (.own (W.map ar)) t8 .non .non .non)):=by
 have hh:hand [5,6] 0 (st ns a mo m s .non (.own []) .non .non .non .non)=st ns a mo m s .non (.own []) .non .non .non .non:=rfl
 have hr:=vD (fi:=f2 eQ (ab 5) (ab 6)) (ρ:=cn (st ns a mo m s .non (.own []) .non .non .non .non)) (m * s) (by omega) (Lw m1 s1)
 rw[List.range_eq_range'] at hr
 rw[List.map_nil] at e
 simp only[fH,hh,hr,zA]
 exact e
structure Oh(mo:Int)(G T:List Pl)(W:List Wy):Prop where
 g3:G.length<=3
 t3:T.length<=3
 w2:∀w∈W,w.2.2<=2
 ga:∀p∈G,p.1<=3
 ta:∀p∈T,p.1<=3
 wm:(W.length:Int)<=mo
theorem vM{ns:List Int}{a mo:Int}(hl:ns.length<=63)(hmo:3 < mo)(c:dr ns (a+64) 4=0):∃G T W,bY [di ns,.int a,.int mo]=some (ax G T W)/\Wd G T W/\Oh mo G T W:=by
 have e64:=qM (ns:=ns) (a+64) 4 hl (by decide)
 have e65:=gE (ns:=ns) (a+65) 2 hl (by decide)
 refine⟨_,_,_,?_,Ci (c:=1+dr ns (a+65) 2) (by omega) (by omega),⟨by simp,by simp,by decide,fun p hp=>?_,fun p hp=>?_,by simp;omega⟩⟩
 rotate_left
 ·simp only[zR,yG,or_false] at hp;rcases hp with rfl|rfl<;>(simp only;omega)
 ·simp only[zR,yG,or_false] at hp;rcases hp with rfl|rfl<;>(simp only;omega)
 have s1:Dl.ay 3 [0,1] (f2 aM (fC (.int 1)) (ah 3 aj (aa (ab 0) (aa (f2 aM (ab 1) (fC (.int 65))) (aa (fC (.int 2)) ae))))) [.val (di ns),.val (.int a),.val (.int mo),.non,.non,.non,.non,.non,.non,.non,.non,.non]=some (.nx [.val (di ns),.val (.int a),.val (.int mo),.val (.int (1+dr ns (a+65) 2)),.non,.non,.non,.non,.non,.non,.non,.non]) :=
  bP (d:=.int (1+dr ns (a+65) 2)) (by simp! [e65.1]) rfl
 generalize 1+dr ns (a+65) 2=x at *
 have s2:Dl.ay 4 [3] (aS (aa (aS (aa (ab 3) (aa (aS (aa (fC (.int 1)) (aa (fC (.int 0)) ae))) ae))) (aa (aS (aa (ab 3) (aa (aS (aa (fC (.int 0)) (aa (fC (.int 1)) ae))) ae))) ae))) [.val (di ns),.val (.int a),.val (.int mo),.val (.int x),.non,.non,.non,.non,.non,.non,.non,.non]=some (.nx [.val (di ns),.val (.int a),.val (.int mo),.val (.int x),.val (.tuple [bU (x,[1,0]),bU (x,[0,1])]),.non,.non,.non,.non,.non,.non,.non]) :=
  cm (d:=.tuple [bU (x,[1,0]),bU (x,[0,1])]) (by simp! [Ad];rfl) rfl rfl rfl
 simp! [bY,eu,g8,e64,c,fx,decide_true,gY,show decide ((3:Int) < mo)=true from yB hmo,s1,s2,Ad,yU,show ∀a b c d:D,small [a,b,c,d]=some [a,b,c,d] from fun _ _ _ _=>rfl]
 rfl
theorem vF{ns:List Int}{a mo:Int}(hl:ns.length<=63)(hm0:0<=mo)(c:¬ (3 < mo/\dr ns (a+64) 4=0)):∃G T W,bY [di ns,.int a,.int mo]=some (ax G T W)/\Wd G T W/\Oh mo G T W:=by
 have e64:=qM (ns:=ns) (a+64) 4 hl (by decide)
 have em:=gE (ns:=ns) a 3 hl (by decide)
 have es:=gE (ns:=ns) (a+1) 3 hl (by decide)
 obtain⟨m,hm⟩:=Int.eq_ofNat_of_zero_le (show 0<=1+dr ns a 3 by omega)
 obtain⟨s,hs⟩:=Int.eq_ofNat_of_zero_le (show 0<=1+dr ns (a+1) 3 by omega)
 have m1:1<=m/\m<=3:=by omega
 have s1:1<=s/\s<=3:=by omega
 have hs':(s:Int)=1\/(s:Int)=2\/(s:Int)=3:=by omega
 have hm':(m:Int)=1\/(m:Int)=2\/(m:Int)=3:=by omega
 have t5:Dl.ay 5 [0,1] (f2 aM (fC (.int 1)) (ah 3 aj (aa (ab 0) (aa (ab 1) (aa (fC (.int 3)) ae))))) [.val (di ns),.val (.int a),.val (.int mo),.non,.non,.non,.non,.non,.non,.non,.non,.non]=some (.nx [.val (di ns),.val (.int a),.val (.int mo),.non,.non,.val (.int (m:Nat)),.non,.non,.non,.non,.non,.non]) :=
  bP (d:=.int (m:Nat)) (by simp! [em.1,hm]) rfl
 have t6:Dl.ay 6 [0,1] (f2 aM (fC (.int 1)) (ah 3 aj (aa (ab 0) (aa (f2 aM (ab 1) (fC (.int 1))) (aa (fC (.int 3)) ae))))) [.val (di ns),.val (.int a),.val (.int mo),.non,.non,.val (.int (m:Nat)),.non,.non,.non,.non,.non,.non]=some (.nx (st ns a mo m s .non .non .non .non .non .non)) :=
  bP (d:=.int (s:Nat)) (by simp! [es.1,hs]) rfl
 have t7:aO 7 [] (cG ae) (st ns a mo m s .non .non .non .non .non .non)=some (.nx (st ns a mo m s .non (.own []) .non .non .non .non)):=by
  simp only[aO,lX,cG,ae,zA,iH,zB,List.set_cons_succ,List.set_cons_zero]
 have hms:m * s<=9:=Nat.mul_le_mul m1.2 s1.2
 have hms1:1<=m * s:=Nat.mul_le_mul m1.1 s1.1
 obtain⟨W,t8,e,h8,I⟩:=Gb (ns:=ns) (a:=a) (m:=m) (s:=s) hl hs' (m * s) 0 (W:=[]) (x8:=.non) (by omega) (mo:=mo) ⟨fun w hw=>(by cases hw),List.Pairwise.nil,by decide,hm0⟩
 rw[Nat.zero_add] at I
 obtain⟨d8,rfl⟩:∃d,t8=.val d:=h8.elim (fun z=>by omega) id
 have hlen9:W.length<=9:=by have:=I.len;omega
 have tf:=Kl m1.2 s1.2 hms e
 unfold lB at tf
 have hwl:W.length<=20:=by omega
 have wr:∀w∈W,(0<=w.1/\w.1 < m)/\(0<=w.2.1/\w.2.1 < s)/\1<=w.2.2/\w.2.2<=9:=fun w hw=>by
  obtain⟨j,j0,jk,ea,b,c1,c2⟩:=I.mem w hw
  have:=K9 hs' hm' j0 (by rw[<- Int.natCast_mul];exact jk)
  rw[ea,b]
  exact⟨this.1,this.2,c1,by omega⟩
 have lenG:∀r∈k9 W m,r.length<=1000:=fun r hr=>by
  obtain⟨i,_,rfl⟩:=zQ.mp hr
  rw[Bt,zD]
  exact yE (List.length_filter_le _ _) (by omega)
 have lenT:∀r∈lj W s,r.length<=1000:=fun r hr=>by
  obtain⟨i,_,rfl⟩:=zQ.mp hr
  rw[ofT,zD]
  exact yE (List.length_filter_le _ _) (by omega)
 obtain⟨mine,om,pm⟩:=wu (ns:=ns) (a:=a+24) (rows:=k9 W m) hl lenG (by rw[k9,zD,zS];omega)
 obtain⟨yours,oy,py⟩:=wu (ns:=ns) (a:=a+40) (rows:=lj W s) hl lenT (by rw[lj,zD,zS];omega)
 have lm:mine.length<=1000:=by rw[eI pm,k9,zD,zS];omega
 have ly:yours.length<=1000:=by rw[eI py,lj,zD,zS];omega
 have t9:Dl.ay 9 [0,1,5,7] (ah 3 bN (aa (ab 0) (aa (f2 aM (ab 1) (fC (.int 24))) (aa (bZ (ao 1 [7] (bF (aa (ab 5) ae)) (fG 0) (fun _=>some true) (bZ (ao 1 [0] (aR (ab 1)) (fG 0) (fB (f2 cf (f2 av (ab 0) (fC (.int 0))) (ab 1))) (f2 av (ab 0) (fC (.int 1))))))) ae)))) (st ns a mo m s .non (.own (W.map ar)) (.val d8) .non .non .non)=some (.nx (st ns a mo m s .non (.val (.list (W.map ar))) (.val d8) (.val (.list (mine.map af))) .non .non)):=by
  refine (cm (ρ':=st ns a mo m s .non (.val (.list (W.map ar))) (.val d8) .non .non .non) (d:=.list (mine.map af)) ?_ rfl rfl ?_).trans rfl
  ·have q:=Iw (ρ:=bg (st ns a mo m s .non (.own (W.map ar)) (.val d8) .non .non .non)) (i5:=5) (i7:=7) hwl (show m<=1000 by omega) rfl rfl
   simp only[ah,aa,ae,bZ,q,zB,zA]
   simp! [om]
  ·simp only[st,cn,bg,zI,List.map_nil];rfl
 have t10:Dl.ay 10 [0,1,6,7] (ah 3 bN (aa (ab 0) (aa (f2 aM (ab 1) (fC (.int 40))) (aa (bZ (ao 1 [7] (bF (aa (ab 6) ae)) (fG 0) (fun _=>some true) (bZ (ao 1 [0] (aR (ab 1)) (fG 0) (fB (f2 cf (f2 av (ab 0) (fC (.int 1))) (ab 1))) (f2 av (ab 0) (fC (.int 0))))))) ae)))) (st ns a mo m s .non (.val (.list (W.map ar))) (.val d8) (.val (.list (mine.map af))) .non .non)=some (.nx (st ns a mo m s .non (.val (.list (W.map ar))) (.val d8) (.val (.list (mine.map af))) (.val (.list (yours.map af))) .non)):=by
  refine (cm (ρ':=st ns a mo m s .non (.val (.list (W.map ar))) (.val d8) (.val (.list (mine.map af))) .non .non) (d:=.list (yours.map af)) ?_ rfl ?_ ?_).trans rfl
  ·have q:=Iu (ρ:=bg (st ns a mo m s .non (.val (.list (W.map ar))) (.val d8) (.val (.list (mine.map af))) .non .non)) (i5:=6) (i7:=7) hwl (show s<=1000 by omega) rfl rfl
   simp only[ah,aa,ae,bZ,q,zB,zA]
   simp! [oy]
  ·rfl
  ·simp only[st,cn,bg,zI,List.map_nil];rfl
 have t11:Dl.ay 11 [0,1,8,9] (bf bQ (aa (bZ (ao 2 [0,1] (bV (aa (ab 9) ae)) (gN 0 1) (fun _=>some true) (Jq 56))) ae)) (st ns a mo m s .non (.val (.list (W.map ar))) (.val d8) (.val (.list (mine.map af))) (.val (.list (yours.map af))) .non)=some (.nx (st ns a mo m s .non (.val (.list (W.map ar))) (.val d8) (.val (.list (mine.map af))) (.val (.list (yours.map af))) (.val (.tuple ((jG (fun k=>dr ns (a+56+((k:Nat):Int)) 4) 0 mine).map bU))))):=by
  refine (cm (ρ':=st ns a mo m s .non (.val (.list (W.map ar))) (.val d8) (.val (.list (mine.map af))) (.val (.list (yours.map af))) .non) (xU hl lm rfl rfl rfl) rfl rfl ?_).trans rfl
  simp only[st,cn,bg,zI,List.map_nil];rfl
 have t4:∀G:D,Dl.ay 4 [0,1,8,10] (bf bQ (aa (bZ (ao 2 [0,1] (bV (aa (ab 10) ae)) (gN 0 1) (fun _=>some true) (Jq 60))) ae)) (st ns a mo m s .non (.val (.list (W.map ar))) (.val d8) (.val (.list (mine.map af))) (.val (.list (yours.map af))) (.val G))=some (.nx (st ns a mo m s (.val (.tuple ((jG (fun k=>dr ns (a+60+((k:Nat):Int)) 4) 0 yours).map bU))) (.val (.list (W.map ar))) (.val d8) (.val (.list (mine.map af))) (.val (.list (yours.map af))) (.val G))):=fun G=>by
  refine (cm (ρ':=st ns a mo m s .non (.val (.list (W.map ar))) (.val d8) (.val (.list (mine.map af))) (.val (.list (yours.map af))) (.val G)) (xU hl ly rfl rfl rfl) rfl rfl ?_).trans rfl
  simp only[st,cn,bg,zI,List.map_nil];rfl
 refine⟨_,_,W,?_,G9 (f:=fun k=>dr ns (a+56+((k:Nat):Int)) 4) (g:=fun k=>dr ns (a+60+((k:Nat):Int)) 4) m1.1 (by omega) s1.1 (by omega) (fun k=>?_) (fun k=>?_) pm py wr I.ris (by omega),⟨by rw[iK,eI pm,k9,zD,zS];omega,by rw[iK,eI py,lj,zD,zS];omega,fun w hw=>(by obtain⟨j,_,_,_,_,_,z⟩:=I.mem w hw;exact z),fun p hp=>?_,fun p hp=>?_,I.lem⟩⟩
 ·unfold Jq at t11 t4
  have tA:∀g,eL (fS (fB (f2 Dq (ab 2) (fC (.int 3)))) (fB (f2 cf (ah 3 aj (aa (ab 0) (aa (f2 aM (ab 1) (fC (.int 64))) (aa (fC (.int 4)) ae)))) (fC (.int 0))))) g eF [.val (di ns),.val (.int a),.val (.int mo),.non,.non,.non,.non,.non,.non,.non,.non,.non]=some (.nx [.val (di ns),.val (.int a),.val (.int mo),.non,.non,.non,.non,.non,.non,.non,.non,.non]):=fun g=>by
   by_cases c1:3 < mo
   ·have c2:¬ dr ns (a+64) 4=0:=fun z=>c ⟨c1,z⟩
    simp! [g8,e64,c1,c2,fx,decide_false,decide_true,gY,Bool.false_eq_true]
   ·simp! [g8,c1,decide_false,gY,Bool.false_eq_true]
  refine aH ?_
  show eu [.val (di ns),.val (.int a),.val (.int mo),.non,.non,.non,.non,.non,.non,.non,.non,.non]=_
  unfold eu
  rw[ai (tA _),ai t5,ai t6,ai t7,ai tf,ai t9,ai t10,ai t11,ai (t4 _)]
  simp! [yU,ax]
 ·have q:=gE (ns:=ns) (a+56+((k:Nat):Int)) 4 hl (by decide)
  exact⟨q.2.1,by omega⟩
 ·have q:=gE (ns:=ns) (a+60+((k:Nat):Int)) 4 hl (by decide)
  exact⟨q.2.1,by omega⟩
 ·obtain⟨i,hi⟩:=List.getElem?_of_mem hp
  obtain⟨r,_,rfl⟩:=iN _ hi
  have q:=gE (ns:=ns) (a+56+((0+i:Nat):Int)) 4 hl (by decide)
  simp only;omega
 ·obtain⟨i,hi⟩:=List.getElem?_of_mem hp
  obtain⟨r,_,rfl⟩:=iN _ hi
  have q:=gE (ns:=ns) (a+60+((0+i:Nat):Int)) 4 hl (by decide)
  simp only;omega
theorem ye{ns:List Int}{a mo:Int}(hl:ns.length<=63)(hm0:0<=mo):∃G T W,bY [di ns,.int a,.int mo]=some (ax G T W)/\Wd G T W/\Oh mo G T W:=by
 by_cases c:3 < mo/\dr ns (a+64) 4=0
 ·exact vM hl c.1 c.2
 ·exact vF hl hm0 c
section
variable {G T:List Pl}{W:List Wy}
theorem JO(h:vP W):(W.map fun w=>[w.1,w.2.1]).Pairwise fun a b=>Dl.lexLt a b=true:=List.pairwise_map.mpr (h.imp fun hab=>Oi hab)
theorem FG(h:vP W):(W.map fun w=>[w.1,w.2.1]).Nodup:=(JO h).imp fun {a b} hab e=>by
 rw[e,gv] at hab
 cases hab
theorem ET(h:vP W){m:List (List Int)}(hn:m.Nodup)(hm:∀r,r∈W.map (fun w=>[w.1,w.2.1])↔r∈m):W.map (fun w=>[w.1,w.2.1])=vc m :=
 DH ((List.perm_ext_iff_of_nodup (FG h) hn).mpr hm) ((JO h).imp fun hab=>MY hab)
theorem Wd.wok(h:Wd G T W):NG (ax G T W)=true:=by
 have hP:(W.map ar).map fQ=W.map fun w=>[w.1,w.2.1]:=by rw[zM];rfl
 have hpg:∀i j:Int,[i,j]∈W.map (fun w=>[w.1,w.2.1])↔[i,j]∈lT 0 (G.map bU):=fun i j=>by
  rw[o6]
  constructor
  ·intro hm
   obtain⟨w,hw,e⟩:=zQ.mp hm
   simp only[List.cons.injEq,and_true] at e
   have hr:=(h.wr w hw).1
   obtain⟨p,hp⟩:∃p,G[i.toNat]?=some p:=⟨G[i.toNat]'(by omega),zK (by omega)⟩
   refine⟨i.toNat,bU p,by rw[zO,hp];rfl,by omega,?_⟩
   rw[gf,(h.gl _ p hp).mem_iff,tZ,show ((i.toNat:Nat):Int)=i by omega]
   exact hm
  ·rintro⟨m,p,hp,rfl,hj⟩
   rw[zO] at hp
   obtain⟨p',hp',rfl⟩:=Option.map_eq_some_iff.mp hp
   rw[gf,(h.gl m p' hp').mem_iff,tZ] at hj
   rwa [Nat.zero_add]
 have hpt:∀i j:Int,[i,j]∈W.map (fun w=>[w.1,w.2.1])↔[j,i]∈lT 0 (T.map bU):=fun i j=>by
  rw[o6]
  constructor
  ·intro hm
   obtain⟨w,hw,e⟩:=zQ.mp hm
   simp only[List.cons.injEq,and_true] at e
   have hr:=(h.wr w hw).2.1
   obtain⟨p,hp⟩:∃p,T[j.toNat]?=some p:=⟨T[j.toNat]'(by omega),zK (by omega)⟩
   refine⟨j.toNat,bU p,by rw[zO,hp];rfl,by omega,?_⟩
   rw[gf,(h.tl _ p hp).mem_iff,vg,show ((j.toNat:Nat):Int)=j by omega]
   exact hm
  ·rintro⟨m,p,hp,rfl,hj⟩
   rw[zO] at hp
   obtain⟨p',hp',rfl⟩:=Option.map_eq_some_iff.mp hp
   rw[gf,(h.tl m p' hp').mem_iff,vg] at hj
   rwa [Nat.zero_add]
 have two:∀ {r:List Int},r∈W.map (fun w=>[w.1,w.2.1])->∃i j,r=[i,j]:=fun hr=>by
  obtain⟨w,_,rfl⟩:=zQ.mp hr
  exact⟨_,_,rfl⟩
 have ng:∀ (L:List Pl),(∀p∈L,p.2.Nodup)->(lT 0 (L.map bU)).Nodup:=fun L hL=>sy fun p hp=>by
  obtain⟨p',hp',rfl⟩:=zQ.mp hp
  rw[gf]
  exact hL p' hp'
 have e1:W.map (fun w=>[w.1,w.2.1])=vc (lT 0 (G.map bU)):=ET h.wp (ng G fun p hp=>by
   obtain⟨i,hi,e⟩:=List.getElem_of_mem hp
   exact (h.gl i p (by rw[zK hi,e])).nodup_iff.mpr (mW h.wp i)) fun r=>⟨fun hr=>by
   obtain⟨i,j,rfl⟩:=two hr
   exact (hpg i j).mp hr,fun hr=>by
   obtain⟨i,j,rfl⟩:=kl r hr
   exact (hpg i j).mpr hr⟩
 have e2:W.map (fun w=>[w.1,w.2.1])=vc ((lT 0 (T.map bU)).map List.reverse):=ET h.wp (by
   exact List.pairwise_map.mpr (List.Pairwise.imp (fun {a b} hne e=>hne (List.reverse_inj.mp e)) (ng T fun p hp=>by
    obtain⟨i,hi,e⟩:=List.getElem_of_mem hp
    exact (h.tl i p (by rw[zK hi,e])).nodup_iff.mpr (nz h.wp i)))) fun r=>⟨fun hr=>by
   obtain⟨i,j,rfl⟩:=two hr
   exact zQ.mpr ⟨[j,i],(hpt i j).mp hr,rfl⟩,fun hr=>by
   obtain⟨r',hr',rfl⟩:=zQ.mp hr
   obtain⟨i,j,rfl⟩:=kl r' hr'
   exact (hpt j i).mpr hr'⟩
 have hw:(W.map ar).all (jC G.length T.length)=true:=by
  rw[List.all_eq_true]
  intro x hx
  obtain⟨w,hw,rfl⟩:=zQ.mp hx
  exact C3 (h.wr w hw)
 have hs:∀ {L:List Pl},1<=L.length->L.length<=4->m6 (.tuple (L.map bU))=true:=fun {L} a b=>by
  simp only[m6,long,zD,zF,zJ];omega
 have h3:long 3 3 (ax G T W)=true:=rfl
 have hg:=h.gok
 have ht:=h.tok
 unfold NG Av
 rw[h3,Bool.true_and]
 simp only[ax,cS,List.getD_cons_zero,List.getD_cons_succ,hP,<- e1,<- e2,decide_true,Bool.and_true,jz,hs h.g1 h.g4,hs h.t1 h.t4,zD,hg,ht,hw,JS]
end
noncomputable def sI(b:Bool):Int:=if b then 1 else 0
noncomputable def br(b:Bool)(w:Wy):Int:=if b then w.2.1 else w.1
noncomputable def cg(b:Bool)(w:Wy):Int:=br (!b) w
noncomputable def bR(b:Bool)(G T:List Pl):List Pl:=if b then T else G
theorem o3(b:Bool)(G T:List Pl)(W:List Wy):av (ax G T W) (.int (sI b))=some (.tuple ((bR b G T).map bU)):=by cases b<;>rfl
theorem oT(G T:List Pl)(W:List Wy):av (ax G T W) (.int 2)=some (.tuple (W.map ar)):=rfl
theorem u9(b:Bool)(w:Wy):av (ar w) (.int (sI b))=some (.int (br b w)):=by cases b<;>rfl
theorem Hy(b:Bool)(w:Wy):av (ar w) (.int (1 - sI b))=some (.int (cg b w)):=by cases b<;>rfl
theorem uL(w:Wy):av (ar w) (.int 2)=some (.int w.2.2):=rfl
theorem IM(p:Pl):av (bU p) (.int 0)=some (.int p.1):=rfl
theorem HM(p:Pl):av (bU p) (.int 1)=some (af p.2):=rfl
theorem p5{ds:List D}{i:Nat}{d:D}(h:ds[i]?=some d):av (.tuple ds) (.int ((i:Nat):Int))=some d:=by
 show vH ds (i:Nat)=_
 exact uf h
theorem LX{ds:List D}{i:Nat}{d:D}(h:ds[i]?=some d):av (.list ds) (.int ((i:Nat):Int))=some d:=by
 show vH ds (i:Nat)=_
 exact uf h
theorem nY{α:Type}{f:α->D}{l:List α}{i:Nat}{x:α}(h:l[i]?=some x):av (.tuple (l.map f)) (.int ((i:Nat):Int))=some (f x):=p5 (by rw[zO,h];rfl)
theorem BJ{α:Type}{f:α->D}{l:List α}{i:Nat}{x:α}(h:l[i]?=some x):av (.list (l.map f)) (.int ((i:Nat):Int))=some (f x):=LX (by rw[zO,h];rfl)
noncomputable def Mh(b:Bool)(W:List Wy)(p:Int):List Int:=(W.filter fun w=>decide (br b w=p)).map (cg b)
theorem Wd.lik{G T:List Pl}{W:List Wy}(h:Wd G T W){b:Bool}{i:Nat}{p:Pl}(e:(bR b G T)[i]?=some p):p.2.Perm (Mh b W i):=by
 cases b
 ·exact h.gl i p e
 ·exact h.tl i p e
theorem Wd.nod{G T:List Pl}{W:List Wy}(h:Wd G T W)(b:Bool)(i:Int):(Mh b W i).Nodup:=by
 cases b
 ·exact mW h.wp i
 ·exact nz h.wp i
theorem qP{tt:Dl.Env->Option Bool}{te:Dl.Env->Option D}{r:List (Option D)}{p:Nat->D->Bool}{h:Nat->D->D}:∀ {ds:List D}{k:Nat},
  (∀i d,ds[i]?=some d->tt (some (.int ((k+i:Nat):Int))::some d::r)=some (p (k+i) d)/\(p (k+i) d=true->te (some (.int ((k+i:Nat):Int))::some d::r)=some (h (k+i) d))) ->
  cx (gN 0 1) tt te (none::none::r) (bJ k ds)=some (((ds.zipIdx k).filter fun q=>p q.2 q.1).map fun q=>h q.2 q.1)
 | [],k,_=>rfl
 | d::ds,k,hh=>by
  obtain⟨h1,h2⟩:=hh 0 d rfl
  have ih:=qP (ds:=ds) (k:=k+1) fun i x hx=>by
   have:=hh (i+1) x (by simpa using hx)
   rw[show k+1+i=k+(i+1) by omega]
   exact this
  have hg:gN 0 1 (none::none::r) (.tuple [.int ((k:Nat):Int),d])=some (some (.int ((k:Nat):Int))::some d::r):=by
   simp only[gN,isFree,List.getElem?_cons_zero,List.getElem?_cons_succ,Option.getD_some,Option.isNone_none,and_self,if_true,List.set_cons_zero,List.set_cons_succ]
  rw[bJ,cx,hg,List.zipIdx_cons]
  simp only[Nat.add_zero] at h1 h2
  simp only[zA,h1]
  cases hp:p k d with
  | true=>simp[h2 hp,ih,hp]
  | false=>simp[ih,hp]
theorem Cd{cs:List Nat}{fi:Dl.Env->Option (List D)}{tt:Dl.Env->Option Bool}{te:Dl.Env->Option D}{ρ:Dl.Env}{ds:List D}{p:Nat->D->Bool}{h:Nat->D->D}(hfi:fi ρ=some (bJ 0 ds))(hl:ds.length<=1000)
  (hh:∀i d,ds[i]?=some d->tt (some (.int ((i:Nat):Int))::some d::cs.map fun j=>(ρ[j]?).getD none)=some (p i d)/\(p i d=true->te (some (.int ((i:Nat):Int))::some d::cs.map fun j=>(ρ[j]?).getD none)=some (h i d))) :
  ao 2 cs fi (gN 0 1) tt te ρ=some ((ds.zipIdx.filter fun q=>p q.2 q.1).map fun q=>h q.2 q.1):=by
 have:=qP (tt:=tt) (te:=te) (r:=cs.map fun j=>(ρ[j]?).getD none) (p:=p) (h:=h) (ds:=ds) (k:=0) (by simpa using hh)
 simp only[ao,hfi,zA,eG,List.replicate,List.cons_append,List.nil_append,this]
 refine bc ?_
 rw[zD]
 refine yE (List.length_filter_le _ _) ?_
 rw[List.length_zipIdx]
 omega
theorem ir{α:Type}(f:α->Int):∀ {l m:List α},l.Perm m->(l.Pairwise fun a b=>f a<=f b)->(m.Pairwise fun a b=>f a < f b)->l=m
 | l,[],hp,_,_=>hp.eq_nil
 | [],x::m,hp,_,_=>absurd hp.symm.eq_nil (by simp)
 | y::l,x::m,hp,h1,h2=>by
  rw[List.pairwise_cons] at h1 h2
  have e:y=x:=by
   have hx:x∈y::l:=hp.mem_iff.mpr zE
   rcases zR.mp hx with z|hx
   ·exact z.symm
   ·have hy:y∈x::m:=hp.mem_iff.mp zE
    rcases zR.mp hy with z|hy
    ·exact z
    ·have:=h1.1 x hx
     have:=h2.1 y hy
     omega
  subst e
  rw[ir f ((List.perm_cons y).mp hp) h1.2 h2.2]
theorem qp{α:Type}(z:Nat->Int)(l:List α)(d:α)(f:α->Int)(h:∀i,i < l.length->z i=f (l.getD i d)):(oS z l d).Pairwise fun a b=>f a<=f b:=by
 unfold oS
 split
 ·rename_i hl
  match l,hl with
  | [],_=>exact List.Pairwise.nil
  | [a],_=>exact List.pairwise_singleton _ _
 ·rename_i hl
  obtain⟨hp,hs⟩:=SP.gU (z:=z) (n:=l.length) (by omega)
  rw[List.pairwise_map] at hs ⊢
  refine hs.imp_of_mem fun {i j} hi hj hij=>?_
  have hi':i < l.length:=by have:=hp.mem_iff.mp hi;simpa using this
  have hj':j < l.length:=by have:=hp.mem_iff.mp hj;simpa using this
  rw[<- h i hi',<- h j hj']
  exact hij
noncomputable def aI(W:List Wy)(i:Nat):Wy:=W.getD i (0,0,0)
theorem i8{W:List Wy}{k:Nat}(hk:k < W.length):W[k]=aI W k:=by simp[aI,hk]
theorem mO{W:List Wy}{k:Nat}(hk:k < W.length):W[k]?=some (aI W k):=by rw[zK hk,i8 hk]
noncomputable def own(b:Bool)(W:List Wy)(p:Int):List Nat:=(List.range W.length).filter fun i=>decide (br b (aI W i)=p)
noncomputable def qF(b:Bool)(W:List Wy)(p o:Int):Nat:=W.findIdx fun w=>decide (br b w=p)&&decide (cg b w=o)
noncomputable def fJ(b:Bool)(W:List Wy)(p:Int)(L:List Int):List Nat:=L.map (qF b W p)
theorem cP{b:Bool}{W:List Wy}{p:Int}{i:Nat}:i∈own b W p↔i < W.length/\br b (aI W i)=p:=by simp[own]
theorem map_range{α β:Type}(d:α)(f:α->β)(l:List α):(List.range l.length).map (fun i=>f (l.getD i d))=l.map f:=by
 apply List.ext_getElem
 ·simp
 ·intro i h1 h2
  have:i < l.length:=by simpa using h2
  simp[this]
theorem vz{α:Type}(d:α)(q:α->Bool):∀ (l:List α),((List.range l.length).filter fun i=>q (l.getD i d)).map (fun i=>l.getD i d)=l.filter q:=by
 intro l
 have e:l=(List.range l.length).map fun i=>l.getD i d:=by
  have:=map_range d (fun x=>x) l
  simp at this
  simpa using this.symm
 conv=>rhs;rw[e]
 rw[List.filter_map]
 rfl
theorem kO(b:Bool)(W:List Wy)(p:Int):(own b W p).map (fun i=>cg b (aI W i))=Mh b W p:=by
 unfold own Mh aI
 rw[<- vz (0,0,0) (fun w=>decide (br b w=p)) W,zM]
 rfl
theorem uw{W:List Wy}(h:vP W){i j:Nat}(hi:i < W.length)(hj:j < W.length)(h1:(aI W i).1=(aI W j).1)(h2:(aI W i).2.1=(aI W j).2.1):i=j:=by
 have e:∀k,k < W.length->W[k]?=some (aI W k):=fun k hk=>by simp[aI,hk]
 rcases Nat.lt_trichotomy i j with z|z|z
 ·have:=List.pairwise_iff_getElem.mp h i j hi hj z
  have a:=e i hi
  have b:=e j hj
  rw[zK hi] at a
  rw[zK hj] at b
  rw[Option.some.inj a,Option.some.inj b] at this
  rcases this with z|z<;>omega
 ·exact z
 ·have:=List.pairwise_iff_getElem.mp h j i hj hi z
  have a:=e i hi
  have b:=e j hj
  rw[zK hi] at a
  rw[zK hj] at b
  rw[Option.some.inj a,Option.some.inj b] at this
  rcases this with z|z<;>omega
theorem Gd{W:List Wy}(h:vP W){b:Bool}{i j:Nat}(hi:i < W.length)(hj:j < W.length)(h1:br b (aI W i)=br b (aI W j))(h2:cg b (aI W i)=cg b (aI W j)):i=j:=by
 cases b
 ·exact uw h hi hj h1 h2
 ·exact uw h hi hj h2 h1
theorem vN{W:List Wy}(h:vP W){b:Bool}{p:Int}{i:Nat}(hi:i∈own b W p):qF b W p (cg b (aI W i))=i:=by
 obtain⟨hl,he⟩:=cP.mp hi
 have hw:W[i]=aI W i:=by simp[aI,hl]
 unfold qF
 have hlt:W.findIdx (fun w=>decide (br b w=p)&&decide (cg b w=cg b (aI W i))) < W.length:=by
  apply List.findIdx_lt_length_of_exists
  exact⟨W[i],List.getElem_mem _,by rw[hw];simp[he]⟩
 have hq:=List.findIdx_getElem (w:=hlt)
 rw[zF,zJ,zJ] at hq
 rw[i8 hlt] at hq
 exact Gd h hlt hl (by rw[hq.1,he]) hq.2
theorem fw{G T:List Pl}{W:List Wy}(h:Wd G T W){b:Bool}{i:Nat}{p:Pl}(e:(bR b G T)[i]?=some p):(fJ b W i p.2).Perm (own b W i):=by
 have h1:=(h.lik e).map (qF b W i)
 rw[<- kO b W i,zM] at h1
 have e2:(own b W i).map (qF b W i ∘ fun j=>cg b (aI W j))=own b W i:=by
  conv=>rhs;rw[<- List.map_id (own b W i)]
  exact yI fun j hj=>vN h.wp hj
 rw[e2] at h1
 exact h1
theorem uE{G T:List Pl}{W:List Wy}(h:Wd G T W){b:Bool}{i:Nat}{p:Pl}(e:(bR b G T)[i]?=some p){o:Int}(ho:o∈p.2):qF b W i o < W.length/\br b (aI W (qF b W i o))=i/\cg b (aI W (qF b W i o))=o:=by
 have hm:=(h.lik e).mem_iff.mp ho
 rw[<- kO b W i] at hm
 obtain⟨j,hj,rfl⟩:=zQ.mp hm
 rw[vN h.wp hj]
 obtain⟨h1,h2⟩:=cP.mp hj
 exact⟨h1,h2,rfl⟩
noncomputable def kD(b:Bool)(W:List Wy)(L:List Int)(d:D):Int:=(L.findIdx fun o=>decide (o=cg b (aI W (iU d).toNat)):Nat)
theorem mY:∀ {L:List Int}{x:Int},x∈L->wa x L=some (L.findIdx fun o=>decide (o=x))
 | [],x,h=>by cases h
 | o::L,x,h=>by
  unfold wa
  by_cases e:o=x
  ·simp[e,List.findIdx_cons]
  ·rw[if_neg e]
   have hx:x∈L:=(zR.mp h).resolve_left fun z=>e z.symm
   rw[mY hx]
   simp[List.findIdx_cons,e]
theorem EH{G T:List Pl}{W:List Wy}(h:Wd G T W){b:Bool}{i:Nat}{p:Pl}(e:(bR b G T)[i]?=some p)(z:Nat->Int)(hz:∀j,j < (own b W i).length->z j=kD b W p.2 (((own b W i).map fun n=>PyData.int ((n:Nat):Int)).getD j .none)) :
  oS z ((own b W i).map fun n=>PyData.int ((n:Nat):Int)) .none=(fJ b W i p.2).map fun n=>PyData.int ((n:Nat):Int):=by
 refine ir (kD b W p.2) ((gG _ _ _).trans ((fw h e).symm.map _)) (qp z _ _ _ fun j hj=>hz j (by simpa using hj)) ?_
 have hn:p.2.Nodup:=(h.lik e).nodup_iff.mpr (h.nod b i)
 unfold fJ
 rw[zM,List.pairwise_map]
 have key:∀k (hk:k < p.2.length),kD b W p.2 (PyData.int ((qF b W i p.2[k]:Nat):Int))=(k:Nat):=fun k hk=>by
  obtain⟨_,_,e3⟩:=uE h e (List.getElem_mem hk)
  unfold kD
  simp only[iU,yH,e3]
  congr 1
  rw[List.findIdx_eq (by exact hk)]
  refine⟨by simp,fun j hj=>?_⟩
  have:=List.pairwise_iff_getElem.mp hn j k (by omega) hk hj
  simpa using this
 refine List.pairwise_iff_getElem.mpr fun j k hj hk hjk=>?_
 show kD b W p.2 (PyData.int ((qF b W i p.2[j]:Nat):Int)) < kD b W p.2 (PyData.int ((qF b W i p.2[k]:Nat):Int))
 rw[key j hj,key k hk]
 omega
noncomputable abbrev nD(n:Nat):D:=.int ((n:Nat):Int)
theorem nV{te:Dl.Env->Option D}{ρ:Dl.Env}{h:D->D}:∀ {ds:List D},(∀d∈ds,te (ρ.set 0 (some d))=some (h d))->iR te ρ ds=some (ds.map h)
 | [],_=>rfl
 | d::ds,hh=>by
  unfold iR
  rw[hh d zE,zA,nV fun x hx=>hh x (zC _ hx)]
  rfl
theorem vn(b:Bool)(W:List Wy)(p:Int):(own b W p).length<=W.length:=by
 unfold own
 refine yE (List.length_filter_le _ _) ?_
 rw[zS]
 exact Nat.le_refl _
theorem zu(b:Bool)(W:List Wy)(p:Int):(((W.map ar).zipIdx.filter fun q=>decide (br b (aI W q.2)=p)).map fun q=>nD q.2)=(own b W p).map nD:=by
 have e:(W.map ar).zipIdx=(List.range W.length).map fun i=>(ar (aI W i),i):=by
  apply List.ext_getElem
  ·simp
  ·intro i h1 h2
   have:i < W.length:=by simpa using h2
   simp[i8 this]
 rw[e,List.filter_map,zM]
 rfl
theorem sT{G T:List Pl}{W:List Wy}(h:Wd G T W){b:Bool}{i:Nat}{p:Pl}(e:(bR b G T)[i]?=some p):eM [ax G T W,.int (sI b),nD i]=some (.list ((fJ b W i p.2).map nD)):=by
 have hw:=h.wl
 have ep:av (.tuple ((bR b G T).map bU)) (nD i)=some (bU p):=nY e
 have hl:=vn b W i
 have t3:Dl.ay 3 [0] (f2 av (ab 0) (fC (.int 2))) [.val (ax G T W),.val (.int (sI b)),.val (nD i),.non,.non,.non]=some (.nx [.val (ax G T W),.val (.int (sI b)),.val (nD i),.val (.tuple (W.map ar)),.non,.non]) :=
  cm (d:=.tuple (W.map ar)) rfl rfl rfl rfl
 have t4:Dl.ay 4 [0,1,2] (f2 av (f2 av (f2 av (ab 0) (ab 1)) (ab 2)) (fC (.int 1))) [.val (ax G T W),.val (.int (sI b)),.val (nD i),.val (.tuple (W.map ar)),.non,.non]=some (.nx [.val (ax G T W),.val (.int (sI b)),.val (nD i),.val (.tuple (W.map ar)),.val (af p.2),.non]):=by
  refine cm (d:=af p.2) ?_ rfl rfl rfl
  rw[jB (a:=bU p) (b:=.int 1) ?_ rfl,HM]
  rw[jB (a:=.tuple ((bR b G T).map bU)) (b:=nD i) ?_ rfl,ep]
  rw[jB (a:=ax G T W) (b:=.int (sI b)) rfl rfl,o3]
 have c5:ao 2 [1,2] (bV (aa (ab 3) ae)) (gN 0 1) (fB (f2 cf (f2 av (ab 1) (ab 2)) (ab 3))) (ab 0) [some (ax G T W),some (.int (sI b)),some (nD i),some (.tuple (W.map ar)),some (af p.2),none]=some ((own b W i).map nD):=by
  rw[Cd (ds:=W.map ar) (p:=fun j _=>decide (br b (aI W j)=i)) (h:=fun j _=>nD j) rfl (by rw[zD];omega) fun j d hd=>?_,zu]
  rw[zO] at hd
  obtain⟨w,hw',rfl⟩:=Dl.ag hd
  have hj:j < W.length:=(zU.mp hw').1
  rw[mO hj] at hw'
  cases hw'
  refine⟨?_,fun _=>rfl⟩
  show fB (f2 cf (f2 av (ab 1) (ab 2)) (ab 3)) [some (nD j),some (ar (aI W j)),some (.int (sI b)),some (nD i)]=_
  simp only[fB]
  rw[jB (a:=.int (br b (aI W j))) (b:=nD i) (by rw[jB (a:=ar (aI W j)) (b:=.int (sI b)) rfl rfl,u9]) rfl,fx]
  rfl
 have t5:aO 5 [1,2,3] (ao 2 [1,2] (bV (aa (ab 3) ae)) (gN 0 1) (fB (f2 cf (f2 av (ab 1) (ab 2)) (ab 3))) (ab 0)) [.val (ax G T W),.val (.int (sI b)),.val (nD i),.val (.tuple (W.map ar)),.val (af p.2),.non]=some (.nx [.val (ax G T W),.val (.int (sI b)),.val (nD i),.val (.tuple (W.map ar)),.val (af p.2),.own ((own b W i).map nD)]):=by
  have hh:hand [1,2,3] 0 [Slot.val (ax G T W),.val (.int (sI b)),.val (nD i),.val (.tuple (W.map ar)),.val (af p.2),.non]=[Slot.val (ax G T W),.val (.int (sI b)),.val (nD i),.val (.tuple (W.map ar)),.val (af p.2),.non]:=rfl
  simp only[aO,hh,cn,zI,List.map_nil,Slot.frz,c5,zB,List.set_cons_succ,List.set_cons_zero]
 have hk:iR (f2 oC (ab 3) (f2 av (f2 av (ab 2) (ab 0)) (f2 Dl.iw (fC (.int 1)) (ab 1)))) [none,some (.int (sI b)),some (.tuple (W.map ar)),some (af p.2)] ((own b W i).map nD)=some (((own b W i).map nD).map fun d=>.int (kD b W p.2 d)):=by
  refine nV fun d hd=>?_
  obtain⟨j,hj,rfl⟩:=zQ.mp hd
  obtain⟨hjl,hje⟩:=cP.mp hj
  show f2 oC (ab 3) (f2 av (f2 av (ab 2) (ab 0)) (f2 Dl.iw (fC (.int 1)) (ab 1))) [some (nD j),some (.int (sI b)),some (.tuple (W.map ar)),some (af p.2)]=_
  have ew:av (.tuple (W.map ar)) (nD j)=some (ar (aI W j)):=nY (mO hjl)
  rw[jB (a:=af p.2) (b:=.int (cg b (aI W j))) rfl ?_]
  ·have hm:cg b (aI W j)∈p.2:=(h.lik e).mem_iff.mpr (by rw[<- kO];exact zQ.mpr ⟨j,hj,rfl⟩)
   simp only[oC,af,dM,zA,mY hm,zB,kD,iU,yH]
   all_goals first|rfl|(congr 3;funext o;congr)
  ·rw[jB (a:=ar (aI W j)) (b:=.int (1 - sI b)) ?_ ?_,Hy]
   ·rw[jB (a:=.tuple (W.map ar)) (b:=nD j) rfl rfl,ew]
   ·rw[jB (a:=.int 1) (b:=.int (sI b)) rfl rfl,qj]
 have hi:intsOf (((own b W i).map nD).map fun d=>PyData.int (kD b W p.2 d))=some (((own b W i).map nD).map (kD b W p.2)):=by
  rw[show (((own b W i).map nD).map fun d=>PyData.int (kD b W p.2 d))=(((own b W i).map nD).map (kD b W p.2)).map PyData.int by simp only[zM];rfl,dM]
 have t6:aD (bZ (nO [1,3,4] (ab 5) (f2 oC (ab 3) (f2 av (f2 av (ab 2) (ab 0)) (f2 Dl.iw (fC (.int 1)) (ab 1)))))) [.val (ax G T W),.val (.int (sI b)),.val (nD i),.val (.tuple (W.map ar)),.val (af p.2),.own ((own b W i).map nD)]=some (.rt (.list ((fJ b W i p.2).map nD))):=by
  have es:nO [1,3,4] (ab 5) (f2 oC (ab 3) (f2 av (f2 av (ab 2) (ab 0)) (f2 Dl.iw (fC (.int 1)) (ab 1)))) [some (ax G T W),some (.int (sI b)),some (nD i),some (.tuple (W.map ar)),some (af p.2),some (.list ((own b W i).map nD))]=some ((fJ b W i p.2).map nD):=by
   unfold nO
   show (iR _ [none,some (.int (sI b)),some (.tuple (W.map ar)),some (af p.2)] ((own b W i).map nD)).bind _=_
   rw[hk,zA,hi,zA,if_pos (by rw[zD];omega),EH h e _ fun j hj=>?_]
   simp[hj]
  simp only[aD,bg,zI,List.map_nil,uk,uy,bZ,es,zB]
 refine aH ?_
 show kW [.val (ax G T W),.val (.int (sI b)),.val (nD i),.non,.non,.non]=_
 unfold kW
 rw[ai t3,ai t4,ai t5,t6]
local macro_rules|`(tactic| dsimp! [$ts,*])=>`(tactic| simp only[ab,fC,f1,f2,aa,ae,ah,bf,mV,aR,iI,bZ,fB,gB,aX,fS,iD,bV,bg,cn,uk,uy,Bu,AA,Bh,Be,zI,List.map_nil,List.getElem?_cons_zero,List.getElem?_cons_succ,zA,zB,Option.getD_some,zL,List.length_nil,Nat.reduceAdd,Nat.zero_add,reduceIte,List.set_cons_succ,List.set_cons_zero,$ts,*])
theorem lZ{S α:Type}{tgt:ak->D->Option ak}{gb:ak->Option Out}(R:S->ak->Prop)(f:α->D)(st:S->α->S):∀ {l:List α}{s:S}{ρ:ak},
  (∀s ρ x,x∈l->R s ρ->∃ρ1 ρ2,tgt ρ (f x)=some ρ1/\gb ρ1=some (.nx ρ2)/\R (st s x) ρ2)->R s ρ->∃ρ',dc tgt gb (l.map f) ρ=some (.nx ρ')/\R (l.foldl st s) ρ'
 | [],s,ρ,_,h=>⟨ρ,rfl,h⟩
 | d::ds,s,ρ,hh,h=>by
  obtain⟨ρ1,ρ2,e1,e2,h2⟩:=hh s ρ d zE h
  obtain⟨ρ',e3,h3⟩:=lZ R f st (fun s ρ x hx=>hh s ρ x (zC _ hx)) h2
  refine⟨ρ',?_,h3⟩
  rw[zI,dc,e1,zA,e2]
  exact e3
theorem lA{α:Type}{tgt:ak->D->Option ak}{gb:ak->Option Out}(R:ak->Prop)(f:α->D)(q:α->Bool)(out:α->D):∀ {l:List α}{ρ:ak},
  (∀ρ x,x∈l->R ρ->∃ρ1,tgt ρ (f x)=some ρ1/\(q x=true->gb ρ1=some (.rt (out x)))/\(q x=false->∃ρ2,gb ρ1=some (.nx ρ2)/\R ρ2))->R ρ ->
  (∀x,l.find? q=some x->dc tgt gb (l.map f) ρ=some (.rt (out x)))/\(l.find? q=none->∃ρ',dc tgt gb (l.map f) ρ=some (.nx ρ')/\R ρ')
 | [],ρ,_,h=>⟨fun x hx=>(by cases hx),fun _=>⟨ρ,rfl,h⟩⟩
 | x::l,ρ,hh,h=>by
  obtain⟨ρ1,e1,e2,e3⟩:=hh ρ x zE h
  rw[zI,dc,e1,zA]
  cases hq:q x with
  | true =>
   rw[List.find?_cons_of_pos (by simpa using hq),e2 hq]
   exact⟨fun y hy=>(by cases hy;rfl),fun hn=>(by cases hn)⟩
  | false =>
   obtain⟨ρ2,e4,h2⟩:=e3 hq
   rw[List.find?_cons_of_neg (by simp[hq]),e4]
   exact lA R f q out (fun ρ x hx=>hh ρ x (zC _ hx)) h2
theorem dF{fz:List Nat}{fi:Dl.Env->Option (List D)}{tgt:ak->D->Option ak}{gb:ak->Option Out}{ρ ρ1:ak}{ds:List D}{o:Option Out}(h:dc tgt gb ds ρ1=o)(hi:fi (cn ρ1)=some ds)(hh:hand fz 0 ρ=ρ1):fH fz fi tgt gb ρ=o:=by
 simp only[fH,hh,hi,zA,h]
theorem pb{i:Nat}{fz:List Nat}{f:Dl.Env->Option (List D)}{ρ ρ':ak}{ds:List D}(hh:hand fz 0 ρ=ρ')(hf:f (cn ρ')=some ds):aO i fz f ρ=some (.nx (ρ'.set i (.own ds))):=by
 simp only[aO,hh,hf,zB]
theorem gg{i:Nat}{fz:List Nat}{f:Dl.Env->Option (List D)}{ρ:ak}{ds:List D}(hf:f (cn ρ)=some ds)(hh:hand fz 0 ρ=ρ):aO i fz f ρ=some (.nx (ρ.set i (.own ds))):=pb hh hf
theorem lz{i:Nat}{fz:List Nat}{f:Dl.Env->Option D}{ρ ρ':ak}(hh:hand fz 0 ρ=ρ'){d:D}(hA:f (bg ρ)=some d)(hF:f (cn ρ')=some d)(hs:Dl.oJ d=false)(hr:iA d=false\/ρ'=ρ:=by first|exact .inr rfl|exact .inl rfl):Dl.ay i fz f ρ=some (.nx (ρ'.set i (.val d))):=by
 rcases hr with hr|hr
 ·simp only[Dl.ay,hA,zA,hs,Bool.false_eq_true,if_false,hh,hF,zB,hr]
 ·subst hr
  simp only[Dl.ay,hA,zA,hs,Bool.false_eq_true,if_false,hh,hF,zB,ite_self]
theorem call_of{n:Nat}{m:List D->Option D}{fs:Dl.Env->Option (List D)}{ρ:Dl.Env}{ds:List D}{d:D}(h:m ds=some d)(hf:fs ρ=some ds)(hn:ds.length=n):ah n m fs ρ=some d:=by
 unfold ah
 rw[hf,zA,if_pos hn,h]
theorem cons_of{f:Dl.Env->Option D}{fs:Dl.Env->Option (List D)}{ρ:Dl.Env}{d:D}{ds:List D}(h:f ρ=some d)(hs:fs ρ=some ds):aa f fs ρ=some (d::ds):=by
 unfold aa
 rw[h,hs]
 rfl
theorem aJ{f:Dl.Env->Option D}{ρ:ak}{d:D}(hf:f (bg ρ)=some d):aD f ρ=some (.rt d):=by
 simp only[aD,hf,zB]
theorem eB{f:Dl.Env->Option D}{ρ:ak}{d:D}(hf:f (bg ρ)=some d):jF f ρ=some (.nx ρ):=by
 simp only[jF,hf,zB]
theorem bS{t:Dl.Env->Option Bool}{g:ak->Option Out}{ρ:ak}(h:t (bg ρ)=some false):eL t g eF ρ=some (.nx ρ):=by
 simp[eL,h,eF]
theorem eW{t:Dl.Env->Option Bool}{g g2:ak->Option Out}{ρ:ak}(h:t (bg ρ)=some true):eL t g g2 ρ=g ρ:=by
 simp[eL,h]
theorem iq{g1 g2:ak->Option Out}{ρ:ak}{d:D}(h:g1 ρ=some (.rt d)):aq g1 g2 ρ=some (.rt d):=by
 simp only[aq,h,zA]
theorem CC{i:Nat}{fz:List Nat}{fk f:Dl.Env->Option D}{ρ:ak}{d:D}{k:Nat}{ds:List D}(hf:f (bg ρ)=some d)(hs:Dl.oJ d=true)(hk:fk (bg ρ)=some (nD k))(ho:ρ[i]?=some (.own ds))(hl:k < ds.length):z9 i fz fk f ρ=some (.nx (ρ.set i (.own (ds.set k d)))):=by
 have hx:GA ds.length ((k:Nat):Int)=some k:=by
  unfold GA
  rw[if_pos (Int.natCast_nonneg k),if_pos (by omega)]
  simp
 simp only[z9,lh,hf,zA,hs,if_true,hk,nI,ho,hx,zB]
noncomputable def lp{S:Type}(cont:S->Bool)(st:S->S):Nat->S->S
 | 0,s=>s
 | n+1,s=>if cont s=true then lp cont st n (st s) else s
theorem qZ{S:Type}{t:Dl.Env->Option Bool}{gb:ak->Option Out}(R:S->ak->Prop)(cont:S->Bool)(st:S->S)(μ:S->Nat)
  (ht:∀s ρ,R s ρ->t (bg ρ)=some (cont s)) (hb:∀s ρ,R s ρ->cont s=true->∃ρ',gb ρ=some (.nx ρ')/\R (st s) ρ'/\μ (st s) < μ s) :
  ∀ (n:Nat) (s:S) (ρ:ak),μ s < n->R s ρ->∃ρ',Gw t gb n ρ=some (.nx ρ')/\R (lp cont st n s) ρ'/\cont (lp cont st n s)=false
 | 0,s,ρ,h,_=>absurd h (by omega)
 | n+1,s,ρ,h,r=>by
  rw[Gw,ht s ρ r,zA,lp]
  cases hc:cont s with
  | false=>exact⟨ρ,by simp,by simpa [hc] using r,by simpa [hc] using hc⟩
  | true =>
   obtain⟨ρ',e,r',hm⟩:=hb s ρ r hc
   obtain⟨ρ2,e2,r2,c2⟩:=qZ R cont st μ ht hb n (st s) ρ' (by omega) r'
   refine⟨ρ2,?_,by simpa [hc] using r2,by simpa [hc] using c2⟩
   simp only[if_true,e,zA]
   exact e2
theorem gu{off:List Int}{i:Nat}(h:i < off.length):av (af off) (nD i)=some (.int (off.getD i 0)):=nY (f:=PyData.int) (l:=off) (by simp[h])
theorem LC{off:List Int}{i:Nat}(h:i < off.length):av (.list (off.map PyData.int)) (nD i)=some (.int (off.getD i 0)):=BJ (f:=PyData.int) (l:=off) (by simp[h])
theorem qa{W:List Wy}{i:Nat}(h:i < W.length):av (.tuple (W.map ar)) (nD i)=some (ar (aI W i)):=nY (mO h)
theorem N8(a b c:Int):xW [.int a,.int b,.int c]=some (.int (min (min a b) c)):=rfl
theorem GI(l:List Int)(k:Nat)(v:Int):(l.map PyData.int).set k (.int v)=(l.set k v).map PyData.int:=by rw[List.map_set]
theorem GJ(l:List Int):bQ [.list (l.map PyData.int)]=some (af l):=rfl
theorem Gp(l:List D):bQ [.list l]=some (.tuple l):=rfl
theorem Bi(l:List D):bq [.tuple l]=some (nD l.length):=rfl
theorem Jj(l:List Int):bq [af l]=some (nD l.length):=by
 show some (PyData.int ((l.map PyData.int).length:Nat))=_
 rw[zD]
theorem Cr{n:Nat}(h:n<=1000):lO [nD n]=some ((List.range n).map nD):=by
 rw[xt (Bp h),yH]
theorem pU{fs:Dl.Env->Option (List D)}{ρ:Dl.Env}{n:Nat}(h:fs ρ=some [nD n])(hn:n<=1000):bF fs ρ=some ((List.range n).map nD):=by
 unfold bF
 rw[h,zA,Cr hn]
theorem sub_int(i j:Int):Dl.iw (.int i) (.int j)=some (.int (i - j)):=qj i j
theorem zeros{fi:Dl.Env->Option (List D)}{ρ:Dl.Env}{ds:List D}(hfi:fi ρ=some ds)(hl:ds.length<=1000):ao 1 [] fi (fG 0) (fun _=>some true) (fC (.int 0)) ρ=some ((List.replicate ds.length (0:Int)).map PyData.int):=by
 rw[bW (h:=fun _=>.int 0) hfi (by omega) fun d hd=>rfl]
 simp[List.map_const']
theorem sL{r:List (Option D)}:∀ (a b:List Int),cx (gN 0 1) (fun _=>some true) (f2 aM (ab 0) (ab 1)) (none::none::r) (ja (a.map PyData.int) (b.map PyData.int))=some ((List.zipWith (·+·) a b).map PyData.int)
 | [],b=>by cases b<;>rfl
 | x::a,[]=>rfl
 | x::a,y::b=>by
  have ih:=sL (r:=r) a b
  have hg:gN 0 1 (none::none::r) (.tuple [.int x,.int y])=some (some (.int x)::some (.int y)::r):=by
   simp only[gN,isFree,List.getElem?_cons_zero,List.getElem?_cons_succ,Option.getD_some,Option.isNone_none,and_self,if_true,List.set_cons_zero,List.set_cons_succ]
  rw[zI,zI,ja,cx,hg,zA]
  dsimp! [d6,ih,List.zipWith_cons_cons]
theorem FH{fi:Dl.Env->Option (List D)}{ρ:Dl.Env}{a b:List Int}(hfi:fi ρ=some (ja (a.map PyData.int) (b.map PyData.int)))(hl:a.length<=1000) :
  ao 2 [] fi (gN 0 1) (fun _=>some true) (f2 aM (ab 0) (ab 1)) ρ=some ((List.zipWith (·+·) a b).map PyData.int):=by
 have:=sL (r:=[]) a b
 simp only[ao,hfi,zA,eG,List.replicate,List.map_nil,List.append_nil,this]
 refine bc ?_
 rw[zD,List.length_zipWith]
 omega
noncomputable def cV(W:List Wy)(off:List Int)(left:Int)(i:Nat):Int:=min (min (off.getD i 0) (aI W i).2.2) left
noncomputable def lU(W:List Wy)(off:List Int)(s:Int×List Int)(i:Nat):Int×List Int:=(s.1 - cV W off s.1 i,s.2.set i (cV W off s.1 i))
noncomputable def rl(W:List Wy)(off:List Int)(amt:Int)(is:List Nat):List Int:=(is.foldl (lU W off) (amt,List.replicate W.length 0)).2
theorem AV(W:List Wy)(off:List Int):∀ (is:List Nat) (s:Int×List Int),(is.foldl (lU W off) s).2.length=s.2.length
 | [],s=>rfl
 | i::is,s=>by rw[yJ,AV W off is];simp[lU]
theorem uO(W:List Wy)(off:List Int)(amt:Int)(is:List Nat):(rl W off amt is).length=W.length:=by rw[rl,AV];simp
theorem Mp{G T:List Pl}{W:List Wy}{b:Bool}{i:Nat}{p:Pl}(e:(bR b G T)[i]?=some p):av (.tuple ((bR b G T).map bU)) (nD i)=some (bU p):=nY e
theorem J9{G T:List Pl}{W:List Wy}{off:List Int}{d1 d2:D}{s:Int×List Int}{i:Nat}(hi:i < W.length)(ho:off.length=W.length)(hs:s.2.length=W.length) :
  (aq (z9 4 [0,3,5,6] (ab 6) (bf xW (aa (f2 av (ab 3) (ab 6)) (aa (f2 av (f2 av (f2 av (ab 0) (fC (.int 2))) (ab 6)) (fC (.int 2))) (aa (ab 5) ae))))) (Dl.ay 5 [4,5,6] (f2 Dl.iw (ab 5) (f2 av (ab 4) (ab 6))))) [.val (ax G T W),.val d1,.val d2,.val (af off),.own (s.2.map PyData.int),.val (.int s.1),.val (nD i)]=some (.nx [.val (ax G T W),.val d1,.val d2,.val (af off),.own ((lU W off s i).2.map PyData.int),.val (.int (lU W off s i).1),.val (nD i)]):=by
 have hv:(bf xW (aa (f2 av (ab 3) (ab 6)) (aa (f2 av (f2 av (f2 av (ab 0) (fC (.int 2))) (ab 6)) (fC (.int 2))) (aa (ab 5) ae)))) (bg [.val (ax G T W),.val d1,.val d2,.val (af off),.own (s.2.map PyData.int),.val (.int s.1),.val (nD i)])=some (.int (cV W off s.1 i)):=by
  dsimp! [gu (show i < off.length by omega),oT,qa hi,uL,N8,cV]
 have t1:=CC (i:=4) (fz:=[0,3,5,6]) (fk:=ab 6) (k:=i) (ds:=s.2.map PyData.int) hv rfl rfl rfl (by rw[zD];omega)
 rw[GI] at t1
 rw[ai t1]
 have hl:i < (s.2.set i (cV W off s.1 i)).length:=by rw[yD];omega
 have hg:(s.2.set i (cV W off s.1 i)).getD i 0=cV W off s.1 i:=by
  have:i < s.2.length:=by omega
  simp[this]
 have hv2:(f2 Dl.iw (ab 5) (f2 av (ab 4) (ab 6))) (bg ([.val (ax G T W),.val d1,.val d2,.val (af off),.own (s.2.map PyData.int),.val (.int s.1),.val (nD i)].set 4 (.own ((s.2.set i (cV W off s.1 i)).map PyData.int))))=some (.int (lU W off s i).1):=by
  dsimp! [LC hl,sub_int,hg,lU]
 rw[bP hv2 rfl]
 rfl
theorem n0{G T:List Pl}{W:List Wy}{off:List Int}(h:Wd G T W)(ho:off.length=W.length){b:Bool}{i:Nat}{p:Pl}(e:(bR b G T)[i]?=some p) :
  dR [ax G T W,.int (sI b),nD i,af off]=some (af (rl W off p.1 (fJ b W i p.2))):=by
 have hw:W.length<=16:=h.wl
 have t4:aO 4 [0] (ao 1 [] (aR (f2 av (ab 0) (fC (.int 2)))) (fG 0) (fun _=>some true) (fC (.int 0))) [.val (ax G T W),.val (.int (sI b)),.val (nD i),.val (af off),.non,.non,.non]=some (.nx [.val (ax G T W),.val (.int (sI b)),.val (nD i),.val (af off),.own ((List.replicate W.length (0:Int)).map PyData.int),.non,.non]):=by
  have z:=zeros (fi:=aR (f2 av (ab 0) (fC (.int 2)))) (ρ:=cn [.val (ax G T W),.val (.int (sI b)),.val (nD i),.val (af off),.non,.non,.non]) (ds:=W.map ar) rfl (by rw[zD];omega)
  rw[zD] at z
  exact pb rfl z
 have t5:Dl.ay 5 [0,1,2] (f2 av (f2 av (f2 av (ab 0) (ab 1)) (ab 2)) (fC (.int 0))) [.val (ax G T W),.val (.int (sI b)),.val (nD i),.val (af off),.own ((List.replicate W.length (0:Int)).map PyData.int),.non,.non]=some (.nx [.val (ax G T W),.val (.int (sI b)),.val (nD i),.val (af off),.own ((List.replicate W.length (0:Int)).map PyData.int),.val (.int p.1),.non]) :=
  bP (d:=.int p.1) (by dsimp! [o3,Mp (W:=W) e,IM]) rfl
 obtain⟨ρ',e3,hs',x,rfl⟩:=lZ (tgt:=mQ 6) (gb:=(aq (z9 4 [0,3,5,6] (ab 6) (bf xW (aa (f2 av (ab 3) (ab 6)) (aa (f2 av (f2 av (f2 av (ab 0) (fC (.int 2))) (ab 6)) (fC (.int 2))) (aa (ab 5) ae))))) (Dl.ay 5 [4,5,6] (f2 Dl.iw (ab 5) (f2 av (ab 4) (ab 6)))))) (R:=fun s ρ=>s.2.length=W.length/\∃x,ρ=[.val (ax G T W),.val (.int (sI b)),.val (nD i),.val (af off),.own (s.2.map PyData.int),.val (.int s.1),x]) nD (lU W off)
  (l:=fJ b W i p.2) (s:=(p.1,List.replicate W.length (0:Int))) (ρ:=[.val (ax G T W),.val (.int (sI b)),.val (nD i),.val (af off),.own ((List.replicate W.length (0:Int)).map PyData.int),.val (.int p.1),.non])
  (fun s ρ j hj ⟨hs,x,hρ⟩=>by
   subst hρ
   obtain⟨hjl,_⟩:=cP.mp ((fw h e).mem_iff.mp hj)
   refine⟨_,_,rfl,J9 hjl ho hs,?_,.val (nD j),rfl⟩
   simp[lU,hs]) ⟨by simp,_,rfl⟩
 refine aH ?_
 show gJ [.val (ax G T W),.val (.int (sI b)),.val (nD i),.val (af off),.non,.non,.non]=_
 unfold gJ
 rw[ai t4,ai t5,ai (dF e3 (by dsimp! [sT h e]) rfl)]
 exact aJ rfl
noncomputable def cQ(b:Bool)(G T:List Pl)(i:Nat):Pl:=(bR b G T).getD i (0,[])
noncomputable def w4(b:Bool)(G T:List Pl)(W:List Wy)(off s:List Int)(i:Nat):List Int:=List.zipWith (·+·) s (rl W off (cQ b G T i).1 (fJ b W i (cQ b G T i).2))
noncomputable def aC(b:Bool)(G T:List Pl)(W:List Wy)(off:List Int):List Int:=(List.range (bR b G T).length).foldl (w4 b G T W off) (List.replicate W.length 0)
theorem nH{b:Bool}{G T:List Pl}{i:Nat}(h:i < (bR b G T).length):(bR b G T)[i]?=some (cQ b G T i):=by simp[cQ,h]
theorem oZ{b:Bool}{G T:List Pl}{W:List Wy}{off s:List Int}{i:Nat}(h:s.length=W.length):(w4 b G T W off s i).length=W.length:=by
 unfold w4
 rw[List.length_zipWith,uO,h,Nat.min_self]
theorem kj{S α:Type}{f:S->α->S}(R:S->Prop):∀ {l:List α}{s:S},(∀s x,x∈l->R s->R (f s x))->R s->R (l.foldl f s)
 | [],s,_,h=>h
 | x::l,s,hh,h=>by
  rw[yJ]
  exact kj (l:=l) R (fun s y hy=>hh s y (zC _ hy)) (hh s x zE h)
theorem bT(b:Bool)(G T:List Pl)(W:List Wy)(off:List Int):(aC b G T W off).length=W.length :=
 kj (fun s:List Int=>s.length=W.length) (fun s i _ h=>oZ h) (by simp)
theorem Wd.pl{G T:List Pl}{W:List Wy}(h:Wd G T W)(b:Bool):(bR b G T).length<=4:=by
 cases b
 ·exact h.g4
 ·exact h.t4
noncomputable def O4:ak->Option Out:=(aq (Dl.ay 5 [0,1,2,4] (ah 4 dR (aa (ab 0) (aa (ab 1) (aa (ab 4) (aa (ab 2) ae)))))) (aO 3 [3,5] (ao 2 [] (gh (aa (ab 3) (aa (ab 5) ae))) (gN 0 1) (fun _=>some true) (f2 aM (ab 0) (ab 1)))))
theorem bG{G T:List Pl}{W:List Wy}{off:List Int}(h:Wd G T W)(ho:off.length=W.length)(b:Bool) :
  az [ax G T W,.int (sI b),af off]=some (af (aC b G T W off)):=by
 have hw:W.length<=16:=h.wl
 have hp:=h.pl b
 have t3:aO 3 [0] (ao 1 [] (aR (f2 av (ab 0) (fC (.int 2)))) (fG 0) (fun _=>some true) (fC (.int 0))) [.val (ax G T W),.val (.int (sI b)),.val (af off),.non,.non,.non]=some (.nx [.val (ax G T W),.val (.int (sI b)),.val (af off),.own ((List.replicate W.length (0:Int)).map PyData.int),.non,.non]):=by
  have z:=zeros (fi:=aR (f2 av (ab 0) (fC (.int 2)))) (ρ:=cn [.val (ax G T W),.val (.int (sI b)),.val (af off),.non,.non,.non]) (ds:=W.map ar) rfl (by rw[zD];omega)
  rw[zD] at z
  exact gg z rfl
 obtain⟨ρ',e3,hs',x,y,rfl⟩:=lZ (tgt:=mQ 4) (gb:=O4) (R:=fun s ρ=>s.length=W.length/\∃x y,ρ=[.val (ax G T W),.val (.int (sI b)),.val (af off),.own (s.map PyData.int),x,y]) nD (w4 b G T W off)
  (l:=List.range (bR b G T).length) (s:=List.replicate W.length (0:Int)) (ρ:=[.val (ax G T W),.val (.int (sI b)),.val (af off),.own ((List.replicate W.length (0:Int)).map PyData.int),.non,.non])
  (fun s ρ i hi ⟨hs,x,y,hρ⟩=>by
   subst hρ
   have ei:=nH (zT.mp hi)
   have t1:Dl.ay 5 [0,1,2,4] (ah 4 dR (aa (ab 0) (aa (ab 1) (aa (ab 4) (aa (ab 2) ae))))) [.val (ax G T W),.val (.int (sI b)),.val (af off),.own (s.map PyData.int),.val (nD i),y]=some (.nx [.val (ax G T W),.val (.int (sI b)),.val (af off),.own (s.map PyData.int),.val (nD i),.val (af (rl W off (cQ b G T i).1 (fJ b W i (cQ b G T i).2)))]):=by
    refine lz (ρ':=[.val (ax G T W),.val (.int (sI b)),.val (af off),.own (s.map PyData.int),.val (nD i),y]) rfl (d:=af (rl W off (cQ b G T i).1 (fJ b W i (cQ b G T i).2))) ?_ ?_ rfl
    ·dsimp! [n0 h ho ei]
    ·dsimp! [n0 h ho ei]
   have t2:aO 3 [3,5] (ao 2 [] (gh (aa (ab 3) (aa (ab 5) ae))) (gN 0 1) (fun _=>some true) (f2 aM (ab 0) (ab 1))) [.val (ax G T W),.val (.int (sI b)),.val (af off),.own (s.map PyData.int),.val (nD i),.val (af (rl W off (cQ b G T i).1 (fJ b W i (cQ b G T i).2)))]=some (.nx [.val (ax G T W),.val (.int (sI b)),.val (af off),.own ((w4 b G T W off s i).map PyData.int),.val (nD i),.val (af (rl W off (cQ b G T i).1 (fJ b W i (cQ b G T i).2)))]):=by
    refine pb (ρ':=[.val (ax G T W),.val (.int (sI b)),.val (af off),.val (.list (s.map PyData.int)),.val (nD i),.val (af (rl W off (cQ b G T i).1 (fJ b W i (cQ b G T i).2)))]) rfl (ds:=(w4 b G T W off s i).map PyData.int) ?_
    exact FH (a:=s) (b:=rl W off (cQ b G T i).1 (fJ b W i (cQ b G T i).2)) rfl (by omega)
   exact⟨_,_,rfl,(ai t1).trans t2,oZ hs,_,_,rfl⟩) ⟨by simp,_,_,rfl⟩
 refine aH ?_
 show dA [.val (ax G T W),.val (.int (sI b)),.val (af off),.non,.non,.non]=_
 unfold dA
 rw[ai t3]
 refine (ai (dF e3 (pU (by dsimp! [o3,Bi,zD]) (by omega)) rfl)).trans ?_
 exact aJ rfl
theorem uH{xs ys:List D}(h:(xs++ys).length<=4000):Dl.aM (.tuple xs) (.tuple ys)=some (.tuple (xs++ys)):=by
 simp only[Dl.aM,vR,Hv,bc h,zB,Option.none_or,Option.some_or]
theorem MN{f:Dl.Env->Option D}{ρ:Dl.Env}{d:D}(h:f ρ=some d):aS (aa f ae) ρ=some (.tuple [d]):=by
 simp only[aS,aa,ae,h,zA,zB]
 rw[bc (by simp),zB]
theorem OA{f g:Dl.Env->Option D}{ρ:Dl.Env}{d e:D}(h:f ρ=some d)(h2:g ρ=some e):aS (aa f (aa g ae)) ρ=some (.tuple [d,e]):=by
 simp only[aS,aa,ae,h,h2,zA,zB]
 rw[bc (by simp),zB]
theorem aw{g:D->D->Option D}{fa fb:Dl.Env->Option D}{ρ:Dl.Env}{a b c:D}(h:g a b=some c)(ha:fa ρ=some a)(hb:fb ρ=some b):f2 g fa fb ρ=some c:=by rw[jB ha hb,h]
theorem J8{f g:Dl.Env->Option D}{ρ:Dl.Env}{ds:List D}{k:Nat}(h:f ρ=some (.tuple ds))(h2:g ρ=some (nD k)):kb fA f j1 (wt g) ρ=some (.tuple (ds.take k)):=by
 simp only[kb,h,j1,wt,h2,zA,gI,zB,fA,yb]
theorem KW{f g:Dl.Env->Option D}{ρ:Dl.Env}{ds:List D}{k:Nat}(h:f ρ=some (.tuple ds))(h2:g ρ=some (nD k)):kb fA f (wt g) j1 ρ=some (.tuple (ds.drop k)):=by
 simp only[kb,h,j1,wt,h2,zA,gI,zB,fA,vX]
theorem Os(d:D)(ds:List D):av (.tuple (d::ds)) (.int 0)=some d:=p5 (i:=0) rfl
theorem NR(c d:D)(ds:List D):av (.tuple (c::d::ds)) (.int 1)=some d:=p5 (i:=1) rfl
theorem AS(c:List Int)(i:Nat)(v:Int)(h:i < c.length):((c.map PyData.int).take i++[PyData.int v])++(c.map PyData.int).drop (i+1)=(c.set i v).map PyData.int:=by
 rw[List.set_eq_take_append_cons_drop,if_pos h]
 simp
theorem Pc(i:Nat):Dl.aM (nD i) (.int 1)=some (nD (i+1)):=by
 rw[d6]
 rfl
theorem zd{c:List Int}{i:Nat}{v:Int}(h:i < c.length)(hl:c.length<=1000):i3 [af c,nD i,.int v]=some (af (c.set i v)):=by
 refine aH ?_
 show lQ [.val (af c),.val (nD i),.val (.int v)]=_
 refine aJ ?_
 refine aw (a:=.tuple ((c.map PyData.int).take i++[PyData.int v])) (b:=.tuple ((c.map PyData.int).drop (i+1))) ?_ (aw (a:=.tuple ((c.map PyData.int).take i)) (b:=.tuple [.int v]) (uH ?_) (J8 rfl rfl) (MN rfl)) (KW rfl (aw (Pc i) rfl rfl))
 ·rw[uH,AS c i v h]
  ·rfl
  ·rw[AS c i v h];simp;omega
 ·simp;omega
theorem mZ{c:List Int}{i:Nat}{v:Int}(h:i < c.length)(hl:c.length<=1000):bD [af c,nD i,.int v]=some (af (c.set i v)):=by
 refine aH ?_
 show nK [.val (af c),.val (nD i),.val (.int v)]=_
 exact aJ (call_of (zd h hl) rfl rfl)
noncomputable def bI(W:List Wy):List Int:=W.map fun w=>w.2.2
theorem Gr{G T:List Pl}{W:List Wy}(h:Wd G T W){f:Dl.Env->Option D}{ρ:Dl.Env}(hf:f ρ=some (ax G T W)):(bf bQ (aa (bZ (ao 1 [] (aR (f2 av f (fC (.int 2)))) (fG 0) (fun _=>some true) (f2 av (ab 0) (fC (.int 2))))) ae)) ρ=some (af (bI W)):=by
 have hw:=h.wl
 have hs:(aR (f2 av f (fC (.int 2)))) ρ=some (W.map ar):=by
  unfold aR
  rw[aw (oT G T W) hf rfl]
  rfl
 have e:ao 1 [] (aR (f2 av f (fC (.int 2)))) (fG 0) (fun _=>some true) (f2 av (ab 0) (fC (.int 2))) ρ=some ((bI W).map PyData.int):=by
  rw[bW (h:=fun d=>.int (iU ((cS d).getD 2 .none))) hs (by rw[zD];omega) fun d hd=>?_]
  ·rw[bI,zM,zM]
   rfl
  ·obtain⟨w,hw',rfl⟩:=zQ.mp hd
   rfl
 simp only[bf,aa,ae,bZ,e,zB,zA,GJ]
theorem iC{G T:List Pl}{W:List Wy}(h:Wd G T W):du [ax G T W]=some (af (bI W)):=by
 refine aH ?_
 show pR [.val (ax G T W)]=_
 exact aJ (Gr h rfl)
theorem gQ(W:List Wy):(bI W).length=W.length:=by simp[bI]
noncomputable def cE(G T:List Pl)(W:List Wy)(c:List Int):List Int:=aC true G T W (aC false G T W c)
noncomputable def qR(G T:List Pl)(W:List Wy)(c:List Int)(k:Nat):Bool:=decide ((cE G T W c).getD k 0 < (aC false G T W c).getD k 0)
noncomputable def kY(G T:List Pl)(W:List Wy)(c:List Int):Option (Nat×Int):=((List.range W.length).find? (qR G T W c)).map fun k=>(k,(cE G T W c).getD k 0)
noncomputable def Ak:Option (Nat×Int)->D
 | none=>.none
 | some p=>.tuple [nD p.1,.int p.2]
theorem enum_zip:∀ (ds:List D) (k:Nat),bJ k ds=(ds.zipIdx k).map fun q=>.tuple [nD q.2,q.1]
 | [],k=>rfl
 | d::ds,k=>by rw[bJ,enum_zip ds (k+1),List.zipIdx_cons];rfl
theorem BX(l:List Int):bJ 0 (l.map PyData.int)=(List.range l.length).map fun k=>.tuple [nD k,.int (l.getD k 0)]:=by
 rw[enum_zip]
 apply List.ext_getElem
 ·simp
 ·intro i h1 h2
  have:i < l.length:=by simpa using h2
  simp[this]
theorem KB(G T:List Pl)(W:List Wy)(c:List Int):(cE G T W c).length=W.length:=bT _ _ _ _ _
noncomputable def Ou:ak->Option Out:=(eL (fB (f2 xb (ab 5) (f2 av (ab 2) (ab 4)))) (aD (aS (aa (ab 4) (aa (ab 5) ae)))) eF)
theorem kK{G T:List Pl}{W:List Wy}{c:List Int}(h:Wd G T W)(ho:c.length=W.length):dZ [ax G T W,af c]=some (Ak (kY G T W c)):=by
 have hw:W.length<=16:=h.wl
 have t2:Dl.ay 2 [0,1] (ah 3 az (aa (ab 0) (aa (fC (.int 0)) (aa (ab 1) ae)))) [.val (ax G T W),.val (af c),.non,.non,.non,.non]=some (.nx [.val (ax G T W),.val (af c),.val (af (aC false G T W c)),.non,.non,.non]) :=
  cm (call_of (bG h ho false) rfl rfl) rfl rfl rfl
 have t3:Dl.ay 3 [0,2] (ah 3 az (aa (ab 0) (aa (fC (.int 1)) (aa (ab 2) ae)))) [.val (ax G T W),.val (af c),.val (af (aC false G T W c)),.non,.non,.non]=some (.nx [.val (ax G T W),.val (af c),.val (af (aC false G T W c)),.val (af (cE G T W c)),.non,.non]) :=
  cm (call_of (bG h (bT _ _ _ _ _) true) rfl rfl) rfl rfl rfl
 have hl:=lA (tgt:=js 4 5) (gb:=Ou) (R:=fun ρ=>∃x y,ρ=[.val (ax G T W),.val (af c),.val (af (aC false G T W c)),.val (af (cE G T W c)),x,y]) (fun k=>.tuple [nD k,.int ((cE G T W c).getD k 0)]) (qR G T W c) (fun k=>.tuple [nD k,.int ((cE G T W c).getD k 0)])
  (l:=List.range W.length) (ρ:=[.val (ax G T W),.val (af c),.val (af (aC false G T W c)),.val (af (cE G T W c)),.non,.non])
  (fun ρ k hk ⟨x,y,hρ⟩=>by
   subst hρ
   have hk':k < (aC false G T W c).length:=by rw[bT];exact zT.mp hk
   have hc:(fB (f2 xb (ab 5) (f2 av (ab 2) (ab 4)))) (bg [.val (ax G T W),.val (af c),.val (af (aC false G T W c)),.val (af (cE G T W c)),.val (nD k),.val (.int ((cE G T W c).getD k 0))])=some (qR G T W c k):=by
    dsimp! [gu hk',kE,qR]
   refine⟨[.val (ax G T W),.val (af c),.val (af (aC false G T W c)),.val (af (cE G T W c)),.val (nD k),.val (.int ((cE G T W c).getD k 0))],rfl,fun hq=>?_,fun hq=>?_⟩
   ·rw[hq] at hc
    unfold Ou
    rw[eW hc]
    exact aJ (OA rfl rfl)
   ·rw[hq] at hc
    unfold Ou
    rw[bS hc]
    exact⟨_,rfl,_,_,rfl⟩) ⟨_,_,rfl⟩
 have hi:(bV (aa (ab 3) ae)) (cn [.val (ax G T W),.val (af c),.val (af (aC false G T W c)),.val (af (cE G T W c)),.non,.non])=some ((List.range W.length).map fun k=>.tuple [nD k,.int ((cE G T W c).getD k 0)]):=by
  have:=BX (cE G T W c)
  rw[KB] at this
  rw[<- this]
  rfl
 refine aH ?_
 show kq [.val (ax G T W),.val (af c),.non,.non,.non,.non]=_
 unfold kq
 rw[ai t2,ai t3]
 unfold kY
 cases hq:(List.range W.length).find? (qR G T W c) with
 | some k =>
  exact iq (dF (hl.1 k hq) hi rfl)
 | none =>
  obtain⟨ρ',e,x,y,rfl⟩:=hl.2 hq
  exact (ai (dF e hi rfl)).trans (aJ rfl)
theorem bp(l:List Int)(k:Nat)(v:Int)(i:Nat):(l.set k v).getD i 0=if k=i/\i < l.length then v else l.getD i 0:=by
 simp only[zG,List.getElem?_set]
 by_cases h:k=i
 ·subst h
  by_cases h2:k < l.length
  ·simp[h2]
  ·simp[h2]
 ·simp[h]
theorem xM{a b:List Int}{i:Nat}(ha:i < a.length)(hb:i < b.length):(List.zipWith (·+·) a b).getD i 0=a.getD i 0+b.getD i 0:=by
 rw[zG,zG,zG,List.getElem?_zipWith,zK ha,zK hb]
 rfl
def Off(off:List Int):Prop:=∀i,0<=off.getD i 0
def NY(W:List Wy):Prop:=∀i,0<=(aI W i).2.2
theorem Wd.lim{G T:List Pl}{W:List Wy}(h:Wd G T W):NY W:=fun i=>by
 by_cases hi:i < W.length
 ·have:=h.wr (aI W i) (by rw[<- i8 hi];exact List.getElem_mem hi)
  omega
 ·simp only[aI,zG]
  rw[List.getElem?_eq_none (by omega)]
  simp
theorem Wd.amt{G T:List Pl}{W:List Wy}(h:Wd G T W)(b:Bool)(i:Nat):0<=(cQ b G T i).1:=by
 unfold cQ
 rw[zG]
 cases e:(bR b G T)[i]? with
 | none=>simp
 | some p =>
  have hm:=List.mem_of_getElem? e
  cases b
  ·exact (h.ga p hm).1
  ·exact (h.ta p hm).1
theorem KU{W:List Wy}{off:List Int}(ho:Off off)(hl:NY W){amt:Int}(ha:0<=amt)(is:List Nat)(i:Nat):0<=(rl W off amt is).getD i 0/\(rl W off amt is).getD i 0<=off.getD i 0:=by
 have:=kj (l:=is) (f:=lU W off) (s:=(amt,List.replicate W.length 0)) (fun s=>0<=s.1/\∀i,0<=s.2.getD i 0/\s.2.getD i 0<=off.getD i 0) (fun s k _ ⟨h1,h2⟩=>by
  have ok:=ho k
  have lk:=hl k
  have v0:0<=cV W off s.1 k:=by unfold cV;omega
  have v1:cV W off s.1 k<=off.getD k 0:=by unfold cV;omega
  have v2:cV W off s.1 k<=s.1:=by unfold cV;omega
  refine⟨by simp only[lU];omega,fun i=>?_⟩
  simp only[lU,bp]
  split
  ·rename_i z
   rw[<- z.1]
   exact⟨v0,v1⟩
  ·exact h2 i) ⟨ha,fun i=>by
   have:=ho i
   have z:(List.replicate W.length (0:Int)).getD i 0=0:=by
    simp only[zG,List.getElem?_replicate]
    split<;>rfl
   simp only[z]
   omega⟩
 exact this.2 i
theorem By{W:List Wy}{off:List Int}{amt:Int}{is:List Nat}{i:Nat}(hi:i∉is):(rl W off amt is).getD i 0=0:=by
 refine kj (l:=is) (f:=lU W off) (s:=(amt,List.replicate W.length 0)) (fun s=>s.2.getD i 0=0) (fun s k hk h=>?_) ?_
 ·simp only[lU,bp]
  have hki:¬ (k=i/\i < s.2.length):=fun z=>hi (z.1 ▸ hk)
  rw[if_neg hki,h]
 ·simp only[zG,List.getElem?_replicate]
  split<;>rfl
theorem uS{G T:List Pl}{W:List Wy}(h:Wd G T W){off:List Int}(ho:Off off)(b:Bool):∀ (n:Nat),n<=(bR b G T).length ->
  ((List.range n).foldl (w4 b G T W off) (List.replicate W.length 0)).length=W.length/\∀i,i < W.length->(0<=((List.range n).foldl (w4 b G T W off) (List.replicate W.length 0)).getD i 0/\((List.range n).foldl (w4 b G T W off) (List.replicate W.length 0)).getD i 0<=off.getD i 0)/\((n:Nat)<=br b (aI W i)->((List.range n).foldl (w4 b G T W off) (List.replicate W.length 0)).getD i 0=0)
 | 0,_=>by
  refine⟨by simp,fun i hi=>?_⟩
  have:=ho i
  have z:((List.range 0).foldl (w4 b G T W off) (List.replicate W.length 0)).getD i 0=0:=by simp[zG,hi]
  rw[z]
  exact⟨by omega,fun _=>rfl⟩
 | n+1,hn=>by
  obtain⟨h1,h2⟩:=uS h ho b n (by omega)
  rw[List.range_succ,List.foldl_append,yJ,List.foldl_nil]
  generalize (List.range n).foldl (w4 b G T W off) (List.replicate W.length 0)=s at h1 h2
  refine⟨oZ h1,fun i hi=>?_⟩
  obtain⟨h3,h4⟩:=h2 i hi
  have e:=nH (b:=b) (G:=G) (T:=T) (i:=n) (by omega)
  have hc:=KU ho h.lim (h.amt b n) (fJ b W n (cQ b G T n).2) i
  have hz:(w4 b G T W off s n).getD i 0=s.getD i 0+(rl W off (cQ b G T n).1 (fJ b W n (cQ b G T n).2)).getD i 0:=xM (by omega) (by rw[uO];exact hi)
  rw[hz]
  by_cases he:br b (aI W i)=n
  ·rw[h4 (by omega)]
   exact⟨by omega,fun z=>by omega⟩
  ·have hni:i∉fJ b W n (cQ b G T n).2:=fun z=>he (cP.mp ((fw h e).mem_iff.mp z)).2
   rw[By hni]
   exact⟨by omega,fun z=>by rw[h4 (by omega)];rfl⟩
theorem fE{l:List Int}{i:Nat}(h:l.length<=i):l.getD i 0=0:=by simp[zG,h]
theorem gK{G T:List Pl}{W:List Wy}(h:Wd G T W){off:List Int}(ho:Off off)(b:Bool):Off (aC b G T W off):=fun i=>by
 by_cases hi:i < W.length
 ·exact ((uS h ho b _ (Nat.le_refl _)).2 i hi).1.1
 ·rw[fE (by rw[bT];omega)]
  exact Int.le_refl 0
theorem yx{G T:List Pl}{W:List Wy}(h:Wd G T W){off:List Int}(ho:Off off)(b:Bool){i:Nat}(hi:i < W.length):(aC b G T W off).getD i 0<=off.getD i 0 :=
 ((uS h ho b _ (Nat.le_refl _)).2 i hi).1.2
theorem sX{G T:List Pl}{W:List Wy}(h:Wd G T W){c:List Int}(ho:Off c){p:Nat×Int}(e:kY G T W c=some p):p.1 < W.length/\0<=p.2/\p.2 < c.getD p.1 0:=by
 unfold kY at e
 obtain⟨k,hk,rfl⟩:=Dl.ag e
 have hm:=List.mem_of_find?_eq_some hk
 have hq:=List.find?_some hk
 have hi:=zT.mp hm
 rw[qR,zJ] at hq
 have a:=yx h ho false hi
 have b:=gK h (gK h ho false) true k
 exact⟨hi,b,by simp only;omega⟩
noncomputable def mea(c:List Int):Nat:=(c.map Int.toNat).sum
theorem o5:∀ {c:List Int}{k:Nat}{v:Int},0<=v->v < c.getD k 0->mea (c.set k v) < mea c
 | [],k,v,h0,h1=>by simp at h1;omega
 | x::c,0,v,h0,h1=>by
  simp at h1
  simp only[mea,List.set_cons_zero,zI,List.sum_cons]
  omega
 | x::c,k+1,v,h0,h1=>by
  have:=o5 (c:=c) (k:=k) h0 (by simpa using h1)
  simp only[mea,List.set_cons_succ,zI,List.sum_cons] at this ⊢
  omega
theorem AG:∀ {W:List Wy},(∀w∈W,w.2.2<=9)->mea (bI W)<=9 * W.length
 | [],_=>by simp[mea,bI]
 | w::W,h=>by
  have:=AG (W:=W) fun x hx=>h x (zC _ hx)
  have:=h w zE
  simp only[mea,bI,zI,List.sum_cons,zL] at *
  omega
theorem pf{G T:List Pl}{W:List Wy}(h:Wd G T W):Off (bI W):=fun i=>by
 have:=h.lim i
 by_cases hi:i < W.length
 ·simpa [bI,aI,zG,hi] using this
 ·rw[fE (by rw[gQ];omega)]
  exact Int.le_refl 0
theorem kH{c:List Int}(h:Off c){k:Nat}{v:Int}(hv:0<=v):Off (c.set k v):=fun i=>by
 rw[bp]
 split
 ·exact hv
 ·exact h i
theorem pS(a:List Int):SeqAt.shaped (af a)=true :=
 (iT.tup (b:=a.length) (k:=0) (by simp) fun x hx=>by obtain⟨i,_,rfl⟩:=zQ.mp hx;exact iW _).shaped (by decide)
theorem qf(a b:List Int):PyData.eqv (af a) (af b)=decide (a=b):=by
 rw[af,af,PyData.eqv,qh]
theorem bo{f:Dl.Env->Option D}{ρ:Dl.Env}{b:Bool}(h:f ρ=some (.bool b)):fB f ρ=some b:=by
 simp only[fB,h,zA,gB]
theorem bK{t:Dl.Env->Option Bool}{ρ:Dl.Env}{b:Bool}(h:t ρ=some b):aX t ρ=some (!b):=by
 simp only[aX,h,zB]
theorem mX{t u:Dl.Env->Option Bool}{ρ:Dl.Env}(h:t ρ=some false)(h2:u ρ=some false):iD t u ρ=some false:=by
 simp only[iD,h,zA,h2]
theorem pN(a b:List Int):dg (af a) (af b)=some (.bool (!decide (a=b))):=by
 simp only[dg,JP,pS,and_self,if_true,qf,zB]
theorem pO(a b:List Int):cf (af a) (af b)=some (.bool (decide (a=b))):=by
 simp only[cf,Kb,pS,and_self,if_true,qf,zB]
theorem CQ(a:List Int):dg (af a) (af a)=some (.bool false):=by rw[pN];simp
theorem Iz(x:Option (Nat×Int)):mK (Ak x) .none=some (.bool x.isSome):=by cases x<;>rfl
theorem aW{i:Nat}{fz:List Nat}{f:Dl.Env->Option D}{ρ:ak}{d:D}(hA:f (bg ρ)=some d)(hF:f (cn ρ)=some d)(hh:hand fz 0 ρ=ρ):Dl.ay i fz f ρ=some (.nx (ρ.set i (.val d))):=by
 cases hs:Dl.oJ d with
 | true=>exact bP hA hs
 | false=>exact lz hh hA hF hs (.inr rfl)
theorem D5{i:Nat}{fz:List Nat}{f:Dl.Env->Option D}{ρ:ak}{d:D}{ds:List D}(hA:f (bg ρ)=some d)(hF:f (cn ρ)=some d)(hh:hand fz 0 ρ=ρ)(ho:ρ[i]?=some (.own ds))(hl:ds.length < 4000):jI i fz f ρ=some (.nx (ρ.set i (.own (ds++[d])))):=by
 have hz:ds.length < sizeLine:=zP hl (by decide)
 have hi:lh fz f ρ=some (d,ρ):=by
  unfold lh
  rw[hA,zA,hh,hF]
  cases Dl.oJ d<;>rfl
 simp only[jI,hi,zA,nI,ho,hz,if_true,zB]
theorem bM{G T:List Pl}{W:List Wy}(h:Wd G T W):aA [ax G T W]=some .none:=by
 have hw:cB [ax G T W]=some (.bool true):=by rw[zx h.fit (by decide),h.wok]
 have hc:(aX (fB (ah 1 cB (aa (ab 0) ae)))) (bg [.val (ax G T W)])=some false:=bK (bo (call_of hw rfl rfl))
 have:dz [.val (ax G T W)]=some (.nx [.val (ax G T W)]):=by
  unfold dz
  rw[bS hc]
 show (dz [.val (ax G T W)]).map _=_
 rw[this]
 rfl
theorem rT{a b:Int}{i:Int}(h1:a<=i)(h2:i<=b):eZ [.int i,.int a,.int b]=some .none:=by
 have hw:aK [.int i,.int a,.int b]=some (.bool true):=by rw[eO rfl];simp[whole,h1,h2]
 have hc:(aX (fB (ah 3 aK (aa (ab 0) (aa (ab 1) (aa (ab 2) ae)))))) (bg [.val (.int i),.val (.int a),.val (.int b)])=some false:=bK (bo (call_of hw rfl rfl))
 have:dy [.val (.int i),.val (.int a),.val (.int b)]=some (.nx [.val (.int i),.val (.int a),.val (.int b)]):=by
  unfold dy
  rw[bS hc]
 show (dy [.val (.int i),.val (.int a),.val (.int b)]).map _=_
 rw[this]
 rfl
theorem qL{n i:Int}(h1:0<=i)(h2:i<=n - 1):d9 [.int i,.int n]=some .none:=by
 have:cX [.val (.int i),.val (.int n)]=some (.nx [.val (.int i),.val (.int n)]):=by
  unfold cX
  exact eB (call_of (rT h1 h2) (cons_of rfl (cons_of rfl (cons_of (aw (sub_int n 1) rfl rfl) rfl))) rfl)
 show (cX [.val (.int i),.val (.int n)]).map _=_
 rw[this]
 rfl
theorem uo(b:Bool):fV [.int (sI b)]=some .none:=by
 have:ej [.val (.int (sI b))]=some (.nx [.val (.int (sI b))]):=by
  unfold ej
  exact eB (call_of (qL (n:=2) (i:=sI b) (by cases b<;>decide) (by cases b<;>decide)) rfl rfl)
 show (ej [.val (.int (sI b))]).map _=_
 rw[this]
 rfl
theorem oq{G T:List Pl}{W:List Wy}{off:List Int}(h:Wd G T W)(ho:off.length=W.length)(b:Bool):cU [ax G T W,.int (sI b),af off]=some (af (aC b G T W off)):=by
 refine aH ?_
 show g0 [.val (ax G T W),.val (.int (sI b)),.val (af off)]=_
 unfold g0
 refine (ai (eB (call_of (bM h) rfl rfl))).trans ?_
 refine (ai (eB (call_of (uo b) rfl rfl))).trans ?_
 exact aJ (call_of (bG h ho b) rfl rfl)
noncomputable abbrev Sp:=List (Nat×Int)×List Int
noncomputable def CG(G T:List Pl)(W:List Wy)(s:Sp):Bool:=(kY G T W s.2).isSome
noncomputable def spS(G T:List Pl)(W:List Wy)(s:Sp):Sp:=match kY G T W s.2 with|some p=>(s.1++[p],s.2.set p.1 p.2)|none=>s
noncomputable def low(c:List Int)(p:Nat×Int):List Int:=c.set p.1 p.2
structure yr(W:List Wy)(s:Sp):Prop where
 len:s.2.length=W.length
 off:Off s.2
 eq:s.2=s.1.foldl low (bI W)
 bd:s.1.length+mea s.2<=mea (bI W)
 mem:∀p∈s.1,p.1 < W.length
theorem yr.start{G T:List Pl}{W:List Wy}(h:Wd G T W):yr W ([],bI W):=⟨gQ W,pf h,rfl,by simp,fun p hp=>by cases hp⟩
theorem nQ{G T:List Pl}{W:List Wy}{s:Sp}{p:Nat×Int}(e:kY G T W s.2=some p):spS G T W s=(s.1++[p],s.2.set p.1 p.2):=by
 unfold spS
 rw[e]
theorem yr.step{G T:List Pl}{W:List Wy}(h:Wd G T W){s:Sp}(i:yr W s){p:Nat×Int}(e:kY G T W s.2=some p):yr W (spS G T W s)/\mea (spS G T W s).2 < mea s.2:=by
 obtain⟨h1,h2,h3⟩:=sX h i.off e
 have hm:=o5 h2 h3
 rw[nQ e]
 refine⟨⟨by simp[i.len],kH i.off h2,?_,?_,fun q hq=>?_⟩,hm⟩
 ·rw[List.foldl_append,<- i.eq]
  rfl
 ·have:=i.bd
  simp only[zN,List.length_singleton]
  omega
 ·rcases List.mem_append.mp hq with z|z
  ·exact i.mem q z
  ·rw[yK] at z
   rw[z]
   exact h1
theorem Wd.mea{G T:List Pl}{W:List Wy}(h:Wd G T W):mea (bI W)<=144:=by
 have:=AG (W:=W) fun w hw=>(h.wr w hw).2.2.2
 have:=h.wl
 omega
noncomputable def oe(r:List (Nat×Int)):List D:=(r.map fun p=>[((p.1:Nat):Int),p.2]).map af
theorem IX(r:List (Nat×Int))(p:Nat×Int):oe (r++[p])=oe r++[Ak (some p)]:=by simp[oe];rfl
theorem Ho(r:List (Nat×Int)):(oe r).length=r.length:=by simp[oe]
noncomputable def fin(G T:List Pl)(W:List Wy):Sp:=lp (CG G T W) (spS G T W) Rf.turns ([],bI W)
noncomputable def OE:ak->Option Out:=(aq (jI 1 [3] (ab 3)) (aq (Dl.ay 2 [2,3] (ah 3 bD (aa (ab 2) (aa (f2 av (ab 3) (fC (.int 0))) (aa (f2 av (ab 3) (fC (.int 1))) ae))))) (Dl.ay 3 [0,2] (ah 2 dZ (aa (ab 0) (aa (ab 2) ae))))))
noncomputable def JN(G T:List Pl)(W:List Wy)(s:Sp):ak:=[.val (ax G T W),.own (oe s.1),.val (af s.2),.val (Ak (kY G T W s.2))]
theorem HX{G T:List Pl}{W:List Wy}(h:Wd G T W){s:Sp}(i:yr W s){p:Nat×Int}(e:kY G T W s.2=some p):OE (JN G T W s)=some (.nx (JN G T W (spS G T W s))):=by
 obtain⟨h1,h2,h3⟩:=sX h i.off e
 obtain⟨i2,hm⟩:=i.step h e
 have hb:=h.mea
 have hbd:=i.bd
 have hw:=h.wl
 have t1:jI 1 [3] (ab 3) (JN G T W s)=some (.nx [.val (ax G T W),.own (oe s.1++[Ak (some p)]),.val (af s.2),.val (Ak (some p))]):=by
  unfold JN
  rw[e]
  exact D5 rfl rfl rfl rfl (by rw[Ho];omega)
 have hlow:∀ρ:Dl.Env,ab 2 ρ=some (af s.2)->ab 3 ρ=some (Ak (some p))->(ah 3 bD (aa (ab 2) (aa (f2 av (ab 3) (fC (.int 0))) (aa (f2 av (ab 3) (fC (.int 1))) ae)))) ρ=some (af (s.2.set p.1 p.2)):=fun ρ a b =>
  call_of (mZ (c:=s.2) (i:=p.1) (v:=p.2) (by rw[i.len];exact h1) (by rw[i.len];omega)) (cons_of a (cons_of (aw (Os _ _) b rfl) (cons_of (aw (NR _ _ _) b rfl) rfl))) rfl
 have t2:Dl.ay 2 [2,3] (ah 3 bD (aa (ab 2) (aa (f2 av (ab 3) (fC (.int 0))) (aa (f2 av (ab 3) (fC (.int 1))) ae)))) [.val (ax G T W),.own (oe s.1++[Ak (some p)]),.val (af s.2),.val (Ak (some p))]=some (.nx [.val (ax G T W),.own (oe s.1++[Ak (some p)]),.val (af (s.2.set p.1 p.2)),.val (Ak (some p))]) :=
  aW (hlow _ rfl rfl) (hlow _ rfl rfl) rfl
 have hl2:(s.2.set p.1 p.2).length=W.length:=by rw[yD,i.len]
 have t3:Dl.ay 3 [0,2] (ah 2 dZ (aa (ab 0) (aa (ab 2) ae))) [.val (ax G T W),.own (oe s.1++[Ak (some p)]),.val (af (s.2.set p.1 p.2)),.val (Ak (some p))]=some (.nx [.val (ax G T W),.own (oe s.1++[Ak (some p)]),.val (af (s.2.set p.1 p.2)),.val (Ak (kY G T W (s.2.set p.1 p.2)))]) :=
  aW (call_of (kK h hl2) rfl rfl) (call_of (kK h hl2) rfl rfl) rfl
 unfold OE
 rw[ai t1,ai t2,t3,nQ e]
 unfold JN
 rw[IX]
theorem l7{G T:List Pl}{W:List Wy}{s:Sp}(h:CG G T W s=true):∃p,kY G T W s.2=some p:=Option.isSome_iff_exists.mp h
theorem AZ{G T:List Pl}{W:List Wy}(h:Wd G T W):jw [ax G T W]=some (.list (oe (fin G T W).1))/\yr W (fin G T W):=by
 have hb:=h.mea
 have t1:aO 1 [] (cG ae) [.val (ax G T W),.non,.non,.non]=some (.nx [.val (ax G T W),.own [],.non,.non]):=gg (f:=cG ae) (ds:=[]) (show small []=some [] from bc (by simp)) rfl
 have t2:Dl.ay 2 [0] (ah 1 du (aa (ab 0) ae)) [.val (ax G T W),.own [],.non,.non]=some (.nx [.val (ax G T W),.own [],.val (af (bI W)),.non]) :=
  aW (call_of (iC h) rfl rfl) (call_of (iC h) rfl rfl) rfl
 have t3:Dl.ay 3 [0,2] (ah 2 dZ (aa (ab 0) (aa (ab 2) ae))) [.val (ax G T W),.own [],.val (af (bI W)),.non]=some (.nx (JN G T W ([],bI W))) :=
  aW (call_of (kK h (gQ W)) rfl rfl) (call_of (kK h (gQ W)) rfl rfl) rfl
 obtain⟨ρ',ew,⟨rfl,iv⟩,_⟩:=qZ (t:=(fB (f2 mK (ab 3) (fC .none)))) (gb:=OE) (R:=fun s ρ=>ρ=JN G T W s/\yr W s) (CG G T W) (spS G T W) (fun s=>mea s.2)
  (fun s ρ ⟨hρ,i⟩=>by
   subst hρ
   exact bo (aw (Iz _) rfl rfl))
  (fun s ρ ⟨hρ,i⟩ hc=>by
   subst hρ
   obtain⟨p,e⟩:=l7 hc
   exact⟨_,HX h i e,⟨rfl,(i.step h e).1⟩,(i.step h e).2⟩)
  Rf.turns ([],bI W) (JN G T W ([],bI W)) (Nat.lt_of_le_of_lt hb (by decide)) ⟨rfl,yr.start h⟩
 refine⟨?_,iv⟩
 refine aH ?_
 show o7 [.val (ax G T W),.non,.non,.non]=_
 unfold o7
 rw[ai t1,ai t2,ai t3]
 refine (ai ew).trans ?_
 exact aJ rfl
theorem BG(c:List Int)(p:Nat×Int):(low c p).length=c.length:=by simp[low]
theorem xN{G T:List Pl}{W:List Wy}(h:Wd G T W){r:List (Nat×Int)}(hr:∀p∈r,p.1 < W.length):fv [ax G T W,.list (oe r)]=some (af (r.foldl low (bI W))):=by
 have hw:=h.wl
 have t2:Dl.ay 2 [0] (ah 1 du (aa (ab 0) ae)) [.val (ax G T W),.val (.list (oe r)),.non,.non,.non]=some (.nx [.val (ax G T W),.val (.list (oe r)),.val (af (bI W)),.non,.non]) :=
  aW (call_of (iC h) rfl rfl) (call_of (iC h) rfl rfl) rfl
 obtain⟨ρ',e3,hs',x,y,rfl⟩:=lZ (tgt:=js 3 4) (gb:=Dl.ay 2 [2,3,4] (ah 3 bD (aa (ab 2) (aa (ab 3) (aa (ab 4) ae))))) (R:=fun (c:List Int) ρ=>c.length=W.length/\∃x y,ρ=[.val (ax G T W),.val (.list (oe r)),.val (af c),x,y]) (fun p:Nat×Int=>af [((p.1:Nat):Int),p.2]) low
  (l:=r) (s:=bI W) (ρ:=[.val (ax G T W),.val (.list (oe r)),.val (af (bI W)),.non,.non])
  (fun c ρ p hp ⟨hc,x,y,hρ⟩=>by
   subst hρ
   have el:=mZ (c:=c) (i:=p.1) (v:=p.2) (by rw[hc];exact hr p hp) (by omega)
   have t:Dl.ay 2 [2,3,4] (ah 3 bD (aa (ab 2) (aa (ab 3) (aa (ab 4) ae)))) [.val (ax G T W),.val (.list (oe r)),.val (af c),.val (nD p.1),.val (.int p.2)]=some (.nx [.val (ax G T W),.val (.list (oe r)),.val (af (low c p)),.val (nD p.1),.val (.int p.2)]) :=
    aW (call_of el rfl rfl) (call_of el rfl rfl) rfl
   exact⟨_,_,rfl,t,by rw[BG,hc],_,_,rfl⟩) ⟨gQ W,_,_,rfl⟩
 refine aH ?_
 show l0 [.val (ax G T W),.val (.list (oe r)),.non,.non,.non]=_
 unfold l0
 rw[ai t2]
 refine (ai (dF e3 ?_ rfl)).trans (aJ rfl)
 show some (oe r)=_
 rw[oe,zM]
 rfl
theorem rD{G T:List Pl}{W:List Wy}(h:Wd G T W):aP [ax G T W]=some (af (aC false G T W (fin G T W).2)):=by
 obtain⟨e1,i⟩:=AZ h
 have e2:=xN h i.mem
 rw[<- i.eq] at e2
 refine aH ?_
 show eX [.val (ax G T W)]=_
 unfold eX
 refine (ai (eB (call_of (bM h) rfl rfl))).trans ?_
 exact aJ (call_of (bG h i.len false) (cons_of rfl (cons_of rfl (cons_of (call_of e2 (cons_of rfl (cons_of (call_of e1 rfl rfl) rfl)) rfl) rfl))) rfl)
noncomputable def Mj(w:Wy):Wy:=(w.2.1,w.1,w.2.2)
structure Ord(W:List Wy)(π:List Nat):Prop where
 perm:π.Perm (List.range W.length)
 up:π.Pairwise fun i j=>(aI W i).2.1 < (aI W j).2.1\/((aI W i).2.1=(aI W j).2.1/\(aI W i).1 < (aI W j).1)
noncomputable def l8(W:List Wy)(π:List Nat):List Wy:=π.map fun i=>Mj (aI W i)
noncomputable def NB(P:List Int)(π:List Nat):List Int:=π.map fun i=>P.getD i 0
section
variable {W:List Wy}{π π':List Nat}{P:List Int}{G T:List Pl}
theorem Ord.len(o:Ord W π):π.length=W.length:=by rw[o.perm.length_eq,zS]
theorem Ord.lt(o:Ord W π){k:Nat}(hk:k < W.length):π.getD k 0 < W.length:=by
 have h:k < π.length:=by rw[o.len];exact hk
 have:=o.perm.mem_iff.mp (List.getElem_mem h)
 rw[zG,zK h]
 simpa using this
theorem Ord.ex(o:Ord W π){i:Nat}(hi:i < W.length):∃k,k < W.length/\π.getD k 0=i:=by
 have:i∈π:=o.perm.mem_iff.mpr (by simpa using hi)
 obtain⟨k,hk,e⟩:=List.getElem_of_mem this
 exact⟨k,by rw[<- o.len];exact hk,by rw[zG,zK hk];exact e⟩
theorem pd(o:Ord W π):(l8 W π).length=W.length:=by simp[l8,o.len]
theorem vA(o:Ord W π){k:Nat}(hk:k < W.length):aI (l8 W π) k=Mj (aI W (π.getD k 0)):=by
 have h:k < π.length:=by rw[o.len];exact hk
 simp[aI,l8,h,zG]
theorem IH(b:Bool)(w:Wy):br (!b) (Mj w)=br b w:=by cases b<;>rfl
theorem IS(b:Bool)(w:Wy):cg (!b) (Mj w)=cg b w:=by cases b<;>rfl
theorem Ord.ris(o:Ord W π):vP (l8 W π):=by
 unfold vP l8
 rw[List.pairwise_map]
 exact o.up
theorem Ky(h:vP W){i j:Nat}(hi:i < W.length)(hj:j < W.length)(e:(aI W i).1 < (aI W j).1\/((aI W i).1=(aI W j).1/\(aI W i).2.1 < (aI W j).2.1)):i < j:=by
 rcases Nat.lt_or_ge i j with q|q
 ·exact q
 ·exfalso
  rcases Nat.eq_or_lt_of_le q with q|q
  ·subst q;omega
  ·have:=List.pairwise_iff_getElem.mp h j i hj hi q
   rw[i8 hi,i8 hj] at this
   omega
theorem yw{l:List Nat}{n:Nat}(p:l.Perm (List.range n))(h:l.Pairwise (· < ·)):l=List.range n:=by
 refine ir (fun i=>((i:Nat):Int)) p (h.imp fun {a b} q=>by omega) (List.pairwise_lt_range.imp fun {a b} q=>by omega)
theorem map_getD(l:List Nat):(List.range l.length).map (fun k=>l.getD k 0)=l:=by
 apply List.ext_getElem
 ·simp
 ·intro i h1 h2
  simp[h2]
theorem Ord.back(h:vP W)(o:Ord W π)(o':Ord (l8 W π) π'):π'.map (fun k=>π.getD k 0)=List.range W.length:=by
 have hl:(l8 W π).length=W.length:=pd o
 refine yw ?_ ?_
 ·have:=(o'.perm.map fun k=>π.getD k 0)
  rw[hl,<- o.len,map_getD] at this
  exact this.trans o.perm
 ·rw[List.pairwise_map]
  refine o'.up.imp_of_mem fun {i j} hi hj q=>?_
  have hi':i < W.length:=by have:=o'.perm.mem_iff.mp hi;rw[hl] at this;simpa using this
  have hj':j < W.length:=by have:=o'.perm.mem_iff.mp hj;rw[hl] at this;simpa using this
  rw[vA o hi',vA o hj'] at q
  exact Ky h (o.lt hi') (o.lt hj') q
theorem KH(o:Ord W π)(b:Bool)(p:Int):((own (!b) (l8 W π) p).map fun k=>π.getD k 0).Perm (own b W p):=by
 have hl:(l8 W π).length=W.length:=pd o
 have e:((own (!b) (l8 W π) p).map fun k=>π.getD k 0)=π.filter fun i=>decide (br b (aI W i)=p):=by
  conv=>rhs;rw[<- map_getD π,List.filter_map,o.len]
  unfold own
  rw[hl]
  congr 1
  refine List.filter_congr fun k hk=>?_
  have hk':k < W.length:=by simpa using hk
  rw[vA o hk',IH];rfl
 rw[e]
 exact o.perm.filter _
theorem FK(o:Ord W π)(b:Bool)(p:Int):(Mh (!b) (l8 W π) p).Perm (Mh b W p):=by
 have hl:(l8 W π).length=W.length:=pd o
 rw[<- kO,<- kO]
 have:=(KH o b p).map fun i=>cg b (aI W i)
 rw[zM] at this
 refine List.Perm.trans (List.Perm.of_eq ?_) this
 refine yI fun k hk=>?_
 have hk':k < W.length:=by have:=(cP.mp hk).1;rwa [hl] at this
 show cg (!b) (aI (l8 W π) k)=cg b (aI W (π.getD k 0))
 rw[vA o hk',IS]
theorem Ord.wd(h:Wd G T W)(o:Ord W π):Wd T G (l8 W π) where
 g1:=h.t1
 g4:=h.t4
 t1:=h.g1
 t4:=h.g4
 ga:=h.ta
 ta:=h.ga
 gl:=fun i p e=>(h.tl i p e).trans (FK o true i).symm
 tl:=fun i p e=>(h.gl i p e).trans (FK o false i).symm
 wr:=fun w hw=>by
  obtain⟨i,hi,rfl⟩:=zQ.mp hw
  have hi':i < W.length:=by have:=o.perm.mem_iff.mp hi;simpa using this
  have:=h.wr (aI W i) (by rw[<- i8 hi'];exact List.getElem_mem _)
  exact⟨this.2.1,this.1,this.2.2⟩
 wp:=o.ris
 wl:=by rw[pd o];exact h.wl
noncomputable def rm(b:Bool)(W:List Wy)(P:List Int)(p:Int):Int:=((own b W p).map fun i=>P.getD i 0).sum
theorem E3{l m:List Int}(p:l.Perm m):l.sum=m.sum:=by
 induction p with
 | nil=>rfl
 | cons x _ ih=>simp[ih]
 | swap x y l=>simp only[List.sum_cons];omega
 | trans _ _ h1 h2=>exact h1.trans h2
end
noncomputable def rK(L:List Int)(x:Int):Nat:=L.findIdx fun o=>decide (o=x)
noncomputable def BA(b:Bool)(G T:List Pl)(W:List Wy)(P:List Int)(k:Nat):Bool :=
 decide (rm b W P (br b (aI W k)) < (cQ b G T (br b (aI W k)).toNat).1) ||
 ((cQ b G T (br b (aI W k)).toNat).2.drop (rK (cQ b G T (br b (aI W k)).toNat).2 (cg b (aI W k))+1)).any fun o=>decide (0 < P.getD (qF b W (br b (aI W k)) o) 0)
noncomputable def oF(G T:List Pl)(W:List Wy)(P:List Int)(k:Nat):Nat :=
 if P.getD k 0=(aI W k).2.2 then 0 else if BA false G T W P k=false then 1 else if BA true G T W P k=false then 2 else 3
noncomputable def Dm(G T:List Pl)(W:List Wy)(P:List Int):List Nat:=(List.range W.length).filter fun k=>decide (oF G T W P k=3)
section
variable {W:List Wy}{π π':List Nat}{P:List Int}{G T:List Pl}
theorem Wd.end_pl(h:Wd G T W)(b:Bool){k:Nat}(hk:k < W.length):0<=br b (aI W k)/\(br b (aI W k)).toNat < (bR b G T).length/\((br b (aI W k)).toNat:Int)=br b (aI W k):=by
 have:=h.wr (aI W k) (by rw[<- i8 hk];exact List.getElem_mem _)
 cases b
 ·simp only[br,bR,Bool.false_eq_true,if_false];omega
 ·simp only[br,bR,if_true];omega
structure Pn(G T:List Pl)(W:List Wy)(P:List Int):Prop where
 len:P.length=W.length
 bd:∀k,k < W.length->0<=P.getD k 0/\P.getD k 0<=(aI W k).2.2
 am:∀ (b:Bool) (i:Nat),i < (bR b G T).length->rm b W P i<=(cQ b G T i).1
end
section
variable {W:List Wy}{G T:List Pl}{off:List Int}
theorem AE(h:Wd G T W)(b:Bool):∀ (n:Nat),n<=(bR b G T).length ->
  ((List.range n).foldl (w4 b G T W off) (List.replicate W.length 0)).length=W.length/\∀k,k < W.length ->
   ((List.range n).foldl (w4 b G T W off) (List.replicate W.length 0)).getD k 0=if br b (aI W k) < n then (rl W off (cQ b G T (br b (aI W k)).toNat).1 (fJ b W (br b (aI W k)).toNat (cQ b G T (br b (aI W k)).toNat).2)).getD k 0 else 0
 | 0,_=>by
  refine⟨by simp,fun k hk=>?_⟩
  obtain⟨h1,_,_⟩:=h.end_pl b hk
  rw[if_neg (by omega)]
  simp[zG,hk]
 | n+1,hn=>by
  obtain⟨h1,h2⟩:=AE h b n (by omega)
  rw[List.range_succ,List.foldl_append,yJ,List.foldl_nil]
  generalize (List.range n).foldl (w4 b G T W off) (List.replicate W.length 0)=s at h1 h2
  refine⟨oZ h1,fun k hk=>?_⟩
  have hz:(w4 b G T W off s n).getD k 0=s.getD k 0+(rl W off (cQ b G T n).1 (fJ b W n (cQ b G T n).2)).getD k 0:=xM (by omega) (by rw[uO];exact hk)
  rw[hz,h2 k hk]
  obtain⟨g1,_,_⟩:=h.end_pl b hk
  have e:=nH (b:=b) (G:=G) (T:=T) (i:=n) (by omega)
  by_cases he:br b (aI W k)=n
  ·have hn':(br b (aI W k)).toNat=n:=by omega
   rw[if_neg (by omega),if_pos (by omega),hn']
   omega
  ·have hni:k∉fJ b W n (cQ b G T n).2:=fun z=>he (cP.mp ((fw h e).mem_iff.mp z)).2
   rw[By hni]
   by_cases hlt:br b (aI W k) < n
   ·rw[if_pos hlt,if_pos (by omega)];omega
   ·rw[if_neg hlt,if_neg (by omega)];rfl
theorem EM(h:Wd G T W)(b:Bool){k:Nat}(hk:k < W.length):(aC b G T W off).getD k 0=(rl W off (cQ b G T (br b (aI W k)).toNat).1 (fJ b W (br b (aI W k)).toNat (cQ b G T (br b (aI W k)).toNat).2)).getD k 0:=by
 have:=(AE (off:=off) h b _ (Nat.le_refl _)).2 k hk
 obtain⟨_,h2,h3⟩:=h.end_pl b hk
 rw[if_pos (by omega)] at this
 exact this
theorem A7{amt:Int}:∀ (is:List Nat) (s:Int×List Int),is.Nodup->(∀i∈is,i < s.2.length/\s.2.getD i 0=0) ->
  ((is.foldl (lU W off) s).2.length=s.2.length)/\(is.map fun i=>(is.foldl (lU W off) s).2.getD i 0).sum=s.1 - (is.foldl (lU W off) s).1/\∀j,j∉is->(is.foldl (lU W off) s).2.getD j 0=s.2.getD j 0
 | [],s,_,_=>⟨rfl,by simp,fun _ _=>rfl⟩
 | i::is,s,hn,hz=>by
  rw[List.nodup_cons] at hn
  obtain⟨hi,h0⟩:=hz i zE
  have hs:∀j∈is,j < (lU W off s i).2.length/\(lU W off s i).2.getD j 0=0:=fun j hj=>by
   obtain⟨a,b⟩:=hz j (zC _ hj)
   refine⟨by simpa [lU] using a,?_⟩
   simp only[lU,bp]
   have hne:¬ (i=j/\j < s.2.length):=fun z=>hn.1 (z.1 ▸ hj)
   rw[if_neg hne,b]
  obtain⟨r1,r2,r3⟩:=A7 (amt:=amt) is (lU W off s i) hn.2 hs
  rw[yJ]
  refine⟨by rw[r1];simp[lU],?_,fun j hj=>?_⟩
  ·rw[zI,List.sum_cons,r2,r3 i hn.1]
   simp only[lU,bp]
   rw[if_pos ⟨trivial,hi⟩]
   omega
  ·rw[r3 j fun z=>hj (zC _ z)]
   simp only[lU,bp]
   have hne:¬ (i=j/\j < s.2.length):=fun z=>hj (z.1 ▸ zE)
   rw[if_neg hne]
theorem yo(ho:Off off)(hl:NY W):∀ (is:List Nat) (s:Int×List Int),0<=s.1->0<=(is.foldl (lU W off) s).1
 | [],s,h=>h
 | i::is,s,h=>by
  rw[yJ]
  refine yo ho hl is _ ?_
  simp only[lU,cV]
  have:=ho i;have:=hl i
  omega
theorem Ha(h:Wd G T W)(ho:Off off){b:Bool}{i:Nat}(hi:i < (bR b G T).length) :
  ((own b W i).map fun k=>(rl W off (cQ b G T i).1 (fJ b W i (cQ b G T i).2)).getD k 0).sum<=(cQ b G T i).1:=by
 have e:=nH hi
 have pm:=fw h e
 rw[<- E3 (pm.map fun k=>(rl W off (cQ b G T i).1 (fJ b W i (cQ b G T i).2)).getD k 0)]
 have hn:(fJ b W i (cQ b G T i).2).Nodup:=pm.nodup_iff.mpr (List.nodup_range.filter _)
 obtain⟨_,r2,_⟩:=A7 (W:=W) (off:=off) (amt:=0) (fJ b W i (cQ b G T i).2) ((cQ b G T i).1,List.replicate W.length 0) hn fun k hk=>by
  have hk':=(cP.mp (pm.mem_iff.mp hk)).1
  refine⟨by simpa using hk',by simp[zG,hk']⟩
 have:=yo ho h.lim (fJ b W i (cQ b G T i).2) ((cQ b G T i).1,List.replicate W.length 0) (h.amt b i)
 unfold rl
 rw[r2]
 show (cQ b G T i).1 - _<=(cQ b G T i).1
 omega
theorem A4(h:Wd G T W)(ho:Off off){b:Bool}{i:Nat}(hi:i < (bR b G T).length):rm b W (aC b G T W off) i<=(cQ b G T i).1:=by
 refine Int.le_trans (Int.le_of_eq ?_) (Ha h ho hi)
 unfold rm
 congr 1
 refine yI fun k hk=>?_
 obtain⟨hk',he⟩:=cP.mp hk
 have:=EM (off:=off) h b hk'
 rw[he,yH] at this
 exact this
theorem CP{b:Bool}{P Q:List Int}{p:Int}(h:∀k,k < W.length->P.getD k 0=Q.getD k 0):rm b W P p=rm b W Q p:=by
 unfold rm
 congr 1
 exact yI fun k hk=>h k (cP.mp hk).1
theorem AR(h:Wd G T W){c:List Int}(ho:Off c)(hc:∀k,k < W.length->c.getD k 0<=(aI W k).2.2)(e:kY G T W c=none):Pn G T W (aC false G T W c) where
 len:=bT _ _ _ _ _
 bd:=fun k hk=>⟨gK h ho false k,Int.le_trans (yx h ho false hk) (hc k hk)⟩
 am:=fun b i hi=>by
  cases b
  ·exact A4 h ho hi
  ·have hke:∀k,k < W.length->(cE G T W c).getD k 0=(aC false G T W c).getD k 0:=fun k hk=>by
    have h1:=yx h (gK h ho false) true hk
    have h2:qR G T W c k=false:=by
     unfold kY at e
     rw[Option.map_eq_none_iff] at e
     have:=List.find?_eq_none.mp e k (by simpa using hk)
     simpa using this
    unfold qR at h2
    have h3:=of_decide_eq_false h2
    unfold cE at h3 ⊢
    omega
   rw[<- CP hke]
   exact A4 h (gK h ho false) hi
end
noncomputable def KL(G T:List Pl)(W:List Wy)(P:List Int):Bool :=
 ((List.range G.length).all fun i=>decide (rm false W P i<=(cQ false G T i).1))&&((List.range T.length).all fun i=>decide (rm true W P i<=(cQ true G T i).1))
noncomputable def zs(n:Nat):List Int:=List.replicate n 0
section
variable {W:List Wy}{G T:List Pl}{d:Nat->Int}
theorem D7{P:List Int}:KL G T W P=true↔∀ (b:Bool) (i:Nat),i < (bR b G T).length->rm b W P i<=(cQ b G T i).1:=by
 unfold KL
 rw[zF,List.all_eq_true,List.all_eq_true]
 constructor
 ·rintro⟨h1,h2⟩ b i hi
  cases b
  ·exact of_decide_eq_true (h1 i (by simpa [bR] using hi))
  ·exact of_decide_eq_true (h2 i (by simpa [bR] using hi))
 ·intro h
  exact⟨fun i hi=>yB (h false i (by simpa [bR] using hi)),fun i hi=>yB (h true i (by simpa [bR] using hi))⟩
theorem Pn.fit{P:List Int}(p:Pn G T W P):KL G T W P=true:=D7.mpr p.am
end
theorem tO{tt:Dl.Env->Option Bool}{te:Dl.Env->Option D}{r:List (Option D)}{x y h:Nat->D}{p:Nat->Bool}:∀ (is:List Nat),
  (∀i∈is,tt (some (x i)::some (y i)::r)=some (p i)/\(p i=true->te (some (x i)::some (y i)::r)=some (h i))) ->
  cx (gN 0 1) tt te (none::none::r) (is.map fun i=>.tuple [x i,y i])=some ((is.filter p).map h)
 | [],_=>rfl
 | i::is,hh=>by
  obtain⟨h1,h2⟩:=hh i zE
  have ih:=tO is fun j hj=>hh j (zC _ hj)
  have hg:gN 0 1 (none::none::r) (.tuple [x i,y i])=some (some (x i)::some (y i)::r):=by
   simp only[gN,isFree,List.getElem?_cons_zero,List.getElem?_cons_succ,Option.getD_some,Option.isNone_none,and_self,if_true,List.set_cons_zero,List.set_cons_succ]
  rw[zI,cx,hg]
  simp only[zA,h1]
  cases hp:p i with
  | true=>simp[h2 hp,ih,hp]
  | false=>simp[ih,hp]
theorem ma{cs:List Nat}{fi:Dl.Env->Option (List D)}{tt:Dl.Env->Option Bool}{te:Dl.Env->Option D}{ρ:Dl.Env}{n:Nat}{x y h:Nat->D}{p:Nat->Bool}(hfi:fi ρ=some ((List.range n).map fun i=>.tuple [x i,y i]))(hl:n<=1000)
  (hh:∀i,i < n->tt (some (x i)::some (y i)::cs.map fun j=>(ρ[j]?).getD none)=some (p i)/\(p i=true->te (some (x i)::some (y i)::cs.map fun j=>(ρ[j]?).getD none)=some (h i))) :
  ao 2 cs fi (gN 0 1) tt te ρ=some (((List.range n).filter p).map h):=by
 have:=tO (tt:=tt) (te:=te) (r:=cs.map fun j=>(ρ[j]?).getD none) (p:=p) (h:=h) (List.range n) fun i hi=>hh i (by simpa using hi)
 simp only[ao,hfi,zA,eG,List.replicate,List.cons_append,List.nil_append,this]
 refine bc ?_
 rw[zD]
 refine yE (List.length_filter_le _ _) ?_
 rw[zS]
 omega
theorem tG{W:List Wy}{P:List Int}(h:P.length=W.length):ja (W.map ar) (P.map PyData.int)=(List.range W.length).map fun i=>.tuple [ar (aI W i),.int (P.getD i 0)]:=by
 apply List.ext_getElem?
 intro i
 by_cases hi:i < W.length
 ·have hz:i < (ja (W.map ar) (P.map PyData.int)).length:=by rw[l9];simp[h];exact hi
  rw[zK hz]
  obtain⟨x,y,e1,e2,e3⟩:=p7 (zK hz)
  rw[zO,mO hi] at e1
  rw[zO,zK (by omega)] at e2
  cases e1
  have e2:PyData.int P[i]=y:=by simpa using e2
  rw[e3,<- e2]
  have:i < P.length:=by omega
  simp[hi,this,zG]
 ·rw[List.getElem?_eq_none (by rw[l9];simp;omega),List.getElem?_eq_none (by simp;omega)]
def Sm(P:List Int):Prop:=∀k,-1000000<=P.getD k 0/\P.getD k 0<=1000000
theorem Ii{W:List Wy}{P:List Int}(hs:Sm P)(hw:W.length<=16)(b:Bool)(p:Int):Le ((own b W p).map fun i=>P.getD i 0)=true:=by
 unfold Le
 rw[zF,zJ,List.all_eq_true]
 refine⟨?_,fun x hx=>?_⟩
 ·have:=vn b W p
  rw[zD]
  omega
 ·obtain⟨i,_,rfl⟩:=zQ.mp hx
  rw[zF,zJ,zJ]
  exact hs i
theorem tM{G T:List Pl}{W:List Wy}(h:Wd G T W){P:List Int}(hp:P.length=W.length)(hs:Sm P)(b:Bool)(p:Int):dh [ax G T W,af P,.int (sI b),.int p]=some (.int (rm b W P p)):=by
 have hw:=h.wl
 refine aH ?_
 show m5 [.val (ax G T W),.val (af P),.val (.int (sI b)),.val (.int p)]=_
 have hz:gh (aa (f2 av (ab 0) (fC (.int 2))) (aa (ab 1) ae)) [some (ax G T W),some (af P),some (.int (sI b)),some (.int p)]=some ((List.range W.length).map fun i=>.tuple [ar (aI W i),.int (P.getD i 0)]):=by
  rw[<- tG hp]
  rfl
 have c:ao 2 [2,3] (gh (aa (f2 av (ab 0) (fC (.int 2))) (aa (ab 1) ae))) (gN 0 1) (fB (f2 cf (f2 av (ab 0) (ab 2)) (ab 3))) (ab 1) [some (ax G T W),some (af P),some (.int (sI b)),some (.int p)]=some ((own b W p).map fun i=>.int (P.getD i 0)):=by
  rw[ma (p:=fun i=>decide (br b (aI W i)=p)) (h:=fun i=>.int (P.getD i 0)) hz (by omega) fun i hi=>⟨?_,fun _=>rfl⟩]
  ·rfl
  ·show fB (f2 cf (f2 av (ab 0) (ab 2)) (ab 3)) [some (ar (aI W i)),some (.int (P.getD i 0)),some (.int (sI b)),some (.int p)]=_
   exact bo (by rw[jB (a:=.int (br b (aI W i))) (b:=.int p) (aw (u9 b _) rfl rfl) rfl,fx])
 refine aJ ?_
 have e:((own b W p).map fun i=>PyData.int (P.getD i 0))=((own b W p).map fun i=>P.getD i 0).map PyData.int:=by rw[zM];rfl
 show bf Cw (aa (bZ (ao 2 [2,3] (gh (aa (f2 av (ab 0) (fC (.int 2))) (aa (ab 1) ae))) (gN 0 1) (fB (f2 cf (f2 av (ab 0) (ab 2)) (ab 3))) (ab 1))) ae) [some (ax G T W),some (af P),some (.int (sI b)),some (.int p)]=_
 rw[e] at c
 simp only[bf,aa,ae,bZ,c,zB,zA]
 show Cw [.list (((own b W p).map fun i=>P.getD i 0).map PyData.int)]=_
 simp only[Cw,dO,oneOf,iI,zA,dM,Ii hs hw b p,if_true]
 rfl
theorem yV(L:List Pl):bJ 0 (L.map bU)=(List.range L.length).map fun i=>.tuple [nD i,bU (L.getD i (0,[]))]:=by
 rw[enum_zip]
 apply List.ext_getElem
 ·simp
 ·intro i h1 h2
  have:i < L.length:=by simpa using h2
  simp[this,zG]
theorem nq{p:Nat->Bool}(is:List Nat):jo [.list (is.map fun i=>.bool (p i))]=some (.bool (is.all p)):=by
 have:∀is:List Nat,boolsOf (is.map fun i=>PyData.bool (p i))=some (is.map p):=fun is=>by
  induction is with
  | nil=>rfl
  | cons i is ih=>simp[boolsOf,ih]
 simp only[jo,oneOf,zA,this,zB,List.all_map]
 rfl
theorem BC{G T:List Pl}{W:List Wy}(h:Wd G T W){P:List Int}(hp:P.length=W.length)(hs:Sm P)(b:Bool):cF [ax G T W,af P,.int (sI b)]=some (.bool ((List.range (bR b G T).length).all fun i=>decide (rm b W P i<=(cQ b G T i).1))):=by
 have hl:=h.pl b
 refine aH ?_
 show fK [.val (ax G T W),.val (af P),.val (.int (sI b))]=_
 have he:bV (aa (f2 av (ab 0) (ab 2)) ae) [some (ax G T W),some (af P),some (.int (sI b))]=some ((List.range (bR b G T).length).map fun i=>.tuple [nD i,bU (cQ b G T i)]):=by
  have:=yV (bR b G T)
  unfold cQ
  rw[<- this]
  cases b<;>rfl
 have c:=ma (cs:=[0,1,2]) (tt:=fun _=>some true) (te:=f2 tq (ah 4 dh (aa (ab 2) (aa (ab 3) (aa (ab 4) (aa (ab 0) ae))))) (f2 av (ab 1) (fC (.int 0)))) (p:=fun _=>true) (h:=fun i=>.bool (decide (rm b W P i<=(cQ b G T i).1))) he (by omega) fun i hi=>⟨rfl,fun _=>aw (a:=.int (rm b W P i)) (b:=.int (cQ b G T i).1) rfl (call_of (tM h hp hs b i) rfl rfl) rfl⟩
 refine aJ ?_
 show bf jo (aa (bZ (ao 2 [0,1,2] (bV (aa (f2 av (ab 0) (ab 2)) ae)) (gN 0 1) (fun _=>some true) (f2 tq (ah 4 dh (aa (ab 2) (aa (ab 3) (aa (ab 4) (aa (ab 0) ae))))) (f2 av (ab 1) (fC (.int 0)))))) ae) [some (ax G T W),some (af P),some (.int (sI b))]=_
 simp only[bf,aa,ae,bZ,c,zB,zA]
 rw[show (List.range (bR b G T).length).filter (fun _=>true)=List.range (bR b G T).length by simp,nq]
theorem qA{fa fb:Dl.Env->Option D}{ρ:Dl.Env}{d:D}(ha:fa ρ=some (.bool true))(hb:fb ρ=some d):iO fa fb ρ=some d:=by
 simp only[iO,ha,zA,hb]
theorem Jb{fa fb:Dl.Env->Option D}{ρ:Dl.Env}(ha:fa ρ=some (.bool false)):iO fa fb ρ=some (.bool false):=by
 simp only[iO,ha,zA]
theorem A3{fa fb:Dl.Env->Option D}{ρ:Dl.Env}{a b:Bool}(ha:fa ρ=some (.bool a))(hb:fb ρ=some (.bool b)):iO fa fb ρ=some (.bool (a&&b)):=by
 cases a
 ·exact Jb ha
 ·exact qA ha hb
theorem qo{g:List D->Option D}{f:Dl.Env->Option D}{ρ:Dl.Env}{d:D}(h:f ρ=some d):bf g (aa f ae) ρ=g [d]:=by
 simp only[bf,aa,ae,h,zB,zA]
theorem pV{α:Type}{k:α->D}{f:Dl.Env->Option D}{ρ:Dl.Env}{l:List α}(h:f ρ=some (.tuple (l.map k))):bf bq (aa f ae) ρ=some (nD l.length):=by
 rw[qo h,Bi,zD]
noncomputable def NF(W:List Wy)(P:List Int):Bool:=(List.range W.length).all fun k=>decide (0<=P.getD k 0)&&decide (P.getD k 0<=(aI W k).2.2)
noncomputable def NV(b:Bool)(G T:List Pl)(W:List Wy)(P:List Int):Bool:=(List.range (bR b G T).length).all fun i=>decide (rm b W P i<=(cQ b G T i).1)
noncomputable def KE(G T:List Pl)(W:List Wy)(P:List Int):Bool:=NF W P&&(NV false G T W P&&NV true G T W P)
theorem vB{G T:List Pl}{W:List Wy}{P:List Int}(hp:P.length=W.length):KE G T W P=true↔Pn G T W P:=by
 simp only[KE,NF,NV,zF,List.all_eq_true,zT,zJ]
 constructor
 ·rintro⟨h1,h2,h3⟩
  exact⟨hp,h1,fun b=>by cases b<;>assumption⟩
 ·intro p
  exact⟨p.bd,p.am false,p.am true⟩
theorem LM(P:List Int):nZ (af P)=true:=rfl
theorem tP{G T:List Pl}{W:List Wy}(h:Wd G T W){P:List Int}(hp:P.length=W.length)(hs:Sm P):da [ax G T W,af P]=some (.bool (KE G T W P)):=by
 have hw:=h.wl
 have hlen:(P.map PyData.int).length=W.length:=by rw[zD,hp]
 refine aH ?_
 show kr [.val (ax G T W),.val (af P),.non]=_
 unfold kr
 have t1:Dl.ay 2 [0] (f2 av (ab 0) (fC (.int 2))) [.val (ax G T W),.val (af P),.non]=some (.nx [.val (ax G T W),.val (af P),.val (.tuple (W.map ar))]):=cm (d:=.tuple (W.map ar)) rfl rfl rfl rfl
 rw[ai t1]
 have el:aU [af P,nD W.length,nD W.length]=some (.bool true):=by
  rw[show nD W.length=.int ((W.length:Nat):Int) from rfl,dU (LM P)]
  simp[long,af,hp]
 have hl:∀ρ:Dl.Env,ab 2 ρ=some (.tuple (W.map ar))->bf bq (aa (ab 2) ae) ρ=some (nD W.length):=fun ρ hr=>pV hr
 have c1:(aX (fB (ah 3 aU (aa (ab 1) (aa (bf bq (aa (ab 2) ae)) (aa (bf bq (aa (ab 2) ae)) ae)))))) (bg [.val (ax G T W),.val (af P),.val (.tuple (W.map ar))])=some false :=
  bK (bo (call_of el (cons_of rfl (cons_of (hl _ rfl) (cons_of (hl _ rfl) rfl))) rfl))
 rw[ai (bS c1)]
 have hz:gh (aa (ab 2) (aa (ab 1) ae)) [some (ax G T W),some (af P),some (.tuple (W.map ar))]=some ((List.range W.length).map fun i=>.tuple [ar (aI W i),.int (P.getD i 0)]):=by
  rw[<- tG hp]
  rfl
 have c2:=ma (cs:=[]) (tt:=fun _=>some true) (te:=ah 3 aK (aa (ab 1) (aa (fC (.int 0)) (aa (f2 av (ab 0) (fC (.int 2))) ae)))) (p:=fun _=>true) (h:=fun k=>.bool (decide (0<=P.getD k 0)&&decide (P.getD k 0<=(aI W k).2.2))) hz (by omega)
  fun i hi=>⟨rfl,fun _=>call_of (eO (d:=.int (P.getD i 0)) rfl 0 (aI W i).2.2) rfl rfl⟩
 have hall:(fB (bf jo (aa (bZ (ao 2 [] (gh (aa (ab 2) (aa (ab 1) ae))) (gN 0 1) (fun _=>some true) (ah 3 aK (aa (ab 1) (aa (fC (.int 0)) (aa (f2 av (ab 0) (fC (.int 2))) ae)))))) ae))) [some (ax G T W),some (af P),some (.tuple (W.map ar))]=some (NF W P):=by
  refine bo ?_
  simp only[bf,aa,ae,bZ,c2,zB,zA]
  rw[show (List.range W.length).filter (fun _=>true)=List.range W.length by simp,nq]
  rfl
 have k0:=BC h hp hs false
 have k1:=BC h hp hs true
 cases hb:NF W P with
 | false =>
  rw[hb] at hall
  refine iq ((eW (bK hall)).trans ?_)
  rw[KE,hb]
  exact aJ rfl
 | true =>
  rw[hb] at hall
  rw[ai (bS (bK hall)),KE,hb,Bool.true_and]
  exact aJ (A3 (call_of k0 rfl rfl) (call_of k1 rfl rfl))
theorem u3{W:List Wy}{k:Nat}(hk:k < W.length):aI W k∈W:=i8 hk ▸ List.getElem_mem hk
theorem Pn.smP{G T:List Pl}{W:List Wy}(h:Wd G T W){P:List Int}(p:Pn G T W P):Sm P:=fun k=>by
 by_cases hk:k < W.length
 ·have:=p.bd k hk
  have:=(h.wr _ (u3 hk)).2.2.2
  omega
 ·rw[zG,List.getElem?_eq_none (by rw[p.len];omega)]
  simp
section
variable {G T:List Pl}{W:List Wy}{P:List Int}
theorem k8(h:Wd G T W)(p:Pn G T W P):da [ax G T W,af P]=some (.bool true):=by
 rw[tP h p.len (p.smP h),(vB p.len).mpr p]
theorem lY(h:Wd G T W)(p:Pn G T W P):dk [ax G T W,af P]=some .none:=by
 have:eD [.val (ax G T W),.val (af P)]=some (.nx [.val (ax G T W),.val (af P)]):=by
  unfold eD
  refine (ai (eB (call_of (bM h) rfl rfl))).trans ?_
  exact bS (bK (bo (call_of (k8 h p) rfl rfl)))
 show (eD [.val (ax G T W),.val (af P)]).map _=_
 rw[this]
 rfl
end
noncomputable def lV(W:List Wy)(i:Nat):List Int:=[(aI W i).2.1,(aI W i).1]
noncomputable def gW(W:List Wy):List (List Int):=(List.range W.length).map (lV W)
noncomputable def cR(W:List Wy):List Nat:=oS (fun i=>rk (gW W) ((gW W).getD i [])) (List.range W.length) 0
theorem DM(z:Nat->Int)(n:Nat):oS z ((List.range n).map nD) .none=(oS z (List.range n) 0).map nD:=by
 unfold oS
 rw[zD]
 split
 ·rfl
 ·rename_i h
  rw[zM]
  obtain⟨hp,_⟩:=SP.gU (z:=z) (n:=(List.range n).length) (by omega)
  refine yI fun i hi=>?_
  have hi':i < (List.range n).length:=by have:=hp.mem_iff.mp hi;simpa using this
  rw[zS] at hi'
  simp[hi']
theorem Ek{W:List Wy}{i:Nat}(hi:i < W.length):(gW W).getD i []=lV W i:=by
 simp[gW,hi]
theorem mL{W:List Wy}(h:vP W):Ord W (cR W) where
 perm:=gG _ _ _
 up:=by
  have hp:(cR W).Perm (List.range W.length):=gG _ _ _
  have hs:(cR W).Pairwise fun i j=>rk (gW W) (lV W i)<=rk (gW W) (lV W j):=by
   refine qp _ _ _ (fun i=>rk (gW W) (lV W i)) fun i hi=>?_
   rw[zS] at hi
   have e:(List.range W.length).getD i 0=i:=by simp[hi]
   show rk (gW W) ((gW W).getD i [])=rk (gW W) (lV W ((List.range W.length).getD i 0))
   rw[e,Ek hi]
  have hn:(cR W).Nodup:=hp.nodup_iff.mpr List.nodup_range
  refine (hs.and hn).imp_of_mem fun {i j} hi hj hij=>?_
  have hi':i < W.length:=by have:=hp.mem_iff.mp hi;simpa using this
  have hj':j < W.length:=by have:=hp.mem_iff.mp hj;simpa using this
  obtain⟨hle,hne⟩:=hij
  have mj:lV W j∈gW W:=zQ.mpr ⟨j,by simpa using hj',rfl⟩
  have n1:Dl.lexLt (lV W j) (lV W i)=false:=by
   rw[AB mj,decide_eq_false_iff_not]
   omega
  simp only[lV,HT.lexLt] at n1
  by_cases e1:(aI W j).2.1=(aI W i).2.1
  ·rw[if_pos e1] at n1
   by_cases e2:(aI W j).1=(aI W i).1
   ·exact absurd (uw h hj' hi' e2 e1).symm hne
   ·rw[if_neg e2,decide_eq_false_iff_not] at n1
    exact .inr ⟨e1.symm,by omega⟩
  ·rw[if_neg e1,decide_eq_false_iff_not] at n1
   exact .inl (by omega)
theorem tup_is{fs:Dl.Env->Option (List D)}{ρ:Dl.Env}{ds:List D}(h:fs ρ=some ds)(hl:ds.length<=1000):aS fs ρ=some (.tuple ds):=by
 simp only[aS,h,zA,bc (show ds.length<=4000 by omega),zB]
theorem N6(w:Wy):av (ar w) (.int 0)=some (.int w.1):=rfl
theorem Oo(w:Wy):av (ar w) (.int 1)=some (.int w.2.1):=rfl
section
variable {G T:List Pl}{W:List Wy}{P:List Int}
theorem jV(h:Wd G T W):ba [ax G T W]=some (.list ((cR W).map nD)):=by
 have hw:=h.wl
 have t1:Dl.ay 1 [0] (f2 av (ab 0) (fC (.int 2))) [.val (ax G T W),.non]=some (.nx [.val (ax G T W),.val (.tuple (W.map ar))]):=cm (d:=.tuple (W.map ar)) rfl rfl rfl rfl
 have hl:(bf bq (aa (ab 1) ae)) [some (ax G T W),some (.tuple (W.map ar))]=some (nD W.length):=pV (l:=W) (k:=ar) rfl
 have hk:iR (aS (aa (f2 av (f2 av (ab 1) (ab 0)) (fC (.int 1))) (aa (f2 av (f2 av (ab 1) (ab 0)) (fC (.int 0))) ae))) [none,some (.tuple (W.map ar))] ((List.range W.length).map nD)=some (((List.range W.length).map nD).map fun d=>af (lV W (iU d).toNat)):=by
  refine nV fun d hd=>?_
  obtain⟨j,hj,rfl⟩:=zQ.mp hd
  have hj':j < W.length:=by simpa using hj
  have a:∀ρ:Dl.Env,ab 1 ρ=some (.tuple (W.map ar))->ab 0 ρ=some (nD j)->(f2 av (ab 1) (ab 0)) ρ=some (ar (aI W j)):=fun ρ e1 e2=>aw (qa hj') e1 e2
  show aS (aa (f2 av (f2 av (ab 1) (ab 0)) (fC (.int 1))) (aa (f2 av (f2 av (ab 1) (ab 0)) (fC (.int 0))) ae)) [some (nD j),some (.tuple (W.map ar))]=_
  have c2:(aa (f2 av (f2 av (ab 1) (ab 0)) (fC (.int 1))) (aa (f2 av (f2 av (ab 1) (ab 0)) (fC (.int 0))) ae)) [some (nD j),some (.tuple (W.map ar))]=some [.int (aI W j).2.1,.int (aI W j).1] :=
   cons_of (aw (Oo (aI W j)) (a _ rfl rfl) rfl) (cons_of (aw (N6 (aI W j)) (a _ rfl rfl) rfl) rfl)
  rw[tup_is c2 (by simp)]
  simp[iU,lV,af]
 have hr:rowsOf (((List.range W.length).map nD).map fun d=>af (lV W (iU d).toNat))=some (gW W):=by
  have e:(((List.range W.length).map nD).map fun d=>af (lV W (iU d).toNat))=(gW W).map af:=by
   simp only[zM,gW]
   refine yI fun j hj=>?_
   simp[iU]
  rw[e,lH]
  intro ns hns
  obtain⟨j,_,rfl⟩:=zQ.mp hns
  exact List.cons_ne_nil _ _
 refine aH ?_
 show ek [.val (ax G T W),.non]=_
 unfold ek
 rw[ai t1]
 refine aJ ?_
 have es:pQ [1] (aa (bf bq (aa (ab 1) ae)) ae) (aS (aa (f2 av (f2 av (ab 1) (ab 0)) (fC (.int 1))) (aa (f2 av (f2 av (ab 1) (ab 0)) (fC (.int 0))) ae))) [some (ax G T W),some (.tuple (W.map ar))]=some ((cR W).map nD):=by
  unfold pQ
  rw[cons_of hl rfl,zA]
  show (if (0:Int)<=((W.length:Nat):Int)/\((W.length:Nat):Int) < 64 then _ else none)=_
  rw[if_pos ⟨by omega,by omega⟩,yH]
  show (iR _ [none,some (.tuple (W.map ar))] ((List.range W.length).map nD)).bind _=_
  rw[hk,zA,hr,zB]
  exact congrArg some (DM _ _)
 show bZ _ [some (ax G T W),some (.tuple (W.map ar))]=_
 simp only[bZ,es,zB]
theorem kN{cs:List Nat}{fi:Dl.Env->Option (List D)}{te:Dl.Env->Option D}{ρ:Dl.Env}{is:List Nat}{f:Nat->D}(hfi:fi ρ=some (is.map nD))(hl:is.length<=1000)(hh:∀i∈is,te (some (nD i)::cs.map fun j=>(ρ[j]?).getD none)=some (f i)):ao 1 cs fi (fG 0) (fun _=>some true) te ρ=some (is.map f):=by
 rw[bW (h:=fun d=>f (iU d).toNat) hfi (by rw[zD];omega) fun d hd=>?_]
 ·rw[zM]
  refine congrArg some (yI fun i _=>?_)
  simp[iU]
 ·obtain⟨i,hi,rfl⟩:=zQ.mp hd
  rw[hh i hi]
  simp[iU]
theorem mv{n:Nat}{m:List D->Option D}{fs:Dl.Env->Option (List D)}{ρ:Dl.Env}{ds es:List D}(h:m ds=some (.list es))(hf:fs ρ=some ds)(hn:ds.length=n):aR (ah n m fs) ρ=some es:=by
 simp only[aR,call_of h hf hn,zA,iI]
theorem AQ(h:vP W){i:Nat}(hi:i∈cR W):i < W.length:=by
 have:=(mL h).perm.mem_iff.mp hi
 simpa using this
theorem wR(h:vP W):(cR W).length=W.length:=(mL h).len
theorem og{r:List (Option D)}:∀ (l:List Wy),cx (Gy 0 1 2) (fun _=>some true) (aS (aa (ab 1) (aa (ab 0) (aa (ab 2) ae)))) (none::none::none::r) (l.map ar)=some ((l.map Mj).map ar)
 | []=>rfl
 | w::l=>by
  have ih:=og (r:=r) l
  have hg:Gy 0 1 2 (none::none::none::r) (ar w)=some (some (.int w.1)::some (.int w.2.1)::some (.int w.2.2)::r):=rfl
  rw[zI,cx,hg,zA]
  have e:aS (aa (ab 1) (aa (ab 0) (aa (ab 2) ae))) (some (.int w.1)::some (.int w.2.1)::some (.int w.2.2)::r)=some (ar (Mj w)):=rfl
  simp only[zA,if_true,e,ih,zB,zI]
theorem me(h:Wd G T W):fy [ax G T W]=some (ax T G (l8 W (cR W))):=by
 have hw:=h.wl
 have hn:=wR h.wp
 refine aH ?_
 show mn [.val (ax G T W),.non]=_
 unfold mn
 refine (ai (eB (call_of (bM h) rfl rfl))).trans ?_
 have c:ao 1 [0] (aR (ah 1 ba (aa (ab 0) ae))) (fG 0) (fun _=>some true) (f2 av (f2 av (ab 1) (fC (.int 2))) (ab 0)) [some (ax G T W),none]=some ((cR W).map fun i=>ar (aI W i)) :=
  kN (mv (jV h) rfl rfl) (by omega) fun i hi=>aw (qa (AQ h.wp hi)) rfl rfl
 have t2:aO 1 [0] (ao 1 [0] (aR (ah 1 ba (aa (ab 0) ae))) (fG 0) (fun _=>some true) (f2 av (f2 av (ab 1) (fC (.int 2))) (ab 0))) [.val (ax G T W),.non]=some (.nx [.val (ax G T W),.own ((cR W).map fun i=>ar (aI W i))]):=gg c rfl
 rw[ai t2]
 refine aJ ?_
 have e3:ao 3 [] (aR (ab 1)) (Gy 0 1 2) (fun _=>some true) (aS (aa (ab 1) (aa (ab 0) (aa (ab 2) ae)))) [some (ax G T W),some (.list ((cR W).map fun i=>ar (aI W i)))]=some ((l8 W (cR W)).map ar):=by
  have:=og (r:=[]) ((cR W).map fun i=>aI W i)
  rw[zM,zM] at this
  have hf:aR (ab 1) [some (ax G T W),some (.list ((cR W).map fun i=>ar (aI W i)))]=some ((cR W).map fun i=>ar (aI W i)):=rfl
  unfold ao
  rw[hf,zA]
  show (cx (Gy 0 1 2) (fun _=>some true) (aS (aa (ab 1) (aa (ab 0) (aa (ab 2) ae)))) [none,none,none] ((cR W).map fun i=>ar (aI W i))).bind small=_
  rw[show ((cR W).map fun i=>ar (aI W i))=List.map (ar ∘ fun i=>aI W i) (cR W) from rfl,this,zA]
  rw[bc (by simp;omega),l8]
  simp only[zM]
  rfl
 show aS (aa (f2 av (ab 0) (fC (.int 1))) (aa (f2 av (ab 0) (fC (.int 0))) (aa (bf bQ (aa (bZ (ao 3 [] (aR (ab 1)) (Gy 0 1 2) (fun _=>some true) (aS (aa (ab 1) (aa (ab 0) (aa (ab 2) ae)))))) ae)) ae))) [some (ax G T W),some (.list ((cR W).map fun i=>ar (aI W i)))]=_
 have e4:(bf bQ (aa (bZ (ao 3 [] (aR (ab 1)) (Gy 0 1 2) (fun _=>some true) (aS (aa (ab 1) (aa (ab 0) (aa (ab 2) ae)))))) ae)) [some (ax G T W),some (.list ((cR W).map fun i=>ar (aI W i)))]=some (.tuple ((l8 W (cR W)).map ar)):=by
  simp only[bf,aa,ae,bZ,e3,zB,zA,Gp]
 exact tup_is (ds:=[.tuple (T.map bU),.tuple (G.map bU),.tuple ((l8 W (cR W)).map ar)]) (cons_of (aw (a:=ax G T W) (b:=.int 1) (c:=.tuple (T.map bU)) rfl rfl rfl) (cons_of (aw (a:=ax G T W) (b:=.int 0) (c:=.tuple (G.map bU)) rfl rfl rfl) (cons_of e4 rfl))) (by simp)
theorem ll(h:Wd G T W)(p:Pn G T W P):b8 [ax G T W,af P]=some (af (NB P (cR W))):=by
 have hw:=h.wl
 have hn:=wR h.wp
 refine aH ?_
 show eV [.val (ax G T W),.val (af P)]=_
 unfold eV
 refine (ai (eB (call_of (lY h p) rfl rfl))).trans ?_
 have c:ao 1 [1] (aR (ah 1 ba (aa (ab 0) ae))) (fG 0) (fun _=>some true) (f2 av (ab 1) (ab 0)) [some (ax G T W),some (af P)]=some ((cR W).map fun i=>.int (P.getD i 0)) :=
  kN (mv (jV h) rfl rfl) (by omega) fun i hi=>aw (gu (by rw[p.len];exact AQ h.wp hi)) rfl rfl
 refine aJ ?_
 show bf bQ (aa (bZ (ao 1 [1] (aR (ah 1 ba (aa (ab 0) ae))) (fG 0) (fun _=>some true) (f2 av (ab 1) (ab 0)))) ae) [some (ax G T W),some (af P)]=_
 simp only[bf,aa,ae,bZ,c,zB,zA,Gp]
 simp[af,NB]
end
theorem GO{f g:Dl.Env->Option D}{ρ:Dl.Env}{ds:List D}{k:Nat}(h:f ρ=some (.list ds))(h2:g ρ=some (nD k)):kb fA f (wt g) j1 ρ=some (.list (ds.drop k)):=by
 have:=vX ds k
 simp only[kb,h,wt,h2,j1,gI,fA,zA,zB,this]
theorem BY{p:Nat->Bool}(is:List Nat):Rf.Fj [.list (is.map fun i=>.bool (p i))]=some (.bool (is.any p)):=by
 have:∀is:List Nat,boolsOf (is.map fun i=>PyData.bool (p i))=some (is.map p):=fun is=>by
  induction is with
  | nil=>rfl
  | cons i is ih=>simp[boolsOf,ih]
 simp only[Rf.Fj,oneOf,zA,this,zB,List.any_map]
 rfl
theorem mh{α β:Type}(f:α->β)(p:β->Bool)(q:α->Bool):∀ (l:List α),(∀x∈l,p (f x)=q x)->(l.map f).findIdx p=l.findIdx q
 | [],_=>rfl
 | x::l,h=>by
  rw[zI,List.findIdx_cons,List.findIdx_cons,h x zE,mh f p q l fun y hy=>h y (zC _ hy)]
section
variable {G T:List Pl}{W:List Wy}{P:List Int}
theorem Ku(h:Wd G T W){b:Bool}{i:Nat}{p:Pl}(e:(bR b G T)[i]?=some p){k:Nat}(hk:k < W.length)(he:br b (aI W k)=i):oC (.list ((fJ b W i p.2).map nD)) (nD k)=some (nD (rK p.2 (cg b (aI W k)))):=by
 have ko:k∈own b W i:=cP.mpr ⟨hk,he⟩
 have km:k∈fJ b W i p.2:=(fw h e).mem_iff.mpr ko
 have e1:(fJ b W i p.2).map nD=((fJ b W i p.2).map fun j=>((j:Nat):Int)).map PyData.int:=by rw[zM];rfl
 have m1:((k:Nat):Int)∈(fJ b W i p.2).map fun j=>((j:Nat):Int):=zQ.mpr ⟨k,km,rfl⟩
 rw[e1]
 show (intsOf _).bind _=_
 rw[dM,zA,mY m1,zB]
 have e2:((fJ b W i p.2).map fun j=>((j:Nat):Int)).findIdx (fun o=>decide (o=((k:Nat):Int)))=rK p.2 (cg b (aI W k)):=by
  unfold fJ rK
  rw[zM]
  refine mh _ _ _ _ fun x hx=>?_
  obtain⟨hl,h1,h2⟩:=uE h e hx
  show decide (((qF b W i x:Nat):Int)=(k:Int))=decide (x=cg b (aI W k))
  rw[decide_eq_decide]
  constructor
  ·intro z
   have z:qF b W i x=k:=by omega
   rw[<- z,h2]
  ·intro z
   rw[z,vN h.wp ko]
 rw[e2]
theorem mI(h:Wd G T W)(hp:P.length=W.length)(hs:Sm P)(b:Bool){k:Nat}(hk:k < W.length):cA [ax G T W,af P,.int (sI b),nD k]=some (.bool (BA b G T W P k)):=by
 have hw:=h.wl
 obtain⟨z1,z2,z3⟩:=h.end_pl b hk
 have hx:(bR b G T)[(br b (aI W k)).toNat]?=some (cQ b G T (br b (aI W k)).toNat):=by
  rw[zK z2]
  simp[cQ,z2]
 have hL:∀x∈(cQ b G T (br b (aI W k)).toNat).2,_:=fun x hx'=>uE h hx hx'
 have hb:(cQ b G T (br b (aI W k)).toNat).2.length<=16:=by
  have:=(fw h hx).length_eq
  have h2:=vn b W ((br b (aI W k)).toNat:Int)
  unfold fJ at this
  rw[zD] at this
  omega
 have ei:=Ku h hx hk z3.symm
 have ew:=sT h hx
 generalize hpl:cQ b G T (br b (aI W k)).toNat=pl at *
 generalize hj:(br b (aI W k)).toNat=j at *
 have ez:PyData.int (br b (aI W k))=nD j:=by rw[<- z3]
 refine aH ?_
 show f7 [.val (ax G T W),.val (af P),.val (.int (sI b)),.val (nD k),.non,.non,.non]=_
 unfold f7
 have t4:Dl.ay 4 [0,2,3] (f2 av (f2 av (f2 av (ab 0) (fC (.int 2))) (ab 3)) (ab 2)) [.val (ax G T W),.val (af P),.val (.int (sI b)),.val (nD k),.non,.non,.non]=some (.nx [.val (ax G T W),.val (af P),.val (.int (sI b)),.val (nD k),.val (nD j),.non,.non]):=by
  rw[<- ez]
  exact bP (d:=.int (br b (aI W k))) (aw (u9 b _) (aw (qa hk) rfl rfl) rfl) rfl
 rw[ai t4]
 have ep:av (.tuple ((bR b G T).map bU)) (nD j)=some (bU pl):=nY hx
 have ct:(fB (f2 xb (ah 4 dh (aa (ab 0) (aa (ab 1) (aa (ab 2) (aa (ab 4) ae))))) (f2 av (f2 av (f2 av (ab 0) (ab 2)) (ab 4)) (fC (.int 0))))) (bg [.val (ax G T W),.val (af P),.val (.int (sI b)),.val (nD k),.val (nD j),.non,.non])=some (decide (rm b W P j < pl.1)):=by
  refine bo (aw (kE _ _) (call_of (tM h hp hs b j) rfl rfl) ?_)
  refine aw (a:=bU pl) (b:=.int 0) rfl (aw ep (aw (o3 b G T W) rfl rfl) rfl) rfl
 have hm:BA b G T W P k=(decide (rm b W P j < pl.1)||(pl.2.drop (rK pl.2 (cg b (aI W k))+1)).any fun o=>decide (0 < P.getD (qF b W j o) 0)):=by
  unfold BA
  rw[hj,hpl,z3]
 rw[hm]
 cases hc:decide (rm b W P j < pl.1) with
 | true =>
  rw[hc] at ct
  exact iq ((eW ct).trans (aJ rfl))
 | false =>
  rw[hc] at ct
  rw[ai (bS ct),Bool.false_or]
  have t5:Dl.ay 5 [0,2,4] (ah 3 eM (aa (ab 0) (aa (ab 2) (aa (ab 4) ae)))) [.val (ax G T W),.val (af P),.val (.int (sI b)),.val (nD k),.val (nD j),.non,.non]=some (.nx [.val (ax G T W),.val (af P),.val (.int (sI b)),.val (nD k),.val (nD j),.val (.list ((fJ b W j pl.2).map nD)),.non]) :=
   aW (call_of ew rfl rfl) (call_of ew rfl rfl) rfl
  rw[ai t5]
  have cu:∀ρ:Dl.Env,ab 5 ρ=some (.list ((fJ b W j pl.2).map nD))->ab 3 ρ=some (nD k)->(kb fA (ab 5) (wt (f2 aM (f2 oC (ab 5) (ab 3)) (fC (.int 1)))) j1) ρ=some (.list (((fJ b W j pl.2).map nD).drop (rK pl.2 (cg b (aI W k))+1))):=fun ρ a c =>
   GO a (aw (d6 _ _) (aw ei a c) rfl)
  have t6:Dl.ay 6 [3,5] (kb fA (ab 5) (wt (f2 aM (f2 oC (ab 5) (ab 3)) (fC (.int 1)))) j1) [.val (ax G T W),.val (af P),.val (.int (sI b)),.val (nD k),.val (nD j),.val (.list ((fJ b W j pl.2).map nD)),.non]=some (.nx [.val (ax G T W),.val (af P),.val (.int (sI b)),.val (nD k),.val (nD j),.val (.list ((fJ b W j pl.2).map nD)),.val (.list (((fJ b W j pl.2).drop (rK pl.2 (cg b (aI W k))+1)).map nD))]):=by
   rw[List.map_drop]
   exact aW (cu _ rfl rfl) (cu _ rfl rfl) rfl
  rw[ai t6]
  have c:ao 1 [1] (aR (ab 6)) (fG 0) (fun _=>some true) (f2 Dq (f2 av (ab 1) (ab 0)) (fC (.int 0))) [some (ax G T W),some (af P),some (.int (sI b)),some (nD k),some (nD j),some (.list ((fJ b W j pl.2).map nD)),some (.list (((fJ b W j pl.2).drop (rK pl.2 (cg b (aI W k))+1)).map nD))]=some (((fJ b W j pl.2).drop (rK pl.2 (cg b (aI W k))+1)).map fun i=>.bool (decide (0 < P.getD i 0))):=by
   refine kN rfl ?_ fun i hi=>?_
   ·rw[List.length_drop,fJ,zD]
    omega
   ·have hi':=List.mem_of_mem_drop hi
    unfold fJ at hi'
    obtain⟨x,hx',rfl⟩:=zQ.mp hi'
    exact aw (g8 _ _) (aw (gu (by rw[hp];exact (hL x hx').1)) rfl rfl) rfl
  refine aJ ?_
  show bf Rf.Fj (aa (bZ (ao 1 [1] (aR (ab 6)) (fG 0) (fun _=>some true) (f2 Dq (f2 av (ab 1) (ab 0)) (fC (.int 0))))) ae) [some (ax G T W),some (af P),some (.int (sI b)),some (nD k),some (nD j),some (.list ((fJ b W j pl.2).map nD)),some (.list (((fJ b W j pl.2).drop (rK pl.2 (cg b (aI W k))+1)).map nD))]=_
  simp only[bf,aa,ae,bZ,c,zB,zA,BY]
  unfold fJ
  rw[<- List.map_drop,List.any_map]
  rfl
noncomputable def MA:Nat->D|0=>.str "full" | 1=>.str "giver" | 2=>.str "taker" | _=>.none
theorem Ai(h:Wd G T W)(hp:P.length=W.length)(hs:Sm P){k:Nat}(hk:k < W.length):eR [ax G T W,af P,nD k]=some (MA (oF G T W P k)):=by
 refine aH ?_
 show jv [.val (ax G T W),.val (af P),.val (nD k)]=_
 unfold jv oF
 have c1:(fB (f2 cf (f2 av (ab 1) (ab 2)) (f2 av (f2 av (f2 av (ab 0) (fC (.int 2))) (ab 2)) (fC (.int 2))))) (bg [.val (ax G T W),.val (af P),.val (nD k)])=some (decide (P.getD k 0=(aI W k).2.2)) :=
  bo (aw (fx _ _) (aw (gu (by rw[hp];exact hk)) rfl rfl) (aw (a:=ar (aI W k)) (b:=.int 2) rfl (aw (qa hk) rfl rfl) rfl))
 have w0:=mI h hp hs false hk
 have w1:=mI h hp hs true hk
 have c2:(aX (fB (ah 4 cA (aa (ab 0) (aa (ab 1) (aa (fC (.int 0)) (aa (ab 2) ae))))))) (bg [.val (ax G T W),.val (af P),.val (nD k)])=some (!(BA false G T W P k)):=bK (bo (call_of w0 rfl rfl))
 have c3:(aX (fB (ah 4 cA (aa (ab 0) (aa (ab 1) (aa (fC (.int 1)) (aa (ab 2) ae))))))) (bg [.val (ax G T W),.val (af P),.val (nD k)])=some (!(BA true G T W P k)):=bK (bo (call_of w1 rfl rfl))
 by_cases e1:P.getD k 0=(aI W k).2.2
 ·rw[yB e1] at c1
  rw[if_pos e1]
  exact iq ((eW c1).trans (aJ rfl))
 ·rw[yA e1] at c1
  rw[if_neg e1,ai (bS c1)]
  cases e2:BA false G T W P k with
  | false =>
   rw[e2] at c2
   rw[if_pos rfl]
   exact iq ((eW c2).trans (aJ rfl))
  | true =>
   rw[e2] at c2
   rw[if_neg (by simp),ai (bS c2)]
   cases e3:BA true G T W P k with
   | false =>
    rw[e3] at c3
    rw[if_pos rfl]
    exact iq ((eW c3).trans (aJ rfl))
   | true =>
    rw[e3] at c3
    rw[if_neg (by simp),ai (bS c3)]
    exact aJ rfl
theorem J7(G T:List Pl)(W:List Wy)(P:List Int)(k:Nat):oF G T W P k<=3:=by
 unfold oF
 split
 ·omega
 ·split
  ·omega
  ·split<;>omega
theorem Im(n:Nat)(h:n<=3):mi (MA n) .none=some (.bool (decide (n=3))):=by
 match n,h with
 | 0,_=>rfl
 | 1,_=>rfl
 | 2,_=>rfl
 | 3,_=>rfl
theorem xc{ρ:Dl.Env}{f:Dl.Env->Option D}(hp:P.length=W.length)(hf:f ρ=some (af P)):(aa (bf bq (aa f ae)) ae) ρ=some [nD W.length]:=by
 have:=Jj P
 rw[hp] at this
 refine cons_of ?_ rfl
 rw[qo hf,this]
theorem oM(h:Wd G T W)(hp:P.length=W.length)(hs:Sm P):dD [ax G T W,af P]=some (match (List.range W.length).find? fun k=>decide (oF G T W P k=3) with|some k=>nD k|none=>.none):=by
 have hw:=h.wl
 refine aH ?_
 show dC [.val (ax G T W),.val (af P),.non]=_
 unfold dC
 obtain⟨f1,f2'⟩:=lA (tgt:=mQ 2) (gb:=eL (fB (f2 mi (ah 3 eR (aa (ab 0) (aa (ab 1) (aa (ab 2) ae)))) (fC .none))) (aD (ab 2)) eF) (fun ρ=>∃x,ρ=[.val (ax G T W),.val (af P),x]) nD (fun k=>decide (oF G T W P k=3)) nD
  (l:=List.range W.length) (ρ:=[.val (ax G T W),.val (af P),.non])
  (fun ρ k hk hρ=>by
   obtain⟨x,rfl⟩:=hρ
   have hk':k < W.length:=by simpa using hk
   have c:(fB (f2 mi (ah 3 eR (aa (ab 0) (aa (ab 1) (aa (ab 2) ae)))) (fC .none))) (bg [.val (ax G T W),.val (af P),.val (nD k)])=some (decide (oF G T W P k=3)) :=
    bo (aw (Im _ (J7 G T W P k)) (call_of (Ai h hp hs hk') rfl rfl) rfl)
   refine⟨_,rfl,fun hq=>?_,fun hq=>?_⟩
   ·show eL _ _ _ [.val (ax G T W),.val (af P),.val (nD k)]=_
    rw[hq] at c
    exact (eW c).trans (aJ rfl)
   ·rw[hq] at c
    exact⟨_,bS c,_,rfl⟩) ⟨_,rfl⟩
 have hr:bF (aa (bf bq (aa (ab 1) ae)) ae) [some (ax G T W),some (af P),none]=some ((List.range W.length).map nD):=pU (xc hp rfl) (by omega)
 cases e:(List.range W.length).find? fun k=>decide (oF G T W P k=3) with
 | some k=>exact iq (dF (f1 k e) hr rfl)
 | none =>
  obtain⟨ρ',e',x,rfl⟩:=f2' e
  exact (ai (dF e' hr rfl)).trans (aJ rfl)
theorem pA(h:Wd G T W)(hp:P.length=W.length)(hs:Sm P):dQ [ax G T W,af P]=some (.bool (decide (Dm G T W P=[]))):=by
 refine aH ?_
 show jt [.val (ax G T W),.val (af P)]=_
 unfold jt
 refine aJ (aw ?_ (call_of (oM h hp hs) rfl rfl) rfl)
 cases e:(List.range W.length).find? fun k=>decide (oF G T W P k=3) with
 | some k =>
  have:Dm G T W P≠[]:=fun z=>by
   have hm:=List.mem_of_find?_eq_some e
   have hq:=List.find?_some e
   have:k∈Dm G T W P:=List.mem_filter.mpr ⟨hm,hq⟩
   rw[z] at this
   cases this
  rw[yA this]
  rfl
 | none =>
  have:Dm G T W P=[]:=by
   rw[List.find?_eq_none] at e
   exact List.filter_eq_nil_iff.mpr e
  rw[yB this]
  rfl
theorem oo{tt:Dl.Env->Option Bool}{te:Dl.Env->Option D}{r:List (Option D)}{f:Nat->D}{q:Nat->Bool}:∀ (is:List Nat),(∀i∈is,tt (some (nD i)::r)=some (q i)/\(q i=true->te (some (nD i)::r)=some (f i)))->cx (fG 0) tt te (none::r) (is.map nD)=some ((is.filter q).map f)
 | [],_=>rfl
 | i::is,h=>by
  have ih:=oo (tt:=tt) (te:=te) (r:=r) (f:=f) (q:=q) is fun j hj=>h j (zC _ hj)
  obtain⟨h1,h2⟩:=h i zE
  have hg:fG 0 (none::r) (nD i)=some (some (nD i)::r):=rfl
  rw[zI,cx,hg,zA,h1,zA,List.filter_cons]
  cases e:q i with
  | true =>
   rw[if_pos rfl,if_pos rfl,h2 e,zA,ih]
   rfl
  | false =>
   rw[if_neg (by simp),if_neg (by simp),ih]
theorem qx{cs:List Nat}{fi:Dl.Env->Option (List D)}{tt:Dl.Env->Option Bool}{te:Dl.Env->Option D}{ρ:Dl.Env}{is:List Nat}{f:Nat->D}{q:Nat->Bool}(hfi:fi ρ=some (is.map nD))(hl:is.length<=1000)(hh:∀i∈is,tt (some (nD i)::cs.map fun j=>(ρ[j]?).getD none)=some (q i)/\(q i=true->te (some (nD i)::cs.map fun j=>(ρ[j]?).getD none)=some (f i))):ao 1 cs fi (fG 0) tt te ρ=some ((is.filter q).map f):=by
 have:=oo is hh
 simp only[ao,hfi,zA,eG,List.replicate,List.cons_append,List.nil_append,this]
 refine bc ?_
 rw[zD]
 refine yE (List.length_filter_le _ _) ?_
 omega
theorem rV(h:Wd G T W){c:List Int}(hb:aP [ax T G (l8 W (cR W))]=some (af c))(p:Pn T G (l8 W (cR W)) c):cM [ax G T W]=some (af (NB c (cR (l8 W (cR W))))):=by
 have o:=mL h.wp
 have h':=o.wd h
 refine aH ?_
 show eY [.val (ax G T W),.non]=_
 unfold eY
 have t1:Dl.ay 1 [0] (ah 1 fy (aa (ab 0) ae)) [.val (ax G T W),.non]=some (.nx [.val (ax G T W),.val (ax T G (l8 W (cR W)))]):=aW (call_of (me h) rfl rfl) (call_of (me h) rfl rfl) rfl
 rw[ai t1]
 exact aJ (call_of (ll h' p) (cons_of rfl (cons_of (call_of hb rfl rfl) rfl)) rfl)
end
section
variable {G T:List Pl}{W:List Wy}{P:List Int}
end
section
variable {ns:List Int}{G T:List Pl}{W:List Wy}{at':Int}
theorem IK{a b:List Int}(h:a.length+b.length<=1000):Dl.aM (af a) (af b)=some (af (a++b)):=by
 unfold af
 rw[uH (by simp;omega),List.map_append]
end
theorem ph{S:Type}(cont:S->Bool)(st:S->S)(μ:S->Nat)(I:S->Prop)(hb:∀s,I s->cont s=true->I (st s)/\μ (st s) < μ s):∀ (n:Nat) (s:S),μ s < n->I s->cont (lp cont st n s)=false/\I (lp cont st n s)
 | 0,s,h,_=>absurd h (by omega)
 | n+1,s,h,i=>by
  rw[lp]
  cases hc:cont s with
  | false=>exact⟨by simpa [hc] using hc,by simpa using i⟩
  | true =>
   obtain⟨i2,hm⟩:=hb s i hc
   have:=ph cont st μ I hb n (st s) (by omega) i2
   simpa using this
section
variable {G T:List Pl}{W:List Wy}
theorem lF{k:Nat}(hk:k < W.length):(bI W).getD k 0=(aI W k).2.2:=by
 unfold bI
 rw[zG,zO,mO hk]
 rfl
theorem kM(h:Wd G T W):kY G T W (fin G T W).2=none/\yr W (fin G T W)/\∀k,k < W.length->(fin G T W).2.getD k 0<=(aI W k).2.2:=by
 have hb:=h.mea
 obtain⟨h1,i,h2⟩:=ph (CG G T W) (spS G T W) (fun s=>mea s.2) (fun s=>yr W s/\∀k,k < W.length->s.2.getD k 0<=(aI W k).2.2)
  (fun s ⟨i,l⟩ hc=>by
   obtain⟨p,e⟩:=l7 hc
   obtain⟨a,b,c⟩:=sX h i.off e
   obtain⟨i2,hm⟩:=i.step h e
   refine⟨⟨i2,fun k hk=>?_⟩,hm⟩
   rw[nQ e]
   show (s.2.set p.1 p.2).getD k 0<=_
   by_cases z:k=p.1
   ·subst z
    have:=l p.1 a
    have hl:p.1 < s.2.length:=by rw[i.len];exact a
    rw[show (s.2.set p.1 p.2).getD p.1 0=p.2 by simp[hl]]
    omega
   ·rw[show (s.2.set p.1 p.2).getD k 0=s.2.getD k 0 by simp[List.getElem?_set_ne (Ne.symm z)]]
    exact l k hk) Rf.turns ([],bI W) (Nat.lt_of_le_of_lt hb (by decide)) ⟨yr.start h,fun k hk=>by rw[lF hk];omega⟩
 refine⟨?_,i,h2⟩
 have:CG G T W (fin G T W)=false:=h1
 unfold CG at this
 exact Option.isNone_iff_eq_none.mp (by simpa using this)
noncomputable def jH(G T:List Pl)(W:List Wy):List Int:=aC false G T W (fin G T W).2
theorem jK(h:Wd G T W):Pn G T W (jH G T W):=by
 obtain⟨h1,i,h2⟩:=kM h
 exact AR h i.off h2 h1
theorem nA(h:Wd G T W):aP [ax G T W]=some (af (jH G T W)):=rD h
theorem ou:∀ {l:List D},(∀d∈l,PyData.eqv d d=true)->PyData.eqvAll l l=true
 | [],_=>by simp[PyData.eqvAll]
 | d::l,h=>by
  rw[PyData.eqvAll,h d zE,ou fun x hx=>h x (zC _ hx)]
  rfl
theorem JY(a:List Int):PyData.eqv (af a) (af a)=true:=by rw[qf];simp
theorem Fy(a:Int):PyData.eqv (.int a) (.int a)=true:=by
 have:=JY [a]
 rw[af,PyData.eqv,zI,List.map_nil,PyData.eqvAll] at this
 simp only[zF] at this
 exact this.1
theorem sW(a:Bool):dg (.bool a) (.bool a)=some (.bool false):=by cases a<;>simp[dg,JP,SeqAt.shaped,PyData.canLay0,PyData.depth,PyData.eqv]
theorem IF(a:Int):dg (.int a) (.int a)=some (.bool false):=by
 have hs:SeqAt.shaped (.int a)=true:=(iW (b:=1) (k:=0) a).shaped (by decide)
 simp only[dg,JP,hs,and_self,if_true,Fy,zB,Bool.not_true]
end
section
variable {W:List Wy}{G T:List Pl}{P off:List Int}
theorem FV:∀ (xs:List Nat),(∀i∈xs,0<=off.getD i 0)->0<=(xs.map fun i=>off.getD i 0).sum
 | [],_=>by simp
 | i::xs,h=>by
  have:=FV xs fun j hj=>h j (zC _ hj)
  have:=h i zE
  rw[zI,List.sum_cons];omega
theorem A9:∀ (xs:List Nat),(∀i∈xs,0<=P.getD i 0)->(0 < (xs.map fun i=>P.getD i 0).sum↔(xs.any fun i=>decide (0 < P.getD i 0))=true)
 | [],_=>by simp
 | i::xs,h=>by
  have ih:=A9 xs fun j hj=>h j (zC _ hj)
  have h0:=FV (off:=P) xs fun j hj=>h j (zC _ hj)
  have hi:=h i zE
  rw[zI,List.sum_cons,List.any_cons,Bool.or_eq_true,zJ,<- ih]
  omega
theorem GN(h:Wd G T W){b:Bool}{k:Nat}(hk:k < W.length) :
  let i:=(br b (aI W k)).toNat
  let L:=(cQ b G T i).2
  fJ b W i L=(L.take (rK L (cg b (aI W k)))).map (qF b W i)++k::(L.drop (rK L (cg b (aI W k))+1)).map (qF b W i):=by
 intro i L
 obtain⟨h1,h2,h3⟩:=h.end_pl b hk
 have e:=nH h2
 have hm:cg b (aI W k)∈L:=by
  rw[(h.lik e).mem_iff,<- kO]
  exact zQ.mpr ⟨k,cP.mpr ⟨hk,h3.symm⟩,rfl⟩
 have hlt:rK L (cg b (aI W k)) < L.length:=by
  unfold rK
  exact List.findIdx_lt_length_of_exists ⟨_,hm,by simp⟩
 have hg:L[rK L (cg b (aI W k))]=cg b (aI W k):=by
  have:=List.findIdx_getElem (w:=hlt)
  exact of_decide_eq_true this
 have hx:qF b W i (cg b (aI W k))=k:=vN h.wp (cP.mpr ⟨hk,h3.symm⟩)
 unfold fJ
 conv=>lhs;rw[<- List.take_append_drop (rK L (cg b (aI W k))) L,List.drop_eq_getElem_cons hlt,hg,List.map_append,zI,hx]
end
noncomputable def sm(l:List Nat)(f:Nat->Int):Int:=(l.map f).sum
theorem bL(q:Nat)(l:List Nat)(f:Nat->Int):sm (q::l) f=f q+sm l f:=by simp[sm]
theorem vy(l r:List Nat)(f:Nat->Int):sm (l++r) f=sm l f+sm r f:=by simp[sm]
theorem oV(q:Nat)(f:Nat->Int):sm [q] f=f q:=by simp[sm]
theorem gn:∀ {l:List Nat}{f g:Nat->Int},(∀q∈l,f q=g q)->sm l f=sm l g
 | [],_,_,_=>rfl
 | q::l,f,g,h=>by rw[bL,bL,h q zE,gn fun x hx=>h x (zC _ hx)]
theorem wF:∀ {l:List Nat}{f g:Nat->Int},(∀q∈l,f q<=g q)->sm l f<=sm l g
 | [],_,_,_=>Int.le_refl _
 | q::l,f,g,h=>by
  have h1:=h q zE
  have h2:=wF (l:=l) fun x hx=>h x (zC _ hx)
  rw[bL,bL]
  omega
theorem tI{l:List Nat}{f:Nat->Int}(h:∀q∈l,0<=f q):0<=sm l f:=by
 have:sm l (fun _=>0)=0:=by induction l with
  | nil=>rfl
  | cons q l ih=>rw[bL,ih fun x hx=>h x (zC _ hx)];rfl
 rw[<- this]
 exact wF h
theorem DC:∀ {l:List Nat}{f g:Nat->Int}{p:Nat},(∀q∈l,f q<=g q)->p∈l->f p < g p->sm l f < sm l g
 | q::l,f,g,p,h,hp,e=>by
  have h1:=h q zE
  have h2:=wF (l:=l) fun x hx=>h x (zC _ hx)
  rw[bL,bL]
  rcases zR.mp hp with z|z
  ·subst z;omega
  ·have:=DC (l:=l) (fun x hx=>h x (zC _ hx)) z e
   omega
theorem JA{l:List Nat}{f g:Nat->Int}{p:Nat}(h:sm l f<=sm l g)(hp:p∈l)(e:g p < f p):∃q∈l,f q < g q:=by
 refine Classical.byContradiction fun hn=>?_
 have:∀q∈l,g q<=f q:=fun q hq=>by
  refine Classical.byContradiction fun z=>hn ⟨q,hq,by omega⟩
 have:=DC this hp e
 omega
theorem J1{l:List Nat}{f:Nat->Int}{p:Nat}(h:∀q∈l,0<=f q)(hp:p∈l):f p<=sm l f:=by
 obtain⟨xs,ys,rfl⟩:=List.append_of_mem hp
 rw[vy,bL]
 have h1:=tI (l:=xs) fun q hq=>h q (List.mem_append_left _ hq)
 have h2:=tI (l:=ys) fun q hq=>h q (yF _ (zC _ hq))
 omega
theorem GW{l r:List Nat}(p:l.Perm r)(f:Nat->Int):sm l f=sm r f:=by
 induction p with
 | nil=>rfl
 | cons x _ ih=>rw[bL,bL,ih]
 | swap x y l=>rw[bL,bL,bL,bL];omega
 | trans _ _ h1 h2=>rw[h1,h2]
noncomputable def ch(m:Nat->Int):Int->List Nat->Nat->Int
 | _,[],_=>0
 | a,q::r,k=>if k=q then min (m q) a else ch m (a - min (m q) a) r k
theorem bC(m:Nat->Int)(a:Int)(q:Nat)(r:List Nat):ch m a (q::r) q=min (m q) a:=by simp[ch]
theorem bw{m:Nat->Int}{a:Int}{q k:Nat}{r:List Nat}(h:k≠q):ch m a (q::r) k=ch m (a - min (m q) a) r k:=by simp[ch,h]
theorem D8{m:Nat->Int}:∀ {a:Int}{l:List Nat},(∀q∈l,0<=m q)->0<=a->∀k,0<=ch m a l k/\ch m a l k<=a/\(k∈l->ch m a l k<=m k)
 | a,[],_,ha,k=>⟨Int.le_refl _,ha,fun h=>by cases h⟩
 | a,q::r,hm,ha,k=>by
  have h0:=hm q zE
  by_cases e:k=q
  ·subst e
   rw[bC]
   exact⟨by omega,by omega,fun _=>by omega⟩
  ·rw[bw e]
   obtain⟨h1,h2,h3⟩:=D8 (m:=m) (a:=a - min (m q) a) (l:=r) (fun x hx=>hm x (zC _ hx)) (by omega) k
   refine⟨h1,by omega,fun hk=>?_⟩
   rcases zR.mp hk with z|z
   ·exact absurd z e
   ·exact h3 z
theorem A0{m:Nat->Int}:∀ {a a':Int}{l:List Nat}{k:Nat},a<=a'->ch m a l k<=ch m a' l k
 | _,_,[],_,_=>Int.le_refl _
 | a,a',q::r,k,h=>by
  by_cases e:k=q
  ·subst e
   rw[bC,bC]
   omega
  ·rw[bw e,bw e]
   exact A0 (by omega)
theorem ux{m m':Nat->Int}:∀ {a:Int}{l:List Nat},l.Nodup->(∀q∈l,ch m a l q<=m' q/\m' q<=m q)->∀k,ch m' a l k=ch m a l k
 | _,[],_,_,_=>rfl
 | a,q::r,hn,h,k=>by
  rw[List.nodup_cons] at hn
  have h0:=h q zE
  rw[bC] at h0
  have e0:min (m' q) a=min (m q) a:=by omega
  by_cases e:k=q
  ·subst e
   rw[bC,bC,e0]
  ·rw[bw e,bw e,e0]
   exact ux hn.2 (fun x hx=>by
    have:=h x (zC _ hx)
    rwa [bw (show x≠q from fun z=>hn.1 (z ▸ hx))] at this) k
theorem mf{m m':Nat->Int}:∀ {a:Int}{l:List Nat},(∀q∈l,m q=m' q)->∀k,ch m a l k=ch m' a l k
 | _,[],_,_=>rfl
 | a,q::r,h,k=>by
  have h0:=h q zE
  by_cases e:k=q
  ·subst e
   rw[bC,bC,h0]
  ·rw[bw e,bw e,h0]
   exact mf (fun x hx=>h x (zC _ hx)) k
noncomputable def up:List Nat->Nat->List Nat
 | [],_=>[]
 | q::r,k=>if k=q then [q] else q::up r k
theorem fT(q:Nat)(r:List Nat):up (q::r) q=[q]:=by simp[up]
theorem fW{q k:Nat}{r:List Nat}(h:k≠q):up (q::r) k=q::up r k:=by simp[up,h]
theorem dN:∀ {l:List Nat}{k q:Nat},q∈up l k->q∈l
 | [],_,_,h=>by cases h
 | x::l,k,q,h=>by
  by_cases e:k=x
  ·subst e
   rw[fT,yK] at h
   exact h ▸ zE
  ·rw[fW e] at h
   rcases zR.mp h with z|z
   ·exact z ▸ zE
   ·exact zC _ (dN z)
theorem o9:∀ {l:List Nat}{k:Nat},k∈l->k∈up l k
 | x::l,k,h=>by
  by_cases e:k=x
  ·subst e
   rw[fT]
   exact zE
  ·rw[fW e]
   rcases zR.mp h with z|z
   ·exact absurd z e
   ·exact zC _ (o9 z)
theorem uF:∀ {xs ys:List Nat}{k:Nat},k∉xs->up (xs++k::ys) k=xs++[k]
 | [],ys,k,_=>fT _ _
 | x::xs,ys,k,h=>by
  rw[zR,not_or] at h
  rw[List.cons_append,fW h.1,uF h.2]
  rfl
theorem Ax{l:List Nat}{k:Nat}(hn:l.Nodup)(hk:k∈l):∃ys,l=up l k++ys/\(∀q∈ys,q∉up l k):=by
 obtain⟨xs,ys,rfl⟩:=List.append_of_mem hk
 have hx:k∉xs:=fun z=>by
  rw[List.nodup_append] at hn
  exact hn.2.2 k z k zE rfl
 refine⟨ys,by rw[uF hx];simp,fun q hq hq2=>?_⟩
 rw[uF hx] at hq2
 rw[show xs++k::ys=(xs++[k])++ys by simp,List.nodup_append] at hn
 exact hn.2.2 q hq2 q hq rfl
theorem ue:∀ {l:List Nat}{k q:Nat},l.Nodup->q∈up l k->k∈up l q->k=q
 | [],_,_,_,h,_=>by cases h
 | x::l,k,q,hn,h1,h2=>by
  rw[List.nodup_cons] at hn
  by_cases e:k=x
  ·subst e
   rw[fT,yK] at h1
   exact h1.symm
  ·by_cases e2:q=x
   ·subst e2
    rw[fT,yK] at h2
    exact h2
   ·rw[fW e] at h1
    rw[fW e2] at h2
    rcases zR.mp h1 with z|z
    ·exact absurd z e2
    ·rcases zR.mp h2 with z2|z2
     ·exact absurd z2 e
     ·exact ue hn.2 z z2
theorem A2{m:Nat->Int}:∀ {a:Int}{l:List Nat}{k:Nat},l.Nodup->k∈l->ch m a l k < m k->sm (up l k) (ch m a l)=a
 | a,q::r,k,hn,hk,h=>by
  rw[List.nodup_cons] at hn
  by_cases e:k=q
  ·subst e
   rw[bC] at h
   rw[fT,oV,bC]
   omega
  ·rw[bw e] at h
   have hk':k∈r:=by
    rcases zR.mp hk with z|z
    ·exact absurd z e
    ·exact z
   have ih:=A2 hn.2 hk' h
   rw[fW e,bL,bC,gn (g:=ch m (a - min (m q) a) r) fun x hx=>bw fun z=>hn.1 (z ▸ dN hx),ih]
   omega
theorem F8{m:Nat->Int}:∀ {a:Int}{l:List Nat}{k q:Nat},l.Nodup->(∀x∈l,0<=m x)->0<=a->0 < ch m a l k->q∈up l k->q≠k->ch m a l q=m q
 | a,[],_,_,_,_,_,_,h,_=>by cases h
 | a,x::r,k,q,hn,hm,ha,h,hq,hne=>by
  rw[List.nodup_cons] at hn
  have h0:=hm x zE
  have hr:∀y∈r,0<=m y:=fun y hy=>hm y (zC _ hy)
  by_cases e:k=x
  ·subst e
   rw[fT,yK] at hq
   exact absurd hq hne
  ·rw[bw e] at h
   rw[fW e] at hq
   rcases zR.mp hq with z|z
   ·subst z
    rw[bC]
    have:=(D8 (m:=m) (a:=a - min (m q) a) hr (by omega) k).2.1
    omega
   ·have hqx:q≠x:=fun w=>hn.1 (w ▸ dN z)
    rw[bw hqx]
    exact F8 hn.2 hr (by omega) h z hne
theorem JB{m:Nat->Int}:∀ {a:Int}{l:List Nat}{k:Nat},l.Nodup->(∀x∈l,0<=m x)->0<=a->k∈l->sm (up l k) (ch m a l)=min a (sm (up l k) m)
 | a,q::r,k,hn,hm,ha,hk=>by
  rw[List.nodup_cons] at hn
  have h0:=hm q zE
  have hr:∀y∈r,0<=m y:=fun y hy=>hm y (zC _ hy)
  by_cases e:k=q
  ·subst e
   rw[fT,oV,oV,bC]
   omega
  ·have hk':k∈r:=by
    rcases zR.mp hk with z|z
    ·exact absurd z e
    ·exact z
   have ih:=JB (m:=m) (a:=a - min (m q) a) hn.2 hr (by omega) hk'
   have hs:=tI (l:=up r k) fun y hy=>hr y (dN hy)
   rw[fW e,bL,bL,bC,gn (g:=ch m (a - min (m q) a) r) fun x hx=>bw fun z=>hn.1 (z ▸ dN hx),ih]
   omega
theorem zi{m m':Nat->Int}{p:Nat}:∀ {a:Int}{l:List Nat},l.Nodup->(∀x∈l,x≠p->m' x=m x)->m' p<=ch m a l p->(∀k∈l,k≠p->ch m a l k<=ch m' a l k)/\(p∈l->ch m' a l p=m' p)
 | _,[],_,_,_=>⟨fun _ h=>absurd h yG,fun h=>absurd h yG⟩
 | a,q::r,hn,h,hp=>by
  rw[List.nodup_cons] at hn
  by_cases e:q=p
  ·subst e
   rw[bC] at hp
   have hs:∀x∈r,m' x=m x:=fun x hx=>h x (zC _ hx) fun z=>hn.1 (z ▸ hx)
   refine⟨fun k hk hne=>?_,fun _=>?_⟩
   ·rw[bw hne,bw hne,mf (m:=m') (m':=m) hs]
    exact A0 (by omega)
   ·rw[bC];omega
  ·have hq:=h q zE e
   rw[bw (Ne.symm e)] at hp
   obtain⟨i1,i2⟩:=zi (m:=m) (m':=m') (p:=p) (a:=a - min (m q) a) hn.2 (fun x hx=>h x (zC _ hx)) hp
   refine⟨fun k hk hne=>?_,fun hk=>?_⟩
   ·by_cases e2:k=q
    ·subst e2
     rw[bC,bC,hq]
     exact Int.le_refl _
    ·rw[bw e2,bw e2,hq]
     rcases zR.mp hk with z|z
     ·exact absurd z e2
     ·exact i1 k z hne
   ·rw[bw (Ne.symm e),hq]
    rcases zR.mp hk with z|z
    ·exact absurd z.symm e
    ·exact i2 z
theorem Js{m X:Nat->Int}:∀ {a:Int}{l:List Nat},l.Nodup->(∀q∈l,0<=X q/\X q<=m q)->sm l X<=a->(∀k∈l,X k=m k\/sm (up l k) X=a)->∀k∈l,ch m a l k=X k
 | _,[],_,_,_,_,_,h=>by cases h
 | a,q::r,hn,hX,hs,h,k,hk=>by
  rw[List.nodup_cons] at hn
  have h0:=hX q zE
  have hr:∀y∈r,0<=X y/\X y<=m y:=fun y hy=>hX y (zC _ hy)
  have hnn:=tI (l:=r) fun y hy=>(hr y hy).1
  rw[bL] at hs
  have e0:min (m q) a=X q:=by
   rcases h q zE with z|z
   ·omega
   ·rw[fT,oV] at z
    omega
  by_cases e:k=q
  ·subst e
   rw[bC,e0]
  ·rw[bw e,e0]
   rcases zR.mp hk with z|z
   ·exact absurd z e
   ·refine Js hn.2 hr (by omega) (fun j hj=>?_) k z
    have hjq:j≠q:=fun w=>hn.1 (w ▸ hj)
    rcases h j (zC _ hj) with w|w
    ·exact .inl w
    ·rw[fW hjq,bL] at w
     exact .inr (by omega)
noncomputable def cD(b:Bool)(W:List Wy)(k:Nat):Nat:=(br b (aI W k)).toNat
noncomputable def lst(b:Bool)(G T:List Pl)(W:List Wy)(i:Nat):List Nat:=fJ b W i (cQ b G T i).2
noncomputable def amt(b:Bool)(G T:List Pl)(i:Nat):Int:=(cQ b G T i).1
noncomputable def mm(W:List Wy)(off:List Int)(q:Nat):Int:=min (off.getD q 0) (aI W q).2.2
noncomputable def vl(P:List Int)(q:Nat):Int:=P.getD q 0
section
variable {G T:List Pl}{W:List Wy}{P X c off:List Int}{b:Bool}{i k q:Nat}
theorem cT(h:Wd G T W)(b:Bool)(hk:k < W.length):cD b W k < (bR b G T).length:=(h.end_pl b hk).2.1
theorem qH(h:Wd G T W)(hi:i < (bR b G T).length):(lst b G T W i).Perm (own b W i):=fw h (nH hi)
theorem bE(h:Wd G T W)(hi:i < (bR b G T).length):(lst b G T W i).Nodup:=(qH h hi).nodup_iff.mpr (List.nodup_range.filter _)
theorem kA(h:Wd G T W)(hi:i < (bR b G T).length):q∈lst b G T W i↔q < W.length/\cD b W q=i:=by
 rw[(qH h hi).mem_iff,cP]
 constructor
 ·rintro⟨h1,h2⟩
  exact⟨h1,by unfold cD;rw[h2];simp⟩
 ·rintro⟨h1,h2⟩
  have:=(h.end_pl b h1).2.2
  unfold cD at h2
  rw[h2] at this
  exact⟨h1,this.symm⟩
theorem bH(h:Wd G T W)(b:Bool)(hk:k < W.length):k∈lst b G T W (cD b W k):=(kA h (cT h b hk)).mpr ⟨hk,rfl⟩
theorem F6(h:Wd G T W)(ho:Off off)(q:Nat):0<=mm W off q:=by
 have h1:=ho q
 have h2:=h.lim q
 unfold mm
 omega
theorem Fg:∀ (is:List Nat) (a:Int) (l:List Int),is.Nodup->(∀i∈is,i < l.length)->∀k,(is.foldl (lU W off) (a,l)).2.getD k 0=if k∈is then ch (mm W off) a is k else l.getD k 0
 | [],a,l,_,_,k=>by simp
 | q::is,a,l,hn,hl,k=>by
  rw[List.nodup_cons] at hn
  have ih:=Fg is (a - cV W off a q) (l.set q (cV W off a q)) hn.2 (fun i hi=>by rw[yD];exact hl i (zC _ hi)) k
  rw[yJ]
  show (is.foldl (lU W off) (a - cV W off a q,l.set q (cV W off a q))).2.getD k 0=_
  rw[ih]
  have hq:=hl q zE
  by_cases e:k=q
  ·subst e
   rw[if_neg hn.1,if_pos zE,bC,bp,if_pos ⟨rfl,hq⟩]
   rfl
  ·rw[bw e]
   by_cases hk:k∈is
   ·rw[if_pos hk,if_pos (zC _ hk)]
    rfl
   ·rw[if_neg hk,if_neg (by rw[zR,not_or];exact⟨e,hk⟩),bp,if_neg (fun z=>e z.1.symm)]
theorem dP(h:Wd G T W)(b:Bool)(off:List Int)(hk:k < W.length):(aC b G T W off).getD k 0=ch (mm W off) (amt b G T (cD b W k)) (lst b G T W (cD b W k)) k:=by
 have hi:=cT h b hk
 rw[EM h b hk]
 show (rl W off (amt b G T (cD b W k)) (lst b G T W (cD b W k))).getD k 0=_
 unfold rl
 rw[Fg _ _ _ (bE h hi) (fun j hj=>by rw[List.length_replicate];exact ((kA h hi).mp hj).1),if_pos (bH h b hk)]
theorem yR(h:Wd G T W)(b:Bool)(i:Nat):0<=amt b G T i:=h.amt b i
theorem Dv(h:Wd G T W)(hi:i < (bR b G T).length):rm b W P i=sm (lst b G T W i) (vl P):=by
 unfold rm
 rw[GW (qH h hi)]
 rfl
def Fl(b:Bool)(G T:List Pl)(W:List Wy)(P:List Int)(k:Nat):Prop:=sm (up (lst b G T W (cD b W k)) k) (vl P)=amt b G T (cD b W k)
def Rs(G T:List Pl)(W:List Wy)(P:List Int):Prop:=∀k,k < W.length->P.getD k 0=(aI W k).2.2\/Fl false G T W P k\/Fl true G T W P k
theorem Pn.nn(p:Pn G T W P)(q:Nat):0<=vl P q:=by
 by_cases hq:q < W.length
 ·exact (p.bd q hq).1
 ·unfold vl
  rw[fE (by rw[p.len];omega)]
  omega
theorem Pn.le_sm(h:Wd G T W)(p:Pn G T W P)(hi:i < (bR b G T).length):sm (lst b G T W i) (vl P)<=amt b G T i:=by
 rw[<- Dv h hi]
 exact p.am b i hi
theorem AH(h:Wd G T W)(p:Pn G T W P)(b:Bool)(hk:k < W.length):BA b G T W P k=false↔Fl b G T W P k:=by
 obtain⟨z1,z2,z3⟩:=h.end_pl b hk
 have hc:lst b G T W (cD b W k)=((cQ b G T (cD b W k)).2.take (rK (cQ b G T (cD b W k)).2 (cg b (aI W k)))).map (qF b W (cD b W k))++k::((cQ b G T (cD b W k)).2.drop (rK (cQ b G T (cD b W k)).2 (cg b (aI W k))+1)).map (qF b W (cD b W k)):=GN h hk
 have hn:=bE (b:=b) h z2
 change (lst b G T W (cD b W k)).Nodup at hn
 have hle:=p.le_sm h z2
 change sm (lst b G T W (cD b W k)) (vl P)<=amt b G T (cD b W k) at hle
 have hth:=Dv (P:=P) h z2
 have hy:BA b G T W P k=(decide (rm b W P ((cD b W k:Nat):Int) < amt b G T (cD b W k))||(((cQ b G T (cD b W k)).2.drop (rK (cQ b G T (cD b W k)).2 (cg b (aI W k))+1)).map (qF b W (cD b W k))).any fun q=>decide (0 < vl P q)):=by
  unfold BA
  rw[List.any_map]
  unfold cD amt
  rw[z3]
  rfl
 change rm b W P ((cD b W k:Nat):Int)=sm (lst b G T W (cD b W k)) (vl P) at hth
 unfold Fl
 rw[hy,hth]
 revert hc
 generalize ((cQ b G T (cD b W k)).2.take (rK (cQ b G T (cD b W k)).2 (cg b (aI W k)))).map (qF b W (cD b W k))=xs
 generalize ((cQ b G T (cD b W k)).2.drop (rK (cQ b G T (cD b W k)).2 (cg b (aI W k))+1)).map (qF b W (cD b W k))=ys
 intro hc
 have hx:k∉xs:=fun z=>by
  rw[hc,List.nodup_append] at hn
  exact hn.2.2 k z k zE rfl
 rw[hc,uF hx]
 rw[hc] at hle
 have e:sm (xs++k::ys) (vl P)=sm (xs++[k]) (vl P)+sm ys (vl P):=by
  rw[<- vy]
  simp
 have hnn:=tI (l:=ys) fun q _=>p.nn q
 have hpos:=A9 (P:=P) ys fun q _=>p.nn q
 change (0 < sm ys (vl P)↔(ys.any fun q=>decide (0 < vl P q))=true) at hpos
 rw[e] at hle ⊢
 rw[Bool.or_eq_false_iff,decide_eq_false_iff_not]
 constructor
 ·rintro⟨h1,h2⟩
  have:¬ 0 < sm ys (vl P):=fun z=>by rw[hpos.mp z] at h2;cases h2
  omega
 ·intro h1
  refine⟨by omega,?_⟩
  cases hh:(ys.any fun q=>decide (0 < vl P q)) with
  | false=>rfl
  | true=>have:=hpos.mpr hh;omega
theorem ke(h:Wd G T W)(p:Pn G T W P):Dm G T W P=[]↔Rs G T W P:=by
 unfold Dm
 rw[List.filter_eq_nil_iff]
 constructor
 ·intro hh k hk
  have:=hh k (by simpa using hk)
  rw[zJ] at this
  unfold oF at this
  by_cases e1:P.getD k 0=(aI W k).2.2
  ·exact .inl e1
  ·rw[if_neg e1] at this
   by_cases e2:BA false G T W P k=false
   ·exact .inr (.inl ((AH h p false hk).mp e2))
   ·rw[if_neg e2] at this
    by_cases e3:BA true G T W P k=false
    ·exact .inr (.inr ((AH h p true hk).mp e3))
    ·rw[if_neg e3] at this
     exact absurd rfl this
 ·intro hh k hk
  rw[zJ]
  unfold oF
  rcases hh k (by simpa using hk) with e|e|e
  ·rw[if_pos e];omega
  ·rw[if_pos ((AH h p false (by simpa using hk)).mpr e)]
   split<;>omega
  ·rw[if_pos ((AH h p true (by simpa using hk)).mpr e)]
   split
   ·omega
   ·split<;>omega
theorem l4(e:kY G T W c=some (k,q')):k < W.length/\q'=(cE G T W c).getD k 0/\(cE G T W c).getD k 0 < (aC false G T W c).getD k 0:=by
 unfold kY at e
 obtain⟨j,hj,e2⟩:=Dl.ag e
 cases e2
 have hm:=List.mem_of_find?_eq_some hj
 have hq:=List.find?_some hj
 rw[qR,zJ] at hq
 exact⟨zT.mp hm,rfl,hq⟩
theorem Bo(e:kY G T W c=none)(hk:k < W.length):(aC false G T W c).getD k 0<=(cE G T W c).getD k 0:=by
 unfold kY at e
 rw[Option.map_eq_none_iff] at e
 have:=List.find?_eq_none.mp e k (by simpa using hk)
 rw[qR,zJ] at this
 omega
end
section
variable {G T:List Pl}{W:List Wy}{P X c off:List Int}{b:Bool}{i k q:Nat}
theorem gz(h:Wd G T W)(hk:k < W.length)(hq:q∈lst b G T W (cD b W k)):q < W.length/\cD b W q=cD b W k:=(kA h (cT h b hk)).mp hq
theorem lR(h:Wd G T W)(hi:i < (bR b G T).length)(hq:q∈lst b G T W i):vl (aC b G T W off) q=ch (mm W off) (amt b G T i) (lst b G T W i) q:=by
 obtain⟨h1,h2⟩:=(kA h hi).mp hq
 have:=dP h b off h1
 rw[h2] at this
 exact this
theorem Aq(h:Wd G T W)(ho:Off off)(b:Bool)(hk:k < W.length):sm (up (lst b G T W (cD b W k)) k) (vl (aC b G T W off))=min (amt b G T (cD b W k)) (sm (up (lst b G T W (cD b W k)) k) (mm W off)):=by
 have hi:=cT h b hk
 rw[gn fun q hq=>lR h hi (dN hq)]
 exact JB (bE h hi) (fun q _=>F6 h ho q) (yR h b _) (bH h b hk)
theorem iL(h:Wd G T W)(b:Bool)(hk:k < W.length)(e:(aC b G T W off).getD k 0 < mm W off k):Fl b G T W (aC b G T W off) k:=by
 have hi:=cT h b hk
 rw[dP h b off hk] at e
 unfold Fl
 rw[gn fun q hq=>lR h hi (dN hq)]
 exact A2 (bE h hi) (bH h b hk) e
theorem Hc(h:Wd G T W)(ho:Off off)(hk:k < W.length)(e:0 < (aC b G T W off).getD k 0)(hq:q∈up (lst b G T W (cD b W k)) k)(hne:q≠k):(aC b G T W off).getD q 0=mm W off q:=by
 have hi:=cT h b hk
 rw[dP h b off hk] at e
 have:=lR (off:=off) h hi (dN hq)
 unfold vl at this
 rw[this]
 exact F8 (bE h hi) (fun q _=>F6 h ho q) (yR h b _) e hq hne
theorem uI(h:Wd G T W)(ho:Off off)(b:Bool)(hk:k < W.length):0<=(aC b G T W off).getD k 0/\(aC b G T W off).getD k 0<=mm W off k:=by
 have hi:=cT h b hk
 rw[dP h b off hk]
 have:=D8 (m:=mm W off) (a:=amt b G T (cD b W k)) (l:=lst b G T W (cD b W k)) (fun q _=>F6 h ho q) (yR h b _) k
 exact⟨this.1,this.2.2 (bH h b hk)⟩
theorem JF(h:Wd G T W)(p:Pn G T W X)(b:Bool)(hk:k < W.length):sm (up (lst b G T W (cD b W k)) k) (vl X)<=amt b G T (cD b W k):=by
 have hi:=cT h b hk
 have:=p.le_sm h hi
 obtain⟨ys,e,_⟩:=Ax (bE h hi) (bH h b hk)
 rw[e,vy] at this
 have hn:=tI (l:=ys) fun q _=>p.nn q
 omega
theorem p9(h:Wd G T W)(p:Pn G T W X)(hq:q < W.length)(f:Fl b G T W X q)(hk:k∈lst b G T W (cD b W q))(hn:k∉up (lst b G T W (cD b W q)) q):X.getD k 0=0:=by
 have hi:=cT h b hq
 have hle:=p.le_sm h hi
 obtain⟨ys,e,_⟩:=Ax (bE h hi) (bH h b hq)
 have hy:k∈ys:=by
  rw[e] at hk
  rcases List.mem_append.mp hk with z|z
  ·exact absurd z hn
  ·exact z
 rw[e,vy] at hle
 unfold Fl at f
 have:=J1 (l:=ys) (fun q _=>p.nn q) hy
 have h0:=p.nn k
 unfold vl at this h0
 have:sm ys (vl X)=sm ys fun q=>X.getD q 0:=rfl
 omega
theorem wb(h:Wd G T W)(p:Pn G T W X)(ho:Off c)(hc:∀k,k < W.length->X.getD k 0<=c.getD k 0)(hq:q < W.length)(e:X.getD q 0 < (aC false G T W c).getD q 0):¬ Fl false G T W X q:=fun f=>by
 have hi:=cT h false hq
 have hpos:0 < (aC false G T W c).getD q 0:=by have:=p.nn q;unfold vl at this;omega
 have hlt:sm (up (lst false G T W (cD false W q)) q) (vl X) < sm (up (lst false G T W (cD false W q)) q) (vl (aC false G T W c)):=by
  refine DC (p:=q) (fun r hr=>?_) (o9 (bH h false hq)) e
  by_cases z:r=q
  ·subst z;exact Int.le_of_lt e
  ·have hr':=(gz h hq (dN hr)).1
   unfold vl
   rw[Hc h ho hq hpos hr z]
   have h1:=hc r hr'
   have h2:=(p.bd r hr').2
   unfold mm
   omega
 have h2:=Aq h ho false hq
 unfold Fl at f
 omega
end
section
variable {G T:List Pl}{W:List Wy}{P X c off:List Int}{b:Bool}{i k q:Nat}{v:Int}
theorem dX(h:Wd G T W)(ho:Off c)(hk:k < W.length):0<=(cE G T W c).getD k 0/\(cE G T W c).getD k 0<=(aC false G T W c).getD k 0/\(aC false G T W c).getD k 0<=c.getD k 0/\(aC false G T W c).getD k 0<=(aI W k).2.2/\mm W (aC false G T W c) k=(aC false G T W c).getD k 0:=by
 have h1:=uI h ho false hk
 have h2:=uI h (gK h ho false) true hk
 change 0<=(cE G T W c).getD k 0/\(cE G T W c).getD k 0<=_ at h2
 unfold mm at h1 h2 ⊢
 omega
theorem Fq(h:Wd G T W)(p:Pn G T W X)(r:Rs G T W X)(ho:Off c)(hc:∀k,k < W.length->X.getD k 0<=c.getD k 0)(e:kY G T W c=some (k,v)):X.getD k 0<=v:=by
 obtain⟨hk,rfl,hlt⟩:=l4 e
 refine Classical.byContradiction fun hn=>?_
 have hn:(cE G T W c).getD k 0 < X.getD k 0:=by omega
 obtain⟨b0,b1,b2,b3,b4⟩:=dX h ho hk
 have ff:Fl true G T W (cE G T W c) k:=iL h true hk (by rw[b4];exact hlt)
 have hle:=JF h p true hk
 unfold Fl at ff
 obtain⟨q,hq,hqx⟩:=JA (f:=vl X) (g:=vl (cE G T W c)) (l:=up (lst true G T W (cD true W k)) k) (p:=k) (by omega) (o9 (bH h true hk)) hn
 obtain⟨hq1,hq2⟩:=gz h hk (dN hq)
 unfold vl at hqx
 have hne:q≠k:=fun z=>by subst z;omega
 obtain⟨d0,d1,d2,d3,d4⟩:=dX h ho hq1
 have hxq:=(p.bd q hq1).1
 rcases r q hq1 with z|z|z
 ·omega
 ·exact wb h p ho hc hq1 (by omega) z
 ·have hn2:k∉up (lst true G T W (cD true W q)) q:=fun w=>by
   rw[hq2] at w
   exact hne (ue (bE h (cT h true hk)) hq w).symm
  have:=p9 h p hq1 z (by rw[hq2];exact bH h true hk) hn2
  omega
theorem Je(h:Wd G T W)(p:Pn G T W X)(r:Rs G T W X)(hk:k < W.length):X.getD k 0<=(fin G T W).2.getD k 0:=by
 have hb:=h.mea
 obtain⟨_,_,h2⟩:=ph (CG G T W) (spS G T W) (fun s=>mea s.2) (fun s=>yr W s/\∀k,k < W.length->X.getD k 0<=s.2.getD k 0)
  (fun s ⟨i,l⟩ hc=>by
   obtain⟨⟨k,v⟩,e⟩:=l7 hc
   obtain⟨i2,hm⟩:=i.step h e
   have hx:=Fq h p r i.off l e
   refine⟨⟨i2,fun j hj=>?_⟩,hm⟩
   rw[nQ e]
   show _<=(s.2.set k v).getD j 0
   rw[bp]
   split
   ·rename_i z
    rw[<- z.1]
    exact hx
   ·exact l j hj) Rf.turns ([],bI W) (Nat.lt_of_le_of_lt hb (by decide)) ⟨yr.start h,fun k hk=>by rw[lF hk];exact (p.bd k hk).2⟩
 exact h2 k hk
def Jn(G T:List Pl)(W:List Wy)(c:List Int):Prop:=∀k,k < W.length->c.getD k 0 < (aI W k).2.2->Fl true G T W (cE G T W c) k
theorem LP(h:Wd G T W)(ho:Off c)(hl:c.length=W.length)(e:kY G T W c=some (k,v))(hq:q < W.length):(cE G T W c).getD q 0<=(aC false G T W (c.set k v)).getD q 0:=by
 obtain⟨hk,rfl,hlt⟩:=l4 e
 obtain⟨b0,b1,b2,b3,b4⟩:=dX h ho hk
 obtain⟨d0,d1,d2,d3,d4⟩:=dX h ho hq
 have hi:=cT h false hq
 have hm:∀x,x≠k->mm W (c.set k ((cE G T W c).getD k 0)) x=mm W c x:=fun x hx=>by
  unfold mm
  rw[bp,if_neg (fun z=>hx z.1.symm)]
 have hmk:mm W (c.set k ((cE G T W c).getD k 0)) k=(cE G T W c).getD k 0:=by
  unfold mm
  rw[bp,if_pos ⟨rfl,by rw[hl];exact hk⟩]
  omega
 rw[dP h false _ hq]
 by_cases z:cD false W q=cD false W k
 ·have hkL:k∈lst false G T W (cD false W q):=by rw[z];exact bH h false hk
  have hA:vl (aC false G T W c) k=ch (mm W c) (amt false G T (cD false W q)) (lst false G T W (cD false W q)) k:=lR h hi hkL
  unfold vl at hA
  obtain⟨l1,l2⟩:=zi (m:=mm W c) (m':=mm W (c.set k ((cE G T W c).getD k 0))) (p:=k) (a:=amt false G T (cD false W q)) (l:=lst false G T W (cD false W q)) (bE h hi) (fun x _ hx=>hm x hx) (by rw[hmk,<- hA];exact b1)
  by_cases y:q=k
  ·subst y
   rw[l2 hkL,hmk]
   exact Int.le_refl _
  ·have:=l1 q (bH h false hq) y
   rw[<- dP h false c hq] at this
   omega
 ·rw[mf (m:=mm W (c.set k ((cE G T W c).getD k 0))) (m':=mm W c) fun x hx=>hm x fun w=>by
   subst w
   exact z ((kA h hi).mp hx).2.symm]
  rw[<- dP h false c hq]
  exact d1
theorem Jn.step(h:Wd G T W)(ho:Off c)(hl:c.length=W.length)(j:Jn G T W c)(e:kY G T W c=some (k,v)):Jn G T W (c.set k v):=fun q hq hlim=>by
 have ho':Off (c.set k v):=kH ho (sX h ho e).2.1
 have fq:Fl true G T W (cE G T W c) q:=by
  obtain⟨hk,rfl,hlt⟩:=l4 e
  by_cases z:q=k
  ·subst z
   exact iL h true hq (by rw[(dX h ho hq).2.2.2.2];exact hlt)
  ·rw[bp,if_neg (fun w=>z w.1.symm)] at hlim
   exact j q hq hlim
 have hu:=Aq h (gK h ho' false) true hq
 change sm _ (vl (cE G T W (c.set k v)))=_ at hu
 unfold Fl at fq ⊢
 have hs:sm (up (lst true G T W (cD true W q)) q) (vl (cE G T W c))<=sm (up (lst true G T W (cD true W q)) q) (mm W (aC false G T W (c.set k v))):=wF fun x hx=>by
  have hx':=(gz h hq (dN hx)).1
  have h1:=LP h ho hl e hx'
  have h2:=dX h ho hx'
  unfold vl mm
  omega
 rw[hu]
 omega
theorem M3(h:Wd G T W):Jn G T W (fin G T W).2:=by
 have hb:=h.mea
 obtain⟨_,_,h2⟩:=ph (CG G T W) (spS G T W) (fun s=>mea s.2) (fun s=>yr W s/\Jn G T W s.2)
  (fun s ⟨i,j⟩ hc=>by
   obtain⟨⟨k,v⟩,e⟩:=l7 hc
   obtain⟨i2,hm⟩:=i.step h e
   refine⟨⟨i2,?_⟩,hm⟩
   rw[nQ e]
   exact j.step h i.off i.len e) Rf.turns ([],bI W) (Nat.lt_of_le_of_lt hb (by decide)) ⟨yr.start h,fun k hk hl=>by rw[lF hk] at hl;omega⟩
 exact h2
theorem vb(h:Wd G T W):Rs G T W (jH G T W):=fun k hk=>by
 obtain⟨hnone,i,hlim⟩:=kM h
 have j:=M3 h
 have heq:∀q,q < W.length->(jH G T W).getD q 0=(cE G T W (fin G T W).2).getD q 0:=fun q hq=>by
  have h1:=Bo hnone hq
  have h2:=(dX h i.off hq).2.1
  unfold jH
  omega
 obtain⟨d0,d1,d2,d3,d4⟩:=dX h i.off hk
 by_cases e:(jH G T W).getD k 0=(aI W k).2.2
 ·exact .inl e
 ·by_cases e2:(jH G T W).getD k 0 < mm W (fin G T W).2 k
  ·exact .inr (.inl (iL h false hk e2))
  ·have h3:=(uI h i.off false hk).2
   have:(fin G T W).2.getD k 0 < (aI W k).2.2:=by
    unfold jH at e e2
    unfold mm at e2 h3
    omega
   have f:=j k hk this
   refine .inr (.inr ?_)
   unfold Fl at f ⊢
   rw[<- f]
   exact gn fun q hq=>heq q (gz h hk (dN hq)).1
theorem HR(h:Wd G T W)(hk:k < W.length):(jH G T W).getD k 0<=(fin G T W).2.getD k 0:=(dX h (kM h).2.1.off hk).2.2.1
noncomputable def mx(P X:List Int):List Int:=List.zipWith max P X
theorem MX(hp:P.length=X.length)(q:Nat)(hn:0<=P.getD q 0\/q < P.length):(mx P X).getD q 0=max (P.getD q 0) (X.getD q 0):=by
 unfold mx
 by_cases hq:q < P.length
 ·rw[zG,List.getElem?_zipWith,zK hq,zK (by omega)]
  simp[hq,show q < X.length by omega]
 ·rw[fE (by simp;omega),fE (by omega),fE (by omega)]
  rfl
theorem JM(p:Pn G T W P)(x:Pn G T W X)(hq:q < W.length):mm W (mx P X) q=max (P.getD q 0) (X.getD q 0):=by
 unfold mm
 rw[MX (by rw[p.len,x.len]) q (.inl (p.nn q))]
 have h1:=(p.bd q hq).2
 have h2:=(x.bd q hq).2
 omega
theorem Ct(h:Wd G T W)(x:Pn G T W X)(r:Rs G T W X)(hk:k < W.length):(aC false G T W (mx (jH G T W) X)).getD k 0=(jH G T W).getD k 0:=by
 have p:=jK h
 obtain⟨_,i,_⟩:=kM h
 have hi:=cT h false hk
 rw[dP h false _ hk,show (jH G T W).getD k 0=ch (mm W (fin G T W).2) (amt false G T (cD false W k)) (lst false G T W (cD false W k)) k from dP h false _ hk]
 refine ux (bE h hi) (fun q hq=>?_) k
 have hq':=(gz h hk hq).1
 have hA:vl (aC false G T W (fin G T W).2) q=ch (mm W (fin G T W).2) (amt false G T (cD false W k)) (lst false G T W (cD false W k)) q:=lR h hi hq
 rw[<- hA,JM p x hq']
 have h1:=HR h hq'
 have h2:=Je h x r hq'
 have h3:=(p.bd q hq').2
 have h4:=(x.bd q hq').2
 change (jH G T W).getD q 0<=_/\_
 unfold mm
 omega
end
section
variable {G T:List Pl}{W:List Wy}{P X c off:List Int}{b:Bool}{i k q:Nat}{π:List Nat}
theorem uu{P X:List Int}(h:P.length=X.length)(e:∀k,k < P.length->P.getD k 0=X.getD k 0):P=X:=by
 apply List.ext_getElem h
 intro k h1 h2
 have:=e k h1
 simpa [h1,h2] using this
noncomputable def Ks(G T:List Pl)(W:List Wy):List Int:=NB (jH T G (l8 W (cR W))) (cR (l8 W (cR W)))
theorem G7(h:Wd G T W)(x:Pn G T W X)(r:Rs G T W X):aC false G T W (mx (jH G T W) X)=jH G T W :=
 uu (by rw[bT,(jK h).len]) fun k hk=>Ct h x r (by rw[bT] at hk;exact hk)
end
section
variable {G T:List Pl}{W:List Wy}{P X:List Int}{b:Bool}{i:Nat}
theorem zip_rows:∀ {P X:List Int},P.length=X.length->ja (P.map PyData.int) (X.map PyData.int)=(List.range P.length).map fun i=>.tuple [.int (P.getD i 0),.int (X.getD i 0)]
 | [],[],_=>rfl
 | [],_::_,h=>by simp at h
 | _::_,[],h=>by simp at h
 | x::P,y::X,h=>by
  rw[zI,zI,ja,zip_rows (P:=P) (X:=X) (by simpa using h),zL,List.range_succ_eq_map,zI,zM]
  rfl
theorem Iq(h:Wd G T W):cM [ax G T W]=some (af (Ks G T W)):=by
 have h':=(mL h.wp).wd h
 exact rV h (nA h') (jK h')
end
theorem lM{f:Dl.Env->Option (List D)}{ρ:Dl.Env}{ds:List D}(h:f ρ=some ds):bZ f ρ=some (.list ds):=by
 simp only[bZ,h,zB]
theorem u6{fs:Dl.Env->Option (List D)}{ρ:Dl.Env}{ds:List D}(h:fs ρ=some ds)(hl:ds.length<=1000):cG fs ρ=some ds:=by
 simp only[cG,h,zA,bc (show ds.length<=4000 by omega)]
theorem nil_of(ρ:Dl.Env):bZ (cG ae) ρ=some (.list []):=lM (u6 (ds:=[]) rfl (by simp))
theorem A6{t u:Dl.Env->Option Bool}{ρ:Dl.Env}(h:t ρ=some false):fS t u ρ=some false:=by
 simp only[fS,h,zA]
theorem DY{t u:Dl.Env->Option Bool}{ρ:Dl.Env}{b:Bool}(h:t ρ=some true)(h2:u ρ=some b):fS t u ρ=some b:=by
 simp only[fS,h,zA,h2]
theorem EC(l:List Nat):PyData.eqvAll (l.map nD) (l.map nD)=true:=ou fun d hd=>by
 obtain⟨i,_,rfl⟩:=zQ.mp hd
 exact Fy _
theorem jT{l:List Nat}:SeqAt.shaped (.list (l.map nD))=true :=
 (iT.lst (b:=l.length) (k:=0) (by simp) fun x hx=>by obtain⟨i,_,rfl⟩:=zQ.mp hx;exact iW _).shaped (by decide)
theorem tT(l:List Nat):dg (.list (l.map nD)) (.list (l.map nD))=some (.bool false):=by
 simp only[dg,JP,jT,and_self,if_true,PyData.eqv,EC,zB,Bool.not_true]
theorem B5{cs:List Nat}{fi:Dl.Env->Option (List D)}{tt:Dl.Env->Option Bool}{te:Dl.Env->Option D}{ρ:Dl.Env}{is:List Nat}(hfi:fi ρ=some (is.map nD))(hl:is.length<=1000)(hh:∀i∈is,tt (some (nD i)::cs.map fun j=>(ρ[j]?).getD none)=some false):fB (f2 dg (bZ (ao 1 cs fi (fG 0) tt te)) (bZ (cG ae))) ρ=some false:=by
 have c:=qx (te:=te) (f:=fun _=>.none) (q:=fun _=>false) hfi hl fun i hi=>⟨hh i hi,fun z=>by cases z⟩
 rw[show is.filter (fun _=>false)=[] by simp] at c
 exact bo (aw (tT []) (lM c) (nil_of ρ))
section
variable {G T:List Pl}{W:List Wy}{P X:List Int}
theorem Fx(h:Wd G T W):jw [ax G T W]=some (.list (oe (fin G T W).1))/\fv [ax G T W,.list (oe (fin G T W).1)]=some (af (fin G T W).2)/\(fin G T W).2.length=W.length:=by
 obtain⟨e1,i⟩:=AZ h
 have e2:=xN h i.mem
 rw[<- i.eq] at e2
 exact⟨e1,e2,i.len⟩
end
section
variable {G T:List Pl}{W:List Wy}{P X c:List Int}{b:Bool}{k:Nat}
noncomputable def MF(G T:List Pl)(W:List Wy):List Int->List (Nat×Int)->Prop
 | c,[]=>kY G T W c=none
 | c,p::r=>kY G T W c=some p/\MF G T W (low c p) r
theorem DL(h:Wd G T W):∀ (n:Nat) (s:Sp),mea s.2 < n->Off s.2->∃r,MF G T W s.2 r/\lp (CG G T W) (spS G T W) n s=(s.1++r,r.foldl low s.2)
 | 0,s,hm,_=>absurd hm (by omega)
 | n+1,s,hm,ho=>by
  rw[lp]
  cases e:kY G T W s.2 with
  | none =>
   have:CG G T W s=false:=by unfold CG;rw[e];rfl
   rw[this]
   exact⟨[],e,by simp⟩
  | some p =>
   have hc:CG G T W s=true:=by unfold CG;rw[e];rfl
   obtain⟨h1,h2,h3⟩:=sX h ho e
   have hs:=nQ e
   obtain⟨r,h4,h5⟩:=DL h n (spS G T W s) (by rw[hs];have:=o5 h2 h3;show mea (s.2.set p.1 p.2) < n;omega) (by rw[hs];exact kH ho h2)
   rw[hc,if_pos rfl]
   refine⟨p::r,⟨e,?_⟩,?_⟩
   ·rw[hs] at h4
    exact h4
   ·rw[h5,hs]
    simp[low]
theorem GE(h:Wd G T W):MF G T W (bI W) (fin G T W).1/\(fin G T W).2=(fin G T W).1.foldl low (bI W):=by
 obtain⟨r,h1,h2⟩:=DL h Rf.turns ([],bI W) (Nat.lt_of_le_of_lt h.mea (by decide)) (pf h)
 unfold fin
 rw[h2]
 exact⟨h1,rfl⟩
noncomputable def Lx(G T:List Pl)(W:List Wy)(c:List Int)(p:Nat×Int):Bool:=decide ((cE G T W c).getD p.1 0<=p.2)&&decide (p.2 < (aC false G T W c).getD p.1 0)
noncomputable def cb(G T:List Pl)(W:List Wy):List Int->List (Nat×Int)->Option (List Int)
 | c,[]=>some c
 | c,p::r=>if Lx G T W c p=true then cb G T W (low c p) r else none
theorem M8{p:Nat×Int}(e:kY G T W c=some p):Lx G T W c p=true:=by
 obtain⟨k,v⟩:=p
 obtain⟨_,rfl,h⟩:=l4 e
 unfold Lx
 simp only[zF,zJ]
 omega
theorem EO:∀ {r:List (Nat×Int)}{c:List Int},MF G T W c r->∀n,n<=r.length->cb G T W c (r.take n)=some ((r.take n).foldl low c)/\kY G T W ((r.take n).foldl low c)=r[n]?
 | [],c,h,n,hn=>by
  have:n=0:=by simpa using hn
  subst this
  exact⟨rfl,h⟩
 | p::r,c,h,0,_=>⟨rfl,h.1⟩
 | p::r,c,h,n+1,hn=>by
  obtain⟨h1,h2⟩:=EO h.2 n (by simpa using hn)
  rw[List.take_succ_cons,yJ,cb,if_pos (M8 h.1)]
  exact⟨h1,by simpa using h2⟩
theorem Kc(c:List Int)(p:Nat×Int)(k:Nat):(low c p).getD k 0=if p.1=k/\k < c.length then p.2 else c.getD k 0:=bp c p.1 p.2 k
theorem wK(h:Wd G T W):∀ {r:List (Nat×Int)}{c:List Int},Off c->(∀k,c.getD k 0<=9)->MF G T W c r->∀p∈r,p.1 < W.length/\0<=p.2/\p.2<=9
 | p::r,c,ho,h9,hc,q,hq=>by
  obtain⟨h1,h2,h3⟩:=sX h ho hc.1
  rcases zR.mp hq with z|z
  ·subst z
   have:=h9 q.1
   exact⟨h1,h2,by omega⟩
  ·refine wK h (kH ho h2:Off (low c p)) (fun k=>?_) hc.2 q z
   have h4:=h9 k
   have h5:=h9 p.1
   show (low c p).getD k 0<=9
   rw[Kc]
   split<;>omega
theorem N3(h:Wd G T W)(k:Nat):(bI W).getD k 0<=9:=by
 by_cases hk:k < W.length
 ·rw[lF hk]
  exact (h.wr _ (u3 hk)).2.2.2
 ·rw[fE (by rw[gQ];omega)]
  omega
theorem Dx(h:Wd G T W)(x:Pn G T W X)(b:Bool):aC b G T W X=X:=by
 refine uu (by rw[bT,x.len]) fun k hk=>?_
 rw[bT] at hk
 have hi:=cT h b hk
 rw[dP h b _ hk]
 refine Js (X:=vl X) (bE h hi) (fun q hq=>?_) (x.le_sm h hi) (fun q hq=>.inl ?_) k (bH h b hk)
 ·have hq':=(gz h hk hq).1
  have:=x.bd q hq'
  unfold vl mm
  omega
 ·have hq':=(gz h hk hq).1
  have:=x.bd q hq'
  unfold vl mm
  omega
theorem none_of(h:Wd G T W)(x:Pn G T W (aC false G T W c)):kY G T W c=none:=by
 cases e:kY G T W c with
 | none=>rfl
 | some p =>
  obtain⟨k,v⟩:=p
  obtain⟨_,_,hlt⟩:=l4 e
  unfold cE at hlt
  rw[Dx h x true] at hlt
  omega
end
section
variable {G T:List Pl}{W:List Wy}{P X c:List Int}{r:List (Nat×Int)}{k:Nat}
theorem DD{fa fb fc:Dl.Env->Option D}{ρ:Dl.Env}{x y z:Int}(ha:fa ρ=some (.int x))(hb:fb ρ=some (.int y))(hc:fc ρ=some (.int z)):gw Dl.tq Dl.xb fa fb fc ρ=some (.bool (decide (x<=y)&&decide (y < z))):=by
 simp only[gw,ha,hb,hc,zA]
 have e:Dl.tq (.int x) (.int y)=some (.bool (decide (x<=y))):=rfl
 rw[e]
 cases decide (x<=y)<;>rfl
noncomputable def pD(p:Nat×Int):D:=af [((p.1:Nat):Int),p.2]
theorem Es(r:List (Nat×Int)):oe r=r.map pD:=by unfold oe;rw[zM];rfl
theorem Ms(p:Nat×Int):av (pD p) (.int 0)=some (nD p.1):=rfl
theorem NH(p:Nat×Int):av (pD p) (.int 1)=some (.int p.2):=rfl
def LK(W:List Wy)(r:List (Nat×Int)):Prop:=∀p∈r,p.1 < W.length/\0<=p.2/\p.2<=9
theorem yW(h:Wd G T W){p:Nat×Int}(hp:p.1 < W.length/\0<=p.2/\p.2<=9):cq [ax G T W,pD p]=some (.bool true):=by
 have e1:aU [pD p,.int 2,.int 2]=some (.bool true):=by rw[dU (d:=pD p) rfl];rfl
 have e2:bh [nD p.1,.int ((W.length:Nat):Int)]=some (.bool true):=by
  rw[gR rfl]
  simp[whole]
  omega
 have e3:aK [.int p.2,.int 0,.int 9]=some (.bool true):=by
  rw[eO rfl]
  simp[whole,hp.2.1,hp.2.2]
 refine aH ?_
 show d7 [.val (ax G T W),.val (pD p)]=_
 unfold d7
 exact aJ (qA (call_of e1 rfl rfl) (qA (call_of e2 (cons_of (aw (Ms p) rfl rfl) (cons_of (pV (l:=W) (k:=ar) (aw (oT G T W) rfl rfl)) rfl)) rfl) (call_of e3 (cons_of (aw (NH p) rfl rfl) rfl) rfl)))
theorem B4(h:Wd G T W)(hc:c.length=W.length){p:Nat×Int}(hp:p.1 < W.length):iP [ax G T W,af c,pD p]=some (.bool (Lx G T W c p)):=by
 have a0:=bG h hc false
 have a1:=bG (off:=aC false G T W c) h (bT _ _ _ _ _) true
 refine aH ?_
 show ku [.val (ax G T W),.val (af c),.val (pD p),.non,.non]=_
 unfold ku
 refine (ai (aW (call_of a0 rfl rfl) (call_of a0 rfl rfl) rfl)).trans ?_
 refine (ai (aW (call_of a1 rfl rfl) (call_of a1 rfl rfl) rfl)).trans ?_
 exact aJ (DD (aw (gu (off:=cE G T W c) (i:=p.1) (by unfold cE;rw[bT];exact hp)) rfl (aw (Ms p) rfl rfl)) (aw (NH p) rfl rfl) (aw (gu (i:=p.1) (by rw[bT];exact hp)) rfl (aw (Ms p) rfl rfl)))
noncomputable def NN:ak->Option Out:=(aq (eL (aX (fB (ah 3 iP (aa (ab 0) (aa (ab 2) (aa (ab 3) ae)))))) (aD (fC .none)) eF) (Dl.ay 2 [2,3] (ah 3 bD (aa (ab 2) (aa (f2 av (ab 3) (fC (.int 0))) (aa (f2 av (ab 3) (fC (.int 1))) ae))))))
theorem Bg(h:Wd G T W){d:D}:∀ (r:List (Nat×Int)) (c:List Int) (x:Slot),LK W r->c.length=W.length ->
  (cb G T W c r=none->dc (mQ 3) NN (r.map pD) [.val (ax G T W),.val d,.val (af c),x]=some (.rt .none))/\(∀c',cb G T W c r=some c'->∃y,dc (mQ 3) NN (r.map pD) [.val (ax G T W),.val d,.val (af c),x]=some (.nx [.val (ax G T W),.val d,.val (af c'),y]))
 | [],c,x,_,_=>⟨(fun e=>nomatch e),(fun c' e=>by cases e;exact⟨x,rfl⟩)⟩
 | p::r,c,x,hf,hc=>by
  have hw:=h.wl
  have hp:=hf p zE
  have ef:=B4 h hc hp.1
  have el:=mZ (c:=c) (i:=p.1) (v:=p.2) (by rw[hc];exact hp.1) (by omega)
  obtain⟨i1,i2⟩:=Bg h (d:=d) r (low c p) (.val (pD p)) (fun q hq=>hf q (zC _ hq)) (by rw[BG,hc])
  have ht:mQ 3 [.val (ax G T W),.val d,.val (af c),x] (pD p)=some [.val (ax G T W),.val d,.val (af c),.val (pD p)]:=rfl
  rw[zI,dc,ht,zA,cb]
  cases e:Lx G T W c p with
  | false =>
   rw[e] at ef
   have hb:NN [.val (ax G T W),.val d,.val (af c),.val (pD p)]=some (.rt .none):=iq ((eW (bK (bo (call_of ef rfl rfl)))).trans (aJ rfl))
   rw[hb]
   exact⟨fun _=>rfl,fun c' z=>by simp at z⟩
  | true =>
   rw[e] at ef
   have hb:NN [.val (ax G T W),.val d,.val (af c),.val (pD p)]=some (.nx [.val (ax G T W),.val d,.val (af (low c p)),.val (pD p)]) :=
    (ai (bS (bK (bo (call_of ef rfl rfl))))).trans (aW (call_of el (cons_of rfl (cons_of (aw (Ms p) rfl rfl) (cons_of (aw (NH p) rfl rfl) rfl))) rfl) (call_of el (cons_of rfl (cons_of (aw (Ms p) rfl rfl) (cons_of (aw (NH p) rfl rfl) rfl))) rfl) rfl)
   rw[hb]
   exact⟨fun z=>i1 (by simpa using z),fun c' z=>i2 c' (by simpa using z)⟩
noncomputable def ON:Option (List Int)->D|none=>.none|some c=>af c
theorem k5(h:Wd G T W)(hf:LK W r)(hr:r.length<=1000):cK [ax G T W,.list (r.map pD)]=some (ON (cb G T W (bI W) r)):=by
 refine aH ?_
 show eU [.val (ax G T W),.val (.list (r.map pD)),.non,.non]=_
 unfold eU
 have c:ao 1 [0] (aR (ab 1)) (fG 0) (fun _=>some true) (ah 2 cq (aa (ab 1) (aa (ab 0) ae))) [some (ax G T W),some (.list (r.map pD)),none,none]=some ((r.map pD).map fun _=>.bool true) :=
  bW (ds:=r.map pD) rfl (by rw[zD];omega) fun d hd=>by
   obtain⟨p,hp,rfl⟩:=zQ.mp hd
   exact call_of (yW h (hf p hp)) rfl rfl
 have ha:bf jo (aa (bZ (ao 1 [0] (aR (ab 1)) (fG 0) (fun _=>some true) (ah 2 cq (aa (ab 1) (aa (ab 0) ae))))) ae) [some (ax G T W),some (.list (r.map pD)),none,none]=some (.bool true):=by
  rw[qo (lM c)]
  have:∀l:List D,boolsOf (l.map fun _=>PyData.bool true)=some (l.map fun _=>true):=fun l=>by
   induction l with
   | nil=>rfl
   | cons d l ih=>simp[boolsOf,ih]
  simp only[jo,oneOf,zA,this,zB]
  simp
 have hl:GB "list" (ab 1) [some (ax G T W),some (.list (r.map pD)),none,none]=some (.bool true):=rfl
 refine (ai (bS (mX (bK (bo hl)) (bK (bo ha))))).trans ?_
 refine (ai (aW (call_of (iC h) rfl rfl) (call_of (iC h) rfl rfl) rfl)).trans ?_
 obtain⟨f1,f2'⟩:=Bg h (d:=.list (r.map pD)) r (bI W) .non hf (gQ W)
 cases e:cb G T W (bI W) r with
 | none=>exact iq (dF (f1 e) rfl rfl)
 | some c' =>
  obtain⟨y,e2⟩:=f2' c' e
  exact (ai (dF e2 rfl rfl)).trans (aJ rfl)
theorem m8(h:Wd G T W)(hf:LK W r)(hr:r.length<=1000):cL [ax G T W,.list (r.map pD)]=some (ON (cb G T W (bI W) r)):=by
 refine aH ?_
 show kC [.val (ax G T W),.val (.list (r.map pD))]=_
 unfold kC
 refine (ai (eB (call_of (bM h) rfl rfl))).trans ?_
 exact aJ (call_of (k5 h hf hr) rfl rfl)
theorem AM(h:Wd G T W)(hf:LK W r)(hr:r.length<=1000):fU [ax G T W,.list (r.map pD)]=some (.bool (cb G T W (bI W) r).isSome):=by
 refine aH ?_
 show oX [.val (ax G T W),.val (.list (r.map pD))]=_
 unfold oX
 refine aJ (aw ?_ (call_of (m8 h hf hr) rfl rfl) rfl)
 cases cb G T W (bI W) r<;>rfl
theorem Bb(h:Wd G T W)(x:Pn G T W X)(hf:LK W r)(hr:r.length<=1000)(e:cb G T W (bI W) r=some c)(hc:c.length=W.length):cO [ax G T W,af X,.list (r.map pD)]=some (.bool (decide (Dm G T W X=[])&&decide (X=aC false G T W c))):=by
 have eb:=k5 h hf hr
 rw[e] at eb
 have es:=pA h x.len (x.smP h)
 refine aH ?_
 show oY [.val (ax G T W),.val (af X),.val (.list (r.map pD)),.non]=_
 unfold oY
 refine (ai (eB (call_of (lY h x) rfl rfl))).trans ?_
 refine (ai (aW (call_of eb rfl rfl) (call_of eb rfl rfl) rfl)).trans ?_
 cases hs:decide (Dm G T W X=[]) with
 | false =>
  rw[hs] at es
  refine iq ((eW ?_).trans (aJ rfl))
  have h1:fB (f2 mi (ab 3) (fC .none)) (bg [.val (ax G T W),.val (af X),.val (.list (r.map pD)),.val (af c)])=some false:=rfl
  have h2:aX (fB (ah 2 dQ (aa (ab 0) (aa (ab 1) ae)))) (bg [.val (ax G T W),.val (af X),.val (.list (r.map pD)),.val (af c)])=some true:=bK (bo (call_of es rfl rfl))
  show iD _ _ (bg [.val (ax G T W),.val (af X),.val (.list (r.map pD)),.val (af c)])=_
  simp only[iD,h1,h2,zA]
 | true =>
  rw[hs] at es
  refine (ai (bS (mX rfl (bK (bo (call_of es rfl rfl)))))).trans ?_
  exact aJ (aw (pO _ _) rfl (call_of (bG h hc false) rfl rfl))
noncomputable def Gz(W:List Wy)(P c:List Int):Bool:=(List.range W.length).all fun k=>decide (P.getD k 0<=c.getD k 0)
theorem GY:Gz W P c=true↔∀k,k < W.length->P.getD k 0<=c.getD k 0:=by
 simp only[Gz,List.all_eq_true,zT,zJ]
theorem v8(h:Wd G T W)(x:Pn G T W X)(hc:c.length=W.length):e8 [ax G T W,af X,af c]=some (.bool (Gz W X c)):=by
 have hw:=h.wl
 refine aH ?_
 show gX [.val (ax G T W),.val (af X),.val (af c)]=_
 unfold gX
 refine (ai (eB (call_of (bM h) rfl rfl))).trans ?_
 have hn:fB (f2 dg (bf bq (aa (ab 1) ae)) (bf bq (aa (ab 2) ae))) [some (ax G T W),some (af X),some (af c)]=some false:=by
  refine bo (aw (IF ((W.length:Nat):Int)) ?_ ?_)
  ·have:=pV (l:=X) (k:=PyData.int) (f:=ab 1) (ρ:=[some (ax G T W),some (af X),some (af c)]) rfl
   rw[x.len] at this
   exact this
  ·have:=pV (l:=c) (k:=PyData.int) (f:=ab 2) (ρ:=[some (ax G T W),some (af X),some (af c)]) rfl
   rw[hc] at this
   exact this
 refine (ai (bS (mX (bK (bo (call_of (k8 h x) rfl rfl))) hn))).trans ?_
 have hz:gh (aa (ab 1) (aa (ab 2) ae)) [some (ax G T W),some (af X),some (af c)]=some ((List.range X.length).map fun i=>.tuple [.int (X.getD i 0),.int (c.getD i 0)]):=by
  rw[<- zip_rows (by rw[x.len,hc])]
  rfl
 have cc:=ma (cs:=[]) (tt:=fun _=>some true) (te:=f2 Dl.tq (ab 0) (ab 1)) (p:=fun _=>true) (h:=fun k=>.bool (decide (X.getD k 0<=c.getD k 0))) hz (by rw[x.len];omega) fun i hi=>⟨rfl,fun _=>rfl⟩
 refine aJ ?_
 show bf jo (aa (bZ (ao 2 [] (gh (aa (ab 1) (aa (ab 2) ae))) (gN 0 1) (fun _=>some true) (f2 Dl.tq (ab 0) (ab 1)))) ae) [some (ax G T W),some (af X),some (af c)]=_
 rw[qo (lM cc),show (List.range X.length).filter (fun _=>true)=List.range X.length by simp,nq,x.len]
 rfl
theorem u4(h:Wd G T W):jf [ax G T W]=some (.list ((fin G T W).1.map pD)):=by
 have e:=(Fx h).1
 rw[Es] at e
 refine aH ?_
 show oU [.val (ax G T W)]=_
 unfold oU
 refine (ai (eB (call_of (bM h) rfl rfl))).trans ?_
 exact aJ (call_of e rfl rfl)
end
noncomputable def vO(l:Int)(fs:List (List Int)):List (List Int):=(fs.map fun r=>(List.range (l+1).toNat).map fun m=>r++[((m:Nat):Int)]).flatten
noncomputable def BB:List Wy->List (List Int)->List (List Int)
 | [],fs=>fs
 | w::W,fs=>BB W (vO w.2.2 fs)
theorem uU{l:Int}{fs:List (List Int)}{r:List Int}:r∈vO l fs↔∃r'∈fs,∃v:Int,0<=v/\v<=l/\r=r'++[v]:=by
 unfold vO
 rw[List.mem_flatten]
 constructor
 ·rintro⟨L,hL,hr⟩
  obtain⟨r',h',rfl⟩:=zQ.mp hL
  obtain⟨m,hm,rfl⟩:=zQ.mp hr
  rw[zT] at hm
  exact⟨r',h',_,by omega,by omega,rfl⟩
 ·rintro⟨r',h',v,h0,h1,rfl⟩
  exact⟨_,zQ.mpr ⟨r',h',rfl⟩,zQ.mpr ⟨v.toNat,by rw[zT];omega,by rw[show ((v.toNat:Nat):Int)=v by omega]⟩⟩
theorem AD:∀ {W:List Wy}{fs:List (List Int)}{r:List Int},r∈BB W fs↔∃r'∈fs,∃q:List Int,q.length=W.length/\(∀k,k < W.length->0<=q.getD k 0/\q.getD k 0<=(aI W k).2.2)/\r=r'++q
 | [],fs,r=>by
  unfold BB
  constructor
  ·intro h
   exact⟨r,h,[],rfl,fun k hk=>by simp at hk,by simp⟩
  ·rintro⟨r',h',q,hq,_,rfl⟩
   have:q=[]:=List.length_eq_zero_iff.mp hq
   subst this
   simpa using h'
 | w::W,fs,r=>by
  rw[BB,AD]
  constructor
  ·rintro⟨r',h',q,hq,hb,rfl⟩
   obtain⟨r2,h2,v,h0,h1,rfl⟩:=uU.mp h'
   refine⟨r2,h2,v::q,by simp[hq],fun k hk=>?_,by simp⟩
   cases k with
   | zero=>exact⟨h0,h1⟩
   | succ k=>exact hb k (by simpa using hk)
  ·rintro⟨r',h',q,hq,hb,rfl⟩
   cases q with
   | nil=>simp at hq
   | cons v q =>
    refine⟨r'++[v],uU.mpr ⟨r',h',v,(hb 0 (by simp)).1,(hb 0 (by simp)).2,rfl⟩,q,by simpa using hq,fun k hk=>hb (k+1) (by simpa using hk),by simp⟩
theorem AY(l:Int)(fs:List (List Int)):(vO l fs).length=fs.length * (l+1).toNat:=by
 unfold vO
 induction fs with
 | nil=>simp
 | cons r fs ih=>rw[zI,List.flatten_cons,zN,ih,zL,Nat.add_mul];simp;omega
section
variable {G T:List Pl}{W:List Wy}{P X:List Int}
noncomputable def wB:ak->Option Out:=(vC 3 [2,4] (ao 1 [4] (bF (aa (f2 Dl.aM (f2 av (ab 2) (fC (.int 2))) (fC (.int 1))) ae)) (fG 0) (fun _=>some true) (f2 Dl.aM (ab 1) (aS (aa (ab 0) ae)))))
noncomputable def ext(l:Int)(r:List Int):List (List Int):=(List.range (l+1).toNat).map fun m=>r++[((m:Nat):Int)]
theorem LZ{d:D}{x1:Slot}{w:Wy}{acc:List (List Int)}{r:List Int}(hl:0<=w.2.2/\w.2.2<=9)(hr:r.length<=100)(ha:acc.length<=3000):wB [.val d,x1,.val (ar w),.own (acc.map af),.val (af r)]=some (.nx [.val d,x1,.val (ar w),.own ((acc++ext w.2.2 r).map af),.val (af r)]):=by
 have c:ao 1 [4] (bF (aa (f2 Dl.aM (f2 av (ab 2) (fC (.int 2))) (fC (.int 1))) ae)) (fG 0) (fun _=>some true) (f2 Dl.aM (ab 1) (aS (aa (ab 0) ae))) (cn [.val d,x1,.val (ar w),.own (acc.map af),.val (af r)])=some ((List.range (w.2.2+1).toNat).map fun m=>af (r++[((m:Nat):Int)])):=by
  refine kN (pU (n:=(w.2.2+1).toNat) (cons_of ?_ rfl) (by omega)) (by rw[zS];omega) fun m _=>aw (IK (a:=r) (b:=[((m:Nat):Int)]) (by simp;omega)) rfl (MN rfl)
  rw[show nD (w.2.2+1).toNat=.int (w.2.2+1) by show PyData.int _=_;congr 1;omega]
  exact aw (d6 w.2.2 1) (aw (uL w) rfl rfl) rfl
 have hh:hand [2,4] 0 [Slot.val d,x1,.val (ar w),.own (acc.map af),.val (af r)]=[Slot.val d,x1,.val (ar w),.own (acc.map af),.val (af r)]:=rfl
 have hz:(acc.map af).length+((List.range (w.2.2+1).toNat).map fun m=>af (r++[((m:Nat):Int)])).length<=sizeLine:=by
  rw[zD,zD,zS]
  exact yE (show acc.length+(w.2.2+1).toNat<=4000 by omega) (by decide)
 have e:(acc++ext w.2.2 r).map af=acc.map af++(List.range (w.2.2+1).toNat).map fun m=>af (r++[((m:Nat):Int)]):=by
  rw[List.map_append,ext,zM]
  rfl
 unfold wB vC
 rw[hh,c,zA,e]
 simp only[nI,List.getElem?_cons_succ,List.getElem?_cons_zero,hz,if_true,zB,zA]
 rfl
noncomputable def wO:ak->Option Out:=(aq (aO 3 [] (cG ae)) (aq (fH [1] (aR (ab 1)) (mQ 4) wB) (Dl.ay 1 [3] (ab 3))))
theorem Dr(l:Int)(r:List Int)(fs:List (List Int)):vO l (r::fs)=ext l r++vO l fs:=by simp[vO,ext]
theorem Eu{d:D}{x1:Slot}{w:Wy}(hl:0<=w.2.2/\w.2.2<=2):∀ (fs acc:List (List Int)) (x4:Slot),(∀r∈fs,r.length<=16)->acc.length+3 * fs.length<=3000->∃y4,dc (mQ 4) wB (fs.map af) [.val d,x1,.val (ar w),.own (acc.map af),x4]=some (.nx [.val d,x1,.val (ar w),.own ((acc++vO w.2.2 fs).map af),y4])
 | [],acc,x4,_,_=>⟨x4,by simp[vO,dc]⟩
 | r::fs,acc,x4,hr,hb=>by
  have he:(ext w.2.2 r).length<=3:=by unfold ext;rw[zD,zS];omega
  rw[zL] at hb
  obtain⟨y4,e⟩:=Eu (d:=d) (x1:=x1) hl fs (acc++ext w.2.2 r) (.val (af r)) (fun q hq=>hr q (zC _ hq)) (by rw[zN];omega)
  have h1:=LZ (d:=d) (x1:=x1) (w:=w) (acc:=acc) (r:=r) ⟨hl.1,by omega⟩ (by have:=hr r zE;omega) (by omega)
  have ht:mQ 4 [.val d,x1,.val (ar w),.own (acc.map af),x4] (af r)=some [.val d,x1,.val (ar w),.own (acc.map af),.val (af r)]:=rfl
  refine⟨y4,?_⟩
  rw[zI,dc,ht,zA,h1]
  show dc (mQ 4) wB (fs.map af) _=_
  rw[e,Dr,List.append_assoc]
theorem K2{d:D}{s1 x3 x4:Slot}{w:Wy}{fs:List (List Int)}(hl:0<=w.2.2/\w.2.2<=2)(hr:∀r∈fs,r.length<=16)(hf:fs.length<=81)(h1:s1=.own (fs.map af)\/s1=.val (.list (fs.map af))):∃y3 y4,wO [.val d,s1,.val (ar w),x3,x4]=some (.nx [.val d,.val (.list ((vO w.2.2 fs).map af)),.val (ar w),y3,y4]):=by
 obtain⟨y4,e⟩:=Eu (d:=d) (x1:=.val (.list (fs.map af))) hl fs [] x4 hr (by simp;omega)
 rw[List.nil_append] at e
 have t1:aO 3 [] (cG ae) [.val d,s1,.val (ar w),x3,x4]=some (.nx [.val d,s1,.val (ar w),.own [],x4]):=gg (u6 (ds:=[]) rfl (by simp)) rfl
 have hh:hand [1] 0 [.val d,s1,.val (ar w),.own [],x4]=[Slot.val d,.val (.list (fs.map af)),.val (ar w),.own [],x4]:=by
  rcases h1 with rfl|rfl<;>rfl
 unfold wO
 rw[ai t1]
 refine⟨.val (.list ((vO w.2.2 fs).map af)),y4,?_⟩
 refine (ai (dF e rfl hh)).trans ?_
 exact lz (ρ':=[.val d,.val (.list (fs.map af)),.val (ar w),.val (.list ((vO w.2.2 fs).map af)),y4]) rfl (d:=.list ((vO w.2.2 fs).map af)) rfl rfl rfl (.inl rfl)
theorem IL{l:Int}{fs:List (List Int)}{n:Nat}(h:∀r∈fs,r.length<=n):∀r∈vO l fs,r.length<=n+1:=fun r hr=>by
 obtain⟨r',h',v,_,_,rfl⟩:=uU.mp hr
 have:=h r' h'
 simp
 omega
theorem F7{d:D}:∀ (W:List Wy) (fs:List (List Int)) (s1 x2 x3 x4:Slot),(∀w∈W,0<=w.2.2/\w.2.2<=2)->fs.length * 3 ^ W.length<=81->(∀r∈fs,r.length<=16 - W.length)->W.length<=16->(s1=.own (fs.map af)\/s1=.val (.list (fs.map af))) ->
  ∃s1' y2 y3 y4,dc (mQ 2) wO (W.map ar) [.val d,s1,x2,x3,x4]=some (.nx [.val d,s1',y2,y3,y4])/\(s1'=.own ((BB W fs).map af)\/s1'=.val (.list ((BB W fs).map af)))
 | [],fs,s1,x2,x3,x4,_,_,_,_,h1=>⟨s1,x2,x3,x4,rfl,h1⟩
 | w::W,fs,s1,x2,x3,x4,hl,hf,hr,hw,h1=>by
  rw[zL] at hf hr hw
  have hp:1<=3 ^ W.length:=Nat.one_le_pow _ _ (by omega)
  have hf1:fs.length<=81:=by
   refine yE ?_ hf
   exact Nat.le_mul_of_pos_right _ (Nat.pow_pos (by omega))
  have hlw:=hl w zE
  obtain⟨y3,y4,e⟩:=K2 (d:=d) (x3:=x3) (x4:=x4) hlw (fun r hr'=>by have:=hr r hr';omega) hf1 h1
  have hll:(vO w.2.2 fs).length<=fs.length * 3:=by rw[AY];exact Nat.mul_le_mul_left _ (by omega)
  obtain⟨s1',z2,z3,z4,e2,h2⟩:=F7 (d:=d) W (vO w.2.2 fs) (.val (.list ((vO w.2.2 fs).map af))) (.val (ar w)) y3 y4 (fun q hq=>hl q (zC _ hq)) (by
   refine yE (Nat.mul_le_mul_right _ hll) ?_
   rw[Nat.mul_assoc,<- Nat.pow_succ']
   exact hf) (fun r hr'=>by
   have:=IL (n:=16 - (W.length+1)) hr r hr'
   omega) (by omega) (.inr rfl)
  have ht:mQ 2 [.val d,s1,x2,x3,x4] (ar w)=some [.val d,s1,.val (ar w),x3,x4]:=rfl
  refine⟨s1',z2,z3,z4,?_,h2⟩
  rw[zI,dc,ht,zA,e]
  exact e2
theorem D9(hl:∀w∈W,0<=w.2.2/\w.2.2<=2)(hw:W.length<=4):dB [.tuple (W.map ar)]=some (.list ((BB W [[]]).map af)):=by
 obtain⟨s1',z2,z3,z4,e2,h2⟩:=F7 (d:=.tuple (W.map ar)) W [[]] (.own ([[]].map af)) .non .non .non hl (by
  rw[List.length_singleton,Nat.one_mul]
  exact yE (Nat.pow_le_pow_right (by omega) hw) (by decide)) (fun r hr=>by simp at hr;subst hr;simp) (by omega) (.inl rfl)
 refine aH ?_
 show dG [.val (.tuple (W.map ar)),.non,.non,.non,.non]=_
 unfold dG
 refine (ai (gg (ds:=[[]].map af) (u6 (cons_of (tup_is (ds:=[]) rfl (by simp)) rfl) (by simp)) rfl)).trans ?_
 refine (ai (dF e2 rfl rfl)).trans ?_
 refine aJ ?_
 rcases h2 with rfl|rfl<;>rfl
theorem qk{α:Type}{tt:Dl.Env->Option Bool}{te:Dl.Env->Option D}{r:List (Option D)}{g f:α->D}{q:α->Bool}:∀ (l:List α),(∀x∈l,tt (some (g x)::r)=some (q x)/\(q x=true->te (some (g x)::r)=some (f x)))->cx (fG 0) tt te (none::r) (l.map g)=some ((l.filter q).map f)
 | [],_=>rfl
 | x::l,h=>by
  have ih:=qk (tt:=tt) (te:=te) (r:=r) (g:=g) (f:=f) (q:=q) l fun y hy=>h y (zC _ hy)
  obtain⟨h1,h2⟩:=h x zE
  have hg:fG 0 (none::r) (g x)=some (some (g x)::r):=rfl
  rw[zI,cx,hg,zA,h1,zA,List.filter_cons]
  cases e:q x with
  | true =>
   rw[if_pos rfl,if_pos rfl,h2 e,zA,ih]
   rfl
  | false =>
   rw[if_neg (by simp),if_neg (by simp),ih]
theorem nL{α:Type}{cs:List Nat}{fi:Dl.Env->Option (List D)}{tt:Dl.Env->Option Bool}{te:Dl.Env->Option D}{ρ:Dl.Env}{l:List α}{g f:α->D}{q:α->Bool}(hfi:fi ρ=some (l.map g))(hl:l.length<=1000)(hh:∀x∈l,tt (some (g x)::cs.map fun j=>(ρ[j]?).getD none)=some (q x)/\(q x=true->te (some (g x)::cs.map fun j=>(ρ[j]?).getD none)=some (f x))):ao 1 cs fi (fG 0) tt te ρ=some ((l.filter q).map f):=by
 have:=qk l hh
 simp only[ao,hfi,zA,eG,List.replicate,List.cons_append,List.nil_append,this]
 refine bc ?_
 rw[zD]
 refine yE (List.length_filter_le _ _) ?_
 omega
noncomputable def mB:ak->Option Out:=(Dl.ay 1 [1,2] (f2 Dl.eQ (ab 1) (f2 Dl.aM (f2 av (ab 2) (fC (.int 2))) (fC (.int 1)))))
theorem EA{d:D}:∀ (W:List Wy) (p:Nat) (x2:Slot),(∀w∈W,0<=w.2.2/\w.2.2<=2)->p * 3 ^ W.length<=81->∃p' y2,dc (mQ 2) mB (W.map ar) [.val d,.val (nD p),x2]=some (.nx [.val d,.val (nD p'),y2])/\p'<=81
 | [],p,x2,_,hp=>⟨p,x2,rfl,by simpa using hp⟩
 | w::W,p,x2,hl,hp=>by
  have hlw:=hl w zE
  rw[zL] at hp
  have hp1:p<=81:=yE (Nat.le_mul_of_pos_right _ (Nat.pow_pos (by omega))) hp
  obtain⟨p',y2,e,h2⟩:=EA (d:=d) W (p * (w.2.2+1).toNat) (.val (ar w)) (fun q hq=>hl q (zC _ hq)) (by
   refine yE (Nat.mul_le_mul_right _ (Nat.mul_le_mul_left p (show (w.2.2+1).toNat<=3 by omega))) ?_
   rw[Nat.mul_assoc,<- Nat.pow_succ']
   exact hp)
  have ht:mQ 2 [.val d,.val (nD p),x2] (ar w)=some [.val d,.val (nD p),.val (ar w)]:=rfl
  have hm:mB [.val d,.val (nD p),.val (ar w)]=some (.nx [.val d,.val (nD (p * (w.2.2+1).toNat)),.val (ar w)]):=by
   have hv:nD (p * (w.2.2+1).toNat)=.int (((p:Nat):Int) * (w.2.2+1)):=by
    show PyData.int _=_
    rw[Int.natCast_mul,show (((w.2.2+1).toNat:Nat):Int)=w.2.2+1 by omega]
   rw[hv]
   unfold mB
   exact bP (aw (dv (.inl ⟨by omega,by omega⟩)) rfl (aw (d6 _ _) (aw (uL w) rfl rfl) rfl)) rfl
  refine⟨p',y2,?_,h2⟩
  rw[zI,dc,ht,zA,hm]
  exact e
theorem uq(hl:∀w∈W,0<=w.2.2/\w.2.2<=2)(hw:W.length<=4):fZ [ax G T W]=some .none:=by
 obtain⟨p',y2,e,h2⟩:=EA (d:=ax G T W) W 1 .non hl (by rw[Nat.one_mul];exact yE (Nat.pow_le_pow_right (by omega) hw) (by decide))
 have:ee [.val (ax G T W),.non,.non]=some (.nx [.val (ax G T W),.val (nD p'),y2]):=by
  unfold ee
  refine (ai (bP (d:=.int 1) rfl rfl)).trans ?_
  refine (ai (dF e rfl rfl)).trans ?_
  exact bS (bo (aw ((g8 _ _).trans (by rw[yA (by omega)])) rfl rfl))
 show (ee [.val (ax G T W),.non,.non]).map _=_
 rw[this]
 rfl
noncomputable def DX(G T:List Pl)(W:List Wy):List (List Int):=(BB W [[]]).filter (KE G T W)
noncomputable def allR(G T:List Pl)(W:List Wy):List (List Int):=(DX G T W).filter fun P=>decide (Dm G T W P=[])
theorem Bv{r:List Int}:r∈BB W [[]]↔r.length=W.length/\∀k,k < W.length->0<=r.getD k 0/\r.getD k 0<=(aI W k).2.2:=by
 rw[AD]
 constructor
 ·rintro⟨r',h',q,hq,hb,rfl⟩
  simp at h'
  subst h'
  exact⟨hq,hb⟩
 ·rintro⟨h1,h2⟩
  exact⟨[],by simp,r,h1,h2,rfl⟩
theorem xu:X∈DX G T W↔Pn G T W X:=by
 unfold DX
 rw[List.mem_filter,Bv]
 constructor
 ·rintro⟨⟨h1,h2⟩,h3⟩
  exact (vB h1).mp h3
 ·intro p
  exact⟨⟨p.len,p.bd⟩,(vB p.len).mpr p⟩
theorem wX(h:Wd G T W):X∈allR G T W↔Pn G T W X/\Rs G T W X:=by
 unfold allR
 rw[List.mem_filter,xu,zJ]
 constructor
 ·rintro⟨p,r⟩
  exact⟨p,(ke h p).mp r⟩
 ·rintro⟨p,r⟩
  exact⟨p,(ke h p).mpr r⟩
theorem AL:∀ (W:List Wy) (fs:List (List Int)),(∀w∈W,0<=w.2.2/\w.2.2<=2)->(BB W fs).length<=fs.length * 3 ^ W.length
 | [],fs,_=>by simp[BB]
 | w::W,fs,hl=>by
  rw[BB]
  refine yE (AL W _ fun q hq=>hl q (zC _ hq)) ?_
  have:=hl w zE
  rw[AY,zL,Nat.pow_succ',<- Nat.mul_assoc]
  exact Nat.mul_le_mul_right _ (Nat.mul_le_mul_left _ (by omega))
theorem yh(h:Wd G T W)(hl:∀w∈W,0<=w.2.2/\w.2.2<=2)(hw:W.length<=4):gP [ax G T W]=some (.list ((DX G T W).map af))/\(BB W [[]]).length<=81:=by
 have hlen:(BB W [[]]).length<=81:=by
  have:=AL W [[]] hl
  rw[List.length_singleton,Nat.one_mul] at this
  exact yE this (yE (Nat.pow_le_pow_right (by omega) hw) (by decide))
 refine⟨?_,hlen⟩
 refine aH ?_
 show gM [.val (ax G T W)]=_
 unfold gM
 refine (ai (eB (call_of (bM h) rfl rfl))).trans ?_
 refine (ai (eB (call_of (uq hl hw) rfl rfl))).trans ?_
 refine aJ (lM (nL (g:=af) (f:=af) (q:=KE G T W) (mv (D9 hl hw) (cons_of (aw (oT G T W) rfl rfl) rfl) rfl) (by omega) fun x hx=>⟨?_,fun _=>rfl⟩))
 obtain⟨h1,h2⟩:=Bv.mp hx
 exact bo (call_of (tP h h1 fun k=>by
  by_cases hk:k < W.length
  ·have a:=h2 k hk
   have b:=(h.wr _ (u3 hk)).2.2.2
   omega
  ·rw[fE (by omega)]
   omega) rfl rfl)
theorem yl(h:Wd G T W)(hl:∀w∈W,0<=w.2.2/\w.2.2<=2)(hw:W.length<=4):fF [ax G T W]=some (.list ((allR G T W).map af))/\(allR G T W).length<=81:=by
 obtain⟨e,hlen⟩:=yh h hl hw
 have hp:(DX G T W).length<=81:=yE (List.length_filter_le _ _) hlen
 refine⟨?_,yE (List.length_filter_le _ _) hp⟩
 refine aH ?_
 show gO [.val (ax G T W)]=_
 unfold gO
 refine aJ (lM (nL (g:=af) (f:=af) (q:=fun P=>decide (Dm G T W P=[])) (mv e rfl rfl) (by omega) fun x hx=>⟨?_,fun _=>rfl⟩))
 have p:=xu.mp hx
 exact bo (call_of (pA h p.len (p.smP h)) rfl rfl)
end
section
variable {G T:List Pl}{W:List Wy}{P X c:List Int}{b:Bool}{k q:Nat}{v:Int}
theorem Iy(h:Wd G T W)(p:Pn G T W X)(r:Rs G T W X)(ho:Off c)(hc:∀k,k < W.length->X.getD k 0<=c.getD k 0)(hk:k < W.length)(hlt:(cE G T W c).getD k 0 < (aC false G T W c).getD k 0):X.getD k 0<=(cE G T W c).getD k 0:=by
 refine Classical.byContradiction fun hn=>?_
 have hn:(cE G T W c).getD k 0 < X.getD k 0:=by omega
 obtain⟨b0,b1,b2,b3,b4⟩:=dX h ho hk
 have ff:Fl true G T W (cE G T W c) k:=iL h true hk (by rw[b4];exact hlt)
 have hle:=JF h p true hk
 unfold Fl at ff
 obtain⟨q,hq,hqx⟩:=JA (f:=vl X) (g:=vl (cE G T W c)) (l:=up (lst true G T W (cD true W k)) k) (p:=k) (by omega) (o9 (bH h true hk)) hn
 obtain⟨hq1,hq2⟩:=gz h hk (dN hq)
 unfold vl at hqx
 have hne:q≠k:=fun z=>by subst z;omega
 obtain⟨d0,d1,d2,d3,d4⟩:=dX h ho hq1
 have hxq:=(p.bd q hq1).1
 rcases r q hq1 with z|z|z
 ·omega
 ·exact wb h p ho hc hq1 (by omega) z
 ·have hn2:k∉up (lst true G T W (cD true W q)) q:=fun w=>by
   rw[hq2] at w
   exact hne (ue (bE h (cT h true hk)) hq w).symm
  have:=p9 h p hq1 z (by rw[hq2];exact bH h true hk) hn2
  omega
theorem Hq(h:Wd G T W)(ho:Off c)(hl:c.length=W.length)(hk:k < W.length)(h1:(cE G T W c).getD k 0<=v)(h2:v < (aC false G T W c).getD k 0)(hq:q < W.length):(cE G T W c).getD q 0<=(aC false G T W (c.set k v)).getD q 0:=by
 obtain⟨b0,b1,b2,b3,b4⟩:=dX h ho hk
 obtain⟨d0,d1,d2,d3,d4⟩:=dX h ho hq
 have hi:=cT h false hq
 have hm:∀x,x≠k->mm W (c.set k v) x=mm W c x:=fun x hx=>by
  unfold mm
  rw[bp,if_neg (fun z=>hx z.1.symm)]
 have hmk:mm W (c.set k v) k=v:=by
  unfold mm
  rw[bp,if_pos ⟨rfl,by rw[hl];exact hk⟩]
  omega
 rw[dP h false _ hq]
 by_cases z:cD false W q=cD false W k
 ·have hkL:k∈lst false G T W (cD false W q):=by rw[z];exact bH h false hk
  have hA:vl (aC false G T W c) k=ch (mm W c) (amt false G T (cD false W q)) (lst false G T W (cD false W q)) k:=lR h hi hkL
  unfold vl at hA
  obtain⟨l1,l2⟩:=zi (m:=mm W c) (m':=mm W (c.set k v)) (p:=k) (a:=amt false G T (cD false W q)) (l:=lst false G T W (cD false W q)) (bE h hi) (fun x _ hx=>hm x hx) (by rw[hmk,<- hA];omega)
  by_cases y:q=k
  ·subst y
   rw[l2 hkL,hmk]
   exact h1
  ·have:=l1 q (bH h false hq) y
   rw[<- dP h false c hq] at this
   omega
 ·rw[mf (m:=mm W (c.set k v)) (m':=mm W c) fun x hx=>hm x fun w=>by
   subst w
   exact z ((kA h hi).mp hx).2.symm]
  rw[<- dP h false c hq]
  exact d1
theorem Jn.any(h:Wd G T W)(ho:Off c)(hl:c.length=W.length)(j:Jn G T W c)(hk:k < W.length)(h1:(cE G T W c).getD k 0<=v)(h2:v < (aC false G T W c).getD k 0):Jn G T W (c.set k v):=fun q hq hlim=>by
 obtain⟨b0,_,_,_,b4⟩:=dX h ho hk
 have ho':Off (c.set k v):=kH ho (by omega)
 have fq:Fl true G T W (cE G T W c) q:=by
  by_cases z:q=k
  ·subst z
   exact iL h true hq (by rw[b4];show (cE G T W c).getD q 0 < _;omega)
  ·rw[bp,if_neg (fun w=>z w.1.symm)] at hlim
   exact j q hq hlim
 have hu:=Aq h (gK h ho' false) true hq
 change sm _ (vl (cE G T W (c.set k v)))=_ at hu
 unfold Fl at fq ⊢
 have hs:sm (up (lst true G T W (cD true W q)) q) (vl (cE G T W c))<=sm (up (lst true G T W (cD true W q)) q) (mm W (aC false G T W (c.set k v))):=wF fun x hx=>by
  have hx':=(gz h hq (dN hx)).1
  have g1:=Hq h ho hl hk h1 h2 hx'
  have g2:=dX h ho hx'
  unfold vl mm
  omega
 rw[hu]
 omega
structure FO(G T:List Pl)(W:List Wy)(c:List Int):Prop where
 len:c.length=W.length
 off:Off c
 lim:∀k,k < W.length->c.getD k 0<=(aI W k).2.2
 cap:∀X,Pn G T W X->Rs G T W X->∀k,k < W.length->X.getD k 0<=c.getD k 0
 j:Jn G T W c
theorem FO.start(h:Wd G T W):FO G T W (bI W):=⟨gQ W,pf h,fun k hk=>by rw[lF hk];omega,fun X p _ k hk=>by rw[lF hk];exact (p.bd k hk).2,fun k hk hl=>by rw[lF hk] at hl;omega⟩
theorem FO.step(h:Wd G T W)(s:FO G T W c)(hk:k < W.length)(h1:(cE G T W c).getD k 0<=v)(h2:v < (aC false G T W c).getD k 0):FO G T W (c.set k v)/\mea (c.set k v) < mea c:=by
 obtain⟨b0,b1,b2,b3,b4⟩:=dX h s.off hk
 refine⟨⟨by rw[yD,s.len],kH s.off (by omega),fun q hq=>?_,fun X p r q hq=>?_,s.j.any h s.off s.len hk h1 h2⟩,o5 (by omega) (by omega)⟩
 ·rw[bp]
  split
  ·rename_i z
   rw[<- z.1]
   omega
  ·exact s.lim q hq
 ·rw[bp]
  split
  ·rename_i z
   rw[<- z.1]
   have:=Iy h p r s.off (s.cap X p r) hk (by omega)
   omega
  ·exact s.cap X p r q hq
theorem FO.best(h:Wd G T W)(s:FO G T W c)(e:kY G T W c=none):aC false G T W c=jH G T W:=by
 have p:=AR h s.off s.lim e
 have heq:∀q,q < W.length->(aC false G T W c).getD q 0=(cE G T W c).getD q 0:=fun q hq=>by
  have h1:=Bo e hq
  have h2:=(dX h s.off hq).2.1
  omega
 have r:Rs G T W (aC false G T W c):=fun k hk=>by
  obtain⟨d0,d1,d2,d3,d4⟩:=dX h s.off hk
  by_cases e1:(aC false G T W c).getD k 0=(aI W k).2.2
  ·exact .inl e1
  ·by_cases e2:(aC false G T W c).getD k 0 < mm W c k
   ·exact .inr (.inl (iL h false hk e2))
   ·have h3:=(uI h s.off false hk).2
    have:c.getD k 0 < (aI W k).2.2:=by
     unfold mm at e2 h3
     omega
    have f:=s.j k hk this
    refine .inr (.inr ?_)
    unfold Fl at f ⊢
    rw[<- f]
    exact gn fun q hq=>heq q (gz h hk (dN hq)).1
 have b:=jK h
 have e1:=G7 h p r
 have e2:aC false G T W (mx (jH G T W) (aC false G T W c))=aC false G T W c:=by
  refine uu (by rw[bT,bT]) fun k hk=>?_
  rw[bT] at hk
  have hi:=cT h false hk
  rw[dP h false _ hk,dP h false c hk]
  refine ux (bE h hi) (fun q hq=>?_) k
  have hq':=(gz h hk hq).1
  have hA:vl (aC false G T W c) q=ch (mm W c) (amt false G T (cD false W k)) (lst false G T W (cD false W k)) q:=lR h hi hq
  rw[<- hA,JM b p hq']
  have g1:=(dX h s.off hq').2.2
  have g2:=s.cap _ b (vb h) q hq'
  have g3:=(b.bd q hq').2
  unfold vl mm
  omega
 rw[<- e2,e1]
noncomputable def wy(G T:List Pl)(W:List Wy)(c:List Int):List Nat:=(List.range W.length).filter fun k=>decide ((cE G T W c).getD k 0 < (aC false G T W c).getD k 0)
theorem K6:k∈wy G T W c↔k < W.length/\(cE G T W c).getD k 0 < (aC false G T W c).getD k 0:=by
 unfold wy
 rw[List.mem_filter,zT,zJ]
theorem KO:wy G T W c=[]↔kY G T W c=none:=by
 unfold kY wy
 rw[Option.map_eq_none_iff,List.filter_eq_nil_iff,List.find?_eq_none]
 rfl
theorem FO.shown(h:Wd G T W)(s:FO G T W c):(jH G T W=aC false G T W c)↔wy G T W c=[]:=by
 rw[KO]
 constructor
 ·intro e
  exact none_of h (by rw[<- e];exact jK h)
 ·intro e
  exact (s.best h e).symm
theorem Fd:∀ (r:List (Nat×Int)) (c:List Int) (p:Nat×Int),cb G T W c (r++[p])=(cb G T W c r).bind fun c'=>if Lx G T W c' p=true then some (low c' p) else none
 | [],c,p=>by simp[cb]
 | q::r,c,p=>by
  rw[List.cons_append,cb,cb]
  split
  ·exact Fd _ _ _
  ·rfl
theorem AK:∀ {r:List (Nat×Int)}{c c':List Int}(n:Nat),cb G T W c r=some c'->(cb G T W c (r.take n)).isSome=true
 | [],c,c',n,_=>by simp[cb]
 | p::r,c,c',0,_=>by simp[cb]
 | p::r,c,c',n+1,h=>by
  rw[List.take_succ_cons,cb]
  rw[cb] at h
  split at h
  ·rename_i e
   rw[if_pos e]
   exact AK n h
  ·cases h
end
namespace K61M
section
variable {G T:List Pl}{W:List Wy}{P X c:List Int}
theorem wV:∀ (l:List Int),lE (l.map PyData.int)=true
 | []=>by simp[lE]
 | x::l=>by rw[zI,lE,wV l];simp[iA]
theorem Hb(l:List Int):iA (af l)=true:=by rw[af,iA,wV]
theorem Ih{i:Nat}{fz:List Nat}{f:Dl.Env->Option D}{ρ:ak}{l:List Int}(hA:f (bg ρ)=some (af l))(hF:f (cn (hand fz 0 ρ))=some (af l)):Dl.ay i fz f ρ=some (.nx (ρ.set i (.val (af l)))):=by
 have hs:Dl.oJ (af l)=false:=rfl
 simp only[Dl.ay,hA,hF,zA,hs,Bool.false_eq_true,if_false,zB,Hb,if_true]
theorem Cg(l:List Nat):dg (.list (l.map nD)) (.list [])=some (.bool (!decide (l=[]))):=by
 have h0:SeqAt.shaped (.list [])=true:=jT (l:=[])
 have e:(l.map nD).isEmpty=decide (l=[]):=by cases l<;>rfl
 simp only[dg,JP,jT,h0,and_self,if_true,PyData.eqv,pZ,e,zB]
theorem not_of{f:Dl.Env->Option D}{ρ:Dl.Env}{b:Bool}(h:f ρ=some (.bool b)):u0 f ρ=some (.bool (!b)):=by
 simp only[u0,h,zA,KI]
theorem wz{cs:List Nat}{fi:Dl.Env->Option (List D)}{tt:Dl.Env->Option Bool}{te:Dl.Env->Option D}{ρ:Dl.Env}{l:List (List Int)}(hfi:fi ρ=some (l.map af))(hl:l.length<=1000)(hh:∀x∈l,tt (some (af x)::cs.map fun j=>(ρ[j]?).getD none)=some false):fB (f2 dg (bZ (ao 1 cs fi (fG 0) tt te)) (bZ (cG ae))) ρ=some false:=by
 have c:=nL (te:=te) (g:=af) (f:=fun _=>.none) (q:=fun _=>false) hfi hl fun x hx=>⟨hh x hx,fun z=>by cases z⟩
 rw[show l.filter (fun _=>false)=[] by simp] at c
 exact bo (aw (tT []) (lM c) (nil_of ρ))
theorem IC{f g:Dl.Env->Option D}{ρ:Dl.Env}{r:List (Nat×Int)}{k:Nat}(h:f ρ=some (.list (r.map pD)))(h2:g ρ=some (nD k)):kb fA f j1 (wt g) ρ=some (.list ((r.take k).map pD)):=by
 have:=yb (r.map pD) k
 simp only[kb,h,wt,h2,j1,gI,fA,zA,zB,this,List.map_take]
theorem qD{f:Dl.Env->Option D}{ρ:Dl.Env}{α:Type}{g:α->D}{r:List α}(h:f ρ=some (.list (r.map g))):bf bq (aa f ae) ρ=some (nD r.length):=by
 rw[qo h]
 show some (PyData.int ((r.map g).length:Nat))=_
 rw[zD]
noncomputable abbrev Sk:=List (Nat×Int)×List Int×Bool
noncomputable def pk(ns:List Int)(G T:List Pl)(W:List Wy)(s:Sk):Nat:=(wy G T W s.2.1).getD (dr ns (70+2 * ((s.1.length:Nat):Int)) (((wy G T W s.2.1).length:Nat):Int)).toNat 0
noncomputable def pv(ns:List Int)(G T:List Pl)(W:List Wy)(s:Sk):Int:=(cE G T W s.2.1).getD (pk ns G T W s) 0+dr ns (70+2 * ((s.1.length:Nat):Int)+1) ((aC false G T W s.2.1).getD (pk ns G T W s) 0 - (cE G T W s.2.1).getD (pk ns G T W s) 0)
noncomputable def stK(ns:List Int)(G T:List Pl)(W:List Wy)(s:Sk):Sk:=if wy G T W s.2.1=[] then (s.1,s.2.1,false) else (s.1++[(pk ns G T W s,pv ns G T W s)],low s.2.1 (pk ns G T W s,pv ns G T W s),true)
structure SI(G T:List Pl)(W:List Wy)(s:Sk):Prop where
 cp:FO G T W s.2.1
 cb:cb G T W (bI W) s.1=some s.2.1
 fr:LK W s.1
 bd:s.1.length+mea s.2.1<=mea (bI W)
noncomputable def mu(s:Sk):Nat:=2 * mea s.2.1+if s.2.2=true then 1 else 0
theorem JQ{ns:List Int}(hl:ns.length<=63)(h:Wd G T W){s:Sk}(i:SI G T W s)(hw:wy G T W s.2.1≠[]) :
  (0<=dr ns (70+2 * ((s.1.length:Nat):Int)) (((wy G T W s.2.1).length:Nat):Int)/\(dr ns (70+2 * ((s.1.length:Nat):Int)) (((wy G T W s.2.1).length:Nat):Int)).toNat < (wy G T W s.2.1).length)/\pk ns G T W s < W.length/\(cE G T W s.2.1).getD (pk ns G T W s) 0 < (aC false G T W s.2.1).getD (pk ns G T W s) 0/\(cE G T W s.2.1).getD (pk ns G T W s) 0<=pv ns G T W s/\pv ns G T W s < (aC false G T W s.2.1).getD (pk ns G T W s) 0:=by
 have hp:0 < (wy G T W s.2.1).length:=List.length_pos_iff.mpr hw
 have h0:=EI (ns:=ns) (70+2 * ((s.1.length:Nat):Int)) (((wy G T W s.2.1).length:Nat):Int) hl (by omega)
 have h1:=Dz (ns:=ns) (70+2 * ((s.1.length:Nat):Int)) (((wy G T W s.2.1).length:Nat):Int) hl (by omega)
 have hlt:(dr ns (70+2 * ((s.1.length:Nat):Int)) (((wy G T W s.2.1).length:Nat):Int)).toNat < (wy G T W s.2.1).length:=by omega
 have hm:pk ns G T W s∈wy G T W s.2.1:=by
  unfold pk
  rw[zG,zK hlt]
  exact List.getElem_mem hlt
 obtain⟨k1,k2⟩:=K6.mp hm
 have h2:=EI (ns:=ns) (70+2 * ((s.1.length:Nat):Int)+1) ((aC false G T W s.2.1).getD (pk ns G T W s) 0 - (cE G T W s.2.1).getD (pk ns G T W s) 0) hl (by omega)
 have h3:=Dz (ns:=ns) (70+2 * ((s.1.length:Nat):Int)+1) ((aC false G T W s.2.1).getD (pk ns G T W s) 0 - (cE G T W s.2.1).getD (pk ns G T W s) 0) hl (by omega)
 refine⟨⟨h0,hlt⟩,k1,k2,?_,?_⟩
 ·unfold pv;omega
 ·unfold pv;omega
theorem SI.step{ns:List Int}(hl:ns.length<=63)(h:Wd G T W){s:Sk}(i:SI G T W s)(hc:s.2.2=true):SI G T W (stK ns G T W s)/\mu (stK ns G T W s) < mu s:=by
 unfold stK
 by_cases hw:wy G T W s.2.1=[]
 ·rw[if_pos hw]
  refine⟨⟨i.cp,i.cb,i.fr,i.bd⟩,?_⟩
  unfold mu
  rw[hc]
  simp
 ·rw[if_neg hw]
  obtain⟨_,k1,k2,k3,k4⟩:=JQ hl h i hw
  obtain⟨c1,c2⟩:=i.cp.step h k1 k3 k4
  have hk:=dX h i.cp.off k1
  have hl9:=(h.wr _ (u3 k1)).2.2.2
  have c2':mea (low s.2.1 (pk ns G T W s,pv ns G T W s)) < mea s.2.1:=c2
  refine⟨⟨c1,?_,fun p hp=>?_,?_⟩,?_⟩
  ·rw[Fd,i.cb,zA,if_pos]
   unfold Lx
   simp only[zF,zJ]
   exact⟨k3,k4⟩
  ·rcases List.mem_append.mp hp with z|z
   ·exact i.fr p z
   ·rw[yK] at z
    subst z
    exact⟨k1,by show 0<=pv ns G T W s;omega,by show pv ns G T W s<=9;omega⟩
  ·have:=i.bd
   simp only[zN,List.length_singleton]
   omega
  ·unfold mu
   rw[hc]
   simp only[if_true]
   omega
noncomputable def MZ:ak->Option Out:=(aq (Dl.ay 7 [1,5] (ah 2 cL (aa (ab 1) (aa (ab 5) ae)))) (aq (eL (fB (f2 mi (ab 7) (fC .none))) (aD (fC (.bool false))) eF) (aq (eL (fB (f2 dg (bZ (ao 1 [1,7] (aR (ab 2)) (fG 0) (aX (fB (ah 3 e8 (aa (ab 1) (aa (ab 0) (aa (ab 2) ae)))))) (ab 0))) (bZ (cG ae)))) (aD (fC (.bool false))) eF) (aq (Dl.ay 8 [1,7] (ah 3 cU (aa (ab 1) (aa (fC (.int 0)) (aa (ab 7) ae))))) (aq (Dl.ay 9 [1,8] (ah 3 cU (aa (ab 1) (aa (fC (.int 1)) (aa (ab 8) ae))))) (aq (aO 10 [7,8,9,12] (ao 1 [8,9] (bF (aa (bf bq (aa (ab 7) ae)) ae)) (fG 0) (fB (f2 Dl.xb (f2 av (ab 2) (ab 0)) (f2 av (ab 1) (ab 0)))) (ab 0))) (aq (Dl.ay 6 [10] (f2 dg (ab 10) (bZ (cG ae)))) (aq (eL (iD (fB (f2 dg (ah 3 cO (aa (ab 1) (aa (ab 3) (aa (ab 5) ae)))) (u0 (ab 6)))) (fS (fB (f2 dg (f2 cf (ab 8) (ab 3)) (u0 (ab 6)))) (aX (fB (ab 6))))) (aD (fC (.bool false))) eF) (eL (fB (ab 6)) (aq (Dl.ay 11 [5] (f2 Dl.aM (fC (.int 70)) (f2 Dl.eQ (fC (.int 2)) (bf bq (aa (ab 5) ae))))) (aq (Dl.ay 12 [0,10,11] (f2 av (ab 10) (ah 3 aj (aa (ab 0) (aa (ab 11) (aa (bf bq (aa (ab 10) ae)) ae)))))) (jI 5 [0,8,9,11,12] (aS (aa (ab 12) (aa (f2 Dl.aM (f2 av (ab 9) (ab 12)) (ah 3 aj (aa (ab 0) (aa (f2 Dl.aM (ab 11) (fC (.int 1))) (aa (f2 Dl.iw (f2 av (ab 8) (ab 12)) (f2 av (ab 9) (ab 12))) ae))))) ae)))))) eF)))))))))
theorem Ht{ns:List Int}(hl:ns.length<=63)(h:Wd G T W){ps:List (List Int)}(hps:∀X∈ps,Pn G T W X/\Rs G T W X)(hpl:ps.length<=81){s:Sk}(i:SI G T W s){d4:D}{x6 x7 x8 x9 x10 x11 x12 x13 x14:Slot}(h12:x12.thaw=x12):∃y7 y8 y9 y10 y11 y12,y12.thaw=y12/\MZ [.val (di ns),.val (ax G T W),.val (.list (ps.map af)),.val (af (jH G T W)),.val d4,.own (s.1.map pD),x6,x7,x8,x9,x10,x11,x12,x13,x14]=some (.nx [.val (di ns),.val (ax G T W),.val (.list (ps.map af)),.val (af (jH G T W)),.val d4,.own ((stK ns G T W s).1.map pD),.val (.bool (stK ns G T W s).2.2),y7,y8,y9,y10,y11,y12,x13,x14]):=by
 obtain⟨rows,c,fl⟩:=s
 have hw:=h.wl
 have hmea:=h.mea
 have hbd:=i.bd
 have hcp:=i.cp
 have hcl:=i.cp.len
 simp only at hbd hcl
 have hrl:rows.length<=1000:=by omega
 have eo:=m8 h i.fr hrl
 rw[i.cb] at eo
 have a0:=oq h hcl false
 have a1:=oq (off:=aC false G T W c) h (bT _ _ _ _ _) true
 have b:=jK h
 have es:=Bb h b i.fr hrl i.cb hcl
 simp only at es
 have q0:(decide (Dm G T W (jH G T W)=[])&&decide (jH G T W=aC false G T W c))=decide (wy G T W c=[]):=by
  rw[yB ((ke h b).mpr (vb h)),Bool.true_and,decide_eq_decide]
  exact hcp.shown h
 rw[q0] at es
 have la:(aC false G T W c).length=W.length:=bT _ _ _ _ _
 have lb:(cE G T W c).length=W.length:=bT _ _ _ _ _
 have ew:∀ρ:Dl.Env,ab 7 ρ=some (af c)->(ρ[8]?).getD none=some (af (aC false G T W c))->(ρ[9]?).getD none=some (af (cE G T W c))->(ao 1 [8,9] (bF (aa (bf bq (aa (ab 7) ae)) ae)) (fG 0) (fB (f2 Dl.xb (f2 av (ab 2) (ab 0)) (f2 av (ab 1) (ab 0)))) (ab 0)) ρ=some ((wy G T W c).map nD):=fun ρ r7 r8 r9 =>
  qx (is:=List.range W.length) (pU (xc hcl r7) (by omega)) (by rw[zS];omega) fun k hk=>⟨by
   simp only[zI,List.map_nil,r8,r9]
   exact bo (aw (kE _ _) (aw (gu (i:=k) (by rw[lb];simpa using hk)) rfl rfl) (aw (gu (i:=k) (by rw[la];simpa using hk)) rfl rfl)),fun _=>rfl⟩
 have hh:hand [7,8,9,12] 0 [Slot.val (di ns),.val (ax G T W),.val (.list (ps.map af)),.val (af (jH G T W)),.val d4,.own (rows.map pD),x6,.val (af c),.val (af (aC false G T W c)),.val (af (cE G T W c)),x10,x11,x12,x13,x14]=[Slot.val (di ns),.val (ax G T W),.val (.list (ps.map af)),.val (af (jH G T W)),.val d4,.own (rows.map pD),x6,.val (af c),.val (af (aC false G T W c)),.val (af (cE G T W c)),x10,x11,x12,x13,x14]:=by
  show [Slot.val (di ns),.val (ax G T W),.val (.list (ps.map af)),.val (af (jH G T W)),.val d4,.own (rows.map pD),x6,.val (af c),.val (af (aC false G T W c)),.val (af (cE G T W c)),x10,x11,x12.thaw,x13,x14]=_
  rw[h12]
 have eqb:cf (af (aC false G T W c)) (af (jH G T W))=some (.bool (decide (wy G T W c=[]))):=by
  rw[pO]
  congr 2
  rw[decide_eq_decide,<- hcp.shown h]
  exact⟨fun z=>z.symm,fun z=>z.symm⟩
 have common:∀ {o:Option Out},(eL (fB (ab 6)) (aq (Dl.ay 11 [5] (f2 Dl.aM (fC (.int 70)) (f2 Dl.eQ (fC (.int 2)) (bf bq (aa (ab 5) ae))))) (aq (Dl.ay 12 [0,10,11] (f2 av (ab 10) (ah 3 aj (aa (ab 0) (aa (ab 11) (aa (bf bq (aa (ab 10) ae)) ae)))))) (jI 5 [0,8,9,11,12] (aS (aa (ab 12) (aa (f2 Dl.aM (f2 av (ab 9) (ab 12)) (ah 3 aj (aa (ab 0) (aa (f2 Dl.aM (ab 11) (fC (.int 1))) (aa (f2 Dl.iw (f2 av (ab 8) (ab 12)) (f2 av (ab 9) (ab 12))) ae))))) ae)))))) eF) [.val (di ns),.val (ax G T W),.val (.list (ps.map af)),.val (af (jH G T W)),.val d4,.own (rows.map pD),.val (.bool (!decide (wy G T W c=[]))),.val (af c),.val (af (aC false G T W c)),.val (af (cE G T W c)),.own ((wy G T W c).map nD),x11,x12,x13,x14]=o->MZ [.val (di ns),.val (ax G T W),.val (.list (ps.map af)),.val (af (jH G T W)),.val d4,.own (rows.map pD),x6,x7,x8,x9,x10,x11,x12,x13,x14]=o:=fun {o} ho=>by
  unfold MZ
  refine (ai (Ih (l:=c) (call_of eo rfl rfl) (call_of eo rfl rfl))).trans ?_
  refine (ai (bS rfl)).trans ?_
  refine (ai (bS (wz (l:=ps) rfl (by omega) fun X hX=>bK (bo (call_of ((v8 h (hps X hX).1 hcl).trans (by rw[GY.mpr (hcp.cap X (hps X hX).1 (hps X hX).2)])) rfl rfl))))).trans ?_
  refine (ai (aW (call_of a0 rfl rfl) (call_of a0 rfl rfl) rfl)).trans ?_
  refine (ai (aW (call_of a1 rfl rfl) (call_of a1 rfl rfl) rfl)).trans ?_
  refine (ai (pb hh (ew _ rfl rfl rfl))).trans ?_
  refine (ai (bP (aw (Cg (wy G T W c)) rfl (nil_of _)) rfl)).trans ?_
  refine (ai (bS (mX (bo (aw (b:=.bool (!(!decide (wy G T W c=[])))) ((by rw[Bool.not_not];exact sW _)) (call_of es rfl rfl) (not_of rfl))) (A6 (bo (aw (b:=.bool (!(!decide (wy G T W c=[])))) ((by rw[Bool.not_not];exact sW _)) (aw eqb rfl rfl) (not_of rfl))))))).trans ?_
  exact ho
 by_cases hwy:wy G T W c=[]
 ·have e1:stK ns G T W (rows,c,fl)=(rows,c,false):=if_pos hwy
  rw[e1]
  refine⟨.val (af c),.val (af (aC false G T W c)),.val (af (cE G T W c)),.own ((wy G T W c).map nD),x11,x12,h12,common ?_⟩
  rw[yB hwy]
  exact bS rfl
 ·have e1:stK ns G T W (rows,c,fl)=(rows++[(pk ns G T W (rows,c,fl),pv ns G T W (rows,c,fl))],low c (pk ns G T W (rows,c,fl),pv ns G T W (rows,c,fl)),true):=if_neg hwy
  obtain⟨⟨p0,p1⟩,k1,k2,k3,k4⟩:=JQ hl h i hwy
  simp only at p0 p1 k1 k2 k3 k4
  rw[e1]
  have hpos:0 < (wy G T W c).length:=List.length_pos_iff.mpr hwy
  have d1:=qM (ns:=ns) (70+2 * ((rows.length:Nat):Int)) (((wy G T W c).length:Nat):Int) hl (by omega)
  have d2:=qM (ns:=ns) (70+2 * ((rows.length:Nat):Int)+1) ((aC false G T W c).getD (pk ns G T W (rows,c,fl)) 0 - (cE G T W c).getD (pk ns G T W (rows,c,fl)) 0) hl (by omega)
  have hpk:av (.list ((wy G T W c).map nD)) (.int (dr ns (70+2 * ((rows.length:Nat):Int)) (((wy G T W c).length:Nat):Int)))=some (nD (pk ns G T W (rows,c,fl))):=by
   rw[show PyData.int (dr ns (70+2 * ((rows.length:Nat):Int)) (((wy G T W c).length:Nat):Int))=.int (((dr ns (70+2 * ((rows.length:Nat):Int)) (((wy G T W c).length:Nat):Int)).toNat:Nat):Int) by congr 1;omega]
   refine BJ (f:=nD) ?_
   unfold pk
   simp[p1]
  have hpv:(cE G T W c).getD (pk ns G T W (rows,c,fl)) 0+dr ns (70+2 * ((rows.length:Nat):Int)+1) ((aC false G T W c).getD (pk ns G T W (rows,c,fl)) 0 - (cE G T W c).getD (pk ns G T W (rows,c,fl)) 0)=pv ns G T W (rows,c,fl):=rfl
  generalize pk ns G T W (rows,c,fl)=pp at *
  generalize pv ns G T W (rows,c,fl)=vv at *
  have hka:av (af (aC false G T W c)) (nD pp)=some (.int ((aC false G T W c).getD pp 0)):=gu (by rw[la];exact k1)
  have hkb:av (af (cE G T W c)) (nD pp)=some (.int ((cE G T W c).getD pp 0)):=gu (by rw[lb];exact k1)
  have eT:∀ρ:Dl.Env,ab 0 ρ=some (di ns)->ab 8 ρ=some (af (aC false G T W c))->ab 9 ρ=some (af (cE G T W c))->ab 11 ρ=some (.int (70+2 * ((rows.length:Nat):Int)))->ab 12 ρ=some (nD pp)->(aS (aa (ab 12) (aa (f2 Dl.aM (f2 av (ab 9) (ab 12)) (ah 3 aj (aa (ab 0) (aa (f2 Dl.aM (ab 11) (fC (.int 1))) (aa (f2 Dl.iw (f2 av (ab 8) (ab 12)) (f2 av (ab 9) (ab 12))) ae))))) ae))) ρ=some (pD (pp,vv)):=fun ρ r0 r8 r9 r11 r12=>by
   refine tup_is (ds:=[nD pp,.int vv]) (cons_of r12 (cons_of ?_ rfl)) (by simp)
   rw[<- hpv]
   exact aw (d6 _ _) (aw hkb r9 r12) (call_of d2 (cons_of r0 (cons_of (aw (d6 _ 1) r11 rfl) (cons_of (aw (sub_int _ _) (aw hka r8 r12) (aw hkb r9 r12)) rfl))) rfl)
  refine⟨.val (af c),.val (af (aC false G T W c)),.val (af (cE G T W c)),.own ((wy G T W c).map nD),.val (.int (70+2 * ((rows.length:Nat):Int))),.val (nD pp),rfl,common ?_⟩
  rw[yA hwy]
  refine (eW rfl).trans ?_
  refine (ai (bP (d:=.int (70+2 * ((rows.length:Nat):Int))) (aw (d6 70 _) rfl (aw (dv (i:=2) (j:=((rows.length:Nat):Int)) (.inl ⟨by omega,by omega⟩)) rfl (qD (r:=rows) (g:=pD) rfl))) rfl)).trans ?_
  refine (ai (bP (d:=nD pp) (aw hpk rfl (call_of d1 (cons_of rfl (cons_of rfl (cons_of (qD (r:=wy G T W c) (g:=nD) rfl) rfl))) rfl)) rfl)).trans ?_
  refine (D5 (d:=pD (pp,vv)) (ds:=rows.map pD) (eT _ rfl rfl rfl rfl rfl) (eT _ rfl rfl rfl rfl rfl) rfl rfl (by rw[zD];omega)).trans ?_
  rw[List.map_append]
  rfl
theorem sD(h:Wd G T W):LK W (fin G T W).1/\(fin G T W).1.length<=1000/\cb G T W (bI W) (fin G T W).1=some (fin G T W).2/\(fin G T W).2.length=W.length:=by
 obtain⟨c1,c2⟩:=GE h
 have hb:=(kM h).2.1.bd
 have hm:=h.mea
 refine⟨fun p hp=>wK h (pf h) (N3 h) c1 p hp,by omega,?_,(kM h).2.1.len⟩
 have:=(EO c1 _ (Nat.le_refl _)).1
 rw[List.take_length] at this
 rw[this,c2]
theorem jN(h:Wd G T W)(x:Pn G T W X):cO [ax G T W,af X,.list ((fin G T W).1.map pD)]=some (.bool (decide (Dm G T W X=[])&&decide (X=jH G T W))):=by
 obtain⟨f,l,c,n⟩:=sD h
 exact Bb h x f l c n
theorem main(ns:List Int)(hl:ns.length<=63):iB [.list (ns.map PyData.int)]=some (.bool true):=by
 obtain⟨G,T,W,ew,h,few⟩:=ye (ns:=ns) (a:=0) (mo:=4) hl (by omega)
 have hw4:W.length<=4:=by have:=few.wm;omega
 have hlm:∀w∈W,0<=w.2.2/\w.2.2<=2:=fun w hw=>⟨by have:=(h.wr w hw).2.2.1;omega,few.w2 w hw⟩
 have hmea:=h.mea
 obtain⟨er,hrl⟩:=yl h hlm hw4
 have o:=mL h.wp
 have h':=o.wd h
 have b:=jK h
 have b':=jK h'
 obtain⟨of,ol,oc,on⟩:=sD h
 have eh:fU [ax G T W,.list ((fin G T W).1.map pD)]=some (.bool true):=by rw[AM h of ol,oc];rfl
 have es:cO [ax G T W,af (jH G T W),.list ((fin G T W).1.map pD)]=some (.bool true):=by
  rw[jN h b,yB ((ke h b).mpr (vb h))]
  simp
 have es':cO [ax T G (l8 W (cR W)),af (jH T G (l8 W (cR W))),.list ((fin T G (l8 W (cR W))).1.map pD)]=some (.bool true):=by
  rw[jN h' b',yB ((ke h' b').mpr (vb h'))]
  simp
 have eco:cL [ax G T W,.list ((fin G T W).1.map pD)]=some (af (fin G T W).2):=by rw[m8 h of ol,oc];rfl
 have ecp:=(Fx h).2.1
 rw[Es] at ecp
 have etp:=ll h' b'
 obtain⟨ρ',e,⟨⟨x7,x8,x9,x10,x11,x12,_,rfl⟩,si⟩,_⟩:=qZ (t:=fB (ab 6)) (gb:=MZ) (R:=fun (s:Sk) ρ=>(∃x7 x8 x9 x10 x11 x12,x12.thaw=x12/\ρ=[.val (di ns),.val (ax G T W),.val (.list ((allR G T W).map af)),.val (af (jH G T W)),.val (.list ((fin G T W).1.map pD)),.own (s.1.map pD),.val (.bool s.2.2),x7,x8,x9,x10,x11,x12,.non,.non])/\SI G T W s) (fun s=>s.2.2) (stK ns G T W) mu
  (fun s ρ hρ=>by
   obtain⟨⟨x7,x8,x9,x10,x11,x12,_,rfl⟩,_⟩:=hρ
   exact bo rfl)
  (fun s ρ hρ hc=>by
   obtain⟨⟨x7,x8,x9,x10,x11,x12,h12,rfl⟩,si⟩:=hρ
   obtain⟨y7,y8,y9,y10,y11,y12,z12,e⟩:=Ht (d4:=.list ((fin G T W).1.map pD)) (x6:=.val (.bool s.2.2)) (x7:=x7) (x8:=x8) (x9:=x9) (x10:=x10) (x11:=x11) (x12:=x12) (x13:=.non) (x14:=.non) hl h (ps:=allR G T W) (fun X hX=>(wX h).mp hX) hrl si h12
   obtain⟨s2,m2⟩:=si.step hl h hc
   exact⟨_,e,⟨⟨_,_,_,_,_,_,z12,rfl⟩,s2⟩,m2⟩)
  Rf.turns ([],bI W,true) [.val (di ns),.val (ax G T W),.val (.list ((allR G T W).map af)),.val (af (jH G T W)),.val (.list ((fin G T W).1.map pD)),.own [],.val (.bool true),.non,.non,.non,.non,.non,.non,.non,.non] (Nat.lt_of_le_of_lt (show mu ([],bI W,true)<=289 by unfold mu;simp only[if_true];omega) (by decide)) ⟨⟨_,_,_,_,_,_,rfl,rfl⟩,⟨FO.start h,rfl,(fun p hp=>absurd hp yG),(by show 0+mea (bI W)<=mea (bI W);omega)⟩⟩
 generalize lp (fun s:Sk=>s.2.2) (stK ns G T W) Rf.turns ([],bI W,true)=s at e si
 have hsl:s.1.length<=1000:=by have:=si.bd;omega
 have ehh:∀i,fU [ax G T W,.list ((s.1.take i).map pD)]=some (.bool true):=fun i=>by rw[AM h (fun p hp=>si.fr p (List.mem_of_mem_take hp)) (by rw[List.length_take];omega),AK i si.cb]
 refine aH ?_
 show (aq (Dl.ay 1 [0] (ah 3 bY (aa (ab 0) (aa (fC (.int 0)) (aa (fC (.int 4)) ae))))) (aq (Dl.ay 2 [1] (ah 1 fF (aa (ab 1) ae))) (aq (Dl.ay 3 [1] (ah 1 aP (aa (ab 1) ae))) (aq (Dl.ay 4 [1] (ah 1 jf (aa (ab 1) ae))) (aq (eL (iD (aX (fB (ah 2 fU (aa (ab 1) (aa (ab 4) ae))))) (iD (aX (fB (ah 3 cO (aa (ab 1) (aa (ab 3) (aa (ab 4) ae)))))) (fB (f2 dg (ah 2 cL (aa (ab 1) (aa (ab 4) ae))) (ah 2 fv (aa (ab 1) (aa (ab 4) ae))))))) (aD (fC (.bool false))) eF) (aq (eL (fB (f2 dg (bZ (ao 1 [1,3,4] (aR (ab 2)) (fG 0) (fS (fB (f2 dg (ab 0) (ab 2))) (fB (ah 3 cO (aa (ab 1) (aa (ab 0) (aa (ab 3) ae)))))) (ab 0))) (bZ (cG ae)))) (aD (fC (.bool false))) eF) (aq (aO 5 [] (cG ae)) (aq (Dl.ay 6 [] (fC (.bool true))) (aq (Gw (fB (ab 6)) MZ Rf.turns) (aq (eL (fB (f2 dg (bZ (ao 1 [1,5] (bF (aa (bf bq (aa (ab 5) ae)) ae)) (fG 0) (aX (fB (ah 2 fU (aa (ab 1) (aa (kb fA (ab 2) j1 (wt (ab 0))) ae))))) (ab 0))) (bZ (cG ae)))) (aD (fC (.bool false))) eF) (aq (Dl.ay 13 [1] (ah 1 fy (aa (ab 1) ae))) (aq (Dl.ay 14 [13] (ah 2 b8 (aa (ab 13) (aa (ah 1 aP (aa (ab 13) ae)) ae)))) (aD (iO (f2 cf (ab 14) (ah 1 cM (aa (ab 1) ae))) (ah 3 cO (aa (ab 13) (aa (ah 1 aP (aa (ab 13) ae)) (aa (ah 1 jf (aa (ab 13) ae)) ae)))))))))))))))))) [.val (di ns),.non,.non,.non,.non,.non,.non,.non,.non,.non,.non,.non,.non,.non,.non]=_
 refine (ai (aW (call_of ew rfl rfl) (call_of ew rfl rfl) rfl)).trans ?_
 refine (ai (aW (call_of er rfl rfl) (call_of er rfl rfl) rfl)).trans ?_
 refine (ai (aW (call_of (nA h) rfl rfl) (call_of (nA h) rfl rfl) rfl)).trans ?_
 refine (ai (aW (call_of (u4 h) rfl rfl) (call_of (u4 h) rfl rfl) rfl)).trans ?_
 refine (ai (bS (mX (bK (bo (call_of eh rfl rfl))) (mX (bK (bo (call_of es rfl rfl))) (bo (aw (CQ (fin G T W).2) (call_of eco rfl rfl) (call_of ecp rfl rfl))))))).trans ?_
 refine (ai (bS (wz (l:=allR G T W) rfl (by omega) fun X hX=>?_))).trans ?_
 ·obtain⟨x,r⟩:=(wX h).mp hX
  by_cases z:X=jH G T W
  ·exact A6 (bo (aw ((pN X (jH G T W)).trans (by rw[yB z];rfl)) rfl rfl))
  ·exact DY (bo (aw ((pN X (jH G T W)).trans (by rw[yA z];rfl)) rfl rfl)) (bo (call_of ((jN h x).trans (by rw[yA z,Bool.and_false])) rfl rfl))
 refine (ai (gg (ds:=[]) (u6 (ds:=[]) rfl (by simp)) rfl)).trans ?_
 refine (ai (bP (d:=.bool true) rfl rfl)).trans ?_
 refine (ai e).trans ?_
 refine (ai (bS (B5 (is:=List.range s.1.length) (pU (cons_of (qD (r:=s.1) (g:=pD) rfl) rfl) hsl) (by rw[zS];exact hsl) fun i hi=>bK (bo (call_of (ehh i) (cons_of rfl (cons_of (IC rfl rfl) rfl)) rfl))))).trans ?_
 refine (ai (aW (call_of (me h) rfl rfl) (call_of (me h) rfl rfl) rfl)).trans ?_
 refine (ai (aW (call_of etp (cons_of rfl (cons_of (call_of (nA h') rfl rfl) rfl)) rfl) (call_of etp (cons_of rfl (cons_of (call_of (nA h') rfl rfl) rfl)) rfl) rfl)).trans ?_
 exact aJ (A3 (a:=true) (b:=true) (aw ((pO (Ks G T W) (Ks G T W)).trans (by simp)) rfl (call_of (Iq h) rfl rfl)) (call_of es' (cons_of rfl (cons_of (call_of (nA h') rfl rfl) (cons_of (call_of (u4 h') rfl rfl) rfl))) rfl))
end
end K61M
end Wm
namespace K61
open PySem L2 Dl PySem.Spec PyProof.Rows Pg Hd
theorem main(ns:List Int)(h:ns.length<=63):iB [.list (ns.map PyData.int)]=some (.bool true):=Wm.K61M.main ns h
theorem ins(P:Params):Mo (Kf P):=⟨f3 82 81 iy,f2 89 88 iy,f3 96 95 iy,f2 101 100 iy,f2 108 107 iy,f3 115 114 iy,f3 120 119 iy,f1 125 124 iy,f1 130 129 iy,f4 135 134 iy,f3 140 139 iy,f2 145 144 iy,f1 152 151 iy,f2 159 158 iy,f3 166 165 iy,f2 173 172 iy,f1 180 179 iy,f3 187 186 iy,l1 194 193 iy,f1 199 198 iy,f2 204 203 iy,l3 209 208 Dk,f4 214 213 Dk,f4 219 218 Dk,f3 226 225 Dk,f2 233 232 Dk,f2 240 239 Dk,f3 245 244 vQ,f3 252 251 vQ,f1 257 256 vQ,f3 264 263 vQ,f2 271 270 vQ,f1 278 277 vQ,f2 285 284 vQ,f1 292 291 vQ,f1 299 298 vQ,f1 306 305 yp,f2 313 312 yp,f3 320 319 yp,f2 325 324 yp,f2 332 331 yp,f2 339 338 yp,f3 346 345 yp,f3 351 350 yp,f1 358 357 Jy,f1 363 362 Jy,f1 368 367 Jy,f1 373 372 Jy,f2 380 379 Gx,f3 387 386 Gx,f3 394 393 Gx,f3 399 398 Gx,f1 404 403 Gx,Dl.DB (t:=273) (by kernel_rfl),Dl.DB (t:=275) (by kernel_rfl),Dl.DB (t:=624) (by kernel_rfl),Dl.LD (by kernel_rfl) (by kernel_rfl) (by kernel_rfl) (by kernel_rfl) (by kernel_rfl) (by kernel_rfl) (by kernel_rfl) (by kernel_rfl) (by kernel_rfl) (by kernel_rfl) (by kernel_rfl) (by kernel_rfl) (by kernel_rfl) (by kernel_rfl) (by kernel_rfl) (by kernel_rfl) (by kernel_rfl)⟩
theorem Pf(w:World):mD (Kf w.params) [189,206]=true:=by kernel_rfl
end K61
open PySem PySem.W PyProof.Rows
theorem PySem.Challenge.cw_stillflow_k61_whole_papers_holds : PySem.Challenge.rw_stillflow_k61_whole_papers.Holds := by
 refine holds_law K61.On fun k1=>?_
 refine holds_open (XP:=XL K61.vw []) (YP:=K61.hk.says) K61.left K61.hk.of K61.hk.keeps (fun s e=>xl_of s (Bool.and_eq_true_iff.mp e).1) XL.keeps (by rfl) (by rfl) (by rfl) (fun s e=>recFacts_of (Bool.and_eq_true_iff.mp e).2) (by rfl) k1 (by decide +kernel) ⟨rfl,rfl,rfl,rfl,rfl,by decide +kernel⟩ ?hw ?hc
 case hw=>w_witness2
 case hc=>exact K61.walk (l:=PySem.Challenge.rw_stillflow_k61_whole_papers) (K:=K61.Kf) (ts:=[189,206]) rfl rfl rfl (fun w h Y=>⟨Y.1,Y.2⟩) K61.Pf (fun w=>K61.ins w.params) K61.main
