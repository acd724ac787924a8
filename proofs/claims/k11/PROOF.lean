import PyProof.Rows.All
import Wide.All
import OpenK.AllK
import Wide.FinOn
import Lean
import PyProof.EqAt
import PyProof.EqKinds
import PyProof.TupleCall
import PyProof.Draws
import PyProof.ListRange
import PySem.Challenge.RW_stillflow_k11_whole_choice
set_option Elab.async false
set_option linter.all false
set_option maxRecDepth 100000
set_option maxHeartbeats 4000000
abbrev _root_.zA:=@Option.bind_some
abbrev _root_.zB:=@Option.map_some
abbrev _root_.zC:=@List.mem_cons_of_mem
abbrev _root_.zD:=@List.length_map
abbrev _root_.zE:=@List.mem_cons_self
abbrev _root_.zF:=@Bool.and_eq_true
abbrev _root_.zG:=@List.getD_eq_getElem?_getD
abbrev _root_.zH:=@List.size_toArray
abbrev _root_.zI:=@List.map_cons
abbrev _root_.zJ:=@decide_eq_true_eq
abbrev _root_.zK:=@List.getElem?_eq_getElem
abbrev _root_.zL:=@List.length_cons
abbrev _root_.zM:=@List.map_map
abbrev _root_.zN:=@List.length_append
abbrev _root_.zO:=@List.getElem?_map
abbrev _root_.zP:=@Nat.lt_of_lt_of_le
abbrev _root_.zQ:=@List.mem_map
abbrev _root_.zR:=@List.mem_cons
abbrev _root_.zS:=@List.length_range
abbrev _root_.zT:=@List.mem_range
abbrev _root_.zU:=@List.getElem?_eq_some_iff
abbrev _root_.zV:=@PySem.Heap.get?_push_of_some
abbrev _root_.zW:=@PySem.wpAny_bind
abbrev _root_.zX:=@PySem.wpAny_pure
abbrev _root_.zY:=@PySem.Heap.get?_push_size
abbrev _root_.zZ:=@PySem.Heap.lt_size
abbrev _root_.yA:=@decide_eq_false
abbrev _root_.yB:=@decide_eq_true
abbrev _root_.yC:=@List.lookup_cons
abbrev _root_.yD:=@List.length_set
abbrev _root_.yE:=@Nat.le_trans
abbrev _root_.yF:=@List.mem_append_right
abbrev _root_.yG:=@List.not_mem_nil
abbrev _root_.yH:=@Int.toNat_natCast
abbrev _root_.yI:=@List.range_eq_range'
abbrev _root_.yJ:=@List.map_congr_left
abbrev _root_.yK:=@List.foldl_cons
abbrev _root_.yL:=@List.mem_singleton
abbrev _root_.yM:=@Option.some.injEq
namespace L2
open PySem PySem.Spec PyProof.Rows
noncomputable abbrev tw:=Sum Int Str
noncomputable def Ek:tw->Value->Bool
 | .inl k,v=>Value.isInt k v
 | .inr x,v=>Value.isStrOf x v
noncomputable def IX(w:World):tw->Int
 | .inl k=>hashInt k
 | .inr x=>hashStr w x
theorem bq:∀ {k:tw}{v:Value},Ek k v=true->(∃i t,k=Sum.inl i/\v=Value.int i t)\/(∃x t,k=Sum.inr x/\v=Value.str x t)
 | .inl i,v,h=>by
  obtain⟨t,e⟩:=Value.isInt_shape (k:=i) (v:=v) h
  exact .inl ⟨i,t,rfl,e⟩
 | .inr x,v,h=>by
  obtain⟨t,e⟩:=Value.isStrOf_shape (x:=x) (v:=v) h
  exact .inr ⟨x,t,rfl,e⟩
theorem E6(a b:Int):decide ((Sum.inl a:tw)=Sum.inl b)=(a == b):=by
 by_cases e:a=b
 ·subst e;simp
 ·have h:¬ (Sum.inl a:tw)=Sum.inl b:=fun q=>e (Sum.inl.inj q)
  rw[yA h]
  exact (beq_eq_false_iff_ne.mpr e).symm
theorem EC(a b:Str):decide ((Sum.inr a:tw)=Sum.inr b)=decide (a=b):=by
 by_cases e:a=b
 ·subst e;simp
 ·have h:¬ (Sum.inr a:tw)=Sum.inr b:=fun q=>e (Sum.inr.inj q)
  rw[yA h,yA e]
theorem EM(a:Int)(b:Str):decide ((Sum.inl a:tw)=Sum.inr b)=false:=yA (fun q=>nomatch q)
theorem Et(a:Str)(b:Int):decide ((Sum.inr a:tw)=Sum.inl b)=false:=yA (fun q=>nomatch q)
noncomputable def vZ(prog:Program)(w:World):PySem.KeyKind prog w tw where
 is:=Ek
 hash:=IX w
 inj:=fun v a b ha hb=>by
  rcases bq ha with ⟨i,t,rfl,rfl⟩|⟨x,t,rfl,rfl⟩
  ·rcases bq hb with ⟨j,u,rfl,e⟩|⟨y,u,rfl,e⟩
   ·injection e with e1 _;rw[e1]
   ·exact nomatch e
  ·rcases bq hb with ⟨j,u,rfl,e⟩|⟨y,u,rfl,e⟩
   ·exact nomatch e
   ·injection e with e1 _;rw[e1]
 byValue:=fun k v h=>by
  rcases bq h with ⟨i,t,rfl,rfl⟩|⟨x,t,rfl,rfl⟩<;>rfl
 pyHash:=fun hv h=>by
  rcases bq hv with ⟨i,t,rfl,rfl⟩|⟨x,t,rfl,rfl⟩
  ·exact wpAny_pyHash_int h
  ·exact wpAny_pyHash_str h
 eqBool:=fun hu hv h=>by
  rcases bq hu with ⟨i,t,rfl,rfl⟩|⟨x,t,rfl,rfl⟩
  ·rcases bq hv with ⟨j,u,rfl,rfl⟩|⟨y,u,rfl,rfl⟩
   ·rw[E6] at h;exact wpAny_eqBool_int h
   ·rw[EM] at h;exact SeqAt.EqAt.int_str i t y u _ _ _ _ h
  ·rcases bq hv with ⟨j,u,rfl,rfl⟩|⟨y,u,rfl,rfl⟩
   ·rw[Et] at h;exact SeqAt.EqAt.str_int x t j u _ _ _ _ h
   ·rw[EC] at h;exact wpAny_eqBool_str h
 «strs»:=fun k x t v h=>by
  rcases bq h with ⟨i,u,rfl,e⟩|⟨y,u,rfl,e⟩
  ·exact nomatch e
  ·injection e with e1 _
   subst e1
   cases v<;>rfl
inductive V where
 | non|bl (b:Bool)|int (i:Int)|str (x:Str)|byt (b:Array UInt8)|flt (b:UInt64)|ref (a:Addr)|ty (n:String)
 deriving DecidableEq
noncomputable def RelV:V->Value->Prop
 | .non,u=>u=Value.none
 | .bl b,u=>u=Value.bool b
 | .int i,u=>∃t,u=Value.int i t
 | .str x,u=>∃t,u=Value.str x t
 | .byt b,u=>∃t,u=Value.bytes b t
 | .flt b,u=>∃t,u=Value.float b t
 | .ref a,u=>u=Value.ref a
 | .ty n,u=>u=Value.type n
noncomputable abbrev ax:List V->List Value->Prop:=Paired RelV
theorem ax.length{xs:List V}{us:List Value}(r:ax xs us):xs.length=us.length:=Paired.length r
theorem ax.get:∀ {xs:List V}{us:List Value}{i:Nat}{x:V},ax xs us->xs[i]?=some x->∃u,us[i]?=some u/\RelV x u
 | _,_,_,_,.nil,e=>by simp at e
 | _,_,0,_,.cons r _,e=>by simp at e;subst e;exact⟨_,rfl,r⟩
 | _,_,i+1,x,.cons _ t,e=>by
  obtain⟨u,h1,h2⟩:=ax.get (i:=i) (x:=x) t (by simpa using e)
  exact⟨u,by simpa using h1,h2⟩
theorem ax.set{x:V}{u:Value}(r:RelV x u):∀ {xs:List V}{us:List Value}(i:Nat),ax xs us->ax (xs.set i x) (us.set i u)
 | _,_,_,.nil=>.nil
 | _,_,0,.cons _ t=>.cons r t
 | _,_,i+1,.cons q t=>.cons q (ax.set r i t)
theorem ax.append:∀ {xs ys:List V}{us ws:List Value},ax xs us->ax ys ws->ax (xs++ys) (us++ws)
 | _,_,_,_,.nil,s=>s
 | _,_,_,_,.cons r t,s=>.cons r (ax.append t s)
theorem ax.take:∀ {xs:List V}{us:List Value}(n:Nat),ax xs us->ax (xs.take n) (us.take n)
 | _,_,0,_=>.nil
 | _,_,_+1,.nil=>.nil
 | _,_,n+1,.cons r t=>.cons r (ax.take n t)
theorem ax.drop:∀ {xs:List V}{us:List Value}(n:Nat),ax xs us->ax (xs.drop n) (us.drop n)
 | _,_,0,r=>r
 | _,_,_+1,.nil=>.nil
 | _,_,n+1,.cons _ t=>ax.drop n t
noncomputable def HL:Option V->Option Value->Prop
 | some v,some u=>RelV v u
 | none,none=>True
 | _,_=>False
noncomputable def KV{κ:Type}:List (κ×V)->List (κ×Value)->Prop:=Paired fun (p:κ×V) (q:κ×Value)=>p.1=q.1/\RelV p.2 q.2
noncomputable def kV:tw->V
 | .inl i=>.int i
 | .inr x=>.str x
inductive HO where
  | lst (xs:List V)
  | tup (xs:List V)
  | dK (kvs:List (tw×V))|dT (kvs:List (List tw×V))
  | set (S:Int->Bool) (n:Nat)
  | ins (C dx:Addr) (fs:List (Str×V))
  | own (x:Addr)
  | xd (fs:List (Str×V))
  | met (f x:Addr)
  | rng (lo hi:Int)
  | frz (o:Obj) (u:HO)
  | tab (q:Str)
 | cod (q:Str)
  | ext (φ:Heap->Prop)
noncomputable abbrev Hp:=Addr->Option HO
noncomputable def upd(H:Hp)(a:Addr)(o:HO):Hp:=fun b=>if b=a then some o else H b
theorem aw{H:Hp}{a:Addr}{o:HO}:upd H a o a=some o:=by unfold upd;rw[if_pos rfl]
theorem av{H:Hp}{a b:Addr}{o:HO}(h:b≠a):upd H a o b=H b:=by unfold upd;rw[if_neg h]
theorem aC{H:Hp}{a b:Addr}{o:HO}(h:H a=some o)(h':H b=none):a≠b:=by
 intro e;subst e;rw[h] at h';cases h'
def kF(h:Heap)(a:Addr)(its:Array Value):Prop:=IsTup h a its/\∃o,h.get? a=some o/\o.dict=none
theorem kF.new(h:Heap)(its:Array Value):kF (h.push { cls:=.type "tuple",data:=.seq its }) h.objs.size its:=⟨IsTup.new _ _,_,zY _ rfl,rfl⟩
section
variable (P:Program) (w:World)
noncomputable def dg(H:Hp)(h:Heap)(a:Addr):HO->Prop
 | .lst xs=>xs.length<=sizeLine/\∃ (its:List Value) (n:Nat),ax xs its/\h.get? a=some { cls:=.type "list",data:=.seq its.toArray n }
 | .tup xs=>xs.length<=sizeLine/\∃its:List Value,ax xs its/\kF h a its.toArray
 | .dK kvs=>kvs.length<=sizeLine/\(a == sysModules)=false/\∃vs,KV kvs vs/\h.DictOf (vZ P w) a vs
 | .dT kvs=>kvs.length<=sizeLine/\(a == sysModules)=false/\∃xs:List (List tw×Addr×Value),
   Paired (fun (p:List tw×V) (q:List tw×Addr×Value)=>p.1=q.1/\H q.2.1=some (.tup (p.1.map kV))/\RelV p.2 q.2.2) kvs xs /\
   ∃o es ep,h.get? a=some o/\o.ExactDict/\o.data=.dict es ep/\es.toList=xs.map (entryOfKey (tupleKind (vZ P w)))/\(xs.map (·.1)).Nodup
 | .set S n=>h.SetOf (intKind P w) a S n
 | .ins C dx fs=>H dx=some (.own a)/\fs.length<=1000/\dx≠a/\h.get? a=some (W.instObj C dx) /\
   ∃mA,h.Ns1 dx mA/\(∀f,HL (fs.lookup f) (mA f))/\PySem.Within mA (fs.map (·.1))
 | .own _=>∃o,h.get? a=some o
 | .xd fs=>∃mA,h.Ns1 a mA/\∀f,HL (fs.lookup f) (mA f)
 | .rng lo hi=>∃t u v,h.get? a=some { cls:=.type "range",data:=.fields #[.int lo t,.int hi u,.int 1 v] }
 | .frz o u=>h.get? a=some o/\dg H h a u
 | .tab q=>∃ps:Array Value,h.get? a=some { cls:=.none,data:=.fields ps }/\TriplesOk ps.toList/\∀pos v,codeAmong pos ps.toList=some v->∃c,v=.ref c/\H c=some (.cod q)
 | .cod q=>h.CodeRec (.ref a) q
 | .met f x=>h.get? a=some (W.methodObj (.ref f) (.ref x))
 | .ext φ=>φ h/\(∃o,h.get? a=some o)/\∀h1 h2:Heap,φ h1->(∀o,h1.get? a=some o->h2.get? a=some o)->φ h2
def lS(H:Hp)(h:Heap):Prop:=∀a o,H a=some o->dg P w H h a o
end
section
variable {P:Program}{w:World}{H H':Hp}{h h':Heap}{a:Addr}{o:HO}
theorem dg.lt(x:dg P w H h a o):a < h.objs.size:=by
 cases o with
 | lst xs=>obtain⟨_,_,_,_,e⟩:=x;exact zZ e
 | tup xs=>obtain⟨_,_,_,p⟩:=x;exact p.1.lt
 | dK kvs=>obtain⟨_,_,_,_,o,_,_,e,_⟩:=x;exact zZ e
 | dT kvs=>obtain⟨_,_,_,_,o,_,_,e,_⟩:=x;exact zZ e
 | set S n=>obtain⟨o,_,_,_,e,_⟩:=x;exact zZ e
 | ins C dx fs=>obtain⟨_,_,_,e,_⟩:=x;exact zZ e
 | own y=>obtain⟨_,e⟩:=x;exact zZ e
 | xd fs=>obtain⟨_,⟨_,_,_,e,_⟩,_⟩:=x;exact zZ e
 | rng lo hi=>obtain⟨_,_,_,e⟩:=x;exact zZ e
 | frz ob u=>obtain⟨e,_⟩:=x;exact zZ e
 | tab q=>obtain⟨_,e,_⟩:=x;exact zZ e
 | cod q=>obtain⟨_,_,_,_,e0,e,_⟩:=x;cases e0;exact zZ e
 | met f y=>exact zZ (show h.get? a=some _ from x)
 | ext φ=>obtain⟨_,⟨_,e⟩,_⟩:=x;exact zZ e
theorem Paired.mapP{α β:Type}{F G:α->β->Prop}:∀ {l₁:List α}{l₂:List β},Paired F l₁ l₂->(∀a b,F a b->G a b)->Paired G l₁ l₂
 | _,_,.nil,_=>.nil
 | _,_,.cons r t,f=>.cons (f _ _ r) (Paired.mapP t f)
noncomputable def JJ:HO->Prop
 | .tup _=>True
 | .cod _=>True
 | _=>False
theorem dg.stay(x:dg P w H h a o)(k:∀b u,(b=a\/H b=some (.own a))->h.get? b=some u->h'.get? b=some u)
  (ho:∀b,H b=some (.own a)->H' b=some (.own a)) (ht:∀b u,H b=some u->JJ u->H' b=some u):dg P w H' h' a o:=by
 induction o with
 | lst xs=>obtain⟨z,its,n,r,e⟩:=x;exact⟨z,its,n,r,k _ _ (.inl rfl) e⟩
 | tup xs=>obtain⟨z,its,r,⟨ob,e,c⟩,o2,e2,d2⟩:=x;exact⟨z,its,r,⟨ob,k _ _ (.inl rfl) e,c⟩,o2,k _ _ (.inl rfl) e2,d2⟩
 | dK kvs=>obtain⟨z,y,vs,r,ob,es,ep,e,c⟩:=x;exact⟨z,y,vs,r,ob,es,ep,k _ _ (.inl rfl) e,c⟩
 | dT kvs =>
  obtain⟨z,y,xs,r,ob,es,ep,e,c⟩:=x
  exact⟨z,y,xs,Paired.mapP r fun p q z=>⟨z.1,ht _ _ z.2.1 trivial,z.2.2⟩,ob,es,ep,k _ _ (.inl rfl) e,c⟩
 | set S n=>obtain⟨ob,es,ep,t,e,c⟩:=x;exact⟨ob,es,ep,t,k _ _ (.inl rfl) e,c⟩
 | ins C dx fs =>
  obtain⟨d,z,ne,e,mA,⟨od,es,ep,e2,c⟩,r⟩:=x
  exact⟨ho _ d,z,ne,k _ _ (.inl rfl) e,mA,⟨od,es,ep,k _ _ (.inr d) e2,c⟩,r⟩
 | own y=>obtain⟨ob,e⟩:=x;exact⟨ob,k _ _ (.inl rfl) e⟩
 | xd fs=>obtain⟨mA,⟨od,es,ep,e,c⟩,r⟩:=x;exact⟨mA,⟨od,es,ep,k _ _ (.inl rfl) e,c⟩,r⟩
 | rng lo hi=>obtain⟨t,u,v,e⟩:=x;exact⟨t,u,v,k _ _ (.inl rfl) e⟩
 | frz ob u ih=>obtain⟨e,q⟩:=x;exact⟨k _ _ (.inl rfl) e,ih q⟩
 | tab q=>obtain⟨ps,e,t,c⟩:=x;exact⟨ps,k a _ (.inl rfl) e,t,fun pos v z=>let ⟨c0,z1,z2⟩:=c pos v z;⟨c0,z1,ht _ _ z2 trivial⟩⟩
 | cod q=>obtain⟨c,oc,vs,t,e0,e,r⟩:=x;cases e0;exact⟨_,oc,vs,t,rfl,k _ _ (.inl rfl) e,r⟩
 | met f y =>
  have e:h.get? a=some (W.methodObj (.ref f) (.ref y)):=x
  show h'.get? a=some (W.methodObj (.ref f) (.ref y))
  exact k a _ (.inl rfl) e
 | ext φ=>obtain⟨p,⟨o,e⟩,st⟩:=x;exact⟨st _ _ p fun o q=>k _ _ (.inl rfl) q,⟨o,k _ _ (.inl rfl) e⟩,st⟩
theorem lS.lt(x:lS P w H h)(e:H a=some o):a < h.objs.size:=(x a o e).lt
theorem lS.fresh(x:lS P w H h)(e:h.objs.size<=a):H a=none:=by
 cases q:H a with
 | none=>rfl
 | some u=>exact absurd (zP (x.lt q) e) (Nat.lt_irrefl _)
theorem lS.kept(x:lS P w H h)(k:∀b u,h.get? b=some u->h'.get? b=some u):lS P w H h':=fun a o e =>
 (x a o e).stay (fun b u _ q=>k b u q) (fun _ q=>q) fun _ _ q _=>q
theorem lS.laid(x:lS P w H h)(k:∀b u,h.get? b=some u->h'.get? b=some u)(hp:h.objs.size<=a)(new:dg P w (upd H a o) h' a o):lS P w (upd H a o) h':=fun b u e=>by
 have hn:=x.fresh hp
 by_cases hb:b=a
 ·subst hb;rw[aw] at e;cases e;exact new
 ·rw[av hb] at e
  exact (x b u e).stay (fun c v _ q=>k c v q) (fun c q=>by rw[av (aC q hn)];exact q) fun c xs q _=>by rw[av (aC q hn)];exact q
end
def Rd(H:Hp)(a:Addr)(u:HO):Prop:=H a=some u\/∃o,H a=some (.frz o u)
theorem Rd.ok{P:Program}{w:World}{H:Hp}{h:Heap}{a:Addr}{u:HO}(r:Rd H a u)(x:lS P w H h):dg P w H h a u:=by
 rcases r with r|⟨o,r⟩
 ·exact x a u r
 ·obtain⟨_,q⟩:=x a _ r
  exact q
noncomputable def Hl:Option HO->Prop
 | some (.lst _)=>True
 | some (.dK _)=>True
 | some (.dT _)=>True
 | some (.set _ _)=>True
 | some (.ins _ _ _)=>True
 | some (.ext _)=>True
 | _=>False
section
variable {P:Program}{w:World}{H:Hp}{h h':Heap}{x e:Addr}{o':HO}
theorem lS.write(ok:lS P w H h)(mu:Hl (H x))(he:e=x\/H e=some (.own x))(k:∀b u,b≠e->h.get? b=some u->h'.get? b=some u)(heo:∃u,h'.get? e=some u)
  (new:dg P w (upd H x o') h' x o'):lS P w (upd H x o') h':=fun b u q=>by
 have nown:∀c y,H c=some (.own y)->c≠x:=fun c y r z=>by subst z;rw[r] at mu;exact mu
 have ntup:∀c u,H c=some u->JJ u->c≠x:=fun c u r hr z=>by subst z;rw[r] at mu;cases u<;>first|exact mu|exact hr
 by_cases hb:b=x
 ·subst hb;rw[aw] at q;cases q;exact new
 ·rw[av hb] at q
  by_cases hbe:b=e
  ·have q':H b=some (.own x):=by
    rcases he with z|z
    ·exact absurd (hbe.trans z) hb
    ·rw[hbe];exact z
   rw[q] at q';cases q'
   obtain⟨v,hv⟩:=heo
   exact⟨v,by rw[hbe];exact hv⟩
  ·refine (ok b u q).stay (fun c v hc r=>k c v ?_ r) (fun c r=>by rw[av (nown c b r)];exact r) fun c xs r hr=>by rw[av (ntup c xs r hr)];exact r
   rcases hc with rfl|hc
   ·exact hbe
   ·rintro rfl
    rcases he with z|z
    ·exact nown c b hc z
    ·rw[hc] at z;cases z;exact hb rfl
end
noncomputable def IF:HO->Prop
 | .tab _=>True
 | .cod _=>True
 | _=>False
theorem IF.not_mut{u:HO}(h:IF u):¬ Hl (some u):=by cases u<;>first|exact fun z=>z|exact h.elim
structure Eo(H H':Hp)(h h':Heap):Prop where
 st:∀b u,H b=some u->IF u->H' b=some u
 gr:∀b q ps,H b=some (.tab q)->h.get? b=some { cls:=.none,data:=.fields ps }->∃more:Array Value,h'.get? b=some { cls:=.none,data:=.fields (ps++more) }
theorem Eo.kept{H H':Hp}{h h':Heap}(k:∀b u,(∃q,H b=some (.tab q))->h.get? b=some u->h'.get? b=some u)(st:∀b u,H b=some u->IF u->H' b=some u):Eo H H' h h' :=
 ⟨st,fun b q ps e z=>⟨#[],by rw[Array.append_empty];exact k b _ ⟨q,e⟩ z⟩⟩
theorem Eo.trans{H H1 H2:Hp}{h h1 h2:Heap}(a:Eo H H1 h h1)(b:Eo H1 H2 h1 h2):Eo H H2 h h2 :=
 ⟨fun c u q t=>b.st c u (a.st c u q t) t,fun c q ps e z=>by
  obtain⟨m1,z1⟩:=a.gr c q ps e z
  obtain⟨m2,z2⟩:=b.gr c q _ (a.st c _ e trivial) z1
  exact⟨m1++m2,by rw[z2,Array.append_assoc]⟩⟩
structure Un(fs ex:List Addr)(H H':Hp)(h h':Heap):Prop where
 keep:∀b o,h.get? b=some o->H b=none->b∉fs->b∉ex->h'.get? b=some o
 slot:∀b o,h.get? b=some o->H b=none->b∈fs->b∉ex->∃sl,h'.get? b=some { o with slots:=sl }
 free:∀b o,h.get? b=some o->H b=none->b∉ex->H' b=none
 there:∀b o,h.get? b=some o->b∉ex->∃o',h'.get? b=some o'
 tups:∀b xs,H b=some (.tup xs)->H' b=some (.tup xs)
 frzs:∀b o u,H b=some (.frz o u)->H' b=some (.frz o u)
 tbls:Eo H H' h h'
section
variable {fs fs' ex ex':List Addr}{H H1 H2:Hp}{h h1 h2 h':Heap}{a x e:Addr}{o:HO}
theorem Un.any(u:Un fs ex H H1 h h1){b:Addr}{ob:Obj}(q:h.get? b=some ob)(n:H b=none)(hx:b∉ex):∃sl,h1.get? b=some { ob with slots:=sl }:=by
 by_cases hb:b∈fs
 ·exact u.slot b ob q n hb hx
 ·exact⟨ob.slots,u.keep b ob q n hb hx⟩
theorem Un.kept(k:∀b u,h.get? b=some u->h'.get? b=some u):Un fs ex H H h h' :=
 ⟨fun b ob q _ _ _=>k b ob q,fun b ob q _ _ _=>⟨ob.slots,k b ob q⟩,fun _ _ _ n _=>n,fun b ob q _=>⟨ob,k b ob q⟩,fun _ _ q=>q,fun _ _ _ q=>q,.kept (fun b u _ e=>k b u e) fun _ _ e _=>e⟩
theorem Un.refl:Un fs ex H H h h:=Un.kept fun _ _ q=>q
theorem Un.laid(k:∀b u,h.get? b=some u->h'.get? b=some u)(hp:h.objs.size<=a)(hn:H a=none):Un fs ex H (upd H a o) h h' where
 keep:=fun b u q _ _ _=>k b u q
 slot:=fun b u q _ _ _=>⟨u.slots,k b u q⟩
 free:=fun b u q n _=>by rw[av (Nat.ne_of_lt (zP (zZ q) hp))];exact n
 there:=fun b u q _=>⟨u,k b u q⟩
 tups:=fun b xs q=>by rw[av (aC q hn)];exact q
 frzs:=fun b u xs q=>by rw[av (aC q hn)];exact q
 tbls:=.kept (fun b u _ e=>k b u e) fun b u q _=>by rw[av (aC q hn)];exact q
theorem Un.write(mu:Hl (H x))(he:e=x\/H e=some (.own x))(k:∀b u,b≠e->h.get? b=some u->h'.get? b=some u)(heo:∃u,h'.get? e=some u):Un fs ex H (upd H x o) h h':=by
 have hx:∀b,H b=none->b≠x:=fun b n z=>by subst z;rw[n] at mu;exact mu
 have hb:∀b,H b=none->b≠e:=fun b n z=>by
  subst z
  rcases he with r|r
  ·exact hx b n r
  ·rw[n] at r;cases r
 have hm:∀b u,H b=some u->¬ Hl (some u)->b≠x:=fun b u q nm z=>by subst z;rw[q] at mu;exact nm mu
 refine⟨fun b u q n _ _=>k b u (hb b n) q,fun b u q n _ _=>⟨u.slots,k b u (hb b n) q⟩,fun b u q n _=>by rw[av (hx b n)];exact n,fun b u q _=>?_,
  fun b xs q=>by rw[av (hm b _ q fun z=>z)];exact q,fun b u xs q=>by rw[av (hm b _ q fun z=>z)];exact q,.kept (fun b u z e=>k b u (fun r=>by subst r;rcases he with r|r<;>first|(subst r;rcases z with ⟨q,z⟩;rw[z] at mu;exact mu)|(rcases z with ⟨q,z⟩;rw[z] at r;cases r)) e) fun b u q nm=>by rw[av (hm b _ q (nm.not_mut))];exact q⟩
 by_cases hbe:b=e
 ·subst hbe;exact heo
 ·exact⟨u,k b u hbe q⟩
end
noncomputable def ID(h:Heap)(H:Hp):List Addr:=(List.range h.objs.size).filter fun a=>(H a).isSome
noncomputable def qC(h:Heap)(H:Hp):Heap:=W.hideAll h (ID h H)
theorem w4(h:Heap)(H:Hp):(qC h H).objs.size=h.objs.size:=W.hideAll_size _ _
theorem AW{h:Heap}{H:Hp}{b:Addr}{o:Obj}(e:h.get? b=some o)(n:H b=none):(qC h H).get? b=some o :=
 W.hideAll_get _ e fun hm=>by
  have q:(H b).isSome=true:=(List.mem_filter.mp hm).2
  rw[n] at q;simp at q
theorem C2{h:Heap}{H:Hp}{b:Addr}{o:Obj}(e:(qC h H).get? b=some o):h.get? b=some o/\H b=none:=by
 have e':h.get? b=some o:=W.of_hideAll (ID h H) e
 refine⟨e',?_⟩
 cases q:H b with
 | none=>rfl
 | some x =>
  have hm:b∈ID h H:=List.mem_filter.mpr ⟨zT.mpr (zZ e'),by simp[q]⟩
  have z:(qC h H).get? b=none:=W.hideAll_none (ID h H) hm
  rw[z] at e;cases e
def Io(mg:Str->Option Value)(base:Heap):Prop:=∃bm o,mg "__builtins__"=some (.ref bm)/\bm≠builtinsNs/\bm≠mainGlobals/\base.get? bm=some o/\o.cls=.type "module"/\o.dict=some builtinsNs/\o.data=.plain
structure Mod(K:W.Frag)(mg:Str->Option Value)(base:Heap):Prop where
 kin:K.In base
 glob:base.Ns mainGlobals mg
 blt:∃mb,base.Ns builtinsNs mb/\∀x:Str,x≠"__name__"->mb x=bootBuiltins x
 nolimit:base.NoLimit
 bmd:Io mg base
structure Cx where
 prog:Program
 w:World
 K:W.Frag
 mg:Str->Option Value
 base:Heap
 A:Around
 N:List Str
 s₀:Shared
 H₀:Hp
 env:Env
 outer:List Env
 stack:List Env
 ex:List Addr
 fn:Str->Bool
 calm:Bool
 pn:List (Addr×Obj)
 xe:Value->Shared->Prop
noncomputable def Bl(l:List Env):List Addr:=l.filterMap (·.frame)
noncomputable abbrev Cx.fs(X:Cx):List Addr:=Bl X.outer
def Ct(sc:Scope)(x:Str):Prop:=sc.names.lookup x=some .local \/ sc.names.lookup x=some .cell\/sc.names.lookup x=some .free
def Loc(sc:Scope)(x:Str):Prop:=sc.names.lookup x=some .local \/ sc.names.lookup x=some .cell
noncomputable def Look(env:Env)(h:Heap)(m:Str->Option Value)(x:Str)(u:Value):Prop :=
 (env.kindOf x=some .local /\ m x=some u)\/((env.kindOf x=some .cell\/env.kindOf x=some .free)/\∃c,env.cells.lookup x=some c/\h.IsCell c (some u))
structure Cx.Ok(X:Cx):Prop where
 mod:Mod X.K X.mg X.base
 kind:X.env.scope.kind=.function
 glob:X.env.globals=mainGlobals
 blt:X.env.builtins=builtinsNs
 above:X.s₀.heap.objs.size<=X.env.locals
 inj:∀x y c,X.env.cells.lookup x=some c->X.env.cells.lookup y=some c->x=y
 has:∀x,(X.env.kindOf x=some .cell\/X.env.kindOf x=some .free)->∃c,X.env.cells.lookup x=some c
 cab:∀x c,X.fn x=true->X.env.cells.lookup x=some c->X.s₀.heap.objs.size<=c
 hd:X.calm=true->X.A.handled=none
 frames:X.A.frames=some X.stack
 stk:X.stack=X.outer\/(X.stack=X.env::X.outer/\X.env.frame=some X.env.locals)
 exf:∀b∈X.ex,b≠X.env.locals/\∀x c,X.env.cells.lookup x=some c->c≠b
 bs:∀b o,X.base.get? b=some o->X.s₀.heap.get? b=some o/\X.H₀ b=none
 bsz:X.base.objs.size<=X.s₀.heap.objs.size
 noex:∀b o,X.base.get? b=some o->b∉X.ex
 exfs:∀b∈X.ex,b∉X.fs
 funs:X.s₀.heap.FunFrames X.base X.outer
 frf:∀b∈X.fs,X.H₀ b=none
structure Inv(X:Cx)(pins:List (Addr×Obj))(σ:List (Option V))(H:Hp)(s:Shared):Prop where
 ok:X.Ok
 os:s.os=X.s₀.os
 bare:AllBare s.gens
 base:Un X.fs X.ex X.H₀ H X.s₀.heap s.heap
 loc:∃m,s.heap.Ns X.env.locals m/\∀ (i:Nat) (x:Str) (v:V),X.N[i]?=some x->σ[i]?=some (some v)->Ct X.env.scope x->∃u,RelV v u/\Look X.env s.heap m x u
 cell:∀x c,X.env.cells.lookup x=some c->∃v,s.heap.IsCell c v
 free:H X.env.locals=none
 freeC:∀x c,X.env.cells.lookup x=some c->H c=none
 pin:∀p∈X.pn++pins,s.heap.get? p.1=some p.2/\H p.1=none/\p.1≠X.env.locals/\p.1∉X.fs/\∀v,p.2.data≠.cell v
 hok:lS X.prog X.w H s.heap
 len:σ.length=X.N.length
section
variable {X:Cx}{pins:List (Addr×Obj)}{σ:List (Option V)}{H H':Hp}{s:Shared}{h':Heap}
theorem Cx.Ok.nofr(ok:X.Ok){b:Addr}{o:Obj}(e:X.base.get? b=some o):b∉X.fs:=fun hb=>by
 have:=(ok.funs.mem hb).1
 rw[e] at this;cases this
theorem Inv.bs(I:Inv X pins σ H s):∀b o,X.base.get? b=some o->s.heap.get? b=some o/\H b=none:=fun b o e =>
 ⟨I.base.keep b o (I.ok.bs b o e).1 (I.ok.bs b o e).2 (I.ok.nofr e) (I.ok.noex b o e),I.base.free b o (I.ok.bs b o e).1 (I.ok.bs b o e).2 (I.ok.noex b o e)⟩
theorem Inv.bk(I:Inv X pins σ H s):∀b o,X.base.get? b=some o->s.heap.get? b=some o:=fun b o e=>(I.bs b o e).1
theorem Inv.mod(I:Inv X pins σ H s):Mod X.K X.mg X.base:=I.ok.mod
theorem Inv.kIn(I:Inv X pins σ H s):X.K.In s.heap:=I.ok.mod.kin.keeps I.bk
theorem Inv.nolimit(I:Inv X pins σ H s):s.heap.NoLimit:=I.ok.mod.nolimit.keeps I.bk
theorem Inv.lt(I:Inv X pins σ H s):X.env.locals < s.heap.objs.size:=let ⟨_,hn,_⟩:=I.loc;hn.lt
theorem Inv.sz(I:Inv X pins σ H s):X.s₀.heap.objs.size<=s.heap.objs.size:=yE I.ok.above (Nat.le_of_lt I.lt)
theorem Inv.nofs(I:Inv X pins σ H s){a:Addr}(h:s.heap.objs.size<=a):a∉X.fs:=fun hb=>by
 obtain⟨_,o,ho,_⟩:=I.ok.funs.mem hb
 exact absurd (zP (zZ ho) (yE I.sz h)) (Nat.lt_irrefl _)
theorem Inv.cne(I:Inv X pins σ H s):∀x c,X.env.cells.lookup x=some c->c≠X.env.locals:=fun x c e z=>by
 obtain⟨v,o,ho,hd⟩:=I.cell x c e
 obtain⟨m,⟨o',es,ep,ho',hd',_⟩,_⟩:=I.loc
 rw[z,ho'] at ho;cases ho;rw[hd'] at hd;cases hd
theorem Inv.funs(I:Inv X pins σ H s):s.heap.FunFrames X.base X.outer:=by
 have all:∀ (l:List Env),(∀b∈Bl l,b∈X.fs)->X.s₀.heap.FunFrames X.base l->s.heap.FunFrames X.base l:=by
  intro l
  induction l with
  | nil=>intro _ _;trivial
  | cons env r ih =>
   intro hs hl
   obtain⟨hk,⟨L,o,hf,hn,ho,hd⟩,hr⟩:=hl
   have hL:L∈X.fs:=hs L (by unfold Bl;rw[List.filterMap_cons,hf];exact zE)
   obtain⟨sl,e⟩:=I.base.slot L o ho (I.ok.frf L hL) hL fun z=>I.ok.exfs L z hL
   exact⟨hk,⟨L,_,hf,hn,e,hd⟩,ih (fun b hb=>hs b (by unfold Bl;rw[List.filterMap_cons,hf];exact zC _ hb)) hr⟩
 exact all X.outer (fun _ hb=>hb) I.ok.funs
theorem Inv.stack(I:Inv X pins σ H s):s.heap.FunFrames X.base X.stack:=by
 rcases I.ok.stk with e|⟨e,hf⟩
 ·rw[e];exact I.funs
 ·rw[e]
  obtain⟨m,hn,_⟩:=I.loc
  refine .cons (by rw[I.ok.kind];decide) hf hn ?_ I.funs
  exact Heap.get?_none_of_le (yE I.ok.bsz I.ok.above)
theorem Inv.stkSub(I:Inv X pins σ H s):∀b∈Bl X.stack,b∈X.env.locals::X.fs:=fun b hb=>by
 rcases I.ok.stk with e|⟨e,hf⟩
 ·rw[e] at hb;exact zC _ hb
 ·rw[e] at hb
  unfold Bl at hb
  rw[List.filterMap_cons,hf] at hb
  exact hb
theorem Inv.stkFree(I:Inv X pins σ H s):∀b∈Bl X.stack,H b=none:=fun b hb=>by
 rcases zR.mp (I.stkSub b hb) with e|hb
 ·rw[e];exact I.free
 ·obtain⟨_,o,ho,_⟩:=I.ok.funs.mem hb
  exact I.base.free b o ho (I.ok.frf b hb) fun z=>I.ok.exfs b z hb
theorem Inv.step{g':Array GenState}{t':Nat}{d':Drawn}{ch:List Addr}(I:Inv X pins σ H s)
  (hch:∀b∈ch,(b∈X.ex\/X.s₀.heap.objs.size<=b)/\b≠X.env.locals/\(∀x c,X.env.cells.lookup x=some c->c≠b)/\∀p∈X.pn++pins,p.1≠b)
  (keep:∀b o,b≠X.env.locals->b∉X.fs->b∉ch->s.heap.get? b=some o->H b=none->h'.get? b=some o)
  (slot:∀b o,b≠X.env.locals->b∈X.fs->b∉ch->s.heap.get? b=some o->H b=none->∃sl,h'.get? b=some { o with slots:=sl }) (free:∀b o,b∉ch->s.heap.get? b=some o->H b=none->H' b=none)
  (there:∀b o,b∉ch->s.heap.get? b=some o->∃o',h'.get? b=some o')
  (tups:∀b xs,H b=some (.tup xs)->H' b=some (.tup xs)) (frzs:∀b o u,H b=some (.frz o u)->H' b=some (.frz o u)) (tbls:Eo H H' s.heap h')
  (ns:∀m,s.heap.Ns X.env.locals m->h'.Ns X.env.locals m) (hok:lS X.prog X.w H' h') (hg:AllBare g') :
  Inv X pins σ H' { s with heap:=h',gens:=g',drawn:=d',toks:=t' }:=by
 have neL:∀b o,X.s₀.heap.get? b=some o->b≠X.env.locals:=fun b o e=>Nat.ne_of_lt (zP (zZ e) I.ok.above)
 have neC:∀b o,X.s₀.heap.get? b=some o->b∉X.ex->b∉ch:=fun b o e hx hb=>by
  rcases (hch b hb).1 with z|z
  ·exact hx z
  ·exact absurd (zP (zZ e) z) (Nat.lt_irrefl _)
 have cellK:∀x c,X.env.cells.lookup x=some c->∀v,s.heap.IsCell c v->h'.IsCell c v:=fun x c e v ⟨o,ho,hd⟩=>by
  have nch:c∉ch:=fun z=>(hch c z).2.2.1 x c e rfl
  by_cases hc:c∈X.fs
  ·obtain⟨sl,q⟩:=slot c o (I.cne x c e) hc nch ho (I.freeC x c e)
   exact⟨_,q,hd⟩
  ·exact⟨o,keep c o (I.cne x c e) hc nch ho (I.freeC x c e),hd⟩
 refine⟨I.ok,I.os,hg,⟨fun b o e n hb hx=>?_,fun b o e n hb hx=>?_,fun b o e n hx=>?_,fun b o e hx=>?_,fun b xs e=>tups b xs (I.base.tups b xs e),fun b o xs e=>frzs b o xs (I.base.frzs b o xs e),I.base.tbls.trans tbls⟩,?_,fun x c e=>?_,?_,fun x c e=>?_,fun p hp=>?_,hok,I.len⟩
 ·exact keep b o (neL b o e) hb (neC b o e hx) (I.base.keep b o e n hb hx) (I.base.free b o e n hx)
 ·obtain⟨sl,e1⟩:=I.base.slot b o e n hb hx
  obtain⟨sl',e2⟩:=slot b _ (neL b o e) hb (neC b o e hx) e1 (I.base.free b o e n hx)
  exact⟨sl',e2⟩
 ·obtain⟨o',e1⟩:=I.base.there b o e hx
  exact free b o' (neC b o e hx) e1 (I.base.free b o e n hx)
 ·obtain⟨o',e1⟩:=I.base.there b o e hx
  exact there b o' (neC b o e hx) e1
 ·obtain⟨m,hn,hl⟩:=I.loc
  refine⟨m,ns m hn,fun i x v e1 e2 e3=>?_⟩
  obtain⟨u,r,l⟩:=hl i x v e1 e2 e3
  refine⟨u,r,?_⟩
  rcases l with l|⟨k,c,e,z⟩
  ·exact .inl l
  ·exact .inr ⟨k,c,e,cellK x c e _ z⟩
 ·obtain⟨v,z⟩:=I.cell x c e
  exact⟨v,cellK x c e v z⟩
 ·obtain⟨m,⟨o,_,_,ho,_⟩,_⟩:=I.loc
  exact free _ o (fun z=>(hch _ z).2.1 rfl) ho I.free
 ·obtain⟨v,o,ho,hd⟩:=I.cell x c e
  exact free c o (fun z=>(hch c z).2.2.1 x c e rfl) ho (I.freeC x c e)
 ·obtain⟨e,n,ne,nf,d⟩:=I.pin p hp
  have nch:p.1∉ch:=fun z=>(hch p.1 z).2.2.2 p hp rfl
  exact⟨keep p.1 p.2 ne nf nch e n,free p.1 p.2 nch e n,ne,nf,d⟩
theorem Inv.un{t':Nat}(I:Inv X pins σ H s)(u:Un X.fs [] H H' s.heap h')(hok:lS X.prog X.w H' h'):Inv X pins σ H' { s with heap:=h',toks:=t' }:=by
 obtain⟨m,⟨o,es,ep,ho,r⟩,_⟩:=id I.loc
 obtain⟨sl,hL⟩:=u.any ho I.free (by simp)
 exact I.step (g':=s.gens) (d':=s.drawn) (ch:=[]) (fun _ z=>nomatch z) (fun b o _ hb _ e n=>u.keep b o e n hb (by simp)) (fun b o _ hb _ e n=>u.slot b o e n hb (by simp)) (fun b o _ e n=>u.free b o e n (by simp)) (fun b o _ e=>u.there b o e (by simp)) u.tups u.frzs u.tbls (fun m' hm=>by
  obtain⟨o',es',ep',ho',r'⟩:=hm
  rw[ho] at ho';cases ho'
  exact⟨_,es',ep',hL,r'⟩) hok I.bare
theorem Inv.call{g':Array GenState}{t':Nat}{d':Drawn}{ch:List Addr}(I:Inv X pins σ H s)(u:Un (Bl X.stack) ch H H' s.heap h')(hok:lS X.prog X.w H' h')(hg:AllBare g')
  (hch:∀b∈ch,(b∈X.ex\/X.s₀.heap.objs.size<=b)/\b≠X.env.locals/\(∀x c,X.env.cells.lookup x=some c->c≠b)/\∀p∈X.pn++pins,p.1≠b) :
  Inv X pins σ H' { s with heap:=h',gens:=g',drawn:=d',toks:=t' }:=by
 obtain⟨m,⟨o,es,ep,ho,r⟩,_⟩:=id I.loc
 obtain⟨sl,hL⟩:=u.any ho I.free fun z=>(hch _ z).2.1 rfl
 exact I.step (ch:=ch) hch (fun b o hL hb hc e n=>u.keep b o e n (fun z=>(zR.mp (I.stkSub b z)).elim hL hb) hc) (fun b o _ _ hc e n=>u.any e n hc) (fun b o hc e n=>u.free b o e n hc) (fun b o hc e=>u.there b o e hc) u.tups u.frzs u.tbls (fun m' hm=>by
  obtain⟨o',es',ep',ho',r'⟩:=hm
  rw[ho] at ho';cases ho'
  exact⟨_,es',ep',hL,r'⟩) hok hg
theorem Inv.turned{t':Nat}{it:Addr}(I:Inv X pins σ H s)(k:∀b o,b≠it->s.heap.get? b=some o->h'.get? b=some o)(hn:H it=none)(hL:it≠X.env.locals)
  (h1:it∈X.ex\/X.s₀.heap.objs.size<=it) (h2:∀x c,X.env.cells.lookup x=some c->c≠it) (h3:∀p∈X.pn++pins,p.1≠it):Inv X pins σ H { s with heap:=h',toks:=t' }:=by
 have nit:∀b u,H b=some u->b≠it:=fun b u e z=>by rw[z,hn] at e;cases e
 refine I.step (g':=s.gens) (d':=s.drawn) (ch:=[it]) (fun b hb=>?_) (fun b o _ _ hc e _=>k b o (fun z=>hc (by simp[z])) e) (fun b o _ _ hc e _=>⟨o.slots,k b o (fun z=>hc (by simp[z])) e⟩) (fun _ _ _ _ n=>n)
  (fun b o hc e=>⟨o,k b o (fun z=>hc (by simp[z])) e⟩) (fun _ _ e=>e) (fun _ _ _ e=>e) (.kept (fun b u z e=>k b u (fun r=>by subst r;rcases z with ⟨q,z⟩;rw[hn] at z;cases z) e) fun _ _ e _=>e) (fun m hm=>?_) (fun b u e=>?_) I.bare
 ·have e:b=it:=by simpa using hb
  subst e
  exact⟨h1,hL,h2,h3⟩
 ·obtain⟨o,es,ep,ho,r⟩:=hm
  exact⟨o,es,ep,k _ o (Ne.symm hL) ho,r⟩
 ·refine (I.hok b u e).stay (fun c v hc q=>k c v ?_ q) (fun _ q=>q) fun _ _ q _=>q
  rcases hc with z|z
  ·rw[z];exact nit b u e
  ·exact nit c _ z
theorem Inv.tok(I:Inv X pins σ H s)(t:Nat):Inv X pins σ H { s with toks:=t }:=I.un (h':=s.heap) (t':=t) Un.refl I.hok
theorem Inv.kept{t':Nat}(I:Inv X pins σ H s)(k:∀b u,s.heap.get? b=some u->h'.get? b=some u):Inv X pins σ H { s with heap:=h',toks:=t' }:=I.un (Un.kept k) (I.hok.kept k)
theorem Inv.laid{a:Addr}{o:HO}{t':Nat}(I:Inv X pins σ H s)(k:∀b u,s.heap.get? b=some u->h'.get? b=some u)(hp:s.heap.objs.size<=a)(new:dg X.prog X.w (upd H a o) h' a o) :
  Inv X pins σ (upd H a o) { s with heap:=h',toks:=t' }:=I.un (Un.laid k hp (I.hok.fresh hp)) (I.hok.laid k hp new)
theorem Inv.write{x e:Addr}{o:HO}{t':Nat}(I:Inv X pins σ H s)(mu:Hl (H x))(he:e=x\/H e=some (.own x))(k:∀b u,b≠e->s.heap.get? b=some u->h'.get? b=some u)(heo:∃u,h'.get? e=some u)
  (new:dg X.prog X.w (upd H x o) h' x o):Inv X pins σ (upd H x o) { s with heap:=h',toks:=t' }:=I.un (Un.write mu he k heo) (I.hok.write mu he k heo new)
theorem Inv.pins_of{pins':List (Addr×Obj)}(I:Inv X pins σ H s)(h:∀p∈pins',s.heap.get? p.1=some p.2/\H p.1=none/\p.1≠X.env.locals/\p.1∉X.fs/\∀v,p.2.data≠.cell v):Inv X pins' σ H s :=
 ⟨I.ok,I.os,I.bare,I.base,I.loc,I.cell,I.free,I.freeC,fun p hp=>(List.mem_append.mp hp).elim (fun z=>I.pin p (List.mem_append_left _ z)) (h p),I.hok,I.len⟩
theorem sH{N:List Str}(hN:N.Nodup){i j:Nat}{x:Str}(a:N[i]?=some x)(b:N[j]?=some x):i=j:=by
 obtain⟨h1,e1⟩:=zU.mp a
 obtain⟨h2,e2⟩:=zU.mp b
 exact (List.getElem_inj hN).mp (e1.trans e2.symm)
theorem oO{M:Model}{A:Around}{E:Value->Shared->Prop}{i:Nat}{x:Str}{v:V}{u:Value}{Q:Unit->Shared->Prop}(I:Inv X pins σ H s)(hN:X.N.Nodup)(hi:X.N[i]?=some x)(hx:Loc X.env.scope x)(r:RelV v u)
  (h:∀s',Inv X pins (σ.set i (some v)) H s'->(∃a,Heap.SameBut a s.heap s'.heap/\(a=X.env.locals\/X.env.cells.lookup x=some a))->Q () s') (hf:X.fn x=true\/X.env.scope.names.lookup x=some .local:=by first|exact .inl rfl|exact .inr rfl|assumption):wpAny M A (storeName X.env x u) Q E s:=by
 obtain⟨m,hn,hl⟩:=id I.loc
 have hcls:(X.env.scope.kind == .class||(X.env.scope.kind == .module&&X.env.locals != X.env.globals))=false:=by rw[I.ok.kind];rfl
 have hiσ:i < σ.length:=by rw[I.len];exact (zU.mp hi).1
 have cne:=I.cne
 have tracked:∀ {a:Addr}{h':Heap},(∃o,s.heap.get? a=some o/\H a=none)->Heap.SameBut a s.heap h'->lS X.prog X.w H h':=fun {a h'} ha hs b ob e=>by
  obtain⟨_,_,hfree⟩:=ha
  refine (I.hok b ob e).stay (fun c w' hc q=>(hs.2 c ?_).trans q) (fun _ q=>q) fun _ _ q _=>q
  rintro rfl
  rcases hc with rfl|hc
  ·rw[hfree] at e;cases e
  ·rw[hfree] at hc;cases hc
 rcases hx with hk|hk
 ·refine wpAny_storeName_local hk hn (fun h' hn' hs=>?_) hcls
  obtain⟨oL,_,_,hoL,_⟩:=id hn
  refine h _ ⟨I.ok,I.os,I.bare,⟨fun b o e n hb hx=>?_,fun b o e n hb hx=>?_,I.base.free,fun b o e hx=>?_,I.base.tups,I.base.frzs,I.base.tbls.trans (.kept (fun b u z e=>(hs.2 b (fun r=>by rcases z with ⟨q,z⟩;rw[r,I.free] at z;cases z)).trans e) fun _ _ e _=>e)⟩,⟨_,hn',fun j y v' e1 e2 e3=>?_⟩,fun y c e=>?_,I.free,I.freeC,fun p hp=>?_,tracked ⟨oL,hoL,I.free⟩ hs,by simpa using I.len⟩ ⟨_,hs,.inl rfl⟩
  ·exact (hs.2 b (Nat.ne_of_lt (zP (zZ e) I.ok.above))).trans (I.base.keep b o e n hb hx)
  ·obtain⟨sl,e1⟩:=I.base.slot b o e n hb hx
   exact⟨sl,(hs.2 b (Nat.ne_of_lt (zP (zZ e) I.ok.above))).trans e1⟩
  ·obtain⟨o',e1⟩:=I.base.there b o e hx
   exact⟨o',(hs.2 b (Nat.ne_of_lt (zP (zZ e) I.ok.above))).trans e1⟩
  ·by_cases hj:j=i
   ·subst hj
    rw[hi] at e1;cases e1
    rw[List.getElem?_set_self hiσ] at e2
    cases e2
    exact⟨u,r,.inl ⟨hk,by simp⟩⟩
   ·rw[List.getElem?_set_ne (Ne.symm hj)] at e2
    obtain⟨u',r',q⟩:=hl j y v' e1 e2 e3
    refine⟨u',r',?_⟩
    rcases q with ⟨k,e⟩|⟨k,c,e,z⟩
    ·refine .inl ⟨k,?_⟩
     have:y≠x:=fun e=>hj (sH hN e1 (e ▸ hi))
     simp[this,e]
    ·exact .inr ⟨k,c,e,z.sameBut hs (cne y c e)⟩
  ·obtain⟨w',z⟩:=I.cell y c e
   exact⟨w',z.sameBut hs (cne y c e)⟩
  ·obtain⟨e,n,ne,nf,d⟩:=I.pin p hp
   exact⟨(hs.2 p.1 ne).trans e,n,ne,nf,d⟩
 ·have hfn:X.fn x=true:=by
   rcases hf with z|z
   ·exact z
   ·rw[z] at hk;cases hk
  obtain⟨c,hc⟩:=I.ok.has x (.inl hk)
  obtain⟨w',z⟩:=I.cell x c hc
  refine wpAny_storeName_cell I.ok.kind hk hc z (fun h' hc' hs=>?_)
  obtain⟨oc,hoc,hocd⟩:=id z
  refine h { s with heap:=h' } ⟨I.ok,I.os,I.bare,⟨fun b o e n hb hx=>?_,fun b o e n hb hx=>?_,I.base.free,fun b o e hx=>?_,I.base.tups,I.base.frzs,I.base.tbls.trans (.kept (fun b u z e=>(hs.2 b (fun r=>by rcases z with ⟨q,z⟩;rw[r,I.freeC x c hc] at z;cases z)).trans e) fun _ _ e _=>e)⟩,⟨m,hn.sameBut hs (Ne.symm (cne x c hc)),fun j y v' e1 e2 e3=>?_⟩,fun y c' e=>?_,I.free,I.freeC,fun p hp=>?_,tracked ⟨oc,hoc,I.freeC x c hc⟩ hs,by simpa using I.len⟩ ⟨c,hs,.inr hc⟩
  ·exact (hs.2 b (Nat.ne_of_lt (zP (zZ e) (I.ok.cab x c hfn hc)))).trans (I.base.keep b o e n hb hx)
  ·obtain⟨sl,e1⟩:=I.base.slot b o e n hb hx
   exact⟨sl,(hs.2 b (Nat.ne_of_lt (zP (zZ e) (I.ok.cab x c hfn hc)))).trans e1⟩
  ·obtain⟨o',e1⟩:=I.base.there b o e hx
   exact⟨o',(hs.2 b (Nat.ne_of_lt (zP (zZ e) (I.ok.cab x c hfn hc)))).trans e1⟩
  ·by_cases hj:j=i
   ·subst hj
    rw[hi] at e1;cases e1
    rw[List.getElem?_set_self hiσ] at e2
    cases e2
    exact⟨u,r,.inr ⟨.inl hk,c,hc,hc'⟩⟩
   ·rw[List.getElem?_set_ne (Ne.symm hj)] at e2
    obtain⟨u',r',q⟩:=hl j y v' e1 e2 e3
    refine⟨u',r',?_⟩
    rcases q with q|⟨k,c',e,z'⟩
    ·exact .inl q
    ·refine .inr ⟨k,c',e,z'.sameBut hs ?_⟩
     rintro rfl
     exact hj (sH hN e1 (I.ok.inj _ _ _ e hc ▸ hi))
  ·by_cases hcc:c'=c
   ·subst hcc;exact⟨_,hc'⟩
   ·obtain⟨w2,z2⟩:=I.cell y c' e
    exact⟨w2,z2.sameBut hs hcc⟩
  ·obtain⟨e,n,ne,nf,d⟩:=I.pin p hp
   refine⟨(hs.2 p.1 ?_).trans e,n,ne,nf,d⟩
   intro q
   rw[q,hoc] at e
   have q':oc=p.2:=Option.some.inj e
   exact d w' (by rw[<- q'];exact hocd)
theorem rz{M:Model}{A:Around}{E:Value->Shared->Prop}{i:Nat}{x:Str}{v:V}{u:Value}{Q:Unit->Shared->Prop}(I:Inv X pins σ H s)(hN:X.N.Nodup)(hi:X.N[i]?=some x)(hx:Loc X.env.scope x)(r:RelV v u)
  (h:∀s',Inv X pins (σ.set i (some v)) H s'->Q () s') (hf:X.fn x=true\/X.env.scope.names.lookup x=some .local:=by first|exact .inl rfl|exact .inr rfl|assumption):wpAny M A (storeName X.env x u) Q E s :=
 oO I hN hi hx r (fun s' I' _=>h s' I') hf
theorem Inv.call'{s':Shared}{ch:List Addr}(I:Inv X pins σ H s)(ho:s'.os=s.os)(u:Un (Bl X.stack) ch H H' s.heap s'.heap)(hok:lS X.prog X.w H' s'.heap)(hg:AllBare s'.gens)
  (hch:∀b∈ch,(b∈X.ex\/X.s₀.heap.objs.size<=b)/\b≠X.env.locals/\(∀x c,X.env.cells.lookup x=some c->c≠b)/\∀p∈X.pn++pins,p.1≠b):Inv X pins σ H' s':=by
 obtain⟨h',g',d',t',o'⟩:=s'
 have e:o'=s.os:=ho
 subst e
 exact I.call (g':=g') (t':=t') (d':=d') u hok hg hch
end
noncomputable abbrev XK:=Value->Option Addr->Hp->Prop
noncomputable abbrev St:=List (Option V)
noncomputable abbrev VK:=V->Hp->Prop
noncomputable abbrev TE:=St->Hp->VK->Prop
noncomputable abbrev TT:=St->Hp->(Bool->Hp->Prop)->Prop
noncomputable abbrev TA:=St->Hp->(List V->Hp->Prop)->Prop
structure Ends where
 nx:St->Hp->Prop
 rt:VK
 bk:St->Hp->Prop:=fun _ _=>False
 ct:St->Hp->Prop:=fun _ _=>False
noncomputable abbrev TS:=Ends->St->Hp->Prop
def EP(X:Cx)(pins:List (Addr×Obj))(σ:St)(Q:VK)(u:Value)(s':Shared):Prop:=∃v H',Inv X pins σ H' s'/\RelV v u/\Q v H'
def TP(X:Cx)(pins:List (Addr×Obj))(σ:St)(Q:Bool->Hp->Prop)(b:Bool)(s':Shared):Prop:=∃H',Inv X pins σ H' s'/\Q b H'
def AP(X:Cx)(pins:List (Addr×Obj))(σ:St)(Q:List V->Hp->Prop)(us:List Value)(s':Shared):Prop:=∃vs H',Inv X pins σ H' s'/\ax vs us/\Q vs H'
noncomputable def SP(X:Cx)(pins:List (Addr×Obj))(D:Ends)(f:Flow)(s':Shared):Prop :=
 match f with
 | .next=>∃σ' H',Inv X pins σ' H' s'/\D.nx σ' H'
 | .brk=>∃σ' H',Inv X pins σ' H' s'/\D.bk σ' H'
 | .cont=>∃σ' H',Inv X pins σ' H' s'/\D.ct σ' H'
 | .ret u=>∃v σ' H',Inv X pins σ' H' s'/\RelV v u/\D.rt v H'
noncomputable def PE(X:Cx)(e:Expr)(t:TE):Prop :=
 ∀ (pins:List (Addr×Obj)) (s:Shared) (σ:St) (H:Hp) (Q:VK),Inv X pins σ H s->t σ H Q->wpAny (model X.prog X.w) X.A (eval e X.env) (EP X pins σ Q) X.xe s
noncomputable def PT(X:Cx)(e:Expr)(t:TT):Prop :=
 ∀ (pins:List (Addr×Obj)) (s:Shared) (σ:St) (H:Hp) (Q:Bool->Hp->Prop),Inv X pins σ H s->t σ H Q->wpAny (model X.prog X.w) X.A (isTrue e X.env (eval e X.env)) (TP X pins σ Q) X.xe s
noncomputable def PW(X:Cx)(e:Expr)(t:TT):Prop :=
 ∀ (whole:Sem Value) (pins:List (Addr×Obj)) (s:Shared) (σ:St) (H:Hp) (Q:Bool->Hp->Prop),Inv X pins σ H s->t σ H Q->wpAny (model X.prog X.w) X.A (isTrue e X.env whole) (TP X pins σ Q) X.xe s
theorem PW.pt{X:Cx}{e:Expr}{t:TT}(h:PW X e t):PT X e t:=h _
noncomputable def PA(X:Cx)(es:List Expr)(t:TA):Prop :=
 ∀ (pos:Pos) (pins:List (Addr×Obj)) (s:Shared) (σ:St) (H:Hp) (Q:List V->Hp->Prop),Inv X pins σ H s->t σ H Q->wpAny (model X.prog X.w) X.A (spliced (backTo pos (starEach es X.env))) (AP X pins σ Q) X.xe s
noncomputable def PS(X:Cx)(st:Stmt)(t:TS):Prop :=
 ∀ (pins:List (Addr×Obj)) (s:Shared) (σ:St) (H:Hp) (D:Ends),Inv X pins σ H s->t D σ H->wpAny (model X.prog X.w) X.A (exec st X.env) (SP X pins D) X.xe s
noncomputable def ug(X:Cx)(st:List Stmt)(t:TS):Prop :=
 ∀ (pins:List (Addr×Obj)) (s:Shared) (σ:St) (H:Hp) (D:Ends),Inv X pins σ H s->t D σ H->wpAny (model X.prog X.w) X.A (execs st X.env) (SP X pins D) X.xe s
theorem bw{α:Type}{t:Sem α}{Q Q':α->Shared->Prop}{M:Model}{A:Around}{E:Value->Shared->Prop}{s:Shared}(h:wpAny M A t Q E s)(hQ:∀a s,Q a s->Q' a s):wpAny M A t Q' E s:=wpAny_mono h hQ fun _ _ x=>x
section
variable {X:Cx}
def IS(i:Nat):TE:=fun σ H Q=>∃v,σ[i]?=some (some v)/\Q v H
def tC(v:V):TE:=fun _ H Q=>Q v H
theorem kR{i:Nat}{x:Str}{pos:Pos}(hN:X.N[i]?=some x)(hv:Ct X.env.scope x)(hd:(x == ("__debug__":Str))=false:=by decide)(hcd:(x == ("__classdict__":Str))=false:=by decide):PE X (.Name x pos) (IS i):=by
 intro pins s σ H Q I h
 obtain⟨v,e,h⟩:=h
 obtain⟨m,hn,hl⟩:=I.loc
 obtain⟨u,r,l⟩:=hl i x v hN e hv
 have fin:EP X pins σ Q u s:=⟨v,H,I,r,h⟩
 rcases l with ⟨hk,hm⟩|⟨hk,c,hc,hcell⟩
 ·exact wpAny_Name (wpAny_loadName_local I.ok.kind hk hn hm fin) hd
 ·rcases hk with hk|hk
  ·exact wpAny_Name (wpAny_loadName_cell I.ok.kind hk hc hcell fin) hd
  ·exact wpAny_Name (wpAny_loadName_free I.ok.kind hk hc hcell fin hcd) hd
theorem pF{i j pos}:PE X (.Constant (.int i) j pos) (tC (.int i)):=fun _ _ _ H _ I h=>wpAny_Constant_int ⟨.int i,H,I.tok _,⟨_,rfl⟩,h⟩
theorem Hz{b j pos}:PE X (.Constant (.bool b) j pos) (tC (.bl b)):=fun _ _ _ H _ I h=>Constant_bool ⟨.bl b,H,I,rfl,h⟩
theorem EF{j pos}:PE X (.Constant .none j pos) (tC .non):=fun _ _ _ H _ I h=>Constant_none ⟨.non,H,I,rfl,h⟩
theorem Gu{x j pos}:PE X (.Constant (.str x) j pos) (tC (.str x)):=fun _ _ _ H _ I h=>Calls.Constant_str ⟨.str x,H,I.tok _,⟨_,rfl⟩,h⟩
def Gl(X:Cx)(x:Str):Prop:=X.env.kindOf x=some .globalImplicit
theorem wa{E:Value->Shared->Prop}{pins:List (Addr×Obj)}{s:Shared}{σ:St}{H:Hp}{x:Str}{u:Value}{pos:Pos}{Q:Value->Shared->Prop}(I:Inv X pins σ H s)(hg:Gl X x)(hm:X.mg x=some u)(h:Q u s)
  (hd:(x == ("__debug__":Str))=false:=by decide):wpAny (model X.prog X.w) X.A (eval (.Name x pos) X.env) Q E s :=
 Calls.Name_function_global I.ok.kind hg (Calls.loadGlobal_global (by rw[I.ok.glob];exact I.mod.glob.keeps I.bk) hm h) hd
theorem eL{E:Value->Shared->Prop}{pins:List (Addr×Obj)}{s:Shared}{σ:St}{H:Hp}{x:Str}{u:Value}{pos:Pos}{Q:Value->Shared->Prop}(I:Inv X pins σ H s)(hg:Gl X x)(hm:X.mg x=none)(hv:bootBuiltins x=some u)(h:Q u s)
  (hn:x≠"__name__":=by decide) (hd:(x == ("__debug__":Str))=false:=by decide):wpAny (model X.prog X.w) X.A (eval (.Name x pos) X.env) Q E s:=by
 obtain⟨mb,h1,h2⟩:=I.mod.blt
 exact Calls.Name_function_global I.ok.kind hg (Calls.loadGlobal_builtin (by rw[I.ok.glob];exact I.mod.glob.keeps I.bk) hm (by rw[I.ok.blt];exact h1.keeps I.bk) ((h2 x hn).trans hv) h) hd
theorem qc{x:Str}{v:V}{u:Value}{pos:Pos}(hg:Gl X x)(hm:X.mg x=some u)(r:RelV v u)(hd:(x == ("__debug__":Str))=false:=by decide):PE X (.Name x pos) (tC v) :=
 fun _ _ _ H _ I h=>wa I hg hm ⟨v,H,I,r,h⟩ hd
theorem C9{x:Str}{v:V}{u:Value}{pos:Pos}(hg:Gl X x)(hm:X.mg x=none)(hv:bootBuiltins x=some u)(r:RelV v u)(hn:x≠"__name__":=by decide)(hd:(x == ("__debug__":Str))=false:=by decide):PE X (.Name x pos) (tC v) :=
 fun _ _ _ H _ I h=>eL I hg hm hv ⟨v,H,I,r,h⟩ hn hd
variable {a b:Expr}{ta tb:TE}{pos:Pos}
def tB(t:TE):TT:=fun σ H Q=>t σ H fun x H1=>∃c,x=.bl c/\Q c H1
theorem Gy{e:Expr}{t:TE}(h:PE X e t)(he:∀whole,isTrue e X.env whole=(do let v <- whole;standAt e.pos;holding [v] (truthy v)):=by intro _;rfl):PT X e (tB t):=by
 intro pins s σ H Q I hw
 refine isTrue_plain (bw (h pins s σ H _ I hw) fun v s1 ⟨x,H1,I1,r1,q1⟩=>?_) (he _)
 obtain⟨d,rfl,q⟩:=q1
 cases r1
 exact wpAny_truthy_bool ⟨H1,I1,q⟩
variable {tA tB':TT}{rest:List Expr}
def Jh(t u:TT):TT:=fun σ H Q=>t σ H fun c H1=>if c=true then u σ H1 Q else Q false H1
def J7(t u:TT):TT:=fun σ H Q=>t σ H fun c H1=>if c=true then Q true H1 else u σ H1 Q
def Js(t:TT):TT:=fun σ H Q=>t σ H fun c H1=>Q (!c) H1
theorem Cy(ha:PT X a tA):PW X (.BoolOp .And [a] pos) tA:=by
 intro wh pins s σ H Q I h
 refine isTrue_and (bw (ha pins s σ H Q I h) fun c s1 e=>?_)
 cases c with
 | true=>exact isTrue_and_nil e
 | false=>exact e
theorem ES(ha:PT X a tA):PW X (.BoolOp .Or [a] pos) tA:=by
 intro wh pins s σ H Q I h
 refine isTrue_or (bw (ha pins s σ H Q I h) fun c s1 e=>?_)
 cases c with
 | false=>exact isTrue_or_nil e
 | true=>exact e
theorem GF(ha:PT X a tA)(hb:PW X (.BoolOp .And (b::rest) pos) tB'):PW X (.BoolOp .And (a::b::rest) pos) (Jh tA tB'):=by
 intro wh pins s σ H Q I h
 refine isTrue_and (bw (ha pins s σ H _ I h) fun c s1 ⟨H1,I1,q1⟩=>?_)
 cases c with
 | true=>exact hb wh pins s1 σ H1 Q I1 q1
 | false=>exact⟨H1,I1,q1⟩
theorem Hc(ha:PT X a tA)(hb:PW X (.BoolOp .Or (b::rest) pos) tB'):PW X (.BoolOp .Or (a::b::rest) pos) (J7 tA tB'):=by
 intro wh pins s σ H Q I h
 refine isTrue_or (bw (ha pins s σ H _ I h) fun c s1 ⟨H1,I1,q1⟩=>?_)
 cases c with
 | true=>exact⟨H1,I1,q1⟩
 | false=>exact hb wh pins s1 σ H1 Q I1 q1
theorem Gv(ha:PT X a tA):PT X (.UnaryOp .Not a pos) (Js tA):=by
 intro pins s σ H Q I h
 exact isTrue_not (ha pins s σ H (fun c H1=>Q (!c) H1) I h)
def Ij(ta tb:TE):TE:=fun σ H Q=>ta σ H fun x H1=>∃c,x=.bl c/\if c=true then tb σ H1 Q else Q (.bl false) H1
def JA(ta tb:TE):TE:=fun σ H Q=>ta σ H fun x H1=>∃c,x=.bl c/\if c=true then Q (.bl true) H1 else tb σ H1 Q
def HH(ta:TE):TE:=fun σ H Q=>ta σ H fun x H1=>∃c,x=.bl c/\Q (.bl (!c)) H1
theorem Gz{op}{t:TE}(h:PE X a t):PE X (.BoolOp op [a] pos) t:=fun pins s σ H Q I hw=>BoolOp_one (h pins s σ H Q I hw)
theorem FK(ha:PE X a ta)(hb:PE X (.BoolOp .And (b::rest) pos) tb):PE X (.BoolOp .And (a::b::rest) pos) (Ij ta tb):=by
 intro pins s σ H Q I h
 refine BoolOp_and (bw (ha pins s σ H _ I h) fun v s1 ⟨x,H1,I1,r1,q1⟩=>?_)
 obtain⟨c,rfl,q1⟩:=q1
 cases r1
 refine wpAny_truthy_bool ?_
 cases c with
 | true=>exact hb pins s1 σ H1 Q I1 q1
 | false=>exact⟨.bl false,H1,I1,rfl,q1⟩
theorem Av(ha:PE X a ta)(hb:PE X (.BoolOp .Or (b::rest) pos) tb):PE X (.BoolOp .Or (a::b::rest) pos) (JA ta tb):=by
 intro pins s σ H Q I h
 refine BoolOp_or (bw (ha pins s σ H _ I h) fun v s1 ⟨x,H1,I1,r1,q1⟩=>?_)
 obtain⟨c,rfl,q1⟩:=q1
 cases r1
 refine wpAny_truthy_bool ?_
 cases c with
 | false=>exact hb pins s1 σ H1 Q I1 q1
 | true=>exact⟨.bl true,H1,I1,rfl,q1⟩
theorem FS(ha:PE X a ta):PE X (.UnaryOp .Not a pos) (HH ta):=by
 intro pins s σ H Q I h
 refine UnaryOp_ (bw (ha pins s σ H _ I h) fun v s1 ⟨x,H1,I1,r1,q1⟩=>?_)
 obtain⟨c,rfl,q1⟩:=q1
 cases r1
 exact not_of (wpAny_truthy_bool ⟨.bl (!c),H1,I1,rfl,q1⟩)
def Kl(t:TT)(ta tb:TE):TE:=fun σ H Q=>t σ H fun c H1=>if c=true then ta σ H1 Q else tb σ H1 Q
theorem yR{c:Expr}(hc:PT X c tA)(ha:PE X a ta)(hb:PE X b tb):PE X (.IfExp c a b pos) (Kl tA ta tb):=by
 intro pins s σ H Q I h
 refine wpAny_IfExp (bw (hc pins s σ H _ I h) fun d s1 ⟨H1,I1,q1⟩=>?_)
 cases d with
 | true=>exact ha pins s1 σ H1 Q I1 q1
 | false=>exact hb pins s1 σ H1 Q I1 q1
end
noncomputable def fj(K:W.Frag)(H:Hp)(a:Addr)(xs:List V):Prop :=
 Rd H a (.lst xs) \/
  ∃ (o:Obj) (its:Array Value) (n:Nat),K.lookup a=some o/\o.cls=.type "list"/\o.dict=none/\o.data=.seq its n/\its.size<=sizeLine/\ax xs its.toList
noncomputable def fP(K:W.Frag)(H:Hp)(a:Addr)(xs:List V):Prop :=
 Rd H a (.tup xs) \/
  ∃ (o:Obj) (its:Array Value) (n:Nat),K.lookup a=some o/\o.cls=.type "tuple"/\o.dict=none/\o.data=.seq its n/\its.size<=sizeLine/\ax xs its.toList
noncomputable def JG:Value->Option V
 | .none=>some .non
 | .bool b=>some (.bl b)
 | .int i _=>some (.int i)
 | .str x _=>some (.str x)
 | .bytes b _=>some (.byt b)
 | .float b _=>some (.flt b)
 | .ref a=>some (.ref a)
 | .type n=>some (.ty n)
 | _=>none
theorem RelV.abs{x:V}{u:Value}(r:RelV x u):JG u=some x:=by
 cases x with
 | non=>cases r;rfl
 | bl _=>cases r;rfl
 | int _=>obtain⟨t,rfl⟩:=r;rfl
 | str _=>obtain⟨t,rfl⟩:=r;rfl
 | byt _=>obtain⟨t,rfl⟩:=r;rfl
 | flt _=>obtain⟨t,rfl⟩:=r;rfl
 | ref _=>cases r;rfl
 | ty _=>cases r;rfl
theorem RelV.inj{x y:V}{u:Value}(r:RelV x u)(q:RelV y u):x=y:=Option.some.inj (r.abs.symm.trans q.abs)
theorem ax.inj:∀ {xs ys:List V}{us:List Value},ax xs us->ax ys us->xs=ys
 | _,_,_,.nil,.nil=>rfl
 | _,_,_,.cons r t,.cons r' t'=>by rw[r.inj r',ax.inj t t']
section
variable {X:Cx}{pins:List (Addr×Obj)}{σ:St}{H:Hp}{s:Shared}{a:Addr}{xs ys:List V}
theorem fj.of{K:W.Frag}(h:H a=some (.lst xs)):fj K H a xs:=.inl (.inl h)
theorem Inv.list(I:Inv X pins σ H s)(h:fj X.K H a xs):∃its:List Value,ax xs its/\PlainL s.heap a its.toArray/\xs.length<=sizeLine:=by
 rcases h with h|⟨o,its,n,hk,hc,hd,hs,hz,r⟩
 ·obtain⟨z,its,n,r,e⟩:=h.ok I.hok
  exact⟨its,r,⟨_,n,e,rfl,rfl,rfl⟩,z⟩
 ·refine⟨its.toList,r,⟨o,n,I.kIn a o hk,hc,hd,by simpa using hs⟩,?_⟩
  have e:=r.length
  simp only[Array.length_toList] at e
  omega
theorem Inv.tuple(I:Inv X pins σ H s)(h:fP X.K H a xs):∃its:List Value,ax xs its/\IsTup s.heap a its.toArray/\xs.length<=sizeLine:=by
 rcases h with h|⟨o,its,n,hk,hc,_,hs,hz,r⟩
 ·obtain⟨z,its,r,p⟩:=h.ok I.hok
  exact⟨its,r,p.1,z⟩
 ·refine⟨its.toList,r,⟨o,I.kIn a o hk,hc,n,by simpa using hs⟩,?_⟩
  have e:=r.length
  simp only[Array.length_toList] at e
  omega
theorem Inv.list_inj(I:Inv X pins σ H s)(h:fj X.K H a xs)(h':fj X.K H a ys):xs=ys:=by
 obtain⟨its,r,⟨o,n,e,_,_,d⟩,_⟩:=I.list h
 obtain⟨its',r',⟨o',n',e',_,_,d'⟩,_⟩:=I.list h'
 rw[e] at e';cases e'
 rw[d] at d'
 injection d' with d1 _
 have:its=its':=by simpa using congrArg Array.toList d1
 subst this
 exact r.inj r'
theorem Inv.tuple_inj(I:Inv X pins σ H s)(h:fP X.K H a xs)(h':fP X.K H a ys):xs=ys:=by
 obtain⟨its,r,⟨o,e,_,n,d⟩,_⟩:=I.tuple h
 obtain⟨its',r',⟨o',e',_,n',d'⟩,_⟩:=I.tuple h'
 rw[e] at e';cases e'
 rw[d] at d'
 injection d' with d1 _
 have:its=its':=by simpa using congrArg Array.toList d1
 subst this
 exact r.inj r'
end
noncomputable abbrev Cx.wish(X:Cx)(E:Value->Shared->Prop):Cx:={ X with xe:=E }
noncomputable abbrev Cx.nox(X:Cx):Cx:=X.wish fun _ _=>False
theorem Cx.Ok.wish{X:Cx}(ok:X.Ok)(E:Value->Shared->Prop):(X.wish E).Ok :=
 ⟨ok.mod,ok.kind,ok.glob,ok.blt,ok.above,ok.inj,ok.has,ok.cab,ok.hd,ok.frames,ok.stk,ok.exf,ok.bs,ok.bsz,ok.noex,ok.exfs,ok.funs,ok.frf⟩
theorem Cx.Ok.unwish{X:Cx}{E:Value->Shared->Prop}(ok:(X.wish E).Ok):X.Ok :=
 ⟨ok.mod,ok.kind,ok.glob,ok.blt,ok.above,ok.inj,ok.has,ok.cab,ok.hd,ok.frames,ok.stk,ok.exf,ok.bs,ok.bsz,ok.noex,ok.exfs,ok.funs,ok.frf⟩
section
variable {X:Cx}{pins:List (Addr×Obj)}{σ:St}{H:Hp}{s:Shared}{E:Value->Shared->Prop}
theorem Inv.wish(I:Inv X pins σ H s)(E:Value->Shared->Prop):Inv (X.wish E) pins σ H s:=⟨I.ok.wish E,I.os,I.bare,I.base,I.loc,I.cell,I.free,I.freeC,I.pin,I.hok,I.len⟩
theorem Inv.unwish(I:Inv (X.wish E) pins σ H s):Inv X pins σ H s:=⟨I.ok.unwish,I.os,I.bare,I.base,I.loc,I.cell,I.free,I.freeC,I.pin,I.hok,I.len⟩
theorem SP.unwish{D:Ends}{f:Flow}{s':Shared}(h:SP (X.wish E) pins D f s'):SP X pins D f s':=by
 cases f with
 | next=>obtain⟨σ',H',I,q⟩:=h;exact⟨σ',H',I.unwish,q⟩
 | brk=>obtain⟨σ',H',I,q⟩:=h;exact⟨σ',H',I.unwish,q⟩
 | cont=>obtain⟨σ',H',I,q⟩:=h;exact⟨σ',H',I.unwish,q⟩
 | ret u=>obtain⟨v,σ',H',I,r,q⟩:=h;exact⟨v,σ',H',I.unwish,r,q⟩
theorem ug.nox{st:List Stmt}{t:TS}(h:ug X.nox st t):ug X st t:=fun pins s σ H D I hw =>
 wpAny_mono (h pins s σ H D (I.wish _) hw) (fun _ _ q=>q.unwish) fun _ _ z=>False.elim z
end
section
variable {X:Cx}{st:Stmt}{rest:List Stmt}{t u:TS}{e:Expr}{te:TE}{pos:Pos}
def y3:TS:=fun D σ H=>D.nx σ H
def JB(t u:TS):TS:=fun D σ H=>t { D with nx:=u D } σ H
theorem CL:ug X [] y3:=fun _ _ σ H _ I h=>wpAny_execs_nil ⟨σ,H,I,h⟩
theorem yN(h1:PS X st t)(h2:ug X rest u):ug X (st::rest) (JB t u):=by
 intro pins s σ H D I h
 refine wpAny_execs_cons (bw (h1 pins s σ H { D with nx:=u D } I h) fun f s1 q=>?_)
 cases f with
 | next =>
  obtain⟨σ',H',I',q⟩:=q
  exact h2 pins s1 σ' H' D I' q
 | ret v=>exact q
 | brk=>exact q
 | cont=>exact q
theorem Cr(h1:PS X st t):ug X [st] t:=by
 intro pins s σ H D I h
 refine wpAny_execs_cons (bw (h1 pins s σ H D I h) fun f s1 q=>?_)
 cases f with
 | next=>exact wpAny_execs_nil q
 | ret v=>exact q
 | brk=>exact q
 | cont=>exact q
theorem CD:PS X (.Pass pos) y3:=fun _ _ σ H _ I h=>wpAny_Pass ⟨σ,H,I,h⟩
theorem Inv.quiet{pins:List (Addr×Obj)}{σ:St}{H:Hp}{s:Shared}(I:Inv X pins σ H s):interactive X.env=false:=by simp[interactive,I.ok.kind]
theorem E5{x j pos pos'}:PS X (.Expr (.Constant (.str x) j pos) pos') y3:=fun _ s σ H _ I h=>wpAny_Expr (Calls.Constant_str (show SP X _ _ .next { s with toks:=s.toks+1 } from ⟨σ,H,I.tok _,h⟩)) I.quiet
def Hx(te:TE):TS:=fun D σ H=>te σ H fun _ H1=>D.nx σ H1
theorem lW(he:PE X e te)(hs:swapsWith e none pos.line X.env=pure false:=by rfl):PS X (.Expr e pos) (Hx te):=by
 intro pins s σ H D I h
 exact wpAny_Expr_any (bw (he pins s σ H _ I h) fun v s1 ⟨x,H1,I1,r1,q1⟩=>⟨σ,H1,I1,q1⟩) I.quiet hs
def Jq(te:TE):TS:=fun D σ H=>te σ H D.rt
theorem EB(he:PE X e te):PS X (.Return (some e) pos) (Jq te):=by
 intro pins s σ H D I h
 exact wpAny_Return_some (bw (he pins s σ H _ I h) fun v s1 ⟨x,H1,I1,r1,q1⟩=>⟨x,σ,H1,I1,r1,q1⟩)
def Jj(c:TT)(t u:TS):TS:=fun D σ H=>c σ H fun b H1=>if b=true then t D σ H1 else u D σ H1
theorem Hi{c:Expr}{a b:List Stmt}{tc:TT}(hc:PT X c tc)(ha:ug X a t)(hb:ug X b u):PS X (.If c a b pos) (Jj tc t u):=by
 intro pins s σ H D I h
 refine wpAny_If (bw (hc pins s σ H _ I h) fun d s1 ⟨H1,I1,q1⟩=>?_)
 cases d with
 | true=>exact ha pins s1 σ H1 D I1 q1
 | false=>exact hb pins s1 σ H1 D I1 q1
end
noncomputable abbrev TG:=V->St->Hp->(St->Hp->Prop)->Prop
noncomputable abbrev Ga:=List V->St->Hp->(St->Hp->Prop)->Prop
noncomputable def PG(X:Cx)(target:Expr)(t:TG):Prop :=
 ∀ (pins:List (Addr×Obj)) (s:Shared) (σ:St) (H:Hp) (v:V) (u:Value) (Q:St->Hp->Prop),Inv X pins σ H s->RelV v u->t v σ H Q ->
  wpAny (model X.prog X.w) X.A (assign target X.env u) (fun _ s'=>∃σ' H',Inv X pins σ' H' s'/\Q σ' H') X.xe s
noncomputable def IE(X:Cx)(ts:List Expr)(t:Ga):Prop :=
 ∀ (pins:List (Addr×Obj)) (s:Shared) (σ:St) (H:Hp) (vs:List V) (us:List Value) (Q:St->Hp->Prop),Inv X pins σ H s->ax vs us->t vs σ H Q ->
  wpAny (model X.prog X.w) X.A (assignInOrder ((assignEach ts X.env).map (·.2)) us) (fun _ s'=>∃σ' H',Inv X pins σ' H' s'/\Q σ' H') X.xe s
noncomputable abbrev EK:=V->V->V->Hp->(Hp->Prop)->Prop
noncomputable def HE(X:Cx)(t:EK):Prop :=
 ∀ (pins:List (Addr×Obj)) (s:Shared) (σ:St) (H:Hp) (o i v:V) (ov iv u:Value) (Q:Hp->Prop),Inv X pins σ H s->RelV o ov->RelV i iv->RelV v u->t o i v H Q ->
  wpAny (model X.prog X.w) X.A (setItem ov iv u) (fun _ s'=>∃H',Inv X pins σ H' s'/\Q H') X.xe s
section
variable {X:Cx}{pos:Pos}
def sX(i:Nat):TG:=fun v σ H Q=>Q (σ.set i (some v)) H
theorem bh{i:Nat}{x:Str}(hN:X.N.Nodup)(hi:X.N[i]?=some x)(hx:Loc X.env.scope x)(hf:X.fn x=true\/X.env.scope.names.lookup x=some .local:=by first|exact .inl rfl|exact .inr rfl|assumption):PG X (.Name x pos) (sX i):=by
 intro pins s σ H v u Q I r h
 exact wpAny_assign_Name (rz I hN hi hx r (fun s' I'=>⟨_,H,I',h⟩) hf)
noncomputable def Jc:Ga:=fun vs σ H Q=>vs=[]/\Q σ H
noncomputable def HP(t:TG)(u:Ga):Ga:=fun vs σ H Q=>∃v r,vs=v::r/\t v σ H fun σ' H'=>u r σ' H' Q
theorem eU:IE X [] Jc:=by
 intro pins s σ H vs us Q I r h
 obtain⟨e,h⟩:=h
 subst e
 cases r
 exact assignInOrder_nil ⟨σ,H,I,h⟩
theorem aP{e:Expr}{es:List Expr}{t:TG}{u:Ga}(h1:PG X e t)(h2:IE X es u)
  (hs:(assignEach (e::es) X.env).map (·.2)=assign e X.env::(assignEach es X.env).map (·.2):=by rfl):IE X (e::es) (HP t u):=by
 intro pins s σ H vs us Q I r h
 obtain⟨v,vr,e1,h⟩:=h
 subst e1
 cases r with
 | cons r rr =>
  rw[hs]
  refine assignInOrder_cons (bw (h1 pins s σ H _ _ _ I r h) fun _ s1 ⟨σ1,H1,I1,q1⟩=>?_)
  exact h2 pins s1 σ1 H1 _ _ Q I1 rr q1
def Jk(K:W.Frag)(n:Nat)(t:Ga):TG:=fun v σ H Q=>∃a xs,v=.ref a/\fP K H a xs/\xs.length=n/\t xs σ H Q
theorem iJ{es:List Expr}{k:Nat}{t:Ga}{n:Nat}(hc:X.calm=true)(h:IE X es t)
  (hn:(assignEach es X.env).length=n:=by rfl) (hst:(assignEach es X.env).findIdx? (·.1)=none:=by rfl):PG X (.Tuple es k pos) (Jk X.K n t):=by
 intro pins s σ H v u Q I r hw
 obtain⟨a,xs,e1,hq,hl,hw⟩:=hw
 subst e1
 cases r
 obtain⟨its,rv,ht,hz⟩:=I.tuple hq
 refine assign_Tuple_tuple (I.ok.hd hc) ht (by simp[hn,<- hl,rv.length]) hst fun h' hx=>?_
 have I1:Inv X pins σ H { s with heap:=h' }:=I.kept (t':=s.toks) fun b o e=>hx b o (Nat.ne_of_lt (zZ e)) e
 exact h pins _ σ H xs _ Q I1 (by simpa using rv) hw
def d7(to ti:TE)(t:EK):TG:=fun v σ H Q=>to σ H fun o H1=>ti σ H1 fun i H2=>t o i v H2 fun H3=>Q σ H3
theorem Ao{o i:Expr}{to ti:TE}{t:EK}(ho:PE X o to)(hi:PE X i ti)(hs:HE X t)
  (ha:∀v,assign (.Subscript o i pos) X.env v=(do
   let ov <- holding [v] (eval o X.env)
   let iv <- holding [v,ov] (eval i X.env)
   standAt pos
   holding [v,ov,iv] (setItem ov iv v)
   release [v,ov,iv] []):=by intro _;rfl):PG X (.Subscript o i pos) (d7 to ti t):=by
 intro pins s σ H v u Q I r h
 rw[ha]
 refine zW (wpAny_holding (bw (ho pins s σ H _ I h) fun ov s1 ⟨x,H1,I1,r1,q1⟩=>?_))
 refine zW (wpAny_holding (bw (hi pins s1 σ H1 _ I1 q1) fun iv s2 ⟨y,H2,I2,r2,q2⟩=>?_))
 refine zW (wpAny_standAt (zW (wpAny_holding (bw (hs pins s2 σ H2 x y v ov iv u _ I2 r1 r2 r q2) fun _ s3 ⟨H3,I3,q3⟩=>?_))))
 exact wpAny_release ⟨σ,H3,I3,q3⟩
def yV(te:TE)(g:TG):TS:=fun D σ H=>te σ H fun x H1=>g x σ H1 D.nx
theorem tH{tg e:Expr}{te:TE}{g:TG}(he:PE X e te)(hg:PG X tg g)(hs:swapsWithSole [tg] e pos.line X.env=pure false:=by rfl)(hw:swappedStores [tg] e X.env=pure none:=by rfl)
  (h1:(assignEach [tg] X.env).map (·.2)=[assign tg X.env]:=by rfl):PS X (.Assign [tg] e pos) (yV te g):=by
 intro pins s σ H D I h
 refine wpAny_Assign_stores (bw (he pins s σ H _ I h) fun v s1 ⟨x,H1,I1,r1,q1⟩=>?_) hs hw
 rw[h1]
 exact bw (hg pins s1 σ H1 x v _ I1 r1 q1) fun _ s2 q=>q
theorem ye{i:Nat}{x:Str}{e:Expr}{te:TE}{pos':Pos}(hN:X.N.Nodup)(hi:X.N[i]?=some x)(hx:Loc X.env.scope x)(he:PE X e te)(hs:swapsWith e (some (.Name x pos')) pos.line X.env=pure false:=by rfl)(hf:X.fn x=true\/X.env.scope.names.lookup x=some .local:=by first|exact .inl rfl|exact .inr rfl|assumption) :
  PS X (.Assign [.Name x pos'] e pos) (yV te (sX i)):=by
 intro pins s σ H D I h
 refine wpAny_Assign_Name (bw (he pins s σ H _ I h) fun v s1 ⟨y,H1,I1,r1,q1⟩=>?_) hs
 exact rz I1 hN hi hx r1 (fun s2 I2=>⟨_,H1,I2,q1⟩) hf
end
section
variable {X:Cx}{pos:Pos}
def Er(c:TT)(tb:TS):TS:=fun D σ H=>∃W:Nat->St->Hp->Prop,(∃m,W m σ H)/\∀m σ H,W m σ H ->
 c σ H fun b H1=>if b=true then ∃N:St->Hp->Prop,(∀σ' H',N σ' H'->∃m',m' < m/\W m' σ' H')/\tb { D with nx:=N,ct:=N,bk:=D.nx } σ H1 else D.nx σ H1
theorem z6{c:Expr}{body:List Stmt}{tc:TT}{tb:TS}(hp:PassesOwn (model X.prog X.w) X.A X.env X.xe)(hc:PT X c tc)(hb:ug X body tb):PS X (.While c body [] pos) (Er tc tb):=by
 intro pins s σ H D I h
 obtain⟨W,⟨m0,w0⟩,turn⟩:=h
 refine wpAny_While (codeAny_whileLoop (fun n s'=>∃σ' H',Inv X pins σ' H' s'/\W n σ' H') ?_ m0 ⟨σ,H,I,w0⟩)
 rintro n s1 ⟨σ1,H1,I1,w1⟩
 refine wpAny_passesOwn hp (bw (hc pins s1 σ1 H1 _ I1 (turn n σ1 H1 w1)) fun b s2 ⟨H2,I2,q2⟩=>?_)
 cases b with
 | true =>
  obtain⟨N,hN,q2⟩:=q2
  rw[if_pos rfl]
  refine wpAny_passesOwn hp (bw (hb pins s2 σ1 H2 _ I2 q2) fun f s3 q3=>?_)
  cases f with
  | next =>
   obtain⟨σ3,H3,I3,n3⟩:=q3
   obtain⟨m',hm,w3⟩:=hN σ3 H3 n3
   exact⟨m',hm,σ3,H3,I3,w3⟩
  | cont =>
   obtain⟨σ3,H3,I3,n3⟩:=q3
   obtain⟨m',hm,w3⟩:=hN σ3 H3 n3
   exact⟨m',hm,σ3,H3,I3,w3⟩
  | brk=>exact q3
  | ret v=>exact q3
 | false =>
  rw[if_neg Bool.false_ne_true]
  exact wpAny_execs_nil ⟨σ1,H2,I2,q2⟩
end
structure It where
 go:Nat->Hp->Prop
 yld:Nat->Hp->V->Hp->Prop
 stop:Nat->Hp->Prop
noncomputable def bI(X:Cx)(pins:List (Addr×Obj))(H:Hp)(b:Addr):Prop :=
 H b=none/\b≠X.env.locals/\b∉X.fs/\(b∈X.ex\/X.s₀.heap.objs.size<=b)/\(∀x c,X.env.cells.lookup x=some c->c≠b)/\∀p∈X.pn++pins,p.1≠b
theorem Inv.fpOk{X:Cx}{pins:List (Addr×Obj)}{σ:St}{H H':Hp}{s:Shared}{b:Addr}(I:Inv X pins σ H s)(hb:s.heap.objs.size<=b)(hn:H' b=none):bI X pins H' b:=by
 refine⟨hn,Nat.ne_of_gt (zP I.lt hb),I.nofs hb,.inr (yE I.sz hb),fun x c e z=>?_,fun p hp z=>?_⟩
 ·obtain⟨v,q⟩:=I.cell x c e
  exact absurd (zP q.lt (by rw[z];exact hb)) (Nat.lt_irrefl _)
 ·exact absurd (zP (zZ (I.pin p hp).1) (by rw[z];exact hb)) (Nat.lt_irrefl _)
structure Turn(P:Program)(w:World)(K:W.Frag)(tg:Expr)(J:It)(fp:List Addr)(it:Addr)(tn:Nat->Heap->Prop):Prop where
 mem:it∈fp
 obj:∀i h,tn i h->∀b∈fp,∃o,h.get? b=some o/\∀v,o.data≠.cell v
 keep:∀i h h',tn i h->(∀b∈fp,∀o,h.get? b=some o->h'.get? b=some o)->tn i h'
 item:∀ (X:Cx),X.prog=P->X.w=w->X.K=K->X.calm=true->∀ (i:Nat) (pins:List (Addr×Obj)) (s:Shared) (σ:St) (H:Hp) (E:Value->Shared->Prop),Inv X pins σ H s->(∀b∈fp,bI X pins H b)->tn i s.heap->J.go i H ->
  wpAny (model P w) X.A (pyNext (.ref it)) (fun r s1=>∃u,r=some u /\
   wpAny (model P w) X.A (letOwnedTupleGo tg (.ref it) u) (fun _ s2=>∃x H',Inv X pins σ H' s2/\RelV x u/\J.yld i H x H'/\tn (i+1) s2.heap/\∀b∈fp,H' b=none) E s1) E s
 done:∀ (X:Cx),X.prog=P->X.w=w->X.K=K->X.calm=true->∀ (i:Nat) (pins:List (Addr×Obj)) (s:Shared) (σ:St) (H:Hp) (E:Value->Shared->Prop),Inv X pins σ H s->(∀b∈fp,bI X pins H b)->tn i s.heap->J.stop i H ->
  wpAny (model P w) X.A (pyNext (.ref it)) (fun r s1=>r=none/\Inv X pins σ H s1) E s
 self:∀ (A:Around) (i:Nat) (s:Shared) (Q:Value->Shared->Prop) (E:Value->Shared->Prop),tn i s.heap->Q (.ref it) s->wpAny (model P w) A (pyIter (.ref it)) Q E s
noncomputable abbrev TI:=St->Hp->(It->Hp->Prop)->Prop
noncomputable def JS(X:Cx)(pins:List (Addr×Obj))(σ:St)(tg:Expr)(R:It->Hp->Prop)(itv:Value)(s2:Shared):Prop :=
 ∃ (it:Addr) (fp:List Addr) (tn:Nat->Heap->Prop) (J:It) (H':Hp),itv=.ref it/\Inv X pins σ H' s2/\Turn X.prog X.w X.K tg J fp it tn/\tn 0 s2.heap/\(∀b∈fp,bI X pins H' b)/\R J H'
noncomputable def PI(X:Cx)(tg iter:Expr)(wi:TI):Prop :=
 ∀ (pins:List (Addr×Obj)) (s:Shared) (σ:St) (H:Hp) (R:It->Hp->Prop),Inv X pins σ H s->wi σ H R ->
  wpAny (model X.prog X.w) X.A (eval iter X.env) (fun v s1=>wpAny (model X.prog X.w) X.A (pyIter v) (JS X pins σ tg R) X.xe s1) X.xe s
theorem Bb{M:Model}{A:Around}{E:Value->Shared->Prop}{s:Shared}{tg:Expr}{it:Addr}{u:Value}{o:Obj}{n:String}{vs:Array Value}{Q:Unit->Shared->Prop}(ho:s.heap.get? it=some o)(hc:o.cls=.type n)(hd:o.data=.fields vs)
  (hn:["enumerate","zip","dict_itemiterator","dict_reverseitemiterator","odict_iterator","itertools.zip_longest","itertools.pairwise"].contains n=false) (hQ:Q () s):wpAny M A (letOwnedTupleGo tg (.ref it) u) Q E s:=by
 unfold letOwnedTupleGo
 cases tg<;>first
  | exact zX hQ
  | (cases u<;>first
    | exact zX hQ
    | (refine zW (wpAny_load ho ?_)
       rw[hc,hd]
       show wpAny M A (if (["enumerate","zip","dict_itemiterator","dict_reverseitemiterator","odict_iterator","itertools.zip_longest","itertools.pairwise"].contains n&&vs[0]? == some (rawInt _))=true then _ else _) Q E s
       rw[if_neg (by intro h;rw[hn,Bool.false_and] at h;cases h)]
       exact zX hQ))
noncomputable def IP(K:W.Frag)(a:Addr):It :=
 ⟨fun i H=>∃xs x,fj K H a xs/\xs[i]?=some x,fun i H x H'=>H'=H/\∀xs,fj K H a xs->xs[i]?=some x,fun i H=>∃xs,fj K H a xs/\xs.length<=i⟩
noncomputable def JC(K:W.Frag)(a:Addr):It :=
 ⟨fun i H=>∃xs x,fP K H a xs/\xs[i]?=some x,fun i H x H'=>H'=H/\∀xs,fP K H a xs->xs[i]?=some x,fun i H=>∃xs,fP K H a xs/\xs.length<=i⟩
noncomputable def IG(lo:Int)(n:Nat):It:=⟨fun i _=>i < n,fun i H x H'=>H'=H/\x=.int (lo+i),fun i _=>n<=i⟩
theorem wX{P:Program}{w:World}{K:W.Frag}{tg:Expr}(a it:Addr):Turn P w K tg (IP K a) [it] it (fun i h=>h.IsListIter it a i) where
 mem:=by simp
 obj:=fun i h st b hb=>by
  have e:b=it:=by simpa using hb
  subst e
  obtain⟨o,e,c,d⟩:=st
  exact⟨o,e,fun v z=>by rw[d] at z;cases z⟩
 keep:=fun i h h' st k=>st.at fun o e=>k it (by simp) o e
 item:=by
  intro X hP hw hK hc i pins s σ H E I hf st hg
  subst hP hw hK
  obtain⟨xs,x,hq,hx⟩:=hg
  obtain⟨its,rv,p,hz⟩:=I.list hq
  obtain⟨u,hu,ru⟩:=rv.get hx
  obtain⟨f0,f1,f2,f3,f4,f5⟩:=hf it (by simp)
  refine wpAny_pyNext_list_item st p.isList (x:=u) (by simpa using hu) fun h' st' sb=>?_
  have I1:Inv X pins σ H { s with heap:=h' }:=I.turned (t':=s.toks) (fun b o hb e=>(sb.2 b hb).trans e) f0 f1 f3 f4 f5
  obtain⟨o,e,c,d⟩:=id st'
  exact⟨u,rfl,Bb (s:={ s with heap:=h' }) e c d (by decide) ⟨x,H,I1,ru,⟨rfl,fun ys hy=>by rw[I.list_inj hy hq];exact hx⟩,st',fun b hb=>(hf b hb).1⟩⟩
 done:=by
  intro X hP hw hK hc i pins s σ H E I hf st hg
  subst hP hw hK
  obtain⟨xs,hq,hx⟩:=hg
  obtain⟨its,rv,p,hz⟩:=I.list hq
  obtain⟨f0,f1,f2,f3,f4,f5⟩:=hf it (by simp)
  have hl:=rv.length
  exact wpAny_pyNext_list_end (I.ok.hd hc) st p.isList (by simp;omega) fun h' eb=>⟨rfl,I.turned (t':=s.toks) (fun b o hb e=>eb b o hb e) f0 f1 f3 f4 f5⟩
 self:=fun _ _ _ _ _ st h=>wpAny_pyIter_listiter st h
theorem tM{P:Program}{w:World}{K:W.Frag}{tg:Expr}(a it:Addr):Turn P w K tg (JC K a) [it] it (fun i h=>h.IsTupleIter it a i) where
 mem:=by simp
 obj:=fun i h st b hb=>by
  have e:b=it:=by simpa using hb
  subst e
  obtain⟨o,e,c,d⟩:=st
  exact⟨o,e,fun v z=>by rw[d] at z;cases z⟩
 keep:=fun i h h' st k=>st.at fun o e=>k it (by simp) o e
 item:=by
  intro X hP hw hK hc i pins s σ H E I hf st hg
  subst hP hw hK
  obtain⟨xs,x,hq,hx⟩:=hg
  obtain⟨its,rv,p,hz⟩:=I.tuple hq
  obtain⟨u,hu,ru⟩:=rv.get hx
  obtain⟨f0,f1,f2,f3,f4,f5⟩:=hf it (by simp)
  refine wpAny_pyNext_tuple_item st (show s.heap.IsTuple a its.toArray from p) (x:=u) (by simpa using hu) fun h' st' sb=>?_
  have I1:Inv X pins σ H { s with heap:=h' }:=I.turned (t':=s.toks) (fun b o hb e=>(sb.2 b hb).trans e) f0 f1 f3 f4 f5
  obtain⟨o,e,c,d⟩:=id st'
  exact⟨u,rfl,Bb (s:={ s with heap:=h' }) e c d (by decide) ⟨x,H,I1,ru,⟨rfl,fun ys hy=>by rw[I.tuple_inj hy hq];exact hx⟩,st',fun b hb=>(hf b hb).1⟩⟩
 done:=by
  intro X hP hw hK hc i pins s σ H E I hf st hg
  subst hP hw hK
  obtain⟨xs,hq,hx⟩:=hg
  obtain⟨its,rv,p,hz⟩:=I.tuple hq
  obtain⟨f0,f1,f2,f3,f4,f5⟩:=hf it (by simp)
  have hl:=rv.length
  exact wpAny_pyNext_tuple_end (I.ok.hd hc) st (show s.heap.IsTuple a its.toArray from p) (by simp;omega) fun h' eb=>⟨rfl,I.turned (t':=s.toks) (fun b o hb e=>eb b o hb e) f0 f1 f3 f4 f5⟩
 self:=fun _ _ _ _ _ st h=>wpAny_pyIter_tupleiter st h
theorem ux{P:Program}{w:World}{K:W.Frag}{tg:Expr}(it:Addr)(lo:Int)(n:Nat):Turn P w K tg (IG lo n) [it] it (fun i h=>IsRangeIter h it (lo+(i:Nat) * 1) ((n:Int) - (i:Nat)) 1) where
 mem:=by simp
 obj:=fun i h st b hb=>by
  have e:b=it:=by simpa using hb
  subst e
  exact⟨_,st,fun v z=>by
   have z':Data.fields _=Data.cell v:=z
   cases z'⟩
 keep:=fun i h h' st k=>k it (by simp) _ st
 item:=by
  intro X hP hw hK hc i pins s σ H E I hf st hg
  subst hP hw hK
  obtain⟨f0,f1,f2,f3,f4,f5⟩:=hf it (by simp)
  have W:=Walks.range (prog:=X.prog) (w:=X.w) (I.ok.hd hc) it lo 1 n
  refine W.item i s _ _ hg st fun v h' tk hv st' kk=>?_
  obtain⟨t,rfl⟩:=hv
  have I1:Inv X pins σ H { s with heap:=h',toks:=tk }:=I.turned (fun b o hb e=>kk b o (by simpa using hb) e) f0 f1 f3 f4 f5
  refine⟨_,rfl,Bb (s:={ s with heap:=h',toks:=tk }) (n:="range_iterator") st' rfl rfl (by decide) ⟨.int (lo+i),H,I1,⟨t,?_⟩,⟨rfl,rfl⟩,st',fun b hb=>(hf b hb).1⟩⟩
  rw[Int.mul_one]
 done:=by
  intro X hP hw hK hc i pins s σ H E I hf st hg
  subst hP hw hK
  obtain⟨f0,f1,f2,f3,f4,f5⟩:=hf it (by simp)
  exact wpAny_pyNext_range_end (I.ok.hd hc) st (by have:n<=i:=hg;omega) fun h' eb=>⟨rfl,I.turned (t':=s.toks) (fun b o hb e=>eb b o hb e) f0 f1 f3 f4 f5⟩
 self:=fun _ _ _ _ _ st h=>wpAny_pyIter_rangeiter st h
section
variable {X:Cx}{tg:Expr}
theorem Ay{pins:List (Addr×Obj)}{σ:St}{H:Hp}{s:Shared}{R:It->Hp->Prop}{E:Value->Shared->Prop}{lo hi:Int}{t u v:Tok}{tk:Nat}(I:Inv X pins σ H s)(h1:-(2 ^ 62)<=lo)(h2:lo < 2 ^ 62)(h3:-(2 ^ 62)<=hi)(h4:hi < 2 ^ 62)
  (q:R (IG lo (hi - lo).toNat) H):wpAny (model X.prog X.w) X.A (pyIter (.ref s.heap.objs.size)) (JS X pins σ tg R) E { s with heap:=s.heap.push { cls:=.type "range",data:=.fields #[.int lo t,.int hi u,.int 1 v] },toks:=tk }:=by
 refine wpAny_pyIter_range (IsRange.new ..) (small_one h1 h2 h3 h4) ?_
 have I1:Inv X pins σ H { s with heap:=s.heap.push { cls:=.type "range",data:=.fields #[.int lo t,.int hi u,.int 1 v] },toks:=tk }:=I.kept fun b o e=>zV _ e
 refine⟨(s.heap.push { cls:=.type "range",data:=.fields #[.int lo t,.int hi u,.int 1 v] }).objs.size,[(s.heap.push { cls:=.type "range",data:=.fields #[.int lo t,.int hi u,.int 1 v] }).objs.size],_,_,H,rfl,
  I1.kept (t':=tk) fun b o e=>zV _ e,ux _ lo (hi - lo).toNat,?_,fun b hb=>?_,q⟩
 ·have e1:lo+((0:Nat):Int) * 1=lo:=by simp
  have e2:(((hi - lo).toNat:Nat):Int) - ((0:Nat):Int)=Builtin.Range.rangeSize lo hi 1:=by rw[rangeSize_one];split<;>omega
  show IsRangeIter _ _ (lo+((0:Nat):Int) * 1) ((((hi - lo).toNat:Nat):Int) - ((0:Nat):Int)) 1
  rw[e1,e2]
  exact zY _ rfl
 ·have e:b=(s.heap.push { cls:=.type "range",data:=.fields #[.int lo t,.int hi u,.int 1 v] }).objs.size:=by simpa using hb
  subst e
  exact I1.fpOk (Nat.le_refl _) (I1.hok.fresh (Nat.le_refl _))
def HN(ta:TA):TI:=fun σ H R=>ta σ H fun vs H1=>∃j:Int,vs=[.int j]/\-(2 ^ 62)<=j/\j < 2 ^ 62/\R (IG 0 j.toNat) H1
theorem wK{a:Expr}{ta:TA}{p pos:Pos}(hg:Gl X "range")(hm:X.mg "range"=none)(ha:PA X [a] ta)(hs:starEach [a] X.env=[(false,eval a X.env)]:=by rfl):PI X tg (.Call (.Name "range" p) [a] [] pos) (HN ta):=by
 intro pins s σ H R I h
 refine Call_ (eL I hg hm boot_range (PyProof.Rows.callWith_type1 (bw (ha pos pins s σ H _ I h) fun us s1 ⟨vs,H1,I1,r1,q1⟩=>?_) hs rfl))
 obtain⟨j,e,q1,q2,q⟩:=q1
 subst e
 cases r1 with
 | cons r rr =>
  cases rr
  obtain⟨t,rfl⟩:=r
  exact call_range_1 (Ay I1 (by omega) (by omega) q1 q2 (by simpa using q))
def Jr(wi:TI)(g:TG)(tb:TS):TS:=fun D σ H=>wi σ H fun J H1=>∃W:Nat->Nat->St->Hp->Prop,(∃m,W 0 m σ H1)/\∀i m σ H,W i m σ H ->
 (J.stop i H/\D.nx σ H)\/(J.go i H/\∃N:St->Hp->Prop,(∀σ' H',N σ' H'->∃m',m' < m/\W (i+1) m' σ' H')/\∀x H',J.yld i H x H'->g x σ H' fun σ2 H2=>tb { D with nx:=N,ct:=N,bk:=D.nx } σ2 H2)
noncomputable def kE(fp:List Addr)(h:Heap):List (Addr×Obj):=fp.filterMap fun b=>(h.get? b).map fun o=>(b,o)
theorem cG{fp:List Addr}{h:Heap}{b:Addr}{o:Obj}(hb:b∈fp)(e:h.get? b=some o):(b,o)∈kE fp h:=List.mem_filterMap.mpr ⟨b,hb,by rw[e];rfl⟩
theorem xi{fp:List Addr}{h:Heap}{p:Addr×Obj}(hp:p∈kE fp h):p.1∈fp/\h.get? p.1=some p.2:=by
 obtain⟨b,hb,e⟩:=List.mem_filterMap.mp hp
 cases q:h.get? b with
 | none=>rw[q] at e;cases e
 | some o =>
  rw[q] at e
  have e':(b,o)=p:=Option.some.inj e
  subst e'
  exact⟨hb,q⟩
theorem Inv.pinned{pins:List (Addr×Obj)}{σ:St}{H:Hp}{s:Shared}{fp:List Addr}(I:Inv X pins σ H s)(hf:∀b∈fp,bI X pins H b)(ho:∀b∈fp,∃o,s.heap.get? b=some o/\∀v,o.data≠.cell v):Inv X (pins++kE fp s.heap) σ H s :=
 I.pins_of fun p hp=>(List.mem_append.mp hp).elim (fun z=>I.pin p (yF _ z)) fun z=>by
  obtain⟨hb,e⟩:=xi z
  obtain⟨f0,f1,f2,_⟩:=hf p.1 hb
  obtain⟨o,e',d⟩:=ho p.1 hb
  rw[e] at e';cases e'
  exact⟨e,f0,f1,f2,d⟩
theorem Inv.unpinned{pins pl:List (Addr×Obj)}{σ:St}{H:Hp}{s:Shared}(I:Inv X (pins++pl) σ H s):Inv X pins σ H s:=I.pins_of fun p hp=>I.pin p (yF _ (List.mem_append_left _ hp))
theorem Ft{iter:Expr}{body:List Stmt}{wi:TI}{g:TG}{tb:TS}{pos:Pos}(hp:PassesOwn (model X.prog X.w) X.A X.env X.xe)(hc:X.calm=true)(hi:PI X tg iter wi)(hg:PG X tg g)(hb:ug X body tb)
  (hs:∀x,foldedSetIterable iter X.env x=pure x:=by intro _;rfl):PS X (.For tg iter body [] pos) (Jr wi g tb):=by
 intro pins s σ H D I h
 refine wpAny_For (bw (hi pins s σ H _ I h) fun v s1 h1=>bw h1 fun itv s2 h2=>?_) hs
 obtain⟨it,fp,tn,J,H2,e,I2,T,st2,f2,W,⟨m0,w0⟩,turn⟩:=h2
 subst e
 have stat:∀ {H':Hp},(∀b∈fp,H' b=none)->∀b∈fp,bI X pins H' b:=fun hn b hb=>⟨hn b hb,(f2 b hb).2⟩
 refine codeAny_forLoop_any (fun n s'=>∃i σ' H',Inv X pins σ' H' s'/\tn i s'.heap/\(∀b∈fp,H' b=none)/\W i n σ' H') ?_ m0 ⟨0,σ,H2,I2,st2,fun b hb=>(f2 b hb).1,w0⟩
 rintro n s3 ⟨i,σ3,H3,I3,st3,fr3,w3⟩
 rcases turn i n σ3 H3 w3 with ⟨stop,qn⟩|⟨go,N,hN,step⟩
 ·refine wpAny_passesOwn hp (bw (T.done X rfl rfl rfl hc i pins s3 σ3 H3 X.xe I3 (stat fr3) st3 stop) fun r s4 ⟨hr,I4⟩=>?_)
  subst hr
  exact wpAny_execs_nil ⟨σ3,H3,I4,qn⟩
 ·refine wpAny_passesOwn hp (bw (T.item X rfl rfl rfl hc i pins s3 σ3 H3 X.xe I3 (stat fr3) st3 go) fun r s4 ⟨u,hr,h4⟩=>?_)
  subst hr
  refine wpAny_passesOwn hp (bw h4 fun _ s5 ⟨x,H5,I5,r5,y5,st5,fr5⟩=>?_)
  have I5':=I5.pinned (stat fr5) (T.obj _ _ st5)
  refine wpAny_passesOwn hp (bw (hg _ s5 σ3 H5 x u _ I5' r5 (step x H5 y5)) fun _ s6 ⟨σ6,H6,I6,q6⟩=>?_)
  refine wpAny_passesOwn hp (bw (hb _ s6 σ6 H6 _ I6 q6) fun f s7 q7=>?_)
  have again:∀ {σ7:St}{H7:Hp},Inv X (pins++kE fp s5.heap) σ7 H7 s7->N σ7 H7->∃m,m < n/\∃i σ' H',Inv X pins σ' H' s7/\tn i s7.heap/\(∀b∈fp,H' b=none)/\W i m σ' H':=fun {σ7 H7} I7 n7=>by
   obtain⟨m',hm,w7⟩:=hN σ7 H7 n7
   refine⟨m',hm,i+1,σ7,H7,I7.unpinned,T.keep _ _ _ st5 fun b hb o e=>(I7.pin (b,o) (yF _ (yF _ (cG hb e)))).1,fun b hb=>?_,w7⟩
   obtain⟨o,e,d⟩:=T.obj _ _ st5 b hb
   exact (I7.pin (b,o) (yF _ (yF _ (cG hb e)))).2.1
  cases f with
  | next=>obtain⟨σ7,H7,I7,n7⟩:=q7;exact again I7 n7
  | cont=>obtain⟨σ7,H7,I7,n7⟩:=q7;exact again I7 n7
  | brk=>obtain⟨σ7,H7,I7,q7⟩:=q7;exact⟨σ7,H7,I7.unpinned,q7⟩
  | ret v=>obtain⟨x7,σ7,H7,I7,r7,q7⟩:=q7;exact⟨x7,σ7,H7,I7.unpinned,r7,q7⟩
end
noncomputable abbrev R2:=V->V->Hp->VK->Prop
noncomputable def fO(X:Cx)(f:Value->Value->Sem Value)(r:R2):Prop :=
 ∀ (pins:List (Addr×Obj)) (s:Shared) (σ:St) (H:Hp) (x y:V) (v u:Value) (Q:VK),Inv X pins σ H s->RelV x v->RelV y u->r x y H Q ->
  wpAny (model X.prog X.w) X.A (f v u) (EP X pins σ Q) X.xe s
noncomputable def IT(X:Cx)(f:Value->Sem Value)(r:V->Hp->VK->Prop):Prop :=
 ∀ (pins:List (Addr×Obj)) (s:Shared) (σ:St) (H:Hp) (x:V) (v:Value) (Q:VK),Inv X pins σ H s->RelV x v->r x H Q ->
  wpAny (model X.prog X.w) X.A (f v) (EP X pins σ Q) X.xe s
noncomputable def cO(X:Cx)(f:Value)(r:List V->Hp->VK->Prop):Prop :=
 ∀ (pins:List (Addr×Obj)) (s:Shared) (σ:St) (H:Hp) (xs:List V) (us:List Value) (Q:VK),Inv X pins σ H s->ax xs us->r xs H Q ->
  wpAny (model X.prog X.w) X.A (call f us) (EP X pins σ Q) X.xe s
def HC(r:R2)(ta tb:TE):TE:=fun σ H Q=>ta σ H fun x H1=>tb σ H1 fun y H2=>r x y H2 Q
def J9(r:V->Hp->VK->Prop)(ta:TE):TE:=fun σ H Q=>ta σ H fun x H1=>r x H1 Q
def rI(C:Int->Int->Prop)(g:Int->Int->V):R2:=fun x y H Q=>∃i j,x=.int i/\y=.int j/\C i j/\Q (g i j) H
def BO(g:Int->Int->V):R2:=fun x y H Q=>∃i j,x=.int i/\y=.int j/\Q (g i j) H
noncomputable def rU(g:Int->V):V->Hp->VK->Prop:=fun x H Q=>∃i,x=.int i/\Q (g i) H
section
variable {X:Cx}{a b c:Expr}{ta tb tc:TE}{pos:Pos}
theorem EZ(ha:PE X a ta)(hb:PE X b tb){pins:List (Addr×Obj)}{s:Shared}{σ:St}{H:Hp}{R:V->V->Hp->Prop}(I:Inv X pins σ H s)
  (h:ta σ H fun x H1=>tb σ H1 fun y H2=>R x y H2) {Q:Value->Shared->Prop}{f:Value->Value->Sem Value}
  (hf:∀v u s2 x y H2,Inv X pins σ H2 s2->RelV x v->RelV y u->R x y H2->wpAny (model X.prog X.w) X.A (f v u) Q X.xe s2) :
  wpAny (model X.prog X.w) X.A (eval a X.env) (fun v s₁=>wpAny (model X.prog X.w) X.A (eval b X.env) (fun u s₂=>wpAny (model X.prog X.w) X.A (f v u) Q X.xe s₂) X.xe s₁) X.xe s:=by
 refine bw (ha pins s σ H _ I h) fun v s1 ⟨x,H1,I1,r1,q1⟩=>?_
 refine bw (hb pins s1 σ H1 _ I1 q1) fun u s2 ⟨y,H2,I2,r2,q2⟩=>?_
 exact hf v u s2 x y H2 I2 r1 r2 q2
theorem AK{op:Operator}{r:R2}(ho:fO X (binaryOp op) r)(ha:PE X a ta)(hb:PE X b tb):PE X (.BinOp a op b pos) (HC r ta tb):=by
 intro pins s σ H Q I h
 exact wpAny_BinOp (EZ ha hb I h fun v u s2 x y H2 I2 rx ry q=>ho pins s2 σ H2 x y v u Q I2 rx ry q)
theorem AC{op:UnaryOp}{r:V->Hp->VK->Prop}(ho:IT X (unaryOp op) r)(ha:PE X a ta):PE X (.UnaryOp op a pos) (J9 r ta):=by
 intro pins s σ H Q I h
 exact UnaryOp_ (bw (ha pins s σ H _ I h) fun v s1 ⟨x,H1,I1,r1,q1⟩=>ho pins s1 σ H1 x v Q I1 r1 q1)
theorem IW{f:Value->Value->Sem Value}{C:Int->Int->Prop}{g:Int->Int->Int}
  (rule:∀ (i j:Int) (t u:Tok) (s:Shared) (Q:Value->Shared->Prop) (E:Value->Shared->Prop),C i j->Q (.int (g i j) s.toks) { s with toks:=s.toks+1 }->wpAny (model X.prog X.w) X.A (f (.int i t) (.int j u)) Q E s) :
  fO X f (rI C fun i j=>.int (g i j)):=by
 intro pins s σ H x y v u Q I rx ry h
 obtain⟨i,j,rfl,rfl,hc,q⟩:=h
 obtain⟨t,rfl⟩:=rx
 obtain⟨t',rfl⟩:=ry
 exact rule i j t t' s _ _ hc ⟨.int (g i j),H,I.tok _,⟨_,rfl⟩,q⟩
theorem HQ{f:Value->Value->Sem Value}{g:Int->Int->Int}
  (rule:∀ (i j:Int) (t u:Tok) (s:Shared) (Q:Value->Shared->Prop) (E:Value->Shared->Prop),Q (.int (g i j) s.toks) { s with toks:=s.toks+1 }->wpAny (model X.prog X.w) X.A (f (.int i t) (.int j u)) Q E s) :
  fO X f (BO fun i j=>.int (g i j)):=by
 intro pins s σ H x y v u Q I rx ry h
 obtain⟨i,j,rfl,rfl,q⟩:=h
 obtain⟨t,rfl⟩:=rx
 obtain⟨t',rfl⟩:=ry
 exact rule i j t t' s _ _ ⟨.int (g i j),H,I.tok _,⟨_,rfl⟩,q⟩
theorem C6{f:Value->Value->Sem Value}{g:Int->Int->Bool}
  (rule:∀ (i j:Int) (t u:Tok) (s:Shared) (Q:Value->Shared->Prop) (E:Value->Shared->Prop),Q (.bool (g i j)) s->wpAny (model X.prog X.w) X.A (f (.int i t) (.int j u)) Q E s) :
  fO X f (BO fun i j=>.bl (g i j)):=by
 intro pins s σ H x y v u Q I rx ry h
 obtain⟨i,j,rfl,rfl,q⟩:=h
 obtain⟨t,rfl⟩:=rx
 obtain⟨t',rfl⟩:=ry
 exact rule i j t t' s _ _ ⟨.bl (g i j),H,I,rfl,q⟩
def B5(i j:Int):Prop:=0 < j/\j < 1073741824
def pW(i j:Int):Prop:=(-(2 ^ 64) < i/\i < 2 ^ 64)\/(-(2 ^ 64) < j/\j < 2 ^ 64)
theorem pW.ok{i j:Int}(h:pW i j):IntMulOk i j:=by
 rcases h with ⟨h1,h2⟩|⟨h1,h2⟩
 ·exact .of_left (intBits_le_64 h1 h2)
 ·exact .of_right (intBits_le_64 h1 h2)
theorem ER:fO X (binaryOp .Add) (BO fun i j=>.int (i+j)):=HQ fun _ _ _ _ _ _ _ q=>add_int q
theorem Gm:fO X (binaryOp .Sub) (BO fun i j=>.int (i - j)):=HQ fun _ _ _ _ _ _ _ q=>sub_int q
theorem GC:fO X (binaryOp .Mult) (rI pW fun i j=>.int (i * j)):=IW fun _ _ _ _ _ _ _ hc q=>mul_int q hc.ok
theorem Dq:fO X (binaryOp .FloorDiv) (rI B5 fun i j=>.int (i / j)):=IW fun i j _ _ _ _ _ hc q=>by
 have h1:(0:Int) < j:=hc.1
 have h2:j < 1073741824:=hc.2
 exact floordiv_int (by omega) (by rw[Int.fdiv_eq_ediv_of_nonneg i (by omega)];exact q) (.inl (PyProof.noPylong_small (by omega)))
theorem FG:fO X (binaryOp .Mod) (rI (fun _ j=>0 < j) fun i j=>.int (i % j)):=IW fun i j _ _ _ _ _ hc q=>by
 have h1:(0:Int) < j:=hc
 exact mod_int' (by omega) (by rw[Int.fmod_eq_emod_of_nonneg i (by omega)];exact q)
theorem JZ{f:Value->Sem Value}{g:Int->Int}
  (rule:∀ (i:Int) (t:Tok) (s:Shared) (Q:Value->Shared->Prop) (E:Value->Shared->Prop),Q (.int (g i) s.toks) { s with toks:=s.toks+1 }->wpAny (model X.prog X.w) X.A (f (.int i t)) Q E s) :
  IT X f (rU fun i=>.int (g i)):=by
 intro pins s σ H x v Q I rx h
 obtain⟨i,rfl,q⟩:=h
 obtain⟨t,rfl⟩:=rx
 exact rule i t s _ _ ⟨.int (g i),H,I.tok _,⟨_,rfl⟩,q⟩
theorem tV:IT X (unaryOp .USub) (rU fun i=>.int (-i)):=JZ fun _ _ _ _ _ q=>neg_int q
end
section
variable {X:Cx}{a b c:Expr}{ta tb tc:TE}{pos:Pos}
theorem AZ{pins:List (Addr×Obj)}{σ:St}{H:Hp}{s:Shared}{Q:VK}{k k':Bool}(I:Inv X pins σ H s)(q:Q (.bl k) H)(e:k=k'):EP X pins σ Q (.bool k') s:=by
 subst e
 exact⟨.bl k,H,I,rfl,q⟩
theorem xY:fO X (compareOp .Lt) (BO fun i j=>.bl (decide (i < j))):=C6 fun _ _ _ _ _ _ _ q=>lt_int q
theorem A5:fO X (compareOp .LtE) (BO fun i j=>.bl (decide (i<=j))):=C6 fun _ _ _ _ _ _ _ q=>le_int q
theorem D1:fO X (compareOp .Gt) (BO fun i j=>.bl (decide (j < i))):=C6 fun _ _ _ _ _ _ _ q=>gt_int q
theorem D8:fO X (compareOp .GtE) (BO fun i j=>.bl (decide (j<=i))):=C6 fun _ _ _ _ _ _ _ q=>ge_int q
theorem Aq:fO X (compareOp .Is) (fun x y H Q=>y=.non/\Q (.bl (decide (x=.non))) H):=by
 intro pins s σ H x y v u Q I rx ry h
 obtain⟨rfl,q⟩:=h
 cases ry
 refine is_none_gen (AZ I q ?_)
 cases x<;>first
  | (cases rx;rfl)
  | (obtain⟨t,rfl⟩:=rx;rfl)
theorem vD:fO X (compareOp .IsNot) (fun x y H Q=>y=.non/\Q (.bl (!decide (x=.non))) H):=by
 intro pins s σ H x y v u Q I rx ry h
 obtain⟨rfl,q⟩:=h
 cases ry
 refine isnot_none_gen (AZ I q ?_)
 cases x<;>first
  | (cases rx;rfl)
  | (obtain⟨t,rfl⟩:=rx;rfl)
theorem fO.or{f:Value->Value->Sem Value}{r r':R2}(h:fO X f r)(h':fO X f r'):fO X f (fun x y H Q=>r x y H Q\/r' x y H Q):=by
 intro pins s σ H x y v u Q I rx ry q
 rcases q with q|q
 ·exact h pins s σ H x y v u Q I rx ry q
 ·exact h' pins s σ H x y v u Q I rx ry q
theorem cw(b:Expr){op:CmpOp}(h:op≠.In:=by decide)(h2:op≠.NotIn:=by decide):behindInMarks op b=false:=by
 have e1:(op == CmpOp.In)=false:=by cases op<;>first|rfl|exact absurd rfl h
 have e2:(op == CmpOp.NotIn)=false:=by cases op<;>first|rfl|exact absurd rfl h2
 cases b<;>simp[behindInMarks,e1,e2]
theorem CO{op:CmpOp}{r:R2}(ho:fO X (compareOp op) r)(ha:PE X a ta)(hb:PE X b tb)(hm:behindInMarks op b=false):PE X (.Compare a [op] [b] pos) (HC r ta tb):=by
 intro pins s σ H Q I h
 exact wpAny_Compare1 (EZ ha hb I h fun v u s2 x y H2 I2 rx ry q=>ho pins s2 σ H2 x y v u Q I2 rx ry q) hm
def DZ(t:TE):TT:=fun σ H Q=>t σ H fun x H'=>∃k,x=.bl k/\Q k H'
theorem B0{op:CmpOp}{r:R2}(ho:fO X (compareOp op) r)(ha:PE X a ta)(hb:PE X b tb)(hm:behindInMarks op b=false):PT X (.Compare a [op] [b] pos) (DZ (HC r ta tb)):=by
 intro pins s σ H Q I h
 refine wpAny_isTrue_Compare1 (bw (ha pins s σ H _ I h) fun v s1 ⟨x,H1,I1,r1,q1⟩=>bw (hb pins s1 σ H1 _ I1 q1) fun u s2 ⟨y,H2,I2,r2,q2⟩ =>
  bw (ho pins s2 σ H2 x y v u _ I2 r1 r2 q2) fun c s3 ⟨z,H3,I3,r3,k,e,q3⟩=>?_) hm
 subst e
 cases r3
 exact wpAny_truthy_bool ⟨H3,I3,q3⟩
def uT(r r':R2)(ta tb tc:TE):TE:=fun σ H Q=>ta σ H fun x H1=>tb σ H1 fun y H2=>r x y H2 fun z H3=>∃k,z=.bl k /\
 (if k=true then tc σ H3 fun w' H4=>r' y w' H4 Q else Q (.bl false) H3)
theorem yp{op op':CmpOp}{r r':R2}(ho:fO X (compareOp op) r)(ho':fO X (compareOp op') r')(ha:PE X a ta)(hb:PE X b tb)(hc:PE X c tc)
  (hm:lastMarks [op,op'] [b,c]=false:=by with_unfolding_all rfl):PE X (.Compare a [op,op'] [b,c] pos) (uT r r' ta tb tc):=by
 intro pins s σ H Q I h
 refine Compare_chain (bw (ha pins s σ H _ I h) fun v s1 ⟨x,H1,I1,r1,q1⟩=>chain_link (bw (hb pins s1 σ H1 _ I1 q1) fun u s2 ⟨y,H2,I2,r2,q2⟩ =>
  bw (ho pins s2 σ H2 x y v u _ I2 r1 r2 q2) fun d s3 ⟨z,H3,I3,r3,k,e,q3⟩=>?_)) hm
 subst e
 cases r3
 refine wpAny_truthy_bool ?_
 cases k with
 | false=>exact ite_ff ⟨.bl false,H3,I3,rfl,q3⟩
 | true=>exact ite_tt (chain_last (bw (hc pins s3 σ H3 _ I3 q3) fun w' s4 ⟨z',H4,I4,r4,q4⟩=>ho' pins s4 σ H4 y z' u w' Q I4 r2 r4 q4))
theorem zd{op op':CmpOp}{r r':R2}(ho:fO X (compareOp op) r)(ho':fO X (compareOp op') r')(ha:PE X a ta)(hb:PE X b tb)(hc:PE X c tc)
  (hm:lastMarks [op,op'] [b,c]=false:=by with_unfolding_all rfl):PT X (.Compare a [op,op'] [b,c] pos) (DZ (uT r r' ta tb tc)):=by
 intro pins s σ H Q I h
 refine isTrue_chain (bw (ha pins s σ H _ I h) fun v s1 ⟨x,H1,I1,r1,q1⟩=>test_link (bw (hb pins s1 σ H1 _ I1 q1) fun u s2 ⟨y,H2,I2,r2,q2⟩ =>
  bw (ho pins s2 σ H2 x y v u _ I2 r1 r2 q2) fun d s3 ⟨z,H3,I3,r3,k,e,q3⟩=>?_)) hm
 subst e
 cases r3
 refine wpAny_truthy_bool ?_
 cases k with
 | false =>
  obtain⟨k',e',q'⟩:=q3
  cases e'
  exact ite_ff ⟨H3,I3,q'⟩
 | true =>
  refine ite_tt (test_last (bw (hc pins s3 σ H3 _ I3 q3) fun w' s4 ⟨z',H4,I4,r4,q4⟩=>bw (ho' pins s4 σ H4 y z' u w' _ I4 r2 r4 q4) fun d' s5 ⟨z2,H5,I5,r5,k2,e2,q5⟩=>?_))
  subst e2
  cases r5
  exact wpAny_truthy_bool ⟨H5,I5,q5⟩
theorem mD:(sizeLine:Nat) < 2 ^ 63:=by rw[sizeLine_eq];decide
theorem vals1{x:V}{us:List Value}(r:ax [x] us):∃u,us=[u]/\RelV x u:=by
 cases r with
 | cons r1 r2=>cases r2;exact⟨_,rfl,r1⟩
theorem vals2{x y:V}{us:List Value}(r:ax [x,y] us):∃u w',us=[u,w']/\RelV x u/\RelV y w':=by
 cases r with
 | cons r1 r2 =>
  cases r2 with
  | cons r3 r4=>cases r4;exact⟨_,_,rfl,r1,r3⟩
theorem xJ:cO X (.type "int") (fun xs H Q=>(∃i,xs=[.int i]/\Q (.int i) H)\/∃k,xs=[.bl k]/\Q (.int (if k then 1 else 0)) H):=by
 intro pins s σ H xs us Q I r h
 rcases h with ⟨i,rfl,q⟩|⟨k,rfl,q⟩
 ·obtain⟨u,rfl,t,rfl⟩:=vals1 r
  exact call_int_int ⟨.int i,H,I,⟨_,rfl⟩,q⟩
 ·obtain⟨u,rfl,r1⟩:=vals1 r
  cases r1
  exact call_int_bool ⟨.int (if k then 1 else 0),H,I.tok _,⟨_,rfl⟩,q⟩
end
section
variable {prog:Program}{w:World}{A:Around}{E:Value->Shared->Prop}{s:Shared}{K:W.Frag}{x dx C f:Addr}{mA:Str->Option Value}{name:Str}{v:Value}
end
section
variable {P:Program}{w:World}{H H':Hp}{h h':Heap}{a C dx:Addr}{fs fs':List (Str×V)}
end
section
variable {X:Cx}{pins:List (Addr×Obj)}{σ:St}{H:Hp}{s:Shared}{a C dx:Addr}{fs:List (Str×V)}{f:Str}{v:V}{A:Around}{E:Value->Shared->Prop}
end
section
variable {X:Cx}{o e value:Expr}{f:Str}{pos pos' tpos:Pos}{ta tv:TE}
end
section
variable {X:Cx}{pins:List (Addr×Obj)}{σ:St}{H:Hp}{s:Shared}{A:Around}{E:Value->Shared->Prop}{Q:Value->Shared->Prop}{c:Value}{b:Bool}
end
structure da(k:Nat)(A:Around):Prop where
 hd:A.handled=none
 dp:A.depth+3 * k+5 < recursionLimit
 un:A.units+16 * k+200 < cLine
theorem da.mono{j k:Nat}{A:Around}(r:da k A)(h:j<=k):da j A:=⟨r.hd,by have:=r.dp;omega,by have:=r.un;omega⟩
theorem da.deeper{k:Nat}{A:Around}(r:da (k+1) A)(env:Env):da k (A.deeper env) :=
 ⟨r.hd,by have:=r.dp;show A.depth+1+3 * k+5 < _;omega,by have:=r.un;show A.units+3+16 * k+200 < _;omega⟩
theorem da.in1{k:Nat}{A:Around}(r:da (k+1) A):da k A.in1 :=
 ⟨r.hd,by have:=r.dp;show A.depth+3 * k+5 < _;omega,by have:=r.un;show A.units+1+16 * k+200 < _;omega⟩
theorem da.depth{k:Nat}{A:Around}(r:da k A):A.depth < recursionLimit:=by have:=r.dp;omega
theorem da.units{k:Nat}{A:Around}(r:da k A):A.units+64 < cLine:=by have:=r.un;omega
theorem da.units0{k:Nat}{A:Around}(r:da k A):A.units < cLine:=by have:=r.un;omega
def IL:TA:=fun _ H Q=>Q [] H
def Il(ta:TE)(tr:TA):TA:=fun σ H Q=>ta σ H fun x H1=>tr σ H1 fun xs H2=>Q (x::xs) H2
section
variable {X:Cx}{e:Expr}{es:List Expr}{te:TE}{t:TA}{pos:Pos}
theorem dh:PA X [] IL:=fun _ _ _ _ H Q I h=>Calls.spliced_nil ⟨[],H,I,.nil,h⟩
theorem bA(ha:PE X e te)(hr:PA X es t)(hs:starEach (e::es) X.env=(false,eval e X.env)::starEach es X.env:=by rfl):PA X (e::es) (Il te t):=by
 intro pos pins s σ H Q I h
 rw[hs]
 show wpAny _ _ (spliced ((false,eval e X.env)::backTo pos (starEach es X.env))) _ _ s
 refine Calls.spliced_cons (bw (ha pins s σ H _ I h) fun u s1 ⟨x,H1,I1,r1,q1⟩=>?_)
 exact bw (hr pos pins s1 σ H1 _ I1 q1) fun us s2 ⟨xs,H2,I2,r2,q2⟩=>⟨x::xs,H2,I2,.cons r1 r2,q2⟩
def Jv(t:TA):TE:=fun σ H Q=>t σ H fun xs H1=>xs.length<=sizeLine/\∀p,H1 p=none->Q (.ref p) (upd H1 p (.tup xs))
def Jp(t:TA):TE:=fun σ H Q=>t σ H fun xs H1=>xs.length<=sizeLine/\∀p,H1 p=none->Q (.ref p) (upd H1 p (.lst xs))
theorem F0{x1}(h:PA X es t):PE X (.Tuple es x1 pos) (Jv t):=by
 intro pins s σ H Q I hq
 refine wpAny_Tuple_spliced (bw (h pos pins s σ H _ I hq) fun us s1 ⟨xs,H1,I1,r,z,q⟩=>⟨by rw[<- r.length];exact z,?_⟩)
 have hf:H1 s1.heap.objs.size=none:=I1.hok.fresh (Nat.le_refl _)
 refine⟨.ref s1.heap.objs.size,upd H1 s1.heap.objs.size (.tup xs),I1.laid (t':=s1.toks) (fun b u e=>zV _ e) (Nat.le_refl _) ?_,rfl,q _ hf⟩
 exact⟨z,us,r,⟨_,zY _ rfl,rfl,_,rfl⟩,_,zY _ rfl,rfl⟩
theorem AQ(h:PA X es t):PE X (.List es pos) (Jp t):=by
 intro pins s σ H Q I hq
 refine wpAny_List_spliced (bw (h pos pins s σ H _ I hq) fun us s1 ⟨xs,H1,I1,r,z,q⟩=>⟨by rw[<- r.length];exact z,?_⟩)
 have hf:H1 s1.heap.objs.size=none:=I1.hok.fresh (Nat.le_refl _)
 refine⟨.ref s1.heap.objs.size,upd H1 s1.heap.objs.size (.lst xs),I1.laid (t':=s1.toks) (fun b u e=>zV _ e) (Nat.le_refl _) ?_,rfl,q _ hf⟩
 exact⟨z,us,0,r,zY _ rfl⟩
end
noncomputable abbrev Sp:=List V->Hp->VK->XK->Prop
noncomputable abbrev xU:=List Env->Hp->Shared->XK->Value->Shared->Prop
structure CU(P:Program)(w:World)(K:W.Frag)(mg:Str->Option Value)(base:Heap)(A:Around)(outer:List Env)(s:Shared)(H:Hp):Prop where
 frames:A.frames=some outer
 mod:Mod K mg base
 bs:∀b o,base.get? b=some o->s.heap.get? b=some o/\H b=none
 bsz:base.objs.size<=s.heap.objs.size
 funs:s.heap.FunFrames base outer
 frf:∀b∈Bl outer,H b=none
 hok:lS P w H s.heap
 bare:AllBare s.gens
noncomputable def CE(outer:List Env)(P:Program)(w:World)(H:Hp)(s:Shared)(Q:VK)(u:Value)(s':Shared):Prop :=
 ∃v H',s'.os=s.os/\AllBare s'.gens/\Un (Bl outer) [] H H' s.heap s'.heap/\lS P w H' s'.heap/\RelV v u/\Q v H'
noncomputable def CR(CX:xU)(outer:List Env)(P:Program)(w:World)(H:Hp)(s:Shared)(Q:VK)(E:XK)(r:Result)(s':Shared):Prop :=
 match r with
 | .ok (.ret u)=>CE outer P w H s Q u s'
 | .ok _=>False
 | .error e=>CX outer H s E e s'
structure lM(P:Program)(w:World)(K:W.Frag)(mg:Str->Option Value)(base:Heap)(CX:xU)(k:Nat)(f:Addr)(fd:FuncData)(ps:List Str)(sp:Sp):Prop where
 len:∀vs H Q E,sp vs H Q E->vs.length=ps.length
 run:∀ (A:Around) (outer:List Env) (s:Shared) (H:Hp) (args:Args) (us:List Value) (vs:List V) (Q:VK) (E:XK),da k A->CU P w K mg base A outer s H->BindsTo s fd args (ps.zip us)->ax vs us->sp vs H Q E ->
  codeAny (model P w) A (.call (.ref f) args) (CR CX outer P w H s Q E) s
theorem lM.mono{P:Program}{w:World}{K:W.Frag}{mg:Str->Option Value}{base:Heap}{CX:xU}{j k:Nat}{f:Addr}{fd:FuncData}{ps:List Str}{sp:Sp}(F:lM P w K mg base CX j f fd ps sp)(h:j<=k) :
  lM P w K mg base CX k f fd ps sp:=⟨F.len,fun A outer s H args us vs Q E hr=>F.run A outer s H args us vs Q E (hr.mono h)⟩
section
variable {X:Cx}{pins:List (Addr×Obj)}{σ:St}{H:Hp}{s s':Shared}
theorem Inv.env0(I:Inv X pins σ H s):CU X.prog X.w X.K X.mg X.base X.A X.stack s H :=
 ⟨I.ok.frames,I.ok.mod,I.bs,yE I.ok.bsz I.sz,I.stack,I.stkFree,I.hok,I.bare⟩
theorem Inv.after{Q:VK}{u:Value}(I:Inv X pins σ H s)(h:CE X.stack X.prog X.w H s Q u s'):EP X pins σ Q u s':=by
 obtain⟨v,H',os,bare,un,hok,r,q⟩:=h
 obtain⟨hh,g,d,t,os'⟩:=s'
 obtain rfl:os'=s.os:=os
 exact⟨v,H',I.call (h':=hh) (g':=g) (d':=d) (t':=t) (ch:=[]) un hok bare (fun b z=>absurd z (by simp)),r,q⟩
end
def HA(sp:Sp)(dvs:List V)(E:XK)(t:TA):TE:=fun σ H Q=>t σ H fun vs H1=>sp (vs++dvs) H1 Q E
noncomputable def Binds(K:W.Frag)(fd:FuncData)(ps:List Str)(ds:List Value):Prop :=
 ∀ (s:Shared) (us:List Value),K.In s.heap->(us++ds).length=ps.length->BindsTo s fd ⟨us,[]⟩ (ps.zip (us++ds))
theorem Binds.all{K:W.Frag}{fd:FuncData}{ps:List Str}(h:∀us:List Value,us.length=ps.length->bindArgs fd ⟨us,[]⟩=pure (ps.zip us)):Binds K fd ps []:=fun s us _ hl=>by
 rw[List.append_nil] at hl ⊢
 exact .of_eq (h us hl)
def tY(CX:xU)(X:Cx)(E:XK):Prop:=∀ (pins:List (Addr×Obj)) (σ:St) (H:Hp) (s:Shared) (e:Value) (s':Shared),Inv X pins σ H s->CX X.stack H s E e s'->X.xe e s'
section
variable {X:Cx}{CX:xU}{k:Nat}{f C:Addr}{fd:FuncData}{ps:List Str}{sp:Sp}{dvs:List V}{ds:List Value}{E:XK}{x m:Str}{p pos apos:Pos}{e o:Expr}{es:List Expr}{ta:TE}{t:TA}
theorem Ac{pins:List (Addr×Obj)}{σ:St}{H:Hp}{s:Shared}{Q:VK}{us:List Value}{vs:List V}(F:lM X.prog X.w X.K X.mg X.base CX k f fd ps sp)(hr:da k X.A)(hb:Binds X.K fd ps ds)(hd:ax dvs ds)(hx:tY CX X E)
  (I:Inv X pins σ H s) (r:ax vs us) (h:sp (vs++dvs) H Q E):wpAny (model X.prog X.w) X.A (call (.ref f) us) (EP X pins σ Q) X.xe s:=by
 have r2:ax (vs++dvs) (us++ds):=r.append hd
 have hl:(us++ds).length=ps.length:=by rw[<- r2.length];exact F.len _ _ _ _ h
 refine wpAny_call (codeAny_mono (F.run X.A X.stack s H ⟨us,[]⟩ (us++ds) (vs++dvs) Q E hr I.env0 (hb s us I.kIn hl) r2 h) fun r s' hq=>?_)
 cases r with
 | error e=>exact hx pins σ H s e s' I hq
 | ok fl =>
  cases fl with
  | ret u=>exact I.after hq
  | next=>exact False.elim hq
  | brk=>exact False.elim hq
  | cont=>exact False.elim hq
theorem B1(F:lM X.prog X.w X.K X.mg X.base CX k f fd ps sp)(hr:da k X.A)(hg:Gl X x)(hm:X.mg x=some (.ref f))(hk:W.keepIn X.K (.ref f)=true)(hb:Binds X.K fd ps ds)(hd:ax dvs ds)(hx:tY CX X E)
  (ha:PA X (e::es) t) (hdb:(x == ("__debug__":Str))=false:=by decide) (he:starEach (e::es) X.env=(false,eval e X.env)::starEach es X.env:=by rfl) (hpl:(backTo pos (starEach es X.env)).any (·.1)=false:=by rfl) :
  PE X (.Call (.Name x p) (e::es) [] pos) (HA sp dvs E t):=by
 intro pins s σ H Q I h
 refine wpAny_Call_Name_kw (wa I hg hm ?_ hdb)
 refine W.callWith_K (h₀:=X.base) I.ok.mod.kin hk (bw (ha pos pins s σ H _ I h) fun us s1 ⟨vs,H1,I1,r,q⟩=>⟨I1.kIn,?_⟩) he hpl
 exact Ac F hr hb hd hx I1 r q
end
section
variable {X:Cx}{CX:xU}{k:Nat}{f C:Addr}{fd:FuncData}{ps ks:List Str}{sp:Sp}{E:XK}{x m:Str}{p pos apos kpos:Pos}{e o:Expr}{es:List Expr}{kws:List Keyword}{te ta:TE}{t tk:TA}{nm:Option Str}
variable {g:List Value->List Value->List Value}{gV:List V->List V->List V}
end
structure d9(N P:List Str)(sc:Scope):Prop where
 kind:sc.kind=.function
 co:sc.isCoroutine=false
 gen:sc.isGenerator=false
 nd:N.Nodup
 pre:N.take P.length=P
 par:∀x∈P,sc.names.lookup x=some .local \/ sc.names.lookup x=some .cell
 nofree:∀y∈sc.names,y.2≠.free
theorem oI{kindOf:Str->Option NameKind}{x:Str}:∀ {binds:List (Str×Value)}{m:Str->Option Value},(∀v,(x,v)∉binds)->bindL kindOf binds m x=m x
 | [],_,_=>rfl
 | (n,v)::r,m,h=>by
  unfold bindL
  rw[oI fun w hw=>h w (zC _ hw)]
  split
  ·have:x≠n:=by rintro rfl;exact h v zE
   simp[this]
  ·rfl
theorem oX{kindOf:Str->Option NameKind}{x:Str}:∀ {binds:List (Str×Value)}{m:Str->Option Value},(∀v,(x,v)∉binds)->bindC kindOf binds m x=m x
 | [],_,_=>rfl
 | (n,v)::r,m,h=>by
  unfold bindC
  rw[oX fun w hw=>h w (zC _ hw)]
  split
  ·rfl
  ·have:x≠n:=by rintro rfl;exact h v zE
   simp[this]
theorem pq{kindOf:Str->Option NameKind}{x:Str}{v:Value}:∀ {P:List Str}{vs:List Value}{i:Nat}{m:Str->Option Value},P.Nodup->P[i]?=some x->vs[i]?=some v->kindOf x=some .local ->
  bindL kindOf (P.zip vs) m x=some v
 | [],_,_,_,_,h,_,_=>by simp at h
 | _::_,[],_,_,_,_,h,_=>by simp at h
 | p::P,w::vs,0,m,nd,h1,h2,hk=>by
  simp at h1 h2;subst h1;subst h2
  show bindL kindOf ((p,w)::P.zip vs) m p=_
  unfold bindL
  rw[oI fun v hv=>(List.nodup_cons.mp nd).1 (List.of_mem_zip hv).1,if_pos hk]
  simp
 | p::P,w::vs,i+1,m,nd,h1,h2,hk=>by
  show bindL kindOf ((p,w)::P.zip vs) m x=_
  unfold bindL
  exact pq (i:=i) (List.nodup_cons.mp nd).2 (by simpa using h1) (by simpa using h2) hk
theorem oT{kindOf:Str->Option NameKind}{x:Str}{v:Value}:∀ {P:List Str}{vs:List Value}{i:Nat}{m:Str->Option Value},P.Nodup->P[i]?=some x->vs[i]?=some v->kindOf x≠some .local ->
  bindC kindOf (P.zip vs) m x=some v
 | [],_,_,_,_,h,_,_=>by simp at h
 | _::_,[],_,_,_,_,h,_=>by simp at h
 | p::P,w::vs,0,m,nd,h1,h2,hk=>by
  simp at h1 h2;subst h1;subst h2
  show bindC kindOf ((p,w)::P.zip vs) m p=_
  unfold bindC
  rw[oX fun v hv=>(List.nodup_cons.mp nd).1 (List.of_mem_zip hv).1,if_neg hk]
  simp
 | p::P,w::vs,i+1,m,nd,h1,h2,hk=>by
  show bindC kindOf ((p,w)::P.zip vs) m x=_
  unfold bindC
  exact oT (i:=i) (List.nodup_cons.mp nd).2 (by simpa using h1) (by simpa using h2) hk
noncomputable def start(N:List Str)(vs:List V):St:=vs.map some++List.replicate (N.length - vs.length) none
noncomputable def wZ(CX:xU)(P:Program)(w:World)(K:W.Frag)(mg:Str->Option Value)(base:Heap)(N:List Str)(qual:Str)(scope:Scope)(f:Addr)(cd:Value)(A:Around)(outer:List Env)(s:Shared)(H:Hp)(E:XK):Cx where
 prog:=P
 w:=w
 K:=K
 mg:=mg
 base:=base
 A:=A.deeper (envOfC qual scope s.heap.objs.size f cd)
 N:=N
 s₀:=s
 H₀:=H
 env:=envOfC qual scope s.heap.objs.size f cd
 outer:=outer
 stack:=envOfC qual scope s.heap.objs.size f cd::outer
 ex:=[]
 calm:=true
 fn:=fun _=>true
 pn:=[]
 xe:=fun e s'=>wpAny (model P w) (A.deeper (envOfC qual scope s.heap.objs.size f cd)) (leaving (envOfC qual scope s.heap.objs.size f cd) e) (fun _ s''=>CX outer H s E e s'') (fun e' s''=>CX outer H s E e' s'') s'
theorem nE{sc:Scope}{n:Nat}{x:Str}(h:sc.names.lookup x=some .cell):∃c,(cellsFrom n sc.names []).lookup x=some c:=by
 have q:=W.cellsFrom_some sc.names n [] (.inl h)
 exact Option.isSome_iff_exists.mp q
theorem wV{CX:xU}{P:Program}{w:World}{K:W.Frag}{mg:Str->Option Value}{base:Heap}{N ps:List Str}{qual:Str}{scope:Scope}{f:Addr}{cd:Value}{A:Around}{outer:List Env}{s s1:Shared}{H:Hp}{E:XK}{us:List Value}{vs:List V}
  (S:d9 N ps scope) (hd:A.handled=none) (e0:CU P w K mg base A outer s H) (hl:vs.length=ps.length) (r:ax vs us)
  (x:InCallC s s.heap.objs.size (bindL (envOfC qual scope s.heap.objs.size f cd).kindOf (ps.zip us) fun _=>none) (cellsFrom (s.heap.objs.size+1) scope.names []) (bindC (envOfC qual scope s.heap.objs.size f cd).kindOf (ps.zip us) fun _=>none) s1) :
  Inv (wZ CX P w K mg base N qual scope f cd A outer s H E) [] (start N vs) H s1:=by
 have hpl:ps.length<=N.length:=by have:=congrArg List.length S.pre;rw[List.length_take] at this;omega
 obtain⟨h1,tk,rfl,hk⟩:=x.done
 have noA:∀b:Addr,b∉(wZ CX P w K mg base N qual scope f cd A outer s H E).ex:=fun b z=>absurd (show b∈([]:List Addr) from z) (by simp)
 refine⟨⟨e0.mod,S.kind,rfl,rfl,Nat.le_refl _,fun y z c h1 h2=>?_,fun y hy=>?_,fun y c _ h=>?_,fun _=>hd,Around.frames_deeper e0.frames,.inr ⟨rfl,rfl⟩,fun b z=>absurd z (noA b),e0.bs,e0.bsz,fun b _ _=>noA b,fun b z=>absurd z (noA b),e0.funs,e0.frf⟩,
  rfl,e0.bare,Un.kept hk,⟨_,x.toInCall.ns,fun i y v h1 h2 h3=>?_⟩,fun y c h=>⟨_,x.cell y c h⟩,e0.hok.fresh (Nat.le_refl _),fun y c h=>?_,fun p hp=>absurd (show p∈([]:List (Addr×Obj)) from hp) (by simp),e0.hok.kept hk,?_⟩
 ·exact name_of_addr x.apart (PySem.mem_of_lookup h1) (PySem.mem_of_lookup h2)
 ·have hy:scope.names.lookup y=some .cell\/scope.names.lookup y=some .free:=hy
  rcases hy with hy|hy
  ·exact nE hy
  ·exact absurd rfl (S.nofree _ (PySem.mem_of_lookup hy))
 ·exact Nat.le_of_lt (x.above y c (PySem.mem_of_lookup h))
 ·have hi:i < vs.length:=by
   unfold start at h2
   by_cases hi:i < vs.length
   ·exact hi
   ·rw[List.getElem?_append_right (by simpa using hi)] at h2
    rw[List.getElem?_replicate] at h2
    split at h2<;>cases h2
  have ha:vs[i]?=some v:=by
   unfold start at h2
   rw[List.getElem?_append_left (by simpa using hi),zO] at h2
   cases e:vs[i]? with
   | none=>rw[e] at h2;cases h2
   | some a=>rw[e] at h2;cases h2;rfl
  obtain⟨u,hu,rv⟩:=r.get ha
  have hp:ps[i]?=some y:=by
   rw[<- S.pre,List.getElem?_take_of_lt (by omega)];exact h1
  have ndP:ps.Nodup:=by rw[<- S.pre];exact S.nd.sublist (List.take_sublist _ _)
  refine⟨u,rv,?_⟩
  rcases S.par y (List.mem_of_getElem? hp) with k|k
  ·exact .inl ⟨k,pq ndP hp hu k⟩
  ·obtain⟨c,e⟩:=nE (n:=s.heap.objs.size+1) k
   refine .inr ⟨.inl k,c,e,?_⟩
   have q:=x.cell y c e
   rw[oT ndP hp hu (by show scope.names.lookup y≠_;rw[k];decide)] at q
   exact q
 ·exact e0.hok.fresh (Nat.le_of_lt (x.above y c (PySem.mem_of_lookup h)))
 ·unfold start
  show _=N.length
  rw[zN,zD,List.length_replicate]
  omega
theorem G7{CX:xU}{P:Program}{w:World}{K:W.Frag}{mg:Str->Option Value}{base:Heap}{k:Nat}{f:Addr}{name qual:Str}{params:Arguments}{body:List Stmt}{scope:Scope}{dV kV doc pm cdv ct oc:Value}{an od:Option Addr}
  {osl:Array (Option Value)}{N ps:List Str}{sp:Sp}(lk:K.lookup f=some ⟨oc,od,.func (W.fnOf name qual params body scope dV kV doc pm an cdv ct),osl⟩) (hcd:W.codeIn K cdv qual=true) (S:d9 N ps scope)
  (len:∀vs H Q E,sp vs H Q E->vs.length=ps.length)
  (hbody:∀ (A:Around) (outer:List Env) (s:Shared) (H:Hp) (vs:List V) (Q:VK) (E:XK),da k (A.deeper (envOfC qual scope s.heap.objs.size f cdv))->sp vs H Q E ->
   ∃t,ug (wZ CX P w K mg base N qual scope f cdv A outer s H E) body t/\t { nx:=fun _ H'=>Q .non H',rt:=Q } (start N vs) H) :
  lM P w K mg base CX (k+1) f (W.fnOf name qual params body scope dV kV doc pm an cdv ct) ps sp:=by
 refine⟨len,fun A outer s H args us vs Q E hr e0 hb r hsp=>?_⟩
 have hl:=len _ _ _ _ hsp
 have KX:K.In s.heap:=e0.mod.kin.keeps fun b o e=>(e0.bs b o e).1
 have lim:s.heap.NoLimit:=e0.mod.nolimit.keeps fun b o e=>(e0.bs b o e).1
 have hkind:∀y∈ps.zip us,scope.names.lookup y.1=some .local \/ (scope.names.lookup y.1=some .cell/\((cellsFrom (s.heap.objs.size+1) scope.names []).lookup y.1).isSome=true):=fun ⟨n,v⟩ hy=>by
  rcases S.par n (List.of_mem_zip hy).1 with q|q
  ·exact .inl q
  ·exact .inr ⟨q,W.cellsFrom_some _ _ _ (.inl q)⟩
 refine codeAny_call_function hr.depth (KX _ _ lk) rfl S.co S.gen rfl (W.codeRec_of KX hcd) (hb _ _ _ _ ?_)
 refine wpAny_newFunctionEnv_cells S.kind hkind fun env he s1 x=>?_
 subst he
 refine⟨lim.keeps x.toInCall.keep,codeAny_func ?_⟩
 obtain⟨t,ht,hq⟩:=hbody A outer s H vs Q E (hr.deeper _) hsp
 have I:Inv (wZ CX P w K mg base N qual scope f cdv A outer s H E) [] (start N vs) H s1:=wV S hr.hd e0 hl r x
 refine wpAny_mono (ht [] s1 (start N vs) H _ I hq) (fun fl s' hs=>?_) fun e s' hs=>hs
 have fin:∀ {σ':St}{H':Hp}{v:V}{u:Value},Inv (wZ CX P w K mg base N qual scope f cdv A outer s H E) [] σ' H' s'->RelV v u->Q v H'->CE outer P w H s Q u s' :=
  fun {σ' H' v u} J rv q=>⟨v,H',J.os,J.bare,J.base,J.hok,rv,q⟩
 cases fl with
 | ret u =>
  obtain⟨v,σ',H',J,rv,q⟩:=hs
  exact fin J rv q
 | next =>
  obtain⟨σ',H',J,q⟩:=hs
  exact fin (v:=V.non) (u:=Value.none) J rfl q
 | brk =>
  obtain⟨_,_,_,q⟩:=hs
  exact False.elim q
 | cont =>
  obtain⟨_,_,_,q⟩:=hs
  exact False.elim q
section
variable {X:Cx}{x:Str}{p pos:Pos}{e:Expr}{es:List Expr}{t:TA}{id T:String}{r:List V->Hp->VK->Prop}
def IB(r:List V->Hp->VK->Prop)(t:TA):TE:=fun σ H Q=>t σ H fun vs H1=>r vs H1 Q
theorem ib(hc:cO X (.builtin id) r)(hg:Gl X x)(hm:X.mg x=none)(hv:bootBuiltins x=some (.builtin id))(ha:PA X (e::es) t)(hn:x≠"__name__":=by decide)(hdb:(x == ("__debug__":Str))=false:=by decide)
  (he:starEach (e::es) X.env=(false,eval e X.env)::starEach es X.env:=by rfl) (hpl:(backTo pos (starEach es X.env)).any (·.1)=false:=by rfl):PE X (.Call (.Name x p) (e::es) [] pos) (IB r t):=by
 intro pins s σ H Q I h
 refine wpAny_Call_Name_kw (eL I hg hm hv ?_ hn hdb)
 exact PyProof.Rows.callWith_builtin1 (bw (ha pos pins s σ H _ I h) fun us s1 ⟨vs,H1,I1,r1,q1⟩=>hc pins s1 σ H1 vs us Q I1 r1 q1) he hpl
theorem ji(hc:cO X (.type T) r)(hg:Gl X x)(hm:X.mg x=none)(hv:bootBuiltins x=some (.type T))(ha:PA X (e::es) t)(hn:x≠"__name__":=by decide)(hdb:(x == ("__debug__":Str))=false:=by decide)
  (he:starEach (e::es) X.env=(false,eval e X.env)::starEach es X.env:=by rfl) (hpl:(backTo pos (starEach es X.env)).any (·.1)=false:=by rfl):PE X (.Call (.Name x p) (e::es) [] pos) (IB r t):=by
 intro pins s σ H Q I h
 refine wpAny_Call_Name_kw (eL I hg hm hv ?_ hn hdb)
 exact PyProof.Rows.callWith_type1 (bw (ha pos pins s σ H _ I h) fun us s1 ⟨vs,H1,I1,r1,q1⟩=>hc pins s1 σ H1 vs us Q I1 r1 q1) he hpl
end
end L2
namespace HT
open PySem PyProof.Rows
noncomputable def lexLt:List Int->List Int->Bool
 | [],[]=>false
 | [],_::_=>true
 | _::_,[]=>false
 | x::xs,y::ys=>if x=y then lexLt xs ys else decide (x < y)
theorem cH(x y:Int)(xs ys:List Int):lexLt (x::xs) (y::ys)=if x=y then lexLt xs ys else decide (x < y):=rfl
theorem nU:lexLt [] []=false:=rfl
theorem mL(y:Int)(ys:List Int):lexLt [] (y::ys)=true:=rfl
theorem nj(x:Int)(xs:List Int):lexLt (x::xs) []=false:=rfl
theorem yQ(A:Around)(s:Shared)(a:Int)(t:Tok)(c:Int)(u:Tok):∃e,SeqAt.EqAt A s (.int a t) (.int c u) e/\(e=true↔a=c) :=
 ⟨(a == c),SeqAt.EqAt.int_int a t c u,by simp⟩
section
open PySem.SeqAt
open PySem.AutoSeq1 (wpAny_loadPart')
open PySem.MeetsSeq PySem.MeetsSeq2 PySem.MeetsSeq3
end
section
variable {prog:Program}{w:World}{A:Around}{E:Value->Shared->Prop}{s:Shared}
theorem Dh{t b:Addr}{vs ws:List Value}{Q:Value->Shared->Prop}(ht:IsTup s.heap t vs.toArray)(hb:IsTup s.heap b ws.toArray)(hv:vs≠[])
  (h1:ws=[]->Q (.ref t) s) (h2:ws≠[]->Q (.ref s.heap.objs.size) { s with heap:=s.heap.push { cls:=.type "tuple",data:=.seq (vs++ws).toArray } })
  (hsz:vs.length+ws.length<=sizeLine):wpAny (model prog w) A (binaryOp .Add (.ref t) (.ref b)) Q E s:=by
 obtain⟨⟨cls,dd,data,sl⟩,ho,hc,n,hd⟩:=id ht
 obtain⟨⟨cls2,dd2,data2,sl2⟩,ho2,hc2,n2,hd2⟩:=id hb
 simp only at hc hd hc2 hd2
 subst hc hd hc2 hd2
 have e:vs.toArray++ws.toArray=(vs++ws).toArray:=by simp
 by_cases hw:ws=[]
 ·exact concat_meets ⟨_,ho,rfl⟩ ⟨_,ho2,rfl⟩ noFill_tuple_add seq_tuple_add PySem.F.slot_tuple_add PySem.F.entry_tuple_add (PySem.F.args_tuple_add_2 _ _)
   (tuple_addW1 t b vs.toArray ws.toArray n n2 dd dd2 sl sl2 (by simpa using hv) (by simp[hw])) ⟨ho,ho2,h1 hw⟩
 ·refine concat_meets ⟨_,ho,rfl⟩ ⟨_,ho2,rfl⟩ noFill_tuple_add seq_tuple_add PySem.F.slot_tuple_add PySem.F.entry_tuple_add (PySem.F.args_tuple_add_2 _ _)
   (tuple_addW2 t b vs.toArray ws.toArray n n2 dd dd2 sl sl2 (by simpa using hv) (by simpa using hw) (by rw[zH,zH];exact hsz)) ⟨ho,ho2,?_⟩
  rw[e]
  exact h2 hw
noncomputable def cK(n d:Nat):Option Int->Nat
 | none=>d
 | some v=>if v < 0 then (v+(n:Int)).toNat else min v.toNat n
theorem zk(n d:Nat):cK n d none=d:=rfl
theorem BZ(n d k:Nat):cK n d (some (k:Int))=min k n:=by
 show (if (k:Int) < 0 then ((k:Int)+(n:Int)).toNat else min (k:Int).toNat n)=min k n
 rw[if_neg (by omega),yH]
theorem GJ(n d:Nat)(hd:d<=n)(o:Option Int):cK n d o<=n:=by
 cases o with
 | none=>exact hd
 | some v =>
  show (if v < 0 then (v+(n:Int)).toNat else min v.toNat n)<=n
  by_cases hv:v < 0
  ·rw[if_pos hv];omega
  ·rw[if_neg hv];exact Nat.min_le_right _ _
theorem v8(v:Int)(n d:Nat):(if v < 0 then max (v+(n:Int)) 0 else min v (n:Int))=((cK n d (some v):Nat):Int):=by
 show (if v < 0 then max (v+(n:Int)) 0 else min v (n:Int))=(((if v < 0 then (v+(n:Int)).toNat else min v.toNat n):Nat):Int)
 by_cases hv:v < 0
 ·simp only[if_pos hv];omega
 ·simp only[if_neg hv];omega
theorem tL(lo hi:Option Int)(n:Nat):Builtin.Slice.sliceAdjust lo hi 1 (n:Int)=(((cK n 0 lo:Nat):Int),((cK n n hi:Nat):Int)):=by
 have h1:¬ ((1:Int) < 0):=by omega
 unfold Builtin.Slice.sliceAdjust
 simp only[h1,if_false]
 refine Prod.ext ?_ ?_
 ·cases lo with
  | none=>rfl
  | some v=>exact v8 v n 0
 ·cases hi with
  | none=>rfl
  | some v=>exact v8 v n n
theorem u0(i j:Nat):Builtin.Slice.slicePlaces (i:Int) (j:Int) 1=j - i:=by
 unfold Builtin.Slice.slicePlaces
 have h1:(1:Int) > 0:=by omega
 simp only[h1,if_true,Int.ediv_one]
 split<;>omega
theorem nh{v:Value}{o:Option Int}{Q:Option Int->Shared->Prop}(p:IsPart v o)(h:Q o s):wpAny (model prog w) A (Builtin.Slice.slicePartIndex v) Q E s:=by
 cases p with
 | none=>exact slicePart_none h
 | int i t=>exact slicePart_int h
theorem fQ{sl:Addr}{vl vu:Value}{lo hi:Option Int}{n:Nat}{Q:Int×Int×Nat->Shared->Prop}(hs:s.heap.IsSliceOf sl vl vu .none)(pl:IsPart vl lo)(pu:IsPart vu hi)
  (h:Q (((cK n 0 lo:Nat):Int),1,cK n n hi - cK n 0 lo) s):wpAny (model prog w) A (Builtin.Slice.sliceApplied (.ref sl) (pure (n:Int))) Q E s:=by
 obtain⟨os,hos,hcs,hds⟩:=id hs
 unfold Builtin.Slice.sliceApplied Builtin.Slice.sliceFields
 refine zW (zW (wpAny_field hos hds (x:=vl) rfl (zW (wpAny_field hos hds (x:=vu) rfl (zW (wpAny_field hos hds (x:=.none) rfl (zX ?_)))))))
 refine zW (slicePart_none ?_)
 show wpAny _ _ (if ((1:Int) == 0)=true then _ else _) _ _ s
 rw[if_neg (by decide)]
 refine zW (nh pl (zW (nh pu (zW (zX ?_)))))
 show wpAny _ _ (match Builtin.Slice.sliceAdjust lo hi 1 (n:Int) with|(lo,hi)=>pure (lo,(1:Int),Builtin.Slice.slicePlaces lo hi 1)) _ _ s
 rw[tL lo hi n]
 show wpAny _ _ (pure (((cK n 0 lo:Nat):Int),(1:Int),Builtin.Slice.slicePlaces ((cK n 0 lo:Nat):Int) ((cK n n hi:Nat):Int) 1)) _ _ s
 rw[u0]
 exact zX h
theorem A4(xs:Array Value)(i k:Nat):((List.range k).filterMap fun (m:Nat)=>xs[((i:Int)+(m:Int) * 1).toNat]?).toArray=((xs.toList.drop i).take k).toArray:=by
 have e:(fun (m:Nat)=>xs[((i:Int)+(m:Int) * 1).toNat]?)=fun m=>xs[i+m]?:=by
  funext m
  have:((i:Int)+(m:Int) * 1).toNat=i+m:=by omega
  rw[this]
 rw[e]
 have:=pick_run xs i k
 rw[List.filterMap_map] at this
 have e2:((fun x=>xs[x]?) ∘ fun x=>i+x)=fun m=>xs[i+m]?:=rfl
 rw[e2] at this
 rw[this]
theorem jU{t sl:Addr}{items:Array Value}{vl vu:Value}{lo hi:Option Int}{Q:Value->Shared->Prop}(ht:IsTup s.heap t items)(hs:s.heap.IsSliceOf sl vl vu .none)(pl:IsPart vl lo)(pu:IsPart vu hi)
  (hw:¬ (cK items.size 0 lo=0/\cK items.size items.size hi=items.size))
  (h:Q (.ref s.heap.objs.size) { s with heap:=s.heap.push { cls:=.type "tuple",data:=.seq ((items.toList.drop (cK items.size 0 lo)).take (cK items.size items.size hi - cK items.size 0 lo)).toArray } })
  (hsz:items.size<=sizeLine):wpAny (model prog w) A (getItem (.ref t) (.ref sl)) Q E s:=by
 have htake:sizeOk (.seq ((items.toList.drop (cK items.size 0 lo)).take (cK items.size items.size hi - cK items.size 0 lo)).toArray):=by
  show ((items.toList.drop (cK items.size 0 lo)).take (cK items.size items.size hi - cK items.size 0 lo)).toArray.size<=sizeLine
  rw[zH,List.length_take,List.length_drop,Array.length_toList]
  omega
 have hj:cK items.size items.size hi<=items.size:=GJ _ _ (Nat.le_refl _) hi
 obtain⟨os,hos,hcs,hds⟩:=id hs
 have hTs:s.TypeIs (.ref sl) "slice":=⟨os,hos,hcs⟩
 unfold getItem
 try with_reducible refine wpAny_holding ?_
 first|refine zW (zX ?_)|skip
 refine zW (wpAny_sequenceKey ht.typeIs (by decide) ?_)
 refine zW (wpAny_callSpecial?_slot (name:=Str.ofString "__getitem__") ht.typeIs PyProof.Rows.slot_tuple_getitem
  (wpAny_call_entry PyProof.Rows.slot_tuple_getitem ht.typeIs entry_tuple_getitem ?_ (args_tuple_getitem _ _)))
 show wpAny _ _ (Builtin.Tuple.tupleItemsOf (.ref t) >>= _) _ _ s
 refine zW (tupleItemsOf_ ht ?_)
 refine zW (wpAny_typeOf hTs ?_)
 rw[if_pos (by decide)]
 refine zW (fQ hs pl pu ?_)
 have hno:¬ ((((cK items.size 0 lo:Nat):Int) == 0&&(1:Int) == 1&&(cK items.size items.size hi - cK items.size 0 lo) == items.size)=true):=by
  intro q
  rw[zF,zF] at q
  have q1:((cK items.size 0 lo:Nat):Int)=0:=eq_of_beq q.1.1
  have q2:cK items.size items.size hi - cK items.size 0 lo=items.size:=eq_of_beq q.2
  exact hw ⟨by omega,by omega⟩
 show wpAny _ _ (if (((cK items.size 0 lo:Nat):Int) == 0&&(1:Int) == 1&&(cK items.size items.size hi - cK items.size 0 lo) == items.size)=true then _ else _) _ _ s
 rw[if_neg hno,A4]
 first
  | exact zW (m:=Builtin.Tuple.tupleExact _) (wpAny_newObj_type (zX ⟨_,rfl,zX h⟩) htake)
  | exact zW (m:=Builtin.Tuple.tupleExact _) (wpAny_newObj_type (zW (zX (zX ⟨_,rfl,zX h⟩))) htake)
  | exact zW (zW (m:=Builtin.Tuple.tupleExact _) (wpAny_newObj_type (zX (zX ⟨_,rfl,zX h⟩)) htake))
  | exact zW (zW (m:=Builtin.Tuple.tupleExact _) (wpAny_newObj_type (zX ⟨_,rfl,zX h⟩) htake))
end
end HT
namespace L2
open PySem PySem.Spec PyProof.Rows
noncomputable abbrev TO:=St->Hp->(Option Int->Hp->Prop)->Prop
noncomputable def PO(X:Cx)(e:Option Expr)(t:TO):Prop :=
 ∀ (pins:List (Addr×Obj)) (s:Shared) (σ:St) (H:Hp) (Q:Option Int->Hp->Prop),Inv X pins σ H s->t σ H Q ->
  wpAny (model X.prog X.w) X.A (evalPart e X.env) (fun u s'=>∃o H',Inv X pins σ H' s'/\IsPart u o/\Q o H') X.xe s
def Ci:TO:=fun _ H Q=>Q none H
def HW(t:TE):TO:=fun σ H Q=>t σ H fun x H1=>∃i,x=.int i/\Q (some i) H1
theorem intsAre_of{ns:List Int}:∀ {us:List Value},ax (ns.map V.int) us->IntsAre us ns:=by
 induction ns with
 | nil=>intro us r;rw[List.map_nil] at r;cases r;exact .nil
 | cons n ns ih =>
  intro us r
  rw[zI] at r
  cases r with
  | cons r1 r2 =>
   obtain⟨t,e⟩:=r1
   subst e
   exact .cons n t (ih r2)
section
variable {X:Cx}{e:Expr}{te:TE}{lo hi:Option Expr}{tl th:TO}{pos p2:Pos}
theorem Dv:PO X none Ci:=by
 intro pins s σ H Q I h
 rw[evalPart_none]
 exact zX ⟨none,H,I,.none,h⟩
theorem lT(h:PE X e te):PO X (some e) (HW te):=by
 intro pins s σ H Q I hw
 rw[evalPart_some]
 refine bw (h pins s σ H _ I hw) fun u s1 ⟨x,H1,I1,r1,q1⟩=>?_
 obtain⟨i,rfl,q⟩:=q1
 obtain⟨t,rfl⟩:=r1
 exact⟨some i,H1,I1,.int i t,q⟩
noncomputable def Ep(X:Cx)(r:V->Option Int->Option Int->Hp->VK->Prop):Prop :=
 ∀ (pins:List (Addr×Obj)) (s:Shared) (σ:St) (H:Hp) (x:V) (v vl vu:Value) (lo hi:Option Int) (sl:Addr) (Q:VK),Inv X pins σ H s->RelV x v->s.heap.IsSliceOf sl vl vu .none->IsPart vl lo->IsPart vu hi->r x lo hi H Q ->
  ∃T id,typeLookup (.type T) "__getitem__"=pure (some (.builtin id))/\s.TypeIs v T/\wpAny (model X.prog X.w) X.A (getItem v (.ref sl)) (EP X pins σ Q) X.xe s
theorem Ep.or{r r':V->Option Int->Option Int->Hp->VK->Prop}(h:Ep X r)(h':Ep X r'):Ep X (fun x lo hi H Q=>r x lo hi H Q\/r' x lo hi H Q):=by
 intro pins s σ H x v vl vu lo hi sl Q I rx hs pl pu q
 rcases q with q|q
 ·exact h pins s σ H x v vl vu lo hi sl Q I rx hs pl pu q
 ·exact h' pins s σ H x v vl vu lo hi sl Q I rx hs pl pu q
def Kd(r:V->Option Int->Option Int->Hp->VK->Prop)(te:TE)(tl th:TO):TE:=fun σ H Q=>te σ H fun x H1=>tl σ H1 fun l H2=>th σ H2 fun u H3=>r x l u H3 Q
theorem zl{r:V->Option Int->Option Int->Hp->VK->Prop}(hr:Ep X r)(he:PE X e te)(hl:PO X lo tl)(hu:PO X hi th):PE X (.Subscript e (.Slice lo hi none p2) pos) (Kd r te tl th):=by
 intro pins s σ H Q I h
 refine Subscript_ (bw (he pins s σ H _ I h) fun v s1 ⟨x,H1,I1,r1,q1⟩=>?_)
 refine wpAny_Slice (bw (hl pins s1 σ H1 _ I1 q1) fun vl s2 ⟨l,H2,I2,pl,q2⟩=>bw (hu pins s2 σ H2 _ I2 q2) fun vu s3 ⟨u,H3,I3,pu,q3⟩=>?_)
 rw[evalPart_none]
 refine zX ?_
 have I4:Inv X pins σ H3 { s3 with heap:=s3.heap.push { cls:=.type "slice",data:=.fields #[vl,vu,.none] } }:=I3.kept (t':=s3.toks) fun b ob q=>zV _ q
 obtain⟨T,id,hT,ht,hg⟩:=hr pins { s3 with heap:=s3.heap.push { cls:=.type "slice",data:=.fields #[vl,vu,.none] } } σ H3 x v vl vu l u s3.heap.objs.size Q I4 r1 (Heap.IsSliceOf.new ..) pl pu q3
 show wpAny (model X.prog X.w) X.A (subscriptTail e (.Slice lo hi none p2) v (.ref s3.heap.objs.size)) (EP X pins σ Q) X.xe { s3 with heap:=s3.heap.push { cls:=.type "slice",data:=.fields #[vl,vu,.none] } }
 exact tail_any (ops:=[.ref s3.heap.objs.size,v]) ht hT hg (by with_unfolding_all rfl)
noncomputable def Cq(xs:List V)(lo hi:Option Int):List V:=(xs.drop (HT.cK xs.length 0 lo)).take (HT.cK xs.length xs.length hi - HT.cK xs.length 0 lo)
theorem rq(xs:List V)(lo hi:Option Int):(Cq xs lo hi).length<=xs.length:=by
 unfold Cq
 rw[List.length_take,List.length_drop]
 omega
noncomputable def IU(K:W.Frag):V->Option Int->Option Int->Hp->VK->Prop:=fun x lo hi H Q=>∃a xs,x=.ref a/\fP K H a xs /\
 ¬ (HT.cK xs.length 0 lo=0/\HT.cK xs.length xs.length hi=xs.length)/\∀p,H p=none->Q (.ref p) (upd H p (.tup (Cq xs lo hi)))
theorem EX:Ep X (IU X.K):=by
 intro pins s σ H x v vl vu lo hi sl Q I rx hs pl pu h
 obtain⟨a,xs,rfl,hx,hw,q⟩:=h
 cases rx
 obtain⟨its,r,ht,hz⟩:=I.tuple hx
 have hlen:its.toArray.size=xs.length:=by rw[zH];exact r.length.symm
 refine⟨"tuple",_,PyProof.Rows.slot_tuple_getitem.lookup,ht.typeIs,?_⟩
 refine HT.jU ht hs pl pu (by rw[hlen];exact hw) ?_ (by rw[hlen];exact hz)
 rw[hlen]
 refine⟨.ref s.heap.objs.size,_,I.laid (t':=s.toks) (o:=.tup (Cq xs lo hi)) (fun b ob q=>zV _ q) (Nat.le_refl _) ?_,rfl,q _ (I.hok.fresh (Nat.le_refl _))⟩
 exact⟨yE (rq xs lo hi) hz,_,(r.drop (HT.cK xs.length 0 lo)).take (HT.cK xs.length xs.length hi - HT.cK xs.length 0 lo),kF.new _ _⟩
def He(K:W.Frag):R2:=fun x y H Q=>∃a b xs ys,x=.ref a/\y=.ref b/\fP K H a xs/\fP K H b ys/\xs≠[]/\xs.length+ys.length<=sizeLine /\
 (ys=[]->Q (.ref a) H)/\(ys≠[]->∀p,H p=none->Q (.ref p) (upd H p (.tup (xs++ys))))
theorem ax.nil_iff{xs:List V}{us:List Value}(r:ax xs us):us=[]↔xs=[]:=by
 cases r with
 | nil=>simp
 | cons _ _=>simp
theorem DH:fO X (binaryOp .Add) (He X.K):=by
 intro pins s σ H x y v u Q I rx ry h
 obtain⟨a,b,xs,ys,rfl,rfl,ha,hb,hx,hz,q1,q2⟩:=h
 cases rx
 cases ry
 obtain⟨its,r1,p1,_⟩:=I.tuple ha
 obtain⟨its2,r2,p2,_⟩:=I.tuple hb
 refine HT.Dh p1 p2 (fun z=>hx (r1.nil_iff.mp z)) (fun z=>⟨.ref a,H,I,rfl,q1 (r2.nil_iff.mp z)⟩) (fun z=>?_) (by rw[<- r1.length,<- r2.length];exact hz)
 refine⟨.ref s.heap.objs.size,_,I.laid (t':=s.toks) (o:=.tup (xs++ys)) (fun b ob q=>zV _ q) (Nat.le_refl _) ?_,rfl,q2 (fun w=>z (r2.nil_iff.mpr w)) _ (I.hok.fresh (Nat.le_refl _))⟩
 exact⟨by rw[zN];exact hz,_,r1.append r2,kF.new _ _⟩
end
noncomputable def xR(n:Nat)(i:Int):Option Nat:=if 0<=i then (if i < n then some i.toNat else none) else if -(n:Int)<=i then some (i+n).toNat else none
noncomputable def qv{α:Type}(xs:List α)(i:Int):Option α:=(xR xs.length i).bind fun j=>xs[j]?
theorem vv{n:Nat}{i:Int}{j:Nat}(h:xR n i=some j):seqIndex? i n=some j/\j < n/\-(n:Int)<=i/\i < n:=by
 unfold xR at h
 by_cases h0:0<=i
 ·rw[if_pos h0] at h
  by_cases h1:i < n
  ·rw[if_pos h1] at h
   have e:i.toNat=j:=Option.some.inj h
   exact⟨by rw[seqIndex_of h0 h1,e],by omega,by omega,h1⟩
  ·rw[if_neg h1] at h;cases h
 ·rw[if_neg h0] at h
  by_cases h1:-(n:Int)<=i
  ·rw[if_pos h1] at h
   have e:(i+n).toNat=j:=Option.some.inj h
   exact⟨by rw[seqIndex_neg (by omega) h1,e],by omega,h1,by omega⟩
  ·rw[if_neg h1] at h;cases h
theorem pG{α:Type}{xs:List α}{i:Int}{v:α}(h:qv xs i=some v):∃j,seqIndex? i xs.length=some j/\xs[j]?=some v/\j < xs.length/\-(xs.length:Int)<=i/\i < xs.length:=by
 unfold qv at h
 cases e:xR xs.length i with
 | none=>rw[e] at h;cases h
 | some j =>
  rw[e] at h
  obtain⟨h1,h2,h3,h4⟩:=vv e
  exact⟨j,h1,h,h2,h3,h4⟩
theorem qD{α:Type}{xs:List α}{j:Nat}{v:α}(h:xs[j]?=some v):qv xs (j:Int)=some v:=by
 have hj:j < xs.length:=(zU.mp h).1
 have e:xR xs.length (j:Int)=some j:=by
  unfold xR
  rw[if_pos (by omega),if_pos (by omega)];simp
 unfold qv;rw[e];exact h
def l0(b:Expr):Prop:=∀o i,subscripted b false o i=operate [o,i] (getItem o i)
noncomputable def Cm(X:Cx)(r:R2):Prop :=
 ∀ (value slice:Expr) (pins:List (Addr×Obj)) (s:Shared) (σ:St) (H:Hp) (x y:V) (v u:Value) (Q:VK),Inv X pins σ H s->RelV x v->RelV y u->r x y H Q ->
  subscripted slice false v u=operate [v,u] (getItem v u)->wpAny (model X.prog X.w) X.A (subscriptTail value slice v u) (EP X pins σ Q) X.xe s
noncomputable def JO(X:Cx)(id:String)(r:V->List V->Hp->VK->Prop):Prop :=
 ∀ (pins:List (Addr×Obj)) (s:Shared) (σ:St) (H:Hp) (x:V) (xs:List V) (v:Value) (us:List Value) (Q:VK),Inv X pins σ H s->RelV x v->ax xs us->r x xs H Q ->
  wpAny (model X.prog X.w) X.A (call (.builtin id) (v::us)) (EP X pins σ Q) X.xe s
section
variable {X:Cx}{a b:Expr}{ta tb:TE}{pos:Pos}
theorem Cm.or{r r':R2}(h:Cm X r)(h':Cm X r'):Cm X (fun x y H Q=>r x y H Q\/r' x y H Q):=by
 intro value slice pins s σ H x y v u Q I rx ry q hs
 rcases q with q|q
 ·exact h value slice pins s σ H x y v u Q I rx ry q hs
 ·exact h' value slice pins s σ H x y v u Q I rx ry q hs
theorem Ea{r:R2}(hr:Cm X r)(ha:PE X a ta)(hb:PE X b tb)(hs:l0 b):PE X (.Subscript a b pos) (HC r ta tb):=by
 intro pins s σ H Q I h
 exact Subscript_ (EZ ha hb I h fun v u s2 x y H2 I2 rx ry q=>hr a b pins s2 σ H2 x y v u Q I2 rx ry q (hs _ _))
def Ib(K:W.Frag):R2:=fun x y H Q=>∃p xs i v,x=.ref p/\y=.int i/\fj K H p xs/\qv xs i=some v/\Q v H
def HU(K:W.Frag):R2:=fun x y H Q=>∃p xs i v,x=.ref p/\y=.int i/\fP K H p xs/\qv xs i=some v/\Q v H
def Ht:R2:=fun x y H Q=>∃z i c,x=.str z/\y=.int i/\z.length<=sizeLine/\qv z.cps.toList i=some c/\Q (.str ⟨#[c]⟩) H
theorem vN:Cm X (Ib X.K):=by
 intro value slice pins s σ H x y v u Q I rx ry h hs
 obtain⟨p,xs,i,z,rfl,rfl,hq,he,q⟩:=h
 cases rx
 obtain⟨t,rfl⟩:=ry
 obtain⟨its,r,pl,hz⟩:=I.list hq
 obtain⟨j,h1,h2,h3,h4,h5⟩:=pG he
 obtain⟨w,ew,rw'⟩:=r.get h2
 have hl:=r.length
 have hn:=mD
 have fin:EP X pins σ Q w s:=⟨z,H,I,rw',q⟩
 by_cases h0:0<=i
 ·have hj:i.toNat=j:=by
   rw[seqIndex_of h0 h5] at h1
   exact Option.some.inj h1
  exact item_listR pl.isList h0 (by omega) (by rw[hj];simpa using ew) fin hs
 ·have hj:(i+(its.toArray.size:Int)).toNat=j:=by
   rw[seqIndex_neg (by omega) h4] at h1
   rw[zH,<- hl]
   exact Option.some.inj h1
  exact subscriptTail_builtinR (x:=w) pl.isList.typeIs slot_list_getitem.lookup
   (wpAny_getItem_list_neg (Q:=fun r s'=>r=w/\EP X pins σ Q r s') pl.isList (by omega) (by rw[zH]<;>omega) (by omega) (by rw[hj];simpa using ew) ⟨rfl,fin⟩) hs
theorem tR:Cm X (HU X.K):=by
 intro value slice pins s σ H x y v u Q I rx ry h hs
 obtain⟨p,xs,i,z,rfl,rfl,hq,he,q⟩:=h
 cases rx
 obtain⟨t,rfl⟩:=ry
 obtain⟨its,r,pl,hz⟩:=I.tuple hq
 obtain⟨j,h1,h2,h3,h4,h5⟩:=pG he
 obtain⟨w,ew,rw'⟩:=r.get h2
 have hl:=r.length
 have hn:=mD
 have fin:EP X pins σ Q w s:=⟨z,H,I,rw',q⟩
 exact subscriptTail_builtinR (x:=w) pl.typeIs slot_tuple_getitem.lookup
  (getItem_tuple (j:=j) (Q:=fun r s'=>r=w/\EP X pins σ Q r s') pl (by omega) (by omega) (by rw[zH,<- hl];exact h1) (by simpa using ew) ⟨rfl,fin⟩) hs
theorem E7:Cm X Ht:=by
 intro value slice pins s σ H x y v u Q I rx ry h hs
 obtain⟨z,i,c,rfl,rfl,hz,he,q⟩:=h
 obtain⟨t,rfl⟩:=rx
 obtain⟨t',rfl⟩:=ry
 obtain⟨j,h1,h2,h3,h4,h5⟩:=pG he
 have hl:z.cps.toList.length=z.length:=by simp[Str.length]
 rw[hl] at h1 h4 h5
 have hn:=mD
 exact tail_any (typeIs_str s z t) slot_str_getitem.lookup (getItem_str (c:=c) (by
  have e1:decide (i < -(2 ^ 63:Int))=false:=yA (by omega)
  have e2:decide (i >= 2 ^ 63)=false:=yA (by omega)
  rw[e1,e2,Bool.or_false]) (by rw[h1];simpa using h2) ⟨.str ⟨#[c]⟩,H,I.tok _,⟨_,rfl⟩,q⟩) hs
def JU(K:W.Frag):R2:=fun x y H Q=>Ib K x y H Q\/HU K x y H Q\/Ht x y H Q
theorem EH:Cm X (JU X.K):=vN.or (tR.or E7)
theorem uB(its:List Value)(n j:Nat)(u:Value):Obj.mapSeq (·.setIfInBounds j u) { cls:=.type "list",data:=.seq its.toArray n }={ cls:=.type "list",data:=.seq (its.set j u).toArray n }:=by
 simp[Obj.mapSeq]
theorem Inv.lst{pins:List (Addr×Obj)}{σ:St}{H:Hp}{s:Shared}{p:Addr}{xs:List V}(I:Inv X pins σ H s)(h:H p=some (.lst xs)) :
  ∃ (its:List Value) (n:Nat),ax xs its/\s.heap.get? p=some { cls:=.type "list",data:=.seq its.toArray n }/\xs.length<=sizeLine:=by
 obtain⟨z,its,n,r,e⟩:=I.hok p _ h
 exact⟨its,n,r,e,z⟩
theorem Inv.lstUpd{pins:List (Addr×Obj)}{σ:St}{H:Hp}{s:Shared}{p:Addr}{xs ys:List V}{its its':List Value}{n n':Nat}{f:Obj->Obj}(I:Inv X pins σ H s)(h:H p=some (.lst xs))
  (ho:s.heap.get? p=some { cls:=.type "list",data:=.seq its.toArray n }) (hf:f { cls:=.type "list",data:=.seq its.toArray n }={ cls:=.type "list",data:=.seq its'.toArray n' }) (r:ax ys its') (hz:ys.length<=sizeLine) (t:Nat) :
  Inv X pins σ (upd H p (.lst ys)) { s with heap:=s.heap.update p f,toks:=t }:=by
 have e:(s.heap.update p f).get? p=some { cls:=.type "list",data:=.seq its'.toArray n' }:=by
  rw[Heap.get?_update_self f ho (by rw[hf]<;>rfl),hf]
 refine I.write (x:=p) (e:=p) (by rw[h];trivial) (.inl rfl) (fun b u hb q=>(Heap.get?_update_other _ _ (Ne.symm hb)).trans q) ⟨_,e⟩ ?_
 exact⟨hz,its',n',r,e⟩
noncomputable def Hj:V->V->V->Hp->(Hp->Prop)->Prop:=fun o i v H Q=>∃p xs k j,o=.ref p/\i=.int k/\H p=some (.lst xs)/\xR xs.length k=some j/\Q (upd H p (.lst (xs.set j v)))
theorem set_list:HE X Hj:=by
 intro pins s σ H o i v ov iv u Q I ro ri rv h
 obtain⟨p,xs,k,j,rfl,rfl,hp,hj,q⟩:=h
 cases ro
 obtain⟨t,rfl⟩:=ri
 obtain⟨its,n,r,ho,hz⟩:=I.lst hp
 obtain⟨h1,h2,h3,h4⟩:=vv hj
 have hl:=r.length
 have hn:=mD
 have I':Inv X pins σ (upd H p (.lst (xs.set j v))) { s with heap:=s.heap.update p (Obj.mapSeq (·.setIfInBounds j u)) } :=
  I.lstUpd hp ho (uB its n j u) (r.set rv j) (by rw[yD];exact hz) s.toks
 by_cases h0:0<=k
 ·have hk:k.toNat=j:=by
   rw[seqIndex_of h0 h4] at h1
   exact Option.some.inj h1
  exact W.ki_setAt ho h0 (by omega) (by rw[zH,<- hl];exact h4) (by rw[hk];exact⟨_,I',q⟩)
 ·have hk:(k+(its.toArray.size:Int)).toNat=j:=by
   rw[seqIndex_neg (by omega) h3] at h1
   rw[zH,<- hl]
   exact Option.some.inj h1
  exact W.ki_setBack ho (by omega) (by rw[zH,<- hl];exact h3) (by omega) (by rw[hk];exact⟨_,I',q⟩)
theorem qd:cO X (.builtin "len") (fun xs H Q=>∃p ys,xs=[.ref p]/\(fj X.K H p ys\/fP X.K H p ys)/\Q (.int ys.length) H):=by
 intro pins s σ H xs us Q I r h
 obtain⟨p,ys,rfl,hq,q⟩:=h
 obtain⟨u,rfl,rx⟩:=vals1 r
 cases rx
 have hn:=mD
 rcases hq with hq|hq
 ·obtain⟨its,r',pl,hz⟩:=I.list hq
  have hlen:=r'.length
  exact Calls.call_len_list pl.isList (by simp only[zH]<;>omega) ⟨.int ys.length,H,I.tok _,⟨s.toks+1,by rw[zH,hlen]⟩,q⟩
 ·obtain⟨its,r',pl,hz⟩:=I.tuple hq
  have hlen:=r'.length
  exact len_tuple pl (by simp only[zH]<;>omega) ⟨.int ys.length,H,I.tok _,⟨s.toks+1,by rw[zH,hlen]⟩,q⟩
theorem pM:cO X (.type "list") (fun xs H Q=>∃p ys,xs=[.ref p]/\(fj X.K H p ys\/fP X.K H p ys)/\∀l,H l=none->Q (.ref l) (upd H l (.lst ys))):=by
 intro pins s σ H xs us Q I r h
 obtain⟨p,ys,rfl,hq,q⟩:=h
 obtain⟨u,rfl,rx⟩:=vals1 r
 cases rx
 have fin:∀ (its:List Value),ax ys its->ys.length<=sizeLine->∀ (h':Heap) (c':Nat),(∀b o',s.heap.get? b=some o'->h'.get? b=some o') ->
   h'.get? s.heap.objs.size=some { cls:=.type "list",dict:=none,data:=.seq its.toArray c',slots:=#[] }->EP X pins σ Q (.ref s.heap.objs.size) { s with heap:=h' }:=fun its r' hz h' c' kp e =>
  ⟨.ref s.heap.objs.size,_,I.laid (t':=s.toks) kp (Nat.le_refl _) (show dg X.prog X.w _ h' _ (.lst ys) from ⟨hz,its,c',r',e⟩),rfl,q _ (I.hok.fresh (Nat.le_refl _))⟩
 rcases hq with hq|hq
 ·obtain⟨its,r',pl,hz⟩:=I.list hq
  have hlen:=r'.length
  obtain⟨o,ho,hc,n,hd⟩:=pl.isList
  exact call_list_seq p (.inl rfl) ho hc hd (fun h' c' kp e=>fin its r' hz h' c' kp e) (by simp only[zH]<;>omega)
 ·obtain⟨its,r',pl,hz⟩:=I.tuple hq
  have hlen:=r'.length
  obtain⟨o,ho,hc,n,hd⟩:=pl
  exact call_list_seq p (.inr rfl) ho hc hd (fun h' c' kp e=>fin its r' hz h' c' kp e) (by simp only[zH]<;>omega)
theorem ou:cO X (.type "tuple") (fun xs H Q=>∃p ys,xs=[.ref p]/\((fj X.K H p ys/\∀l,H l=none->Q (.ref l) (upd H l (.tup ys)))\/(fP X.K H p ys/\Q (.ref p) H))):=by
 intro pins s σ H xs us Q I r h
 obtain⟨p,ys,rfl,h⟩:=h
 obtain⟨u,rfl,rx⟩:=vals1 r
 cases rx
 rcases h with ⟨hq,q⟩|⟨hq,q⟩
 ·obtain⟨its,r',pl,hz⟩:=I.list hq
  have hlen:=r'.length
  refine call_tuple_list pl.isList (fun h' kp=>?_) (by simp only[zH]<;>omega)
  have I1:Inv X pins σ H { s with heap:=h' }:=I.kept (t':=s.toks) kp
  have I2:Inv X pins σ (upd H h'.objs.size (.tup ys)) { s with heap:=h'.push { cls:=.type "tuple",data:=.seq its.toArray } } :=
   I1.laid (t':=s.toks) (fun b o e=>zV _ e) (Nat.le_refl _) (show dg X.prog X.w _ _ _ (.tup ys) from ⟨hz,its,r',kF.new _ _⟩)
  exact⟨.ref h'.objs.size,_,I2,rfl,q _ (I1.hok.fresh (Nat.le_refl _))⟩
 ·obtain⟨its,r',pl,hz⟩:=I.tuple hq
  exact call_tuple_same pl ⟨.ref p,H,I,rfl,q⟩
def JK(K:W.Frag)(T:String)(x:V)(H:Hp):Prop:=match x with
 | .str _=>T="str"
 | .int _=>T="int"
 | .ref p=>(T="list"/\∃xs,fj K H p xs)\/(T="tuple"/\∃xs,fP K H p xs) \/
   (T="dict"/\((∃kvs,H p=some (.dK kvs))\/∃kvs,H p=some (.dT kvs)))\/(T="set"/\∃S n,H p=some (.set S n))
 | _=>False
theorem F2{pins:List (Addr×Obj)}{σ:St}{H:Hp}{s:Shared}{T:String}{x:V}{v:Value}(I:Inv X pins σ H s)(r:RelV x v)(ty:JK X.K T x H) :
  s.TypeIs v T/\∀a,v=.ref a->∃ob,s.heap.get? a=some ob/\ob.dict=none:=by
 cases x with
 | str z =>
  obtain⟨t,rfl⟩:=r
  cases (show T="str" from ty)
  exact⟨typeIs_str s z t,fun _ e=>nomatch e⟩
 | int i =>
  obtain⟨t,rfl⟩:=r
  cases (show T="int" from ty)
  exact⟨typeIs_int s i t,fun _ e=>nomatch e⟩
 | ref p =>
  cases r
  rcases ty with ⟨rfl,xs,hq⟩|⟨rfl,xs,hq⟩|⟨rfl,hk⟩|⟨rfl,S,n,hk⟩
  ·obtain⟨its,_,pl,_⟩:=I.list hq
   refine⟨pl.isList.typeIs,fun a e=>?_⟩
   cases e
   obtain⟨o,n,e,c,hd,_⟩:=pl
   exact⟨o,e,hd⟩
  ·rcases hq with hq|⟨o,its,n,hk,hc,hd,_⟩
   ·obtain⟨_,_,_,⟨o,e1,e2,_⟩,o2,e3,e4⟩:=hq.ok I.hok
    exact⟨⟨o,e1,e2⟩,fun a e=>by cases e;exact⟨o2,e3,e4⟩⟩
   ·exact⟨⟨o,I.kIn p o hk,hc⟩,fun a e=>by cases e;exact⟨o,I.kIn _ o hk,hd⟩⟩
  ·have z:∃o,s.heap.get? p=some o/\o.ExactDict:=by
    rcases hk with ⟨kvs,hk⟩|⟨kvs,hk⟩
    ·obtain⟨_,_,_,_,o,_,_,e,ex,_⟩:=I.hok p _ hk
     exact⟨o,e,ex⟩
    ·obtain⟨_,_,_,_,o,_,_,e,ex,_⟩:=I.hok p _ hk
     exact⟨o,e,ex⟩
   obtain⟨o,e,ex⟩:=z
   refine⟨⟨o,e,ex.1⟩,fun a e2=>?_⟩
   cases e2
   exact⟨o,e,ex.2.1⟩
  ·obtain⟨o,_,_,_,e,ex,_⟩:=I.hok p _ hk
   refine⟨⟨o,e,ex.1⟩,fun a e2=>?_⟩
   cases e2
   exact⟨o,e,ex.2.1⟩
 | _=>exact False.elim ty
def J1(K:W.Frag)(T:String)(r:V->List V->Hp->VK->Prop)(to:TE)(t:TA):TE:=fun σ H Q=>to σ H fun x H1=>JK K T x H1/\t σ H1 fun xs H2=>r x xs H2 Q
variable {o e:Expr}{es:List Expr}{to:TE}{t:TA}{name:Str}{apos cpos:Pos}{T id:String}{r:V->List V->Hp->VK->Prop}
theorem oV(pa:PlainAttrs T)(slot:Slot T name id)(hty:typeOf (.builtin id)=pure (.type "method_descriptor"))(hm:JO X id r)(ho:PE X o to)(ha:PA X (e::es) t)
  (hbase:attributeBase o name X.env (eval o X.env)=eval o X.env:=by rfl)
  (hfew:((backTo cpos (starEach (e::es) X.env)).all (fun x=>!x.1)&&(backToKw cpos (keywordEach [] X.env)).all (fun x=>x.1.isSome)
   &&decide ((e::es).length+([]:List Keyword).length+(if ([]:List Keyword).isEmpty then 0 else 1) < 30))=true:=by rfl)
  (hline:(apos.endLine == cpos.line)=true:=by rfl) (hs:starEach (e::es) X.env=(false,eval e X.env)::starEach es X.env:=by rfl) (hplain:(backTo cpos (starEach es X.env)).any (·.1)=false:=by rfl) :
  PE X (.Call (.Attribute o name apos) (e::es) [] cpos) (J1 X.K T r to t):=by
 intro pins s σ H Q I h
 refine wpAny_Call_method_late hbase hfew hline rfl (bw (ho pins s σ H _ I h) fun v s1 ⟨x,H1,I1,r1,ty,q1⟩=>?_)
 obtain⟨h1,h2⟩:=F2 I1 r1 ty
 refine⟨T,id,pa,slot,hty,h1,h2,?_⟩
 have hA:=ha cpos pins s1 σ H1 _ I1 q1
 rw[hs] at hA ⊢
 refine Calls.callWith_builtin (by show (false||(backTo cpos (starEach es X.env)).any (·.1))=false;rw[hplain]<;>rfl) (Calls.evalArgs_plain ?_)
 exact bw hA fun us s2 ⟨vs,H2,I2,r2,q2⟩=>hm pins s2 σ H2 x vs v us Q I2 r1 r2 q2
/- xs.append(e),list.index on a module's tuple .. are JO facts of 06m -/
end
noncomputable def GP(X:Cx)(id:String)(r:V->List V->Hp->VK->Prop):Prop :=
 ∀ (pins:List (Addr×Obj)) (s:Shared) (σ:St) (H:Hp) (x:V) (xs:List V) (v:Value) (us:List Value) (Q:VK),Inv X pins σ H s->RelV x v->ax xs us->r x xs H Q ->
  wpAny (model X.prog X.w) X.A (call (.builtin id) (v::us)) (EP X pins σ Q) X.xe s
theorem ax.one:∀ {x:V}{us:List Value},ax [x] us->∃u,us=[u]/\RelV x u
 | _,_,.cons r .nil=>⟨_,rfl,r⟩
theorem ax.two:∀ {x y:V}{us:List Value},ax [x,y] us->∃u v,us=[u,v]/\RelV x u/\RelV y v
 | _,_,_,.cons r (.cons q .nil)=>⟨_,_,rfl,r,q⟩
theorem ax.reverse{xs:List V}{us:List Value}(h:ax xs us):ax xs.reverse us.reverse:=by
 induction h with
 | nil=>exact .nil
 | cons r t ih=>rw[List.reverse_cons,List.reverse_cons];exact ax.append ih (.cons r .nil)
theorem ax.rep{xs:List V}{us:List Value}(h:ax xs us):∀k:Nat,ax (List.replicate k xs).flatten (List.replicate k us).flatten
 | 0=>.nil
 | k+1=>by
  rw[List.replicate_succ,List.replicate_succ,List.flatten_cons,List.flatten_cons]
  exact ax.append h (ax.rep h k)
theorem foldl_rep(its:List Value):∀ (k:Nat) (acc:List Value),
  List.foldl (fun x1 x2=>x1++x2) acc.toArray (List.replicate k its.toArray)=(acc++(List.replicate k its).flatten).toArray
 | 0,acc=>by simp
 | k+1,acc=>by
  have e:acc.toArray++its.toArray=(acc++its).toArray:=by simp
  have e2:(acc++its)++(List.replicate k its).flatten=acc++(List.replicate (k+1) its).flatten:=by
   rw[List.replicate_succ,List.flatten_cons,List.append_assoc]
  rw[<- e2,<- foldl_rep its k (acc++its),<- e,List.replicate_succ,yK]
section
variable {X:Cx}{pins:List (Addr×Obj)}{σ:St}{H:Hp}{s:Shared}{l b:Addr}{xs ys zs:List V}
theorem Inv.lset{its its':List Value}{n:Nat}{f:Array Value->Array Value}{t':Nat}(I:Inv X pins σ H s)(hH:H l=some (.lst xs))
  (e:s.heap.get? l=some { cls:=.type "list",data:=.seq its.toArray n }) (hf:f its.toArray=its'.toArray) (hv:ax ys its') (hz:ys.length<=sizeLine) :
  Inv X pins σ (upd H l (.lst ys)) { s with heap:=s.heap.update l (Obj.mapSeq f),toks:=t' }:=by
 have q:=PySem.IsL.update e f
 rw[hf] at q
 refine I.write (x:=l) (e:=l) (by rw[hH];exact trivial) (.inl rfl) (fun b' u hb hu=>(Heap.get?_update_other s.heap (Obj.mapSeq f) (Ne.symm hb)).trans hu) ⟨_,q⟩ ?_
 exact⟨hz,its',_,hv,q⟩
theorem Inv.lnew{its:List Value}{t':Nat}(I:Inv X pins σ H s)(hv:ax ys its)(hz:ys.length<=sizeLine) :
  Inv X pins σ (upd H s.heap.objs.size (.lst ys)) { s with heap:=s.heap.push { cls:=.type "list",data:=.seq its.toArray },toks:=t' } :=
 I.laid (fun _ _ q=>zV _ q) (Nat.le_refl _) ⟨hz,its,0,hv,zY _ rfl⟩
theorem Inv.fresh(I:Inv X pins σ H s):H s.heap.objs.size=none:=I.hok.fresh (Nat.le_refl _)
theorem Inv.lstM(I:Inv X pins σ H s)(hH:H l=some (.lst xs)):xs.length<=sizeLine/\∃ (its:List Value) (n:Nat),ax xs its/\xs.length=its.length/\s.heap.get? l=some { cls:=.type "list",data:=.seq its.toArray n }:=by
 obtain⟨z,its,n,r,e⟩:=I.hok l _ hH
 exact⟨z,its,n,r,r.length,e⟩
theorem qK{n:Nat}(h:n<=sizeLine):Builtin.List.listTooLong n=false:=by
 unfold Builtin.List.listTooLong
 exact yA (by omega)
end
section
variable {X:Cx}
noncomputable def CJ:V->List V->Hp->VK->Prop:=fun x vs H Q=>∃l xs y,x=.ref l/\vs=[y]/\H l=some (.lst xs)/\xs.length < sizeLine/\Q .non (upd H l (.lst (xs++[y])))
theorem o7:GP X "list.append" CJ:=by
 intro pins s σ H x vs v us Q I rx rv h
 obtain⟨l,xs,y,rfl,rfl,hH,hz,q⟩:=h
 cases rx
 obtain⟨u,rfl,ru⟩:=rv.one
 obtain⟨z,its,n,r,hl,e⟩:=I.lstM hH
 refine call_meets F.slot_list_append ⟨_,e,rfl⟩ F.entry_list_append (F.args_list_append_2 _ _) (PySem.list_append l its.toArray n u (by rw[zH];omega)) ⟨e,?_⟩
 refine⟨.non,_,I.lset (its':=its++[u]) hH e (by simp) (r.append (.cons ru .nil)) ?_,rfl,q⟩
 rw[zN,List.length_singleton]
 omega
noncomputable def CZ:V->List V->Hp->VK->Prop:=fun x vs H Q=>∃l b xs zs,x=.ref l/\vs=[.ref b]/\H l=some (.lst xs)/\H b=some (.lst zs)/\xs.length+zs.length<=sizeLine/\Q .non (upd H l (.lst (xs++zs)))
theorem xb:GP X "list.extend" CZ:=by
 intro pins s σ H x vs v us Q I rx rv h
 obtain⟨l,b,xs,zs,rfl,rfl,hH,hB,hz,q⟩:=h
 cases rx
 obtain⟨u,rfl,ru⟩:=rv.one
 cases ru
 obtain⟨z,its,n,r,hl,e⟩:=I.lstM hH
 obtain⟨z2,its2,n2,r2,hl2,e2⟩:=I.lstM hB
 have hsz:its.toArray.size+its2.toArray.size<=sizeLine:=by rw[zH,zH];omega
 have hlong:¬ (!its.toArray.isEmpty&&Builtin.List.listTooLong (its.toArray.size+its2.toArray.size))=true:=by
  rw[qK hsz,Bool.and_false]
  exact Bool.false_ne_true
 refine call_meets F.slot_list_extend ⟨_,e,rfl⟩ F.entry_list_extend (F.args_list_extend_2 _ _)
  (AutoSeq1.list_extend_list_list_0 l its.toArray n b its2.toArray n2 hlong (by rw[zH];omega) (by omega)) ⟨e,e2,?_⟩
 refine⟨.non,_,I.lset (its':=its++its2) hH e (by simp) (r.append r2) ?_,rfl,q⟩
 rw[zN]
 omega
def JD:R2:=fun x y H Q=>∃l k xs,x=.ref l/\y=.int k/\H l=some (.lst xs)/\-(2 ^ 63)<=k/\k < 2 ^ 63/\xs.length * k.toNat<=sizeLine /\
 ∀p,H p=none->Q (.ref p) (upd H p (.lst (List.replicate k.toNat xs).flatten))
theorem len_rep{α:Type}(xs:List α)(k:Nat):(List.replicate k xs).flatten.length=k * xs.length:=by
 induction k with
 | zero=>simp
 | succ k ih=>rw[List.replicate_succ,List.flatten_cons,zN,ih,Nat.succ_mul,Nat.add_comm]
theorem E4:fO X (binaryOp .Mult) JD:=by
 intro pins s σ H x y v u Q I rx ry h
 obtain⟨l,k,xs,rfl,rfl,hH,h1,h2,hz,q⟩:=h
 cases rx
 obtain⟨t,rfl⟩:=ry
 obtain⟨z,its,n,r,hl,e⟩:=I.lstM hH
 have hlen:its.toArray.size * k.toNat<=sizeLine:=by rw[zH,<- hl];exact hz
 have hcap:¬ its.toArray.size * k.toNat > (2 ^ 63 - 1) / 8:=by
  have:(sizeLine:Nat)<=(2 ^ 63 - 1) / 8:=by decide
  omega
 have hfit:¬ (!Builtin.List.listFitsIndex k)=true:=by
  rw[fitsIndex_both h1 h2]
  exact Bool.false_ne_true
 have hlong:¬ Builtin.List.listTooLong (its.toArray.size * k.toNat)=true:=by
  rw[qK hlen]
  exact Bool.false_ne_true
 have hnew:List.foldl (fun x1 x2=>x1++x2) #[] (List.replicate (if its.toArray.isEmpty=true then 0 else k.toNat) its.toArray)=(List.replicate k.toNat its).flatten.toArray:=by
  have f0:∀m:Nat,List.foldl (fun x1 x2=>x1++x2) #[] (List.replicate m its.toArray)=(List.replicate m its).flatten.toArray:=fun m=>by
   have:=foldl_rep its m []
   rw[List.nil_append] at this
   exact this
  rw[f0]
  cases its with
  | nil=>simp
  | cons a r'=>rw[if_neg (by simp)]
 refine wpAny_binaryOp_repeat_ref (T:="list") (U:="int") (by decide) ⟨_,e,rfl⟩ (fun s'=>typeIs_int s' k t) noFill_list_mul F.fills_int_mul F.slot_int_rmul repeat_list F.slot_int_index.lookup
  (call_meets F.slot_int_rmul (typeIs_int s k t) F.entry_int_rmul (F.args_int_rmul_2 _ _) (int___rmul___int_list k t l its.toArray n)
   ⟨e,rfl,⟨_,e,rfl⟩,call_meets F.slot_list_mul ⟨_,e,rfl⟩ F.entry_list_mul (F.args_list_mul_2 _ _) (AutoListH.list___mul___list_int_3 l its.toArray n k t hfit hcap hlong) ⟨e,?_⟩⟩)
 rw[hnew]
 exact⟨.ref _,_,I.lnew (t':=s.toks) (r.rep k.toNat) (by rw[len_rep,Nat.mul_comm];exact hz),rfl,q _ I.fresh⟩
end
section
variable {prog:Program}{w:World}{A:Around}{E:Value->Shared->Prop}{s:Shared}
end
section
variable {X:Cx}
end
end L2
namespace Att
open PySem PySem.W PySem.Calls PyProof.Rows
theorem ints_of_wellAll{P:Params}{h:Heap}:∀ (ns:List Int) (vs:List Value),WellAll P h vs (ns.map WData.int)->IntsAre vs ns:=by
 intro ns
 induction ns with
 | nil =>
  intro vs w
  rw[List.map_nil] at w
  cases w
  exact .nil
 | cons n ns ih =>
  intro vs w
  rw[zI] at w
  cases w with
  | cons a b =>
   cases a
   exact .cons _ _ (ih _ b)
theorem script_of{l:OpenLaw}{n:Nat}(hn:l.most=some n){P:Params}{h:Heap}{args:List WData}{vals:List Value}
  (hpre:l.row.toRowW.claim.pre args=true) (hwl:WellAll P h vals args) :
  ∃a vs ns,vals=[Value.ref a]/\args=[WData.list (ns.map WData.int)]/\h.get? a=some { cls:=.type "list",data:=.seq vs.toArray }/\IntsAre vs ns/\ns.length<=n:=by
 have hsh:WShape.hasAll [] args [.list .int]=true:=(pre_splitW hpre).1
 have hc:l.pre.holds [] { args:=args }=true:=(pre_splitW hpre).2
 obtain⟨d,r,rfl,h1,h2⟩:=hasAllW_cons hsh
 obtain rfl:=hasAllW_nil h2
 obtain⟨xs,rfl,h3⟩:=hasW_list h1
 obtain⟨ns,rfl⟩:=items_int h3
 have hlen:ns.length<=n:=by
  unfold OpenLaw.pre at hc
  have h4:(WTm.not (.lt (.lit (.int (n:Int))) (.len (.arg 0)))).holds [] { args:=[.list (ns.map .int)] }=true:=by
   have h4:=(holds_andW hc).1
   rw[hn] at h4
   exact h4
  have h5:=condW_of h4 (w_not (w_lt w_lit (w_len_list (w_arg rfl))))
  rw[zD] at h5
  refine Nat.le_of_not_lt fun q=>?_
  have q':(n:Int) < ((ns.length:Nat):Int):=by omega
  first
   | (rw[yB q'] at h5;exact absurd h5 (by decide))
   | (simp at h5;omega)
 cases hwl with
 | cons w1 w2 =>
  cases w2
  cases w1 with
  | list ho hall=>exact⟨_,_,ns,rfl,rfl,ho,ints_of_wellAll ns _ hall,hlen⟩
theorem post_true(l:OpenLaw)(args:List WData):l.row.toRowW.claim.post args (.bool true) args=true :=
 postW_of (r:=l.row.toRowW) (X:=(true == true))
  (show WShape.has [] (.bool true) .bool=true by first|rfl|decide|simp[WShape.has,WShape.arms,WShape.armsAll])
  (show (WTm.eq .res (.lit (.bool true))).value [] { args:=args,res:=some (.bool true),after:=args }=some (.bool (true == true)) from w_eq_bool (w_res rfl) w_lit) rfl
theorem attach_call{l:OpenLaw}{n:Nat}{q:Program}{loose:List Str}{XP:(Str->Option Value)->Heap->Prop}{YP:World->Heap->Prop}{d:DefRec}
  (hn:l.most=some n) (hdf:d.params.defaults=[])
  (call:∀ (w:World) (s₀ s₁:Shared) (mg mb:Str->Option Value) (fa:Addr) (o:Obj) (pm cd doc:Value) (a:Addr) (vs:List Value) (ns:List Int),
   Ground q loose [] XP w s₀ mg mb s₁.heap->YP w s₁.heap ->
   s₁.heap.get? fa=some o->o.data=.func (docDef d.name d.params d.body d.scope pm cd doc)->s₁.heap.CodeRec cd d.name->mg d.name=some (.ref fa) ->
   s₁.heap.get? a=some { cls:=.type "list",data:=.seq vs.toArray }->IntsAre vs ns->ns.length<=n->s₁.gens=#[] ->
   codeAny (model l.prog w) callerA (.call (.ref fa) ⟨[.ref a],[]⟩) (fun r s'=>r=.ok (.ret (.bool true))/\OldK s₁.heap s'.heap/\s'.os=s₁.os/\AllBare s'.gens) s₁) :
  WalkO q loose XP YP l.row.toRowW d [] (fun f vs=>PySem.call f vs):=by
 intro w s₀ s₁ mg mb G Y fa o pm cd doc dV kV ho hd hcd hD hmg hg args vals as hpre hlay hrd hwl hlo
 obtain rfl:dV=.none:=Dflts.none hD hdf
 obtain rfl:kV=.none:=Dflts.noKw hD
 obtain⟨a,vs,ns,rfl,rfl,hobj,hints,hlen⟩:=script_of hn hpre hwl
 refine enter_call (codeAny_mono (call w s₀ s₁ mg mb fa o pm cd doc a vs ns G Y ho (fd_plain hd) hcd hmg hobj hints hlen hg) fun r s' hq=>?_)
 obtain⟨rfl,h2,h3,h4⟩:=hq
 exact⟨.inl ⟨.bool true,.bool true,[],rfl,fun _=>rfl,.bool true,post_true l _,fun _=>⟨List.Pairwise.nil,fun _ hm=>(nomatch hm)⟩⟩,h2,h3,h4⟩
section
variable {prog:Program}{w:World}{A:Around}{E:Value->Shared->Prop}{s:Shared}{K:Frag}
end
end Att
namespace L2
open PySem PySem.Spec PyProof.Rows
theorem oD:∀ {vs:List Value}{ns:List Int},IntsAre vs ns->ax (ns.map V.int) vs
 | _,_,.nil=>.nil
 | _,_,.cons n t h=>.cons ⟨t,rfl⟩ (oD h)
noncomputable def eS(s:Stmt):Arguments:=match s with
 | .FunctionDef _ a _ _ _ _ _ _ _ _=>a
 | _=>{ posonlyargs:=[],args:=[],vararg:=none,kwonlyargs:=[],kw_defaults:=[],kwarg:=none,defaults:=[] }
noncomputable def bM(s:Stmt):List Stmt:=match s with
 | .FunctionDef _ _ b _ _ _ _ _ _ _=>b
 | _=>[]
noncomputable def aA(s:Stmt):Scope:=match s with
 | .FunctionDef _ _ _ _ _ _ sc _ _ _=>sc
 | _=>{ kind:=.function,names:=[],isGenerator:=false,isCoroutine:=false }
noncomputable abbrev FA:xU:=fun _ _ _ _ _ _=>False
noncomputable abbrev E0:XK:=fun _ _ _=>False
theorem D5{X:Cx}:tY FA X E0:=fun _ _ _ _ _ _ _ h=>h.elim
structure C0(K:W.Frag)(x qual:Str)(st:Stmt)(f:Addr)(fd:FuncData):Prop where
 ex:∃ (oc:Value) (od:Option Addr) (kV doc pm:Value) (an:Option Addr) (cdv ct:Value) (osl:Array (Option Value)),
  fd=W.fnOf x qual (eS st) (bM st) (aA st) .none kV doc pm an cdv ct/\K.lookup f=some ⟨oc,od,.func fd,osl⟩/\W.codeIn K cdv qual=true
 kp:W.keepIn K (.ref f)=true
section
variable {P:Program}{w:World}{K:W.Frag}{mg:Str->Option Value}{base:Heap}
theorem C0.binds{x qual:Str}{st:Stmt}{f:Addr}{fd:FuncData}{ps:List Str}(F:C0 K x qual st f fd)
  (h:∀ (kV doc pm:Value) (an:Option Addr) (cdv ct:Value) (us:List Value),us.length=ps.length->bindArgs (W.fnOf x qual (eS st) (bM st) (aA st) .none kV doc pm an cdv ct) ⟨us,[]⟩=pure (ps.zip us)):Binds K fd ps []:=by
 obtain⟨oc,od,kV,doc,pm,an,cdv,ct,osl,rfl,lk,hcd⟩:=F.ex
 exact .all (h kV doc pm an cdv ct)
theorem qE{x qual:Str}{st:Stmt}{f:Addr}{oc:Value}{od an:Option Addr}{osl:Array (Option Value)}{kV doc pm cdv ct:Value}(l:K.lookup f=some ⟨oc,od,.func (W.fnOf x qual (eS st) (bM st) (aA st) .none kV doc pm an cdv ct),osl⟩)
  (c:W.codeIn K cdv qual=true) (k:W.keepIn K (.ref f)=true):C0 K x qual st f (W.fnOf x qual (eS st) (bM st) (aA st) .none kV doc pm an cdv ct):=⟨⟨oc,od,kV,doc,pm,an,cdv,ct,osl,rfl,l,c⟩,k⟩
end
section
variable {X:Cx}
end
theorem sJ{A B:Prop}(h:B):if false=true then A else B:=by
 rw[if_neg Bool.false_ne_true]
 exact h
theorem r8{A B:Prop}(h:A):if true=true then A else B:=by
 rw[if_pos rfl]
 exact h
def aH(H H':Hp):Prop:=∀b o,H b=some o->H' b=some o
theorem aH.refl(H:Hp):aH H H:=fun _ _ h=>h
theorem aH.trans{H H1 H2:Hp}(a:aH H H1)(b:aH H1 H2):aH H H2:=fun c o h=>b c o (a c o h)
theorem aH.free{H H':Hp}(e:aH H H'){l:Addr}(h:H' l=Option.none):H l=Option.none:=by
 cases q:H l with
 | none=>rfl
 | some o =>
  rw[e l o q] at h
  cases h
theorem aH.seq{K:W.Frag}{H H':Hp}{a:Addr}{xs:List V}(e:aH H H')(h:fj K H a xs):fj K H' a xs:=by
 rcases h with (h|⟨o,h⟩)|h
 ·exact .inl (.inl (e _ _ h))
 ·exact .inl (.inr ⟨o,e _ _ h⟩)
 ·exact .inr h
end L2
namespace Hd
open PySem L2 PySem.Spec PyProof.Rows
noncomputable def en(P:Params)(x:String)(t:Nat)(v:Value):DictEntry:=⟨PyData.keyHash P (Str.ofString x),.str (Str.ofString x) t,v⟩
noncomputable def fo(x:Str)(st:Stmt)(pm:Value)(c:Addr):Obj:=⟨.type "function",none,.func (W.fnOf x x (eS st) (bM st) (aA st) .none .none .none pm none (.ref c) .none),#[]⟩
noncomputable def co(vs:List Value):Obj:=⟨.type "code",none,.fields vs.toArray,#[]⟩
noncomputable def rfV(n:Nat):Value:=if n=0 then .none else .ref n
noncomputable def cdo(x:Str)(t l n a b c d e f u:Nat):Obj:=co [.str x t,.str x (t+1),.str "/claim/cut.py" (t+2),.int l 0,.int n 0,.int 0 0,.int 0 0,.int 3 0,rfV a,.bool true,.int 181 0,rfV b,rfV c,rfV d,rfV e,rfV f,.int u 0,.int l 0,.str "/claim/cut.py" (u+1)]
theorem lf_all{S A B C D E F J O:Type}{x:Option S}{f:S->A×B×C×D×E×F×J}{o:S->O}{g:A×B×C×D×E×F×J}{v:O}(h0:x.map (fun s=>(f s).1)=some g.1)(h1:x.map (fun s=>(f s).2.1)=some g.2.1)(h2:x.map (fun s=>(f s).2.2.1)=some g.2.2.1)(h3:x.map (fun s=>((f s).2.2.2.1,(f s).2.2.2.2.1))=some (g.2.2.2.1,g.2.2.2.2.1))(h4:x.map (fun s=>(f s).2.2.2.2.2.1)=some g.2.2.2.2.2.1)(h5:x.map (fun s=>(f s).2.2.2.2.2.2)=some g.2.2.2.2.2.2)(h6:x.map o=some v):x.map (fun s=>(f s,o s))=some (g,v):=by
 obtain⟨a,b,c,d,e,i,j⟩:=g
 cases x with
 | none=>cases h0
 | some s =>
  simp only[zB,yM,Prod.mk.injEq] at h0 h1 h2 h3 h4 h5 h6 ⊢
  refine⟨?_,h6⟩
  generalize f s=t at *
  obtain⟨a',b',c',d',e',i',j'⟩:=t
  dsimp only at *
  obtain⟨h3,h3'⟩:=h3
  subst h0 h1 h2 h3 h3' h4 h5
  rfl
end Hd
namespace K11
open PySem L2 PySem.Spec PyProof.Rows Hd PySem.W
noncomputable abbrev top(i:Nat):Stmt:=PySem.Challenge.pw_stillflow_k11_whole_choice.main.body.getD i (.Pass ⟨0,0,0,0⟩)
noncomputable def vw:Program:=W.view PySem.Challenge.pw_stillflow_k11_whole_choice [1,2,3,5,6,7,8,9,10,11,12,13,14,15,16,17,18,19,20,22,23,24,26,27,28,30,31,32,33,34,35]
noncomputable def ki:Value:=(.str "stillflow.worlds" 239)
noncomputable def GR:Value:=(.str "stillflow.flows" 352)
noncomputable def GT:Value:=(.str "stillflow.finding" 376)
noncomputable def xS:Value:=(.str "law_stillflow_k11_whole_choice" 399)
noncomputable def Kf(P:Params):W.Frag:=[(3,⟨.type "dict",none,.dict #[en P "__name__" 165 (.str "law_stillflow_k11_whole_choice" 399),en P "__doc__" 166 .none,en P "__package__" 167 .none,en P "__loader__" 168 (.builtin "__main__.__loader__#opaque"),en P "__spec__" 169 .none,en P "__annotations__" 170 (.ref 6),en P "__builtins__" 171 (.ref 4),en P "__file__" 173 (.str "/claim/cut.py" 172),en P "__cached__" 174 .none,en P "FlowError" 206 (.ref 24),en P "NoWorld" 222 (.ref 37),en P "NoPlace" 238 (.ref 49),en P "MOST_PLACES" 242 (.int 4 241),en P "MOST" 244 (.int 9 243),en P "is_whole" 253 (.ref 58),en P "is_number" 261 (.ref 65),en P "is_long" 270 (.ref 72),en P "are_likes" 276 (.ref 77),en P "is_end" 284 (.ref 84),en P "is_way" 293 (.ref 91),en P "are_parts" 299 (.ref 96),en P "liked_pairs" 305 (.ref 101),en P "is_world" 311 (.ref 106),en P "check_world" 318 (.ref 113),en P "check_whole" 327 (.ref 120),en P "check_number" 335 (.ref 127),en P "check_side" 342 (.ref 134),en P "check_place" 351 (.ref 141),en P "ways_of" 359 (.ref 146),en P "chosen_by" 365 (.ref 151),en P "choice" 375 (.ref 158),en P "chosen_by_all" 383 (.ref 163),en P "both_ends" 392 (.ref 170),en P "limits" 398 (.ref 175),en P "_law_cell" 408 (.ref 182),en P "_law_drawn" 418 (.ref 189),en P "_law_orders" 433 (.ref 196),en P "_law_world" 439 (.ref 201),en P "_law_in_order" 445 (.ref 206),en P "law" 451 (.ref 211)] 40,#[]⟩),
 (57,cdo "is_whole" 245 11 3 52 53 0 54 55 56 251),
 (58,fo "is_whole" (top 7) ki 57),
 (64,cdo "is_number" 254 15 2 59 60 0 61 62 63 259),
 (65,fo "is_number" (top 8) ki 64),
 (71,cdo "is_long" 262 17 3 66 67 0 68 69 70 268),
 (72,fo "is_long" (top 9) ki 71),
 (76,cdo "are_likes" 271 19 2 73 74 0 0 0 75 274),
 (77,fo "are_likes" (top 10) ki 76),
 (83,cdo "is_end" 277 25 2 78 79 0 80 81 82 282),
 (84,fo "is_end" (top 11) ki 83),
 (90,cdo "is_way" 285 27 3 85 86 0 87 88 89 291),
 (91,fo "is_way" (top 12) ki 90),
 (95,cdo "are_parts" 294 31 3 92 93 0 0 0 94 297),
 (96,fo "are_parts" (top 13) ki 95),
 (100,cdo "liked_pairs" 300 39 1 97 98 0 0 0 99 303),
 (101,fo "liked_pairs" (top 14) ki 100),
 (105,cdo "is_world" 306 44 1 102 103 0 0 0 104 309),
 (106,fo "is_world" (top 15) ki 105),
 (112,cdo "check_world" 312 51 1 107 108 0 109 110 111 316),
 (113,fo "check_world" (top 16) ki 112),
 (119,cdo "check_whole" 319 54 3 114 115 0 116 117 118 325),
 (120,fo "check_whole" (top 17) ki 119),
 (126,cdo "check_number" 328 57 2 121 122 0 123 124 125 333),
 (127,fo "check_number" (top 18) ki 126),
 (133,cdo "check_side" 336 59 1 128 129 0 130 131 132 340),
 (134,fo "check_side" (top 19) ki 133),
 (140,cdo "check_place" 343 61 3 135 136 0 137 138 139 349),
 (141,fo "check_place" (top 20) ki 140),
 (145,cdo "ways_of" 354 65 3 142 143 0 0 0 144 357),
 (146,fo "ways_of" (top 22) GR 145),
 (150,cdo "chosen_by" 360 70 4 147 148 0 0 0 149 363),
 (151,fo "chosen_by" (top 23) GR 150),
 (157,cdo "choice" 366 77 4 152 153 0 154 155 156 373),
 (158,fo "choice" (top 24) GR 157),
 (162,cdo "chosen_by_all" 378 82 3 159 160 0 0 0 161 381),
 (163,fo "chosen_by_all" (top 26) GT 162),
 (169,cdo "both_ends" 384 88 3 164 165 0 166 167 168 390),
 (170,fo "both_ends" (top 27) GT 169),
 (174,cdo "limits" 393 92 1 171 172 0 0 0 173 396),
 (175,fo "limits" (top 28) GT 174),
 (181,cdo "_law_cell" 401 95 2 176 177 0 178 179 180 406),
 (182,fo "_law_cell" (top 30) xS 181),
 (188,cdo "_law_drawn" 409 99 3 183 184 0 185 186 187 416),
 (189,fo "_law_drawn" (top 31) xS 188),
 (195,cdo "_law_orders" 419 103 3 190 191 0 192 193 194 431),
 (196,fo "_law_orders" (top 32) xS 195),
 (200,cdo "_law_world" 434 111 3 197 198 0 0 0 199 437),
 (201,fo "_law_world" (top 33) xS 200),
 (205,cdo "_law_in_order" 440 127 6 202 203 0 0 0 204 443),
 (206,fo "_law_in_order" (top 34) xS 205),
 (210,cdo "law" 446 135 1 207 208 0 0 0 209 449),
 (211,fo "law" (top 35) xS 210)]
noncomputable def hk:W.Hook:=W.kmHook Kf [3,57,58,64,65,71,72,76,77,83,84,90,91,95,96,100,101,105,106,112,113,119,120,126,127,133,134,140,141,145,146,150,151,157,158,162,163,169,170,174,175,181,182,188,189,195,196,200,201,205,206,210,211] (fun _=>rfl) [143]
noncomputable abbrev rn(w:World):=openEnds treeTable PySem.Challenge.pw_stillflow_k11_whole_choice w 6000
noncomputable abbrev sn(s:Shared):=openSeen vw [] (importedModules PySem.Challenge.pw_stillflow_k11_whole_choice.main.body) (fun s=>xlAt vw [] s&&recOk [] s) true s
noncomputable abbrev gd:=openGood vw []
theorem J0(w:World):(rn w).map (fun s=>(sn s).1)=some (gd.1):=by kernel_rfl
theorem Kj(w:World):(rn w).map (fun s=>(sn s).2.1)=some (gd.2.1):=by kernel_rfl
theorem J4(w:World):(rn w).map (fun s=>(sn s).2.2.1)=some (gd.2.2.1):=by kernel_rfl
theorem Ki(w:World):(rn w).map (fun s=>((sn s).2.2.2.1,(sn s).2.2.2.2.1))=some ((gd.2.2.2.1,gd.2.2.2.2.1)):=by kernel_rfl
theorem JW(w:World):(rn w).map (fun s=>(sn s).2.2.2.2.2.1)=some (gd.2.2.2.2.2.1):=by kernel_rfl
theorem J8(w:World):(rn w).map (fun s=>(sn s).2.2.2.2.2.2)=some (gd.2.2.2.2.2.2):=by kernel_rfl
theorem Kk(w:World):(rn w).map (fun s=>hk.obs s)=some (hk.val w):=by kernel_rfl
theorem left:LeftO PySem.Challenge.pw_stillflow_k11_whole_choice vw [] (fun s=>xlAt vw [] s&&recOk [] s) hk.obs hk.val 6000:=fun w=>lf_all (J0 w) (Kj w) (J4 w) (Ki w) (JW w) (J8 w) (Kk w)
theorem Jz:PySem.Challenge.rw_stillflow_k11_whole_choice.wellSaid=true:=by kernel_rfl
end K11
namespace L2
open PySem PySem.Spec PyProof.Rows
theorem bu:∀ (names:List (Str×NameKind)) (n:Nat) (acc:List (Str×Addr)),cellsFrom n names acc=cellsFrom n names []++acc
 | [],_,_=>rfl
 | (name,kind)::r,n,acc=>by
  unfold cellsFrom
  split
  ·rw[bu r (n+1) ((name,n)::acc),bu r (n+1) [(name,n)]]
   simp
  ·exact bu r n acc
theorem hJ{α:Type}{x:Str}{c:α}:∀ {l m:List (Str×α)},(l++m).lookup x=some c->l.lookup x=some c\/(l.lookup x=none/\m.lookup x=some c)
 | [],_,h=>.inr ⟨rfl,h⟩
 | (k,v)::r,m,h=>by
  have ih:=@hJ α x c r m
  rw[List.cons_append,yC] at h
  rw[yC]
  cases e:x == k with
  | true=>rw[e] at h;exact .inl h
  | false=>rw[e] at h;exact ih h
theorem hU{α:Type}{x:Str}{c:α}:∀ {l m:List (Str×α)},l.lookup x=some c->(l++m).lookup x=some c
 | [],_,h=>by cases h
 | (k,v)::r,m,h=>by
  have ih:=@hU α x c r m
  rw[yC] at h
  rw[List.cons_append,yC]
  cases e:x == k with
  | true=>rw[e] at h;exact h
  | false=>rw[e] at h;exact ih h
theorem fW{α:Type}{x:Str}:∀ {l m:List (Str×α)},l.lookup x=none->(l++m).lookup x=m.lookup x
 | [],_,_=>rfl
 | (k,v)::r,m,h=>by
  have ih:=@fW α x r m
  rw[yC] at h
  rw[List.cons_append,yC]
  cases e:x == k with
  | true=>rw[e] at h;cases h
  | false=>rw[e] at h;exact ih h
theorem eD:∀ (names:List (Str×NameKind)) (n:Nat) (x:Str) (c:Addr),(x,c)∈cellsFrom n names []->(x,NameKind.cell)∈names
 | [],_,_,_,h=>by cases h
 | (name,kind)::r,n,x,c,h=>by
  unfold cellsFrom at h
  split at h
  ·rename_i hk
   rw[bu] at h
   rcases List.mem_append.mp h with h|h
   ·exact zC _ (eD r _ x c h)
   ·have:(x,c)=(name,n):=by simpa using h
    cases this
    have:kind=.cell:=by simpa using hk
    subst this
    exact zE
  ·exact zC _ (eD r n x c h)
noncomputable def di(env:Env):List (Str×NameKind)->List (Str×Addr)->List (Str×Addr)
 | [],acc=>acc
 | (n,k)::r,acc=>if k == .free then di env r ((n,(env.cells.lookup n).getD 0)::acc) else di env r acc
theorem jB(env:Env):∀ (names:List (Str×NameKind)) (acc:List (Str×Addr)),(∀x∈names,x.2=.free->∃c,env.cells.lookup x.1=some c) ->
  (forIn names acc (fun (p:Str×NameKind) (cs:List (Str×Addr))=>(if p.2 == .free then (do let a <- cellOf env p.1;pure (.yield ((p.1,a)::cs))) else pure (.yield cs):Sem (ForInStep (List (Str×Addr))))))=pure (di env names acc)
 | [],acc,_=>rfl
 | (n,k)::r,acc,h=>by
  rw[List.forIn_cons]
  have hr:=fun x hx=>h x (zC _ hx)
  unfold di
  by_cases hk:k=.free
  ·obtain⟨c,hc⟩:=h (n,k) zE hk
   subst hk
   have e1:cellOf env n=pure c:=by
    have hc':env.cells.lookup n=some c:=hc
    unfold cellOf;rw[hc']
   have hc':env.cells.lookup n=some c:=hc
   simp only[beq_self_eq_true,if_true,e1,pure_bind,hc',Option.getD_some]
   exact jB env r _ hr
  ·have hb:(k == NameKind.free)=false:=by simpa using hk
   simp only[hb,Bool.false_eq_true,if_false,pure_bind]
   exact jB env r _ hr
theorem jw{env:Env}{scope:Scope}(h:∀x∈scope.names,x.2=.free->∃c,env.cells.lookup x.1=some c):closureFor scope env=pure (di env scope.names []):=by
 have:=jB env scope.names [] h
 unfold closureFor
 exact (bind_pure _).trans this
theorem jc{env:Env}:∀ {names:List (Str×NameKind)}{acc:List (Str×Addr)},(∀x∈names,x.2=.free->∃c,env.cells.lookup x.1=some c)->(∀x c,(x,c)∈acc->env.cells.lookup x=some c) ->
  ∀x c,(x,c)∈di env names acc->env.cells.lookup x=some c
 | [],acc,_,ha,x,c,hm=>ha x c hm
 | (n,k)::r,acc,h,ha,x,c,hm=>by
  unfold di at hm
  have hr:=fun x hx=>h x (zC _ hx)
  split at hm
  ·rename_i hk
   have hk':k=.free:=by simpa using hk
   obtain⟨c',hc⟩:=h (n,k) zE hk'
   have hc:env.cells.lookup n=some c':=hc
   refine jc hr (fun y d hy=>?_) x c hm
   rcases zR.mp hy with e|hy
   ·cases e;rw[hc];rfl
   ·exact ha y d hy
  ·exact jc hr ha x c hm
theorem eE{env:Env}:∀ {names:List (Str×NameKind)}{acc:List (Str×Addr)}{x:Str},(names.lookup x=some .free\/∃c,acc.lookup x=some c)->∃c,(di env names acc).lookup x=some c
 | [],acc,x,h=>by
  rcases h with h|h
  ·cases h
  ·exact h
 | (n,k)::r,acc,x,h=>by
  unfold di
  split
  ·rename_i hk
   refine eE ?_
   rcases h with h|⟨c,h⟩
   ·rw[yC] at h
    cases e:x == n with
    | true=>exact .inr ⟨_,by rw[yC,e]⟩
    | false=>rw[e] at h;exact .inl h
   ·refine .inr ?_
    rw[yC]
    cases e:x == n with
    | true=>exact⟨_,rfl⟩
    | false=>exact⟨c,h⟩
  ·rename_i hk
   refine eE ?_
   rcases h with h|h
   ·rw[yC] at h
    cases e:x == n with
    | true =>
     rw[e] at h
     cases h
     exact absurd rfl hk
    | false=>rw[e] at h;exact .inl h
   ·exact .inr h
theorem ka{env:Env}:∀ {names:List (Str×NameKind)}{x:Str}{k:NameKind},names.lookup x=some k ->
  (names.map fun (n,k)=>if (k == NameKind.free&&env.scope.kind == .function&&env.kindOf n == some .cell) then (n,NameKind.cell) else (n,k)).lookup x=some (if (k == NameKind.free&&env.scope.kind == .function&&env.kindOf x == some .cell) then NameKind.cell else k)
 | [],_,_,h=>by cases h
 | (n,k)::r,x,k',h=>by
  have ih:=@ka env r x k'
  rw[zI]
  dsimp only
  cases hx:x == n with
  | true =>
   have e:x=n:=by simpa using hx
   subst e
   rw[yC,hx] at h
   cases h
   split<;>simp[yC, *]
  | false =>
   rw[yC,hx] at h
   have ih:=ih h
   split
   ·rw[yC,hx];exact ih
   ·rw[yC,hx];exact ih
theorem lh{env:Env}:∀ {names:List (Str×NameKind)}{x:Str},names.lookup x=none ->
  (names.map fun (n,k)=>if (k == NameKind.free&&env.scope.kind == .function&&env.kindOf n == some .cell) then (n,NameKind.cell) else (n,k)).lookup x=none
 | [],_,h=>rfl
 | (n,k)::r,x,h=>by
  have ih:=@lh env r x
  rw[zI]
  dsimp only
  cases hx:x == n with
  | true=>rw[yC,hx] at h;cases h
  | false =>
   rw[yC,hx] at h
   split
   ·rw[yC,hx];exact ih h
   ·rw[yC,hx];exact ih h
noncomputable def dM(X:Cx)(scope:Scope)(C:Addr):Env :=
 { scope:=relabel scope X.env,locals:=C,globals:=X.env.globals,cells:=cellsFrom (C+1) scope.names (di X.env scope.names []),qual:=X.env.qual,func:=none,code:=X.env.code,frame:=X.env.frame,builtins:=X.env.builtins }
noncomputable def aJ(X:Cx)(scope:Scope)(N:List Str)(fp:List Addr)(s:Shared)(H:Hp):Cx :=
 { X with N:=N,s₀:=s,H₀:=H,env:=dM X scope s.heap.objs.size,outer:=X.stack,ex:=fp,fn:=fun x=>decide (scope.names.lookup x=some .cell),pn:=[],xe:=fun _ _=>False }
theorem uG{M:Model}{A:Around}{E:Value->Shared->Prop}{s:Shared}{scope:Scope}{globals:Addr}{cl:List (Str×Addr)}{qual:Str}{env:Env}{Q:Env->Shared->Prop}
  (hQ:∀h',h'.Ns s.heap.objs.size (fun _=>none)->(∀b o,s.heap.get? b=some o->h'.get? b=some o)->CellsOk h' (s.heap.objs.size+1) (cellsFrom (s.heap.objs.size+1) scope.names []) ->
   Q { scope:=scope,locals:=s.heap.objs.size,globals:=globals,cells:=cellsFrom (s.heap.objs.size+1) scope.names cl,qual:=qual,func:=none,code:=env.code,frame:=env.frame,builtins:=env.builtins } { s with heap:=h' }) :
  wpAny M A (newFunctionEnv scope globals cl [] qual none .none (some env)) Q E s:=by
 simp only[newFunctionEnv,Option.isSome_some,if_true]
 refine zW (wpAny_alloc ?_)
 refine zW (wpAny_layCells _ (fun name kind cells=>by cases hkc:kind == NameKind.cell<;>simp[hkc]) _ _ _ _ ?_)
 have ok:=cellsFrom_ok scope.names (s.heap.push { cls:=.type "dict",data:=.dict #[] }) (s.heap.objs.size+1) [] ⟨fun _ _ hm=>(nomatch hm),List.Pairwise.nil⟩ (by rw[Heap.size_push];exact Nat.le_refl _)
 rw[Heap.size_push] at ok
 rw[show ({ s with heap:=s.heap.push { cls:=.type "dict",data:=.dict #[] } }:Shared).heap.objs.size=s.heap.objs.size+1 from Heap.size_push ..]
 rw[List.forIn_nil]
 refine zW (zX (zX ?_))
 exact hQ _ ((Heap.Ns.new s.heap (.type "dict")).keeps (pushCells_keeps _ _)) (fun b o e=>pushCells_keeps _ _ b o (zV _ e)) ok
section
variable {X:Cx}{pins:List (Addr×Obj)}{σ σ':St}{H:Hp}{s:Shared}{fp:List Addr}{scope:Scope}{N:List Str}{h4:Heap}
theorem iS(ok:X.Ok)(hfree:∀x∈scope.names,x.2=.free->X.env.kindOf x.1=some .cell\/X.env.kindOf x.1=some .free):∀x∈scope.names,x.2=.free->∃c,X.env.cells.lookup x.1=some c :=
 fun x hx hk=>ok.has x.1 (hfree x hx hk)
theorem kA{C:Addr}{x:Str}{k:NameKind}(h:scope.names.lookup x=some k):(dM X scope C).kindOf x=some k\/(k=.free/\(dM X scope C).kindOf x=some .cell):=by
 have q:=ka (env:=X.env) h
 have q':(dM X scope C).kindOf x=some (if (k == NameKind.free&&X.env.scope.kind == .function&&X.env.kindOf x == some .cell) then NameKind.cell else k):=q
 rw[q']
 split
 ·rename_i hc
  have:k=.free:=by
   simp only[zF,beq_iff_eq] at hc
   exact hc.1.1
  exact .inr ⟨this,rfl⟩
 ·exact .inl rfl
theorem jq{C:Addr}{x:Str}{k:NameKind}(h:(dM X scope C).kindOf x=some k):scope.names.lookup x=some k\/(k=.cell/\scope.names.lookup x=some .free):=by
 cases e:scope.names.lookup x with
 | none =>
  have q:(dM X scope C).kindOf x=none:=lh (env:=X.env) e
  rw[q] at h;cases h
 | some k' =>
  rcases kA (X:=X) (C:=C) e with q|⟨q,q'⟩
  ·rw[q] at h;cases h;exact .inl rfl
  ·rw[q'] at h;cases h;subst q;exact .inr ⟨rfl,rfl⟩
theorem BH(I:Inv X pins σ H s)(hf:∀b∈fp,bI X pins H b)(hfl:∀b∈fp,b < s.heap.objs.size)(hk:scope.kind=.function)
  (hfree:∀x∈scope.names,x.2=.free->X.env.kindOf x.1=some .cell\/X.env.kindOf x.1=some .free)
  (hns:h4.Ns s.heap.objs.size (fun _=>none)) (hkeep:∀b o,s.heap.get? b=some o->h4.get? b=some o) (hco:CellsOk h4 (s.heap.objs.size+1) (cellsFrom (s.heap.objs.size+1) scope.names []))
  (hdup:∀ {x:Str},(x,NameKind.cell)∈scope.names->(x,NameKind.free)∈scope.names->False) (hcap:∀ (i:Nat) (x:Str) (v:V),N[i]?=some x->σ'[i]?=some (some v)->scope.names.lookup x=some .free/\∃j:Nat,X.N[j]?=some x/\σ[j]?=some (some v)) (hlen:σ'.length=N.length) (t':Nat) :
  Inv (aJ X scope N fp s H) [] σ' H { s with heap:=h4,toks:=t' }:=by
 have hcl:=iS I.ok hfree
 have clx:∀x c,(di X.env scope.names []).lookup x=some c->X.env.cells.lookup x=some c:=fun x c e=>jc hcl (fun _ _ z=>by cases z) x c (mem_of_lookup e)
 have look:∀x c,(dM X scope s.heap.objs.size).cells.lookup x=some c->(x,c)∈cellsFrom (s.heap.objs.size+1) scope.names []\/X.env.cells.lookup x=some c:=fun x c e=>by
  have e:(cellsFrom (s.heap.objs.size+1) scope.names (di X.env scope.names [])).lookup x=some c:=e
  rw[bu] at e
  rcases hJ e with q|⟨_,q⟩
  ·exact .inl (mem_of_lookup q)
  ·exact .inr (clx x c q)
 have old:∀x c,X.env.cells.lookup x=some c->c < s.heap.objs.size:=fun x c e=>let ⟨_,q⟩:=I.cell x c e;q.lt
 have new:∀x c,(x,c)∈cellsFrom (s.heap.objs.size+1) scope.names []->s.heap.objs.size < c:=fun x c e=>(hco.empty x c e).2
 refine⟨⟨I.ok.mod,?_,I.ok.glob,I.ok.blt,Nat.le_refl _,?_,?_,?_,I.ok.hd,I.ok.frames,.inl rfl,?_,I.bs,yE I.ok.bsz I.sz,?_,?_,I.stack,I.stkFree⟩,rfl,I.bare,Un.kept hkeep,⟨_,hns,?_⟩,?_,I.hok.fresh (Nat.le_refl _),?_,
  fun p hp=>absurd (show p∈([]:List (Addr×Obj)) from hp) (by simp),I.hok.kept hkeep,hlen⟩
 ·show (relabel scope X.env).kind=_
  exact hk
 ·intro x y c e1 e2
  rcases look x c e1 with a|a<;>rcases look y c e2 with b|b
  ·exact name_of_addr hco.apart a b
  ·exact absurd (Nat.lt_trans (new x c a) (old y c b)) (Nat.lt_irrefl _)
  ·exact absurd (Nat.lt_trans (new y c b) (old x c a)) (Nat.lt_irrefl _)
  ·exact I.ok.inj x y c a b
 ·intro x hx
  show ∃c,(cellsFrom (s.heap.objs.size+1) scope.names (di X.env scope.names [])).lookup x=some c
  refine Option.isSome_iff_exists.mp (W.cellsFrom_some _ _ _ ?_)
  rcases hx with hx|hx
  ·rcases jq hx with q|⟨_,q⟩
   ·exact .inl q
   ·exact .inr (Option.isSome_iff_exists.mpr (eE (.inl q)))
  ·rcases jq hx with q|⟨q,_⟩
   ·exact .inr (Option.isSome_iff_exists.mpr (eE (.inl q)))
   ·cases q
 ·intro x c hfn e
  have hfn:scope.names.lookup x=some .cell:=of_decide_eq_true hfn
  have e:(cellsFrom (s.heap.objs.size+1) scope.names (di X.env scope.names [])).lookup x=some c:=e
  obtain⟨c',hc'⟩:=nE (n:=s.heap.objs.size+1) hfn
  rw[bu,hU hc'] at e
  cases e
  exact Nat.le_of_lt (new x c (mem_of_lookup hc'))
 ·intro b hb
  refine⟨Nat.ne_of_lt (hfl b hb),fun x c e z=>?_⟩
  rcases look x c e with a|a
  ·exact absurd (Nat.lt_trans (new x c a) (by rw[z];exact hfl b hb)) (Nat.lt_irrefl _)
  ·exact (hf b hb).2.2.2.2.1 x c a z
 ·intro b o e hb
  obtain⟨f0,f1,f2,f3,f4,f5⟩:=hf b hb
  rcases f3 with z|z
  ·exact I.ok.noex b o e z
  ·exact absurd (zP (zZ (I.ok.bs b o e).1) z) (Nat.lt_irrefl _)
 ·intro b hb hz
  obtain⟨f0,f1,f2,f3,f4,f5⟩:=hf b hb
  rcases zR.mp (I.stkSub b hz) with z|z
  ·exact f1 z
  ·exact f2 z
 ·intro i x v e1 e2 e3
  obtain⟨hfr,j,hj,hv⟩:=hcap i x v e1 e2
  have hm:(x,NameKind.free)∈scope.names:=mem_of_lookup hfr
  obtain⟨m,hn,hl⟩:=I.loc
  have kx:=hfree _ hm rfl
  obtain⟨u,ru,lk⟩:=hl j x v hj hv (kx.elim (fun k=>.inr (.inl k)) fun k=>.inr (.inr k))
  refine⟨u,ru,.inr ⟨?_,?_⟩⟩
  ·rcases kA (X:=X) (C:=s.heap.objs.size) hfr with q|⟨_,q⟩
   ·exact .inr q
   ·exact .inl q
  ·rcases lk with ⟨k,_⟩|⟨_,c,ec,ic⟩
   ·have k:X.env.kindOf x=some .local:=k
    rcases kx with k'|k'<;>· rw[k] at k';cases k'
   ·obtain⟨c',hc'⟩:=eE (env:=X.env) (acc:=[]) (.inl hfr)
    have e':=clx x c' hc'
    rw[ec] at e'
    cases e'
    refine⟨c,?_,ic.keeps hkeep⟩
    show (cellsFrom (s.heap.objs.size+1) scope.names (di X.env scope.names [])).lookup x=some c
    rw[bu]
    cases eo:(cellsFrom (s.heap.objs.size+1) scope.names []).lookup x with
    | none=>rw[fW eo];exact hc'
    | some d =>
     have hcm:=eD _ _ _ _ (mem_of_lookup eo)
     exact (hdup hcm hm).elim
 ·intro x c e
  rcases look x c e with a|a
  ·exact⟨_,(hco.empty x c a).1⟩
  ·obtain⟨v,q⟩:=I.cell x c a
   exact⟨v,q.keeps hkeep⟩
 ·intro x c e
  rcases look x c e with a|a
  ·exact I.hok.fresh (Nat.le_of_lt (new x c a))
  ·exact I.freeC x c a
end
noncomputable abbrev rg(ifs:List Expr)(env:Env):Sem Bool:=forIn ifs true fun c r=>if r=true then do let ok <- isTrue c env (eval c env);pure (ForInStep.yield ok) else pure (ForInStep.yield r)
noncomputable def GL(X:Cx)(ifs:List Expr)(t:TT):Prop :=
 ∀ (pins:List (Addr×Obj)) (s:Shared) (σ:St) (H:Hp) (Q:Bool->Hp->Prop),Inv X pins σ H s->t σ H Q->wpAny (model X.prog X.w) X.A (rg ifs X.env) (TP X pins σ Q) X.xe s
theorem CP{X:Cx}:GL X [] (fun _ H Q=>Q true H):=fun _ _ _ H _ I h=>wpAny_tests_nil ⟨H,I,h⟩
theorem B8{X:Cx}{c:Expr}{t:TT}(h:PT X c t):GL X [c] t:=fun pins s σ H Q I q=>wpAny_tests_one (h pins s σ H Q I q)
theorem qp{prog:Program}{w:World}{A:Around}{R:Result->Shared->Prop}{s:Shared}{elt target iter:Expr}{ifs:List Expr}{scope:Scope}{pos:Pos}{it acc:Value}{env:Env}(I:Nat->Shared->Prop)
  (turn:∀n s,I n s->wpAny (model prog w) A (pyNext it) (fun r s₁=>match r with
   | none=>R (.ok .next) s₁
   | some v=>wpAny (model prog w) A (letOwnedTupleGo target it v) (fun _ s₁'=>wpAny (model prog w) A (assign target env v) (fun _ s₂ =>
     wpAny (model prog w) A (rg ifs env) (fun ok s₃ =>
      if ok=true then wpAny (model prog w) A (eval elt env) (fun x s₄ =>
       wpAny (model prog w) A (call (.builtin "list.append") [acc,x]) (fun _ s₅=>∃m,m < n/\I m s₅) (fun _ _=>False) s₄) (fun _ _=>False) s₃
      else ∃m,m < n/\I m s₃) (fun _ _=>False) s₂) (fun _ _=>False) s₁') (fun _ _=>False) s₁) (fun _ _=>False) s)
  (n:Nat) (h:I n s) :
  codeAny (model prog w) A (.compLoop (.ListComp elt [⟨target,iter,ifs,0⟩] scope pos) 0 it acc env) R s:=by
 refine codeAny_loop rfl I (fun n s hI=>?_) n h
 show wpAny _ A ((compTurn (.ListComp elt [⟨target,iter,ifs,0⟩] scope pos) 0 it acc env).onRaise (fun x=>do noteFrame x env;theTreesLotGoes x)) _ _ s
 refine wpAny_noted ?_
 rw[compTurn_list]
 refine zW (wpAny_standAt (zW (wpAny_mono (turn n s hI) (fun r s₁ h₁=>?_) fun _ _ h'=>h'.elim)))
 cases r with
 | none=>exact zX h₁
 | some v =>
  refine zW (wpAny_mono h₁ (fun _ s₁' h₁'=>?_) fun _ _ h'=>h'.elim)
  refine zW (wpAny_mono h₁' (fun _ s₂ h₂=>zW (wpAny_mono h₂ (fun ok s₃ h₃=>?_) fun _ _ h'=>h'.elim)) fun _ _ h'=>h'.elim)
  cases ok with
  | false=>exact zX ⟨rfl,h₃⟩
  | true =>
   exact zW (zW (wpAny_mono h₃ (fun x s₄ h₄=>zW (wpAny_mono h₄ (fun _ s₅ h₅=>zX (zX ⟨rfl,h₅⟩)) fun _ _ h'=>h'.elim)) fun _ _ h'=>h'.elim))
noncomputable def vG(X:Cx)(pins:List (Addr×Obj))(σ:St)(Q:VK)(acc:Value)(C:Addr)(r:Result)(s5:Shared):Prop :=
 ∃ (D:Addr) (H5:Hp) (m:Str->Option Value),acc=.ref D/\r=.ok .next/\Inv X pins σ H5 s5/\s5.heap.Ns C m/\bI X pins H5 C/\Q (.ref D) H5
noncomputable def yj(J:It)(g:TG)(tt:TT)(te:TE)(D:Addr)(σ0:St)(H0:Hp)(Q:VK):Prop :=
 ∃W:Nat->Nat->St->Hp->Prop,(∃m,W 0 m σ0 H0)/\∀i m σ H,W i m σ H ->
  (J.stop i H/\Q (.ref D) H)\/(J.go i H/\∀x H',J.yld i H x H'->g x σ H' fun σ2 H2=>tt σ2 H2 fun b H3 =>
   if b=true then te σ2 H3 fun v H4=>∃ys,H4 D=some (.lst ys)/\ys.length < sizeLine/\∃m',m' < m/\W (i+1) m' σ2 (upd H4 D (.lst (ys++[v])))
   else ∃m',m' < m/\W (i+1) m' σ2 H3)
section
variable {X:Cx}{pins:List (Addr×Obj)}{σ σ':St}{H:Hp}{s:Shared}{scope:Scope}{N:List Str}
 {tg iter elt:Expr}{ifs:List Expr}{pos:Pos}{g:TG}{tt:TT}{te:TE}
theorem o5{J:It}{fp:List Addr}{it:Addr}{tn:Nat->Heap->Prop}{Q:VK}(hc:X.calm=true)(I:Inv X pins σ H s)(T:Turn X.prog X.w X.K tg J fp it tn)(st:tn 0 s.heap)(hf:∀b∈fp,bI X pins H b)(hk:scope.kind=.function)
  (hfree:∀x∈scope.names,x.2=.free->X.env.kindOf x.1=some .cell\/X.env.kindOf x.1=some .free) (hdup:∀ {x:Str},(x,NameKind.cell)∈scope.names->(x,NameKind.free)∈scope.names->False)
  (hcap:∀ (i:Nat) (x:Str) (v:V),N[i]?=some x->σ'[i]?=some (some v)->scope.names.lookup x=some .free/\∃j:Nat,X.N[j]?=some x/\σ[j]?=some (some v)) (hlen:σ'.length=N.length)
  (hY:∀fp s H,PG (aJ X scope N fp s H) tg g/\GL (aJ X scope N fp s H) ifs tt/\PE (aJ X scope N fp s H) elt te)
  (hrd:∀D,H D=none->yj J g tt te D σ' (upd H D (.lst [])) Q) {E:Value->Shared->Prop} :
  wpAny (model X.prog X.w) X.A (newList []) (fun acc s₃=>wpAny (model X.prog X.w) X.A (newFunctionEnv scope X.env.globals (di X.env scope.names []) [] X.env.qual none .none (some X.env)) (fun cenv s₄ =>
   codeAny (model X.prog X.w) X.A (.compStart (.ListComp elt [⟨tg,iter,ifs,0⟩] scope pos) 0 (.ref it) acc { cenv with scope:=relabel scope X.env }) (vG X pins σ Q acc cenv.locals) s₄) E s₃) E s:=by
 refine wpAny_newObj_type ?_
 have hfl:∀b∈fp,b < s.heap.objs.size:=fun b hb=>let ⟨o,e,_⟩:=T.obj _ _ st b hb;zZ e
 have I3:=I.lnew (ys:=[]) (its:=[]) (t':=s.toks) .nil (Nat.zero_le _)
 have hD:H s.heap.objs.size=none:=I.fresh
 obtain⟨W,⟨m0,w0⟩,turn⟩:=hrd _ hD
 generalize e3:({ s with heap:=s.heap.push { cls:=.type "list",data:=.seq ([]:List Value).toArray },toks:=s.toks }:Shared)=s3 at I3
 have e3h:s3.heap=s.heap.push { cls:=.type "list",data:=.seq ([]:List Value).toArray }:=by rw[<- e3]
 generalize hH3:upd H s.heap.objs.size (.lst [])=H3 at I3 w0 turn
 have hlt:s.heap.objs.size < s3.heap.objs.size:=by rw[e3h,Heap.size_push];exact Nat.lt_succ_self _
 have hk3:∀b o,s.heap.get? b=some o->s3.heap.get? b=some o:=fun b o e=>by rw[e3h];exact zV _ e
 generalize s.heap.objs.size=D at *
 have f3:∀b∈fp,bI X pins H3 b:=fun b hb=>by
  obtain⟨f0,f⟩:=hf b hb
  refine⟨?_,f⟩
  rw[<- hH3,av (Nat.ne_of_lt (hfl b hb))]
  exact f0
 have st3:tn 0 s3.heap:=T.keep _ _ _ st fun b _ o e=>hk3 b o e
 refine uG fun h4 hns hkp hco=>?_
 dsimp only
 have I4:=BH (N:=N) (σ':=σ') (fp:=fp) I3 f3 (fun b hb=>Nat.lt_trans (hfl b hb) hlt) hk hfree hns hkp hco hdup hcap hlen s3.toks
 have fC:∀H',H' s3.heap.objs.size=none->bI X pins H' s3.heap.objs.size:=fun H' hn=>I3.fpOk (Nat.le_refl _) hn
 obtain⟨hg,htt,hte⟩:=hY fp s3 H3
 have efp:∀b∈fp,∀H':Hp,H' b=none->bI (aJ X scope N fp s3 H3) [] H' b:=fun b hb H' hn=>by
  refine⟨hn,(I4.ok.exf b hb).1,I4.ok.exfs b hb,.inl hb,(I4.ok.exf b hb).2,fun p hp=>?_⟩
  cases hp
 have loop:codeAny (model X.prog X.w) X.A (.compLoop (.ListComp elt [⟨tg,iter,ifs,0⟩] scope pos) 0 (.ref it) (.ref D) (dM X scope s3.heap.objs.size)) (vG X pins σ Q (.ref D) s3.heap.objs.size) { s3 with heap:=h4 }:=by
  refine qp (fun n s'=>∃i σ' H',Inv (aJ X scope N fp s3 H3) [] σ' H' s'/\tn i s'.heap/\(∀b∈fp,H' b=none)/\W i n σ' H') ?_ m0
   ⟨0,σ',H3,I4,T.keep _ _ _ st3 fun b _ o e=>hkp b o e,fun b hb=>(f3 b hb).1,w0⟩
  rintro n s5 ⟨i,σ5,H5,I5,st5,fr5,w5⟩
  rcases turn i n σ5 H5 w5 with ⟨stop,q⟩|⟨go,step⟩
  ·refine bw (T.done (aJ X scope N fp s3 H3) rfl rfl rfl hc i [] s5 σ5 H5 _ I5 (fun b hb=>efp b hb H5 (fr5 b hb)) st5 stop) fun r s6 ⟨hr,I6⟩=>?_
   subst hr
   obtain⟨m,hn6,_⟩:=I6.loc
   refine⟨D,H5,m,rfl,rfl,I3.call' I6.os I6.base I6.hok I6.bare (fun b hb=>?_),hn6,fC H5 I6.free,q⟩
   obtain⟨f0,f1,f2,f4,f5,f6⟩:=f3 b hb
   exact⟨f4,f1,f5,f6⟩
  ·refine bw (T.item (aJ X scope N fp s3 H3) rfl rfl rfl hc i [] s5 σ5 H5 _ I5 (fun b hb=>efp b hb H5 (fr5 b hb)) st5 go) fun r s6 ⟨u,hr,h6⟩=>?_
   subst hr
   refine bw h6 fun _ s7 ⟨x,H7,I7,r7,y7,st7,fr7⟩=>?_
   have I7':=I7.pinned (fun b hb=>efp b hb H7 (fr7 b hb)) (T.obj _ _ st7)
   have again:∀ {pl:List (Addr×Obj)}{σ9:St}{H9:Hp}{s9:Shared}{n':Nat},Inv (aJ X scope N fp s3 H3) ([]++kE fp s7.heap) σ9 H9 s9->W (i+1) n' σ9 H9->∃i σ' H',Inv (aJ X scope N fp s3 H3) [] σ' H' s9/\tn i s9.heap/\(∀b∈fp,H' b=none)/\W i n' σ' H':=fun {pl σ9 H9 s9 n'} I9 w9=>by
    refine⟨i+1,σ9,H9,I9.unpinned,T.keep _ _ _ st7 fun b hb o e=>(I9.pin (b,o) (yF _ (yF _ (cG hb e)))).1,fun b hb=>?_,w9⟩
    obtain⟨o,e,d⟩:=T.obj _ _ st7 b hb
    exact (I9.pin (b,o) (yF _ (yF _ (cG hb e)))).2.1
   refine bw (hg _ s7 σ5 H7 x u _ I7' r7 (step x H7 y7)) fun _ s8 ⟨σ8,H8,I8,q8⟩=>?_
   refine bw (htt _ s8 σ8 H8 _ I8 q8) fun ok s9 ⟨H9,I9,q9⟩=>?_
   cases ok with
   | false =>
    rw[if_neg (by decide)] at q9
    rw[if_neg (by decide)]
    obtain⟨m',hm,w9⟩:=q9
    exact⟨m',hm,again (pl:=[]) I9 w9⟩
   | true =>
    rw[if_pos rfl] at q9
    rw[if_pos rfl]
    refine bw (hte _ s9 σ8 H9 _ I9 q9) fun y s10 ⟨v,H10,I10,r10,ys,hD10,hz,m',hm,w10⟩=>?_
    refine bw (o7 (X:=aJ X scope N fp s3 H3) _ s10 σ8 H10 (.ref D) [v] (.ref D) [y] (fun _ H'=>W (i+1) m' σ8 H') I10 rfl (.cons r10 .nil) ⟨D,ys,v,rfl,rfl,hD10,hz,w10⟩) fun _ s11 ⟨_,H11,I11,_,w11⟩=>?_
    exact⟨m',hm,again (pl:=[]) I11 w11⟩
 exact codeAny_compStart_list loop (T.self _ 0 _ _ _ (T.keep _ _ _ st3 fun b _ o e=>hkp b o e) loop)
end
def yY(wi:TI)(g:TG)(tt:TT)(te:TE)(caps:St->St):TE:=fun σ H Q=>wi σ H fun J H1=>∀D,H1 D=none->yj J g tt te D (caps σ) (upd H1 D (.lst [])) Q
structure gH(X:Cx)(scope:Scope)(N:List Str)(caps:St->St):Prop where
 kind:scope.kind=.function
 free:∀x∈scope.names,x.2=.free->X.env.kindOf x.1=some .cell\/X.env.kindOf x.1=some .free
 dup:∀ {x:Str},(x,NameKind.cell)∈scope.names->(x,NameKind.free)∈scope.names->False
 loc:∀x∈scope.names,x.2=.local -> scope.names.lookup x.1=some .local
 cap:∀ (σ:St) (i:Nat) (x:Str) (v:V),N[i]?=some x->(caps σ)[i]?=some (some v)->scope.names.lookup x=some .free/\∃j:Nat,X.N[j]?=some x/\σ[j]?=some (some v)
 len:∀σ:St,(caps σ).length=N.length
section
variable {X:Cx}{scope:Scope}{N:List Str}{caps:St->St}{tg iter elt:Expr}{ifs:List Expr}{pos:Pos}{wi:TI}{g:TG}{tt:TT}{te:TE}
theorem Cj(hc:X.calm=true)(S:gH X scope N caps)(hi:PI X tg iter wi)
  (hY:∀fp s H,PG (aJ X scope N fp s H) tg g/\GL (aJ X scope N fp s H) ifs tt/\PE (aJ X scope N fp s H) elt te)
  (hs:∀x,foldedSetIterable iter X.env x=pure x:=by intro _;rfl):PE X (.ListComp elt [⟨tg,iter,ifs,0⟩] scope pos) (yY wi g tt te caps):=by
 intro pins s σ H Q I h
 rw[eval_ListComp]
 refine wpAny_comprehension_free (use:=none) rfl hs (jw (iS I.ok S.free)) S.kind S.loc (bw (hi pins s σ H _ I h) fun v s1 h1=>bw h1 fun itv s2 h2=>?_)
 obtain⟨it,fp,tn,J,H2,e,I2,T,st2,f2,rd⟩:=h2
 subst e
 refine bw (o5 (iter:=iter) (pos:=pos) (E:=X.xe) hc I2 T st2 f2 S.kind S.free S.dup (S.cap σ) (S.len σ) hY rd) fun acc s3 h3=>bw h3 fun cenv s4 h4=>?_
 refine codeAny_mono h4 fun r s5 h5=>?_
 obtain⟨D,H5,m,rfl,rfl,I5,hn,fC,q⟩:=h5
 refine⟨m,hn,fun h' sb=>?_⟩
 obtain⟨f0,f1,f2',f3,f4,f5⟩:=fC
 exact⟨.ref D,H5,I5.turned (t':=s5.toks) (fun b o hb e=>(sb.2 b hb).trans e) f0 f1 f3 f4 f5,rfl,q⟩
theorem Cp{i:Nat}{y:Str}{py spos:Pos}(hc:X.calm=true)(S:gH X scope N caps)(hi:PI X tg iter wi)
  (hY:∀fp s H,PG (aJ X scope N fp s H) tg g/\GL (aJ X scope N fp s H) ifs tt/\PE (aJ X scope N fp s H) elt te)
  (hN:X.N.Nodup) (hiy:X.N[i]?=some y) (hy:X.env.scope.names.lookup y=some .local)
  (hsw:swapsWith (.ListComp elt [⟨tg,iter,ifs,0⟩] scope pos) (some (.Name y py)) spos.line X.env=pure true)
  (hs:∀x,foldedSetIterable iter X.env x=pure x:=by intro _;rfl):PS X (.Assign [.Name y py] (.ListComp elt [⟨tg,iter,ifs,0⟩] scope pos) spos) (yV (yY wi g tt te caps) (sX i)):=by
 intro pins s σ H D I h
 rw[exec_Assign_Name_used _ _ _ _ hsw]
 refine zW (wpAny_standAt (zW ?_))
 show wpAny _ X.A (do let _ <- comprehension (.ListComp elt [⟨tg,iter,ifs,0⟩] scope pos) scope X.env _ (newList []) false (eval iter X.env) (some (assign (.Name y py) X.env))) _ _ s
 refine zW (wpAny_mono (wpAny_comprehension_free (use:=some (assign (.Name y py) X.env)) (Q:=fun _ s'=>SP X pins D .next s') rfl hs (jw (iS I.ok S.free)) S.kind S.loc
  (bw (hi pins s σ H _ I h) fun v s1 h1=>bw h1 fun itv s2 h2=>?_)) (fun _ s' hq=>zX (zX hq)) fun _ _ e=>e)
 obtain⟨it,fp,tn,J,H2,e,I2,T,st2,f2,rd⟩:=h2
 subst e
 refine bw (o5 (iter:=iter) (pos:=pos) (E:=X.xe) hc I2 T st2 f2 S.kind S.free S.dup (S.cap σ) (S.len σ) hY rd) fun acc s3 h3=>bw h3 fun cenv s4 h4=>?_
 refine codeAny_mono h4 fun r s5 h5=>?_
 obtain⟨D',H5,m,rfl,rfl,I5,hn,fC,q⟩:=h5
 show wpAny _ X.A (assign (.Name y py) X.env (.ref D')) _ _ _
 refine wpAny_assign_Name (oO (v:=.ref D') I5 hN hiy (.inl hy) rfl (fun s6 I6 ⟨a,sa,ha⟩=>?_) (.inr hy))
 obtain⟨f0,f1,f2',f3,f4,f5⟩:=fC
 have hne:cenv.locals≠a:=by
  rcases ha with z|z
  ·rw[z];exact f1
  ·exact fun w=>f4 y a z w.symm
 refine⟨m,hn.sameBut sa hne,fun h' sb=>?_⟩
 exact⟨_,H5,I6.turned (t':=s6.toks) (fun b o hb e=>(sb.2 b hb).trans e) f0 f1 f3 f4 f5,q⟩
end
noncomputable abbrev IZ(X:Cx)(qual:Str)(scope:Scope)(f c L:Addr):Env:=W.envX qual scope L f (.ref c) (di X.env scope.names [])
noncomputable def eX(X:Cx)(A:Around)(qual:Str)(scope:Scope)(N:List Str)(f c:Addr)(s:Shared)(H:Hp):Cx where
 prog:=X.prog
 w:=X.w
 K:=X.K
 mg:=X.mg
 base:=X.base
 A:=A.deeper (IZ X qual scope f c s.heap.objs.size)
 N:=N
 s₀:=s
 H₀:=H
 env:=IZ X qual scope f c s.heap.objs.size
 outer:=X.stack
 stack:=IZ X qual scope f c s.heap.objs.size::X.stack
 ex:=[]
 fn:=fun _=>false
 calm:=true
 pn:=[]
 xe:=fun _ _=>False
section
variable {X:Cx}{pins:List (Addr×Obj)}{σ:St}{H:Hp}{s:Shared}{scope:Scope}{N:List Str}{h1:Heap}{A:Around}{caps:St->St}{p qual:Str}{f c:Addr}{u:Value}{v:V}
theorem Dw(I:Inv X pins σ H s)(hd:A.handled=none)(hA:A.frames=some X.stack)(S:gH X scope N caps)(hnc:∀x∈scope.names,x.2≠.cell)(hN0:N[0]?=some p)(hp:scope.names.lookup p=some .local)(hNd:N.Nodup)(r:RelV v u)
  (hns:h1.Ns s.heap.objs.size (fun x=>[(p,u)].reverse.lookup x)) (hkeep:∀b o,s.heap.get? b=some o->h1.get? b=some o) (t':Nat) :
  Inv (eX X A qual scope N f c s H) [] ((caps σ).set 0 (some v)) H { s with heap:=h1,toks:=t' }:=by
 have hcl:=iS I.ok S.free
 have clx:∀x c,(di X.env scope.names []).lookup x=some c->X.env.cells.lookup x=some c:=fun x c e=>jc hcl (fun _ _ z=>by cases z) x c (mem_of_lookup e)
 have noA:∀b:Addr,b∉(eX X A qual scope N f c s H).ex:=fun b z=>absurd (show b∈([]:List Addr) from z) (by simp)
 refine⟨⟨I.ok.mod,S.kind,rfl,rfl,Nat.le_refl _,fun x y d e1 e2=>I.ok.inj x y d (clx x d e1) (clx y d e2),fun x hx=>?_,fun x d z=>?_,fun _=>hd,Around.frames_deeper hA,.inr ⟨rfl,rfl⟩,fun b z=>absurd z (noA b),I.bs,yE I.ok.bsz I.sz,fun b _ _=>noA b,fun b z=>absurd z (noA b),I.stack,I.stkFree⟩,
  rfl,I.bare,Un.kept hkeep,⟨_,hns,fun i x w e1 e2 e3=>?_⟩,fun x d e=>?_,I.hok.fresh (Nat.le_refl _),fun x d e=>I.freeC x d (clx x d e),fun q hq=>absurd (show q∈([]:List (Addr×Obj)) from hq) (by simp),I.hok.kept hkeep,?_⟩
 ·rcases hx with hx|hx
  ·exact absurd rfl (hnc _ (mem_of_lookup (show scope.names.lookup x=some .cell from hx)))
  ·exact eE (.inl hx)
 ·cases z
 ·cases i with
  | zero =>
   have e1:N[0]?=some x:=e1
   rw[hN0] at e1
   cases e1
   have hl:0 < (caps σ).length:=by rw[S.len];exact (zU.mp hN0).1
   rw[List.getElem?_set_self hl] at e2
   cases e2
   exact⟨u,r,.inl ⟨hp,by simp⟩⟩
  | succ i =>
   have e2':(caps σ)[i+1]?=some (some w):=by
    rw[List.getElem?_set_ne (by omega)] at e2;exact e2
   obtain⟨hfr,j,hj,hv⟩:=S.cap σ (i+1) x w e1 e2'
   have hm:(x,NameKind.free)∈scope.names:=mem_of_lookup hfr
   obtain⟨m,hn,hl⟩:=I.loc
   have kx:=S.free _ hm rfl
   obtain⟨u',ru,lk⟩:=hl j x w hj hv (kx.elim (fun k=>.inr (.inl k)) fun k=>.inr (.inr k))
   refine⟨u',ru,.inr ⟨.inr hfr,?_⟩⟩
   rcases lk with ⟨k,_⟩|⟨_,c',ec,ic⟩
   ·have k:X.env.kindOf x=some .local:=k
    rcases kx with k'|k'<;>· rw[k] at k';cases k'
   ·obtain⟨c'',hc'⟩:=eE (env:=X.env) (acc:=[]) (.inl hfr)
    have e':=clx x c'' hc'
    rw[ec] at e'
    cases e'
    exact⟨c',hc',ic.keeps hkeep⟩
 ·obtain⟨w,q⟩:=I.cell x d (clx x d e)
  exact⟨w,q.keeps hkeep⟩
 ·rw[yD];exact S.len σ
theorem sr{k:Nat}{params:Arguments}{body:Expr}{pm ctv:Value}{name:Str}{te:TE}{Q:VK}(I:Inv X pins σ H s)(hr:da (k+1) A)(hA:A.frames=some X.stack)(S:gH X scope N caps)(hnc:∀x∈scope.names,x.2≠.cell)
  (hN0:N[0]?=some p) (hp:scope.names.lookup p=some .local) (hNd:N.Nodup) (hco:scope.isCoroutine=false) (hgen:scope.isGenerator=false)
  (hf:s.heap.get? f=some (W.kla_obj name qual params body scope (di X.env scope.names []) pm c ctv)) (hcod:H c=some (.cod qual)) (hb:bindArgs (W.kla_fn name qual params body scope (di X.env scope.names []) pm (.ref c) ctv) ⟨[u],[]⟩=pure [(p,u)])
  (r:RelV v u) (hY:PE (eX X A qual scope N f c s H) body te) (q:te ((caps σ).set 0 (some v)) H Q) :
  wpAny (model X.prog X.w) A (call (.ref f) [u]) (EP X pins σ Q) (fun _ _=>False) s:=by
 have hcd:s.heap.CodeRec (.ref c) qual:=I.hok c _ hcod
 refine wpAny_call (W.kla_callFunE hr.depth hf rfl hco hgen rfl hcd ?_)
 rw[hb]
 refine zX (wpAny_newFunctionEnv hnc (fun y hy=>?_) (fun h1 hns hsb=>⟨?_,?_⟩) S.kind)
 ·rw[yL.mp hy];exact hp
 ·exact I.nolimit.fresh _ hsb
 ·have hk1:∀b o,s.heap.get? b=some o->h1.get? b=some o:=fun b o e=>hsb.extBut b o (Nat.ne_of_lt (zZ e)) (zV _ e)
  have I1:=Dw (qual:=qual) (f:=f) (c:=c) I hr.hd hA S hnc hN0 hp hNd r hns hk1 (s.toks+[(p,u)].length)
  refine W.kla_codeExpr (wpAny_mono (hY [] _ _ H Q I1 q) (fun w s' ⟨v',H',I',r',q'⟩=>?_) fun e s' h=>False.elim h)
  exact⟨v',H',I.call' I'.os I'.base I'.hok I'.bare (fun b z=>absurd (show b∈([]:List Addr) from z) (by simp)),r',q'⟩
end
theorem ub{pos pos':Pos}{c v:Value}(l:List Value)(h:TriplesOk l)(e:codeAmong pos' (l++[rawInt pos.line,rawInt pos.col,c])=some v):codeAmong pos' l=some v\/v=c:=by
 fun_induction TriplesOk l with
 | case1 =>
  simp only[List.nil_append,codeAmong,rawInt] at e
  split at e
  ·cases e;exact .inr rfl
  ·cases e
 | case2 a t b u x rest ih =>
  simp only[List.cons_append,codeAmong] at e ⊢
  split at e
  ·rename_i hc;rw[if_pos hc];exact .inl e
  ·rename_i hc;rw[if_neg hc];exact ih h e
 | case3 l h1 h2=>exact h.elim
section
variable {X:Cx}{pins:List (Addr×Obj)}{σ:St}{H:Hp}{s:Shared}{scope:Scope}{N:List Str}{caps:St->St}{qual:Str}{c P:Addr}
theorem qV{params:Arguments}{body:Expr}{lpos:Pos}{Q:Value->Shared->Prop}(I:Inv X pins σ H s)(S:gH X scope N caps)(hq:X.env.qual++"<lambda>"=qual)(hcode:X.env.code=.ref c)(C:W.CodeHd X.base c P)(hT:H P=some (.tab qual))(hB:Io X.mg X.base)
  (hdef:defaultsOf params X.env=([],[]))
  (h:∀ (f c':Addr) (pm ctv:Value) (s':Shared) (H':Hp),Inv X pins σ H' s'->s'.heap.get? f=some (W.kla_obj "<lambda>" qual params body scope (di X.env scope.names []) pm c' ctv)->H' f=none->H' c'=some (.cod qual)->aH H H'->bI X pins H' f->(∀b,H' b≠none->H b≠none\/H' b=some (.cod qual))->Q (.ref f) s') :
  wpAny (model X.prog X.w) X.A (eval (.Lambda params body scope lpos) X.env) Q X.xe s:=by
 have hcl:=jw (iS I.ok S.free)
 have hCs:=C.keeps I.bk
 have hg:s.heap.Ns mainGlobals X.mg:=by
  obtain⟨o,es,ep,e,r⟩:=I.ok.mod.glob
  exact⟨o,es,ep,I.bk _ _ e,r⟩
 have hPn:X.base.get? P=none:=by
  cases e:X.base.get? P with
  | none=>rfl
  | some o=>rw[(I.bs P o e).2] at hT;cases hT
 obtain⟨ps,hP,ht,hco⟩:=I.hok P _ hT
 have hb:s.heap.BuiltinsAt X.mg P:=by
  obtain⟨bm,o,b1,b2,b3,b4,b5⟩:=hB
  exact⟨bm,o,b1,b2,b3,(fun z=>by rw[z,hPn] at b4;cases b4),I.bk _ _ b4,b5⟩
 refine W.kla_eval hdef ?_
 rw[hq]
 cases hf:codeAmong lpos ps.toList with
 | some cv =>
  obtain⟨c',rfl,hc'⟩:=hco lpos cv hf
  refine W.kla_makeFunctionHit hcl I.ok.glob hg hcode hCs hP ht hf hb fun ctv h' tk kp hz=>?_
  have kp2:∀b o,s.heap.get? b=some o->(h'.push (W.kla_obj "<lambda>" qual params body scope (di X.env scope.names []) ((X.mg "__name__").getD .none) c' ctv)).get? b=some o:=fun b o e=>zV _ (kp b o e)
  have hn:H h'.objs.size=none:=I.hok.fresh hz
  exact h _ c' _ ctv _ H (I.kept (t':=tk) kp2) (zY _ rfl) hn hc' (.refl _) (I.fpOk hz hn) fun b z=>.inl z
 | none =>
  have hgP:mainGlobals≠P:=fun z=>by
   obtain⟨o,es,ep,e,r⟩:=I.ok.mod.glob
   rw[z,hPn] at e;cases e
  refine W.kla_makeFunction hcl I.ok.glob hg hcode hCs hP ht hf hgP hb fun c' ctv h' tk hx hc1 hc2 hcr hP'=>?_
  have hn:H c'=none:=I.hok.fresh hc1
  have hz:s.heap.objs.size<=h'.objs.size:=Nat.le_of_lt (Nat.lt_of_le_of_lt hc1 hc2)
  have nP:∀ {b:Addr}{u:HO},H b=some u->(∀q,u≠.tab q)->b≠P:=fun {b u} e hne z=>by subst z;rw[hT] at e;cases e;exact hne _ rfl
  have kp:∀b o,b≠P->s.heap.get? b=some o->(h'.push (W.kla_obj "<lambda>" qual params body scope (di X.env scope.names []) ((X.mg "__name__").getD .none) c' ctv)).get? b=some o:=fun b o hb e=>zV _ (hx b o hb e)
  have hPc:P≠c':=fun z=>by rw[<- z,hT] at hn;cases hn
  have up:∀b u,H b=some u->upd H c' (.cod qual) b=some u:=fun b u e=>by rw[av (aC e hn)];exact e
  have un:Un X.fs [] H (upd H c' (.cod qual)) s.heap (h'.push (W.kla_obj "<lambda>" qual params body scope (di X.env scope.names []) ((X.mg "__name__").getD .none) c' ctv)):=by
   refine⟨fun b o e n _ _=>kp b o (fun z=>by rw[z,hT] at n;cases n) e,fun b o e n _ _=>⟨o.slots,kp b o (fun z=>by rw[z,hT] at n;cases n) e⟩,fun b o e n _=>?_,fun b o e _=>?_,fun b xs e=>up b _ e,fun b o u e=>up b _ e,⟨fun b u e _=>up b u e,fun b q ps' e z=>?_⟩⟩
   ·rw[av (Nat.ne_of_lt (zP (zZ e) hc1))];exact n
   ·by_cases hb:b=P
    ·subst hb;exact⟨_,zV _ hP'⟩
    ·exact⟨o,kp b o hb e⟩
   ·by_cases hb:b=P
    ·subst hb
     rw[hP] at z
     cases z
     exact⟨_,zV _ hP'⟩
    ·exact⟨#[],by rw[Array.append_empty];exact kp b _ hb z⟩
  have hok:lS X.prog X.w (upd H c' (.cod qual)) (h'.push (W.kla_obj "<lambda>" qual params body scope (di X.env scope.names []) ((X.mg "__name__").getD .none) c' ctv)):=by
   intro b u e
   by_cases hbc:b=c'
   ·subst hbc
    rw[aw] at e
    cases e
    obtain⟨c0,oc,vs,t,e0,e1,r⟩:=hcr
    exact⟨c0,oc,vs,t,e0,zV _ e1,r⟩
   ·rw[av hbc] at e
    by_cases hb:b=P
    ·subst hb
     rw[hT] at e
     cases e
     refine⟨_,zV _ hP',?_,fun pos v hv=>?_⟩
     ·have:=TriplesOk_snoc lpos.line lpos.col (.ref c') ps.toList ht
      simpa using this
     ·have hv':codeAmong pos (ps.toList++[rawInt lpos.line,rawInt lpos.col,.ref c'])=some v:=by simpa using hv
      rcases ub ps.toList ht hv' with z|z
      ·obtain⟨c0,z1,z2⟩:=hco pos v z
       exact⟨c0,z1,up _ _ z2⟩
      ·exact⟨c',z,aw⟩
    ·exact (I.hok b u e).stay (fun d o hd eo=>kp d o (by
      rcases hd with rfl|hd
      ·exact hb
      ·exact nP hd fun q z=>by cases z) eo) (fun d hd=>up d _ hd) fun d o hd _=>up d _ hd
  have I':=I.un (t':=tk) un hok
  have hnf:upd H c' (.cod qual) h'.objs.size=none:=by
   rw[av (Nat.ne_of_gt hc2)];exact I.hok.fresh hz
  refine h _ c' _ ctv _ _ I' (zY _ rfl) hnf aw up (I.fpOk hz hnf) fun b z=>?_
  by_cases hbc:b=c'
  ·subst hbc;exact .inr aw
  ·rw[av hbc] at z;exact .inl z
end
end L2
namespace Dl
open PySem L2 PySem.Spec PyProof.Rows
noncomputable abbrev D:=PyData
mutual
noncomputable def Rep(K:W.Frag)(H:Hp):D->V->Prop
 | .none,v=>v=.non
 | .bool b,v=>v=.bl b
 | .int i,v=>v=.int i
 | .str x,v=>v=.str x
 | .tuple ds,v=>∃a vs,v=.ref a/\fP K H a vs/\aj K H ds vs
 | .list ds,v=>∃a vs,v=.ref a/\fj K H a vs/\aj K H ds vs
 | .dict _,_=>False
noncomputable def aj(K:W.Frag)(H:Hp):List D->List V->Prop
 | [],vs=>vs=[]
 | d::ds,vs=>∃v r,vs=v::r/\Rep K H d v/\aj K H ds r
end
theorem au{K:W.Frag}{H H':Hp}{a:Addr}{xs:List V}(e:aH H H')(h:fP K H a xs):fP K H' a xs:=by
 rcases h with (h|⟨o,h⟩)|h
 ·exact .inl (.inl (e _ _ h))
 ·exact .inl (.inr ⟨o,e _ _ h⟩)
 ·exact .inr h
mutual
theorem Rep.mono{K:W.Frag}{H H':Hp}(e:aH H H'):∀ {d:D}{v:V},Rep K H d v->Rep K H' d v
 | .none,_,h=>h
 | .bool _,_,h=>h
 | .int _,_,h=>h
 | .str _,_,h=>h
 | .tuple ds,_,h=>by
  simp only[Rep] at h ⊢
  obtain⟨a,vs,rfl,q,r⟩:=h
  exact⟨a,vs,rfl,au e q,aj.mono e r⟩
 | .list ds,_,h=>by
  simp only[Rep] at h ⊢
  obtain⟨a,vs,rfl,q,r⟩:=h
  exact⟨a,vs,rfl,e.seq q,aj.mono e r⟩
 | .dict _,_,h=>h
theorem aj.mono{K:W.Frag}{H H':Hp}(e:aH H H'):∀ {ds:List D}{vs:List V},aj K H ds vs->aj K H' ds vs
 | [],_,h=>h
 | d::ds,_,h=>by
  simp only[aj] at h ⊢
  obtain⟨v,r,rfl,a,b⟩:=h
  exact⟨v,r,rfl,Rep.mono e a,aj.mono e b⟩
end
section
variable {K:W.Frag}{H:Hp}
theorem aj.nil:aj K H [] []:=by simp[aj]
theorem aj.cons{d:D}{v:V}{ds:List D}{vs:List V}(a:Rep K H d v)(b:aj K H ds vs):aj K H (d::ds) (v::vs):=by
 simp only[aj];exact⟨v,vs,rfl,a,b⟩
theorem aj.cons_inv{d:D}{ds:List D}{vs:List V}(h:aj K H (d::ds) vs):∃v r,vs=v::r/\Rep K H d v/\aj K H ds r:=by simpa only[aj] using h
theorem aj.nil_inv{vs:List V}(h:aj K H [] vs):vs=[]:=by simpa only[aj] using h
theorem aj.length:∀ {ds:List D}{vs:List V},aj K H ds vs->vs.length=ds.length
 | [],_,h=>by rw[h.nil_inv];rfl
 | d::ds,_,h=>by obtain⟨v,r,rfl,_,b⟩:=h.cons_inv;simp[aj.length b]
theorem aj.get:∀ {ds:List D}{vs:List V}{i:Nat}{v:V},aj K H ds vs->vs[i]?=some v->∃d,ds[i]?=some d/\Rep K H d v
 | [],_,i,v,h,e=>by rw[h.nil_inv] at e;simp at e
 | d::ds,_,i,v,h,e=>by
  obtain⟨v',r,rfl,a,b⟩:=h.cons_inv
  cases i with
  | zero=>simp at e;subst e;exact⟨d,rfl,a⟩
  | succ i=>simp at e;obtain⟨d',h1,h2⟩:=aj.get b e;exact⟨d',by simpa using h1,h2⟩
theorem aj.getD:∀ {ds:List D}{vs:List V}{i:Nat}{d:D},aj K H ds vs->ds[i]?=some d->∃v,vs[i]?=some v/\Rep K H d v
 | [],_,i,d,h,e=>by simp at e
 | d::ds,_,i,d',h,e=>by
  obtain⟨v',r,rfl,a,b⟩:=h.cons_inv
  cases i with
  | zero=>simp at e;subst e;exact⟨v',rfl,a⟩
  | succ i=>simp at e;obtain⟨v,h1,h2⟩:=aj.getD b e;exact⟨v,by simpa using h1,h2⟩
theorem aj.append:∀ {ds es:List D}{vs us:List V},aj K H ds vs->aj K H es us->aj K H (ds++es) (vs++us)
 | [],_,_,_,h,g=>by rw[h.nil_inv];exact g
 | d::ds,_,_,_,h,g=>by obtain⟨v,r,rfl,a,b⟩:=h.cons_inv;exact aj.cons a (aj.append b g)
theorem aj.take:∀ {ds:List D}{vs:List V}(n:Nat),aj K H ds vs->aj K H (ds.take n) (vs.take n)
 | [],_,n,h=>by rw[h.nil_inv];simp[aj]
 | d::ds,_,0,h=>by simp[aj]
 | d::ds,_,n+1,h=>by obtain⟨v,r,rfl,a,b⟩:=h.cons_inv;exact aj.cons a (aj.take n b)
theorem aj.drop:∀ {ds:List D}{vs:List V}(n:Nat),aj K H ds vs->aj K H (ds.drop n) (vs.drop n)
 | [],_,n,h=>by rw[h.nil_inv];simp[aj]
 | d::ds,_,0,h=>h
 | d::ds,_,n+1,h=>by obtain⟨v,r,rfl,a,b⟩:=h.cons_inv;exact aj.drop n b
theorem aj.reverse:∀ {ds:List D}{vs:List V},aj K H ds vs->aj K H ds.reverse vs.reverse
 | [],_,h=>by rw[h.nil_inv];simp[aj]
 | d::ds,_,h=>by
  obtain⟨v,r,rfl,a,b⟩:=h.cons_inv
  rw[List.reverse_cons,List.reverse_cons]
  exact aj.append (aj.reverse b) (aj.cons a aj.nil)
end
structure bo(HF H HF' H':Hp):Prop where
 hh:aH H H'
 ff:aH HF HF'
 fh:aH HF' H'
 nw:∀a o,HF' a=some o->HF a=some o\/H a=none
theorem bo.refl{HF H:Hp}(s:aH HF H):bo HF H HF H:=⟨.refl _,.refl _,s,fun _ _ e=>.inl e⟩
theorem bo.trans{HF H HF1 H1 HF2 H2:Hp}(a:bo HF H HF1 H1)(b:bo HF1 H1 HF2 H2):bo HF H HF2 H2 :=
 ⟨a.hh.trans b.hh,a.ff.trans b.ff,b.fh,fun x o e=>(b.nw x o e).elim (fun z=>a.nw x o z) fun z=>.inr (a.hh.free z)⟩
theorem cZ{H:Hp}{p:Addr}{o:HO}(h:H p=none):aH H (upd H p o):=fun b u e=>by rw[av (aC e h)];exact e
theorem bo.new{HF H:Hp}{p:Addr}{o:HO}(s:aH HF H)(h:H p=none):bo HF H (upd HF p o) (upd H p o):=by
 have hf:HF p=none:=s.free h
 refine⟨cZ h,cZ hf,fun b u e=>?_,fun b u e=>?_⟩
 ·by_cases hb:b=p
  ·subst hb;rw[aw] at e ⊢;exact e
  ·rw[av hb] at e ⊢;exact s b u e
 ·by_cases hb:b=p
  ·subst hb;exact .inr h
  ·rw[av hb] at e;exact .inl e
theorem bo.own{HF H:Hp}{p:Addr}{o:HO}(s:aH HF H)(h:H p=none):bo HF H HF (upd H p o) :=
 ⟨cZ h,.refl _,fun b u e=>by rw[av (aC (s b u e) h)];exact s b u e,fun _ _ e=>.inl e⟩
theorem bo.freeze{HF H HF1 H1:Hp}{p:Addr}{o:HO}(g:bo HF H HF1 H1)(h:H p=none)(h1:H1 p=some o)(hf:HF1 p=none):bo HF H (upd HF1 p o) H1 :=
 ⟨g.hh,g.ff.trans (cZ hf),fun b u e=>by
  by_cases hb:b=p
  ·subst hb;rw[aw] at e;rw[h1,<- e]
  ·rw[av hb] at e;exact g.fh b u e,fun b u e=>by
  by_cases hb:b=p
  ·subst hb;exact .inr h
  ·rw[av hb] at e;exact g.nw b u e⟩
def iL:List Str:=["ways_of","turned_order","fairest"]
def eG(K:W.Frag)(HF:Hp):Prop:=∀ (f:Addr) (oc:Value) (od:Option Addr) (fd:FuncData) (sl:Array (Option Value)) (c P:Addr),K.lookup f=some ⟨oc,od,.func fd,sl⟩->fd.qualname∈iL->fd.code=.ref c->W.codeHdIn K c P=true->HF P=some (.tab (fd.qualname++".<locals>."++"<lambda>"))
theorem eG.mono{K:W.Frag}{HF HF':Hp}(h:eG K HF)(e:aH HF HF'):eG K HF':=fun f oc od fd sl c P a b d q=>e _ _ (h f oc od fd sl c P a b d q)
noncomputable abbrev Env:=List (Option D)
structure b8(K:W.Frag)(HF:Hp)(ρ:Env)(σ:L2.St):Prop where
 get:∀ (i:Nat) (d:D),ρ[i]?=some (some d)->∃v,σ[i]?=some (some v)/\Rep K HF d v
 len:ρ.length<=σ.length
 tb:eG K HF
theorem b8.mono{K:W.Frag}{HF HF':Hp}{ρ:Env}{σ:L2.St}(h:b8 K HF ρ σ)(e:aH HF HF'):b8 K HF' ρ σ:=⟨fun i d q=>let ⟨v,a,b⟩:=h.get i d q;⟨v,a,b.mono e⟩,h.len,h.tb.mono e⟩
def tD(K:W.Frag)(f:Env->Option D):TE:=fun σ H Q=>∃HF ρ d,aH HF H/\b8 K HF ρ σ/\f ρ=some d/\∀v H' HF',bo HF H HF' H'->Rep K HF' d v->Q v H'
def DE(X:Cx)(e:Expr)(f:Env->Option D):Prop:=PE X e (tD X.K f)
def tF(K:W.Frag)(f:Env->Option (List D)):TE:=fun σ H Q=>∃HF ρ ds,aH HF H/\b8 K HF ρ σ/\f ρ=some ds /\
 ∀a vs H' HF',bo HF H HF' H'->H a=none->HF' a=none->H' a=some (.lst vs)->aj K HF' ds vs->Q (.ref a) H'
def DF(X:Cx)(e:Expr)(f:Env->Option (List D)):Prop:=PE X e (tF X.K f)
def FM(K:W.Frag)(f:Env->Option Bool):TT:=fun σ H Q=>∃HF ρ b,aH HF H/\b8 K HF ρ σ/\f ρ=some b/\∀H' HF',bo HF H HF' H'->Q b H'
def DT(X:Cx)(e:Expr)(f:Env->Option Bool):Prop:=PT X e (FM X.K f)
def Ja(K:W.Frag)(f:Env->Option (List D)):TA:=fun σ H Q=>∃HF ρ ds,aH HF H/\b8 K HF ρ σ/\f ρ=some ds/\∀vs H' HF',bo HF H HF' H'->aj K HF' ds vs->Q vs H'
def DA(X:Cx)(es:List Expr)(f:Env->Option (List D)):Prop:=PA X es (Ja X.K f)
section
variable {X:Cx}
theorem aG{e:Expr}{t t':TE}(h:PE X e t)(i:∀σ H Q,t' σ H Q->t σ H Q):PE X e t':=fun pins s σ H Q I q=>h pins s σ H Q I (i σ H Q q)
theorem pI{e:Expr}{t t':TT}(h:PT X e t)(i:∀σ H Q,t' σ H Q->t σ H Q):PT X e t':=fun pins s σ H Q I q=>h pins s σ H Q I (i σ H Q q)
theorem yS{e:List Expr}{t t':TA}(h:PA X e t)(i:∀σ H Q,t' σ H Q->t σ H Q):PA X e t':=fun pos pins s σ H Q I q=>h pos pins s σ H Q I (i σ H Q q)
theorem bs{α β:Type}{x:Option α}{f:α->Option β}{b:β}(h:x.bind f=some b):∃a,x=some a/\f a=some b:=by
 cases x with
 | none=>cases h
 | some a=>exact⟨a,rfl,h⟩
theorem DF.de{e:Expr}{f:Env->Option (List D)}(h:DF X e f):DE X e (fun ρ=>(f ρ).map PyData.list):=aG h fun σ H Q ⟨HF,ρ,d,sm,eo,hf,q⟩=>by
 have hf:(f ρ).map PyData.list=some d:=hf
 cases e1:f ρ with
 | none=>rw[e1] at hf;cases hf
 | some ds =>
  rw[e1] at hf
  obtain rfl:PyData.list ds=d:=Option.some.inj hf
  refine⟨HF,ρ,ds,sm,eo,e1,fun a vs H' HF' g ha hf' h' r=>q _ _ (upd HF' a (.lst vs)) (g.freeze ha h' hf') ?_⟩
  simp only[Rep]
  exact⟨a,vs,rfl,.inl (.inl aw),r.mono (cZ hf')⟩
noncomputable def ab(i:Nat):Env->Option D:=fun ρ=>(ρ[i]?).getD none
theorem FB(i:Nat){x:Str}{pos:Pos}(hN:X.N[i]?=some x)(hv:Ct X.env.scope x)(hd:(x == ("__debug__":Str))=false:=by decide)(hcd:(x == ("__classdict__":Str))=false:=by decide):DE X (.Name x pos) (ab i) :=
 aG (kR hN hv hd hcd) fun σ H Q ⟨HF,ρ,d,sm,eo,hf,q⟩=>by
  have hf:(ρ[i]?).getD none=some d:=hf
  cases e:ρ[i]? with
  | none=>rw[e] at hf;cases hf
  | some o =>
   rw[e] at hf
   have hf:o=some d:=hf
   subst hf
   obtain⟨v,a,b⟩:=eo.get i d e
   exact⟨v,a,q v H HF (.refl sm) b⟩
noncomputable def fC(d:D):Env->Option D:=fun _=>some d
theorem Ey{i j pos}:DE X (.Constant (.int i) j pos) (fC (.int i)):=aG pF fun σ H Q ⟨HF,ρ,d,sm,eo,hf,q⟩=>by cases hf;exact q _ H HF (.refl sm) (by simp[Rep])
theorem Hb{b j pos}:DE X (.Constant (.bool b) j pos) (fC (.bool b)):=aG Hz fun σ H Q ⟨HF,ρ,d,sm,eo,hf,q⟩=>by cases hf;exact q _ H HF (.refl sm) (by simp[Rep])
theorem F8{j pos}:DE X (.Constant .none j pos) (fC .none):=aG EF fun σ H Q ⟨HF,ρ,d,sm,eo,hf,q⟩=>by cases hf;exact q _ H HF (.refl sm) (by simp[Rep])
theorem FP{x j pos}:DE X (.Constant (.str x) j pos) (fC (.str x)):=aG Gu fun σ H Q ⟨HF,ρ,d,sm,eo,hf,q⟩=>by cases hf;exact q _ H HF (.refl sm) (by simp[Rep])
theorem Dc{x:Str}{i:Int}{t:Tok}{pos:Pos}(hg:Gl X x)(hm:X.mg x=some (.int i t))(hd:(x == ("__debug__":Str))=false:=by decide):DE X (.Name x pos) (fC (.int i)) :=
 aG (qc (v:=.int i) hg hm ⟨t,rfl⟩ hd) fun σ H Q ⟨HF,ρ,d,sm,eo,hf,q⟩=>by cases hf;exact q _ H HF (.refl sm) (by simp[Rep])
def dZ(K:W.Frag)(r:R2)(g:D->D->Option D):Prop:=∀HF H x y v1 v2 d Q,aH HF H->Rep K HF x v1->Rep K HF y v2->g x y=some d->(∀v H' HF',bo HF H HF' H'->Rep K HF' d v->Q v H')->r v1 v2 H Q
noncomputable def f2(g:D->D->Option D)(f1 f2:Env->Option D):Env->Option D:=fun ρ=>(f1 ρ).bind fun x=>(f2 ρ).bind fun y=>g x y
variable {a b c:Expr}{fa fb fc:Env->Option D}{pos:Pos}
theorem Ca{r:R2}{g:D->D->Option D}(hr:dZ X.K r g):∀σ H Q,tD X.K (f2 g fa fb) σ H Q->HC r (tD X.K fa) (tD X.K fb) σ H Q:=fun σ H Q ⟨HF,ρ,d,sm,eo,hf,q⟩=>by
 obtain⟨x,hx,hf⟩:=bs hf
 obtain⟨y,hy,hg⟩:=bs hf
 exact⟨HF,ρ,x,sm,eo,hx,fun v1 H1 HF1 g1 r1=>⟨HF1,ρ,y,g1.fh,eo.mono g1.ff,hy,fun v2 H2 HF2 g2 r2=>hr HF2 H2 x y v1 v2 d Q g2.fh (r1.mono g2.ff) r2 hg fun v H' HF' g3 r3=>q v H' HF' ((g1.trans g2).trans g3) r3⟩⟩
theorem rD{op:Operator}{r:R2}{g:D->D->Option D}(ho:fO X (binaryOp op) r)(hr:dZ X.K r g)(ha:DE X a fa)(hb:DE X b fb):DE X (.BinOp a op b pos) (f2 g fa fb):=aG (AK ho ha hb) (Ca hr)
theorem fM{op:CmpOp}{r:R2}{g:D->D->Option D}(ho:fO X (compareOp op) r)(hr:dZ X.K r g)(ha:DE X a fa)(hb:DE X b fb)(hm:behindInMarks op b=false):DE X (.Compare a [op] [b] pos) (f2 g fa fb):=aG (CO ho ha hb hm) (Ca hr)
noncomputable def qJ(C:Int->Int->Prop)[∀i j,Decidable (C i j)](g:Int->Int->D):D->D->Option D
 | .int i,.int j=>if C i j then some (g i j) else none
 | _,_=>none
theorem zm{K:W.Frag}{C:Int->Int->Prop}[∀i j,Decidable (C i j)]{gi:Int->Int->Int}:dZ K (rI C fun i j=>.int (gi i j)) (qJ C fun i j=>.int (gi i j)):=by
 intro HF H x y v1 v2 d Q sm r1 r2 hg q
 cases x<;>cases y<;>simp only[qJ] at hg<;>try cases hg
 rename_i i j
 simp only[Rep] at r1 r2
 by_cases hc:C i j
 ·rw[if_pos hc] at hg
  cases hg
  exact⟨i,j,r1,r2,hc,q _ H HF (.refl sm) (by simp[Rep])⟩
 ·rw[if_neg hc] at hg;cases hg
theorem zi{K:W.Frag}{gi:Int->Int->Int}:dZ K (BO fun i j=>.int (gi i j)) (qJ (fun _ _=>True) fun i j=>.int (gi i j)):=by
 intro HF H x y v1 v2 d Q sm r1 r2 hg q
 cases x<;>cases y<;>simp only[qJ] at hg<;>try cases hg
 rename_i i j
 simp only[Rep] at r1 r2
 exact⟨i,j,r1,r2,q _ H HF (.refl sm) (by simp[Rep])⟩
theorem fK{K:W.Frag}{gi:Int->Int->Bool}:dZ K (BO fun i j=>.bl (gi i j)) (qJ (fun _ _=>True) fun i j=>.bool (gi i j)):=by
 intro HF H x y v1 v2 d Q sm r1 r2 hg q
 cases x<;>cases y<;>simp only[qJ] at hg<;>try cases hg
 rename_i i j
 simp only[Rep] at r1 r2
 exact⟨i,j,r1,r2,q _ H HF (.refl sm) (by simp[Rep])⟩
noncomputable instance (i j:Int):Decidable (pW i j):=by unfold pW;infer_instance
noncomputable instance (i j:Int):Decidable (B5 i j):=by unfold B5;infer_instance
end
section
variable {X:Cx}{a b c:Expr}{fa fb fc:Env->Option D}{pos:Pos}{rest:List Expr}
noncomputable def og(fa fb:Env->Option D):Env->Option D:=fun ρ=>(fa ρ).bind fun|.bool true=>fb ρ|.bool false=>some (.bool false)|_=>none
noncomputable def IJ(fa fb:Env->Option D):Env->Option D:=fun ρ=>(fa ρ).bind fun|.bool true=>some (.bool true)|.bool false=>fb ρ|_=>none
noncomputable def Ic:D->Option D|.bool b=>some (.bool (!b))|_=>none
noncomputable def Gi(fa:Env->Option D):Env->Option D:=fun ρ=>(fa ρ).bind Ic
theorem FI{op}(h:DE X a fa):DE X (.BoolOp op [a] pos) fa:=Gz h
theorem FU(ha:DE X a fa)(hb:DE X (.BoolOp .And (b::rest) pos) fb):DE X (.BoolOp .And (a::b::rest) pos) (og fa fb):=aG (FK ha hb) fun σ H Q ⟨HF,ρ,d,sm,eo,hf,q⟩=>by
 obtain⟨x,hx,hf⟩:=bs hf
 refine⟨HF,ρ,x,sm,eo,hx,fun v1 H1 HF1 g1 r1=>?_⟩
 cases x<;>try cases hf
 rename_i k
 simp only[Rep] at r1
 refine⟨k,r1,?_⟩
 cases k with
 | true=>exact r8 ⟨HF1,ρ,d,g1.fh,eo.mono g1.ff,hf,fun v H' HF' g r=>q v H' HF' (g1.trans g) r⟩
 | false=>cases hf;exact sJ (q _ H1 HF1 g1 (by simp[Rep]))
theorem HM(ha:DE X a fa)(hb:DE X (.BoolOp .Or (b::rest) pos) fb):DE X (.BoolOp .Or (a::b::rest) pos) (IJ fa fb):=aG (Av ha hb) fun σ H Q ⟨HF,ρ,d,sm,eo,hf,q⟩=>by
 obtain⟨x,hx,hf⟩:=bs hf
 refine⟨HF,ρ,x,sm,eo,hx,fun v1 H1 HF1 g1 r1=>?_⟩
 cases x<;>try cases hf
 rename_i k
 simp only[Rep] at r1
 refine⟨k,r1,?_⟩
 cases k with
 | false=>exact sJ ⟨HF1,ρ,d,g1.fh,eo.mono g1.ff,hf,fun v H' HF' g r=>q v H' HF' (g1.trans g) r⟩
 | true=>cases hf;exact r8 (q _ H1 HF1 g1 (by simp[Rep]))
theorem Fh(ha:DE X a fa):DE X (.UnaryOp .Not a pos) (Gi fa):=aG (FS ha) fun σ H Q ⟨HF,ρ,d,sm,eo,hf,q⟩=>by
 obtain⟨x,hx,hf⟩:=bs hf
 refine⟨HF,ρ,x,sm,eo,hx,fun v1 H1 HF1 g1 r1=>?_⟩
 cases x<;>try cases hf
 rename_i k
 simp only[Rep] at r1
 exact⟨k,r1,q _ H1 HF1 g1 (by simp[Rep])⟩
noncomputable def gB:D->Option Bool|.bool b=>some b|_=>none
noncomputable def fB(f:Env->Option D):Env->Option Bool:=fun ρ=>(f ρ).bind gB
theorem uN{f:Env->Option D}:∀σ H (Q:Bool->Hp->Prop),FM X.K (fB f) σ H Q->tD X.K f σ H fun x H1=>∃c,x=.bl c/\Q c H1:=fun σ H Q ⟨HF,ρ,k,sm,eo,hf,q⟩=>by
 obtain⟨x,hx,hf⟩:=bs hf
 refine⟨HF,ρ,x,sm,eo,hx,fun v1 H1 HF1 g1 r1=>?_⟩
 cases x<;>try cases hf
 simp only[Rep] at r1
 exact⟨_,r1,q H1 HF1 g1⟩
theorem Fy{f:Env->Option D}(h:DE X a f)(he:∀whole,isTrue a X.env whole=(do let v <- whole;standAt a.pos;holding [v] (truthy v)):=by intro _;rfl):DT X a (fB f):=pI (Gy h he) uN
theorem fu{op:CmpOp}{r:R2}{g:D->D->Option D}(ho:fO X (compareOp op) r)(hr:dZ X.K r g)(ha:DE X a fa)(hb:DE X b fb)(hm:behindInMarks op b=false):DT X (.Compare a [op] [b] pos) (fB (f2 g fa fb)) :=
 pI (B0 ho ha hb hm) fun σ H Q h=>Ca hr σ H _ (uN σ H Q h)
noncomputable def dW(fa fb:Env->Option Bool):Env->Option Bool:=fun ρ=>(fa ρ).bind fun|true=>fb ρ|false=>some false
noncomputable def mi(fa fb:Env->Option Bool):Env->Option Bool:=fun ρ=>(fa ρ).bind fun|true=>some true|false=>fb ρ
noncomputable def bW(fa:Env->Option Bool):Env->Option Bool:=fun ρ=>(fa ρ).map (!·)
variable {ta tb:Env->Option Bool}
def DW(X:Cx)(e:Expr)(f:Env->Option Bool):Prop:=PW X e (FM X.K f)
theorem yU{e:Expr}{t t':TT}(h:PW X e t)(i:∀σ H Q,t' σ H Q->t σ H Q):PW X e t':=fun wh pins s σ H Q I q=>h wh pins s σ H Q I (i σ H Q q)
theorem DW.dt(h:DW X a ta):DT X a ta:=PW.pt h
theorem CC(ha:DT X a ta):DW X (.BoolOp .And [a] pos) ta:=Cy ha
theorem Fz(ha:DT X a ta):DW X (.BoolOp .Or [a] pos) ta:=ES ha
theorem Fv(ha:DT X a ta)(hb:DW X (.BoolOp .And (b::rest) pos) tb):DW X (.BoolOp .And (a::b::rest) pos) (dW ta tb):=yU (GF ha hb) fun σ H Q ⟨HF,ρ,d,sm,eo,hf,q⟩=>by
 obtain⟨x,hx,hf⟩:=bs hf
 refine⟨HF,ρ,x,sm,eo,hx,fun H1 HF1 g1=>?_⟩
 cases x with
 | true=>exact r8 ⟨HF1,ρ,d,g1.fh,eo.mono g1.ff,hf,fun H' HF' g=>q H' HF' (g1.trans g)⟩
 | false=>cases hf;exact sJ (q H1 HF1 g1)
theorem HX(ha:DT X a ta)(hb:DW X (.BoolOp .Or (b::rest) pos) tb):DW X (.BoolOp .Or (a::b::rest) pos) (mi ta tb):=yU (Hc ha hb) fun σ H Q ⟨HF,ρ,d,sm,eo,hf,q⟩=>by
 obtain⟨x,hx,hf⟩:=bs hf
 refine⟨HF,ρ,x,sm,eo,hx,fun H1 HF1 g1=>?_⟩
 cases x with
 | false=>exact sJ ⟨HF1,ρ,d,g1.fh,eo.mono g1.ff,hf,fun H' HF' g=>q H' HF' (g1.trans g)⟩
 | true=>cases hf;exact r8 (q H1 HF1 g1)
theorem FO(ha:DT X a ta):DT X (.UnaryOp .Not a pos) (bW ta):=pI (Gv ha) fun σ H Q ⟨HF,ρ,d,sm,eo,hf,q⟩=>by
 have hf:(ta ρ).map (!·)=some d:=hf
 cases e:ta ρ with
 | none=>rw[e] at hf;cases hf
 | some k=>rw[e] at hf;cases hf;exact⟨HF,ρ,k,sm,eo,e,fun H1 HF1 g1=>q H1 HF1 g1⟩
noncomputable def BQ(tc:Env->Option Bool)(fa fb:Env->Option D):Env->Option D:=fun ρ=>(tc ρ).bind fun|true=>fa ρ|false=>fb ρ
theorem GZ{c:Expr}(hc:DT X c ta)(ha:DE X a fa)(hb:DE X b fb):DE X (.IfExp c a b pos) (BQ ta fa fb):=aG (yR hc ha hb) fun σ H Q ⟨HF,ρ,d,sm,eo,hf,q⟩=>by
 obtain⟨x,hx,hf⟩:=bs hf
 refine⟨HF,ρ,x,sm,eo,hx,fun H1 HF1 g1=>?_⟩
 cases x with
 | true=>exact r8 ⟨HF1,ρ,d,g1.fh,eo.mono g1.ff,hf,fun v H' HF' g r=>q v H' HF' (g1.trans g) r⟩
 | false=>exact sJ ⟨HF1,ρ,d,g1.fh,eo.mono g1.ff,hf,fun v H' HF' g r=>q v H' HF' (g1.trans g) r⟩
noncomputable def fv(g g':D->D->Option D)(fa fb fc:Env->Option D):Env->Option D:=fun ρ=>(fa ρ).bind fun x=>(fb ρ).bind fun y=>(g x y).bind fun|.bool true=>(fc ρ).bind fun z=>g' y z|.bool false=>some (.bool false)|_=>none
theorem vE{r r':R2}{g g':D->D->Option D}(hr:dZ X.K r g)(hr':dZ X.K r' g'):∀σ H Q,tD X.K (fv g g' fa fb fc) σ H Q->uT r r' (tD X.K fa) (tD X.K fb) (tD X.K fc) σ H Q:=fun σ H Q ⟨HF,ρ,d,sm,eo,hf,q⟩=>by
 obtain⟨x,hx,hf⟩:=bs hf
 obtain⟨y,hy,hf⟩:=bs hf
 obtain⟨z,hz,hf⟩:=bs hf
 refine⟨HF,ρ,x,sm,eo,hx,fun v1 H1 HF1 g1 r1=>⟨HF1,ρ,y,g1.fh,eo.mono g1.ff,hy,fun v2 H2 HF2 g2 r2=>hr HF2 H2 x y v1 v2 z _ g2.fh (r1.mono g2.ff) r2 hz fun v3 H3 HF3 g3 r3=>?_⟩⟩
 cases z<;>try cases hf
 rename_i k
 simp only[Rep] at r3
 refine⟨k,r3,?_⟩
 have G:=(g1.trans g2).trans g3
 cases k with
 | false=>cases hf;exact sJ (q _ H3 HF3 G (by simp[Rep]))
 | true =>
  obtain⟨w,hw,hg⟩:=bs hf
  exact r8 ⟨HF3,ρ,w,G.fh,eo.mono G.ff,hw,fun v4 H4 HF4 g4 r4=>hr' HF4 H4 y w v2 v4 d Q g4.fh (r2.mono (g3.ff.trans g4.ff)) r4 hg fun v H' HF' g5 r5=>q v H' HF' ((G.trans g4).trans g5) r5⟩
theorem Ab{op op':CmpOp}{r r':R2}{g g':D->D->Option D}(ho:fO X (compareOp op) r)(hr:dZ X.K r g)(ho':fO X (compareOp op') r')(hr':dZ X.K r' g')(ha:DE X a fa)(hb:DE X b fb)(hc:DE X c fc)
  (hm:lastMarks [op,op'] [b,c]=false:=by with_unfolding_all rfl):DE X (.Compare a [op,op'] [b,c] pos) (fv g g' fa fb fc):=aG (yp ho ho' ha hb hc hm) (vE hr hr')
theorem A6{op op':CmpOp}{r r':R2}{g g':D->D->Option D}(ho:fO X (compareOp op) r)(hr:dZ X.K r g)(ho':fO X (compareOp op') r')(hr':dZ X.K r' g')(ha:DE X a fa)(hb:DE X b fb)(hc:DE X c fc)
  (hm:lastMarks [op,op'] [b,c]=false:=by with_unfolding_all rfl):DT X (.Compare a [op,op'] [b,c] pos) (fB (fv g g' fa fb fc)) :=
 pI (zd ho ho' ha hb hc hm) fun σ H Q h=>vE hr hr' σ H _ (uN σ H Q h)
noncomputable def af:Env->Option (List D):=fun _=>some []
noncomputable def aa(f:Env->Option D)(g:Env->Option (List D)):Env->Option (List D):=fun ρ=>(f ρ).bind fun x=>(g ρ).map (x::·)
theorem yk:DA X [] af:=yS dh fun σ H Q ⟨HF,ρ,d,sm,eo,hf,q⟩=>by cases hf;exact q [] H HF (.refl sm) aj.nil
theorem vR{e:Expr}{es:List Expr}{f:Env->Option D}{g:Env->Option (List D)}(he:DE X e f)(hs:DA X es g)(hst:starEach (e::es) X.env=(false,eval e X.env)::starEach es X.env:=by rfl):DA X (e::es) (aa f g) :=
 yS (bA he hs hst) fun σ H Q ⟨HF,ρ,d,sm,eo,hf,q⟩=>by
  obtain⟨x,hx,hf⟩:=bs hf
  have hf:(g ρ).map (x::·)=some d:=hf
  cases e1:g ρ with
  | none=>rw[e1] at hf;cases hf
  | some xs =>
   rw[e1] at hf;cases hf
   exact⟨HF,ρ,x,sm,eo,hx,fun v1 H1 HF1 g1 r1=>⟨HF1,ρ,xs,g1.fh,eo.mono g1.ff,e1,fun vs H2 HF2 g2 r2=>q (v1::vs) H2 HF2 (g1.trans g2) (aj.cons (r1.mono g2.ff) r2)⟩⟩
variable {es:List Expr}{fs:Env->Option (List D)}
noncomputable def small(ds:List D):Option (List D):=if ds.length<=sizeLine then some ds else none
theorem dz{ds es:List D}(h:small ds=some es):es=ds/\ds.length<=sizeLine:=by
 unfold small at h
 split at h
 ·cases h;exact⟨rfl,‹_›⟩
 ·cases h
noncomputable def bz(g:Env->Option (List D)):Env->Option D:=fun ρ=>(g ρ).bind fun ds=>(small ds).map PyData.tuple
noncomputable def ck(g:Env->Option (List D)):Env->Option (List D):=fun ρ=>(g ρ).bind small
theorem EN{x1}(h:DA X es fs):DE X (.Tuple es x1 pos) (bz fs):=aG (F0 h) fun σ H Q ⟨HF,ρ,d,sm,eo,hf,q⟩=>by
 obtain⟨ds,hx,hf⟩:=bs hf
 have hf:(small ds).map PyData.tuple=some d:=hf
 cases e:small ds with
 | none=>rw[e] at hf;cases hf
 | some es' =>
  rw[e] at hf;cases hf
  obtain⟨rfl,hz⟩:=dz e
  refine⟨HF,ρ,_,sm,eo,hx,fun vs H1 HF1 g1 r1=>⟨by rw[r1.length];exact hz,fun p hp=>q _ _ (upd HF1 p (.tup vs)) (g1.trans (.new g1.fh hp)) ?_⟩⟩
  simp only[Rep]
  exact⟨p,vs,rfl,.inl (.inl aw),r1.mono (cZ (g1.fh.free hp))⟩
theorem Fd(h:DA X es fs):DF X (.List es pos) (ck fs):=aG (AQ h) fun σ H Q ⟨HF,ρ,d,sm,eo,hf,q⟩=>by
 obtain⟨ds,hx,hf⟩:=bs hf
 obtain⟨rfl,hz⟩:=dz hf
 exact⟨HF,ρ,_,sm,eo,hx,fun vs H1 HF1 g1 r1=>⟨by rw[r1.length];exact hz,fun p hp=>q p vs _ HF1 (g1.trans (.own g1.fh hp)) (g1.hh.free hp) (g1.fh.free hp) aw r1⟩⟩
noncomputable def ar:D->D->Option D
 | .tuple ds,.int i=>qv ds i
 | .list ds,.int i=>qv ds i
 | _,_=>none
theorem sZ{K:W.Frag}{HF:Hp}{ds:List D}{vs:List V}{i:Int}{d:D}(r:aj K HF ds vs)(h:qv ds i=some d):∃v,qv vs i=some v/\Rep K HF d v:=by
 unfold qv at h ⊢
 rw[r.length]
 obtain⟨j,hj,h⟩:=bs h
 obtain⟨v,a,b⟩:=r.getD h
 exact⟨v,by rw[hj];exact a,b⟩
theorem Ex{K:W.Frag}:dZ K (JU K) ar:=by
 intro HF H x y v1 v2 d Q sm r1 r2 hg q
 cases x<;>cases y<;>simp only[ar] at hg<;>try cases hg
 ·simp only[Rep] at r1 r2
  obtain⟨a,vs,rfl,hs,r⟩:=r1
  obtain⟨v,hv,rv⟩:=sZ r hg
  exact .inl ⟨a,vs,_,v,rfl,r2,sm.seq hs,hv,q v H HF (.refl sm) rv⟩
 ·simp only[Rep] at r1 r2
  obtain⟨a,vs,rfl,hs,r⟩:=r1
  obtain⟨v,hv,rv⟩:=sZ r hg
  exact .inr (.inl ⟨a,vs,_,v,rfl,r2,au sm hs,hv,q v H HF (.refl sm) rv⟩)
theorem G6(ha:DE X a fa)(hb:DE X b fb)(hs:l0 b:=by intro _ _;rfl):DE X (.Subscript a b pos) (f2 ar fa fb):=aG (Ea EH ha hb hs) (Ca Ex)
mutual
theorem cf{pins:List (Addr×Obj)}{σ:L2.St}{H HF:Hp}{s:Shared}(I:Inv X pins σ H s)(sm:aH HF H):∀ {d:D}{v:V}{u:Value},Rep X.K HF d v->RelV v u->∃as,Reads s.heap u d as
 | .none,_,_,h,r=>by simp only[Rep] at h;subst h;cases r;exact⟨_,.none⟩
 | .bool b,_,_,h,r=>by simp only[Rep] at h;subst h;cases r;exact⟨_,.bool b⟩
 | .int i,_,_,h,r=>by simp only[Rep] at h;subst h;obtain⟨t,rfl⟩:=r;exact⟨_,.int i t⟩
 | .str i,_,_,h,r=>by simp only[Rep] at h;subst h;obtain⟨t,rfl⟩:=r;exact⟨_,.str i t⟩
 | .tuple ds,_,_,h,r=>by
  simp only[Rep] at h
  obtain⟨a,vs,rfl,hs,rr⟩:=h
  cases r
  obtain⟨its,rv,⟨o,ho,hc,n,hd⟩,_⟩:=I.tuple (au sm hs)
  obtain⟨as,q⟩:=k5 I sm rr rv
  exact⟨as,.tuple ho hc hd (by simpa using q)⟩
 | .list ds,_,_,h,r=>by
  simp only[Rep] at h
  obtain⟨a,vs,rfl,hs,rr⟩:=h
  cases r
  obtain⟨its,rv,pl,_⟩:=I.list (sm.seq hs)
  obtain⟨o,ho,hc,n,hd⟩:=pl.isList
  obtain⟨as,q⟩:=k5 I sm rr rv
  exact⟨_,.list ho hc hd (by simpa using q)⟩
 | .dict _,_,_,h,r=>by simp only[Rep] at h
theorem k5{pins:List (Addr×Obj)}{σ:L2.St}{H HF:Hp}{s:Shared}(I:Inv X pins σ H s)(sm:aH HF H):∀ {ds:List D}{vs:List V}{us:List Value},aj X.K HF ds vs->ax vs us->∃as,ReadsAll s.heap us ds as
 | [],_,_,h,r=>by rw[h.nil_inv] at r;cases r;exact⟨_,.nil⟩
 | d::ds,_,_,h,r=>by
  obtain⟨v,vr,rfl,a,b⟩:=h.cons_inv
  cases r with
  | cons r rr =>
   obtain⟨as,q⟩:=cf I sm a r
   obtain⟨bs,p⟩:=k5 I sm b rr
   exact⟨_,.cons q p⟩
end
def GN(K:W.Frag)(g:D->D->Option Bool):R2:=fun v1 v2 H Q=>∃HF x y k,aH HF H/\Rep K HF x v1/\Rep K HF y v2/\g x y=some k/\Q (.bl k) H
theorem fx{K:W.Frag}{g:D->D->Option Bool}:dZ K (GN K g) (fun x y=>(g x y).map PyData.bool):=by
 intro HF H x y v1 v2 d Q sm r1 r2 hg q
 have hg:(g x y).map PyData.bool=some d:=hg
 cases e:g x y with
 | none=>rw[e] at hg;cases hg
 | some k=>rw[e] at hg;cases hg;exact⟨HF,x,y,k,sm,r1,r2,e,q _ H HF (.refl sm) (by simp[Rep])⟩
noncomputable def EI(x y:D):Option Bool:=if SeqAt.shaped x=true/\SeqAt.shaped y=true then some (PyData.eqv x y) else none
noncomputable def Fs(x y:D):Option Bool:=if SeqAt.shaped x=true/\SeqAt.shaped y=true then some (!PyData.eqv x y) else none
theorem BE(hu:X.A.units+64 < cLine):fO X (compareOp .Eq) (GN X.K EI):=by
 intro pins s σ H v1 v2 u1 u2 Q I rx ry h
 obtain⟨HF,x,y,k,sm,r1,r2,hg,q⟩:=h
 unfold EI at hg
 split at hg<;>cases hg
 rename_i hh
 obtain⟨as,ra⟩:=cf I sm r1 rx
 obtain⟨bs,rb⟩:=cf I sm r2 ry
 exact eq_dataH ra rb hh.1 hh.2 hu ⟨.bl _,H,I,rfl,q⟩
theorem Bg(hu:X.A.units+64 < cLine):fO X (compareOp .NotEq) (GN X.K Fs):=by
 intro pins s σ H v1 v2 u1 u2 Q I rx ry h
 obtain⟨HF,x,y,k,sm,r1,r2,hg,q⟩:=h
 unfold Fs at hg
 split at hg<;>cases hg
 rename_i hh
 obtain⟨as,ra⟩:=cf I sm r1 rx
 obtain⟨bs,rb⟩:=cf I sm r2 ry
 exact ne_dataH ra rb hh.1 hh.2 hu ⟨.bl _,H,I,rfl,q⟩
noncomputable def items:D->Option (List D)|.tuple ds=>some ds|.list ds=>some ds|_=>none
noncomputable def Iz(x y:D):Option Bool:=match y with
 | .tuple ds=>if SeqAt.shaped x=true/\SeqAt.shaped y=true then some (ds.any fun z=>PyData.eqv z x) else none
 | .list ds=>if SeqAt.shaped x=true/\SeqAt.shaped y=true then some (ds.any fun z=>PyData.eqv z x) else none
 | _=>none
theorem Al(hu:X.A.units+66 < cLine):fO X (compareOp .In) (GN X.K Iz):=by
 intro pins s σ H v1 v2 u1 u2 Q I rx ry h
 obtain⟨HF,x,y,k,sm,r1,r2,hg,q⟩:=h
 obtain⟨as,ra⟩:=cf I sm r1 rx
 obtain⟨bs,rb⟩:=cf I sm r2 ry
 cases y<;>simp only[Iz] at hg<;>try cases hg
 all_goals
  split at hg<;>cases hg
  rename_i ds hh
  have c1:=SeqAt.canLay_of_shaped hh.1
  have c2:=SeqAt.canLay_of_shaped hh.2
  have d1:=SeqAt.depth_of_shaped hh.1
  simp only[PyData.canLay0] at c2
  have m:=Nat.min_le_right (PyData.depthAll ds) x.depth
  first
   | exact SeqAt.in_list_reads rb ra c2 c1 (by omega) ⟨.bl _,H,I,rfl,q⟩
   | exact SeqAt.in_tuple_reads rb ra c2 c1 (by omega) ⟨.bl _,H,I,rfl,q⟩
end
noncomputable def Gc(K:W.Frag)(n:Nat)(m:List D->Option D):Sp:=fun vs H Q _=>∃HF ds d,aH HF H/\eG K HF/\aj K HF ds vs/\ds.length=n/\m ds=some d/\∀v H' HF',bo HF H HF' H'->Rep K HF' d v->Q v H'
structure gw(P:Program)(w:World)(K:W.Frag)(mg:Str->Option Value)(base:Heap)(k:Nat)(x:Str)(n:Nat)(m:List D->Option D):Prop where
 ex:∃ (f:Addr) (fd:FuncData) (ps:List Str),lM P w K mg base FA k f fd ps (Gc K n m)/\mg x=some (.ref f)/\W.keepIn K (.ref f)=true/\Binds K fd ps []
theorem gw.mono{P:Program}{w:World}{K:W.Frag}{mg:Str->Option Value}{base:Heap}{k j:Nat}{x:Str}{n:Nat}{m:List D->Option D}(F:gw P w K mg base k x n m)(h:k<=j):gw P w K mg base j x n m:=by
 obtain⟨f,fd,ps,a,b,c,d⟩:=F.ex
 exact⟨f,fd,ps,a.mono h,b,c,d⟩
section
variable {X:Cx}{a b c e:Expr}{es:List Expr}{fa fb fc:Env->Option D}{fs:Env->Option (List D)}{pos p:Pos}{x:Str}
noncomputable def ak(n:Nat)(m:List D->Option D)(fs:Env->Option (List D)):Env->Option D:=fun ρ=>(fs ρ).bind fun ds=>if ds.length=n then m ds else none
theorem Dy{k n:Nat}{m:List D->Option D}(F:gw X.prog X.w X.K X.mg X.base k x n m)(hr:da k X.A)(hg:Gl X x)(ha:DA X (e::es) fs)(hdb:(x == ("__debug__":Str))=false:=by decide)
  (he:starEach (e::es) X.env=(false,eval e X.env)::starEach es X.env:=by rfl) (hpl:(backTo pos (starEach es X.env)).any (·.1)=false:=by rfl):DE X (.Call (.Name x p) (e::es) [] pos) (ak n m fs):=by
 obtain⟨f,fd,ps,ok,hm,hk,hb⟩:=F.ex
 refine aG (B1 (E:=E0) ok hr hg hm hk hb .nil D5 ha hdb he hpl) fun σ H Q ⟨HF,ρ,d,sm,eo,hf,q⟩=>?_
 obtain⟨ds,hx,hf⟩:=bs hf
 split at hf
 ·rename_i hl
  exact⟨HF,ρ,ds,sm,eo,hx,fun vs H1 HF1 g1 r1=>⟨HF1,ds,d,g1.fh,eo.tb.mono g1.ff,by rw[List.append_nil];exact r1,hl,hf,fun v H' HF' g r=>q v H' HF' (g1.trans g) r⟩⟩
 ·cases hf
def xP(K:W.Frag)(r:List V->Hp->VK->Prop)(g:List D->Option D):Prop:=∀HF H ds vs d Q,aH HF H->aj K HF ds vs->g ds=some d->(∀v H' HF',bo HF H HF' H'->Rep K HF' d v->Q v H')->r vs H Q
noncomputable def ba(g:List D->Option D)(fs:Env->Option (List D)):Env->Option D:=fun ρ=>(fs ρ).bind g
theorem Ho{r:List V->Hp->VK->Prop}{g:List D->Option D}(hs:xP X.K r g):∀σ H Q,tD X.K (ba g fs) σ H Q->IB r (Ja X.K fs) σ H Q:=fun σ H Q ⟨HF,ρ,d,sm,eo,hf,q⟩=>by
 obtain⟨ds,hx,hf⟩:=bs hf
 exact⟨HF,ρ,ds,sm,eo,hx,fun vs H1 HF1 g1 r1=>hs HF1 H1 ds vs d Q g1.fh r1 hf fun v H' HF' g2 r2=>q v H' HF' (g1.trans g2) r2⟩
def vX(K:W.Frag)(r:List V->Hp->VK->Prop)(g:List D->Option (List D)):Prop:=∀HF H ds vs es Q,aH HF H->aj K HF ds vs->g ds=some es ->
 (∀a us H' HF',bo HF H HF' H'->H a=none->HF' a=none->H' a=some (.lst us)->aj K HF' es us->Q (.ref a) H')->r vs H Q
noncomputable def kL(g:List D->Option (List D))(fs:Env->Option (List D)):Env->Option (List D):=fun ρ=>(fs ρ).bind g
theorem DX{r:List V->Hp->VK->Prop}{g:List D->Option (List D)}(hs:vX X.K r g):∀σ H Q,tF X.K (kL g fs) σ H Q->IB r (Ja X.K fs) σ H Q:=fun σ H Q ⟨HF,ρ,d,sm,eo,hf,q⟩=>by
 obtain⟨ds,hx,hf⟩:=bs hf
 exact⟨HF,ρ,ds,sm,eo,hx,fun vs H1 HF1 g1 r1=>hs HF1 H1 ds vs d Q g1.fh r1 hf fun a us H' HF' g2 ha hf' h' r2=>q a us H' HF' (g1.trans g2) (g1.hh.free ha) hf' h' r2⟩
structure jj(X:Cx)(x:Str)(v:Value):Prop where
 gl:Gl X x
 mg:X.mg x=none
 bt:bootBuiltins x=some v
theorem fU{id:String}{r:List V->Hp->VK->Prop}{g:List D->Option D}(hc:cO X (.builtin id) r)(hs:xP X.K r g)(B:jj X x (.builtin id))(ha:DA X (e::es) fs)(hn:x≠"__name__":=by decide)(hdb:(x == ("__debug__":Str))=false:=by decide)
  (he:starEach (e::es) X.env=(false,eval e X.env)::starEach es X.env:=by rfl) (hpl:(backTo pos (starEach es X.env)).any (·.1)=false:=by rfl):DE X (.Call (.Name x p) (e::es) [] pos) (ba g fs) :=
 aG (ib hc B.gl B.mg B.bt ha hn hdb he hpl) (Ho hs)
theorem yl{id:String}{r:List V->Hp->VK->Prop}{g:List D->Option (List D)}(hc:cO X (.builtin id) r)(hs:vX X.K r g)(B:jj X x (.builtin id))(ha:DA X (e::es) fs)(hn:x≠"__name__":=by decide)(hdb:(x == ("__debug__":Str))=false:=by decide)
  (he:starEach (e::es) X.env=(false,eval e X.env)::starEach es X.env:=by rfl) (hpl:(backTo pos (starEach es X.env)).any (·.1)=false:=by rfl):DF X (.Call (.Name x p) (e::es) [] pos) (kL g fs) :=
 aG (ib hc B.gl B.mg B.bt ha hn hdb he hpl) (DX hs)
theorem pA{T:String}{r:List V->Hp->VK->Prop}{g:List D->Option D}(hc:cO X (.type T) r)(hs:xP X.K r g)(B:jj X x (.type T))(ha:DA X (e::es) fs)(hn:x≠"__name__":=by decide)(hdb:(x == ("__debug__":Str))=false:=by decide)
  (he:starEach (e::es) X.env=(false,eval e X.env)::starEach es X.env:=by rfl) (hpl:(backTo pos (starEach es X.env)).any (·.1)=false:=by rfl):DE X (.Call (.Name x p) (e::es) [] pos) (ba g fs) :=
 aG (ji hc B.gl B.mg B.bt ha hn hdb he hpl) (Ho hs)
theorem xI{T:String}{r:List V->Hp->VK->Prop}{g:List D->Option (List D)}(hc:cO X (.type T) r)(hs:vX X.K r g)(B:jj X x (.type T))(ha:DA X (e::es) fs)(hn:x≠"__name__":=by decide)(hdb:(x == ("__debug__":Str))=false:=by decide)
  (he:starEach (e::es) X.env=(false,eval e X.env)::starEach es X.env:=by rfl) (hpl:(backTo pos (starEach es X.env)).any (·.1)=false:=by rfl):DF X (.Call (.Name x p) (e::es) [] pos) (kL g fs) :=
 aG (ji hc B.gl B.mg B.bt ha hn hdb he hpl) (DX hs)
noncomputable def eC:D->Option (List D)|.tuple ds=>some ds|.list ds=>some ds|_=>none
noncomputable def oneOf:List D->Option D|[d]=>some d|_=>none
theorem eH{ds:List D}{d:D}(h:oneOf ds=some d):ds=[d]:=by
 cases ds with
 | nil=>cases h
 | cons x r=>cases r with
  | nil=>cases h;rfl
  | cons _ _=>cases h
theorem jI{d:D}{ds:List D}(h:eC d=some ds):d=.tuple ds\/d=.list ds:=by
 cases d<;>cases h
 ·exact .inr rfl
 ·exact .inl rfl
noncomputable def bU:List D->Option (List D):=fun ds=>(oneOf ds).bind eC
theorem eT{ds es:List D}(h:bU ds=some es):ds=[.tuple es]\/ds=[.list es]:=by
 obtain⟨d,h1,h2⟩:=bs h
 rw[eH h1]
 rcases jI h2 with rfl|rfl
 ·exact .inl rfl
 ·exact .inr rfl
noncomputable def cI:List D->Option D:=fun ds=>(bU ds).map fun es=>.int es.length
theorem ae{α β:Type}{x:Option α}{f:α->β}{b:β}(h:x.map f=some b):∃a,x=some a/\f a=b:=by
 cases x with
 | none=>cases h
 | some a=>exact⟨a,rfl,Option.some.inj h⟩
theorem Dp{K:W.Frag}:xP K (fun xs H Q=>∃p ys,xs=[.ref p]/\(fj K H p ys\/fP K H p ys)/\Q (.int ys.length) H) cI:=by
 intro HF H ds vs d Q sm r hg q
 obtain⟨es,h1,rfl⟩:=ae hg
 rcases eT h1 with rfl|rfl
 all_goals
  obtain⟨v,r',rfl,a,b⟩:=r.cons_inv
  rw[b.nil_inv]
  simp only[Rep] at a
  obtain⟨p,us,rfl,h,rr⟩:=a
 ·exact⟨p,us,rfl,.inr (au sm h),q _ H HF (.refl sm) (by simp[Rep,rr.length])⟩
 ·exact⟨p,us,rfl,.inl (sm.seq h),q _ H HF (.refl sm) (by simp[Rep,rr.length])⟩
theorem Gp(B:jj X "len" (.builtin "len"))(ha:DA X [e] fs)(he:starEach [e] X.env=(false,eval e X.env)::starEach [] X.env:=by rfl):DE X (.Call (.Name "len" p) [e] [] pos) (ba cI fs) :=
 fU qd Dp B ha (by decide) (by decide) he rfl
theorem AX{K:W.Frag}:vX K (fun xs H Q=>∃p ys,xs=[.ref p]/\(fj K H p ys\/fP K H p ys)/\∀l,H l=none->Q (.ref l) (upd H l (.lst ys))) bU:=by
 intro HF H ds vs d Q sm r hg q
 rcases eT hg with rfl|rfl
 all_goals
  obtain⟨v,r',rfl,a,b⟩:=r.cons_inv
  rw[b.nil_inv]
  simp only[Rep] at a
  obtain⟨p,us,rfl,h,rr⟩:=a
 ·exact⟨p,us,rfl,.inr (au sm h),fun l hl=>q l us _ HF (.own sm hl) hl (sm.free hl) aw rr⟩
 ·exact⟨p,us,rfl,.inl (sm.seq h),fun l hl=>q l us _ HF (.own sm hl) hl (sm.free hl) aw rr⟩
theorem Cd(B:jj X "list" (.type "list"))(ha:DA X [e] fs)(he:starEach [e] X.env=(false,eval e X.env)::starEach [] X.env:=by rfl):DF X (.Call (.Name "list" p) [e] [] pos) (kL bU fs) :=
 xI pM AX B ha (by decide) (by decide) he rfl
theorem bx{K:W.Frag}{HF:Hp}{l:Addr}{ds:List D}{vs:List V}(h:HF l=none)(r:aj K HF ds vs):Rep K (upd HF l (.tup vs)) (.tuple ds) (.ref l):=by
 simp only[Rep];exact⟨l,vs,rfl,.inl (.inl aw),r.mono (cZ h)⟩
theorem xg{K:W.Frag}:xP K (fun xs H Q=>∃p ys,xs=[.ref p]/\((fj K H p ys/\∀l,H l=none->Q (.ref l) (upd H l (.tup ys)))\/(fP K H p ys/\Q (.ref p) H))) (fun ds=>(bU ds).map PyData.tuple):=by
 intro HF H ds vs d Q sm r hg q
 obtain⟨es,h1,rfl⟩:=ae hg
 rcases eT h1 with rfl|rfl
 all_goals
  obtain⟨v,r',rfl,a,b⟩:=r.cons_inv
  rw[b.nil_inv]
  have a':=a
  simp only[Rep] at a
  obtain⟨p,us,rfl,h,rr⟩:=a
 ·exact⟨p,us,rfl,.inr ⟨au sm h,q _ H HF (.refl sm) a'⟩⟩
 ·exact⟨p,us,rfl,.inl ⟨sm.seq h,fun l hl=>q _ _ _ (.new sm hl) (bx (sm.free hl) rr)⟩⟩
theorem An(B:jj X "tuple" (.type "tuple"))(ha:DA X [e] fs)(he:starEach [e] X.env=(false,eval e X.env)::starEach [] X.env:=by rfl):DE X (.Call (.Name "tuple" p) [e] [] pos) (ba (fun ds=>(bU ds).map PyData.tuple) fs) :=
 pA ou xg B ha (by decide) (by decide) he rfl
noncomputable def fA:D->String|.none=>"NoneType" | .bool _=>"bool" | .int _=>"int" | .str _=>"str" | .tuple _=>"tuple" | .list _=>"list" | .dict _=>"dict"
noncomputable def qg(a b:String):Option Bool:=if ((Value.type a) == (Value.type b))=true then some true else if W.kitMeta b=true then (fastBuiltinMro a).map (·.contains (Value.type b)) else none
theorem BW:∀a∈["NoneType","bool","int","str","tuple","list"],qg a "int"=some (a == "int"||a == "bool"):=by decide +kernel
theorem A7:∀a∈["NoneType","bool","int","str","tuple","list"],qg a "bool"=some (a == "bool"):=by decide +kernel
theorem kit_tuple:∀a∈["NoneType","bool","int","str","tuple","list"],qg a "tuple"=some (a == "tuple"):=by decide +kernel
theorem yb{pins:List (Addr×Obj)}{σ:L2.St}{H HF:Hp}{s:Shared}{A:Around}{E:Value->Shared->Prop}{Q:Value->Shared->Prop}{d:D}{v:V}{u:Value}{T:String}{k:Bool}(I:Inv X pins σ H s)(sm:aH HF H)(r:Rep X.K HF d v)(rv:RelV v u)
  (e:qg (fA d) T=some k) (h:∀tk,Q (.bool k) { s with toks:=tk }):wpAny (model X.prog X.w) A (call (.builtin "isinstance") [u,.type T]) Q E s:=by
 have e':W.kitOne X.K (.type (fA d)) (.type T)=some k:=e
 cases d<;>simp only[Rep] at r
 ·subst r;cases rv;exact W.kia_one W.kitx_none I.kIn True.intro e' (fun z=>nomatch z) h
 ·subst r;cases rv;exact W.kia_one W.kitx_bool I.kIn True.intro e' (fun z=>nomatch z) h
 ·subst r;obtain⟨t,rfl⟩:=rv;exact W.kia_one W.kitx_int I.kIn True.intro e' (fun z=>nomatch z) h
 ·subst r;obtain⟨t,rfl⟩:=rv;exact W.kia_one W.kitx_str I.kIn True.intro e' (fun z=>nomatch z) h
 ·obtain⟨a,vs,rfl,hs,rr⟩:=r
  cases rv
  obtain⟨its,rv,pl,_⟩:=I.list (sm.seq hs)
  obtain⟨o,ho,hc,n,hd⟩:=pl.isList
  exact W.kia_one W.kitx_list I.kIn ⟨o,ho,hc⟩ e' (fun z=>nomatch z) h
 ·obtain⟨a,vs,rfl,hs,rr⟩:=r
  cases rv
  obtain⟨its,rv,⟨o,ho,hc,n,hd⟩,_⟩:=I.tuple (au sm hs)
  exact W.kia_one W.kitx_tuple I.kIn ⟨o,ho,hc⟩ e' (fun z=>nomatch z) h
noncomputable def Ed(T:String)(f:Env->Option D):Env->Option D:=fun ρ=>(f ρ).bind fun d=>(qg (fA d) T).map PyData.bool
theorem GV{T:String}{xT:Str}{pT:Pos}{f:Env->Option D}(B:jj X "isinstance" (.builtin "isinstance"))(C:jj X xT (.type T))(h:DE X e f)(hn:xT≠"__name__":=by decide)(hd:(xT == ("__debug__":Str))=false:=by decide)
  (he:starEach [e,.Name xT pT] X.env=(false,eval e X.env)::starEach [.Name xT pT] X.env:=by rfl):DE X (.Call (.Name "isinstance" p) [e,.Name xT pT] [] pos) (Ed T f):=by
 have hc:cO X (.builtin "isinstance") (fun xs H Q=>∃HF d v k,xs=[v,.ty T]/\aH HF H/\Rep X.K HF d v/\qg (fA d) T=some k/\Q (.bl k) H):=by
  intro pins s σ H xs us Q I r h
  obtain⟨HF,d,v,k,rfl,sm,rp,hk,q⟩:=h
  cases r with
  | cons ra rr =>
   cases rr with
   | cons rb rn =>
    cases rn
    cases rb
    exact yb I sm rp ra hk fun tk=>⟨.bl k,H,I.tok _,rfl,q⟩
 refine aG (ib hc B.gl B.mg B.bt (bA h (bA (C9 (v:=.ty T) C.gl C.mg C.bt rfl hn hd) dh) he) (by decide) (by decide) he rfl) fun σ H Q ⟨HF,ρ,d,sm,eo,hf,q⟩=>?_
 obtain⟨x,hx,hf⟩:=bs hf
 obtain⟨k,hk,rfl⟩:=ae hf
 exact⟨HF,ρ,x,sm,eo,hx,fun v1 H1 HF1 g1 r1=>⟨HF1,x,v1,k,rfl,g1.fh,r1,hk,q _ H1 HF1 g1 (by simp[Rep])⟩⟩
noncomputable def GA:D->D->Option D
 | .tuple xs,.tuple ys=>(small (xs++ys)).map PyData.tuple
 | _,_=>none
def vS(K:W.Frag):R2:=fun x y H Q=>∃a b xs ys,x=.ref a/\y=.ref b/\fP K H a xs/\fP K H b ys/\xs.length+ys.length<=sizeLine /\
 (xs=[]->Q (.ref b) H)/\(ys=[]->Q (.ref a) H)/\(∀p,H p=none->Q (.ref p) (upd H p (.tup (xs++ys))))
theorem wN:fO X (binaryOp .Add) (vS X.K):=by
 intro pins s σ H x y v u Q I rx ry h
 obtain⟨a,b,xs,ys,rfl,rfl,ha,hb,hz,q0,q1,q2⟩:=h
 by_cases hx:xs=[]
 ·cases rx
  cases ry
  obtain⟨its,r1,p1,_⟩:=I.tuple ha
  obtain⟨its2,r2,p2,_⟩:=I.tuple hb
  obtain⟨⟨cls,dd,data,sl⟩,ho,hc,n,hd⟩:=id p1
  obtain⟨⟨cls2,dd2,data2,sl2⟩,ho2,hc2,n2,hd2⟩:=id p2
  simp only at hc hd hc2 hd2
  subst hc hd hc2 hd2
  have e:its=[]:=(L2.ax.nil_iff r1).mpr hx
  exact concat_meets ⟨_,ho,rfl⟩ ⟨_,ho2,rfl⟩ noFill_tuple_add seq_tuple_add PySem.F.slot_tuple_add PySem.F.entry_tuple_add (PySem.F.args_tuple_add_2 _ _)
   (tuple_addW0 a b its.toArray its2.toArray n n2 dd dd2 sl sl2 (by simp[e])) ⟨ho,ho2,⟨.ref b,H,I,rfl,q0 hx⟩⟩
 ·exact DH pins s σ H _ _ v u Q I rx ry ⟨a,b,xs,ys,rfl,rfl,ha,hb,hx,hz,q1,fun _ p hp=>q2 p hp⟩
theorem Dk{K:W.Frag}:dZ K (vS K) GA:=by
 intro HF H x y v1 v2 d Q sm r1 r2 hg q
 cases x<;>cases y<;>simp only[GA] at hg<;>try cases hg
 rename_i xs ys
 obtain⟨es,h1,rfl⟩:=ae hg
 obtain⟨rfl,hz⟩:=dz h1
 have r1':=r1
 have r2':=r2
 simp only[Rep] at r1 r2
 obtain⟨a,vs,rfl,ha,ra⟩:=r1
 obtain⟨b,us,rfl,hb,rb⟩:=r2
 refine⟨a,b,vs,us,rfl,rfl,au sm ha,au sm hb,by rw[ra.length,rb.length,<- zN];exact hz,fun e=>?_,fun e=>?_,fun p hp=>q _ _ _ (.new sm hp) (bx (sm.free hp) (ra.append rb))⟩
 ·have:xs=[]:=by have:=ra.length;rw[e] at this;exact List.length_eq_zero_iff.mp this.symm
  subst this
  exact q _ H HF (.refl sm) r2'
 ·have:ys=[]:=by have:=rb.length;rw[e] at this;exact List.length_eq_zero_iff.mp this.symm
  subst this
  rw[List.append_nil] at q
  exact q _ H HF (.refl sm) r1'
end
structure mS(K:W.Frag)(J:It)(HF:Hp)(ds:List D):Prop where
 go:∀i d H₁ HF₁,ds[i]?=some d->aH HF HF₁->aH HF₁ H₁->J.go i H₁/\∀x H₂,J.yld i H₁ x H₂->∃HF₂,bo HF₁ H₁ HF₂ H₂/\Rep K HF₂ d x
 stop:∀H₁ HF₁,aH HF HF₁->aH HF₁ H₁->J.stop ds.length H₁
def JR(K:W.Frag)(f:Env->Option (List D)):TI:=fun σ H R=>∃HF ρ ds,aH HF H/\b8 K HF ρ σ/\f ρ=some ds/\∀J H' HF',bo HF H HF' H'->mS K J HF' ds->R J H'
def DI(X:Cx)(tg iter:Expr)(f:Env->Option (List D)):Prop:=PI X tg iter (JR X.K f)
theorem xB{K:W.Frag}{HF:Hp}{a:Addr}{ds:List D}{vs:List V}(h:fj K HF a vs)(r:aj K HF ds vs):mS K (IP K a) HF ds where
 go:=fun i d H₁ HF₁ e s1 s2=>by
  obtain⟨v,hv,rv⟩:=r.getD e
  have q:=s2.seq (s1.seq h)
  refine⟨⟨vs,v,q,hv⟩,fun x H₂ ⟨e2,hy⟩=>⟨HF₁,by rw[e2];exact .refl s2,?_⟩⟩
  have:=hy vs q
  rw[hv] at this
  cases this
  exact rv.mono s1
 stop:=fun H₁ HF₁ s1 s2=>⟨vs,s2.seq (s1.seq h),by rw[r.length];exact Nat.le_refl _⟩
theorem Ak{K:W.Frag}{HF:Hp}{a:Addr}{ds:List D}{vs:List V}(h:fP K HF a vs)(r:aj K HF ds vs):mS K (JC K a) HF ds where
 go:=fun i d H₁ HF₁ e s1 s2=>by
  obtain⟨v,hv,rv⟩:=r.getD e
  have q:=au s2 (au s1 h)
  refine⟨⟨vs,v,q,hv⟩,fun x H₂ ⟨e2,hy⟩=>⟨HF₁,by rw[e2];exact .refl s2,?_⟩⟩
  have:=hy vs q
  rw[hv] at this
  cases this
  exact rv.mono s1
 stop:=fun H₁ HF₁ s1 s2=>⟨vs,au s2 (au s1 h),by rw[r.length];exact Nat.le_refl _⟩
theorem uF{K:W.Frag}{HF:Hp}{lo:Int}{n:Nat}:mS K (IG lo n) HF ((List.range n).map fun i=>PyData.int (lo+(i:Nat))) where
 go:=fun i d H₁ HF₁ e s1 s2=>by
  rw[zO] at e
  obtain⟨j,hj,rfl⟩:=ae e
  obtain⟨hi,hj'⟩:=zU.mp hj
  have hi':i < n:=by simpa using hi
  have:j=i:=by rw[<- hj'];simp
  subst this
  exact⟨hi',fun x H₂ ⟨e2,hx⟩=>⟨HF₁,by rw[e2];exact .refl s2,by simp[Rep,hx]⟩⟩
 stop:=fun H₁ HF₁ s1 s2=>by
  show n<=_
  simp
section
variable {X:Cx}{tg l e:Expr}{f:Env->Option D}{fs:Env->Option (List D)}{pos p:Pos}
theorem m6{t t':TI}(h:PI X tg l t)(i:∀σ H R,t' σ H R->t σ H R):PI X tg l t':=fun pins s σ H R I q=>h pins s σ H R I (i σ H R q)
theorem Ge{tl:TE}(hl:PE X l tl):PI X tg l (fun σ H R=>tl σ H fun x H1=>∃a,x=.ref a/\((∃xs,fj X.K H1 a xs/\R (IP X.K a) H1)\/∃xs,fP X.K H1 a xs/\R (JC X.K a) H1)):=by
 intro pins s σ H R I h
 refine bw (hl pins s σ H _ I h) fun v s1 ⟨x,H1,I1,r1,q1⟩=>?_
 obtain⟨a,e,q⟩:=q1
 subst e
 cases r1
 rcases q with ⟨xs,hq,q⟩|⟨xs,hq,q⟩
 ·obtain⟨its,rv,pl,hz⟩:=I1.list hq
  refine wpAny_pyIter_list pl.isList ⟨s1.heap.objs.size,[s1.heap.objs.size],_,_,H1,rfl,I1.kept (t':=s1.toks) fun b o e=>zV _ e,wX a _,⟨_,zY _ rfl,rfl,rfl⟩,fun b hb=>?_,q⟩
  cases yL.mp hb
  exact I1.fpOk (Nat.le_refl _) I1.fresh
 ·obtain⟨its,rv,pl,hz⟩:=I1.tuple hq
  refine wpAny_pyIter_tuple (show s1.heap.IsTuple a its.toArray from pl) ⟨s1.heap.objs.size,[s1.heap.objs.size],_,_,H1,rfl,I1.kept (t':=s1.toks) fun b o e=>zV _ e,tM a _,⟨_,zY _ rfl,rfl,rfl⟩,fun b hb=>?_,q⟩
  cases yL.mp hb
  exact I1.fpOk (Nat.le_refl _) I1.fresh
noncomputable def aM(f:Env->Option D):Env->Option (List D):=fun ρ=>(f ρ).bind eC
theorem Ae(h:DE X l f):DI X tg l (aM f):=m6 (Ge h) fun σ H R ⟨HF,ρ,ds,sm,eo,hf,q⟩=>by
 obtain⟨x,hx,hf⟩:=bs hf
 refine⟨HF,ρ,x,sm,eo,hx,fun v1 H1 HF1 g1 r1=>?_⟩
 rcases jI hf with rfl|rfl
 ·simp only[Rep] at r1
  obtain⟨a,vs,rfl,hs,rr⟩:=r1
  exact⟨a,rfl,.inr ⟨vs,au g1.fh hs,q _ H1 HF1 g1 (Ak hs rr)⟩⟩
 ·simp only[Rep] at r1
  obtain⟨a,vs,rfl,hs,rr⟩:=r1
  exact⟨a,rfl,.inl ⟨vs,g1.fh.seq hs,q _ H1 HF1 g1 (xB hs rr)⟩⟩
noncomputable def sC(i:Int):Bool:=decide (-(2 ^ 62)<=i)&&decide (i < 2 ^ 62)
noncomputable def iW:List D->Option (List D)
 | [.int j]=>if sC j then some ((List.range j.toNat).map fun i=>PyData.int ((i:Nat):Int)) else none
 | _=>none
theorem rS{ds es:List D}(h:iW ds=some es):∃j,ds=[.int j]/\sC j=true/\es=(List.range j.toNat).map fun i=>PyData.int ((i:Nat):Int):=by
 unfold iW at h
 split at h
 ·split at h
  ·cases h;exact⟨_,rfl,‹_›,rfl⟩
  ·cases h
 ·cases h
noncomputable def aF(fs:Env->Option (List D)):Env->Option (List D):=fun ρ=>(fs ρ).bind iW
theorem yo(B:jj X "range" (.type "range"))(h:DA X [e] fs)(hs:starEach [e] X.env=[(false,eval e X.env)]:=by rfl):DI X tg (.Call (.Name "range" p) [e] [] pos) (aF fs) :=
 m6 (wK B.gl B.mg h hs) fun σ H R ⟨HF,ρ,ds,sm,eo,hf,q⟩=>by
  obtain⟨x,hx,hf⟩:=bs hf
  obtain⟨j,rfl,hj,rfl⟩:=rS hf
  refine⟨HF,ρ,_,sm,eo,hx,fun vs H1 HF1 g1 r1=>?_⟩
  obtain⟨v,r,rfl,a,b⟩:=r1.cons_inv
  rw[b.nil_inv]
  simp only[Rep] at a
  subst a
  unfold sC at hj
  rw[zF] at hj
  refine⟨j,rfl,of_decide_eq_true hj.1,of_decide_eq_true hj.2,q _ H1 HF1 g1 ?_⟩
  have:=uF (K:=X.K) (HF:=HF1) (lo:=0) (n:=j.toNat)
  simpa using this
def IA(K:W.Frag)(f:Env->D->Option Env):TG:=fun v σ H Q=>∃HF ρ d ρ',aH HF H/\b8 K HF ρ σ/\Rep K HF d v/\f ρ d=some ρ'/\∀σ',b8 K HF ρ' σ'->b8 K HF ρ σ'->Q σ' H
def DG(X:Cx)(tg:Expr)(f:Env->D->Option Env):Prop:=PG X tg (IA X.K f)
theorem jy{t t':TG}(h:PG X tg t)(i:∀v σ H Q,t' v σ H Q->t v σ H Q):PG X tg t':=fun pins s σ H v u Q I r q=>h pins s σ H v u Q I r (i v σ H Q q)
noncomputable def isFree(ρ:Env)(i:Nat):Bool:=((ρ[i]?).getD none).isNone
theorem dD{K:W.Frag}{HF:Hp}{ρ:Env}{σ:L2.St}{i:Nat}{d:D}{v:V}(eo:b8 K HF ρ σ)(r:Rep K HF d v):b8 K HF (ρ.set i (some d)) (σ.set i (some v)):=by
 refine⟨fun j e h=>?_,by rw[yD,yD];exact eo.len,eo.tb⟩
 rw[List.getElem?_set] at h ⊢
 by_cases hij:i=j
 ·rw[if_pos hij] at h ⊢
  by_cases hl:i < ρ.length
  ·rw[if_pos hl] at h
   cases h
   rw[if_pos (zP hl eo.len)]
   exact⟨v,rfl,r⟩
  ·rw[if_neg hl] at h;cases h
 ·rw[if_neg hij] at h ⊢
  exact eo.get j e h
theorem ee{K:W.Frag}{HF:Hp}{ρ:Env}{σ:L2.St}{i:Nat}{v:V}(eo:b8 K HF ρ σ)(hf:isFree ρ i=true):b8 K HF ρ (σ.set i (some v)):=by
 refine⟨fun j e h=>?_,by rw[yD];exact eo.len,eo.tb⟩
 have hij:i≠j:=by
  intro z;subst z
  unfold isFree at hf;rw[h] at hf;cases hf
 rw[List.getElem?_set,if_neg hij]
 exact eo.get j e h
noncomputable def fG(i:Nat):Env->D->Option Env:=fun ρ d=>if isFree ρ i=true then some (ρ.set i (some d)) else none
theorem BV(i:Nat){x:Str}(hN:X.N.Nodup)(hi:X.N[i]?=some x)(hx:Loc X.env.scope x)(hf:X.fn x=true\/X.env.scope.names.lookup x=some .local:=by first|exact .inl rfl|exact .inr rfl|assumption):DG X (.Name x pos) (fG i) :=
 jy (bh hN hi hx hf) fun v σ H Q ⟨HF,ρ,d,ρ',sm,eo,r,hf,q⟩=>by
  unfold fG at hf
  split at hf
  ·cases hf;exact q _ (dD eo r) (ee eo ‹_›)
  ·cases hf
noncomputable def gu(i j:Nat):Env->D->Option Env:=fun ρ d=>match d with
 | .tuple [x,y]=>if isFree ρ i=true/\isFree ρ j=true then some ((ρ.set i (some x)).set j (some y)) else none
 | _=>none
theorem F1(i j:Nat){x y:Str}{px py:Pos}{k:Nat}(hc:X.calm=true)(hN:X.N.Nodup)(hi:X.N[i]?=some x)(hx:Loc X.env.scope x)(hj:X.N[j]?=some y)(hy:Loc X.env.scope y)
  (hf:X.fn x=true\/X.env.scope.names.lookup x=some .local:=by first|exact .inl rfl|exact .inr rfl|assumption) (hf':X.fn y=true\/X.env.scope.names.lookup y=some .local:=by first|exact .inl rfl|exact .inr rfl|assumption) :
  DG X (.Tuple [.Name x px,.Name y py] k pos) (gu i j) :=
 jy (iJ hc (aP (bh hN hi hx hf) (aP (bh hN hj hy hf') eU))) fun v σ H Q ⟨HF,ρ,d,ρ',sm,eo,r,hf,q⟩=>by
  unfold gu at hf
  split at hf
  ·rename_i x' y'
   split at hf
   ·rename_i hh
    cases hf
    simp only[Rep] at r
    obtain⟨a,vs,rfl,hs,rr⟩:=r
    obtain⟨v1,r1,rfl,a1,b1⟩:=rr.cons_inv
    obtain⟨v2,r2,rfl,a2,b2⟩:=b1.cons_inv
    rw[b2.nil_inv] at hs
    exact⟨a,_,rfl,au sm hs,rfl,v1,_,rfl,v2,_,rfl,rfl,q _ (dD (dD eo a1) a2) (ee (ee eo hh.1) hh.2)⟩
   ·cases hf
  ·cases hf
noncomputable def bQ(tgt:Env->D->Option Env)(tt:Env->Option Bool)(te:Env->Option D)(ρ:Env):List D->Option (List D)
 | []=>some []
 | d::ds=>(tgt ρ d).bind fun ρ'=>(tt ρ').bind fun b=>if b=true then (te ρ').bind fun x=>(bQ tgt tt te ρ ds).map (x::·) else bQ tgt tt te ρ ds
def Ig(X:Cx)(ifs:List Expr)(f:Env->Option Bool):Prop:=GL X ifs (FM X.K f)
theorem CI:Ig X [] (fun _=>some true):=fun pins s σ H Q I ⟨HF,ρ,b,sm,eo,hf,q⟩=>CP pins s σ H Q I (by cases hf;exact q H HF (.refl sm))
theorem Dz{c:Expr}{t:Env->Option Bool}(h:DT X c t):Ig X [c] t:=B8 h
noncomputable def iI(t:Nat)(cs:List Nat)(σ:L2.St):L2.St:=List.replicate t none++cs.map fun j=>(σ[j]?).getD none
noncomputable def cY(t:Nat)(cs:List Nat)(ρ:Env):Env:=List.replicate t none++cs.map fun j=>(ρ[j]?).getD none
theorem vq{K:W.Frag}{HF:Hp}{ρ:Env}{σ:L2.St}{t:Nat}{cs:List Nat}(eo:b8 K HF ρ σ):b8 K HF (cY t cs ρ) (iI t cs σ):=by
 refine⟨fun i d h=>?_,by simp[cY,iI],eo.tb⟩
 unfold cY at h
 unfold iI
 by_cases hi:i < t
 ·rw[List.getElem?_append_left (by simpa using hi),List.getElem?_replicate,if_pos hi] at h
  cases h
 ·rw[List.getElem?_append_right (by simpa using hi),zO,List.length_replicate] at h
  rw[List.getElem?_append_right (by simpa using hi),zO,List.length_replicate]
  obtain⟨j,hj,h⟩:=ae h
  rw[hj]
  cases e:ρ[j]? with
  | none=>rw[e] at h;cases h
  | some o =>
   rw[e] at h
   have h:o=some d:=h
   subst h
   obtain⟨v,a,b⟩:=eo.get j d e
   exact⟨v,by show some ((σ[j]?).getD none)=_;rw[a];rfl,b⟩
noncomputable def ai(t:Nat)(cs:List Nat)(fi:Env->Option (List D))(tgt:Env->D->Option Env)(tt:Env->Option Bool)(te:Env->Option D):Env->Option (List D):=fun ρ=>(fi ρ).bind fun ds=>(bQ tgt tt te (cY t cs ρ) ds).bind small
variable {elt iter:Expr}{ifs:List Expr}{scope:Scope}{N:List Str}{t:Nat}{cs:List Nat}{fi:Env->Option (List D)}{tgt:Env->D->Option Env}{tt:Env->Option Bool}{te:Env->Option D}
theorem Bm:∀σ H Q,tF X.K (ai t cs fi tgt tt te) σ H Q->yY (JR X.K fi) (IA X.K tgt) (FM X.K tt) (tD X.K te) (iI t cs) σ H Q:=fun σ H Q ⟨HF,ρ,out,sm,eo,hf,q⟩=>by
 obtain⟨ds,hx,hf⟩:=bs hf
 obtain⟨out',ho,hf⟩:=bs hf
 obtain⟨rfl,hz⟩:=dz hf
 refine⟨HF,ρ,ds,sm,eo,hx,fun J H1 HF1 g1 it Dn hD=>?_⟩
 have eo1:=vq (t:=t) (cs:=cs) (eo.mono g1.ff)
 have hFD:HF1 Dn=none:=g1.fh.free hD
 refine⟨fun i m σ' H'=>m+i=ds.length/\∃HF' xs ys rest,bo HF1 H1 HF' H'/\HF' Dn=none/\H' Dn=some (.lst ys)/\aj X.K HF' xs ys/\b8 X.K HF' (cY t cs ρ) σ'/\bQ tgt tt te (cY t cs ρ) (ds.drop i)=some rest/\xs++rest=out,
  ⟨ds.length,rfl,HF1,[],[],out,.own g1.fh hD,hFD,aw,aj.nil,eo1,ho,rfl⟩,?_⟩
 rintro i m σ' H' ⟨hm,HF',xs,ys,rest,G,hFD',hHD,rr,eo',hc,hout⟩
 by_cases hi:i < ds.length
 ·refine .inr ?_
  have hd:ds.drop i=ds[i]::ds.drop (i+1):=List.drop_eq_getElem_cons hi
  have he:ds[i]?=some ds[i]:=zU.mpr ⟨hi,rfl⟩
  generalize ds[i]=d at hd he
  rw[hd] at hc
  unfold bQ at hc
  obtain⟨ρ',h1,hc⟩:=bs hc
  obtain⟨b,h2,hc⟩:=bs hc
  obtain⟨go,yld⟩:=it.go i d H' HF' he G.ff G.fh
  refine⟨go,fun x H2 y=>?_⟩
  obtain⟨HF2,G2,rx⟩:=yld x H2 y
  refine⟨HF2,_,d,ρ',G2.fh,eo'.mono G2.ff,rx,h1,fun σ2 eo2 eo2'=>?_⟩
  refine⟨HF2,ρ',b,G2.fh,eo2,h2,fun H3 HF3 G3=>?_⟩
  have nof:∀HF4 H4,bo HF' H' HF4 H4->HF4 Dn=none:=fun HF4 H4 G4=>by
   cases e4:HF4 Dn with
   | none=>rfl
   | some o =>
    rcases G4.nw Dn o e4 with z|z
    ·rw[hFD'] at z;cases z
    ·rw[hHD] at z;cases z
  cases b with
  | false =>
   refine sJ ⟨m - 1,by omega,by omega,HF3,xs,ys,rest,(G.trans G2).trans G3,nof _ _ (G2.trans G3),(G2.trans G3).hh _ _ hHD,rr.mono (G2.trans G3).ff,eo2'.mono G3.ff,by simpa using hc,hout⟩
  | true =>
   rw[if_pos rfl] at hc
   obtain⟨z,h3,hc⟩:=bs hc
   obtain⟨rest',h4,rfl⟩:=ae hc
   refine r8 ⟨HF3,ρ',z,G3.fh,eo2.mono G3.ff,h3,fun v H4 HF4 G4 rv=>?_⟩
   have GG:=(G2.trans G3).trans G4
   have n4:=nof _ _ GG
   have h4D:=GG.hh _ _ hHD
   have hlen:ys.length < sizeLine:=by
    have e1:=rr.length
    have e2:out.length=xs.length+(rest'.length+1):=by rw[<- hout];simp
    omega
   refine⟨ys,h4D,hlen,m - 1,by omega,by omega,HF4,xs++[z],ys++[v],rest',?_,n4,aw,(rr.mono GG.ff).append (aj.cons rv aj.nil),eo2'.mono (G3.ff.trans G4.ff),h4,by simp[<- hout]⟩
   have G5:=G.trans GG
   refine⟨fun b o e=>?_,G5.ff,fun b o e=>?_,G5.nw⟩
   ·rw[av (aC e hD)];exact G5.hh b o e
   ·rw[av (aC e n4)];exact G5.fh b o e
 ·have hi':i=ds.length:=by omega
  subst hi'
  rw[List.drop_length] at hc
  cases hc
  rw[List.append_nil] at hout
  subst hout
  exact .inl ⟨it.stop H' HF' G.ff G.fh,q Dn ys H' HF' (g1.trans G) (g1.hh.free hD) hFD' hHD rr⟩
theorem DK(hc:X.calm=true)(S:gH X scope N (iI t cs))(hi:DI X tg iter fi)
  (hY:∀fp s H,DG (aJ X scope N fp s H) tg tgt/\Ig (aJ X scope N fp s H) ifs tt/\DE (aJ X scope N fp s H) elt te)
  (hs:∀x,foldedSetIterable iter X.env x=pure x:=by intro _;rfl):DF X (.ListComp elt [⟨tg,iter,ifs,0⟩] scope pos) (ai t cs fi tgt tt te):=aG (Cj (g:=IA X.K tgt) (tt:=FM X.K tt) (te:=tD X.K te) hc S hi hY hs) Bm
end
inductive Slot where
 | non|val (d:D)|own (ds:List D)
noncomputable abbrev ao:=List Slot
noncomputable def Slot.all:Slot->Option D|.non=>none|.val d=>some d|.own ds=>some (.list ds)
noncomputable def Slot.frz:Slot->Option D|.val d=>some d|_=>none
noncomputable def Slot.thaw:Slot->Slot|.own ds=>.val (.list ds)|s=>s
noncomputable def aV(ρ:ao):Env:=ρ.map Slot.all
noncomputable def bR(ρ:ao):Env:=ρ.map Slot.frz
noncomputable def hand(fz:List Nat):Nat->ao->ao
 | _,[]=>[]
 | k,s::r=>(if fz.contains k=true then s.thaw else s)::hand fz (k+1) r
theorem f7(fz:List Nat):∀ (ρ:ao) (k i:Nat),(hand fz k ρ)[i]?=(ρ[i]?).map fun s=>if fz.contains (k+i)=true then s.thaw else s
 | [],k,i=>by simp[hand]
 | s::r,k,0=>by simp[hand]
 | s::r,k,i+1=>by
  simp only[hand,List.getElem?_cons_succ]
  rw[f7 fz r (k+1) i,Nat.add_assoc,Nat.add_comm 1 i]
theorem sk(fz:List Nat):∀ (ρ:ao) (k:Nat),(hand fz k ρ).length=ρ.length
 | [],k=>rfl
 | s::r,k=>by simp[hand,sk fz r (k+1)]
structure hZ(K:W.Frag)(HF₀ H₀ HF H:Hp)(ρ:ao)(σ:L2.St):Prop where
 gr:bo HF₀ H₀ HF H
 val:∀ (i:Nat) (d:D),ρ[i]?=some (.val d)->∃v,σ[i]?=some (some v)/\Rep K HF d v
 own:∀ (i:Nat) (ds:List D),ρ[i]?=some (.own ds)->∃a vs,σ[i]?=some (some (.ref a))/\H a=some (.lst vs)/\HF a=none/\H₀ a=none/\aj K HF ds vs
 inj:∀ (i j:Nat) (ds es:List D) (a:Addr),ρ[i]?=some (.own ds)->ρ[j]?=some (.own es)->σ[i]?=some (some (.ref a))->σ[j]?=some (some (.ref a))->i=j
 len:ρ.length<=σ.length
 tb:eG K HF
section
variable {K:W.Frag}{HF₀ H₀ HF H HF' H':Hp}{ρ:ao}{σ:L2.St}
theorem hZ.all(S:hZ K HF₀ H₀ HF H ρ σ):b8 K H (aV ρ) σ:=by
 refine⟨fun i d h=>?_,by simpa [aV] using S.len,S.tb.mono S.gr.fh⟩
 unfold aV at h
 rw[zO] at h
 obtain⟨s,hs,h⟩:=ae h
 cases s with
 | non=>cases h
 | val e=>cases h;obtain⟨v,a,b⟩:=S.val i _ hs;exact⟨v,a,b.mono S.gr.fh⟩
 | own ds =>
  cases h
  obtain⟨a,vs,e1,e2,e3,_,e4⟩:=S.own i ds hs
  exact⟨.ref a,e1,by simp only[Rep];exact⟨a,vs,rfl,fj.of e2,e4.mono S.gr.fh⟩⟩
theorem hZ.frz(S:hZ K HF₀ H₀ HF H ρ σ):b8 K HF (bR ρ) σ:=by
 refine⟨fun i d h=>?_,by simpa [bR] using S.len,S.tb⟩
 unfold bR at h
 rw[zO] at h
 obtain⟨s,hs,h⟩:=ae h
 cases s with
 | non=>cases h
 | val e=>cases h;exact S.val i _ hs
 | own ds=>cases h
theorem hZ.grow(S:hZ K HF₀ H₀ HF H ρ σ)(g:bo HF H HF' H'):hZ K HF₀ H₀ HF' H' ρ σ where
 gr:=S.gr.trans g
 val:=fun i d h=>let ⟨v,a,b⟩:=S.val i d h;⟨v,a,b.mono g.ff⟩
 own:=fun i ds h=>by
  obtain⟨a,vs,e1,e2,e3,e5,e4⟩:=S.own i ds h
  refine⟨a,vs,e1,g.hh _ _ e2,?_,e5,e4.mono g.ff⟩
  cases e:HF' a with
  | none=>rfl
  | some o =>
   rcases g.nw a o e with z|z
   ·rw[e3] at z;cases z
   ·rw[e2] at z;cases z
 inj:=S.inj
 len:=S.len
 tb:=S.tb.mono g.ff
theorem hZ.step(S:hZ K HF₀ H₀ HF H ρ σ)(g:aH H H'):hZ K HF₀ H₀ HF H' ρ σ:=S.grow ⟨g,.refl _,S.gr.fh.trans g,fun _ _ e=>.inl e⟩
theorem hZ.hand(S:hZ K HF₀ H₀ HF H ρ σ)(fz:List Nat):∃HF1,aH HF HF1/\hZ K HF₀ H₀ HF1 H (hand fz 0 ρ) σ:=by
 let P:Addr->Prop:=fun a=>∃i ds,fz.contains i=true/\ρ[i]?=some (.own ds)/\σ[i]?=some (some (.ref a))
 have cl:=Classical.propDecidable
 let HF1:Hp:=fun a=>if P a then H a else HF a
 have hP:∀a,P a->HF a=none/\H₀ a=none:=fun a ⟨i,ds,_,h1,h2⟩=>by
  obtain⟨a',vs,e1,e2,e3,e5,e4⟩:=S.own i ds h1
  rw[h2] at e1
  cases e1
  exact⟨e3,e5⟩
 have s1:aH HF HF1:=fun b o e=>by
  show (if P b then H b else HF b)=some o
  by_cases h:P b
  ·rw[(hP b h).1] at e;cases e
  ·rw[if_neg h];exact e
 have s2:aH HF1 H:=fun b o e=>by
  have e:(if P b then H b else HF b)=some o:=e
  by_cases h:P b
  ·rw[if_pos h] at e;exact e
  ·rw[if_neg h] at e;exact S.gr.fh b o e
 refine⟨HF1,s1,⟨S.gr.hh,S.gr.ff.trans s1,s2,fun b o e=>?_⟩,fun i d h=>?_,fun i ds h=>?_,fun i j ds es a h1 h2=>?_,by rw[sk];exact S.len,S.tb.mono s1⟩
 ·have e:(if P b then H b else HF b)=some o:=e
  by_cases h:P b
  ·exact .inr (hP b h).2
  ·rw[if_neg h] at e;exact S.gr.nw b o e
 ·rw[f7] at h
  obtain⟨s,hs,h⟩:=ae h
  rw[Nat.zero_add] at h
  cases s with
  | non=>split at h<;>cases h
  | val e =>
   have:Slot.val e=Slot.val d:=by split at h<;>exact h
   cases this
   obtain⟨v,a,b⟩:=S.val i _ hs
   exact⟨v,a,b.mono s1⟩
  | own ds =>
   split at h
   ·rename_i hc
    cases h
    obtain⟨a,vs,e1,e2,e3,e5,e4⟩:=S.own i ds hs
    refine⟨.ref a,e1,?_⟩
    simp only[Rep]
    refine⟨a,vs,rfl,.inl (.inl ?_),e4.mono s1⟩
    show (if P a then H a else HF a)=_
    rw[if_pos ⟨i,ds,hc,hs,e1⟩]
    exact e2
   ·cases h
 ·rw[f7] at h
  obtain⟨s,hs,h⟩:=ae h
  rw[Nat.zero_add] at h
  cases s with
  | non=>split at h<;>cases h
  | val e=>split at h<;>cases h
  | own es =>
   split at h
   ·cases h
   ·rename_i hc
    cases h
    obtain⟨a,vs,e1,e2,e3,e5,e4⟩:=S.own i ds hs
    refine⟨a,vs,e1,e2,?_,e5,e4.mono s1⟩
    show (if P a then H a else HF a)=none
    rw[if_neg ?_]
    ·exact e3
    ·rintro⟨j,es,hj,h1,h2⟩
     have:=S.inj i j ds es a hs h1 e1 h2
     subst this
     exact hc hj
 ·rw[f7] at h1 h2
  obtain⟨s,hs,h1⟩:=ae h1
  obtain⟨s',hs',h2⟩:=ae h2
  rw[Nat.zero_add] at h1 h2
  cases s with
  | non=>split at h1<;>cases h1
  | val e=>split at h1<;>cases h1
  | own xs =>
   cases s' with
   | non=>split at h2<;>cases h2
   | val e=>split at h2<;>cases h2
   | own ys=>exact S.inj i j _ _ a hs hs'
theorem hZ.setV(S:hZ K HF₀ H₀ HF H ρ σ){i:Nat}{d:D}{v:V}(r:Rep K HF d v):hZ K HF₀ H₀ HF H (ρ.set i (.val d)) (σ.set i (some v)):=by
 have ne:∀ {j:Nat}{s:Slot},(ρ.set i (.val d))[j]?=some s->(∀e,s≠.val e)->i≠j/\ρ[j]?=some s:=fun {j s} h hn=>by
  rw[List.getElem?_set] at h
  by_cases hij:i=j
  ·rw[if_pos hij] at h
   split at h
   ·cases h;exact absurd rfl (hn _)
   ·cases h
  ·rw[if_neg hij] at h;exact⟨hij,h⟩
 refine⟨S.gr,fun j e h=>?_,fun j ds h=>?_,fun j k ds es a h1 h2 h3 h4=>?_,by rw[yD,yD];exact S.len,S.tb⟩
 ·rw[List.getElem?_set] at h ⊢
  by_cases hij:i=j
  ·rw[if_pos hij] at h ⊢
   split at h
   ·rename_i hl
    cases h
    rw[if_pos (zP hl S.len)]
    exact⟨v,rfl,r⟩
   ·cases h
  ·rw[if_neg hij] at h ⊢
   exact S.val j e h
 ·obtain⟨hij,h⟩:=ne h fun e z=>by cases z
  rw[List.getElem?_set,if_neg hij]
  exact S.own j ds h
 ·obtain⟨n1,h1⟩:=ne h1 fun e z=>by cases z
  obtain⟨n2,h2⟩:=ne h2 fun e z=>by cases z
  rw[List.getElem?_set,if_neg n1] at h3
  rw[List.getElem?_set,if_neg n2] at h4
  exact S.inj j k ds es a h1 h2 h3 h4
theorem hZ.setO(S:hZ K HF₀ H₀ HF H ρ σ){i:Nat}{ds:List D}{a:Addr}{vs:List V}(hs:aH H H')(h1:H' a=some (.lst vs))(h2:HF a=none)(h3:H₀ a=none)(r:aj K HF ds vs)
  (fr:∀j es,i≠j->ρ[j]?=some (.own es)->σ[j]?≠some (some (.ref a))):hZ K HF₀ H₀ HF H' (ρ.set i (.own ds)) (σ.set i (some (.ref a))):=by
 have S:=S.step hs
 refine⟨S.gr,fun j e h=>?_,fun j es h=>?_,fun j k xs ys b e1 e2 e3 e4=>?_,by rw[yD,yD];exact S.len,S.tb⟩
 ·rw[List.getElem?_set] at h ⊢
  by_cases hij:i=j
  ·rw[if_pos hij] at h
   split at h<;>cases h
  ·rw[if_neg hij] at h ⊢
   exact S.val j e h
 ·rw[List.getElem?_set] at h ⊢
  by_cases hij:i=j
  ·rw[if_pos hij] at h ⊢
   split at h
   ·rename_i hl
    cases h
    rw[if_pos (zP hl S.len)]
    exact⟨a,vs,rfl,h1,h2,h3,r⟩
   ·cases h
  ·rw[if_neg hij] at h ⊢
   exact S.own j es h
 ·rw[List.getElem?_set] at e1 e2 e3 e4
  by_cases hij:i=j
  ·by_cases hik:i=k
   ·exact hij.symm.trans hik
   ·rw[if_pos hij] at e1 e3
    rw[if_neg hik] at e2 e4
    split at e3
    ·cases e3;exact absurd e4 (fr k ys hik e2)
    ·cases e3
  ·by_cases hik:i=k
   ·rw[if_neg hij] at e1 e3
    rw[if_pos hik] at e2 e4
    split at e4
    ·cases e4;exact absurd e3 (fr j xs hij e1)
    ·cases e4
   ·rw[if_neg hij] at e1 e3
    rw[if_neg hik] at e2 e4
    exact S.inj j k xs ys b e1 e2 e3 e4
end
inductive Out where
 | nx (ρ:ao)|rt (d:D)
noncomputable def vH(K:W.Frag)(HF₀ H₀ HF:Hp)(E:Ends):Out->Prop
 | .nx ρ'=>∀σ' H' HF',hZ K HF₀ H₀ HF' H' ρ' σ'->aH HF HF'->E.nx σ' H'
 | .rt d=>∀v H' HF',bo HF₀ H₀ HF' H'->Rep K HF' d v->E.rt v H'
def tS(K:W.Frag)(HF₀ H₀:Hp)(g:ao->Option Out):TS:=fun E σ H=>∃HF ρ o,hZ K HF₀ H₀ HF H ρ σ/\g ρ=some o/\vH K HF₀ H₀ HF E o
def DS(X:Cx)(HF₀ H₀:Hp)(st:Stmt)(g:ao->Option Out):Prop:=PS X st (tS X.K HF₀ H₀ g)
def xV(X:Cx)(HF₀ H₀:Hp)(st:List Stmt)(g:ao->Option Out):Prop:=ug X st (tS X.K HF₀ H₀ g)
section
variable {X:Cx}{HF₀ H₀:Hp}{st:Stmt}{rest:List Stmt}{g g1 g2:ao->Option Out}{e:Expr}{pos:Pos}
theorem cq{t t':TS}(h:PS X st t)(i:∀E σ H,t' E σ H->t E σ H):PS X st t':=fun pins s σ H E I q=>h pins s σ H E I (i E σ H q)
theorem vA{t t':TS}(h:ug X rest t)(i:∀E σ H,t' E σ H->t E σ H):ug X rest t':=fun pins s σ H E I q=>h pins s σ H E I (i E σ H q)
noncomputable def hX:ao->Option Out:=fun ρ=>some (.nx ρ)
noncomputable def ay(g1 g2:ao->Option Out):ao->Option Out:=fun ρ=>(g1 ρ).bind fun|.nx ρ'=>g2 ρ'|.rt d=>some (.rt d)
theorem vH.mono{K:W.Frag}{HF HF':Hp}{E:Ends}{o:Out}(s:aH HF HF')(h:vH K HF₀ H₀ HF E o):vH K HF₀ H₀ HF' E o:=by
 cases o with
 | nx ρ'=>exact fun σ' H' HF2 S s2=>h σ' H' HF2 S (s.trans s2)
 | rt d=>exact h
theorem CS:xV X HF₀ H₀ [] hX:=vA CL fun E σ H ⟨HF,ρ,o,S,hg,q⟩=>by cases hg;exact q σ H HF S (.refl _)
theorem BF(h1:DS X HF₀ H₀ st g1)(h2:xV X HF₀ H₀ rest g2):xV X HF₀ H₀ (st::rest) (ay g1 g2):=vA (yN h1 h2) fun E σ H ⟨HF,ρ,o,S,hg,q⟩=>by
 obtain⟨o1,h,hg⟩:=bs hg
 refine⟨HF,ρ,o1,S,h,?_⟩
 cases o1 with
 | nx ρ'=>exact fun σ' H' HF' S' s=>⟨HF',ρ',o,S',hg,q.mono s⟩
 | rt d=>cases hg;exact q
theorem Cv(h1:DS X HF₀ H₀ st g1):xV X HF₀ H₀ [st] g1:=Cr h1
theorem Dx:DS X HF₀ H₀ (.Pass pos) hX:=cq CD fun E σ H ⟨HF,ρ,o,S,hg,q⟩=>by cases hg;exact q σ H HF S (.refl _)
theorem Gx{x j pos pos'}:DS X HF₀ H₀ (.Expr (.Constant (.str x) j pos) pos') hX:=cq E5 fun E σ H ⟨HF,ρ,o,S,hg,q⟩=>by cases hg;exact q σ H HF S (.refl _)
noncomputable def jl(t:Env->Option Bool)(g1 g2:ao->Option Out):ao->Option Out:=fun ρ=>(t (aV ρ)).bind fun b=>if b=true then g1 ρ else g2 ρ
theorem Hg{c:Expr}{a b:List Stmt}{t:Env->Option Bool}(hc:DT X c t)(ha:xV X HF₀ H₀ a g1)(hb:xV X HF₀ H₀ b g2):DS X HF₀ H₀ (.If c a b pos) (jl t g1 g2):=cq (Hi hc ha hb) fun E σ H ⟨HF,ρ,o,S,hg,q⟩=>by
 obtain⟨b,h,hg⟩:=bs hg
 refine⟨H,aV ρ,b,.refl _,S.all,h,fun H' HF' G=>?_⟩
 cases b with
 | true=>exact r8 ⟨HF,ρ,o,S.step G.hh,hg,q⟩
 | false=>exact sJ ⟨HF,ρ,o,S.step G.hh,hg,q⟩
theorem rW:∀ (ρ:ao) (k n:Nat),k+ρ.length<=n->bR (hand (List.range n) k ρ)=aV ρ
 | [],k,n,h=>rfl
 | s::r,k,n,h=>by
  have hk:(List.range n).contains k=true:=by simp at h ⊢;omega
  have ih:=rW r (k+1) n (by simp at h;omega)
  unfold bR aV at ih ⊢
  rw[hand,if_pos hk,zI,zI,ih]
  cases s<;>rfl
noncomputable def aX(f:Env->Option D):ao->Option Out:=fun ρ=>(f (aV ρ)).map Out.rt
theorem Gf{f:Env->Option D}(h:DE X e f):DS X HF₀ H₀ (.Return (some e) pos) (aX f):=cq (EB h) fun E σ H ⟨HF,ρ,o,S,hg,q⟩=>by
 obtain⟨d,h,rfl⟩:=ae hg
 obtain⟨HF1,s1,S1⟩:=S.hand (List.range ρ.length)
 refine⟨HF1,aV ρ,d,S1.gr.fh,?_,h,fun v H' HF' G r=>q v H' HF' (S1.gr.trans G) r⟩
 have:=S1.frz
 rw[rW ρ 0 ρ.length (by omega)] at this
 exact this
noncomputable def kJ:D->Bool|.none=>true|.bool _=>true|.int _=>true|.str _=>true|_=>false
theorem nq{K:W.Frag}{HF HF':Hp}{d:D}{v:V}(h:kJ d=true)(r:Rep K HF d v):Rep K HF' d v:=by
 cases d<;>cases h<;>(simp only[Rep] at r ⊢;exact r)
mutual
noncomputable def gf:D->Bool
 | .tuple ds=>ml ds
 | .list _=>false
 | .dict _=>false
 | _=>true
noncomputable def ml:List D->Bool
 | []=>true
 | d::ds=>gf d&&ml ds
end
mutual
theorem sR{K:W.Frag}{H1 H2:Hp}(ht:∀a xs,fP K H1 a xs->fP K H2 a xs):∀ {d:D}{v:V},gf d=true->Rep K H1 d v->Rep K H2 d v
 | .none,_,_,r=>by simp only[Rep] at r ⊢;exact r
 | .bool _,_,_,r=>by simp only[Rep] at r ⊢;exact r
 | .int _,_,_,r=>by simp only[Rep] at r ⊢;exact r
 | .str _,_,_,r=>by simp only[Rep] at r ⊢;exact r
 | .tuple ds,v,h,r=>by
  simp only[gf] at h
  simp only[Rep] at r ⊢
  obtain⟨a,vs,e,q,rr⟩:=r
  exact⟨a,vs,e,ht _ _ q,pj ht h rr⟩
 | .list _,_,h,_=>by simp[gf] at h
 | .dict _,_,h,_=>by simp[gf] at h
theorem pj{K:W.Frag}{H1 H2:Hp}(ht:∀a xs,fP K H1 a xs->fP K H2 a xs):∀ {ds:List D}{vs:List V},ml ds=true->aj K H1 ds vs->aj K H2 ds vs
 | [],_,_,r=>by simp only[aj] at r ⊢;exact r
 | d::ds,vs,h,r=>by
  simp only[ml,zF] at h
  simp only[aj] at r ⊢
  obtain⟨v,r',e,a,b⟩:=r
  exact⟨v,r',e,sR ht h.1 a,pj ht h.2 b⟩
end
theorem hZ.back{K:W.Frag}{HF₀ H₀ HF H HF1 HF' H':Hp}{ρ ρ1:ao}{σ:L2.St}(S:hZ K HF₀ H₀ HF H ρ σ)(S1:hZ K HF₀ H₀ HF1 H ρ1 σ)(s1:aH HF HF1)(G:bo HF1 H HF' H'):∃HF2,aH HF HF2/\hZ K HF₀ H₀ HF2 H' ρ σ/\∀d v,gf d=true->Rep K HF' d v->Rep K HF2 d v:=by
 have cl:=Classical.propDecidable
 let O:Addr->Prop:=fun a=>∃ (i:Nat) (ds:List D),ρ[i]?=some (Slot.own ds)/\σ[i]?=some (some (V.ref a))
 let HF2:Hp:=fun a=>if O a then none else HF' a
 have hO:∀a,O a->HF a=none/\∃vs,H a=some (.lst vs):=fun a ⟨i,ds,h1,h2⟩=>by
  obtain⟨a',vs,e1,e2,e3,_,_⟩:=S.own i ds h1
  rw[h2] at e1
  cases e1
  exact⟨e3,vs,e2⟩
 have h2:∀a,¬ O a->HF2 a=HF' a:=fun a n=>if_neg n
 have h3:∀a,O a->HF2 a=none:=fun a n=>if_pos n
 have sa:aH HF HF2:=fun b o e=>by
  have nb:¬ O b:=fun z=>by rw[(hO b z).1] at e;cases e
  rw[h2 b nb]
  exact G.ff b o (s1 b o e)
 have sb:∀b o,HF2 b=some o->HF' b=some o:=fun b o e=>by
  by_cases z:O b
  ·rw[h3 b z] at e;cases e
  ·rwa [h2 b z] at e
 have g2:=S1.gr.trans G
 refine⟨HF2,sa,⟨⟨g2.hh,S.gr.ff.trans sa,fun b o e=>G.fh b o (sb b o e),fun b o e=>g2.nw b o (sb b o e)⟩,fun i d h=>?_,fun i ds h=>?_,S.inj,S.len,S.tb.mono sa⟩,fun d v hn r=>sR (fun a xs q=>?_) hn r⟩
 ·obtain⟨v,e1,r⟩:=S.val i d h
  exact⟨v,e1,r.mono sa⟩
 ·obtain⟨a,vs,e1,e2,e3,e5,e4⟩:=S.own i ds h
  exact⟨a,vs,e1,G.hh _ _ e2,h3 a ⟨i,ds,h,e1⟩,e5,e4.mono sa⟩
 ·have nt:∀o,HF' a=some o->(∀vs,o≠.lst vs)->HF2 a=some o:=fun o e hne=>by
   by_cases z:O a
   ·obtain⟨_,vs,e2⟩:=hO a z
    have:=G.hh _ _ e2
    rw[G.fh a o e] at this
    cases this
    exact absurd rfl (hne vs)
   ·rw[h2 a z];exact e
  rcases q with (q|⟨o,q⟩)|q
  ·exact .inl (.inl (nt _ q fun vs z=>by cases z))
  ·exact .inl (.inr ⟨o,nt _ q fun vs z=>by cases z⟩)
  ·exact .inr q
noncomputable def aU(i:Nat)(fz:List Nat)(f:Env->Option D):ao->Option Out:=fun ρ=>(f (aV ρ)).bind fun d=>if kJ d=true then some (.nx (ρ.set i (.val d))) else (f (bR (hand fz 0 ρ))).map fun d'=>.nx ((if gf d'=true then ρ else hand fz 0 ρ).set i (.val d'))
theorem Ie{i:Nat}{fz:List Nat}{f:Env->Option D}:∀E σ H,tS X.K HF₀ H₀ (aU i fz f) E σ H->yV (tD X.K f) (sX i) E σ H:=fun E σ H ⟨HF,ρ,o,S,hg,q⟩=>by
 obtain⟨d,h,hg⟩:=bs hg
 split at hg
 ·rename_i hs
  cases hg
  exact⟨H,aV ρ,d,.refl _,S.all,h,fun v H' HF' G r=>q _ H' HF ((S.step G.hh).setV (nq hs r)) (.refl _)⟩
 ·obtain⟨d',h',rfl⟩:=ae hg
  obtain⟨HF1,s1,S1⟩:=S.hand fz
  refine⟨HF1,_,d',S1.gr.fh,S1.frz,h',fun v H' HF' G r=>?_⟩
  by_cases hn:gf d'=true
  ·rw[if_pos hn] at q
   obtain⟨HF2,s2,S2,hb⟩:=S.back S1 s1 G
   exact q _ H' HF2 (S2.setV (hb d' v hn r)) s2
  ·rw[if_neg hn] at q
   exact q _ H' HF' ((S1.grow G).setV r) (s1.trans G.ff)
theorem EU(i:Nat)(fz:List Nat){x:Str}{f:Env->Option D}{pos':Pos}(hN:X.N.Nodup)(hi:X.N[i]?=some x)(hx:Loc X.env.scope x)(he:DE X e f)(hs:swapsWith e (some (.Name x pos')) pos.line X.env=pure false:=by rfl)
  (hf:X.fn x=true\/X.env.scope.names.lookup x=some .local:=by first|exact .inl rfl|exact .inr rfl|assumption):DS X HF₀ H₀ (.Assign [.Name x pos'] e pos) (aU i fz f):=cq (ye hN hi hx he hs hf) Ie
noncomputable def aE(i:Nat)(fz:List Nat)(f:Env->Option (List D)):ao->Option Out:=fun ρ=>(f (bR (hand fz 0 ρ))).map fun ds=>.nx ((hand fz 0 ρ).set i (.own ds))
theorem zp{i:Nat}{fz:List Nat}{f:Env->Option (List D)}:∀E σ H,tS X.K HF₀ H₀ (aE i fz f) E σ H->yV (tF X.K f) (sX i) E σ H:=fun E σ H ⟨HF,ρ,o,S,hg,q⟩=>by
 obtain⟨ds,h,rfl⟩:=ae hg
 obtain⟨HF1,s1,S1⟩:=S.hand fz
 refine⟨HF1,_,ds,S1.gr.fh,S1.frz,h,fun a vs H' HF' G ha hf h' r=>q _ H' HF' ?_ (s1.trans G.ff)⟩
 have S2:=S1.grow G
 refine S2.setO (.refl _) h' hf (S1.gr.hh.free ha) r fun j es _ hj z=>?_
 obtain⟨b,us,e1,e2,_⟩:=S1.own j es hj
 rw[e1] at z
 cases z
 rw[ha] at e2;cases e2
theorem qh(i:Nat)(fz:List Nat){x:Str}{f:Env->Option (List D)}{pos':Pos}(hN:X.N.Nodup)(hi:X.N[i]?=some x)(hx:Loc X.env.scope x)(he:DF X e f)(hs:swapsWith e (some (.Name x pos')) pos.line X.env=pure false:=by rfl)
  (hf:X.fn x=true\/X.env.scope.names.lookup x=some .local:=by first|exact .inl rfl|exact .inr rfl|assumption):DS X HF₀ H₀ (.Assign [.Name x pos'] e pos) (aE i fz f):=cq (ye hN hi hx he hs hf) zp
theorem Dr(i:Nat)(fz:List Nat){y:Str}{py spos:Pos}{tg iter elt:Expr}{ifs:List Expr}{scope:Scope}{N:List Str}{t:Nat}{cs:List Nat}{fi:Env->Option (List D)}{tgt:Env->D->Option Env}{tt:Env->Option Bool}{te:Env->Option D}
  (hc:X.calm=true) (S:gH X scope N (iI t cs)) (hi:DI X tg iter fi)
  (hY:∀fp s H,DG (aJ X scope N fp s H) tg tgt/\Ig (aJ X scope N fp s H) ifs tt/\DE (aJ X scope N fp s H) elt te)
  (hN:X.N.Nodup) (hiy:X.N[i]?=some y) (hy:X.env.scope.names.lookup y=some .local)
  (hsw:swapsWith (.ListComp elt [⟨tg,iter,ifs,0⟩] scope pos) (some (.Name y py)) spos.line X.env=pure true)
  (hs:∀x,foldedSetIterable iter X.env x=pure x:=by intro _;rfl):DS X HF₀ H₀ (.Assign [.Name y py] (.ListComp elt [⟨tg,iter,ifs,0⟩] scope pos) spos) (aE i fz (ai t cs fi tgt tt te)) :=
 cq (Cp (g:=IA X.K tgt) (tt:=FM X.K tt) (te:=tD X.K te) hc S hi hY hN hiy hy hsw hs) fun E σ H q=>by
  have:=zp E σ H q
  exact Bm σ H _ this
def J5(K:W.Frag)(HF₀ H₀:Hp)(f:ao->D->Option ao):TG:=fun v σ H Q=>∃HF ρ d ρ',hZ K HF₀ H₀ HF H ρ σ/\Rep K HF d v/\f ρ d=some ρ'/\∀σ',hZ K HF₀ H₀ HF H ρ' σ'->Q σ' H
def G9(X:Cx)(HF₀ H₀:Hp)(tg:Expr)(f:ao->D->Option ao):Prop:=PG X tg (J5 X.K HF₀ H₀ f)
noncomputable def qu(i:Nat):ao->D->Option ao:=fun ρ d=>some (ρ.set i (.val d))
theorem Bh(i:Nat){x:Str}(hN:X.N.Nodup)(hi:X.N[i]?=some x)(hx:Loc X.env.scope x)(hf:X.fn x=true\/X.env.scope.names.lookup x=some .local:=by first|exact .inl rfl|exact .inr rfl|assumption):G9 X HF₀ H₀ (.Name x pos) (qu i) :=
 jy (bh hN hi hx hf) fun v σ H Q ⟨HF,ρ,d,ρ',S,r,hf,q⟩=>by cases hf;exact q _ (S.setV r)
noncomputable def iN(i j:Nat):ao->D->Option ao:=fun ρ d=>match d with
 | .tuple [x,y]=>some ((ρ.set i (.val x)).set j (.val y))
 | _=>none
theorem CG(i j:Nat){x y:Str}{px py:Pos}{k:Nat}(hc:X.calm=true)(hN:X.N.Nodup)(hi:X.N[i]?=some x)(hx:Loc X.env.scope x)(hj:X.N[j]?=some y)(hy:Loc X.env.scope y)
  (hf:X.fn x=true\/X.env.scope.names.lookup x=some .local:=by first|exact .inl rfl|exact .inr rfl|assumption) (hf':X.fn y=true\/X.env.scope.names.lookup y=some .local:=by first|exact .inl rfl|exact .inr rfl|assumption) :
  G9 X HF₀ H₀ (.Tuple [.Name x px,.Name y py] k pos) (iN i j) :=
 jy (iJ hc (aP (bh hN hi hx hf) (aP (bh hN hj hy hf') eU))) fun v σ H Q ⟨HF,ρ,d,ρ',S,r,hf,q⟩=>by
  unfold iN at hf
  split at hf
  ·cases hf
   simp only[Rep] at r
   obtain⟨a,vs,rfl,hs,rr⟩:=r
   obtain⟨v1,r1,rfl,a1,b1⟩:=rr.cons_inv
   obtain⟨v2,r2,rfl,a2,b2⟩:=b1.cons_inv
   rw[b2.nil_inv] at hs
   exact⟨a,_,rfl,au S.gr.fh hs,rfl,v1,_,rfl,v2,_,rfl,rfl,q _ ((S.setV a1).setV a2)⟩
  ·cases hf
noncomputable def dF(tgt:ao->D->Option ao)(gb:ao->Option Out):List D->ao->Option Out
 | [],ρ=>some (.nx ρ)
 | d::ds,ρ=>(tgt ρ d).bind fun ρ1=>(gb ρ1).bind fun|.nx ρ2=>dF tgt gb ds ρ2|.rt v=>some (.rt v)
noncomputable def d5(fz:List Nat)(fi:Env->Option (List D))(tgt:ao->D->Option ao)(gb:ao->Option Out):ao->Option Out:=fun ρ=>(fi (bR (hand fz 0 ρ))).bind fun ds=>dF tgt gb ds (hand fz 0 ρ)
theorem FY(fz:List Nat){tg iter:Expr}{body:List Stmt}{fi:Env->Option (List D)}{tgt:ao->D->Option ao}{gb:ao->Option Out}(hp:PassesOwn (model X.prog X.w) X.A X.env X.xe)(hc:X.calm=true)(hi:DI X tg iter fi)(hg:G9 X HF₀ H₀ tg tgt)(hb:xV X HF₀ H₀ body gb)
  (hs:∀x,foldedSetIterable iter X.env x=pure x:=by intro _;rfl):DS X HF₀ H₀ (.For tg iter body [] pos) (d5 fz fi tgt gb):=cq (Ft hp hc hi hg hb hs) fun E σ H ⟨HF,ρ,o,S,hg,q⟩=>by
 obtain⟨ds,h,hg⟩:=bs hg
 obtain⟨HF1,s1,S1⟩:=S.hand fz
 refine⟨HF1,_,ds,S1.gr.fh,S1.frz,h,fun J H2 HF2 G it=>?_⟩
 refine⟨fun i m σ' H'=>m+i=ds.length/\∃HF' ρ',hZ X.K HF₀ H₀ HF' H' ρ' σ'/\aH HF2 HF'/\dF tgt gb (ds.drop i) ρ'=some o,⟨ds.length,rfl,HF2,_,S1.grow G,.refl _,hg⟩,?_⟩
 rintro i m σ' H' ⟨hm,HF',ρ',S',s',hf⟩
 by_cases hi:i < ds.length
 ·refine .inr ?_
  have hd:ds.drop i=ds[i]::ds.drop (i+1):=List.drop_eq_getElem_cons hi
  have he:ds[i]?=some ds[i]:=zU.mpr ⟨hi,rfl⟩
  generalize ds[i]=d at hd he
  rw[hd] at hf
  unfold dF at hf
  obtain⟨ρ1,h1,hf⟩:=bs hf
  obtain⟨o1,h2,hf⟩:=bs hf
  obtain⟨go,yld⟩:=it.go i d H' HF' he s' S'.gr.fh
  refine⟨go,fun σ2 H3=>∃HF3 ρ3,hZ X.K HF₀ H₀ HF3 H3 ρ3 σ2/\aH HF2 HF3/\dF tgt gb (ds.drop (i+1)) ρ3=some o,fun σ2 H3 ⟨HF3,ρ3,a1,a2,a3⟩=>⟨m - 1,by omega,by omega,HF3,ρ3,a1,a2,a3⟩,fun x H3 y=>?_⟩
  obtain⟨HF3,G3,rx⟩:=yld x H3 y
  refine⟨HF3,ρ',d,ρ1,S'.grow G3,rx,h1,fun σ2 S2=>⟨HF3,ρ1,o1,S2,h2,?_⟩⟩
  cases o1 with
  | nx ρ2=>exact fun σ4 H4 HF4 S4 s4=>⟨HF4,ρ2,S4,(s'.trans G3.ff).trans s4,hf⟩
  | rt d=>cases hf;exact q
 ·have hi':i=ds.length:=by omega
  subst hi'
  rw[List.drop_length] at hf
  cases hf
  exact .inl ⟨it.stop H' HF' s' S'.gr.fh,q σ' H' HF' S' ((s1.trans G.ff).trans s')⟩
end
def IH(X:Cx)(sc:Scope):Prop:=∀x k,sc.names.lookup x=some k->X.env.kindOf x=some k\/(k=.free/\X.env.kindOf x=some .cell)
structure Bk(X:Cx)(N:List Str)(sc:Scope)(k:Nat):Prop where
 n:X.N=N
 nd:N.Nodup
 tb:IH X sc
 calm:X.calm=true
 fn:∀x,sc.names.lookup x=some .cell->X.fn x=true
 room:da k X.A
 xe:X.xe=fun _ _=>False
 kd:X.env.scope.kind=.function
def cg:List Str:=["len","isinstance","int","bool","tuple","list","range","all","any","set","sorted","enumerate","zip","sum","min","max","reversed"]
def Bn(X:Cx):Prop:=∀x∈cg,X.mg x=none
noncomputable def rN(sc:Scope)(x:Str):Bool:=decide (sc.names.lookup x=some .globalImplicit)
noncomputable def wL(N:List Str)(sc:Scope)(i:Nat)(x:Str):Bool:=decide (N[i]?=some x)&&(decide (sc.names.lookup x=some .local)||decide (sc.names.lookup x=some .cell)||decide (sc.names.lookup x=some .free))&&!(x == ("__debug__":Str))&&!(x == ("__classdict__":Str))
noncomputable def kO(N:List Str)(sc:Scope)(i:Nat)(x:Str):Bool:=decide (N[i]?=some x)&&(decide (sc.names.lookup x=some .local)||decide (sc.names.lookup x=some .cell))
section
variable {X:Cx}{N:List Str}{sc:Scope}{k:Nat}
theorem Bk.gl(C:Bk X N sc k){x:Str}(h:rN sc x=true):Gl X x:=by
 rcases C.tb x _ (of_decide_eq_true h) with q|⟨q,_⟩
 ·exact q
 ·cases q
theorem Bk.vis(C:Bk X N sc k){i:Nat}{x:Str}(h:wL N sc i x=true):X.N[i]?=some x/\Ct X.env.scope x/\(x == ("__debug__":Str))=false/\(x == ("__classdict__":Str))=false:=by
 unfold wL at h
 simp only[zF,Bool.or_eq_true,zJ,Bool.not_eq_true'] at h
 obtain⟨⟨⟨h1,h2⟩,h3⟩,h4⟩:=h
 refine⟨by rw[C.n];exact h1,?_,h3,h4⟩
 rcases h2 with (h2|h2)|h2
 ·rcases C.tb x _ h2 with q|⟨q,_⟩
  ·exact .inl q
  ·cases q
 ·rcases C.tb x _ h2 with q|⟨q,_⟩
  ·exact .inr (.inl q)
  ·cases q
 ·rcases C.tb x _ h2 with q|⟨_,q⟩
  ·exact .inr (.inr q)
  ·exact .inr (.inl q)
theorem Bk.loc(C:Bk X N sc k){i:Nat}{x:Str}(h:kO N sc i x=true):X.N.Nodup/\X.N[i]?=some x/\Loc X.env.scope x/\(X.fn x=true\/X.env.scope.names.lookup x=some .local):=by
 unfold kO at h
 simp only[zF,Bool.or_eq_true,zJ] at h
 obtain⟨h1,h2⟩:=h
 refine⟨by rw[C.n];exact C.nd,by rw[C.n];exact h1,?_⟩
 rcases h2 with h2|h2
 ·rcases C.tb x _ h2 with q|⟨q,_⟩
  ·exact⟨.inl q,.inr q⟩
  ·cases q
 ·rcases C.tb x _ h2 with q|⟨q,_⟩
  ·exact⟨.inr q,.inl (C.fn x h2)⟩
  ·cases q
theorem Bk.blt(C:Bk X N sc k)(B:Bn X){x:Str}{v:Value}(h:rN sc x=true)(hm:x∈cg)(hv:bootBuiltins x=some v):jj X x v:=⟨C.gl h,B x hm,hv⟩
theorem Bk.v(C:Bk X N sc k)(i:Nat){x:Str}{pos:Pos}(h:wL N sc i x=true):DE X (.Name x pos) (ab i):=let ⟨a,b,c,d⟩:=C.vis h;FB i a b c d
theorem Bk.pass(C:Bk X N sc k):PassesOwn (model X.prog X.w) X.A X.env X.xe:=by rw[C.xe];exact PassesOwn.never
noncomputable def gO(sc scope:Scope)(N N':List Str)(t:Nat)(cs:List Nat):Bool :=
 decide (scope.kind=.function)&&scope.names.all (fun p=>(!decide (p.2=NameKind.free)||decide (sc.names.lookup p.1=some .cell)||decide (sc.names.lookup p.1=some .free))&&(!decide (p.2=NameKind.local)||decide (scope.names.lookup p.1=some .local)))
  &&scope.names.all (fun p=>!decide (p.2=NameKind.cell)||!scope.names.any fun q=>decide (q.1=p.1)&&decide (q.2=NameKind.free))
  &&decide (N'.length=t+cs.length)&&decide (N'.drop t=cs.filterMap fun j=>N[j]?)&&cs.all (fun j=>decide (j < N.length))&&(N'.drop t).all (fun x=>decide (scope.names.lookup x=some .free))&&decide N'.Nodup
theorem filterMap_get{α:Type}(N:List α):∀ (cs:List Nat),(∀j∈cs,j < N.length)->∀ (i:Nat),(cs.filterMap fun j=>N[j]?)[i]?=(cs[i]?).bind fun j=>N[j]?
 | [],_,i=>by simp
 | c::cs,h,i=>by
  have hc:=h c zE
  rw[List.filterMap_cons,zK hc]
  cases i with
  | zero=>simp[hc]
  | succ i =>
   simp only[List.getElem?_cons_succ]
   exact filterMap_get N cs (fun j hj=>h j (zC _ hj)) i
theorem Bk.comp(C:Bk X N sc k){scope:Scope}{N':List Str}{t:Nat}{cs:List Nat}(h:gO sc scope N N' t cs=true):gH X scope N' (iI t cs)/\∀fp s H,Bk (aJ X scope N' fp s H) N' scope k:=by
 unfold gO at h
 simp only[zF,zJ,List.all_eq_true,Bool.or_eq_true,Bool.not_eq_true',decide_eq_false_iff_not] at h
 obtain⟨⟨⟨⟨⟨⟨⟨h1,h2⟩,h3⟩,h4⟩,h5⟩,h6⟩,h7⟩,h8⟩:=h
 refine⟨⟨h1,fun x hx hk=>?_,fun {x} a b=>?_,fun x hx hk=>?_,fun σ i x v e1 e2=>?_,fun σ=>?_⟩,fun fp s H=>⟨rfl,h8,fun x k hx=>kA hx,C.calm,fun x hx=>yB hx,C.room,rfl,h1⟩⟩
 ·rcases (h2 x hx).1 with (q|q)|q
  ·exact absurd hk q
  ·rcases C.tb _ _ q with z|⟨z,_⟩
   ·exact .inl z
   ·cases z
  ·rcases C.tb _ _ q with z|⟨_,z⟩
   ·exact .inr z
   ·exact .inl z
 ·rcases h3 _ a with q|q
  ·exact q rfl
  ·have:(scope.names.any fun q=>decide (q.1=x)&&decide (q.2=NameKind.free))=true:=List.any_eq_true.mpr ⟨_,b,by simp⟩
   rw[this] at q
   cases q
 ·rcases (h2 x hx).2 with q|q
  ·exact absurd hk q
  ·exact q
 ·unfold iI at e2
  by_cases hi:i < t
  ·rw[List.getElem?_append_left (by simpa using hi),List.getElem?_replicate,if_pos hi] at e2
   cases e2
  ·rw[List.getElem?_append_right (by simpa using hi),zO,List.length_replicate] at e2
   obtain⟨j,hj,e2⟩:=ae e2
   have e3:(N'.drop t)[i - t]?=some x:=by rw[List.getElem?_drop];rw[show t+(i - t)=i by omega];exact e1
   refine⟨h7 x (List.mem_of_getElem? e3),j,?_,?_⟩
   ·rw[h5,filterMap_get N cs h6,hj] at e3
    rw[C.n];exact e3
   ·cases e:σ[j]? with
    | none=>rw[e] at e2;cases e2
    | some o=>rw[e] at e2;have e2:o=some v:=e2;rw[e2]
 ·unfold iI
  rw[zN,List.length_replicate,zD,h4]
noncomputable def bY(g:ao->Option Out)(n:Nat)(args:List D):Option D:=(g (args.map Slot.val++List.replicate (n - args.length) .non)).map fun|.rt d=>d|.nx _=>.none
theorem DV{P:Program}{w:World}{K:W.Frag}{mg:Str->Option Value}{base:Heap}{x qual:Str}{st:Stmt}{f:Addr}{fd:FuncData}{ps:List Str}{g:ao->Option Out}(F:C0 K x qual st f fd)(S:d9 N ps (aA st))
  (body:∀X:Cx,X.prog=P->X.w=w->X.K=K->X.mg=mg->X.base=base->Bk X N (aA st) k->X.env.code=fd.code->X.env.qual=qual++".<locals>."->∀HF₀ H₀,xV X HF₀ H₀ (bM st) g):lM P w K mg base FA (k+1) f fd ps (Gc K ps.length (bY g N.length)):=by
 obtain⟨oc,od,kV,doc,pm,an,cdv,ct,osl,rfl,lk,hcd⟩:=F.ex
 refine G7 lk hcd S (fun vs H Q E ⟨HF,ds,d,h1,_,h2,h3,_⟩=>by rw[h2.length,h3]) fun A outer s H vs Q E hr ⟨HF,ds,d,sm,tb,rr,hl,hd,q⟩=>?_
 refine⟨_,(body (wZ FA P w K mg base N qual (aA st) f cdv A outer s H E).nox rfl rfl rfl rfl rfl ⟨rfl,S.nd,fun y kd hy=>.inl hy,rfl,fun _ _=>rfl,hr,rfl,S.kind⟩ rfl rfl HF H).nox,?_⟩
 unfold bY at hd
 obtain⟨o,ho,hd⟩:=ae hd
 have hpl:ps.length<=N.length:=by have:=congrArg List.length S.pre;rw[List.length_take] at this;omega
 refine⟨HF,_,o,⟨.refl sm,fun i e h=>?_,fun i es h=>?_,fun i j es fs a h=>?_,?_,tb⟩,ho,?_⟩
 ·have hi:i < ds.length:=by
   by_cases hi:i < ds.length
   ·exact hi
   ·rw[List.getElem?_append_right (by simpa using hi),List.getElem?_replicate] at h
    split at h<;>cases h
  rw[List.getElem?_append_left (by simpa using hi),zO] at h
  obtain⟨d',hd',h⟩:=ae h
  cases h
  obtain⟨v,hv,rv⟩:=rr.getD hd'
  refine⟨v,?_,rv⟩
  unfold L2.start
  rw[List.getElem?_append_left (by simpa [rr.length] using hi),zO,hv]
  rfl
 ·exfalso
  by_cases hi:i < ds.length
  ·rw[List.getElem?_append_left (by simpa using hi),zO] at h
   obtain⟨d',hd',h⟩:=ae h
   cases h
  ·rw[List.getElem?_append_right (by simpa using hi),List.getElem?_replicate] at h
   split at h<;>cases h
 ·exfalso
  by_cases hi:i < ds.length
  ·rw[List.getElem?_append_left (by simpa using hi),zO] at h
   obtain⟨d',hd',h⟩:=ae h
   cases h
  ·rw[List.getElem?_append_right (by simpa using hi),List.getElem?_replicate] at h
   split at h<;>cases h
 ·unfold L2.start
  rw[zN,zN,zD,zD,List.length_replicate,List.length_replicate,rr.length]
  exact Nat.le_refl _
 ·cases o with
  | rt d'=>cases hd;exact fun v H' HF' G r=>q v H' HF' G r
  | nx ρ'=>cases hd;exact fun σ' H' HF' S' _=>q .non H' HF' S'.gr (by simp[Rep])
theorem JI{P:Program}{w:World}{K:W.Frag}{mg:Str->Option Value}{base:Heap}{x qual:Str}{st:Stmt}{f:Addr}{fd:FuncData}{ps:List Str}{g:ao->Option Out}(F:C0 K x qual st f fd)(S:d9 N ps (aA st))(hb:Binds K fd ps [])(hm:mg x=some (.ref f))
  (body:∀X:Cx,X.prog=P->X.w=w->X.K=K->X.mg=mg->X.base=base->Bk X N (aA st) k->X.env.code=fd.code->X.env.qual=qual++".<locals>."->∀HF₀ H₀,xV X HF₀ H₀ (bM st) g):gw P w K mg base (k+1) x ps.length (bY g N.length):=⟨f,fd,ps,DV F S body,hm,F.kp,hb⟩
end
section
variable {X:Cx}{HF₀ H₀:Hp}{e e2:Expr}{pos apos cpos px:Pos}{x:Str}
noncomputable def lb(fz:List Nat)(f:Env->Option D)(ρ:ao):Option (D×ao):=(f (aV ρ)).bind fun d=>if kJ d=true then some (d,ρ) else (f (bR (hand fz 0 ρ))).map fun d'=>(d',hand fz 0 ρ)
theorem kZ{K:W.Frag}{HF H:Hp}{ρ ρ':ao}{σ:L2.St}{fz:List Nat}{f:Env->Option D}{d:D}(S:hZ K HF₀ H₀ HF H ρ σ)(h:lb fz f ρ=some (d,ρ')){Q:VK}
  (q:∀v H' HF',aH HF HF'->hZ K HF₀ H₀ HF' H' ρ' σ->aH H H'->Rep K HF' d v->Q v H'):tD K f σ H Q:=by
 obtain⟨d1,h1,h⟩:=bs h
 split at h
 ·rename_i hs
  cases h
  exact⟨H,aV ρ,d,.refl _,S.all,h1,fun v H' HF' G r=>q v H' HF (.refl _) (S.step G.hh) G.hh (nq hs r)⟩
 ·obtain⟨d2,h2,h⟩:=ae h
  cases h
  obtain⟨HF1,s1,S1⟩:=S.hand fz
  exact⟨HF1,_,d,S1.gr.fh,S1.frz,h2,fun v H' HF' G r=>q v H' HF' (s1.trans G.ff) (S1.grow G) G.hh r⟩
noncomputable def kq(i:Nat)(m:List D->Option (List D))(ρ:ao):Option Out:=match ρ[i]? with
 | some (.own ds)=>(m ds).map fun es=>.nx (ρ.set i (.own es))
 | _=>none
theorem gc{i:Nat}{m:List D->Option (List D)}{ρ:ao}{o:Out}(h:kq i m ρ=some o):∃ds es,ρ[i]?=some (.own ds)/\m ds=some es/\o=.nx (ρ.set i (.own es)):=by
 unfold kq at h
 split at h
 ·rename_i ds hd
  obtain⟨es,h1,h2⟩:=ae h
  exact⟨ds,es,hd,h1,h2.symm⟩
 ·cases h
theorem hZ.mut{K:W.Frag}{HF H:Hp}{ρ:ao}{σ:L2.St}(S:hZ K HF₀ H₀ HF H ρ σ){i:Nat}{ds es:List D}{a:Addr}{vs us:List V}(h:ρ[i]?=some (.own ds))(ha:σ[i]?=some (some (.ref a)))(hH:H a=some (.lst vs))(r:aj K HF es us) :
  hZ K HF₀ H₀ HF (upd H a (.lst us)) (ρ.set i (.own es)) σ:=by
 obtain⟨a',vs',e1,e2,e3,e5,e4⟩:=S.own i ds h
 rw[ha] at e1;cases e1
 have hl:i < ρ.length:=(zU.mp h).1
 have gr:bo HF₀ H₀ HF (upd H a (.lst us)):=⟨fun b o e=>by rw[av (aC e e5)];exact S.gr.hh b o e,S.gr.ff,fun b o e=>by rw[av (aC e e3)];exact S.gr.fh b o e,S.gr.nw⟩
 refine⟨gr,fun j d hj=>?_,fun j xs hj=>?_,fun j k xs ys b f1 f2 f3 f4=>?_,by rw[yD];exact S.len,S.tb⟩
 ·rw[List.getElem?_set] at hj
  by_cases hij:i=j
  ·rw[if_pos hij] at hj
   split at hj<;>cases hj
  ·rw[if_neg hij] at hj;exact S.val j d hj
 ·rw[List.getElem?_set] at hj
  by_cases hij:i=j
  ·subst hij
   rw[if_pos rfl,if_pos hl] at hj
   cases hj
   exact⟨a,us,ha,aw,e3,e5,r⟩
  ·rw[if_neg hij] at hj
   obtain⟨b,ws,f1,f2,f3,f5,f4⟩:=S.own j xs hj
   refine⟨b,ws,f1,?_,f3,f5,f4⟩
   rw[av]
   ·exact f2
   ·rintro rfl
    exact hij (S.inj i j ds xs b h hj ha f1)
 ·have old:∀ {j:Nat}{xs:List D},(ρ.set i (.own es))[j]?=some (.own xs)->∃ys,ρ[j]?=some (.own ys):=fun {j xs} hj=>by
   rw[List.getElem?_set] at hj
   by_cases hij:i=j
   ·subst hij;exact⟨ds,h⟩
   ·rw[if_neg hij] at hj;exact⟨xs,hj⟩
  obtain⟨xs',g1⟩:=old f1
  obtain⟨ys',g2⟩:=old f2
  exact S.inj j k xs' ys' b g1 g2 f3 f4
noncomputable def oo(i:Nat)(fz:List Nat)(f:Env->Option D):ao->Option Out:=fun ρ=>(lb fz f ρ).bind fun p=>kq i (fun ds=>if ds.length < sizeLine then some (ds++[p.1]) else none) p.2
theorem wM(i:Nat)(fz:List Nat){f:Env->Option D}(hN:X.N[i]?=some x)(hv:Ct X.env.scope x)(h:DE X e f)(hd:(x == ("__debug__":Str))=false:=by decide)(hcd:(x == ("__classdict__":Str))=false:=by decide)
  (hfew:((backTo cpos (starEach [e] X.env)).all (fun x=>!x.1)&&(backToKw cpos (keywordEach [] X.env)).all (fun x=>x.1.isSome)&&decide ([e].length+([]:List Keyword).length+(if ([]:List Keyword).isEmpty then 0 else 1) < 30))=true:=by rfl)
  (hline:(apos.endLine == cpos.line)=true:=by rfl) (hs:starEach [e] X.env=(false,eval e X.env)::starEach [] X.env:=by rfl) :
  DS X HF₀ H₀ (.Expr (.Call (.Attribute (.Name x px) "append" apos) [e] [] cpos) pos) (oo i fz f) :=
 cq (lW (oV PySem.F.plainAttrs_list PySem.F.slot_list_append PySem.F.type_list_append o7 (kR hN hv hd hcd) (bA h dh hs) rfl hfew hline hs rfl)) fun E σ H ⟨HF,ρ,o,S,hg,q⟩=>by
  obtain⟨⟨d,ρ'⟩,h1,hg⟩:=bs hg
  obtain⟨ds,es,h2,h3,rfl⟩:=gc hg
  have hown:∃ds',ρ[i]?=some (.own ds'):=by
   obtain⟨d1,_,h1⟩:=bs h1
   split at h1
   ·cases h1;exact⟨ds,h2⟩
   ·obtain⟨d2,_,h1⟩:=ae h1
    cases h1
    rw[f7] at h2
    obtain⟨s,hs,h2⟩:=ae h2
    cases s with
    | non=>split at h2<;>cases h2
    | val _=>split at h2<;>cases h2
    | own xs=>exact⟨xs,hs⟩
  obtain⟨ds',hown⟩:=hown
  obtain⟨a,vs,e1,e2,e3,e5,e4⟩:=S.own i ds' hown
  refine⟨.ref a,e1,.inl ⟨rfl,vs,fj.of e2⟩,kZ S h1 fun v H' HF' s1 S' sh r=>?_⟩
  obtain⟨a',vs',f1,f2,f3,f5,f4⟩:=S'.own i ds h2
  rw[e1] at f1;cases f1
  split at h3
  ·rename_i hz
   cases h3
   exact⟨a,vs',v,rfl,rfl,f2,by rw[f4.length];exact hz,q σ _ HF' (S'.mut h2 e1 f2 (f4.append (aj.cons r aj.nil))) s1⟩
  ·cases h3
end
noncomputable def pQ(K:W.Frag)(o:Obj):Option (Addr×Str):=match o.data with
 | .func fd=>if iL.contains fd.qualname=true then (match fd.code with
   | .ref c=>(match K.lookup c with
    | some ⟨_,_,.fields vs,_⟩=>(match (vs[11]?:Option Value) with
     | some (.ref P)=>if W.codeHdIn K c P=true then some (P,fd.qualname++".<locals>."++"<lambda>") else none
     | _=>none)
    | _=>none)
   | _=>none) else none
 | _=>none
noncomputable def fN(K:W.Frag):List (Addr×Str):=K.filterMap fun p=>pQ K p.2
noncomputable def kf(K:W.Frag)(ts:List Addr):Bool:=(fN K).all fun p=>ts.contains p.1&&(K.lookup p.1).isNone&&decide ((fN K).lookup p.1=some p.2)
theorem rT{K:W.Frag}{o:Obj}{P:Addr}{q:Str}(h:pQ K o=some (P,q)):∃c,W.codeHdIn K c P=true:=by
 unfold pQ at h
 split at h
 ·split at h
  ·split at h
   ·split at h
    ·split at h
     ·split at h
      ·cases h;exact⟨_,‹_›⟩
      ·cases h
     ·cases h
    ·cases h
   ·cases h
  ·cases h
 ·cases h
theorem rV{K:W.Frag}{P:Addr}{q:Str}(h:(P,q)∈fN K):∃c,W.codeHdIn K c P=true:=by
 obtain⟨p,_,e⟩:=List.mem_filterMap.mp h
 exact rT e
theorem uu{K:W.Frag}{f c P:Addr}{oc:Value}{od:Option Addr}{fd:FuncData}{sl:Array (Option Value)}(a:K.lookup f=some ⟨oc,od,.func fd,sl⟩)(b:fd.qualname∈iL)(d:fd.code=.ref c)(e:W.codeHdIn K c P=true) :
  (P,fd.qualname++".<locals>."++"<lambda>")∈fN K:=by
 refine List.mem_filterMap.mpr ⟨(f,_),W.mem_of_lookupK a,?_⟩
 have e':=e
 unfold W.codeHdIn at e'
 unfold pQ
 simp only[d,List.contains_iff_mem,b,if_true]
 split at e'
 ·rename_i vs sl' hl
  simp only[hl]
  simp only[zF] at e'
  have e1:=e'.1.1.1.1.1
  split at e1
  ·rename_i P' hv
   have:P'=P:=by simpa using e1
   subst this
   simp only[hv,e,if_true]
  ·cases e1
 ·cases e'
theorem yz{α:Type}{b:Addr}{q:α}:∀ {l:List (Addr×α)},l.lookup b=some q->(b,q)∈l
 | [],e=>by cases e
 | (c,x)::r,e=>by
  rw[yC] at e
  cases h:b == c with
  | true=>rw[h] at e;cases e;rw[eq_of_beq h];exact zE
  | false=>rw[h] at e;exact zC _ (yz e)
noncomputable def dN(K:W.Frag)(h0:Hp):Hp:=fun b=>match (fN K).lookup b with|some q=>some (.tab q)|none=>h0 b
theorem xr{K:W.Frag}{ts:List Addr}{h0:Hp}(h:kf K ts=true):eG K (dN K h0):=fun f oc od fd sl c P a b d e=>by
 have hm:=uu a b d e
 have:=List.all_eq_true.mp h _ hm
 simp only[zF,zJ] at this
 unfold dN
 rw[this.2]
theorem wU{P:Program}{w:World}{K:W.Frag}{mg mb:Str->Option Value}{CX:xU}{k:Nat}{fa a:Addr}{fd:FuncData}{x:Str}{sp:Sp}{s₁:Shared}{vs:List Value}{ns:List Int}{ts:List Addr}
  (KX:K.In s₁.heap) (hns:s₁.heap.Ns mainGlobals mg) (hb:s₁.heap.Ns builtinsNs mb) (hbb:∀x:Str,x≠"__name__"->mb x=bootBuiltins x) (hlim:s₁.heap.NoLimit) (hbm:Io mg s₁.heap) (hg:s₁.gens=#[])
  (ht:kf K ts=true) (hts:∀P∈ts,s₁.heap.get? P=some (W.tabObj #[]))
  (ha:s₁.heap.get? a=some { cls:=.type "list",data:=.seq vs.toArray }) (hi:IntsAre vs ns) (hl:ns.length<=sizeLine) (hr:da k callerA)
  (F:∀base:Heap,K.In base->base.Ns mainGlobals mg->lM P w K mg base CX k fa fd [x] sp) (hbind:∀ (s:Shared) (u:Value),BindsTo s fd ⟨[u],[]⟩ [(x,u)])
  (hsp:∀H:Hp,eG K H->fj K H a (ns.map V.int)->sp [.ref a] H (fun v _=>v=.bl true) fun _ _ _=>False)
  (hCX:∀H e s',CX [] H s₁ (fun _ _ _=>False) e s'->False) :
  codeAny (model P w) callerA (.call (.ref fa) ⟨[.ref a],[]⟩) (fun r s'=>r=.ok (.ret (.bool true))/\OldK s₁.heap s'.heap/\s'.os=s₁.os/\AllBare s'.gens) s₁:=by
 have rv:=oD hi
 have lenV:=hi.length
 have tabAt:∀b q,(fN K).lookup b=some q->s₁.heap.get? b=some (W.tabObj #[])/\K.lookup b=none/\∃c,W.CodeHd s₁.heap c b:=fun b q e=>by
  have hm:=yz e
  have:=List.all_eq_true.mp ht _ hm
  simp only[zF,zJ,List.contains_iff_mem,Option.isNone_iff_eq_none] at this
  obtain⟨c,hc⟩:=rV hm
  exact⟨hts b this.1.1,this.1.2,c,W.codeHd_of_K KX hc⟩
 have aT:(fN K).lookup a=none:=by
  cases e:(fN K).lookup a with
  | none=>rfl
  | some q=>have:=(tabAt a q e).1;rw[ha] at this;cases this
 have core:∀h0:Hp,fj K (dN K h0) a (ns.map V.int)->lS P w (dN K h0) s₁.heap->(∀b,h0 b≠none->b=a)->(h0 a≠none->K.lookup a=none)->(∀b,h0 b=none\/∃o xs,h0 b=some (.frz o (.lst xs))) ->
   codeAny (model P w) callerA (.call (.ref fa) ⟨[.ref a],[]⟩) (fun r s'=>r=.ok (.ret (.bool true))/\OldK s₁.heap s'.heap/\s'.os=s₁.os/\AllBare s'.gens) s₁:=by
  intro h0 hS hok hA hK hO
  have look:∀b u,dN K h0 b=some u->(∃q,(fN K).lookup b=some q/\u=.tab q)\/(b=a/\h0 b=some u):=fun b u e=>by
   unfold dN at e
   split at e
   ·rename_i q hq;cases e;exact .inl ⟨q,hq,rfl⟩
   ·exact .inr ⟨hA b (by rw[e];simp),e⟩
  have je:∀ {b:Addr}{o:Obj},s₁.heap.get? b=some o->dN K h0 b=none->(qC s₁.heap (dN K h0)).get? b=some o:=fun e n=>AW e n
  have noA:∀ {b:Addr}{o:Obj},s₁.heap.get? b=some o->(∀vs n,o.data≠.seq vs n)->(∀vs,o.data≠.fields vs)->dN K h0 b=none:=fun {b o} e d d2=>by
   cases q:dN K h0 b with
   | none=>rfl
   | some u =>
    rcases look b u q with ⟨q',z,_⟩|⟨z,_⟩
    ·rw[(tabAt b q' z).1] at e;cases e;exact absurd rfl (d2 _)
    ·subst z;rw[ha] at e;cases e;exact absurd rfl (d _ _)
  have nsK:∀ {b:Addr}{m:Str->Option Value},s₁.heap.Ns b m->(qC s₁.heap (dN K h0)).Ns b m:=fun {b m} ⟨o,es,ep,e,d,r⟩=>⟨o,es,ep,je e (noA e (fun _ _ z=>by rw[d] at z;cases z) fun _ z=>by rw[d] at z;cases z),d,r⟩
  have hKb:K.In (qC s₁.heap (dN K h0)):=fun b o e=>je (KX b o e) (by
   cases q:dN K h0 b with
   | none=>rfl
   | some u =>
    rcases look b u q with ⟨q',z,_⟩|⟨z,z2⟩
    ·rw[(tabAt b q' z).2.1] at e;cases e
    ·subst z;rw[hK (by rw[z2];simp)] at e;cases e)
  have hM:Mod K mg (qC s₁.heap (dN K h0)):=⟨hKb,nsK hns,⟨mb,nsK hb,hbb⟩,let ⟨mc,h1,h2⟩:=hlim;⟨mc,nsK h1,h2⟩,
   let ⟨bm,o,b1,b2,b3,b4,b5,b6,b7⟩:=hbm;⟨bm,o,b1,b2,b3,je b4 (noA b4 (fun _ _ z=>by rw[b7] at z;cases z) fun _ z=>by rw[b7] at z;cases z),b5,b6,b7⟩⟩
  have e0:CU P w K mg (qC s₁.heap (dN K h0)) callerA [] s₁ (dN K h0):=⟨rfl,hM,fun b o e=>C2 e,Nat.le_of_eq (w4 _ _),trivial,fun b hb=>absurd (show b∈([]:List Addr) from hb) (by simp),hok,.of_eq hg⟩
  refine codeAny_mono ((F _ hKb (nsK hns)).run callerA [] s₁ (dN K h0) ⟨[.ref a],[]⟩ [.ref a] [.ref a] _ _ hr e0 (hbind s₁ (.ref a)) (.cons rfl .nil) (hsp _ (xr ht) hS)) fun r s' h=>?_
  cases r with
  | error e=>exact (hCX _ e s' h).elim
  | ok fl =>
   cases fl with
   | next=>exact False.elim h
   | brk=>exact False.elim h
   | cont=>exact False.elim h
   | ret u =>
    obtain⟨v,H',os,bare,un,hok',r',q⟩:=h
    have q':v=.bl true:=q
    subst q'
    obtain rfl:u=Value.bool true:=r'
    have key:∀b o,s₁.heap.get? b=some o->s'.heap.get? b=some o\/(isCodeTable s₁.heap b/\o=W.tabObj #[]/\∃ps,s'.heap.get? b=some (W.tabObj ps)):=fun b o e=>by
     cases q:dN K h0 b with
     | none=>exact .inl (un.keep b o e q (by intro z;exact absurd (show b∈([]:List Addr) from z) (by simp)) (by simp))
     | some u =>
      rcases look b u q with ⟨q',z,rfl⟩|⟨z,z2⟩
      ·obtain⟨t1,_,c,t3⟩:=tabAt b q' z
       obtain⟨more,m1⟩:=un.tbls.gr b q' #[] q t1
       rw[e] at t1
       cases t1
       exact .inr ⟨(t3.tab e).isCodeTable,rfl,_,m1⟩
      ·rcases hO b with z3|⟨ob,xs,z3⟩
       ·rw[z2] at z3;cases z3
       ·rw[z2] at z3
        cases z3
        have z4:=un.frzs b ob _ q
        obtain⟨e1,_⟩:=hok b _ q
        obtain⟨e2,_⟩:=hok' b _ z4
        rw[e] at e1;cases e1
        exact .inl e2
    refine⟨rfl,⟨fun b o e=>?_,fun b o e=>?_⟩,os,bare⟩
    ·rcases key b o e with z|⟨t,rfl,ps,z⟩
     ·exact .inl z
     ·exact .inr (.inl ⟨t,rfl,#[],ps,rfl,by rw[Array.empty_append];exact z⟩)
    ·rcases key b o e with z|⟨_,_,ps,z⟩
     ·exact⟨o,z⟩
     ·exact⟨_,z⟩
 have hoT:∀ (h0:Hp) b q,(fN K).lookup b=some q->dg P w (dN K h0) s₁.heap b (.tab q):=fun h0 b q e=>⟨#[],(tabAt b q e).1,trivial,fun pos v z=>by cases z⟩
 cases hk:K.lookup a with
 | some o =>
  have e:=KX a o hk
  rw[ha] at e
  cases e
  refine core (fun _=>none) (.inr ⟨_,vs.toArray,_,hk,rfl,rfl,rfl,by rw[zH,lenV];exact hl,by simpa using rv⟩) (fun b u z=>?_) (fun b z=>absurd rfl z) (fun z=>absurd rfl z) fun _=>.inl rfl
  unfold dN at z
  split at z
  ·rename_i q hq;cases z;exact hoT _ b q hq
  ·cases z
 | none =>
  refine core (fun b=>if b=a then some (.frz { cls:=.type "list",data:=.seq vs.toArray } (.lst (ns.map V.int))) else none) (.inl (.inr ⟨{ cls:=.type "list",data:=.seq vs.toArray },?_⟩)) (fun b u z=>?_) (fun b z=>?_) (fun _=>hk) fun b=>?_
  ·unfold dN;rw[aT];exact if_pos rfl
  ·unfold dN at z
   split at z
   ·rename_i q hq;cases z;exact hoT _ b q hq
   ·by_cases hb:b=a
    ·replace z:=(if_pos hb).symm.trans z
     cases z
     subst hb
     exact⟨ha,by rw[zD];exact hl,vs,_,rv,ha⟩
    ·replace z:=(if_neg hb).symm.trans z;cases z
  ·by_cases hb:b=a
   ·exact hb
   ·exact absurd (if_neg hb) z
  ·by_cases hb:b=a
   ·exact .inr ⟨_,_,if_pos hb⟩
   ·exact .inl (if_neg hb)
theorem Bf{l:W.OpenLaw}{n k:Nat}{q:Program}{loose:List Str}{XP:(Str->Option Value)->Heap->Prop}{YP:World->Heap->Prop}{d:DefRec}{K:Params->W.Frag}{CX:World->xU}{sp:World->Sp}{x:Str}{ts:List Addr}
  (hn:l.most=some n) (hn2:n<=sizeLine) (hdf:d.params.defaults=[]) (hr:da k callerA)
  (hY:∀ (w:World) (h:Heap),YP w h->(K w.params).In h/\∀P∈ts,h.get? P=some (W.tabObj #[])) (ht:∀w:World,kf (K w.params) ts=true)
  (F:∀ (w:World) (mg:Str->Option Value) (fa:Addr) (h:Heap),(K w.params).In h->h.Ns mainGlobals mg->mg d.name=some (.ref fa) ->
   ∃fd:FuncData,(∀ (s:Shared) (u:Value),BindsTo s fd ⟨[u],[]⟩ [(x,u)]) /\
    ∀base:Heap,(K w.params).In base->base.Ns mainGlobals mg->lM l.prog w (K w.params) mg base (CX w) k fa fd [x] (sp w))
  (hsp:∀ (w:World) (H:Hp) (a:Addr) (ns:List Int),ns.length<=n->eG (K w.params) H->fj (K w.params) H a (ns.map V.int)->sp w [.ref a] H (fun v _=>v=.bl true) fun _ _ _=>False)
  (hCX:∀ (w:World) (H:Hp) (s:Shared) (e:Value) (s':Shared),CX w [] H s (fun _ _ _=>False) e s'->False) :
  W.WalkO q loose XP YP l.row.toRowW d [] (fun f vs=>PySem.call f vs):=by
 refine Att.attach_call hn hdf fun w s₀ s₁ mg mb fa o pm cd doc a vs ns G Y ho hd hcd hmg hobj hints hlen hg=>?_
 obtain⟨KX,hts⟩:=hY w _ Y
 obtain⟨fd,hb,hF⟩:=F w mg fa _ KX G.T.g hmg
 have hbm:Io mg s₁.heap:=by
  obtain⟨bm,ob,b1,b2,b3,b4,b5,b6⟩:=G.T.bmain
  refine⟨bm,ob,b1,b2,fun z=>?_,b3,b4,b5,b6⟩
  obtain⟨o',es,ep,e1,e2,_⟩:=G.T.g
  rw[<- z,b3] at e1
  cases e1
  rw[b6] at e2;cases e2
 exact wU KX G.T.g G.T.b G.T.builtins G.T.nolimit hbm hg (ht w) hts hobj hints (yE hlen hn2) hr hF hb (fun H hT hS=>hsp w H a ns hlen hT hS) fun H e s'=>hCX w H s₁ e s'
end Dl
namespace SP
open PySem PySem.W PyProof.Rows
noncomputable def run{α:Type}(lt:Nat->Nat->Bool):KasT α->α
 | .ret a=>a
 | .ask i j k=>run lt (k (lt i j))
theorem fX{α β:Type}(lt:Nat->Nat->Bool)(f:α->KasT β):∀t:KasT α,run lt (t.bind f)=run lt (f (run lt t))
 | .ret a=>rfl
 | .ask i j k=>by
  show run lt ((k (lt i j)).bind f)=run lt (f (run lt (k (lt i j))))
  exact fX lt f (k (lt i j))
noncomputable def GO(n:Nat){α:Type}:KasT α->Prop
 | .ret _=>True
 | .ask i j k=>i < n/\j < n/\∀b,GO n (k b)
theorem wp_run{α:Type}{n:Nat}{cmp:Nat->Nat->(Bool->Shared->Prop)->Shared->Prop}{lt:Nat->Nat->Bool}{s:Shared}(hc:∀i j C,i < n->j < n->C (lt i j) s->cmp i j C s):∀ (t:KasT α) {Q:α->Shared->Prop},GO n t->Q (run lt t) s->t.kasWp cmp Q s
 | .ret a,Q,_,h=>h
 | .ask i j k,Q,b,h=>hc i j _ b.1 b.2.1 (wp_run hc (k (lt i j)) (b.2.2 _) h)
noncomputable def mP(n:Nat){α:Type}(R:α->Prop):KasT α->Prop
 | .ret a=>R a
 | .ask i j k=>i < n/\j < n/\∀b,mP n R (k b)
theorem kl{α β:Type}{n:Nat}{R:α->Prop}{f:α->KasT β}:∀ {t:KasT α},mP n R t->(∀a,R a->GO n (f a))->GO n (t.bind f)
 | .ret a,b,h=>h a b
 | .ask i j k,b,h=>⟨b.1,b.2.1,fun c=>kl (b.2.2 c) h⟩
theorem gY{α β:Type}{n:Nat}{R:α->Prop}{S:β->Prop}{f:α->KasT β}:∀ {t:KasT α},mP n R t->(∀a,R a->mP n S (f a))->mP n S (t.bind f)
 | .ret a,b,h=>h a b
 | .ask i j k,b,h=>⟨b.1,b.2.1,fun c=>gY (b.2.2 c) h⟩
def Bd(n:Nat)(p:Array Nat):Prop:=∀a,p.getD a 0 < n
theorem Bd.perm{n:Nat}{p q:Array Nat}(h:Bd n p)(e:q.Perm p):Bd n q:=by
 intro a
 rw[Array.getD_eq_getD_getElem?]
 cases ha:q[a]? with
 | none=>have:=h p.size;rw[Array.getD_eq_getD_getElem?] at this;simpa using this
 | some x =>
  have hx:x∈q:=Array.mem_of_getElem? ha
  have hx':x∈p:=e.mem_iff.mp hx
  obtain⟨i,hi,rfl⟩:=Array.mem_iff_getElem.mp hx'
  have:=h i
  rw[Array.getD_eq_getD_getElem?] at this
  simpa [hi] using this
theorem A0{n:Nat}{p:Array Nat}(h:Bd n p):∀f m,mP n (fun _=>True) (kas_asc p f m)
 | 0,m=>trivial
 | f+1,m=>⟨h _,h _,fun c=>by
  dsimp only
  split
  ·trivial
  ·exact A0 h f (m+1)⟩
theorem sE{n:Nat}{p:Array Nat}(h:Bd n p)(i j:Nat):Bd n (kas_rev p i j):=h.perm (mirror_perm _ _ _ _)
theorem qj{n:Nat}:∀ (f:Nat) {p:Array Nat}(h:Bd n p) (m q:Nat),mP n (fun r=>Bd n r.1) (kas_desc f p m q)
 | 0,p,h,m,q=>h
 | f+1,p,h,m,q=>⟨h _,h _,fun c=>by
  dsimp only
  split
  ·split
   ·exact qj f (sE h _ _) (m+1) 0
   ·exact qj f h (m+1) 0
  ·exact⟨h _,h _,fun d=>by
    dsimp only
    split
    ·exact h
    ·exact qj f h (m+1) (q+1)⟩⟩
theorem vQ{n:Nat}{p:Array Nat}(h:Bd n p)(m nrem:Nat):mP n (fun r=>Bd n r.2) (kas_tail3 m nrem p):=gY (A0 (sE h 0 m) _ _) fun _ _=>sE h 0 m
theorem m8{n:Nat}{p:Array Nat}(h:Bd n p)(m nrem:Nat):mP n (fun r=>Bd n r.2) (kas_descPart m nrem p):=gY (qj _ h _ _) fun r hr=>by
 split
 ·exact vQ (sE hr _ _) _ _
 ·exact vQ hr _ _
theorem Cu{n:Nat}{p:Array Nat}(h:Bd n p)(nrem:Nat):mP n (fun r=>Bd n r.2) (kas_count nrem p):=gY (A0 h _ _) fun m _=>by
 split
 ·exact h
 ·split
  ·exact⟨h _,h _,fun c=>by
    dsimp only
    split
    ·exact h
    ·exact m8 (sE h _ _) _ _⟩
  ·exact m8 h _ _
theorem qF{n:Nat}{p:Array Nat}(h:Bd n p)(k:Nat):∀f l r,mP n (fun _=>True) (kas_place p k f l r)
 | 0,l,r=>trivial
 | f+1,l,r=>by
  unfold kas_place
  split
  ·trivial
  ·exact⟨h _,h _,fun c=>by
    dsimp only
    split
    ·exact qF h k f _ _
    ·exact qF h k f _ _⟩
theorem Ei{n:Nat}:∀ (f:Nat) {p:Array Nat}(h:Bd n p) (k:Nat),GO n (kas_bin f p k)
 | 0,p,h,k=>trivial
 | f+1,p,h,k=>kl (qF h k _ _ _) fun l _=>Ei f (h.perm (bubble_perm _ _ _)) (k+1)
theorem BD{n:Nat}(h1:1<=n):GO n (kas_sort n):=by
 have h:Bd n (List.toArray (List.range n)):=fun a=>by
  rw[Array.getD_eq_getD_getElem?]
  by_cases ha:a < n
  ·simp[ha]
  ·simp[ha];omega
 refine kl (Cu h n) fun r hr=>?_
 split
 ·exact Ei _ hr _
 ·trivial
section
variable (z:Nat->Int)
noncomputable def Z(p:Array Nat)(a:Nat):Int:=z (p.getD a 0)
noncomputable def dk:Nat->Nat->Bool:=fun i j=>decide (z i < z j)
theorem j3{p q:Array Nat}{a b:Nat}(h:p[a]?=q[b]?):Z z p a=Z z q b:=by
 unfold Z
 rw[Array.getD_eq_getD_getElem?,Array.getD_eq_getD_getElem?,h]
theorem yh{p:Array Nat}{i j:Nat}(hj:j<=p.size)(k:Nat):Z z (kas_rev p i j) k=if i<=k/\k < j then Z z p (i+j - 1 - k) else Z z p k:=by
 have e:=getElem?_mirror_all (xs:=p) (i:=i) hj k
 unfold kas_rev
 by_cases h1:i<=k/\k < j
 ·rw[if_pos h1] at e ⊢;exact j3 z e
 ·rw[if_neg h1] at e ⊢;exact j3 z e
theorem Bo{p:Array Nat}{src d:Nat}(hs:src < p.size)(hd:d<=src)(k:Nat):Z z (bubble p src d) k=if k=src - d then Z z p src else if src - d < k/\k<=src then Z z p (k - 1) else Z z p k:=by
 have e:=getElem?_bubble hs d hd k
 by_cases h1:k=src - d
 ·rw[if_pos h1] at e ⊢;exact j3 z e
 ·rw[if_neg h1] at e ⊢
  by_cases h2:src - d < k/\k<=src
  ·rw[if_pos h2] at e ⊢;exact j3 z e
  ·rw[if_neg h2] at e ⊢;exact j3 z e
def Up(p:Array Nat)(n:Nat):Prop:=∀a b,a<=b->b < n->Z z p a<=Z z p b
def Dn(p:Array Nat)(n:Nat):Prop:=∀a b,a<=b->b < n->Z z p b<=Z z p a
variable {z}
theorem DJ{p:Array Nat}{n:Nat}(h:Up z p n)(hn:1<=n)(h1:Z z p (n - 1)<=Z z p n):Up z p (n+1):=by
 intro a b hab hb
 by_cases hbn:b < n
 ·exact h a b hab hbn
 ·have e:b=n:=by omega
  subst e
  by_cases ha:a=b
  ·subst ha;exact Int.le_refl _
  ·exact Int.le_trans (h a (b - 1) (by omega) (by omega)) h1
theorem JH{p:Array Nat}:∀ (f n:Nat),1<=n->Up z p n->n<=run (dk z) (kas_asc p f n)/\run (dk z) (kas_asc p f n)<=n+f/\Up z p (run (dk z) (kas_asc p f n))/\(run (dk z) (kas_asc p f n) < n+f->Z z p (run (dk z) (kas_asc p f n)) < Z z p (run (dk z) (kas_asc p f n) - 1))
 | 0,n,hn,h=>⟨Nat.le_refl _,Nat.le_refl _,h,fun q=>absurd q (Nat.lt_irrefl _)⟩
 | f+1,n,hn,h=>by
  unfold kas_asc
  show n<=run (dk z) (if dk z (p.getD n 0) (p.getD (n - 1) 0)=true then .ret n else kas_asc p f (n+1))/\run (dk z) (if dk z (p.getD n 0) (p.getD (n - 1) 0)=true then .ret n else kas_asc p f (n+1))<=n+(f+1)/\Up z p (run (dk z) (if dk z (p.getD n 0) (p.getD (n - 1) 0)=true then .ret n else kas_asc p f (n+1)))/\(run (dk z) (if dk z (p.getD n 0) (p.getD (n - 1) 0)=true then .ret n else kas_asc p f (n+1)) < n+(f+1)->Z z p (run (dk z) (if dk z (p.getD n 0) (p.getD (n - 1) 0)=true then .ret n else kas_asc p f (n+1))) < Z z p (run (dk z) (if dk z (p.getD n 0) (p.getD (n - 1) 0)=true then .ret n else kas_asc p f (n+1)) - 1))
  by_cases hc:dk z (p.getD n 0) (p.getD (n - 1) 0)=true
  ·rw[if_pos hc]
   exact⟨Nat.le_refl _,Nat.le_add_right _ _,h,fun _=>of_decide_eq_true hc⟩
  ·rw[if_neg hc]
   have h1:Z z p (n - 1)<=Z z p n:=by
    have:¬ (Z z p n < Z z p (n - 1)):=fun q=>hc (yB q)
    omega
   obtain⟨a,b,c,d⟩:=JH f (n+1) (by omega) (DJ h hn h1)
   exact⟨by omega,by omega,c,fun q=>d (by omega)⟩
theorem uX{p:Array Nat}{i j:Nat}(hj:j<=p.size)(h:∀a b,i<=a->a < j->i<=b->b < j->Z z p a=Z z p b)(k:Nat):Z z (kas_rev p i j) k=Z z p k:=by
 rw[yh z hj]
 split
 ·rename_i hk
  exact h _ _ (by omega) (by omega) hk.1 hk.2
 ·rfl
theorem zr{p q:Array Nat}{n:Nat}(e:∀k,Z z q k=Z z p k)(h:Dn z p n):Dn z q n:=fun a b hab hb=>by rw[e,e];exact h a b hab hb
theorem GD{p:Array Nat}{n:Nat}(hn:n<=p.size)(h:Dn z p n):Up z (kas_rev p 0 n) n:=by
 intro a b hab hb
 rw[yh z hn,yh z hn,if_pos ⟨Nat.zero_le _,by omega⟩,if_pos ⟨Nat.zero_le _,hb⟩]
 exact h _ _ (by omega) (by omega)
theorem jY(p:Array Nat)(i j:Nat):(kas_rev p i j).size=p.size:=mirror_size _ _ _ _
theorem jZ(p:Array Nat)(i j:Nat):(kas_rev p i j).Perm p:=mirror_perm _ _ _ _
structure FQ(z:Nat->Int)(p₀ p:Array Nat)(n q nrem:Nat):Prop where
 perm:p.Perm p₀
 size:p.size=p₀.size
 le:n<=nrem
 qn:q+1<=n
 dn:Dn z p n
 eq:∀a b,n - (q+1)<=a->a < n->n - (q+1)<=b->b < n->Z z p a=Z z p b
theorem DC{p₀:Array Nat}{nrem:Nat}(hz:nrem<=p₀.size):∀ (f:Nat) (p:Array Nat) (n q:Nat),n+f<=nrem->FQ z p₀ p n q nrem ->
  let r:=run (dk z) (kas_desc f p n q);FQ z p₀ r.1 r.2.1 r.2.2 nrem
 | 0,p,n,q,hn,h=>h
 | f+1,p,n,q,hn,h=>by
  intro r
  have hr:r=run (dk z) (if dk z (p.getD n 0) (p.getD (n - 1) 0)=true then (if q > 0 then kas_desc f (kas_rev p (n - (q+1)) n) (n+1) 0 else kas_desc f p (n+1) 0)
   else .ask (p.getD (n - 1) 0) (p.getD n 0) fun d=>if d=true then .ret (p,n,q) else kas_desc f p (n+1) (q+1)):=rfl
  have hq:=h.qn
  by_cases hc:dk z (p.getD n 0) (p.getD (n - 1) 0)=true
  ·rw[if_pos hc] at hr
   have hlt:Z z p n < Z z p (n - 1):=of_decide_eq_true hc
   have step:∀p':Array Nat,p'.Perm p₀->p'.size=p₀.size->(∀k,Z z p' k=Z z p k)->FQ z p₀ p' (n+1) 0 nrem:=fun p' a1 a2 a3=>by
    refine⟨a1,a2,by omega,by omega,fun a b hab hb=>?_,fun a b h1 h2 h3 h4=>by rw[show a=b by omega]⟩
    rw[a3,a3]
    by_cases hbn:b < n
    ·exact h.dn a b hab hbn
    ·have e:b=n:=by omega
     subst e
     by_cases ha:a=b
     ·subst ha;exact Int.le_refl _
     ·exact Int.le_trans (Int.le_of_lt hlt) (h.dn a (b - 1) (by omega) (by omega))
   by_cases hq0:q > 0
   ·rw[if_pos hq0] at hr
    rw[hr]
    exact DC hz f _ (n+1) 0 (by omega) (step _ ((jZ _ _ _).trans h.perm) (by rw[jY,h.size]) (uX (by rw[h.size];omega) h.eq))
   ·rw[if_neg hq0] at hr
    rw[hr]
    exact DC hz f p (n+1) 0 (by omega) (step p h.perm h.size fun _=>rfl)
  ·rw[if_neg hc] at hr
   have hge:Z z p (n - 1)<=Z z p n:=by
    have:¬ (Z z p n < Z z p (n - 1)):=fun q=>hc (yB q)
    omega
   have hr':r=run (dk z) (if dk z (p.getD (n - 1) 0) (p.getD n 0)=true then .ret (p,n,q) else kas_desc f p (n+1) (q+1)):=hr
   by_cases hd:dk z (p.getD (n - 1) 0) (p.getD n 0)=true
   ·rw[if_pos hd] at hr'
    rw[hr']
    exact h
   ·rw[if_neg hd] at hr'
    rw[hr']
    have heq:Z z p n=Z z p (n - 1):=by
     have:¬ (Z z p (n - 1) < Z z p n):=fun q=>hd (yB q)
     omega
    refine DC hz f p (n+1) (q+1) (by omega) ⟨h.perm,h.size,by omega,by omega,fun a b hab hb=>?_,fun a b h1 h2 h3 h4=>?_⟩
    ·by_cases hbn:b < n
     ·exact h.dn a b hab hbn
     ·have e:b=n:=by omega
      subst e
      by_cases ha:a=b
      ·subst ha;exact Int.le_refl _
      ·rw[heq];exact h.dn a (b - 1) (by omega) (by omega)
    ·have key:∀c,n+1 - (q+1+1)<=c->c < n+1->Z z p c=Z z p (n - 1):=fun c c1 c2=>by
      by_cases hcn:c < n
      ·exact h.eq c (n - 1) (by omega) hcn (by omega) (by omega)
      ·have e:c=n:=by omega
       subst e;exact heq
     rw[key a h1 h2,key b h3 h4]
structure Iu(z:Nat->Int)(p₀:Array Nat)(nrem:Nat)(r:Nat×Array Nat):Prop where
 perm:r.2.Perm p₀
 size:r.2.size=p₀.size
 ge:1<=r.1
 le:r.1<=nrem
 up:Up z r.2 r.1
theorem tail3{p₀ p:Array Nat}{n nrem:Nat}(hz:nrem<=p₀.size)(h1:1<=n)(hn:n<=nrem)(hp:p.Perm p₀)(hs:p.size=p₀.size)(hd:Dn z p n):Iu z p₀ nrem (run (dk z) (kas_tail3 n nrem p)):=by
 unfold kas_tail3
 rw[fX]
 obtain⟨a,b,c,_⟩:=JH (nrem - n) n h1 (GD (by omega) hd)
 exact⟨(jZ _ _ _).trans hp,by show (kas_rev p 0 n).size=_;rw[jY,hs],by show 1<=run _ (kas_asc _ _ _);omega,by show run _ (kas_asc _ _ _)<=nrem;omega,c⟩
theorem descPart{p₀ p:Array Nat}{n nrem:Nat}(hz:nrem<=p₀.size)(h1:1<=n)(hn:n < nrem)(hp:p.Perm p₀)(hs:p.size=p₀.size)(hd:Dn z p n)(hlt:Z z p n<=Z z p (n - 1)):Iu z p₀ nrem (run (dk z) (kas_descPart n nrem p)):=by
 unfold kas_descPart
 rw[fX]
 have D:=DC (z:=z) hz (nrem - (n+1)) p (n+1) 0 (by omega) ⟨hp,hs,by omega,by omega,fun a b hab hb=>by
  by_cases hbn:b < n
  ·exact hd a b hab hbn
  ·have e:b=n:=by omega
   subst e
   by_cases ha:a=b
   ·subst ha;exact Int.le_refl _
   ·exact Int.le_trans hlt (hd a (b - 1) (by omega) (by omega)),fun a b h1 h2 h3 h4=>by rw[show a=b by omega]⟩
 dsimp only at D
 generalize run (dk z) (kas_desc (nrem - (n+1)) p (n+1) 0)=r at D
 have hq:=D.qn
 split
 ·exact tail3 hz (by omega) D.le ((jZ _ _ _).trans D.perm) (by rw[jY,D.size]) (zr (uX (by have:=D.size;have:=D.le;omega) D.eq) D.dn)
 ·exact tail3 hz (by omega) D.le D.perm D.size D.dn
theorem count{p:Array Nat}{nrem:Nat}(hz:nrem<=p.size)(h1:1<=nrem):Iu z p nrem (run (dk z) (kas_count nrem p)):=by
 unfold kas_count
 rw[fX]
 obtain⟨a,b,c,d⟩:=JH (z:=z) (p:=p) (nrem - 1) 1 (Nat.le_refl _) (fun x y hxy hy=>by rw[show x=y by omega];exact Int.le_refl _)
 generalize run (dk z) (kas_asc p (nrem - 1) 1)=n at a b c d
 split
 ·exact⟨Array.Perm.refl _,rfl,a,by show n<=nrem;omega,c⟩
 ·rename_i hne
  have hlt:n < nrem:=by
   have:n≠nrem:=fun e=>hne (by simp[e])
   omega
  have hd:=d (by omega)
  split
  ·rename_i hn1
   show Iu z p nrem (run (dk z) (if dk z (p.getD 0 0) (p.getD (n - 1) 0)=true then .ret (n,p) else kas_descPart n nrem (kas_rev p 0 n)))
   by_cases hc:dk z (p.getD 0 0) (p.getD (n - 1) 0)=true
   ·rw[if_pos hc]
    exact⟨Array.Perm.refl _,rfl,a,by show n<=nrem;omega,c⟩
   ·rw[if_neg hc]
    have hge:Z z p (n - 1)<=Z z p 0:=by
     have:¬ (Z z p 0 < Z z p (n - 1)):=fun q=>hc (yB q)
     omega
    have all:∀x,x < n->Z z p x=Z z p 0:=fun x hx=>by
     have e1:=c 0 x (Nat.zero_le _) hx
     have e2:=c x (n - 1) (by omega) (by omega)
     omega
    have same:=uX (z:=z) (p:=p) (i:=0) (j:=n) (by omega) fun x y _ hx _ hy=>by rw[all x hx,all y hy]
    refine descPart hz (by omega) hlt (jZ _ _ _) (by rw[jY]) (fun x y hxy hy=>?_) ?_
    ·rw[same,same,all x (by omega),all y hy];exact Int.le_refl _
    ·rw[same,same];omega
  ·exact descPart hz (by omega) hlt (Array.Perm.refl _) rfl (fun x y hxy hy=>by rw[show x=y by omega];exact Int.le_refl _) (by omega)
theorem place{p:Array Nat}{k:Nat}(hu:Up z p k):∀ (f l r:Nat),r - l<=f->l<=r->r<=k->(∀a,a < l->Z z p a<=Z z p k)->(∀a,r<=a->a < k->Z z p k<=Z z p a) ->
  let m:=run (dk z) (kas_place p k f l r);m<=k/\(∀a,a < m->Z z p a<=Z z p k)/\(∀a,m<=a->a < k->Z z p k<=Z z p a)
 | 0,l,r,hf,hl,hr,h1,h2=>by
  intro m
  have e:l=r:=by omega
  subst e
  exact⟨hr,h1,h2⟩
 | f+1,l,r,hf,hl,hr,h1,h2=>by
  intro m
  have hm:m=run (dk z) (if l >= r then .ret l else .ask (p.getD k 0) (p.getD ((l+r) / 2) 0) fun c=>if c=true then kas_place p k f l ((l+r) / 2) else kas_place p k f ((l+r) / 2+1) r):=rfl
  by_cases hlr:l >= r
  ·rw[if_pos hlr] at hm
   rw[hm]
   have e:l=r:=by omega
   subst e
   exact⟨hr,h1,h2⟩
  ·rw[if_neg hlr] at hm
   have hm':m=run (dk z) (if dk z (p.getD k 0) (p.getD ((l+r) / 2) 0)=true then kas_place p k f l ((l+r) / 2) else kas_place p k f ((l+r) / 2+1) r):=hm
   by_cases hc:dk z (p.getD k 0) (p.getD ((l+r) / 2) 0)=true
   ·rw[if_pos hc] at hm'
    rw[hm']
    have hlt:Z z p k < Z z p ((l+r) / 2):=of_decide_eq_true hc
    exact place hu f l ((l+r) / 2) (by omega) (by omega) (by omega) h1 fun a ha hak=>Int.le_trans (Int.le_of_lt hlt) (hu _ a ha hak)
   ·rw[if_neg hc] at hm'
    rw[hm']
    have hge:Z z p ((l+r) / 2)<=Z z p k:=by
     have:¬ (Z z p k < Z z p ((l+r) / 2)):=fun q=>hc (yB q)
     omega
    exact place hu f ((l+r) / 2+1) r (by omega) (by omega) hr (fun a ha=>Int.le_trans (hu a ((l+r) / 2) (by omega) (by omega)) hge) h2
theorem bin{p₀:Array Nat}:∀ (f:Nat) (p:Array Nat) (k:Nat),p.Perm p₀->p.size=p₀.size->k+f<=p₀.size->Up z p k ->
  (run (dk z) (kas_bin f p k)).Perm p₀/\(run (dk z) (kas_bin f p k)).size=p₀.size/\Up z (run (dk z) (kas_bin f p k)) (k+f)
 | 0,p,k,hp,hs,hk,hu=>⟨hp,hs,hu⟩
 | f+1,p,k,hp,hs,hk,hu=>by
  unfold kas_bin
  rw[fX]
  have P:=place hu k 0 k (by omega) (by omega) (Nat.le_refl _) (fun a ha=>absurd ha (Nat.not_lt_zero _)) fun a ha hak=>absurd ha (by omega)
  dsimp only at P
  generalize run (dk z) (kas_place p k k 0 k)=l at P
  obtain⟨p1,p2,p3⟩:=P
  have zb:=Bo z (p:=p) (src:=k) (d:=k - l) (by omega) (by omega)
  have e:k - (k - l)=l:=by omega
  rw[e] at zb
  obtain⟨q1,q2,q3⟩:=bin f (bubble p k (k - l)) (k+1) ((bubble_perm _ _ _).trans hp) (by rw[bubble_size,hs]) (by omega) fun a b hab hb=>by
   rw[zb,zb]
   by_cases ha1:a=l
   ·rw[if_pos ha1]
    by_cases hb1:b=l
    ·rw[if_pos hb1];exact Int.le_refl _
    ·rw[if_neg hb1]
     rw[if_pos (by omega)]
     exact p3 _ (by omega) (by omega)
   ·rw[if_neg ha1]
    by_cases hb1:b=l
    ·rw[if_pos hb1,if_neg (by omega)]
     exact p2 a (by omega)
    ·rw[if_neg hb1]
     by_cases ha2:l < a/\a<=k
     ·rw[if_pos ha2,if_pos (by omega)]
      exact hu _ _ (by omega) (by omega)
     ·rw[if_neg ha2]
      by_cases hb2:l < b/\b<=k
      ·rw[if_pos hb2]
       exact hu _ _ (by omega) (by omega)
      ·rw[if_neg hb2]
       exact hu _ _ hab (by omega)
  exact⟨q1,q2,by rw[show k+(f+1)=k+1+f by omega];exact q3⟩
theorem g8{n:Nat}(h1:1<=n):(run (dk z) (kas_sort n)).toList.Perm (List.range n)/\((run (dk z) (kas_sort n)).toList.map z).Pairwise (·<=·):=by
 have hsz:(List.toArray (List.range n)).size=n:=by simp
 have C:=count (z:=z) (p:=List.toArray (List.range n)) (nrem:=n) (by omega) h1
 have fin:∀p:Array Nat,p.Perm (List.toArray (List.range n))->p.size=n->Up z p n->p.toList.Perm (List.range n)/\(p.toList.map z).Pairwise (·<=·):=fun p a b c=>by
  refine⟨by have:=a.toList;simpa using this,?_⟩
  rw[List.pairwise_iff_getElem]
  intro i j hi hj hij
  have hi':i < n:=by simpa [b] using hi
  have hj':j < n:=by simpa [b] using hj
  have:=c i j (Nat.le_of_lt hij) hj'
  unfold Z at this
  have e1:p.getD i 0=p[i]:=by simp[Array.getD,b,hi']
  have e2:p.getD j 0=p[j]:=by simp[Array.getD,b,hj']
  rw[e1,e2] at this
  simpa using this
 unfold kas_sort
 rw[fX]
 generalize run (dk z) (kas_count n (List.toArray (List.range n)))=r at C
 obtain⟨k,p⟩:=r
 have hs:=C.size
 rw[hsz] at hs
 split
 ·rename_i hlt
  have hge:=C.ge
  have e:max k 1=k:=by have:1<=k:=hge;omega
  rw[e]
  obtain⟨q1,q2,q3⟩:=bin (z:=z) (n - k) p k C.perm C.size (by rw[hsz];have:k < n:=hlt;omega) C.up
  refine fin _ q1 (by rw[q2,hsz]) ?_
  rw[show k+(n - k)=n by have:k < n:=hlt;omega] at q3
  exact q3
 ·rename_i hnlt
  have hle:=C.le
  have e:k=n:=by have h3:k<=n:=hle;have h4:¬ k < n:=hnlt;omega
  subst e
  exact fin p C.perm hs C.up
end
end SP
namespace Srt
open PySem PySem.W PySem.Calls PyProof.Rows
noncomputable def outV(z:Nat->Int)(vs:List Value):List Value:=if vs.length < 2 then vs else (SP.run (SP.dk z) (kas_sort vs.length)).toList.map fun i=>vs.getD i Value.none
theorem outV_len(z:Nat->Int)(vs:List Value):(outV z vs).length=vs.length:=by
 unfold outV
 split
 ·rfl
 ·rename_i h
  have:=(SP.g8 (z:=z) (n:=vs.length) (by omega)).1.length_eq
  simpa using this
section
variable {prog:Program}{w:World}{A:Around}{E:Value->Shared->Prop}{s:Shared}
theorem list_sortG{a:Addr}{vs:List Value}{n:Nat}{P:PySem.Fin->Shared->Prop}(ho:s.heap.get? a=some (seqObj "list" vs.toArray n))(h64:vs.length < 64)(z:Nat->Int)(κ:SortKind)
  (hk:2<=vs.length->∀h':Heap,(∀b o,b≠a->s.heap.get? b=some o->h'.get? b=some o)->∀Q':SortKind->Shared->Prop,Q' κ { s with heap:=h' }->wpAny (model prog w) A (keyKind' vs.toArray) Q' (fun _ _=>False) { s with heap:=h' })
  (hlt:2<=vs.length->∀h':Heap,(∀b o,b≠a->s.heap.get? b=some o->h'.get? b=some o)->∀i j C,i < vs.length->j < vs.length->C (SP.dk z i j) { s with heap:=h' }->kas_ask prog w A κ vs i j C { s with heap:=h' })
  (h:∀ (h':Heap) (c:Nat),(∀b o,b≠a->s.heap.get? b=some o->h'.get? b=some o)->h'.get? a=some (seqObj "list" (outV z vs).toArray c)->P (.done (.ret .none)) { s with heap:=h' }) :
  wpAny (model prog w) A (Builtin.«list.sort» ⟨[.ref a],[]⟩) P E s:=by
 rw[list_sort_plain]
 have ha:a < s.heap.objs.size:=zZ ho
 have hsl:vs.length<=sizeLine:=by rw[sizeLine_eq];omega
 refine zW (listItems_at ho rfl (zW (listUpdate_at ho rfl ?_ (by simpa using hsl) (Nat.zero_le _))))
 obtain⟨e1,ho1⟩:∃e,(s.heap.update a (Obj.mapSeq fun _=>(#[]:Array Value))).get? a=some (seqObj "list" #[] e):=⟨_,get?_update_seq ho fun _=>#[]⟩
 have kp1:∀b o,b≠a->s.heap.get? b=some o->(s.heap.update a (Obj.mapSeq fun _=>(#[]:Array Value))).get? b=some o:=fun b o hb e=>(Heap.get?_update_other _ _ (Ne.symm hb)).trans e
 refine zW (seqEpoch_at ho1 rfl (zW (wpAny_newTuple ?_ (by simpa using hsl))))
 refine zW (wpAny_newList (wpAny_holding ?_) (Nat.zero_le _))
 have ho3:(((s.heap.update a (Obj.mapSeq fun _=>(#[]:Array Value))).push (seqObj "tuple" vs.toArray 0)).push (seqObj "list" #[] 0)).get? a=some (seqObj "list" #[] e1):=zV _ (zV _ ho1)
 have kp3:∀b o,b≠a->s.heap.get? b=some o->(((s.heap.update a (Obj.mapSeq fun _=>(#[]:Array Value))).push (seqObj "tuple" vs.toArray 0)).push (seqObj "list" #[] 0)).get? b=some o:=fun b o hb e=>zV _ (zV _ (kp1 b o hb e))
 show wpAny _ A _ P E { s with heap:=((s.heap.update a (Obj.mapSeq fun _=>(#[]:Array Value))).push (seqObj "tuple" vs.toArray 0)).push (seqObj "list" #[] 0) }
 generalize ((s.heap.update a (Obj.mapSeq fun _=>(#[]:Array Value))).push (seqObj "tuple" vs.toArray 0)).push (seqObj "list" #[] 0)=h3 at ho3 kp3
 clear ho1 kp1
 dsimp only
 have fin:∀st':SortSt,(arrOf st').map (·.2)=(outV z vs).toArray->failedOf st'=none ->
   wpAny (model prog w) A (do
    let sorted:=(arrOf st').map (·.2)
    let touched:=(<- seqEpoch a) != e1
    Builtin.List.listUpdate (.ref a) fun _=>sorted
    if let some e:=failedOf st' then rule "list.sort.comparison-raised";throw e
    if touched then rule "list.sort.modified";raiseError "ValueError" "list modified during sort"
    ret .none) P E { s with heap:=h3 }:=fun st' h1 h2=>by
  dsimp only
  rw[h1,h2]
  refine zW (seqEpoch_at ho3 rfl ?_)
  refine zW (listUpdate_at ho3 rfl ?_ (Nat.zero_le _) (by show (outV z vs).toArray.size<=_;rw[zH,outV_len];omega))
  obtain⟨c,hc⟩:∃c,(h3.update a (Obj.mapSeq fun _=>(outV z vs).toArray)).get? a=some (seqObj "list" (outV z vs).toArray c):=⟨_,get?_update_seq ho3 fun _=>(outV z vs).toArray⟩
  have q:=h _ c (fun b o hb e=>(Heap.get?_update_other _ _ (Ne.symm hb)).trans (kp3 b o hb e)) hc
  simp only[bne_self_eq_false,Bool.false_eq_true,if_false]
  exact zX q
 by_cases h2:vs.toArray.size < 2
 ·rw[if_pos h2,if_pos h2]
  refine zW (zX ?_)
  rw[StateT.run_pure]
  refine zW (zX (fin _ ?_ rfl))
  have h2':vs.length < 2:=by simpa using h2
  unfold outV
  rw[if_pos h2']
  show ((vs.toArray.zip vs.toArray).map (·.2))=vs.toArray
  apply Array.toList_inj.mp
  simp only[Array.toList_map,Array.toList_zip]
  exact List.map_snd_zip (Nat.le_refl _)
 ·rw[if_neg h2,if_neg h2]
  have h2':2<=vs.length:=by
   have:¬ vs.length < 2:=by simpa using h2
   omega
  refine zW (wpAny_mono (hk h2' h3 kp3 (fun κ' s'=>κ'=κ/\s'={ s with heap:=h3 }) ⟨rfl,rfl⟩) (fun κ' s' hs=>?_) fun _ _ x=>x.elim)
  obtain⟨rfl,rfl⟩:=hs
  refine zW (wpAny_mono (kat_run (Q:=fun st' s'=>s'={ s with heap:=h3 }/\(arrOf st').map (·.2)=(outV z vs).toArray/\failedOf st'=none) (G:=fun p s'=>s'={ s with heap:=h3 }/\p=SP.run (SP.dk z) (kas_sort vs.length))
   rfl h2' h64 (fun p st' s' a1 a2 a3 a4=>⟨a4.1,?_,a3⟩) (SP.wp_run (hlt h2' h3 kp3) (kas_sort vs.length) (SP.BD (by omega)) ⟨rfl,rfl⟩)) ?_ fun _ _ e=>e)
  ·rw[kat_snds rfl a2,a4.2]
   unfold outV
   rw[if_neg (by omega)]
  ·rintro⟨⟨⟩,st'⟩ s' ⟨hs,h4,h5⟩
   subst hs
   exact fin st' h4 h5
def Coll(h:Heap)(l:Addr)(vs:List Value):Prop:=∃ (o:Obj) (T:String) (n:Nat),(T="list"\/T="tuple")/\h.get? l=some o/\o.cls=.type T/\o.data=.seq vs.toArray n
theorem collectC{l:Addr}{vs:List Value}{Q:List Value->Shared->Prop}(hl:Coll s.heap l vs)
  (h:Q vs { s with heap:=(s.heap.push (seqObj "list" #[] 0)).update s.heap.objs.size (Obj.mapSeq (·++vs.toArray)) }) (hsz:vs.length<=sizeLine):wpAny (model prog w) A (collect (.ref l)) Q E s:=by
 obtain⟨o,T,n,hT,ho,hc,hd⟩:=hl
 unfold collect
 refine zW (wpAny_runValue (codeAny_builtin entry_proto_collect' ?_))
 show wpAny _ _ (do again (.builtin "list.__iadd__" ⟨[<- newList [],.ref l],[]⟩)) _ _ s
 refine zW (wpAny_newList (zX ⟨Code.quiet_builtin _ (by decide +kernel),codeAny_builtin entry_list_iadd' ?_⟩))
 show wpAny _ _ (Builtin.List.listExtendWith (.ref s.heap.objs.size) (.ref l) (.ref s.heap.objs.size)) _ _ { s with heap:=s.heap.push (seqObj "list" #[] 0) }
 unfold Builtin.List.listExtendWith
 have ho':(s.heap.push (seqObj "list" #[] 0)).get? l=some o:=zV _ ho
 refine zW (wpAny_typeOf (T:=T) ⟨o,ho',hc⟩ ?_)
 rw[if_pos (by rcases hT with rfl|rfl<;>simp)]
 refine zW (listItems_at ho' hd (zW (listItems_at (xs:=#[]) (n:=0) (zY _ rfl) rfl ?_)))
 rw[if_neg (by simp)]
 refine zW (listUpdate_at (xs:=#[]) (n:=0) (zY _ rfl) rfl ?_ (Nat.zero_le _) (by show (#[]++vs.toArray).size<=sizeLine+1;simp only[Array.size_append,zH,List.length_nil];omega))
 refine zX ?_
 refine zW (wpAny_load (get?_update_seq (zY _ rfl) _) ?_)
 show wpAny _ _ (pure ((#[]:Array Value)++vs.toArray).toList) Q E _
 rw[show ((#[]:Array Value)++vs.toArray).toList=vs by simp]
 exact zX h
theorem sortedG{l:Addr}{vs:List Value}{Q:Value->Shared->Prop}(hl:Coll s.heap l vs)(h64:vs.length < 64)(z:Nat->Int)(κ:SortKind)
  (hk:2<=vs.length->∀h':Heap,(∀b o,s.heap.get? b=some o->h'.get? b=some o)->∀Q':SortKind->Shared->Prop,Q' κ { s with heap:=h' }->wpAny (model prog w) A.in1.in1 (keyKind' vs.toArray) Q' (fun _ _=>False) { s with heap:=h' })
  (hlt:2<=vs.length->∀h':Heap,(∀b o,s.heap.get? b=some o->h'.get? b=some o)->∀i j C,i < vs.length->j < vs.length->C (SP.dk z i j) { s with heap:=h' }->kas_ask prog w A.in1.in1 κ vs i j C { s with heap:=h' })
  (h:∀ (h':Heap) (D:Addr) (c:Nat),(∀b o,s.heap.get? b=some o->h'.get? b=some o)->s.heap.objs.size<=D->h'.get? D=some (seqObj "list" (outV z vs).toArray c)->Q (.ref D) { s with heap:=h' }) :
  wpAny (model prog w) A (call (.builtin "sorted") [.ref l]) Q E s:=by
 have hsl:vs.length<=sizeLine:=by rw[sizeLine_eq];omega
 refine Calls.call_function_entry kind_sorted plain_sorted entry_sorted (args_sorted1 _) ?_
 unfold Builtin.«sorted»
 refine zW (m:=checkCount "sorted" 1 1 _) (zX (zW (collectC hl ?_ hsl)))
 refine zW (wpAny_newList ?_ (by simpa using hsl))
 have hsz:((s.heap.push (seqObj "list" #[] 0)).update s.heap.objs.size (Obj.mapSeq (·++vs.toArray))).objs.size=s.heap.objs.size+1:=by rw[Heap.size_update,size_push']
 have kp:∀b o,s.heap.get? b=some o->(((s.heap.push (seqObj "list" #[] 0)).update s.heap.objs.size (Obj.mapSeq (·++vs.toArray))).push (seqObj "list" vs.toArray 0)).get? b=some o:=fun b o e =>
  zV _ ((Heap.get?_update_other _ _ (Nat.ne_of_gt (zZ e))).trans (zV _ e))
 have hoD:(((s.heap.push (seqObj "list" #[] 0)).update s.heap.objs.size (Obj.mapSeq (·++vs.toArray))).push (seqObj "list" vs.toArray 0)).get? (s.heap.objs.size+1)=some (seqObj "list" vs.toArray 0):=by
  rw[<- hsz];exact zY _ rfl
 show wpAny _ _ _ _ _ { s with heap:=((s.heap.push (seqObj "list" #[] 0)).update s.heap.objs.size (Obj.mapSeq (·++vs.toArray))).push (seqObj "list" vs.toArray 0) }
 rw[hsz]
 generalize ((s.heap.push (seqObj "list" #[] 0)).update s.heap.objs.size (Obj.mapSeq (·++vs.toArray))).push (seqObj "list" vs.toArray 0)=h1 at kp hoD
 have kk:∀h':Heap,(∀b o,b≠s.heap.objs.size+1->h1.get? b=some o->h'.get? b=some o)->∀b o,s.heap.get? b=some o->h'.get? b=some o:=fun h' q b o e=>q b o (Nat.ne_of_lt (Nat.lt_succ_of_lt (zZ e))) (kp b o e)
 refine zW (wpAny_holding (wpAny_call_entry slot_list_sort ⟨_,hoD,rfl⟩ entry_list_sort (list_sortG hoD h64 z κ (fun a h' q=>hk a h' (kk h' q)) (fun a h' q=>hlt a h' (kk h' q)) fun h' c q e=>⟨_,rfl,?_⟩) (args_list_sort _)))
 exact zX ⟨_,rfl,h h' _ c (kk h' q) (by omega) e⟩
end
end Srt
namespace Dl
open PySem L2 PySem.Spec PyProof.Rows
section
variable {X:Cx}{HF₀ H₀:Hp}{e e2:Expr}{es:List Expr}{pos apos cpos px p:Pos}{x:Str}{fs:Env->Option (List D)}
noncomputable def xC(i:Nat)(fz:List Nat)(f:Env->Option (List D)):ao->Option Out:=fun ρ=>(f (bR (hand fz 0 ρ))).bind fun us=>kq i (fun ds=>if ds.length+us.length<=sizeLine then some (ds++us) else none) (hand fz 0 ρ)
theorem wI(i:Nat)(fz:List Nat){f:Env->Option (List D)}(hN:X.N[i]?=some x)(hv:Ct X.env.scope x)(h:DF X e f)(hd:(x == ("__debug__":Str))=false:=by decide)(hcd:(x == ("__classdict__":Str))=false:=by decide)
  (hfew:((backTo cpos (starEach [e] X.env)).all (fun x=>!x.1)&&(backToKw cpos (keywordEach [] X.env)).all (fun x=>x.1.isSome)&&decide ([e].length+([]:List Keyword).length+(if ([]:List Keyword).isEmpty then 0 else 1) < 30))=true:=by rfl)
  (hline:(apos.endLine == cpos.line)=true:=by rfl) (hs:starEach [e] X.env=(false,eval e X.env)::starEach [] X.env:=by rfl) :
  DS X HF₀ H₀ (.Expr (.Call (.Attribute (.Name x px) "extend" apos) [e] [] cpos) pos) (xC i fz f) :=
 cq (lW (oV PySem.F.plainAttrs_list PySem.F.slot_list_extend PySem.F.type_list_extend xb (kR hN hv hd hcd) (bA h dh hs) rfl hfew hline hs rfl)) fun E σ H ⟨HF,ρ,o,S,hg,q⟩=>by
  obtain⟨us,h1,hg⟩:=bs hg
  obtain⟨ds,es,h2,h3,rfl⟩:=gc hg
  obtain⟨HF1,s1,S1⟩:=S.hand fz
  obtain⟨a,vs,e1,e2,e3,e5,e4⟩:=S1.own i ds h2
  refine⟨.ref a,e1,.inl ⟨rfl,vs,fj.of e2⟩,HF1,_,us,S1.gr.fh,S1.frz,h1,fun b ws H' HF' G hb hf h' r=>?_⟩
  have S2:=S1.grow G
  obtain⟨a',vs',f1,f2,f3,f5,f4⟩:=S2.own i ds h2
  rw[e1] at f1;cases f1
  split at h3
  ·rename_i hz
   cases h3
   exact⟨a,b,vs',ws,rfl,rfl,f2,h',by rw[f4.length,r.length];exact hz,q σ _ HF' (S2.mut h2 e1 f2 (f4.append r)) (s1.trans G.ff)⟩
  ·cases h3
noncomputable def we(ds:List D)(k:Int)(d:D):List D:=let j:=if k < 0 then (k+(ds.length:Int)).toNat else min k.toNat ds.length;ds.take j++d::ds.drop j
noncomputable def Du:V->List V->Hp->VK->Prop:=fun x vs H Q=>∃l xs k y,x=.ref l/\vs=[.int k,y]/\H l=some (.lst xs)/\xs.length < sizeLine/\-(2 ^ 62)<=k/\k < 2 ^ 62 /\
 Q .non (upd H l (.lst (xs.take (if k < 0 then (k+(xs.length:Int)).toNat else min k.toNat xs.length)++y::xs.drop (if k < 0 then (k+(xs.length:Int)).toNat else min k.toNat xs.length))))
theorem wC:GP X "list.insert" Du:=by
 intro pins s σ H x vs v us Q I rx rv h
 obtain⟨l,xs,k,y,rfl,rfl,hH,hz,k1,k2,q⟩:=h
 cases rx
 obtain⟨u1,u2,rfl,⟨t,rfl⟩,ru⟩:=L2.ax.two rv
 obtain⟨z,its,n,r,hl,e⟩:=I.lstM hH
 have hfit:¬(!Builtin.List.listFitsIndex k)=true:=by
  have:Builtin.List.listFitsIndex k=true:=by
   unfold Builtin.List.listFitsIndex
   simp only[zF,zJ]
   omega
  rw[this];simp
 refine call_meets F.slot_list_insert ⟨_,e,rfl⟩ F.entry_list_insert (F.args_list_insert_3 _ _ _) (AutoListH.list_insert_list_int_val_1 l its.toArray n k t u2 hfit (by rw[zH];omega)) ⟨e,?_⟩
 have hlen:its.length=xs.length:=hl.symm
 refine⟨.non,_,I.lset (its':=its.take (if k < 0 then (k+(xs.length:Int)).toNat else min k.toNat xs.length)++u2::its.drop (if k < 0 then (k+(xs.length:Int)).toNat else min k.toNat xs.length)) hH e ?_ ((r.take _).append (.cons ru (r.drop _))) ?_,rfl,q⟩
 ·dsimp only
  rw[zH,hlen]
  apply Array.toList_inj.mp
  simp
  exact List.take_of_length_le (by rw[List.length_drop,hlen];exact Nat.le_refl _)
 ·rw[zN,zL,List.length_take,List.length_drop]
  omega
noncomputable def yX(i:Nat)(fz:List Nat)(fk f:Env->Option D):ao->Option Out:=fun ρ=>(fk (aV ρ)).bind fun kd=>match kd with
 | .int k=>(lb fz f ρ).bind fun p=>kq i (fun ds=>if sC k=true/\ds.length < sizeLine then some (we ds k p.1) else none) p.2
 | _=>none
theorem wR(i:Nat)(fz:List Nat){fk f:Env->Option D}(hN:X.N[i]?=some x)(hv:Ct X.env.scope x)(hk:DE X e fk)(h:DE X e2 f)(hd:(x == ("__debug__":Str))=false:=by decide)(hcd:(x == ("__classdict__":Str))=false:=by decide)
  (hfew:((backTo cpos (starEach [e,e2] X.env)).all (fun x=>!x.1)&&(backToKw cpos (keywordEach [] X.env)).all (fun x=>x.1.isSome)&&decide ([e,e2].length+([]:List Keyword).length+(if ([]:List Keyword).isEmpty then 0 else 1) < 30))=true:=by rfl)
  (hline:(apos.endLine == cpos.line)=true:=by rfl) (hs:starEach [e,e2] X.env=(false,eval e X.env)::starEach [e2] X.env:=by rfl) (hs2:starEach [e2] X.env=(false,eval e2 X.env)::starEach [] X.env:=by rfl) :
  DS X HF₀ H₀ (.Expr (.Call (.Attribute (.Name x px) "insert" apos) [e,e2] [] cpos) pos) (yX i fz fk f) :=
 cq (lW (oV PySem.F.plainAttrs_list PySem.F.slot_list_insert PySem.F.type_list_insert wC (kR hN hv hd hcd) (bA hk (bA h dh hs2) hs) rfl hfew hline hs (by rw[hs2];rfl))) fun E σ H ⟨HF,ρ,o,S,hg,q⟩=>by
  obtain⟨kd,hkd,hg⟩:=bs hg
  cases kd<;>try cases hg
  rename_i k
  obtain⟨⟨d,ρ'⟩,h1,hg⟩:=bs hg
  obtain⟨ds,es,h2,h3,rfl⟩:=gc hg
  have hown:∃ds',ρ[i]?=some (.own ds'):=by
   obtain⟨d1,_,h1⟩:=bs h1
   split at h1
   ·cases h1;exact⟨ds,h2⟩
   ·obtain⟨d2,_,h1⟩:=ae h1
    cases h1
    rw[f7] at h2
    obtain⟨s,hs,h2⟩:=ae h2
    cases s with
    | non=>split at h2<;>cases h2
    | val _=>split at h2<;>cases h2
    | own xs=>exact⟨xs,hs⟩
  obtain⟨ds',hown⟩:=hown
  obtain⟨a,vs,e1,e2,e3,e5,e4⟩:=S.own i ds' hown
  refine⟨.ref a,e1,.inl ⟨rfl,vs,fj.of e2⟩,H,aV ρ,_,.refl _,S.all,hkd,fun vk Hk HFk Gk rk=>?_⟩
  simp only[Rep] at rk
  subst rk
  refine kZ (S.step Gk.hh) h1 fun v H' HF' s1 S' sh r=>?_
  obtain⟨a',vs',f1,f2,f3,f5,f4⟩:=S'.own i ds h2
  rw[e1] at f1;cases f1
  split at h3
  ·rename_i hz
   cases h3
   have ok:=hz.1
   unfold sC at ok
   rw[zF] at ok
   refine⟨a,vs',k,v,rfl,rfl,f2,by rw[f4.length];exact hz.2,of_decide_eq_true ok.1,of_decide_eq_true ok.2,q σ _ HF' (S'.mut h2 e1 f2 ?_) s1⟩
   unfold we
   rw[f4.length]
   exact (f4.take _).append (aj.cons r (f4.drop _))
  ·cases h3
noncomputable def jt:D->D->Option (List D)
 | .list xs,.list ys=>small (xs++ys)
 | _,_=>none
def yy(K:W.Frag):R2:=fun x y H Q=>∃a b xs ys,x=.ref a/\y=.ref b/\fj K H a xs/\fj K H b ys/\xs.length+ys.length<=sizeLine/\∀p,H p=none->Q (.ref p) (upd H p (.lst (xs++ys)))
theorem qZ:fO X (binaryOp .Add) (yy X.K):=by
 intro pins s σ H x y v u Q I rx ry h
 obtain⟨a,b,xs,ys,rfl,rfl,ha,hb,hz,q⟩:=h
 cases rx
 cases ry
 obtain⟨its,r1,p1,_⟩:=I.list ha
 obtain⟨its2,r2,p2,_⟩:=I.list hb
 obtain⟨⟨cls,dd,data,sl⟩,ho,hc,n,hd⟩:=id p1.isList
 obtain⟨⟨cls2,dd2,data2,sl2⟩,ho2,hc2,n2,hd2⟩:=id p2.isList
 simp only at hc hd hc2 hd2
 subst hc hd hc2 hd2
 refine concat_meets ⟨_,ho,rfl⟩ ⟨_,ho2,rfl⟩ noFill_list_add seq_list_add PySem.F.slot_list_add PySem.F.entry_list_add (PySem.F.args_list_add_2 _ _) (list_addW a b its.toArray its2.toArray n n2 dd dd2 sl sl2 (by rw[zH,zH,<- r1.length,<- r2.length];exact hz)) ⟨ho,ho2,?_⟩
 have e:its.toArray++its2.toArray=(its++its2).toArray:=by simp
 rw[e]
 exact⟨.ref s.heap.objs.size,_,I.lnew (t':=s.toks) (r1.append r2) (by rw[zN];exact hz),rfl,q _ I.fresh⟩
noncomputable def GU(g:D->D->Option (List D))(f1 f2:Env->Option D):Env->Option (List D):=fun ρ=>(f1 ρ).bind fun x=>(f2 ρ).bind fun y=>g x y
theorem Fi{a b:Expr}{fa fb:Env->Option D}(ha:DE X a fa)(hb:DE X b fb):DF X (.BinOp a .Add b pos) (GU jt fa fb):=aG (AK qZ ha hb) fun σ H Q ⟨HF,ρ,d,sm,eo,hf,q⟩=>by
 obtain⟨x,hx,hf⟩:=bs hf
 obtain⟨y,hy,hg⟩:=bs hf
 refine⟨HF,ρ,x,sm,eo,hx,fun v1 H1 HF1 g1 r1=>⟨HF1,ρ,y,g1.fh,eo.mono g1.ff,hy,fun v2 H2 HF2 g2 r2=>?_⟩⟩
 have r1:=r1.mono g2.ff
 cases x<;>cases y<;>simp only[jt] at hg<;>try cases hg
 rename_i xs ys
 obtain⟨rfl,hz⟩:=dz hg
 simp only[Rep] at r1 r2
 obtain⟨a,vs,rfl,ha,ra⟩:=r1
 obtain⟨b,us,rfl,hb,rb⟩:=r2
 have G:=g1.trans g2
 exact⟨a,b,vs,us,rfl,rfl,g2.fh.seq ha,g2.fh.seq hb,by rw[ra.length,rb.length,<- zN];exact hz,fun p hp=>q p _ _ HF2 (G.trans (.own G.fh hp)) (G.hh.free hp) (G.fh.free hp) aw (ra.append rb)⟩
noncomputable def boolsOf:List D->Option (List Bool)
 | []=>some []
 | .bool b::r=>(boolsOf r).map (b::·)
 | _::_=>none
theorem gy:∀ {ds:List D}{bs:List Bool},boolsOf ds=some bs->ds=bs.map PyData.bool
 | [],bs,h=>by cases h;rfl
 | d::r,bs,h=>by
  cases d<;>simp only[boolsOf] at h<;>try cases h
  obtain⟨bs',h1,rfl⟩:=ae h
  rw[gy h1]
  rfl
theorem jH{K:W.Frag}{H:Hp}:∀ {bs:List Bool}{vs:List V},aj K H (bs.map PyData.bool) vs->vs=bs.map V.bl
 | [],vs,h=>h.nil_inv
 | b::bs,vs,h=>by
  obtain⟨v,r,rfl,a,c⟩:=h.cons_inv
  simp only[Rep] at a
  rw[a,jH c]
  rfl
theorem ju:∀ {bs:List Bool}{us:List Value},ax (bs.map V.bl) us->us=bs.map Value.bool
 | [],us,h=>by cases h;rfl
 | b::bs,us,h=>by
  cases h with
  | cons r rr=>cases r;rw[ju rr];rfl
theorem range_all(bs:List Bool):(List.range bs.length).all (fun i=>bs.getD i false)=bs.all id:=by
 induction bs with
 | nil=>rfl
 | cons b bs ih=>rw[zL,List.range_succ_eq_map,List.all_cons,List.all_map,List.all_cons];simpa [Function.comp_def] using congrArg (b&&·) ih
theorem range_any(bs:List Bool):(List.range bs.length).any (fun i=>bs.getD i false)=bs.any id:=by
 induction bs with
 | nil=>rfl
 | cons b bs ih=>rw[zL,List.range_succ_eq_map,List.any_cons,List.any_map,List.any_cons];simpa [Function.comp_def] using congrArg (b||·) ih
theorem tN(hc:X.calm=true):cO X (.builtin "all") (fun xs H Q=>∃ (a:Addr) (bs:List Bool),xs=[.ref a]/\fj X.K H a (bs.map V.bl)/\Q (.bl (bs.all id)) H):=by
 intro pins s σ H xs us Q I r h
 obtain⟨a,bs,rfl,hq,q⟩:=h
 obtain⟨u,rfl,rx⟩:=vals1 r
 cases rx
 obtain⟨its,rv,pl,hz⟩:=I.list hq
 have hv:=ju rv
 subst hv
 have hh:X.A.in1.handled=none:=I.ok.hd hc
 refine call_all_walk (wpAny_pyIter_list pl.isList ?_)
 obtain⟨o,ho,hcl,n,hd⟩:=pl.isList
 have hne:a≠s.heap.objs.size:=Nat.ne_of_lt (zZ ho)
 refine⟨_,_,_,_,_,_,fun i=>bs.getD i false,rfl,Walks.list hh s.heap.objs.size a hne (bs.map Value.bool).toArray,⟨⟨_,zY _ rfl,rfl,rfl⟩,pl.isList.push _⟩,fun i v s' Q' E' hP hQ=>?_,fun h' tk kp=>?_⟩
 ·have e:v=Value.bool (bs.getD i false):=by
   have hP:(bs.map Value.bool).toArray[i]?=some v:=hP
   rw[List.getElem?_toArray,zO] at hP
   obtain⟨b,hb,rfl⟩:=ae hP
   rw[zG,hb]
   rfl
  subst e
  exact wpAny_truthy_bool hQ
 ·refine⟨.bl (bs.all id),H,?_,?_,q⟩
  ·exact I.kept (t':=tk) fun b o' e=>kp b o' (by simp;exact Nat.ne_of_lt (zZ e)) (zV _ e)
  ·show Value.bool _=Value.bool _
   have:=range_all bs
   simp only[zH,zD]
   rw[this]
noncomputable def rK:List D->Option D:=fun ds=>(oneOf ds).bind fun d=>match d with
 | .list es=>(boolsOf es).map fun bs=>.bool (bs.all id)
 | _=>none
theorem GI(hc:X.calm=true)(B:jj X "all" (.builtin "all"))(ha:DA X [e] fs)(he:starEach [e] X.env=(false,eval e X.env)::starEach [] X.env:=by rfl):DE X (.Call (.Name "all" p) [e] [] pos) (ba rK fs) :=
 fU (tN hc) (by
  intro HF H ds vs d Q sm r hg q
  obtain⟨x,hx,hg⟩:=bs hg
  rw[eH hx] at r
  cases x<;>try cases hg
  obtain⟨bs,hb,rfl⟩:=ae hg
  obtain⟨v,r',rfl,a,b⟩:=r.cons_inv
  rw[b.nil_inv]
  simp only[Rep] at a
  obtain⟨p,us,rfl,h,rr⟩:=a
  rw[gy hb] at rr
  have:=jH rr
  subst this
  exact⟨p,bs,rfl,sm.seq h,q _ H HF (.refl sm) (by simp[Rep])⟩) B ha (by decide) (by decide) he rfl
end
noncomputable abbrev lexLt:=HT.lexLt
theorem eO:∀a:List Int,lexLt a a=false
 | []=>rfl
 | x::a=>by show HT.lexLt (x::a) (x::a)=false;rw[HT.cH,if_pos rfl];exact eO a
theorem dq:∀ {a b c:List Int},lexLt a b=true->lexLt b c=true->lexLt a c=true
 | [],[],_,h,_=>by cases h
 | [],_::_,[],_,h=>by cases h
 | [],_::_,_::_,_,_=>rfl
 | _::_,[],_,h,_=>by cases h
 | _::_,_::_,[],_,h=>by cases h
 | x::a,y::b,z::c,h1,h2=>by
  have h1:HT.lexLt (x::a) (y::b)=true:=h1
  have h2:HT.lexLt (y::b) (z::c)=true:=h2
  show HT.lexLt (x::a) (z::c)=true
  rw[HT.cH] at h1 h2 ⊢
  by_cases e1:x=y
  ·rw[if_pos e1] at h1
   by_cases e2:y=z
   ·rw[if_pos e2] at h2
    rw[if_pos (e1.trans e2)]
    exact dq h1 h2
   ·rw[if_neg e2] at h2
    rw[if_neg (by omega)]
    have:=of_decide_eq_true h2
    exact yB (by omega)
  ·rw[if_neg e1] at h1
   have q1:=of_decide_eq_true h1
   by_cases e2:y=z
   ·rw[if_neg (by omega)]
    exact yB (by omega)
   ·rw[if_neg e2] at h2
    have q2:=of_decide_eq_true h2
    rw[if_neg (by omega)]
    exact yB (by omega)
theorem jb:∀ {a b:List Int},lexLt a b=false->lexLt b a=false->a=b
 | [],[],_,_=>rfl
 | [],_::_,h,_=>by cases h
 | _::_,[],_,h=>by cases h
 | x::a,y::b,h1,h2=>by
  have h1:HT.lexLt (x::a) (y::b)=false:=h1
  have h2:HT.lexLt (y::b) (x::a)=false:=h2
  rw[HT.cH] at h1 h2
  by_cases e:x=y
  ·rw[if_pos e] at h1
   rw[if_pos e.symm] at h2
   rw[e,jb h1 h2]
  ·rw[if_neg e] at h1
   rw[if_neg (fun z=>e z.symm)] at h2
   have:=of_decide_eq_false h1
   have:=of_decide_eq_false h2
   omega
noncomputable def lexLe(a b:List Int):Bool:=!lexLt b a
theorem sj(a b c:List Int)(h1:lexLe a b=true)(h2:lexLe b c=true):lexLe a c=true:=by
 unfold lexLe at *
 rw[Bool.not_eq_true'] at *
 cases e:lexLt c a with
 | false=>rfl
 | true =>
  cases e1:lexLt a b with
  | true=>rw[dq e e1] at h2;cases h2
  | false =>
   have:=jb e1 h1
   subst this
   rw[e] at h2;cases h2
theorem r9(a b:List Int):(lexLe a b||lexLe b a)=true:=by
 unfold lexLe
 cases e1:lexLt b a with
 | false=>rfl
 | true =>
  cases e2:lexLt a b with
  | false=>rfl
  | true=>have:=dq e1 e2;rw[eO] at this;cases this
theorem ue{a b:List Int}(h1:lexLe a b=true)(h2:lexLe b a=true):a=b:=by
 unfold lexLe at *
 rw[Bool.not_eq_true'] at *
 exact jb h2 h1
theorem oU{α:Type}{le:α->α->Bool}(anti:∀a b,le a b=true->le b a=true->a=b):∀ {l m:List α},l.Perm m->l.Pairwise (fun a b=>le a b=true)->m.Pairwise (fun a b=>le a b=true)->l=m
 | [],m,p,_,_=>p.nil_eq
 | a::l,[],p,_,_=>by have:=p.length_eq;simp at this
 | a::l,b::m,p,h1,h2=>by
  obtain⟨h1a,h1b⟩:=List.pairwise_cons.mp h1
  obtain⟨h2a,h2b⟩:=List.pairwise_cons.mp h2
  have e:a=b:=by
   have ha:a∈b::m:=p.mem_iff.mp zE
   have hb:b∈a::l:=p.mem_iff.mpr zE
   rcases zR.mp ha with e|ha
   ·exact e
   ·rcases zR.mp hb with e|hb
    ·exact e.symm
    ·exact anti a b (h1a b hb) (h2a a ha)
  subst e
  rw[oU anti (List.perm_cons a |>.mp p) h1b h2b]
noncomputable def nL(l:List (List Int)):List (List Int):=l.mergeSort lexLe
theorem AJ(l:List (List Int)):(nL l).Perm l:=List.mergeSort_perm l lexLe
theorem EL(l:List (List Int)):(nL l).Pairwise (fun a b=>lexLe a b=true):=List.pairwise_mergeSort sj r9 l
theorem Bt{l m:List (List Int)}(p:l.Perm m)(h:l.Pairwise (fun a b=>lexLe a b=true)):l=nL m:=oU (fun _ _=>ue) (p.trans (AJ m).symm) h (EL m)
noncomputable def rk(l:List (List Int))(a:List Int):Int:=((l.countP fun b=>lexLt b a:Nat):Int)
theorem yW{l:List (List Int)}{a b:List Int}(ha:a∈l):lexLt a b=decide (rk l a < rk l b):=by
 unfold rk
 have mono:∀ {a b:List Int},lexLt a b=true->(l.countP fun c=>lexLt c a)<=l.countP fun c=>lexLt c b:=fun {a b} h=>List.countP_mono_left fun c _ hc=>dq hc h
 have strict:∀ {a b:List Int}(ha:a∈l),lexLt a b=true->(l.countP fun c=>lexLt c a) < l.countP fun c=>lexLt c b:=fun {a b} ha h=>by
  have key:∀m:List (List Int),a∈m->(m.countP fun c=>lexLt c a) < m.countP fun c=>lexLt c b:=fun m hm=>by
   induction m with
   | nil=>cases hm
   | cons x m ih =>
    rw[List.countP_cons,List.countP_cons]
    have mo:(m.countP fun c=>lexLt c a)<=m.countP fun c=>lexLt c b:=List.countP_mono_left fun c _ hc=>dq hc h
    rcases zR.mp hm with e|hm
    ·subst e
     rw[eO,h]
     simp only[Bool.false_eq_true,if_false,if_true]
     omega
    ·have:=ih hm
     by_cases hx:lexLt x a=true
     ·rw[hx,dq hx h];simp only[if_true];omega
     ·have hx':lexLt x a=false:=by simpa using hx
      rw[hx']
      simp only[Bool.false_eq_true,if_false]
      split<;>omega
  exact key l ha
 cases e:lexLt a b with
 | true=>exact (yB (by have:=strict ha e;omega)).symm
 | false =>
  refine (yA ?_).symm
  cases e2:lexLt b a with
  | true=>have:=mono e2;omega
  | false=>rw[jb e e2];omega
section
variable {prog:Program}{w:World}{A:Around}{E:Value->Shared->Prop}{s:Shared}
theorem mr{Q:Bool->Shared->Prop}:∀ {us ws:List Value}{ns ms:List Int}(i:Nat),IntsAre us ns->IntsAre ws ms->Q (lexLt ns ms) s->W.KatLex prog w A true (decide (ns.length < ms.length)) Q (us.zip ws) i s
 | [],[],_,_,i,.nil,.nil,h=>h
 | [],_::_,_,_,i,.nil,.cons _ _ _,h=>by
  show Q (decide (0 < _+1)) s
  rw[yB (Nat.succ_pos _)]
  exact h
 | _::_,[],_,_,i,.cons _ _ _,.nil,h=>by
  show Q (decide (_+1 < 0)) s
  rw[yA (Nat.not_lt_zero _)]
  exact h
 | _::us,_::ws,_,_,i,.cons n t r1,.cons m u r2,h=>by
  have h:Q (HT.lexLt (n::_) (m::_)) s:=h
  rw[HT.cH] at h
  refine W.kat_cons (SeqAt.EqAt.int_int n t m u prog w _ _ ?_)
  cases e:(n == m) with
  | true =>
   have e':n=m:=eq_of_beq e
   rw[if_pos e'] at h
   refine W.kat_yes ?_
   have:=mr (i+1) r1 r2 h
   simp only[zL,Nat.add_lt_add_iff_right]
   exact this
  | false =>
   have e':¬ n=m:=fun q=>by rw[q] at e;simp at e
   rw[if_neg e'] at h
   refine W.kat_no ?_
   by_cases hi:(true&&i == 0)=true
   ·rw[hi]
    exact oneLt_int h
   ·have hi':(true&&i == 0)=false:=by simpa using hi
    rw[hi']
    refine W.kat_one _ _ (lt_int ?_)
    exact h
end
noncomputable def ag(ns:List Int):D:=.tuple (ns.map PyData.int)
noncomputable def intsOf:List D->Option (List Int)
 | []=>some []
 | .int n::r=>(intsOf r).map (n::·)
 | _::_=>none
theorem bZ:∀ {ds:List D}{ns:List Int},intsOf ds=some ns->ds=ns.map PyData.int
 | [],ns,h=>by cases h;rfl
 | d::r,ns,h=>by
  cases d<;>simp only[intsOf] at h<;>try cases h
  obtain⟨ns',h1,rfl⟩:=ae h
  rw[bZ h1]
  rfl
theorem dv:∀ns:List Int,intsOf (ns.map PyData.int)=some ns
 | []=>rfl
 | n::ns=>by simp[intsOf,dv ns]
noncomputable def vT:D->Option (List Int)|.tuple ds=>(intsOf ds).bind fun ns=>if ns=[] then none else some ns|_=>none
theorem ud{d:D}{ns:List Int}(h:vT d=some ns):d=ag ns/\ns≠[]:=by
 cases d<;>try cases h
 obtain⟨ms,h1,h2⟩:=bs h
 split at h2
 ·cases h2
 ·rename_i hn
  cases h2
  rw[bZ h1]
  exact⟨rfl,hn⟩
theorem xH{ns:List Int}(h:ns≠[]):vT (ag ns)=some ns:=by
 unfold ag vT
 simp only[dv,zA]
 rw[if_neg h]
noncomputable def rowsOf:List D->Option (List (List Int))
 | []=>some []
 | d::r=>(vT d).bind fun ns=>(rowsOf r).map (ns::·)
theorem iF:∀ {ds:List D}{nss:List (List Int)},rowsOf ds=some nss->ds=nss.map ag/\∀ns∈nss,ns≠[]
 | [],nss,h=>by cases h;exact⟨rfl,fun _ z=>by cases z⟩
 | d::r,nss,h=>by
  obtain⟨ns,h1,h⟩:=bs h
  obtain⟨rest,h2,rfl⟩:=ae h
  obtain⟨e,hn⟩:=ud h1
  obtain⟨e2,hn2⟩:=iF h2
  refine⟨by rw[e,e2];rfl,fun m hm=>?_⟩
  rcases zR.mp hm with q|q
  ·subst q;exact hn
  ·exact hn2 m q
theorem mT:∀ {nss:List (List Int)},(∀ns∈nss,ns≠[])->rowsOf (nss.map ag)=some nss
 | [],_=>rfl
 | ns::r,h=>by
  simp only[zI,rowsOf,xH (h ns zE),zA,mT fun m hm=>h m (zC _ hm),zB]
structure rQ(h:Heap)(v:Value)(ns:List Int):Prop where
 ex:∃ (a:Addr) (o:Obj) (its:Array Value) (n:Nat),v=.ref a/\h.get? a=some o/\o.cls=.type "tuple"/\o.data=.seq its n/\IntsAre its.toList ns
theorem rQ.keep{h h':Heap}{v:Value}{ns:List Int}(r:rQ h v ns)(k:∀b o,h.get? b=some o->h'.get? b=some o):rQ h' v ns:=let ⟨a,o,its,n,e,e1,e2,e3,e4⟩:=r.ex;⟨a,o,its,n,e,k _ _ e1,e2,e3,e4⟩
section
variable {prog:Program}{w:World}{A:Around}{E:Value->Shared->Prop}{s:Shared}
theorem mM{h:Heap}:∀ {vs:List Value}{nss:List (List Int)},Paired (rQ h) vs nss->(∀ns∈nss,ns≠[])->∃fs:List Value,W.KatTups h vs fs/\fs.length=vs.length/\∀f∈fs,∃n t,f=Value.int n t
 | _,_,.nil,_=>⟨[],trivial,rfl,fun _ z=>by cases z⟩
 | _,_,.cons (a:=v) (b:=ns) r p,hn=>by
  obtain⟨fs,h1,h2,h3⟩:=mM p fun m hm=>hn m (zC _ hm)
  obtain⟨a,o,its,n,rfl,e1,e2,e3,e4⟩:=r.ex
  cases hits:its.toList with
  | nil =>
   rw[hits] at e4
   cases e4
   exact absurd rfl (hn [] zE)
  | cons f rest =>
   rw[hits] at e4
   cases e4 with
   | cons m t e5 =>
    have h0:its[0]?=some (.int m t):=by
     have:its.toList[0]?=some (Value.int m t):=by rw[hits];rfl
     simpa using this
    exact⟨.int m t::fs,W.KatTups.cons e1 e2 e3 h0 h1,by simp[h2],fun g hg=>by
     rcases zR.mp hg with q|q
     ·exact⟨m,t,q⟩
     ·exact h3 g q⟩
theorem eF{α β:Type}{R:α->β->Prop}{d:α}{d':β}:∀ {l:List α}{m:List β}{i:Nat},Paired R l m->i < l.length->R (l.getD i d) (m.getD i d')
 | _,_,i,.nil,h=>by simp at h
 | _,_,0,.cons r _,_=>r
 | _,_,i+1,.cons _ p,h=>by simpa using eF (i:=i) (d:=d) (d':=d') p (by simpa using h)
theorem rF{l:Addr}{vs:List Value}{nss:List (List Int)}{Q:Value->Shared->Prop}(hl:Srt.Coll s.heap l vs)(hp:Paired (rQ s.heap) vs nss)(hn:∀ns∈nss,ns≠[])(h64:vs.length < 64)
  (h:∀ (h':Heap) (D:Addr) (c:Nat),(∀b o,s.heap.get? b=some o->h'.get? b=some o)->s.heap.objs.size<=D->h'.get? D=some (seqObj "list" (Srt.outV (fun i=>rk nss (nss.getD i [])) vs).toArray c)->Q (.ref D) { s with heap:=h' }) :
  wpAny (model prog w) A (call (.builtin "sorted") [.ref l]) Q E s:=by
 refine Srt.sortedG hl h64 (fun i=>rk nss (nss.getD i [])) (tuples' true) (fun h2 h' kp Q' q=>?_) (fun h2 h' kp i j C hi hj q=>?_) h
 ·have hp':Paired (rQ h') vs nss:=Paired.mapP hp fun _ _ r=>r.keep kp
  obtain⟨fs,t,hlen,hf⟩:=mM hp' hn
  refine W.kat_kind (s:={ s with heap:=h' }) (T:=.type "int") t (by omega) (fun v hv=>?_) (by decide) q
  obtain⟨n,t,rfl⟩:=hf v hv
  exact W.Looks.of_pure rfl
 ·have ri:=(eF (d:=Value.none) (d':=[]) hp hi).keep kp
  have rj:=(eF (d:=Value.none) (d':=[]) hp hj).keep kp
  have hlen:=hp.length
  obtain⟨a,o,its,n,ea,e1,e2,e3,e4⟩:=ri.ex
  obtain⟨b,o',its',n',eb,f1,f2,f3,f4⟩:=rj.ex
  unfold W.kas_ask
  rw[ea,eb]
  have hmem:nss.getD i []∈nss:=by
   rw[zG,zK (by omega)]
   exact List.getElem_mem _
  have q':C (lexLt (nss.getD i []) (nss.getD j [])) { s with heap:=h' }:=by
   rw[yW hmem]
   exact q
  refine W.kat_lt (s:={ s with heap:=h' }) e1 e3 f1 f3 ?_
  have:=mr (prog:=prog) (w:=w) (A:=A.in1.in1) (s:={ s with heap:=h' }) 0 e4 f4 q'
  have l1:its.size=(nss.getD i []).length:=by have:=IntsAre.length e4;simpa using this
  have l2:its'.size=(nss.getD j []).length:=by have:=IntsAre.length f4;simpa using this
  rw[l1,l2]
  exact this
end
noncomputable def pb{α:Type}(z:Nat->Int)(l:List α)(d:α):List α:=if l.length < 2 then l else (SP.run (SP.dk z) (W.kas_sort l.length)).toList.map fun i=>l.getD i d
theorem eK{α:Type}(l:List α)(d:α):(List.range l.length).map (fun i=>l.getD i d)=l:=by
 apply List.ext_getElem
 ·simp
 ·intro i h1 h2
  simp[h2]
theorem iu{α:Type}(z:Nat->Int)(l:List α)(d:α):(pb z l d).Perm l:=by
 unfold pb
 split
 ·exact List.Perm.refl _
 ·rename_i h
  have:=((SP.g8 (z:=z) (n:=l.length) (by omega)).1).map fun i=>l.getD i d
  rw[eK] at this
  exact this
theorem C3(nss:List (List Int)):pb (fun i=>rk nss (nss.getD i [])) nss []=nL nss:=by
 refine Bt (iu _ _ _) ?_
 unfold pb
 split
 ·rename_i h
  match nss,h with
  | [],_=>exact List.Pairwise.nil
  | [a],_=>exact List.pairwise_singleton _ _
 ·rename_i h
  obtain⟨hp,hs⟩:=SP.g8 (z:=fun i=>rk nss (nss.getD i [])) (n:=nss.length) (by omega)
  rw[List.pairwise_map] at hs ⊢
  refine hs.imp_of_mem fun {i j} hi hj hij=>?_
  have hj':j < nss.length:=by have:=hp.mem_iff.mp hj;simpa using this
  unfold lexLe
  rw[yW (l:=nss) (a:=nss.getD j []) (by rw[zG,zK hj'];exact List.getElem_mem _)]
  simp only[Bool.not_eq_true',decide_eq_false_iff_not]
  omega
section
variable {X:Cx}
theorem m5{K:W.Frag}{HF:Hp}{ds:List D}{vs:List V}(z:Nat->Int)(r:aj K HF ds vs):aj K HF (pb z ds .none) (pb z vs .non):=by
 unfold pb
 rw[r.length]
 split
 ·exact r
 ·rename_i h
  obtain⟨hp,_⟩:=SP.g8 (z:=z) (n:=ds.length) (by omega)
  have key:∀l:List Nat,(∀i∈l,i < ds.length)->aj K HF (l.map fun i=>ds.getD i .none) (l.map fun i=>vs.getD i .non):=fun l=>by
   induction l with
   | nil=>exact fun _=>aj.nil
   | cons i l ih =>
    intro hl
    have hi:=hl i zE
    obtain⟨v,e1,e2⟩:=r.getD (zK hi)
    refine aj.cons ?_ (ih fun j hj=>hl j (zC _ hj))
    dsimp only
    rw[zG,zG,e1,zK hi]
    exact e2
  exact key _ fun i hi=>by have:=hp.mem_iff.mp hi;simpa using this
theorem mE{vs:List V}{us:List Value}(z:Nat->Int)(r:ax vs us):ax (pb z vs .non) (Srt.outV z us):=by
 unfold pb Srt.outV
 rw[r.length]
 split
 ·exact r
 ·rename_i h
  obtain⟨hp,_⟩:=SP.g8 (z:=z) (n:=us.length) (by omega)
  have key:∀l:List Nat,(∀i∈l,i < vs.length)->ax (l.map fun i=>vs.getD i .non) (l.map fun i=>us.getD i Value.none):=fun l=>by
   induction l with
   | nil=>exact fun _=>.nil
   | cons i l ih =>
    intro hl
    have hi:=hl i zE
    obtain⟨v,e1,e2⟩:=r.get (zK hi)
    refine .cons ?_ (ih fun j hj=>hl j (zC _ hj))
    dsimp only
    rw[zG,zG,e1,zK hi]
    exact e2
  exact key _ fun i hi=>by have:=hp.mem_iff.mp hi;rw[r.length];simpa using this
theorem C5(z:Nat->Int)(nss:List (List Int)):pb z (nss.map ag) .none=(pb z nss []).map ag:=by
 unfold pb
 rw[zD]
 split
 ·rfl
 ·rename_i h
  rw[zM]
  obtain⟨hp,_⟩:=SP.g8 (z:=z) (n:=nss.length) (by omega)
  refine yJ fun i hi=>?_
  have hi':i < nss.length:=by have:=hp.mem_iff.mp hi;simpa using this
  simp[hi']
theorem j1{pins:List (Addr×Obj)}{σ:L2.St}{H HF:Hp}{s:Shared}(I:Inv X pins σ H s)(sm:aH HF H):∀ {nss:List (List Int)}{vs:List V}{us:List Value},aj X.K HF (nss.map ag) vs->ax vs us->Paired (rQ s.heap) us nss
 | [],_,_,h,r=>by rw[h.nil_inv] at r;cases r;exact .nil
 | ns::nss,_,_,h,r=>by
  obtain⟨v,vr,rfl,a,b⟩:=h.cons_inv
  cases r with
  | cons r rr =>
   refine .cons ?_ (j1 I sm b rr)
   unfold ag at a
   simp only[Rep] at a
   obtain⟨p,ws,rfl,hs,rw'⟩:=a
   cases r
   obtain⟨its,rv,⟨o,ho,hc,n,hd⟩,_⟩:=I.tuple (au sm hs)
   have:ws=ns.map V.int:=by
    have key:∀ {ns:List Int}{ws:List V},aj X.K HF (ns.map PyData.int) ws->ws=ns.map V.int:=fun {ns}=>by
     induction ns with
     | nil=>exact fun h=>h.nil_inv
     | cons n ns ih =>
      intro ws h
      obtain⟨v,r,rfl,a,b⟩:=h.cons_inv
      simp only[Rep] at a
      rw[a,ih b]
      rfl
    exact key rw'
   subst this
   exact⟨p,o,its.toArray,n,rfl,ho,hc,hd,intsAre_of rv⟩
theorem kN:cO X (.builtin "sorted") (fun xs H Q=>∃ (HF:Hp) (a:Addr) (vs:List V) (nss:List (List Int)),xs=[.ref a]/\aH HF H/\(fj X.K HF a vs\/fP X.K HF a vs)/\aj X.K HF (nss.map ag) vs/\(∀ns∈nss,ns≠[])/\nss.length < 64 /\
  ∀ (Dn:Addr) (us:List V),H Dn=none->aj X.K HF ((nL nss).map ag) us->Q (.ref Dn) (upd H Dn (.lst us))):=by
 intro pins s σ H xs us Q I r h
 obtain⟨HF,a,vs,nss,rfl,sm,hq,rr,hn,h64,q⟩:=h
 obtain⟨u,rfl,rx⟩:=vals1 r
 cases rx
 obtain⟨its,rv,pl,hz⟩:∃its:List Value,ax vs its/\Srt.Coll s.heap a its/\vs.length<=sizeLine:=by
  rcases hq with hq|hq
  ·obtain⟨its,rv,pl,hz⟩:=I.list (sm.seq hq)
   obtain⟨o,ho,hc,n,hd⟩:=pl.isList
   exact⟨its,rv,⟨o,"list",n,.inl rfl,ho,hc,hd⟩,hz⟩
  ·obtain⟨its,rv,pl,hz⟩:=I.tuple (au sm hq)
   obtain⟨o,ho,hc,n,hd⟩:=(show s.heap.IsTuple a its.toArray from pl)
   exact⟨its,rv,⟨o,"tuple",n,.inr rfl,ho,hc,hd⟩,hz⟩
 have hl1:=rr.length
 rw[zD] at hl1
 refine rF pl (j1 I sm rr rv) hn (by have:=rv.length;omega) fun h' Dn c kp hD e=>?_
 have hv:=mE (fun i=>rk nss (nss.getD i [])) rv
 have hr:=m5 (fun i=>rk nss (nss.getD i [])) rr
 rw[C5,C3] at hr
 refine⟨.ref Dn,_,I.laid (t':=s.toks) (o:=.lst (pb (fun i=>rk nss (nss.getD i [])) vs .non)) kp hD ⟨?_,_,c,hv,e⟩,rfl,q Dn _ (I.hok.fresh hD) hr⟩
 rw[(iu _ _ _).length_eq]
 exact hz
noncomputable def eW:List D->Option (List D):=fun ds=>(oneOf ds).bind fun d=>match d with
 | .list es=>(rowsOf es).bind fun nss=>if nss.length < 64 then some ((nL nss).map ag) else none
 | .tuple es=>(rowsOf es).bind fun nss=>if nss.length < 64 then some ((nL nss).map ag) else none
 | _=>none
variable {e:Expr}{fs:Env->Option (List D)}{p pos:Pos}
theorem xx(B:jj X "sorted" (.builtin "sorted"))(ha:DA X [e] fs)(he:starEach [e] X.env=(false,eval e X.env)::starEach [] X.env:=by rfl):DF X (.Call (.Name "sorted" p) [e] [] pos) (kL eW fs) :=
 yl kN (by
  intro HF H ds vs d Q sm r hg q
  obtain⟨x,hx,hg⟩:=bs hg
  rw[eH hx] at r
  have key:∀ (b:Bool) (es:List D),aj X.K HF [if b then .tuple es else .list es] vs->((rowsOf es).bind fun nss=>if nss.length < 64 then some ((nL nss).map ag) else none)=some d->(∃ (HF:Hp) (a:Addr) (us:List V) (nss:List (List Int)),vs=[.ref a]/\aH HF H/\(fj X.K HF a us\/fP X.K HF a us)/\aj X.K HF (nss.map ag) us/\(∀ns∈nss,ns≠[])/\nss.length < 64/\∀ (Dn:Addr) (ws:List V),H Dn=none->aj X.K HF ((nL nss).map ag) ws->Q (.ref Dn) (upd H Dn (.lst ws))):=fun b es r hg=>by
   obtain⟨nss,hb,hg⟩:=bs hg
   split at hg
   ·rename_i h64
    cases hg
    obtain⟨v,r',rfl,a,e0⟩:=r.cons_inv
    rw[e0.nil_inv]
    obtain⟨e1,e2⟩:=iF hb
    obtain⟨p,us,rfl,h,rr⟩:∃p us,v=.ref p/\(fj X.K HF p us\/fP X.K HF p us)/\aj X.K HF es us:=by
     cases b
     ·simp only[Bool.false_eq_true,if_false,Rep] at a
      obtain⟨p,us,rfl,h,rr⟩:=a
      exact⟨p,us,rfl,.inl h,rr⟩
     ·simp only[if_true,Rep] at a
      obtain⟨p,us,rfl,h,rr⟩:=a
      exact⟨p,us,rfl,.inr h,rr⟩
    rw[e1] at rr
    exact⟨HF,p,us,nss,rfl,sm,h,rr,e2,h64,fun Dn ws hD hr=>q Dn ws _ HF (.own sm hD) hD (sm.free hD) aw hr⟩
   ·cases hg
  cases x<;>try cases hg
  ·exact key false _ r hg
  ·exact key true _ r hg) B ha (by decide) (by decide) he rfl
end
end Dl
namespace En
open PySem PyProof.Rows
open AutoSeq1 (wpAny_loadPart')
section
variable {prog:Program}{w:World}{A:Around}{E:Value->Shared->Prop}{s:Shared}
theorem nextT_item{j t:Addr}{k:Nat}{its:Array Value}{v:Value}{Q:Value->Shared->Prop}(hj:s.heap.IsTupleIter j t k)(ht:s.heap.IsTuple t its)(hv:its[k]?=some v)
  (hQ:∀g,g.IsTupleIter j t (k+1)->Heap.SameBut j s.heap g->Q v { s with heap:=g }):wpAny (model prog w) A (Builtin.SmallTypes.nextOf (.ref j)) Q E s:=by
 obtain⟨oj,gj,cj,dj⟩:=id hj
 obtain⟨ot,gt,_,nt,dt⟩:=ht
 unfold Builtin.SmallTypes.nextOf
 refine zW (wpAny_callSpecial?_slot (name:=Str.ofString "__next__") hj.typeIs F.slot_tuple_iterator_next (wpAny_call_entry F.slot_tuple_iterator_next hj.typeIs F.entry_tuple_iterator_next ?_ (F.args_tuple_iterator_next_1 _)))
 refine zW (m:=field (.ref j) 0) (wpAny_field gj dj (x:=.ref t) rfl ?_)
 show wpAny _ _ (if (Value.ref t == Value.none)=true then _ else _) _ _ s
 rw[if_neg (show ¬ ((Value.ref t == Value.none)=true) by exact Bool.false_ne_true)]
 refine zW (m:=field (.ref j) 1) (wpAny_field gj dj (x:=.int k 0) rfl ?_)
 refine zW (m:=seqItems? (.ref t)) (wpAny_seqItems gt dt ?_)
 simp only[yH,hv]
 refine zW (wpAny_setField gj dj (by simp) (zX ⟨v,rfl,zX (hQ _ ⟨_,Heap.get?_update_self _ gj (Obj.isFreed_of_fields (Obj.data_mapFields dj _)),(Obj.cls_mapFields ..).trans cj,?_⟩ (Heap.SameBut.update ..))⟩))
 rw[Obj.data_mapFields dj];simp[rawInt]
theorem nextT_end{j t:Addr}{k:Nat}{its:Array Value}{Q:Value->Shared->Prop}(hh:A.handled=none)(hj:s.heap.IsTupleIter j t k)(ht:s.heap.IsTuple t its)(hv:its[k]?=none)
  (hE:∀g x,Heap.ExtBut j s.heap g->(∃o,g.get? x=some o/\o.cls=.type "StopIteration")->E (.ref x) { s with heap:=g }):wpAny (model prog w) A (Builtin.SmallTypes.nextOf (.ref j)) Q E s:=by
 obtain⟨oj,gj,cj,dj⟩:=id hj
 obtain⟨ot,gt,_,nt,dt⟩:=ht
 unfold Builtin.SmallTypes.nextOf
 refine zW (wpAny_callSpecial?_slot (name:=Str.ofString "__next__") hj.typeIs F.slot_tuple_iterator_next (wpAny_call_entry F.slot_tuple_iterator_next hj.typeIs F.entry_tuple_iterator_next ?_ (F.args_tuple_iterator_next_1 _)))
 refine zW (m:=field (.ref j) 0) (wpAny_field gj dj (x:=.ref t) rfl ?_)
 show wpAny _ _ (if (Value.ref t == Value.none)=true then _ else _) _ _ s
 rw[if_neg (show ¬ ((Value.ref t == Value.none)=true) by exact Bool.false_ne_true)]
 refine zW (m:=field (.ref j) 1) (wpAny_field gj dj (x:=.int k 0) rfl ?_)
 refine zW (m:=seqItems? (.ref t)) (wpAny_seqItems gt dt ?_)
 simp only[yH,hv]
 refine zW (wpAny_rule (zW (wpAny_setField gj dj (by simp) (zW (m:=newExc (.type "StopIteration") []) ?_))))
 simp only[newExc,newTuple]
 refine zW (wpAny_newObj_type (zW (m:=firstArgMember _ _) (wpAny_of_eq (a:=Value.none) (by first|rfl|(simp only[firstArgMember];rfl)) ?_)) (by size_fits))
 refine wpAny_newObj_type ?_ (by size_fits);simp only[raiseNew]
 refine zW (wpAny_handled ?_)
 first|rw[show A.in1.handled=none from hh]|rw[hh]
 exact zW (zX (wpAny_throw (hE _ _ (((Heap.SameBut.update ..).extBut.push _).push _) ⟨_,zY _ rfl,rfl⟩)))
theorem meets_enumT(t:Addr)(its:Array Value)(n:Nat)(dd:Option Addr)(sl:Array (Option Value)) :
  Meets (Builtin.«enumerate.__new__» ⟨[.type "enumerate",.ref t],[]⟩) (fun _ R s=>s.heap.get? t=some { cls:=.type "tuple",dict:=dd,data:=.seq its n,slots:=sl } /\
   R (.ok (.ret (.ref (s.heap.push { cls:=.type "tuple_iterator",data:=.fields #[.ref t,.int 0 0] }).objs.size)))
    { s with heap:=(s.heap.push { cls:=.type "tuple_iterator",data:=.fields #[.ref t,.int 0 0] }).push { cls:=.type "enumerate",data:=.fields #[.none,.bool false,.ref s.heap.objs.size,rawInt 0,.none,.none] } }) :=
 .of_wp fun prog w A R s h=>by
  obtain⟨hp,g,d,tk,os⟩:=s
  obtain⟨hl,h⟩:=h
  have hsub:=sub_enumerate
  have hL:Heap.IsTuple (Shared.heap ⟨hp,g,d,tk,os⟩) t its:=⟨_,hl,rfl,n,rfl⟩
  wp_walk using wpAny_loadPart' hl
  refine wpAny_stack_any fun st=>zX ?_
  split
  ·rename_i c _ _ _ _ _
   cases (c == Value.type "enumerate")
   ·wp_walk using wpAny_loadPart' hl,wpAny_pyIter_tuple hL
    exact⟨_,rfl,h⟩
   ·wp_walk using wpAny_loadPart' hl,wpAny_pyIter_tuple hL
    exact⟨_,rfl,h⟩
  ·wp_walk using wpAny_loadPart' hl,wpAny_pyIter_tuple hL
   exact⟨_,rfl,h⟩
theorem call_enumT{t:Addr}{its:Array Value}{Q:Value->Shared->Prop}(ht:s.heap.IsTuple t its)
  (h:∀h',IsEnum h' (s.heap.objs.size+1) s.heap.objs.size 0 .none->h'.IsTupleIter s.heap.objs.size t 0->h'.objs.size=s.heap.objs.size+2->(∀b o,s.heap.get? b=some o->h'.get? b=some o)->Q (.ref (s.heap.objs.size+1)) { s with heap:=h' }) :
  wpAny (model prog w) A (call (.type "enumerate") [.ref t]) Q E s:=by
 obtain⟨⟨c,dct,dt,sl⟩,hl,hc,n,hd⟩:=ht
 simp only at hc hd
 subst hc hd
 refine callType_new F.called_enumerate (by decide) (F.typeCall_enumerate_1 _) (F.newCall_enumerate_1 _) (fun obj=>F.args_object_init_2 obj _) F.entry_enumerate_new (meets_enumT t its n dct sl) ⟨hl,?_⟩
 have hz:(s.heap.push { cls:=.type "tuple_iterator",data:=.fields #[.ref t,.int 0 0] }).objs.size=s.heap.objs.size+1:=by rw[Heap.size_push]
 have he:=zY (s.heap.push { cls:=.type "tuple_iterator",data:=.fields #[.ref t,.int 0 0] }) (o:={ cls:=.type "enumerate",data:=.fields #[.none,.bool false,.ref s.heap.objs.size,rawInt 0,.none,.none] }) rfl
 show _/\_
 rw[hz] at he ⊢
 refine⟨⟨_,he,rfl⟩,h _ he ⟨_,zV _ (zY _ rfl),rfl,rfl⟩ ?_ fun b o x=>zV _ (zV _ x)⟩
 show (Heap.push _ _).objs.size=_
 rw[Heap.size_push,hz]
end
end En
namespace Dl
open PySem L2 PySem.Spec PyProof.Rows
section
variable {X:Cx}{pins:List (Addr×Obj)}{σ:L2.St}{H:Hp}{s:Shared}{h':Heap}{t':Nat}{ch:List Addr}
theorem sV(I:Inv X pins σ H s)(hch:∀b∈ch,bI X pins H b)(k:∀b o,b∉ch->s.heap.get? b=some o->h'.get? b=some o){T:Addr}{vals:List Value}{xs:List V}(hT:s.heap.objs.size<=T)(ht:kF h' T vals.toArray)
  (rv:ax xs vals) (hz:xs.length<=sizeLine):Inv X pins σ (upd H T (.tup xs)) { s with heap:=h',toks:=t' }:=by
 have nT:H T=none:=I.hok.fresh hT
 have ne:∀b o,s.heap.get? b=some o->b≠T:=fun b o e=>Nat.ne_of_lt (zP (zZ e) hT)
 have ne2:∀b o,H b=some o->b≠T:=fun b o e=>aC e nT
 have nch:∀b o,H b=some o->b∉ch:=fun b o e z=>by rw[(hch b z).1] at e;cases e
 refine I.step (g':=s.gens) (d':=s.drawn) (ch:=ch) (fun b hb=>?_) (fun b o _ _ hc e _=>k b o hc e) (fun b o _ _ hc e _=>⟨o.slots,k b o hc e⟩) (fun b o _ e n=>by rw[av (ne b o e)];exact n)
  (fun b o hc e=>⟨o,k b o hc e⟩) (fun b ys e=>by rw[av (ne2 b _ e)];exact e) (fun b o u e=>by rw[av (ne2 b _ e)];exact e) (.kept (fun b u ⟨q,z⟩ e=>k b u (nch b _ z) e) fun b u e _=>by rw[av (ne2 b _ e)];exact e) (fun m hm=>?_) (fun b u e=>?_) I.bare
 ·obtain⟨f0,f1,f2,f3,f4,f5⟩:=hch b hb
  exact⟨f3,f1,f4,f5⟩
 ·obtain⟨o,es,ep,ho,r⟩:=hm
  exact⟨o,es,ep,k _ o (fun z=>(hch _ z).2.1 rfl) ho,r⟩
 ·by_cases hb:b=T
  ·subst hb
   rw[aw] at e
   cases e
   exact⟨hz,vals,rv,ht⟩
  ·rw[av hb] at e
   refine (I.hok b u e).stay (fun c v hc q=>k c v ?_ q) (fun _ q=>?_) fun c v q _=>?_
   ·rcases hc with z|z
    ·rw[z];exact nch b u e
    ·exact nch c _ z
   all_goals first
    | (rw[av (ne2 _ _ q)];exact q)
    | exact q
theorem G8(I:Inv X pins σ H s){a b:Addr}{o:Obj}(hf:bI X pins H b)(h:X.K.lookup a=some o):a≠b:=by
 rintro rfl
 have hb:=I.ok.mod.kin a o h
 rcases hf.2.2.2.1 with z|z
 ·exact I.ok.noex a o hb z
 ·exact absurd (zP (zZ (I.ok.bs a o hb).1) z) (Nat.lt_irrefl _)
theorem Fn(I:Inv X pins σ H s){a b:Addr}{xs:List V}(hf:bI X pins H b)(h:fj X.K H a xs):a≠b:=by
 rcases h with (h|⟨o,h⟩)|⟨o,its,n,h,_⟩
 ·exact aC h hf.1
 ·exact aC h hf.1
 ·exact G8 I hf h
theorem Fx(I:Inv X pins σ H s){a b:Addr}{xs:List V}(hf:bI X pins H b)(h:fP X.K H a xs):a≠b:=by
 rcases h with (h|⟨o,h⟩)|⟨o,its,n,h,_⟩
 ·exact aC h hf.1
 ·exact aC h hf.1
 ·exact G8 I hf h
end
noncomputable def II(sq:Hp->List V->Prop):It:=⟨fun i H=>∃xs x,sq H xs/\xs[i]?=some x,fun i H v H'=>∃T y,v=.ref T/\H T=none/\H'=upd H T (.tup [.int (i:Nat),y])/\∀xs,sq H xs->xs[i]?=some y,fun i H=>∃xs,sq H xs/\xs.length<=i⟩
noncomputable def aI(k:Nat):List D->List D
 | []=>[]
 | d::ds=>.tuple [.int (k:Nat),d]::aI (k+1) ds
theorem kW:∀ {ds:List D}{k i:Nat}{d:D},(aI k ds)[i]?=some d->∃x,ds[i]?=some x/\d=.tuple [.int ((k+i:Nat):Int),x]
 | [],k,i,d,h=>by simp[aI] at h
 | x::ds,k,0,d,h=>by simp[aI] at h;exact⟨x,rfl,h.symm⟩
 | x::ds,k,i+1,d,h=>by
  simp only[aI,List.getElem?_cons_succ] at h
  obtain⟨y,h1,h2⟩:=kW h
  refine⟨y,by simpa using h1,?_⟩
  rw[h2,show k+1+i=k+(i+1) by omega]
theorem f9:∀ (ds:List D) (k:Nat),(aI k ds).length=ds.length
 | [],k=>rfl
 | x::ds,k=>by simp[aI,f9 ds (k+1)]
theorem xc{K:W.Frag}{HF:Hp}{sq:Hp->List V->Prop}{ds:List D}{vs:List V}(h:sq HF vs)(mo:∀H H',aH H H'->sq H vs->sq H' vs)(r:aj K HF ds vs):mS K (II sq) HF (aI 0 ds) where
 go:=fun i d H₁ HF₁ e s1 s2=>by
  obtain⟨x,hx,rfl⟩:=kW e
  rw[Nat.zero_add]
  obtain⟨v,hv,rv⟩:=r.getD hx
  have q:=mo _ _ s2 (mo _ _ s1 h)
  refine⟨⟨vs,v,q,hv⟩,fun y H₂ ⟨T,z,e1,hT,e2,hy⟩=>?_⟩
  have:=hy vs q
  rw[hv] at this
  cases this
  subst e1 e2
  exact⟨_,.new s2 hT,bx (s2.free hT) (aj.cons (by simp[Rep]) (aj.cons (rv.mono s1) aj.nil))⟩
 stop:=fun H₁ HF₁ s1 s2=>⟨vs,mo _ _ s2 (mo _ _ s1 h),by rw[f9,r.length];exact Nat.le_refl _⟩
noncomputable def Jd(sq1 sq2:Hp->List V->Prop):It:=⟨fun i H=>∃xs ys x y,sq1 H xs/\sq2 H ys/\xs[i]?=some x/\ys[i]?=some y,
 fun i H v H'=>∃T x y,v=.ref T/\H T=none/\H'=upd H T (.tup [x,y])/\(∀xs,sq1 H xs->xs[i]?=some x)/\∀ys,sq2 H ys->ys[i]?=some y,
 fun i H=>∃xs ys,sq1 H xs/\sq2 H ys/\(xs.length<=i\/ys.length<=i)⟩
section
variable {X:Cx}{pins:List (Addr×Obj)}{σ:L2.St}{H:Hp}{s:Shared}{h':Heap}{t':Nat}{ch:List Addr}
theorem kY(I:Inv X pins σ H s)(hch:∀b∈ch,bI X pins H b)(k:∀b o,b∉ch->s.heap.get? b=some o->h'.get? b=some o):Inv X pins σ H { s with heap:=h',toks:=t' }:=by
 have nch:∀b o,H b=some o->b∉ch:=fun b o e z=>by rw[(hch b z).1] at e;cases e
 refine I.step (g':=s.gens) (d':=s.drawn) (ch:=ch) (fun b hb=>?_) (fun b o _ _ hc e _=>k b o hc e) (fun b o _ _ hc e _=>⟨o.slots,k b o hc e⟩) (fun b o _ e n=>n)
  (fun b o hc e=>⟨o,k b o hc e⟩) (fun b ys e=>e) (fun b o u e=>e) (.kept (fun b u ⟨q,z⟩ e=>k b u (nch b _ z) e) fun b u e _=>e) (fun m hm=>?_) (fun b u e=>?_) I.bare
 ·obtain⟨f0,f1,f2,f3,f4,f5⟩:=hch b hb
  exact⟨f3,f1,f4,f5⟩
 ·obtain⟨o,es,ep,ho,r⟩:=hm
  exact⟨o,es,ep,k _ o (fun z=>(hch _ z).2.1 rfl) ho,r⟩
 ·refine (I.hok b u e).stay (fun c v hc q=>k c v ?_ q) (fun _ q=>q) fun c v q _=>q
  rcases hc with z|z
  ·rw[z];exact nch b u e
  ·exact nch c _ z
end
structure JT(z TI TO i1 i2:Addr):Prop where
 a1:TI≠z
 a2:TO≠z
 a3:i1≠z
 a4:i2≠z
 a5:TI≠TO
 a6:TI≠i1
 a7:TI≠i2
 a8:TO≠i1
 a9:TO≠i2
 a0:i1≠i2
section
variable {X:Cx}{l l':Expr}{fs:Env->Option (List D)}{elts:List Expr}{k:Nat}{pos p tp:Pos}
noncomputable def gR:List D->List D->List D
 | x::xs,y::ys=>.tuple [x,y]::gR xs ys
 | _,_=>[]
theorem nu:∀ {xs ys:List D}{i:Nat}{d:D},(gR xs ys)[i]?=some d->∃x y,xs[i]?=some x/\ys[i]?=some y/\d=.tuple [x,y]
 | [],_,i,d,h=>by simp[gR] at h
 | _::_,[],i,d,h=>by simp[gR] at h
 | x::xs,y::ys,0,d,h=>by simp[gR] at h;exact⟨x,y,rfl,rfl,h.symm⟩
 | x::xs,y::ys,i+1,d,h=>by
  simp only[gR,List.getElem?_cons_succ] at h
  obtain⟨a,b,h1,h2,h3⟩:=nu h
  exact⟨a,b,by simpa using h1,by simpa using h2,h3⟩
theorem mU:∀ (xs ys:List D),(gR xs ys).length=min xs.length ys.length
 | [],_=>by simp[gR]
 | _::_,[]=>by simp[gR]
 | x::xs,y::ys=>by simp[gR,mU xs ys]
theorem Be{K:W.Frag}{HF:Hp}{sq1 sq2:Hp->List V->Prop}{xs ys:List D}{vs us:List V}(h1:sq1 HF vs)(mo1:∀H H',aH H H'->sq1 H vs->sq1 H' vs)(h2:sq2 HF us)(mo2:∀H H',aH H H'->sq2 H us->sq2 H' us)(r1:aj K HF xs vs)(r2:aj K HF ys us) :
  mS K (Jd sq1 sq2) HF (gR xs ys) where
 go:=fun i d H₁ HF₁ e s1 s2=>by
  obtain⟨x,y,hx,hy,rfl⟩:=nu e
  obtain⟨v,hv,rv⟩:=r1.getD hx
  obtain⟨u,hu,ru⟩:=r2.getD hy
  have q1:=mo1 _ _ s2 (mo1 _ _ s1 h1)
  have q2:=mo2 _ _ s2 (mo2 _ _ s1 h2)
  refine⟨⟨vs,us,v,u,q1,q2,hv,hu⟩,fun w H₂ ⟨T,a,b,e1,hT,e2,ha,hb⟩=>?_⟩
  have ea:=ha vs q1
  have eb:=hb us q2
  rw[hv] at ea
  rw[hu] at eb
  cases ea
  cases eb
  subst e1 e2
  exact⟨_,.new s2 hT,bx (s2.free hT) (aj.cons (rv.mono s1) (aj.cons (ru.mono s1) aj.nil))⟩
 stop:=fun H₁ HF₁ s1 s2=>⟨vs,us,mo1 _ _ s2 (mo1 _ _ s1 h1),mo2 _ _ s2 (mo2 _ _ s1 h2),by rw[mU,r1.length,r2.length];omega⟩
end
noncomputable def cut{α:Type}(xs:List α)(lo hi:Option Int):List α:=(xs.drop (HT.cK xs.length 0 lo)).take (HT.cK xs.length xs.length hi - HT.cK xs.length 0 lo)
theorem BX{α:Type}(xs:List α)(lo hi:Option Int):(cut xs lo hi).length<=xs.length:=by
 unfold cut;rw[List.length_take,List.length_drop];omega
theorem ni{K:W.Frag}{H:Hp}{ds:List D}{vs:List V}(r:aj K H ds vs)(lo hi:Option Int):aj K H (cut ds lo hi) (cut vs lo hi):=by
 unfold cut;rw[r.length];exact (r.drop _).take _
section
variable {X:Cx}
theorem xj{prog:Program}{w:World}{A:Around}{E:Value->Shared->Prop}{s:Shared}{t sl:Addr}{its:Array Value}{vl vu:Value}{lo hi:Option Int}{Q:Value->Shared->Prop}(ht:IsTup s.heap t its)(hs:s.heap.IsSliceOf sl vl vu .none)(pl:IsPart vl lo)(pu:IsPart vu hi)
  (hw:HT.cK its.size 0 lo=0/\HT.cK its.size its.size hi=its.size) (h:Q (.ref t) s):wpAny (model prog w) A (getItem (.ref t) (.ref sl)) Q E s:=by
 obtain⟨os,hos,hcs,hds⟩:=id hs
 have hTs:s.TypeIs (.ref sl) "slice":=⟨os,hos,hcs⟩
 unfold getItem
 try with_reducible refine wpAny_holding ?_
 first|refine zW (zX ?_)|skip
 refine zW (wpAny_sequenceKey ht.typeIs (by decide) (zW (wpAny_callSpecial?_slot (name:=Str.ofString "__getitem__") ht.typeIs PyProof.Rows.slot_tuple_getitem (wpAny_call_entry PyProof.Rows.slot_tuple_getitem ht.typeIs entry_tuple_getitem ?_ (args_tuple_getitem _ _)))))
 refine zW (m:=Builtin.Tuple.tupleItemsOf (.ref t)) (tupleItemsOf_ ht (zW (wpAny_typeOf hTs ?_)))
 rw[if_pos (by decide)]
 refine zW (HT.fQ hs pl pu ?_)
 show wpAny _ _ (if (((HT.cK its.size 0 lo:Nat):Int) == 0&&(1:Int) == 1&&(HT.cK its.size its.size hi - HT.cK its.size 0 lo) == its.size)=true then _ else _) _ _ s
 rw[hw.1,hw.2,if_pos (by simp)]
 unfold Builtin.Tuple.tupleIsExact
 refine zW (zW (wpAny_typeOf ht.typeIs (zX ?_)))
 rw[if_pos (by decide)]
 first
  | exact zW (wpAny_rule (zX ⟨_,rfl,zX h⟩))
  | exact zW (wpAny_rule (zW (zX (zX ⟨_,rfl,zX h⟩))))
noncomputable def Jg(K:W.Frag):V->Option Int->Option Int->Hp->VK->Prop:=fun x lo hi H Q=>∃a xs,x=.ref a/\fP K H a xs/\(cut xs lo hi=xs->Q (.ref a) H)/\∀p,H p=none->Q (.ref p) (upd H p (.tup (cut xs lo hi)))
theorem FX:Ep X (Jg X.K):=by
 intro pins s σ H x v vl vu lo hi sl Q I rx hs pl pu h
 obtain⟨a,xs,rfl,hx,q1,q2⟩:=h
 by_cases hw:HT.cK xs.length 0 lo=0/\HT.cK xs.length xs.length hi=xs.length
 ·cases rx
  obtain⟨its,r,ht,hz⟩:=I.tuple hx
  have hlen:its.toArray.size=xs.length:=by rw[zH];exact r.length.symm
  refine⟨"tuple",_,PyProof.Rows.slot_tuple_getitem.lookup,ht.typeIs,xj ht hs pl pu (by rw[hlen];exact hw) ⟨.ref a,H,I,rfl,q1 ?_⟩⟩
  unfold cut
  rw[hw.1,hw.2,List.drop_zero,Nat.sub_zero,List.take_length]
 ·exact EX pins s σ H (.ref a) v vl vu lo hi sl Q I rx hs pl pu ⟨a,xs,rfl,hx,hw,q2⟩
noncomputable def Jm(K:W.Frag):V->Option Int->Option Int->Hp->VK->Prop:=fun x lo hi H Q=>∃a xs,x=.ref a/\fj K H a xs/\∀p,H p=none->Q (.ref p) (upd H p (.lst (cut xs lo hi)))
theorem tJ(lo hi:Option Int)(n:Nat):sliceBounds lo hi none n=(((HT.cK n 0 lo:Nat):Int),((HT.cK n n hi:Nat):Int),1):=by
 have h1:(1:Int) > 0:=by omega
 refine Prod.ext ?_ (Prod.ext ?_ rfl)
 ·cases lo with
  | none=>simp[sliceBounds,HT.cK]
  | some x =>
   by_cases h:x < 0
   ·simp only[sliceBounds,HT.cK,Option.getD_none,h1,if_true,if_pos h];omega
   ·simp only[sliceBounds,HT.cK,Option.getD_none,h1,if_true,if_neg h];omega
 ·cases hi with
  | none=>simp[sliceBounds,HT.cK]
  | some x =>
   by_cases h:x < 0
   ·simp only[sliceBounds,HT.cK,Option.getD_none,h1,if_true,if_pos h];omega
   ·simp only[sliceBounds,HT.cK,Option.getD_none,h1,if_true,if_neg h];omega
theorem Cw:Ep X (Jm X.K):=by
 intro pins s σ H x v vl vu lo hi sl Q I rx hs pl pu h
 obtain⟨a,xs,rfl,hx,q⟩:=h
 cases rx
 obtain⟨its,r,p,hz⟩:=I.list hx
 have hlen:=r.length
 refine⟨"list",_,slot_list_getitem.lookup,p.isList.typeIs,wpAny_getItem_list_slice p.isList hs pl pu .none (by simp) ?_ (by rw[zH];omega)⟩
 rw[W.kmk_pick_nat its.toArray (tJ lo hi its.toArray.size)]
 have e:((its.toArray.toList.drop (HT.cK its.toArray.size 0 lo)).take (HT.cK its.toArray.size its.toArray.size hi - HT.cK its.toArray.size 0 lo))=cut its lo hi:=by unfold cut;simp
 rw[e]
 have rc:ax (cut xs lo hi) (cut its lo hi):=by unfold cut;rw[hlen];exact (r.drop _).take _
 exact⟨.ref s.heap.objs.size,_,I.lnew (t':=s.toks) rc (yE (BX xs lo hi) hz),rfl,q _ I.fresh⟩
def Ka(K:W.Frag)(f:Env->Option (Option Int)):TO:=fun σ H Q=>∃HF ρ o,aH HF H/\b8 K HF ρ σ/\f ρ=some o/\∀H' HF',bo HF H HF' H'->Q o H'
def DO(X:Cx)(e:Option Expr)(f:Env->Option (Option Int)):Prop:=PO X e (Ka X.K f)
noncomputable def uq:Env->Option (Option Int):=fun _=>some none
noncomputable def gI:D->Option Int|.int i=>some i|_=>none
noncomputable def GE(f:Env->Option D):Env->Option (Option Int):=fun ρ=>(f ρ).bind fun d=>(gI d).map some
theorem Cg:DO X none uq:=fun pins s σ H Q I ⟨HF,ρ,o,sm,eo,hf,q⟩=>Dv pins s σ H Q I (by cases hf;exact q H HF (.refl sm))
theorem Cf{e:Expr}{f:Env->Option D}(h:DE X e f):DO X (some e) (GE f):=fun pins s σ H Q I ⟨HF,ρ,o,sm,eo,hf,q⟩=>lT h pins s σ H Q I (by
 obtain⟨d,hd,hf⟩:=bs hf
 obtain⟨i,hi,rfl⟩:=ae hf
 cases d<;>try cases hi
 exact⟨HF,ρ,_,sm,eo,hd,fun v H1 HF1 g1 r1=>⟨_,by simpa only[Rep] using r1,q H1 HF1 g1⟩⟩)
variable {a:Expr}{lo hi:Option Expr}{fa:Env->Option D}{fl fh:Env->Option (Option Int)}{pos p2:Pos}
noncomputable def uJ{β:Type}(g:D->Option Int->Option Int->Option β)(fa:Env->Option D)(fl fh:Env->Option (Option Int)):Env->Option β:=fun ρ=>(fa ρ).bind fun x=>(fl ρ).bind fun l=>(fh ρ).bind fun h=>g x l h
end
theorem sx{α β:Type}{f g:α->Option β}:∀ {l:List α},(∀x∈l,f x=g x)->l.filterMap f=l.filterMap g
 | [],_=>rfl
 | x::l,h=>by rw[List.filterMap_cons,List.filterMap_cons,h x zE,sx fun y hy=>h y (zC _ hy)]
theorem A3(xs:List Value):((List.range xs.length).filterMap fun (k:Nat)=>xs.toArray[(((xs.length:Nat):Int) - 1+(k:Int) * (-1)).toNat]?)=xs.reverse:=by
 have e:∀k∈List.range xs.length,xs.toArray[(((xs.length:Nat):Int) - 1+(k:Int) * (-1)).toNat]?=xs.reverse[k]?:=fun k hk=>by
  have hk':k < xs.length:=by simpa using hk
  have:(((xs.length:Nat):Int) - 1+(k:Int) * (-1)).toNat=xs.length - 1 - k:=by omega
  rw[this,List.getElem?_toArray,List.getElem?_reverse hk']
 rw[sx e]
 have:=xs.length_reverse
 apply List.ext_getElem?
 intro i
 have key:∀ (l:List Value),(List.range l.length).filterMap (fun (k:Nat)=>l[k]?)=l:=fun l=>by
  induction l with
  | nil=>rfl
  | cons x l ih =>
   rw[zL,List.range_succ_eq_map,List.filterMap_cons]
   simp only[List.getElem?_cons_zero]
   rw[List.filterMap_map]
   congr 1
 have k2:=key xs.reverse
 rw[List.length_reverse] at k2
 rw[k2]
theorem Da{prog:Program}{w:World}{A:Around}{E:Value->Shared->Prop}{s:Shared}{t sl:Addr}{its:List Value}{tk:Tok}{Q:Value->Shared->Prop}(ht:IsTup s.heap t its.toArray)(hs:s.heap.IsSliceOf sl .none .none (.int (-1) tk))
  (hz:its.length<=sizeLine) (h:Q (.ref s.heap.objs.size) { s with heap:=s.heap.push { cls:=.type "tuple",data:=.seq its.reverse.toArray } }):wpAny (model prog w) A (getItem (.ref t) (.ref sl)) Q E s:=by
 obtain⟨os,hos,hcs,hds⟩:=id hs
 have hTs:s.TypeIs (.ref sl) "slice":=⟨os,hos,hcs⟩
 unfold getItem
 try with_reducible refine wpAny_holding ?_
 first|refine zW (zX ?_)|skip
 refine zW (wpAny_sequenceKey ht.typeIs (by decide) (zW (wpAny_callSpecial?_slot (name:=Str.ofString "__getitem__") ht.typeIs PyProof.Rows.slot_tuple_getitem (wpAny_call_entry PyProof.Rows.slot_tuple_getitem ht.typeIs entry_tuple_getitem ?_ (args_tuple_getitem _ _)))))
 refine zW (m:=Builtin.Tuple.tupleItemsOf (.ref t)) (tupleItemsOf_ ht (zW (wpAny_typeOf hTs ?_)))
 rw[if_pos (by decide)]
 have hap:∀ {R:Int×Int×Nat->Shared->Prop},R (((its.length:Nat):Int) - 1,-1,its.length) s->wpAny (model prog w) A.in1 (Builtin.Slice.sliceApplied (.ref sl) (pure ((its.toArray.size:Nat):Int))) R E s:=fun {R} hR=>by
  unfold Builtin.Slice.sliceApplied Builtin.Slice.sliceFields
  refine zW (zW (wpAny_field hos hds (x:=.none) rfl (zW (wpAny_field hos hds (x:=.none) rfl (zW (wpAny_field hos hds (x:=.int (-1) tk) rfl (zX ?_)))))))
  refine zW (slicePart_int ?_)
  show wpAny _ _ (if ((-1:Int) == 0)=true then _ else _) _ _ s
  rw[if_neg (by decide)]
  refine zW (slicePart_none (zW (slicePart_none (zW (zX ?_)))))
  have e1:Builtin.Slice.sliceAdjust none none (-1) ((its.toArray.size:Nat):Int)=(((its.length:Nat):Int) - 1,-1):=by simp[Builtin.Slice.sliceAdjust]
  show wpAny _ _ (match Builtin.Slice.sliceAdjust none none (-1) ((its.toArray.size:Nat):Int) with|(lo,hi)=>pure (lo,(-1:Int),Builtin.Slice.slicePlaces lo hi (-1))) _ _ s
  rw[e1]
  have e2:Builtin.Slice.slicePlaces (((its.length:Nat):Int) - 1) (-1) (-1)=its.length:=by
   unfold Builtin.Slice.slicePlaces
   rw[if_neg (by decide)]
   simp only[Int.neg_neg,Int.ediv_one]
   split<;>omega
  show wpAny _ _ (pure (((its.length:Nat):Int) - 1,(-1:Int),Builtin.Slice.slicePlaces (((its.length:Nat):Int) - 1) (-1) (-1))) _ _ s
  rw[e2]
  exact zX hR
 first
  | refine zW (hap ?_)
  | refine zW (wpAny_of_in1 (hap ?_))
 show wpAny _ _ (if ((((its.length:Nat):Int) - 1) == 0&&(-1:Int) == 1&&its.length == its.toArray.size)=true then _ else _) _ _ s
 rw[if_neg (by simp),A3]
 have hz':sizeOk (.seq its.reverse.toArray):=by show its.reverse.toArray.size<=sizeLine;simpa using hz
 first
  | exact zW (m:=Builtin.Tuple.tupleExact _) (wpAny_newObj_type (zX ⟨_,rfl,zX h⟩) hz')
  | exact zW (m:=Builtin.Tuple.tupleExact _) (wpAny_newObj_type (zW (zX (zX ⟨_,rfl,zX h⟩))) hz')
  | exact zW (zW (m:=Builtin.Tuple.tupleExact _) (wpAny_newObj_type (zX (zX ⟨_,rfl,zX h⟩)) hz'))
  | exact zW (zW (m:=Builtin.Tuple.tupleExact _) (wpAny_newObj_type (zX ⟨_,rfl,zX h⟩) hz'))
section
variable {X:Cx}{a:Expr}{fa:Env->Option D}{pos p2 p3 p4:Pos}{j:Nat}
theorem Gb{ta:TE}(ha:PE X a ta):PE X (.Subscript a (.Slice none none (some (.UnaryOp .USub (.Constant (.int 1) j p4) p3)) p2) pos) (fun σ H Q=>ta σ H fun x H1=>∃b xs,x=.ref b/\fP X.K H1 b xs/\∀p,H1 p=none->Q (.ref p) (upd H1 p (.tup xs.reverse))):=by
 intro pins s σ H Q I h
 refine Subscript_ (bw (ha pins s σ H _ I h) fun v s1 ⟨x,H1,I1,r1,b,xs,e,hq,q⟩=>?_)
 subst e
 cases r1
 refine wpAny_Slice ?_
 rw[evalPart_none]
 refine zX (zX ?_)
 have hst:=lT (X:=X) (AC (op:=.USub) tV (pF (X:=X) (i:=1) (j:=j) (pos:=p4)) (pos:=p3)) pins s1 σ H1 (fun o H'=>o=some (-1)/\H'=H1) I1 ⟨1,rfl,-1,rfl,rfl,rfl⟩
 refine bw hst fun vst s2 ⟨o,H2,I2,pst,e1,e2⟩=>?_
 subst e1 e2
 cases pst with
 | int _ tk =>
 obtain⟨its,r,ht,hz⟩:=I2.tuple hq
 have I4:Inv X pins σ H2 { s2 with heap:=s2.heap.push { cls:=.type "slice",data:=.fields #[.none,.none,.int (-1) tk] } }:=I2.kept (t':=s2.toks) fun b ob q=>zV _ q
 obtain⟨its',r',ht',_⟩:=I4.tuple hq
 refine tail_any (ops:=[.ref b,.ref s2.heap.objs.size]) ht'.typeIs PyProof.Rows.slot_tuple_getitem.lookup (Da ht' (Heap.IsSliceOf.new ..) (by rw[<- r'.length];exact hz) ?_) (by with_unfolding_all rfl)
 have hv:ax xs.reverse its'.reverse:=L2.ax.reverse r'
 exact⟨.ref _,_,I4.laid (t':=s2.toks) (o:=.tup xs.reverse) (fun b ob q=>zV _ q) (Nat.le_refl _) ⟨by rw[List.length_reverse];exact hz,_,hv,kF.new _ _⟩,rfl,q _ I4.fresh⟩
noncomputable def Hn:D->Option D|.tuple ds=>some (.tuple ds.reverse)|_=>none
noncomputable def f1(g:D->Option D)(f:Env->Option D):Env->Option D:=fun ρ=>(f ρ).bind g
theorem Es(ha:DE X a fa):DE X (.Subscript a (.Slice none none (some (.UnaryOp .USub (.Constant (.int 1) j p4) p3)) p2) pos) (f1 Hn fa):=aG (Gb ha) fun σ H Q ⟨HF,ρ,d,sm,eo,hf,q⟩=>by
 obtain⟨x,hx,hf⟩:=bs hf
 refine⟨HF,ρ,x,sm,eo,hx,fun v1 H1 HF1 g1 r1=>?_⟩
 cases x<;>try cases hf
 simp only[Rep] at r1
 obtain⟨b,vs,rfl,hs,rr⟩:=r1
 exact⟨b,vs,rfl,au g1.fh hs,fun p hp=>q _ _ _ (g1.trans (.new g1.fh hp)) (bx (g1.fh.free hp) rr.reverse)⟩
end
end Dl
namespace HT
open PySem PyProof.Rows
section
open PySem.SeqAt
open PySem.AutoSeq1 (wpAny_loadPart')
open PySem.MeetsSeq PySem.MeetsSeq2 PySem.MeetsSeq3
theorem BJ(A:Around)(s:Shared)(a:Int)(t:Tok)(c:Int)(u:Tok)(prog:Program)(w:World)(E:Value->Shared->Prop)(Q:Value->Shared->Prop)(h:Q (.bool (decide (c<=a))) s) :
  wpAny (model prog w) A (richCompare .GtE (.int a t) (.int c u)) Q E s :=
 (PyProof.Rows.ge_int h:wpAny (model prog w) A (compareOp .GtE (.int a t) (.int c u)) Q E s)
theorem nO(l b:Addr)(items items2:Array Value)(n n2:Nat)(dd dd2:Option Addr)(sl sl2:Array (Option Value))(ns ms:List Int)(hi:IntsAre items.toList ns)(hj:IntsAre items2.toList ms) :
  Meets (Builtin.«tuple.__ge__» ⟨[.ref l,.ref b],[]⟩)
   (fun _ R s=>s.heap.get? l=some { cls:=.type "tuple",dict:=dd,data:=.seq items n,slots:=sl }/\s.heap.get? b=some { cls:=.type "tuple",dict:=dd2,data:=.seq items2 n2,slots:=sl2 } /\
    R (.ok (.ret (.bool (!lexLt ns ms)))) s) :=
 .of_wp fun prog w A R s h=>by
  obtain⟨hp,g,d,tk,os⟩:=s;obtain⟨hl,hb,h⟩:=h
  have f2:=AutoSeq1.sub_tuple_tuple
  have z1:items.size=ns.length:=by rw[<- hi.length];simp
  have z2:items2.size=ms.length:=by rw[<- hj.length];simp
  wp_walk using wpAny_loadPart' hl,wpAny_loadPart' hb,wpAny_forIn_list _ (fun rest b s'=>b.1=none/\s'=⟨hp,g,d,tk,os⟩/\∃ (vs ws:List Value) (ns' ms':List Int),rest=vs.zip ws /\
   IntsAre vs ns'/\IntsAre ws ms'/\ns'.length+items2.size=ms'.length+items.size/\R (.ok (.ret (.bool (!lexLt ns' ms')))) ⟨hp,g,d,tk,os⟩) _
  case turn =>
   rintro⟨y,x⟩ rest b s' ⟨hb',rfl,vs,ws,ns',ms',hz,hvi,hwi,hlen,hR⟩
   cases hvi with
   | nil=>rw[List.zip_nil_left] at hz;cases hz
   | cons a t hvi' =>
    cases hwi with
    | nil=>rw[List.zip_nil_right] at hz;cases hz
    | cons c u hwi' =>
     rw[List.zip_cons_cons] at hz
     injection hz with hyx hrest
     injection hyx with hy hx
     subst hy hx
     rw[cH] at hR
     simp only[zL] at hlen
     obtain⟨e,he,hiff⟩:=yQ A.in1 ⟨hp,g,d,tk,os⟩ a t c u
     refine zW (he prog w _ _ ?_)
     cases e with
     | true =>
      rw[if_pos (hiff.mp rfl)] at hR
      wp_walk
      exact⟨rfl,rfl,_,_,_,_,hrest,hvi',hwi',by omega,hR⟩
     | false =>
      rw[if_neg (fun q=>absurd (hiff.mpr q) Bool.false_ne_true)] at hR
      have hri:=BJ A.in1 ⟨hp,g,d,tk,os⟩ a t c u prog w
      have e1:(!decide (a < c))=decide (c<=a):=by
       rw[<- decide_not]
       exact decide_eq_decide.mpr (by omega)
      rw[e1] at hR
      wp_walk using hri
      exact⟨_,rfl,hR⟩
  case fin =>
   rintro⟨b1,b2⟩ s' ⟨hb',rfl,vs,ws,ns',ms',hz,hvi,hwi,hlen,hR⟩
   simp only at hb'
   subst hb'
   have hv:lexLt ns' ms'=decide (items.size < items2.size):=by
    cases hvi with
    | nil =>
     cases hwi with
     | nil =>
      simp only[List.length_nil] at hlen
      rw[nU]
      exact (yA (by omega)).symm
     | cons c u hw =>
      simp only[List.length_nil,zL] at hlen
      rw[mL]
      exact (yB (by omega)).symm
    | cons a t hv =>
     cases hwi with
     | nil =>
      simp only[List.length_nil,zL] at hlen
      rw[nj]
      exact (yA (by omega)).symm
     | cons c u hw =>
      rw[List.zip_cons_cons] at hz
      cases hz
   have hv2:(!lexLt ns' ms')=decide (items.size >= items2.size):=by
    rw[hv,<- decide_not]
    exact decide_eq_decide.mpr (by omega)
   rw[hv2] at hR
   wp_walk
   exact⟨_,rfl,hR⟩
  case h =>
   exact⟨rfl,rfl,items.toList,items2.toList,ns,ms,rfl,hi,hj,by omega,h⟩
end
end HT
namespace Dl
open PySem L2 PySem.Spec PyProof.Rows
section
variable {X:Cx}
noncomputable def kc:D->Option (List Int)|.tuple ds=>intsOf ds|_=>none
theorem gP{x:D}{ns:List Int}(h:kc x=some ns):x=.tuple (ns.map PyData.int):=by
 cases x<;>try cases h
 rename_i xs
 have h:intsOf xs=some ns:=h
 rw[bZ h]
noncomputable def Ia:D->D->Option Bool:=fun x y=>(kc x).bind fun ns=>(kc y).map fun ms=>!lexLt ns ms
theorem xW(hu:X.A.units < cLine):fO X (compareOp .GtE) (GN X.K Ia):=by
 intro pins s σ H v1 v2 u1 u2 Q I rx ry h
 obtain⟨HF,x,y,k,sm,r1,r2,hg,q⟩:=h
 obtain⟨ns,h1,hg⟩:=bs hg
 obtain⟨ms,h2,rfl⟩:=ae hg
 rw[gP h1] at r1
 rw[gP h2] at r2
 have key:∀ {ns:List Int}{v:V}{u:Value},Rep X.K HF (.tuple (ns.map PyData.int)) v->RelV v u->∃a its,u=.ref a/\IsTup s.heap a its/\IntsAre its.toList ns:=fun {ns v u} r rv=>by
  have p:rQ s.heap u ns:=by
   cases j1 (X:=X) (us:=[u]) (vs:=[v]) (nss:=[ns]) I sm (aj.cons r aj.nil) (.cons rv .nil) with
   | cons p _=>exact p
  obtain⟨a,o,its,n,rfl,e1,e2,e3,e4⟩:=p.ex
  exact⟨a,its,rfl,⟨o,e1,e2,n,e3⟩,e4⟩
 obtain⟨a,its,rfl,⟨⟨cls,dd,data,sl⟩,ho,hc,n,hd⟩,i1⟩:=key r1 rx
 obtain⟨b,its2,rfl,⟨⟨cls2,dd2,data2,sl2⟩,ho2,hc2,n2,hd2⟩,i2⟩:=key r2 ry
 simp only at hc hd hc2 hd2
 subst hc hd hc2 hd2
 exact richCompare_meets_room (op:=.GtE) ⟨_,ho,rfl⟩ ⟨_,ho2,rfl⟩ PySem.F.slot_tuple_ge PySem.F.entry_tuple_ge (PySem.F.args_tuple_ge_2 _ _) (HT.nO a b its its2 n n2 dd dd2 sl sl2 ns ms i1 i2)
  ⟨ho,ho2,show Value.bool (!lexLt ns ms)≠Value.notImplemented/\EP X pins σ Q (.bool (!lexLt ns ms)) s from ⟨(fun x=>nomatch x),⟨.bl _,H,I,rfl,q⟩⟩⟩ hu
end
end Dl
namespace En
open PySem PyProof.Rows
open AutoSeq1 (wpAny_loadPart')
theorem noFill_tup:fillsNumberSlot (.type "tuple") "mul"=pure false:=PySem.fillsNumberSlot_seq (id:="tuple.__mul__") (r:=some (.builtin "tuple.__rmul__")) F.slot_tuple_mul.lookup (by decide +kernel) F.slot_tuple_rmul.lookup (by decide +kernel)
theorem repeat_tup:seqRepeat? (.type "tuple")=pure (some (.builtin "tuple.__mul__")):=by
 unfold seqRepeat?
 rw[PySem.seqSlot_of (T:="tuple") (name:="__mul__") (id:="tuple.__mul__") F.slot_tuple_mul.lookup (by decide +kernel),PySem.seqSlot_of (T:="tuple") (name:="__rmul__") (id:="tuple.__rmul__") F.slot_tuple_rmul.lookup (by decide +kernel)];rfl
theorem rmul_tup(a:Int)(t:Tok)(l:Addr)(its:Array Value)(n:Nat)(dd:Option Addr)(sl:Array (Option Value)) :
  Meets (Builtin.«int.__rmul__» ⟨[.int a t,.ref l],[]⟩) (fun _ R s=>s.heap.get? l=some { cls:=.type "tuple",dict:=dd,data:=.seq its n,slots:=sl }/\R (.ok (.ret Value.notImplemented)) s) :=
 .of_wp fun prog w A R s h=>by
  obtain⟨hp,g,d,tk,os⟩:=s;obtain⟨hl,h⟩:=h
  wp_walk
  exact⟨_,rfl,h⟩
theorem mulT_same(l:Addr)(its:Array Value)(n:Nat)(dd:Option Addr)(sl:Array (Option Value))(k:Int)(t:Tok)(h1:¬ (decide (k < -(2 ^ 63))||decide (k >= 2 ^ 63))=true)(h2:(its.isEmpty||k == 1)=true) :
  Meets (Builtin.«tuple.__mul__» ⟨[.ref l,.int k t],[]⟩) (fun _ R s=>s.heap.get? l=some { cls:=.type "tuple",dict:=dd,data:=.seq its n,slots:=sl }/\R (.ok (.ret (.ref l))) s) :=
 .of_wp fun prog w A R s h=>by
  obtain⟨hp,g,d,tk,os⟩:=s;obtain⟨hl,h⟩:=h
  have f1:=AutoSeq1.idx_int
  wp_walk using wpAny_loadPart' hl
  rw[if_neg h1]
  wp_walk using wpAny_loadPart' hl
  exact⟨_,rfl,h⟩
theorem mulT_none(l:Addr)(its:Array Value)(n:Nat)(dd:Option Addr)(sl:Array (Option Value))(k:Int)(t:Tok)(h1:¬ (decide (k < -(2 ^ 63))||decide (k >= 2 ^ 63))=true)(h2:¬ (its.isEmpty||k == 1)=true)(h3:(decide (k<=0)||its.isEmpty)=true) :
  Meets (Builtin.«tuple.__mul__» ⟨[.ref l,.int k t],[]⟩) (fun _ R s=>s.heap.get? l=some { cls:=.type "tuple",dict:=dd,data:=.seq its n,slots:=sl }/\R (.ok (.ret (.ref s.heap.objs.size))) { s with heap:=s.heap.push { cls:=.type "tuple",data:=.seq #[] } }) :=
 .of_wp fun prog w A R s h=>by
  obtain⟨hp,g,d,tk,os⟩:=s;obtain⟨hl,h⟩:=h
  have f1:=AutoSeq1.idx_int
  wp_walk using wpAny_loadPart' hl
  rw[if_neg h1]
  wp_walk using wpAny_loadPart' hl
  exact⟨_,rfl,h⟩
theorem mulT_many(l:Addr)(its:Array Value)(n:Nat)(dd:Option Addr)(sl:Array (Option Value))(k:Int)(t:Tok)(h1:¬ (decide (k < -(2 ^ 63))||decide (k >= 2 ^ 63))=true)(h2:¬ (its.isEmpty||k == 1)=true)(h3:¬ (decide (k<=0)||its.isEmpty)=true)
  (h4:¬ ((its.size:Nat):Int) * k > (2 ^ 63 - 1) / 8) (h5:¬ Builtin.Tuple.tupleTooMany (((its.size:Nat):Int) * k)=true) (hz:((List.replicate k.toNat its).foldl (·++·) #[]).size<=sizeLine) :
  Meets (Builtin.«tuple.__mul__» ⟨[.ref l,.int k t],[]⟩) (fun _ R s=>s.heap.get? l=some { cls:=.type "tuple",dict:=dd,data:=.seq its n,slots:=sl }/\R (.ok (.ret (.ref s.heap.objs.size))) { s with heap:=s.heap.push { cls:=.type "tuple",data:=.seq ((List.replicate k.toNat its).foldl (·++·) #[]) } }) :=
 .of_wp fun prog w A R s h=>by
  obtain⟨hp,g,d,tk,os⟩:=s;obtain⟨hl,h⟩:=h
  have f1:=AutoSeq1.idx_int
  wp_walk using wpAny_loadPart' hl
  rw[if_neg h1]
  wp_walk using wpAny_loadPart' hl
  rw[if_neg h4]
  wp_walk using wpAny_loadPart' hl
  exact⟨_,rfl,h⟩
end En
namespace Dl
open PySem L2 PySem.Spec PyProof.Rows
section
variable {X:Cx}
def D3(K:W.Frag):R2:=fun x y H Q=>∃a k xs,x=.ref a/\y=.int k/\fP K H a xs/\-(2 ^ 62)<=k/\k < 2 ^ 62/\xs.length * k.toNat<=sizeLine/\((List.replicate k.toNat xs).flatten=xs->Q (.ref a) H) /\
 ∀p,H p=none->Q (.ref p) (upd H p (.tup (List.replicate k.toNat xs).flatten))
theorem DB:fO X (binaryOp .Mult) (D3 X.K):=by
 intro pins s σ H x y v u Q I rx ry h
 obtain⟨a,k,xs,rfl,rfl,hq,k1,k2,hz,q1,q2⟩:=h
 cases rx
 obtain⟨t,rfl⟩:=ry
 obtain⟨its,r,pl,hzx⟩:=I.tuple hq
 have hl:=r.length
 obtain⟨⟨cls,dd,data,sl⟩,ho,hc,n,hd⟩:=id pl
 simp only at hc hd
 subst hc hd
 have b1:¬ (decide (k < -(2 ^ 63))||decide (k >= 2 ^ 63))=true:=by
  simp only[Bool.or_eq_true,zJ]
  omega
 refine wpAny_binaryOp_repeat_ref (T:="tuple") (U:="int") (by decide) ⟨_,ho,rfl⟩ (fun s'=>typeIs_int s' k t) En.noFill_tup F.fills_int_mul F.slot_int_rmul En.repeat_tup F.slot_int_index.lookup
  (call_meets F.slot_int_rmul (typeIs_int s k t) F.entry_int_rmul (F.args_int_rmul_2 _ _) (En.rmul_tup k t a its.toArray n dd sl) ⟨ho,rfl,⟨_,ho,rfl⟩,?_⟩)
 have hfl:∀m:Nat,List.foldl (fun x1 x2=>x1++x2) #[] (List.replicate m its.toArray)=(List.replicate m its).flatten.toArray:=fun m=>by
  have:=foldl_rep its m []
  rw[List.nil_append] at this
  exact this
 by_cases h2:(its.toArray.isEmpty||k == 1)=true
 ·refine call_meets F.slot_tuple_mul ⟨_,ho,rfl⟩ F.entry_tuple_mul (F.args_tuple_mul_2 _ _) (En.mulT_same a its.toArray n dd sl k t b1 h2) ⟨ho,⟨.ref a,H,I,rfl,q1 ?_⟩⟩
  rw[Bool.or_eq_true] at h2
  rcases h2 with h2|h2
  ·have:xs=[]:=by
    have e:its=[]:=by simpa using h2
    rw[e] at hl
    exact List.length_eq_zero_iff.mp hl
   rw[this]
   simp
  ·have:k=1:=eq_of_beq h2
   subst this
   simp
 ·by_cases h3:(decide (k<=0)||its.toArray.isEmpty)=true
  ·refine call_meets F.slot_tuple_mul ⟨_,ho,rfl⟩ F.entry_tuple_mul (F.args_tuple_mul_2 _ _) (En.mulT_none a its.toArray n dd sl k t b1 h2 h3) ⟨ho,?_⟩
   have hk0:k.toNat=0:=by
    simp only[Bool.or_eq_true,zJ] at h3 h2
    rcases h3 with h3|h3
    ·omega
    ·exact absurd (.inl h3) h2
   have q3:=q2 s.heap.objs.size I.fresh
   rw[hk0] at q3
   exact⟨.ref s.heap.objs.size,_,I.laid (t':=s.toks) (o:=.tup []) (fun b ob q=>zV _ q) (Nat.le_refl _) ⟨Nat.zero_le _,[],.nil,kF.new _ _⟩,rfl,q3⟩
  ·have hm:its.length * k.toNat<=sizeLine:=by rw[<- hl];exact hz
   have hkn:(k.toNat:Int)=k:=by
    simp only[Bool.or_eq_true,zJ,not_or] at h3
    omega
   have hmi:((its.toArray.size:Nat):Int) * k=((its.length * k.toNat:Nat):Int):=by rw[zH,Int.natCast_mul,hkn]
   have hv:=L2.ax.rep r k.toNat
   have hlen2:(List.replicate k.toNat xs).flatten.length<=sizeLine:=by rw[len_rep,Nat.mul_comm];exact hz
   have hs8:(sizeLine:Nat)<=(2 ^ 63 - 1) / 8:=by decide
   have h4:¬ ((its.toArray.size:Nat):Int) * k > (2 ^ 63 - 1) / 8:=by rw[hmi];omega
   have h5:¬ Builtin.Tuple.tupleTooMany (((its.toArray.size:Nat):Int) * k)=true:=by
    unfold Builtin.Tuple.tupleTooMany
    rw[hmi]
    simp only[zJ]
    omega
   refine call_meets F.slot_tuple_mul ⟨_,ho,rfl⟩ F.entry_tuple_mul (F.args_tuple_mul_2 _ _) (En.mulT_many a its.toArray n dd sl k t b1 h2 h3 h4 h5 (by rw[hfl,zH,<- hv.length];exact hlen2)) ⟨ho,?_⟩
   rw[hfl]
   exact⟨.ref s.heap.objs.size,_,I.laid (t':=s.toks) (o:=.tup (List.replicate k.toNat xs).flatten) (fun b ob q=>zV _ q) (Nat.le_refl _) ⟨hlen2,_,hv,kF.new _ _⟩,rfl,q2 _ I.fresh⟩
noncomputable def BG:D->D->Option D
 | .tuple ds,.int k=>if sC k=true/\ds.length * k.toNat<=sizeLine then some (.tuple (List.replicate k.toNat ds).flatten) else none
 | _,_=>none
theorem jT{K:W.Frag}{HF:Hp}{ds:List D}{vs:List V}(r:aj K HF ds vs):∀k:Nat,aj K HF (List.replicate k ds).flatten (List.replicate k vs).flatten
 | 0=>aj.nil
 | k+1=>by rw[List.replicate_succ,List.replicate_succ,List.flatten_cons,List.flatten_cons];exact r.append (jT r k)
theorem yf{K:W.Frag}:dZ K (D3 K) BG:=by
 intro HF H x y v1 v2 d Q sm r1 r2 hg q
 cases x<;>cases y<;>simp only[BG] at hg<;>try cases hg
 split at hg
 ·rename_i xs k hh
  cases hg
  simp only[Rep] at r1 r2
  obtain⟨a,vs,rfl,ha,ra⟩:=r1
  have ok:=hh.1
  unfold sC at ok
  rw[zF] at ok
  refine⟨a,k,vs,rfl,r2,au sm ha,of_decide_eq_true ok.1,of_decide_eq_true ok.2,by rw[ra.length];exact hh.2,fun e=>q _ H HF (.refl sm) ?_,fun p hp=>q _ _ _ (.new sm hp) (bx (sm.free hp) (jT ra _))⟩
  simp only[Rep]
  refine⟨a,vs,rfl,ha,?_⟩
  have:=jT ra k.toNat
  rw[e] at this
  exact this
 ·cases hg
end
end Dl
namespace En
open PySem PyProof.Rows
section
variable {prog:Program}{w:World}{A:Around}{E:Value->Shared->Prop}{s:Shared}
theorem call_setT{l:Addr}{its:Array Value}{ns:List Int}{Q:Value->Shared->Prop}(hh:A.handled=none)(hl:s.heap.IsTuple l its)(hi:IntsAre its.toList ns)(hb:its.size+1 < scanBound)
  (h:∀ (h':Heap) (tk:Nat),h'.SetOf (intKind prog w) s.heap.objs.size (fun k'=>(firstMet (fun i=>ns.getD i 0) its.size).any (· == k')) (firstMet (fun i=>ns.getD i 0) its.size).length->(∀b o,b < s.heap.objs.size->s.heap.get? b=some o->h'.get? b=some o)->Q (.ref s.heap.objs.size) { s with heap:=h',toks:=tk }) :
  wpAny (model prog w) A (call (.type "set") [.ref l]) Q E s:=by
 obtain⟨c,tl,hmro⟩:=F.called_set.mro
 have hmade:=F.called_set.made
 have hsub:=F.called_set.sub
 refine wpAny_call (codeAny_of_tree ?_);show wpAny _ _ (callAny (.type "set") _) _ _ _
 refine zX ⟨Code.quiet_builtin _ (by decide +kernel),codeAny_builtin F.entry_type_call ?_⟩
 rw[Around.under_plain (weight_type_call_type "set" [.ref l] []) rfl]
 have h1:=F.called_set.notType
 have h2:=F.called_set.canCreate
 have hct:=F.typeCall_set_1 (.ref l)
 repeat (any_goals (first|assumption|wp_step))
 refine codeAny_mono (code_set_new_1 (.ref l) (E:=E) (Q₁:=fun obj s1=>∃led:Bool,obj=.ref s.heap.objs.size/\s1={ s with heap:=s.heap.push { cls:=.type "set",dict:=none,data:=.set #[] 0 (.fresh 0 0 led) } }) fun led=>⟨led,rfl,rfl⟩) fun r s1 hr=>?_
 cases r with
 | error e=>exact hr
 | ok fl =>
  cases fl with
  | ret obj =>
   obtain⟨led,rfl,rfl⟩:=hr
   have hS:(s.heap.push { cls:=.type "set",dict:=none,data:=.set #[] 0 (.fresh 0 0 led) }).get? s.heap.objs.size=some { cls:=.type "set",dict:=none,data:=.set #[] 0 (.fresh 0 0 led) }:=by exact zY _ rfl
   have hT:Shared.TypeIs { s with heap:=s.heap.push { cls:=.type "set",dict:=none,data:=.set #[] 0 (.fresh 0 0 led) } } (.ref s.heap.objs.size) "set":=⟨_,hS,rfl⟩
   have hli:=F.called_set.init.lookup
   have hbi:=F.called_set.init.bind (.ref s.heap.objs.size)
   repeat (any_goals (first|assumption|wp_step))
   refine codeAny_mono (codeAny_call_builtin (R:=wants (fun r s2=>r=.none/\∃h' tk,s2={ s with heap:=h',toks:=tk }/\h'.SetOf (intKind prog w) s.heap.objs.size (fun k'=>(firstMet (fun i=>ns.getD i 0) its.size).any (· == k')) (firstMet (fun i=>ns.getD i 0) its.size).length /\
     (∀b o,b < s.heap.objs.size->s.heap.get? b=some o->h'.get? b=some o)) E) F.called_set.init.plain F.entry_set_init (check_set_init_1 hT ?_)) fun r2 s2 hr2=>?_
   ·obtain⟨ol,hol,hcl,nl,hdl⟩:=hl
    obtain⟨ocls,odict,odata,oslots⟩:=ol
    simp only at hcl hdl
    subst hcl hdl
    have hol':(s.heap.push { cls:=.type "set",dict:=none,data:=.set #[] 0 (.fresh 0 0 led) }).get? l=some { cls:=.type "tuple",dict:=odict,data:=.seq its nl,slots:=oslots }:=zV _ hol
    have hsls:=F.sub_tuple_set
    have hslf:=F.sub_tuple_frozenset
    have hne:(Value.type "tuple" == Value.type "dict")=false:=by decide
    have hl1:(s.heap.push { cls:=.type "set",dict:=none,data:=.set #[] 0 (.fresh 0 0 led) }).IsTuple l its:=⟨_,hol',rfl,nl,rfl⟩
    unfold Builtin.«set.__init__» noKeywords Builtin.Frozenset.updateFrom
    generalize hPI:pyIter=PI
    wp_walk
    subst hPI
    refine wpAny_pyIter_tuple hl1 (zW (wpAny_runValue ?_))
    have hlS:l < s.heap.objs.size:=zZ hol
    have hh3:A.in1.in1.in1.handled=none:=by simp[hh]
    have hneI:l≠(s.heap.push { cls:=.type "set",dict:=none,data:=.set #[] 0 (.fresh 0 0 led) }).objs.size:=by rw[Heap.size_push];exact Nat.ne_of_lt (Nat.lt_succ_of_lt hlS)
    have hSf:s.heap.objs.size∉[(s.heap.push { cls:=.type "set",dict:=none,data:=.set #[] 0 (.fresh 0 0 led) }).objs.size,l]:=by
     rw[Heap.size_push];simp only[zR,yG,or_false,not_or]
     exact⟨Nat.ne_of_lt (Nat.lt_succ_self _),Nat.ne_of_gt hlS⟩
    have hval:∀ (i:Nat) (v:Value),its[i]?=some v->∃t,v=.int ((fun i=>ns.getD i 0) i) t:=fun i v hv=>IntsAre.int_at hi i v (by rw[Array.getElem?_toList];exact hv)
    refine codeAny_set_update_loopS ((Walks.tuple hh3 _ l hneI its).toS) s.heap.objs.size hSf (fun i=>ns.getD i 0) hval hb (its.size - 0) 0 _ (by omega) (Nat.zero_le _) ⟨⟨_,zY _ rfl,rfl,rfl⟩,?ht⟩ ?hS0 ?hR
    case ht=>exact⟨_,zV _ hol',rfl,nl,rfl⟩
    case hS0 =>
     have hget:((s.heap.push { cls:=.type "set",dict:=none,data:=.set #[] 0 (.fresh 0 0 led) }).push { cls:=.type "tuple_iterator",data:=.fields #[.ref l,.int 0 0] }).get? s.heap.objs.size=some { cls:=.type "set",dict:=none,data:=.set #[] 0 (.fresh 0 0 led) }:=by exact zV _ hS
     exact SetOf_congr ((setObjOf_fresh (knd:=intKind prog w) led).setOf hget (by unfold scanBound;omega)) (fun _=>rfl) rfl
    case hR =>
     intro s' hm hS'
     obtain⟨h',g',d',tk',os'⟩:=s'
     have eg:g'=s.gens:=hm.gens
     have ed:d'=s.drawn:=hm.drawn
     have eo:os'=s.os:=hm.os
     subst eg ed eo
     show wpAny _ _ _ _ _ _
     refine zX ?_
     show wpAny _ _ (ret Value.none) _ _ _
     refine zX ⟨rfl,h',tk',rfl,hS',fun b o hb' e=>?_⟩
     refine hm.heap b o ?_ (zV _ (zV _ e))
     simp only[zR,yG,or_false,not_or]
     exact⟨Nat.ne_of_lt hb',by rw[Heap.size_push];exact Nat.ne_of_lt (Nat.lt_succ_of_lt hb')⟩
   ·cases r2 with
    | error e=>exact hr2
    | ok fl2 =>
     cases fl2 with
     | ret r =>
      obtain⟨rfl,h',tk,rfl,hS',hk'⟩:=hr2
      repeat (any_goals (first|assumption|wp_step))
      exact h _ _ hS' hk'
     | _=>exact hr2.elim
  | _=>exact hr.elim
end
end En
namespace Dl
open PySem L2 PySem.Spec PyProof.Rows
noncomputable def many(ns:List Int):Nat:=(firstMet (fun i=>ns.getD i 0) ns.length).length
section
variable {X:Cx}{e:Expr}{f:Env->Option D}{pos p p' pos':Pos}
theorem xl(hc:X.calm=true):cO X (.type "set") (fun xs H Q=>∃ (a:Addr) (ns:List Int),xs=[.ref a]/\fP X.K H a (ns.map V.int)/\ns.length+1 < scanBound/\∀q S,H q=none->Q (.ref q) (upd H q (.set S (many ns)))):=by
 intro pins s σ H xs us Q I r h
 obtain⟨a,ns,rfl,hq,hb,q⟩:=h
 obtain⟨u,rfl,rx⟩:=vals1 r
 cases rx
 obtain⟨its,rv,pl,hz⟩:=I.tuple hq
 have hi:IntsAre its.toArray.toList ns:=intsAre_of rv
 have hlen:its.toArray.size=ns.length:=by have:=rv.length;simpa using this.symm
 refine En.call_setT (I.ok.hd hc) (show s.heap.IsTuple a its.toArray from pl) hi (by rw[hlen];exact hb) fun h' tk hS hk=>?_
 rw[hlen] at hS
 exact⟨.ref s.heap.objs.size,_,I.laid (t':=tk) (fun b o e=>hk b o (zZ e) e) (Nat.le_refl _) (show dg X.prog X.w _ h' _ (.set _ (many ns)) from hS),rfl,q _ _ I.fresh⟩
theorem o3:cO X (.builtin "len") (fun xs H Q=>∃ (a:Addr) (S:Int->Bool) (n:Nat),xs=[.ref a]/\H a=some (.set S n)/\Q (.int n) H):=by
 intro pins s σ H xs us Q I r h
 obtain⟨a,S,n,rfl,hq,q⟩:=h
 obtain⟨u,rfl,rx⟩:=vals1 r
 cases rx
 obtain⟨o,es,ep,t,ho,hex,hd,hel,hmem,hlt,hf,hn⟩:=(show s.heap.SetOf (intKind X.prog X.w) a S n from I.hok a _ hq)
 have hfit:((es.size:Nat):Int) < 2 ^ 63:=by unfold scanBound at hlt;omega
 refine call_len_set ho hex hd hf hfit ⟨.int n,H,I.tok _,⟨s.toks+1,by rw[hn]⟩,q⟩
noncomputable def ja:D->Option D:=fun d=>(kc d).bind fun ns=>if ns.length+1 < scanBound then some (.int (many ns)) else none
theorem wG(hc:X.calm=true)(B:jj X "len" (.builtin "len"))(C:jj X "set" (.type "set"))(h:DE X e f)(he:starEach [e] X.env=(false,eval e X.env)::starEach [] X.env:=by rfl) :
  DE X (.Call (.Name "len" p) [.Call (.Name "set" p') [e] [] pos'] [] pos) (f1 ja f) :=
 aG (ib o3 B.gl B.mg B.bt (bA (ji (xl hc) C.gl C.mg C.bt (bA h dh he) (by decide) (by decide) he rfl) dh) (by decide) (by decide) rfl rfl) fun σ H Q ⟨HF,ρ,d,sm,eo,hf,q⟩=>by
  obtain⟨x,hx,hf⟩:=bs hf
  obtain⟨ns,h1,hf⟩:=bs hf
  split at hf
  ·rename_i hb
   cases hf
   refine⟨HF,ρ,x,sm,eo,hx,fun v1 H1 HF1 g1 r1=>?_⟩
   rw[gP h1] at r1
   simp only[Rep] at r1
   obtain⟨a,vs,rfl,hs,rr⟩:=r1
   have key:∀ {ns:List Int}{ws:List V},aj X.K HF1 (ns.map PyData.int) ws->ws=ns.map V.int:=fun {ns}=>by
    induction ns with
    | nil=>exact fun h=>h.nil_inv
    | cons n ns ih =>
     intro ws h
     obtain⟨v,r,rfl,a,b⟩:=h.cons_inv
     simp only[Rep] at a
     rw[a,ih b]
     rfl
   have:=key rr
   subst this
   refine⟨a,ns,rfl,au g1.fh hs,hb,fun b S hb'=>⟨b,S,_,rfl,aw,q _ _ HF1 (g1.trans (.own g1.fh hb')) (by simp[Rep])⟩⟩
  ·cases hf
end
theorem ig(val:Nat->Int):∀i,(firstMet val i).length=i↔((List.range i).map val).Nodup
 | 0=>by simp[firstMet]
 | i+1=>by
  have hle:=firstMet_length_le val i
  rw[firstMet_succ,step_length,List.range_succ,List.map_append,List.nodup_append]
  have ha:=firstMet_any val i (val i)
  have ih:=ig val i
  constructor
  ·intro h
   by_cases hin:(firstMet val i).any (· == val i)=true
   ·rw[if_pos hin] at h;omega
   ·rw[if_neg hin] at h
    refine⟨ih.mp (by omega),by simp,fun a hm b hb z=>?_⟩
    have hb':b=val i:=by simpa using hb
    subst z hb'
    rw[ha] at hin
    exact hin (List.any_eq_true.mpr ⟨_,hm,by simp⟩)
  ·rintro⟨h1,_,h3⟩
   rw[if_neg ?_]
   ·rw[ih.mpr h1]
   ·rw[ha]
    intro hin
    obtain⟨x,hx,he⟩:=List.any_eq_true.mp hin
    have he':x=val i:=by simpa using he
    exact h3 x hx (val i) (by simp) he'
theorem uQ(ns:List Int):many ns=ns.length↔ns.Nodup:=by
 unfold many
 rw[ig]
 have:(List.range ns.length).map (fun i=>ns.getD i 0)=ns:=eK ns 0
 rw[this]
section
variable {X:Cx}{N:List Str}{sc:Scope}{k:Nat}{a b c e e2:Expr}{es:List Expr}{fa fb fc f:Env->Option D}{fs:Env->Option (List D)}{pos p p' pos' p2 p3 p4 px apos cpos tp:Pos}{x y:Str}{HF₀ H₀:Hp}
theorem l8{K:W.Frag}{r r':R2}{g g':D->D->Option D}(h:dZ K r g)(h':dZ K r' g'):dZ K (fun x y H Q=>r x y H Q\/r' x y H Q) (fun x y=>(g x y).or (g' x y)):=by
 intro HF H x y v1 v2 d Q sm r1 r2 hg q
 cases e:g x y with
 | some d' =>
  have hg:(g x y).or (g' x y)=some d:=hg
  rw[e] at hg
  cases hg
  exact .inl (h HF H x y v1 v2 d Q sm r1 r2 e q)
 | none =>
  have hg:(g x y).or (g' x y)=some d:=hg
  rw[e] at hg
  exact .inr (h' HF H x y v1 v2 d Q sm r1 r2 hg q)
theorem wx{K:W.Frag}:dZ K (yy K) (fun x y=>(jt x y).map PyData.list):=by
 intro HF H x y v1 v2 d Q sm r1 r2 hg q
 obtain⟨zs,hg',rfl⟩:=ae hg
 clear hg
 cases x<;>cases y<;>simp only[jt] at hg'<;>try cases hg'
 obtain⟨rfl,hz⟩:=dz hg'
 simp only[Rep] at r1 r2
 obtain⟨a,vs,rfl,ha,ra⟩:=r1
 obtain⟨b,us,rfl,hb,rb⟩:=r2
 refine⟨a,b,vs,us,rfl,rfl,sm.seq ha,sm.seq hb,by rw[ra.length,rb.length,<- zN];exact hz,fun p hp=>q _ _ _ (.new sm hp) ?_⟩
 simp only[Rep]
 exact⟨p,_,rfl,.inl (.inl aw),(ra.append rb).mono (cZ (sm.free hp))⟩
noncomputable def aD:D->D->Option D:=fun x y=>((qJ (fun _ _=>True) fun i j=>.int (i+j)) x y).or ((GA x y).or ((jt x y).map PyData.list))
theorem Bk.add(C:Bk X N sc k)(ha:DE X a fa)(hb:DE X b fb):DE X (.BinOp a .Add b pos) (f2 aD fa fb):=rD (ER.or (wN.or qZ)) (l8 zi (l8 Dk wx)) ha hb
noncomputable def d7:D->D->Option D:=qJ (fun _ _=>True) fun i j=>.int (i - j)
theorem Bk.sub(C:Bk X N sc k)(ha:DE X a fa)(hb:DE X b fb):DE X (.BinOp a .Sub b pos) (f2 d7 fa fb):=rD Gm zi ha hb
noncomputable def dQ:D->D->Option D:=fun x y=>((qJ pW fun i j=>.int (i * j)) x y).or (BG x y)
theorem Bk.mul(C:Bk X N sc k)(ha:DE X a fa)(hb:DE X b fb):DE X (.BinOp a .Mult b pos) (f2 dQ fa fb):=rD (GC.or DB) (l8 zm yf) ha hb
noncomputable def jM:D->D->Option D:=qJ B5 fun i j=>.int (i / j)
theorem Bk.div(C:Bk X N sc k)(ha:DE X a fa)(hb:DE X b fb):DE X (.BinOp a .FloorDiv b pos) (f2 jM fa fb):=rD Dq zm ha hb
noncomputable def gq:D->D->Option D:=qJ (fun _ j=>0 < j) fun i j=>.int (i % j)
theorem Bk.mod(C:Bk X N sc k)(ha:DE X a fa)(hb:DE X b fb):DE X (.BinOp a .Mod b pos) (f2 gq fa fb):=rD FG zm ha hb
noncomputable def CY:D->D->Option D:=qJ (fun _ _=>True) fun i j=>.bool (decide (i < j))
noncomputable def uf:D->D->Option D:=qJ (fun _ _=>True) fun i j=>.bool (decide (i<=j))
noncomputable def BI:D->D->Option D:=qJ (fun _ _=>True) fun i j=>.bool (decide (j < i))
noncomputable def Jw:D->D->Option D:=fun x y=>((qJ (fun _ _=>True) fun i j=>.bool (decide (j<=i))) x y).or ((Ia x y).map PyData.bool)
noncomputable def bJ:D->D->Option D:=fun x y=>(EI x y).map PyData.bool
noncomputable def dP:D->D->Option D:=fun x y=>(Fs x y).map PyData.bool
noncomputable def oq:D->D->Option D:=fun x y=>(Iz x y).map PyData.bool
theorem Bk.u64(C:Bk X N sc k):X.A.units+64 < cLine:=C.room.units
theorem Bk.u66(C:Bk X N sc k):X.A.units+66 < cLine:=by have:=C.room.un;omega
theorem Bk.lt(C:Bk X N sc k)(ha:DE X a fa)(hb:DE X b fb):DE X (.Compare a [.Lt] [b] pos) (f2 CY fa fb):=fM xY fK ha hb (cw _)
theorem Bk.le(C:Bk X N sc k)(ha:DE X a fa)(hb:DE X b fb):DE X (.Compare a [.LtE] [b] pos) (f2 uf fa fb):=fM A5 fK ha hb (cw _)
theorem Bk.gt(C:Bk X N sc k)(ha:DE X a fa)(hb:DE X b fb):DE X (.Compare a [.Gt] [b] pos) (f2 BI fa fb):=fM D1 fK ha hb (cw _)
theorem Bk.ge(C:Bk X N sc k)(ha:DE X a fa)(hb:DE X b fb):DE X (.Compare a [.GtE] [b] pos) (f2 Jw fa fb):=fM (D8.or (xW C.room.units0)) (l8 fK fx) ha hb (cw _)
theorem Bk.eq(C:Bk X N sc k)(ha:DE X a fa)(hb:DE X b fb):DE X (.Compare a [.Eq] [b] pos) (f2 bJ fa fb):=fM (BE C.u64) fx ha hb (cw _)
theorem Bk.ne(C:Bk X N sc k)(ha:DE X a fa)(hb:DE X b fb):DE X (.Compare a [.NotEq] [b] pos) (f2 dP fa fb):=fM (Bg C.u64) fx ha hb (cw _)
theorem Bk.isin(C:Bk X N sc k)(ha:DE X a fa)(hb:DE X b fb)(hm:behindInMarks .In b=false:=by rfl):DE X (.Compare a [.In] [b] pos) (f2 oq fa fb):=fM (Al C.u66) fx ha hb hm
theorem Bk.tlt(C:Bk X N sc k)(ha:DE X a fa)(hb:DE X b fb):DT X (.Compare a [.Lt] [b] pos) (fB (f2 CY fa fb)):=fu xY fK ha hb (cw _)
theorem Bk.tle(C:Bk X N sc k)(ha:DE X a fa)(hb:DE X b fb):DT X (.Compare a [.LtE] [b] pos) (fB (f2 uf fa fb)):=fu A5 fK ha hb (cw _)
theorem Bk.tgt(C:Bk X N sc k)(ha:DE X a fa)(hb:DE X b fb):DT X (.Compare a [.Gt] [b] pos) (fB (f2 BI fa fb)):=fu D1 fK ha hb (cw _)
theorem Bk.tge(C:Bk X N sc k)(ha:DE X a fa)(hb:DE X b fb):DT X (.Compare a [.GtE] [b] pos) (fB (f2 Jw fa fb)):=fu (D8.or (xW C.room.units0)) (l8 fK fx) ha hb (cw _)
theorem Bk.teq(C:Bk X N sc k)(ha:DE X a fa)(hb:DE X b fb):DT X (.Compare a [.Eq] [b] pos) (fB (f2 bJ fa fb)):=fu (BE C.u64) fx ha hb (cw _)
theorem Bk.tne(C:Bk X N sc k)(ha:DE X a fa)(hb:DE X b fb):DT X (.Compare a [.NotEq] [b] pos) (fB (f2 dP fa fb)):=fu (Bg C.u64) fx ha hb (cw _)
theorem Bk.tin(C:Bk X N sc k)(ha:DE X a fa)(hb:DE X b fb)(hm:behindInMarks .In b=false:=by rfl):DT X (.Compare a [.In] [b] pos) (fB (f2 oq fa fb)):=fu (Al C.u66) fx ha hb hm
noncomputable def mO:D->Option Int->Option Int->Option D|.tuple ds,lo,hi=>some (.tuple (cut ds lo hi))|.list ds,lo,hi=>some (.list (cut ds lo hi))|_,_,_=>none
theorem Bk.cut(C:Bk X N sc k){lo hi:Option Expr}{fl fh:Env->Option (Option Int)}(ha:DE X a fa)(hl:DO X lo fl)(hh:DO X hi fh):DE X (.Subscript a (.Slice lo hi none p2) pos) (uJ mO fa fl fh):=aG (zl (FX.or Cw) ha hl hh) fun σ H Q ⟨HF,ρ,d,sm,eo,hf,q⟩=>by
 obtain⟨x,hx,hf⟩:=bs hf
 obtain⟨l,hl,hf⟩:=bs hf
 obtain⟨u,hu,hf⟩:=bs hf
 refine⟨HF,ρ,x,sm,eo,hx,fun v1 H1 HF1 g1 r1=>⟨HF1,ρ,l,g1.fh,eo.mono g1.ff,hl,fun H2 HF2 g2=>⟨HF2,ρ,u,g2.fh,eo.mono (g1.ff.trans g2.ff),hu,fun H3 HF3 g3=>?_⟩⟩⟩
 have G:=(g1.trans g2).trans g3
 have r3:=r1.mono (g2.ff.trans g3.ff)
 cases x<;>try cases hf
 ·simp only[Rep] at r3
  obtain⟨b,vs,rfl,hs,rr⟩:=r3
  refine .inr ⟨b,vs,rfl,G.fh.seq hs,fun p hp=>q _ _ _ (G.trans (.new G.fh hp)) ?_⟩
  simp only[Rep]
  exact⟨p,_,rfl,.inl (.inl aw),(ni rr l u).mono (cZ (G.fh.free hp))⟩
 ·simp only[Rep] at r3
  obtain⟨b,vs,rfl,hs,rr⟩:=r3
  refine .inl ⟨b,vs,rfl,au G.fh hs,fun e=>q _ H3 HF3 G ?_,fun p hp=>q _ _ _ (G.trans (.new G.fh hp)) (bx (G.fh.free hp) (ni rr l u))⟩
  simp only[Rep]
  refine⟨b,vs,rfl,hs,?_⟩
  have:=ni rr l u
  rw[e] at this
  exact this
noncomputable def HJ:D->Option D|.int i=>some (.int (-i))|_=>none
theorem Bk.neg(C:Bk X N sc k)(ha:DE X a fa):DE X (.UnaryOp .USub a pos) (f1 HJ fa):=aG (AC tV ha) fun σ H Q ⟨HF,ρ,d,sm,eo,hf,q⟩=>by
 obtain⟨x,hx,hf⟩:=bs hf
 refine⟨HF,ρ,x,sm,eo,hx,fun v1 H1 HF1 g1 r1=>?_⟩
 cases x<;>try cases hf
 exact⟨_,by simpa only[Rep] using r1,q _ H1 HF1 g1 (by simp[Rep])⟩
theorem uh:bootBuiltins "len"=some (.builtin "len"):=by decide +kernel
theorem n8:bootBuiltins "isinstance"=some (.builtin "isinstance"):=by decide +kernel
theorem EE:bootBuiltins "int"=some (.type "int"):=by decide +kernel
theorem Bp:bootBuiltins "tuple"=some (.type "tuple"):=by decide +kernel
theorem B7:bootBuiltins "list"=some (.type "list"):=by decide +kernel
theorem rC:bootBuiltins "range"=some (.type "range"):=by decide +kernel
theorem Gh:bootBuiltins "all"=some (.builtin "all"):=by decide +kernel
theorem za:bootBuiltins "set"=some (.type "set"):=by decide +kernel
theorem kj:bootBuiltins "sorted"=some (.builtin "sorted"):=by decide +kernel
theorem jP:bootBuiltins "enumerate"=some (.type "enumerate"):=by decide +kernel
theorem Ar:bootBuiltins "zip"=some (.type "zip"):=by decide +kernel
end
noncomputable abbrev bT(f:Env->Option (List D)):Env->Option D:=fun ρ=>(f ρ).map PyData.list
noncomputable abbrev aN:List D->Option D:=fun ds=>(bU ds).map PyData.tuple
section
variable {X:Cx}{N:List Str}{sc:Scope}{k:Nat}
theorem Bk.locl(C:Bk X N sc k){x:Str}(h:decide (sc.names.lookup x=some .local)=true):X.env.scope.names.lookup x=some .local:=by
 rcases C.tb x _ (of_decide_eq_true h) with q|⟨q,_⟩
 ·exact q
 ·cases q
noncomputable def isStar:Expr->Bool|.Starred ..=>true|_=>false
theorem aK{e:Expr}{es:List Expr}{env:PySem.Env}(h:isStar e=false):starEach (e::es) env=(false,eval e env)::starEach es env:=by
 cases e<;>first|rfl|cases h
theorem F3{e:Expr}{es:List Expr}{f:Env->Option D}{g:Env->Option (List D)}(he:DE X e f)(hs:DA X es g)(h:isStar e=false:=by rfl):DA X (e::es) (aa f g):=vR he hs (aK h)
theorem l9{elt:Expr}{gens:List Comprehension}{scope:Scope}{pos py:Pos}{x:Str}{line:Nat}{env:PySem.Env}:swapsWith (.ListComp elt gens scope pos) (some (.Name x py)) line env=pure (env.blockKind == .function&&env.kindOf x == some .local && py.line == pos.line
     &&!(scope.names.any fun (n,k)=>n == x&&(k == .local || k == .cell))):=rfl
theorem DN{env:PySem.Env}(h:env.scope.kind=.function):env.blockKind=.function:=by unfold PySem.Env.blockKind;rw[h];rfl
theorem Bk.swap(C:Bk X N sc k){elt:Expr}{gens:List Comprehension}{scope:Scope}{pos py:Pos}{x:Str}{line:Nat}(h:decide (sc.names.lookup x=some .local)=true)(h2:(py.line == pos.line&&!(scope.names.any fun (n,k)=>n == x&&(k == .local || k == .cell)))=true) :
  swapsWith (.ListComp elt gens scope pos) (some (.Name x py)) line X.env=pure true:=by
 rw[l9,DN C.kd,show X.env.kindOf x=some .local from C.locl h]
 rw[Bool.and_assoc,h2]
 rfl
theorem Bk.noswap(C:Bk X N sc k){elt:Expr}{gens:List Comprehension}{scope:Scope}{pos py:Pos}{x:Str}{line:Nat}(h:decide (sc.names.lookup x=some .cell)=true) :
  swapsWith (.ListComp elt gens scope pos) (some (.Name x py)) line X.env=pure false:=by
 have q:X.env.kindOf x=some .cell:=by
  rcases C.tb x _ (of_decide_eq_true h) with q|⟨q,_⟩
  ·exact q
  ·cases q
 rw[l9,q,DN C.kd]
 rfl
end
section
variable {K:W.Frag}
structure aW(K:W.Frag)(x:Str)(st:Stmt)(ps:List Str):Prop where
 ex:∃ (f:Addr) (fd:FuncData),W.nsIn K mainGlobals x=some (some (.ref f))/\C0 K x x st f fd/\Binds K fd ps []
structure dc(K:W.Frag)(mg:Str->Option Value)(x:Str)(st:Stmt)(ps:List Str):Prop where
 ex:∃ (f:Addr) (fd:FuncData),mg x=some (.ref f)/\C0 K x x st f fd/\Binds K fd ps []
theorem aW.mg{h:Heap}{mg:Str->Option Value}{x:Str}{st:Stmt}{ps:List Str}(D:aW K x st ps)(X:K.In h)(G:h.Ns mainGlobals mg):dc K mg x st ps:=by
 obtain⟨f,fd,a,b,c⟩:=D.ex
 exact⟨f,fd,W.mg_of X G a,b,c⟩
def fw(st:Stmt)(ps:List Str):Prop:=∀ (x qual:Str) (kV doc pm:Value) (an:Option Addr) (cdv ct:Value) (us:List Value),us.length=ps.length->bindArgs (W.fnOf x qual (eS st) (bM st) (aA st) .none kV doc pm an cdv ct) ⟨us,[]⟩=pure (ps.zip us)
theorem HK{x:Str}{st:Stmt}{ps:List Str}{f:Addr}{oc:Value}{od an:Option Addr}{osl:Array (Option Value)}{kV doc pm cdv ct:Value}(hb:fw st ps)(a:W.nsIn K mainGlobals x=some (some (.ref f)))(l:K.lookup f=some ⟨oc,od,.func (W.fnOf x x (eS st) (bM st) (aA st) .none kV doc pm an cdv ct),osl⟩)
  (c:W.codeIn K cdv x=true) (k:W.keepIn K (.ref f)=true):aW K x st ps:=⟨f,_,a,qE (st:=st) l c k,(qE (st:=st) l c k).binds fun kV doc pm an cdv ct us h=>hb _ _ kV doc pm an cdv ct us h⟩
structure pe(K:W.Frag)(x:Str)(st:Stmt)(ps:List Str):Prop where
 ex:∃ (f:Addr) (fd:FuncData) (c P:Addr),W.nsIn K mainGlobals x=some (some (.ref f))/\C0 K x x st f fd/\Binds K fd ps []/\fd.code=.ref c/\W.codeHdIn K c P=true
structure C8(K:W.Frag)(mg:Str->Option Value)(x:Str)(st:Stmt)(ps:List Str):Prop where
 ex:∃ (f:Addr) (fd:FuncData) (c P:Addr),mg x=some (.ref f)/\C0 K x x st f fd/\Binds K fd ps []/\fd.code=.ref c/\W.codeHdIn K c P=true
theorem pe.mg{h:Heap}{mg:Str->Option Value}{x:Str}{st:Stmt}{ps:List Str}(D:pe K x st ps)(X:K.In h)(G:h.Ns mainGlobals mg):C8 K mg x st ps:=by
 obtain⟨f,fd,c,P,a,b⟩:=D.ex
 exact⟨f,fd,c,P,W.mg_of X G a,b⟩
noncomputable def De(K:W.Frag)(c:Addr):Addr:=match K.lookup c with
 | some ⟨_,_,.fields vs,_⟩=>(match (vs[11]?:Option Value) with|some (.ref P)=>P|_=>0)
 | _=>0
theorem HD{x:Str}{st:Stmt}{ps:List Str}{f c:Addr}{oc:Value}{od an:Option Addr}{osl:Array (Option Value)}{kV doc pm ct:Value}(hb:fw st ps)(a:W.nsIn K mainGlobals x=some (some (.ref f)))(l:K.lookup f=some ⟨oc,od,.func (W.fnOf x x (eS st) (bM st) (aA st) .none kV doc pm an (.ref c) ct),osl⟩)
  (cd:W.codeIn K (.ref c) x=true) (k:W.keepIn K (.ref f)=true) (hh:W.codeHdIn K c (De K c)=true):pe K x st ps:=⟨f,_,c,De K c,a,qE (st:=st) l cd k,(qE (st:=st) l cd k).binds fun kV doc pm an cdv ct us h=>hb _ _ kV doc pm an cdv ct us h,rfl,hh⟩
theorem DR{x:Str}{i:Int}{t:Tok}(h:W.nsIn K mainGlobals x=some (some (.int i t))):∃t,W.nsIn K mainGlobals x=some (some (.int i t)):=⟨t,h⟩
theorem GB{K:W.Frag}(h0:W.nsIn K mainGlobals "len"=some none)(h1:W.nsIn K mainGlobals "isinstance"=some none)(h2:W.nsIn K mainGlobals "int"=some none)(h3:W.nsIn K mainGlobals "bool"=some none)(h4:W.nsIn K mainGlobals "tuple"=some none)(h5:W.nsIn K mainGlobals "list"=some none)(h6:W.nsIn K mainGlobals "range"=some none)(h7:W.nsIn K mainGlobals "all"=some none)(h8:W.nsIn K mainGlobals "any"=some none)(h9:W.nsIn K mainGlobals "set"=some none)(h10:W.nsIn K mainGlobals "sorted"=some none)(h11:W.nsIn K mainGlobals "enumerate"=some none)(h12:W.nsIn K mainGlobals "zip"=some none)(h13:W.nsIn K mainGlobals "sum"=some none)(h14:W.nsIn K mainGlobals "min"=some none)(h15:W.nsIn K mainGlobals "max"=some none)(h16:W.nsIn K mainGlobals "reversed"=some none):∀x∈cg,W.nsIn K mainGlobals x=some none:=by
 intro x hx
 simp only[cg,zR,yG,or_false] at hx
 rcases hx with rfl|rfl|rfl|rfl|rfl|rfl|rfl|rfl|rfl|rfl|rfl|rfl|rfl|rfl|rfl|rfl|rfl<;>assumption
theorem uc{K:W.Frag}{H:Hp}{a:Addr}{ns:List Int}{m:List D->Option D}(hS:fj K H a (ns.map V.int))(hT:eG K H)(h:m [.list (ns.map PyData.int)]=some (.bool true)){X:_}:Gc K 1 m [.ref a] H (fun v _=>v=.bl true) X:=by
 refine⟨H,[.list (ns.map PyData.int)],.bool true,.refl _,hT,aj.cons ?_ aj.nil,rfl,h,fun v H' HF' G r=>by simpa only[Rep] using r⟩
 simp only[Rep]
 refine⟨a,_,rfl,hS,?_⟩
 clear h hS hT
 induction ns with
 | nil=>exact aj.nil
 | cons n ns ih=>exact aj.cons (by simp[Rep]) ih
end
theorem JF{X:Cx}{e:Expr}{es:List Expr}{f:Env->Option D}{g:Env->Option (List D)}(h:isStar e=false)(he:DE X e f)(hs:DA X es g):DA X (e::es) (aa f g):=F3 he hs h
section
variable {X:Cx}{N:List Str}{sc:Scope}{k:Nat}{HF₀ H₀:Hp}{e c:Expr}{es:List Expr}{fs:Env->Option (List D)}{pos p:Pos}
noncomputable def Im:ao->Option Out:=fun _=>none
theorem Hm{st:Stmt}:DS X HF₀ H₀ st Im:=fun pins s σ H E I ⟨HF,ρ,o,S,hg,q⟩=>by cases hg
noncomputable def lJ(f:Env->Option D):ao->Option Out:=fun ρ=>(f (aV ρ)).map fun _=>.nx ρ
theorem B2{f:Env->Option D}(hs:swapsWith e none pos.line X.env=pure false)(h:DE X e f):DS X HF₀ H₀ (.Expr e pos) (lJ f):=cq (lW h hs) fun E σ H ⟨HF,ρ,o,S,hg,q⟩=>by
 obtain⟨d,h,rfl⟩:=ae hg
 exact⟨H,aV ρ,d,.refl _,S.all,h,fun v H' HF' G r=>q σ H' HF (S.step G.hh) (.refl _)⟩
noncomputable def GK(t:Env->Option Bool)(gb:ao->Option Out):Nat->ao->Option Out
 | 0,_=>none
 | n+1,ρ=>(t (aV ρ)).bind fun b=>if b=true then (gb ρ).bind fun|.nx ρ'=>GK t gb n ρ'|.rt d=>some (.rt d) else some (.nx ρ)
theorem Bc(n:Nat){body:List Stmt}{t:Env->Option Bool}{gb:ao->Option Out}(hp:PassesOwn (model X.prog X.w) X.A X.env X.xe)(hc:DT X c t)(hb:xV X HF₀ H₀ body gb):DS X HF₀ H₀ (.While c body [] pos) (GK t gb n) :=
 cq (z6 hp hc hb) fun E σ H ⟨HF,ρ,o,S,hg,q⟩=>by
  refine⟨fun m σ' H'=>∃HF' ρ',hZ X.K HF₀ H₀ HF' H' ρ' σ'/\aH HF HF'/\GK t gb m ρ'=some o,⟨n,HF,ρ,S,.refl _,hg⟩,?_⟩
  rintro m σ' H' ⟨HF',ρ',S',s',hf⟩
  cases m with
  | zero=>cases hf
  | succ m =>
   unfold GK at hf
   obtain⟨b,hb,hf⟩:=bs hf
   refine⟨H',aV ρ',b,.refl _,S'.all,hb,fun H1 HF1 G=>?_⟩
   cases b with
   | false =>
    rw[if_neg Bool.false_ne_true] at hf ⊢
    cases hf
    exact q σ' H1 HF' (S'.step G.hh) s'
   | true =>
    rw[if_pos rfl] at hf ⊢
    obtain⟨o1,h2,hf⟩:=bs hf
    refine⟨fun σ2 H3=>∃HF3 ρ3,hZ X.K HF₀ H₀ HF3 H3 ρ3 σ2/\aH HF HF3/\GK t gb m ρ3=some o,fun σ2 H3 ⟨HF3,ρ3,a1,a2,a3⟩=>⟨m,Nat.lt_succ_self _,HF3,ρ3,a1,a2,a3⟩,HF',ρ',o1,S'.step G.hh,h2,?_⟩
    cases o1 with
    | nx ρ2=>exact fun σ4 H4 HF4 S4 s4=>⟨HF4,ρ2,S4,s'.trans s4,hf⟩
    | rt d=>cases hf;exact q
noncomputable def fF:List D->Option D
 | [.int a,.int b]=>some (.int (min a b))
 | [.int a,.int b,.int c]=>some (.int (min (min a b) c))
 | _=>none
theorem zc(hc:X.calm=true):cO X (.builtin "min") (fun xs H Q=>(∃a b:Int,xs=[.int a,.int b]/\Q (.int (min a b)) H)\/(∃a b c:Int,xs=[.int a,.int b,.int c]/\Q (.int (min (min a b) c)) H)):=by
 intro pins s σ H xs us Q I r h
 have hh:X.A.handled=none:=I.ok.hd hc
 rcases h with ⟨a,b,rfl,q⟩|⟨a,b,c,rfl,q⟩
 ·cases r with
  | cons r1 r =>
   cases r with
   | cons r2 r =>
    cases r
    obtain⟨t,rfl⟩:=r1
    obtain⟨u,rfl⟩:=r2
    refine min_two_ints hh fun h' tk kp=>⟨.int (min a b),H,I.kept (t':=tk) kp,?_,q⟩
    by_cases h:b < a
    ·rw[if_pos h,show min a b=b by omega];exact⟨_,rfl⟩
    ·rw[if_neg h,show min a b=a by omega];exact⟨_,rfl⟩
 ·cases r with
  | cons r1 r =>
   cases r with
   | cons r2 r =>
    cases r with
    | cons r3 r =>
     cases r
     obtain⟨t,rfl⟩:=r1
     obtain⟨u,rfl⟩:=r2
     obtain⟨x,rfl⟩:=r3
     refine min_three_ints hh fun h' tk kp=>⟨.int (min (min a b) c),H,I.kept (t':=tk) kp,?_,q⟩
     by_cases h:b < a
     ·rw[if_pos h]
      by_cases h2:c < b
      ·rw[if_pos h2,show min (min a b) c=c by omega];exact⟨_,rfl⟩
      ·rw[if_neg h2,show min (min a b) c=b by omega];exact⟨_,rfl⟩
     ·rw[if_neg h]
      by_cases h2:c < a
      ·rw[if_pos h2,show min (min a b) c=c by omega];exact⟨_,rfl⟩
      ·rw[if_neg h2,show min (min a b) c=a by omega];exact⟨_,rfl⟩
theorem mj{K:W.Frag}{H:Hp}{d:D}{v:V}(r:Rep K H d v):∀ {ds:List D}{vs:List V}(j:Nat),aj K H ds vs->aj K H (ds.set j d) (vs.set j v)
 | [],vs,j,h=>by rw[h.nil_inv];exact aj.nil
 | x::ds,vs,j,h=>by
  obtain⟨u,us,rfl,a,b⟩:=h.cons_inv
  cases j with
  | zero=>exact aj.cons r b
  | succ j=>exact aj.cons a (mj r j b)
noncomputable def uI(i:Nat)(fz:List Nat)(fk f:Env->Option D):ao->Option Out:=fun ρ=>(lb fz f ρ).bind fun p=>(fk (aV p.2)).bind fun kd=>match kd with
 | .int k=>kq i (fun ds=>(xR ds.length k).map fun j=>ds.set j p.1) p.2
 | _=>none
theorem A1(i:Nat)(fz:List Nat){x:Str}{e2:Expr}{px spos:Pos}{fk f:Env->Option D}(hN:X.N[i]?=some x)(hv:Ct X.env.scope x)(hk:DE X e fk)(h:DE X e2 f)(hd:(x == ("__debug__":Str))=false:=by decide)(hcd:(x == ("__classdict__":Str))=false:=by decide)
  (ha:∀v,assign (.Subscript (.Name x px) e spos) X.env v=(do
   let ov <- holding [v] (eval (.Name x px) X.env)
   let iv <- holding [v,ov] (eval e X.env)
   standAt spos
   holding [v,ov,iv] (setItem ov iv v)
   release [v,ov,iv] []):=by intro _;rfl)
  (hs:swapsWithSole [.Subscript (.Name x px) e spos] e2 pos.line X.env=pure false:=by rfl) (hw:swappedStores [.Subscript (.Name x px) e spos] e2 X.env=pure none:=by rfl)
  (h1:(assignEach [.Subscript (.Name x px) e spos] X.env).map (·.2)=[assign (.Subscript (.Name x px) e spos) X.env]:=by rfl):DS X HF₀ H₀ (.Assign [.Subscript (.Name x px) e spos] e2 pos) (uI i fz fk f) :=
 cq (tH h (Ao (kR hN hv hd hcd) hk set_list ha) hs hw h1) fun E σ H ⟨HF,ρ,o,S,hg,q⟩=>by
  obtain⟨⟨d,ρ'⟩,h1,hg⟩:=bs hg
  obtain⟨kd,h2,hg⟩:=bs hg
  cases kd<;>try cases hg
  rename_i k
  obtain⟨ds,es,h3,h4,rfl⟩:=gc hg
  obtain⟨j,hj,rfl⟩:=ae h4
  refine kZ S h1 fun v H1 HF1 s1 S1 s2 r=>?_
  obtain⟨a,vs,e1,e2,e3,e5,e4⟩:=S1.own i ds h3
  refine⟨.ref a,e1,H1,aV ρ',.int k,.refl _,S1.all,h2,fun kv H2 HF2 G rk=>?_⟩
  simp only[Rep] at rk
  have S2:=S1.step G.hh
  obtain⟨a',vs',f1,f2,f3,f5,f4⟩:=S2.own i ds h3
  rw[e1] at f1;cases f1
  exact⟨a,vs',k,j,rfl,rk,f2,by rw[f4.length];exact hj,q σ _ HF1 (S2.mut h3 e1 f2 (mj r j f4)) s1⟩
end
section
variable {X:Cx}{N:List Str}{sc:Scope}{k:Nat}{HF₀ H₀:Hp}{a b e c:Expr}{es:List Expr}{fa fb:Env->Option D}{fs:Env->Option (List D)}{pos p:Pos}
noncomputable def Ha:D->Bool|.none=>true|_=>false
theorem lZ{K:W.Frag}{HF:Hp}{d:D}{v:V}(r:Rep K HF d v):decide (v=.non)=Ha d:=by
 cases d<;>simp only[Rep] at r<;>first
  | (subst r;rfl)
  | (obtain⟨a,vs,rfl,_⟩:=r;rfl)
  | exact r.elim
noncomputable def yc:D->D->Option D:=fun x y=>if Ha y=true then some (.bool (Ha x)) else none
noncomputable def sY:D->D->Option D:=fun x y=>if Ha y=true then some (.bool (!Ha x)) else none
theorem vy{K:W.Frag}:dZ K (fun x y H Q=>y=.non/\Q (.bl (decide (x=.non))) H) yc:=by
 intro HF H x y v1 v2 d Q sm r1 r2 hg q
 unfold yc at hg
 split at hg
 ·rename_i h
  cases hg
  have h2:=lZ r2
  rw[h,zJ] at h2
  refine⟨h2,?_⟩
  rw[lZ r1]
  exact q _ H HF (.refl sm) (by simp[Rep])
 ·cases hg
theorem sF{K:W.Frag}:dZ K (fun x y H Q=>y=.non/\Q (.bl (!decide (x=.non))) H) sY:=by
 intro HF H x y v1 v2 d Q sm r1 r2 hg q
 unfold sY at hg
 split at hg
 ·rename_i h
  cases hg
  have h2:=lZ r2
  rw[h,zJ] at h2
  refine⟨h2,?_⟩
  rw[lZ r1]
  exact q _ H HF (.refl sm) (by simp[Rep])
 ·cases hg
theorem Bk.is0(C:Bk X N sc k)(ha:DE X a fa)(hb:DE X b fb):DE X (.Compare a [.Is] [b] pos) (f2 yc fa fb):=fM Aq vy ha hb (cw _)
theorem Bk.not0(C:Bk X N sc k)(ha:DE X a fa)(hb:DE X b fb):DE X (.Compare a [.IsNot] [b] pos) (f2 sY fa fb):=fM vD sF ha hb (cw _)
theorem Bk.tis0(C:Bk X N sc k)(ha:DE X a fa)(hb:DE X b fb):DT X (.Compare a [.Is] [b] pos) (fB (f2 yc fa fb)):=fu Aq vy ha hb (cw _)
theorem Bk.tnot0(C:Bk X N sc k)(ha:DE X a fa)(hb:DE X b fb):DT X (.Compare a [.IsNot] [b] pos) (fB (f2 sY fa fb)):=fu vD sF ha hb (cw _)
theorem Fw(hc:X.calm=true)(B:jj X "min" (.builtin "min"))(he:starEach (e::es) X.env=(false,eval e X.env)::starEach es X.env)(hpl:(backTo pos (starEach es X.env)).any (·.1)=false)(ha:DA X (e::es) fs):DE X (.Call (.Name "min" p) (e::es) [] pos) (ba fF fs) :=
 fU (zc hc) (by
  intro HF H ds vs d Q sm r hg q
  unfold fF at hg
  split at hg
  ·cases hg
   obtain⟨v1,r1,rfl,a1,b1⟩:=r.cons_inv
   obtain⟨v2,r2,rfl,a2,b2⟩:=b1.cons_inv
   rw[b2.nil_inv]
   simp only[Rep] at a1 a2
   exact .inl ⟨_,_,by rw[a1,a2],q _ H HF (.refl sm) (by simp[Rep])⟩
  ·cases hg
   obtain⟨v1,r1,rfl,a1,b1⟩:=r.cons_inv
   obtain⟨v2,r2,rfl,a2,b2⟩:=b1.cons_inv
   obtain⟨v3,r3,rfl,a3,b3⟩:=b2.cons_inv
   rw[b3.nil_inv]
   simp only[Rep] at a1 a2 a3
   exact .inr ⟨_,_,_,by rw[a1,a2,a3],q _ H HF (.refl sm) (by simp[Rep])⟩
  ·cases hg) B ha (by decide) (by decide) he hpl
end
section
variable {X:Cx}{a b e c:Expr}{es:List Expr}{fa fb:Env->Option D}{fl fs:Env->Option (List D)}{pos p:Pos}
noncomputable def vV(ds:List D):D->Option (List D)
 | .int k=>if sC k=true/\ds.length * k.toNat<=sizeLine then some (List.replicate k.toNat ds).flatten else none
 | _=>none
noncomputable def k8(fl:Env->Option (List D))(fb:Env->Option D):Env->Option (List D):=fun ρ=>(fl ρ).bind fun ds=>(fb ρ).bind (vV ds)
theorem E2(ha:DF X a fl)(hb:DE X b fb):DF X (.BinOp a .Mult b pos) (k8 fl fb):=aG (AK E4 ha hb) fun σ H Q ⟨HF,ρ,d,sm,eo,hf,q⟩=>by
 obtain⟨ds,hx,hf⟩:=bs hf
 obtain⟨y,hy,hg⟩:=bs hf
 refine⟨HF,ρ,ds,sm,eo,hx,fun l vs H1 HF1 g1 h0 hn h1 r1=>⟨HF1,ρ,y,g1.fh,eo.mono g1.ff,hy,fun v2 H2 HF2 g2 r2=>?_⟩⟩
 cases y<;>try cases hg
 rename_i k
 have hg:(if sC k=true/\ds.length * k.toNat<=sizeLine then some (List.replicate k.toNat ds).flatten else none)=some d:=hg
 split at hg
 ·rename_i hz
  cases hg
  simp only[Rep] at r2
  have r1:=r1.mono g2.ff
  have G:=g1.trans g2
  have ok:=hz.1
  simp only[sC,zF,zJ] at ok
  exact⟨l,k,vs,rfl,r2,g2.hh _ _ h1,by omega,by omega,by rw[r1.length];exact hz.2,fun p hp=>q p _ _ HF2 (G.trans (.own G.fh hp)) (G.hh.free hp) (G.fh.free hp) aw (jT r1 _)⟩
 ·cases hg
theorem um(hc:X.calm=true):cO X (.builtin "any") (fun xs H Q=>∃ (a:Addr) (bs:List Bool),xs=[.ref a]/\fj X.K H a (bs.map V.bl)/\Q (.bl (bs.any id)) H):=by
 intro pins s σ H xs us Q I r h
 obtain⟨a,bs,rfl,hq,q⟩:=h
 obtain⟨u,rfl,rx⟩:=vals1 r
 cases rx
 obtain⟨its,rv,pl,hz⟩:=I.list hq
 have hv:=ju rv
 subst hv
 have hh:X.A.in1.handled=none:=I.ok.hd hc
 refine call_any_walk (wpAny_pyIter_list pl.isList ?_)
 obtain⟨o,ho,hcl,n,hd⟩:=pl.isList
 have hne:a≠s.heap.objs.size:=Nat.ne_of_lt (zZ ho)
 refine⟨_,_,_,_,_,_,fun i=>bs.getD i false,rfl,Walks.list hh s.heap.objs.size a hne (bs.map Value.bool).toArray,⟨⟨_,zY _ rfl,rfl,rfl⟩,pl.isList.push _⟩,fun i v s' Q' E' hP hQ=>?_,fun h' tk kp=>?_⟩
 ·have e:v=Value.bool (bs.getD i false):=by
   have hP:(bs.map Value.bool).toArray[i]?=some v:=hP
   rw[List.getElem?_toArray,zO] at hP
   obtain⟨b,hb,rfl⟩:=ae hP
   rw[zG,hb]
   rfl
  subst e
  exact wpAny_truthy_bool hQ
 ·refine⟨.bl (bs.any id),H,?_,?_,q⟩
  ·exact I.kept (t':=tk) fun b o' e=>kp b o' (by simp;exact Nat.ne_of_lt (zZ e)) (zV _ e)
  ·show Value.bool _=Value.bool _
   have:=range_any bs
   simp only[zH,zD]
   rw[this]
end
section
variable {X:Cx}{e:Expr}{fs:Env->Option (List D)}{pos p:Pos}
theorem FZ(hc:X.calm=true)(B:jj X "any" (.builtin "any"))(he:starEach [e] X.env=(false,eval e X.env)::starEach [] X.env)(ha:DA X [e] fs):DE X (.Call (.Name "any" p) [e] [] pos) (ba (fun ds=>(oneOf ds).bind fun d=>match d with
 | .list es=>(boolsOf es).map fun bs=>.bool (bs.any id)
 | _=>none) fs) :=
 fU (um hc) (by
  intro HF H ds vs d Q sm r hg q
  obtain⟨x,hx,hg⟩:=bs hg
  rw[eH hx] at r
  cases x<;>try cases hg
  obtain⟨bs,hb,rfl⟩:=ae hg
  obtain⟨v,r',rfl,a,b⟩:=r.cons_inv
  rw[b.nil_inv]
  simp only[Rep] at a
  obtain⟨p,us,rfl,h,rr⟩:=a
  rw[gy hb] at rr
  have:=jH rr
  subst this
  exact⟨p,bs,rfl,sm.seq h,q _ H HF (.refl sm) (by simp[Rep])⟩) B ha (by decide) (by decide) he rfl
theorem lx(ns:List Int):∀j:Nat,preSum (fun i=>ns.getD i 0) j=(ns.take j).sum
 | 0=>by simp[preSum]
 | j+1=>by
  rw[preSum,lx ns j,List.take_add_one,List.sum_append]
  congr 1
  rw[zG]
  cases ns[j]?<;>simp
theorem oH(val:Nat->Int)(B:Int)(h:∀i,-B<=val i/\val i<=B):∀j:Nat,-(B * j)<=preSum val j/\preSum val j<=B * j
 | 0=>by simp[preSum]
 | j+1=>by
  have ih:=oH val B h j
  have:=h j
  rw[preSum]
  have e:B * ((j+1:Nat):Int)=B * (j:Int)+B:=by rw[Int.natCast_add,Int.mul_add];simp
  rw[e]
  omega
noncomputable def FL(ns:List Int):Bool:=decide (ns.length<=1000)&&ns.all fun n=>decide (-1000000<=n)&&decide (n<=1000000)
theorem Gw{ns:List Int}(h:FL ns=true):ns.length<=1000/\∀i,-1000000<=ns.getD i 0/\ns.getD i 0<=1000000:=by
 unfold FL at h
 rw[zF,zJ,List.all_eq_true] at h
 refine⟨h.1,fun i=>?_⟩
 rw[zG]
 cases e:ns[i]? with
 | none=>simp
 | some n =>
  have:=h.2 n (List.mem_of_getElem? e)
  simpa using this
theorem lQ{ns:List Int}{its:List Value}(r:ax (ns.map V.int) its){i:Nat}{v:Value}(h:its.toArray[i]?=some v):∃t,v=.int (ns.getD i 0) t:=by
 rw[List.getElem?_toArray] at h
 induction ns generalizing its i with
 | nil=>cases r;simp at h
 | cons n ns ih =>
  cases r with
  | cons r1 rr =>
   cases i with
   | zero =>
    simp only[List.getElem?_cons_zero,yM] at h
    subst h
    obtain⟨t,rfl⟩:=r1
    exact⟨t,rfl⟩
   | succ i =>
    simp only[List.getElem?_cons_succ] at h
    exact ih rr h
theorem tG(hc:X.calm=true):cO X (.builtin "sum") (fun xs H Q=>∃ (a:Addr) (ns:List Int),xs=[.ref a]/\(fj X.K H a (ns.map V.int)\/fP X.K H a (ns.map V.int))/\FL ns=true/\Q (.int ns.sum) H):=by
 intro pins s σ H xs us Q I r h
 obtain⟨a,ns,rfl,hq,hok,q⟩:=h
 obtain⟨u,rfl,rx⟩:=vals1 r
 cases rx
 have hh:X.A.in1.handled=none:=I.ok.hd hc
 obtain⟨hlen,hbd⟩:=Gw hok
 have hin:∀n:Nat,n<=1000->∀j,j < n->InLong ((fun i=>ns.getD i 0) j)/\InLong (preSum (fun i=>ns.getD i 0) (j+1)):=fun n hn j hj=>by
  have h1:=hbd j
  have h2:=oH (fun i=>ns.getD i 0) 1000000 hbd (j+1)
  refine⟨⟨?_,?_⟩,?_,?_⟩
  ·show -(2 ^ 63)<=ns.getD j 0
   omega
  ·show ns.getD j 0 < 2 ^ 63
   omega
  ·omega
  ·omega
 have hsum:preSum (fun i=>ns.getD i 0) ns.length=ns.sum:=by rw[lx,List.take_length]
 rcases hq with hq|hq
 ·obtain⟨its,rv,pl,hz⟩:=I.list hq
  have hl:its.length=ns.length:=by rw[<- rv.length,zD]
  refine call_sum_walk (wpAny_pyIter_list pl.isList ?_)
  obtain⟨o,ho,hcl,n,hd⟩:=pl.isList
  have hlt:=zZ ho
  have hne:a≠s.heap.objs.size:=Nat.ne_of_lt hlt
  refine⟨_,_,_,_,_,_,fun i=>ns.getD i 0,rfl,Walks.list hh s.heap.objs.size a hne its.toArray,⟨⟨_,zY _ rfl,rfl,rfl⟩,pl.isList.push _⟩,fun b hb=>?_,fun i v hP=>lQ rv hP,by rw[zH,hl];exact hin _ hlen,fun h' tk t' kp=>?_⟩
  ·show b < (s.heap.push _).objs.size
   rw[Heap.size_push]
   simp only[zR,yG,or_false] at hb
   rcases hb with rfl|rfl
   ·exact Nat.lt_succ_self _
   ·exact Nat.lt_succ_of_lt hlt
  ·refine⟨.int ns.sum,H,I.kept (t':=tk) fun b o' e=>kp b o' (by simp;exact Nat.ne_of_lt (zZ e)) (zV _ e),⟨t',?_⟩,q⟩
   rw[zH,hl,hsum]
 ·obtain⟨its,rv,pl,hz⟩:=I.tuple hq
  have pl:s.heap.IsTuple a its.toArray:=pl
  have hl:its.length=ns.length:=by rw[<- rv.length,zD]
  refine call_sum_walk (wpAny_pyIter_tuple pl ?_)
  obtain⟨o,ho,hcl,n,hd⟩:=id pl
  have hlt:=zZ ho
  have hne:a≠s.heap.objs.size:=Nat.ne_of_lt hlt
  refine⟨_,_,_,_,_,_,fun i=>ns.getD i 0,rfl,Walks.tuple hh s.heap.objs.size a hne its.toArray,⟨⟨_,zY _ rfl,rfl,rfl⟩,pl.push _⟩,fun b hb=>?_,fun i v hP=>lQ rv hP,by rw[zH,hl];exact hin _ hlen,fun h' tk t' kp=>?_⟩
  ·show b < (s.heap.push _).objs.size
   rw[Heap.size_push]
   simp only[zR,yG,or_false] at hb
   rcases hb with rfl|rfl
   ·exact Nat.lt_succ_self _
   ·exact Nat.lt_succ_of_lt hlt
  ·refine⟨.int ns.sum,H,I.kept (t':=tk) fun b o' e=>kp b o' (by simp;exact Nat.ne_of_lt (zZ e)) (zV _ e),⟨t',?_⟩,q⟩
   rw[zH,hl,hsum]
end
section
variable {X:Cx}{e:Expr}{fs:Env->Option (List D)}{pos p:Pos}
noncomputable def jX:List D->Option D:=fun ds=>(bU ds).bind fun es=>(intsOf es).bind fun ns=>if FL ns=true then some (.int ns.sum) else none
theorem gp{K:W.Frag}{H:Hp}:∀ {ns:List Int}{vs:List V},aj K H (ns.map PyData.int) vs->vs=ns.map V.int
 | [],vs,h=>h.nil_inv
 | b::bs,vs,h=>by
  obtain⟨v,r,rfl,a,c⟩:=h.cons_inv
  simp only[Rep] at a
  rw[a,gp c]
  rfl
theorem Fm(hc:X.calm=true)(B:jj X "sum" (.builtin "sum"))(he:starEach [e] X.env=(false,eval e X.env)::starEach [] X.env)(ha:DA X [e] fs):DE X (.Call (.Name "sum" p) [e] [] pos) (ba jX fs) :=
 fU (tG hc) (by
  intro HF H ds vs d Q sm r hg q
  obtain⟨es,h1,hg⟩:=bs hg
  obtain⟨ns,h2,hg⟩:=bs hg
  have hg:(if FL ns=true then some (PyData.int ns.sum) else none)=some d:=hg
  split at hg
  ·rename_i hok
   cases hg
   have e2:=bZ h2
   subst e2
   rcases eT h1 with rfl|rfl
   all_goals
    obtain⟨v,r',rfl,a,b⟩:=r.cons_inv
    rw[b.nil_inv]
    simp only[Rep] at a
    obtain⟨p,us,rfl,h,rr⟩:=a
    have:=gp rr
    subst this
   ·exact⟨p,ns,rfl,.inr (au sm h),hok,q _ H HF (.refl sm) (by simp[Rep])⟩
   ·exact⟨p,ns,rfl,.inl (sm.seq h),hok,q _ H HF (.refl sm) (by simp[Rep])⟩
  ·cases hg) B ha (by decide) (by decide) he rfl
end
section
variable {X:Cx}
noncomputable def GQ(i:Int):Value->Bool|.int a _=>a == i|_=>false
theorem wH:GP X "list.index" (fun x vs H Q=>∃ (l:Addr) (ns:List Int) (i:Int) (j:Nat),x=.ref l/\vs=[.int i]/\fj X.K H l (ns.map V.int)/\ns[j]?=some i/\(∀m,m < j->ns[m]?≠some i)/\Q (.int j) H):=by
 intro pins s σ H x vs v us Q I rx rv h
 obtain⟨l,ns,i,j,rfl,rfl,hq,hj,hno,q⟩:=h
 cases rx
 obtain⟨u,rfl,ru⟩:=rv.one
 obtain⟨t,rfl⟩:=ru
 obtain⟨its,r,pl,hz⟩:=I.list hq
 obtain⟨⟨cls,dd,data,sl⟩,ho,hc,n,hd⟩:=id pl.isList
 simp only at hc hd
 subst hc hd
 have hl:its.length=ns.length:=by rw[<- r.length,zD]
 have hj1:j < ns.length:=(zU.mp hj).1
 have hz':ns.length<=sizeLine:=by rw[zD] at hz;exact hz
 have hs63:(sizeLine:Nat) < 2 ^ 62:=by decide
 have at_:∀m (hm:m < its.toArray.size),∃t',its.toArray[m]=.int (ns.getD m 0) t':=fun m hm=>lQ r (Array.getElem?_eq_getElem hm)
 refine call_meets F.slot_list_index ⟨_,ho,rfl⟩ F.entry_list_index (F.args_list_index_2 _ _) (PySem.SeqAt.list_indexAt l its.toArray n dd sl (.int i t) (GQ i) j (by rw[zH,hl];exact hj1) (by omega) ?_ ?_) ⟨ho,?_,?_⟩
 ·obtain⟨t',e⟩:=at_ j (by rw[zH,hl];exact hj1)
  rw[e,GQ,zG,hj]
  simp
 ·intro m hm hmj
  obtain⟨t',e⟩:=at_ m hm
  have hm':m < ns.length:=by omega
  have:=hno m hmj
  rw[e,GQ,zG]
  rw[zK hm'] at this ⊢
  simp only[Option.getD_some,beq_eq_false_iff_ne]
  exact fun h=>this (by rw[h])
 ·intro y hy
  obtain⟨m,hm,rfl⟩:=Array.getElem_of_mem hy
  obtain⟨t',e⟩:=at_ m hm
  rw[e]
  exact PySem.SeqAt.EqAt.int_int _ _ _ _
 ·exact⟨.int j,H,I.tok _,⟨_,rfl⟩,q⟩
noncomputable def qM(i:Int):List Int->Option Nat
 | []=>none
 | n::ns=>if n=i then some 0 else (qM i ns).map (·+1)
theorem ku{i:Int}:∀ {ns:List Int}{j:Nat},qM i ns=some j->ns[j]?=some i/\∀m,m < j->ns[m]?≠some i
 | [],j,h=>by cases h
 | n::ns,j,h=>by
  unfold qM at h
  split at h
  ·cases h
   rename_i e
   exact⟨by rw[e];rfl,fun m hm=>absurd hm (Nat.not_lt_zero _)⟩
  ·rename_i e
   obtain⟨k,hk,rfl⟩:=ae h
   obtain⟨a,b⟩:=ku hk
   refine⟨by simpa using a,fun m hm=>?_⟩
   cases m with
   | zero=>simpa using e
   | succ m=>simpa using b m (by omega)
noncomputable def Jo:D->D->Option D
 | .list es,.int i=>(intsOf es).bind fun ns=>(qM i ns).map fun j=>.int ((j:Nat):Int)
 | _,_=>none
theorem AI{o e:Expr}{apos cpos:Pos}{fo fe:Env->Option D}(hbase:attributeBase o "index" X.env (eval o X.env)=eval o X.env)
  (hfew:((backTo cpos (starEach [e] X.env)).all (fun x=>!x.1)&&(backToKw cpos (keywordEach [] X.env)).all (fun x=>x.1.isSome)&&decide ([e].length+([]:List Keyword).length+(if ([]:List Keyword).isEmpty then 0 else 1) < 30))=true)
  (hline:(apos.endLine == cpos.line)=true) (hs:starEach [e] X.env=(false,eval e X.env)::starEach [] X.env) (ho:DE X o fo) (he:DE X e fe):DE X (.Call (.Attribute o "index" apos) [e] [] cpos) (f2 Jo fo fe) :=
 aG (oV PySem.F.plainAttrs_list PySem.F.slot_list_index PySem.F.type_list_index wH ho (bA he dh hs) hbase hfew hline hs rfl) fun σ H Q ⟨HF,ρ,d,sm,eo,hf,q⟩=>by
  obtain⟨x,hx,hf⟩:=bs hf
  obtain⟨y,hy,hg⟩:=bs hf
  refine⟨HF,ρ,x,sm,eo,hx,fun v1 H1 HF1 g1 r1=>?_⟩
  cases x<;>try cases hg
  cases y<;>try cases hg
  rename_i es i
  obtain⟨ns,h1,hg⟩:=bs hg
  obtain⟨j,h2,rfl⟩:=ae hg
  have e1:=bZ h1
  subst e1
  simp only[Rep] at r1
  obtain⟨l,us,rfl,hq,rr⟩:=r1
  have:=gp rr
  subst this
  refine⟨.inl ⟨rfl,_,g1.fh.seq hq⟩,HF1,ρ,.int i,g1.fh,eo.mono g1.ff,hy,fun v2 H2 HF2 g2 r2=>?_⟩
  simp only[Rep] at r2
  obtain⟨a,b⟩:=ku h2
  exact⟨l,ns,i,j,rfl,by rw[r2],g2.fh.seq (g2.ff.seq hq),a,b,q _ H2 HF2 (g1.trans g2) (by simp[Rep])⟩
end
end Dl
namespace Tx
open PySem PySem.SeqAt PyProof.Rows
open PySem.AutoSeq1 (wpAny_loadPart')
open PySem.MeetsSeq PySem.MeetsSeq2 PySem.MeetsSeq3
theorem wpR{M:Model}{A:Around}{E:Value->Shared->Prop}{s:Shared}{β:Type}(f:Nat->β->Sem (ForInStep β))(I:List Nat->β->Shared->Prop)(Q:β->Shared->Prop)
  (turn:∀x rest b s,I (x::rest) b s->wpAny M A (f x b) (fun r s'=>match r with|.yield b'=>I rest b' s'|.done b'=>Q b' s') E s)
  (fin:∀b s,I [] b s->Q b s) (n:Nat) (b:β) (h:I (List.range' 0 n 1) b s):wpAny M A (forIn [:n] b f) Q E s:=by
 have e:forIn [:n] b f=forIn (List.range' 0 n 1) b f:=by
  rw[Std.Legacy.Range.forIn_eq_forIn_range']
  simp[Std.Legacy.Range.size]
 rw[e]
 exact wpAny_forIn_list f I Q turn fin _ b h
theorem tuple_indexAt(l:Addr)(items:Array Value)(n:Nat)(dd:Option Addr)(sl:Array (Option Value))(x:Value)(e:Value->Bool)(j:Nat)(hj:j < items.size)(h1:e items[j]=true)(h2:∀m (hm:m < items.size),m < j->e items[m]=false) :
  Meets (Builtin.«tuple.index» ⟨[.ref l,x],[]⟩)
   (fun A R s=>s.heap.get? l=some { cls:=.type "tuple",dict:=dd,data:=.seq items n,slots:=sl }/\(∀y,y∈items->EqAt A.in1 s y x (e y))/\R (.ok (.ret (.int (j:Nat) s.toks))) { s with toks:=s.toks+1 }) :=
 .of_wp fun prog w A R s h=>by
  obtain⟨hp,g,d,tk,os⟩:=s;obtain⟨hl,he,h⟩:=h
  wp_walk using wpAny_loadPart' hl,wpR _ (fun rest b s'=>s'=⟨hp,g,d,tk,os⟩/\b.1=none/\∃i,i<=j/\rest=List.range' i (items.size - i) 1) _
  case turn =>
   rintro i rest b s' ⟨rfl,hb,i',hi,e1⟩
   have hlt:i' < items.size:=by omega
   rw[show items.size - i'=(items.size - (i'+1))+1 by omega,List.range'_succ] at e1
   injection e1 with e2 e3
   subst e2
   subst e3
   simp only[Array.getElem?_eq_getElem hlt]
   refine zW (he _ (Array.getElem_mem hlt) prog w _ _ ?_)
   by_cases hij:i=j
   ·subst hij
    rw[h1]
    wp_walk
    exact⟨_,rfl,h⟩
   ·rw[h2 i hlt (by omega)]
    wp_walk
    exact⟨rfl,rfl,i+1,by omega,rfl⟩
  case fin =>
   rintro b s' ⟨rfl,hb,i,hi,e1⟩
   have:=congrArg List.length e1
   simp at this
   omega
  case h =>
   exact⟨rfl,rfl,0,Nat.zero_le _,by simp⟩
end Tx
namespace Dl
open PySem L2 PySem.Spec PyProof.Rows
section
variable {X:Cx}
theorem xv:GP X "tuple.index" (fun x vs H Q=>∃ (l:Addr) (ns:List Int) (i:Int) (j:Nat),x=.ref l/\vs=[.int i]/\fP X.K H l (ns.map V.int)/\ns[j]?=some i/\(∀m,m < j->ns[m]?≠some i)/\Q (.int j) H):=by
 intro pins s σ H x vs v us Q I rx rv h
 obtain⟨l,ns,i,j,rfl,rfl,hq,hj,hno,q⟩:=h
 cases rx
 obtain⟨u,rfl,ru⟩:=rv.one
 obtain⟨t,rfl⟩:=ru
 obtain⟨its,r,pl,hz⟩:=I.tuple hq
 obtain⟨⟨cls,dd,data,sl⟩,ho,hc,n,hd⟩:=id pl
 simp only at hc hd
 subst hc hd
 have hl:its.length=ns.length:=by rw[<- r.length,zD]
 have hj1:j < ns.length:=(zU.mp hj).1
 have at_:∀m (hm:m < its.toArray.size),∃t',its.toArray[m]=.int (ns.getD m 0) t':=fun m hm=>lQ r (Array.getElem?_eq_getElem hm)
 refine call_meets F.slot_tuple_index ⟨_,ho,rfl⟩ F.entry_tuple_index (F.args_tuple_index_2 _ _) (Tx.tuple_indexAt l its.toArray n dd sl (.int i t) (GQ i) j (by rw[zH,hl];exact hj1) ?_ ?_) ⟨ho,?_,?_⟩
 ·obtain⟨t',e⟩:=at_ j (by rw[zH,hl];exact hj1)
  rw[e,GQ,zG,hj]
  simp
 ·intro m hm hmj
  obtain⟨t',e⟩:=at_ m hm
  have hm':m < ns.length:=by
   rw[zH] at hm
   omega
  have:=hno m hmj
  rw[e,GQ,zG]
  rw[zK hm'] at this ⊢
  simp only[Option.getD_some,beq_eq_false_iff_ne]
  exact fun h=>this (by rw[h])
 ·intro y hy
  obtain⟨m,hm,rfl⟩:=Array.getElem_of_mem hy
  obtain⟨t',e⟩:=at_ m hm
  rw[e]
  exact PySem.SeqAt.EqAt.int_int _ _ _ _
 ·exact⟨.int j,H,I.tok _,⟨_,rfl⟩,q⟩
theorem Av{e:Expr}{t u:TE}(h:PE X e t)(g:PE X e u):PE X e (fun σ H Q=>t σ H Q\/u σ H Q):=fun pins s σ H Q I q=>q.elim (h pins s σ H Q I) (g pins s σ H Q I)
noncomputable def rO:D->D->Option D
 | .list es,.int i=>(intsOf es).bind fun ns=>(qM i ns).map fun j=>.int ((j:Nat):Int)
 | .tuple es,.int i=>(intsOf es).bind fun ns=>(qM i ns).map fun j=>.int ((j:Nat):Int)
 | _,_=>none
theorem xh{o e:Expr}{apos cpos:Pos}{fo fe:Env->Option D}(hbase:attributeBase o "index" X.env (eval o X.env)=eval o X.env)
  (hfew:((backTo cpos (starEach [e] X.env)).all (fun x=>!x.1)&&(backToKw cpos (keywordEach [] X.env)).all (fun x=>x.1.isSome)&&decide ([e].length+([]:List Keyword).length+(if ([]:List Keyword).isEmpty then 0 else 1) < 30))=true)
  (hline:(apos.endLine == cpos.line)=true) (hs:starEach [e] X.env=(false,eval e X.env)::starEach [] X.env) (ho:DE X o fo) (he:DE X e fe):DE X (.Call (.Attribute o "index" apos) [e] [] cpos) (f2 rO fo fe) :=
 aG (Av (AI hbase hfew hline hs ho he) (oV PySem.F.plainAttrs_tuple PySem.F.slot_tuple_index PySem.F.type_tuple_index xv ho (bA he dh hs) hbase hfew hline hs rfl)) fun σ H Q ⟨HF,ρ,d,sm,eo,hf,q⟩=>by
  obtain⟨x,hx,hf⟩:=bs hf
  obtain⟨y,hy,hg⟩:=bs hf
  cases x<;>try cases hg
  ·cases y<;>try cases hg
   rename_i es i
   exact .inl ⟨HF,ρ,d,sm,eo,by simp only[f2,hx,hy,zA];exact hg,q⟩
  ·cases y<;>try cases hg
   rename_i es i
   obtain⟨ns,h1,hg⟩:=bs hg
   obtain⟨j,h2,rfl⟩:=ae hg
   have e1:=bZ h1
   subst e1
   refine .inr ⟨HF,ρ,_,sm,eo,hx,fun v1 H1 HF1 g1 r1=>?_⟩
   simp only[Rep] at r1
   obtain⟨l,us,rfl,hq,rr⟩:=r1
   have:=gp rr
   subst this
   refine⟨?_,HF1,ρ,.int i,g1.fh,eo.mono g1.ff,hy,fun v2 H2 HF2 g2 r2=>?_⟩
   ·first|exact .inr (.inl ⟨rfl,_,au g1.fh hq⟩)|exact .inl ⟨rfl,_,au g1.fh hq⟩|exact .inr ⟨rfl,_,au g1.fh hq⟩
   ·simp only[Rep] at r2
    obtain⟨a,b⟩:=ku h2
    exact⟨l,ns,i,j,rfl,by rw[r2],au g2.fh (au g2.ff hq),a,b,q _ H2 HF2 (g1.trans g2) (by simp[Rep])⟩
end
end Dl
namespace Zp
open PySem PyProof.Rows
def IsI(b:Bool)(h:Heap)(it l:Addr)(k:Nat):Prop:=match b with|true=>h.IsTupleIter it l k|false=>h.IsListIter it l k
def IsS(b:Bool)(h:Heap)(l:Addr)(xs:Array Value):Prop:=match b with|true=>h.IsTuple l xs|false=>h.IsList l xs
theorem IsI.obj{b:Bool}{h:Heap}{it l:Addr}{k:Nat}(x:IsI b h it l k):∃o,h.get? it=some o/\∀v,o.data≠.cell v:=by
 cases b
 ·obtain⟨o,e,_,d⟩:=(show h.IsListIter it l k from x);exact⟨o,e,fun v q=>by rw[d] at q;cases q⟩
 ·obtain⟨o,e,_,d⟩:=(show h.IsTupleIter it l k from x);exact⟨o,e,fun v q=>by rw[d] at q;cases q⟩
theorem IsI.at{b:Bool}{h h':Heap}{it l:Addr}{k:Nat}(x:IsI b h it l k)(e:∀o,h.get? it=some o->h'.get? it=some o):IsI b h' it l k:=by
 cases b
 ·exact Heap.IsListIter.at x e
 ·exact Heap.IsTupleIter.at x e
theorem IsI.extBut{b:Bool}{h h':Heap}{a it l:Addr}{k:Nat}(x:IsI b h it l k)(e:Heap.ExtBut a h h')(n:it≠a):IsI b h' it l k:=x.at fun o q=>e it o n q
theorem IsS.at{b:Bool}{h h':Heap}{l:Addr}{xs:Array Value}(x:IsS b h l xs)(e:∀o,h.get? l=some o->h'.get? l=some o):IsS b h' l xs:=by
 cases b
 ·obtain⟨o,q,r⟩:=(show h.IsList l xs from x);exact⟨o,e o q,r⟩
 ·obtain⟨o,q,r⟩:=(show h.IsTuple l xs from x);exact⟨o,e o q,r⟩
theorem IsS.extBut{b:Bool}{h h':Heap}{a l:Addr}{xs:Array Value}(x:IsS b h l xs)(e:Heap.ExtBut a h h')(n:l≠a):IsS b h' l xs:=x.at fun o q=>e l o n q
section
variable {prog:Program}{w:World}{A:Around}{E:Value->Shared->Prop}{s:Shared}
theorem nxt{b:Bool}{j t:Addr}{k:Nat}{its:Array Value}{v:Value}{Q:Value->Shared->Prop}(hj:IsI b s.heap j t k)(ht:IsS b s.heap t its)(hv:its[k]?=some v)
  (hQ:∀g,IsI b g j t (k+1)->Heap.SameBut j s.heap g->Q v { s with heap:=g }):wpAny (model prog w) A (Builtin.SmallTypes.nextOf (.ref j)) Q E s:=by
 cases b
 ·exact wpAny_nextOf_list_item hj ht hv hQ
 ·exact En.nextT_item hj ht hv hQ
theorem nxtE{b:Bool}{j t:Addr}{k:Nat}{its:Array Value}{Q:Value->Shared->Prop}(hh:A.handled=none)(hj:IsI b s.heap j t k)(ht:IsS b s.heap t its)(hv:its[k]?=none)
  (hE:∀g x,Heap.ExtBut j s.heap g->(∃o,g.get? x=some o/\o.cls=.type "StopIteration")->E (.ref x) { s with heap:=g }):wpAny (model prog w) A (Builtin.SmallTypes.nextOf (.ref j)) Q E s:=by
 cases b
 ·exact wpAny_nextOf_list_end hh hj ht hv hE
 ·exact En.nextT_end hh hj ht hv hE
structure ZS(b₁ b₂:Bool)(h₀ h:Heap)(z TI TO i j l m:Addr)(xs ys:Array Value)(f:Value)(p q:Nat)(a b:Value):Prop where
 zo:IsZip h z TI TO f
 ti:IsPair h TI (.ref i) (.ref j)
 to:IsPair h TO a b
 wi:IsI b₁ h i l p
 wj:IsI b₂ h j m q
 sl:IsS b₁ h l xs
 sm:IsS b₂ h m ys
 kp:∀c o,c≠z->c≠TO->c≠i->c≠j->h₀.get? c=some o->h.get? c=some o
 sz:h.objs.size=h₀.objs.size
section
variable {b₁ b₂:Bool}{h₀ h g:Heap}{z TI TO i j l m:Addr}{xs ys:Array Value}{f f':Value}{p q:Nat}{a b x y:Value}
theorem ZS.fl(Z:ZS b₁ b₂ h₀ h z TI TO i j l m xs ys f p q a b)(D:ZipApart z TI TO i j l m)(e:IsZip g z TI TO f')(t:Heap.SameBut z h g):ZS b₁ b₂ h₀ g z TI TO i j l m xs ys f' p q a b :=
 ⟨e,t.extBut _ _ D.TIz Z.ti,t.extBut _ _ D.TOz Z.to,Z.wi.extBut t.extBut D.i1z,Z.wj.extBut t.extBut D.i2z,Z.sl.extBut t.extBut D.l1z,Z.sm.extBut t.extBut D.l2z,fun c o n1 n2 n3 n4 r=>t.extBut _ _ n1 (Z.kp c o n1 n2 n3 n4 r),t.1.trans Z.sz⟩
theorem ZS.fst(Z:ZS b₁ b₂ h₀ h z TI TO i j l m xs ys f p q a b)(D:ZipApart z TI TO i j l m)(e:IsI b₁ g i l (p+1))(t:Heap.SameBut i h g):ZS b₁ b₂ h₀ g z TI TO i j l m xs ys f (p+1) q a b :=
 ⟨t.extBut _ _ D.i1z.symm Z.zo,t.extBut _ _ D.TIi1 Z.ti,t.extBut _ _ D.TOi1 Z.to,e,Z.wj.extBut t.extBut D.i12.symm,Z.sl.extBut t.extBut D.l1i1,Z.sm.extBut t.extBut D.l2i1,fun c o n1 n2 n3 n4 r=>t.extBut _ _ n3 (Z.kp c o n1 n2 n3 n4 r),t.1.trans Z.sz⟩
theorem ZS.snd(Z:ZS b₁ b₂ h₀ h z TI TO i j l m xs ys f p q a b)(D:ZipApart z TI TO i j l m)(e:IsI b₂ g j m (q+1))(t:Heap.SameBut j h g):ZS b₁ b₂ h₀ g z TI TO i j l m xs ys f p (q+1) a b :=
 ⟨t.extBut _ _ D.i2z.symm Z.zo,t.extBut _ _ D.TIi2 Z.ti,t.extBut _ _ D.TOi2 Z.to,Z.wi.extBut t.extBut D.i12,e,Z.sl.extBut t.extBut D.l1i2,Z.sm.extBut t.extBut D.l2i2,fun c o n1 n2 n3 n4 r=>t.extBut _ _ n4 (Z.kp c o n1 n2 n3 n4 r),t.1.trans Z.sz⟩
theorem ZS.put(Z:ZS b₁ b₂ h₀ h z TI TO i j l m xs ys f p q a b)(D:ZipApart z TI TO i j l m)(e:IsPair g TO x y)(t:Heap.SameBut TO h g):ZS b₁ b₂ h₀ g z TI TO i j l m xs ys f p q x y :=
 ⟨t.extBut _ _ D.TOz.symm Z.zo,t.extBut _ _ D.TITO Z.ti,e,Z.wi.extBut t.extBut D.TOi1.symm,Z.wj.extBut t.extBut D.TOi2.symm,Z.sl.extBut t.extBut D.l1TO,Z.sm.extBut t.extBut D.l2TO,fun c o n1 n2 n3 n4 r=>t.extBut _ _ n2 (Z.kp c o n1 n2 n3 n4 r),t.1.trans Z.sz⟩
end
variable {b₁ b₂:Bool}{z TI TO i j l m:Addr}{xs ys:Array Value}{p q:Nat}{a b:Value}
theorem zipN{Q:Value->Shared->Prop}(hn:A.handled=none)(D:ZipApart z TI TO i j l m)(Z:ZS b₁ b₂ s.heap s.heap z TI TO i j l m xs ys .none p q a b)
  (item:∀x y g g',xs[p]?=some x->ys[q]?=some y->ZS b₁ b₂ s.heap g z TI TO i j l m xs ys .ellipsis (p+1) (q+1) x y->IsZip g' z TI TO (rawInt g.objs.size) ->
   Heap.SameBut z (g.push { cls:=.type "tuple",data:=.seq #[x,y] }) g'->Q (.ref g.objs.size) { s with heap:=g' })
  (over:(xs[p]?=none\/ys[q]?=none)->∀g e,(∀c o,c≠z->c≠TO->c≠i->c≠j->s.heap.get? c=some o->g.get? c=some o)->(∃o,g.get? e=some o/\o.cls=.type "StopIteration")->E (.ref e) { s with heap:=g }) :
  wpAny (model prog w) A (Builtin.«zip.__next__» ⟨[.ref z],[]⟩) (fun r s'=>∃v,r=.done (.ret v)/\Q v s') E s:=by
 have stop:∀ {g1 g2:Heap}{e:Addr}{c:Addr}{p' q':Nat}{a' b':Value},ZS b₁ b₂ s.heap g1 z TI TO i j l m xs ys .ellipsis p' q' a' b'->(c=i\/c=j)->(xs[p]?=none\/ys[q]?=none)->Heap.ExtBut c g1 g2 ->
   (∃o,g2.get? e=some o/\o.cls=.type "StopIteration")->wpAny (model prog w) A (setField (.ref z) 0 Value.none) (fun _ t=>E (.ref e) t) E { s with heap:=g2 }:=by
  intro g1 g2 e c p' q' a' b' Y hc hv k ⟨o,ho,ht⟩
  have cz:z≠c:=hc.elim (fun e=>e ▸ D.i1z.symm) fun e=>e ▸ D.i2z.symm
  have Yz:IsZip g2 z TI TO .ellipsis:=k _ _ cz Y.zo
  refine wpAny_setField_rec Yz (by simp) fun g3 _ t=>over hv g3 e (fun d u n1 n2 n3 n4 r=>t.extBut _ _ n1 (k _ _ ?_ (Y.kp d u n1 n2 n3 n4 r))) ⟨o,t.extBut _ _ ?_ ho,ht⟩
  ·exact hc.elim (fun e=>e ▸ n3) fun e=>e ▸ n4
  ·rintro rfl;rw[Yz] at ho;cases ho;simp at ht
 show wpAny _ _ (field (.ref z) 2 >>= _) _ _ _
 refine zW (wpAny_field Z.zo rfl (x:=.bool false) rfl (zW (wpAny_field Z.zo rfl (x:=.ref TI) rfl (zW (wpAny_seqItems Z.ti rfl (zW (m:=Builtin.SmallTypes.ownedTupleIsFree _) ?_))))))
 refine zW (wpAny_field Z.zo rfl (x:=.none) rfl (zX ?_))
 rw[if_pos rfl]
 refine zW (wpAny_rule (zW (wpAny_field Z.zo rfl (x:=.ref TO) rfl (zW (wpAny_setField_rec Z.zo (by simp) fun g1 e1 t1=>?_)))))
 have Z1:=Z.fl D (f':=.ellipsis) e1 t1
 refine zW ?_
 simp only[List.zipIdx_cons,List.zipIdx_nil,List.forIn_cons,List.forIn_nil]
 refine zW (zW (wpAny_onRaise (zW (m:=Builtin.SmallTypes.nextOf _) ?_)))
 cases hx:xs[p]? with
 | none=>exact nxtE hn Z1.wi Z1.sl hx fun g2 e k o=>stop Z1 (.inl rfl) (.inl hx) k o
 | some x =>
 refine nxt Z1.wi Z1.sl hx fun g2 e2 t2=>zX ?_
 have Z2:=Z1.fst D e2 t2
 refine zW (wpAny_seqItems Z2.to rfl (zW (wpAny_updateSeq_pair Z2.to fun g3 e3 t3=>zW (wpAny_letGo (zX ?_)))))
 have Z3:=Z2.put D (x:=x) (y:=b) e3 t3
 refine zW (zW (wpAny_onRaise (zW (m:=Builtin.SmallTypes.nextOf _) ?_)))
 cases hy:ys[q]? with
 | none=>exact nxtE hn Z3.wj Z3.sm hy fun g4 e k o=>stop Z3 (.inr rfl) (.inr hy) k o
 | some y =>
 refine nxt Z3.wj Z3.sm hy fun g4 e4 t4=>zX ?_
 have Z4:=Z3.snd D e4 t4
 refine zW (wpAny_seqItems Z4.to rfl (zW (wpAny_updateSeq_pair Z4.to fun g5 e5 t5=>zW (wpAny_letGo (zX (zX ?_))))))
 have Z5:=Z4.put D (x:=x) (y:=y) e5 t5
 refine zW (wpAny_seqItems Z5.to rfl (zW (wpAny_newTuple (zW (m:=Builtin.SmallTypes.ownedTupleHandOut _ _) ?_))))
 refine zW (wpAny_setField_rec (zV _ Z5.zo) (by simp) fun g6 e6 t6=>wpAny_setField_rec e6 (by simp) fun g7 e7 t7=>zX ⟨_,rfl,?_⟩)
 exact item x y g5 g7 hx hy Z5 e7 (t6.trans t7)
theorem nextZ{x y:Value}{Q:Option Value->Shared->Prop}(hn:A.handled=none)(D:ZipApart z TI TO i j l m)
  (qz:IsZip s.heap z TI TO .none) (qI:IsPair s.heap TI (.ref i) (.ref j)) (qO:IsPair s.heap TO a b)
  (p1:IsI b₁ s.heap i l p) (p2:IsI b₂ s.heap j m q) (r1:IsS b₁ s.heap l xs) (r2:IsS b₂ s.heap m ys) (ex:xs[p]?=some x) (ey:ys[q]?=some y)
  (kQ:∀g,IsZip g z TI TO (rawInt s.heap.objs.size)->IsPair g TO x y->IsI b₁ g i l (p+1)->IsI b₂ g j m (q+1)->IsPair g s.heap.objs.size x y->g.objs.size=s.heap.objs.size+1 ->
   (∀c o,c≠z->c≠TO->c≠i->c≠j->s.heap.get? c=some o->g.get? c=some o)->Q (some (.ref s.heap.objs.size)) { s with heap:=g }) :
  wpAny (model prog w) A (pyNext (.ref z)) Q E s:=by
 have ty:s.TypeIs (.ref z) "zip":=⟨_,qz,rfl⟩
 have Z:ZS b₁ b₂ s.heap s.heap z TI TO i j l m xs ys .none p q a b:=⟨qz,qI,qO,p1,p2,r1,r2,fun _ _ _ _ _ _ e=>e,rfl⟩
 refine zW (wpAny_attempt (wpAny_callSpecial?_slot (name:=Str.ofString "__next__") ty F.slot_zip_next (wpAny_call_entry F.slot_zip_next ty F.entry_zip_next (zipN hn D Z ?_ ?_) (F.args_zip_next_1 _))))
 ·intro x' y' g g' hx hy Y ez t
  rw[ex] at hx;rw[ey] at hy;cases hx;cases hy
  rw[Y.sz] at ez ⊢
  have lt:=zZ Y.zo
  have up:∀c o,c≠z->g.get? c=some o->g'.get? c=some o:=fun c o n e=>t.extBut _ _ n (zV _ e)
  refine zX (kQ g' ez (up _ _ D.TOz Y.to) (Y.wi.at fun o e=>up _ _ D.i1z e) (Y.wj.at fun o e=>up _ _ D.i2z e) ?_ (by rw[t.1,Heap.size_push,Y.sz]) fun c o n1 n2 n3 n4 e=>up c o n1 (Y.kp c o n1 n2 n3 n4 e))
  rw[<- Y.sz]
  exact t.extBut _ _ (Nat.ne_of_gt lt) (zY _ rfl)
 ·intro no
  rw[ex,ey] at no
  rcases no with no|no<;>cases no
theorem nextZE{Q:Option Value->Shared->Prop}(hn:A.handled=none)(D:ZipApart z TI TO i j l m)
  (qz:IsZip s.heap z TI TO .none) (qI:IsPair s.heap TI (.ref i) (.ref j)) (qO:IsPair s.heap TO a b)
  (p1:IsI b₁ s.heap i l p) (p2:IsI b₂ s.heap j m q) (r1:IsS b₁ s.heap l xs) (r2:IsS b₂ s.heap m ys) (ends:xs[p]?=none\/ys[q]?=none)
  (kQ:∀g,(∀c o,c≠z->c≠TO->c≠i->c≠j->s.heap.get? c=some o->g.get? c=some o)->Q none { s with heap:=g }):wpAny (model prog w) A (pyNext (.ref z)) Q E s:=by
 have ty:s.TypeIs (.ref z) "zip":=⟨_,qz,rfl⟩
 have Z:ZS b₁ b₂ s.heap s.heap z TI TO i j l m xs ys .none p q a b:=⟨qz,qI,qO,p1,p2,r1,r2,fun _ _ _ _ _ _ e=>e,rfl⟩
 refine zW (wpAny_attempt (wpAny_callSpecial?_slot (name:=Str.ofString "__next__") ty F.slot_zip_next (wpAny_call_entry F.slot_zip_next ty F.entry_zip_next (zipN hn D Z ?_ ?_) (F.args_zip_next_1 _))))
 ·intro x y g g' hx hy
  rw[hx,hy] at ends
  rcases ends with no|no<;>cases no
 ·rintro _ g e kp ⟨o,ho,ht⟩
  exact zW (wpAny_isInstance (T:="StopIteration") (b:=true) ⟨o,ho,ht⟩ isSubtype_stop (zX (kQ _ kp)))
end
noncomputable abbrev itO(b:Bool)(l:Addr):Obj:={ cls:=.type (if b then "tuple_iterator" else "list_iterator"),data:=.fields #[.ref l,.int 0 0] }
noncomputable abbrev z1(b:Bool)(h:Heap)(l:Addr):Heap:=h.push (itO b l)
noncomputable abbrev z2(b c:Bool)(h:Heap)(l m:Addr):Heap:=(z1 b h l).push (itO c m)
noncomputable abbrev z3(b c:Bool)(h:Heap)(l m:Addr):Heap:=(z2 b c h l m).push { cls:=.type "tuple",data:=.seq #[.ref h.objs.size,.ref (z1 b h l).objs.size] }
noncomputable abbrev z4(b c:Bool)(h:Heap)(l m:Addr):Heap:=(z3 b c h l m).push { cls:=.type "tuple",data:=.seq #[.none,.none] }
noncomputable abbrev z5(b c:Bool)(h:Heap)(l m:Addr):Heap:=(z4 b c h l m).push { cls:=.type "zip",data:=.fields #[.none,.bool false,.bool false,.ref (z2 b c h l m).objs.size,.ref (z3 b c h l m).objs.size] }
theorem IsS.push{b:Bool}{h:Heap}{l:Addr}{xs:Array Value}(x:IsS b h l xs)(o:Obj):IsS b (h.push o) l xs:=x.at fun o' e=>zV _ e
theorem new_zip(b c:Bool)(l m:Addr)(xs ys:Array Value):Meets (Builtin.«zip.__new__» ⟨[.type "zip",.ref l,.ref m],[]⟩) (fun _ R s=>IsS b s.heap l xs/\IsS c s.heap m ys/\R (.ok (.ret (.ref (z4 b c s.heap l m).objs.size))) { s with heap:=z5 b c s.heap l m }) :=
 .of_wp fun prog w A R s h=>by
  obtain⟨hp,g,d,tk,os⟩:=s;obtain⟨q1,q2,h⟩:=h
  have hsub:=sub_zip
  cases b<;>cases c
  ·have L1:Heap.IsList (Shared.heap ⟨hp,g,d,tk,os⟩) l xs:=q1
   have L2:Heap.IsList (Shared.heap ⟨hp.push { cls:=.type "list_iterator",data:=.fields #[.ref l,.int 0 0] },g,d,tk,os⟩) m ys:=IsS.push (b:=false) q2 _
   wp_walk using wpAny_pyIter_list L1,wpAny_pyIter_list L2
   exact⟨_,rfl,h⟩
  ·have L1:Heap.IsList (Shared.heap ⟨hp,g,d,tk,os⟩) l xs:=q1
   have L2:Heap.IsTuple (Shared.heap ⟨hp.push { cls:=.type "list_iterator",data:=.fields #[.ref l,.int 0 0] },g,d,tk,os⟩) m ys:=IsS.push (b:=true) q2 _
   wp_walk using wpAny_pyIter_list L1,wpAny_pyIter_tuple L2
   exact⟨_,rfl,h⟩
  ·have L1:Heap.IsTuple (Shared.heap ⟨hp,g,d,tk,os⟩) l xs:=q1
   have L2:Heap.IsList (Shared.heap ⟨hp.push { cls:=.type "tuple_iterator",data:=.fields #[.ref l,.int 0 0] },g,d,tk,os⟩) m ys:=IsS.push (b:=false) q2 _
   wp_walk using wpAny_pyIter_tuple L1,wpAny_pyIter_list L2
   exact⟨_,rfl,h⟩
  ·have L1:Heap.IsTuple (Shared.heap ⟨hp,g,d,tk,os⟩) l xs:=q1
   have L2:Heap.IsTuple (Shared.heap ⟨hp.push { cls:=.type "tuple_iterator",data:=.fields #[.ref l,.int 0 0] },g,d,tk,os⟩) m ys:=IsS.push (b:=true) q2 _
   wp_walk using wpAny_pyIter_tuple L1,wpAny_pyIter_tuple L2
   exact⟨_,rfl,h⟩
section
variable {prog:Program}{w:World}{A:Around}{E:Value->Shared->Prop}{s:Shared}
theorem isI_new{b:Bool}{h:Heap}{it l:Addr}(e:h.get? it=some (itO b l)):IsI b h it l 0:=by
 cases b
 ·exact⟨_,e,rfl,rfl⟩
 ·exact⟨_,e,rfl,rfl⟩
theorem call_zip{b c:Bool}{l m:Addr}{xs ys:Array Value}{Q:Value->Shared->Prop}(q1:IsS b s.heap l xs)(q2:IsS c s.heap m ys)
  (h:∀g,IsZip g (s.heap.objs.size+4) (s.heap.objs.size+2) (s.heap.objs.size+3) .none->IsPair g (s.heap.objs.size+2) (.ref s.heap.objs.size) (.ref (s.heap.objs.size+1))->IsPair g (s.heap.objs.size+3) .none .none ->
   IsI b g s.heap.objs.size l 0->IsI c g (s.heap.objs.size+1) m 0->(∀a o,s.heap.get? a=some o->g.get? a=some o)->Q (.ref (s.heap.objs.size+4)) { s with heap:=g }) :
  wpAny (model prog w) A (call (.type "zip") [.ref l,.ref m]) Q E s:=by
 refine callType_new F.called_zip (by decide) (F.typeCall_zip_2 _ _) (F.newCall_zip_2 _ _) (fun obj=>F.args_object_init_3 obj _ _) F.entry_zip_new (new_zip b c l m xs ys) ⟨q1,q2,?_⟩
 have n1:(z1 b s.heap l).objs.size=s.heap.objs.size+1:=Heap.size_push ..
 have n2:(z2 b c s.heap l m).objs.size=s.heap.objs.size+2:=by rw[Heap.size_push,n1]
 have n3:(z3 b c s.heap l m).objs.size=s.heap.objs.size+3:=by rw[Heap.size_push,n2]
 have n4:(z4 b c s.heap l m).objs.size=s.heap.objs.size+4:=by rw[Heap.size_push,n3]
 have g5:(z5 b c s.heap l m).get? (z4 b c s.heap l m).objs.size=some _:=zY _ rfl
 have g4:(z5 b c s.heap l m).get? (z3 b c s.heap l m).objs.size=some _:=zV _ (zY _ rfl)
 have g3:(z5 b c s.heap l m).get? (z2 b c s.heap l m).objs.size=some _:=zV _ (zV _ (zY _ rfl))
 have g2:(z5 b c s.heap l m).get? (z1 b s.heap l).objs.size=some (itO c m):=zV _ (zV _ (zV _ (zY _ rfl)))
 have g1:(z5 b c s.heap l m).get? s.heap.objs.size=some (itO b l):=zV _ (zV _ (zV _ (zV _ (zY _ rfl))))
 show _/\_
 rw[n2,n3,n4] at g5
 rw[n1,n2] at g3
 rw[n3] at g4
 rw[n1] at g2
 rw[n4]
 exact⟨⟨_,g5,rfl⟩,h _ g5 g3 g4 (isI_new g1) (isI_new g2) fun a o x=>zV _ (zV _ (zV _ (zV _ (zV _ x))))⟩
end
end Zp
namespace Dl
open PySem L2 PySem.Spec PyProof.Rows Zp
def ll(K:W.Frag)(b:Bool)(a:Addr)(H:Hp)(xs:List V):Prop:=match b with|true=>fP K H a xs|false=>fj K H a xs
section
variable {X:Cx}{pins:List (Addr×Obj)}{σ:L2.St}{H:Hp}{s:Shared}{b:Bool}{a:Addr}{xs ys:List V}
theorem ll.src(I:Inv X pins σ H s)(h:ll X.K b a H xs):∃its:List Value,ax xs its/\IsS b s.heap a its.toArray/\xs.length<=sizeLine:=by
 cases b
 ·obtain⟨its,rv,pl,hz⟩:=I.list (show fj X.K H a xs from h);exact⟨its,rv,pl.isList,hz⟩
 ·obtain⟨its,rv,pl,hz⟩:=I.tuple (show fP X.K H a xs from h);exact⟨its,rv,pl,hz⟩
theorem ll.ne(I:Inv X pins σ H s){c:Addr}(hf:bI X pins H c)(h:ll X.K b a H xs):a≠c:=by
 cases b
 ·exact Fn I hf h
 ·exact Fx I hf h
theorem ll.inj(I:Inv X pins σ H s)(h:ll X.K b a H xs)(h':ll X.K b a H ys):xs=ys:=by
 cases b
 ·exact I.list_inj h h'
 ·exact I.tuple_inj h h'
theorem ll.mono{K:W.Frag}{H H':Hp}(e:aH H H')(h:ll K b a H xs):ll K b a H' xs:=by
 cases b
 ·exact e.seq h
 ·exact au e h
end
theorem xu{P:Program}{w:World}{K:W.Frag}{elts:List Expr}{k:Nat}{pos:Pos}(b c:Bool)(l1 l2 z TI TO i1 i2:Addr)(Z:JT z TI TO i1 i2) :
  Turn P w K (.Tuple elts k pos) (Jd (ll K b l1) (ll K c l2)) [z,TI,TO,i1,i2] z (fun i h=>IsZip h z TI TO .none/\IsPair h TI (.ref i1) (.ref i2)/\(∃a b,IsPair h TO a b)/\IsI b h i1 l1 i/\IsI c h i2 l2 i) where
 mem:=by simp
 obj:=fun i h st d hd=>by
  obtain⟨hz,hTI,⟨a,b',hTO⟩,p1,p2⟩:=st
  simp only[zR,yG,or_false] at hd
  rcases hd with rfl|rfl|rfl|rfl|rfl
  ·exact⟨_,hz,fun v q=>by have q:Data.fields _=Data.cell v:=q;cases q⟩
  ·exact⟨_,hTI,fun v q=>by have q:Data.seq _ _=Data.cell v:=q;cases q⟩
  ·exact⟨_,hTO,fun v q=>by have q:Data.seq _ _=Data.cell v:=q;cases q⟩
  ·exact p1.obj
  ·exact p2.obj
 keep:=fun i h h' st kk=>by
  obtain⟨hz,hTI,⟨a,b',hTO⟩,h1,h2⟩:=st
  exact⟨kk z (by simp) _ hz,kk TI (by simp) _ hTI,⟨a,b',kk TO (by simp) _ hTO⟩,h1.at fun o q=>kk i1 (by simp) o q,h2.at fun o q=>kk i2 (by simp) o q⟩
 item:=by
  intro X hP hw hK hc i pins s σ H E I hf st hg
  subst hP hw hK
  obtain⟨xs,ys,x,y,hq1,hq2,hx,hy⟩:=hg
  obtain⟨its1,rv1,p1,hz1⟩:=hq1.src I
  obtain⟨its2,rv2,p2,hz2⟩:=hq2.src I
  obtain⟨u1,hu1,ru1⟩:=rv1.get hx
  obtain⟨u2,hu2,ru2⟩:=rv2.get hy
  have D:ZipApart z TI TO i1 i2 l1 l2:=⟨Z.a1,Z.a2,Z.a3,Z.a4,Z.a5,Z.a6,Z.a7,Z.a8,Z.a9,Z.a0,hq1.ne I (hf z (by simp)),hq1.ne I (hf TO (by simp)),hq1.ne I (hf i1 (by simp)),hq1.ne I (hf i2 (by simp)),hq2.ne I (hf z (by simp)),hq2.ne I (hf TO (by simp)),hq2.ne I (hf i1 (by simp)),hq2.ne I (hf i2 (by simp))⟩
  obtain⟨hz,hTI,⟨a,b',hTO⟩,h1,h2⟩:=st
  refine nextZ (I.ok.hd hc) D hz hTI hTO h1 h2 p1 p2 (x:=u1) (y:=u2) (by simpa using hu1) (by simpa using hu2) fun g b1 b2 b3 b4 b5 b6 hk=>⟨.ref s.heap.objs.size,rfl,?_⟩
  have lt:∀ {c:Addr}{o:Obj},s.heap.get? c=some o->s.heap.objs.size≠c:=fun e=>Nat.ne_of_gt (zZ e)
  refine wpAny_letOwnedTupleGo_zip (s:={ s with heap:=g }) b1 fun g' hz' hs'=>?_
  have b5':g'.get? s.heap.objs.size=some { cls:=.type "tuple",data:=.seq #[u1,u2] }:=hs'.extBut _ _ (lt hz) b5
  have ht:kF g' s.heap.objs.size (List.toArray [u1,u2]):=⟨⟨_,b5',rfl,_,rfl⟩,_,b5',rfl⟩
  refine⟨.ref s.heap.objs.size,_,sV (ch:=[z,TI,TO,i1,i2]) (xs:=[x,y]) (t':=s.toks) I hf (fun b o hb q=>?_) (Nat.le_refl _) ht (.cons ru1 (.cons ru2 .nil)) (by show 2<=sizeLine;decide),rfl,
   ⟨s.heap.objs.size,x,y,rfl,I.fresh,rfl,fun zs hzs=>by rw[hzs.inj I hq1];exact hx,fun zs hzs=>by rw[hzs.inj I hq2];exact hy⟩,
   ⟨hz',hs'.extBut _ _ Z.a1 (hk _ _ D.TIz D.TITO D.TIi1 D.TIi2 hTI),⟨_,_,hs'.extBut _ _ Z.a2 b2⟩,b3.extBut hs'.extBut Z.a3,b4.extBut hs'.extBut Z.a4⟩,fun b hb=>?_⟩
  ·simp only[zR,yG,or_false,not_or] at hb
   exact hs'.extBut _ _ hb.1 (hk b o hb.1 hb.2.2.1 hb.2.2.2.1 hb.2.2.2.2 q)
  ·have:s.heap.objs.size≠b:=by
    simp only[zR,yG,or_false] at hb
    obtain⟨o1,g1,_⟩:=h1.obj
    obtain⟨o2,g2,_⟩:=h2.obj
    rcases hb with rfl|rfl|rfl|rfl|rfl
    ·exact lt hz
    ·exact lt hTI
    ·exact lt hTO
    ·exact lt g1
    ·exact lt g2
   rw[av (Ne.symm this)]
   exact (hf b hb).1
 done:=by
  intro X hP hw hK hc i pins s σ H E I hf st hg
  subst hP hw hK
  obtain⟨xs,ys,hq1,hq2,hx⟩:=hg
  obtain⟨its1,rv1,p1,hz1⟩:=hq1.src I
  obtain⟨its2,rv2,p2,hz2⟩:=hq2.src I
  have D:ZipApart z TI TO i1 i2 l1 l2:=⟨Z.a1,Z.a2,Z.a3,Z.a4,Z.a5,Z.a6,Z.a7,Z.a8,Z.a9,Z.a0,hq1.ne I (hf z (by simp)),hq1.ne I (hf TO (by simp)),hq1.ne I (hf i1 (by simp)),hq1.ne I (hf i2 (by simp)),hq2.ne I (hf z (by simp)),hq2.ne I (hf TO (by simp)),hq2.ne I (hf i1 (by simp)),hq2.ne I (hf i2 (by simp))⟩
  obtain⟨hz,hTI,⟨a,b',hTO⟩,h1,h2⟩:=st
  have e1:=rv1.length
  have e2:=rv2.length
  refine nextZE (I.ok.hd hc) D hz hTI hTO h1 h2 p1 p2 (hx.elim (fun q=>.inl (by simp;omega)) fun q=>.inr (by simp;omega)) fun g hk=>⟨rfl,?_⟩
  refine kY (ch:=[z,TI,TO,i1,i2]) (t':=s.toks) I hf fun b o hb q=>?_
  simp only[zR,yG,or_false,not_or] at hb
  exact hk b o hb.1 hb.2.2.1 hb.2.2.2.1 hb.2.2.2.2 q
 self:=fun _ _ _ _ _ st h=>wpAny_pyIter_zip st.1 h
section
variable {X:Cx}{l l':Expr}{fs:Env->Option (List D)}{elts:List Expr}{k:Nat}{pos p tp:Pos}
theorem CA{tl:TA}(B:jj X "zip" (.type "zip"))(ha:PA X [l,l'] tl)(hs:starEach [l,l'] X.env=(false,eval l X.env)::starEach [l'] X.env)(hs2:(backTo pos (starEach [l'] X.env)).any (·.1)=false) :
  PI X (.Tuple elts k tp) (.Call (.Name "zip" p) [l,l'] [] pos) (fun σ H R=>tl σ H fun vs H1=>∃a b,vs=[.ref a,.ref b]/\∃c d xs ys,ll X.K c a H1 xs/\ll X.K d b H1 ys/\R (Jd (ll X.K c a) (ll X.K d b)) H1):=by
 intro pins s σ H R I h
 refine Call_ (eL I B.gl B.mg B.bt (PyProof.Rows.callWith_type1 (bw (ha pos pins s σ H _ I h) fun us s1 ⟨vs,H1,I1,r1,q1⟩=>?_) hs hs2))
 obtain⟨a,b,e,c,d,xs,ys,hq1,hq2,q⟩:=q1
 subst e
 obtain⟨u,u',rfl,rx,ry⟩:=vals2 r1
 cases rx
 cases ry
 obtain⟨its,rv,pl,hz⟩:=hq1.src I1
 obtain⟨its',rv',pl',hz'⟩:=hq2.src I1
 refine call_zip pl pl' fun g b1 b2 b3 b4 b5 kp=>wpAny_pyIter_zip (s:={ s1 with heap:=g }) b1 ?_
 refine⟨_,_,_,_,H1,rfl,I1.kept (t':=s1.toks) kp,xu c d a b (s1.heap.objs.size+4) (s1.heap.objs.size+2) (s1.heap.objs.size+3) s1.heap.objs.size (s1.heap.objs.size+1) ?_,⟨b1,b2,⟨_,_,b3⟩,b4,b5⟩,fun c hc=>?_,q⟩
 ·constructor<;>(intro z;have z:(_:Nat)=_:=z;omega)
 ·have hge:s1.heap.objs.size<=c:=by
   simp only[zR,yG,or_false] at hc
   rcases hc with rfl|rfl|rfl|rfl|rfl
   ·exact Nat.le_add_right _ _
   ·exact Nat.le_add_right _ _
   ·exact Nat.le_add_right _ _
   ·exact Nat.le_refl _
   ·exact Nat.le_add_right _ _
  exact I1.fpOk hge (I1.hok.fresh hge)
noncomputable def uV:List D->Option (List D):=fun ds=>match ds with
 | [x,y]=>(eC x).bind fun xs=>(eC y).map fun ys=>gR xs ys
 | _=>none
theorem m7{K:W.Frag}{HF:Hp}{d:D}{v:V}{xs:List D}(h:eC d=some xs)(r:Rep K HF d v):∃b a vs,v=.ref a/\ll K b a HF vs/\aj K HF xs vs:=by
 rcases jI h with rfl|rfl
 ·simp only[Rep] at r
  obtain⟨a,vs,rfl,q,rr⟩:=r
  exact⟨true,a,vs,rfl,q,rr⟩
 ·simp only[Rep] at r
  obtain⟨a,vs,rfl,q,rr⟩:=r
  exact⟨false,a,vs,rfl,q,rr⟩
noncomputable def j9(fs:Env->Option (List D)):Env->Option (List D):=fun ρ=>(fs ρ).bind uV
theorem Dm(B:jj X "zip" (.type "zip"))(hs:starEach [l,l'] X.env=(false,eval l X.env)::starEach [l'] X.env)(hs2:(backTo pos (starEach [l'] X.env)).any (·.1)=false)(h:DA X [l,l'] fs) :
  DI X (.Tuple elts k tp) (.Call (.Name "zip" p) [l,l'] [] pos) (j9 fs) :=
 m6 (CA B h hs hs2) fun σ H R ⟨HF,ρ,ds,sm,eo,hf,q⟩=>by
  obtain⟨x,hx,hf⟩:=bs hf
  refine⟨HF,ρ,_,sm,eo,hx,fun vs H1 HF1 g1 r1=>?_⟩
  unfold uV at hf
  split at hf
  ·obtain⟨xs,h1,hf⟩:=bs hf
   obtain⟨ys,h2,rfl⟩:=ae hf
   obtain⟨v,r',rfl,a,b⟩:=r1.cons_inv
   obtain⟨v',r'',rfl,a',b'⟩:=b.cons_inv
   rw[b'.nil_inv]
   obtain⟨c,ad,us,rfl,hq,rr⟩:=m7 h1 a
   obtain⟨c',ad',us',rfl,hq',rr'⟩:=m7 h2 a'
   exact⟨ad,ad',rfl,c,c',us,us',hq.mono g1.fh,hq'.mono g1.fh,q _ H1 HF1 g1 (Be hq (fun _ _ s h=>h.mono s) hq' (fun _ _ s h=>h.mono s) rr rr')⟩
  ·cases hf
end
end Dl
namespace Zp
open PySem PyProof.Rows
theorem IsI.ne{b:Bool}{h:Heap}{it l:Addr}{k:Nat}{xs:Array Value}(x:IsI b h it l k)(y:IsS b h l xs):l≠it:=by
 rintro rfl
 cases b
 ·obtain⟨o,e,c,d⟩:=(show h.IsListIter l l k from x)
  obtain⟨o',e',r⟩:=(show h.IsList l xs from y)
  rw[e] at e';cases e'
  simp_all
 ·obtain⟨o,e,c,d⟩:=(show h.IsTupleIter l l k from x)
  obtain⟨o',e',r⟩:=(show h.IsTuple l xs from y)
  rw[e] at e';cases e'
  simp_all
section
variable {prog:Program}{w:World}{A:Around}{E:Value->Shared->Prop}{s:Shared}
theorem drawsI(hn:A.handled=none)(b:Bool)(it l:Addr)(xs:Array Value):Draws prog w A it [it,l] xs.size (fun i x=>xs[i]?=some x) (fun i h=>IsI b h it l i/\IsS b h l xs) where
 live:=fun i h st=>let ⟨o,e,_⟩:=st.1.obj;⟨o,e⟩
 frame:=fun i h h' st k=>⟨st.1.at (k it (by simp)),st.2.at (k l (by simp))⟩
 item:=fun i s Q E hi st hQ=>nxt st.1 st.2 (v:=xs[i]) (by simp[hi]) fun g e t=>hQ _ g s.toks (by simp[hi]) ⟨e,st.2.extBut t.extBut (st.1.ne st.2)⟩ t
 done:=fun s Q E st hE=>nxtE hn st.1 st.2 (by simp) hE
theorem nextE{b₁:Bool}{e it l:Addr}{i:Nat}{items:Array Value}{x old:Value}{Q:Option Value->Shared->Prop}(hn:A.handled=none)
  (qe:IsEnum s.heap e it i old) (qi:IsI b₁ s.heap it l i) (ql:IsS b₁ s.heap l items) (ex:items[i]?=some x) (nei:e≠it)
  (kQ:∀g tk,IsEnumOut g e it ((i:Int)+1) x s.heap.objs.size->IsI b₁ g it l (i+1)->g.get? s.heap.objs.size=some { cls:=.type "tuple",data:=.seq #[.int i tk,x] } ->
   g.objs.size=s.heap.objs.size+1->(∀c o,c≠e->c≠it->s.heap.get? c=some o->g.get? c=some o)->Q (some (.ref s.heap.objs.size)) { s with heap:=g,toks:=tk+1 }) :
  wpAny (model prog w) A (pyNext (.ref e)) Q E s:=by
 have nel:e≠l:=by
  rintro rfl
  cases b₁
  ·obtain⟨o,e1,r⟩:=(show s.heap.IsList e items from ql)
   rw[qe] at e1;cases e1;simp at r
  ·obtain⟨o,e1,r⟩:=(show s.heap.IsTuple e items from ql)
   rw[qe] at e1;cases e1;simp at r
 have D:Draws prog w A.in1 it [it,l] items.size (fun i x=>items[i]?=some x) (fun i h=>IsI b₁ h it l i/\IsS b₁ h l items):=drawsI (A:=A.in1) hn b₁ it l items
 refine wpAny_pyNext_enum_itemD D qe ⟨qi,ql⟩ (Array.getElem?_eq_some_iff.mp ex).1 nei (by simp[nei,nel]) fun y g tk hy a b c d k=>?_
 rw[ex] at hy;cases hy
 exact kQ g tk a b.1 c d k
end
end Zp
namespace Dl
open PySem L2 PySem.Spec PyProof.Rows Zp
theorem nv{P:Program}{w:World}{K:W.Frag}{elts:List Expr}{k:Nat}{pos:Pos}(b:Bool)(a it e:Addr)(hei:e≠it):Turn P w K (.Tuple elts k pos) (II (ll K b a)) [e,it] e (fun i h=>(∃old,IsEnum h e it i old)/\IsI b h it a i) where
 mem:=by simp
 obj:=fun i h st c hc=>by
  obtain⟨⟨old,he⟩,hi⟩:=st
  rcases zR.mp hc with z|z
  ·subst z;exact⟨_,he,fun v q=>by have q:Data.fields _=Data.cell v:=q;cases q⟩
  ·rw[yL.mp z];exact hi.obj
 keep:=fun i h h' st kk=>⟨let ⟨old,he⟩:=st.1;⟨old,kk e (by simp) _ he⟩,st.2.at fun o q=>kk it (by simp) o q⟩
 item:=by
  intro X hP hw hK hc i pins s σ H E I hf st hg
  subst hP hw hK
  obtain⟨xs,x,hq,hx⟩:=hg
  obtain⟨its,rv,p,hz⟩:=hq.src I
  obtain⟨u,hu,ru⟩:=rv.get hx
  obtain⟨⟨old,he⟩,hi⟩:=st
  refine nextE (I.ok.hd hc) he hi p (x:=u) (by simpa using hu) hei fun g tk b1 b2 b3 b4 hk=>⟨.ref s.heap.objs.size,rfl,?_⟩
  have lt:∀ {c:Addr}{o:Obj},s.heap.get? c=some o->s.heap.objs.size≠c:=fun e=>Nat.ne_of_gt (zZ e)
  have hte:s.heap.objs.size≠e:=lt he
  refine wpAny_letOwnedTupleGo_enum (s:={ s with heap:=g,toks:=tk+1 }) b1 fun g' he' hs'=>?_
  have b3':g'.get? s.heap.objs.size=some { cls:=.type "tuple",data:=.seq #[.int i tk,u] }:=hs'.extBut _ _ hte b3
  have ht:kF g' s.heap.objs.size (List.toArray [Value.int (i:Nat) tk,u]):=⟨⟨_,b3',rfl,_,rfl⟩,_,b3',rfl⟩
  refine⟨.ref s.heap.objs.size,_,sV (ch:=[e,it]) (xs:=[.int (i:Nat),x]) (t':=tk+1) I hf (fun c o hb q=>?_) (Nat.le_refl _) ht (.cons ⟨_,rfl⟩ (.cons ru .nil)) (by show 2<=sizeLine;decide),rfl,
   ⟨s.heap.objs.size,x,rfl,I.fresh,rfl,fun zs hzs=>by rw[hzs.inj I hq];exact hx⟩,⟨⟨_,he'⟩,b2.extBut hs'.extBut (Ne.symm hei)⟩,fun c hc'=>?_⟩
  ·simp only[zR,yG,or_false,not_or] at hb
   exact hs'.extBut _ _ hb.1 (hk c o hb.1 hb.2 q)
  ·have:s.heap.objs.size≠c:=by
    simp only[zR,yG,or_false] at hc'
    obtain⟨o1,g1,_⟩:=hi.obj
    rcases hc' with rfl|rfl
    ·exact lt he
    ·exact lt g1
   rw[av (Ne.symm this)]
   exact (hf c hc').1
 done:=by
  intro X hP hw hK hc i pins s σ H E I hf st hg
  subst hP hw hK
  obtain⟨xs,hq,hx⟩:=hg
  obtain⟨its,rv,p,hz⟩:=hq.src I
  have hh:X.A.in1.handled=none:=I.ok.hd hc
  have hl:=rv.length
  obtain⟨⟨old,he⟩,hi⟩:=st
  have hT:s.TypeIs (.ref e) "enumerate":=⟨_,he,rfl⟩
  unfold pyNext
  refine zW (wpAny_attempt (wpAny_callSpecial?_slot (name:=Str.ofString "__next__") hT F.slot_enumerate_next (wpAny_call_entry F.slot_enumerate_next hT F.entry_enumerate_next ?_ (F.args_enumerate_next_1 _))))
  refine zW (m:=field (.ref e) 2) (wpAny_field he rfl (x:=.ref it) rfl ?_)
  refine zW (nxtE hh hi p (by simp;omega) fun h1 x k1 hx1=>?_)
  obtain⟨o,ho,hc1⟩:=hx1
  refine zW (wpAny_isInstance (T:="StopIteration") (b:=true) ⟨o,ho,hc1⟩ isSubtype_stop (zX ⟨rfl,?_⟩))
  obtain⟨f0,f1,f2,f3,f4,f5⟩:=hf it (by simp)
  exact I.turned (t':=s.toks) (fun b o hb q=>k1 b o hb q) f0 f1 f3 f4 f5
 self:=fun _ _ _ _ _ st h=>let ⟨_,he⟩:=st.1;wpAny_pyIter_enum he h
section
variable {X:Cx}{l:Expr}{f:Env->Option D}{fs:Env->Option (List D)}{elts:List Expr}{k:Nat}{pos p tp:Pos}
theorem CH{tl:TA}(B:jj X "enumerate" (.type "enumerate"))(ha:PA X [l] tl)(hs:starEach [l] X.env=[(false,eval l X.env)]):PI X (.Tuple elts k tp) (.Call (.Name "enumerate" p) [l] [] pos) (fun σ H R=>tl σ H fun vs H1=>∃a,vs=[.ref a]/\∃b xs,ll X.K b a H1 xs/\R (II (ll X.K b a)) H1):=by
 intro pins s σ H R I h
 refine Call_ (eL I B.gl B.mg B.bt (PyProof.Rows.callWith_type1 (bw (ha pos pins s σ H _ I h) fun us s1 ⟨vs,H1,I1,r1,q1⟩=>?_) hs rfl))
 obtain⟨a,e,b,xs,hq,q⟩:=q1
 subst e
 obtain⟨u,rfl,rx⟩:=vals1 r1
 cases rx
 have fresh:∀b∈[s1.heap.objs.size+1,s1.heap.objs.size],bI X pins H1 b:=fun b hb=>by
  rcases zR.mp hb with z|z
  ·subst z;exact I1.fpOk (Nat.le_succ _) (I1.hok.fresh (Nat.le_succ _))
  ·cases yL.mp z;exact I1.fpOk (Nat.le_refl _) I1.fresh
 obtain⟨its,rv,pl,hz⟩:=hq.src I1
 cases b with
 | false =>
  refine call_enumerate_list pl fun h' he hit hsz kp=>wpAny_pyIter_enum (s:={ s1 with heap:=h' }) he ?_
  exact⟨_,_,_,_,H1,rfl,I1.kept (t':=s1.toks) kp,nv false a s1.heap.objs.size (s1.heap.objs.size+1) (Nat.succ_ne_self _),⟨⟨_,he⟩,hit⟩,fresh,q⟩
 | true =>
  refine En.call_enumT (show s1.heap.IsTuple a its.toArray from pl) fun h' he hit hsz kp=>wpAny_pyIter_enum (s:={ s1 with heap:=h' }) he ?_
  exact⟨_,_,_,_,H1,rfl,I1.kept (t':=s1.toks) kp,nv true a s1.heap.objs.size (s1.heap.objs.size+1) (Nat.succ_ne_self _),⟨⟨_,he⟩,hit⟩,fresh,q⟩
noncomputable def bp(fs:Env->Option (List D)):Env->Option (List D):=fun ρ=>(fs ρ).bind fun ds=>(bU ds).map (aI 0)
theorem Dt(B:jj X "enumerate" (.type "enumerate"))(h:DA X [l] fs)(hs:starEach [l] X.env=[(false,eval l X.env)]):DI X (.Tuple elts k tp) (.Call (.Name "enumerate" p) [l] [] pos) (bp fs) :=
 m6 (CH B h hs) fun σ H R ⟨HF,ρ,ds,sm,eo,hf,q⟩=>by
  obtain⟨x,hx,hf⟩:=bs hf
  obtain⟨es,h1,rfl⟩:=ae hf
  obtain⟨d,h0,h1⟩:=bs h1
  rw[eH h0] at hx
  refine⟨HF,ρ,_,sm,eo,hx,fun vs H1 HF1 g1 r1=>?_⟩
  obtain⟨v,r',rfl,a,b⟩:=r1.cons_inv
  rw[b.nil_inv]
  obtain⟨c,ad,us,rfl,hq,rr⟩:=m7 h1 a
  exact⟨ad,rfl,c,us,hq.mono g1.fh,q _ H1 HF1 g1 (xc hq (fun _ _ s h=>h.mono s) rr)⟩
end
end Dl
namespace Srt
open PySem PySem.W PySem.Calls PyProof.Rows L2
theorem bI.at{X:Cx}{pins:List (Addr×Obj)}{H H':Hp}{b:Addr}(h:bI X pins H b)(e:H' b=none):bI X pins H' b:=⟨e,h.2⟩
section
variable {X:Cx}{pins:List (Addr×Obj)}{σ:L2.St}{H:Hp}{s:Shared}{A:Around}{E:Value->Shared->Prop}
theorem upd_inv{b:Addr}{g:Array Value->Array Value}(I:Inv X pins σ H s)(f:bI X pins H b):Inv X pins σ H { s with heap:=s.heap.update b (Obj.mapSeq g) }:=by
 obtain⟨f0,f1,f2,f3,f4,f5⟩:=f
 exact I.turned (t':=s.toks) (h':=s.heap.update b (Obj.mapSeq g)) (fun c o hc e=>(Heap.get?_update_other _ _ (Ne.symm hc)).trans e) f0 f1 f3 f4 f5
theorem pin_get{fp:List Addr}{h:Heap}{b:Addr}{o:Obj}{H':Hp}{s':Shared}(I:Inv X (pins++kE fp h) σ H' s')(hb:b∈fp)(e:h.get? b=some o):s'.heap.get? b=some o/\H' b=none :=
 let q:=I.pin (b,o) (yF _ (yF _ (cG hb e)));⟨q.1,q.2.1⟩
theorem list_sortK{a:Addr}{f:Value}{vs:List Value}{n:Nat}{P:PySem.Fin->Shared->Prop}(I:Inv X pins σ H s)(ho:s.heap.get? a=some (seqObj "list" vs.toArray n))(fa:bI X pins H a)(h64:vs.length < 64)
  (J:List Value->Hp->Prop) (j0:J [] H)
  (step:∀us v,vs[us.length]?=some v->∀pl s' H',Inv X (pins++pl) σ H' s'->J us H'->wpAny (model X.prog X.w) A (call f [v]) (fun u s''=>∃H'',Inv X (pins++pl) σ H'' s''/\J (us++[u]) H'') (fun _ _=>False) s')
  (fin:∀us H',us.length=vs.length->J us H'->∃ (z:Nat->Int) (κ:SortKind),(2<=vs.length->∀s',Inv X pins σ H' s'->(∀Q':SortKind->Shared->Prop,Q' κ s'->wpAny (model X.prog X.w) A (keyKind' us.toArray) Q' (fun _ _=>False) s') /\
    ∀i j C,i < vs.length->j < vs.length->C (SP.dk z i j) s'->kas_ask X.prog X.w A κ us i j C s') /\
   ∀s' c,Inv X pins σ H' s'->bI X pins H' a->s'.heap.get? a=some (seqObj "list" (outV z vs).toArray c)->P (.done (.ret .none)) s') :
  wpAny (model X.prog X.w) A (ksk_tree a f false) P E s:=by
 have hsl:vs.length<=sizeLine:=by rw[sizeLine_eq];omega
 unfold ksk_tree
 refine zW (listItems_at ho rfl ?_)
 refine zW (listUpdate_at ho rfl ?_ (by simpa using hsl) (Nat.zero_le _))
 obtain⟨e1,ho1⟩:∃e,(s.heap.update a (Obj.mapSeq fun _=>(#[]:Array Value))).get? a=some (seqObj "list" #[] e):=⟨_,get?_update_seq ho fun _=>#[]⟩
 have I1:=upd_inv (g:=fun _=>(#[]:Array Value)) I fa
 refine zW (seqEpoch_at ho1 rfl ?_)
 refine zW (wpAny_newTuple ?_ (by simpa using hsl))
 refine zW (wpAny_newList ?_ (Nat.zero_le _))
 refine wpAny_holding ?_
 have ho3:(((s.heap.update a (Obj.mapSeq fun _=>(#[]:Array Value))).push (seqObj "tuple" vs.toArray 0)).push (seqObj "list" #[] 0)).get? a=some (seqObj "list" #[] e1):=zV _ (zV _ ho1)
 have hk3:(((s.heap.update a (Obj.mapSeq fun _=>(#[]:Array Value))).push (seqObj "tuple" vs.toArray 0)).push (seqObj "list" #[] 0)).get? ((s.heap.update a (Obj.mapSeq fun _=>(#[]:Array Value))).push (seqObj "tuple" vs.toArray 0)).objs.size=some (seqObj "list" #[] 0):=zY _ rfl
 have I3:=(I1.kept (t':=s.toks) (h':=((s.heap.update a (Obj.mapSeq fun _=>(#[]:Array Value))).push (seqObj "tuple" vs.toArray 0)).push (seqObj "list" #[] 0)) fun b o e=>zV _ (zV _ e))
 have I2:=(I1.kept (t':=s.toks) (h':=(s.heap.update a (Obj.mapSeq fun _=>(#[]:Array Value))).push (seqObj "tuple" vs.toArray 0)) fun b o e=>zV _ e)
 have fk:bI X pins H ((s.heap.update a (Obj.mapSeq fun _=>(#[]:Array Value))).push (seqObj "tuple" vs.toArray 0)).objs.size:=I2.fpOk (Nat.le_refl _) (I2.hok.fresh (Nat.le_refl _))
 have hka:((s.heap.update a (Obj.mapSeq fun _=>(#[]:Array Value))).push (seqObj "tuple" vs.toArray 0)).objs.size≠a:=by
  have hlt:=zZ ho1
  rw[Heap.size_push]
  exact Nat.ne_of_gt (Nat.lt_succ_of_lt hlt)
 show wpAny _ A _ P E { s with heap:=((s.heap.update a (Obj.mapSeq fun _=>(#[]:Array Value))).push (seqObj "tuple" vs.toArray 0)).push (seqObj "list" #[] 0) }
 generalize ((s.heap.update a (Obj.mapSeq fun _=>(#[]:Array Value))).push (seqObj "tuple" vs.toArray 0)).objs.size=kS at hk3 fk hka
 generalize e3:({ s with heap:=((s.heap.update a (Obj.mapSeq fun _=>(#[]:Array Value))).push (seqObj "tuple" vs.toArray 0)).push (seqObj "list" #[] 0) }:Shared)=s3 at I3
 have ho3:s3.heap.get? a=some (seqObj "list" #[] e1):=by rw[<- e3];exact ho3
 have hk3:s3.heap.get? kS=some (seqObj "list" #[] 0):=by rw[<- e3];exact hk3
 clear e3 I2 I1 ho1 ho
 unfold ksk_rest
 refine zW (wpAny_rule ?_)
 first
  | rw[List.forIn_toArray]
  | (rw[<- Array.forIn_toList];simp only[List.toList_toArray])
  | rw[<- Array.forIn_toList]
 refine zW (ksk_fold (fun i s'=>∃us H' e,us.length=i/\Inv X pins σ H' s'/\H' a=none/\H' kS=none/\s'.heap.get? a=some (seqObj "list" #[] e1)/\s'.heap.get? kS=some (seqObj "list" us.toArray e)/\J us H') vs 0 s3
  ⟨[],H,0,rfl,I3,fa.1,fk.1,ho3,hk3,j0⟩ ?step ?done)
 case step =>
  rintro j x s' hx ⟨us,H',e,hu,I',ha',hk',hoa,hok,j'⟩
  have hu:us.length=j:=by omega
  have hj:j < vs.length:=(zU.mp hx).1
  have Ip:=I'.pinned (fp:=[a,kS]) (fun b hb=>by
   rcases zR.mp hb with rfl|hb
   ·exact bI.at fa ha'
   ·rw[yL.mp hb];exact bI.at fk hk') (fun b hb=>by
   rcases zR.mp hb with rfl|hb
   ·exact⟨_,hoa,fun v z=>by cases z⟩
   ·rw[yL.mp hb];exact⟨_,hok,fun v z=>by cases z⟩)
  refine zW (wpAny_attempt (wpAny_mono (step us x (by rw[hu];exact hx) _ s' H' Ip j') (fun u s'' he=>?_) fun _ _ hF=>hF.elim))
  obtain⟨H'',I'',j''⟩:=he
  try dsimp only
  obtain⟨ga,na⟩:=pin_get I'' (b:=a) zE hoa
  obtain⟨gk,nk⟩:=pin_get I'' (b:=kS) (zC _ zE) hok
  have I4:=I''.unpinned
  obtain⟨c2,hc2⟩:∃c2,(s''.heap.update kS (Obj.mapSeq (·.push u))).get? kS=some (seqObj "list" (us.toArray.push u) c2):=⟨_,get?_update_seq gk (·.push u)⟩
  refine zW (listUpdate_at gk rfl ?_ (by rw[zH,sizeLine_eq];omega) (yE (Nat.le_of_eq (Array.size_push ..)) (by rw[zH,sizeLine_eq];omega)))
  refine zX ⟨rfl,us++[u],H'',c2,by rw[zN,hu];simp,upd_inv I4 (bI.at fk nk),na,nk,(Heap.get?_update_other _ _ hka).trans ga,?_,j''⟩
  rw[hc2]
  simp
 case done =>
  rintro s' ⟨us,H',e,hu,I',ha',hk',hoa,hok,j'⟩
  have hu:us.length=vs.length:=by omega
  try dsimp only
  refine zW (listItems_at hok rfl ?_)
  obtain⟨z,κ,hz,hP⟩:=fin us H' hu j'
  have last:∀st':SortSt,(arrOf st').map (·.2)=(outV z vs).toArray->failedOf st'=none->wpAny (model X.prog X.w) A (ksk_tail a false e1 (.ref kS) st') P E s':=fun st' h1 h2=>by
   unfold ksk_tail
   try dsimp only
   rw[h1,h2]
   have na1:(s'.heap.update kS (Obj.mapSeq fun _=>(#[]:Array Value))).get? a=some (seqObj "list" #[] e1):=(Heap.get?_update_other _ _ hka).trans hoa
   have I5:=upd_inv (g:=fun _=>(#[]:Array Value)) I' (bI.at fk hk')
   have I6:=upd_inv (s:={ s' with heap:=s'.heap.update kS (Obj.mapSeq fun _=>(#[]:Array Value)) }) (g:=fun _=>(outV z vs).toArray) I5 (bI.at fa ha')
   refine zW (listUpdate_at hok rfl ?_ (by rw[zH,sizeLine_eq];omega) (Nat.zero_le _))
   refine zW (wpAny_letGo ?_)
   refine zW (seqEpoch_at na1 rfl ?_)
   refine zW (listUpdate_at na1 rfl ?_ (Nat.zero_le _) (by
    simp only[Bool.false_eq_true,if_false]
    show (outV z vs).toArray.size<=_;rw[zH,outV_len];omega))
   obtain⟨c,hc⟩:∃c,((s'.heap.update kS (Obj.mapSeq fun _=>(#[]:Array Value))).update a (Obj.mapSeq fun _=>(outV z vs).toArray)).get? a=some (seqObj "list" (outV z vs).toArray c):=⟨_,get?_update_seq na1 fun _=>(outV z vs).toArray⟩
   simp only[bne_self_eq_false,Bool.false_eq_true,if_false]
   exact zX (hP _ c I6 (bI.at fa ha') hc)
  unfold ksk_end
  try dsimp only
  simp only[Bool.false_eq_true,if_false]
  by_cases h2:vs.toArray.size < 2
  ·rw[if_pos h2,if_pos h2]
   refine zW (zX ?_)
   rw[StateT.run_pure]
   refine zW (zX (last _ ?_ rfl))
   have h2':vs.length < 2:=by simpa using h2
   unfold outV
   rw[if_pos h2']
   show ((us.toArray.zip vs.toArray).map (·.2))=vs.toArray
   apply Array.toList_inj.mp
   simp only[Array.toList_map,Array.toList_zip]
   exact List.map_snd_zip (by rw[hu];exact Nat.le_refl _)
  ·rw[if_neg h2,if_neg h2]
   have h2':2<=vs.length:=by
    have:¬ vs.length < 2:=by simpa using h2
    omega
   obtain⟨hk,hlt⟩:=hz h2' s' I'
   refine zW (wpAny_mono (hk (fun κ' s''=>κ'=κ/\s''=s') ⟨rfl,rfl⟩) (fun κ' s'' hs=>?_) fun _ _ x=>x.elim)
   obtain⟨rfl,rfl⟩:=hs
   refine zW (wpAny_mono (kat_run (Q:=fun st' s2=>s2=s''/\(arrOf st').map (·.2)=(outV z vs).toArray/\failedOf st'=none) (G:=fun p s2=>s2=s''/\p=SP.run (SP.dk z) (kas_sort vs.length))
    hu h2' h64 (fun p st' s2 a1 a2 a3 a4=>⟨a4.1,?_,a3⟩) (SP.wp_run hlt (kas_sort vs.length) (SP.BD (by omega)) ⟨rfl,rfl⟩)) ?_ fun _ _ e=>e)
   ·rw[kat_snds hu a2,a4.2]
    unfold outV
    rw[if_neg (by omega)]
   ·rintro⟨⟨⟩,st'⟩ s2 ⟨hs,h4,h5⟩
    subst hs
    exact last st' h4 h5
theorem sortedK{l:Value}{f:Addr}{vs:List Value}{Q:Value->Shared->Prop}(I:Inv X pins σ H s)(h64:vs.length < 64)
  (hcol:∀ {Q':List Value->Shared->Prop},(∀h':Heap,(∀b o,s.heap.get? b=some o->h'.get? b=some o)->Q' vs { s with heap:=h' })->wpAny (model X.prog X.w) A.in1 (collect l) Q' E s)
  (J:List Value->Hp->Prop) (j0:J [] H)
  (step:∀us v,vs[us.length]?=some v->∀pl s' H',Inv X (pins++pl) σ H' s'->J us H'->wpAny (model X.prog X.w) A.in1.in1 (call (.ref f) [v]) (fun u s''=>∃H'',Inv X (pins++pl) σ H'' s''/\J (us++[u]) H'') (fun _ _=>False) s')
  (fin:∀us H',us.length=vs.length->J us H'->∃ (z:Nat->Int) (κ:SortKind),(2<=vs.length->∀s',Inv X pins σ H' s'->(∀Q':SortKind->Shared->Prop,Q' κ s'->wpAny (model X.prog X.w) A.in1.in1 (keyKind' us.toArray) Q' (fun _ _=>False) s') /\
    ∀i j C,i < vs.length->j < vs.length->C (SP.dk z i j) s'->kas_ask X.prog X.w A.in1.in1 κ us i j C s') /\
   ∀s' D c,Inv X pins σ H' s'->bI X pins H' D->s'.heap.get? D=some (seqObj "list" (outV z vs).toArray c)->Q (.ref D) s') :
  wpAny (model X.prog X.w) A (call (.builtin "sorted") [l] [(Str.ofString "key",.ref f)]) Q E s:=by
 have hsl:vs.length<=sizeLine:=by rw[sizeLine_eq];omega
 refine call_function_entry_kw kind_sorted plain_sorted entry_sorted (ksk_s1 _ _) ?_
 unfold Builtin.«sorted»
 refine zW (m:=checkCount "sorted" 1 1 _) (zX (zW (hcol fun h1 kp=>?_)))
 refine zW (wpAny_newList ?_ (by simpa using hsl))
 have I1:=I.kept (t':=s.toks) kp
 have fD:bI X pins H h1.objs.size:=I1.fpOk (Nat.le_refl _) (I1.hok.fresh (Nat.le_refl _))
 have hoD:(h1.push (seqObj "list" vs.toArray 0)).get? h1.objs.size=some (seqObj "list" vs.toArray 0):=zY _ rfl
 have I2:=I1.kept (t':=s.toks) (h':=h1.push (seqObj "list" vs.toArray 0)) fun b o e=>zV _ e
 show wpAny _ _ _ _ _ { s with heap:=h1.push (seqObj "list" vs.toArray 0) }
 refine zW (wpAny_holding (wpAny_call_entry_kw slot_list_sort ⟨_,hoD,rfl⟩ entry_list_sort ?body (ksk_l1 _ _)))
 case body =>
  show wpAny (model X.prog X.w) A.in1.in1 (Builtin.«list.sort» ⟨[.ref h1.objs.size],[(Str.ofString "key",.ref f)]⟩) _ _ _
  rw[ksk_t1]
  refine list_sortK I2 hoD fD h64 J j0 step fun us H' hu j'=>?_
  obtain⟨z,κ,hz,hP⟩:=fin us H' hu j'
  exact⟨z,κ,hz,fun s' c I' f' e=>⟨_,rfl,zX ⟨_,rfl,hP s' _ c I' f' e⟩⟩⟩
end
end Srt
namespace Dl
open PySem L2 PySem.Spec PyProof.Rows
theorem _root_.L2.Inv.track{X:Cx}{pins:List (Addr×Obj)}{σ:L2.St}{H:Hp}{s:Shared}{b:Addr}{o:HO}(I:Inv X pins σ H s)(f:bI X pins H b)(ho:dg X.prog X.w (upd H b o) s.heap b o):Inv X pins σ (upd H b o) s:=by
 obtain⟨f0,f1,f2,f3,f4,f5⟩:=f
 have up:∀c u,H c=some u->upd H b o c=some u:=fun c u e=>by rw[av (aC e f0)];exact e
 refine⟨I.ok,I.os,I.bare,⟨I.base.keep,I.base.slot,fun c oc e n hx=>?_,I.base.there,fun c xs e=>up c _ (I.base.tups c xs e),fun c oc u e=>up c _ (I.base.frzs c oc u e),⟨fun c u e t=>up c u (I.base.tbls.st c u e t),I.base.tbls.gr⟩⟩,I.loc,I.cell,?_,fun x c e=>?_,fun p hp=>?_,fun c u e=>?_,I.len⟩
 ·have hne:c≠b:=fun z=>by
   rcases f3 with g|g
   ·exact hx (z ▸ g)
   ·exact absurd (zP (zZ e) (z ▸ g)) (Nat.lt_irrefl _)
  rw[av hne];exact I.base.free c oc e n hx
 ·rw[av (Ne.symm f1)];exact I.free
 ·rw[av (f4 x c e)];exact I.freeC x c e
 ·obtain⟨e,n,r⟩:=I.pin p hp
  exact⟨e,by rw[av (f5 p hp)];exact n,r⟩
 ·by_cases hc:c=b
  ·subst hc;rw[aw] at e;cases e;exact ho
  ·rw[av hc] at e
   exact (I.hok c u e).stay (fun d w _ q=>q) (fun d q=>up d _ q) fun d w q _=>up d _ q
noncomputable def k6(scope:Scope)(N':List Str)(p:Str):Bool:=scope.names.all (fun q=>!decide (q.2=NameKind.cell))&&decide (N'[0]?=some p)&&decide (scope.names.lookup p=some .local)&&decide (scope.isCoroutine=false)&&decide (scope.isGenerator=false)
section
variable {X:Cx}{N:List Str}{sc:Scope}{k:Nat}
theorem BM{scope:Scope}{N':List Str}{p qual:Str}{A:Around}{f c:Addr}{s:Shared}{H:Hp}(C:Bk X N sc (k+3))(hA:da (k+1) A)(hk:scope.kind=.function)(hnd:N'.Nodup)(hl:k6 scope N' p=true):Bk (eX X A qual scope N' f c s H) N' scope k where
 n:=rfl
 nd:=hnd
 tb:=fun x kd hx=>.inl hx
 calm:=rfl
 fn:=fun x hx=>by
  unfold k6 at hl
  simp only[zF,List.all_eq_true,Bool.not_eq_true',decide_eq_false_iff_not] at hl
  exact absurd rfl (hl.1.1.1.1 _ (mem_of_lookup hx))
 room:=hA.deeper _
 xe:=rfl
 kd:=hk
structure nc(X:Cx)(qual:Str):Prop where
 ex:∃c P,X.env.code=.ref c/\X.env.qual++"<lambda>"=qual/\W.codeHdIn X.K c P=true/\∀HF,eG X.K HF->HF P=some (.tab qual)
noncomputable def iE(te:Env->Option D)(ρ:Env):List D->Option (List D)
 | []=>some []
 | d::ds=>(te (ρ.set 0 (some d))).bind fun x=>(iE te ρ ds).map (x::·)
theorem kM{te:Env->Option D}{ρ:Env}:∀ {ds ks:List D},iE te ρ ds=some ks->ks.length=ds.length
 | [],ks,h=>by cases h;rfl
 | d'::ds,ks,h=>by
  unfold iE at h
  obtain⟨y,h1,h⟩:=bs h
  obtain⟨ys,h2,rfl⟩:=ae h
  simp[kM h2]
theorem nA{te:Env->Option D}{ρ:Env}:∀ {ds ks:List D}{i:Nat}{d:D},iE te ρ ds=some ks->ds[i]?=some d->∃x,te (ρ.set 0 (some d))=some x/\ks[i]?=some x
 | [],ks,i,d,h,e=>by simp at e
 | d'::ds,ks,i,d,h,e=>by
  unfold iE at h
  obtain⟨y,h1,h⟩:=bs h
  obtain⟨ys,h2,rfl⟩:=ae h
  cases i with
  | zero=>simp at e;subst e;exact⟨y,h1,rfl⟩
  | succ i=>obtain⟨x,a,b⟩:=nA h2 (by simpa using e);exact⟨x,a,by simpa using b⟩
noncomputable def kP(cs:List Nat)(fl te:Env->Option D):Env->Option (List D):=fun ρ=>(fl ρ).bind fun l=>match l with
 | .list ds=>(iE te (cY 1 cs ρ) ds).bind fun ks=>(intsOf ks).bind fun zs=>if ds.length < 64 then some (pb (fun i=>zs.getD i 0) ds .none) else none
 | _=>none
theorem sv{K:W.Frag}{HF:Hp}{ρ:Env}{σ:L2.St}{cs:List Nat}{d:D}{v:V}(eo:b8 K HF ρ σ)(r:Rep K HF d v):b8 K HF ((cY 1 cs ρ).set 0 (some d)) ((iI 1 cs σ).set 0 (some v)):=dD (vq eo) r
theorem jL{K:W.Frag}{HF:Hp}:∀ {ks:List D}{zs:List Int}{kvs:List V}{us:List Value},intsOf ks=some zs->aj K HF ks kvs->ax kvs us->IntsAre us zs
 | [],zs,kvs,us,h,r,v=>by
  cases h
  rw[r.nil_inv] at v
  cases v
  exact .nil
 | d::ks,zs,kvs,us,h,r,v=>by
  cases d<;>simp only[intsOf] at h<;>try cases h
  rename_i i
  obtain⟨ys,h2,rfl⟩:=ae h
  obtain⟨w,ws,rfl,a,b⟩:=r.cons_inv
  simp only[Rep] at a
  subst a
  cases v with
  | cons r1 r2 =>
   obtain⟨t,rfl⟩:=r1
   exact .cons i t (jL h2 b r2)
theorem g9:∀ {us:List Value}{zs:List Int}{i:Nat},IntsAre us zs->i < us.length->∃t,us.getD i Value.none=.int (zs.getD i 0) t
 | _,_,i,.nil,h=>by simp at h
 | _,_,0,.cons n t r,h=>⟨t,rfl⟩
 | _,_,i+1,.cons n t r,h=>by
  obtain⟨t',e⟩:=g9 (i:=i) r (by simpa using h)
  exact⟨t',by simpa using e⟩
variable {l body:Expr}{fl te:Env->Option D}{params:Arguments}{scope:Scope}{lpos pos p0 kpos:Pos}{N':List Str}{cs:List Nat}{p qual:Str}
theorem Bk.sortK(C:Bk X N sc (k+3))(B:jj X "sorted" (.builtin "sorted"))(L:nc X qual)(ok:gO sc scope N N' 1 cs=true)(hl:k6 scope N' p=true)
  (hb:∀ (cl:List (Str×Addr)) (pm ctv u:Value) (c:Addr),bindArgs (W.kla_fn "<lambda>" qual params body scope cl pm (.ref c) ctv) ⟨[u],[]⟩=pure [(p,u)]) (hdef:defaultsOf params X.env=([],[])) (h:DE X l fl)
  (hY:∀A f c s H,Bk (eX X A qual scope N' f c s H) N' scope k->DE (eX X A qual scope N' f c s H) body te)
  (hst:starEach [l] X.env=(false,eval l X.env)::starEach [] X.env) (he:backTo pos (starEach [l] X.env)=(false,eval l X.env)::backTo pos (starEach [] X.env)) (hpl:(backTo pos (starEach [l] X.env)).any (·.1)=false) :
  DF X (.Call (.Name "sorted" p0) [l] [⟨some "key",.Lambda params body scope lpos,kpos⟩] pos) (kP cs fl te):=by
 obtain⟨S,_⟩:=C.comp ok
 have hnd:N'.Nodup:=by
  unfold gO at ok
  simp only[zF,zJ] at ok
  exact ok.2
 have hl':=hl
 unfold k6 at hl'
 simp only[zF,List.all_eq_true,Bool.not_eq_true',decide_eq_false_iff_not,zJ] at hl'
 obtain⟨⟨⟨⟨hnc,hN0⟩,hp⟩,hco⟩,hgen⟩:=hl'
 obtain⟨cc,P,hcode,hqual,hhd,dN⟩:=L.ex
 intro pins s σ H Q I ⟨HF,ρ,out,sm,eo,hf,q⟩
 obtain⟨ld,hld,hf⟩:=bs hf
 cases ld<;>try cases hf
 rename_i ds
 obtain⟨ks,hks,hf⟩:=bs hf
 obtain⟨zs,hzs,hf⟩:=bs hf
 split at hf<;>cases hf
 rename_i h64
 refine wpAny_Call_Name_kw (eL I B.gl B.mg B.bt ?_ (by decide) (by decide))
 refine PyProof.Rows.callWith_kw (e:=l) (rest:=[]) (kws:=[⟨some "key",.Lambda params body scope lpos,kpos⟩]) ?_ he hpl rfl rfl
 refine bw (vR h yk hst pos pins s σ H _ I ⟨HF,ρ,[.list ds],sm,eo,by simp[aa,af,hld],fun vs H1 HF1 g1 r1=>(⟨HF1,g1,r1⟩:∃HF1,bo HF H HF1 H1/\aj X.K HF1 [.list ds] vs)⟩) fun us s1 ⟨vs,H1,I1,rv,HF1,g1,r1⟩=>?_
 obtain⟨v,vr,rfl,a1,b1⟩:=r1.cons_inv
 rw[b1.nil_inv] at rv
 obtain⟨u,rfl,rx⟩:=vals1 rv
 simp only[Rep] at a1
 obtain⟨la,ws,rfl,hq,rr⟩:=a1
 cases rx
 have hT1:H1 P=some (.tab qual):=g1.fh _ _ (dN HF1 (eo.tb.mono g1.ff))
 show wpAny _ _ (evalAll ((do let v <- eval (.Lambda params body scope lpos) X.env;standAt pos;pure v)::[])) _ _ s1
 refine wpAny_evalAll_cons (zW ?_)
 refine qV (P:=P) I1 S hqual hcode (W.codeHd_of_K I1.ok.mod.kin hhd) hT1 I1.ok.mod.bmd hdef fun f c' pm ctv s2 H2 I2 hfo hfn hcod s12 fp2 _=>?_
 refine zW (wpAny_standAt (zX (wpAny_evalAll_nil ?_)))
 show wpAny _ _ (call (.builtin "sorted") [.ref la] [(Str.ofString "key",.ref f)]) _ _ s2
 have Ip:=I2.pinned (fp:=[f]) (fun b hb=>by rw[yL.mp hb];exact fp2) (fun b hb=>by rw[yL.mp hb];exact⟨_,hfo,fun v z=>by cases z⟩)
 have g2:bo HF1 H1 HF1 H2:=⟨s12,.refl _,g1.fh.trans s12,fun _ _ e=>.inl e⟩
 obtain⟨its,rvi,pl,hz⟩:=Ip.list (s12.seq (g1.fh.seq hq))
 have hlen:its.length=ds.length:=by rw[<- rvi.length,rr.length]
 have hkl:=kM hks
 have hR:da (k+1) X.A.in1.in1:=C.room.in1.in1
 refine Srt.sortedK (vs:=its) Ip (by omega) (fun {Q'} hQ=>?_) (fun us H'=>∃HF' kvs,bo HF1 H2 HF' H'/\aj X.K HF' (ks.take us.length) kvs/\ax kvs us) ⟨HF1,[],.refl g2.fh,by simpa using aj.nil,.nil⟩ (fun us x hx pl' s3 H3 I3 ⟨HF3,kvs,g3,rk,rvk⟩=>?_) fun us H3 hu ⟨HF3,kvs,g3,rk,rvk⟩=>?_
 ·refine collect_list pl.isList (hQ _ fun b o e=>?_) (by rw[sizeLine_eq];omega)
  exact (Heap.get?_update_other _ _ (Nat.ne_of_gt (zZ e))).trans (zV _ e)
 ·have hi:us.length < its.length:=(zU.mp hx).1
  obtain⟨w,hw⟩:∃w,ws[us.length]?=some w:=⟨_,zK (by rw[rvi.length];exact hi)⟩
  obtain⟨x',hx',rw'⟩:=rvi.get hw
  rw[hx] at hx'
  cases hx'
  obtain⟨d,hd,rd⟩:=rr.get hw
  obtain⟨kd,hkd,hki⟩:=nA hks hd
  have hfo3:s3.heap.get? f=some (W.kla_obj "<lambda>" qual params body scope (di X.env scope.names []) pm c' ctv) :=
   (I3.pin (f,_) (yF _ (List.mem_append_left _ (yF _ (cG zE hfo))))).1
  refine wpAny_mono (sr (Q:=fun v H4=>∃HF4,bo HF3 H3 HF4 H4/\Rep X.K HF4 kd v) (te:=tD X.K te) I3 hR I3.ok.frames S hnc hN0 hp hnd hco hgen hfo3 (g3.hh _ _ hcod) (hb _ _ _ _ _) rw' (hY _ _ _ _ _ (BM C hR S.kind hnd hl))
   ⟨HF3,_,kd,g3.fh,sv (eo.mono (g1.ff.trans g3.ff)) (rd.mono g3.ff),hkd,fun v H4 HF4 g4 r4=>⟨HF4,g4,r4⟩⟩) (fun u s4 ⟨v4,H4,I4,r4,HF4,g4,rp⟩=>⟨H4,I4,HF4,kvs++[v4],g3.trans g4,?_,rvk.append (.cons r4 .nil)⟩) fun _ _ e=>e
  rw[zN,List.length_singleton,List.take_add_one,hki]
  exact (rk.mono g4.ff).append (aj.cons rp aj.nil)
 ·have hk':ks.take us.length=ks:=List.take_of_length_le (by omega)
  rw[hk'] at rk
  have ia:=jL hzs rk rvk
  refine⟨fun i=>zs.getD i 0,oneType',fun h2 s3 I3=>⟨fun Q' q'=>?_,fun i j Cc hi hj q'=>?_⟩,fun s3 Dn c I3 fD e=>?_⟩
  ·rw[PyProof.Rows.ksk_kind (keys:=us.toArray) (kz:=zs) (by simpa using ia) (by simpa [hu] using h2)]
   exact zX q'
  ·obtain⟨t1,e1⟩:=g9 ia (i:=i) (by omega)
   obtain⟨t2,e2⟩:=g9 ia (i:=j) (by omega)
   unfold W.kas_ask
   rw[e1,e2]
   exact W.kat_lt_int q'
  ·have hv:=mE (fun i=>zs.getD i 0) rvi
   have hr:=m5 (fun i=>zs.getD i 0) rr
   have hnD:H3 Dn=none:=fD.1
   have I4:=Inv.track (o:=.lst (pb (fun i=>zs.getD i 0) ws .non)) I3 fD ⟨by rw[(iu _ _ _).length_eq];exact hz,_,c,hv,e⟩
   have G:=(g1.trans g2).trans g3
   refine⟨.ref Dn,_,I4.unpinned,rfl,q Dn _ _ HF3 (G.trans (.own G.fh hnD)) (G.hh.free hnD) (G.fh.free hnD) aw (hr.mono g3.ff)⟩
end
end Dl
namespace Srt
open PySem PySem.W PySem.Calls PyProof.Rows L2
section
variable {prog:Program}{w:World}{A:Around}{E:Value->Shared->Prop}{s:Shared}
theorem iadd_rng{R:Result->Shared->Prop}{r S:Addr}{a b c:Int}{t u v:Tok}{n:Nat}(hh:A.handled=none)(hr:IsRange s.heap r a b c t u v)(hsmall:Builtin.Range.small a b c=true)(hn:Builtin.Range.rangeSize a b c=n)(hlen:n<=2 ^ 24)
  (hS:s.heap.get? S=some { cls:=.type "list",data:=.seq #[] })
  (hR:∀h' tk acc' c',(∀b o,b≠S->s.heap.get? b=some o->h'.get? b=some o)->h'.get? S=some { cls:=.type "list",dict:=none,data:=.seq acc' c',slots:=#[] } ->
   ItemsOf (fun i v=>∃t,v=.int (a+i * c) t) acc' n->R (.ok (.ret (.ref S))) { s with heap:=h',toks:=tk }):codeAny (model prog w) A (.builtin "list.__iadd__" ⟨[.ref S,.ref r],[]⟩) R s:=by
 refine codeAny_builtin entry_list_iadd' ?_
 rw[Around.under_plainId (by decide +kernel:plainId "list.__iadd__"=true) _]
 exact wpAny_extend_range (A:=A) hh hr hsmall hn hlen S (.ref S) _ hS hR
theorem collect_rng{r:Addr}{a b c:Int}{t u v:Tok}{n:Nat}{Q:List Value->Shared->Prop}(hh:A.handled=none)(hr:IsRange s.heap r a b c t u v)(hsmall:Builtin.Range.small a b c=true)(hn:Builtin.Range.rangeSize a b c=n)(hlen:n<=2 ^ 24)
  (h:∀h' tk acc,(∀b o,s.heap.get? b=some o->h'.get? b=some o)->ItemsOf (fun i v=>∃t,v=.int (a+i * c) t) acc n->Q acc.toList { s with heap:=h',toks:=tk }):wpAny (model prog w) A (collect (.ref r)) Q E s:=by
 unfold collect
 refine zW (wpAny_runValue (codeAny_builtin entry_proto_collect' ?_))
 rw[Around.under_plainId (by decide +kernel:plainId "proto.collect"=true) _]
 show wpAny _ A.in1 (newList [] >>= fun l=>again (.builtin "list.__iadd__" ⟨[l,.ref r],[]⟩)) _ _ s
 refine zW (wpAny_newObj_type ?_)
 have hS:(s.heap.push { cls:=.type "list",data:=.seq #[] }).get? s.heap.objs.size=some { cls:=.type "list",data:=.seq #[] }:=zY _ rfl
 refine zX ⟨plainId_quiet (by decide +kernel) _,iadd_rng (s:={ s with heap:=s.heap.push { cls:=.type "list",data:=.seq #[] } }) hh (zV _ hr) hsmall hn hlen hS fun h' tk acc' c' hk hS' hacc=>?_⟩
 show wpAny _ A (load s.heap.objs.size >>= _) _ _ _
 refine zW (wpAny_load hS' ?_)
 exact zX (h h' tk acc' (fun b o e=>hk b o (Nat.ne_of_lt (zZ e)) (zV _ e)) hacc)
end
section
variable {X:Cx}{pins:List (Addr×Obj)}{σ:L2.St}{H:Hp}{s:Shared}{A:Around}{E:Value->Shared->Prop}
theorem sortedR{l:Value}{f:Addr}{PV:List Value->Prop}{Q:Value->Shared->Prop}(I:Inv X pins σ H s)
  (hcol:∀ {Q':List Value->Shared->Prop},(∀ (h':Heap) (tk:Nat) (vs:List Value),PV vs->(∀b o,s.heap.get? b=some o->h'.get? b=some o)->Q' vs { s with heap:=h',toks:=tk })->wpAny (model X.prog X.w) A.in1 (collect l) Q' E s)
  (rest:∀vs,PV vs->vs.length < 64/\∃J:List Value->Hp->Prop,J [] H /\
   (∀us v,vs[us.length]?=some v->∀pl s' H',Inv X (pins++pl) σ H' s'->J us H'->wpAny (model X.prog X.w) A.in1.in1 (call (.ref f) [v]) (fun u s''=>∃H'',Inv X (pins++pl) σ H'' s''/\J (us++[u]) H'') (fun _ _=>False) s') /\
   (∀us H',us.length=vs.length->J us H'->∃ (z:Nat->Int) (κ:SortKind),(2<=vs.length->∀s',Inv X pins σ H' s'->(∀Q':SortKind->Shared->Prop,Q' κ s'->wpAny (model X.prog X.w) A.in1.in1 (keyKind' us.toArray) Q' (fun _ _=>False) s') /\
    ∀i j C,i < vs.length->j < vs.length->C (SP.dk z i j) s'->kas_ask X.prog X.w A.in1.in1 κ us i j C s') /\
   ∀s' D c,Inv X pins σ H' s'->bI X pins H' D->s'.heap.get? D=some (seqObj "list" (outV z vs).toArray c)->Q (.ref D) s')) :
  wpAny (model X.prog X.w) A (call (.builtin "sorted") [l] [(Str.ofString "key",.ref f)]) Q E s:=by
 refine call_function_entry_kw kind_sorted plain_sorted entry_sorted (ksk_s1 _ _) ?_
 unfold Builtin.«sorted»
 refine zW (m:=checkCount "sorted" 1 1 _) (zX (zW (hcol fun h1 tk vs hv kp=>?_)))
 obtain⟨h64,J,j0,step,fin⟩:=rest vs hv
 have hsl:vs.length<=sizeLine:=by rw[sizeLine_eq];omega
 refine zW (wpAny_newList ?_ (by simpa using hsl))
 have I1:=I.kept (t':=tk) kp
 have fD:bI X pins H h1.objs.size:=I1.fpOk (Nat.le_refl _) (I1.hok.fresh (Nat.le_refl _))
 have hoD:(h1.push (seqObj "list" vs.toArray 0)).get? h1.objs.size=some (seqObj "list" vs.toArray 0):=zY _ rfl
 have I2:=I1.kept (t':=tk) (h':=h1.push (seqObj "list" vs.toArray 0)) fun b o e=>zV _ e
 show wpAny _ _ _ _ _ { s with heap:=h1.push (seqObj "list" vs.toArray 0),toks:=tk }
 refine zW (wpAny_holding (wpAny_call_entry_kw slot_list_sort ⟨_,hoD,rfl⟩ entry_list_sort ?body (ksk_l1 _ _)))
 case body =>
  show wpAny (model X.prog X.w) A.in1.in1 (Builtin.«list.sort» ⟨[.ref h1.objs.size],[(Str.ofString "key",.ref f)]⟩) _ _ _
  rw[ksk_t1]
  refine list_sortK I2 hoD fD h64 J j0 step fun us H' hu j'=>?_
  obtain⟨z,κ,hz,hP⟩:=fin us H' hu j'
  exact⟨z,κ,hz,fun s' c I' f' e=>⟨_,rfl,zX ⟨_,rfl,hP s' _ c I' f' e⟩⟩⟩
end
end Srt
namespace Dl
open PySem L2 PySem.Spec PyProof.Rows
noncomputable def mH(n:Nat):List D:=(List.range n).map fun i=>PyData.int ((i:Nat):Int)
noncomputable def Aa(cs:List Nat)(fs:Env->Option (List D))(te:Env->Option D):Env->Option (List D):=fun ρ=>(fs ρ).bind fun l=>match l with
 | [.int n]=>if 0<=n/\n < 64 then (iE te (cY 1 cs ρ) (mH n.toNat)).bind fun ks=>(rowsOf ks).map fun nss=>pb (fun i=>rk nss (nss.getD i [])) (mH n.toNat) .none else none
 | _=>none
theorem oN:∀ {vs:List Value}{k:Nat},(∀i v,vs[i]?=some v->∃t,v=Value.int ((k+i:Nat):Int) t)->ax ((List.range' k vs.length).map fun i=>V.int ((i:Nat):Int)) vs
 | [],k,_=>.nil
 | v::vs,k,h=>by
  rw[zL,List.range'_succ,zI]
  obtain⟨t,e⟩:=h 0 v rfl
  refine .cons ⟨t,by simpa using e⟩ (oN fun i u hu=>?_)
  obtain⟨t',e'⟩:=h (i+1) u (by simpa using hu)
  exact⟨t',by rw[e'];congr 1;omega⟩
theorem pk{K:W.Frag}{HF:Hp}:∀ (l:List Nat),aj K HF (l.map fun i=>PyData.int ((i:Nat):Int)) (l.map fun i=>V.int ((i:Nat):Int))
 | []=>aj.nil
 | i::l=>aj.cons (by simp[Rep]) (pk l)
section
variable {X:Cx}{N:List Str}{sc:Scope}{k:Nat}
variable {e body:Expr}{fs:Env->Option (List D)}{te:Env->Option D}{params:Arguments}{scope:Scope}{lpos pos p0 kpos rpos p1:Pos}{N':List Str}{cs:List Nat}{p qual:Str}
theorem Bk.sortR(C:Bk X N sc (k+3))(B:jj X "sorted" (.builtin "sorted"))(BR:jj X "range" (.type "range"))(L:nc X qual)(ok:gO sc scope N N' 1 cs=true)(hl:k6 scope N' p=true)
  (hb:∀ (cl:List (Str×Addr)) (pm ctv u:Value) (c:Addr),bindArgs (W.kla_fn "<lambda>" qual params body scope cl pm (.ref c) ctv) ⟨[u],[]⟩=pure [(p,u)]) (hdef:defaultsOf params X.env=([],[])) (h:DA X [e] fs)
  (hY:∀A f c s H,Bk (eX X A qual scope N' f c s H) N' scope k->DE (eX X A qual scope N' f c s H) body te)
  (hsR:starEach [e] X.env=[(false,eval e X.env)])
  (hst:starEach [.Call (.Name "range" p1) [e] [] rpos] X.env=(false,eval (.Call (.Name "range" p1) [e] [] rpos) X.env)::starEach [] X.env) (he:backTo pos (starEach [.Call (.Name "range" p1) [e] [] rpos] X.env)=(false,eval (.Call (.Name "range" p1) [e] [] rpos) X.env)::backTo pos (starEach [] X.env)) (hpl:(backTo pos (starEach [.Call (.Name "range" p1) [e] [] rpos] X.env)).any (·.1)=false) :
  DF X (.Call (.Name "sorted" p0) [.Call (.Name "range" p1) [e] [] rpos] [⟨some "key",.Lambda params body scope lpos,kpos⟩] pos) (Aa cs fs te):=by
 obtain⟨S,_⟩:=C.comp ok
 have hnd:N'.Nodup:=by
  unfold gO at ok
  simp only[zF,zJ] at ok
  exact ok.2
 have hl':=hl
 unfold k6 at hl'
 simp only[zF,List.all_eq_true,Bool.not_eq_true',decide_eq_false_iff_not,zJ] at hl'
 obtain⟨⟨⟨⟨hnc,hN0⟩,hp⟩,hco⟩,hgen⟩:=hl'
 obtain⟨cc,P,hcode,hqual,hhd,dN⟩:=L.ex
 intro pins s σ H Q I ⟨HF,ρ,out,sm,eo,hf,q⟩
 obtain⟨ld,hld,hf⟩:=bs hf
 obtain⟨n,rfl⟩:∃n,ld=[.int n]:=by
  split at hf
  ·exact⟨_,rfl⟩
  ·cases hf
 simp only at hf
 split at hf
 rotate_left
 ·cases hf
 rename_i h64
 obtain⟨ks,hks,hf⟩:=bs hf
 obtain⟨nss,hns,rfl⟩:=ae hf
 obtain⟨hkr,hne⟩:=iF hns
 refine wpAny_Call_Name_kw (eL I B.gl B.mg B.bt ?_ (by decide) (by decide))
 refine PyProof.Rows.callWith_kw (e:=.Call (.Name "range" p1) [e] [] rpos) (rest:=[]) (kws:=[⟨some "key",.Lambda params body scope lpos,kpos⟩]) ?_ he hpl rfl rfl
 rw[he]
 refine Calls.spliced_cons ?_
 refine Call_ (eL I BR.gl BR.mg boot_range (PyProof.Rows.callWith_type1 (bw (h rpos pins s σ H _ I ⟨HF,ρ,[.int n],sm,eo,hld,fun vs H1 HF1 g1 r1=>(⟨HF1,g1,r1⟩:∃HF1,bo HF H HF1 H1/\aj X.K HF1 [.int n] vs)⟩) fun us s1 ⟨vs,H1,I1,rv,HF1,g1,r1⟩=>?_) hsR rfl))
 obtain⟨v,vr,rfl,a1,b1⟩:=r1.cons_inv
 rw[b1.nil_inv] at rv
 obtain⟨u,rfl,rx⟩:=vals1 rv
 simp only[Rep] at a1
 subst a1
 obtain⟨t,rfl⟩:=rx
 refine call_range_1 ?_
 refine Calls.spliced_nil ?_
 obtain⟨hn0,hn64⟩:=h64
 have I1':=I1.kept (t':=s1.toks+1+1) (h':=s1.heap.push { cls:=Value.type "range",data:=Data.fields #[Value.int 0 s1.toks,Value.int n t,Value.int 1 (s1.toks+1)] }) fun b o e=>zV _ e
 have hro:(s1.heap.push { cls:=Value.type "range",data:=Data.fields #[Value.int 0 s1.toks,Value.int n t,Value.int 1 (s1.toks+1)] }).get? s1.heap.objs.size=some { cls:=Value.type "range",data:=Data.fields #[Value.int 0 s1.toks,Value.int n t,Value.int 1 (s1.toks+1)] }:=zY _ rfl
 have Ir:=I1'.pinned (fp:=[s1.heap.objs.size]) (fun b hb=>by rw[yL.mp hb];exact I1.fpOk (Nat.le_refl _) I1.fresh) (fun b hb=>by rw[yL.mp hb];exact⟨_,hro,fun v z=>by cases z⟩)
 have hT1:H1 P=some (.tab qual):=g1.fh _ _ (dN HF1 (eo.tb.mono g1.ff))
 show wpAny _ _ (evalAll ((do let v <- eval (.Lambda params body scope lpos) X.env;standAt pos;pure v)::[])) _ _ _
 refine wpAny_evalAll_cons (zW ?_)
 refine qV (P:=P) Ir S hqual hcode (W.codeHd_of_K Ir.ok.mod.kin hhd) hT1 Ir.ok.mod.bmd hdef fun f c' pm ctv s2 H2 I2 hfo hfn hcod s12 fp2 _=>?_
 refine zW (wpAny_standAt (zX (wpAny_evalAll_nil ?_)))
 show wpAny _ _ (call (.builtin "sorted") [.ref s1.heap.objs.size] [(Str.ofString "key",.ref f)]) _ _ s2
 have hr2:IsRange s2.heap s1.heap.objs.size 0 n 1 s1.toks t (s1.toks+1):=(Srt.pin_get I2 zE hro).1
 have Ip:=I2.pinned (fp:=[f]) (fun b hb=>by rw[yL.mp hb];exact fp2) (fun b hb=>by rw[yL.mp hb];exact⟨_,hfo,fun v z=>by cases z⟩)
 have g2:bo HF1 H1 HF1 H2:=⟨s12,.refl _,g1.fh.trans s12,fun _ _ e=>.inl e⟩
 have hkl:=kM hks
 have hnl:(mH n.toNat).length=n.toNat:=by simp[mH]
 have hR:da (k+1) X.A.in1.in1:=C.room.in1.in1
 refine Srt.sortedR (PV:=fun vs=>vs.length=n.toNat/\∀i v,vs[i]?=some v->∃t,v=Value.int ((i:Nat):Int) t) Ip (fun {Q'} hQ=>?_) fun its ⟨hil,hiv⟩=>⟨by omega,fun us H'=>∃HF' kvs,bo HF1 H2 HF' H'/\aj X.K HF' (ks.take us.length) kvs/\ax kvs us,⟨HF1,[],.refl g2.fh,by simpa using aj.nil,.nil⟩,fun us x hx pl' s3 H3 I3 ⟨HF3,kvs,g3,rk,rvk⟩=>?_,fun us H3 hu ⟨HF3,kvs,g3,rk,rvk⟩=>?_⟩
 ·refine Srt.collect_rng (n:=n.toNat) C.room.in1.hd hr2 (small_one (by omega) (by omega) (by omega) (by omega)) (by rw[rangeSize_one];split<;>omega) (by omega) fun h' tk acc kp ha=>?_
  refine hQ h' tk acc.toList ⟨by have:=ha.1;simpa using this,fun i v hv=>?_⟩ kp
  obtain⟨t',e'⟩:=ha.2 i v (by simpa using hv)
  exact⟨t',by rw[e'];congr 1;omega⟩
 ·have hi:us.length < n.toNat:=by rw[<- hil];exact (zU.mp hx).1
  obtain⟨tx,rfl⟩:=hiv _ _ hx
  have hd:(mH n.toNat)[us.length]?=some (.int ((us.length:Nat):Int)):=by simp[mH,hi]
  obtain⟨kd,hkd,hki⟩:=nA hks hd
  have hfo3:s3.heap.get? f=some (W.kla_obj "<lambda>" qual params body scope (di X.env scope.names []) pm c' ctv) :=
   (I3.pin (f,_) (yF _ (List.mem_append_left _ (yF _ (cG zE hfo))))).1
  refine wpAny_mono (sr (v:=V.int ((us.length:Nat):Int)) (Q:=fun v H4=>∃HF4,bo HF3 H3 HF4 H4/\Rep X.K HF4 kd v) (te:=tD X.K te) I3 hR I3.ok.frames S hnc hN0 hp hnd hco hgen hfo3 (g3.hh _ _ hcod) (hb _ _ _ _ _) ⟨tx,rfl⟩ (hY _ _ _ _ _ (BM C hR S.kind hnd hl))
   ⟨HF3,_,kd,g3.fh,sv (eo.mono (g1.ff.trans g3.ff)) (by simp[Rep]),hkd,fun v H4 HF4 g4 r4=>⟨HF4,g4,r4⟩⟩) (fun u s4 ⟨v4,H4,I4,r4,HF4,g4,rp⟩=>⟨H4,I4,HF4,kvs++[v4],g3.trans g4,?_,rvk.append (.cons r4 .nil)⟩) fun _ _ e=>e
  rw[zN,List.length_singleton,List.take_add_one,hki]
  exact (rk.mono g4.ff).append (aj.cons rp aj.nil)
 ·have hk':ks.take us.length=ks:=List.take_of_length_le (by omega)
  rw[hk',hkr] at rk
  have hnn:nss.length=n.toNat:=by
   have:=congrArg List.length hkr
   rw[zD] at this
   omega
  refine⟨fun i=>Dl.rk nss (nss.getD i []),tuples' true,fun h2 s3 I3=>⟨fun Q' q'=>?_,fun i j Cc hi hj q'=>?_⟩,fun s3 Dn c I3 fD e=>?_⟩
  ·obtain⟨fs',tt,hlen,hff⟩:=mM (j1 I3 g3.fh rk rvk) hne
   refine W.kat_kind (T:=.type "int") tt (by omega) (fun v hv=>?_) (by decide) q'
   obtain⟨n',t',rfl⟩:=hff v hv
   exact W.Looks.of_pure rfl
  ·have hp3:=j1 I3 g3.fh rk rvk
   have ri:=eF (d:=Value.none) (d':=[]) hp3 (show i < us.length by omega)
   have rj:=eF (d:=Value.none) (d':=[]) hp3 (show j < us.length by omega)
   obtain⟨a,o,its1,n1,ea,e1,e2,e3,e4⟩:=ri.ex
   obtain⟨b,o',its',n',eb,f1,f2,f3,f4⟩:=rj.ex
   unfold W.kas_ask
   rw[ea,eb]
   have hmem:nss.getD i []∈nss:=by
    rw[zG,zK (by omega)]
    exact List.getElem_mem _
   have q2:Cc (lexLt (nss.getD i []) (nss.getD j [])) s3:=by
    rw[yW hmem]
    exact q'
   refine W.kat_lt e1 e3 f1 f3 ?_
   have:=mr (prog:=X.prog) (w:=X.w) (A:=X.A.in1.in1) (s:=s3) 0 e4 f4 q2
   have l1:its1.size=(nss.getD i []).length:=by have:=IntsAre.length e4;simpa using this
   have l2:its'.size=(nss.getD j []).length:=by have:=IntsAre.length f4;simpa using this
   rw[l1,l2]
   exact this
  ·have rvi:ax ((List.range n.toNat).map fun i=>V.int ((i:Nat):Int)) its:=by
    have:=oN (vs:=its) (k:=0) fun i v hv=>by
     obtain⟨t',e'⟩:=hiv i v hv
     exact⟨t',by rw[e'];congr 1;omega⟩
    rw[hil,<- yI] at this
    exact this
   have rr:aj X.K HF1 (mH n.toNat) ((List.range n.toNat).map fun i=>V.int ((i:Nat):Int)):=pk _
   have hv:=mE (fun i=>Dl.rk nss (nss.getD i [])) rvi
   have hr:=m5 (fun i=>Dl.rk nss (nss.getD i [])) rr
   have hnD:H3 Dn=none:=fD.1
   have I4:=Inv.track (o:=.lst (pb (fun i=>Dl.rk nss (nss.getD i [])) ((List.range n.toNat).map fun i=>V.int ((i:Nat):Int)) .non)) I3 fD ⟨by rw[(iu _ _ _).length_eq,zD,zS,PySem.sizeLine_eq];omega,_,c,hv,e⟩
   have G:=(g1.trans g2).trans g3
   refine⟨.ref Dn,_,I4.unpinned.unpinned,rfl,q Dn _ _ HF3 (G.trans (.own G.fh hnD)) (G.hh.free hnD) (G.fh.free hnD) aw (hr.mono g3.ff)⟩
end
section
variable {X:Cx}{pos:Pos}
noncomputable def Ji(i j l:Nat):Env->D->Option Env:=fun ρ d=>match d with
 | .tuple [x,y,z]=>if isFree ρ i=true/\isFree ρ j=true/\isFree ρ l=true then some (((ρ.set i (some x)).set j (some y)).set l (some z)) else none
 | _=>none
theorem zj(i j l:Nat){x y z:Str}{px py pz:Pos}{k:Nat}(hc:X.calm=true)(hN:X.N.Nodup)(hi:X.N[i]?=some x)(hx:Loc X.env.scope x)(hj:X.N[j]?=some y)(hy:Loc X.env.scope y)(hl:X.N[l]?=some z)(hz:Loc X.env.scope z)
  (hf:X.fn x=true\/X.env.scope.names.lookup x=some .local) (hf':X.fn y=true\/X.env.scope.names.lookup y=some .local) (hf'':X.fn z=true\/X.env.scope.names.lookup z=some .local) :
  DG X (.Tuple [.Name x px,.Name y py,.Name z pz] k pos) (Ji i j l) :=
 jy (iJ hc (aP (bh hN hi hx hf) (aP (bh hN hj hy hf') (aP (bh hN hl hz hf'') eU)))) fun v σ H Q ⟨HF,ρ,d,ρ',sm,eo,r,hf,q⟩=>by
  unfold Ji at hf
  split at hf
  ·rename_i x' y' z'
   split at hf
   ·rename_i hh
    cases hf
    simp only[Rep] at r
    obtain⟨a,vs,rfl,hs,rr⟩:=r
    obtain⟨v1,r1,rfl,a1,b1⟩:=rr.cons_inv
    obtain⟨v2,r2,rfl,a2,b2⟩:=b1.cons_inv
    obtain⟨v3,r3,rfl,a3,b3⟩:=b2.cons_inv
    rw[b3.nil_inv] at hs
    exact⟨a,_,rfl,au sm hs,rfl,v1,_,rfl,v2,_,rfl,v3,_,rfl,rfl,q _ (dD (dD (dD eo a1) a2) a3) (ee (ee (ee eo hh.1) hh.2.1) hh.2.2)⟩
   ·cases hf
  ·cases hf
end
theorem HS{xs:List Value}(h:2<=xs.length):((List.range 2).filterMap fun (k:Nat)=>xs.toArray[((1:Int)+(k:Int) * (-1)).toNat]?)=(xs.take 2).reverse:=by
 match xs,h with
 | a::b::r,_=>rfl
theorem y6{prog:Program}{w:World}{A:Around}{E:Value->Shared->Prop}{s:Shared}{t sl:Addr}{its:List Value}{tk tk1:Tok}{Q:Value->Shared->Prop}(ht:IsTup s.heap t its.toArray)(hs:s.heap.IsSliceOf sl (.int 1 tk1) .none (.int (-1) tk))
  (h2:2<=its.length) (h:Q (.ref s.heap.objs.size) { s with heap:=s.heap.push { cls:=.type "tuple",data:=.seq (its.take 2).reverse.toArray } }):wpAny (model prog w) A (getItem (.ref t) (.ref sl)) Q E s:=by
 obtain⟨os,hos,hcs,hds⟩:=id hs
 have hTs:s.TypeIs (.ref sl) "slice":=⟨os,hos,hcs⟩
 unfold getItem
 try with_reducible refine wpAny_holding ?_
 first|refine zW (zX ?_)|skip
 refine zW (wpAny_sequenceKey ht.typeIs (by decide) (zW (wpAny_callSpecial?_slot (name:=Str.ofString "__getitem__") ht.typeIs PyProof.Rows.slot_tuple_getitem (wpAny_call_entry PyProof.Rows.slot_tuple_getitem ht.typeIs entry_tuple_getitem ?_ (args_tuple_getitem _ _)))))
 refine zW (m:=Builtin.Tuple.tupleItemsOf (.ref t)) (tupleItemsOf_ ht (zW (wpAny_typeOf hTs ?_)))
 rw[if_pos (by decide)]
 have hap:∀ {R:Int×Int×Nat->Shared->Prop},R (1,-1,2) s->wpAny (model prog w) A.in1 (Builtin.Slice.sliceApplied (.ref sl) (pure ((its.toArray.size:Nat):Int))) R E s:=fun {R} hR=>by
  unfold Builtin.Slice.sliceApplied Builtin.Slice.sliceFields
  refine zW (zW (wpAny_field hos hds (x:=.int 1 tk1) rfl (zW (wpAny_field hos hds (x:=.none) rfl (zW (wpAny_field hos hds (x:=.int (-1) tk) rfl (zX ?_)))))))
  refine zW (slicePart_int ?_)
  show wpAny _ _ (if ((-1:Int) == 0)=true then _ else _) _ _ s
  rw[if_neg (by decide)]
  refine zW (slicePart_int (zW (slicePart_none (zW (zX ?_)))))
  have e1:Builtin.Slice.sliceAdjust (some 1) none (-1) ((its.toArray.size:Nat):Int)=(1,-1):=by
   simp[Builtin.Slice.sliceAdjust]
   omega
  show wpAny _ _ (match Builtin.Slice.sliceAdjust (some 1) none (-1) ((its.toArray.size:Nat):Int) with|(lo,hi)=>pure (lo,(-1:Int),Builtin.Slice.slicePlaces lo hi (-1))) _ _ s
  rw[e1]
  have e2:Builtin.Slice.slicePlaces 1 (-1) (-1)=2:=by decide
  show wpAny _ _ (pure ((1:Int),(-1:Int),Builtin.Slice.slicePlaces 1 (-1) (-1))) _ _ s
  rw[e2]
  exact zX hR
 first
  | refine zW (hap ?_)
  | refine zW (wpAny_of_in1 (hap ?_))
 show wpAny _ _ (if ((1:Int) == 0&&(-1:Int) == 1&&2 == its.toArray.size)=true then _ else _) _ _ s
 rw[if_neg (by simp),HS h2]
 have hz':sizeOk (.seq (its.take 2).reverse.toArray):=yE (m:=2) (by simp;omega) (by decide)
 first
  | exact zW (m:=Builtin.Tuple.tupleExact _) (wpAny_newObj_type (zX ⟨_,rfl,zX h⟩) hz')
  | exact zW (m:=Builtin.Tuple.tupleExact _) (wpAny_newObj_type (zW (zX (zX ⟨_,rfl,zX h⟩))) hz')
  | exact zW (zW (m:=Builtin.Tuple.tupleExact _) (wpAny_newObj_type (zX (zX ⟨_,rfl,zX h⟩)) hz'))
  | exact zW (zW (m:=Builtin.Tuple.tupleExact _) (wpAny_newObj_type (zX ⟨_,rfl,zX h⟩) hz'))
section
variable {X:Cx}{a:Expr}{fa:Env->Option D}{pos p1 p2 p3 p4:Pos}{i j:Nat}
theorem CK{ta:TE}(ha:PE X a ta):PE X (.Subscript a (.Slice (some (.Constant (.int 1) i p1)) none (some (.UnaryOp .USub (.Constant (.int 1) j p4) p3)) p2) pos) (fun σ H Q=>ta σ H fun x H1=>∃b xs,x=.ref b/\fP X.K H1 b xs/\2<=xs.length/\∀p,H1 p=none->Q (.ref p) (upd H1 p (.tup (xs.take 2).reverse))):=by
 intro pins s σ H Q I h
 refine Subscript_ (bw (ha pins s σ H _ I h) fun v s1 ⟨x,H1,I1,r1,b,xs,e,hq,h2,q⟩=>?_)
 subst e
 cases r1
 refine wpAny_Slice ?_
 have hlo:=lT (X:=X) (pF (X:=X) (i:=1) (j:=i) (pos:=p1)) pins s1 σ H1 (fun o H'=>o=some 1/\H'=H1) I1 ⟨1,rfl,rfl,rfl⟩
 refine bw hlo fun vlo s0 ⟨o,H0,I0,plo,e1,e2⟩=>?_
 subst e1 e2
 rw[evalPart_none]
 refine zX ?_
 have hst:=lT (X:=X) (AC (op:=.USub) tV (pF (X:=X) (i:=1) (j:=j) (pos:=p4)) (pos:=p3)) pins s0 σ H0 (fun o H'=>o=some (-1)/\H'=H0) I0 ⟨1,rfl,-1,rfl,rfl,rfl⟩
 refine bw hst fun vst s2 ⟨o,H2,I2,pst,e1,e2⟩=>?_
 subst e1 e2
 cases plo with
 | int _ tk1 =>
 cases pst with
 | int _ tk =>
 obtain⟨its,r,ht,hz⟩:=I2.tuple hq
 have I4:Inv X pins σ H2 { s2 with heap:=s2.heap.push { cls:=.type "slice",data:=.fields #[.int 1 tk1,.none,.int (-1) tk] } }:=I2.kept (t':=s2.toks) fun b ob q=>zV _ q
 obtain⟨its',r',ht',_⟩:=I4.tuple hq
 refine tail_any (ops:=[.ref b,.ref s2.heap.objs.size]) ht'.typeIs PyProof.Rows.slot_tuple_getitem.lookup (y6 ht' (Heap.IsSliceOf.new ..) (by rw[<- r'.length];exact h2) ?_) (by with_unfolding_all rfl)
 have hv:ax (xs.take 2).reverse (its'.take 2).reverse:=L2.ax.reverse (r'.take 2)
 exact⟨.ref _,_,I4.laid (t':=s2.toks) (o:=.tup (xs.take 2).reverse) (fun b ob q=>zV _ q) (Nat.le_refl _) ⟨by rw[List.length_reverse,List.length_take];omega,_,hv,kF.new _ _⟩,rfl,q _ I4.fresh⟩
noncomputable def yi:D->Option D|.tuple ds=>if 2<=ds.length then some (.tuple (ds.take 2).reverse) else none|_=>none
theorem Do(ha:DE X a fa):DE X (.Subscript a (.Slice (some (.Constant (.int 1) i p1)) none (some (.UnaryOp .USub (.Constant (.int 1) j p4) p3)) p2) pos) (f1 yi fa):=aG (CK ha) fun σ H Q ⟨HF,ρ,d,sm,eo,hf,q⟩=>by
 obtain⟨x,hx,hf⟩:=bs hf
 refine⟨HF,ρ,x,sm,eo,hx,fun v1 H1 HF1 g1 r1=>?_⟩
 unfold yi at hf
 split at hf<;>try cases hf
 split at hf
 ·rename_i h2
  cases hf
  simp only[Rep] at r1
  obtain⟨b,vs,rfl,hs,rr⟩:=r1
  exact⟨b,vs,rfl,au g1.fh hs,by rw[rr.length];exact h2,fun p hp=>q _ _ _ (g1.trans (.new g1.fh hp)) (bx (g1.fh.free hp) (rr.take 2).reverse)⟩
 ·cases hf
end
section
variable {X:Cx}
noncomputable def yr(d:D):List D->Option Nat
 | []=>none
 | x::xs=>if PyData.eqv x d=true then some 0 else (yr d xs).map (·+1)
theorem o6{d:D}:∀ {xs:List D}{j:Nat},yr d xs=some j->j < xs.length/\(∀x,xs[j]?=some x->PyData.eqv x d=true)/\∀m,m < j->∀x,xs[m]?=some x->PyData.eqv x d=false
 | [],j,h=>by cases h
 | x::xs,j,h=>by
  unfold yr at h
  split at h
  ·cases h
   rename_i e
   exact⟨Nat.succ_pos _,fun y hy=>by cases hy;exact e,fun m hm=>absurd hm (Nat.not_lt_zero _)⟩
  ·rename_i e
   obtain⟨k,hk,rfl⟩:=ae h
   obtain⟨a,b,c⟩:=o6 hk
   refine⟨by simpa using a,fun y hy=>b y (by simpa using hy),fun m hm y hy=>?_⟩
   cases m with
   | zero=>cases hy;simpa using e
   | succ m=>exact c m (by omega) y (by simpa using hy)
theorem w6(hu:X.A.units+66 < cLine):GP X "list.index" (fun x vs H Q=>∃ (HF:Hp) (ds:List D) (d:D) (y:V) (j:Nat),aH HF H/\Rep X.K HF (.list ds) x/\vs=[y]/\Rep X.K HF d y/\SeqAt.shaped d=true/\SeqAt.shaped (.list ds)=true/\ds.length<=sizeLine/\yr d ds=some j/\Q (.int j) H):=by
 intro pins s σ H x vs v us Q I rx rv h
 obtain⟨HF,ds,d,y,j,sm,r1,rfl,r2,hd,hl,hz,hj,q⟩:=h
 obtain⟨u,rfl,ru⟩:=rv.one
 obtain⟨as,ra⟩:=cf I sm r1 rx
 obtain⟨bs,rb⟩:=cf I sm r2 ru
 have c1:=SeqAt.canLay_of_shaped hd
 have c2:=SeqAt.canLay_of_shaped hl
 have d1:=SeqAt.depth_of_shaped hd
 simp only[PyData.canLay0] at c2
 have m:=Nat.min_le_right (PyData.depthAll ds) d.depth
 obtain⟨hj1,hj2,hj3⟩:=o6 hj
 cases ra with
 | list h1 h2 h3 h4 =>
  rename_i l o its n as
  obtain⟨cls,dd,data,sl⟩:=o
  simp only at h2 h3
  subst h2 h3
  have hm:=SeqAt.readsAll_map _ _ _ c2 h4
  have hlen:its.size=ds.length:=by rw[<- hm];simp
  have hs63:(sizeLine:Nat) < 2 ^ 62:=by decide
  have at_:∀m (hm:m < its.size),ds[m]?=some (SeqAt.readOf s.heap its[m]):=fun m hm'=>by
   rw[<- hm,zO,Array.getElem?_toList,Array.getElem?_eq_getElem hm']
   rfl
  refine call_meets F.slot_list_index ⟨_,h1,rfl⟩ F.entry_list_index (F.args_list_index_2 _ _) (PySem.SeqAt.list_indexAt l its n dd sl u (fun y=>PyData.eqv (SeqAt.readOf s.heap y) d) j (by rw[hlen];exact hj1) (by omega) ?_ ?_) ⟨h1,?_,?_⟩
  ·exact hj2 _ (at_ j (by rw[hlen];exact hj1))
  ·intro m hm' hmj
   exact hj3 m hmj _ (at_ m hm')
  ·exact SeqAt.items_eqAt h4 rb c2 c1 (by omega)
  ·exact⟨.int j,H,I.tok _,⟨_,rfl⟩,q⟩
noncomputable def FV:D->D->Option D
 | .list es,d=>if SeqAt.shaped d=true/\SeqAt.shaped (.list es)=true/\es.length<=sizeLine then (yr d es).map fun j=>.int ((j:Nat):Int) else none
 | _,_=>none
theorem wA(hu:X.A.units+66 < cLine){o e:Expr}{apos cpos:Pos}{fo fe:Env->Option D}(hbase:attributeBase o "index" X.env (eval o X.env)=eval o X.env)
  (hfew:((backTo cpos (starEach [e] X.env)).all (fun x=>!x.1)&&(backToKw cpos (keywordEach [] X.env)).all (fun x=>x.1.isSome)&&decide ([e].length+([]:List Keyword).length+(if ([]:List Keyword).isEmpty then 0 else 1) < 30))=true)
  (hline:(apos.endLine == cpos.line)=true) (hs:starEach [e] X.env=(false,eval e X.env)::starEach [] X.env) (ho:DE X o fo) (he:DE X e fe):DE X (.Call (.Attribute o "index" apos) [e] [] cpos) (f2 FV fo fe) :=
 aG (oV PySem.F.plainAttrs_list PySem.F.slot_list_index PySem.F.type_list_index (w6 hu) ho (bA he dh hs) hbase hfew hline hs rfl) fun σ H Q ⟨HF,ρ,d,sm,eo,hf,q⟩=>by
  obtain⟨x,hx,hf⟩:=bs hf
  obtain⟨y,hy,hg⟩:=bs hf
  refine⟨HF,ρ,x,sm,eo,hx,fun v1 H1 HF1 g1 r1=>?_⟩
  unfold FV at hg
  split at hg
  ·split at hg
   ·rename_i es hh
    obtain⟨j,h2,rfl⟩:=ae hg
    have r1':=r1
    simp only[Rep] at r1
    obtain⟨l,us,rfl,hq,rr⟩:=r1
    refine⟨.inl ⟨rfl,_,g1.fh.seq hq⟩,HF1,ρ,y,g1.fh,eo.mono g1.ff,hy,fun v2 H2 HF2 g2 r2=>?_⟩
    exact⟨HF2,es,y,v2,j,g2.fh,r1'.mono g2.ff,rfl,r2,hh.1,hh.2.1,hh.2.2,h2,q _ H2 HF2 (g1.trans g2) (by simp[Rep])⟩
   ·cases hg
  ·cases hg
noncomputable def CM:List D->Option D
 | [.int i]=>some (.int i)
 | [.bool b]=>some (.int (if b then 1 else 0))
 | _=>none
theorem Dg{K:W.Frag}:xP K (fun xs H Q=>(∃i,xs=[.int i]/\Q (.int i) H)\/∃k,xs=[.bl k]/\Q (.int (if k then 1 else 0)) H) CM:=by
 intro HF H ds vs d Q sm r hg q
 unfold CM at hg
 split at hg
 ·cases hg
  obtain⟨v,r',rfl,a,b⟩:=r.cons_inv
  rw[b.nil_inv]
  simp only[Rep] at a
  subst a
  exact .inl ⟨_,rfl,q _ H HF (.refl sm) (by simp[Rep])⟩
 ·cases hg
  obtain⟨v,r',rfl,a,b⟩:=r.cons_inv
  rw[b.nil_inv]
  simp only[Rep] at a
  subst a
  exact .inr ⟨_,rfl,q _ H HF (.refl sm) (by simp[Rep])⟩
 ·cases hg
theorem Aj{e:Expr}{fs:Env->Option (List D)}{p pos:Pos}(B:jj X "int" (.type "int"))(ha:DA X [e] fs)(he:starEach [e] X.env=(false,eval e X.env)::starEach [] X.env:=by rfl):DE X (.Call (.Name "int" p) [e] [] pos) (ba CM fs) :=
 pA xJ Dg B ha (by decide) (by decide) he rfl
noncomputable def zx(i j k l:Nat):ao->D->Option ao:=fun ρ d=>match d with
 | .tuple [x,.tuple [a,b,c]]=>some ((((ρ.set i (.val x)).set j (.val a)).set k (.val b)).set l (.val c))
 | _=>none
variable {HF₀ H₀:Hp}
theorem Fu(i j k l:Nat){x y z w:Str}{px py pz pw p2 pos:Pos}{m n:Nat}(hc:X.calm=true)(hN:X.N.Nodup)(hi:X.N[i]?=some x)(hx:Loc X.env.scope x)(hj:X.N[j]?=some y)(hy:Loc X.env.scope y)(hk:X.N[k]?=some z)(hz:Loc X.env.scope z)(hl:X.N[l]?=some w)(hw:Loc X.env.scope w)
  (f1:X.fn x=true\/X.env.scope.names.lookup x=some .local) (f2:X.fn y=true\/X.env.scope.names.lookup y=some .local) (f3:X.fn z=true\/X.env.scope.names.lookup z=some .local) (f4:X.fn w=true\/X.env.scope.names.lookup w=some .local) :
  G9 X HF₀ H₀ (.Tuple [.Name x px,.Tuple [.Name y py,.Name z pz,.Name w pw] m p2] n pos) (zx i j k l) :=
 jy (iJ hc (aP (bh hN hi hx f1) (aP (iJ hc (aP (bh hN hj hy f2) (aP (bh hN hk hz f3) (aP (bh hN hl hw f4) eU)))) eU))) fun v σ H Q ⟨HF,ρ,d,ρ',S,r,hf,q⟩=>by
  unfold zx at hf
  split at hf
  ·cases hf
   simp only[Rep] at r
   obtain⟨a,vs,rfl,hs,rr⟩:=r
   obtain⟨v1,r1,rfl,a1,b1⟩:=rr.cons_inv
   obtain⟨v2,r2,rfl,a2,b2⟩:=b1.cons_inv
   rw[b2.nil_inv] at hs
   simp only[Rep] at a2
   obtain⟨a',vs',rfl,hs',rr'⟩:=a2
   obtain⟨v3,r3,rfl,a3,b3⟩:=rr'.cons_inv
   obtain⟨v4,r4,rfl,a4,b4⟩:=b3.cons_inv
   obtain⟨v5,r5,rfl,a5,b5⟩:=b4.cons_inv
   rw[b5.nil_inv] at hs'
   exact⟨a,_,rfl,au S.gr.fh hs,rfl,v1,_,rfl,_,_,rfl,⟨a',_,rfl,au S.gr.fh hs',rfl,v3,_,rfl,v4,_,rfl,v5,_,rfl,rfl,rfl,q _ ((((S.setV a1).setV a3).setV a4).setV a5)⟩⟩
  ·cases hf
end
section
variable {X:Cx}{e:Expr}{es:List Expr}{fs:Env->Option (List D)}{pos p:Pos}
noncomputable def E3:List D->Option D
 | [.int a,.int b]=>some (.int (max a b))
 | _=>none
theorem y0(hc:X.calm=true):cO X (.builtin "max") (fun xs H Q=>∃a b:Int,xs=[.int a,.int b]/\Q (.int (max a b)) H):=by
 intro pins s σ H xs us Q I r h
 have hh:X.A.handled=none:=I.ok.hd hc
 obtain⟨a,b,rfl,q⟩:=h
 cases r with
 | cons r1 r =>
  cases r with
  | cons r2 r =>
   cases r
   obtain⟨t,rfl⟩:=r1
   obtain⟨u,rfl⟩:=r2
   refine max_two_ints hh fun h' tk kp=>⟨.int (max a b),H,I.kept (t':=tk) kp,?_,q⟩
   by_cases h:b > a
   ·rw[if_pos h,show max a b=b by omega];exact⟨_,rfl⟩
   ·rw[if_neg h,show max a b=a by omega];exact⟨_,rfl⟩
theorem Ff(hc:X.calm=true)(B:jj X "max" (.builtin "max"))(he:starEach (e::es) X.env=(false,eval e X.env)::starEach es X.env)(hpl:(backTo pos (starEach es X.env)).any (·.1)=false)(ha:DA X (e::es) fs):DE X (.Call (.Name "max" p) (e::es) [] pos) (ba E3 fs) :=
 fU (y0 hc) (by
  intro HF H ds vs d Q sm r hg q
  unfold E3 at hg
  split at hg
  ·cases hg
   obtain⟨v1,r1,rfl,a1,b1⟩:=r.cons_inv
   obtain⟨v2,r2,rfl,a2,b2⟩:=b1.cons_inv
   rw[b2.nil_inv]
   simp only[Rep] at a1 a2
   exact⟨_,_,by rw[a1,a2],q _ H HF (.refl sm) (by simp[Rep])⟩
  ·cases hg) B ha (by decide) (by decide) he hpl
end
section
variable {X:Cx}{N:List Str}{sc:Scope}{k:Nat}{a b e:Expr}{fa fb:Env->Option D}{pos p:Pos}{HF₀ H₀:Hp}
noncomputable def Jf(x y:D):Option Bool:=match y with
 | .tuple ds=>if SeqAt.shaped x=true/\SeqAt.shaped y=true then some (!ds.any fun z=>PyData.eqv z x) else none
 | .list ds=>if SeqAt.shaped x=true/\SeqAt.shaped y=true then some (!ds.any fun z=>PyData.eqv z x) else none
 | _=>none
theorem yv(hu:X.A.units+66 < cLine):fO X (compareOp .NotIn) (GN X.K Jf):=by
 intro pins s σ H v1 v2 u1 u2 Q I rx ry h
 obtain⟨HF,x,y,k,sm,r1,r2,hg,q⟩:=h
 obtain⟨as,ra⟩:=cf I sm r1 rx
 obtain⟨bs,rb⟩:=cf I sm r2 ry
 cases y<;>simp only[Jf] at hg<;>try cases hg
 all_goals
  split at hg<;>cases hg
  rename_i ds hh
  have c1:=SeqAt.canLay_of_shaped hh.1
  have c2:=SeqAt.canLay_of_shaped hh.2
  have d1:=SeqAt.depth_of_shaped hh.1
  simp only[PyData.canLay0] at c2
  have m:=Nat.min_le_right (PyData.depthAll ds) x.depth
  first
   | exact SeqAt.notIn_list_reads rb ra c2 c1 (by omega) ⟨.bl _,H,I,rfl,q⟩
   | exact SeqAt.notIn_tuple_reads rb ra c2 c1 (by omega) ⟨.bl _,H,I,rfl,q⟩
noncomputable def Gn:D->D->Option D:=fun x y=>(Jf x y).map PyData.bool
theorem Bk.notin(C:Bk X N sc k)(ha:DE X a fa)(hb:DE X b fb)(hm:behindInMarks .NotIn b=false:=by rfl):DE X (.Compare a [.NotIn] [b] pos) (f2 Gn fa fb):=fM (yv C.u66) fx ha hb hm
theorem Bk.tnin(C:Bk X N sc k)(ha:DE X a fa)(hb:DE X b fb)(hm:behindInMarks .NotIn b=false:=by rfl):DT X (.Compare a [.NotIn] [b] pos) (fB (f2 Gn fa fb)):=fu (yv C.u66) fx ha hb hm
noncomputable def uU(i j:Nat)(fz:List Nat)(f:Env->Option D):ao->Option Out:=fun ρ=>(f (bR (hand fz 0 ρ))).bind fun d=>match d with
 | .tuple [x,y]=>some (.nx (((if gf (.tuple [x,y])=true then ρ else hand fz 0 ρ).set i (.val x)).set j (.val y)))
 | _=>none
noncomputable def x3:Expr->Bool
 | .Call ..=>true
 | .Subscript ..=>true
 | _=>false
theorem y2(i j:Nat)(fz:List Nat){x y:Str}{px py pt:Pos}{m:Nat}{f:Env->Option D}(hc:X.calm=true)(hN:X.N.Nodup)(hi:X.N[i]?=some x)(hx:Loc X.env.scope x)(hj:X.N[j]?=some y)(hy:Loc X.env.scope y)(hp:x3 e=true)(he:DE X e f)
  (h1:X.fn x=true\/X.env.scope.names.lookup x=some .local) (h2:X.fn y=true\/X.env.scope.names.lookup y=some .local):DS X HF₀ H₀ (.Assign [.Tuple [.Name x px,.Name y py] m pt] e pos) (uU i j fz f) :=
 cq (tH he (iJ hc (aP (bh hN hi hx h1) (aP (bh hN hj hy h2) eU))) (by cases e<;>first|rfl|cases hp) (by cases e<;>first|rfl|cases hp)) fun E σ H ⟨HF,ρ,o,S,hg,q⟩=>by
  unfold uU at hg
  obtain⟨d,h,hg⟩:=bs hg
  split at hg
  ·rename_i u v
   cases hg
   obtain⟨HF1,s1,S1⟩:=S.hand fz
   refine⟨HF1,_,.tuple [u,v],S1.gr.fh,S1.frz,h,fun w H' HF' G r=>?_⟩
   simp only[Rep] at r
   obtain⟨a,vs,rfl,hs,rr⟩:=r
   obtain⟨v1,r1,rfl,a1,b1⟩:=rr.cons_inv
   obtain⟨v2,r2,rfl,a2,b2⟩:=b1.cons_inv
   rw[b2.nil_inv] at hs
   refine⟨a,_,rfl,au G.fh hs,rfl,v1,_,rfl,v2,_,rfl,rfl,?_⟩
   by_cases hn:gf (.tuple [u,v])=true
   ·rw[if_pos hn] at q
    obtain⟨HF2,s2,S2,hb⟩:=S.back S1 s1 G
    simp only[gf,ml,zF,Bool.and_true] at hn
    exact q _ H' HF2 ((S2.setV (hb u v1 hn.1 a1)).setV (hb v v2 hn.2 a2)) s2
   ·rw[if_neg hn] at q
    exact q _ H' HF' (((S1.grow G).setV a1).setV a2) (s1.trans G.ff)
  ·cases hg
end
section
variable {X:Cx}{e:Expr}{f:Env->Option D}{pos p p' pos':Pos}
theorem tU(hc:X.calm=true):cO X (.type "set") (fun xs H Q=>∃ (a:Addr) (ns:List Int),xs=[.ref a]/\fj X.K H a (ns.map V.int)/\ns.length+1 < scanBound/\∀q S,H q=none->Q (.ref q) (upd H q (.set S (many ns)))):=by
 intro pins s σ H xs us Q I r h
 obtain⟨a,ns,rfl,hq,hb,q⟩:=h
 obtain⟨u,rfl,rx⟩:=vals1 r
 cases rx
 obtain⟨its,rv,pl,hz⟩:=I.list hq
 have hi:IntsAre its.toArray.toList ns:=intsAre_of rv
 have hlen:its.toArray.size=ns.length:=by have:=rv.length;simpa using this.symm
 refine call_set_list (I.ok.hd hc) pl.isList hi (by rw[hlen];exact hb) fun h' tk hS hk=>?_
 rw[hlen] at hS
 exact⟨.ref s.heap.objs.size,_,I.laid (t':=tk) (fun b o e=>hk b o (zZ e) e) (Nat.le_refl _) (show dg X.prog X.w _ h' _ (.set _ (many ns)) from hS),rfl,q _ _ I.fresh⟩
noncomputable def mQ:D->Option D
 | .list es=>(intsOf es).bind fun ns=>if ns.length+1 < scanBound then some (.int (many ns)) else none
 | _=>none
theorem uR(hc:X.calm=true)(B:jj X "len" (.builtin "len"))(C:jj X "set" (.type "set"))(h:DE X e f)(he:starEach [e] X.env=(false,eval e X.env)::starEach [] X.env:=by rfl) :
  DE X (.Call (.Name "len" p) [.Call (.Name "set" p') [e] [] pos'] [] pos) (f1 mQ f) :=
 aG (ib o3 B.gl B.mg B.bt (bA (ji (tU hc) C.gl C.mg C.bt (bA h dh he) (by decide) (by decide) he rfl) dh) (by decide) (by decide) rfl rfl) fun σ H Q ⟨HF,ρ,d,sm,eo,hf,q⟩=>by
  obtain⟨x,hx,hf⟩:=bs hf
  unfold mQ at hf
  split at hf
  ·rename_i es
   obtain⟨ns,h1,hf⟩:=bs hf
   split at hf
   ·rename_i hb
    cases hf
    refine⟨HF,ρ,.list es,sm,eo,hx,fun v1 H1 HF1 g1 r1=>?_⟩
    have e1:=bZ h1
    subst e1
    simp only[Rep] at r1
    obtain⟨a,vs,rfl,hs,rr⟩:=r1
    have:=gp rr
    subst this
    exact⟨a,ns,rfl,g1.fh.seq hs,hb,fun b S hb'=>⟨b,S,_,rfl,aw,q _ _ HF1 (g1.trans (.own g1.fh hb')) (by simp[Rep])⟩⟩
   ·cases hf
  ·cases hf
end
section
variable {X:Cx}{a b c e:Expr}{es:List Expr}{fk:Env->Option D}{fs:Env->Option (List D)}{pos p p1 p2 p3:Pos}{x y:Str}
noncomputable def D0(n:Nat)(m m':List D->Option D)(fk:Env->Option D)(fs:Env->Option (List D)):Env->Option D:=fun ρ=>(fk ρ).bind fun kd=>(fs ρ).bind fun ds=>if ds.length=n then (match kd with
 | .int k=>if k=0 then m ds else if k=1 then m' ds else none
 | _=>none) else none
theorem BY{k n:Nat}{m m':List D->Option D}(F:gw X.prog X.w X.K X.mg X.base k x n m)(F':gw X.prog X.w X.K X.mg X.base k y n m')(hr:da k X.A)(hg:Gl X x)(hg':Gl X y)(hk:DE X b fk)(ha:DA X (e::es) fs)
  (hdb:(x == ("__debug__":Str))=false:=by decide) (hdb':(y == ("__debug__":Str))=false:=by decide) (hs:l0 b:=by intro _ _;rfl)
  (he:starEach (e::es) X.env=(false,eval e X.env)::starEach es X.env:=by rfl) (hpl:(backTo pos (starEach es X.env)).any (·.1)=false:=by rfl)
  (ht:eval (.Call (.Subscript (.List [.Name x p,.Name y p1] p2) b p3) (e::es) [] pos) X.env=(do callWith pos (<- eval (.Subscript (.List [.Name x p,.Name y p1] p2) b p3) X.env) [] (backTo pos (starEach (e::es) X.env)) (backToKw pos (keywordEach [] X.env))):=by rfl) :
  DE X (.Call (.Subscript (.List [.Name x p,.Name y p1] p2) b p3) (e::es) [] pos) (D0 n m m' fk fs):=by
 obtain⟨f,fd,ps,ok,hm,hkp,hb⟩:=F.ex
 obtain⟨f',fd',ps',ok',hm',hkp',hb'⟩:=F'.ex
 intro pins s σ H Q I ⟨HF,ρ,d,sm,eo,hf,q⟩
 obtain⟨kd,h1,hf⟩:=bs hf
 obtain⟨ds,h2,hf⟩:=bs hf
 split at hf
 ·rename_i hl
  obtain⟨kk,rfl⟩:∃kk,kd=.int kk:=by cases kd<;>first|exact⟨_,rfl⟩|cases hf
  rw[ht]
  have hc:PE X (.Subscript (.List [.Name x p,.Name y p1] p2) b p3) _:=Ea vN (AQ (bA (qc (v:=.ref f) hg hm rfl hdb) (bA (qc (v:=.ref f') hg' hm' rfl hdb') dh))) hk hs
  have run:∀ {s1:Shared}{H1 HF1:Hp}{g:Addr}{gd:FuncData}{gs:List Str}{M:List D->Option D},lM X.prog X.w X.K X.mg X.base FA k g gd gs (Gc X.K n M)->W.keepIn X.K (.ref g)=true->Binds X.K gd gs []->M ds=some d->Inv X pins σ H1 s1->bo HF H HF1 H1 ->
    wpAny (model X.prog X.w) X.A (callWith pos (.ref g) [] (backTo pos (starEach (e::es) X.env)) (backToKw pos (keywordEach [] X.env))) (EP X pins σ Q) X.xe s1:=by
   intro s1 H1 HF1 g gd gs M IK kpg bg hM I1 G1
   refine W.callWith_K (h₀:=X.base) I.ok.mod.kin kpg (bw (ha pos pins s1 σ H1 (fun vs H2=>Gc X.K n M (vs++[]) H2 Q E0) I1 ⟨HF1,ρ,ds,G1.fh,eo.mono G1.ff,h2,fun vs H2 HF2 G2 r2=>⟨HF2,ds,d,G2.fh,(eo.mono G1.ff).tb.mono G2.ff,by rw[List.append_nil];exact r2,hl,hM,fun v H' HF' g' r=>q v H' HF' (G1.trans (G2.trans g')) r⟩⟩) fun us s2 ⟨vs,H2,I2,r,q2⟩=>⟨I2.kIn,?_⟩) he hpl
   exact Ac IK hr bg .nil D5 I2 r q2
  refine zW (bw (hc pins s σ H (fun v H1=>∃HF1,bo HF H HF1 H1/\v=(if kk=0 then V.ref f else .ref f')) I ⟨by rw[sizeLine_eq];simp,fun z hz=>?_⟩) fun u s1 ⟨v,H1,I1,rv,HF1,G1,ev⟩=>?_)
  ·have G0:bo HF H HF (upd H z (.lst [.ref f,.ref f'])):=.own sm hz
   refine⟨HF,ρ,.int kk,G0.fh,eo,h1,fun v1 H1 HF1 g1 r1=>?_⟩
   simp only[Rep] at r1
   refine⟨z,[.ref f,.ref f'],kk,(if kk=0 then V.ref f else .ref f'),rfl,r1,.of (g1.hh z _ aw),?_,HF1,G0.trans g1,rfl⟩
   dsimp only at hf
   by_cases h0:kk=0
   ·subst h0;rfl
   ·rw[if_neg h0] at hf ⊢
    by_cases h1:kk=1
    ·subst h1;rfl
    ·rw[if_neg h1] at hf;cases hf
  ·dsimp only at hf
   by_cases h0:kk=0
   ·rw[if_pos h0] at hf ev
    subst ev
    cases rv
    exact run ok hkp hb hf I1 G1
   ·rw[if_neg h0] at hf ev
    subst ev
    cases rv
    by_cases h1:kk=1
    ·rw[if_pos h1] at hf
     exact run ok' hkp' hb' hf I1 G1
    ·rw[if_neg h1] at hf;cases hf
 ·cases hf
end
section
variable {X:Cx}{HF₀ H₀:Hp}{e:Expr}{pos:Pos}
theorem oM{K:W.Frag}{HF HF':Hp}:∀ {ds:List D}{vs:List V},ds.all kJ=true->aj K HF ds vs->aj K HF' ds vs
 | [],vs,_,r=>by rw[r.nil_inv];exact aj.nil
 | d::ds,vs,h,r=>by
  rw[List.all_cons,zF] at h
  obtain⟨v,us,rfl,a,b⟩:=r.cons_inv
  exact aj.cons (nq h.1 a) (oM h.2 b)
noncomputable def oW(i:Nat)(fk:Env->Option D)(f:Env->Option (List D)):ao->Option Out:=fun ρ=>(f (aV ρ)).bind fun ds=>if ds.all kJ=true then (fk (aV ρ)).bind fun kd=>(match kd with
 | .int k=>kq i (fun es=>(xR es.length k).map fun j=>es.set j (.list ds)) ρ
 | _=>none) else none
theorem w8(i:Nat){x:Str}{e2:Expr}{px spos:Pos}{fk:Env->Option D}{f:Env->Option (List D)}(hN:X.N[i]?=some x)(hv:Ct X.env.scope x)(hk:DE X e fk)(h:DF X e2 f)(hd:(x == ("__debug__":Str))=false:=by decide)(hcd:(x == ("__classdict__":Str))=false:=by decide)
  (ha:∀v,assign (.Subscript (.Name x px) e spos) X.env v=(do
   let ov <- holding [v] (eval (.Name x px) X.env)
   let iv <- holding [v,ov] (eval e X.env)
   standAt spos
   holding [v,ov,iv] (setItem ov iv v)
   release [v,ov,iv] []):=by intro _;rfl)
  (hs:swapsWithSole [.Subscript (.Name x px) e spos] e2 pos.line X.env=pure false:=by rfl) (hw:swappedStores [.Subscript (.Name x px) e spos] e2 X.env=pure none:=by rfl)
  (h1:(assignEach [.Subscript (.Name x px) e spos] X.env).map (·.2)=[assign (.Subscript (.Name x px) e spos) X.env]:=by rfl):DS X HF₀ H₀ (.Assign [.Subscript (.Name x px) e spos] e2 pos) (oW i fk f) :=
 cq (tH h (Ao (kR hN hv hd hcd) hk set_list ha) hs hw h1) fun E σ H ⟨HF,ρ,o,S,hg,q⟩=>by
  obtain⟨ds,h1,hg⟩:=bs hg
  split at hg
  ·rename_i hsc
   obtain⟨kd,h2,hg⟩:=bs hg
   obtain⟨k,rfl⟩:∃k,kd=.int k:=by cases kd<;>first|exact⟨_,rfl⟩|cases hg
   obtain⟨es,es',h3,h4,rfl⟩:=gc hg
   obtain⟨j,hj,rfl⟩:=ae h4
   refine⟨H,aV ρ,ds,.refl _,S.all,h1,fun b us H1 HF1 G hb hb1 hb' rr=>?_⟩
   have hbF:HF b=none:=S.gr.fh.free hb
   have G1:bo HF H HF H1:=⟨G.hh,.refl _,S.gr.fh.trans G.hh,fun _ _ e=>.inl e⟩
   have G2:=G1.freeze hb hb' hbF
   have S1:=S.grow G2
   have r:Rep X.K (upd HF b (.lst us)) (.list ds) (.ref b):=by
    simp only[Rep]
    exact⟨b,us,rfl,.of aw,oM hsc rr⟩
   obtain⟨a,vs,e1,e2,e3,e5,e4⟩:=S1.own i es h3
   refine⟨.ref a,e1,H1,aV ρ,.int k,.refl _,S1.all,h2,fun kv H2 HF2 G' rk=>?_⟩
   simp only[Rep] at rk
   have S2:=S1.step G'.hh
   obtain⟨a',vs',f1,f2,f3,f5,f4⟩:=S2.own i es h3
   rw[e1] at f1;cases f1
   exact⟨a,vs',k,j,rfl,rk,f2,by rw[f4.length];exact hj,q σ _ (upd HF b (.lst us)) (S2.mut h3 e1 f2 (mj r j f4)) G2.ff⟩
  ·cases hg
end
end Dl
namespace Zp
open PySem PyProof.Rows
noncomputable abbrev IsZ2(h:Heap)(z TI TO:Addr)(f:Value)(c:Bool):Prop :=
 h.get? z=some { cls:=.type "zip",dict:=none,data:=.fields #[f,.bool c,.bool false,.ref TI,.ref TO],slots:=#[] }
structure ZG(b₁ b₂:Bool)(h₀ h:Heap)(z TI TO i j l m:Addr)(xs ys:Array Value)(f:Value)(c:Bool)(p q:Nat)(a b:Value):Prop where
 zo:IsZ2 h z TI TO f c
 ti:IsPair h TI (.ref i) (.ref j)
 to:IsPair h TO a b
 wi:IsI b₁ h i l p
 wj:IsI b₂ h j m q
 sl:IsS b₁ h l xs
 sm:IsS b₂ h m ys
 kp:∀c o,c≠z->c≠TO->c≠i->c≠j->h₀.get? c=some o->h.get? c=some o
 sz:h.objs.size=h₀.objs.size
section
variable {b₁ b₂:Bool}{h₀ h g:Heap}{z TI TO i j l m:Addr}{xs ys:Array Value}{f f':Value}{c c':Bool}{p q:Nat}{a b x y:Value}
theorem ZG.fl(Z:ZG b₁ b₂ h₀ h z TI TO i j l m xs ys f c p q a b)(D:ZipApart z TI TO i j l m)(e:IsZ2 g z TI TO f' c')(t:Heap.SameBut z h g):ZG b₁ b₂ h₀ g z TI TO i j l m xs ys f' c' p q a b :=
 ⟨e,t.extBut _ _ D.TIz Z.ti,t.extBut _ _ D.TOz Z.to,Z.wi.extBut t.extBut D.i1z,Z.wj.extBut t.extBut D.i2z,Z.sl.extBut t.extBut D.l1z,Z.sm.extBut t.extBut D.l2z,fun c o n1 n2 n3 n4 r=>t.extBut _ _ n1 (Z.kp c o n1 n2 n3 n4 r),t.1.trans Z.sz⟩
theorem ZG.fst(Z:ZG b₁ b₂ h₀ h z TI TO i j l m xs ys f c p q a b)(D:ZipApart z TI TO i j l m)(e:IsI b₁ g i l (p+1))(t:Heap.SameBut i h g):ZG b₁ b₂ h₀ g z TI TO i j l m xs ys f c (p+1) q a b :=
 ⟨t.extBut _ _ D.i1z.symm Z.zo,t.extBut _ _ D.TIi1 Z.ti,t.extBut _ _ D.TOi1 Z.to,e,Z.wj.extBut t.extBut D.i12.symm,Z.sl.extBut t.extBut D.l1i1,Z.sm.extBut t.extBut D.l2i1,fun c o n1 n2 n3 n4 r=>t.extBut _ _ n3 (Z.kp c o n1 n2 n3 n4 r),t.1.trans Z.sz⟩
theorem ZG.snd(Z:ZG b₁ b₂ h₀ h z TI TO i j l m xs ys f c p q a b)(D:ZipApart z TI TO i j l m)(e:IsI b₂ g j m (q+1))(t:Heap.SameBut j h g):ZG b₁ b₂ h₀ g z TI TO i j l m xs ys f c p (q+1) a b :=
 ⟨t.extBut _ _ D.i2z.symm Z.zo,t.extBut _ _ D.TIi2 Z.ti,t.extBut _ _ D.TOi2 Z.to,Z.wi.extBut t.extBut D.i12,e,Z.sl.extBut t.extBut D.l1i2,Z.sm.extBut t.extBut D.l2i2,fun c o n1 n2 n3 n4 r=>t.extBut _ _ n4 (Z.kp c o n1 n2 n3 n4 r),t.1.trans Z.sz⟩
theorem ZG.put(Z:ZG b₁ b₂ h₀ h z TI TO i j l m xs ys f c p q a b)(D:ZipApart z TI TO i j l m)(e:IsPair g TO x y)(t:Heap.SameBut TO h g):ZG b₁ b₂ h₀ g z TI TO i j l m xs ys f c p q x y :=
 ⟨t.extBut _ _ D.TOz.symm Z.zo,t.extBut _ _ D.TITO Z.ti,e,Z.wi.extBut t.extBut D.TOi1.symm,Z.wj.extBut t.extBut D.TOi2.symm,Z.sl.extBut t.extBut D.l1TO,Z.sm.extBut t.extBut D.l2TO,fun c o n1 n2 n3 n4 r=>t.extBut _ _ n2 (Z.kp c o n1 n2 n3 n4 r),t.1.trans Z.sz⟩
end
section
variable {prog:Program}{w:World}{A:Around}{E:Value->Shared->Prop}{s:Shared}
variable {b₁ b₂:Bool}{z TI TO i j l m:Addr}{xs ys:Array Value}{f:Value}{c:Bool}{p q:Nat}{a b:Value}
theorem alive_any{n:Addr}{Q:Option Obj->Shared->Prop}(h:Q (s.heap.get? n) s):wpAny (model prog w) A (loadIfAlive n) Q E s:=fun _ _ _=>h
theorem own_free{Q:Bool->Shared->Prop}(hz:IsZ2 s.heap z TI TO f c)(hf:f=.none\/∃n:Nat,f=rawInt n)(h:∀r g c',IsZ2 g z TI TO f c'->Heap.SameBut z s.heap g->Q r { s with heap:=g }) :
  wpAny (model prog w) A (Builtin.SmallTypes.ownedTupleIsFree (.ref z)) Q E s:=by
 unfold Builtin.SmallTypes.ownedTupleIsFree
 refine zW (wpAny_field hz rfl (x:=f) rfl ?_)
 rcases hf with rfl|⟨n,rfl⟩
 ·exact zX (h true s.heap c hz ⟨rfl,fun _ _=>rfl⟩)
 ·refine zW (alive_any ?_)
  cases e:s.heap.get? (n:Int).toNat with
  | none=>exact zX (h true s.heap c hz ⟨rfl,fun _ _=>rfl⟩)
  | some o =>
   refine zW (wpAny_field hz rfl (x:=.bool c) rfl ?_)
   cases c with
   | true=>exact zX (h false s.heap true hz ⟨rfl,fun _ _=>rfl⟩)
   | false=>exact zW (wpAny_setField_rec hz (by simp) fun g e1 t1=>zX (h false g true e1 t1))
theorem zipG{Q:Value->Shared->Prop}(hn:A.handled=none)(D:ZipApart z TI TO i j l m)(Z:ZG b₁ b₂ s.heap s.heap z TI TO i j l m xs ys f c p q a b)(hf:f=.none\/∃n:Nat,f=rawInt n)
  (item:∀x y g,xs[p]?=some x->ys[q]?=some y->(∃ (f':Value) (c':Bool),(f'=.none\/∃n:Nat,f'=rawInt n)/\IsZ2 g z TI TO f' c')->IsPair g TI (.ref i) (.ref j)->(∃u v,IsPair g TO u v)->IsI b₁ g i l (p+1)->IsI b₂ g j m (q+1)->IsPair g s.heap.objs.size x y ->
   g.objs.size=s.heap.objs.size+1->(∀c o,c≠z->c≠TO->c≠i->c≠j->s.heap.get? c=some o->g.get? c=some o)->Q (.ref s.heap.objs.size) { s with heap:=g })
  (over:(xs[p]?=none\/ys[q]?=none)->∀g e,(∀c o,c≠z->c≠TO->c≠i->c≠j->s.heap.get? c=some o->g.get? c=some o)->(∃o,g.get? e=some o/\o.cls=.type "StopIteration")->E (.ref e) { s with heap:=g }) :
  wpAny (model prog w) A (Builtin.«zip.__next__» ⟨[.ref z],[]⟩) (fun r s'=>∃v,r=.done (.ret v)/\Q v s') E s:=by
 show wpAny _ _ (field (.ref z) 2 >>= _) _ _ _
 refine zW (wpAny_field Z.zo rfl (x:=.bool false) rfl (zW (wpAny_field Z.zo rfl (x:=.ref TI) rfl (zW (wpAny_seqItems Z.ti rfl (zW (m:=Builtin.SmallTypes.ownedTupleIsFree _) (own_free Z.zo hf fun r g0 c0 e0 t0=>?_)))))))
 have Z0:=Z.fl D (f':=f) (c':=c0) e0 t0
 cases r with
 | true =>
  have stop:∀ {g1 g2:Heap}{e:Addr}{d:Addr}{p' q':Nat}{a' b':Value},ZG b₁ b₂ s.heap g1 z TI TO i j l m xs ys .ellipsis c0 p' q' a' b'->(d=i\/d=j)->(xs[p]?=none\/ys[q]?=none)->Heap.ExtBut d g1 g2 ->
    (∃o,g2.get? e=some o/\o.cls=.type "StopIteration")->wpAny (model prog w) A (setField (.ref z) 0 Value.none) (fun _ t=>E (.ref e) t) E { s with heap:=g2 }:=by
   intro g1 g2 e d p' q' a' b' Y hc hv k ⟨o,ho,ht⟩
   have cz:z≠d:=hc.elim (fun e=>e ▸ D.i1z.symm) fun e=>e ▸ D.i2z.symm
   have Yz:IsZ2 g2 z TI TO .ellipsis c0:=k _ _ cz Y.zo
   refine wpAny_setField_rec Yz (by simp) fun g3 _ t=>over hv g3 e (fun d u n1 n2 n3 n4 r=>t.extBut _ _ n1 (k _ _ ?_ (Y.kp d u n1 n2 n3 n4 r))) ⟨o,t.extBut _ _ ?_ ho,ht⟩
   ·exact hc.elim (fun e=>e ▸ n3) fun e=>e ▸ n4
   ·rintro rfl;rw[Yz] at ho;cases ho;simp at ht
  rw[if_pos rfl]
  refine zW (wpAny_rule (zW (wpAny_field Z0.zo rfl (x:=.ref TO) rfl (zW (wpAny_setField_rec Z0.zo (by simp) fun g1 e1 t1=>?_)))))
  have Z1:=Z0.fl D (f':=.ellipsis) (c':=c0) e1 t1
  refine zW ?_
  simp only[List.zipIdx_cons,List.zipIdx_nil,List.forIn_cons,List.forIn_nil]
  refine zW (zW (wpAny_onRaise (zW (m:=Builtin.SmallTypes.nextOf _) ?_)))
  cases hx:xs[p]? with
  | none=>exact nxtE hn Z1.wi Z1.sl hx fun g2 e k o=>stop Z1 (.inl rfl) (.inl hx) k o
  | some x =>
  refine nxt Z1.wi Z1.sl hx fun g2 e2 t2=>zX ?_
  have Z2:=Z1.fst D e2 t2
  refine zW (wpAny_seqItems Z2.to rfl (zW (wpAny_updateSeq_pair Z2.to fun g3 e3 t3=>zW (wpAny_letGo (zX ?_)))))
  have Z3:=Z2.put D (x:=x) (y:=b) e3 t3
  refine zW (zW (wpAny_onRaise (zW (m:=Builtin.SmallTypes.nextOf _) ?_)))
  cases hy:ys[q]? with
  | none=>exact nxtE hn Z3.wj Z3.sm hy fun g4 e k o=>stop Z3 (.inr rfl) (.inr hy) k o
  | some y =>
  refine nxt Z3.wj Z3.sm hy fun g4 e4 t4=>zX ?_
  have Z4:=Z3.snd D e4 t4
  refine zW (wpAny_seqItems Z4.to rfl (zW (wpAny_updateSeq_pair Z4.to fun g5 e5 t5=>zW (wpAny_letGo (zX (zX ?_))))))
  have Z5:=Z4.put D (x:=x) (y:=y) e5 t5
  refine zW (wpAny_seqItems Z5.to rfl (zW (wpAny_newTuple (zW (m:=Builtin.SmallTypes.ownedTupleHandOut _ _) ?_))))
  refine zW (wpAny_setField_rec (zV _ Z5.zo) (by simp) fun g6 e6 t6=>wpAny_setField_rec e6 (by simp) fun g7 e7 t7=>zX ⟨_,rfl,?_⟩)
  have lt:=zZ Z5.zo
  have t:=t6.trans t7
  have up:∀d o,d≠z->g5.get? d=some o->g7.get? d=some o:=fun d o n e=>t.extBut _ _ n (zV _ e)
  have hp:IsPair g7 g5.objs.size x y:=t.extBut _ _ (Nat.ne_of_gt lt) (zY _ rfl)
  rw[Z5.sz] at hp
  show Q (.ref g5.objs.size) _
  rw[Z5.sz]
  exact item x y g7 hx hy ⟨_,_,.inr ⟨_,rfl⟩,e7⟩ (up _ _ D.TIz Z5.ti) ⟨_,_,up _ _ D.TOz Z5.to⟩ (Z5.wi.at fun o e=>up _ _ D.i1z e) (Z5.wj.at fun o e=>up _ _ D.i2z e) hp (by rw[t.1,Heap.size_push,Z5.sz]) fun d o n1 n2 n3 n4 e=>up d o n1 (Z5.kp d o n1 n2 n3 n4 e)
 | false =>
  rw[if_neg Bool.false_ne_true]
  simp only[List.forIn_toArray,List.forIn_cons,List.forIn_nil]
  refine zW (zW (zW (wpAny_holding (zW (m:=Builtin.SmallTypes.nextOf _) ?_))))
  cases hx:xs[p]? with
  | none=>exact nxtE hn Z0.wi Z0.sl hx fun g2 e k o=>over (.inl hx) g2 e (fun d u n1 n2 n3 n4 r=>k _ _ n3 (Z0.kp d u n1 n2 n3 n4 r)) o
  | some x =>
  refine nxt Z0.wi Z0.sl hx fun g2 e2 t2=>zX (zX ?_)
  have Z2:=Z0.fst D e2 t2
  refine zW (zW (wpAny_holding (zW (m:=Builtin.SmallTypes.nextOf _) ?_)))
  cases hy:ys[q]? with
  | none=>exact nxtE hn Z2.wj Z2.sm hy fun g4 e k o=>over (.inr hy) g4 e (fun d u n1 n2 n3 n4 r=>k _ _ n4 (Z2.kp d u n1 n2 n3 n4 r)) o
  | some y =>
  refine nxt Z2.wj Z2.sm hy fun g4 e4 t4=>zX (zX (zX ?_))
  have Z4:=Z2.snd D e4 t4
  refine zW (wpAny_newTuple (zX ⟨_,rfl,?_⟩) (show 2<=sizeLine by rw[sizeLine_eq];decide))
  have up:∀d o,g4.get? d=some o->(g4.push { cls:=.type "tuple",data:=.seq #[x,y] }).get? d=some o:=fun d o e=>zV _ e
  have hp:IsPair (g4.push { cls:=.type "tuple",data:=.seq #[x,y] }) g4.objs.size x y:=zY _ rfl
  rw[Z4.sz] at hp
  show Q (.ref g4.objs.size) _
  rw[Z4.sz]
  exact item x y _ hx hy ⟨_,_,hf,up _ _ Z4.zo⟩ (up _ _ Z4.ti) ⟨_,_,up _ _ Z4.to⟩ (Z4.wi.at fun o e=>up _ _ e) (Z4.wj.at fun o e=>up _ _ e) hp (by rw[Heap.size_push,Z4.sz]) fun d o n1 n2 n3 n4 e=>up d o (Z4.kp d o n1 n2 n3 n4 e)
theorem nextOf_zip{Q:Value->Shared->Prop}(hn:A.handled=none)(D:ZipApart z TI TO i j l m)(Z:ZG b₁ b₂ s.heap s.heap z TI TO i j l m xs ys f c p q a b)(hf:f=.none\/∃n:Nat,f=rawInt n)
  (item:∀x y g,xs[p]?=some x->ys[q]?=some y->(∃ (f':Value) (c':Bool),(f'=.none\/∃n:Nat,f'=rawInt n)/\IsZ2 g z TI TO f' c')->IsPair g TI (.ref i) (.ref j)->(∃u v,IsPair g TO u v)->IsI b₁ g i l (p+1)->IsI b₂ g j m (q+1)->IsPair g s.heap.objs.size x y ->
   g.objs.size=s.heap.objs.size+1->(∀c o,c≠z->c≠TO->c≠i->c≠j->s.heap.get? c=some o->g.get? c=some o)->Q (.ref s.heap.objs.size) { s with heap:=g })
  (over:(xs[p]?=none\/ys[q]?=none)->∀g e,(∀c o,c≠z->c≠TO->c≠i->c≠j->s.heap.get? c=some o->g.get? c=some o)->(∃o,g.get? e=some o/\o.cls=.type "StopIteration")->E (.ref e) { s with heap:=g }) :
  wpAny (model prog w) A (Builtin.SmallTypes.nextOf (.ref z)) Q E s:=by
 have ty:s.TypeIs (.ref z) "zip":=⟨_,Z.zo,rfl⟩
 unfold Builtin.SmallTypes.nextOf
 exact zW (wpAny_callSpecial?_slot (name:=Str.ofString "__next__") ty F.slot_zip_next (wpAny_call_entry F.slot_zip_next ty F.entry_zip_next (zipG hn D Z hf (fun x y g h1 h2 h3 h4 h5 h6 h7 h8 h9 h0=>zX (item x y g h1 h2 h3 h4 h5 h6 h7 h8 h9 h0)) over) (F.args_zip_next_1 _)))
theorem nextEZ{Q:Option Value->Shared->Prop}{e:Addr}{k:Nat}{old x y:Value}(hn:A.handled=none)(D:ZipApart z TI TO i j l m)(he:IsEnum s.heap e z k old)(Z:ZG b₁ b₂ s.heap s.heap z TI TO i j l m xs ys f c k k a b)(hf:f=.none\/∃n:Nat,f=rawInt n)
  (ez:e≠z) (eTI:e≠TI) (eTO:e≠TO) (ei:e≠i) (ej:e≠j) (hx:xs[k]?=some x) (hy:ys[k]?=some y)
  (kQ:∀g tk,IsEnumOut g e z ((k:Int)+1) (.ref s.heap.objs.size) (s.heap.objs.size+1)->(∃ (f':Value) (c':Bool),(f'=.none\/∃n:Nat,f'=rawInt n)/\IsZ2 g z TI TO f' c')->IsPair g TI (.ref i) (.ref j)->(∃u v,IsPair g TO u v)->IsI b₁ g i l (k+1)->IsI b₂ g j m (k+1)->IsPair g s.heap.objs.size x y ->
   g.get? (s.heap.objs.size+1)=some { cls:=.type "tuple",data:=.seq #[.int k tk,.ref s.heap.objs.size] }->(∀c o,c≠e->c≠z->c≠TO->c≠i->c≠j->s.heap.get? c=some o->g.get? c=some o)->Q (some (.ref (s.heap.objs.size+1))) { s with heap:=g,toks:=tk+1 }) :
  wpAny (model prog w) A (pyNext (.ref e)) Q E s:=by
 obtain⟨hp,gg,d,tk,os⟩:=s
 have hT:(⟨hp,gg,d,tk,os⟩:Shared).TypeIs (.ref e) "enumerate":=⟨_,he,rfl⟩
 unfold pyNext
 refine zW (wpAny_attempt (wpAny_callSpecial?_slot (name:=Str.ofString "__next__") hT F.slot_enumerate_next
  (wpAny_call_entry F.slot_enumerate_next hT F.entry_enumerate_next ?_ (F.args_enumerate_next_1 _))))
 show wpAny _ _ (field (.ref e) 2 >>= _) _ _ _
 refine zW (wpAny_field he rfl (x:=.ref z) rfl (zW (nextOf_zip hn D Z hf (fun x' y' h₁ hx' hy' q1 q2 q3 q4 q5 q6 q7 k1=>?_) fun no=>?_)))
 rotate_left
 ·rw[hx,hy] at no
  rcases no with no|no<;>cases no
 rw[hx] at hx';cases hx'
 rw[hy] at hy';cases hy'
 have he₁:IsEnum h₁ e z k old:=k1 e _ ez eTO ei ej he
 show wpAny _ _ (field (.ref e) 3 >>= _) _ _ ⟨h₁,gg,d,tk,os⟩
 refine zW (wpAny_field he₁ rfl (x:=rawInt k) rfl ?_)
 show wpAny _ _ (field (.ref e) 4 >>= _) _ _ ⟨h₁,gg,d,tk,os⟩
 refine zW (wpAny_field he₁ rfl (x:=.none) rfl ?_)
 show wpAny _ _ (mkInt k >>= _) _ _ ⟨h₁,gg,d,tk,os⟩
 refine zW (wpAny_mkInt ?_)
 show wpAny _ _ (setField (.ref e) 3 (rawInt ((k:Int)+1)) >>= _) _ _ ⟨h₁,gg,d,tk+1,os⟩
 refine zW (wpAny_setField_rec he₁ (by simp) fun h₂ he₂ hs₂=>?_)
 replace hs₂:Heap.SameBut e h₁ h₂:=hs₂
 replace he₂:IsEnum h₂ e z ((k:Int)+1) old:=he₂
 show wpAny _ _ (setField (.ref e) 4 .none >>= _) _ _ ⟨h₂,gg,d,tk+1,os⟩
 refine zW (wpAny_setField_rec he₂ (by simp) fun h₃ he₃ hs₃=>?_)
 replace hs₃:Heap.SameBut e h₂ h₃:=hs₃
 replace he₃:IsEnum h₃ e z ((k:Int)+1) old:=he₃
 show wpAny _ _ (newTuple [.int k tk,.ref hp.objs.size] >>= _) _ _ ⟨h₃,gg,d,tk+1,os⟩
 refine zW (wpAny_newTuple ?_)
 have he₄:IsEnum (h₃.push { cls:=.type "tuple",data:=.seq #[.int k tk,.ref hp.objs.size] }) e z ((k:Int)+1) old:=zV _ he₃
 have hsz:h₃.objs.size=hp.objs.size+1:=by rw[hs₃.1,hs₂.1];exact q7
 have ht₄:(h₃.push { cls:=.type "tuple",data:=.seq #[.int k tk,.ref hp.objs.size] }).get? (hp.objs.size+1)=some { cls:=.type "tuple",data:=.seq #[.int k tk,.ref hp.objs.size] }:=by rw[<- hsz];exact zY _ rfl
 have hel:e < hp.objs.size:=zZ he
 have k4:∀b o,b≠e->h₁.get? b=some o->(h₃.push { cls:=.type "tuple",data:=.seq #[.int k tk,.ref hp.objs.size] }).get? b=some o:=fun b o hbe hb=>zV _ (hs₃.extBut b o hbe (hs₂.extBut b o hbe hb))
 show wpAny _ _ (Builtin.SmallTypes.ownedTupleIsFree (.ref e) >>= _) _ _ ⟨h₃.push { cls:=.type "tuple",data:=.seq #[.int k tk,.ref hp.objs.size] },gg,d,tk+1,os⟩
 generalize h₃.push { cls:=.type "tuple",data:=.seq #[.int k tk,.ref hp.objs.size] }=h₄ at he₄ ht₄ k4
 rw[hsz]
 refine zW ?_
 unfold Builtin.SmallTypes.ownedTupleIsFree
 refine zW (wpAny_field he₄ rfl (x:=.none) rfl (zX ?_))
 simp only[if_true]
 refine zW (wpAny_rule ?_)
 refine zW (wpAny_field he₄ rfl (x:=old) rfl ?_)
 refine zW (wpAny_setField_rec he₄ (by simp) fun h₅ he₅ hs₅=>?_)
 replace hs₅:Heap.SameBut e h₄ h₅:=hs₅
 replace he₅:IsEnum h₅ e z ((k:Int)+1) (.ref hp.objs.size):=he₅
 show wpAny _ _ (Builtin.SmallTypes.ownedTupleHandOut (.ref e) (.ref (hp.objs.size+1)) >>= _) _ _ ⟨h₅,gg,d,tk+1,os⟩
 refine zW ?_
 unfold Builtin.SmallTypes.ownedTupleHandOut
 refine zW (wpAny_setField_rec he₅ (by simp) fun h₆ he₆ hs₆=>?_)
 replace hs₆:Heap.SameBut e h₅ h₆:=hs₆
 replace he₆:IsEnumOut h₆ e z ((k:Int)+1) (.ref hp.objs.size) (hp.objs.size+1):=he₆
 refine wpAny_setField_rec he₆ (by simp) fun h₇ he₇ hs₇=>?_
 replace hs₇:Heap.SameBut e h₆ h₇:=hs₇
 replace he₇:IsEnumOut h₇ e z ((k:Int)+1) (.ref hp.objs.size) (hp.objs.size+1):=he₇
 have up:∀b o,b≠e->h₄.get? b=some o->h₇.get? b=some o:=fun b o hbe y=>hs₇.extBut b o hbe (hs₆.extBut b o hbe (hs₅.extBut b o hbe y))
 have up1:∀b o,b≠e->h₁.get? b=some o->h₇.get? b=some o:=fun b o hbe y=>up b o hbe (k4 b o hbe y)
 refine zW (wpAny_letGo (zX ⟨_,rfl,zX (kQ h₇ tk he₇ ?_ (up1 _ _ eTI.symm q2) ?_ (q4.at fun o r=>up1 _ _ ei.symm r) (q5.at fun o r=>up1 _ _ ej.symm r) (up1 _ _ (Nat.ne_of_gt hel) q6) (up _ _ (Nat.ne_of_gt (Nat.lt_succ_of_lt hel)) ht₄) fun b o n0 n1 n2 n3 n4 r=>up1 b o n0 (k1 b o n1 n2 n3 n4 r))⟩))
 ·obtain⟨f',c',hf',r⟩:=q1
  exact⟨f',c',hf',up1 _ _ ez.symm r⟩
 ·obtain⟨u,v,r⟩:=q3
  exact⟨u,v,up1 _ _ eTO.symm r⟩
theorem nextEZE{Q:Option Value->Shared->Prop}{e:Addr}{k:Nat}{old:Value}(hn:A.handled=none)(D:ZipApart z TI TO i j l m)(he:IsEnum s.heap e z k old)(Z:ZG b₁ b₂ s.heap s.heap z TI TO i j l m xs ys f c k k a b)(hf:f=.none\/∃n:Nat,f=rawInt n)(no:xs[k]?=none\/ys[k]?=none)
  (kQ:∀g,(∀c o,c≠z->c≠TO->c≠i->c≠j->s.heap.get? c=some o->g.get? c=some o)->Q none { s with heap:=g }):wpAny (model prog w) A (pyNext (.ref e)) Q E s:=by
 have hT:s.TypeIs (.ref e) "enumerate":=⟨_,he,rfl⟩
 unfold pyNext
 refine zW (wpAny_attempt (wpAny_callSpecial?_slot (name:=Str.ofString "__next__") hT F.slot_enumerate_next
  (wpAny_call_entry F.slot_enumerate_next hT F.entry_enumerate_next ?_ (F.args_enumerate_next_1 _))))
 show wpAny _ _ (field (.ref e) 2 >>= _) _ _ _
 refine zW (wpAny_field he rfl (x:=.ref z) rfl (zW (nextOf_zip hn D Z hf (fun x y g hx hy=>?_) fun _ g x k ⟨o,ho,hc⟩=>?_)))
 ·rw[hx,hy] at no
  rcases no with no|no<;>cases no
 ·exact zW (wpAny_isInstance (T:="StopIteration") (b:=true) ⟨o,ho,hc⟩ isSubtype_stop (zX (kQ _ k)))
end
theorem meets_enumZ(z TI TO:Addr)(f:Value):Meets (Builtin.«enumerate.__new__» ⟨[.type "enumerate",.ref z],[]⟩) (fun _ R s=>IsZip s.heap z TI TO f /\
   R (.ok (.ret (.ref s.heap.objs.size))) { s with heap:=s.heap.push { cls:=.type "enumerate",data:=.fields #[.none,.bool false,.ref z,rawInt 0,.none,.none] } }) :=
 .of_wp fun prog w A R s h=>by
  obtain⟨hp,g,d,tk,os⟩:=s
  obtain⟨hl,h⟩:=h
  have hsub:=sub_enumerate
  have hL:IsZip (Shared.heap ⟨hp,g,d,tk,os⟩) z TI TO f:=hl
  wp_walk using wpAny_loadPart' hl
  refine wpAny_stack_any fun st=>zX ?_
  split
  ·rename_i c _ _ _ _ _
   cases (c == Value.type "enumerate")
   ·wp_walk using wpAny_loadPart' hl,wpAny_pyIter_zip hL
    exact⟨_,rfl,h⟩
   ·wp_walk using wpAny_loadPart' hl,wpAny_pyIter_zip hL
    exact⟨_,rfl,h⟩
  ·wp_walk using wpAny_loadPart' hl,wpAny_pyIter_zip hL
   exact⟨_,rfl,h⟩
section
variable {prog:Program}{w:World}{A:Around}{E:Value->Shared->Prop}{s:Shared}
theorem call_enumZ{z TI TO:Addr}{f:Value}{Q:Value->Shared->Prop}(hz:IsZip s.heap z TI TO f)
  (h:∀h',IsEnum h' s.heap.objs.size z 0 .none->(∀b o,s.heap.get? b=some o->h'.get? b=some o)->Q (.ref s.heap.objs.size) { s with heap:=h' }) :
  wpAny (model prog w) A (call (.type "enumerate") [.ref z]) Q E s:=by
 refine callType_new F.called_enumerate (by decide) (F.typeCall_enumerate_1 _) (F.newCall_enumerate_1 _) (fun obj=>F.args_object_init_2 obj _) F.entry_enumerate_new (meets_enumZ z TI TO f) ⟨hz,?_⟩
 have he:=zY s.heap (o:={ cls:=.type "enumerate",data:=.fields #[.none,.bool false,.ref z,rawInt 0,.none,.none] }) rfl
 exact⟨⟨_,he,rfl⟩,h _ he fun b o x=>zV _ x⟩
end
end Zp
namespace Dl
open PySem L2 PySem.Spec PyProof.Rows Zp
noncomputable def Fc(sq1 sq2:Hp->List V->Prop):It:=⟨fun i H=>∃xs ys x y,sq1 H xs/\sq2 H ys/\xs[i]?=some x/\ys[i]?=some y,
 fun i H v H'=>∃T p x y,v=.ref T/\H p=none/\H T=none/\T≠p/\H'=upd (upd H p (.tup [x,y])) T (.tup [.int (i:Nat),.ref p])/\(∀xs,sq1 H xs->xs[i]?=some x)/\∀ys,sq2 H ys->ys[i]?=some y,
 fun i H=>∃xs ys,sq1 H xs/\sq2 H ys/\(xs.length<=i\/ys.length<=i)⟩
theorem Ce{K:W.Frag}{HF:Hp}{sq1 sq2:Hp->List V->Prop}{xs ys:List D}{vs us:List V}(h1:sq1 HF vs)(mo1:∀H H',aH H H'->sq1 H vs->sq1 H' vs)(h2:sq2 HF us)(mo2:∀H H',aH H H'->sq2 H us->sq2 H' us)(r1:aj K HF xs vs)(r2:aj K HF ys us) :
  mS K (Fc sq1 sq2) HF (aI 0 (gR xs ys)) where
 go:=fun i d H₁ HF₁ e s1 s2=>by
  obtain⟨d,hd,rfl⟩:=kW e
  rw[Nat.zero_add]
  obtain⟨x,y,hx,hy,rfl⟩:=nu hd
  obtain⟨v,hv,rv⟩:=r1.getD hx
  obtain⟨u,hu,ru⟩:=r2.getD hy
  have q1:=mo1 _ _ s2 (mo1 _ _ s1 h1)
  have q2:=mo2 _ _ s2 (mo2 _ _ s1 h2)
  refine⟨⟨vs,us,v,u,q1,q2,hv,hu⟩,fun w H₂ ⟨T,p,a,b,e1,hp,hT,hne,e2,ha,hb⟩=>?_⟩
  have ea:=ha vs q1
  have eb:=hb us q2
  rw[hv] at ea
  rw[hu] at eb
  cases ea
  cases eb
  subst e1 e2
  have g1:bo HF₁ H₁ _ _:=.new (o:=.tup [v,u]) s2 hp
  have hT1:upd H₁ p (.tup [v,u]) T=none:=by rw[av hne];exact hT
  have g2:=g1.trans (.new (o:=.tup [.int (i:Nat),.ref p]) g1.fh hT1)
  refine⟨_,g2,?_⟩
  have rp:=bx (l:=p) (K:=K) (s2.free hp) (aj.cons (rv.mono s1) (aj.cons (ru.mono s1) aj.nil))
  exact bx (g1.fh.free hT1) (aj.cons (by simp[Rep]) (aj.cons rp aj.nil))
 stop:=fun H₁ HF₁ s1 s2=>⟨vs,us,mo1 _ _ s2 (mo1 _ _ s1 h1),mo2 _ _ s2 (mo2 _ _ s1 h2),by rw[f9,mU,r1.length,r2.length];omega⟩
theorem B4{P:Program}{w:World}{K:W.Frag}{elts:List Expr}{k:Nat}{pos:Pos}(b c:Bool)(l1 l2 e z TI TO i1 i2:Addr)(Z:JT z TI TO i1 i2)(ez:e≠z)(eTI:e≠TI)(eTO:e≠TO)(ei:e≠i1)(ej:e≠i2) :
  Turn P w K (.Tuple elts k pos) (Fc (ll K b l1) (ll K c l2)) [e,z,TI,TO,i1,i2] e (fun i h=>(∃old,IsEnum h e z i old)/\(∃f d,(f=.none\/∃n:Nat,f=rawInt n)/\IsZ2 h z TI TO f d)/\IsPair h TI (.ref i1) (.ref i2)/\(∃a b,IsPair h TO a b)/\IsI b h i1 l1 i/\IsI c h i2 l2 i) where
 mem:=by simp
 obj:=fun i h st d hd=>by
  obtain⟨⟨old,he⟩,⟨f,d',hf,hz⟩,hTI,⟨a,b',hTO⟩,p1,p2⟩:=st
  simp only[zR,yG,or_false] at hd
  rcases hd with rfl|rfl|rfl|rfl|rfl|rfl
  ·exact⟨_,he,fun v q=>by have q:Data.fields _=Data.cell v:=q;cases q⟩
  ·exact⟨_,hz,fun v q=>by have q:Data.fields _=Data.cell v:=q;cases q⟩
  ·exact⟨_,hTI,fun v q=>by have q:Data.seq _ _=Data.cell v:=q;cases q⟩
  ·exact⟨_,hTO,fun v q=>by have q:Data.seq _ _=Data.cell v:=q;cases q⟩
  ·exact p1.obj
  ·exact p2.obj
 keep:=fun i h h' st kk=>by
  obtain⟨⟨old,he⟩,⟨f,d',hf,hz⟩,hTI,⟨a,b',hTO⟩,h1,h2⟩:=st
  exact⟨⟨old,kk e (by simp) _ he⟩,⟨f,d',hf,kk z (by simp) _ hz⟩,kk TI (by simp) _ hTI,⟨a,b',kk TO (by simp) _ hTO⟩,h1.at fun o q=>kk i1 (by simp) o q,h2.at fun o q=>kk i2 (by simp) o q⟩
 item:=by
  intro X hP hw hK hc i pins s σ H E I hf st hg
  subst hP hw hK
  obtain⟨xs,ys,x,y,hq1,hq2,hx,hy⟩:=hg
  obtain⟨its1,rv1,p1,hz1⟩:=hq1.src I
  obtain⟨its2,rv2,p2,hz2⟩:=hq2.src I
  obtain⟨u1,hu1,ru1⟩:=rv1.get hx
  obtain⟨u2,hu2,ru2⟩:=rv2.get hy
  have D:ZipApart z TI TO i1 i2 l1 l2:=⟨Z.a1,Z.a2,Z.a3,Z.a4,Z.a5,Z.a6,Z.a7,Z.a8,Z.a9,Z.a0,hq1.ne I (hf z (by simp)),hq1.ne I (hf TO (by simp)),hq1.ne I (hf i1 (by simp)),hq1.ne I (hf i2 (by simp)),hq2.ne I (hf z (by simp)),hq2.ne I (hf TO (by simp)),hq2.ne I (hf i1 (by simp)),hq2.ne I (hf i2 (by simp))⟩
  obtain⟨⟨old,he⟩,⟨f,d',hff,hz⟩,hTI,⟨a,b',hTO⟩,h1,h2⟩:=st
  have ZZ:ZG b c s.heap s.heap z TI TO i1 i2 l1 l2 its1.toArray its2.toArray f d' i i a b':=⟨hz,hTI,hTO,h1,h2,p1,p2,fun _ _ _ _ _ _ e=>e,rfl⟩
  refine nextEZ (I.ok.hd hc) D he ZZ hff ez eTI eTO ei ej (x:=u1) (y:=u2) (by simpa using hu1) (by simpa using hu2) fun g tk b0 b1 b2 b3 b4 b5 b6 b7 hk=>⟨.ref (s.heap.objs.size+1),rfl,?_⟩
  have lt:∀ {c:Addr}{o:Obj},s.heap.get? c=some o->c < s.heap.objs.size:=fun e=>zZ e
  refine wpAny_letOwnedTupleGo_enum (s:={ s with heap:=g,toks:=tk+1 }) b0 fun g' he' hs'=>?_
  have ne1:s.heap.objs.size≠e:=Nat.ne_of_gt (lt he)
  have ne2:s.heap.objs.size+1≠e:=Nat.ne_of_gt (Nat.lt_succ_of_lt (lt he))
  have b6':g'.get? s.heap.objs.size=some { cls:=.type "tuple",data:=.seq #[u1,u2] }:=hs'.extBut _ _ ne1 b6
  have b7':g'.get? (s.heap.objs.size+1)=some { cls:=.type "tuple",data:=.seq #[.int i tk,.ref s.heap.objs.size] }:=hs'.extBut _ _ ne2 b7
  have I1:Inv X pins σ H { s with heap:=g',toks:=tk+1 }:=kY (ch:=[e,z,TI,TO,i1,i2]) (t':=tk+1) I hf fun q o hb r=>by
   simp only[zR,yG,or_false,not_or] at hb
   exact hs'.extBut _ _ hb.1 (hk q o hb.1 hb.2.1 hb.2.2.2.1 hb.2.2.2.2.1 hb.2.2.2.2.2 r)
  have fp1:bI X pins H s.heap.objs.size:=I.fpOk (Nat.le_refl _) I.fresh
  have hn2:H (s.heap.objs.size+1)=none:=I.hok.fresh (Nat.le_succ _)
  have I2:=Inv.track (o:=.tup [x,y]) I1 fp1 ⟨by show 2<=sizeLine;decide,[u1,u2],.cons ru1 (.cons ru2 .nil),⟨_,b6',rfl,_,rfl⟩,_,b6',rfl⟩
  have ne3:s.heap.objs.size+1≠s.heap.objs.size:=Nat.succ_ne_self _
  have fp2:bI X pins (upd H s.heap.objs.size (.tup [x,y])) (s.heap.objs.size+1):=I.fpOk (Nat.le_succ _) (by rw[av ne3];exact hn2)
  have I3:=Inv.track (o:=.tup [.int (i:Nat),.ref s.heap.objs.size]) I2 fp2 ⟨by show 2<=sizeLine;decide,[.int i tk,.ref s.heap.objs.size],.cons ⟨_,rfl⟩ (.cons rfl .nil),⟨_,b7',rfl,_,rfl⟩,_,b7',rfl⟩
  refine⟨.ref (s.heap.objs.size+1),_,I3,rfl,⟨_,s.heap.objs.size,x,y,rfl,I.fresh,hn2,ne3,rfl,fun zs hzs=>by rw[hzs.inj I hq1];exact hx,fun zs hzs=>by rw[hzs.inj I hq2];exact hy⟩,
   ⟨⟨_,he'⟩,?_,hs'.extBut _ _ eTI.symm b2,?_,b4.extBut hs'.extBut ei.symm,b5.extBut hs'.extBut ej.symm⟩,fun q hb=>?_⟩
  ·obtain⟨f',c',hf',r⟩:=b1
   exact⟨f',c',hf',hs'.extBut _ _ ez.symm r⟩
  ·obtain⟨u,v,r⟩:=b3
   exact⟨u,v,hs'.extBut _ _ eTO.symm r⟩
  ·have hlt:q < s.heap.objs.size:=by
    simp only[zR,yG,or_false] at hb
    obtain⟨o1,g1,_⟩:=h1.obj
    obtain⟨o2,g2,_⟩:=h2.obj
    rcases hb with rfl|rfl|rfl|rfl|rfl|rfl
    ·exact lt he
    ·exact lt hz
    ·exact lt hTI
    ·exact lt hTO
    ·exact lt g1
    ·exact lt g2
   rw[av (Nat.ne_of_lt (Nat.lt_succ_of_lt hlt)),av (Nat.ne_of_lt hlt)]
   exact (hf q hb).1
 done:=by
  intro X hP hw hK hc i pins s σ H E I hf st hg
  subst hP hw hK
  obtain⟨xs,ys,hq1,hq2,hx⟩:=hg
  obtain⟨its1,rv1,p1,hz1⟩:=hq1.src I
  obtain⟨its2,rv2,p2,hz2⟩:=hq2.src I
  have D:ZipApart z TI TO i1 i2 l1 l2:=⟨Z.a1,Z.a2,Z.a3,Z.a4,Z.a5,Z.a6,Z.a7,Z.a8,Z.a9,Z.a0,hq1.ne I (hf z (by simp)),hq1.ne I (hf TO (by simp)),hq1.ne I (hf i1 (by simp)),hq1.ne I (hf i2 (by simp)),hq2.ne I (hf z (by simp)),hq2.ne I (hf TO (by simp)),hq2.ne I (hf i1 (by simp)),hq2.ne I (hf i2 (by simp))⟩
  obtain⟨⟨old,he⟩,⟨f,d',hff,hz⟩,hTI,⟨a,b',hTO⟩,h1,h2⟩:=st
  have ZZ:ZG b c s.heap s.heap z TI TO i1 i2 l1 l2 its1.toArray its2.toArray f d' i i a b':=⟨hz,hTI,hTO,h1,h2,p1,p2,fun _ _ _ _ _ _ e=>e,rfl⟩
  have e1:=rv1.length
  have e2:=rv2.length
  refine nextEZE (I.ok.hd hc) D he ZZ hff (hx.elim (fun q=>.inl (by simp;omega)) fun q=>.inr (by simp;omega)) fun g hk=>⟨rfl,?_⟩
  refine kY (ch:=[e,z,TI,TO,i1,i2]) (t':=s.toks) I hf fun q o hb r=>?_
  simp only[zR,yG,or_false,not_or] at hb
  exact hk q o hb.2.1 hb.2.2.2.1 hb.2.2.2.2.1 hb.2.2.2.2.2 r
 self:=fun _ _ _ _ _ st h=>let ⟨_,he⟩:=st.1;wpAny_pyIter_enum he h
section
variable {X:Cx}{l l':Expr}{fs:Env->Option (List D)}{elts:List Expr}{k:Nat}{pos p tp p' pos':Pos}
theorem Hw{tl:TA}(B:jj X "enumerate" (.type "enumerate"))(C:jj X "zip" (.type "zip"))(ha:PA X [l,l'] tl)(hs:starEach [l,l'] X.env=(false,eval l X.env)::starEach [l'] X.env)(hs2:(backTo pos' (starEach [l'] X.env)).any (·.1)=false) :
  PI X (.Tuple elts k tp) (.Call (.Name "enumerate" p) [.Call (.Name "zip" p') [l,l'] [] pos'] [] pos) (fun σ H R=>tl σ H fun vs H1=>∃a b,vs=[.ref a,.ref b]/\∃c d xs ys,ll X.K c a H1 xs/\ll X.K d b H1 ys/\R (Fc (ll X.K c a) (ll X.K d b)) H1):=by
 intro pins s σ H R I h
 refine Call_ (eL I B.gl B.mg B.bt (PyProof.Rows.callWith_type1 (Calls.spliced_cons (Call_ (eL I C.gl C.mg C.bt (PyProof.Rows.callWith_type1 (bw (ha pos' pins s σ H _ I h) fun us s1 ⟨vs,H1,I1,r1,q1⟩=>?_) hs hs2)))) rfl rfl))
 obtain⟨a,b,e,c,d,xs,ys,hq1,hq2,q⟩:=q1
 subst e
 obtain⟨u,u',rfl,rx,ry⟩:=vals2 r1
 cases rx
 cases ry
 obtain⟨its,rv,pl,hz⟩:=hq1.src I1
 obtain⟨its',rv',pl',hz'⟩:=hq2.src I1
 refine call_zip pl pl' fun g b1 b2 b3 b4 b5 kp=>Calls.spliced_nil ?_
 refine call_enumZ (s:={ s1 with heap:=g }) b1 fun g' he kp'=>wpAny_pyIter_enum (s:={ s1 with heap:=g' }) he ?_
 have hlt:(s1.heap.objs.size:Nat)+4 < g.objs.size:=zZ b1
 have nz:g.objs.size≠s1.heap.objs.size+4:=Nat.ne_of_gt hlt
 refine⟨_,_,_,_,H1,rfl,I1.kept (t':=s1.toks) (fun b o e=>kp' b o (kp b o e)),B4 c d a b g.objs.size (s1.heap.objs.size+4) (s1.heap.objs.size+2) (s1.heap.objs.size+3) s1.heap.objs.size (s1.heap.objs.size+1) ?_ nz ?_ ?_ ?_ ?_,⟨⟨_,he⟩,⟨_,_,.inl rfl,kp' _ _ b1⟩,kp' _ _ b2,⟨_,_,kp' _ _ b3⟩,b4.at fun o r=>kp' _ _ r,b5.at fun o r=>kp' _ _ r⟩,fun c hc=>?_,q⟩
 ·constructor<;>(intro z;have z:(_:Nat)=_:=z;omega)
 ·exact fun z=>by have z:(g.objs.size:Nat)=(_:Nat):=z;omega
 ·exact fun z=>by have z:(g.objs.size:Nat)=(_:Nat):=z;omega
 ·exact fun z=>by have z:(g.objs.size:Nat)=(_:Nat):=z;omega
 ·exact fun z=>by have z:(g.objs.size:Nat)=(_:Nat):=z;omega
 ·have hge:s1.heap.objs.size<=c:=by
   simp only[zR,yG,or_false] at hc
   rcases hc with rfl|rfl|rfl|rfl|rfl|rfl
   ·exact Nat.le_of_lt (Nat.lt_of_le_of_lt (Nat.le_add_right _ _) hlt)
   ·exact Nat.le_add_right _ _
   ·exact Nat.le_add_right _ _
   ·exact Nat.le_add_right _ _
   ·exact Nat.le_refl _
   ·exact Nat.le_add_right _ _
  exact I1.fpOk hge (I1.hok.fresh hge)
noncomputable def fY(fs:Env->Option (List D)):Env->Option (List D):=fun ρ=>(fs ρ).bind fun ds=>(uV ds).map (aI 0)
theorem Hs(B:jj X "enumerate" (.type "enumerate"))(C:jj X "zip" (.type "zip"))(hs:starEach [l,l'] X.env=(false,eval l X.env)::starEach [l'] X.env)(hs2:(backTo pos' (starEach [l'] X.env)).any (·.1)=false)(h:DA X [l,l'] fs) :
  DI X (.Tuple elts k tp) (.Call (.Name "enumerate" p) [.Call (.Name "zip" p') [l,l'] [] pos'] [] pos) (fY fs) :=
 m6 (Hw B C h hs hs2) fun σ H R ⟨HF,ρ,ds,sm,eo,hf,q⟩=>by
  obtain⟨x,hx,hf⟩:=bs hf
  refine⟨HF,ρ,_,sm,eo,hx,fun vs H1 HF1 g1 r1=>?_⟩
  obtain⟨es,hg,rfl⟩:=ae hf
  unfold uV at hg
  split at hg
  ·obtain⟨xs,h1,hg⟩:=bs hg
   obtain⟨ys,h2,rfl⟩:=ae hg
   obtain⟨v,r',rfl,a,b⟩:=r1.cons_inv
   obtain⟨v',r'',rfl,a',b'⟩:=b.cons_inv
   rw[b'.nil_inv]
   obtain⟨c,ad,us,rfl,hq,rr⟩:=m7 h1 a
   obtain⟨c',ad',us',rfl,hq',rr'⟩:=m7 h2 a'
   exact⟨ad,ad',rfl,c,c',us,us',hq.mono g1.fh,hq'.mono g1.fh,q _ H1 HF1 g1 (Ce hq (fun _ _ s h=>h.mono s) hq' (fun _ _ s h=>h.mono s) rr rr')⟩
  ·cases hg
noncomputable def nS(i j l:Nat):Env->D->Option Env:=fun ρ d=>match d with
 | .tuple [x,.tuple [y,z]]=>if isFree ρ i=true/\isFree ρ j=true/\isFree ρ l=true then some (((ρ.set i (some x)).set j (some y)).set l (some z)) else none
 | _=>none
theorem HZ(i j l:Nat){x y z:Str}{px py pz pt:Pos}{k m:Nat}(hc:X.calm=true)(hN:X.N.Nodup)(hi:X.N[i]?=some x)(hx:Loc X.env.scope x)(hj:X.N[j]?=some y)(hy:Loc X.env.scope y)(hl:X.N[l]?=some z)(hz:Loc X.env.scope z)
  (hf:X.fn x=true\/X.env.scope.names.lookup x=some .local) (hf':X.fn y=true\/X.env.scope.names.lookup y=some .local) (hf'':X.fn z=true\/X.env.scope.names.lookup z=some .local) :
  DG X (.Tuple [.Name x px,.Tuple [.Name y py,.Name z pz] m pt] k pos) (nS i j l) :=
 jy (iJ hc (aP (bh hN hi hx hf) (aP (iJ hc (aP (bh hN hj hy hf') (aP (bh hN hl hz hf'') eU))) eU))) fun v σ H Q ⟨HF,ρ,d,ρ',sm,eo,r,hf,q⟩=>by
  unfold nS at hf
  split at hf
  ·split at hf
   ·rename_i hh
    cases hf
    simp only[Rep] at r
    obtain⟨a,vs,rfl,hs,rr⟩:=r
    obtain⟨v1,r1,rfl,a1,b1⟩:=rr.cons_inv
    obtain⟨v2,r2,rfl,a2,b2⟩:=b1.cons_inv
    rw[b2.nil_inv] at hs
    simp only[Rep] at a2
    obtain⟨a',vs',rfl,hs',rr'⟩:=a2
    obtain⟨v3,r3,rfl,a3,b3⟩:=rr'.cons_inv
    obtain⟨v4,r4,rfl,a4,b4⟩:=b3.cons_inv
    rw[b4.nil_inv] at hs'
    exact⟨a,_,rfl,au sm hs,rfl,v1,_,rfl,_,_,rfl,⟨a',_,rfl,au sm hs',rfl,v3,_,rfl,v4,_,rfl,rfl,rfl,q _ (dD (dD (dD eo a1) a3) a4) (ee (ee (ee eo hh.1) hh.2.1) hh.2.2)⟩⟩
   ·cases hf
  ·cases hf
end
end Dl
namespace Rf
open PySem L2 Dl PySem.Spec PyProof.Rows
structure Tr where
 e:Expr->Option (Dl.Env->Option D)
 f:Expr->Option (Dl.Env->Option (List D))
 t:Expr->Option (Dl.Env->Option Bool)
structure Sg where
 fn:List (Str×Nat×(List D->Option D))
 int:List (Str×Int)
noncomputable abbrev FE:=Dl.Env->Option D
noncomputable def uk(G:Sg)(sc:Scope)(N:List Str)(x:Str):Option FE:=match N.idxOf? x with
 | some i=>if wL N sc i x=true then some (ab i) else none
 | none=>if (rN sc x&&!(x == ("__debug__":Str)))=true then (G.int.lookup x).map fun n=>fC (.int n) else none
noncomputable def vz:Const->Option FE
 | .int i=>some (fC (.int i))
 | .bool b=>some (fC (.bool b))
 | .none=>some (fC .none)
 | .str x=>some (fC (.str x))
 | _=>none
noncomputable def Hf(T:Tr)(op:UnaryOp)(a:Expr):Option FE:=match op with
 | .Not=>(T.e a).map Gi
 | .USub=>(T.e a).map (f1 HJ)
 | _=>none
noncomputable def JE:Operator->Option (D->D->Option D)
 | .Add=>some aD
 | .Sub=>some Dl.d7
 | .Mult=>some dQ
 | .FloorDiv=>some jM
 | .Mod=>some gq
 | _=>none
noncomputable def Eg:Expr->Bool
 | .List ..=>true
 | .ListComp ..=>true
 | _=>false
noncomputable def vo:Expr->Bool
 | .List ..=>true
 | .ListComp ..=>true
 | .BinOp a .Mult _ _=>Eg a
 | .BinOp a .Add b _=>vo a||vo b
 | .Call (.Name x _) _ _ _=>x == ("sorted":Str)||x == ("list":Str)
 | _=>false
noncomputable def AM(T:Tr)(whole a:Expr)(op:Operator)(b:Expr):Option FE :=
 if vo whole=true then (T.f whole).map bT else (JE op).bind fun g=>(T.e a).bind fun x=>(T.e b).map fun y=>f2 g x y
noncomputable def pU(T:Tr)(op:BoolOp):List Expr->Option FE
 | []=>none
 | [a]=>T.e a
 | a::b::r=>(T.e a).bind fun x=>(pU T op (b::r)).map fun y=>match op with|.And=>og x y|.Or=>IJ x y
noncomputable def Hy:CmpOp->Option (D->D->Option D)
 | .Lt=>some CY
 | .LtE=>some uf
 | .Gt=>some BI
 | .GtE=>some Jw
 | .Eq=>some bJ
 | .NotEq=>some dP
 | .In=>some oq
 | .NotIn=>some Gn
 | .Is=>some yc
 | .IsNot=>some sY
noncomputable def Jy:CmpOp->Option (D->D->Option D)
 | .Lt=>some CY
 | .LtE=>some uf
 | _=>none
noncomputable def vM(T:Tr)(a:Expr)(ops:List CmpOp)(cs:List Expr):Option FE:=match ops,cs with
 | [op],[b]=>if behindInMarks op b=false then (Hy op).bind fun g=>(T.e a).bind fun x=>(T.e b).map fun y=>f2 g x y else none
 | [op,op'],[b,c]=>if lastMarks [op,op'] [b,c]=false then (Jy op).bind fun g=>(Jy op').bind fun g'=>(T.e a).bind fun x=>(T.e b).bind fun y=>(T.e c).map fun z=>fv g g' x y z else none
 | _,_=>none
noncomputable def nM(T:Tr):List Expr->Option (Dl.Env->Option (List D))
 | []=>some af
 | e::es=>if isStar e=false then (T.e e).bind fun x=>(nM T es).map fun r=>aa x r else none
noncomputable def IM(T:Tr):Option Expr->Option (Dl.Env->Option (Option Int))
 | none=>some uq
 | some e=>(T.e e).map GE
noncomputable def vB:Expr->Bool
 | .Slice ..=>true
 | .Tuple ..=>true
 | .Starred ..=>true
 | _=>false
noncomputable def j5:Expr->Bool
 | .UnaryOp .USub (.Constant (.int 1) _ _) _=>true
 | _=>false
noncomputable def AD:Expr->Bool
 | .Constant (.int 1) _ _=>true
 | _=>false
noncomputable def Au(T:Tr)(a b:Expr):Option FE:=match b with
 | .Slice lo hi none _=>(T.e a).bind fun x=>(IM T lo).bind fun l=>(IM T hi).map fun h=>uJ mO x l h
 | .Slice none none (some s) _=>if j5 s=true then (T.e a).map fun x=>f1 Hn x else none
 | .Slice (some l) none (some s) _=>if (AD l&&j5 s)=true then (T.e a).map fun x=>f1 yi x else none
 | _=>if vB b=false then (T.e a).bind fun x=>(T.e b).map fun y=>f2 ar x y else none
noncomputable def Jt:List D->Option D:=fun ds=>(oneOf ds).bind fun d=>match d with
 | .list es=>(boolsOf es).map fun bs=>.bool (bs.any id)
 | _=>none
noncomputable def k0:Expr->Option Expr
 | .Call (.Name x _) [e] [] _=>if x="set" then some e else none
 | _=>none
noncomputable def F9(x:Str):Option String:=if x="int" then some "int" else if x="bool" then some "bool" else if x="tuple" then some "tuple" else if x="list" then some "list" else none
noncomputable def Hq:Expr->Bool
 | .ListComp ..=>true
 | _=>false
noncomputable def u4(T:Tr)(x:Str)(args:List Expr):Option FE :=
 if x="int" then (if args.length=1 then (nM T args).map fun fs=>ba CM fs else none)
 else if x="max" then (if args.isEmpty=true then none else (nM T args).map fun fs=>ba E3 fs)
 else none
noncomputable def ui(G:Sg)(sc:Scope)(T:Tr)(whole:Expr)(x:Str)(args:List Expr):Option FE :=
 if (rN sc x&&args.all fun e=>!isStar e)=true then
  match G.fn.lookup x with
  | some (n,m)=>if (args.isEmpty||x == ("__debug__":Str))=true then none else (nM T args).map fun fs=>ak n m fs
  | none =>
   if x="len" then (match args with
    | [e]=>(match k0 e with
     | some e'=>if (rN sc "set"&&!isStar e')=true then (T.e e').map fun y=>if Hq e'=true then f1 mQ y else f1 ja y else none
     | none=>(nM T args).map fun fs=>ba cI fs)
    | _=>none)
   else if x="isinstance" then (match args with
    | [e,.Name y _]=>if rN sc y=true then (F9 y).bind fun ty=>(T.e e).map fun z=>Ed ty z else none
    | _=>none)
   else if x="tuple" then (if args.length=1 then (nM T args).map fun fs=>ba aN fs else none)
   else if x="all" then (if args.length=1 then (nM T args).map fun fs=>ba rK fs else none)
   else if x="any" then (if args.length=1 then (nM T args).map fun fs=>ba Jt fs else none)
   else if x="sum" then (if args.length=1 then (nM T args).map fun fs=>ba jX fs else none)
   else if x="min" then (if args.isEmpty=true then none else (nM T args).map fun fs=>ba fF fs)
   else if (x == ("list":Str)||x == ("sorted":Str))=true then (T.f whole).map bT
   else u4 T x args
 else none
noncomputable def vj:Expr->Bool
 | .Call ..=>true
 | _=>false
noncomputable def F4:Expr->Bool
 | .Tuple ..=>true
 | _=>false
noncomputable def uH(T:Tr)(o:Expr)(m:Str)(apos:Pos)(args:List Expr)(cpos:Pos):Option FE :=
 if (m == ("index":Str)&&apos.endLine == cpos.line&&!vj o)=true then (match args with
  | [e]=>if isStar e=false then (T.e o).bind fun x=>(T.e e).map fun y=>if F4 e=true then f2 FV x y else f2 rO x y else none
  | _=>none)
 else none
noncomputable def uC(G:Sg)(sc:Scope)(T:Tr)(x y:Str)(b:Expr)(args:List Expr):Option FE :=
 if ((rN sc x&&rN sc y)&&((args.all fun e=>!isStar e)&&(!args.isEmpty&&(!vB b&&(!(x == ("__debug__":Str))&&!(y == ("__debug__":Str)))))))=true then
  (G.fn.lookup x).bind fun p=>(G.fn.lookup y).bind fun q=>if p.1=q.1 then (T.e b).bind fun fk=>(nM T args).map fun fs=>D0 p.1 p.2 q.2 fk fs else none
 else none
noncomputable def x6(G:Sg)(sc:Scope)(N:List Str)(T:Tr)(whole:Expr):Option FE:=match whole with
 | .Name x _=>uk G sc N x
 | .Constant c _ _=>vz c
 | .UnaryOp op a _=>Hf T op a
 | .BinOp a op b _=>AM T whole a op b
 | .BoolOp op es _=>pU T op es
 | .Compare a ops cs _=>vM T a ops cs
 | .IfExp c a b _=>(T.t c).bind fun z=>(T.e a).bind fun x=>(T.e b).map fun y=>BQ z x y
 | .Tuple es _ _=>(nM T es).map bz
 | .Subscript a b _=>Au T a b
 | .List ..=>(T.f whole).map bT
 | .ListComp ..=>(T.f whole).map bT
 | .Call (.Name x _) args [] _=>ui G sc T whole x args
 | .Call (.Name _ _) _ (_::_) _=>(T.f whole).map bT
 | .Call (.Attribute o m apos) args [] cpos=>uH T o m apos args cpos
 | .Call (.Subscript (.List [.Name x _,.Name y _] _) b _) args [] _=>uC G sc T x y b args
 | _=>none
noncomputable def Iy(T:Tr)(op:BoolOp):List Expr->Option (Dl.Env->Option Bool)
 | []=>none
 | [a]=>T.t a
 | a::b::r=>(T.t a).bind fun x=>(Iy T op (b::r)).map fun y=>match op with|.And=>dW x y|.Or=>mi x y
noncomputable def Bz:Expr->Bool
 | .Name ..=>true
 | .Call ..=>true
 | .Subscript ..=>true
 | _=>false
noncomputable def stepT(T:Tr)(whole:Expr):Option (Dl.Env->Option Bool):=match whole with
 | .Compare a ops cs _=>(vM T a ops cs).map fB
 | .UnaryOp .Not a _=>(T.t a).map bW
 | .BoolOp op es _=>Iy T op es
 | _=>if Bz whole=true then (T.e whole).map fB else none
noncomputable def nI:Expr->Bool
 | .Tuple ..=>true
 | _=>false
noncomputable def kH:Expr->Option (Expr×Expr)
 | .Call (.Name x _) [a,b] [] _=>if x="zip" then some (a,b) else none
 | _=>none
noncomputable def Iq(sc:Scope)(T:Tr)(tg iter:Expr):Option (Dl.Env->Option (List D)):=match iter with
 | .Call (.Name x _) args [] _ =>
  if x="range" then (match args with|[e]=>if (rN sc "range"&&!isStar e)=true then (nM T args).map aF else none|_=>none)
  else if x="enumerate" then (match args with|[e]=>if (rN sc "enumerate"&&!isStar e&&nI tg)=true then (match kH e with|some (a,b)=>if (rN sc "zip"&&!isStar a&&!isStar b)=true then (nM T [a,b]).map fY else none|none=>(nM T args).map bp) else none|_=>none)
  else if x="zip" then (match args with|[e,e']=>if (rN sc "zip"&&!isStar e&&!isStar e'&&nI tg)=true then (nM T args).map j9 else none|_=>none)
  else (T.e iter).map aM
 | .Set ..=>none
 | _=>(T.e iter).map aM
noncomputable def Jl:Expr->Option (List Str)
 | .Name x _=>some [x]
 | .Tuple [.Name x _,.Name y _] _ _=>some [x,y]
 | _=>none
noncomputable def IY:Expr->Option (List Str)
 | .Tuple [.Name x _,.Name y _,.Name z _] _ _=>some [x,y,z]
 | .Tuple [.Name x _,.Tuple [.Name y _,.Name z _] _ _] _ _=>some [x,y,z]
 | tg=>Jl tg
noncomputable def Fj:Expr->Bool
 | .Tuple [_,.Tuple _ _ _] _ _=>true
 | _=>false
noncomputable def dY(N:List Str)(scope:Scope):List Nat:=(List.range N.length).filter fun j=>match N[j]? with|some x=>decide (scope.names.lookup x=some .free)|none=>false
noncomputable def FJ:Expr->Bool
 | .Set ..=>false
 | _=>true
noncomputable def Ee(B:Tr)(ifs:List Expr):Option (Dl.Env->Option Bool):=match ifs with
 | []=>some fun _=>some true
 | [c]=>B.t c
 | _=>none
noncomputable def pP(sc:Scope)(N:List Str)(T:Tr)(blk:Scope->List Str->Tr)(elt:Expr)(gens:List Comprehension)(scope:Scope):Option (Dl.Env->Option (List D)):=match gens with
 | [⟨tg,iter,ifs,as⟩] =>
  if as=0 then (IY tg).bind fun xs =>
   if (gO sc scope N (xs++(dY N scope).filterMap fun j=>N[j]?) xs.length (dY N scope)&&(List.range xs.length).all fun i=>kO (xs++(dY N scope).filterMap fun j=>N[j]?) scope i (xs.getD i ""))=true then
    (Iq sc T tg iter).bind fun fi=>(Ee (blk scope (xs++(dY N scope).filterMap fun j=>N[j]?)) ifs).bind fun tt =>
     ((blk scope (xs++(dY N scope).filterMap fun j=>N[j]?)).e elt).map fun te=>ai xs.length (dY N scope) fi (match xs with|[_]=>fG 0|[_,_]=>gu 0 1|_=>if Fj tg=true then nS 0 1 2 else Ji 0 1 2) tt te
   else none
  else none
 | _=>none
noncomputable def u5:Arguments->Option Str
 | ⟨[],[⟨x,none,_⟩],none,[],[],none,[]⟩=>if x="number" then some x else if x="plan" then some x else none
 | _=>none
noncomputable def pH(lam:Option Str)(sc:Scope)(N:List Str)(T:Tr)(lmb:Scope->List Str->Tr)(l:Expr)(params:Arguments)(body:Expr)(scope:Scope):Option (Dl.Env->Option (List D)) :=
 if (lam.isSome&&rN sc "sorted"&&!isStar l)=true then
  (u5 params).bind fun p =>
   if (gO sc scope N (p::(dY N scope).filterMap fun j=>N[j]?) 1 (dY N scope)&&k6 scope (p::(dY N scope).filterMap fun j=>N[j]?) p)=true then
    (T.e l).bind fun fl=>((lmb scope (p::(dY N scope).filterMap fun j=>N[j]?)).e body).map fun te=>kP (dY N scope) fl te
   else none
 else none
noncomputable def pX(lam:Option Str)(sc:Scope)(N:List Str)(T:Tr)(lmb:Scope->List Str->Tr)(l:Expr)(params:Arguments)(body:Expr)(scope:Scope):Option (Dl.Env->Option (List D)):=match l with
 | .Call (.Name r _) [e] [] _ =>
  if (lam.isSome&&rN sc "sorted"&&r == ("range":Str)&&rN sc "range"&&!isStar e)=true then
   (u5 params).bind fun p =>
    if (gO sc scope N (p::(dY N scope).filterMap fun j=>N[j]?) 1 (dY N scope)&&k6 scope (p::(dY N scope).filterMap fun j=>N[j]?) p)=true then
     (nM T [e]).bind fun fs=>((lmb scope (p::(dY N scope).filterMap fun j=>N[j]?)).e body).map fun te=>Aa (dY N scope) fs te
    else none
  else none
 | _=>none
noncomputable def vt(lam:Option Str)(sc:Scope)(N:List Str)(T:Tr)(blk lmb:Scope->List Str->Tr)(whole:Expr):Option (Dl.Env->Option (List D)):=match whole with
 | .List es _=>(nM T es).map ck
 | .ListComp elt gens scope _=>pP sc N T blk elt gens scope
 | .BinOp a .Mult b _=>if Eg a=true then (T.f a).bind fun x=>(T.e b).map fun y=>k8 x y else none
 | .BinOp a .Add b _=>(T.e a).bind fun x=>(T.e b).map fun y=>GU jt x y
 | .Call (.Name x _) [l] [⟨some ky,.Lambda params body scope _,_⟩] _=>if (x == ("sorted":Str)&&ky == ("key":Str))=true then (match pH lam sc N T lmb l params body scope with|some f=>some f|none=>pX lam sc N T lmb l params body scope) else none
 | .Call (.Name x _) [e] [] _ =>
  if (rN sc x&&!isStar e)=true then
   if x="list" then (nM T [e]).map fun fs=>kL bU fs
   else if x="sorted" then (nM T [e]).map fun fs=>kL eW fs
   else none
  else none
 | _=>none
noncomputable def tr(G:Sg):Nat->Option Str->Scope->List Str->Tr
 | 0,_,_,_=>⟨fun _=>none,fun _=>none,fun _=>none⟩
 | n+1,lam,sc,N=>⟨x6 G sc N (tr G n lam sc N),vt lam sc N (tr G n lam sc N) (tr G n none) (tr G n none),stepT (tr G n lam sc N)⟩
structure GM(G:Sg)(X:Cx)(j:Nat):Prop where
 fn:∀x n m,G.fn.lookup x=some (n,m)->gw X.prog X.w X.K X.mg X.base j x n m
 int:∀x i,G.int.lookup x=some i->∃t,X.mg x=some (.int i t)
 bn:Bn X
structure nC(X:Cx)(tg iter:Expr)(ifs:List Expr)(elt:Expr)(scope:Scope)(f:Dl.Env->Option (List D)):Prop where
 ex:∃ (N':List Str) (t:Nat) (cs:List Nat) (fi:Dl.Env->Option (List D)) (tgt:Dl.Env->D->Option Dl.Env) (tt:Dl.Env->Option Bool) (te:FE),f=ai t cs fi tgt tt te/\gH X scope N' (iI t cs)/\DI X tg iter fi/\(∀x,foldedSetIterable iter X.env x=pure x) /\
  ∀fp s H,DG (aJ X scope N' fp s H) tg tgt/\Ig (aJ X scope N' fp s H) ifs tt/\DE (aJ X scope N' fp s H) elt te
structure cy(X:Cx)(T:Tr):Prop where
 c:∀elt gens scope p f,T.f (.ListComp elt gens scope p)=some f->∃tg iter ifs,gens=[⟨tg,iter,ifs,0⟩]/\nC X tg iter ifs elt scope f
 e:∀e f,T.e e=some f->DE X e f
 f:∀e f,T.f e=some f->DF X e f
 t:∀e f,T.t e=some f->DT X e f
section
variable {G:Sg}{X:Cx}{N:List Str}{sc:Scope}{k j:Nat}{T:Tr}{pos p:Pos}
theorem xf(C:Bk X N sc k)(g:GM G X j){x:Str}{f:FE}(h:uk G sc N x=some f):DE X (.Name x pos) f:=by
 unfold uk at h
 split at h
 ·split at h
  ·cases h;exact C.v _ ‹_›
  ·cases h
 ·split at h
  ·rename_i hg
   obtain⟨n,hn,rfl⟩:=ae h
   obtain⟨t,ht⟩:=g.int x n hn
   simp only[zF,Bool.not_eq_true'] at hg
   exact Dc (C.gl hg.1) ht hg.2
  ·cases h
theorem tQ{c:Const}{i:Nat}{f:FE}(h:vz c=some f):DE X (.Constant c i pos) f:=by
 cases c<;>cases h<;>first|exact Ey|exact Hb|exact F8|exact FP
theorem CT(C:Bk X N sc k)(O:cy X T){op:UnaryOp}{a:Expr}{f:FE}(h:Hf T op a=some f):DE X (.UnaryOp op a pos) f:=by
 cases op<;>try cases h
 ·obtain⟨x,hx,rfl⟩:=ae h;exact Fh (O.e _ _ hx)
 ·obtain⟨x,hx,rfl⟩:=ae h;exact C.neg (O.e _ _ hx)
theorem zw(C:Bk X N sc k)(O:cy X T){op:Operator}{a b:Expr}{f:FE}(h:AM T (.BinOp a op b pos) a op b=some f):DE X (.BinOp a op b pos) f:=by
 unfold AM at h
 split at h
 ·obtain⟨x,hx,rfl⟩:=ae h;exact DF.de (O.f _ _ hx)
 ·obtain⟨g,hg,h⟩:=bs h
  obtain⟨x,hx,h⟩:=bs h
  obtain⟨y,hy,rfl⟩:=ae h
  cases op<;>cases hg
  ·exact C.add (O.e _ _ hx) (O.e _ _ hy)
  ·exact C.sub (O.e _ _ hx) (O.e _ _ hy)
  ·exact C.mul (O.e _ _ hx) (O.e _ _ hy)
  ·exact C.mod (O.e _ _ hx) (O.e _ _ hy)
  ·exact C.div (O.e _ _ hx) (O.e _ _ hy)
theorem pd(O:cy X T){op:BoolOp}:∀ {es:List Expr}{f:FE},pU T op es=some f->DE X (.BoolOp op es pos) f
 | [],f,h=>by cases h
 | [a],f,h=>FI (O.e _ _ h)
 | a::b::r,f,h=>by
  unfold pU at h
  obtain⟨x,hx,h⟩:=bs h
  obtain⟨y,hy,rfl⟩:=ae h
  have ih:=pd O hy
  cases op with
  | And=>exact FU (O.e _ _ hx) ih
  | Or=>exact HM (O.e _ _ hx) ih
theorem Gd(C:Bk X N sc k){op:CmpOp}{a b:Expr}{g:D->D->Option D}{x y:FE}(hg:Hy op=some g)(hm:behindInMarks op b=false)(ha:DE X a x)(hb:DE X b y):DE X (.Compare a [op] [b] pos) (f2 g x y)/\DT X (.Compare a [op] [b] pos) (fB (f2 g x y)):=by
 cases op<;>cases hg
 ·exact⟨C.eq ha hb,C.teq ha hb⟩
 ·exact⟨C.ne ha hb,C.tne ha hb⟩
 ·exact⟨C.lt ha hb,C.tlt ha hb⟩
 ·exact⟨C.le ha hb,C.tle ha hb⟩
 ·exact⟨C.gt ha hb,C.tgt ha hb⟩
 ·exact⟨C.ge ha hb,C.tge ha hb⟩
 ·exact⟨C.is0 ha hb,C.tis0 ha hb⟩
 ·exact⟨C.not0 ha hb,C.tnot0 ha hb⟩
 ·exact⟨C.isin ha hb hm,C.tin ha hb hm⟩
 ·exact⟨C.notin ha hb hm,C.tnin ha hb hm⟩
theorem DM{op:CmpOp}{g:D->D->Option D}(h:Jy op=some g):∃r,fO X (compareOp op) r/\dZ X.K r g:=by
 cases op<;>cases h
 ·exact⟨_,xY,fK⟩
 ·exact⟨_,A5,fK⟩
theorem rY(C:Bk X N sc k)(O:cy X T){a:Expr}{ops:List CmpOp}{cs:List Expr}{f:FE}(h:vM T a ops cs=some f):DE X (.Compare a ops cs pos) f/\DT X (.Compare a ops cs pos) (fB f):=by
 unfold vM at h
 split at h
 ·split at h
  ·rename_i hm
   obtain⟨g,hg,h⟩:=bs h
   obtain⟨x,hx,h⟩:=bs h
   obtain⟨y,hy,rfl⟩:=ae h
   exact Gd C hg hm (O.e _ _ hx) (O.e _ _ hy)
  ·cases h
 ·split at h
  ·rename_i hm
   obtain⟨g,hg,h⟩:=bs h
   obtain⟨g',hg',h⟩:=bs h
   obtain⟨x,hx,h⟩:=bs h
   obtain⟨y,hy,h⟩:=bs h
   obtain⟨z,hz,rfl⟩:=ae h
   obtain⟨r,r1,r2⟩:=DM (X:=X) hg
   obtain⟨r',r1',r2'⟩:=DM (X:=X) hg'
   exact⟨Ab r1 r2 r1' r2' (O.e _ _ hx) (O.e _ _ hy) (O.e _ _ hz) hm,A6 r1 r2 r1' r2' (O.e _ _ hx) (O.e _ _ hy) (O.e _ _ hz) hm⟩
  ·cases h
 ·cases h
theorem bD(O:cy X T):∀ {es:List Expr}{fs:Dl.Env->Option (List D)},nM T es=some fs->DA X es fs
 | [],fs,h=>by cases h;exact yk
 | e::es,fs,h=>by
  unfold nM at h
  split at h
  ·rename_i hs
   obtain⟨x,hx,h⟩:=bs h
   obtain⟨r,hr,rfl⟩:=ae h
   exact JF hs (O.e _ _ hx) (bD O hr)
  ·cases h
theorem AR(O:cy X T){o:Option Expr}{f:Dl.Env->Option (Option Int)}(h:IM T o=some f):DO X o f:=by
 cases o with
 | none=>cases h;exact Cg
 | some e=>obtain⟨x,hx,rfl⟩:=ae h;exact Cf (O.e _ _ hx)
theorem mG{b:Expr}(h:vB b=false):l0 b:=by
 cases b<;>first|(intro _ _;rfl)|cases h
theorem oJ{e:Expr}(h:j5 e=true):∃j p4 p3,e=.UnaryOp .USub (.Constant (.int 1) j p4) p3:=by
 unfold j5 at h
 split at h
 ·exact⟨_,_,_,rfl⟩
 ·cases h
theorem Gj{e:Expr}(h:AD e=true):∃j p,e=.Constant (.int 1) j p:=by
 unfold AD at h
 split at h
 ·exact⟨_,_,rfl⟩
 ·cases h
theorem yg(C:Bk X N sc k)(O:cy X T){a b:Expr}{f:FE}(h:Au T a b=some f):DE X (.Subscript a b pos) f:=by
 unfold Au at h
 split at h
 ·obtain⟨x,hx,h⟩:=bs h
  obtain⟨l,hl,h⟩:=bs h
  obtain⟨u,hu,rfl⟩:=ae h
  exact C.cut (O.e _ _ hx) (AR O hl) (AR O hu)
 ·split at h
  ·rename_i hm
   obtain⟨x,hx,rfl⟩:=ae h
   obtain⟨_,_,_,rfl⟩:=oJ hm
   exact Es (O.e _ _ hx)
  ·cases h
 ·split at h
  ·rename_i hm
   rw[zF] at hm
   obtain⟨x,hx,rfl⟩:=ae h
   obtain⟨_,_,_,rfl⟩:=oJ hm.2
   obtain⟨_,_,rfl⟩:=Gj hm.1
   exact Do (O.e _ _ hx)
  ·cases h
 ·split at h
  ·rename_i hc
   obtain⟨x,hx,h⟩:=bs h
   obtain⟨y,hy,rfl⟩:=ae h
   exact G6 (O.e _ _ hx) (O.e _ _ hy) (mG hc)
  ·cases h
theorem bL{env:PySem.Env}:∀ {es:List Expr},(es.all fun e=>!isStar e)=true->(backTo pos (starEach es env)).any (·.1)=false
 | [],_=>rfl
 | e::es,h=>by
  rw[List.all_cons,zF,Bool.not_eq_true'] at h
  rw[aK h.1]
  show (false||(backTo pos (starEach es env)).any (·.1))=false
  rw[bL h.2]
  rfl
theorem yO{e e':Expr}(h:k0 e=some e'):∃p q,e=.Call (.Name "set" p) [e'] [] q:=by
 unfold k0 at h
 split at h
 ·split at h
  ·rename_i hx;cases h;subst hx;exact⟨_,_,rfl⟩
  ·cases h
 ·cases h
theorem Cs{y:Str}{ty:String}(h:F9 y=some ty):y∈cg/\bootBuiltins y=some (.type ty)/\y≠"__name__"/\(y == ("__debug__":Str))=false:=by
 unfold F9 at h
 split at h
 ·rename_i e;cases h;subst e;exact⟨by decide +kernel,by decide +kernel,by decide,by decide⟩
 ·split at h
  ·rename_i e;cases h;subst e;exact⟨by decide +kernel,by decide +kernel,by decide,by decide⟩
  ·split at h
   ·rename_i e;cases h;subst e;exact⟨by decide +kernel,by decide +kernel,by decide,by decide⟩
   ·split at h
    ·rename_i e;cases h;subst e;exact⟨by decide +kernel,by decide +kernel,by decide,by decide⟩
    ·cases h
theorem FR:bootBuiltins "any"=some (.builtin "any"):=by decide +kernel
theorem F5:bootBuiltins "sum"=some (.builtin "sum"):=by decide +kernel
theorem E9:bootBuiltins "max"=some (.builtin "max"):=by decide +kernel
theorem FH:bootBuiltins "min"=some (.builtin "min"):=by decide +kernel
theorem qQ{α:Type}{l:List α}(h:l.length=1):∃a,l=[a]:=by
 match l,h with
 | [a],_=>exact⟨a,rfl⟩
theorem wz(C:Bk X N sc k)(g:GM G X j)(O:cy X T){x:Str}{args:List Expr}{f:FE}(hg:rN sc x=true)(hs:args.all (fun e=>!isStar e)=true)(h:u4 T x args=some f):DE X (.Call (.Name x p) args [] pos) f:=by
 have st1:∀ {e:Expr}{es:List Expr},args=e::es->starEach (e::es) X.env=(false,eval e X.env)::starEach es X.env:=fun {e es} q=>by
  subst q
  rw[List.all_cons,zF,Bool.not_eq_true'] at hs
  exact aK hs.1
 have st2:∀ {e:Expr}{es:List Expr},args=e::es->(backTo pos (starEach es X.env)).any (·.1)=false:=fun {e es} q=>by
  subst q
  rw[List.all_cons,zF] at hs
  exact bL hs.2
 unfold u4 at h
 split at h
 ·rename_i hx
  subst hx
  split at h
  ·rename_i hl
   obtain⟨fs,hfs,rfl⟩:=ae h
   obtain⟨e,rfl⟩:=qQ hl
   exact Aj (C.blt g.bn hg (by decide +kernel) EE) (bD O hfs) (st1 rfl)
  ·cases h
 ·split at h
  ·rename_i hx
   subst hx
   split at h
   ·cases h
   ·rename_i hl
    obtain⟨fs,hfs,rfl⟩:=ae h
    cases args with
    | nil=>exact absurd rfl hl
    | cons e es=>exact Ff C.calm (C.blt g.bn hg (by decide +kernel) E9) (st1 rfl) (st2 rfl) (bD O hfs)
  ·cases h
theorem xy(C:Bk X N sc k)(g:GM G X j)(hjk:j<=k)(O:cy X T){x:Str}{args:List Expr}{f:FE}(h:ui G sc T (.Call (.Name x p) args [] pos) x args=some f):DE X (.Call (.Name x p) args [] pos) f:=by
 unfold ui at h
 split at h
 ·rename_i hg
  rw[zF] at hg
  obtain⟨hg,hs⟩:=hg
  have st1:∀ {e:Expr}{es:List Expr},args=e::es->starEach (e::es) X.env=(false,eval e X.env)::starEach es X.env:=fun {e es} q=>by
   subst q
   rw[List.all_cons,zF,Bool.not_eq_true'] at hs
   exact aK hs.1
  have st2:∀ {e:Expr}{es:List Expr},args=e::es->(backTo pos (starEach es X.env)).any (·.1)=false:=fun {e es} q=>by
   subst q
   rw[List.all_cons,zF] at hs
   exact bL hs.2
  split at h
  ·rename_i n m hfn
   split at h
   ·cases h
   ·rename_i hne
    obtain⟨fs,hfs,rfl⟩:=ae h
    cases args with
    | nil=>exact absurd (by simp) hne
    | cons e es =>
     have hd:(x == ("__debug__":Str))=false:=by simpa using hne
     exact Dy (g.fn x n m hfn) (C.room.mono hjk) (C.gl hg) (bD O hfs) hd (st1 rfl) (st2 rfl)
  ·split at h
   ·rename_i hx
    subst hx
    split at h
    ·rename_i e
     split at h
     ·rename_i e' he'
      split at h
      ·rename_i hg2
       rw[zF,Bool.not_eq_true'] at hg2
       obtain⟨y,hy,rfl⟩:=ae h
       obtain⟨p1,p2,rfl⟩:=yO he'
       split
       ·exact uR C.calm (C.blt g.bn hg (by decide +kernel) uh) (C.blt g.bn hg2.1 (by decide +kernel) za) (O.e _ _ hy) (aK hg2.2)
       ·exact wG C.calm (C.blt g.bn hg (by decide +kernel) uh) (C.blt g.bn hg2.1 (by decide +kernel) za) (O.e _ _ hy) (aK hg2.2)
      ·cases h
     ·obtain⟨fs,hfs,rfl⟩:=ae h
      exact Gp (C.blt g.bn hg (by decide +kernel) uh) (bD O hfs) (st1 rfl)
    ·cases h
   ·split at h
    ·rename_i hx
     subst hx
     split at h
     ·rename_i e y py
      split at h
      ·rename_i hgy
       obtain⟨ty,hty,h⟩:=bs h
       obtain⟨z,hz,rfl⟩:=ae h
       obtain⟨t1,t2,t3,t4⟩:=Cs hty
       exact GV (C.blt g.bn hg (by decide +kernel) n8) (C.blt g.bn hgy t1 t2) (O.e _ _ hz) t3 t4 (st1 rfl)
      ·cases h
     ·cases h
    ·split at h
     ·rename_i hx
      subst hx
      split at h
      ·rename_i hl
       obtain⟨fs,hfs,rfl⟩:=ae h
       obtain⟨e,rfl⟩:=qQ hl
       exact An (C.blt g.bn hg (by decide +kernel) Bp) (bD O hfs) (st1 rfl)
      ·cases h
     ·split at h
      ·rename_i hx
       subst hx
       split at h
       ·rename_i hl
        obtain⟨fs,hfs,rfl⟩:=ae h
        obtain⟨e,rfl⟩:=qQ hl
        exact GI C.calm (C.blt g.bn hg (by decide +kernel) Gh) (bD O hfs) (st1 rfl)
       ·cases h
      ·split at h
       ·rename_i hx
        subst hx
        split at h
        ·rename_i hl
         obtain⟨fs,hfs,rfl⟩:=ae h
         obtain⟨e,rfl⟩:=qQ hl
         exact FZ C.calm (C.blt g.bn hg (by decide +kernel) FR) (st1 rfl) (bD O hfs)
        ·cases h
       ·split at h
        ·rename_i hx
         subst hx
         split at h
         ·rename_i hl
          obtain⟨fs,hfs,rfl⟩:=ae h
          obtain⟨e,rfl⟩:=qQ hl
          exact Fm C.calm (C.blt g.bn hg (by decide +kernel) F5) (st1 rfl) (bD O hfs)
         ·cases h
        ·split at h
         ·rename_i hx
          subst hx
          split at h
          ·cases h
          ·rename_i hl
           obtain⟨fs,hfs,rfl⟩:=ae h
           cases args with
           | nil=>exact absurd rfl hl
           | cons e es=>exact Fw C.calm (C.blt g.bn hg (by decide +kernel) FH) (st1 rfl) (st2 rfl) (bD O hfs)
         ·split at h
          ·obtain⟨y,hy,rfl⟩:=ae h
           exact DF.de (O.f _ _ hy)
          ·exact wz C g O hg hs h
 ·cases h
end
section
variable {G:Sg}{X:Cx}{N:List Str}{sc:Scope}{k j:Nat}{T:Tr}{pos p:Pos}
theorem HV{env:PySem.Env}{e:Expr}{cpos:Pos}(h:isStar e=false):((backTo cpos (starEach [e] env)).all (fun x=>!x.1)&&(backToKw cpos (keywordEach [] env)).all (fun x=>x.1.isSome)&&decide ([e].length+([]:List Keyword).length+(if ([]:List Keyword).isEmpty then 0 else 1) < 30))=true:=by
 rw[aK h];rfl
theorem je{o:Expr}{a:Str}{env:PySem.Env}{w:Sem Value}(h:vj o=false):attributeBase o a env w=w:=by
 cases o<;>first|rfl|cases h
theorem xw(C:Bk X N sc k)(O:cy X T){o:Expr}{m:Str}{apos cpos:Pos}{args:List Expr}{f:FE}(h:uH T o m apos args cpos=some f):DE X (.Call (.Attribute o m apos) args [] cpos) f:=by
 unfold uH at h
 split at h
 ·rename_i hm
  rw[zF,zF,Bool.not_eq_true'] at hm
  obtain⟨⟨hm1,hm⟩,hcl⟩:=hm
  have e1:m="index":=eq_of_beq hm1
  subst e1
  split at h
  ·rename_i e
   split at h
   ·rename_i hs
    obtain⟨x,hx,h⟩:=bs h
    obtain⟨y,hy,rfl⟩:=ae h
    split
    ·exact wA C.u66 (je hcl) (HV hs) hm (aK hs) (O.e _ _ hx) (O.e _ _ hy)
    ·exact xh (je hcl) (HV hs) hm (aK hs) (O.e _ _ hx) (O.e _ _ hy)
   ·cases h
  ·cases h
 ·cases h
theorem xm(C:Bk X N sc k)(g:GM G X j)(hjk:j<=k)(O:cy X T){x y:Str}{b:Expr}{args:List Expr}{f:FE}{p0 p1 p2 p3:Pos}(h:uC G sc T x y b args=some f):DE X (.Call (.Subscript (.List [.Name x p0,.Name y p1] p2) b p3) args [] pos) f:=by
 unfold uC at h
 split at h
 ·rename_i hg
  simp only[zF,Bool.not_eq_true'] at hg
  obtain⟨⟨hx,hy⟩,hs,he,hb,dx,dy⟩:=hg
  obtain⟨⟨n,m⟩,h1,h⟩:=bs h
  obtain⟨⟨n',m'⟩,h2,h⟩:=bs h
  split at h
  ·rename_i hn
   obtain rfl:n=n':=hn
   obtain⟨fk,h3,h⟩:=bs h
   obtain⟨fs,h4,rfl⟩:=ae h
   cases args with
   | nil=>cases he
   | cons e es =>
    rw[List.all_cons,zF,Bool.not_eq_true'] at hs
    exact BY (g.fn x n m h1) (g.fn y n m' h2) (C.room.mono hjk) (C.gl hx) (C.gl hy) (O.e _ _ h3) (bD O h4) dx dy (mG hb) (aK hs.1) (bL hs.2)
  ·cases h
 ·cases h
theorem BC(C:Bk X N sc k)(g:GM G X j)(hjk:j<=k)(O:cy X T){e:Expr}{f:FE}(h:x6 G sc N T e=some f):DE X e f:=by
 unfold x6 at h
 split at h
 ·exact xf C g h
 ·exact tQ h
 ·exact CT C O h
 ·exact zw C O h
 ·exact pd O h
 ·exact (rY C O h).1
 ·obtain⟨z,hz,h⟩:=bs h
  obtain⟨x,hx,h⟩:=bs h
  obtain⟨y,hy,rfl⟩:=ae h
  exact GZ (O.t _ _ hz) (O.e _ _ hx) (O.e _ _ hy)
 ·obtain⟨x,hx,rfl⟩:=ae h;exact EN (bD O hx)
 ·exact yg C O h
 ·obtain⟨x,hx,rfl⟩:=ae h;exact DF.de (O.f _ _ hx)
 ·obtain⟨x,hx,rfl⟩:=ae h;exact DF.de (O.f _ _ hx)
 ·exact xy C g hjk O h
 ·obtain⟨x,hx,rfl⟩:=ae h;exact DF.de (O.f _ _ hx)
 ·exact xw C O h
 ·exact xm C g hjk O h
 ·cases h
theorem yP(O:cy X T){op:BoolOp}:∀ {es:List Expr}{f:Dl.Env->Option Bool},Iy T op es=some f->DW X (.BoolOp op es pos) f
 | [],f,h=>by cases h
 | [a],f,h=>by
  cases op with
  | And=>exact CC (O.t _ _ h)
  | Or=>exact Fz (O.t _ _ h)
 | a::b::r,f,h=>by
  unfold Iy at h
  obtain⟨x,hx,h⟩:=bs h
  obtain⟨y,hy,rfl⟩:=ae h
  have ih:=yP O hy
  cases op with
  | And=>exact Fv (O.t _ _ hx) ih
  | Or=>exact HX (O.t _ _ hx) ih
theorem ze(C:Bk X N sc k)(O:cy X T){e:Expr}{f:Dl.Env->Option Bool}(h:stepT T e=some f):DT X e f:=by
 unfold stepT at h
 split at h
 ·obtain⟨x,hx,rfl⟩:=ae h;exact (rY C O hx).2
 ·obtain⟨x,hx,rfl⟩:=ae h;exact FO (O.t _ _ hx)
 ·exact DW.dt (yP O h)
 ·split at h
  ·rename_i hp
   obtain⟨x,hx,rfl⟩:=ae h
   refine Fy (O.e _ _ hx) ?_
   revert hp
   cases e<;>first|(intro hp;cases hp;done)|(intro hp _;rfl)
  ·cases h
theorem Ez{e:Expr}{env:PySem.Env}(h:FJ e=true):∀x,foldedSetIterable e env x=pure x:=by
 cases e<;>first|(intro _;rfl)|cases h
theorem ET{e a b:Expr}(h:kH e=some (a,b)):∃p1 p2,e=.Call (.Name "zip" p1) [a,b] [] p2:=by
 unfold kH at h
 split at h
 ·split at h
  ·rename_i hx
   subst hx
   cases h
   exact⟨_,_,rfl⟩
  ·cases h
 ·cases h
theorem zu(C:Bk X N sc k)(B:Bn X)(O:cy X T){tg iter:Expr}{fi:Dl.Env->Option (List D)}(h:Iq sc T tg iter=some fi):DI X tg iter fi/\∀x,foldedSetIterable iter X.env x=pure x:=by
 unfold Iq at h
 split at h
 ·refine⟨?_,fun _=>rfl⟩
  split at h
  ·rename_i hx
   subst hx
   split at h
   ·split at h
    ·rename_i hg
     rw[zF,Bool.not_eq_true'] at hg
     obtain⟨x,hx,rfl⟩:=ae h
     exact yo (C.blt B hg.1 (by decide +kernel) rC) (bD O hx) (aK hg.2)
    ·cases h
   ·cases h
  ·split at h
   ·rename_i hx
    subst hx
    split at h
    ·split at h
     ·rename_i hg
      simp only[zF,Bool.not_eq_true'] at hg
      split at h
      ·rename_i a b he
       split at h
       ·rename_i hz
        simp only[zF,Bool.not_eq_true'] at hz
        obtain⟨x,hx,rfl⟩:=ae h
        obtain⟨p1,p2,rfl⟩:=ET he
        cases tg<;>first|exact Hs (C.blt B hg.1.1 (by decide +kernel) jP) (C.blt B hz.1.1 (by decide +kernel) Ar) (aK hz.1.2) (bL (by simp[hz.2])) (bD O hx)|exact absurd hg.2 (by simp[nI])
       ·cases h
      ·obtain⟨x,hx,rfl⟩:=ae h
       cases tg<;>first|exact Dt (C.blt B hg.1.1 (by decide +kernel) jP) (bD O hx) (aK hg.1.2)|exact absurd hg.2 (by simp[nI])
     ·cases h
    ·cases h
   ·split at h
    ·rename_i hx
     subst hx
     split at h
     ·split at h
      ·rename_i e e' hg
       simp only[zF,Bool.not_eq_true'] at hg
       obtain⟨x,hx,rfl⟩:=ae h
       cases tg<;>first|exact Dm (C.blt B hg.1.1.1 (by decide +kernel) Ar) (aK hg.1.1.2) (bL (by simp[hg.1.2])) (bD O hx)|exact absurd hg.2 (by simp[nI])
      ·cases h
     ·cases h
    ·obtain⟨x,hx,rfl⟩:=ae h
     exact Ae (O.e _ _ hx)
 ·cases h
 ·rename_i h1 h2
  obtain⟨x,hx,rfl⟩:=ae h
  refine⟨Ae (O.e _ _ hx),Ez ?_⟩
  cases iter<;>first|rfl|exact absurd rfl (h2 _ _ _)
theorem GH{tg:Expr}{xs:List Str}(h:Jl tg=some xs):(∃x px,tg=.Name x px/\xs=[x])\/∃x px y py m pt,tg=.Tuple [.Name x px,.Name y py] m pt/\xs=[x,y]:=by
 unfold Jl at h
 split at h
 ·cases h;exact .inl ⟨_,_,rfl,rfl⟩
 ·cases h;exact .inr ⟨_,_,_,_,_,_,rfl,rfl⟩
 ·cases h
theorem E1{tg:Expr}{xs:List Str}(h:IY tg=some xs):((∃x px,tg=.Name x px/\xs=[x])\/∃x px y py m pt,tg=.Tuple [.Name x px,.Name y py] m pt/\xs=[x,y])\/∃x px y py z pz m pt,(tg=.Tuple [.Name x px,.Name y py,.Name z pz] m pt\/∃n p2,tg=.Tuple [.Name x px,.Tuple [.Name y py,.Name z pz] n p2] m pt)/\xs=[x,y,z]:=by
 unfold IY at h
 split at h
 ·cases h;exact .inr ⟨_,_,_,_,_,_,_,_,.inl rfl,rfl⟩
 ·cases h;exact .inr ⟨_,_,_,_,_,_,_,_,.inr ⟨_,_,rfl⟩,rfl⟩
 ·exact .inl (GH h)
theorem oQ(C:Bk X N sc k)(B:Bn X)(O:cy X T){blk:Scope->List Str->Tr}(OB:∀scope N' fp s H,Bk (aJ X scope N' fp s H) N' scope k->cy (aJ X scope N' fp s H) (blk scope N')){tg iter elt:Expr}{ifs:List Expr}{as:Int}{scope:Scope}{f:Dl.Env->Option (List D)}
  (h:pP sc N T blk elt [⟨tg,iter,ifs,as⟩] scope=some f):as=0/\nC X tg iter ifs elt scope f:=by
 unfold pP at h
 dsimp only at h
 split at h
 ·rename_i has
  refine⟨has,?_⟩
  obtain⟨xs,hxs,h⟩:=bs h
  split at h
  ·rename_i hok
   rw[zF] at hok
   obtain⟨fi,hfi,h⟩:=bs h
   obtain⟨tt,htt,h⟩:=bs h
   obtain⟨te,hte,rfl⟩:=ae h
   obtain⟨S,CB⟩:=C.comp hok.1
   obtain⟨hd,hfold⟩:=zu C B O hfi
   refine⟨_,_,_,_,_,_,_,rfl,S,hd,hfold,fun fp s H=>?_⟩
   have C1:=CB fp s H
   have O1:=OB scope _ fp s H C1
   refine⟨?_,?_,O1.e _ _ hte⟩
   ·rcases E1 hxs with (⟨x,px,rfl,rfl⟩|⟨x,px,y,py,m,pt,rfl,rfl⟩)|⟨x,px,y,py,z,pz,m,pt,htg,rfl⟩
    ·have z:=C1.loc (i:=0) (x:=x) (List.all_eq_true.mp hok.2 0 (by simp))
     exact BV 0 z.1 z.2.1 z.2.2.1 z.2.2.2
    ·have z:=C1.loc (i:=0) (x:=x) (List.all_eq_true.mp hok.2 0 (by simp))
     have w:=C1.loc (i:=1) (x:=y) (List.all_eq_true.mp hok.2 1 (by simp))
     exact F1 0 1 C1.calm z.1 z.2.1 z.2.2.1 w.2.1 w.2.2.1 z.2.2.2 w.2.2.2
    ·have z0:=C1.loc (i:=0) (x:=x) (List.all_eq_true.mp hok.2 0 (by simp))
     have w:=C1.loc (i:=1) (x:=y) (List.all_eq_true.mp hok.2 1 (by simp))
     have u:=C1.loc (i:=2) (x:=z) (List.all_eq_true.mp hok.2 2 (by simp))
     rcases htg with rfl|⟨n,p2,rfl⟩
     ·exact zj 0 1 2 C1.calm z0.1 z0.2.1 z0.2.2.1 w.2.1 w.2.2.1 u.2.1 u.2.2.1 z0.2.2.2 w.2.2.2 u.2.2.2
     ·exact HZ 0 1 2 C1.calm z0.1 z0.2.1 z0.2.2.1 w.2.1 w.2.2.1 u.2.1 u.2.2.1 z0.2.2.2 w.2.2.2 u.2.2.2
   ·unfold Ee at htt
    split at htt
    ·cases htt;exact CI
    ·exact Dz (O1.t _ _ htt)
    ·cases htt
  ·cases h
 ·cases h
theorem nC.df{tg iter elt:Expr}{ifs:List Expr}{scope:Scope}{f:Dl.Env->Option (List D)}(hc:X.calm=true)(h:nC X tg iter ifs elt scope f):DF X (.ListComp elt [⟨tg,iter,ifs,0⟩] scope pos) f:=by
 obtain⟨N',t,cs,fi,tgt,tt,te,rfl,S,hd,hfold,hY⟩:=h.ex
 exact DK hc S hd hY hfold
theorem rG{a:Arguments}{x:Str}(h:u5 a=some x):∃px,a=⟨[],[⟨x,none,px⟩],none,[],[],none,[]⟩/\(x="number"\/x="plan"):=by
 unfold u5 at h
 split at h
 ·split at h
  ·cases h;exact⟨_,rfl,.inl ‹_›⟩
  ·split at h
   ·cases h;exact⟨_,rfl,.inr ‹_›⟩
   ·cases h
 ·cases h
theorem bind1{x q:Str}{px:Pos}{body:Expr}{scope:Scope}{cl:List (Str×Addr)}{pm ctv u:Value}{c:Addr}(h:x="number"\/x="plan") :
  bindArgs (W.kla_fn "<lambda>" q ⟨[],[⟨x,none,px⟩],none,[],[],none,[]⟩ body scope cl pm (.ref c) ctv) ⟨[u],[]⟩=pure [(x,u)]:=by
 rcases h with rfl|rfl<;>rfl
theorem uS{lam:Option Str}(C:Bk X N sc k)(B:Bn X)(hlam:∀q,lam=some q->nc X q/\j+3<=k)(O:cy X T){lmb:Scope->List Str->Tr}
  (OL:∀scope N' qual A f c s H,Bk (eX X A qual scope N' f c s H) N' scope (k - 3)->j<=k - 3->cy (eX X A qual scope N' f c s H) (lmb scope N')) {l body:Expr}{params:Arguments}{scope:Scope}{p0 lpos kpos:Pos}{f:Dl.Env->Option (List D)}
  (h:pH lam sc N T lmb l params body scope=some f):DF X (.Call (.Name "sorted" p0) [l] [⟨some "key",.Lambda params body scope lpos,kpos⟩] pos) f:=by
 unfold pH at h
 split at h
 ·rename_i hg
  simp only[zF,Bool.not_eq_true'] at hg
  obtain⟨⟨hl,hg⟩,hs⟩:=hg
  obtain⟨q,rfl⟩:=Option.isSome_iff_exists.mp hl
  obtain⟨L,hk⟩:=hlam q rfl
  obtain⟨x,hx,h2⟩:=bs h
  clear h
  obtain⟨px,rfl,hpx⟩:=rG hx
  split at h2
  ·rename_i hok
   rw[zF] at hok
   obtain⟨fl,hfl,h⟩:=bs h2
   obtain⟨te,hte,rfl⟩:=ae h
   obtain⟨k',rfl⟩:∃k',k=k'+3:=⟨k - 3,by omega⟩
   exact Bk.sortK (p:=x) C (C.blt B hg (by decide +kernel) kj) L hok.1 hok.2 (fun _ _ _ _ _=>bind1 hpx) rfl (O.e _ _ hfl) (fun A f c s H C'=>(OL scope _ q A f c s H C' (by omega)).e _ _ hte) (aK hs) (by rw[aK hs];rfl) (bL (by simp[hs]))
  ·cases h2
 ·cases h
theorem tP{lam:Option Str}(C:Bk X N sc k)(B:Bn X)(hlam:∀q,lam=some q->nc X q/\j+3<=k)(O:cy X T){lmb:Scope->List Str->Tr}
  (OL:∀scope N' qual A f c s H,Bk (eX X A qual scope N' f c s H) N' scope (k - 3)->j<=k - 3->cy (eX X A qual scope N' f c s H) (lmb scope N')) {l body:Expr}{params:Arguments}{scope:Scope}{p0 lpos kpos:Pos}{f:Dl.Env->Option (List D)}
  (h:pX lam sc N T lmb l params body scope=some f):DF X (.Call (.Name "sorted" p0) [l] [⟨some "key",.Lambda params body scope lpos,kpos⟩] pos) f:=by
 unfold pX at h
 split at h
 ·split at h
  ·rename_i hg
   simp only[zF,Bool.not_eq_true'] at hg
   obtain⟨⟨⟨⟨hl,hg⟩,hr⟩,hgr⟩,hs⟩:=hg
   have er:=eq_of_beq hr
   subst er
   obtain⟨q,rfl⟩:=Option.isSome_iff_exists.mp hl
   obtain⟨L,hk⟩:=hlam q rfl
   obtain⟨x,hx,h2⟩:=bs h
   clear h
   obtain⟨px,rfl,hpx⟩:=rG hx
   split at h2
   ·rename_i hok
    rw[zF] at hok
    obtain⟨fl,hfl,h⟩:=bs h2
    obtain⟨te,hte,rfl⟩:=ae h
    obtain⟨k',rfl⟩:∃k',k=k'+3:=⟨k - 3,by omega⟩
    exact Bk.sortR (p:=x) C (C.blt B hg (by decide +kernel) kj) (C.blt B hgr (by decide +kernel) rC) L hok.1 hok.2 (fun _ _ _ _ _=>bind1 hpx) rfl (bD O hfl) (fun A f c s H C'=>(OL scope _ q A f c s H C' (by omega)).e _ _ hte) (aK hs) (aK rfl) (by rw[aK rfl];rfl) (bL (by rfl))
   ·cases h2
  ·cases h
 ·cases h
theorem ya{lam:Option Str}(C:Bk X N sc k)(B:Bn X)(hlam:∀q,lam=some q->nc X q/\j+3<=k)(O:cy X T){blk lmb:Scope->List Str->Tr}
  (OB:∀scope N' fp s H,Bk (aJ X scope N' fp s H) N' scope k->cy (aJ X scope N' fp s H) (blk scope N'))
  (OL:∀scope N' qual A f c s H,Bk (eX X A qual scope N' f c s H) N' scope (k - 3)->j<=k - 3->cy (eX X A qual scope N' f c s H) (lmb scope N')) {e:Expr}{f:Dl.Env->Option (List D)}(h:vt lam sc N T blk lmb e=some f):DF X e f:=by
 unfold vt at h
 split at h
 ·obtain⟨x,hx,rfl⟩:=ae h;exact Fd (bD O hx)
 ·rename_i elt gens scope ps
  match gens,h with
  | [⟨tg,iter,ifs,as⟩],h =>
   obtain⟨rfl,q⟩:=oQ C B O OB h
   exact q.df C.calm
 ·split at h
  ·obtain⟨x,hx,h⟩:=bs h
   obtain⟨y,hy,rfl⟩:=ae h
   exact E2 (O.f _ _ hx) (O.e _ _ hy)
  ·cases h
 ·obtain⟨x,hx,h⟩:=bs h
  obtain⟨y,hy,rfl⟩:=ae h
  exact Fi (O.e _ _ hx) (O.e _ _ hy)
 ·split at h
  ·rename_i hk
   rw[zF] at hk
   have e1:=eq_of_beq hk.1
   have e2:=eq_of_beq hk.2
   subst e1 e2
   split at h
   ·cases h;exact uS C B hlam O OL ‹_›
   ·exact tP C B hlam O OL h
  ·cases h
 ·split at h
  ·rename_i hg
   rw[zF,Bool.not_eq_true'] at hg
   split at h
   ·rename_i hx
    subst hx
    obtain⟨x,hx,rfl⟩:=ae h
    exact Cd (C.blt B hg.1 (by decide +kernel) B7) (bD O hx) (aK hg.2)
   ·split at h
    ·rename_i hx
     subst hx
     obtain⟨x,hx,rfl⟩:=ae h
     exact xx (C.blt B hg.1 (by decide +kernel) kj) (bD O hx) (aK hg.2)
    ·cases h
  ·cases h
 ·cases h
theorem Cn{lam:Option Str}(C:Bk X N sc k)(B:Bn X)(O:cy X T){blk lmb:Scope->List Str->Tr}(OB:∀scope N' fp s H,Bk (aJ X scope N' fp s H) N' scope k->cy (aJ X scope N' fp s H) (blk scope N'))
  {elt:Expr}{gens:List Comprehension}{scope:Scope}{p:Pos}{f:Dl.Env->Option (List D)}(h:vt lam sc N T blk lmb (.ListComp elt gens scope p)=some f):∃tg iter ifs,gens=[⟨tg,iter,ifs,0⟩]/\nC X tg iter ifs elt scope f:=by
 have h:pP sc N T blk elt gens scope=some f:=h
 match gens,h with
 | [⟨tg,iter,ifs,as⟩],h =>
  obtain⟨rfl,q⟩:=oQ C B O OB h
  exact⟨tg,iter,ifs,rfl,q⟩
theorem Eh(n:Nat):∀ {lam:Option Str}{X:Cx}{N:List Str}{sc:Scope}{k:Nat},Bk X N sc k->GM G X j->j<=k->(∀q,lam=some q->nc X q/\j+3<=k)->cy X (tr G n lam sc N):=by
 induction n with
 | zero=>intro lam X N sc k C g hjk hlam;exact⟨fun _ _ _ _ _ h=>(by cases h),fun _ _ h=>(by cases h),fun _ _ h=>(by cases h),fun _ _ h=>(by cases h)⟩
 | succ n ih =>
  intro lam X N sc k C g hjk hlam
  have O:=ih C g hjk hlam
  exact⟨fun elt gens scope p f h=>Cn (lam:=lam) (lmb:=tr G n none) (p:=p) C g.bn O (fun scope N' fp s H C'=>ih C' ⟨g.fn,g.int,g.bn⟩ hjk fun q z=>by cases z) h,fun e f h=>BC C g hjk O h,
   fun e f h=>ya C g.bn hlam O (fun scope N' fp s H C'=>ih C' ⟨g.fn,g.int,g.bn⟩ hjk fun q z=>by cases z) (fun scope N' qual A f c s H C' hk=>ih C' ⟨g.fn,g.int,g.bn⟩ hk fun q z=>by cases z) h,
   fun e f h=>ze C O h⟩
end
noncomputable def mR:Nat->Expr->List Str
 | 0,_=>[]
 | n+1,e=>match e with
  | .Name x _=>[x]
  | .UnaryOp _ a _=>mR n a
  | .BinOp a _ b _=>mR n a++mR n b
  | .BoolOp _ es _=>es.flatMap (mR n)
  | .Compare a _ cs _=>mR n a++cs.flatMap (mR n)
  | .IfExp c a b _=>mR n c++(mR n a++mR n b)
  | .Tuple es _ _=>es.flatMap (mR n)
  | .List es _=>es.flatMap (mR n)
  | .Subscript a b _=>mR n a++mR n b
  | .Slice lo hi st _=>(lo.toList++(hi.toList++st.toList)).flatMap (mR n)
  | .Call f args kws _=>mR n f++(args.flatMap (mR n)++kws.flatMap fun k=>mR n k.value)
  | .Attribute o _ _=>mR n o
  | .ListComp elt gens _ _=>mR n elt++gens.flatMap fun g=>mR n g.iter++g.ifs.flatMap (mR n)
  | .Lambda _ b _ _=>mR n b
  | _=>[]
noncomputable def md(N:List Str)(e:Expr):List Nat:=let ns:=mR 60 e;(List.range N.length).filter fun j=>match N[j]? with|some x=>ns.contains x|none=>false
noncomputable abbrev GS:=ao->Option Out
noncomputable def turns:Nat:=1000000
noncomputable def Ax:Expr->Bool
 | .ListComp ..=>true
 | .SetComp ..=>true
 | .DictComp ..=>true
 | _=>false
noncomputable def AV(sc:Scope)(N:List Str)(T:Tr)(x:Str)(px:Pos)(e:Expr):Option GS :=
 (N.idxOf? x).bind fun i=>if kO N sc i x=true then
  (if vo e=true then (match e with
   | .ListComp _ _ scope lp =>
    if (decide (sc.names.lookup x=some .local)&&(px.line == lp.line&&!(scope.names.any fun (n,k)=>n == x&&(k == .local || k == .cell))))=true then (T.f e).map fun f=>aE i (md N e) f
    else if decide (sc.names.lookup x=some .cell)=true then (T.f e).map fun f=>aE i (md N e) f
    else if (px.line == lp.line)=false then (T.f e).map fun f=>aE i (md N e) f
    else none
   | _=>(T.f e).map fun f=>aE i (md N e) f)
  else if Ax e=false then (T.e e).map fun f=>aU i (md N e) f else none) else none
noncomputable def ym(N:List Str)(sc:Scope)(T:Tr)(e:Expr):Option GS:=match e with
 | .Constant (.str _) _ _=>some hX
 | .Call (.Attribute (.Name x _) m apos) args [] cpos =>
  (N.idxOf? x).bind fun i=>if (wL N sc i x&&apos.endLine == cpos.line&&args.all fun e=>!isStar e)=true then
   (if m="append" then (match args with
    | [a]=>(T.e a).map fun f=>oo i (md N a) f
    | _=>none)
   else if m="extend" then (match args with
    | [a]=>(T.f a).map fun f=>xC i (md N a) f
    | _=>none)
   else if m="insert" then (match args with
    | [a,b]=>(T.e a).bind fun fk=>(T.e b).map fun f=>yX i (md N b) fk f
    | _=>none)
   else none) else none
 | .Call (.Name _ _) _ _ _=>(T.e e).map lJ
 | _=>none
noncomputable def Ju(sc:Scope)(N:List Str)(tg:Expr):Option (ao->D->Option ao):=match tg with
 | .Name x _=>(N.idxOf? x).bind fun i=>if kO N sc i x=true then some (qu i) else none
 | .Tuple [.Name x _,.Name y _] _ _=>(N.idxOf? x).bind fun i=>(N.idxOf? y).bind fun j=>if (kO N sc i x&&kO N sc j y)=true then some (iN i j) else none
 | .Tuple [.Name x _,.Tuple [.Name y _,.Name z _,.Name w _] _ _] _ _=>(N.idxOf? x).bind fun i=>(N.idxOf? y).bind fun j=>(N.idxOf? z).bind fun k=>(N.idxOf? w).bind fun l=>if ((kO N sc i x&&kO N sc j y)&&(kO N sc k z&&kO N sc l w))=true then some (zx i j k l) else none
 | _=>none
noncomputable def BN(sc:Scope)(N:List Str)(T:Tr)(x:Str)(kx e:Expr):Option GS :=
 (N.idxOf? x).bind fun i=>if (wL N sc i x&&!vB kx)=true then (T.e kx).bind fun fk=>(if Hq e=true then (T.f e).map fun f=>oW i fk f else (T.e e).map fun f=>uI i (md N e) fk f) else none
noncomputable def uz(sc:Scope)(N:List Str)(T:Tr)(x y:Str)(e:Expr):Option GS :=
 (N.idxOf? x).bind fun i=>(N.idxOf? y).bind fun j=>if ((kO N sc i x&&kO N sc j y)&&x3 e)=true then (T.e e).map fun f=>uU i j (md N e) f else none
noncomputable def mZ(f:Stmt->Option GS):List Stmt->Option GS
 | []=>some hX
 | [s]=>f s
 | s::r=>(f s).bind fun g=>(mZ f r).map fun h=>ay g h
noncomputable def BP(sc:Scope)(N:List Str)(T:Tr):Nat->Stmt->Option GS
 | 0,_=>none
 | n+1,st=>match st with
  | .Return (some e) _=>(T.e e).map aX
  | .If c a b _=>(T.t c).bind fun t=>(mZ (BP sc N T n) a).bind fun g=>(mZ (BP sc N T n) b).map fun h=>jl t g h
  | .Assign [.Name x px] e _=>AV sc N T x px e
  | .Assign [.Subscript (.Name x _) kx _] e _=>BN sc N T x kx e
  | .Assign [.Tuple [.Name x _,.Name y _] _ _] e _=>uz sc N T x y e
  | .For tg iter body [] _=>(Iq sc T tg iter).bind fun fi=>(Ju sc N tg).bind fun t=>(mZ (BP sc N T n) body).map fun g=>d5 (md N iter) fi t g
  | .While c body [] _=>(T.t c).bind fun t=>(mZ (BP sc N T n) body).map fun g=>GK t g turns
  | .Expr e _=>ym N sc T e
  | .Raise ..=>some Im
  | .Pass _=>some hX
  | _=>none
section
variable {X:Cx}{N:List Str}{sc:Scope}{k:Nat}{T:Tr}{HF₀ H₀:Hp}{pos:Pos}
theorem gJ{f:Stmt->Option GS}(H:∀s g,f s=some g->DS X HF₀ H₀ s g):∀ {l:List Stmt}{g:GS},mZ f l=some g->xV X HF₀ H₀ l g
 | [],g,h=>by cases h;exact CS
 | [s],g,h=>Cv (H _ _ h)
 | s::t::r,g,h=>by
  unfold mZ at h
  obtain⟨x,hx,h⟩:=bs h
  obtain⟨y,hy,rfl⟩:=ae h
  exact BF (H _ _ hx) (gJ H hy)
theorem pD{e:Expr}{x:Str}{px:Pos}{line:Nat}{env:PySem.Env}(h:Ax e=false):swapsWith e (some (.Name x px)) line env=pure false:=by
 cases e<;>first|rfl|cases h
theorem zz(C:Bk X N sc k)(O:cy X T){x:Str}{px:Pos}{e:Expr}{g:GS}(h:AV sc N T x px e=some g):DS X HF₀ H₀ (.Assign [.Name x px] e pos) g:=by
 unfold AV at h
 obtain⟨i,hi,h⟩:=bs h
 split at h
 ·rename_i hloc
  obtain⟨z1,z2,z3,z4⟩:=C.loc hloc
  split at h
  ·split at h
   ·rename_i elt gens scope lp hl
    split at h
    ·rename_i hc
     rw[zF] at hc
     obtain⟨f,hf,rfl⟩:=ae h
     obtain⟨tg,iter,ifs,rfl,q⟩:=O.c _ _ _ _ _ hf
     obtain⟨N',t,cs,fi,tgt,tt,te,rfl,S,hd,hfold,hY⟩:=q.ex
     exact Dr i _ C.calm S hd hY z1 z2 (C.locl hc.1) (C.swap hc.1 hc.2) hfold
    ·split at h
     ·rename_i hc
      obtain⟨f,hf,rfl⟩:=ae h
      exact qh i _ z1 z2 z3 (O.f _ _ hf) (C.noswap hc) z4
     ·split at h
      ·rename_i hc
       obtain⟨f,hf,rfl⟩:=ae h
       refine qh i _ z1 z2 z3 (O.f _ _ hf) ?_ z4
       rw[l9,hc]
       simp
      ·cases h
   ·rename_i hl hn
    obtain⟨f,hf,rfl⟩:=ae h
    refine qh i _ z1 z2 z3 (O.f _ _ hf) (pD ?_) z4
    cases e<;>first|rfl|exact absurd rfl (hn _ _ _ _)|(rename_i hl _;cases hl;done)
  ·split at h
   ·rename_i hc
    obtain⟨f,hf,rfl⟩:=ae h
    exact EU i _ z1 z2 z3 (O.e _ _ hf) (pD hc) z4
   ·cases h
 ·cases h
theorem uj{env:PySem.Env}{es:List Expr}{cpos:Pos}(h:(es.all fun e=>!isStar e)=true)(hl:es.length < 20):((backTo cpos (starEach es env)).all (fun x=>!x.1)&&(backToKw cpos (keywordEach [] env)).all (fun x=>x.1.isSome)&&decide (es.length+([]:List Keyword).length+(if ([]:List Keyword).isEmpty then 0 else 1) < 30))=true:=by
 have h1:(backTo cpos (starEach es env)).all (fun x=>!x.1)=true:=by
  have:=bL (pos:=cpos) (env:=env) h
  rw[List.all_eq_not_any_not]
  simpa using this
 rw[h1]
 simp[backToKw,keywordEach]
 omega
theorem Aw(C:Bk X N sc k)(O:cy X T){e:Expr}{g:GS}(h:ym N sc T e=some g):DS X HF₀ H₀ (.Expr e pos) g:=by
 unfold ym at h
 split at h
 ·cases h;exact Gx
 ·rename_i x px m apos args cpos
  replace h:=bs h
  obtain⟨i,hi,h⟩:=h
  split at h
  ·rename_i hv
   simp only[zF] at hv
   obtain⟨⟨hv,hline⟩,hs⟩:=hv
   obtain⟨z1,z2,z3,z4⟩:=C.vis hv
   split at h
   ·rename_i hm
    subst hm
    split at h
    ·obtain⟨f,hf,rfl⟩:=ae h
     exact wM i _ z1 z2 (O.e _ _ hf) z3 z4 (uj hs (by simp)) hline (aK (by simpa using hs))
    ·cases h
   ·split at h
    ·rename_i hm
     subst hm
     split at h
     ·obtain⟨f,hf,rfl⟩:=ae h
      exact wI i _ z1 z2 (O.f _ _ hf) z3 z4 (uj hs (by simp)) hline (aK (by simpa using hs))
     ·cases h
    ·split at h
     ·rename_i hm
      subst hm
      split at h
      ·obtain⟨fk,hfk,h⟩:=bs h
       obtain⟨f,hf,rfl⟩:=ae h
       have hs':=hs
       simp only[List.all_cons,List.all_nil,Bool.and_true,zF,Bool.not_eq_true'] at hs'
       exact wR i _ z1 z2 (O.e _ _ hfk) (O.e _ _ hf) z3 z4 (uj hs (by simp)) hline (aK hs'.1) (aK hs'.2)
      ·cases h
     ·cases h
  ·cases h
 ·obtain⟨f,hf,rfl⟩:=ae h
  exact B2 rfl (O.e _ _ hf)
 ·cases h
theorem Fe(C:Bk X N sc k){tg:Expr}{t:ao->D->Option ao}(h:Ju sc N tg=some t):G9 X HF₀ H₀ tg t:=by
 unfold Ju at h
 split at h
 ·obtain⟨i,hi,h⟩:=bs h
  split at h
  ·rename_i hl
   cases h
   have z:=C.loc hl
   exact Bh i z.1 z.2.1 z.2.2.1 z.2.2.2
  ·cases h
 ·obtain⟨i,hi,h⟩:=bs h
  obtain⟨j,hj,h⟩:=bs h
  split at h
  ·rename_i hl
   rw[zF] at hl
   cases h
   have z:=C.loc hl.1
   have w:=C.loc hl.2
   exact CG i j C.calm z.1 z.2.1 z.2.2.1 w.2.1 w.2.2.1 z.2.2.2 w.2.2.2
  ·cases h
 ·obtain⟨i,hi,h⟩:=bs h
  obtain⟨j,hj,h⟩:=bs h
  obtain⟨m,hm,h⟩:=bs h
  obtain⟨l,hl,h⟩:=bs h
  split at h
  ·rename_i hl
   rw[zF,zF,zF] at hl
   cases h
   have z:=C.loc hl.1.1
   have w:=C.loc hl.1.2
   have y:=C.loc hl.2.1
   have u:=C.loc hl.2.2
   exact Fu i j m l C.calm z.1 z.2.1 z.2.2.1 w.2.1 w.2.2.1 y.2.1 y.2.2.1 u.2.1 u.2.2.1 z.2.2.2 w.2.2.2 y.2.2.2 u.2.2.2
  ·cases h
 ·cases h
theorem xE(C:Bk X N sc k)(O:cy X T){x y:Str}{px py pt:Pos}{m:Nat}{e:Expr}{g:GS}(h:uz sc N T x y e=some g):DS X HF₀ H₀ (.Assign [.Tuple [.Name x px,.Name y py] m pt] e pos) g:=by
 unfold uz at h
 obtain⟨i,hi,h⟩:=bs h
 obtain⟨j,hj,h⟩:=bs h
 split at h
 ·rename_i hl
  rw[zF,zF] at hl
  obtain⟨f,hf,rfl⟩:=ae h
  have z:=C.loc hl.1.1
  have w:=C.loc hl.1.2
  exact y2 i j _ C.calm z.1 z.2.1 z.2.2.1 w.2.1 w.2.2.1 hl.2 (O.e _ _ hf) z.2.2.2 w.2.2.2
 ·cases h
theorem By(C:Bk X N sc k)(O:cy X T){x:Str}{px spos:Pos}{kx e:Expr}{g:GS}(h:BN sc N T x kx e=some g):DS X HF₀ H₀ (.Assign [.Subscript (.Name x px) kx spos] e pos) g:=by
 unfold BN at h
 obtain⟨i,hi,h⟩:=bs h
 split at h
 ·rename_i hv
  simp only[zF,Bool.not_eq_true'] at hv
  obtain⟨hv,hc⟩:=hv
  obtain⟨z1,z2,z3,z4⟩:=C.vis hv
  obtain⟨fk,hfk,h⟩:=bs h
  split at h
  ·obtain⟨f,hf,rfl⟩:=ae h
   refine w8 i z1 z2 (O.e _ _ hfk) (O.f _ _ hf) z3 z4 (fun v=>?_) ?_ ?_ rfl
   ·cases kx<;>first|rfl|cases hc
   ·cases e<;>rfl
   ·rfl
  ·obtain⟨f,hf,rfl⟩:=ae h
   refine A1 i _ z1 z2 (O.e _ _ hfk) (O.e _ _ hf) z3 z4 (fun v=>?_) ?_ ?_ rfl
   ·cases kx<;>first|rfl|cases hc
   ·cases e<;>rfl
   ·rfl
 ·cases h
theorem uD(C:Bk X N sc k)(B:Bn X)(O:cy X T):∀ (n:Nat) {st:Stmt}{g:GS},BP sc N T n st=some g->DS X HF₀ H₀ st g
 | 0,st,g,h=>by cases h
 | n+1,st,g,h=>by
  have ih:=fun s g h=>uD C B O n (st:=s) (g:=g) h
  unfold BP at h
  split at h
  ·obtain⟨f,hf,rfl⟩:=ae h;exact Gf (O.e _ _ hf)
  ·obtain⟨t,ht,h⟩:=bs h
   obtain⟨a,ha,h⟩:=bs h
   obtain⟨b,hb,rfl⟩:=ae h
   exact Hg (O.t _ _ ht) (gJ ih ha) (gJ ih hb)
  ·exact zz C O h
  ·exact By C O h
  ·exact xE C O h
  ·obtain⟨fi,hfi,h⟩:=bs h
   obtain⟨t,ht,h⟩:=bs h
   obtain⟨b,hb,rfl⟩:=ae h
   obtain⟨hd,hfold⟩:=zu C B O hfi
   exact FY _ C.pass C.calm hd (Fe C ht) (gJ ih hb) hfold
  ·obtain⟨t,ht,h⟩:=bs h
   obtain⟨b,hb,rfl⟩:=ae h
   exact Bc _ C.pass (O.t _ _ ht) (gJ ih hb)
  ·exact Aw C O h
  ·cases h;exact Hm
  ·cases h;exact Dx
  ·cases h
end
section
variable {P:Program}{w:World}{K:W.Frag}{mg:Str->Option Value}{base:Heap}{j:Nat}
def js(P:Program)(w:World)(K:W.Frag)(mg:Str->Option Value)(base:Heap)(j:Nat)(l:List (Str×Nat×(List D->Option D))):Prop:=∀x n m,l.lookup x=some (n,m)->gw P w K mg base j x n m
def iV(mg:Str->Option Value)(l:List (Str×Int)):Prop:=∀x i,l.lookup x=some i->∃t,mg x=some (.int i t)
theorem dH:js P w K mg base j []:=fun _ _ _ h=>by cases h
theorem GX{x:Str}{n:Nat}{m:List D->Option D}{l:List (Str×Nat×(List D->Option D))}(F:gw P w K mg base j x n m)(h:js P w K mg base j l):js P w K mg base j ((x,n,m)::l):=fun y n' m' e=>by
 rw[yC] at e
 cases q:y == x with
 | true=>rw[q] at e;cases e;rw[eq_of_beq q];exact F
 | false=>rw[q] at e;exact h y n' m' e
theorem dE:iV mg []:=fun _ _ h=>by cases h
theorem Bv{x:Str}{i:Int}{l:List (Str×Int)}(F:∃t,mg x=some (.int i t))(h:iV mg l):iV mg ((x,i)::l):=fun y i' e=>by
 rw[yC] at e
 cases q:y == x with
 | true=>rw[q] at e;cases e;rw[eq_of_beq q];exact F
 | false=>rw[q] at e;exact h y i' e
theorem Ej{X:Cx}{N:List Str}{st:Stmt}{g:ao->Option Out}{fs:List (Str×Nat×(List D->Option D))}{is:List (Str×Int)}{HF₀ H₀:Hp}(C:Bk X N (aA st) j)(B:Bn X)(hf:js X.prog X.w X.K X.mg X.base j fs)(hi:iV X.mg is)
  (t:mZ (BP (aA st) N (tr ⟨fs,is⟩ 40 none (aA st) N) 40) (bM st)=some g):xV X HF₀ H₀ (bM st) g :=
 gJ (fun s g h=>uD C B (Eh (G:=⟨fs,is⟩) 40 C ⟨hf,hi,B⟩ (Nat.le_refl j) fun q z=>by cases z) 40 h) t
theorem J6{x:Str}{st:Stmt}{ps N:List Str}{g:ao->Option Out}{fs:List (Str×Nat×(List D->Option D))}{is:List (Str×Int)}(D:dc K mg x st ps)(S:d9 N ps (aA st))(B:∀x∈cg,mg x=none)(hf:js P w K mg base j fs)(hi:iV mg is)
  (t:mZ (BP (aA st) N (tr ⟨fs,is⟩ 40 none (aA st) N) 40) (bM st)=some g):gw P w K mg base (j+1) x ps.length (bY g N.length):=by
 obtain⟨f,fd,hm,F,hb⟩:=D.ex
 exact JI F S hb hm fun X hP hw hK hm' hb' C _ _ HF H=>by subst hP;subst hw;subst hK;subst hm';subst hb';exact Ej C B hf hi t
theorem J2{x q:Str}{st:Stmt}{ps N:List Str}{g:ao->Option Out}{fs:List (Str×Nat×(List D->Option D))}{is:List (Str×Int)}(D:C8 K mg x st ps)(S:d9 N ps (aA st))(B:∀x∈cg,mg x=none)(hf:js P w K mg base j fs)(hi:iV mg is)
  (hq:x∈iL/\x++".<locals>."++"<lambda>"=q) (t:mZ (BP (aA st) N (tr ⟨fs,is⟩ 40 (some q) (aA st) N) 40) (bM st)=some g):gw P w K mg base (j+4) x ps.length (bY g N.length):=by
 obtain⟨f,fd,c,P',hm,F,hb,hc,hh⟩:=D.ex
 refine JI (k:=j+3) F S hb hm fun X hP hw hK hm' hb' C h1 h2 HF H=>?_
 subst hP;subst hw;subst hK;subst hm';subst hb'
 have L:nc X q:=by
  refine⟨c,P',by rw[h1,hc],by rw[h2];exact hq.2,hh,fun HF tb=>?_⟩
  obtain⟨oc,od,kV,doc,pm,an,cdv,ct,osl,rfl,lk,_⟩:=F.ex
  have:=tb f oc od _ osl c P' lk hq.1 hc hh
  rw[<- hq.2]
  exact this
 exact gJ (fun s g h=>uD C B (Eh (G:=⟨fs,is⟩) (j:=j) 40 C ⟨hf,hi,B⟩ (Nat.le_add_right _ _) fun q' z=>by cases z;exact⟨L,Nat.le_refl _⟩) 40 h) t
end
noncomputable abbrev tW(s:Stmt)(N:List Str)(S:Sg)(l:Option Str):Option GS:=mZ (BP (aA s) N (tr S 40 l (aA s) N) 40) (bM s)
theorem Jb{N P:List Str}{sc:Scope}(a:sc.kind=.function:=by rfl)(b:sc.isCoroutine=false:=by rfl)(c:sc.isGenerator=false:=by rfl)(d:N.Nodup:=by decide +kernel)(e:N.take P.length=P:=by rfl)(f:∀x∈P,sc.names.lookup x=some .local \/ sc.names.lookup x=some .cell:=by decide +kernel)(g:∀y∈sc.names,y.2≠.free:=by decide +kernel):d9 N P sc:=⟨a,b,c,d,e,f,g⟩
section
variable {P:Program}{w:World}{K:W.Frag}{mg:Str->Option Value}{base:Heap}{i j:Nat}
theorem fm{x:Str}{n:Nat}{m:List D->Option D}{l:List (Str×Nat×(List D->Option D))}(F:gw P w K mg base i x n m)(h:js P w K mg base j l)(e:i<=j:=by decide):js P w K mg base j ((x,n,m)::l):=GX (F.mono e) h
theorem lV{x:Str}{st:Stmt}{ps N:List Str}{g:ao->Option Out}{S:Sg}(D:dc K mg x st ps)(B:∀x∈cg,mg x=none)(hf:js P w K mg base j S.fn)(hi:iV mg S.int)(t:tW st N S none=some g)(F:d9 N ps (aA st):=by exact Rf.Jb):gw P w K mg base (j+1) x ps.length (bY g N.length):=J6 D F B hf hi t
theorem Kb{x q:Str}{st:Stmt}{ps N:List Str}{g:ao->Option Out}{S:Sg}(D:C8 K mg x st ps)(B:∀x∈cg,mg x=none)(hf:js P w K mg base j S.fn)(hi:iV mg S.int)(t:tW st N S (some q)=some g)(F:d9 N ps (aA st):=by exact Rf.Jb)(hq:x∈iL/\x++".<locals>."++"<lambda>"=q:=by decide +kernel):gw P w K mg base (j+4) x ps.length (bY g N.length):=J2 D F B hf hi hq t
end
end Rf
namespace Hd
open PySem L2 Dl PySem.Spec PyProof.Rows
section
variable {K:W.Frag}
theorem fIn{x:Str}{st:Stmt}{ps:List Str}{f c:Addr}{pm:Value}(hb:fw st ps)(a:W.nsIn K mainGlobals x=some (some (.ref f)))(l:K.lookup f=some (fo x st pm c))(d:W.codeIn K (.ref c) x=true)(k:W.keepIn K (.ref f)=true):aW K x st ps:=HK hb a l d k
theorem lIn{x:Str}{st:Stmt}{ps:List Str}{f c:Addr}{pm:Value}(hb:fw st ps)(a:W.nsIn K mainGlobals x=some (some (.ref f)))(l:K.lookup f=some (fo x st pm c))(d:W.codeIn K (.ref c) x=true)(k:W.keepIn K (.ref f)=true)(hh:W.codeHdIn K c (De K c)=true):pe K x st ps:=HD hb a l d k hh
end
section
variable {α:Type}{R:List α->Prop}
theorem qQ(h:∀a,R [a])(us:List α)(e:us.length=1):R us:=by
 obtain⟨a,rfl⟩:=List.length_eq_one_iff.mp e;exact h a
theorem lenS{n:Nat}(us:List α)(e:us.length=n+1):∃a r,us=a::r/\r.length=n:=by
 cases us with
 | nil=>cases e
 | cons a r=>exact⟨a,r,rfl,by simpa using e⟩
theorem len2(h:∀a b,R [a,b])(us:List α)(e:us.length=2):R us:=by
 obtain⟨a,r,rfl,e'⟩:=lenS us e;exact qQ (R:=fun r=>R (a::r)) (h a) r e'
theorem len3(h:∀a b c,R [a,b,c])(us:List α)(e:us.length=3):R us:=by
 obtain⟨a,r,rfl,e'⟩:=lenS us e;exact len2 (R:=fun r=>R (a::r)) (h a) r e'
theorem len4(h:∀a b c d,R [a,b,c,d])(us:List α)(e:us.length=4):R us:=by
 obtain⟨a,r,rfl,e'⟩:=lenS us e;exact len3 (R:=fun r=>R (a::r)) (h a) r e'
theorem len5(h:∀a b c d f,R [a,b,c,d,f])(us:List α)(e:us.length=5):R us:=by
 obtain⟨a,r,rfl,e'⟩:=lenS us e;exact len4 (R:=fun r=>R (a::r)) (h a) r e'
theorem len6(h:∀a b c d f g,R [a,b,c,d,f,g])(us:List α)(e:us.length=6):R us:=by
 obtain⟨a,r,rfl,e'⟩:=lenS us e;exact len5 (R:=fun r=>R (a::r)) (h a) r e'
end
section
variable {K:W.Frag}
theorem f1(f c:Addr)(pm:Value){x:Str}{st:Stmt}{ps:List Str}(hb:fw st ps:=by exact fun _ _ _ _ _ _ _ _ us hl=>qQ (R:=fun us=>bindArgs _ ⟨us,[]⟩=pure (List.zip _ us)) (fun _=>rfl) us hl)(a:W.nsIn K mainGlobals x=some (some (.ref f)):=by kernel_rfl)(l:K.lookup f=some (fo x st pm c):=by kernel_rfl)(d:W.codeIn K (.ref c) x=true:=by kernel_rfl)(k:W.keepIn K (.ref f)=true:=by kernel_rfl):aW K x st ps:=fIn hb a l d k
theorem f2(f c:Addr)(pm:Value){x:Str}{st:Stmt}{ps:List Str}(hb:fw st ps:=by exact fun _ _ _ _ _ _ _ _ us hl=>len2 (R:=fun us=>bindArgs _ ⟨us,[]⟩=pure (List.zip _ us)) (fun _ _=>rfl) us hl)(a:W.nsIn K mainGlobals x=some (some (.ref f)):=by kernel_rfl)(l:K.lookup f=some (fo x st pm c):=by kernel_rfl)(d:W.codeIn K (.ref c) x=true:=by kernel_rfl)(k:W.keepIn K (.ref f)=true:=by kernel_rfl):aW K x st ps:=fIn hb a l d k
theorem f3(f c:Addr)(pm:Value){x:Str}{st:Stmt}{ps:List Str}(hb:fw st ps:=by exact fun _ _ _ _ _ _ _ _ us hl=>len3 (R:=fun us=>bindArgs _ ⟨us,[]⟩=pure (List.zip _ us)) (fun _ _ _=>rfl) us hl)(a:W.nsIn K mainGlobals x=some (some (.ref f)):=by kernel_rfl)(l:K.lookup f=some (fo x st pm c):=by kernel_rfl)(d:W.codeIn K (.ref c) x=true:=by kernel_rfl)(k:W.keepIn K (.ref f)=true:=by kernel_rfl):aW K x st ps:=fIn hb a l d k
theorem l3(f c:Addr)(pm:Value){x:Str}{st:Stmt}{ps:List Str}(hb:fw st ps:=by exact fun _ _ _ _ _ _ _ _ us hl=>len3 (R:=fun us=>bindArgs _ ⟨us,[]⟩=pure (List.zip _ us)) (fun _ _ _=>rfl) us hl)(a:W.nsIn K mainGlobals x=some (some (.ref f)):=by kernel_rfl)(l:K.lookup f=some (fo x st pm c):=by kernel_rfl)(d:W.codeIn K (.ref c) x=true:=by kernel_rfl)(k:W.keepIn K (.ref f)=true:=by kernel_rfl)(hh:W.codeHdIn K c (De K c)=true:=by kernel_rfl):pe K x st ps:=lIn hb a l d k hh
theorem f4(f c:Addr)(pm:Value){x:Str}{st:Stmt}{ps:List Str}(hb:fw st ps:=by exact fun _ _ _ _ _ _ _ _ us hl=>len4 (R:=fun us=>bindArgs _ ⟨us,[]⟩=pure (List.zip _ us)) (fun _ _ _ _=>rfl) us hl)(a:W.nsIn K mainGlobals x=some (some (.ref f)):=by kernel_rfl)(l:K.lookup f=some (fo x st pm c):=by kernel_rfl)(d:W.codeIn K (.ref c) x=true:=by kernel_rfl)(k:W.keepIn K (.ref f)=true:=by kernel_rfl):aW K x st ps:=fIn hb a l d k
theorem f6(f c:Addr)(pm:Value){x:Str}{st:Stmt}{ps:List Str}(hb:fw st ps:=by exact fun _ _ _ _ _ _ _ _ us hl=>len6 (R:=fun us=>bindArgs _ ⟨us,[]⟩=pure (List.zip _ us)) (fun _ _ _ _ _ _=>rfl) us hl)(a:W.nsIn K mainGlobals x=some (some (.ref f)):=by kernel_rfl)(l:K.lookup f=some (fo x st pm c):=by kernel_rfl)(d:W.codeIn K (.ref c) x=true:=by kernel_rfl)(k:W.keepIn K (.ref f)=true:=by kernel_rfl):aW K x st ps:=fIn hb a l d k
end
end Hd
namespace Pg
open PySem L2 Dl PySem.Spec PyProof.Rows
abbrev uE:List Str:=["thing","least","most"]
noncomputable def jv:ao->Option Out:=(ay (jl (mi (bW (fB (Ed "int" (ab 0)))) (fB (Ed "bool" (ab 0)))) (aX (fC (.bool false))) hX) (aX (fv uf uf (ab 1) (ab 0) (ab 2))))
noncomputable def aR:List D->Option D:=bY jv 3
abbrev rZ:List Str:=["thing","many"]
noncomputable def iy:ao->Option Out:=(aX (ak 3 aR (aa (ab 0) (aa (fC (.int 0)) (aa (f2 Dl.d7 (ab 1) (fC (.int 1))) af)))))
noncomputable def bj:List D->Option D:=bY iy 2
abbrev wJ:List Str:=["thing","least","most"]
noncomputable def kC:ao->Option Out:=(aX (og (Ed "tuple" (ab 0)) (fv uf uf (ab 1) (ba cI (aa (ab 0) af)) (ab 2))))
noncomputable def bf:List D->Option D:=bY kC 3
abbrev rL:List Str:=["thing","many"]
noncomputable def ix:ao->Option Out:=(ay (jl (bW (fB (Ed "tuple" (ab 0)))) (aX (fC (.bool false))) hX) (ay (jl (bW (fB (ba rK (aa (bT (ai 1 [1] (aM (ab 0)) (fG 0) (fun _=>some true) (ak 2 bj (aa (ab 0) (aa (ab 1) af))))) af)))) (aX (fC (.bool false))) hX) (aX (f2 bJ (f1 ja (ab 0)) (ba cI (aa (ab 0) af))))))
noncomputable def dJ:List D->Option D:=bY ix 2
abbrev AY:List Str:=["thing","many"]
noncomputable def nJ:ao->Option Out:=(aX (og (ak 3 bf (aa (ab 0) (aa (fC (.int 2)) (aa (fC (.int 2)) af)))) (og (ak 3 aR (aa (f2 ar (ab 0) (fC (.int 0))) (aa (fC (.int 0)) (aa (fC (.int 9)) af)))) (ak 2 dJ (aa (f2 ar (ab 0) (fC (.int 1))) (aa (ab 1) af))))))
noncomputable def dI:List D->Option D:=bY nJ 2
abbrev BB:List Str:=["thing","givers","takers"]
noncomputable def mh:ao->Option Out:=(ay (jl (bW (fB (ak 3 bf (aa (ab 0) (aa (fC (.int 3)) (aa (fC (.int 3)) af)))))) (aX (fC (.bool false))) hX) (aX (og (ak 2 bj (aa (f2 ar (ab 0) (fC (.int 0))) (aa (ab 1) af))) (og (ak 2 bj (aa (f2 ar (ab 0) (fC (.int 1))) (aa (ab 2) af))) (ak 3 aR (aa (f2 ar (ab 0) (fC (.int 2))) (aa (fC (.int 1)) (aa (fC (.int 9)) af))))))))
noncomputable def fT:List D->Option D:=bY mh 3
abbrev qL:List Str:=["givers","takers","ways"]
noncomputable def ie:ao->Option Out:=(ay (jl (mi (bW (fB (ak 3 bf (aa (ab 0) (aa (fC (.int 1)) (aa (fC (.int 4)) af)))))) (bW (fB (ak 3 bf (aa (ab 1) (aa (fC (.int 1)) (aa (fC (.int 4)) af))))))) (aX (fC (.bool false))) hX) (ay (jl (bW (fB (ba rK (aa (bT (ai 1 [1] (aM (ab 0)) (fG 0) (fun _=>some true) (ak 2 dI (aa (ab 0) (aa (ba cI (aa (ab 1) af)) af))))) af)))) (aX (fC (.bool false))) hX) (ay (jl (bW (fB (ba rK (aa (bT (ai 1 [0] (aM (ab 1)) (fG 0) (fun _=>some true) (ak 2 dI (aa (ab 0) (aa (ba cI (aa (ab 1) af)) af))))) af)))) (aX (fC (.bool false))) hX) (aX (og (Ed "tuple" (ab 2)) (ba rK (aa (bT (ai 1 [0,1] (aM (ab 2)) (fG 0) (fun _=>some true) (ak 3 fT (aa (ab 0) (aa (ba cI (aa (ab 1) af)) (aa (ba cI (aa (ab 2) af)) af)))))) af)))))))
noncomputable def dO:List D->Option D:=bY ie 3
abbrev nY:List Str:=["places","pairs","number","place"]
noncomputable def fH:ao->Option Out:=(ay (aE 1 [] (ck af)) (ay (d5 [0] (bp (aa (ab 0) af)) (iN 2 3) (xC 1 [2,3] (ai 1 [2] (aM (f2 ar (ab 3) (fC (.int 1)))) (fG 0) (fun _=>some true) (bz (aa (ab 1) (aa (ab 0) af)))))) (aX (ab 1))))
noncomputable def aS:List D->Option D:=bY fH 4
abbrev uo:List Str:=["thing","joined","by_givers","by_takers"]
noncomputable def eN:ao->Option Out:=(ay (jl (mi (bW (fB (ak 3 bf (aa (ab 0) (aa (fC (.int 3)) (aa (fC (.int 3)) af)))))) (bW (fB (ak 3 dO (aa (f2 ar (ab 0) (fC (.int 0))) (aa (f2 ar (ab 0) (fC (.int 1))) (aa (f2 ar (ab 0) (fC (.int 2))) af))))))) (aX (fC (.bool false))) hX) (ay (aE 1 [0] (ai 1 [] (aM (f2 ar (ab 0) (fC (.int 2)))) (fG 0) (fun _=>some true) (bz (aa (f2 ar (ab 0) (fC (.int 0))) (aa (f2 ar (ab 0) (fC (.int 1))) af))))) (ay (aE 2 [0] (kL eW (aa (ak 1 aS (aa (f2 ar (ab 0) (fC (.int 0))) af)) af))) (ay (aE 3 [0] (kL eW (aa (bT (ai 2 [] (aM (ak 1 aS (aa (f2 ar (ab 0) (fC (.int 1))) af))) (gu 0 1) (fun _=>some true) (bz (aa (ab 1) (aa (ab 0) af))))) af))) (aX (og (f2 bJ (ab 1) (ab 2)) (f2 bJ (ab 1) (ab 3))))))))
noncomputable def bO:List D->Option D:=bY eN 4
abbrev oC:List Str:=["world"]
noncomputable def cC:ao->Option Out:=(jl (bW (fB (ak 1 bO (aa (ab 0) af)))) Im hX)
noncomputable def bS:List D->Option D:=bY cC 1
abbrev ow:List Str:=["thing","least","most"]
noncomputable def cx:ao->Option Out:=(jl (bW (fB (ak 3 aR (aa (ab 0) (aa (ab 1) (aa (ab 2) af)))))) Im hX)
noncomputable def dC:List D->Option D:=bY cx 3
abbrev nB:List Str:=["thing","many"]
noncomputable def b9:ao->Option Out:=(lJ (ak 3 dC (aa (ab 0) (aa (fC (.int 0)) (aa (f2 Dl.d7 (ab 1) (fC (.int 1))) af)))))
noncomputable def bC:List D->Option D:=bY b9 2
abbrev qr:List Str:=["thing"]
noncomputable def cU:ao->Option Out:=(lJ (ak 2 bC (aa (ab 0) (aa (fC (.int 2)) af))))
noncomputable def cm:List D->Option D:=bY cU 1
abbrev xN:List Str:=["world","side","place","ways","likes","own"]
noncomputable def jf:ao->Option Out:=(ay (aU 3 [0] (f2 ar (ab 0) (fC (.int 2)))) (ay (aU 4 [0,1,2] (f2 ar (f2 ar (f2 ar (ab 0) (ab 1)) (ab 2)) (fC (.int 1)))) (ay (aE 5 [1,2,3] (ai 2 [1,2] (bp (aa (ab 3) af)) (gu 0 1) (fB (f2 bJ (f2 ar (ab 1) (ab 2)) (ab 3))) (ab 0))) (aX (bT (kP [1,3,4] (ab 5) (f2 rO (ab 3) (f2 ar (f2 ar (ab 2) (ab 0)) (f2 Dl.d7 (fC (.int 1)) (ab 1))))))))))
noncomputable def iY:List D->Option D:=bY jf 6
abbrev sP:List Str:=["world","side","place","offers","chosen","left","number"]
noncomputable def eY:ao->Option Out:=(ay (aE 4 [0] (ai 1 [] (aM (f2 ar (ab 0) (fC (.int 2)))) (fG 0) (fun _=>some true) (fC (.int 0)))) (ay (aU 5 [0,1,2] (f2 ar (f2 ar (f2 ar (ab 0) (ab 1)) (ab 2)) (fC (.int 0)))) (ay (d5 [0,1,2] (aM (ak 3 iY (aa (ab 0) (aa (ab 1) (aa (ab 2) af))))) (qu 6) (ay (uI 4 [0,3,5,6] (ab 6) (ba fF (aa (f2 ar (ab 3) (ab 6)) (aa (f2 ar (f2 ar (f2 ar (ab 0) (fC (.int 2))) (ab 6)) (fC (.int 2))) (aa (ab 5) af))))) (aU 5 [4,5,6] (f2 Dl.d7 (ab 5) (f2 ar (ab 4) (ab 6)))))) (aX (ba aN (aa (ab 4) af))))))
noncomputable def bK:List D->Option D:=bY eY 7
abbrev lL:List Str:=["world","side","offers","sums","place","chosen"]
noncomputable def cF:ao->Option Out:=(ay (aE 3 [0] (ai 1 [] (aM (f2 ar (ab 0) (fC (.int 2)))) (fG 0) (fun _=>some true) (fC (.int 0)))) (ay (d5 [0,1] (aF (aa (ba cI (aa (f2 ar (ab 0) (ab 1)) af)) af)) (qu 4) (ay (aU 5 [0,1,2,4] (ak 4 bK (aa (ab 0) (aa (ab 1) (aa (ab 4) (aa (ab 2) af)))))) (aE 3 [3,5] (ai 2 [] (j9 (aa (ab 3) (aa (ab 5) af))) (gu 0 1) (fun _=>some true) (f2 aD (ab 0) (ab 1)))))) (aX (ba aN (aa (ab 3) af)))))
noncomputable def cE:List D->Option D:=bY cF 6
abbrev rR:List Str:=["world","side","offers"]
noncomputable def eV:ao->Option Out:=(ay (lJ (ak 1 bS (aa (ab 0) af))) (ay (lJ (ak 1 cm (aa (ab 1) af))) (aX (ak 3 cE (aa (ab 0) (aa (ab 1) (aa (ab 2) af)))))))
noncomputable def cM:List D->Option D:=bY eV 3
abbrev zy:List Str:=["world"]
noncomputable def mV:ao->Option Out:=(aX (ba aN (aa (bT (ai 1 [] (aM (f2 ar (ab 0) (fC (.int 2)))) (fG 0) (fun _=>some true) (f2 ar (ab 0) (fC (.int 2))))) af)))
noncomputable def jW:List D->Option D:=bY mV 1
abbrev rh:List Str:=["_law_script","_law_k"]
noncomputable def eQ:ao->Option Out:=(ay (jl (fB (f2 bJ (ab 0) (bT (ck af)))) (aX (f2 dQ (fC (.int 7)) (ab 1))) hX) (aX (f2 aD (f2 ar (ab 0) (f2 gq (ab 1) (ba cI (aa (ab 0) af)))) (f2 dQ (fC (.int 6553)) (f2 jM (ab 1) (ba cI (aa (ab 0) af)))))))
noncomputable def cL:List D->Option D:=bY eQ 2
abbrev p8:List Str:=["_law_script","_law_k","_law_many","_law_cell_here"]
noncomputable def gG:ao->Option Out:=(ay (aU 3 [0,1] (f2 gq (f2 aD (f2 dQ (f2 gq (ak 2 cL (aa (ab 0) (aa (ab 1) af))) (fC (.int 2147483563))) (fC (.int 69069))) (f2 dQ (fC (.int 104723)) (f2 aD (ab 1) (fC (.int 1))))) (fC (.int 2147483563)))) (ay (aU 3 [3] (f2 gq (f2 aD (f2 dQ (ab 3) (ab 3)) (f2 jM (ab 3) (fC (.int 3)))) (fC (.int 2147483399)))) (aX (f2 gq (f2 jM (f2 gq (f2 aD (f2 dQ (ab 3) (ab 3)) (f2 jM (ab 3) (fC (.int 7)))) (fC (.int 2147483647))) (fC (.int 11))) (ab 2)))))
noncomputable def ah:List D->Option D:=bY gG 4
abbrev oh:List Str:=["_law_script","_law_at","_law_rows","_law_found","_law_k","_law_row","_law_order","_law_j","_law_one"]
noncomputable def fE:ao->Option Out:=(ay (aE 3 [] (ck af)) (ay (d5 [2] (bp (aa (ab 2) af)) (iN 4 5) (ay (aE 6 [] (ck af)) (ay (d5 [5] (bp (aa (ab 5) af)) (iN 7 8) (yX 6 [8] (ak 3 ah (aa (ab 0) (aa (f2 aD (f2 aD (ab 1) (f2 dQ (fC (.int 4)) (ab 4))) (ab 7)) (aa (f2 aD (ba cI (aa (ab 6) af)) (fC (.int 1))) af)))) (ab 8))) (oo 3 [6] (ba aN (aa (ab 6) af)))))) (aX (ab 3))))
noncomputable def bc:List D->Option D:=bY fE 9
abbrev qm:List Str:=["_law_script","_law_at","_law_most","_law_each","_law_takers","_law_many","_law_size","_law_ways","_law_k","_law_mine","_law_yours","_law_givers"]
noncomputable def cX:ao->Option Out:=(ay (jl (dW (fB (f2 BI (ab 2) (fC (.int 3)))) (fB (f2 bJ (ak 3 ah (aa (ab 0) (aa (f2 aD (ab 1) (fC (.int 64))) (aa (fC (.int 4)) af)))) (fC (.int 0))))) (ay (aU 3 [0,1] (f2 aD (fC (.int 1)) (ak 3 ah (aa (ab 0) (aa (f2 aD (ab 1) (fC (.int 65))) (aa (fC (.int 2)) af)))))) (ay (aU 4 [3] (bz (aa (bz (aa (ab 3) (aa (bz (aa (fC (.int 1)) (aa (fC (.int 0)) af))) af))) (aa (bz (aa (ab 3) (aa (bz (aa (fC (.int 0)) (aa (fC (.int 1)) af))) af))) af)))) (aX (bz (aa (bz (aa (bz (aa (ab 3) (aa (bz (aa (fC (.int 0)) (aa (fC (.int 1)) af))) af))) (aa (bz (aa (ab 3) (aa (bz (aa (fC (.int 1)) (aa (fC (.int 0)) af))) af))) af))) (aa (ab 4) (aa (bz (aa (bz (aa (fC (.int 0)) (aa (fC (.int 0)) (aa (fC (.int 2)) af)))) (aa (bz (aa (fC (.int 0)) (aa (fC (.int 1)) (aa (fC (.int 2)) af)))) (aa (bz (aa (fC (.int 1)) (aa (fC (.int 0)) (aa (fC (.int 2)) af)))) (aa (bz (aa (fC (.int 1)) (aa (fC (.int 1)) (aa (fC (.int 2)) af)))) af))))) af))))))) hX) (ay (aU 5 [0,1] (f2 aD (fC (.int 1)) (ak 3 ah (aa (ab 0) (aa (ab 1) (aa (fC (.int 3)) af)))))) (ay (aU 6 [0,1] (f2 aD (fC (.int 1)) (ak 3 ah (aa (ab 0) (aa (f2 aD (ab 1) (fC (.int 1))) (aa (fC (.int 3)) af)))))) (ay (aE 7 [] (ck af)) (ay (d5 [5,6] (aF (aa (f2 dQ (ab 5) (ab 6)) af)) (qu 8) (jl (dW (fB (f2 CY (ba cI (aa (ab 7) af)) (ab 2))) (fB (f2 BI (ak 3 ah (aa (ab 0) (aa (f2 aD (f2 aD (ab 1) (fC (.int 2))) (ab 8)) (aa (fC (.int 4)) af)))) (fC (.int 0))))) (oo 7 [0,1,6,8] (bz (aa (f2 jM (ab 8) (ab 6)) (aa (f2 gq (ab 8) (ab 6)) (aa (f2 aD (fC (.int 1)) (ak 3 ah (aa (ab 0) (aa (f2 aD (f2 aD (ab 1) (fC (.int 12))) (ab 8)) (aa (fC (.int 2)) af))))) af))))) hX)) (ay (aU 9 [0,1,5,7] (ak 3 bc (aa (ab 0) (aa (f2 aD (ab 1) (fC (.int 24))) (aa (bT (ai 1 [7] (aF (aa (ab 5) af)) (fG 0) (fun _=>some true) (bT (ai 1 [0] (aM (ab 1)) (fG 0) (fB (f2 bJ (f2 ar (ab 0) (fC (.int 0))) (ab 1))) (f2 ar (ab 0) (fC (.int 1))))))) af))))) (ay (aU 10 [0,1,6,7] (ak 3 bc (aa (ab 0) (aa (f2 aD (ab 1) (fC (.int 40))) (aa (bT (ai 1 [7] (aF (aa (ab 6) af)) (fG 0) (fun _=>some true) (bT (ai 1 [0] (aM (ab 1)) (fG 0) (fB (f2 bJ (f2 ar (ab 0) (fC (.int 1))) (ab 1))) (f2 ar (ab 0) (fC (.int 0))))))) af))))) (ay (aU 11 [0,1,8,9] (ba aN (aa (bT (ai 2 [0,1] (bp (aa (ab 9) af)) (gu 0 1) (fun _=>some true) (bz (aa (ak 3 ah (aa (ab 2) (aa (f2 aD (f2 aD (ab 3) (fC (.int 56))) (ab 0)) (aa (fC (.int 4)) af)))) (aa (ab 1) af))))) af))) (ay (aU 4 [0,1,8,10] (ba aN (aa (bT (ai 2 [0,1] (bp (aa (ab 10) af)) (gu 0 1) (fun _=>some true) (bz (aa (ak 3 ah (aa (ab 2) (aa (f2 aD (f2 aD (ab 3) (fC (.int 60))) (ab 0)) (aa (fC (.int 4)) af)))) (aa (ab 1) af))))) af))) (aX (bz (aa (ab 11) (aa (ab 4) (aa (ba aN (aa (ab 7) af)) af))))))))))))))
noncomputable def bN:List D->Option D:=bY cX 12
abbrev nX:List Str:=["world","side","place"]
noncomputable def cA:ao->Option Out:=(ay (lJ (ak 1 cm (aa (ab 1) af))) (lJ (ak 2 bC (aa (ab 2) (aa (ba cI (aa (f2 ar (ab 0) (ab 1)) af)) af)))))
noncomputable def dB:List D->Option D:=bY cA 3
abbrev AH:List Str:=["world","side","place","offers"]
noncomputable def jV:ao->Option Out:=(ay (lJ (ak 1 bS (aa (ab 0) af))) (ay (lJ (ak 3 dB (aa (ab 0) (aa (ab 1) (aa (ab 2) af))))) (aX (ak 4 bK (aa (ab 0) (aa (ab 1) (aa (ab 2) (aa (ab 3) af))))))))
noncomputable def bE:List D->Option D:=bY jV 4
abbrev lO:List Str:=["_law_world_here","_law_side","_law_likes_here","_law_own","_law_some","_law_can","_law_row","_law_other","_law_at","_law_way"]
noncomputable def cD:ao->Option Out:=(ay (aE 6 [] (ck af)) (ay (d5 [2] (aM (ab 2)) (qu 7) (aE 6 [0,1,3,6,7,9] (GU jt (ab 6) (bT (ai 1 [0,1,7] (aM (ab 3)) (fG 0) (fB (f2 bJ (f2 ar (f2 ar (f2 ar (ab 1) (fC (.int 2))) (ab 0)) (f2 Dl.d7 (fC (.int 1)) (ab 2))) (ab 3))) (ab 0)))))) (ay (d5 [6] (bp (aa (ab 6) af)) (iN 8 9) (jl (dW (fB (f2 CY (f2 ar (ab 4) (ab 9)) (f2 ar (ab 5) (ab 9)))) (fB (f2 dP (ba jX (aa (bT (ai 1 [4] (aM (uJ mO (ab 6) (GE (f2 aD (ab 8) (fC (.int 1)))) uq)) (fG 0) (fun _=>some true) (f2 ar (ab 1) (ab 0)))) af)) (fC (.int 0))))) (aX (fC (.bool false))) hX)) (aX (fC (.bool true))))))
noncomputable def bP:List D->Option D:=bY cD 10
abbrev oP:List Str:=["_law_script","_law_world_here","_law_many","_law_offers","_law_more","_law_whole","_law_side","_law_place","_law_some","_law_own","_law_can","_law_middle","_law_higher"]
noncomputable def jg:ao->Option Out:=(ay (aU 1 [0] (ak 3 bN (aa (ab 0) (aa (fC (.int 0)) (aa (fC (.int 9)) af))))) (ay (aU 2 [1] (ba cI (aa (f2 ar (ab 1) (fC (.int 2))) af))) (ay (aU 3 [0,2] (ba aN (aa (bT (ai 1 [0] (aF (aa (ab 2) af)) (fG 0) (fun _=>some true) (ak 3 ah (aa (ab 1) (aa (f2 aD (fC (.int 70)) (ab 0)) (aa (fC (.int 5)) af)))))) af))) (ay (aU 4 [0,3] (ba aN (aa (bT (ai 2 [0] (bp (aa (ab 3) af)) (gu 0 1) (fun _=>some true) (f2 aD (ab 1) (ak 3 ah (aa (ab 2) (aa (f2 aD (fC (.int 80)) (ab 0)) (aa (fC (.int 3)) af))))))) af))) (ay (aE 5 [2] (ck (aa (bT (k8 (ck (aa (fC (.int 0)) af)) (ab 2))) (aa (bT (k8 (ck (aa (fC (.int 0)) af)) (ab 2))) af)))) (ay (d5 [] (aF (aa (fC (.int 2)) af)) (qu 6) (d5 [1,6] (aF (aa (ba cI (aa (f2 ar (ab 1) (ab 6)) af)) af)) (qu 7) (ay (aU 8 [1,3,6,7] (ak 4 bE (aa (ab 1) (aa (ab 6) (aa (ab 7) (aa (ab 3) af)))))) (ay (aE 9 [1,2,6,7] (ai 1 [1,6,7] (aF (aa (ab 2) af)) (fG 0) (fB (f2 bJ (f2 ar (f2 ar (f2 ar (ab 1) (fC (.int 2))) (ab 0)) (ab 2)) (ab 3))) (ab 0))) (ay (aE 10 [1,2,3,9] (ai 1 [1,3,9] (aF (aa (ab 2) af)) (fG 0) (fun _=>some true) (BQ (fB (f2 oq (ab 0) (ab 3))) (ba fF (aa (f2 ar (ab 2) (ab 0)) (aa (f2 ar (f2 ar (f2 ar (ab 1) (fC (.int 2))) (ab 0)) (fC (.int 2))) af))) (fC (.int 0))))) (ay (jl (fB (f2 dP (bT (ai 1 [8,10] (aF (aa (ab 2) af)) (fG 0) (bW (fB (fv uf uf (fC (.int 0)) (f2 ar (ab 1) (ab 0)) (f2 ar (ab 2) (ab 0))))) (ab 0))) (bT (ck af)))) (aX (fC (.bool false))) hX) (ay (jl (fB (f2 dP (ba jX (aa (ab 8) af)) (ba fF (aa (f2 ar (f2 ar (f2 ar (ab 1) (ab 6)) (ab 7)) (fC (.int 0))) (aa (ba jX (aa (ab 10) af)) af))))) (aX (fC (.bool false))) hX) (ay (aU 11 [3,8] (ba aN (aa (bT (ai 3 [] (fY (aa (ab 8) (aa (ab 3) af))) (nS 0 1 2) (fun _=>some true) (f2 aD (ab 1) (f2 dQ (f2 Dl.d7 (ab 2) (ab 1)) (f2 gq (ab 0) (fC (.int 2))))))) af))) (ay (jl (mi (fB (f2 dP (ak 4 bE (aa (ab 1) (aa (ab 6) (aa (ab 7) (aa (ab 8) af))))) (ab 8))) (fB (f2 dP (ak 4 bE (aa (ab 1) (aa (ab 6) (aa (ab 7) (aa (ab 11) af))))) (ab 8)))) (aX (fC (.bool false))) hX) (ay (aU 12 [1,4,6,7] (ak 4 bE (aa (ab 1) (aa (ab 6) (aa (ab 7) (aa (ab 4) af)))))) (ay (jl (fB (f2 dP (bT (ai 1 [3,4,8,12] (aM (ab 9)) (fG 0) (dW (fB (f2 BI (f2 ar (ab 4) (ab 0)) (f2 ar (ab 3) (ab 0)))) (fB (f2 bJ (ba fF (aa (f2 ar (ab 2) (ab 0)) (aa (fC (.int 9)) af))) (f2 ar (ab 1) (ab 0))))) (ab 0))) (bT (ck af)))) (aX (fC (.bool false))) hX) (ay (jl (bW (fB (ak 6 bP (aa (ab 1) (aa (ab 6) (aa (f2 ar (f2 ar (f2 ar (ab 1) (ab 6)) (ab 7)) (fC (.int 1))) (aa (ab 9) (aa (ab 8) (aa (ab 10) af))))))))) (aX (fC (.bool false))) hX) (oW 5 (ab 6) (ai 2 [] (j9 (aa (f2 ar (ab 5) (ab 6)) (aa (ab 8) af))) (gu 0 1) (fun _=>some true) (f2 aD (ab 0) (ab 1)))))))))))))))) (ay (jl (fB (f2 dP (bT (ai 1 [1,3] (aF (aa (fC (.int 2)) af)) (fG 0) (fun _=>some true) (ak 3 cM (aa (ab 1) (aa (ab 0) (aa (ab 2) af)))))) (bT (ai 1 [] (aM (ab 5)) (fG 0) (fun _=>some true) (ba aN (aa (ab 0) af)))))) (aX (fC (.bool false))) hX) (aX (f2 bJ (ak 1 jW (aa (ab 1) af)) (ba aN (aa (bT (ai 1 [] (aM (f2 ar (ab 1) (fC (.int 2)))) (fG 0) (fun _=>some true) (f2 ar (ab 0) (fC (.int 2))))) af)))))))))))
noncomputable def gn:List D->Option D:=bY jg 13
end Pg
namespace K11
open PySem L2 Dl PySem.Spec PyProof.Rows
open Pg
noncomputable abbrev jG:Stmt:=top 7
noncomputable abbrev uL:Rf.Sg:=⟨[],[]⟩
theorem uK:Rf.tW jG uE uL none=some jv:=by kernel_rfl
noncomputable abbrev iC:Stmt:=top 8
noncomputable abbrev sd:Rf.Sg:=⟨[("is_whole",3,aR)],[]⟩
theorem qN:Rf.tW iC rZ sd none=some iy:=by kernel_rfl
noncomputable abbrev k3:Stmt:=top 9
noncomputable abbrev xO:Rf.Sg:=⟨[],[]⟩
theorem wW:Rf.tW k3 wJ xO none=some kC:=by kernel_rfl
noncomputable abbrev iR:Stmt:=top 10
noncomputable abbrev sL:Rf.Sg:=⟨[("is_number",2,bj)],[]⟩
theorem qS:Rf.tW iR rL sL none=some ix:=by kernel_rfl
noncomputable abbrev mq:Stmt:=top 11
noncomputable abbrev AE:Rf.Sg:=⟨[("is_long",3,bf),("is_whole",3,aR),("are_likes",2,dJ)],[("MOST",9)]⟩
theorem xX:Rf.tW mq AY AE none=some nJ:=by kernel_rfl
noncomputable abbrev mW:Stmt:=top 12
noncomputable abbrev BK:Rf.Sg:=⟨[("is_long",3,bf),("is_number",2,bj),("is_whole",3,aR)],[("MOST",9)]⟩
theorem zt:Rf.tW mW BB BK none=some mh:=by kernel_rfl
noncomputable abbrev iP:Stmt:=top 13
noncomputable abbrev qU:Rf.Sg:=⟨[("is_long",3,bf),("is_end",2,dI),("is_way",3,fT)],[("MOST_PLACES",4)]⟩
theorem sU:Rf.tW iP qL qU none=some ie:=by kernel_rfl
noncomputable abbrev fI:Stmt:=top 14
noncomputable abbrev nZ:Rf.Sg:=⟨[],[]⟩
theorem n9:Rf.tW fI nY nZ none=some fH:=by kernel_rfl
noncomputable abbrev jF:Stmt:=top 15
noncomputable abbrev tK:Rf.Sg:=⟨[("liked_pairs",1,aS),("is_long",3,bf),("are_parts",3,dO)],[]⟩
theorem ua:Rf.tW jF uo tK none=some eN:=by kernel_rfl
noncomputable abbrev fJ:Stmt:=top 16
noncomputable abbrev nR:Rf.Sg:=⟨[("is_world",1,bO)],[]⟩
theorem oz:Rf.tW fJ oC nR none=some cC:=by kernel_rfl
noncomputable abbrev fg:Stmt:=top 17
noncomputable abbrev n5:Rf.Sg:=⟨[("is_whole",3,aR)],[]⟩
theorem nQ:Rf.tW fg ow n5 none=some cx:=by kernel_rfl
noncomputable abbrev eM:Stmt:=top 18
noncomputable abbrev mz:Rf.Sg:=⟨[("check_whole",3,dC)],[]⟩
theorem me:Rf.tW eM nB mz none=some b9:=by kernel_rfl
noncomputable abbrev gK:Stmt:=top 19
noncomputable abbrev qa:Rf.Sg:=⟨[("check_number",2,bC)],[]⟩
theorem pE:Rf.tW gK qr qa none=some cU:=by kernel_rfl
noncomputable abbrev ft:Stmt:=top 20
noncomputable abbrev oe:Rf.Sg:=⟨[("check_side",1,cm),("check_number",2,bC)],[]⟩
theorem ox:Rf.tW ft nX oe none=some cA:=by kernel_rfl
noncomputable abbrev kn:Stmt:=top 22
noncomputable abbrev xq:Rf.Sg:=⟨[],[]⟩
theorem xK:Rf.tW kn xN xq (some "ways_of.<locals>.<lambda>")=some jf:=by kernel_rfl
noncomputable abbrev iO:Stmt:=top 23
noncomputable abbrev se:Rf.Sg:=⟨[("ways_of",3,iY)],[]⟩
theorem rA:Rf.tW iO sP se none=some eY:=by kernel_rfl
noncomputable abbrev nG:Stmt:=top 24
noncomputable abbrev y1:Rf.Sg:=⟨[("check_world",1,bS),("check_place",3,dB),("chosen_by",4,bK)],[]⟩
theorem AL:Rf.tW nG AH y1 none=some jV:=by kernel_rfl
noncomputable abbrev dS:Stmt:=top 26
noncomputable abbrev lF:Rf.Sg:=⟨[("chosen_by",4,bK)],[]⟩
theorem lG:Rf.tW dS lL lF none=some cF:=by kernel_rfl
noncomputable abbrev iw:Stmt:=top 27
noncomputable abbrev sS:Rf.Sg:=⟨[("check_world",1,bS),("check_side",1,cm),("chosen_by_all",3,cE)],[]⟩
theorem r0:Rf.tW iw rR sS none=some eV:=by kernel_rfl
noncomputable abbrev mI:Stmt:=top 28
noncomputable abbrev Bs:Rf.Sg:=⟨[],[]⟩
theorem Bq:Rf.tW mI zy Bs none=some mV:=by kernel_rfl
noncomputable abbrev iz:Stmt:=top 30
noncomputable abbrev r6:Rf.Sg:=⟨[],[]⟩
theorem qT:Rf.tW iz rh r6 none=some eQ:=by kernel_rfl
noncomputable abbrev gL:Stmt:=top 31
noncomputable abbrev pO:Rf.Sg:=⟨[("_law_cell",2,cL)],[]⟩
theorem pR:Rf.tW gL p8 pO none=some gG:=by kernel_rfl
noncomputable abbrev fL:Stmt:=top 32
noncomputable abbrev oi:Rf.Sg:=⟨[("_law_drawn",3,ah)],[]⟩
theorem nN:Rf.tW fL oh oi none=some fE:=by kernel_rfl
noncomputable abbrev gX:Stmt:=top 33
noncomputable abbrev qB:Rf.Sg:=⟨[("_law_orders",3,bc),("_law_drawn",3,ah)],[]⟩
theorem pY:Rf.tW gX qm qB none=some cX:=by kernel_rfl
noncomputable abbrev dU:Stmt:=top 34
noncomputable abbrev lP:Rf.Sg:=⟨[],[]⟩
theorem lN:Rf.tW dU lO lP none=some cD:=by kernel_rfl
noncomputable abbrev yq:Stmt:=top 35
noncomputable abbrev HR:Rf.Sg:=⟨[("_law_world",3,bN),("limits",1,jW),("_law_drawn",3,ah),("choice",4,bE),("both_ends",3,cM),("_law_in_order",6,bP)],[]⟩
theorem Hv:Rf.tW yq oP HR none=some jg:=by kernel_rfl
structure HG(K:W.Frag):Prop where
 c0:aW K "is_whole" jG ["thing","least","most"]
 c1:aW K "is_number" iC ["thing","many"]
 c2:aW K "is_long" k3 ["thing","least","most"]
 c3:aW K "are_likes" iR ["thing","many"]
 c4:aW K "is_end" mq ["thing","many"]
 c5:aW K "is_way" mW ["thing","givers","takers"]
 c6:aW K "are_parts" iP ["givers","takers","ways"]
 c7:aW K "liked_pairs" fI ["places"]
 c8:aW K "is_world" jF ["thing"]
 c9:aW K "check_world" fJ ["world"]
 c10:aW K "check_whole" fg ["thing","least","most"]
 c11:aW K "check_number" eM ["thing","many"]
 c12:aW K "check_side" gK ["thing"]
 c13:aW K "check_place" ft ["world","side","place"]
 c14:pe K "ways_of" kn ["world","side","place"]
 c15:aW K "chosen_by" iO ["world","side","place","offers"]
 c16:aW K "choice" nG ["world","side","place","offers"]
 c17:aW K "chosen_by_all" dS ["world","side","offers"]
 c18:aW K "both_ends" iw ["world","side","offers"]
 c19:aW K "limits" mI ["world"]
 c20:aW K "_law_cell" iz ["_law_script","_law_k"]
 c21:aW K "_law_drawn" gL ["_law_script","_law_k","_law_many"]
 c22:aW K "_law_orders" fL ["_law_script","_law_at","_law_rows"]
 c23:aW K "_law_world" gX ["_law_script","_law_at","_law_most"]
 c24:aW K "_law_in_order" dU ["_law_world_here","_law_side","_law_likes_here","_law_own","_law_some","_law_can"]
 c25:aW K "law" yq ["_law_script"]
 i_MOST_PLACES:∃t,W.nsIn K mainGlobals "MOST_PLACES"=some (some (.int 4 t))
 i_MOST:∃t,W.nsIn K mainGlobals "MOST"=some (some (.int 9 t))
 b:∀x∈cg,W.nsIn K mainGlobals x=some none
structure dR(K:W.Frag)(mg:Str->Option Value):Prop where
 c0:dc K mg "is_whole" jG ["thing","least","most"]
 c1:dc K mg "is_number" iC ["thing","many"]
 c2:dc K mg "is_long" k3 ["thing","least","most"]
 c3:dc K mg "are_likes" iR ["thing","many"]
 c4:dc K mg "is_end" mq ["thing","many"]
 c5:dc K mg "is_way" mW ["thing","givers","takers"]
 c6:dc K mg "are_parts" iP ["givers","takers","ways"]
 c7:dc K mg "liked_pairs" fI ["places"]
 c8:dc K mg "is_world" jF ["thing"]
 c9:dc K mg "check_world" fJ ["world"]
 c10:dc K mg "check_whole" fg ["thing","least","most"]
 c11:dc K mg "check_number" eM ["thing","many"]
 c12:dc K mg "check_side" gK ["thing"]
 c13:dc K mg "check_place" ft ["world","side","place"]
 c14:C8 K mg "ways_of" kn ["world","side","place"]
 c15:dc K mg "chosen_by" iO ["world","side","place","offers"]
 c16:dc K mg "choice" nG ["world","side","place","offers"]
 c17:dc K mg "chosen_by_all" dS ["world","side","offers"]
 c18:dc K mg "both_ends" iw ["world","side","offers"]
 c19:dc K mg "limits" mI ["world"]
 c20:dc K mg "_law_cell" iz ["_law_script","_law_k"]
 c21:dc K mg "_law_drawn" gL ["_law_script","_law_k","_law_many"]
 c22:dc K mg "_law_orders" fL ["_law_script","_law_at","_law_rows"]
 c23:dc K mg "_law_world" gX ["_law_script","_law_at","_law_most"]
 c24:dc K mg "_law_in_order" dU ["_law_world_here","_law_side","_law_likes_here","_law_own","_law_some","_law_can"]
 c25:dc K mg "law" yq ["_law_script"]
 i_MOST_PLACES:∃t,mg "MOST_PLACES"=some (.int 4 t)
 i_MOST:∃t,mg "MOST"=some (.int 9 t)
 b:∀x∈cg,mg x=none
theorem HG.defs{K:W.Frag}{h:Heap}{mg:Str->Option Value}(I:HG K)(X:K.In h)(G:h.Ns mainGlobals mg):dR K mg :=
 ⟨I.c0.mg X G,I.c1.mg X G,I.c2.mg X G,I.c3.mg X G,I.c4.mg X G,I.c5.mg X G,I.c6.mg X G,I.c7.mg X G,I.c8.mg X G,I.c9.mg X G,I.c10.mg X G,I.c11.mg X G,I.c12.mg X G,I.c13.mg X G,I.c14.mg X G,I.c15.mg X G,I.c16.mg X G,I.c17.mg X G,I.c18.mg X G,I.c19.mg X G,I.c20.mg X G,I.c21.mg X G,I.c22.mg X G,I.c23.mg X G,I.c24.mg X G,I.c25.mg X G,(let ⟨t,h⟩:=I.i_MOST_PLACES;⟨t,W.mg_of X G h⟩),(let ⟨t,h⟩:=I.i_MOST;⟨t,W.mg_of X G h⟩),fun x hx=>W.mg_none_of X G (I.b x hx)⟩
section
variable {P:Program}{w:World}{K:W.Frag}{mg:Str->Option Value}{base:Heap}
theorem gW(D:dR K mg):gw P w K mg base 1 "is_whole" 3 aR:=Rf.lV (j:=0) D.c0 D.b Rf.dH Rf.dE uK
theorem lr(D:dR K mg):gw P w K mg base 2 "is_number" 2 bj:=Rf.lV (j:=1) D.c1 D.b (Rf.fm (gW D) Rf.dH) Rf.dE qN
theorem iZ(D:dR K mg):gw P w K mg base 1 "is_long" 3 bf:=Rf.lV (j:=0) D.c2 D.b Rf.dH Rf.dE wW
theorem rX(D:dR K mg):gw P w K mg base 3 "are_likes" 2 dJ:=Rf.lV (j:=2) D.c3 D.b (Rf.fm (lr D) Rf.dH) Rf.dE qS
theorem BA(D:dR K mg):gw P w K mg base 4 "is_end" 2 dI:=Rf.lV (j:=3) D.c4 D.b (Rf.fm (iZ D) (Rf.fm (gW D) (Rf.fm (rX D) Rf.dH))) (Rf.Bv D.i_MOST Rf.dE) xX
theorem Ap(D:dR K mg):gw P w K mg base 3 "is_way" 3 fT:=Rf.lV (j:=2) D.c5 D.b (Rf.fm (iZ D) (Rf.fm (lr D) (Rf.fm (gW D) Rf.dH))) (Rf.Bv D.i_MOST Rf.dE) zt
theorem sg(D:dR K mg):gw P w K mg base 5 "are_parts" 3 dO:=Rf.lV (j:=4) D.c6 D.b (Rf.fm (iZ D) (Rf.fm (BA D) (Rf.fm (Ap D) Rf.dH))) (Rf.Bv D.i_MOST_PLACES Rf.dE) sU
theorem oa(D:dR K mg):gw P w K mg base 1 "liked_pairs" 1 aS:=Rf.lV (j:=0) D.c7 D.b Rf.dH Rf.dE n9
theorem tI(D:dR K mg):gw P w K mg base 6 "is_world" 1 bO:=Rf.lV (j:=5) D.c8 D.b (Rf.fm (oa D) (Rf.fm (iZ D) (Rf.fm (sg D) Rf.dH))) Rf.dE ua
theorem jr(D:dR K mg):gw P w K mg base 7 "check_world" 1 bS:=Rf.lV (j:=6) D.c9 D.b (Rf.fm (tI D) Rf.dH) Rf.dE oz
theorem nW(D:dR K mg):gw P w K mg base 2 "check_whole" 3 dC:=Rf.lV (j:=1) D.c10 D.b (Rf.fm (gW D) Rf.dH) Rf.dE nQ
theorem iM(D:dR K mg):gw P w K mg base 3 "check_number" 2 bC:=Rf.lV (j:=2) D.c11 D.b (Rf.fm (nW D) Rf.dH) Rf.dE me
theorem j6(D:dR K mg):gw P w K mg base 4 "check_side" 1 cm:=Rf.lV (j:=3) D.c12 D.b (Rf.fm (iM D) Rf.dH) Rf.dE pE
theorem oA(D:dR K mg):gw P w K mg base 5 "check_place" 3 dB:=Rf.lV (j:=4) D.c13 D.b (Rf.fm (j6 D) (Rf.fm (iM D) Rf.dH)) Rf.dE ox
theorem xo(D:dR K mg):gw P w K mg base 4 "ways_of" 3 iY:=Rf.Kb (j:=0) D.c14 D.b Rf.dH Rf.dE xK
theorem k7(D:dR K mg):gw P w K mg base 5 "chosen_by" 4 bK:=Rf.lV (j:=4) D.c15 D.b (Rf.fm (xo D) Rf.dH) Rf.dE rA
theorem zg(D:dR K mg):gw P w K mg base 8 "choice" 4 bE:=Rf.lV (j:=7) D.c16 D.b (Rf.fm (jr D) (Rf.fm (oA D) (Rf.fm (k7 D) Rf.dH))) Rf.dE AL
theorem lE(D:dR K mg):gw P w K mg base 6 "chosen_by_all" 3 cE:=Rf.lV (j:=5) D.c17 D.b (Rf.fm (k7 D) Rf.dH) Rf.dE lG
theorem sO(D:dR K mg):gw P w K mg base 8 "both_ends" 3 cM:=Rf.lV (j:=7) D.c18 D.b (Rf.fm (jr D) (Rf.fm (j6 D) (Rf.fm (lE D) Rf.dH))) Rf.dE r0
theorem yw(D:dR K mg):gw P w K mg base 1 "limits" 1 jW:=Rf.lV (j:=0) D.c19 D.b Rf.dH Rf.dE Bq
theorem qY(D:dR K mg):gw P w K mg base 1 "_law_cell" 2 cL:=Rf.lV (j:=0) D.c20 D.b Rf.dH Rf.dE qT
theorem gT(D:dR K mg):gw P w K mg base 2 "_law_drawn" 3 ah:=Rf.lV (j:=1) D.c21 D.b (Rf.fm (qY D) Rf.dH) Rf.dE pR
theorem nV(D:dR K mg):gw P w K mg base 3 "_law_orders" 3 bc:=Rf.lV (j:=2) D.c22 D.b (Rf.fm (gT D) Rf.dH) Rf.dE nN
theorem p5(D:dR K mg):gw P w K mg base 4 "_law_world" 3 bN:=Rf.lV (j:=3) D.c23 D.b (Rf.fm (nV D) (Rf.fm (gT D) Rf.dH)) Rf.dE pY
theorem lH(D:dR K mg):gw P w K mg base 1 "_law_in_order" 6 bP:=Rf.lV (j:=0) D.c24 D.b Rf.dH Rf.dE lN
end
theorem E8{P:Program}{w:World}{K:W.Frag}{h:Heap}{mg:Str->Option Value}{fa:Addr}(X:K.In h)(G:h.Ns mainGlobals mg)(hfa:mg "law"=some (.ref fa))(I:HG K):∃fd:FuncData,(∀ (s:Shared) (v:Value),BindsTo s fd ⟨[v],[]⟩ [("_law_script",v)])/\∀base:Heap,K.In base->base.Ns mainGlobals mg->lM P w K mg base FA 9 fa fd ["_law_script"] (Gc K 1 gn):=by
 have D:=I.defs X G
 obtain⟨f,fd,hm,F,hb⟩:=D.c25.ex
 rw[hfa] at hm;cases hm
 refine⟨fd,fun s v=>?_,fun base _ _=>DV F (Rf.Jb (N:=oP)) fun X hP hw hK hm' hb' C _ _ HF H=>by subst hP;subst hw;subst hK;subst hm';subst hb';exact Rf.Ej (j:=8) C D.b (Rf.fm (p5 D) (Rf.fm (yw D) (Rf.fm (gT D) (Rf.fm (zg D) (Rf.fm (sO D) (Rf.fm (lH D) Rf.dH)))))) Rf.dE Hv⟩
 obtain⟨oc,od,kV,doc,pm,an,cdv,ct,osl,rfl,lk,hcd⟩:=F.ex
 exact .of_eq rfl
theorem walk{l:W.OpenLaw}{q:Program}{loose:List Str}{XP:(Str->Option Value)->Heap->Prop}{YP:World->Heap->Prop}{d:DefRec}{K:Params->W.Frag}{ts:List Addr}(hn:l.most=some 63)(hdf:d.params.defaults=[])(hname:d.name="law")
  (hY:∀ (w:World) (h:Heap),YP w h->(K w.params).In h/\∀P∈ts,h.get? P=some (W.tabObj #[])) (ht:∀w:World,kf (K w.params) ts=true) (hI:∀w:World,HG (K w.params)) (main:∀ns:List Int,ns.length<=63->gn [.list (ns.map PyData.int)]=some (.bool true)) :
  W.WalkO q loose XP YP l.row.toRowW d [] (fun f vs=>PySem.call f vs) :=
 Bf (n:=63) (k:=9) (x:="_law_script") (CX:=fun _=>FA) (sp:=fun w=>Gc (K w.params) 1 gn) hn (by decide) hdf ⟨rfl,by decide,by decide⟩ hY ht (fun w mg fa h KX G hmg=>E8 KX G (by rw[<- hname];exact hmg) (hI w)) (fun _ _ a ns hl hT hS=>uc hS hT (main ns hl)) fun _ _ _ _ _ z=>z
end K11
namespace Dl
open PySem L2 PySem.Spec PyProof.Rows
noncomputable def su:D->Prop|.none=>True|.bool _=>True|.int _=>True|.str x=>PyData.canLay0 (.str x)=true|_=>False
noncomputable def gx(b:Nat):Nat->D->Prop
 | 0,d=>su d
 | k+1,d=>su d\/(∃xs,(d=.list xs\/d=.tuple xs)/\xs.length<=b/\∀x∈xs,gx b k x)
theorem gx.leaf{b k:Nat}{d:D}(h:su d):gx b k d:=by
 cases k with
 | zero=>exact h
 | succ k=>exact .inl h
theorem gx.tup{b k:Nat}{xs:List D}(hb:xs.length<=b)(h:∀x∈xs,gx b k x):gx b (k+1) (.tuple xs):=.inr ⟨xs,.inr rfl,hb,h⟩
theorem gx.lst{b k:Nat}{xs:List D}(hb:xs.length<=b)(h:∀x∈xs,gx b k x):gx b (k+1) (.list xs):=.inr ⟨xs,.inl rfl,hb,h⟩
theorem gx.of_tup{b k:Nat}{xs:List D}(h:gx b k (.tuple xs)):∃j,k=j+1/\xs.length<=b/\∀x∈xs,gx b j x:=by
 cases k with
 | zero=>cases h
 | succ k =>
  rcases h with h|⟨ys,h|h,h1,h2⟩
  ·cases h
  ·cases h
  ·cases h;exact⟨k,rfl,h1,h2⟩
theorem gx.mono{b b':Nat}(hb:b<=b'):∀ {k k':Nat}{d:D},k<=k'->gx b k d->gx b' k' d
 | 0,k',d,_,h=>.leaf h
 | k+1,0,d,hk,h=>by omega
 | k+1,k'+1,d,hk,h=>by
  rcases h with h|⟨xs,h,h1,h2⟩
  ·exact .inl h
  ·exact .inr ⟨xs,h,yE h1 hb,fun x hx=>(h2 x hx).mono hb (by omega)⟩
theorem wb{b k:Nat}:∀ {xs:List D},(∀x∈xs,PyData.canLay0 x=true/\x.depth<=k)->PyData.canLayAll0 xs=true/\PyData.depthAll xs<=k
 | [],_=>⟨by simp[PyData.canLayAll0],by simp[PyData.depthAll]⟩
 | x::xs,h=>by
  obtain⟨a,c⟩:=wb (b:=b) (xs:=xs) fun y hy=>h y (zC _ hy)
  obtain⟨a',c'⟩:=h x zE
  exact⟨by simp[PyData.canLayAll0,a,a'],by simp[PyData.depthAll];omega⟩
theorem gx.lay{b:Nat}:∀ {k:Nat}{d:D},gx b k d->PyData.canLay0 d=true/\d.depth<=k:=by
 have lf:∀ {k:Nat}{d:D},su d->PyData.canLay0 d=true/\d.depth<=k:=fun {k d} h=>by
  cases d<;>simp only[su] at h<;>first|exact⟨h,by simp[PyData.depth]⟩|exact⟨by simp[PyData.canLay0],by simp[PyData.depth]⟩
 intro k
 induction k with
 | zero=>exact fun h=>lf h
 | succ k ih =>
  intro d h
  rcases h with h|⟨xs,h,h1,h2⟩
  ·exact lf h
  ·obtain⟨a,c⟩:=wb (b:=b) (xs:=xs) fun y hy=>ih (h2 y hy)
   rcases h with rfl|rfl
   ·exact⟨by simp[PyData.canLay0,a],by simp[PyData.depth];omega⟩
   ·exact⟨by simp[PyData.canLay0,a],by simp[PyData.depth];omega⟩
theorem gx.shaped{b k:Nat}{d:D}(h:gx b k d)(hk:k<=64):SeqAt.shaped d=true:=by
 obtain⟨a,c⟩:=h.lay
 simp[SeqAt.shaped,a];omega
theorem gx.noDict{b k:Nat}{d:D}(h:gx b k d):∀kv,d≠.dict kv:=by
 rintro kv rfl
 have:=h.lay.1
 simp[PyData.canLay0] at this
noncomputable def mN:D->Bool|.dict _=>false|_=>true
theorem gx.nd{b k:Nat}{d:D}(h:gx b k d):mN d=true:=by
 cases d<;>first|rfl|exact absurd rfl (h.noDict _)
noncomputable def JP:D->Bool|.int _=>true|.bool _=>true|_=>false
noncomputable def JM:D->Bool|.bool _=>true|_=>false
noncomputable def DP:D->Bool|.tuple _=>true|_=>false
theorem kI{d:D}(h:mN d=true):qg (fA d) "int"=some (JP d):=by cases d<;>first|cases h;done|exact BW _ (by simp[fA])
theorem kB{d:D}(h:mN d=true):qg (fA d) "bool"=some (JM d):=by cases d<;>first|cases h;done|exact A7 _ (by simp[fA])
theorem kT{d:D}(h:mN d=true):qg (fA d) "tuple"=some (DP d):=by cases d<;>first|cases h;done|exact kit_tuple _ (by simp[fA])
noncomputable def whole(a b:Int):D->Bool|.int i=>decide (a<=i)&&decide (i<=b)|_=>false
theorem oE{tgt:Env->D->Option Env}{te:Env->Option D}{ρ:Env}{h:D->D}:∀ {ds:List D},(∀d∈ds,∃ρ',tgt ρ d=some ρ'/\te ρ'=some (h d))->bQ tgt (fun _=>some true) te ρ ds=some (ds.map h)
 | [],_=>rfl
 | d::ds,hh=>by
  obtain⟨ρ',h1,h2⟩:=hh d zE
  have ih:=oE (ds:=ds) fun y hy=>hh y (zC _ hy)
  unfold bQ
  rw[h1]
  simp[h2,ih]
theorem kb{tgt:Env->D->Option Env}{tt:Env->Option Bool}{te:Env->Option D}{ρ:Env}{p:D->Bool}{h:D->D}:∀ {ds:List D},(∀d∈ds,∃ρ',tgt ρ d=some ρ'/\tt ρ'=some (p d)/\(p d=true->te ρ'=some (h d)))->bQ tgt tt te ρ ds=some ((ds.filter p).map h)
 | [],_=>rfl
 | d::ds,hh=>by
  obtain⟨ρ',h1,h2,h3⟩:=hh d zE
  have ih:=kb (ds:=ds) fun y hy=>hh y (zC _ hy)
  unfold bQ
  rw[h1]
  simp only[zA,h2]
  cases hp:p d with
  | true=>rw[if_pos rfl,h3 hp];simp[ih,List.filter_cons,hp]
  | false=>simp[ih,List.filter_cons,hp]
theorem lD{p:D->Bool}:∀ds:List D,boolsOf (ds.map fun d=>.bool (p d))=some (ds.map p)
 | []=>rfl
 | d::ds=>by simp[boolsOf,lD ds]
theorem jO{p:D->Bool}(ds:List D):rK [.list (ds.map fun d=>.bool (p d))]=some (.bool (ds.all p)):=by
 simp only[rK,oneOf,zA,lD,zB,List.all_map]
 rfl
theorem aY{ds:List D}(h:ds.length<=4000):small ds=some ds:=if_pos (yE h (by decide))
theorem j8{ds:List D}{i:Nat}(h:i < ds.length):qv ds (i:Nat)=some (ds.getD i .none):=by
 have:=qD (xs:=ds) (j:=i) (v:=ds[i]) (zU.mpr ⟨h,rfl⟩)
 rw[this]
 simp[List.getD,h]
theorem vO{ds:List D}(h:0 < ds.length):qv ds 0=some (ds.getD 0 .none):=j8 (i:=0) h
theorem rH{ds:List D}(h:1 < ds.length):qv ds 1=some (ds.getD 1 .none):=j8 (i:=1) h
theorem D2{ds:List D}(h:2 < ds.length):qv ds 2=some (ds.getD 2 .none):=j8 (i:=2) h
end Dl
namespace Wm
open PySem L2 Dl PySem.Spec PyProof.Rows Pg
theorem mf{fa fb fc:Dl.Env->Option D}{ρ:Dl.Env}{a i b:Int}(ha:fa ρ=some (.int a))(hb:fb ρ=some (.int i))(hc:fc ρ=some (.int b)):fv uf uf fa fb fc ρ=some (.bool (decide (a<=i)&&decide (i<=b))):=by
 simp only[fv,ha,hb,hc,zA,uf,qJ,if_true]
 by_cases h:a<=i<;>simp[h]
theorem iK(i j:Int):Dl.d7 (.int i) (.int j)=some (.int (i - j)):=rfl
theorem eJ(i j:Int):Dl.aD (.int i) (.int j)=some (.int (i+j)):=rfl
theorem qA(d:D):Slot.all (.val d)=some d:=rfl
theorem pS(ds:List D):Slot.all (.own ds)=some (.list ds):=rfl
theorem vg:Slot.all .non=none:=rfl
theorem u9(d:D):Slot.frz (.val d)=some d:=rfl
theorem wc(ds:List D):Slot.frz (.own ds)=none:=rfl
theorem vn:Slot.frz .non=none:=rfl
local macro_rules|`(tactic| simp! [$ts,*])=>`(tactic| simp only[bY,ay,jl,aX,hX,mi,dW,bW,fB,gB,Ed,ab,fC,og,IJ,Gi,Ic,f1,f2,iK,eJ,aa,af,ak,ba,kL,cI,bU,oneOf,eC,aV,qA,pS,vg,u9,wc,vn,aM,bT,aN,bz,ck,ar,  zI,List.map_nil,List.cons_append,List.nil_append,zL,List.length_nil,List.replicate,List.getElem?_cons_zero,List.getElem?_cons_succ,Option.getD_some,Option.getD_none,zA,Option.bind_none,zB,Option.map_none,Nat.reduceAdd,Nat.reduceSub,Nat.zero_add,Nat.sub_self,if_true,reduceIte,$ts,*])
theorem gE{d:D}(h:mN d=true)(a b:Int):aR [d,.int a,.int b]=some (.bool (whole a b d)):=by
 simp! [aR,jv,kI h,kB h]
 cases d<;>simp[JP,JM,whole]
 rw[mf rfl rfl rfl]
theorem iH{d:D}(h:mN d=true)(n:Int):bj [d,.int n]=some (.bool (whole 0 (n - 1) d)):=by
 simp! [bj,iy,gE h]
noncomputable def long(a b:Int):D->Bool|.tuple ds=>decide (a<=(ds.length:Int))&&decide ((ds.length:Int)<=b)|_=>false
theorem eu{d:D}(h:mN d=true)(a b:Int):bf [d,.int a,.int b]=some (.bool (long a b d)):=by
 simp! [bf,kC,kT h]
 cases d<;>simp[DP,long]
 rw[mf rfl (i:=_) rfl rfl]
noncomputable def iD:D->Int|.int i=>i|_=>0
theorem eA{a b:Int}{d:D}(h:whole a b d=true):d=.int (iD d)/\a<=iD d/\iD d<=b:=by
 cases d<;>simp[whole] at h
 exact⟨rfl,h⟩
theorem jz{a b:Int}:∀ {ls:List D},ls.all (whole a b)=true->ls=(ls.map iD).map PyData.int
 | [],_=>rfl
 | d::ls,h=>by
  rw[List.all_cons,zF] at h
  rw[zI,zI,<- (eA h.1).1,<- jz h.2]
noncomputable def gN(n:Int):D->Bool|.tuple ls=>ls.all (whole 0 (n - 1))&&decide ((ls.map iD).Nodup)|_=>false
theorem cQ(i j:Int):bJ (.int i) (.int j)=some (.bool (decide (i=j))):=by
 simp[bJ,EI,SeqAt.shaped,PyData.canLay0,PyData.depth,PyData.eqv]
 rfl
theorem rf(i j:Int):dP (.int i) (.int j)=some (.bool (!decide (i=j))):=by
 simp[dP,Fs,SeqAt.shaped,PyData.canLay0,PyData.depth,PyData.eqv]
 rfl
theorem xA{ls:List D}{a b:Int}(h:ls.all (whole a b)=true)(hl:ls.length<=100):f2 bJ (f1 ja (fun _=>some (.tuple ls))) (ba cI (aa (fun _=>some (.tuple ls)) af)) []=some (.bool (decide ((ls.map iD).Nodup))):=by
 have e:=jz h
 have e1:ja (.tuple ls)=some (.int (many (ls.map iD))):=by
  simp only[ja,kc]
  conv=>lhs;rw[e]
  rw[dv,zA,if_pos]
  rw[zD]
  exact Nat.lt_of_le_of_lt (Nat.add_le_add_right hl 1) (by decide)
 simp! [e1,cQ]
 have:=uQ (ls.map iD)
 rw[zD] at this
 simp only[<- this,Int.ofNat_inj,yM,PyData.bool.injEq]
theorem GW(r:Dl.Env)(d:D):fG 0 (none::r) d=some (some d::r):=by simp[fG,isFree]
theorem bB{cs:List Nat}{fi:Dl.Env->Option (List D)}{ds:List D}{te:Dl.Env->Option D}{h:D->D}{ρ:Dl.Env}(hfi:fi ρ=some ds)(hl:ds.length<=4000)(hh:∀d∈ds,te (some d::cs.map fun j=>(ρ[j]?).getD none)=some (h d)):ai 1 cs fi (fG 0) (fun _=>some true) te ρ=some (ds.map h):=by
 simp only[ai,hfi,zA,cY,List.replicate,List.cons_append,List.nil_append]
 rw[oE (h:=h) fun d hd=>⟨_,GW _ d,hh d hd⟩,zA,aY (by rw[zD];exact hl)]
theorem jQ{cs:List Nat}{fi:Dl.Env->Option (List D)}{ds:List D}{tt:Dl.Env->Option Bool}{te:Dl.Env->Option D}{p:D->Bool}{h:D->D}{ρ:Dl.Env}(hfi:fi ρ=some ds)(hl:ds.length<=4000)
  (hp:∀d∈ds,tt (some d::cs.map fun j=>(ρ[j]?).getD none)=some (p d)) (hh:∀d∈ds,p d=true->te (some d::cs.map fun j=>(ρ[j]?).getD none)=some (h d)):ai 1 cs fi (fG 0) tt te ρ=some ((ds.filter p).map h):=by
 simp only[ai,hfi,zA,cY,List.replicate,List.cons_append,List.nil_append]
 rw[kb (p:=p) (h:=h) fun d hd=>⟨_,GW _ d,hp d hd,hh d hd⟩,zA,aY (by rw[zD];exact yE (List.length_filter_le _ _) hl)]
theorem rP{b k:Nat}{d:D}(h:gx b k d)(hb:b<=100)(n:Int):dJ [d,.int n]=some (.bool (gN n d)):=by
 simp! [dJ,ix,kT h.nd]
 cases d<;>try (simp[DP,gN];done)
 rename_i ls
 obtain⟨j,rfl,hl,hf⟩:=h.of_tup
 have c:=bB (cs:=[1]) (fi:=aM (ab 0)) (te:=(ak 2 bj (aa (ab 0) (aa (ab 1) af)))) (h:=fun x=>.bool (whole 0 (n - 1) x)) (ρ:=[some (.tuple ls),some (.int n)]) rfl (by omega) fun x hx=>by simp! [iH (hf x hx).nd]
 simp! [DP,Bool.not_true,Bool.false_eq_true,c,jO]
 cases e:ls.all (whole 0 (n - 1)) with
 | false=>simp[gN,e]
 | true =>
  have:=xA e (yE hl hb)
  simp only[f2,f1,ba,aa,af,zA,zB] at this
  simp! [gN,e,Bool.not_true,Bool.false_eq_true,Bool.true_and]
  simp only[cI,bU,oneOf,zA,eC,zB] at this
  simp! [this]
noncomputable def placeOk(n:Int):D->Bool|.tuple ds=>decide (ds.length=2)&&(whole 0 9 (ds.getD 0 .none)&&gN n (ds.getD 1 .none))|_=>false
noncomputable def hC(g t:Int):D->Bool|.tuple ds=>decide (ds.length=3)&&(whole 0 (g - 1) (ds.getD 0 .none)&&(whole 0 (t - 1) (ds.getD 1 .none)&&whole 1 9 (ds.getD 2 .none)))|_=>false
theorem qq(n:Nat)(ds:List D):long (n:Int) (n:Int) (.tuple ds)=decide (ds.length=n):=by
 simp only[long]
 by_cases h:ds.length=n
 ·simp[h]
 ·rw[yA h,Bool.and_eq_false_iff,decide_eq_false_iff_not,decide_eq_false_iff_not];omega
theorem getD_mem{ds:List D}{i:Nat}(h:i < ds.length):ds.getD i .none∈ds:=by simp[List.getD,h]
theorem sQ{b k:Nat}{d:D}(h:gx b k d)(hb:b<=100)(n:Int):dI [d,.int n]=some (.bool (placeOk n d)):=by
 simp! [dI,nJ,eu h.nd]
 cases d<;>try (simp[long,placeOk];done)
 rename_i ds
 obtain⟨j,rfl,hl,hf⟩:=h.of_tup
 rw[show long 2 2 (.tuple ds)=decide (ds.length=2) from qq 2 ds]
 by_cases e:ds.length=2
 ·have f0:=hf _ (getD_mem (i:=0) (by omega))
  have f1:=hf _ (getD_mem (i:=1) (by omega))
  simp! [e,decide_true,vO (show 0 < ds.length by omega),rH (show 1 < ds.length by omega),gE f0.nd,rP f1 hb,placeOk]
  cases whole 0 9 (ds.getD 0 .none)<;>simp
 ·simp[e,placeOk]
theorem AF{b k:Nat}{d:D}(h:gx b k d)(hb:b<=100)(g t:Int):fT [d,.int g,.int t]=some (.bool (hC g t d)):=by
 simp! [fT,mh,eu h.nd]
 cases d<;>try (simp[long,hC];done)
 rename_i ds
 obtain⟨j,rfl,hl,hf⟩:=h.of_tup
 rw[show long 3 3 (.tuple ds)=decide (ds.length=3) from qq 3 ds]
 by_cases e:ds.length=3
 ·have f0:=hf _ (getD_mem (i:=0) (by omega))
  have f1:=hf _ (getD_mem (i:=1) (by omega))
  have f2':=hf _ (getD_mem (i:=2) (by omega))
  simp! [e,decide_true,Bool.not_true,Bool.false_eq_true,vO (show 0 < ds.length by omega),rH (show 1 < ds.length by omega),D2 (show 2 < ds.length by omega),gE f2'.nd,iH f0.nd,iH f1.nd,hC]
  cases whole 0 (g - 1) (ds.getD 0 .none)<;>cases whole 0 (t - 1) (ds.getD 1 .none)<;>simp
 ·simp[e,hC]
noncomputable def bX:D->List D|.tuple ds=>ds|_=>[]
noncomputable def kG(d:D):Bool:=long 1 4 d
noncomputable def gQ(g t w:D):Bool:=kG g&&(kG t&&((bX g).all (placeOk (bX t).length)&&((bX t).all (placeOk (bX g).length)&&(DP w&&(bX w).all (hC (bX g).length (bX t).length)))))
theorem iA{a b:Int}{d:D}(h:long a b d=true):d=.tuple (bX d):=by cases d<;>first|rfl|cases h
theorem lC{b k:Nat}{g t w:D}(hg:gx b k g)(ht:gx b k t)(hw:gx b k w)(hb:b<=100):dO [g,t,w]=some (.bool (gQ g t w)):=by
 simp! [dO,ie,eu hg.nd,eu ht.nd,kT hw.nd]
 unfold gQ kG
 cases e1:long 1 4 g with
 | false=>simp
 | true =>
  cases e2:long 1 4 t with
  | false=>simp
  | true =>
   obtain⟨gs,rfl⟩:∃gs,g=.tuple gs:=⟨_,iA e1⟩
   obtain⟨ts,rfl⟩:∃ts,t=.tuple ts:=⟨_,iA e2⟩
   obtain⟨j,rfl,hgl,hgf⟩:=hg.of_tup
   obtain⟨j',hj,htl,htf⟩:=ht.of_tup
   have c1:=bB (cs:=[1]) (fi:=aM (ab 0)) (te:=(ak 2 dI (aa (ab 0) (aa (ba cI (aa (ab 1) af)) af)))) (h:=fun x=>.bool (placeOk ts.length x)) (ρ:=[some (.tuple gs),some (.tuple ts),some w]) rfl (by omega) fun x hx=>by simp! [sQ (hgf x hx) hb]
   have c2:=bB (cs:=[0]) (fi:=aM (ab 1)) (te:=(ak 2 dI (aa (ab 0) (aa (ba cI (aa (ab 1) af)) af)))) (h:=fun x=>.bool (placeOk gs.length x)) (ρ:=[some (.tuple gs),some (.tuple ts),some w]) rfl (by omega) fun x hx=>by simp! [sQ (htf x hx) hb]
   simp! [Bool.not_true,Bool.false_eq_true,c1,jO,bX,Bool.true_and]
   cases e3:gs.all (placeOk ts.length) with
   | false=>simp
   | true =>
    simp! [Bool.not_true,Bool.false_eq_true,c2,jO,Bool.true_and]
    cases e4:ts.all (placeOk gs.length) with
    | false=>simp
    | true =>
     cases hT:DP w with
     | false=>simp! [Bool.not_true,Bool.false_eq_true,kT hw.nd,hT,Bool.false_and,Bool.and_false]
     | true =>
     obtain⟨ws,rfl⟩:∃ws,w=.tuple ws:=by cases w<;>first|exact⟨_,rfl⟩|cases hT
     obtain⟨j2,hj2,hwl,hwf⟩:=hw.of_tup
     have c3:=bB (cs:=[0,1]) (fi:=aM (ab 2)) (te:=(ak 3 fT (aa (ab 0) (aa (ba cI (aa (ab 1) af)) (aa (ba cI (aa (ab 2) af)) af))))) (h:=fun x=>.bool (hC gs.length ts.length x)) (ρ:=[some (.tuple gs),some (.tuple ts),some (.tuple ws)]) rfl (by omega) fun x hx=>by simp! [AF (hwf x hx) hb]
     simp! [Bool.not_true,Bool.false_eq_true,c3,jO,Bool.true_and,kT hw.nd,DP]
theorem mJ:∀ (a b:List Int),PyData.eqvAll (a.map PyData.int) (b.map PyData.int)=decide (a=b)
 | [],[]=>by simp[PyData.eqvAll]
 | [],_::_=>by simp[PyData.eqvAll]
 | _::_,[]=>by simp[PyData.eqvAll]
 | i::a,j::b=>by
  rw[zI,zI,PyData.eqvAll,mJ a b]
  by_cases h:i=j
  ·subst h;simp[PyData.eqv]
  ·simp[PyData.eqv,h]
theorem nF:∀ (a b:List (List Int)),PyData.eqvAll (a.map ag) (b.map ag)=decide (a=b)
 | [],[]=>by simp[PyData.eqvAll]
 | [],_::_=>by simp[PyData.eqvAll]
 | _::_,[]=>by simp[PyData.eqvAll]
 | x::a,y::b=>by
  rw[zI,zI,PyData.eqvAll,nF a b,ag,ag,PyData.eqv,mJ]
  by_cases h:x=y
  ·subst h;simp
  ·simp[h]
theorem gF{b k:Nat}(i:Int):gx b k (.int i):=.leaf trivial
theorem vL{b k:Nat}{r:List Int}(h:r.length<=b):gx b (k+1) (ag r):=.tup (by rw[zD];exact h) fun x hx=>by
 obtain⟨i,_,rfl⟩:=zQ.mp hx
 exact gF i
theorem AG{b k:Nat}{a:List (List Int)}(h:a.length<=b)(hr:∀r∈a,r.length<=b):gx b (k+2) (.list (a.map ag)):=.lst (by rw[zD];exact h) fun x hx=>by
 obtain⟨r,hr',rfl⟩:=zQ.mp hx
 exact vL (hr r hr')
theorem wy(a:List (List Int)):∃b,a.length<=b/\∀r∈a,r.length<=b:=by
 induction a with
 | nil=>exact⟨0,Nat.le_refl _,fun r h=>by cases h⟩
 | cons x a ih =>
  obtain⟨b,h1,h2⟩:=ih
  refine⟨b+1+x.length,by rw[zL];omega,fun r hr=>?_⟩
  rcases zR.mp hr with rfl|hr
  ·omega
  ·have:=h2 r hr;omega
theorem lu(a:List (List Int)):SeqAt.shaped (.list (a.map ag))=true:=by
 obtain⟨b,h1,h2⟩:=wy a
 exact (AG (b:=b) (k:=0) h1 h2).shaped (by decide)
theorem wF(a b:List (List Int)):bJ (.list (a.map ag)) (.list (b.map ag))=some (.bool (decide (a=b))):=by
 simp only[bJ,EI,lu,and_self,if_true,PyData.eqv,nF,zB]
noncomputable def fZ(d:D):List Int:=(bX ((bX d).getD 1 .none)).map iD
theorem gC{n:Int}{d:D}(h:placeOk n d=true):∃a ds,d=.tuple ds/\ds.length=2/\ds.getD 0 .none=.int a/\0<=a/\a<=9/\ds.getD 1 .none=.tuple ((fZ d).map PyData.int)/\(fZ d).Nodup/\∀j∈fZ d,0<=j/\j<=n - 1:=by
 cases d<;>simp only[placeOk] at h<;>try cases h
 rename_i ds
 simp only[zF,zJ] at h
 obtain⟨h1,h2,h3⟩:=h
 have e:fZ (.tuple ds)=(bX (ds.getD 1 .none)).map iD:=rfl
 rw[e]
 generalize hl:ds.getD 1 .none=l at h3
 cases l<;>simp only[gN] at h3<;>try cases h3
 rename_i ls
 simp only[zF,zJ] at h3
 obtain⟨w1,w2,w3⟩:=eA h2
 refine⟨_,ds,rfl,h1,w1,w2,w3,?_,h3.2,fun j hj=>?_⟩
 ·rw[show bX (.tuple ls)=ls from rfl,<- jz h3.1];exact hl
 ·obtain⟨x,hx,rfl⟩:=zQ.mp hj
  exact (eA (List.all_eq_true.mp h3.1 x hx)).2
noncomputable def jK(k:Nat):List D->List (List Int)|[]=>[]|p::ps=>(fZ p).map (fun j=>[((k:Nat):Int),j])++jK (k+1) ps
theorem mK:∀ (n:Nat) {l:List Int},l.Nodup->(∀j∈l,0<=j/\j<=(n:Int) - 1)->l.length<=n:=by
 intro n l hn h
 have hs:l.map Int.toNat ⊆ List.range n:=fun x hx=>by
  obtain⟨j,hj,rfl⟩:=zQ.mp hx
  have:=h j hj
  exact zT.mpr (by omega)
 have hnd:(l.map Int.toNat).Nodup:=by
  refine List.pairwise_map.mpr (hn.imp_of_mem fun {x y} hx hy hne e=>hne ?_)
  have:=h x hx;have:=h y hy;omega
 have:=List.Nodup.length_le_of_subset hnd hs
 simpa using this
theorem pV{n:Nat}:∀ {ps:List D}{k:Nat},(∀p∈ps,placeOk n p=true)->(jK k ps).length<=ps.length * n
 | [],k,_=>Nat.zero_le _
 | p::ps,k,h=>by
  obtain⟨_,_,_,_,_,_,_,_,hn,hr⟩:=gC (h p zE)
  have h1:=mK n hn hr
  have h2:=pV (ps:=ps) (k:=k+1) fun q hq=>h q (zC _ hq)
  rw[jK,zN,zD,zL,Nat.succ_mul]
  omega
noncomputable def pB:ao->Option Out:=xC 1 [2,3] (ai 1 [2] (aM (f2 ar (ab 3) (fC (.int 1)))) (fG 0) (fun _=>some true) (bz (aa (ab 1) (aa (ab 0) af))))
theorem pK{n:Nat}{p x:D}{acc:List D}{k:Nat}(hp:placeOk n p=true)(hn:n<=100)(ha:acc.length<=1000):pB [.val x,.own acc,.val (.int (k:Nat)),.val p]=some (.nx [.val x,.own (acc++((fZ p).map fun j=>ag [((k:Nat):Int),j])),.val (.int (k:Nat)),.val p]):=by
 obtain⟨a,ds,rfl,hl,_,_,_,h1,hnd,hr⟩:=gC hp
 have hb:=mK n hnd hr
 generalize fZ (.tuple ds)=ls at *
 have c:=bB (cs:=[2]) (fi:=aM (f2 ar (ab 3) (fC (.int 1)))) (te:=bz (aa (ab 1) (aa (ab 0) af))) (h:=fun y=>.tuple [.int (k:Nat),y]) (ρ:=[some x,none,some (.int (k:Nat)),some (.tuple ds)]) (ds:=ls.map PyData.int)
  (by simp! [rH (show 1 < ds.length by omega),h1]) (by rw[zD];omega) fun y hy=>by
   simp! [aY (show [PyData.int (k:Nat),y].length<=4000 by simp)]
 have hh:hand [2,3] 0 [Slot.val x,.own acc,.val (.int (k:Nat)),.val (.tuple ds)]=[Slot.val x,.own acc,.val (.int (k:Nat)),.val (.tuple ds)]:=rfl
 simp only[pB,xC,hh,bR,zI,List.map_nil,Slot.frz,c,zA,kq,List.getElem?_cons_succ,List.getElem?_cons_zero]
 rw[if_pos]
 ·simp only[zB,List.set_cons_succ,List.set_cons_zero,zM]
  rfl
 ·simp only[zD]
  exact yE (show acc.length+ls.length<=1100 by omega) (by decide)
theorem oY{n:Nat}{x:D}(hn:n<=100):∀ {ps:List D}{k:Nat}{acc:List D}{s2 s3:Slot},(∀p∈ps,placeOk n p=true)->acc.length+ps.length * n<=1000 ->
  ∃t2 t3,dF (iN 2 3) pB (aI k ps) [.val x,.own acc,s2,s3]=some (.nx [.val x,.own (acc++(jK k ps).map ag),t2,t3])
 | [],k,acc,s2,s3,_,_=>⟨s2,s3,by simp[aI,dF,jK]⟩
 | p::ps,k,acc,s2,s3,h,hl=>by
  have hp:=h p zE
  obtain⟨_,_,_,_,_,_,_,_,hnd,hr⟩:=gC hp
  have hb:=mK n hnd hr
  rw[zL,Nat.succ_mul] at hl
  obtain⟨t2,t3,e⟩:=oY hn (x:=x) (ps:=ps) (k:=k+1) (acc:=acc++((fZ p).map fun j=>ag [((k:Nat):Int),j])) (s2:=.val (.int (k:Nat))) (s3:=.val p) (fun q hq=>h q (zC _ hq)) (by rw[zN,zD];omega)
  refine⟨t2,t3,?_⟩
  have hs:iN 2 3 [.val x,.own acc,s2,s3] (.tuple [.int (k:Nat),p])=some [.val x,.own acc,.val (.int (k:Nat)),.val p]:=rfl
  simp only[aI,dF,hs,zA,pK hp hn (show acc.length<=1000 by omega)]
  rw[e]
  simp[jK,zM,Function.comp_def]
theorem vi{n:Nat}{ps:List D}(h:∀p∈ps,placeOk n p=true)(hn:n<=100)(hl:ps.length * n<=1000):aS [.tuple ps]=some (.list ((jK 0 ps).map ag)):=by
 obtain⟨t2,t3,e⟩:=oY hn (x:=.tuple ps) (k:=0) (acc:=[]) (s2:=.non) (s3:=.non) h (by simpa using hl)
 have hs:aE 1 [] (ck af) [Slot.val (.tuple ps),.non,.non,.non]=some (.nx [.val (.tuple ps),.own [],.non,.non]):=rfl
 have hh:hand [0] 0 [Slot.val (.tuple ps),.own [],.non,.non]=[Slot.val (.tuple ps),.own [],.non,.non]:=rfl
 have hf:bp (aa (ab 0) af) (bR [Slot.val (.tuple ps),.own [],.non,.non])=some (aI 0 ps):=rfl
 simp! [aS,fH,hs,d5,hh,hf]
 rw[show xC 1 [2,3] (ai 1 [2] (aM (f2 ar (ab 3) (fC (.int 1)))) (fG 0) (fun _=>some true) (bz (aa (ab 1) (aa (ab 0) af))))=pB from rfl,e]
 simp! []
noncomputable def dX(d:D):List Int:=[iD ((bX d).getD 0 .none),iD ((bX d).getD 1 .none)]
theorem uA{g t:Int}{d:D}(h:hC g t d=true):∃ds c,d=.tuple ds/\ds.length=3/\ds.getD 0 .none=.int (iD (ds.getD 0 .none))/\ds.getD 1 .none=.int (iD (ds.getD 1 .none))/\ds.getD 2 .none=.int c/\1<=c/\c<=9 /\
  0<=iD (ds.getD 0 .none)/\iD (ds.getD 0 .none)<=g - 1/\0<=iD (ds.getD 1 .none)/\iD (ds.getD 1 .none)<=t - 1:=by
 cases d<;>simp only[hC] at h<;>try cases h
 rename_i ds
 simp only[zF,zJ] at h
 obtain⟨h1,h2,h3,h4⟩:=h
 have a:=eA h2
 have b:=eA h3
 have c:=eA h4
 exact⟨ds,_,rfl,h1,a.1,b.1,c.1,c.2.1,c.2.2,a.2.1,a.2.2,b.2.1,b.2.2⟩
noncomputable def uv(g t w:D):Bool:=decide ((bX w).map dX=nL (jK 0 (bX g)))&&decide ((bX w).map dX=nL ((jK 0 (bX t)).map List.reverse))
noncomputable def Iw(d:D):Bool:=long 3 3 d&&(gQ ((bX d).getD 0 .none) ((bX d).getD 1 .none) ((bX d).getD 2 .none)&&uv ((bX d).getD 0 .none) ((bX d).getD 1 .none) ((bX d).getD 2 .none))
theorem i3:∀ {ps:List D}{k:Nat},∀r∈jK k ps,∃i j,r=[i,j]
 | [],k,r,h=>by cases h
 | p::ps,k,r,h=>by
  rcases List.mem_append.mp h with h|h
  ·obtain⟨j,_,rfl⟩:=zQ.mp h;exact⟨_,_,rfl⟩
  ·exact i3 r h
theorem j4{a:List (List Int)}(h:∀r∈a,∃i j,r=[i,j])(hl:a.length < 64):eW [.list (a.map ag)]=some ((nL a).map ag):=by
 have:∀ns∈a,ns≠[]:=fun ns hn=>by obtain⟨i,j,rfl⟩:=h ns hn;exact List.cons_ne_nil _ _
 simp only[eW,oneOf,zA,mT this,if_pos hl]
theorem oK:∀ {a:List (List Int)},(∀r∈a,∃i j,r=[i,j])->bQ (gu 0 1) (fun _=>some true) (bz (aa (ab 1) (aa (ab 0) af))) [none,none] (a.map ag)=some ((a.map List.reverse).map ag)
 | [],_=>rfl
 | r::a,h=>by
  obtain⟨i,j,rfl⟩:=h r zE
  have ih:=oK (a:=a) fun q hq=>h q (zC _ hq)
  have e:gu 0 1 [none,none] (ag [i,j])=some [some (.int i),some (.int j)]:=rfl
  rw[zI,bQ,e,zA,zA,if_pos rfl,ih]
  simp! [aY (show [PyData.int j,.int i].length<=4000 by simp)]
  rfl
theorem xn{a:List (List Int)}{fi:Dl.Env->Option (List D)}{ρ:Dl.Env}(hfi:fi ρ=some (a.map ag))(hl:a.length<=4000)(h:∀r∈a,∃i j,r=[i,j]):ai 2 [] fi (gu 0 1) (fun _=>some true) (bz (aa (ab 1) (aa (ab 0) af))) ρ=some ((a.map List.reverse).map ag):=by
 simp only[ai,hfi,zA,cY,List.replicate,List.cons_append,List.nil_append,List.map_nil]
 rw[oK h,zA,aY (by rw[zD,zD];exact hl)]
theorem td{g t w:D}(h:gQ g t w=true):∃gs ts ws,g=.tuple gs/\t=.tuple ts/\w=.tuple ws/\1<=gs.length/\gs.length<=4/\1<=ts.length/\ts.length<=4/\(∀p∈gs,placeOk ts.length p=true)/\(∀p∈ts,placeOk gs.length p=true)/\∀x∈ws,hC gs.length ts.length x=true:=by
 simp only[gQ,kG,zF] at h
 obtain⟨h1,h2,h3,h4,h5,h6⟩:=h
 cases w<;>try cases h5
 rename_i ws
 have e1:=iA h1
 have e2:=iA h2
 generalize bX g=gs at *
 generalize bX t=ts at *
 subst e1 e2
 simp only[long,zF,zJ] at h1 h2
 exact⟨gs,ts,ws,rfl,rfl,rfl,by omega,by omega,by omega,by omega,List.all_eq_true.mp h3,List.all_eq_true.mp h4,List.all_eq_true.mp h6⟩
theorem uP{b k:Nat}{d:D}(h:gx b k d)(hb:b<=100):bO [d]=some (.bool (Iw d)):=by
 unfold Iw
 cases e1:long 3 3 d with
 | false=>simp! [bO,eN,eu h.nd,e1,Bool.not_false,Bool.false_and]
 | true =>
  obtain⟨ds,rfl⟩:∃ds,d=.tuple ds:=⟨_,iA e1⟩
  obtain⟨j,rfl,hl,hf⟩:=h.of_tup
  rw[show long 3 3 (.tuple ds)=decide (ds.length=3) from qq 3 ds,zJ] at e1
  have f0:=hf _ (getD_mem (i:=0) (by omega))
  have f1:=hf _ (getD_mem (i:=1) (by omega))
  have f2':=hf _ (getD_mem (i:=2) (by omega))
  have i0:=vO (show 0 < ds.length by omega)
  have i1:=rH (show 1 < ds.length by omega)
  have i2:=D2 (show 2 < ds.length by omega)
  have el:bf [.tuple ds,.int 3,.int 3]=some (.bool true):=by rw[eu rfl,show long 3 3 (.tuple ds)=decide (ds.length=3) from qq 3 ds,yB e1]
  rw[show bX (.tuple ds)=ds from rfl,Bool.true_and]
  generalize hg:ds.getD 0 .none=g at *
  generalize ht:ds.getD 1 .none=t at *
  generalize hw:ds.getD 2 .none=w at *
  cases e2:gQ g t w with
  | false=>simp! [bO,eN,el,i0,i1,i2,lC f0 f1 f2' hb,e2,Bool.not_false,Bool.not_true,Bool.false_and]
  | true =>
   obtain⟨gs,ts,ws,rfl,rfl,rfl,g1,g4,t1,t4,hG,hT,hW⟩:=td e2
   have hfw:=f2'.of_tup
   obtain⟨j2,_,hwl,_⟩:=hfw
   have q1:=pV (k:=0) hG
   have q2:=pV (k:=0) hT
   have m1:gs.length * ts.length<=16:=Nat.mul_le_mul g4 t4
   have m2:ts.length * gs.length<=16:=Nat.mul_le_mul t4 g4
   have l1:=vi hG (by omega) (by omega)
   have l2:=vi hT (by omega) (by omega)
   have s1:=j4 (a:=jK 0 gs) i3 (by omega)
   have s2:=j4 (a:=(jK 0 ts).map List.reverse) (fun r hr=>by
    obtain⟨q,hq,rfl⟩:=zQ.mp hr
    obtain⟨i,j,rfl⟩:=i3 q hq
    exact⟨j,i,rfl⟩) (by rw[zD];omega)
   have c1:ai 1 [] (aM (f2 ar (ab 0) (fC (.int 2)))) (fG 0) (fun _=>some true) (bz (aa (f2 ar (ab 0) (fC (.int 0))) (aa (f2 ar (ab 0) (fC (.int 1))) af))) [some (.tuple ds),none,none,none]=some ((ws.map dX).map ag):=by
    rw[bB (ds:=ws) (h:=fun x=>ag (dX x)) (by simp! [i2]) (by omega) fun x hx=>?_,zM]
    ·rfl
    ·obtain⟨vs,c,rfl,v3,v0,v1,_⟩:=uA (hW x hx)
     simp! [vO (show 0 < vs.length by omega),rH (show 1 < vs.length by omega),aY (show [vs.getD 0 PyData.none,vs.getD 1 .none].length<=4000 by simp),ag,dX,bX]
     rw[<- v0,<- v1]
   have c2:∀x y z,ai 2 [] (aM (ak 1 aS (aa (f2 ar (ab 0) (fC (.int 1))) af))) (gu 0 1) (fun _=>some true) (bz (aa (ab 1) (aa (ab 0) af))) [some (.tuple ds),x,y,z]=some (((jK 0 ts).map List.reverse).map ag):=fun x y z =>
    xn (by simp! [i1,l2]) (by omega) i3
   have st1:aE 1 [0] (ai 1 [] (aM (f2 ar (ab 0) (fC (.int 2)))) (fG 0) (fun _=>some true) (bz (aa (f2 ar (ab 0) (fC (.int 0))) (aa (f2 ar (ab 0) (fC (.int 1))) af)))) [Slot.val (.tuple ds),.non,.non,.non]=some (.nx [.val (.tuple ds),.own ((ws.map dX).map ag),.non,.non]):=by
    have hh:hand [0] 0 [Slot.val (.tuple ds),.non,.non,.non]=[Slot.val (.tuple ds),.non,.non,.non]:=rfl
    simp only[aE,hh,bR,zI,List.map_nil,Slot.frz,c1,zB,List.set_cons_succ,List.set_cons_zero]
   have st2:aE 2 [0] (kL eW (aa (ak 1 aS (aa (f2 ar (ab 0) (fC (.int 0))) af)) af)) [Slot.val (.tuple ds),.own ((ws.map dX).map ag),.non,.non]=some (.nx [.val (.tuple ds),.own ((ws.map dX).map ag),.own ((nL (jK 0 gs)).map ag),.non]):=by
    have hh:hand [0] 0 [Slot.val (.tuple ds),.own ((ws.map dX).map ag),.non,.non]=[Slot.val (.tuple ds),.own ((ws.map dX).map ag),.non,.non]:=rfl
    simp only[aE,hh,bR,zI,List.map_nil,Slot.frz]
    simp! [i0,l1,s1,List.set_cons_succ,List.set_cons_zero]
   have st3:aE 3 [0] (kL eW (aa (bT (ai 2 [] (aM (ak 1 aS (aa (f2 ar (ab 0) (fC (.int 1))) af))) (gu 0 1) (fun _=>some true) (bz (aa (ab 1) (aa (ab 0) af))))) af)) [Slot.val (.tuple ds),.own ((ws.map dX).map ag),.own ((nL (jK 0 gs)).map ag),.non]
      =some (.nx [.val (.tuple ds),.own ((ws.map dX).map ag),.own ((nL (jK 0 gs)).map ag),.own ((nL ((jK 0 ts).map List.reverse)).map ag)]):=by
    have hh:hand [0] 0 [Slot.val (.tuple ds),.own ((ws.map dX).map ag),.own ((nL (jK 0 gs)).map ag),.non]=[Slot.val (.tuple ds),.own ((ws.map dX).map ag),.own ((nL (jK 0 gs)).map ag),.non]:=rfl
    simp only[aE,hh,bR,zI,List.map_nil,Slot.frz]
    simp! [c2,s2,List.set_cons_succ,List.set_cons_zero]
   simp! [bO,eN,el,i0,i1,i2,lC f0 f1 f2' hb,e2,Bool.not_true,Bool.false_eq_true,st1,st2,st3,wF,uv,bX,Bool.true_and]
   by_cases hq:List.map dX ws=nL (jK 0 gs)<;>simp[hq]
theorem uZ(xs:List D):PyData.eqvAll xs []=xs.isEmpty:=by cases xs<;>simp[PyData.eqvAll]
theorem tX:SeqAt.shaped (.list [])=true:=by simp[SeqAt.shaped,PyData.canLay0,PyData.canLayAll0,PyData.depth,PyData.depthAll]
theorem zv{b k:Nat}{xs:List D}(h:∀x∈xs,gx b k x)(hk:k<=60):bJ (.list xs) (.list [])=some (.bool xs.isEmpty):=by
 have hs:SeqAt.shaped (.list xs)=true:=(gx.lst (b:=max b xs.length) (k:=k) (Nat.le_max_right _ _) fun x hx=>(h x hx).mono (Nat.le_max_left _ _) (Nat.le_refl _)).shaped (by omega)
 simp only[bJ,EI,hs,tX,and_self,if_true,PyData.eqv,uZ,zB]
theorem fV:small []=some []:=rfl
theorem Bu{α:Type}(xs:List α)(k:Nat):cut xs (some (k:Int)) none=xs.drop k:=by
 simp only[cut,HT.zk,HT.BZ]
 rw[List.take_of_length_le (by rw[List.length_drop];omega)]
 by_cases h:k<=xs.length
 ·rw[Nat.min_eq_left h]
 ·rw[Nat.min_eq_right (by omega),List.drop_of_length_le (Nat.le_refl _),List.drop_of_length_le (by omega)]
theorem eR(b:Bool):gB (.bool b)=some b:=rfl
noncomputable def Kh(P:List (List Int))(i j:Int)(lp lq:List Int):Bool:=decide ([i,j]∈P) == decide (j∈lp)&&decide ([i,j]∈P) == decide (i∈lq)
noncomputable def JL(P:List (List Int))(i:Int)(lp:List Int):Nat->List D->Bool|_,[]=>true|k,q::qs=>Kh P i k lp (fZ q)&&JL P i lp (k+1) qs
noncomputable def IK(P:List (List Int))(ts:List D):Nat->List D->Bool|_,[]=>true|k,p::ps=>JL P k (fZ p) 0 ts&&IK P ts (k+1) ps
theorem tT(a b:D):small [a,b]=some [a,b]:=rfl
theorem Af(ρ:Dl.Env):aF (aa (fC (.int 2)) af) ρ=some [.int 0,.int 1]:=by
 have:sC 2=true:=by decide
 simp! [aF,iW,this]
 rfl
theorem ke:∀ (ρ:ao) (k:Nat),hand [] k ρ=ρ
 | [],k=>rfl
 | s::r,k=>by simp[hand,ke r]
theorem l4:∀ {ps:List D}{k:Nat}{i j:Int},[i,j]∈jK k ps↔∃m p,ps[m]?=some p/\i=((k+m:Nat):Int)/\j∈fZ p
 | [],k,i,j=>by simp[jK]
 | p::ps,k,i,j=>by
  rw[jK,List.mem_append,l4 (ps:=ps)]
  constructor
  ·rintro (h|⟨m,q,h1,h2,h3⟩)
   ·obtain⟨y,hy,e⟩:=zQ.mp h
    injection e with e1 e2
    injection e2 with e2 _
    exact⟨0,p,rfl,by simpa using e1.symm,e2 ▸ hy⟩
   ·exact⟨m+1,q,by simpa using h1,by rw[h2];congr 1;omega,h3⟩
  ·rintro⟨m,q,h1,h2,h3⟩
   cases m with
   | zero =>
    simp at h1
    subst h1
    exact .inl (zQ.mpr ⟨j,h3,by rw[h2];rfl⟩)
   | succ m=>exact .inr ⟨m,q,by simpa using h1,by rw[h2];congr 1;omega,h3⟩
theorem o4:∀ {ps:List D}{k:Nat},(∀p∈ps,(fZ p).Nodup)->(jK k ps).Nodup
 | [],k,_=>List.nodup_nil
 | p::ps,k,h=>by
  rw[jK,List.nodup_append]
  refine⟨List.pairwise_map.mpr ((h p zE).imp fun hne e=>hne ?_),o4 fun q hq=>h q (zC _ hq),?_⟩
  rotate_left
  ·injection e with _ e2
   injection e2
  ·rintro a ha b hb rfl
   obtain⟨y,hy,rfl⟩:=zQ.mp ha
   obtain⟨m,q,h1,h2,h3⟩:=l4.mp hb
   omega
theorem Ih{a b:List Int}(h:Dl.lexLt a b=true):lexLe a b=true:=by
 unfold lexLe
 cases e:Dl.lexLt b a with
 | false=>rfl
 | true=>have:=dq h e;rw[eO] at this;cases this
theorem cP{i j:Int}(h:pW i j):Dl.dQ (.int i) (.int j)=some (.int (i * j)):=by
 simp only[Dl.dQ,qJ,if_pos h,Option.some_or]
theorem eI{i j:Int}(h:0 < j):Dl.gq (.int i) (.int j)=some (.int (i % j)):=if_pos h
theorem ik{i j:Int}(h:0 < j/\j < 1073741824):Dl.jM (.int i) (.int j)=some (.int (i / j)):=if_pos h
theorem gD(i j:Int):Dl.BI (.int i) (.int j)=some (.bool (decide (j < i))):=rfl
theorem jR(i j:Int):Dl.CY (.int i) (.int j)=some (.bool (decide (i < j))):=rfl
theorem jE{i j:Int}(h:-(2 ^ 64) < i/\i < 2 ^ 64):pW i j:=.inl h
theorem y4{i j:Int}(h:-(2 ^ 64) < j/\j < 2 ^ 64):pW i j:=.inr h
theorem rM(i:Int):Dl.kJ (.int i)=true:=rfl
theorem tm(i:List D):Dl.kJ (.tuple i)=false:=rfl
noncomputable def bV(ns:List Int):D:=.list (ns.map PyData.int)
theorem EG{ns:List Int}(k:Int)(hl:ns.length<=63):∃c,cL [bV ns,.int k]=some (.int c):=by
 have heq:bJ (.list (ns.map PyData.int)) (.list [])=some (.bool ns.isEmpty):=by
  have:=zv (b:=0) (k:=0) (xs:=ns.map PyData.int) (fun x hx=>by obtain⟨i,_,rfl⟩:=zQ.mp hx;exact gF i) (by decide)
  rw[this];cases ns<;>rfl
 by_cases hn:ns=[]
 ·subst hn
  refine⟨7 * k,?_⟩
  rw[List.map_nil,List.isEmpty_nil] at heq
  simp! [cL,eQ,bV,fV,heq,List.isEmpty_nil,cP (jE (i:=7) (j:=k) (by decide))]
 ·have hpos:(0:Int) < (ns.length:Int):=by have:=List.length_pos_iff.mpr hn;omega
  have he:ns.isEmpty=false:=by cases ns<;>first|rfl|exact absurd rfl hn
  obtain⟨j,hj⟩:=Int.eq_ofNat_of_zero_le (Int.emod_nonneg k (show (ns.length:Int)≠0 by omega))
  have hlt:=Int.emod_lt_of_pos k hpos
  have hx:qv (ns.map PyData.int) (k % (ns.length:Int))=some (.int (ns.getD j 0)):=by
   rw[hj]
   have:j < (ns.map PyData.int).length:=by rw[zD];omega
   rw[j8 this,zG,zO,zG]
   rw[zK (by omega)]
   rfl
  refine⟨ns.getD j 0+6553 * (k / (ns.length:Int)),?_⟩
  simp! [cL,eQ,bV,fV,heq,he,Bool.false_eq_true,zD,eI hpos,hx,ik (i:=k) (j:=(ns.length:Int)) ⟨hpos,by omega⟩,cP (jE (i:=6553) (j:=k / (ns.length:Int)) (by decide))]
theorem Dd{ns:List Int}(k many:Int)(hl:ns.length<=63)(hm:0 < many):∃r,ah [bV ns,.int k,.int many]=some (.int r)/\0<=r/\r < many:=by
 obtain⟨c,hc⟩:=EG k hl
 have m1:∀i:Int,Dl.gq (.int i) (.int 2147483563)=some (.int (i % 2147483563)):=fun i=>eI (by decide)
 have m2:∀i:Int,Dl.gq (.int i) (.int 2147483399)=some (.int (i % 2147483399)):=fun i=>eI (by decide)
 have m3:∀i:Int,Dl.gq (.int i) (.int 2147483647)=some (.int (i % 2147483647)):=fun i=>eI (by decide)
 have d1:∀i:Int,Dl.jM (.int i) (.int 3)=some (.int (i / 3)):=fun i=>ik (by decide)
 have d2:∀i:Int,Dl.jM (.int i) (.int 7)=some (.int (i / 7)):=fun i=>ik (by decide)
 have d3:∀i:Int,Dl.jM (.int i) (.int 11)=some (.int (i / 11)):=fun i=>ik (by decide)
 have u1:∀i:Int,Dl.dQ (.int i) (.int 69069)=some (.int (i * 69069)):=fun i=>cP (y4 (by decide))
 have u2:∀i:Int,Dl.dQ (.int 104723) (.int i)=some (.int (104723 * i)):=fun i=>cP (jE (by decide))
 have b1:∀x:Int,Dl.dQ (.int (x % 2147483563)) (.int (x % 2147483563))=some (.int (x % 2147483563 * (x % 2147483563))):=fun x=>cP (jE (by
  have:=Int.emod_nonneg x (show (2147483563:Int)≠0 by decide)
  have:=Int.emod_lt_of_pos x (show (0:Int) < 2147483563 by decide)
  omega))
 have b2:∀x:Int,Dl.dQ (.int (x % 2147483399)) (.int (x % 2147483399))=some (.int (x % 2147483399 * (x % 2147483399))):=fun x=>cP (jE (by
  have:=Int.emod_nonneg x (show (2147483399:Int)≠0 by decide)
  have:=Int.emod_lt_of_pos x (show (0:Int) < 2147483399 by decide)
  omega))
 suffices h:∃x,ah [bV ns,.int k,.int many]=some (.int (x % many)) by
  obtain⟨x,hx⟩:=h
  exact⟨_,hx,Int.emod_nonneg x (show many≠0 by omega),Int.emod_lt_of_pos x hm⟩
 ·refine⟨(((((c % 2147483563 * 69069+104723 * (k+1)) % 2147483563) * ((c % 2147483563 * 69069+104723 * (k+1)) % 2147483563)+((c % 2147483563 * 69069+104723 * (k+1)) % 2147483563) / 3) % 2147483399) * ((((c % 2147483563 * 69069+104723 * (k+1)) % 2147483563) * ((c % 2147483563 * 69069+104723 * (k+1)) % 2147483563)+((c % 2147483563 * 69069+104723 * (k+1)) % 2147483563) / 3) % 2147483399)+((((c % 2147483563 * 69069+104723 * (k+1)) % 2147483563) * ((c % 2147483563 * 69069+104723 * (k+1)) % 2147483563)+((c % 2147483563 * 69069+104723 * (k+1)) % 2147483563) / 3) % 2147483399) / 7) % 2147483647 / 11,?_⟩
  simp! [ah,gG,hc,m1,u1,u2,Dl.aU,rM,List.set_cons_succ,List.set_cons_zero,b1,d1,m2,b2,d2,m3,d3,eI (j:=many) hm]
noncomputable def dr(ns:List Int)(k many:Int):Int:=iD ((ah [bV ns,.int k,.int many]).getD .none)
theorem du{ns:List Int}(k many:Int)(hl:ns.length<=63)(hm:0 < many):ah [bV ns,.int k,.int many]=some (.int (dr ns k many))/\0<=dr ns k many/\dr ns k many < many:=by
 obtain⟨r,h1,h2⟩:=Dd k many hl hm
 have:dr ns k many=r:=by simp only[dr,h1,Option.getD_some,iD]
 rw[this];exact⟨h1,h2⟩
theorem mw{ns:List Int}(k many:Int)(hl:ns.length<=63)(hm:0 < many):ah [bV ns,.int k,.int many]=some (.int (dr ns k many)):=(du k many hl hm).1
theorem Ii{ns:List Int}(k many:Int)(hl:ns.length<=63)(hm:0 < many):0<=dr ns k many:=(du k many hl hm).2.1
theorem Ik{ns:List Int}(k many:Int)(hl:ns.length<=63)(hm:0 < many):dr ns k many < many:=(du k many hl hm).2.2
noncomputable def bH(r:List Int):D:=.list (r.map PyData.int)
noncomputable def insI(ds:List Int)(k:Int)(d:Int):List Int:=let j:=if k < 0 then (k+(ds.length:Int)).toNat else min k.toNat ds.length;ds.take j++d::ds.drop j
theorem wY(ds:List Int)(k d:Int):we (ds.map PyData.int) k (.int d)=(insI ds k d).map PyData.int:=by
 simp only[we,insI,zD,List.map_append,zI,List.map_take,List.map_drop]
theorem insI_perm(ds:List Int)(k d:Int):(insI ds k d).Perm (d::ds):=by
 simp only[insI]
 refine List.perm_middle.trans ?_
 rw[List.take_append_drop]
noncomputable def oB:ao->Option Out:=(yX 6 [8] (ak 3 ah (aa (ab 0) (aa (f2 aD (f2 aD (ab 1) (f2 dQ (fC (.int 4)) (ab 4))) (ab 7)) (aa (f2 aD (ba cI (aa (ab 6) af)) (fC (.int 1))) af)))) (ab 8))
theorem FN{ns order:List Int}{a k j x:Int}{s2 s3 s5:Slot}(hl:ns.length<=63)(ho:order.length<=1000) :
  oB [.val (bV ns),.val (.int a),s2,s3,.val (.int k),s5,.own (order.map PyData.int),.val (.int j),.val (.int x)] =
   some (.nx [.val (bV ns),.val (.int a),s2,s3,.val (.int k),s5,.own ((insI order (dr ns (a+4 * k+j) ((order.length:Int)+1)) x).map PyData.int),.val (.int j),.val (.int x)]):=by
 have h4:Dl.dQ (.int 4) (.int k)=some (.int (4 * k)):=cP (jE (by decide))
 have hd:=du (ns:=ns) (a+4 * k+j) ((order.length:Int)+1) hl (by omega)
 have hr:sC (dr ns (a+4 * k+j) ((order.length:Int)+1))=true:=by
  simp only[sC,zF,zJ]
  omega
 have hz:(order.map PyData.int).length < sizeLine:=by rw[zD];exact Nat.lt_of_le_of_lt ho (by decide)
 simp! [oB,yX,lb,rM,kq,zD,h4,hd.1]
 rw[zD] at hz
 simp only[hr,hz,and_self,if_true,zB,wY,List.set_cons_succ,List.set_cons_zero]
theorem AU{ns:List Int}{a k:Int}{s2 s3 s5:Slot}(hl:ns.length<=63):∀ {row order:List Int}{j:Nat}{s7 s8:Slot},order.length+row.length<=1000 ->
  ∃ (o:List Int) (t7 t8:Slot),dF (iN 7 8) oB (aI j (row.map PyData.int)) [.val (bV ns),.val (.int a),s2,s3,.val (.int k),s5,.own (order.map PyData.int),s7,s8] =
   some (.nx [.val (bV ns),.val (.int a),s2,s3,.val (.int k),s5,.own (o.map PyData.int),t7,t8])/\o.Perm (row++order)
 | [],order,j,s7,s8,_=>⟨order,s7,s8,by simp[aI,dF],by simp⟩
 | x::row,order,j,s7,s8,h=>by
  rw[zL] at h
  have hp:=insI_perm order (dr ns (a+4 * k+((j:Nat):Int)) ((order.length:Int)+1)) x
  have hlen:=hp.length_eq
  rw[zL] at hlen
  obtain⟨o,t7,t8,e,p⟩:=AU (s2:=s2) (s3:=s3) (s5:=s5) (a:=a) (k:=k) hl (row:=row) (order:=insI order (dr ns (a+4 * k+((j:Nat):Int)) ((order.length:Int)+1)) x) (j:=j+1) (s7:=.val (.int (j:Nat))) (s8:=.val (.int x)) (by omega)
  refine⟨o,t7,t8,?_,p.trans ?_⟩
  ·have hs:iN 7 8 [.val (bV ns),.val (.int a),s2,s3,.val (.int k),s5,.own (order.map PyData.int),s7,s8] (.tuple [.int (j:Nat),.int x])=some [.val (bV ns),.val (.int a),s2,s3,.val (.int k),s5,.own (order.map PyData.int),.val (.int (j:Nat)),.val (.int x)]:=rfl
   simp only[zI,aI,dF,hs,zA,FN hl (show order.length<=1000 by omega),e]
  ·refine (hp.append_left row).trans ?_
   rw[List.cons_append]
   exact List.perm_middle
noncomputable def ma:List (List Int)->List (List Int)->Prop|[],[]=>True|a::l,b::m=>a.Perm b/\ma l m|_,_=>False
noncomputable def rB:ao->Option Out:=(ay (aE 6 [] (ck af)) (ay (d5 [5] (bp (aa (ab 5) af)) (iN 7 8) oB) (oo 3 [6] (ba aN (aa (ab 6) af)))))
theorem Fk{ns row:List Int}{a k:Int}{rows:D}{found:List D}{s6 s7 s8:Slot}(hl:ns.length<=63)(hr:row.length<=1000)(hf:found.length<=1000) :
  ∃ (o:List Int) (t7 t8:Slot),rB [.val (bV ns),.val (.int a),.val rows,.own found,.val (.int k),.val (bH row),s6,s7,s8]=some (.nx [.val (bV ns),.val (.int a),.val rows,.own (found++[ag o]),.val (.int k),.val (bH row),.val (bH o),t7,t8])/\o.Perm row:=by
 obtain⟨o,t7,t8,e,p⟩:=AU (s2:=.val rows) (s3:=.own found) (s5:=.val (bH row)) (a:=a) (k:=k) hl (row:=row) (order:=[]) (j:=0) (s7:=s7) (s8:=s8) (by simpa using hr)
 rw[List.append_nil] at p
 refine⟨o,t7,t8,?_,p⟩
 have h1:aE 6 [] (ck af) [.val (bV ns),.val (.int a),.val rows,.own found,.val (.int k),.val (bH row),s6,s7,s8]=some (.nx [.val (bV ns),.val (.int a),.val rows,.own found,.val (.int k),.val (bH row),.own [],s7,s8]):=by
  simp only[aE,ke,ck,af,zA,fV,zB,List.set_cons_succ,List.set_cons_zero]
 have h2:d5 [5] (bp (aa (ab 5) af)) (iN 7 8) oB [.val (bV ns),.val (.int a),.val rows,.own found,.val (.int k),.val (bH row),.own [],s7,s8]=some (.nx [.val (bV ns),.val (.int a),.val rows,.own found,.val (.int k),.val (bH row),.own (o.map PyData.int),t7,t8]):=by
  have hh:hand [5] 0 [Slot.val (bV ns),.val (.int a),.val rows,.own found,.val (.int k),.val (bH row),.own [],s7,s8]=[Slot.val (bV ns),.val (.int a),.val rows,.own found,.val (.int k),.val (bH row),.own [],s7,s8]:=rfl
  have hq:bp (aa (ab 5) af) (bR [Slot.val (bV ns),.val (.int a),.val rows,.own found,.val (.int k),.val (bH row),.own [],s7,s8])=some (aI 0 (row.map PyData.int)):=by
   simp only[bR,zI,List.map_nil]
   simp! [bp,bH]
  simp only[d5,hh,hq,zA]
  exact e
 have h3:oo 3 [6] (ba aN (aa (ab 6) af)) [.val (bV ns),.val (.int a),.val rows,.own found,.val (.int k),.val (bH row),.own (o.map PyData.int),t7,t8]=some (.nx [.val (bV ns),.val (.int a),.val rows,.own (found++[ag o]),.val (.int k),.val (bH row),.val (bH o),t7,t8]):=by
  have hz:found.length < sizeLine:=Nat.lt_of_le_of_lt hf (by decide)
  have hh:hand [6] 0 [Slot.val (bV ns),.val (.int a),.val rows,.own found,.val (.int k),.val (bH row),.own (o.map PyData.int),t7,t8]=[Slot.val (bV ns),.val (.int a),.val rows,.own found,.val (.int k),.val (bH row),.val (bH o),t7,t8]:=rfl
  simp only[oo,lb,hh,bR,zI,List.map_nil]
  simp! [tm,Bool.false_eq_true,kq,hz,List.set_cons_succ,List.set_cons_zero,bH,ag]
 simp only[rB,ay,h1,h2,h3,zA]
theorem A8{ns:List Int}{a:Int}{rws:D}(hl:ns.length<=63):∀ {rows:List (List Int)}{found:List D}{k:Nat}{s4 s5 s6 s7 s8:Slot},(∀r∈rows,r.length<=1000)->found.length+rows.length<=1000 ->
  ∃ (os:List (List Int)) (t4 t5 t6 t7 t8:Slot),dF (iN 4 5) rB (aI k (rows.map bH)) [.val (bV ns),.val (.int a),.val rws,.own found,s4,s5,s6,s7,s8]=some (.nx [.val (bV ns),.val (.int a),.val rws,.own (found++os.map ag),t4,t5,t6,t7,t8])/\ma os rows
 | [],found,k,s4,s5,s6,s7,s8,_,_=>⟨[],s4,s5,s6,s7,s8,by simp[aI,dF],trivial⟩
 | r::rows,found,k,s4,s5,s6,s7,s8,h,hf=>by
  rw[zL] at hf
  obtain⟨o,u7,u8,e1,p1⟩:=Fk (rows:=rws) (a:=a) (k:=((k:Nat):Int)) (s6:=s6) (s7:=s7) (s8:=s8) hl (h r zE) (show found.length<=1000 by omega)
  obtain⟨os,t4,t5,t6,t7,t8,e,p⟩:=A8 hl (rws:=rws) (a:=a) (rows:=rows) (found:=found++[ag o]) (k:=k+1) (s4:=.val (.int (k:Nat))) (s5:=.val (bH r)) (s6:=.val (bH o)) (s7:=u7) (s8:=u8) (fun r' hr'=>h r' (zC _ hr')) (by rw[zN,List.length_singleton];omega)
  refine⟨o::os,t4,t5,t6,t7,t8,?_,p1,p⟩
  have hs:iN 4 5 [.val (bV ns),.val (.int a),.val rws,.own found,s4,s5,s6,s7,s8] (.tuple [.int (k:Nat),bH r])=some [.val (bV ns),.val (.int a),.val rws,.own found,.val (.int (k:Nat)),.val (bH r),s6,s7,s8]:=rfl
  simp only[zI,aI,dF,hs,zA,e1]
  rw[e,List.append_assoc]
  rfl
theorem sf{ns:List Int}{a:Int}{rows:List (List Int)}(hl:ns.length<=63)(hr:∀r∈rows,r.length<=1000)(hn:rows.length<=1000):∃os:List (List Int),bc [bV ns,.int a,.list (rows.map bH)]=some (.list (os.map ag))/\ma os rows:=by
 obtain⟨os,t4,t5,t6,t7,t8,e,p⟩:=A8 hl (rws:=.list (rows.map bH)) (a:=a) (rows:=rows) (found:=[]) (k:=0) (s4:=.non) (s5:=.non) (s6:=.non) (s7:=.non) (s8:=.non) hr (by simpa using hn)
 refine⟨os,?_,p⟩
 rw[List.nil_append] at e
 have h1:aE 3 [] (ck af) [.val (bV ns),.val (.int a),.val (.list (rows.map bH)),.non,.non,.non,.non,.non,.non]=some (.nx [.val (bV ns),.val (.int a),.val (.list (rows.map bH)),.own [],.non,.non,.non,.non,.non]):=by
  simp only[aE,ke,ck,af,zA,fV,zB,List.set_cons_succ,List.set_cons_zero]
 have h2:d5 [2] (bp (aa (ab 2) af)) (iN 4 5) rB [.val (bV ns),.val (.int a),.val (.list (rows.map bH)),.own [],.non,.non,.non,.non,.non]=some (.nx [.val (bV ns),.val (.int a),.val (.list (rows.map bH)),.own (os.map ag),t4,t5,t6,t7,t8]):=by
  have hh:hand [2] 0 [Slot.val (bV ns),.val (.int a),.val (.list (rows.map bH)),.own [],.non,.non,.non,.non,.non]=[Slot.val (bV ns),.val (.int a),.val (.list (rows.map bH)),.own [],.non,.non,.non,.non,.non]:=rfl
  have hq:bp (aa (ab 2) af) (bR [Slot.val (bV ns),.val (.int a),.val (.list (rows.map bH)),.own [],.non,.non,.non,.non,.non])=some (aI 0 (rows.map bH)):=by
   simp only[bR,zI,List.map_nil]
   simp! [bp]
  simp only[d5,hh,hq,zA]
  exact e
 unfold rB oB at h2
 simp! [bc,fE,h1,h2]
noncomputable abbrev Pl:=Int×List Int
noncomputable abbrev Wy:=Int×Int×Int
noncomputable def bG(p:Pl):D:=.tuple [.int p.1,ag p.2]
noncomputable def aB(w:Wy):D:=.tuple [.int w.1,.int w.2.1,.int w.2.2]
noncomputable def aZ(G T:List Pl)(W:List Wy):D:=.tuple [.tuple (G.map bG),.tuple (T.map bG),.tuple (W.map aB)]
noncomputable def wo(W:List Wy)(i:Int):List Int:=(W.filter fun w=>decide (w.1=i)).map fun w=>w.2.1
noncomputable def ofT(W:List Wy)(j:Int):List Int:=(W.filter fun w=>decide (w.2.1=j)).map fun w=>w.1
abbrev tZ(W:List Wy):Prop:=W.Pairwise fun a b=>a.1 < b.1\/(a.1=b.1/\a.2.1 < b.2.1)
structure Wd(G T:List Pl)(W:List Wy):Prop where
 g1:1<=G.length
 g4:G.length<=4
 t1:1<=T.length
 t4:T.length<=4
 ga:∀p∈G,0<=p.1/\p.1<=9
 ta:∀p∈T,0<=p.1/\p.1<=9
 gl:∀ (i:Nat) (p:Pl),G[i]?=some p->p.2.Perm (wo W i)
 tl:∀ (j:Nat) (p:Pl),T[j]?=some p->p.2.Perm (ofT W j)
 wr:∀w∈W,(0<=w.1/\w.1 < G.length)/\(0<=w.2.1/\w.2.1 < T.length)/\1<=w.2.2/\w.2.2<=9
 wp:tZ W
 wl:W.length<=16
theorem qw{W:List Wy}{i j:Int}:j∈wo W i↔[i,j]∈W.map fun w=>[w.1,w.2.1]:=by
 simp only[wo,zQ,List.mem_filter,zJ,List.cons.injEq,and_true]
 constructor
 ·rintro⟨w,⟨h1,h2⟩,h3⟩;exact⟨w,h1,h2,h3⟩
 ·rintro⟨w,h1,h2,h3⟩;exact⟨w,⟨h1,h2⟩,h3⟩
theorem pJ{W:List Wy}{i j:Int}:i∈ofT W j↔[i,j]∈W.map fun w=>[w.1,w.2.1]:=by
 simp only[ofT,zQ,List.mem_filter,zJ,List.cons.injEq,and_true]
 constructor
 ·rintro⟨w,⟨h1,h2⟩,h3⟩;exact⟨w,h1,h3,h2⟩
 ·rintro⟨w,h1,h2,h3⟩;exact⟨w,⟨h1,h3⟩,h2⟩
theorem kX{W:List Wy}(h:tZ W)(i:Int):(wo W i).Nodup:=by
 unfold wo List.Nodup
 rw[List.pairwise_map,List.pairwise_filter]
 refine h.imp fun hab ha hb=>?_
 rw[zJ] at ha hb
 omega
theorem km{W:List Wy}(h:tZ W)(i:Int):(ofT W i).Nodup:=by
 unfold ofT List.Nodup
 rw[List.pairwise_map,List.pairwise_filter]
 refine h.imp fun hab ha hb=>?_
 rw[zJ] at ha hb
 omega
theorem ek(p:Pl):fZ (bG p)=p.2:=by
 show ((p.2.map PyData.int).map iD)=p.2
 rw[zM]
 exact List.map_id _
theorem k9{n:Int}{p:Pl}(ha:0<=p.1/\p.1<=9)(hn:p.2.Nodup)(hr:∀j∈p.2,0<=j/\j < n):placeOk n (bG p)=true:=by
 have e:(p.2.map PyData.int).map iD=p.2:=ek p
 have e2:(p.2.map PyData.int).all (whole 0 (n - 1))=true:=by
  rw[List.all_eq_true]
  intro x hx
  obtain⟨j,hj,rfl⟩:=zQ.mp hx
  have:=hr j hj
  simp only[whole,zF,zJ]
  omega
 simp only[placeOk,bG,ag,zL,List.length_nil,List.getD_cons_zero,List.getD_cons_succ,gN,whole,e,e2,ha.1,ha.2,hn,decide_true,Bool.and_self]
theorem xa{g t:Int}{w:Wy}(h:(0<=w.1/\w.1 < g)/\(0<=w.2.1/\w.2.1 < t)/\1<=w.2.2/\w.2.2<=9):hC g t (aB w)=true:=by
 obtain⟨⟨a,b⟩,⟨c,d⟩,e,f⟩:=h
 have b':w.1<=g - 1:=by omega
 have d':w.2.1<=t - 1:=by omega
 simp only[hC,aB,zL,List.length_nil,List.getD_cons_zero,List.getD_cons_succ,whole,a,b',c,d',e,f,decide_true,Bool.and_self]
theorem IV{a b c d:Int}(h:a < c\/(a=c/\b < d)):Dl.lexLt [a,b] [c,d]=true:=by
 show HT.lexLt [a,b] [c,d]=true
 rw[HT.cH]
 by_cases e:a=c
 ·rw[if_pos e,HT.cH,if_neg (by omega)]
  simp only[zJ];omega
 ·rw[if_neg e];simp only[zJ];omega
theorem Wd.glike{G T:List Pl}{W:List Wy}(h:Wd G T W){p:Pl}(hp:p∈G):∃i:Nat,i < G.length/\p.2.Perm (wo W i):=by
 obtain⟨i,hi,e⟩:=List.getElem_of_mem hp
 exact⟨i,hi,h.gl i p (by rw[zK hi,e])⟩
theorem Wd.tlike{G T:List Pl}{W:List Wy}(h:Wd G T W){p:Pl}(hp:p∈T):∃i:Nat,i < T.length/\p.2.Perm (ofT W i):=by
 obtain⟨i,hi,e⟩:=List.getElem_of_mem hp
 exact⟨i,hi,h.tl i p (by rw[zK hi,e])⟩
theorem Wd.gok{G T:List Pl}{W:List Wy}(h:Wd G T W):(G.map bG).all (placeOk T.length)=true:=by
 rw[List.all_eq_true]
 intro x hx
 obtain⟨p,hp,rfl⟩:=zQ.mp hx
 obtain⟨i,hi,q⟩:=h.glike hp
 refine k9 (h.ga p hp) (q.nodup_iff.mpr (kX h.wp _)) fun j hj=>?_
 obtain⟨w,hw,e⟩:=zQ.mp (qw.mp (q.mem_iff.mp hj))
 injection e with e1 e2
 injection e2 with e2 _
 have:=(h.wr w hw).2.1
 rw[e2] at this;exact this
theorem Wd.tok{G T:List Pl}{W:List Wy}(h:Wd G T W):(T.map bG).all (placeOk G.length)=true:=by
 rw[List.all_eq_true]
 intro x hx
 obtain⟨p,hp,rfl⟩:=zQ.mp hx
 obtain⟨i,hi,q⟩:=h.tlike hp
 refine k9 (h.ta p hp) (q.nodup_iff.mpr (km h.wp _)) fun j hj=>?_
 obtain⟨w,hw,e⟩:=zQ.mp (pJ.mp (q.mem_iff.mp hj))
 injection e with e1 e2
 have:=(h.wr w hw).1
 rw[e1] at this;exact this
theorem mn{W:List Wy}{p:Wy->Bool}(h:W.length<=16):(W.filter p).length<=16:=yE (List.length_filter_le _ _) h
theorem wg{p:Pl}(h:p.2.length<=16):gx 16 2 (bG p):=.tup (by simp only[zL,List.length_nil];omega) fun x hx=>by
 rcases zR.mp hx with rfl|hx
 ·exact gF _
 ·rw[yL] at hx
  subst hx
  exact vL h
theorem C4(w:Wy):gx 16 1 (aB w):=.tup (by simp only[zL,List.length_nil];omega) fun x hx=>by
 simp only[zR,yG,or_false] at hx
 rcases hx with rfl|rfl|rfl<;>exact gF _
theorem Wd.fit{G T:List Pl}{W:List Wy}(h:Wd G T W):gx 16 4 (aZ G T W):=by
 refine .tup (by simp only[zL,List.length_nil];omega) fun x hx=>?_
 simp only[zR,yG,or_false] at hx
 have h4:=h.g4
 have h5:=h.t4
 have h6:=h.wl
 rcases hx with rfl|rfl|rfl
 ·refine .tup (by rw[zD];omega) fun x hx=>?_
  obtain⟨p,hp,rfl⟩:=zQ.mp hx
  obtain⟨i,hi,q⟩:=h.glike hp
  exact wg (by rw[q.length_eq,wo,zD];exact mn h.wl)
 ·refine .tup (by rw[zD];omega) fun x hx=>?_
  obtain⟨p,hp,rfl⟩:=zQ.mp hx
  obtain⟨i,hi,q⟩:=h.tlike hp
  exact wg (by rw[q.length_eq,ofT,zD];exact mn h.wl)
 ·refine .tup (by rw[zD];omega) fun x hx=>?_
  obtain⟨p,hp,rfl⟩:=zQ.mp hx
  exact (C4 p).mono (Nat.le_refl _) (by decide)
theorem xF{c:Int}(h0:0<=c)(h9:c<=9):Wd [(c,[0,1]),(c,[1,0])] [(c,[1,0]),(c,[0,1])] [(0,0,2),(0,1,2),(1,0,2),(1,1,2)] where
 g1:=by simp only[zL,List.length_nil];omega
 g4:=by simp only[zL,List.length_nil];omega
 t1:=by simp only[zL,List.length_nil];omega
 t4:=by simp only[zL,List.length_nil];omega
 ga:=by intro p hp;simp only[zR,yG,or_false] at hp;rcases hp with rfl|rfl<;>exact⟨h0,h9⟩
 ta:=by intro p hp;simp only[zR,yG,or_false] at hp;rcases hp with rfl|rfl<;>exact⟨h0,h9⟩
 gl:=by
  intro i p hp
  match i,hp with
  | 0,hp=>injection hp with hp;subst hp;exact (show List.Perm ([0,1]:List Int) (wo [(0,0,2),(0,1,2),(1,0,2),(1,1,2)] ((0:Nat):Int)) by decide)
  | 1,hp=>injection hp with hp;subst hp;exact (show List.Perm ([1,0]:List Int) (wo [(0,0,2),(0,1,2),(1,0,2),(1,1,2)] ((1:Nat):Int)) by decide)
 tl:=by
  intro i p hp
  match i,hp with
  | 0,hp=>injection hp with hp;subst hp;exact (show List.Perm ([1,0]:List Int) (ofT [(0,0,2),(0,1,2),(1,0,2),(1,1,2)] ((0:Nat):Int)) by decide)
  | 1,hp=>injection hp with hp;subst hp;exact (show List.Perm ([0,1]:List Int) (ofT [(0,0,2),(0,1,2),(1,0,2),(1,1,2)] ((1:Nat):Int)) by decide)
 wr:=show ∀w∈([(0,0,2),(0,1,2),(1,0,2),(1,1,2)]:List Wy),(0<=w.1/\w.1 < ((2:Nat):Int))/\(0<=w.2.1/\w.2.1 < ((2:Nat):Int))/\1<=w.2.2/\w.2.2<=9 by decide
 wp:=by decide
 wl:=by decide
noncomputable def hV(f:Nat->Int):Nat->List (List Int)->List Pl|_,[]=>[]|k,r::rs=>(f k,r)::hV f (k+1) rs
theorem gh(f:Nat->Int):∀ (rs:List (List Int)) (k:Nat),(hV f k rs).length=rs.length
 | [],k=>rfl
 | r::rs,k=>by rw[hV,zL,zL,gh f rs]
theorem fR(f:Nat->Int):∀ {rs:List (List Int)}{k i:Nat}{p:Pl},(hV f k rs)[i]?=some p->∃r,rs[i]?=some r/\p=(f (k+i),r)
 | [],k,i,p,h=>by simp[hV] at h
 | r::rs,k,0,p,h=>by simp[hV] at h;exact⟨r,rfl,h.symm⟩
 | r::rs,k,i+1,p,h=>by
  simp only[hV,List.getElem?_cons_succ] at h
  obtain⟨y,h1,h2⟩:=fR f h
  exact⟨y,by simpa using h1,by rw[h2];congr 2;omega⟩
theorem dw:∀ {a b:List (List Int)},ma a b->a.length=b.length
 | [],[],_=>rfl
 | x::a,y::b,h=>by rw[zL,zL,dw h.2]
 | [],_::_,h=>h.elim
 | _::_,[],h=>h.elim
theorem kK:∀ {a b:List (List Int)}{i:Nat}{r:List Int},ma a b->a[i]?=some r->∃s,b[i]?=some s/\r.Perm s
 | [],[],i,r,_,h=>by simp at h
 | x::a,y::b,0,r,h,e=>by
  simp only[List.getElem?_cons_zero,yM] at e
  subst e
  exact⟨y,rfl,h.1⟩
 | x::a,y::b,i+1,r,h,e=>by
  simp only[List.getElem?_cons_succ] at e
  obtain⟨s,h1,h2⟩:=kK h.2 e
  exact⟨s,by simpa using h1,h2⟩
 | [],_::_,i,r,h,_=>h.elim
 | _::_,[],i,r,h,_=>h.elim
noncomputable def jn(W:List Wy)(m:Nat):List (List Int):=(List.range m).map fun i=>wo W ((i:Nat):Int)
noncomputable def jo(W:List Wy)(m:Nat):List (List Int):=(List.range m).map fun i=>ofT W ((i:Nat):Int)
theorem Ds{m s:Nat}{W:List Wy}{mine yours:List (List Int)}{f g:Nat->Int}(m1:1<=m)(m4:m<=4)(s1:1<=s)(s4:s<=4)(hf:∀k,0<=f k/\f k<=9)(hg:∀k,0<=g k/\g k<=9)
  (hm:ma mine (jn W m)) (hy:ma yours (jo W s)) (wr:∀w∈W,(0<=w.1/\w.1 < m)/\(0<=w.2.1/\w.2.1 < s)/\1<=w.2.2/\w.2.2<=9) (wp:tZ W) (wl:W.length<=16):Wd (hV f 0 mine) (hV g 0 yours) W:=by
 have lm:(hV f 0 mine).length=m:=by rw[gh,dw hm,jn,zD,zS]
 have ly:(hV g 0 yours).length=s:=by rw[gh,dw hy,jo,zD,zS]
 have am:∀ {h:Nat->Int}{rs:List (List Int)},(∀k,0<=h k/\h k<=9)->∀p∈hV h 0 rs,0<=p.1/\p.1<=9:=fun {h rs} hh p hp=>by
  obtain⟨i,hi⟩:=List.mem_iff_getElem?.mp hp
  obtain⟨r,_,rfl⟩:=fR h hi
  exact hh _
 refine⟨by omega,by omega,by omega,by omega,am hf,am hg,fun i p hp=>?_,fun i p hp=>?_,by rw[lm,ly];exact wr,wp,wl⟩
 ·obtain⟨r,h1,rfl⟩:=fR f hp
  obtain⟨t,h2,h3⟩:=kK hm h1
  rw[jn,zO] at h2
  obtain⟨k,hk,rfl⟩:=Option.map_eq_some_iff.mp h2
  have:k=i:=by
   rw[zU] at hk
   obtain⟨h,e⟩:=hk
   rw[List.getElem_range] at e
   exact e.symm
  subst this
  exact h3
 ·obtain⟨r,h1,rfl⟩:=fR g hp
  obtain⟨t,h2,h3⟩:=kK hy h1
  rw[jo,zO] at h2
  obtain⟨k,hk,rfl⟩:=Option.map_eq_some_iff.mp h2
  have:k=i:=by
   rw[zU] at hk
   obtain⟨h,e⟩:=hk
   rw[List.getElem_range] at e
   exact e.symm
  subst this
  exact h3
theorem dm{i:Nat}{fz:List Nat}{f:Dl.Env->Option D}{ρ ρ':ao}{d:D}(hf:f (aV ρ)=some d)(hs:Dl.kJ d=false)(hh:hand fz 0 ρ=ρ')(hv:bR ρ'=aV ρ)(hr:gf d=false\/ρ'=ρ:=by first|exact .inr rfl|exact .inl rfl):Dl.aU i fz f ρ=some (.nx (ρ'.set i (.val d))):=by
 rcases hr with hr|hr
 ·simp only[Dl.aU,hf,zA,hs,Bool.false_eq_true,if_false,hh,hv,zB,hr]
 ·subst hr
  simp only[Dl.aU,hf,zA,hs,Bool.false_eq_true,if_false,hh,hv,zB,ite_self]
theorem eB{i:Nat}{fz:List Nat}{f:Dl.Env->Option D}{ρ:ao}{d:D}(hf:f (aV ρ)=some d)(hs:Dl.kJ d=true):Dl.aU i fz f ρ=some (.nx (ρ.set i (.val d))):=by
 simp only[Dl.aU,hf,zA,hs,if_true]
theorem D4(w:Wy):ar (aB w) (.int 0)=some (.int w.1):=rfl
theorem D6(w:Wy):ar (aB w) (.int 1)=some (.int w.2.1):=rfl
theorem uY(a b c:D):small [a,b,c]=some [a,b,c]:=rfl
theorem GY{a b s:Int}(hs:s=1\/s=2\/s=3)(h:a < b):a / s < b / s\/(a / s=b / s/\a % s < b % s):=by rcases hs with rfl|rfl|rfl<;>omega
theorem Eu{k m s:Int}(hs:s=1\/s=2\/s=3)(hm:m=1\/m=2\/m=3)(h0:0<=k)(h:k < m * s):(0<=k / s/\k / s < m)/\0<=k % s/\k % s < s:=by
 rcases hs with rfl|rfl|rfl<;>rcases hm with rfl|rfl|rfl<;>omega
noncomputable def lB:ao->Option Out:=(jl (dW (fB (f2 CY (ba cI (aa (ab 7) af)) (ab 2))) (fB (f2 BI (ak 3 ah (aa (ab 0) (aa (f2 aD (f2 aD (ab 1) (fC (.int 2))) (ab 8)) (aa (fC (.int 4)) af)))) (fC (.int 0))))) (oo 7 [0,1,6,8] (bz (aa (f2 jM (ab 8) (ab 6)) (aa (f2 gq (ab 8) (ab 6)) (aa (f2 aD (fC (.int 1)) (ak 3 ah (aa (ab 0) (aa (f2 aD (f2 aD (ab 1) (fC (.int 12))) (ab 8)) (aa (fC (.int 2)) af))))) af))))) hX)
noncomputable abbrev st(ns:List Int)(a mo m s:Int)(x4 x7 x8 x9 x10 x11:Slot):ao:=[.val (bV ns),.val (.int a),.val (.int mo),.non,x4,.val (.int m),.val (.int s),x7,x8,x9,x10,x11]
noncomputable def DL(ns:List Int)(a mo s k:Int)(W:List Wy):List Wy:=if (W.length:Int) < mo/\0 < dr ns (a+2+k) 4 then W++[(k / s,k % s,1+dr ns (a+12+k) 2)] else W
theorem ED{ns:List Int}{a mo m s k:Int}{W:List Wy}(hl:ns.length<=63)(hs:s=1\/s=2\/s=3)(hw:W.length<=9) :
  lB (st ns a mo m s .non (.own (W.map aB)) (.val (.int k)) .non .non .non)=some (.nx (st ns a mo m s .non (.own ((DL ns a mo s k W).map aB)) (.val (.int k)) .non .non .non)):=by
 have hs0:0 < s:=by omega
 have hz:W.length < sizeLine:=Nat.lt_of_le_of_lt hw (by decide)
 have hd:Dl.jM (.int k) (.int s)=some (.int (k / s)):=ik ⟨hs0,by omega⟩
 have hm:Dl.gq (.int k) (.int s)=some (.int (k % s)):=eI hs0
 have e4:=mw (ns:=ns) (a+2+k) 4 hl (by decide)
 have e2:=mw (ns:=ns) (a+12+k) 2 hl (by decide)
 have hh:hand [0,1,6,8] 0 (st ns a mo m s .non (.own (W.map aB)) (.val (.int k)) .non .non .non)=st ns a mo m s .non (.own (W.map aB)) (.val (.int k)) .non .non .non:=rfl
 have ha:oo 7 [0,1,6,8] (bz (aa (f2 jM (ab 8) (ab 6)) (aa (f2 gq (ab 8) (ab 6)) (aa (f2 aD (fC (.int 1)) (ak 3 ah (aa (ab 0) (aa (f2 aD (f2 aD (ab 1) (fC (.int 12))) (ab 8)) (aa (fC (.int 2)) af))))) af)))) (st ns a mo m s .non (.own (W.map aB)) (.val (.int k)) .non .non .non)=some (.nx (st ns a mo m s .non (.own ((W++[(k / s,k % s,1+dr ns (a+12+k) 2)]).map aB)) (.val (.int k)) .non .non .non)):=by
  simp only[oo,lb,hh,bR,zI,List.map_nil]
  simp! [tm,Bool.false_eq_true,kq,hd,hm,e2,uY,zD,hz,List.set_cons_succ,List.set_cons_zero,List.map_append]
  rfl
 by_cases c1:(W.length:Int) < mo
 ·by_cases c2:0 < dr ns (a+2+k) 4
  ·rw[show DL ns a mo s k W=W++[(k / s,k % s,1+dr ns (a+12+k) 2)] from if_pos ⟨c1,c2⟩,<- ha]
   simp! [lB,jR,gD,zD,c1,c2,decide_true,eR,e4]
  ·rw[show DL ns a mo s k W=W from if_neg fun h=>c2 h.2]
   simp! [lB,jR,gD,zD,c1,c2,decide_true,decide_false,eR,e4,Bool.false_eq_true]
 ·rw[show DL ns a mo s k W=W from if_neg fun h=>c1 h.1]
  simp! [lB,jR,gD,zD,c1,decide_false,eR,Bool.false_eq_true]
structure xM(mo s k:Int)(W:List Wy):Prop where
 mem:∀w∈W,∃j:Int,0<=j/\j < k/\w.1=j / s/\w.2.1=j % s/\1<=w.2.2/\w.2.2<=2
 ris:tZ W
 len:(W.length:Int)<=k
 lem:(W.length:Int)<=mo
theorem xM.next{ns:List Int}{a mo s k:Int}{W:List Wy}(hl:ns.length<=63)(hs:s=1\/s=2\/s=3)(hk:0<=k)(h:xM mo s k W):xM mo s (k+1) (DL ns a mo s k W):=by
 have old:∀w∈W,∃j:Int,0<=j/\j < k+1/\w.1=j / s/\w.2.1=j % s/\1<=w.2.2/\w.2.2<=2:=fun w hw=>by
  obtain⟨j,a,b,c⟩:=h.mem w hw
  exact⟨j,a,by omega,c⟩
 by_cases c:(W.length:Int) < mo/\0 < dr ns (a+2+k) 4
 ·rw[show DL ns a mo s k W=W++[(k / s,k % s,1+dr ns (a+12+k) 2)] from if_pos c]
  have g1:=Ii (ns:=ns) (a+12+k) 2 hl (by decide)
  have g2:=Ik (ns:=ns) (a+12+k) 2 hl (by decide)
  refine⟨fun w hw=>?_,?_,?_,?_⟩
  ·rcases List.mem_append.mp hw with hw|hw
   ·exact old w hw
   ·rw[yL] at hw
    subst hw
    exact⟨k,hk,by omega,rfl,rfl,by simp only;omega,by simp only;omega⟩
  ·refine List.pairwise_append.mpr ⟨h.ris,List.pairwise_singleton _ _,fun a ha b hb=>?_⟩
   rw[yL] at hb
   subst hb
   obtain⟨j,_,b,c1,c2,_⟩:=h.mem a ha
   rw[c1,c2]
   exact GY hs b
  ·have:=h.len;rw[zN,List.length_singleton];omega
  ·have:=c.1;rw[zN,List.length_singleton];omega
 ·rw[show DL ns a mo s k W=W from if_neg c]
  exact⟨old,h.ris,by have:=h.len;omega,h.lem⟩
theorem yn{ns:List Int}{a mo m s:Int}(hl:ns.length<=63)(hs:s=1\/s=2\/s=3):∀ (n k:Nat) {W:List Wy}{x8:Slot},k+n<=9->xM mo s k W ->
  ∃W' t8,dF (qu 8) lB ((List.range' k n).map fun i=>PyData.int ((i:Nat):Int)) (st ns a mo m s .non (.own (W.map aB)) x8 .non .non .non)=some (.nx (st ns a mo m s .non (.own (W'.map aB)) t8 .non .non .non))/\(n=0/\t8=x8\/∃d,t8=.val d)/\xM mo s ((k+n:Nat):Int) W'
 | 0,k,W,x8,hk,h=>⟨W,x8,rfl,.inl ⟨rfl,rfl⟩,h⟩
 | n+1,k,W,x8,hk,h=>by
  have h':xM mo s ((k+1:Nat):Int) (DL ns a mo s k W):=by
   have:=h.next (ns:=ns) (a:=a) hl hs (by omega)
   rwa [show ((k:Int)+1)=((k+1:Nat):Int) by omega] at this
  obtain⟨W',t8,e,q,b⟩:=yn hl hs n (k+1) (W:=DL ns a mo s k W) (x8:=.val (.int (k:Nat))) (by omega) h'
  refine⟨W',t8,?_,.inr (q.elim (fun z=>⟨_,z.2⟩) id),by rw[show k+(n+1)=k+1+n by omega];exact b⟩
  have hsg:∀d,qu 8 (st ns a mo m s .non (.own (W.map aB)) x8 .non .non .non) d=some (st ns a mo m s .non (.own (W.map aB)) (.val d) .non .non .non):=fun d=>rfl
  rw[List.range'_succ,zI,dF,hsg,zA,ED hl hs (by have:=h.len;omega)]
  exact e
theorem Kc(W:List Wy)(i:Int)(hw:W.length<=20):ai 1 [0] (aM (ab 1)) (fG 0) (fB (f2 bJ (f2 ar (ab 0) (fC (.int 0))) (ab 1))) (f2 ar (ab 0) (fC (.int 1))) [some (.int i),some (.list (W.map aB))]=some ((wo W i).map PyData.int):=by
 rw[jQ (ds:=W.map aB) (p:=fun d=>decide (iD ((bX d).getD 0 .none)=i)) (h:=fun d=>(bX d).getD 1 .none) rfl (by rw[zD];omega) (fun d hd=>?_) fun d hd _=>?_]
 ·rw[List.filter_map,zM,wo,zM];rfl
 ·obtain⟨w,_,rfl⟩:=zQ.mp hd
  simp! [D4,cQ,eR]
  rfl
 ·obtain⟨w,_,rfl⟩:=zQ.mp hd
  simp! [D6]
  rfl
theorem Kg(W:List Wy)(i:Int)(hw:W.length<=20):ai 1 [0] (aM (ab 1)) (fG 0) (fB (f2 bJ (f2 ar (ab 0) (fC (.int 1))) (ab 1))) (f2 ar (ab 0) (fC (.int 0))) [some (.int i),some (.list (W.map aB))]=some ((ofT W i).map PyData.int):=by
 rw[jQ (ds:=W.map aB) (p:=fun d=>decide (iD ((bX d).getD 1 .none)=i)) (h:=fun d=>(bX d).getD 0 .none) rfl (by rw[zD];omega) (fun d hd=>?_) fun d hd _=>?_]
 ·rw[List.filter_map,zM,ofT,zM];rfl
 ·obtain⟨w,_,rfl⟩:=zQ.mp hd
  simp! [D6,cQ,eR]
  rfl
 ·obtain⟨w,_,rfl⟩:=zQ.mp hd
  simp! [D4]
  rfl
theorem qo{m:Nat}(hm:m<=1000):sC ((m:Nat):Int)=true:=by
 unfold sC
 rw[zF,zJ,zJ]
 have h1:(0:Int)<=(m:Int):=Int.natCast_nonneg m
 have h2:(m:Int)<=1000:=by omega
 exact⟨Int.le_trans (by decide) h1,Int.lt_of_le_of_lt h2 (by decide)⟩
theorem sy{j:Int}(h:sC j=true):iW [.int j]=some ((List.range j.toNat).map fun i=>PyData.int ((i:Nat):Int)):=by
 rw[iW,if_pos h]
theorem pZ{fi:Dl.Env->Option D}{ρ:Dl.Env}(m:Nat)(hm:m<=1000)(h:fi ρ=some (.int (m:Nat))):aF (aa fi af) ρ=some ((List.range m).map fun i=>PyData.int ((i:Nat):Int)):=by
 have e:aa fi af ρ=some [.int ((m:Nat):Int)]:=by simp only[aa,af,h,zA,zB]
 have e2:aF (aa fi af) ρ=(aa fi af ρ).bind iW:=rfl
 rw[e2,e,zA,sy (qo hm),yH]
theorem CV{W:List Wy}{m:Nat}{i7 i5:Nat}{ρ:Dl.Env}(hw:W.length<=20)(hm:m<=1000)(h5:ab i5 ρ=some (.int (m:Nat)))(h7:(ρ[i7]?).getD none=some (.list (W.map aB))) :
  ai 1 [i7] (aF (aa (ab i5) af)) (fG 0) (fun _=>some true) (bT (ai 1 [0] (aM (ab 1)) (fG 0) (fB (f2 bJ (f2 ar (ab 0) (fC (.int 0))) (ab 1))) (f2 ar (ab 0) (fC (.int 1))))) ρ=some ((jn W m).map bH):=by
 rw[bB (h:=fun d=>bH (wo W (iD d))) (pZ m hm h5) (by rw[zD,zS];omega) fun d hd=>?_]
 ·rw[jn,zM,zM];rfl
 ·obtain⟨i,_,rfl⟩:=zQ.mp hd
  simp only[zI,List.map_nil,h7,bT,Kc W _ hw,zB,bH,iD]
theorem Dj{W:List Wy}{m:Nat}{i7 i5:Nat}{ρ:Dl.Env}(hw:W.length<=20)(hm:m<=1000)(h5:ab i5 ρ=some (.int (m:Nat)))(h7:(ρ[i7]?).getD none=some (.list (W.map aB))) :
  ai 1 [i7] (aF (aa (ab i5) af)) (fG 0) (fun _=>some true) (bT (ai 1 [0] (aM (ab 1)) (fG 0) (fB (f2 bJ (f2 ar (ab 0) (fC (.int 1))) (ab 1))) (f2 ar (ab 0) (fC (.int 0))))) ρ=some ((jo W m).map bH):=by
 rw[bB (h:=fun d=>bH (ofT W (iD d))) (pZ m hm h5) (by rw[zD,zS];omega) fun d hd=>?_]
 ·rw[jo,zM,zM];rfl
 ·obtain⟨i,_,rfl⟩:=zQ.mp hd
  simp only[zI,List.map_nil,h7,bT,Kg W _ hw,zB,bH,iD]
noncomputable def Em(c:Int):Dl.Env->Option D:=(bz (aa (ak 3 ah (aa (ab 2) (aa (f2 aD (f2 aD (ab 3) (fC (.int c))) (ab 0)) (aa (fC (.int 4)) af)))) (aa (ab 1) af)))
theorem HB{ns:List Int}{a:Int}(c:Int)(hl:ns.length<=63):∀ (mine:List (List Int)) (k:Nat),bQ (gu 0 1) (fun _=>some true) (Em c) [none,none,some (bV ns),some (.int a)] (aI k (mine.map ag))=some ((hV (fun k=>dr ns (a+c+((k:Nat):Int)) 4) k mine).map bG)
 | [],k=>rfl
 | r::mine,k=>by
  have hg:gu 0 1 [none,none,some (bV ns),some (.int a)] (.tuple [.int ((k:Nat):Int),ag r])=some [some (.int ((k:Nat):Int)),some (ag r),some (bV ns),some (.int a)]:=rfl
  have he:Em c [some (.int ((k:Nat):Int)),some (ag r),some (bV ns),some (.int a)]=some (bG (dr ns (a+c+((k:Nat):Int)) 4,r)):=by
   simp! [Em,mw (ns:=ns) (a+c+((k:Nat):Int)) 4 hl (by decide),tT,bG]
  have ih:=HB (a:=a) c hl mine (k+1)
  rw[zI,aI,bQ,hg]
  simp only[zA,if_true,he,ih,zB,hV,zI]
theorem f9:∀ (ds:List D) (k:Nat),(aI k ds).length=ds.length
 | [],k=>rfl
 | d::ds,k=>by rw[aI,zL,zL,f9 ds]
theorem rm{ns:List Int}{a c:Int}{i9:Nat}{ρ:Dl.Env}{mine:List (List Int)}(hl:ns.length<=63)(hm:mine.length<=1000)(h9:ab i9 ρ=some (.list (mine.map ag)))(h0:(ρ[0]?).getD none=some (bV ns))(h1:(ρ[1]?).getD none=some (.int a)) :
  ba aN (aa (bT (ai 2 [0,1] (bp (aa (ab i9) af)) (gu 0 1) (fun _=>some true) (Em c))) af) ρ=some (.tuple ((hV (fun k=>dr ns (a+c+((k:Nat):Int)) 4) 0 mine).map bG)):=by
 have hi:bp (aa (ab i9) af) ρ=some (aI 0 (mine.map ag)):=by
  simp only[bp,aa,af,h9,zA,zB,bU,oneOf,eC]
 have hc:ai 2 [0,1] (bp (aa (ab i9) af)) (gu 0 1) (fun _=>some true) (Em c) ρ=some ((hV (fun k=>dr ns (a+c+((k:Nat):Int)) 4) 0 mine).map bG):=by
  simp only[ai,hi,zA,cY,zI,List.map_nil,h0,h1,List.replicate,List.cons_append,List.nil_append,HB c hl]
  exact aY (by rw[zD,gh];omega)
 simp only[ba,aa,af,bT,hc,zB,zA,aN,bU,oneOf,eC]
theorem aq{g1 g2:ao->Option Out}{ρ ρ':ao}(h:g1 ρ=some (.nx ρ')):ay g1 g2 ρ=g2 ρ':=by
 simp only[ay,h,zA]
theorem d6{g:ao->Option Out}{n:Nat}{args:List D}{d:D}(h:g (args.map Slot.val++List.replicate (n - args.length) .non)=some (.rt d)):bY g n args=some d:=by
 simp only[bY,h,zB]
theorem iQ{g:D->D->Option D}{fa fb:Dl.Env->Option D}{ρ:Dl.Env}{a b:D}(ha:fa ρ=some a)(hb:fb ρ=some b):f2 g fa fb ρ=g a b:=by
 simp only[f2,ha,hb,zA]
theorem FF{ns:List Int}{a mo:Int}{m s:Nat}(m1:m<=3)(s1:s<=3):f2 dQ (ab 5) (ab 6) (bR (st ns a mo m s .non (.own []) .non .non .non .non))=some (.int ((m * s:Nat):Int)):=by
 have h:Dl.dQ (.int (m:Int)) (.int (s:Int))=some (.int ((m:Int) * (s:Int))):=cP (jE (by omega))
 rw[iQ (a:=.int (m:Int)) (b:=.int (s:Int)) rfl rfl,h,Int.natCast_mul]
theorem Gg{ns:List Int}{a mo:Int}{m s:Nat}(m1:m<=3)(s1:s<=3)(hms:m * s<=9){W:List Wy}{t8:Slot}(e: dF (qu 8) lB ((List.range' 0 (m * s)).map fun i=>PyData.int ((i:Nat):Int)) (st ns a mo m s .non (.own (([]:List Wy).map aB)) .non .non .non .non)=some (.nx (st ns a mo m s .non (.own (W.map aB)) t8 .non .non .non))):d5 [5,6] (aF (aa (f2 dQ (ab 5) (ab 6)) af)) (qu 8) lB (st ns a mo m s .non (.own []) .non .non .non .non)=some (.nx (st ns a mo m s .non (.own (W.map aB)) t8 .non .non .non)):=by
 have hh:hand [5,6] 0 (st ns a mo m s .non (.own []) .non .non .non .non)=st ns a mo m s .non (.own []) .non .non .non .non:=rfl
 have hr:=pZ (fi:=f2 dQ (ab 5) (ab 6)) (ρ:=bR (st ns a mo m s .non (.own []) .non .non .non .non)) (m * s) (by omega) (FF m1 s1)
 rw[yI] at hr
 rw[List.map_nil] at e
 simp only[d5,hh,hr,zA]
 exact e
structure Jx(mo:Int)(G T:List Pl)(W:List Wy):Prop where
 g3:G.length<=3
 t3:T.length<=3
 w2:∀w∈W,w.2.2<=2
 ga:∀p∈G,p.1<=3
 ta:∀p∈T,p.1<=3
 wm:(W.length:Int)<=mo
theorem qy{ns:List Int}{a mo:Int}(hl:ns.length<=63)(hmo:3 < mo)(c:dr ns (a+64) 4=0):∃G T W,bN [bV ns,.int a,.int mo]=some (aZ G T W)/\Wd G T W/\Jx mo G T W:=by
 have e64:=mw (ns:=ns) (a+64) 4 hl (by decide)
 have e65:=du (ns:=ns) (a+65) 2 hl (by decide)
 refine⟨_,_,_,?_,xF (c:=1+dr ns (a+65) 2) (by omega) (by omega),⟨by simp,by simp,by decide,fun p hp=>?_,fun p hp=>?_,by simp;omega⟩⟩
 rotate_left
 ·simp only[zR,yG,or_false] at hp;rcases hp with rfl|rfl<;>(simp only;omega)
 ·simp only[zR,yG,or_false] at hp;rcases hp with rfl|rfl<;>(simp only;omega)
 have s1:Dl.aU 3 [0,1] (f2 aD (fC (.int 1)) (ak 3 ah (aa (ab 0) (aa (f2 aD (ab 1) (fC (.int 65))) (aa (fC (.int 2)) af))))) [.val (bV ns),.val (.int a),.val (.int mo),.non,.non,.non,.non,.non,.non,.non,.non,.non]=some (.nx [.val (bV ns),.val (.int a),.val (.int mo),.val (.int (1+dr ns (a+65) 2)),.non,.non,.non,.non,.non,.non,.non,.non]) :=
  eB (d:=.int (1+dr ns (a+65) 2)) (by simp! [e65.1]) rfl
 generalize 1+dr ns (a+65) 2=x at *
 have s2:Dl.aU 4 [3] (bz (aa (bz (aa (ab 3) (aa (bz (aa (fC (.int 1)) (aa (fC (.int 0)) af))) af))) (aa (bz (aa (ab 3) (aa (bz (aa (fC (.int 0)) (aa (fC (.int 1)) af))) af))) af))) [.val (bV ns),.val (.int a),.val (.int mo),.val (.int x),.non,.non,.non,.non,.non,.non,.non,.non]=some (.nx [.val (bV ns),.val (.int a),.val (.int mo),.val (.int x),.val (.tuple [bG (x,[1,0]),bG (x,[0,1])]),.non,.non,.non,.non,.non,.non,.non]) :=
  dm (d:=.tuple [bG (x,[1,0]),bG (x,[0,1])]) (by simp! [tT];rfl) rfl rfl rfl
 simp! [bN,cX,gD,e64,c,cQ,decide_true,eR,show decide ((3:Int) < mo)=true from yB hmo,s1,s2,tT,uY,show ∀a b c d:D,small [a,b,c,d]=some [a,b,c,d] from fun _ _ _ _=>rfl]
 rfl
theorem qf{ns:List Int}{a mo:Int}(hl:ns.length<=63)(hm0:0<=mo)(c:¬ (3 < mo/\dr ns (a+64) 4=0)):∃G T W,bN [bV ns,.int a,.int mo]=some (aZ G T W)/\Wd G T W/\Jx mo G T W:=by
 have e64:=mw (ns:=ns) (a+64) 4 hl (by decide)
 have em:=du (ns:=ns) a 3 hl (by decide)
 have es:=du (ns:=ns) (a+1) 3 hl (by decide)
 obtain⟨m,hm⟩:=Int.eq_ofNat_of_zero_le (show 0<=1+dr ns a 3 by omega)
 obtain⟨s,hs⟩:=Int.eq_ofNat_of_zero_le (show 0<=1+dr ns (a+1) 3 by omega)
 have m1:1<=m/\m<=3:=by omega
 have s1:1<=s/\s<=3:=by omega
 have hs':(s:Int)=1\/(s:Int)=2\/(s:Int)=3:=by omega
 have hm':(m:Int)=1\/(m:Int)=2\/(m:Int)=3:=by omega
 have t5:Dl.aU 5 [0,1] (f2 aD (fC (.int 1)) (ak 3 ah (aa (ab 0) (aa (ab 1) (aa (fC (.int 3)) af))))) [.val (bV ns),.val (.int a),.val (.int mo),.non,.non,.non,.non,.non,.non,.non,.non,.non]=some (.nx [.val (bV ns),.val (.int a),.val (.int mo),.non,.non,.val (.int (m:Nat)),.non,.non,.non,.non,.non,.non]) :=
  eB (d:=.int (m:Nat)) (by simp! [em.1,hm]) rfl
 have t6:Dl.aU 6 [0,1] (f2 aD (fC (.int 1)) (ak 3 ah (aa (ab 0) (aa (f2 aD (ab 1) (fC (.int 1))) (aa (fC (.int 3)) af))))) [.val (bV ns),.val (.int a),.val (.int mo),.non,.non,.val (.int (m:Nat)),.non,.non,.non,.non,.non,.non]=some (.nx (st ns a mo m s .non .non .non .non .non .non)) :=
  eB (d:=.int (s:Nat)) (by simp! [es.1,hs]) rfl
 have t7:aE 7 [] (ck af) (st ns a mo m s .non .non .non .non .non .non)=some (.nx (st ns a mo m s .non (.own []) .non .non .non .non)):=by
  simp only[aE,ke,ck,af,zA,fV,zB,List.set_cons_succ,List.set_cons_zero]
 have hms:m * s<=9:=Nat.mul_le_mul m1.2 s1.2
 have hms1:1<=m * s:=Nat.mul_le_mul m1.1 s1.1
 obtain⟨W,t8,e,h8,I⟩:=yn (ns:=ns) (a:=a) (m:=m) (s:=s) hl hs' (m * s) 0 (W:=[]) (x8:=.non) (by omega) (mo:=mo) ⟨fun w hw=>(by cases hw),List.Pairwise.nil,by decide,hm0⟩
 rw[Nat.zero_add] at I
 obtain⟨d8,rfl⟩:∃d,t8=.val d:=h8.elim (fun z=>by omega) id
 have hlen9:W.length<=9:=by have:=I.len;omega
 have tf:=Gg m1.2 s1.2 hms e
 unfold lB at tf
 have hwl:W.length<=20:=by omega
 have wr:∀w∈W,(0<=w.1/\w.1 < m)/\(0<=w.2.1/\w.2.1 < s)/\1<=w.2.2/\w.2.2<=9:=fun w hw=>by
  obtain⟨j,j0,jk,ea,b,c1,c2⟩:=I.mem w hw
  have:=Eu hs' hm' j0 (by rw[<- Int.natCast_mul];exact jk)
  rw[ea,b]
  exact⟨this.1,this.2,c1,by omega⟩
 have lenG:∀r∈jn W m,r.length<=1000:=fun r hr=>by
  obtain⟨i,_,rfl⟩:=zQ.mp hr
  rw[wo,zD]
  exact yE (List.length_filter_le _ _) (by omega)
 have lenT:∀r∈jo W s,r.length<=1000:=fun r hr=>by
  obtain⟨i,_,rfl⟩:=zQ.mp hr
  rw[ofT,zD]
  exact yE (List.length_filter_le _ _) (by omega)
 obtain⟨mine,om,pm⟩:=sf (ns:=ns) (a:=a+24) (rows:=jn W m) hl lenG (by rw[jn,zD,zS];omega)
 obtain⟨yours,oy,py⟩:=sf (ns:=ns) (a:=a+40) (rows:=jo W s) hl lenT (by rw[jo,zD,zS];omega)
 have lm:mine.length<=1000:=by rw[dw pm,jn,zD,zS];omega
 have ly:yours.length<=1000:=by rw[dw py,jo,zD,zS];omega
 have t9:Dl.aU 9 [0,1,5,7] (ak 3 bc (aa (ab 0) (aa (f2 aD (ab 1) (fC (.int 24))) (aa (bT (ai 1 [7] (aF (aa (ab 5) af)) (fG 0) (fun _=>some true) (bT (ai 1 [0] (aM (ab 1)) (fG 0) (fB (f2 bJ (f2 ar (ab 0) (fC (.int 0))) (ab 1))) (f2 ar (ab 0) (fC (.int 1))))))) af)))) (st ns a mo m s .non (.own (W.map aB)) (.val d8) .non .non .non)=some (.nx (st ns a mo m s .non (.val (.list (W.map aB))) (.val d8) (.val (.list (mine.map ag))) .non .non)):=by
  refine (dm (ρ':=st ns a mo m s .non (.val (.list (W.map aB))) (.val d8) .non .non .non) (d:=.list (mine.map ag)) ?_ rfl rfl ?_).trans rfl
  ·have q:=CV (ρ:=aV (st ns a mo m s .non (.own (W.map aB)) (.val d8) .non .non .non)) (i5:=5) (i7:=7) hwl (show m<=1000 by omega) rfl rfl
   simp only[ak,aa,af,bT,q,zB,zA]
   simp! [om]
  ·simp only[st,bR,aV,zI,List.map_nil];rfl
 have t10:Dl.aU 10 [0,1,6,7] (ak 3 bc (aa (ab 0) (aa (f2 aD (ab 1) (fC (.int 40))) (aa (bT (ai 1 [7] (aF (aa (ab 6) af)) (fG 0) (fun _=>some true) (bT (ai 1 [0] (aM (ab 1)) (fG 0) (fB (f2 bJ (f2 ar (ab 0) (fC (.int 1))) (ab 1))) (f2 ar (ab 0) (fC (.int 0))))))) af)))) (st ns a mo m s .non (.val (.list (W.map aB))) (.val d8) (.val (.list (mine.map ag))) .non .non)=some (.nx (st ns a mo m s .non (.val (.list (W.map aB))) (.val d8) (.val (.list (mine.map ag))) (.val (.list (yours.map ag))) .non)):=by
  refine (dm (ρ':=st ns a mo m s .non (.val (.list (W.map aB))) (.val d8) (.val (.list (mine.map ag))) .non .non) (d:=.list (yours.map ag)) ?_ rfl ?_ ?_).trans rfl
  ·have q:=Dj (ρ:=aV (st ns a mo m s .non (.val (.list (W.map aB))) (.val d8) (.val (.list (mine.map ag))) .non .non)) (i5:=6) (i7:=7) hwl (show s<=1000 by omega) rfl rfl
   simp only[ak,aa,af,bT,q,zB,zA]
   simp! [oy]
  ·rfl
  ·simp only[st,bR,aV,zI,List.map_nil];rfl
 have t11:Dl.aU 11 [0,1,8,9] (ba aN (aa (bT (ai 2 [0,1] (bp (aa (ab 9) af)) (gu 0 1) (fun _=>some true) (Em 56))) af)) (st ns a mo m s .non (.val (.list (W.map aB))) (.val d8) (.val (.list (mine.map ag))) (.val (.list (yours.map ag))) .non)=some (.nx (st ns a mo m s .non (.val (.list (W.map aB))) (.val d8) (.val (.list (mine.map ag))) (.val (.list (yours.map ag))) (.val (.tuple ((hV (fun k=>dr ns (a+56+((k:Nat):Int)) 4) 0 mine).map bG))))):=by
  refine (dm (ρ':=st ns a mo m s .non (.val (.list (W.map aB))) (.val d8) (.val (.list (mine.map ag))) (.val (.list (yours.map ag))) .non) (rm hl lm rfl rfl rfl) rfl rfl ?_).trans rfl
  simp only[st,bR,aV,zI,List.map_nil];rfl
 have t4:∀G:D,Dl.aU 4 [0,1,8,10] (ba aN (aa (bT (ai 2 [0,1] (bp (aa (ab 10) af)) (gu 0 1) (fun _=>some true) (Em 60))) af)) (st ns a mo m s .non (.val (.list (W.map aB))) (.val d8) (.val (.list (mine.map ag))) (.val (.list (yours.map ag))) (.val G))=some (.nx (st ns a mo m s (.val (.tuple ((hV (fun k=>dr ns (a+60+((k:Nat):Int)) 4) 0 yours).map bG))) (.val (.list (W.map aB))) (.val d8) (.val (.list (mine.map ag))) (.val (.list (yours.map ag))) (.val G))):=fun G=>by
  refine (dm (ρ':=st ns a mo m s .non (.val (.list (W.map aB))) (.val d8) (.val (.list (mine.map ag))) (.val (.list (yours.map ag))) (.val G)) (rm hl ly rfl rfl rfl) rfl rfl ?_).trans rfl
  simp only[st,bR,aV,zI,List.map_nil];rfl
 refine⟨_,_,W,?_,Ds (f:=fun k=>dr ns (a+56+((k:Nat):Int)) 4) (g:=fun k=>dr ns (a+60+((k:Nat):Int)) 4) m1.1 (by omega) s1.1 (by omega) (fun k=>?_) (fun k=>?_) pm py wr I.ris (by omega),⟨by rw[gh,dw pm,jn,zD,zS];omega,by rw[gh,dw py,jo,zD,zS];omega,fun w hw=>(by obtain⟨j,_,_,_,_,_,z⟩:=I.mem w hw;exact z),fun p hp=>?_,fun p hp=>?_,I.lem⟩⟩
 ·unfold Em at t11 t4
  have tA:∀g,jl (dW (fB (f2 BI (ab 2) (fC (.int 3)))) (fB (f2 bJ (ak 3 ah (aa (ab 0) (aa (f2 aD (ab 1) (fC (.int 64))) (aa (fC (.int 4)) af)))) (fC (.int 0))))) g hX [.val (bV ns),.val (.int a),.val (.int mo),.non,.non,.non,.non,.non,.non,.non,.non,.non]=some (.nx [.val (bV ns),.val (.int a),.val (.int mo),.non,.non,.non,.non,.non,.non,.non,.non,.non]):=fun g=>by
   by_cases c1:3 < mo
   ·have c2:¬ dr ns (a+64) 4=0:=fun z=>c ⟨c1,z⟩
    simp! [gD,e64,c1,c2,cQ,decide_false,decide_true,eR,Bool.false_eq_true]
   ·simp! [gD,c1,decide_false,eR,Bool.false_eq_true]
  refine d6 ?_
  show cX [.val (bV ns),.val (.int a),.val (.int mo),.non,.non,.non,.non,.non,.non,.non,.non,.non]=_
  unfold cX
  rw[aq (tA _),aq t5,aq t6,aq t7,aq tf,aq t9,aq t10,aq t11,aq (t4 _)]
  simp! [uY,aZ]
 ·have q:=du (ns:=ns) (a+56+((k:Nat):Int)) 4 hl (by decide)
  exact⟨q.2.1,by omega⟩
 ·have q:=du (ns:=ns) (a+60+((k:Nat):Int)) 4 hl (by decide)
  exact⟨q.2.1,by omega⟩
 ·obtain⟨i,hi⟩:=List.getElem?_of_mem hp
  obtain⟨r,_,rfl⟩:=fR _ hi
  have q:=du (ns:=ns) (a+56+((0+i:Nat):Int)) 4 hl (by decide)
  simp only;omega
 ·obtain⟨i,hi⟩:=List.getElem?_of_mem hp
  obtain⟨r,_,rfl⟩:=fR _ hi
  have q:=du (ns:=ns) (a+60+((0+i:Nat):Int)) 4 hl (by decide)
  simp only;omega
theorem rE{ns:List Int}{a mo:Int}(hl:ns.length<=63)(hm0:0<=mo):∃G T W,bN [bV ns,.int a,.int mo]=some (aZ G T W)/\Wd G T W/\Jx mo G T W:=by
 by_cases c:3 < mo/\dr ns (a+64) 4=0
 ·exact qy hl c.1 c.2
 ·exact qf hl hm0 c
section
variable {G T:List Pl}{W:List Wy}
theorem El(h:tZ W):(W.map fun w=>[w.1,w.2.1]).Pairwise fun a b=>Dl.lexLt a b=true:=List.pairwise_map.mpr (h.imp fun hab=>IV hab)
theorem AB(h:tZ W):(W.map fun w=>[w.1,w.2.1]).Nodup:=(El h).imp fun {a b} hab e=>by
 rw[e,eO] at hab
 cases hab
theorem Bj(h:tZ W){m:List (List Int)}(hn:m.Nodup)(hm:∀r,r∈W.map (fun w=>[w.1,w.2.1])↔r∈m):W.map (fun w=>[w.1,w.2.1])=nL m :=
 Bt ((List.perm_ext_iff_of_nodup (AB h) hn).mpr hm) ((El h).imp fun hab=>Ih hab)
theorem Wd.wok(h:Wd G T W):Iw (aZ G T W)=true:=by
 have hP:(W.map aB).map dX=W.map fun w=>[w.1,w.2.1]:=by rw[zM];rfl
 have hpg:∀i j:Int,[i,j]∈W.map (fun w=>[w.1,w.2.1])↔[i,j]∈jK 0 (G.map bG):=fun i j=>by
  rw[l4]
  constructor
  ·intro hm
   obtain⟨w,hw,e⟩:=zQ.mp hm
   simp only[List.cons.injEq,and_true] at e
   have hr:=(h.wr w hw).1
   obtain⟨p,hp⟩:∃p,G[i.toNat]?=some p:=⟨G[i.toNat]'(by omega),zK (by omega)⟩
   refine⟨i.toNat,bG p,by rw[zO,hp];rfl,by omega,?_⟩
   rw[ek,(h.gl _ p hp).mem_iff,qw,show ((i.toNat:Nat):Int)=i by omega]
   exact hm
  ·rintro⟨m,p,hp,rfl,hj⟩
   rw[zO] at hp
   obtain⟨p',hp',rfl⟩:=Option.map_eq_some_iff.mp hp
   rw[ek,(h.gl m p' hp').mem_iff,qw] at hj
   rwa [Nat.zero_add]
 have hpt:∀i j:Int,[i,j]∈W.map (fun w=>[w.1,w.2.1])↔[j,i]∈jK 0 (T.map bG):=fun i j=>by
  rw[l4]
  constructor
  ·intro hm
   obtain⟨w,hw,e⟩:=zQ.mp hm
   simp only[List.cons.injEq,and_true] at e
   have hr:=(h.wr w hw).2.1
   obtain⟨p,hp⟩:∃p,T[j.toNat]?=some p:=⟨T[j.toNat]'(by omega),zK (by omega)⟩
   refine⟨j.toNat,bG p,by rw[zO,hp];rfl,by omega,?_⟩
   rw[ek,(h.tl _ p hp).mem_iff,pJ,show ((j.toNat:Nat):Int)=j by omega]
   exact hm
  ·rintro⟨m,p,hp,rfl,hj⟩
   rw[zO] at hp
   obtain⟨p',hp',rfl⟩:=Option.map_eq_some_iff.mp hp
   rw[ek,(h.tl m p' hp').mem_iff,pJ] at hj
   rwa [Nat.zero_add]
 have two:∀ {r:List Int},r∈W.map (fun w=>[w.1,w.2.1])->∃i j,r=[i,j]:=fun hr=>by
  obtain⟨w,_,rfl⟩:=zQ.mp hr
  exact⟨_,_,rfl⟩
 have ng:∀ (L:List Pl),(∀p∈L,p.2.Nodup)->(jK 0 (L.map bG)).Nodup:=fun L hL=>o4 fun p hp=>by
  obtain⟨p',hp',rfl⟩:=zQ.mp hp
  rw[ek]
  exact hL p' hp'
 have e1:W.map (fun w=>[w.1,w.2.1])=nL (jK 0 (G.map bG)):=Bj h.wp (ng G fun p hp=>by
   obtain⟨i,hi,e⟩:=List.getElem_of_mem hp
   exact (h.gl i p (by rw[zK hi,e])).nodup_iff.mpr (kX h.wp i)) fun r=>⟨fun hr=>by
   obtain⟨i,j,rfl⟩:=two hr
   exact (hpg i j).mp hr,fun hr=>by
   obtain⟨i,j,rfl⟩:=i3 r hr
   exact (hpg i j).mpr hr⟩
 have e2:W.map (fun w=>[w.1,w.2.1])=nL ((jK 0 (T.map bG)).map List.reverse):=Bj h.wp (by
   exact List.pairwise_map.mpr (List.Pairwise.imp (fun {a b} hne e=>hne (List.reverse_inj.mp e)) (ng T fun p hp=>by
    obtain⟨i,hi,e⟩:=List.getElem_of_mem hp
    exact (h.tl i p (by rw[zK hi,e])).nodup_iff.mpr (km h.wp i)))) fun r=>⟨fun hr=>by
   obtain⟨i,j,rfl⟩:=two hr
   exact zQ.mpr ⟨[j,i],(hpt i j).mp hr,rfl⟩,fun hr=>by
   obtain⟨r',hr',rfl⟩:=zQ.mp hr
   obtain⟨i,j,rfl⟩:=i3 r' hr'
   exact (hpt j i).mpr hr'⟩
 have hw:(W.map aB).all (hC G.length T.length)=true:=by
  rw[List.all_eq_true]
  intro x hx
  obtain⟨w,hw,rfl⟩:=zQ.mp hx
  exact xa (h.wr w hw)
 have hs:∀ {L:List Pl},1<=L.length->L.length<=4->kG (.tuple (L.map bG))=true:=fun {L} a b=>by
  simp only[kG,long,zD,zF,zJ];omega
 have h3:long 3 3 (aZ G T W)=true:=rfl
 have hg:=h.gok
 have ht:=h.tok
 unfold Iw uv
 rw[h3,Bool.true_and]
 simp only[aZ,bX,List.getD_cons_zero,List.getD_cons_succ,hP,<- e1,<- e2,decide_true,Bool.and_true,gQ,hs h.g1 h.g4,hs h.t1 h.t4,zD,hg,ht,hw,DP]
end
noncomputable def sI(b:Bool):Int:=if b then 1 else 0
noncomputable def cu(b:Bool)(w:Wy):Int:=if b then w.2.1 else w.1
noncomputable def jA(b:Bool)(w:Wy):Int:=cu (!b) w
noncomputable def aQ(b:Bool)(G T:List Pl):List Pl:=if b then T else G
theorem gS(b:Bool)(G T:List Pl)(W:List Wy):ar (aZ G T W) (.int (sI b))=some (.tuple ((aQ b G T).map bG)):=by cases b<;>rfl
theorem gZ(G T:List Pl)(W:List Wy):ar (aZ G T W) (.int 2)=some (.tuple (W.map aB)):=rfl
theorem qb(b:Bool)(w:Wy):ar (aB w) (.int (sI b))=some (.int (cu b w)):=by cases b<;>rfl
theorem Co(b:Bool)(w:Wy):ar (aB w) (.int (1 - sI b))=some (.int (jA b w)):=by cases b<;>rfl
theorem CN(w:Wy):ar (aB w) (.int 2)=some (.int w.2.2):=rfl
theorem CQ(p:Pl):ar (bG p) (.int 0)=some (.int p.1):=rfl
theorem B6(p:Pl):ar (bG p) (.int 1)=some (ag p.2):=rfl
theorem tR{ds:List D}{i:Nat}{d:D}(h:ds[i]?=some d):ar (.tuple ds) (.int ((i:Nat):Int))=some d:=by
 show qv ds (i:Nat)=_
 exact qD h
theorem Ai{ds:List D}{i:Nat}{d:D}(h:ds[i]?=some d):ar (.list ds) (.int ((i:Nat):Int))=some d:=by
 show qv ds (i:Nat)=_
 exact qD h
theorem jD{α:Type}{f:α->D}{l:List α}{i:Nat}{x:α}(h:l[i]?=some x):ar (.tuple (l.map f)) (.int ((i:Nat):Int))=some (f x):=tR (by rw[zO,h];rfl)
theorem CF{α:Type}{f:α->D}{l:List α}{i:Nat}{x:α}(h:l[i]?=some x):ar (.list (l.map f)) (.int ((i:Nat):Int))=some (f x):=Ai (by rw[zO,h];rfl)
noncomputable def IC(b:Bool)(W:List Wy)(p:Int):List Int:=(W.filter fun w=>decide (cu b w=p)).map (jA b)
theorem Wd.lik{G T:List Pl}{W:List Wy}(h:Wd G T W){b:Bool}{i:Nat}{p:Pl}(e:(aQ b G T)[i]?=some p):p.2.Perm (IC b W i):=by
 cases b
 ·exact h.gl i p e
 ·exact h.tl i p e
theorem Wd.nod{G T:List Pl}{W:List Wy}(h:Wd G T W)(b:Bool)(i:Int):(IC b W i).Nodup:=by
 cases b
 ·exact kX h.wp i
 ·exact km h.wp i
theorem nr{tt:Dl.Env->Option Bool}{te:Dl.Env->Option D}{r:List (Option D)}{p:Nat->D->Bool}{h:Nat->D->D}:∀ {ds:List D}{k:Nat},
  (∀i d,ds[i]?=some d->tt (some (.int ((k+i:Nat):Int))::some d::r)=some (p (k+i) d)/\(p (k+i) d=true->te (some (.int ((k+i:Nat):Int))::some d::r)=some (h (k+i) d))) ->
  bQ (gu 0 1) tt te (none::none::r) (aI k ds)=some (((ds.zipIdx k).filter fun q=>p q.2 q.1).map fun q=>h q.2 q.1)
 | [],k,_=>rfl
 | d::ds,k,hh=>by
  obtain⟨h1,h2⟩:=hh 0 d rfl
  have ih:=nr (ds:=ds) (k:=k+1) fun i x hx=>by
   have:=hh (i+1) x (by simpa using hx)
   rw[show k+1+i=k+(i+1) by omega]
   exact this
  have hg:gu 0 1 (none::none::r) (.tuple [.int ((k:Nat):Int),d])=some (some (.int ((k:Nat):Int))::some d::r):=by
   simp only[gu,isFree,List.getElem?_cons_zero,List.getElem?_cons_succ,Option.getD_some,Option.isNone_none,and_self,if_true,List.set_cons_zero,List.set_cons_succ]
  rw[aI,bQ,hg,List.zipIdx_cons]
  simp only[Nat.add_zero] at h1 h2
  simp only[zA,h1]
  cases hp:p k d with
  | true=>simp[h2 hp,ih,hp]
  | false=>simp[ih,hp]
theorem wQ{cs:List Nat}{fi:Dl.Env->Option (List D)}{tt:Dl.Env->Option Bool}{te:Dl.Env->Option D}{ρ:Dl.Env}{ds:List D}{p:Nat->D->Bool}{h:Nat->D->D}(hfi:fi ρ=some (aI 0 ds))(hl:ds.length<=1000)
  (hh:∀i d,ds[i]?=some d->tt (some (.int ((i:Nat):Int))::some d::cs.map fun j=>(ρ[j]?).getD none)=some (p i d)/\(p i d=true->te (some (.int ((i:Nat):Int))::some d::cs.map fun j=>(ρ[j]?).getD none)=some (h i d))) :
  ai 2 cs fi (gu 0 1) tt te ρ=some ((ds.zipIdx.filter fun q=>p q.2 q.1).map fun q=>h q.2 q.1):=by
 have:=nr (tt:=tt) (te:=te) (r:=cs.map fun j=>(ρ[j]?).getD none) (p:=p) (h:=h) (ds:=ds) (k:=0) (by simpa using hh)
 simp only[ai,hfi,zA,cY,List.replicate,List.cons_append,List.nil_append,this]
 refine aY ?_
 rw[zD]
 refine yE (List.length_filter_le _ _) ?_
 rw[List.length_zipIdx]
 omega
theorem fy{α:Type}(f:α->Int):∀ {l m:List α},l.Perm m->(l.Pairwise fun a b=>f a<=f b)->(m.Pairwise fun a b=>f a < f b)->l=m
 | l,[],hp,_,_=>hp.eq_nil
 | [],x::m,hp,_,_=>absurd hp.symm.eq_nil (by simp)
 | y::l,x::m,hp,h1,h2=>by
  rw[List.pairwise_cons] at h1 h2
  have e:y=x:=by
   have hx:x∈y::l:=hp.mem_iff.mpr zE
   rcases zR.mp hx with z|hx
   ·exact z.symm
   ·have hy:y∈x::m:=hp.mem_iff.mp zE
    rcases zR.mp hy with z|hy
    ·exact z
    ·have:=h1.1 x hx
     have:=h2.1 y hy
     omega
  subst e
  rw[fy f ((List.perm_cons y).mp hp) h1.2 h2.2]
theorem tO{α:Type}(z:Nat->Int)(l:List α)(d:α)(f:α->Int)(h:∀i,i < l.length->z i=f (l.getD i d)):(pb z l d).Pairwise fun a b=>f a<=f b:=by
 unfold pb
 split
 ·rename_i hl
  match l,hl with
  | [],_=>exact List.Pairwise.nil
  | [a],_=>exact List.pairwise_singleton _ _
 ·rename_i hl
  obtain⟨hp,hs⟩:=SP.g8 (z:=z) (n:=l.length) (by omega)
  rw[List.pairwise_map] at hs ⊢
  refine hs.imp_of_mem fun {i j} hi hj hij=>?_
  have hi':i < l.length:=by have:=hp.mem_iff.mp hi;simpa using this
  have hj':j < l.length:=by have:=hp.mem_iff.mp hj;simpa using this
  rw[<- h i hi',<- h j hj']
  exact hij
noncomputable def br(W:List Wy)(i:Nat):Wy:=W.getD i (0,0,0)
theorem iT{W:List Wy}{k:Nat}(hk:k < W.length):W[k]=br W k:=by simp[br,hk]
theorem p6{W:List Wy}{k:Nat}(hk:k < W.length):W[k]?=some (br W k):=by rw[zK hk,iT hk]
noncomputable def own(b:Bool)(W:List Wy)(p:Int):List Nat:=(List.range W.length).filter fun i=>decide (cu b (br W i)=p)
noncomputable def vP(b:Bool)(W:List Wy)(p o:Int):Nat:=W.findIdx fun w=>decide (cu b w=p)&&decide (jA b w=o)
noncomputable def kU(b:Bool)(W:List Wy)(p:Int)(L:List Int):List Nat:=L.map (vP b W p)
theorem cR{b:Bool}{W:List Wy}{p:Int}{i:Nat}:i∈own b W p↔i < W.length/\cu b (br W i)=p:=by simp[own]
theorem map_range{α β:Type}(d:α)(f:α->β)(l:List α):(List.range l.length).map (fun i=>f (l.getD i d))=l.map f:=by
 apply List.ext_getElem
 ·simp
 ·intro i h1 h2
  have:i < l.length:=by simpa using h2
  simp[this]
theorem qx{α:Type}(d:α)(q:α->Bool):∀ (l:List α),((List.range l.length).filter fun i=>q (l.getD i d)).map (fun i=>l.getD i d)=l.filter q:=by
 intro l
 have e:l=(List.range l.length).map fun i=>l.getD i d:=by
  have:=map_range d (fun x=>x) l
  simp at this
  simpa using this.symm
 conv=>rhs;rw[e]
 rw[List.filter_map]
 rfl
theorem p9(b:Bool)(W:List Wy)(p:Int):(own b W p).map (fun i=>jA b (br W i))=IC b W p:=by
 unfold own IC br
 rw[<- qx (0,0,0) (fun w=>decide (cu b w=p)) W,zM]
 rfl
theorem vc{W:List Wy}(h:tZ W){i j:Nat}(hi:i < W.length)(hj:j < W.length)(h1:(br W i).1=(br W j).1)(h2:(br W i).2.1=(br W j).2.1):i=j:=by
 have e:∀k,k < W.length->W[k]?=some (br W k):=fun k hk=>by simp[br,hk]
 rcases Nat.lt_trichotomy i j with z|z|z
 ·have:=List.pairwise_iff_getElem.mp h i j hi hj z
  have a:=e i hi
  have b:=e j hj
  rw[zK hi] at a
  rw[zK hj] at b
  rw[Option.some.inj a,Option.some.inj b] at this
  rcases this with z|z<;>omega
 ·exact z
 ·have:=List.pairwise_iff_getElem.mp h j i hj hi z
  have a:=e i hi
  have b:=e j hj
  rw[zK hi] at a
  rw[zK hj] at b
  rw[Option.some.inj a,Option.some.inj b] at this
  rcases this with z|z<;>omega
theorem qP{W:List Wy}(h:tZ W){b:Bool}{i j:Nat}(hi:i < W.length)(hj:j < W.length)(h1:cu b (br W i)=cu b (br W j))(h2:jA b (br W i)=jA b (br W j)):i=j:=by
 cases b
 ·exact vc h hi hj h1 h2
 ·exact vc h hi hj h2 h1
theorem As{W:List Wy}(h:tZ W){b:Bool}{p:Int}{i:Nat}(hi:i∈own b W p):vP b W p (jA b (br W i))=i:=by
 obtain⟨hl,he⟩:=cR.mp hi
 have hw:W[i]=br W i:=by simp[br,hl]
 unfold vP
 have hlt:W.findIdx (fun w=>decide (cu b w=p)&&decide (jA b w=jA b (br W i))) < W.length:=by
  apply List.findIdx_lt_length_of_exists
  exact⟨W[i],List.getElem_mem _,by rw[hw];simp[he]⟩
 have hq:=List.findIdx_getElem (w:=hlt)
 rw[zF,zJ,zJ] at hq
 rw[iT hlt] at hq
 exact qP h hlt hl (by rw[hq.1,he]) hq.2
theorem il{G T:List Pl}{W:List Wy}(h:Wd G T W){b:Bool}{i:Nat}{p:Pl}(e:(aQ b G T)[i]?=some p):(kU b W i p.2).Perm (own b W i):=by
 have h1:=(h.lik e).map (vP b W i)
 rw[<- p9 b W i,zM] at h1
 have e2:(own b W i).map (vP b W i ∘ fun j=>jA b (br W j))=own b W i:=by
  conv=>rhs;rw[<- List.map_id (own b W i)]
  exact yJ fun j hj=>As h.wp hj
 rw[e2] at h1
 exact h1
theorem vF{G T:List Pl}{W:List Wy}(h:Wd G T W){b:Bool}{i:Nat}{p:Pl}(e:(aQ b G T)[i]?=some p){o:Int}(ho:o∈p.2):vP b W i o < W.length/\cu b (br W (vP b W i o))=i/\jA b (br W (vP b W i o))=o:=by
 have hm:=(h.lik e).mem_iff.mp ho
 rw[<- p9 b W i] at hm
 obtain⟨j,hj,rfl⟩:=zQ.mp hm
 rw[As h.wp hj]
 obtain⟨h1,h2⟩:=cR.mp hj
 exact⟨h1,h2,rfl⟩
noncomputable def kD(b:Bool)(W:List Wy)(L:List Int)(d:D):Int:=(L.findIdx fun o=>decide (o=jA b (br W (iD d).toNat)):Nat)
theorem oG:∀ {L:List Int}{x:Int},x∈L->qM x L=some (L.findIdx fun o=>decide (o=x))
 | [],x,h=>by cases h
 | o::L,x,h=>by
  unfold qM
  by_cases e:o=x
  ·simp[e,List.findIdx_cons]
  ·rw[if_neg e]
   have hx:x∈L:=(zR.mp h).resolve_left fun z=>e z.symm
   rw[oG hx]
   simp[List.findIdx_cons,e]
theorem yt{G T:List Pl}{W:List Wy}(h:Wd G T W){b:Bool}{i:Nat}{p:Pl}(e:(aQ b G T)[i]?=some p)(z:Nat->Int)(hz:∀j,j < (own b W i).length->z j=kD b W p.2 (((own b W i).map fun n=>PyData.int ((n:Nat):Int)).getD j .none)) :
  pb z ((own b W i).map fun n=>PyData.int ((n:Nat):Int)) .none=(kU b W i p.2).map fun n=>PyData.int ((n:Nat):Int):=by
 refine fy (kD b W p.2) ((iu _ _ _).trans ((il h e).symm.map _)) (tO z _ _ _ fun j hj=>hz j (by simpa using hj)) ?_
 have hn:p.2.Nodup:=(h.lik e).nodup_iff.mpr (h.nod b i)
 unfold kU
 rw[zM,List.pairwise_map]
 have key:∀k (hk:k < p.2.length),kD b W p.2 (PyData.int ((vP b W i p.2[k]:Nat):Int))=(k:Nat):=fun k hk=>by
  obtain⟨_,_,e3⟩:=vF h e (List.getElem_mem hk)
  unfold kD
  simp only[iD,yH,e3]
  congr 1
  rw[List.findIdx_eq (by exact hk)]
  refine⟨by simp,fun j hj=>?_⟩
  have:=List.pairwise_iff_getElem.mp hn j k (by omega) hk hj
  simpa using this
 refine List.pairwise_iff_getElem.mpr fun j k hj hk hjk=>?_
 show kD b W p.2 (PyData.int ((vP b W i p.2[j]:Nat):Int)) < kD b W p.2 (PyData.int ((vP b W i p.2[k]:Nat):Int))
 rw[key j hj,key k hk]
 omega
noncomputable abbrev nD(n:Nat):D:=.int ((n:Nat):Int)
theorem oS{te:Dl.Env->Option D}{ρ:Dl.Env}{h:D->D}:∀ {ds:List D},(∀d∈ds,te (ρ.set 0 (some d))=some (h d))->iE te ρ ds=some (ds.map h)
 | [],_=>rfl
 | d::ds,hh=>by
  unfold iE
  rw[hh d zE,zA,oS fun x hx=>hh x (zC _ hx)]
  rfl
theorem Di(b:Bool)(W:List Wy)(p:Int):(own b W p).length<=W.length:=by
 unfold own
 refine yE (List.length_filter_le _ _) ?_
 rw[zS]
 exact Nat.le_refl _
theorem uM(b:Bool)(W:List Wy)(p:Int):(((W.map aB).zipIdx.filter fun q=>decide (cu b (br W q.2)=p)).map fun q=>nD q.2)=(own b W p).map nD:=by
 have e:(W.map aB).zipIdx=(List.range W.length).map fun i=>(aB (br W i),i):=by
  apply List.ext_getElem
  ·simp
  ·intro i h1 h2
   have:i < W.length:=by simpa using h2
   simp[iT this]
 rw[e,List.filter_map,zM]
 rfl
theorem wD{G T:List Pl}{W:List Wy}(h:Wd G T W){b:Bool}{i:Nat}{p:Pl}(e:(aQ b G T)[i]?=some p):iY [aZ G T W,.int (sI b),nD i]=some (.list ((kU b W i p.2).map nD)):=by
 have hw:=h.wl
 have ep:ar (.tuple ((aQ b G T).map bG)) (nD i)=some (bG p):=jD e
 have hl:=Di b W i
 have t3:Dl.aU 3 [0] (f2 ar (ab 0) (fC (.int 2))) [.val (aZ G T W),.val (.int (sI b)),.val (nD i),.non,.non,.non]=some (.nx [.val (aZ G T W),.val (.int (sI b)),.val (nD i),.val (.tuple (W.map aB)),.non,.non]) :=
  dm (d:=.tuple (W.map aB)) rfl rfl rfl rfl
 have t4:Dl.aU 4 [0,1,2] (f2 ar (f2 ar (f2 ar (ab 0) (ab 1)) (ab 2)) (fC (.int 1))) [.val (aZ G T W),.val (.int (sI b)),.val (nD i),.val (.tuple (W.map aB)),.non,.non]=some (.nx [.val (aZ G T W),.val (.int (sI b)),.val (nD i),.val (.tuple (W.map aB)),.val (ag p.2),.non]):=by
  refine dm (d:=ag p.2) ?_ rfl rfl rfl
  rw[iQ (a:=bG p) (b:=.int 1) ?_ rfl,B6]
  rw[iQ (a:=.tuple ((aQ b G T).map bG)) (b:=nD i) ?_ rfl,ep]
  rw[iQ (a:=aZ G T W) (b:=.int (sI b)) rfl rfl,gS]
 have c5:ai 2 [1,2] (bp (aa (ab 3) af)) (gu 0 1) (fB (f2 bJ (f2 ar (ab 1) (ab 2)) (ab 3))) (ab 0) [some (aZ G T W),some (.int (sI b)),some (nD i),some (.tuple (W.map aB)),some (ag p.2),none]=some ((own b W i).map nD):=by
  rw[wQ (ds:=W.map aB) (p:=fun j _=>decide (cu b (br W j)=i)) (h:=fun j _=>nD j) rfl (by rw[zD];omega) fun j d hd=>?_,uM]
  rw[zO] at hd
  obtain⟨w,hw',rfl⟩:=Dl.ae hd
  have hj:j < W.length:=(zU.mp hw').1
  rw[p6 hj] at hw'
  cases hw'
  refine⟨?_,fun _=>rfl⟩
  show fB (f2 bJ (f2 ar (ab 1) (ab 2)) (ab 3)) [some (nD j),some (aB (br W j)),some (.int (sI b)),some (nD i)]=_
  simp only[fB]
  rw[iQ (a:=.int (cu b (br W j))) (b:=nD i) (by rw[iQ (a:=aB (br W j)) (b:=.int (sI b)) rfl rfl,qb]) rfl,cQ]
  rfl
 have t5:aE 5 [1,2,3] (ai 2 [1,2] (bp (aa (ab 3) af)) (gu 0 1) (fB (f2 bJ (f2 ar (ab 1) (ab 2)) (ab 3))) (ab 0)) [.val (aZ G T W),.val (.int (sI b)),.val (nD i),.val (.tuple (W.map aB)),.val (ag p.2),.non]=some (.nx [.val (aZ G T W),.val (.int (sI b)),.val (nD i),.val (.tuple (W.map aB)),.val (ag p.2),.own ((own b W i).map nD)]):=by
  have hh:hand [1,2,3] 0 [Slot.val (aZ G T W),.val (.int (sI b)),.val (nD i),.val (.tuple (W.map aB)),.val (ag p.2),.non]=[Slot.val (aZ G T W),.val (.int (sI b)),.val (nD i),.val (.tuple (W.map aB)),.val (ag p.2),.non]:=rfl
  simp only[aE,hh,bR,zI,List.map_nil,Slot.frz,c5,zB,List.set_cons_succ,List.set_cons_zero]
 have hk:iE (f2 rO (ab 3) (f2 ar (f2 ar (ab 2) (ab 0)) (f2 Dl.d7 (fC (.int 1)) (ab 1)))) [none,some (.int (sI b)),some (.tuple (W.map aB)),some (ag p.2)] ((own b W i).map nD)=some (((own b W i).map nD).map fun d=>.int (kD b W p.2 d)):=by
  refine oS fun d hd=>?_
  obtain⟨j,hj,rfl⟩:=zQ.mp hd
  obtain⟨hjl,hje⟩:=cR.mp hj
  show f2 rO (ab 3) (f2 ar (f2 ar (ab 2) (ab 0)) (f2 Dl.d7 (fC (.int 1)) (ab 1))) [some (nD j),some (.int (sI b)),some (.tuple (W.map aB)),some (ag p.2)]=_
  have ew:ar (.tuple (W.map aB)) (nD j)=some (aB (br W j)):=jD (p6 hjl)
  rw[iQ (a:=ag p.2) (b:=.int (jA b (br W j))) rfl ?_]
  ·have hm:jA b (br W j)∈p.2:=(h.lik e).mem_iff.mpr (by rw[<- p9];exact zQ.mpr ⟨j,hj,rfl⟩)
   simp only[rO,ag,dv,zA,oG hm,zB,kD,iD,yH]
   all_goals first|rfl|(congr 3;funext o;congr)
  ·rw[iQ (a:=aB (br W j)) (b:=.int (1 - sI b)) ?_ ?_,Co]
   ·rw[iQ (a:=.tuple (W.map aB)) (b:=nD j) rfl rfl,ew]
   ·rw[iQ (a:=.int 1) (b:=.int (sI b)) rfl rfl,iK]
 have hi:intsOf (((own b W i).map nD).map fun d=>PyData.int (kD b W p.2 d))=some (((own b W i).map nD).map (kD b W p.2)):=by
  rw[show (((own b W i).map nD).map fun d=>PyData.int (kD b W p.2 d))=(((own b W i).map nD).map (kD b W p.2)).map PyData.int by simp only[zM];rfl,dv]
 have t6:aX (bT (kP [1,3,4] (ab 5) (f2 rO (ab 3) (f2 ar (f2 ar (ab 2) (ab 0)) (f2 Dl.d7 (fC (.int 1)) (ab 1)))))) [.val (aZ G T W),.val (.int (sI b)),.val (nD i),.val (.tuple (W.map aB)),.val (ag p.2),.own ((own b W i).map nD)]=some (.rt (.list ((kU b W i p.2).map nD))):=by
  have es:kP [1,3,4] (ab 5) (f2 rO (ab 3) (f2 ar (f2 ar (ab 2) (ab 0)) (f2 Dl.d7 (fC (.int 1)) (ab 1)))) [some (aZ G T W),some (.int (sI b)),some (nD i),some (.tuple (W.map aB)),some (ag p.2),some (.list ((own b W i).map nD))]=some ((kU b W i p.2).map nD):=by
   unfold kP
   show (iE _ [none,some (.int (sI b)),some (.tuple (W.map aB)),some (ag p.2)] ((own b W i).map nD)).bind _=_
   rw[hk,zA,hi,zA,if_pos (by rw[zD];omega),yt h e _ fun j hj=>?_]
   simp[hj]
  simp only[aX,aV,zI,List.map_nil,qA,pS,bT,es,zB]
 refine d6 ?_
 show jf [.val (aZ G T W),.val (.int (sI b)),.val (nD i),.non,.non,.non]=_
 unfold jf
 rw[aq t3,aq t4,aq t5,t6]
local macro_rules|`(tactic| dsimp! [$ts,*])=>`(tactic| simp only[ab,fC,f1,f2,aa,af,ak,ba,kL,aM,eC,bT,fB,gB,bW,dW,mi,bp,aV,bR,qA,pS,vg,u9,wc,vn,zI,List.map_nil,List.getElem?_cons_zero,List.getElem?_cons_succ,zA,zB,Option.getD_some,zL,List.length_nil,Nat.reduceAdd,Nat.zero_add,reduceIte,List.set_cons_succ,List.set_cons_zero,$ts,*])
theorem nH{S α:Type}{tgt:ao->D->Option ao}{gb:ao->Option Out}(R:S->ao->Prop)(f:α->D)(st:S->α->S):∀ {l:List α}{s:S}{ρ:ao},
  (∀s ρ x,x∈l->R s ρ->∃ρ1 ρ2,tgt ρ (f x)=some ρ1/\gb ρ1=some (.nx ρ2)/\R (st s x) ρ2)->R s ρ->∃ρ',dF tgt gb (l.map f) ρ=some (.nx ρ')/\R (l.foldl st s) ρ'
 | [],s,ρ,_,h=>⟨ρ,rfl,h⟩
 | d::ds,s,ρ,hh,h=>by
  obtain⟨ρ1,ρ2,e1,e2,h2⟩:=hh s ρ d zE h
  obtain⟨ρ',e3,h3⟩:=nH R f st (fun s ρ x hx=>hh s ρ x (zC _ hx)) h2
  refine⟨ρ',?_,h3⟩
  rw[zI,dF,e1,zA,e2]
  exact e3
theorem i4{fz:List Nat}{fi:Dl.Env->Option (List D)}{tgt:ao->D->Option ao}{gb:ao->Option Out}{ρ ρ1:ao}{ds:List D}{o:Option Out}(h:dF tgt gb ds ρ1=o)(hi:fi (bR ρ1)=some ds)(hh:hand fz 0 ρ=ρ1):d5 fz fi tgt gb ρ=o:=by
 simp only[d5,hh,hi,zA,h]
theorem jN{i:Nat}{fz:List Nat}{f:Dl.Env->Option (List D)}{ρ ρ':ao}{ds:List D}(hh:hand fz 0 ρ=ρ')(hf:f (bR ρ')=some ds):aE i fz f ρ=some (.nx (ρ'.set i (.own ds))):=by
 simp only[aE,hh,hf,zB]
theorem jd{i:Nat}{fz:List Nat}{f:Dl.Env->Option (List D)}{ρ:ao}{ds:List D}(hf:f (bR ρ)=some ds)(hh:hand fz 0 ρ=ρ):aE i fz f ρ=some (.nx (ρ.set i (.own ds))):=jN hh hf
theorem mC{i:Nat}{fz:List Nat}{f:Dl.Env->Option D}{ρ ρ':ao}(hh:hand fz 0 ρ=ρ'){d:D}(hA:f (aV ρ)=some d)(hF:f (bR ρ')=some d)(hs:Dl.kJ d=false)(hr:gf d=false\/ρ'=ρ:=by first|exact .inr rfl|exact .inl rfl):Dl.aU i fz f ρ=some (.nx (ρ'.set i (.val d))):=by
 rcases hr with hr|hr
 ·simp only[Dl.aU,hA,zA,hs,Bool.false_eq_true,if_false,hh,hF,zB,hr]
 ·subst hr
  simp only[Dl.aU,hA,zA,hs,Bool.false_eq_true,if_false,hh,hF,zB,ite_self]
theorem call_of{n:Nat}{m:List D->Option D}{fs:Dl.Env->Option (List D)}{ρ:Dl.Env}{ds:List D}{d:D}(h:m ds=some d)(hf:fs ρ=some ds)(hn:ds.length=n):ak n m fs ρ=some d:=by
 unfold ak
 rw[hf,zA,if_pos hn,h]
theorem cons_of{f:Dl.Env->Option D}{fs:Dl.Env->Option (List D)}{ρ:Dl.Env}{d:D}{ds:List D}(h:f ρ=some d)(hs:fs ρ=some ds):aa f fs ρ=some (d::ds):=by
 unfold aa
 rw[h,hs]
 rfl
theorem jC{f:Dl.Env->Option D}{ρ:ao}{d:D}(hf:f (aV ρ)=some d):aX f ρ=some (.rt d):=by
 simp only[aX,hf,zB]
theorem ir{f:Dl.Env->Option D}{ρ:ao}{d:D}(hf:f (aV ρ)=some d):lJ f ρ=some (.nx ρ):=by
 simp only[lJ,hf,zB]
theorem gU{t:Dl.Env->Option Bool}{g:ao->Option Out}{ρ:ao}(h:t (aV ρ)=some false):jl t g hX ρ=some (.nx ρ):=by
 simp[jl,h,hX]
theorem xp{i:Nat}{fz:List Nat}{fk f:Dl.Env->Option D}{ρ:ao}{d:D}{k:Nat}{ds:List D}(hf:f (aV ρ)=some d)(hs:Dl.kJ d=true)(hk:fk (aV ρ)=some (nD k))(ho:ρ[i]?=some (.own ds))(hl:k < ds.length):uI i fz fk f ρ=some (.nx (ρ.set i (.own (ds.set k d)))):=by
 have hx:xR ds.length ((k:Nat):Int)=some k:=by
  unfold xR
  rw[if_pos (Int.natCast_nonneg k),if_pos (by omega)]
  simp
 simp only[uI,lb,hf,zA,hs,if_true,hk,kq,ho,hx,zB]
noncomputable def lp{S:Type}(cont:S->Bool)(st:S->S):Nat->S->S
 | 0,s=>s
 | n+1,s=>if cont s=true then lp cont st n (st s) else s
theorem gz{off:List Int}{i:Nat}(h:i < off.length):ar (ag off) (nD i)=some (.int (off.getD i 0)):=jD (f:=PyData.int) (l:=off) (by simp[h])
theorem uO{off:List Int}{i:Nat}(h:i < off.length):ar (.list (off.map PyData.int)) (nD i)=some (.int (off.getD i 0)):=CF (f:=PyData.int) (l:=off) (by simp[h])
theorem qt{W:List Wy}{i:Nat}(h:i < W.length):ar (.tuple (W.map aB)) (nD i)=some (aB (br W i)):=jD (p6 h)
theorem IR(a b c:Int):fF [.int a,.int b,.int c]=some (.int (min (min a b) c)):=rfl
theorem B9(l:List Int)(k:Nat)(v:Int):(l.map PyData.int).set k (.int v)=(l.set k v).map PyData.int:=by rw[List.map_set]
theorem vh(l:List Int):aN [.list (l.map PyData.int)]=some (ag l):=rfl
theorem tE(l:List D):aN [.list l]=some (.tuple l):=rfl
theorem wq(l:List D):cI [.tuple l]=some (nD l.length):=rfl
theorem xG{n:Nat}(h:n<=1000):iW [nD n]=some ((List.range n).map nD):=by
 rw[sy (qo h),yH]
theorem kr{fs:Dl.Env->Option (List D)}{ρ:Dl.Env}{n:Nat}(h:fs ρ=some [nD n])(hn:n<=1000):aF fs ρ=some ((List.range n).map nD):=by
 unfold aF
 rw[h,zA,xG hn]
theorem sub_int(i j:Int):Dl.d7 (.int i) (.int j)=some (.int (i - j)):=iK i j
theorem zeros{fi:Dl.Env->Option (List D)}{ρ:Dl.Env}{ds:List D}(hfi:fi ρ=some ds)(hl:ds.length<=1000):ai 1 [] fi (fG 0) (fun _=>some true) (fC (.int 0)) ρ=some ((List.replicate ds.length (0:Int)).map PyData.int):=by
 rw[bB (h:=fun _=>.int 0) hfi (by omega) fun d hd=>rfl]
 simp[List.map_const']
theorem zh{ds:List D}{k:Int}(h1:sC k=true)(h2:ds.length * k.toNat<=sizeLine):vV ds (.int k)=some (List.replicate k.toNat ds).flatten:=by
 simp only[vV]
 rw[if_pos (And.intro h1 h2)]
theorem DY:∀n,(List.replicate n [PyData.int 0]).flatten=(List.replicate n (0:Int)).map PyData.int
 | 0=>rfl
 | n+1=>by rw[List.replicate_succ,List.flatten_cons,DY n,List.replicate_succ];rfl
theorem xD{n:Nat}(hl:n<=1000):vV [.int 0] (nD n)=some ((List.replicate n (0:Int)).map PyData.int):=by
 rw[zh (qo hl),yH,DY]
 rw[yH,List.length_singleton,Nat.one_mul]
 exact yE hl (by decide)
theorem IQ(ρ:Dl.Env):ck (aa (fC (.int 0)) af) ρ=some [.int 0]:=by
 simp only[ck,aa,fC,af,zA,zB]
 exact aY (by simp)
theorem Fb{f:Dl.Env->Option D}{ρ:Dl.Env}{n:Nat}(hf:f ρ=some (nD n))(hl:n<=1000):k8 (ck (aa (fC (.int 0)) af)) f ρ=some ((List.replicate n (0:Int)).map PyData.int):=by
 have e:=xD hl
 unfold k8
 rw[IQ,zA,hf,zA,e]
theorem o8{r:List (Option D)}:∀ (a b:List Int),bQ (gu 0 1) (fun _=>some true) (f2 aD (ab 0) (ab 1)) (none::none::r) (gR (a.map PyData.int) (b.map PyData.int))=some ((List.zipWith (·+·) a b).map PyData.int)
 | [],b=>by cases b<;>rfl
 | x::a,[]=>rfl
 | x::a,y::b=>by
  have ih:=o8 (r:=r) a b
  have hg:gu 0 1 (none::none::r) (.tuple [.int x,.int y])=some (some (.int x)::some (.int y)::r):=by
   simp only[gu,isFree,List.getElem?_cons_zero,List.getElem?_cons_succ,Option.getD_some,Option.isNone_none,and_self,if_true,List.set_cons_zero,List.set_cons_succ]
  rw[zI,zI,gR,bQ,hg,zA]
  dsimp! [eJ,ih,List.zipWith_cons_cons]
theorem ny{fi:Dl.Env->Option (List D)}{ρ:Dl.Env}{a b:List Int}(hfi:fi ρ=some (gR (a.map PyData.int) (b.map PyData.int)))(hl:a.length<=1000) :
  ai 2 [] fi (gu 0 1) (fun _=>some true) (f2 aD (ab 0) (ab 1)) ρ=some ((List.zipWith (·+·) a b).map PyData.int):=by
 have:=o8 (r:=[]) a b
 simp only[ai,hfi,zA,cY,List.replicate,List.map_nil,List.append_nil,this]
 refine aY ?_
 rw[zD,List.length_zipWith]
 omega
noncomputable def cV(W:List Wy)(off:List Int)(left:Int)(i:Nat):Int:=min (min (off.getD i 0) (br W i).2.2) left
noncomputable def tq(W:List Wy)(off:List Int)(s:Int×List Int)(i:Nat):Int×List Int:=(s.1 - cV W off s.1 i,s.2.set i (cV W off s.1 i))
noncomputable def lX(W:List Wy)(off:List Int)(amt:Int)(is:List Nat):List Int:=(is.foldl (tq W off) (amt,List.replicate W.length 0)).2
theorem vY(W:List Wy)(off:List Int):∀ (is:List Nat) (s:Int×List Int),(is.foldl (tq W off) s).2.length=s.2.length
 | [],s=>rfl
 | i::is,s=>by rw[yK,vY W off is];simp[tq]
theorem lR(W:List Wy)(off:List Int)(amt:Int)(is:List Nat):(lX W off amt is).length=W.length:=by rw[lX,vY];simp
theorem Hu{G T:List Pl}{W:List Wy}{b:Bool}{i:Nat}{p:Pl}(e:(aQ b G T)[i]?=some p):ar (.tuple ((aQ b G T).map bG)) (nD i)=some (bG p):=jD e
theorem EV{G T:List Pl}{W:List Wy}{off:List Int}{d1 d2:D}{s:Int×List Int}{i:Nat}(hi:i < W.length)(ho:off.length=W.length)(hs:s.2.length=W.length) :
  (ay (uI 4 [0,3,5,6] (ab 6) (ba fF (aa (f2 ar (ab 3) (ab 6)) (aa (f2 ar (f2 ar (f2 ar (ab 0) (fC (.int 2))) (ab 6)) (fC (.int 2))) (aa (ab 5) af))))) (Dl.aU 5 [4,5,6] (f2 Dl.d7 (ab 5) (f2 ar (ab 4) (ab 6))))) [.val (aZ G T W),.val d1,.val d2,.val (ag off),.own (s.2.map PyData.int),.val (.int s.1),.val (nD i)]=some (.nx [.val (aZ G T W),.val d1,.val d2,.val (ag off),.own ((tq W off s i).2.map PyData.int),.val (.int (tq W off s i).1),.val (nD i)]):=by
 have hv:(ba fF (aa (f2 ar (ab 3) (ab 6)) (aa (f2 ar (f2 ar (f2 ar (ab 0) (fC (.int 2))) (ab 6)) (fC (.int 2))) (aa (ab 5) af)))) (aV [.val (aZ G T W),.val d1,.val d2,.val (ag off),.own (s.2.map PyData.int),.val (.int s.1),.val (nD i)])=some (.int (cV W off s.1 i)):=by
  dsimp! [gz (show i < off.length by omega),gZ,qt hi,CN,IR,cV]
 have t1:=xp (i:=4) (fz:=[0,3,5,6]) (fk:=ab 6) (k:=i) (ds:=s.2.map PyData.int) hv rfl rfl rfl (by rw[zD];omega)
 rw[B9] at t1
 rw[aq t1]
 have hl:i < (s.2.set i (cV W off s.1 i)).length:=by rw[yD];omega
 have hg:(s.2.set i (cV W off s.1 i)).getD i 0=cV W off s.1 i:=by
  have:i < s.2.length:=by omega
  simp[this]
 have hv2:(f2 Dl.d7 (ab 5) (f2 ar (ab 4) (ab 6))) (aV ([.val (aZ G T W),.val d1,.val d2,.val (ag off),.own (s.2.map PyData.int),.val (.int s.1),.val (nD i)].set 4 (.own ((s.2.set i (cV W off s.1 i)).map PyData.int))))=some (.int (tq W off s i).1):=by
  dsimp! [uO hl,sub_int,hg,tq]
 rw[eB hv2 rfl]
 rfl
theorem iU{G T:List Pl}{W:List Wy}{off:List Int}(h:Wd G T W)(ho:off.length=W.length){b:Bool}{i:Nat}{p:Pl}(e:(aQ b G T)[i]?=some p) :
  bK [aZ G T W,.int (sI b),nD i,ag off]=some (ag (lX W off p.1 (kU b W i p.2))):=by
 have hw:W.length<=16:=h.wl
 have t4:aE 4 [0] (ai 1 [] (aM (f2 ar (ab 0) (fC (.int 2)))) (fG 0) (fun _=>some true) (fC (.int 0))) [.val (aZ G T W),.val (.int (sI b)),.val (nD i),.val (ag off),.non,.non,.non]=some (.nx [.val (aZ G T W),.val (.int (sI b)),.val (nD i),.val (ag off),.own ((List.replicate W.length (0:Int)).map PyData.int),.non,.non]):=by
  have z:=zeros (fi:=aM (f2 ar (ab 0) (fC (.int 2)))) (ρ:=bR [.val (aZ G T W),.val (.int (sI b)),.val (nD i),.val (ag off),.non,.non,.non]) (ds:=W.map aB) rfl (by rw[zD];omega)
  rw[zD] at z
  exact jN rfl z
 have t5:Dl.aU 5 [0,1,2] (f2 ar (f2 ar (f2 ar (ab 0) (ab 1)) (ab 2)) (fC (.int 0))) [.val (aZ G T W),.val (.int (sI b)),.val (nD i),.val (ag off),.own ((List.replicate W.length (0:Int)).map PyData.int),.non,.non]=some (.nx [.val (aZ G T W),.val (.int (sI b)),.val (nD i),.val (ag off),.own ((List.replicate W.length (0:Int)).map PyData.int),.val (.int p.1),.non]) :=
  eB (d:=.int p.1) (by dsimp! [gS,Hu (W:=W) e,CQ]) rfl
 obtain⟨ρ',e3,hs',x,rfl⟩:=nH (tgt:=qu 6) (gb:=(ay (uI 4 [0,3,5,6] (ab 6) (ba fF (aa (f2 ar (ab 3) (ab 6)) (aa (f2 ar (f2 ar (f2 ar (ab 0) (fC (.int 2))) (ab 6)) (fC (.int 2))) (aa (ab 5) af))))) (Dl.aU 5 [4,5,6] (f2 Dl.d7 (ab 5) (f2 ar (ab 4) (ab 6)))))) (R:=fun s ρ=>s.2.length=W.length/\∃x,ρ=[.val (aZ G T W),.val (.int (sI b)),.val (nD i),.val (ag off),.own (s.2.map PyData.int),.val (.int s.1),x]) nD (tq W off)
  (l:=kU b W i p.2) (s:=(p.1,List.replicate W.length (0:Int))) (ρ:=[.val (aZ G T W),.val (.int (sI b)),.val (nD i),.val (ag off),.own ((List.replicate W.length (0:Int)).map PyData.int),.val (.int p.1),.non])
  (fun s ρ j hj ⟨hs,x,hρ⟩=>by
   subst hρ
   obtain⟨hjl,_⟩:=cR.mp ((il h e).mem_iff.mp hj)
   refine⟨_,_,rfl,EV hjl ho hs,?_,.val (nD j),rfl⟩
   simp[tq,hs]) ⟨by simp,_,rfl⟩
 refine d6 ?_
 show eY [.val (aZ G T W),.val (.int (sI b)),.val (nD i),.val (ag off),.non,.non,.non]=_
 unfold eY
 rw[aq t4,aq t5,aq (i4 e3 (by dsimp! [wD h e]) rfl)]
 exact jC rfl
noncomputable def cn(b:Bool)(G T:List Pl)(i:Nat):Pl:=(aQ b G T).getD i (0,[])
noncomputable def qH(b:Bool)(G T:List Pl)(W:List Wy)(off s:List Int)(i:Nat):List Int:=List.zipWith (·+·) s (lX W off (cn b G T i).1 (kU b W i (cn b G T i).2))
noncomputable def bF(b:Bool)(G T:List Pl)(W:List Wy)(off:List Int):List Int:=(List.range (aQ b G T).length).foldl (qH b G T W off) (List.replicate W.length 0)
theorem iq{b:Bool}{G T:List Pl}{i:Nat}(h:i < (aQ b G T).length):(aQ b G T)[i]?=some (cn b G T i):=by simp[cn,h]
theorem l5{b:Bool}{G T:List Pl}{W:List Wy}{off s:List Int}{i:Nat}(h:s.length=W.length):(qH b G T W off s i).length=W.length:=by
 unfold qH
 rw[List.length_zipWith,lR,h,Nat.min_self]
theorem i6{S α:Type}{f:S->α->S}(R:S->Prop):∀ {l:List α}{s:S},(∀s x,x∈l->R s->R (f s x))->R s->R (l.foldl f s)
 | [],s,_,h=>h
 | x::l,s,hh,h=>by
  rw[yK]
  exact i6 (l:=l) R (fun s y hy=>hh s y (zC _ hy)) (hh s x zE h)
theorem vm(b:Bool)(G T:List Pl)(W:List Wy)(off:List Int):(bF b G T W off).length=W.length :=
 i6 (fun s:List Int=>s.length=W.length) (fun s i _ h=>l5 h) (by simp)
theorem Wd.pl{G T:List Pl}{W:List Wy}(h:Wd G T W)(b:Bool):(aQ b G T).length<=4:=by
 cases b
 ·exact h.g4
 ·exact h.t4
noncomputable def JX:ao->Option Out:=(ay (Dl.aU 5 [0,1,2,4] (ak 4 bK (aa (ab 0) (aa (ab 1) (aa (ab 4) (aa (ab 2) af)))))) (aE 3 [3,5] (ai 2 [] (j9 (aa (ab 3) (aa (ab 5) af))) (gu 0 1) (fun _=>some true) (f2 aD (ab 0) (ab 1)))))
theorem lI{G T:List Pl}{W:List Wy}{off:List Int}(h:Wd G T W)(ho:off.length=W.length)(b:Bool) :
  cE [aZ G T W,.int (sI b),ag off]=some (ag (bF b G T W off)):=by
 have hw:W.length<=16:=h.wl
 have hp:=h.pl b
 have t3:aE 3 [0] (ai 1 [] (aM (f2 ar (ab 0) (fC (.int 2)))) (fG 0) (fun _=>some true) (fC (.int 0))) [.val (aZ G T W),.val (.int (sI b)),.val (ag off),.non,.non,.non]=some (.nx [.val (aZ G T W),.val (.int (sI b)),.val (ag off),.own ((List.replicate W.length (0:Int)).map PyData.int),.non,.non]):=by
  have z:=zeros (fi:=aM (f2 ar (ab 0) (fC (.int 2)))) (ρ:=bR [.val (aZ G T W),.val (.int (sI b)),.val (ag off),.non,.non,.non]) (ds:=W.map aB) rfl (by rw[zD];omega)
  rw[zD] at z
  exact jd z rfl
 obtain⟨ρ',e3,hs',x,y,rfl⟩:=nH (tgt:=qu 4) (gb:=JX) (R:=fun s ρ=>s.length=W.length/\∃x y,ρ=[.val (aZ G T W),.val (.int (sI b)),.val (ag off),.own (s.map PyData.int),x,y]) nD (qH b G T W off)
  (l:=List.range (aQ b G T).length) (s:=List.replicate W.length (0:Int)) (ρ:=[.val (aZ G T W),.val (.int (sI b)),.val (ag off),.own ((List.replicate W.length (0:Int)).map PyData.int),.non,.non])
  (fun s ρ i hi ⟨hs,x,y,hρ⟩=>by
   subst hρ
   have ei:=iq (zT.mp hi)
   have t1:Dl.aU 5 [0,1,2,4] (ak 4 bK (aa (ab 0) (aa (ab 1) (aa (ab 4) (aa (ab 2) af))))) [.val (aZ G T W),.val (.int (sI b)),.val (ag off),.own (s.map PyData.int),.val (nD i),y]=some (.nx [.val (aZ G T W),.val (.int (sI b)),.val (ag off),.own (s.map PyData.int),.val (nD i),.val (ag (lX W off (cn b G T i).1 (kU b W i (cn b G T i).2)))]):=by
    refine mC (ρ':=[.val (aZ G T W),.val (.int (sI b)),.val (ag off),.own (s.map PyData.int),.val (nD i),y]) rfl (d:=ag (lX W off (cn b G T i).1 (kU b W i (cn b G T i).2))) ?_ ?_ rfl
    ·dsimp! [iU h ho ei]
    ·dsimp! [iU h ho ei]
   have t2:aE 3 [3,5] (ai 2 [] (j9 (aa (ab 3) (aa (ab 5) af))) (gu 0 1) (fun _=>some true) (f2 aD (ab 0) (ab 1))) [.val (aZ G T W),.val (.int (sI b)),.val (ag off),.own (s.map PyData.int),.val (nD i),.val (ag (lX W off (cn b G T i).1 (kU b W i (cn b G T i).2)))]=some (.nx [.val (aZ G T W),.val (.int (sI b)),.val (ag off),.own ((qH b G T W off s i).map PyData.int),.val (nD i),.val (ag (lX W off (cn b G T i).1 (kU b W i (cn b G T i).2)))]):=by
    refine jN (ρ':=[.val (aZ G T W),.val (.int (sI b)),.val (ag off),.val (.list (s.map PyData.int)),.val (nD i),.val (ag (lX W off (cn b G T i).1 (kU b W i (cn b G T i).2)))]) rfl (ds:=(qH b G T W off s i).map PyData.int) ?_
    exact ny (a:=s) (b:=lX W off (cn b G T i).1 (kU b W i (cn b G T i).2)) rfl (by omega)
   exact⟨_,_,rfl,(aq t1).trans t2,l5 hs,_,_,rfl⟩) ⟨by simp,_,_,rfl⟩
 refine d6 ?_
 show cF [.val (aZ G T W),.val (.int (sI b)),.val (ag off),.non,.non,.non]=_
 unfold cF
 rw[aq t3]
 refine (aq (i4 e3 (kr (by dsimp! [gS,wq,zD]) (by omega)) rfl)).trans ?_
 exact jC rfl
theorem az{g:D->D->Option D}{fa fb:Dl.Env->Option D}{ρ:Dl.Env}{a b c:D}(h:g a b=some c)(ha:fa ρ=some a)(hb:fb ρ=some b):f2 g fa fb ρ=some c:=by rw[iQ ha hb,h]
theorem JY(d:D)(ds:List D):ar (.list (d::ds)) (.int 0)=some d:=Ai (i:=0) rfl
theorem Ke(i:Nat):Dl.aD (nD i) (.int 1)=some (nD (i+1)):=by
 rw[eJ]
 rfl
noncomputable def lK(W:List Wy):List Int:=W.map fun w=>w.2.2
theorem tj{G T:List Pl}{W:List Wy}(h:Wd G T W){f:Dl.Env->Option D}{ρ:Dl.Env}(hf:f ρ=some (aZ G T W)):(ba aN (aa (bT (ai 1 [] (aM (f2 ar f (fC (.int 2)))) (fG 0) (fun _=>some true) (f2 ar (ab 0) (fC (.int 2))))) af)) ρ=some (ag (lK W)):=by
 have hw:=h.wl
 have hs:(aM (f2 ar f (fC (.int 2)))) ρ=some (W.map aB):=by
  unfold aM
  rw[az (gZ G T W) hf rfl]
  rfl
 have e:ai 1 [] (aM (f2 ar f (fC (.int 2)))) (fG 0) (fun _=>some true) (f2 ar (ab 0) (fC (.int 2))) ρ=some ((lK W).map PyData.int):=by
  rw[bB (h:=fun d=>.int (iD ((bX d).getD 2 .none))) hs (by rw[zD];omega) fun d hd=>?_]
  ·rw[lK,zM,zM]
   rfl
  ·obtain⟨w,hw',rfl⟩:=zQ.mp hd
   rfl
 simp only[ba,aa,af,bT,e,zB,zA,vh]
theorem zq{G T:List Pl}{W:List Wy}(h:Wd G T W):jW [aZ G T W]=some (ag (lK W)):=by
 refine d6 ?_
 show mV [.val (aZ G T W)]=_
 exact jC (tj h rfl)
theorem u6(W:List Wy):(lK W).length=W.length:=by simp[lK]
noncomputable def qG(G T:List Pl)(W:List Wy)(c:List Int):List Int:=bF true G T W (bF false G T W c)
noncomputable def qR(G T:List Pl)(W:List Wy)(c:List Int)(k:Nat):Bool:=decide ((qG G T W c).getD k 0 < (bF false G T W c).getD k 0)
noncomputable def BS(G T:List Pl)(W:List Wy)(c:List Int):Option (Nat×Int):=((List.range W.length).find? (qR G T W c)).map fun k=>(k,(qG G T W c).getD k 0)
theorem enum_zip:∀ (ds:List D) (k:Nat),aI k ds=(ds.zipIdx k).map fun q=>.tuple [nD q.2,q.1]
 | [],k=>rfl
 | d::ds,k=>by rw[aI,enum_zip ds (k+1),List.zipIdx_cons];rfl
theorem dG(l:List Int)(k:Nat)(v:Int)(i:Nat):(l.set k v).getD i 0=if k=i/\i < l.length then v else l.getD i 0:=by
 simp only[zG,List.getElem?_set]
 by_cases h:k=i
 ·subst h
  by_cases h2:k < l.length
  ·simp[h2]
  ·simp[h2]
 ·simp[h]
theorem sN{a b:List Int}{i:Nat}(ha:i < a.length)(hb:i < b.length):(List.zipWith (·+·) a b).getD i 0=a.getD i 0+b.getD i 0:=by
 rw[zG,zG,zG,List.getElem?_zipWith,zK ha,zK hb]
 rfl
def Off(off:List Int):Prop:=∀i,0<=off.getD i 0
def JN(W:List Wy):Prop:=∀i,0<=(br W i).2.2
theorem Wd.lim{G T:List Pl}{W:List Wy}(h:Wd G T W):JN W:=fun i=>by
 by_cases hi:i < W.length
 ·have:=h.wr (br W i) (by rw[<- iT hi];exact List.getElem_mem hi)
  omega
 ·simp only[br,zG]
  rw[List.getElem?_eq_none (by omega)]
  simp
theorem Wd.amt{G T:List Pl}{W:List Wy}(h:Wd G T W)(b:Bool)(i:Nat):0<=(cn b G T i).1:=by
 unfold cn
 rw[zG]
 cases e:(aQ b G T)[i]? with
 | none=>simp
 | some p =>
  have hm:=List.mem_of_getElem? e
  cases b
  ·exact (h.ga p hm).1
  ·exact (h.ta p hm).1
theorem Gr{W:List Wy}{off:List Int}(ho:Off off)(hl:JN W){amt:Int}(ha:0<=amt)(is:List Nat)(i:Nat):0<=(lX W off amt is).getD i 0/\(lX W off amt is).getD i 0<=off.getD i 0:=by
 have:=i6 (l:=is) (f:=tq W off) (s:=(amt,List.replicate W.length 0)) (fun s=>0<=s.1/\∀i,0<=s.2.getD i 0/\s.2.getD i 0<=off.getD i 0) (fun s k _ ⟨h1,h2⟩=>by
  have ok:=ho k
  have lk:=hl k
  have v0:0<=cV W off s.1 k:=by unfold cV;omega
  have v1:cV W off s.1 k<=off.getD k 0:=by unfold cV;omega
  have v2:cV W off s.1 k<=s.1:=by unfold cV;omega
  refine⟨by simp only[tq];omega,fun i=>?_⟩
  simp only[tq,dG]
  split
  ·rename_i z
   rw[<- z.1]
   exact⟨v0,v1⟩
  ·exact h2 i) ⟨ha,fun i=>by
   have:=ho i
   have z:(List.replicate W.length (0:Int)).getD i 0=0:=by
    simp only[zG,List.getElem?_replicate]
    split<;>rfl
   simp only[z]
   omega⟩
 exact this.2 i
theorem vx{W:List Wy}{off:List Int}{amt:Int}{is:List Nat}{i:Nat}(hi:i∉is):(lX W off amt is).getD i 0=0:=by
 refine i6 (l:=is) (f:=tq W off) (s:=(amt,List.replicate W.length 0)) (fun s=>s.2.getD i 0=0) (fun s k hk h=>?_) ?_
 ·simp only[tq,dG]
  have hki:¬ (k=i/\i < s.2.length):=fun z=>hi (z.1 ▸ hk)
  rw[if_neg hki,h]
 ·simp only[zG,List.getElem?_replicate]
  split<;>rfl
theorem pL{G T:List Pl}{W:List Wy}(h:Wd G T W){off:List Int}(ho:Off off)(b:Bool):∀ (n:Nat),n<=(aQ b G T).length ->
  ((List.range n).foldl (qH b G T W off) (List.replicate W.length 0)).length=W.length/\∀i,i < W.length->(0<=((List.range n).foldl (qH b G T W off) (List.replicate W.length 0)).getD i 0/\((List.range n).foldl (qH b G T W off) (List.replicate W.length 0)).getD i 0<=off.getD i 0)/\((n:Nat)<=cu b (br W i)->((List.range n).foldl (qH b G T W off) (List.replicate W.length 0)).getD i 0=0)
 | 0,_=>by
  refine⟨by simp,fun i hi=>?_⟩
  have:=ho i
  have z:((List.range 0).foldl (qH b G T W off) (List.replicate W.length 0)).getD i 0=0:=by simp[zG,hi]
  rw[z]
  exact⟨by omega,fun _=>rfl⟩
 | n+1,hn=>by
  obtain⟨h1,h2⟩:=pL h ho b n (by omega)
  rw[List.range_succ,List.foldl_append,yK,List.foldl_nil]
  generalize (List.range n).foldl (qH b G T W off) (List.replicate W.length 0)=s at h1 h2
  refine⟨l5 h1,fun i hi=>?_⟩
  obtain⟨h3,h4⟩:=h2 i hi
  have e:=iq (b:=b) (G:=G) (T:=T) (i:=n) (by omega)
  have hc:=Gr ho h.lim (h.amt b n) (kU b W n (cn b G T n).2) i
  have hz:(qH b G T W off s n).getD i 0=s.getD i 0+(lX W off (cn b G T n).1 (kU b W n (cn b G T n).2)).getD i 0:=sN (by omega) (by rw[lR];exact hi)
  rw[hz]
  by_cases he:cu b (br W i)=n
  ·rw[h4 (by omega)]
   exact⟨by omega,fun z=>by omega⟩
  ·have hni:i∉kU b W n (cn b G T n).2:=fun z=>he (cR.mp ((il h e).mem_iff.mp z)).2
   rw[vx hni]
   exact⟨by omega,fun z=>by rw[h4 (by omega)];rfl⟩
theorem rJ{l:List Int}{i:Nat}(h:l.length<=i):l.getD i 0=0:=by simp[zG,h]
theorem lU{G T:List Pl}{W:List Wy}(h:Wd G T W){off:List Int}(ho:Off off)(b:Bool):Off (bF b G T W off):=fun i=>by
 by_cases hi:i < W.length
 ·exact ((pL h ho b _ (Nat.le_refl _)).2 i hi).1.1
 ·rw[rJ (by rw[vm];omega)]
  exact Int.le_refl 0
theorem FW{G T:List Pl}{W:List Wy}(h:Wd G T W){off:List Int}(ho:Off off)(b:Bool){i:Nat}(hi:i < W.length):(bF b G T W off).getD i 0<=off.getD i 0 :=
 ((pL h ho b _ (Nat.le_refl _)).2 i hi).1.2
theorem DQ{G T:List Pl}{W:List Wy}(h:Wd G T W){c:List Int}(ho:Off c){p:Nat×Int}(e:BS G T W c=some p):p.1 < W.length/\0<=p.2/\p.2 < c.getD p.1 0:=by
 unfold BS at e
 obtain⟨k,hk,rfl⟩:=Dl.ae e
 have hm:=List.mem_of_find?_eq_some hk
 have hq:=List.find?_some hk
 have hi:=zT.mp hm
 rw[qR,zJ] at hq
 have a:=FW h ho false hi
 have b:=lU h (lU h ho false) true k
 exact⟨hi,b,by simp only;omega⟩
noncomputable def Ef(c:List Int):Nat:=(c.map Int.toNat).sum
theorem vC:∀ {c:List Int}{k:Nat}{v:Int},0<=v->v < c.getD k 0->Ef (c.set k v) < Ef c
 | [],k,v,h0,h1=>by simp at h1;omega
 | x::c,0,v,h0,h1=>by
  simp at h1
  simp only[Ef,List.set_cons_zero,zI,List.sum_cons]
  omega
 | x::c,k+1,v,h0,h1=>by
  have:=vC (c:=c) (k:=k) h0 (by simpa using h1)
  simp only[Ef,List.set_cons_succ,zI,List.sum_cons] at this ⊢
  omega
theorem Cz{G T:List Pl}{W:List Wy}(h:Wd G T W):Off (lK W):=fun i=>by
 have:=h.lim i
 by_cases hi:i < W.length
 ·simpa [lK,br,zG,hi] using this
 ·rw[rJ (by rw[u6];omega)]
  exact Int.le_refl 0
theorem vJ{c:List Int}(h:Off c){k:Nat}{v:Int}(hv:0<=v):Off (c.set k v):=fun i=>by
 rw[dG]
 split
 ·exact hv
 ·exact h i
theorem nK(a:List Int):SeqAt.shaped (ag a)=true :=
 (gx.tup (b:=a.length) (k:=0) (by simp) fun x hx=>by obtain⟨i,_,rfl⟩:=zQ.mp hx;exact gF _).shaped (by decide)
theorem j7(a b:List Int):PyData.eqv (ag a) (ag b)=decide (a=b):=by
 rw[ag,ag,PyData.eqv,mJ]
theorem cW{f:Dl.Env->Option D}{ρ:Dl.Env}{b:Bool}(h:f ρ=some (.bool b)):fB f ρ=some b:=by
 simp only[fB,h,zA,gB]
theorem lY{t:Dl.Env->Option Bool}{ρ:Dl.Env}{b:Bool}(h:t ρ=some b):bW t ρ=some (!b):=by
 simp only[bW,h,zB]
theorem Fq{t u:Dl.Env->Option Bool}{ρ:Dl.Env}(h:t ρ=some false)(h2:u ρ=some false):mi t u ρ=some false:=by
 simp only[mi,h,zA,h2]
theorem zf(a b:List Int):dP (ag a) (ag b)=some (.bool (!decide (a=b))):=by
 simp only[dP,Fs,nK,and_self,if_true,j7,zB]
theorem Ba(a b:List Int):bJ (ag a) (ag b)=some (.bool (decide (a=b))):=by
 simp only[bJ,EI,nK,and_self,if_true,j7,zB]
theorem ph(a:List Int):dP (ag a) (ag a)=some (.bool false):=by rw[zf];simp
theorem xQ(a b:List (List Int)):dP (.list (a.map ag)) (.list (b.map ag))=some (.bool (!decide (a=b))):=by
 simp only[dP,Fs,lu,and_self,if_true,PyData.eqv,nF,zB]
theorem eP{i:Nat}{fz:List Nat}{f:Dl.Env->Option D}{ρ:ao}{d:D}(hA:f (aV ρ)=some d)(hF:f (bR ρ)=some d)(hh:hand fz 0 ρ=ρ):Dl.aU i fz f ρ=some (.nx (ρ.set i (.val d))):=by
 cases hs:Dl.kJ d with
 | true=>exact eB hA hs
 | false=>exact mC hh hA hF hs (.inr rfl)
theorem jm{G T:List Pl}{W:List Wy}(h:Wd G T W):bS [aZ G T W]=some .none:=by
 have hw:bO [aZ G T W]=some (.bool true):=by rw[uP h.fit (by decide),h.wok]
 have hc:(bW (fB (ak 1 bO (aa (ab 0) af)))) (aV [.val (aZ G T W)])=some false:=lY (cW (call_of hw rfl rfl))
 have:cC [.val (aZ G T W)]=some (.nx [.val (aZ G T W)]):=by
  unfold cC
  rw[gU hc]
 show (cC [.val (aZ G T W)]).map _=_
 rw[this]
 rfl
theorem n6{a b:Int}{i:Int}(h1:a<=i)(h2:i<=b):dC [.int i,.int a,.int b]=some .none:=by
 have hw:aR [.int i,.int a,.int b]=some (.bool true):=by rw[gE rfl];simp[whole,h1,h2]
 have hc:(bW (fB (ak 3 aR (aa (ab 0) (aa (ab 1) (aa (ab 2) af)))))) (aV [.val (.int i),.val (.int a),.val (.int b)])=some false:=lY (cW (call_of hw rfl rfl))
 have:cx [.val (.int i),.val (.int a),.val (.int b)]=some (.nx [.val (.int i),.val (.int a),.val (.int b)]):=by
  unfold cx
  rw[gU hc]
 show (cx [.val (.int i),.val (.int a),.val (.int b)]).map _=_
 rw[this]
 rfl
theorem iG{n i:Int}(h1:0<=i)(h2:i<=n - 1):bC [.int i,.int n]=some .none:=by
 have:b9 [.val (.int i),.val (.int n)]=some (.nx [.val (.int i),.val (.int n)]):=by
  unfold b9
  exact ir (call_of (n6 h1 h2) (cons_of rfl (cons_of rfl (cons_of (az (sub_int n 1) rfl rfl) rfl))) rfl)
 show (b9 [.val (.int i),.val (.int n)]).map _=_
 rw[this]
 rfl
theorem kg(b:Bool):cm [.int (sI b)]=some .none:=by
 have:cU [.val (.int (sI b))]=some (.nx [.val (.int (sI b))]):=by
  unfold cU
  exact ir (call_of (iG (n:=2) (i:=sI b) (by cases b<;>decide) (by cases b<;>decide)) rfl rfl)
 show (cU [.val (.int (sI b))]).map _=_
 rw[this]
 rfl
theorem lA{G T:List Pl}{W:List Wy}{off:List Int}(h:Wd G T W)(ho:off.length=W.length)(b:Bool):cM [aZ G T W,.int (sI b),ag off]=some (ag (bF b G T W off)):=by
 refine d6 ?_
 show eV [.val (aZ G T W),.val (.int (sI b)),.val (ag off)]=_
 unfold eV
 refine (aq (ir (call_of (jm h) rfl rfl))).trans ?_
 refine (aq (ir (call_of (kg b) rfl rfl))).trans ?_
 exact jC (call_of (lI h ho b) rfl rfl)
noncomputable abbrev Sp:=List (Nat×Int)×List Int
noncomputable def J3(G T:List Pl)(W:List Wy)(s:Sp):Bool:=(BS G T W s.2).isSome
noncomputable def spS(G T:List Pl)(W:List Wy)(s:Sp):Sp:=match BS G T W s.2 with|some p=>(s.1++[p],s.2.set p.1 p.2)|none=>s
noncomputable def low(c:List Int)(p:Nat×Int):List Int:=c.set p.1 p.2
structure HY(W:List Wy)(s:Sp):Prop where
 len:s.2.length=W.length
 off:Off s.2
 eq:s.2=s.1.foldl low (lK W)
 bd:s.1.length+Ef s.2<=Ef (lK W)
 mem:∀p∈s.1,p.1 < W.length
theorem HY.start{G T:List Pl}{W:List Wy}(h:Wd G T W):HY W ([],lK W):=⟨u6 W,Cz h,rfl,by simp,fun p hp=>by cases hp⟩
theorem FC{G T:List Pl}{W:List Wy}{s:Sp}{p:Nat×Int}(e:BS G T W s.2=some p):spS G T W s=(s.1++[p],s.2.set p.1 p.2):=by
 unfold spS
 rw[e]
theorem HY.step{G T:List Pl}{W:List Wy}(h:Wd G T W){s:Sp}(i:HY W s){p:Nat×Int}(e:BS G T W s.2=some p):HY W (spS G T W s)/\Ef (spS G T W s).2 < Ef s.2:=by
 obtain⟨h1,h2,h3⟩:=DQ h i.off e
 have hm:=vC h2 h3
 rw[FC e]
 refine⟨⟨by simp[i.len],vJ i.off h2,?_,?_,fun q hq=>?_⟩,hm⟩
 ·rw[List.foldl_append,<- i.eq]
  rfl
 ·have:=i.bd
  simp only[zN,List.length_singleton]
  omega
 ·rcases List.mem_append.mp hq with z|z
  ·exact i.mem q z
  ·rw[yL] at z
   rw[z]
   exact h1
noncomputable def fin(G T:List Pl)(W:List Wy):Sp:=lp (J3 G T W) (spS G T W) Rf.turns ([],lK W)
noncomputable def JQ(w:Wy):Wy:=(w.2.1,w.1,w.2.2)
structure Ord(W:List Wy)(π:List Nat):Prop where
 perm:π.Perm (List.range W.length)
 up:π.Pairwise fun i j=>(br W i).2.1 < (br W j).2.1\/((br W i).2.1=(br W j).2.1/\(br W i).1 < (br W j).1)
noncomputable def Eb(W:List Wy)(π:List Nat):List Wy:=π.map fun i=>JQ (br W i)
section
variable {W:List Wy}{π π':List Nat}{P:List Int}{G T:List Pl}
theorem Ord.len(o:Ord W π):π.length=W.length:=by rw[o.perm.length_eq,zS]
theorem Ord.lt(o:Ord W π){k:Nat}(hk:k < W.length):π.getD k 0 < W.length:=by
 have h:k < π.length:=by rw[o.len];exact hk
 have:=o.perm.mem_iff.mp (List.getElem_mem h)
 rw[zG,zK h]
 simpa using this
theorem Ord.ex(o:Ord W π){i:Nat}(hi:i < W.length):∃k,k < W.length/\π.getD k 0=i:=by
 have:i∈π:=o.perm.mem_iff.mpr (by simpa using hi)
 obtain⟨k,hk,e⟩:=List.getElem_of_mem this
 exact⟨k,by rw[<- o.len];exact hk,by rw[zG,zK hk];exact e⟩
theorem Ck(o:Ord W π):(Eb W π).length=W.length:=by simp[Eb,o.len]
theorem yu(o:Ord W π){k:Nat}(hk:k < W.length):br (Eb W π) k=JQ (br W (π.getD k 0)):=by
 have h:k < π.length:=by rw[o.len];exact hk
 simp[br,Eb,h,zG]
theorem Ord.ris(o:Ord W π):tZ (Eb W π):=by
 unfold tZ Eb
 rw[List.pairwise_map]
 exact o.up
theorem FT(h:tZ W){i j:Nat}(hi:i < W.length)(hj:j < W.length)(e:(br W i).1 < (br W j).1\/((br W i).1=(br W j).1/\(br W i).2.1 < (br W j).2.1)):i < j:=by
 rcases Nat.lt_or_ge i j with q|q
 ·exact q
 ·exfalso
  rcases Nat.eq_or_lt_of_le q with q|q
  ·subst q;omega
  ·have:=List.pairwise_iff_getElem.mp h j i hj hi q
   rw[iT hi,iT hj] at this
   omega
theorem uw{l:List Nat}{n:Nat}(p:l.Perm (List.range n))(h:l.Pairwise (· < ·)):l=List.range n:=by
 refine fy (fun i=>((i:Nat):Int)) p (h.imp fun {a b} q=>by omega) (List.pairwise_lt_range.imp fun {a b} q=>by omega)
theorem map_getD(l:List Nat):(List.range l.length).map (fun k=>l.getD k 0)=l:=by
 apply List.ext_getElem
 ·simp
 ·intro i h1 h2
  simp[h2]
theorem Ord.back(h:tZ W)(o:Ord W π)(o':Ord (Eb W π) π'):π'.map (fun k=>π.getD k 0)=List.range W.length:=by
 have hl:(Eb W π).length=W.length:=Ck o
 refine uw ?_ ?_
 ·have:=(o'.perm.map fun k=>π.getD k 0)
  rw[hl,<- o.len,map_getD] at this
  exact this.trans o.perm
 ·rw[List.pairwise_map]
  refine o'.up.imp_of_mem fun {i j} hi hj q=>?_
  have hi':i < W.length:=by have:=o'.perm.mem_iff.mp hi;rw[hl] at this;simpa using this
  have hj':j < W.length:=by have:=o'.perm.mem_iff.mp hj;rw[hl] at this;simpa using this
  rw[yu o hi',yu o hj'] at q
  exact FT h (o.lt hi') (o.lt hj') q
noncomputable def Iv(b:Bool)(W:List Wy)(P:List Int)(p:Int):Int:=((own b W p).map fun i=>P.getD i 0).sum
end
section
variable {W:List Wy}{π π':List Nat}{P:List Int}{G T:List Pl}
theorem Wd.end_pl(h:Wd G T W)(b:Bool){k:Nat}(hk:k < W.length):0<=cu b (br W k)/\(cu b (br W k)).toNat < (aQ b G T).length/\((cu b (br W k)).toNat:Int)=cu b (br W k):=by
 have:=h.wr (br W k) (by rw[<- iT hk];exact List.getElem_mem _)
 cases b
 ·simp only[cu,aQ,Bool.false_eq_true,if_false];omega
 ·simp only[cu,aQ,if_true];omega
structure Pn(G T:List Pl)(W:List Wy)(P:List Int):Prop where
 len:P.length=W.length
 bd:∀k,k < W.length->0<=P.getD k 0/\P.getD k 0<=(br W k).2.2
 am:∀ (b:Bool) (i:Nat),i < (aQ b G T).length->Iv b W P i<=(cn b G T i).1
end
section
variable {W:List Wy}{G T:List Pl}{off:List Int}
theorem v7(h:Wd G T W)(b:Bool):∀ (n:Nat),n<=(aQ b G T).length ->
  ((List.range n).foldl (qH b G T W off) (List.replicate W.length 0)).length=W.length/\∀k,k < W.length ->
   ((List.range n).foldl (qH b G T W off) (List.replicate W.length 0)).getD k 0=if cu b (br W k) < n then (lX W off (cn b G T (cu b (br W k)).toNat).1 (kU b W (cu b (br W k)).toNat (cn b G T (cu b (br W k)).toNat).2)).getD k 0 else 0
 | 0,_=>by
  refine⟨by simp,fun k hk=>?_⟩
  obtain⟨h1,_,_⟩:=h.end_pl b hk
  rw[if_neg (by omega)]
  simp[zG,hk]
 | n+1,hn=>by
  obtain⟨h1,h2⟩:=v7 h b n (by omega)
  rw[List.range_succ,List.foldl_append,yK,List.foldl_nil]
  generalize (List.range n).foldl (qH b G T W off) (List.replicate W.length 0)=s at h1 h2
  refine⟨l5 h1,fun k hk=>?_⟩
  have hz:(qH b G T W off s n).getD k 0=s.getD k 0+(lX W off (cn b G T n).1 (kU b W n (cn b G T n).2)).getD k 0:=sN (by omega) (by rw[lR];exact hk)
  rw[hz,h2 k hk]
  obtain⟨g1,_,_⟩:=h.end_pl b hk
  have e:=iq (b:=b) (G:=G) (T:=T) (i:=n) (by omega)
  by_cases he:cu b (br W k)=n
  ·have hn':(cu b (br W k)).toNat=n:=by omega
   rw[if_neg (by omega),if_pos (by omega),hn']
   omega
  ·have hni:k∉kU b W n (cn b G T n).2:=fun z=>he (cR.mp ((il h e).mem_iff.mp z)).2
   rw[vx hni]
   by_cases hlt:cu b (br W k) < n
   ·rw[if_pos hlt,if_pos (by omega)];omega
   ·rw[if_neg hlt,if_neg (by omega)];rfl
theorem F6(h:Wd G T W)(b:Bool){k:Nat}(hk:k < W.length):(bF b G T W off).getD k 0=(lX W off (cn b G T (cu b (br W k)).toNat).1 (kU b W (cu b (br W k)).toNat (cn b G T (cu b (br W k)).toNat).2)).getD k 0:=by
 have:=(v7 (off:=off) h b _ (Nat.le_refl _)).2 k hk
 obtain⟨_,h2,h3⟩:=h.end_pl b hk
 rw[if_pos (by omega)] at this
 exact this
end
noncomputable def EW(G T:List Pl)(W:List Wy)(P:List Int):Bool :=
 ((List.range G.length).all fun i=>decide (Iv false W P i<=(cn false G T i).1))&&((List.range T.length).all fun i=>decide (Iv true W P i<=(cn true G T i).1))
noncomputable def zs(n:Nat):List Int:=List.replicate n 0
section
variable {W:List Wy}{G T:List Pl}{d:Nat->Int}
theorem Ag{P:List Int}:EW G T W P=true↔∀ (b:Bool) (i:Nat),i < (aQ b G T).length->Iv b W P i<=(cn b G T i).1:=by
 unfold EW
 rw[zF,List.all_eq_true,List.all_eq_true]
 constructor
 ·rintro⟨h1,h2⟩ b i hi
  cases b
  ·exact of_decide_eq_true (h1 i (by simpa [aQ] using hi))
  ·exact of_decide_eq_true (h2 i (by simpa [aQ] using hi))
 ·intro h
  exact⟨fun i hi=>yB (h false i (by simpa [aQ] using hi)),fun i hi=>yB (h true i (by simpa [aQ] using hi))⟩
theorem Pn.fit{P:List Int}(p:Pn G T W P):EW G T W P=true:=Ag.mpr p.am
end
theorem pf{tt:Dl.Env->Option Bool}{te:Dl.Env->Option D}{r:List (Option D)}{x y h:Nat->D}{p:Nat->Bool}:∀ (is:List Nat),
  (∀i∈is,tt (some (x i)::some (y i)::r)=some (p i)/\(p i=true->te (some (x i)::some (y i)::r)=some (h i))) ->
  bQ (gu 0 1) tt te (none::none::r) (is.map fun i=>.tuple [x i,y i])=some ((is.filter p).map h)
 | [],_=>rfl
 | i::is,hh=>by
  obtain⟨h1,h2⟩:=hh i zE
  have ih:=pf is fun j hj=>hh j (zC _ hj)
  have hg:gu 0 1 (none::none::r) (.tuple [x i,y i])=some (some (x i)::some (y i)::r):=by
   simp only[gu,isFree,List.getElem?_cons_zero,List.getElem?_cons_succ,Option.getD_some,Option.isNone_none,and_self,if_true,List.set_cons_zero,List.set_cons_succ]
  rw[zI,bQ,hg]
  simp only[zA,h1]
  cases hp:p i with
  | true=>simp[h2 hp,ih,hp]
  | false=>simp[ih,hp]
theorem Az{cs:List Nat}{fi:Dl.Env->Option (List D)}{tt:Dl.Env->Option Bool}{te:Dl.Env->Option D}{ρ:Dl.Env}{n:Nat}{x y h:Nat->D}{p:Nat->Bool}(hfi:fi ρ=some ((List.range n).map fun i=>.tuple [x i,y i]))(hl:n<=1000)
  (hh:∀i,i < n->tt (some (x i)::some (y i)::cs.map fun j=>(ρ[j]?).getD none)=some (p i)/\(p i=true->te (some (x i)::some (y i)::cs.map fun j=>(ρ[j]?).getD none)=some (h i))) :
  ai 2 cs fi (gu 0 1) tt te ρ=some (((List.range n).filter p).map h):=by
 have:=pf (tt:=tt) (te:=te) (r:=cs.map fun j=>(ρ[j]?).getD none) (p:=p) (h:=h) (List.range n) fun i hi=>hh i (by simpa using hi)
 simp only[ai,hfi,zA,cY,List.replicate,List.cons_append,List.nil_append,this]
 refine aY ?_
 rw[zD]
 refine yE (List.length_filter_le _ _) ?_
 rw[zS]
 omega
theorem ij{g:List D->Option D}{f:Dl.Env->Option D}{ρ:Dl.Env}{d:D}(h:f ρ=some d):ba g (aa f af) ρ=g [d]:=by
 simp only[ba,aa,af,h,zB,zA]
theorem qk{α:Type}{k:α->D}{f:Dl.Env->Option D}{ρ:Dl.Env}{l:List α}(h:f ρ=some (.tuple (l.map k))):ba cI (aa f af) ρ=some (nD l.length):=by
 rw[ij h,wq,zD]
theorem FD{W:List Wy}{k:Nat}(hk:k < W.length):br W k∈W:=iT hk ▸ List.getElem_mem hk
section
variable {G T:List Pl}{W:List Wy}{P:List Int}
end
section
variable {G T:List Pl}{W:List Wy}{P:List Int}
theorem i8{cs:List Nat}{fi:Dl.Env->Option (List D)}{te:Dl.Env->Option D}{ρ:Dl.Env}{is:List Nat}{f:Nat->D}(hfi:fi ρ=some (is.map nD))(hl:is.length<=1000)(hh:∀i∈is,te (some (nD i)::cs.map fun j=>(ρ[j]?).getD none)=some (f i)):ai 1 cs fi (fG 0) (fun _=>some true) te ρ=some (is.map f):=by
 rw[bB (h:=fun d=>f (iD d).toNat) hfi (by rw[zD];omega) fun d hd=>?_]
 ·rw[zM]
  refine congrArg some (yJ fun i _=>?_)
  simp[iD]
 ·obtain⟨i,hi,rfl⟩:=zQ.mp hd
  rw[hh i hi]
  simp[iD]
end
theorem C7{f g:Dl.Env->Option D}{ρ:Dl.Env}{ds:List D}{k:Nat}(h:f ρ=some (.list ds))(h2:g ρ=some (nD k)):uJ mO f (GE g) uq ρ=some (.list (ds.drop k)):=by
 have:=Bu ds k
 simp only[uJ,h,GE,h2,uq,gI,mO,zA,zB,this]
section
variable {G T:List Pl}{W:List Wy}{P:List Int}
theorem lj{tt:Dl.Env->Option Bool}{te:Dl.Env->Option D}{r:List (Option D)}{f:Nat->D}{q:Nat->Bool}:∀ (is:List Nat),(∀i∈is,tt (some (nD i)::r)=some (q i)/\(q i=true->te (some (nD i)::r)=some (f i)))->bQ (fG 0) tt te (none::r) (is.map nD)=some ((is.filter q).map f)
 | [],_=>rfl
 | i::is,h=>by
  have ih:=lj (tt:=tt) (te:=te) (r:=r) (f:=f) (q:=q) is fun j hj=>h j (zC _ hj)
  obtain⟨h1,h2⟩:=h i zE
  have hg:fG 0 (none::r) (nD i)=some (some (nD i)::r):=rfl
  rw[zI,bQ,hg,zA,h1,zA,List.filter_cons]
  cases e:q i with
  | true =>
   rw[if_pos rfl,if_pos rfl,h2 e,zA,ih]
   rfl
  | false =>
   rw[if_neg (by simp),if_neg (by simp),ih]
theorem jJ{cs:List Nat}{fi:Dl.Env->Option (List D)}{tt:Dl.Env->Option Bool}{te:Dl.Env->Option D}{ρ:Dl.Env}{is:List Nat}{f:Nat->D}{q:Nat->Bool}(hfi:fi ρ=some (is.map nD))(hl:is.length<=1000)(hh:∀i∈is,tt (some (nD i)::cs.map fun j=>(ρ[j]?).getD none)=some (q i)/\(q i=true->te (some (nD i)::cs.map fun j=>(ρ[j]?).getD none)=some (f i))):ai 1 cs fi (fG 0) tt te ρ=some ((is.filter q).map f):=by
 have:=lj is hh
 simp only[ai,hfi,zA,cY,List.replicate,List.cons_append,List.nil_append,this]
 refine aY ?_
 rw[zD]
 refine yE (List.length_filter_le _ _) ?_
 omega
end
theorem l6{tgt:ao->D->Option ao}{gb:ao->Option Out}(f:Nat->D)(R:Nat->ao->Prop):∀ (n k:Nat) (ρ:ao),
  (∀j ρ,k<=j->j < k+n->R j ρ->∃ρ1 ρ2,tgt ρ (f j)=some ρ1/\gb ρ1=some (.nx ρ2)/\R (j+1) ρ2)->R k ρ->∃ρ',dF tgt gb ((List.range' k n).map f) ρ=some (.nx ρ')/\R (k+n) ρ'
 | 0,k,ρ,_,h=>⟨ρ,rfl,h⟩
 | n+1,k,ρ,hh,h=>by
  obtain⟨ρ1,ρ2,e1,e2,h2⟩:=hh k ρ (Nat.le_refl _) (by omega) h
  obtain⟨ρ',e3,h3⟩:=l6 f R n (k+1) ρ2 (fun j ρ a b=>hh j ρ (by omega) (by omega)) h2
  refine⟨ρ',?_,by rw[show k+(n+1)=k+1+n by omega];exact h3⟩
  rw[List.range'_succ,zI,dF,e1,zA,e2]
  exact e3
section
variable {G T:List Pl}{W:List Wy}{P:List Int}
end
section
variable {ns:List Int}{G T:List Pl}{W:List Wy}{at':Int}
theorem B3{tc:Dl.Env->Option Bool}{fa fb:Dl.Env->Option D}{ρ:Dl.Env}{d:D}(h:tc ρ=some true)(ha:fa ρ=some d):BQ tc fa fb ρ=some d:=by
 simp only[BQ,h,zA,ha]
theorem Ew{tc:Dl.Env->Option Bool}{fa fb:Dl.Env->Option D}{ρ:Dl.Env}{d:D}(h:tc ρ=some false)(ha:fb ρ=some d):BQ tc fa fb ρ=some d:=by
 simp only[BQ,h,zA,ha]
end
section
variable {G T:List Pl}{W:List Wy}
theorem lg:∀ {l:List D},(∀d∈l,PyData.eqv d d=true)->PyData.eqvAll l l=true
 | [],_=>by simp[PyData.eqvAll]
 | d::l,h=>by
  rw[PyData.eqvAll,h d zE,lg fun x hx=>h x (zC _ hx)]
  rfl
theorem Fp(a:List Int):PyData.eqv (ag a) (ag a)=true:=by rw[j7];simp
theorem EO(a:Int):PyData.eqv (.int a) (.int a)=true:=by
 have:=Fp [a]
 rw[ag,PyData.eqv,zI,List.map_nil,PyData.eqvAll] at this
 simp only[zF] at this
 exact this.1
end
section
variable {W:List Wy}{G T:List Pl}{P off:List Int}
end
noncomputable def sm(l:List Nat)(f:Nat->Int):Int:=(l.map f).sum
theorem bb(q:Nat)(l:List Nat)(f:Nat->Int):sm (q::l) f=f q+sm l f:=by simp[sm]
theorem pN(q:Nat)(f:Nat->Int):sm [q] f=f q:=by simp[sm]
theorem cT:∀ {l:List Nat}{f g:Nat->Int},(∀q∈l,f q=g q)->sm l f=sm l g
 | [],_,_,_=>rfl
 | q::l,f,g,h=>by rw[bb,bb,h q zE,cT fun x hx=>h x (zC _ hx)]
theorem Bw:∀ {l:List Nat}{f g:Nat->Int},(∀q∈l,f q<=g q)->sm l f<=sm l g
 | [],_,_,_=>Int.le_refl _
 | q::l,f,g,h=>by
  have h1:=h q zE
  have h2:=Bw (l:=l) fun x hx=>h x (zC _ hx)
  rw[bb,bb]
  omega
theorem DU{l:List Nat}{f:Nat->Int}(h:∀q∈l,0<=f q):0<=sm l f:=by
 have:sm l (fun _=>0)=0:=by induction l with
  | nil=>rfl
  | cons q l ih=>rw[bb,ih fun x hx=>h x (zC _ hx)];rfl
 rw[<- this]
 exact Bw h
theorem DD{l r:List Nat}(p:l.Perm r)(f:Nat->Int):sm l f=sm r f:=by
 induction p with
 | nil=>rfl
 | cons x _ ih=>rw[bb,bb,ih]
 | swap x y l=>rw[bb,bb,bb,bb];omega
 | trans _ _ h1 h2=>rw[h1,h2]
noncomputable def ch(m:Nat->Int):Int->List Nat->Nat->Int
 | _,[],_=>0
 | a,q::r,k=>if k=q then min (m q) a else ch m (a - min (m q) a) r k
theorem aO(m:Nat->Int)(a:Int)(q:Nat)(r:List Nat):ch m a (q::r) q=min (m q) a:=by simp[ch]
theorem aL{m:Nat->Int}{a:Int}{q k:Nat}{r:List Nat}(h:k≠q):ch m a (q::r) k=ch m (a - min (m q) a) r k:=by simp[ch,h]
theorem uW{m:Nat->Int}:∀ {a:Int}{l:List Nat}{k:Nat},k∉l->ch m a l k=0
 | _,[],_,_=>rfl
 | a,q::r,k,h=>by
  rw[zR,not_or] at h
  rw[aL h.1,uW h.2]
theorem wt{m:Nat->Int}:∀ {a:Int}{l:List Nat},(∀q∈l,0<=m q)->0<=a->∀k,0<=ch m a l k/\ch m a l k<=a/\(k∈l->ch m a l k<=m k)
 | a,[],_,ha,k=>⟨Int.le_refl _,ha,fun h=>by cases h⟩
 | a,q::r,hm,ha,k=>by
  have h0:=hm q zE
  by_cases e:k=q
  ·subst e
   rw[aO]
   exact⟨by omega,by omega,fun _=>by omega⟩
  ·rw[aL e]
   obtain⟨h1,h2,h3⟩:=wt (m:=m) (a:=a - min (m q) a) (l:=r) (fun x hx=>hm x (zC _ hx)) (by omega) k
   refine⟨h1,by omega,fun hk=>?_⟩
   rcases zR.mp hk with z|z
   ·exact absurd z e
   ·exact h3 z
theorem AA{m:Nat->Int}:∀ {a:Int}{l:List Nat},l.Nodup->(∀q∈l,0<=m q)->0<=a->sm l (ch m a l)=min a (sm l m)
 | a,[],_,_,ha=>by simp[sm];omega
 | a,q::r,hn,hm,ha=>by
  rw[List.nodup_cons] at hn
  have h0:=hm q zE
  have hr:∀x∈r,0<=m x:=fun x hx=>hm x (zC _ hx)
  have hs:=DU hr
  have ih:=AA (m:=m) (a:=a - min (m q) a) hn.2 hr (by omega)
  rw[bb,bb,aO,cT (g:=ch m (a - min (m q) a) r) fun x hx=>aL fun e=>hn.1 (e ▸ hx),ih]
  omega
theorem vb{m:Nat->Int}:∀ {a a':Int}{l:List Nat}{k:Nat},a<=a'->ch m a l k<=ch m a' l k
 | _,_,[],_,_=>Int.le_refl _
 | a,a',q::r,k,h=>by
  by_cases e:k=q
  ·subst e
   rw[aO,aO]
   omega
  ·rw[aL e,aL e]
   exact vb (by omega)
theorem vp{m m':Nat->Int}:∀ {a:Int}{l:List Nat},l.Nodup->(∀q∈l,ch m a l q<=m' q/\m' q<=m q)->∀k,ch m' a l k=ch m a l k
 | _,[],_,_,_=>rfl
 | a,q::r,hn,h,k=>by
  rw[List.nodup_cons] at hn
  have h0:=h q zE
  rw[aO] at h0
  have e0:min (m' q) a=min (m q) a:=by omega
  by_cases e:k=q
  ·subst e
   rw[aO,aO,e0]
  ·rw[aL e,aL e,e0]
   exact vp hn.2 (fun x hx=>by
    have:=h x (zC _ hx)
    rwa [aL (show x≠q from fun z=>hn.1 (z ▸ hx))] at this) k
theorem mX{m m':Nat->Int}:∀ {a:Int}{l:List Nat},(∀q∈l,m q=m' q)->∀k,ch m a l k=ch m' a l k
 | _,[],_,_=>rfl
 | a,q::r,h,k=>by
  have h0:=h q zE
  by_cases e:k=q
  ·subst e
   rw[aO,aO,h0]
  ·rw[aL e,aL e,h0]
   exact mX (fun x hx=>h x (zC _ hx)) k
noncomputable def up:List Nat->Nat->List Nat
 | [],_=>[]
 | q::r,k=>if k=q then [q] else q::up r k
theorem iX(q:Nat)(r:List Nat):up (q::r) q=[q]:=by simp[up]
theorem eh{q k:Nat}{r:List Nat}(h:k≠q):up (q::r) k=q::up r k:=by simp[up,h]
theorem ip:∀ {l:List Nat}{k q:Nat},q∈up l k->q∈l
 | [],_,_,h=>by cases h
 | x::l,k,q,h=>by
  by_cases e:k=x
  ·subst e
   rw[iX,yL] at h
   exact h ▸ zE
  ·rw[eh e] at h
   rcases zR.mp h with z|z
   ·exact z ▸ zE
   ·exact zC _ (ip z)
theorem vU:∀ {l:List Nat}{k:Nat},k∈l->k∈up l k
 | x::l,k,h=>by
  by_cases e:k=x
  ·subst e
   rw[iX]
   exact zE
  ·rw[eh e]
   rcases zR.mp h with z|z
   ·exact absurd z e
   ·exact zC _ (vU z)
theorem Br:∀ {xs ys:List Nat}{k:Nat},k∉xs->up (xs++k::ys) k=xs++[k]
 | [],ys,k,_=>iX _ _
 | x::xs,ys,k,h=>by
  rw[zR,not_or] at h
  rw[List.cons_append,eh h.1,Br h.2]
  rfl
theorem AS:∀ {l:List Nat}{k q:Nat},k∈l->q∈l->q∉up l k->k∈up l q
 | x::l,k,q,hk,hq,h=>by
  by_cases e:q=x
  ·subst e
   exfalso
   by_cases e2:k=q
   ·subst e2;exact h (vU hk)
   ·rw[eh e2] at h
    exact h zE
  ·rw[eh e]
   by_cases e2:k=x
   ·subst e2;exact zE
   ·rw[eh e2,zR,not_or] at h
    rcases zR.mp hk with z|z
    ·exact absurd z e2
    ·rcases zR.mp hq with z2|z2
     ·exact absurd z2 e
     ·exact zC _ (AS z z2 h.2)
theorem ve{m:Nat->Int}:∀ {a:Int}{l:List Nat}{k:Nat},l.Nodup->k∈l->ch m a l k < m k->sm (up l k) (ch m a l)=a
 | a,q::r,k,hn,hk,h=>by
  rw[List.nodup_cons] at hn
  by_cases e:k=q
  ·subst e
   rw[aO] at h
   rw[iX,pN,aO]
   omega
  ·rw[aL e] at h
   have hk':k∈r:=by
    rcases zR.mp hk with z|z
    ·exact absurd z e
    ·exact z
   have ih:=ve hn.2 hk' h
   rw[eh e,bb,aO,cT (g:=ch m (a - min (m q) a) r) fun x hx=>aL fun z=>hn.1 (z ▸ ip hx),ih]
   omega
theorem yx{m:Nat->Int}:∀ {a:Int}{l:List Nat}{k q:Nat},l.Nodup->(∀x∈l,0<=m x)->0<=a->0 < ch m a l k->q∈up l k->q≠k->ch m a l q=m q
 | a,[],_,_,_,_,_,_,h,_=>by cases h
 | a,x::r,k,q,hn,hm,ha,h,hq,hne=>by
  rw[List.nodup_cons] at hn
  have h0:=hm x zE
  have hr:∀y∈r,0<=m y:=fun y hy=>hm y (zC _ hy)
  by_cases e:k=x
  ·subst e
   rw[iX,yL] at hq
   exact absurd hq hne
  ·rw[aL e] at h
   rw[eh e] at hq
   rcases zR.mp hq with z|z
   ·subst z
    rw[aO]
    have:=(wt (m:=m) (a:=a - min (m q) a) hr (by omega) k).2.1
    omega
   ·have hqx:q≠x:=fun w=>hn.1 (w ▸ ip z)
    rw[aL hqx]
    exact yx hn.2 hr (by omega) h z hne
theorem D7{m:Nat->Int}:∀ {a:Int}{l:List Nat}{k:Nat},l.Nodup->(∀x∈l,0<=m x)->0<=a->k∈l->sm (up l k) (ch m a l)=min a (sm (up l k) m)
 | a,q::r,k,hn,hm,ha,hk=>by
  rw[List.nodup_cons] at hn
  have h0:=hm q zE
  have hr:∀y∈r,0<=m y:=fun y hy=>hm y (zC _ hy)
  by_cases e:k=q
  ·subst e
   rw[iX,pN,pN,aO]
   omega
  ·have hk':k∈r:=by
    rcases zR.mp hk with z|z
    ·exact absurd z e
    ·exact z
   have ih:=D7 (m:=m) (a:=a - min (m q) a) hn.2 hr (by omega) hk'
   have hs:=DU (l:=up r k) fun y hy=>hr y (ip hy)
   rw[eh e,bb,bb,aO,cT (g:=ch m (a - min (m q) a) r) fun x hx=>aL fun z=>hn.1 (z ▸ ip hx),ih]
   omega
theorem yT{m m':Nat->Int}{p:Nat}:∀ {a:Int}{l:List Nat},l.Nodup->(∀x∈l,x≠p->m' x=m x)->m' p<=ch m a l p->(∀k∈l,k≠p->ch m a l k<=ch m' a l k)/\(p∈l->ch m' a l p=m' p)
 | _,[],_,_,_=>⟨fun _ h=>absurd h yG,fun h=>absurd h yG⟩
 | a,q::r,hn,h,hp=>by
  rw[List.nodup_cons] at hn
  by_cases e:q=p
  ·subst e
   rw[aO] at hp
   have hs:∀x∈r,m' x=m x:=fun x hx=>h x (zC _ hx) fun z=>hn.1 (z ▸ hx)
   refine⟨fun k hk hne=>?_,fun _=>?_⟩
   ·rw[aL hne,aL hne,mX (m:=m') (m':=m) hs]
    exact vb (by omega)
   ·rw[aO];omega
  ·have hq:=h q zE e
   rw[aL (Ne.symm e)] at hp
   obtain⟨i1,i2⟩:=yT (m:=m) (m':=m') (p:=p) (a:=a - min (m q) a) hn.2 (fun x hx=>h x (zC _ hx)) hp
   refine⟨fun k hk hne=>?_,fun hk=>?_⟩
   ·by_cases e2:k=q
    ·subst e2
     rw[aO,aO,hq]
     exact Int.le_refl _
    ·rw[aL e2,aL e2,hq]
     rcases zR.mp hk with z|z
     ·exact absurd z e2
     ·exact i1 k z hne
   ·rw[aL (Ne.symm e),hq]
    rcases zR.mp hk with z|z
    ·exact absurd z.symm e
    ·exact i2 z
noncomputable def kh(b:Bool)(W:List Wy)(k:Nat):Nat:=(cu b (br W k)).toNat
noncomputable def lst(b:Bool)(G T:List Pl)(W:List Wy)(i:Nat):List Nat:=kU b W i (cn b G T i).2
noncomputable def amt(b:Bool)(G T:List Pl)(i:Nat):Int:=(cn b G T i).1
noncomputable def mm(W:List Wy)(off:List Int)(q:Nat):Int:=min (off.getD q 0) (br W q).2.2
noncomputable def vl(P:List Int)(q:Nat):Int:=P.getD q 0
section
variable {G T:List Pl}{W:List Wy}{P X c off:List Int}{b:Bool}{i k q:Nat}
theorem jx(h:Wd G T W)(b:Bool)(hk:k < W.length):kh b W k < (aQ b G T).length:=(h.end_pl b hk).2.1
theorem cB(h:Wd G T W)(hi:i < (aQ b G T).length):(lst b G T W i).Perm (own b W i):=il h (iq hi)
theorem cJ(h:Wd G T W)(hi:i < (aQ b G T).length):(lst b G T W i).Nodup:=(cB h hi).nodup_iff.mpr (List.nodup_range.filter _)
theorem dA(h:Wd G T W)(hi:i < (aQ b G T).length):q∈lst b G T W i↔q < W.length/\kh b W q=i:=by
 rw[(cB h hi).mem_iff,cR]
 constructor
 ·rintro⟨h1,h2⟩
  exact⟨h1,by unfold kh;rw[h2];simp⟩
 ·rintro⟨h1,h2⟩
  have:=(h.end_pl b h1).2.2
  unfold kh at h2
  rw[h2] at this
  exact⟨h1,this.symm⟩
theorem gm(h:Wd G T W)(b:Bool)(hk:k < W.length):k∈lst b G T W (kh b W k):=(dA h (jx h b hk)).mpr ⟨hk,rfl⟩
theorem o9(h:Wd G T W)(ho:Off off)(q:Nat):0<=mm W off q:=by
 have h1:=ho q
 have h2:=h.lim q
 unfold mm
 omega
theorem u3:∀ (is:List Nat) (a:Int) (l:List Int),is.Nodup->(∀i∈is,i < l.length)->∀k,(is.foldl (tq W off) (a,l)).2.getD k 0=if k∈is then ch (mm W off) a is k else l.getD k 0
 | [],a,l,_,_,k=>by simp
 | q::is,a,l,hn,hl,k=>by
  rw[List.nodup_cons] at hn
  have ih:=u3 is (a - cV W off a q) (l.set q (cV W off a q)) hn.2 (fun i hi=>by rw[yD];exact hl i (zC _ hi)) k
  rw[yK]
  show (is.foldl (tq W off) (a - cV W off a q,l.set q (cV W off a q))).2.getD k 0=_
  rw[ih]
  have hq:=hl q zE
  by_cases e:k=q
  ·subst e
   rw[if_neg hn.1,if_pos zE,aO,dG,if_pos ⟨rfl,hq⟩]
   rfl
  ·rw[aL e]
   by_cases hk:k∈is
   ·rw[if_pos hk,if_pos (zC _ hk)]
    rfl
   ·rw[if_neg hk,if_neg (by rw[zR,not_or];exact⟨e,hk⟩),dG,if_neg (fun z=>e z.1.symm)]
theorem ko(h:Wd G T W)(b:Bool)(off:List Int)(hk:k < W.length):(bF b G T W off).getD k 0=ch (mm W off) (amt b G T (kh b W k)) (lst b G T W (kh b W k)) k:=by
 have hi:=jx h b hk
 rw[F6 h b hk]
 show (lX W off (amt b G T (kh b W k)) (lst b G T W (kh b W k))).getD k 0=_
 unfold lX
 rw[u3 _ _ _ (cJ h hi) (fun j hj=>by rw[List.length_replicate];exact ((dA h hi).mp hj).1),if_pos (gm h b hk)]
theorem mY(h:Wd G T W)(b:Bool)(i:Nat):0<=amt b G T i:=h.amt b i
def Fl(b:Bool)(G T:List Pl)(W:List Wy)(P:List Int)(k:Nat):Prop:=sm (up (lst b G T W (kh b W k)) k) (vl P)=amt b G T (kh b W k)
theorem vf(e:BS G T W c=some (k,q')):k < W.length/\q'=(qG G T W c).getD k 0/\(qG G T W c).getD k 0 < (bF false G T W c).getD k 0:=by
 unfold BS at e
 obtain⟨j,hj,e2⟩:=Dl.ae e
 cases e2
 have hm:=List.mem_of_find?_eq_some hj
 have hq:=List.find?_some hj
 rw[qR,zJ] at hq
 exact⟨zT.mp hm,rfl,hq⟩
end
section
variable {G T:List Pl}{W:List Wy}{P X c off:List Int}{b:Bool}{i k q:Nat}
theorem EY(h:Wd G T W)(hk:k < W.length)(hq:q∈lst b G T W (kh b W k)):q < W.length/\kh b W q=kh b W k:=(dA h (jx h b hk)).mp hq
theorem uy(h:Wd G T W)(hi:i < (aQ b G T).length)(hq:q∈lst b G T W i):vl (bF b G T W off) q=ch (mm W off) (amt b G T i) (lst b G T W i) q:=by
 obtain⟨h1,h2⟩:=(dA h hi).mp hq
 have:=ko h b off h1
 rw[h2] at this
 exact this
theorem EA(h:Wd G T W)(ho:Off off)(b:Bool)(hk:k < W.length):sm (up (lst b G T W (kh b W k)) k) (vl (bF b G T W off))=min (amt b G T (kh b W k)) (sm (up (lst b G T W (kh b W k)) k) (mm W off)):=by
 have hi:=jx h b hk
 rw[cT fun q hq=>uy h hi (ip hq)]
 exact D7 (cJ h hi) (fun q _=>o9 h ho q) (mY h b _) (gm h b hk)
theorem AO(h:Wd G T W)(b:Bool)(hk:k < W.length)(e:(bF b G T W off).getD k 0 < mm W off k):Fl b G T W (bF b G T W off) k:=by
 have hi:=jx h b hk
 rw[ko h b off hk] at e
 unfold Fl
 rw[cT fun q hq=>uy h hi (ip hq)]
 exact ve (cJ h hi) (gm h b hk) e
theorem xZ(h:Wd G T W)(ho:Off off)(b:Bool)(hk:k < W.length):0<=(bF b G T W off).getD k 0/\(bF b G T W off).getD k 0<=mm W off k:=by
 have hi:=jx h b hk
 rw[ko h b off hk]
 have:=wt (m:=mm W off) (a:=amt b G T (kh b W k)) (l:=lst b G T W (kh b W k)) (fun q _=>o9 h ho q) (mY h b _) k
 exact⟨this.1,this.2.2 (gm h b hk)⟩
end
section
variable {G T:List Pl}{W:List Wy}{P X c off:List Int}{b:Bool}{i k q:Nat}{v:Int}
theorem vK(h:Wd G T W)(ho:Off c)(hk:k < W.length):0<=(qG G T W c).getD k 0/\(qG G T W c).getD k 0<=(bF false G T W c).getD k 0/\(bF false G T W c).getD k 0<=c.getD k 0/\(bF false G T W c).getD k 0<=(br W k).2.2/\mm W (bF false G T W c) k=(bF false G T W c).getD k 0:=by
 have h1:=xZ h ho false hk
 have h2:=xZ h (lU h ho false) true hk
 change 0<=(qG G T W c).getD k 0/\(qG G T W c).getD k 0<=_ at h2
 unfold mm at h1 h2 ⊢
 omega
def Jn(G T:List Pl)(W:List Wy)(c:List Int):Prop:=∀k,k < W.length->c.getD k 0 < (br W k).2.2->Fl true G T W (qG G T W c) k
theorem EJ(h:Wd G T W)(ho:Off c)(hl:c.length=W.length)(e:BS G T W c=some (k,v))(hq:q < W.length):(qG G T W c).getD q 0<=(bF false G T W (c.set k v)).getD q 0:=by
 obtain⟨hk,rfl,hlt⟩:=vf e
 obtain⟨b0,b1,b2,b3,b4⟩:=vK h ho hk
 obtain⟨d0,d1,d2,d3,d4⟩:=vK h ho hq
 have hi:=jx h false hq
 have hm:∀x,x≠k->mm W (c.set k ((qG G T W c).getD k 0)) x=mm W c x:=fun x hx=>by
  unfold mm
  rw[dG,if_neg (fun z=>hx z.1.symm)]
 have hmk:mm W (c.set k ((qG G T W c).getD k 0)) k=(qG G T W c).getD k 0:=by
  unfold mm
  rw[dG,if_pos ⟨rfl,by rw[hl];exact hk⟩]
  omega
 rw[ko h false _ hq]
 by_cases z:kh false W q=kh false W k
 ·have hkL:k∈lst false G T W (kh false W q):=by rw[z];exact gm h false hk
  have hA:vl (bF false G T W c) k=ch (mm W c) (amt false G T (kh false W q)) (lst false G T W (kh false W q)) k:=uy h hi hkL
  unfold vl at hA
  obtain⟨l1,l2⟩:=yT (m:=mm W c) (m':=mm W (c.set k ((qG G T W c).getD k 0))) (p:=k) (a:=amt false G T (kh false W q)) (l:=lst false G T W (kh false W q)) (cJ h hi) (fun x _ hx=>hm x hx) (by rw[hmk,<- hA];exact b1)
  by_cases y:q=k
  ·subst y
   rw[l2 hkL,hmk]
   exact Int.le_refl _
  ·have:=l1 q (gm h false hq) y
   rw[<- ko h false c hq] at this
   omega
 ·rw[mX (m:=mm W (c.set k ((qG G T W c).getD k 0))) (m':=mm W c) fun x hx=>hm x fun w=>by
   subst w
   exact z ((dA h hi).mp hx).2.symm]
  rw[<- ko h false c hq]
  exact d1
theorem Jn.step(h:Wd G T W)(ho:Off c)(hl:c.length=W.length)(j:Jn G T W c)(e:BS G T W c=some (k,v)):Jn G T W (c.set k v):=fun q hq hlim=>by
 have ho':Off (c.set k v):=vJ ho (DQ h ho e).2.1
 have fq:Fl true G T W (qG G T W c) q:=by
  obtain⟨hk,rfl,hlt⟩:=vf e
  by_cases z:q=k
  ·subst z
   exact AO h true hq (by rw[(vK h ho hq).2.2.2.2];exact hlt)
  ·rw[dG,if_neg (fun w=>z w.1.symm)] at hlim
   exact j q hq hlim
 have hu:=EA h (lU h ho' false) true hq
 change sm _ (vl (qG G T W (c.set k v)))=_ at hu
 unfold Fl at fq ⊢
 have hs:sm (up (lst true G T W (kh true W q)) q) (vl (qG G T W c))<=sm (up (lst true G T W (kh true W q)) q) (mm W (bF false G T W (c.set k v))):=Bw fun x hx=>by
  have hx':=(EY h hq (ip hx)).1
  have h1:=EJ h ho hl e hx'
  have h2:=vK h ho hx'
  unfold vl mm
  omega
 rw[hu]
 omega
end
section
variable {G T:List Pl}{W:List Wy}{P X c off:List Int}{b:Bool}{i k q:Nat}{π:List Nat}
theorem BU{P X:List Int}(h:P.length=X.length)(e:∀k,k < P.length->P.getD k 0=X.getD k 0):P=X:=by
 apply List.ext_getElem h
 intro k h1 h2
 have:=e k h1
 simpa [h1,h2] using this
end
section
variable {G T:List Pl}{W:List Wy}{P X:List Int}{b:Bool}{i:Nat}
theorem zip_rows:∀ {P X:List Int},P.length=X.length->gR (P.map PyData.int) (X.map PyData.int)=(List.range P.length).map fun i=>.tuple [.int (P.getD i 0),.int (X.getD i 0)]
 | [],[],_=>rfl
 | [],_::_,h=>by simp at h
 | _::_,[],h=>by simp at h
 | x::P,y::X,h=>by
  rw[zI,zI,gR,zip_rows (P:=P) (X:=X) (by simpa using h),zL,List.range_succ_eq_map,zI,zM]
  rfl
end
theorem eZ{f:Dl.Env->Option (List D)}{ρ:Dl.Env}{ds:List D}(h:f ρ=some ds):bT f ρ=some (.list ds):=by
 simp only[bT,h,zB]
theorem Cb{f:Dl.Env->Option D}{ρ:Dl.Env}{ds:List D}(h:f ρ=some (.tuple ds)):aM f ρ=some ds:=by
 simp only[aM,h,zA,eC]
theorem l7{f:Dl.Env->Option D}{ρ:Dl.Env}{ds:List D}(h:f ρ=some (.list ds)):aM f ρ=some ds:=by
 simp only[aM,h,zA,eC]
theorem Ad{fs:Dl.Env->Option (List D)}{ρ:Dl.Env}{ds:List D}(h:fs ρ=some ds)(hl:ds.length<=1000):ck fs ρ=some ds:=by
 simp only[ck,h,zA,aY (show ds.length<=4000 by omega)]
theorem nil_of(ρ:Dl.Env):bT (ck af) ρ=some (.list []):=eZ (Ad (ds:=[]) rfl (by simp))
theorem vI{t u:Dl.Env->Option Bool}{ρ:Dl.Env}(h:t ρ=some false):dW t u ρ=some false:=by
 simp only[dW,h,zA]
theorem sD{t u:Dl.Env->Option Bool}{ρ:Dl.Env}{b:Bool}(h:t ρ=some true)(h2:u ρ=some b):dW t u ρ=some b:=by
 simp only[dW,h,zA,h2]
theorem Bi(l:List Nat):PyData.eqvAll (l.map nD) (l.map nD)=true:=lg fun d hd=>by
 obtain⟨i,_,rfl⟩:=zQ.mp hd
 exact EO _
theorem lz{l:List Nat}:SeqAt.shaped (.list (l.map nD))=true :=
 (gx.lst (b:=l.length) (k:=0) (by simp) fun x hx=>by obtain⟨i,_,rfl⟩:=zQ.mp hx;exact gF _).shaped (by decide)
theorem xk(l:List Nat):dP (.list (l.map nD)) (.list (l.map nD))=some (.bool false):=by
 simp only[dP,Fs,lz,and_self,if_true,PyData.eqv,Bi,zB,Bool.not_true]
theorem oZ{cs:List Nat}{fi:Dl.Env->Option (List D)}{tt:Dl.Env->Option Bool}{te:Dl.Env->Option D}{ρ:Dl.Env}{is:List Nat}(hfi:fi ρ=some (is.map nD))(hl:is.length<=1000)(hh:∀i∈is,tt (some (nD i)::cs.map fun j=>(ρ[j]?).getD none)=some false):fB (f2 dP (bT (ai 1 cs fi (fG 0) tt te)) (bT (ck af))) ρ=some false:=by
 have c:=jJ (te:=te) (f:=fun _=>.none) (q:=fun _=>false) hfi hl fun i hi=>⟨hh i hi,fun z=>by cases z⟩
 rw[show is.filter (fun _=>false)=[] by simp] at c
 exact cW (az (xk []) (eZ c) (nil_of ρ))
theorem yZ{ρ:Dl.Env}{f g:Dl.Env->Option D}{G T:List Pl}{W:List Wy}{b:Bool}(hf:f ρ=some (aZ G T W))(hg:g ρ=some (.int (sI b))):(aa (ba cI (aa (f2 ar f g) af)) af) ρ=some [nD (aQ b G T).length] :=
 cons_of (qk (l:=aQ b G T) (k:=bG) (az (gS b G T W) hf hg)) rfl
section
variable {G T:List Pl}{W:List Wy}{P X:List Int}
end
section
variable {G T:List Pl}{W:List Wy}{P X c:List Int}{b:Bool}{k:Nat}
end
structure Wk(G T G' T':List Pl):Prop where
 len:∀b,(aQ b G' T').length=(aQ b G T).length
 lik:∀b i,(cn b G' T' i).2=(cn b G T i).2
 gv:∀i,amt false G' T' i<=amt false G T i
 tk:∀i,amt true G T i<=amt true G' T' i
section
variable {G T G' T':List Pl}{W:List Wy}{P X c:List Int}{b:Bool}{i k q:Nat}{v:Int}
theorem Wk.lst(w:Wk G T G' T')(b:Bool)(i:Nat):lst b G' T' W i=lst b G T W i:=by unfold Wm.lst;rw[w.lik]
end
section
variable {G T G' T':List Pl}{W:List Wy}{P X off:List Int}{b:Bool}{i j k:Nat}{a:Int}
theorem m9(h:Wd G T W)(b:Bool)(hi:i < (aQ b G T).length):dB [aZ G T W,.int (sI b),nD i]=some .none:=by
 have:cA [.val (aZ G T W),.val (.int (sI b)),.val (nD i)]=some (.nx [.val (aZ G T W),.val (.int (sI b)),.val (nD i)]):=by
  unfold cA
  refine (aq (ir (call_of (kg b) rfl rfl))).trans ?_
  exact ir (call_of (iG (n:=((aQ b G T).length:Nat)) (i:=(i:Nat)) (by omega) (by omega)) (cons_of rfl (cons_of (qk (l:=aQ b G T) (k:=bG) (az (gS b G T W) rfl rfl)) rfl)) rfl)
 show (cA [.val (aZ G T W),.val (.int (sI b)),.val (nD i)]).map _=_
 rw[this]
 rfl
theorem jh(h:Wd G T W)(ho:off.length=W.length)(hi:i < (aQ b G T).length):bE [aZ G T W,.int (sI b),nD i,ag off]=some (ag (lX W off (amt b G T i) (lst b G T W i))):=by
 have e:=iU h ho (iq hi)
 refine d6 ?_
 show jV [.val (aZ G T W),.val (.int (sI b)),.val (nD i),.val (ag off)]=_
 unfold jV
 refine (aq (ir (call_of (jm h) rfl rfl))).trans ?_
 refine (aq (ir (call_of (m9 h b hi) rfl rfl))).trans ?_
 exact jC (call_of e rfl rfl)
end
section
variable {G T:List Pl}{W:List Wy}{P X:List Int}
noncomputable def ext(l:Int)(r:List Int):List (List Int):=(List.range (l+1).toNat).map fun m=>r++[((m:Nat):Int)]
theorem mv{α:Type}{tt:Dl.Env->Option Bool}{te:Dl.Env->Option D}{r:List (Option D)}{g f:α->D}{q:α->Bool}:∀ (l:List α),(∀x∈l,tt (some (g x)::r)=some (q x)/\(q x=true->te (some (g x)::r)=some (f x)))->bQ (fG 0) tt te (none::r) (l.map g)=some ((l.filter q).map f)
 | [],_=>rfl
 | x::l,h=>by
  have ih:=mv (tt:=tt) (te:=te) (r:=r) (g:=g) (f:=f) (q:=q) l fun y hy=>h y (zC _ hy)
  obtain⟨h1,h2⟩:=h x zE
  have hg:fG 0 (none::r) (g x)=some (some (g x)::r):=rfl
  rw[zI,bQ,hg,zA,h1,zA,List.filter_cons]
  cases e:q x with
  | true =>
   rw[if_pos rfl,if_pos rfl,h2 e,zA,ih]
   rfl
  | false =>
   rw[if_neg (by simp),if_neg (by simp),ih]
theorem wu{α:Type}{cs:List Nat}{fi:Dl.Env->Option (List D)}{tt:Dl.Env->Option Bool}{te:Dl.Env->Option D}{ρ:Dl.Env}{l:List α}{g f:α->D}{q:α->Bool}(hfi:fi ρ=some (l.map g))(hl:l.length<=1000)(hh:∀x∈l,tt (some (g x)::cs.map fun j=>(ρ[j]?).getD none)=some (q x)/\(q x=true->te (some (g x)::cs.map fun j=>(ρ[j]?).getD none)=some (f x))):ai 1 cs fi (fG 0) tt te ρ=some ((l.filter q).map f):=by
 have:=mv l hh
 simp only[ai,hfi,zA,cY,List.replicate,List.cons_append,List.nil_append,this]
 refine aY ?_
 rw[zD]
 refine yE (List.length_filter_le _ _) ?_
 omega
end
section
variable {G T:List Pl}{W:List Wy}{P X:List Int}{b:Bool}{i k q:Nat}
end
section
variable {G T:List Pl}{W:List Wy}{P X:List Int}{b:Bool}{i k:Nat}
theorem si(P:List Int):aI 0 (P.map PyData.int)=(List.range P.length).map fun i=>.tuple [nD i,.int (P.getD i 0)]:=by
 rw[enum_zip]
 apply List.ext_getElem
 ·simp
 ·intro i h1 h2
  have:i < P.length:=by simpa using h2
  simp[this]
end
theorem Ah(l:List Nat)(k:Int):((l.map nD).any fun z=>PyData.eqv z (.int k))=decide (∃i∈l,((i:Nat):Int)=k):=by
 induction l with
 | nil=>simp
 | cons i l ih =>
  have e:PyData.eqv (nD i) (.int k)=decide (((i:Nat):Int)=k):=by
   have:=j7 [((i:Nat):Int)] [k]
   rw[ag,ag,PyData.eqv] at this
   simpa [PyData.eqvAll] using this
  rw[zI,List.any_cons,ih,e]
  simp
theorem xt(l:List Nat)(k:Int):oq (.int k) (.list (l.map nD))=some (.bool (decide (∃i∈l,((i:Nat):Int)=k))):=by
 have hs:SeqAt.shaped (.int k)=true:=(gF (b:=1) (k:=0) k).shaped (by decide)
 simp only[oq,Iz,hs,lz,and_self,if_true,Ah,zB]
theorem rl{l:List Int}(hl:l.length<=1000)(hb:∀x∈l,-1000000<=x/\x<=1000000):jX [ag l]=some (.int l.sum):=by
 have hok:FL l=true:=by
  unfold FL
  rw[zF,zJ,List.all_eq_true]
  refine⟨hl,fun x hx=>?_⟩
  rw[zF,zJ,zJ]
  exact hb x hx
 show jX [.tuple (l.map PyData.int)]=_
 simp only[jX,bU,oneOf,eC,zA,dv,hok,if_true]
noncomputable def sh(k q:Nat):Nat:=if q < k then q else q+1
noncomputable def nk(k:Nat):Nat->Bool:=fun q=>!decide (q=k)
section
variable {G T:List Pl}{W:List Wy}{P X:List Int}{b:Bool}{i k q:Nat}
end
theorem yd{m m':Nat->Int}{p:Nat}(hp:m' p=m p):∀ {l:List Nat}{a a':Int},(∀q∈l,m q<=m' q)->a'<=a->ch m' a' l p<=ch m a l p
 | [],_,_,_,_=>Int.le_refl _
 | q::r,a,a',h,ha=>by
  have h0:=h q zE
  by_cases e:p=q
  ·subst e
   rw[aO,aO,hp]
   omega
  ·rw[aL e,aL e]
   exact yd hp (fun x hx=>h x (zC _ hx)) (by omega)
theorem Hh{α:Type}{l:List α}{a:α}(hn:l.Nodup)(h:∀x,x∈l↔x=a):l=[a]:=by
 match l,hn,h with
 | [],_,h=>exact absurd ((h a).mpr rfl) (by simp)
 | [x],_,h=>rw[(h x).mp (by simp)]
 | x::y::l,hn,h =>
  have e1:=(h x).mp (by simp)
  have e2:=(h y).mp (by simp)
  rw[e1,e2] at hn
  exact absurd zE (List.nodup_cons.mp hn).1
theorem sM{l:List Int}(hl:l.length<=1000)(hb:∀x∈l,-1000000<=x/\x<=1000000):jX [.list (l.map PyData.int)]=some (.int l.sum):=by
 have:=rl hl hb
 simp only[jX,bU,oneOf,eC,zA,ag] at this ⊢
 exact this
section
variable {G T:List Pl}{W:List Wy}{off off':List Int}{b:Bool}{i k q:Nat}
noncomputable abbrev cS(b:Bool)(G T:List Pl)(W:List Wy)(off:List Int)(i:Nat):List Int:=lX W off (amt b G T i) (lst b G T W i)
theorem jS(h:Wd G T W)(hi:i < (aQ b G T).length)(k:Nat):(cS b G T W off i).getD k 0=ch (mm W off) (amt b G T i) (lst b G T W i) k:=by
 unfold cS lX
 rw[u3 _ _ _ (cJ h hi) (fun j hj=>by rw[List.length_replicate];exact ((dA h hi).mp hj).1)]
 split
 ·rfl
 ·rename_i hn
  rw[uW hn]
  by_cases z:k < W.length<;>simp[z]
theorem gM:(cS b G T W off i).length=W.length:=lR ..
theorem oR(h:Wd G T W)(ho:Off off)(hi:i < (aQ b G T).length)(k:Nat):0<=(cS b G T W off i).getD k 0/\(k∈lst b G T W i->(cS b G T W off i).getD k 0<=mm W off k)/\(k∉lst b G T W i->(cS b G T W off i).getD k 0=0):=by
 rw[jS h hi]
 have hb:=wt (m:=mm W off) (a:=amt b G T i) (l:=lst b G T W i) (fun q _=>o9 h ho q) (mY h b i) k
 exact⟨hb.1,hb.2.2,fun z=>uW z⟩
theorem vW(h:Wd G T W)(hi:i < (aQ b G T).length)(hh:∀q∈lst b G T W i,(cS b G T W off i).getD q 0<=mm W off' q/\mm W off' q<=mm W off q):cS b G T W off' i=cS b G T W off i:=by
 refine BU (by rw[gM,gM]) fun k _=>?_
 rw[jS h hi,jS h hi]
 exact vp (cJ h hi) (fun q hq=>by have:=hh q hq;rw[jS h hi] at this;exact this) k
theorem F7(h:Wd G T W)(hi:i < (aQ b G T).length)(hh:∀q∈lst b G T W i,mm W off q<=mm W off' q)(hk:mm W off' k=mm W off k):(cS b G T W off' i).getD k 0<=(cS b G T W off i).getD k 0:=by
 rw[jS h hi,jS h hi]
 exact yd hk hh (Int.le_refl _)
theorem A2(h:Wd G T W)(ho:Off off)(hi:i < (aQ b G T).length){A B:List Nat}(e:lst b G T W i=A++k::B)(hk:(cS b G T W off i).getD k 0 < mm W off k)(hq:q∈B):(cS b G T W off i).getD q 0=0:=by
 have hn:=cJ h hi
 have hb:=(oR h ho hi q).1
 refine Classical.byContradiction fun hne=>?_
 have hpos:0 < (cS b G T W off i).getD q 0:=by omega
 rw[jS h hi] at hpos
 have hkA:k∉A:=fun z=>by
  rw[e] at hn
  exact absurd rfl ((List.nodup_append.mp hn).2.2 k z k (zE))
 have hu:k∈up (lst b G T W i) q:=by
  have hk1:k∈lst b G T W i:=by rw[e];exact yF _ zE
  have hq1:q∈lst b G T W i:=by rw[e];exact yF _ (zC _ hq)
  refine AS hk1 hq1 fun z=>?_
  rw[e] at hn z
  rw[Br hkA] at z
  have hd:=List.nodup_append.mp hn
  rcases List.mem_append.mp z with y|y
  ·exact absurd rfl (hd.2.2 q y q (zC _ hq))
  ·rw[yL] at y
   subst y
   exact (List.nodup_cons.mp hd.2.1).1 hq
 have hne:k≠q:=fun z=>by
  subst z
  rw[e] at hn
  have:=(List.nodup_append.mp hn).2.1
  exact (List.nodup_cons.mp this).1 hq
 have:=yx hn (fun x _=>o9 h ho x) (mY h b i) hpos hu hne
 rw[jS h hi] at hk
 omega
end
namespace K11M
section
variable {G T:List Pl}{W:List Wy}{off mo:List Int}{b:Bool}{i k q:Nat}
theorem vd{p:Nat->Bool}{f:Nat->Int}:∀ {l:List Nat},(∀q∈l,p q=false->f q=0)->sm (l.filter p) f=sm l f
 | [],_=>rfl
 | q::l,h=>by
  have ih:=vd (p:=p) (f:=f) (l:=l) fun x hx=>h x (zC _ hx)
  rw[List.filter_cons]
  cases e:p q with
  | true=>rw[if_pos rfl,bb,bb,ih]
  | false=>rw[if_neg (by simp),bb,ih,h q zE e];omega
theorem BL(h:Wd G T W)(hi:i < (aQ b G T).length){f:Nat->Int}(h0:∀q,q∉lst b G T W i->f q=0):sm (List.range W.length) f=sm (lst b G T W i) f:=by
 rw[DD (cB h hi) f]
 unfold own
 refine (vd fun q hq hp=>h0 q fun z=>?_).symm
 have:=(cR.mp ((cB h hi).mem_iff.mp z)).2
 rw[decide_eq_false_iff_not] at hp
 exact hp this
theorem pC(P:List Int):P.sum=sm (List.range P.length) (vl P):=by
 unfold sm vl
 rw[eK]
theorem Fg(h:Wd G T W)(ho:Off off)(hi:i < (aQ b G T).length):(cS b G T W off i).sum=min (amt b G T i) (sm (lst b G T W i) (mm W off)):=by
 rw[pC,gM,BL (f:=vl (cS b G T W off i)) h hi fun q hq=>(oR h ho hi q).2.2 hq,<- AA (cJ h hi) (fun q _=>o9 h ho q) (mY h b i)]
 exact cT fun q _=>jS h hi q
noncomputable def cN(b:Bool)(W:List Wy)(off:List Int)(i:Nat):List Int:=(List.range W.length).map fun w=>if w∈own b W i then mm W off w else 0
theorem p7:(cN b W off i).length=W.length:=by simp[cN]
theorem AN(hk:k < W.length):(cN b W off i).getD k 0=if k∈own b W i then mm W off k else 0:=by simp[cN,hk]
theorem Fo(h:Wd G T W)(hi:i < (aQ b G T).length):(cN b W off i).sum=sm (lst b G T W i) (mm W off):=by
 rw[pC,p7]
 have e:sm (List.range W.length) (vl (cN b W off i))=sm (List.range W.length) (fun w=>if w∈own b W i then mm W off w else 0):=cT fun q hq=>AN (by simpa using hq)
 rw[e,BL h hi fun q hq=>if_neg fun z=>hq ((cB h hi).mem_iff.mpr z)]
 exact cT fun q hq=>if_pos ((cB h hi).mem_iff.mp hq)
theorem Gs(l:List Nat)(w:Nat):decide (∃i∈l,((i:Nat):Int)=((w:Nat):Int))=decide (w∈l):=by
 refine decide_eq_decide.mpr ⟨fun ⟨i,h1,h2⟩=>?_,fun z=>⟨w,z,rfl⟩⟩
 have:i=w:=by omega
 rw[<- this];exact h1
theorem own_one(h:Wd G T W)(hi:i < (aQ b G T).length){o:Int}(ho:o∈(cn b G T i).2):(own b W i).filter (fun w=>decide (jA b (br W w)=o))=[vP b W i o]:=by
 obtain⟨a1,a2,a3⟩:=vF h (iq hi) ho
 refine Hh ((List.nodup_range.filter _).filter _) fun x=>?_
 rw[List.mem_filter,cR,zJ]
 constructor
 ·rintro⟨⟨h1,h2⟩,h3⟩
  exact qP h.wp h1 a1 (h2.trans a2.symm) (h3.trans a3.symm)
 ·rintro rfl
  exact⟨⟨a1,a2⟩,a3⟩
theorem Je{f:Dl.Env->Option D}{fl:Dl.Env->Option (List D)}{ρ:Dl.Env}{xs ys:List D}(h:f ρ=some (.list xs))(h2:fl ρ=some ys)(hl:(xs++ys).length<=4000):GU jt f (bT fl) ρ=some (xs++ys):=by
 have e:bT fl ρ=some (.list ys):=eZ h2
 simp only[GU,h,e,zA,jt]
 exact aY (by omega)
theorem Bx{l:List Nat}{j:Nat}(hj:j < l.length):l.take (j+1)=l.take j++[l.getD j 0]:=by
 rw[List.take_add_one]
 simp[hj]
theorem A9{l:List Nat}{j:Nat}(hj:j < l.length):l=l.take j++l.getD j 0::l.drop (j+1):=by
 have e:=List.take_append_drop j l
 rw[List.drop_eq_getElem_cons hj] at e
 have:l.getD j 0=l[j]:=by simp[hj]
 rw[this]
 exact e.symm
theorem ur(h:Wd G T W)(ho:Off off)(hb:∀q,off.getD q 0<=1000)(hi:i < (aQ b G T).length):bP [aZ G T W,.int (sI b),ag (cn b G T i).2,.list ((own b W i).map nD),ag (cS b G T W off i),.list ((cN b W off i).map PyData.int)]=some (.bool true):=by
 have hw:=h.wl
 have hol:(own b W i).length<=16:=by
  refine yE (List.length_filter_le _ _) ?_
  rw[zS]
  exact hw
 have hll:(lst b G T W i).length<=16:=by rw[(cB h hi).length_eq];exact hol
 have hLl:(cn b G T i).2.length<=16:=by
  have:(lst b G T W i).length=(cn b G T i).2.length:=by simp[lst,kU]
  omega
 have lat:∀j,j < (lst b G T W i).length->(lst b G T W i).getD j 0=vP b W i ((cn b G T i).2.getD j 0):=fun j hj=>by
  have hj':j < (cn b G T i).2.length:=by simpa [lst,kU] using hj
  simp[lst,kU,hj']
 have hlen:(lst b G T W i).length=(cn b G T i).2.length:=by simp[lst,kU]
 obtain⟨ρ1,e1,x7,rfl⟩:=l6 (tgt:=qu 7) (gb:=(aE 6 [0,1,3,6,7,9] (GU jt (ab 6) (bT (ai 1 [0,1,7] (aM (ab 3)) (fG 0) (fB (f2 bJ (f2 ar (f2 ar (f2 ar (ab 1) (fC (.int 2))) (ab 0)) (f2 Dl.d7 (fC (.int 1)) (ab 2))) (ab 3))) (ab 0)))))) (fun j=>.int ((cn b G T i).2.getD j 0)) (fun j ρ=>∃x7,ρ=[.val (aZ G T W),.val (.int (sI b)),.val (ag (cn b G T i).2),.val (.list ((own b W i).map nD)),.val (ag (cS b G T W off i)),.val (.list ((cN b W off i).map PyData.int)),.own (((lst b G T W i).take j).map nD),x7,.non,.non]) (cn b G T i).2.length 0 [.val (aZ G T W),.val (.int (sI b)),.val (ag (cn b G T i).2),.val (.list ((own b W i).map nD)),.val (ag (cS b G T W off i)),.val (.list ((cN b W off i).map PyData.int)),.own [],.non,.non,.non]
  (fun j ρ _ hj hρ=>by
   obtain⟨x7,rfl⟩:=hρ
   have hj:j < (cn b G T i).2.length:=by omega
   have hjl:j < (lst b G T W i).length:=by omega
   have hmem:(cn b G T i).2.getD j 0∈(cn b G T i).2:=by simp[hj]
   have c:ai 1 [0,1,7] (aM (ab 3)) (fG 0) (fB (f2 bJ (f2 ar (f2 ar (f2 ar (ab 1) (fC (.int 2))) (ab 0)) (f2 Dl.d7 (fC (.int 1)) (ab 2))) (ab 3))) (ab 0) [some (aZ G T W),some (.int (sI b)),some (ag (cn b G T i).2),some (.list ((own b W i).map nD)),some (ag (cS b G T W off i)),some (.list ((cN b W off i).map PyData.int)),some (.list (((lst b G T W i).take j).map nD)),some (.int ((cn b G T i).2.getD j 0)),none,none]=some ([vP b W i ((cn b G T i).2.getD j 0)].map nD):=by
    rw[<- own_one h hi hmem]
    refine jJ (l7 rfl) (by omega) fun w hw'=>⟨cW (az (cQ _ _) (az (qb (!b) _) (az (qt (cR.mp hw').1) (az (gZ G T W) rfl rfl) rfl) (az (by rw[iK];cases b<;>rfl) rfl rfl)) rfl),fun _=>rfl⟩
   refine⟨_,_,rfl,jN (ρ':=[.val (aZ G T W),.val (.int (sI b)),.val (ag (cn b G T i).2),.val (.list ((own b W i).map nD)),.val (ag (cS b G T W off i)),.val (.list ((cN b W off i).map PyData.int)),.val (.list (((lst b G T W i).take j).map nD)),.val (.int ((cn b G T i).2.getD j 0)),.non,.non]) rfl (Je rfl c (by simp;omega)),.val (.int ((cn b G T i).2.getD j 0)),?_⟩
   rw[Bx hjl,List.map_append,lat j hjl]
   rfl) ⟨.non,rfl⟩
 rw[Nat.zero_add,List.take_of_length_le (by omega)] at e1
 have hrow:(List.range' 0 (cn b G T i).2.length).map (fun j=>PyData.int ((cn b G T i).2.getD j 0))=(cn b G T i).2.map PyData.int:=by
  rw[<- yI]
  exact map_range 0 PyData.int _
 rw[hrow] at e1
 obtain⟨ρ2,e2,x8,x9,rfl⟩:=l6 (tgt:=iN 8 9) (gb:=(jl (dW (fB (f2 CY (f2 ar (ab 4) (ab 9)) (f2 ar (ab 5) (ab 9)))) (fB (f2 dP (ba jX (aa (bT (ai 1 [4] (aM (uJ mO (ab 6) (GE (f2 aD (ab 8) (fC (.int 1)))) uq)) (fG 0) (fun _=>some true) (f2 ar (ab 1) (ab 0)))) af)) (fC (.int 0))))) (aX (fC (.bool false))) hX)) (fun j=>.tuple [nD j,nD ((lst b G T W i).getD j 0)]) (fun _ ρ=>∃x8 x9,ρ=[.val (aZ G T W),.val (.int (sI b)),.val (ag (cn b G T i).2),.val (.list ((own b W i).map nD)),.val (ag (cS b G T W off i)),.val (.list ((cN b W off i).map PyData.int)),.val (.list ((lst b G T W i).map nD)),x7,x8,x9]) (lst b G T W i).length 0 [.val (aZ G T W),.val (.int (sI b)),.val (ag (cn b G T i).2),.val (.list ((own b W i).map nD)),.val (ag (cS b G T W off i)),.val (.list ((cN b W off i).map PyData.int)),.val (.list ((lst b G T W i).map nD)),x7,.non,.non]
  (fun j ρ _ hj hρ=>by
   obtain⟨x8,x9,rfl⟩:=hρ
   have hj:j < (lst b G T W i).length:=by omega
   have hq:(lst b G T W i).getD j 0∈lst b G T W i:=by simp[hj]
   have hqW:=((dA h hi).mp hq).1
   have hqo:=(cB h hi).mem_iff.mp hq
   refine⟨_,_,rfl,gU ?_,_,_,rfl⟩
   have es:f2 ar (ab 4) (ab 9) (aV [.val (aZ G T W),.val (.int (sI b)),.val (ag (cn b G T i).2),.val (.list ((own b W i).map nD)),.val (ag (cS b G T W off i)),.val (.list ((cN b W off i).map PyData.int)),.val (.list ((lst b G T W i).map nD)),x7,.val (nD j),.val (nD ((lst b G T W i).getD j 0))])=some (.int ((cS b G T W off i).getD ((lst b G T W i).getD j 0) 0)):=az (gz (by rw[gM];exact hqW)) rfl rfl
   have en:f2 ar (ab 5) (ab 9) (aV [.val (aZ G T W),.val (.int (sI b)),.val (ag (cn b G T i).2),.val (.list ((own b W i).map nD)),.val (ag (cS b G T W off i)),.val (.list ((cN b W off i).map PyData.int)),.val (.list ((lst b G T W i).map nD)),x7,.val (nD j),.val (nD ((lst b G T W i).getD j 0))])=some (.int (mm W off ((lst b G T W i).getD j 0))):=az ((uO (by rw[p7];exact hqW)).trans (by rw[AN hqW,if_pos hqo])) rfl rfl
   by_cases hlt:(cS b G T W off i).getD ((lst b G T W i).getD j 0) 0 < mm W off ((lst b G T W i).getD j 0)
   ·refine sD (cW (az ((jR _ _).trans (by rw[yB hlt])) es en)) (cW (az (a:=.int 0) (b:=.int 0) (by rw[rf];rfl) ?_ rfl))
    have c:=i8 (ρ:=aV [.val (aZ G T W),.val (.int (sI b)),.val (ag (cn b G T i).2),.val (.list ((own b W i).map nD)),.val (ag (cS b G T W off i)),.val (.list ((cN b W off i).map PyData.int)),.val (.list ((lst b G T W i).map nD)),x7,.val (nD j),.val (nD ((lst b G T W i).getD j 0))]) (fi:=aM (uJ mO (ab 6) (GE (f2 aD (ab 8) (fC (.int 1)))) uq)) (cs:=[4]) (te:=f2 ar (ab 1) (ab 0)) (is:=(lst b G T W i).drop (j+1)) (f:=fun _=>.int 0) (l7 ((C7 (k:=j+1) rfl (az (Ke j) rfl rfl)).trans (by rw[List.map_drop]))) (by rw[List.length_drop];omega) fun w hw'=>by
     have hz:=A2 h ho hi (A9 hj) hlt hw'
     have hwl:w < W.length:=((dA h hi).mp (List.mem_of_mem_drop hw')).1
     exact az ((gz (by rw[gM];exact hwl)).trans (by rw[hz])) rfl rfl
    refine (ij (eZ c)).trans ?_
    have hz:((lst b G T W i).drop (j+1)).map (fun _=>PyData.int 0)=(List.replicate ((lst b G T W i).drop (j+1)).length (0:Int)).map PyData.int:=by rw[List.map_replicate];exact List.map_const' ..
    rw[hz,sM (by rw[List.length_replicate,List.length_drop];omega) (fun x hx=>by have:=List.eq_of_mem_replicate hx;omega)]
    simp
   ·exact vI (cW (az ((jR _ _).trans (by rw[yA hlt])) es en))) ⟨_,_,rfl⟩
 have henum:aI 0 ((lst b G T W i).map nD)=(List.range' 0 (lst b G T W i).length).map fun j=>.tuple [nD j,nD ((lst b G T W i).getD j 0)]:=by
  have:=si ((lst b G T W i).map fun q=>((q:Nat):Int))
  rw[zM,zD,yI] at this
  refine Eq.trans this (yJ fun j hj=>?_)
  have hj:j < (lst b G T W i).length:=by simpa using hj
  simp[hj]
 rw[<- henum] at e2
 refine d6 ?_
 show cD [.val (aZ G T W),.val (.int (sI b)),.val (ag (cn b G T i).2),.val (.list ((own b W i).map nD)),.val (ag (cS b G T W off i)),.val (.list ((cN b W off i).map PyData.int)),.non,.non,.non,.non]=_
 unfold cD
 refine (aq (jd (ds:=[]) rfl rfl)).trans ?_
 refine (aq (i4 e1 (Cb rfl) rfl)).trans ?_
 refine (aq (i4 e2 ?_ rfl)).trans ?_
 ·show ((aa (ab 6) af) _).bind (fun ds=>(bU ds).map (aI 0))=_
  rfl
 exact jC rfl
theorem my:∀ (ds:List D) (k i:Nat),(aI k ds)[i]?=(ds[i]?).map fun x=>.tuple [nD (k+i),x]
 | [],k,i=>by simp[aI]
 | d::ds,k,0=>by simp[aI]
 | d::ds,k,i+1=>by
  simp only[aI,List.getElem?_cons_succ]
  rw[my ds (k+1) i,show k+1+i=k+(i+1) by omega]
theorem x5(f:Nat->D)(n:Nat):aI 0 ((List.range n).map f)=(List.range n).map fun i=>.tuple [nD i,f i]:=by
 refine List.ext_getElem? fun i=>?_
 rw[my,zO,zO]
 by_cases hi:i < n
 ·simp[hi]
 ·simp[hi]
theorem so{te:Dl.Env->Option D}{r:List (Option D)}{x y z h:Nat->D}:∀ (is:List Nat),(∀i∈is,te (some (x i)::some (y i)::some (z i)::r)=some (h i))->bQ (nS 0 1 2) (fun _=>some true) te (none::none::none::r) (is.map fun i=>.tuple [x i,.tuple [y i,z i]])=some (is.map h)
 | [],_=>rfl
 | i::is,hh=>by
  have ih:=so (x:=x) (y:=y) (z:=z) (h:=h) is fun j hj=>hh j (zC _ hj)
  have hg:nS 0 1 2 (none::none::none::r) (.tuple [x i,.tuple [y i,z i]])=some (some (x i)::some (y i)::some (z i)::r):=by
   simp only[nS,isFree,List.getElem?_cons_zero,List.getElem?_cons_succ,Option.getD_some,Option.isNone_none,and_self,if_true,List.set_cons_zero,List.set_cons_succ]
  rw[zI,bQ,hg,zA]
  simp only[zA,if_true,hh i zE,ih,zB,zI]
theorem CW{fi:Dl.Env->Option (List D)}{te:Dl.Env->Option D}{ρ:Dl.Env}{n:Nat}{x y z h:Nat->D}(hfi:fi ρ=some ((List.range n).map fun i=>.tuple [x i,.tuple [y i,z i]]))(hl:n<=1000)(hh:∀i,i < n->te [some (x i),some (y i),some (z i)]=some (h i)):ai 3 [] fi (nS 0 1 2) (fun _=>some true) te ρ=some ((List.range n).map h):=by
 have:=so (te:=te) (r:=[]) (x:=x) (y:=y) (z:=z) (h:=h) (List.range n) fun i hi=>hh i (by simpa using hi)
 simp only[ai,hfi,zA,cY,List.replicate,List.map_nil,List.append_nil,this]
 refine aY ?_
 rw[zD,zS]
 omega
noncomputable def mid(S off:List Int)(n:Nat):List Int:=(List.range n).map fun k=>S.getD k 0+(off.getD k 0 - S.getD k 0) * (((k:Nat):Int) % 2)
theorem Gq{S:List Int}{n:Nat}(hk:k < n):(mid S off n).getD k 0=S.getD k 0\/(mid S off n).getD k 0=off.getD k 0:=by
 have e:(mid S off n).getD k 0=S.getD k 0+(off.getD k 0 - S.getD k 0) * (((k:Nat):Int) % 2):=by simp[mid,hk]
 rw[e]
 rcases (by omega:((k:Nat):Int) % 2=0\/((k:Nat):Int) % 2=1) with z|z
 ·left;rw[z];omega
 ·right;rw[z];omega
theorem Ec{S:List Int}(hs:S.length=W.length)(ho:off.length=W.length)(hw:W.length<=16){fS fo:Dl.Env->Option D}{ρ:Dl.Env}(h1:fS ρ=some (ag S))(h2:fo ρ=some (ag off)):ba aN (aa (bT (ai 3 [] (fY (aa fS (aa fo af))) (nS 0 1 2) (fun _=>some true) (f2 aD (ab 1) (f2 dQ (f2 Dl.d7 (ab 2) (ab 1)) (f2 gq (ab 0) (fC (.int 2))))))) af) ρ=some (ag (mid S off W.length)):=by
 have hfi:fY (aa fS (aa fo af)) ρ=some ((List.range W.length).map fun i=>.tuple [nD i,.tuple [.int (S.getD i 0),.int (off.getD i 0)]]):=by
  show ((aa fS (aa fo af)) ρ).bind (fun ds=>(uV ds).map (aI 0))=_
  rw[cons_of h1 (cons_of h2 rfl),zA]
  show some (aI 0 (gR (S.map PyData.int) (off.map PyData.int)))=_
  rw[zip_rows (by omega),hs,x5]
 have c:=CW (x:=nD) (y:=fun i=>.int (S.getD i 0)) (z:=fun i=>.int (off.getD i 0)) (h:=fun k=>.int (S.getD k 0+(off.getD k 0 - S.getD k 0) * (((k:Nat):Int) % 2))) hfi (by omega) (te:=(f2 aD (ab 1) (f2 dQ (f2 Dl.d7 (ab 2) (ab 1)) (f2 gq (ab 0) (fC (.int 2)))))) fun k hk =>
  az (eJ _ _) rfl (az (cP (y4 (by omega))) (az (iK _ _) rfl rfl) (az (eI (by decide)) rfl rfl))
 rw[ij (eZ c),tE]
 show some (PyData.tuple _)=some (.tuple ((mid S off W.length).map PyData.int))
 rw[mid,zM]
 rfl
theorem va{i j:Nat}{fk:Dl.Env->Option D}{f:Dl.Env->Option (List D)}{ρ:ao}{l:List Int}{k:Int}{es:List D}(hf:f (aV ρ)=some (l.map PyData.int))(hk:fk (aV ρ)=some (.int k))(ho:ρ[i]?=some (.own es))(hj:xR es.length k=some j):oW i fk f ρ=some (.nx (ρ.set i (.own (es.set j (.list (l.map PyData.int)))))):=by
 have hs:(l.map PyData.int).all kJ=true:=by
  rw[List.all_eq_true]
  intro d hd
  obtain⟨n,_,rfl⟩:=zQ.mp hd
  rfl
 simp only[oW,hf,zA,hs,if_true,hk,kq,ho,hj,zB]
noncomputable abbrev wh(A B:List Int):Slot:=.own [.list (A.map PyData.int),.list (B.map PyData.int)]
noncomputable def pB:ao->Option Out:=(ay (Dl.aU 8 [1,3,6,7] (ak 4 bE (aa (ab 1) (aa (ab 6) (aa (ab 7) (aa (ab 3) af)))))) (ay (aE 9 [1,2,6,7] (ai 1 [1,6,7] (aF (aa (ab 2) af)) (fG 0) (fB (f2 bJ (f2 ar (f2 ar (f2 ar (ab 1) (fC (.int 2))) (ab 0)) (ab 2)) (ab 3))) (ab 0))) (ay (aE 10 [1,2,3,9] (ai 1 [1,3,9] (aF (aa (ab 2) af)) (fG 0) (fun _=>some true) (BQ (fB (f2 oq (ab 0) (ab 3))) (ba fF (aa (f2 ar (ab 2) (ab 0)) (aa (f2 ar (f2 ar (f2 ar (ab 1) (fC (.int 2))) (ab 0)) (fC (.int 2))) af))) (fC (.int 0))))) (ay (jl (fB (f2 dP (bT (ai 1 [8,10] (aF (aa (ab 2) af)) (fG 0) (bW (fB (fv uf uf (fC (.int 0)) (f2 ar (ab 1) (ab 0)) (f2 ar (ab 2) (ab 0))))) (ab 0))) (bT (ck af)))) (aX (fC (.bool false))) hX) (ay (jl (fB (f2 dP (ba jX (aa (ab 8) af)) (ba fF (aa (f2 ar (f2 ar (f2 ar (ab 1) (ab 6)) (ab 7)) (fC (.int 0))) (aa (ba jX (aa (ab 10) af)) af))))) (aX (fC (.bool false))) hX) (ay (Dl.aU 11 [3,8] (ba aN (aa (bT (ai 3 [] (fY (aa (ab 8) (aa (ab 3) af))) (nS 0 1 2) (fun _=>some true) (f2 aD (ab 1) (f2 dQ (f2 Dl.d7 (ab 2) (ab 1)) (f2 gq (ab 0) (fC (.int 2))))))) af))) (ay (jl (mi (fB (f2 dP (ak 4 bE (aa (ab 1) (aa (ab 6) (aa (ab 7) (aa (ab 8) af))))) (ab 8))) (fB (f2 dP (ak 4 bE (aa (ab 1) (aa (ab 6) (aa (ab 7) (aa (ab 11) af))))) (ab 8)))) (aX (fC (.bool false))) hX) (ay (Dl.aU 12 [1,4,6,7] (ak 4 bE (aa (ab 1) (aa (ab 6) (aa (ab 7) (aa (ab 4) af)))))) (ay (jl (fB (f2 dP (bT (ai 1 [3,4,8,12] (aM (ab 9)) (fG 0) (dW (fB (f2 BI (f2 ar (ab 4) (ab 0)) (f2 ar (ab 3) (ab 0)))) (fB (f2 bJ (ba fF (aa (f2 ar (ab 2) (ab 0)) (aa (fC (.int 9)) af))) (f2 ar (ab 1) (ab 0))))) (ab 0))) (bT (ck af)))) (aX (fC (.bool false))) hX) (ay (jl (bW (fB (ak 6 bP (aa (ab 1) (aa (ab 6) (aa (f2 ar (f2 ar (f2 ar (ab 1) (ab 6)) (ab 7)) (fC (.int 1))) (aa (ab 9) (aa (ab 8) (aa (ab 10) af))))))))) (aX (fC (.bool false))) hX) (oW 5 (ab 6) (ai 2 [] (j9 (aa (f2 ar (ab 5) (ab 6)) (aa (ab 8) af))) (gu 0 1) (fun _=>some true) (f2 aD (ab 0) (ab 1))))))))))))))
theorem pK{ns:List Int}(h:Wd G T W)(ho:Off off)(hol:off.length=W.length)(ho4:∀q,off.getD q 0<=4)(hml:mo.length=W.length)(hm:∀q,q < W.length->off.getD q 0<=mo.getD q 0/\mo.getD q 0<=6)(hi:i < (aQ b G T).length){A B:List Int}(hA:A.length=W.length)(hB:B.length=W.length){x8 x9 x10 x11 x12:Slot}:∃y8 y9 y10 y11 y12,pB [.val (bV ns),.val (aZ G T W),.val (nD W.length),.val (ag off),.val (ag mo),wh A B,.val (.int (sI b)),.val (nD i),x8,x9,x10,x11,x12]=some (.nx [.val (bV ns),.val (aZ G T W),.val (nD W.length),.val (ag off),.val (ag mo),(if b then wh A (List.zipWith (·+·) B (cS b G T W off i)) else wh (List.zipWith (·+·) A (cS b G T W off i)) B),.val (.int (sI b)),.val (nD i),y8,y9,y10,y11,y12]):=by
 have hw:=h.wl
 have ec:=jh h (b:=b) (i:=i) (off:=off) hol hi
 have hS:(cS b G T W off i).length=W.length:=gM
 have ecS:=jh h (b:=b) (i:=i) (off:=cS b G T W off i) hS hi
 have ecM:=jh h (b:=b) (i:=i) (off:=mid (cS b G T W off i) off W.length) (by simp[mid]) hi
 have ecH:=jh h (b:=b) (i:=i) (off:=mo) hml hi
 have lim:∀q,q < W.length->1<=(br W q).2.2/\(br W q).2.2<=9:=fun q hq=>(h.wr _ (FD hq)).2.2
 have mmb:∀q,0<=mm W off q:=fun q=>o9 h ho q
 have mmu:∀q,mm W off q<=off.getD q 0/\mm W off q<=(br W q).2.2:=fun q=>by unfold mm;omega
 have sameS:cS b G T W (cS b G T W off i) i=cS b G T W off i:=vW h hi fun q hq=>by
  have h1:=(oR h ho hi q).2.1 hq
  have h2:=mmu q
  have:mm W (cS b G T W off i) q=(cS b G T W off i).getD q 0:=by show min ((cS b G T W off i).getD q 0) (br W q).2.2=_;omega
  rw[this]
  exact⟨Int.le_refl _,h1⟩
 have sameM:cS b G T W (mid (cS b G T W off i) off W.length) i=cS b G T W off i:=vW h hi fun q hq=>by
  have h1:=(oR h ho hi q).2.1 hq
  have h2:=mmu q
  have hqW:=((dA h hi).mp hq).1
  have e:mm W (mid (cS b G T W off i) off W.length) q=min ((mid (cS b G T W off i) off W.length).getD q 0) (br W q).2.2:=rfl
  have e2:mm W off q=min (off.getD q 0) (br W q).2.2:=rfl
  rw[e]
  rcases Gq (S:=cS b G T W off i) (off:=off) hqW with z|z
  ·rw[z];omega
  ·rw[z,e2];rw[e2] at h1;omega
 have ecS:bE [aZ G T W,.int (sI b),nD i,ag (cS b G T W off i)]=some (ag (cS b G T W off i)):=ecS.trans (by rw[show lX W (cS b G T W off i) (amt b G T i) (lst b G T W i)=_ from sameS])
 have ecM:bE [aZ G T W,.int (sI b),nD i,ag (mid (cS b G T W off i) off W.length)]=some (ag (cS b G T W off i)):=ecM.trans (by rw[show lX W (mid (cS b G T W off i) off W.length) (amt b G T i) (lst b G T W i)=_ from sameM])
 have eio:=ur h ho (fun q=>by have:=ho4 q;omega) hi
 have hown:∀ρ:Dl.Env,ab 1 ρ=some (aZ G T W)->ab 2 ρ=some (nD W.length)->ab 6 ρ=some (.int (sI b))->ab 7 ρ=some (nD i)->(ai 1 [1,6,7] (aF (aa (ab 2) af)) (fG 0) (fB (f2 bJ (f2 ar (f2 ar (f2 ar (ab 1) (fC (.int 2))) (ab 0)) (ab 2)) (ab 3))) (ab 0)) ρ=some ((own b W i).map nD):=fun ρ e1 e2 e6 e7=>by
  have e1':(ρ[1]?).getD none=some (aZ G T W):=e1
  have e6':(ρ[6]?).getD none=some (.int (sI b)):=e6
  have e7':(ρ[7]?).getD none=some (nD i):=e7
  refine jJ (kr (cons_of e2 rfl) (by omega)) (by rw[zS];omega) fun w hw'=>?_
  rw[zI,zI,zI,List.map_nil,e1',e6',e7']
  exact⟨cW (az (cQ _ _) (az (qb b _) (az (qt (by simpa using hw')) (az (gZ G T W) rfl rfl) rfl) rfl) rfl),fun _=>rfl⟩
 have hcan:∀ρ:Dl.Env,ab 1 ρ=some (aZ G T W)->ab 2 ρ=some (nD W.length)->ab 3 ρ=some (ag off)->ab 9 ρ=some (.list ((own b W i).map nD))->(ai 1 [1,3,9] (aF (aa (ab 2) af)) (fG 0) (fun _=>some true) (BQ (fB (f2 oq (ab 0) (ab 3))) (ba fF (aa (f2 ar (ab 2) (ab 0)) (aa (f2 ar (f2 ar (f2 ar (ab 1) (fC (.int 2))) (ab 0)) (fC (.int 2))) af))) (fC (.int 0)))) ρ=some ((cN b W off i).map PyData.int):=fun ρ e1 e2 e3 e9=>by
  have e1':(ρ[1]?).getD none=some (aZ G T W):=e1
  have e3':(ρ[3]?).getD none=some (ag off):=e3
  have e9':(ρ[9]?).getD none=some (.list ((own b W i).map nD)):=e9
  have c:=i8 (ρ:=ρ) (fi:=aF (aa (ab 2) af)) (is:=List.range W.length) (cs:=[1,3,9]) (te:=(BQ (fB (f2 oq (ab 0) (ab 3))) (ba fF (aa (f2 ar (ab 2) (ab 0)) (aa (f2 ar (f2 ar (f2 ar (ab 1) (fC (.int 2))) (ab 0)) (fC (.int 2))) af))) (fC (.int 0)))) (f:=fun w=>.int (if w∈own b W i then mm W off w else 0)) (kr (cons_of e2 rfl) (by omega)) (by rw[zS];omega) fun w hw'=>by
   have hwW:w < W.length:=by simpa using hw'
   rw[zI,zI,zI,List.map_nil,e1',e3',e9']
   have ei:oq (nD w) (.list ((own b W i).map nD))=some (.bool (decide (w∈own b W i))):=(xt _ _).trans (by rw[Gs])
   by_cases z:w∈own b W i
   ·rw[if_pos z]
    refine B3 (cW (az (ei.trans (by rw[yB z])) rfl rfl)) ?_
    show ((aa _ (aa _ af)) _).bind fF=_
    rw[cons_of (az (gz (by rw[hol];exact hwW)) rfl rfl) (cons_of (az (a:=aB (br W w)) (b:=.int 2) rfl (az (qt hwW) (az (gZ G T W) rfl rfl) rfl) rfl) rfl)]
    rfl
   ·rw[if_neg z]
    exact Ew (cW (az (ei.trans (by rw[yA z])) rfl rfl)) rfl
  rw[c,cN,zM]
  rfl
 have inW:∀q,q∈own b W i↔q∈lst b G T W i:=fun q=>((cB h hi).mem_iff).symm
 unfold pB
 refine⟨.val (ag (cS b G T W off i)),.val (.list ((own b W i).map nD)),.own ((cN b W off i).map PyData.int),.val (ag (mid (cS b G T W off i) off W.length)),.val (ag (cS b G T W mo i)),?_⟩
 refine (aq (eP (call_of ec rfl rfl) (call_of ec rfl rfl) rfl)).trans ?_
 refine (aq (jd (hown _ rfl rfl rfl rfl) rfl)).trans ?_
 refine (aq (jN (ρ':=[.val (bV ns),.val (aZ G T W),.val (nD W.length),.val (ag off),.val (ag mo),wh A B,.val (.int (sI b)),.val (nD i),.val (ag (cS b G T W off i)),.val (.list ((own b W i).map nD)),x10,x11,x12]) rfl (hcan _ rfl rfl rfl rfl))).trans ?_
 refine (aq (gU (oZ (is:=List.range W.length) (kr (cons_of rfl rfl) (by omega)) (by rw[zS];omega) fun w hw'=>?_))).trans ?_
 ·have hwW:w < W.length:=by simpa using hw'
  have hb:=oR h ho hi w
  refine (lY (b:=true) (cW ((mf (a:=0) (i:=(cS b G T W off i).getD w 0) (b:=(cN b W off i).getD w 0) rfl (az (gz (by rw[hS];exact hwW)) rfl rfl) (az (uO (by rw[p7];exact hwW)) rfl rfl)).trans ?_))).trans rfl
  rw[AN hwW,yB hb.1]
  by_cases z:w∈own b W i
  ·rw[if_pos z,yB (hb.2.1 ((inW w).mp z))];rfl
  ·rw[if_neg z,hb.2.2 fun y=>z ((inW w).mpr y)];rfl
 have hSb:∀x∈cS b G T W off i,-1000000<=x/\x<=1000000:=fun x hx=>by
  obtain⟨q,hq,rfl⟩:=List.mem_iff_getElem.mp hx
  have e:(cS b G T W off i)[q]=(cS b G T W off i).getD q 0:=by simp[hq]
  rw[e]
  have hb:=oR h ho hi q
  by_cases z:q∈lst b G T W i
  ·have h1:=hb.2.1 z
   have h2:=mmu q
   have h3:=ho4 q
   omega
  ·rw[hb.2.2 z];omega
 have hNb:∀x∈cN b W off i,-1000000<=x/\x<=1000000:=fun x hx=>by
  obtain⟨q,_,rfl⟩:=zQ.mp hx
  have h2:=mmu q
  have h3:=ho4 q
  have h4:=mmb q
  split<;>omega
 have s1:=rl (l:=cS b G T W off i) (by omega) hSb
 have s2:=sM (l:=cN b W off i) (by rw[p7];omega) hNb
 have esum:=Fg h ho hi
 rw[<- Fo h hi] at esum
 have eam:∀ρ:Dl.Env,ab 1 ρ=some (aZ G T W)->ab 6 ρ=some (.int (sI b))->ab 7 ρ=some (nD i)->f2 ar (f2 ar (f2 ar (ab 1) (ab 6)) (ab 7)) (fC (.int 0)) ρ=some (.int (amt b G T i)):=fun ρ e1 e6 e7=>az (a:=bG (cn b G T i)) (b:=.int 0) rfl (az (jD (iq hi)) (az (gS b G T W) e1 e6) e7) rfl
 have eli:∀ρ:Dl.Env,ab 1 ρ=some (aZ G T W)->ab 6 ρ=some (.int (sI b))->ab 7 ρ=some (nD i)->f2 ar (f2 ar (f2 ar (ab 1) (ab 6)) (ab 7)) (fC (.int 1)) ρ=some (ag (cn b G T i).2):=fun ρ e1 e6 e7=>az (a:=bG (cn b G T i)) (b:=.int 1) rfl (az (jD (iq hi)) (az (gS b G T W) e1 e6) e7) rfl
 have emin:∀ρ:Dl.Env,ab 1 ρ=some (aZ G T W)->ab 6 ρ=some (.int (sI b))->ab 7 ρ=some (nD i)->ab 10 ρ=some (.list ((cN b W off i).map PyData.int))->(ba fF (aa (f2 ar (f2 ar (f2 ar (ab 1) (ab 6)) (ab 7)) (fC (.int 0))) (aa (ba jX (aa (ab 10) af)) af))) ρ=some (.int (cS b G T W off i).sum):=fun ρ e1 e6 e7 e10=>by
  show ((aa _ (aa _ af)) _).bind fF=_
  rw[cons_of (eam ρ e1 e6 e7) (cons_of ((ij e10).trans s2) rfl),esum]
  rfl
 refine (aq (gU (cW (az ((rf _ _).trans (by rw[yB rfl];rfl)) ((ij rfl).trans s1) (emin _ rfl rfl rfl rfl))))).trans ?_
 refine (aq (eP (Ec hS hol hw rfl rfl) (Ec hS hol hw rfl rfl) rfl)).trans ?_
 refine (aq (gU (Fq (cW (az (ph _) (call_of ecS rfl rfl) rfl)) (cW (az (ph _) (call_of ecM rfl rfl) rfl))))).trans ?_
 refine (aq (eP (call_of ecH rfl rfl) (call_of ecH rfl rfl) rfl)).trans ?_
 refine (aq (gU (oZ (is:=own b W i) (l7 rfl) (by have:=(cB h hi).length_eq;have h3:(own b W i).length<=W.length:=(by refine yE (List.length_filter_le _ _) ?_;rw[zS];exact Nat.le_refl _);omega) fun w hw'=>?_))).trans ?_
 ·have hwW:w < W.length:=(cR.mp hw').1
  have em:(ba fF (aa (f2 ar (ab 2) (ab 0)) (aa (fC (.int 9)) af))) [some (nD w),some (ag off),some (ag mo),some (ag (cS b G T W off i)),some (ag (cS b G T W mo i))]=some (.int (mo.getD w 0)):=by
   show ((aa _ (aa _ af)) _).bind fF=_
   rw[cons_of (az (gz (by rw[hml];exact hwW)) rfl rfl) (cons_of rfl rfl)]
   show some (PyData.int (min (mo.getD w 0) 9))=_
   have:=hm w hwW
   rw[show min (mo.getD w 0) 9=mo.getD w 0 by omega]
  have eg:f2 BI (f2 ar (ab 4) (ab 0)) (f2 ar (ab 3) (ab 0)) [some (nD w),some (ag off),some (ag mo),some (ag (cS b G T W off i)),some (ag (cS b G T W mo i))]=some (.bool (decide ((cS b G T W off i).getD w 0 < (cS b G T W mo i).getD w 0))):=az (gD _ _) (az (gz (by rw[gM];exact hwW)) rfl rfl) (az (gz (by rw[gM];exact hwW)) rfl rfl)
  by_cases z:(cS b G T W off i).getD w 0 < (cS b G T W mo i).getD w 0
  ·refine sD (cW (eg.trans (by rw[yB z]))) (cW (az ((cQ _ _).trans ?_) em (az (gz (by rw[hol];exact hwW)) rfl rfl)))
   rw[yA]
   intro y
   have hsub:=F7 (k:=w) (off:=off) (off':=mo) h hi (fun q hq=>by
    have:=hm q ((dA h hi).mp hq).1
    unfold mm
    omega) (by unfold mm;rw[y])
   omega
  ·exact vI (cW (eg.trans (by rw[yA z])))
 refine (aq (gU (lY (b:=true) (cW (call_of eio (cons_of rfl (cons_of rfl (cons_of (eli _ rfl rfl rfl) (cons_of rfl (cons_of rfl (cons_of rfl rfl)))))) rfl))))).trans ?_
 cases b with
 | false =>
  have ez:∀ρ:Dl.Env,ab 5 ρ=some (.list [.list (A.map PyData.int),.list (B.map PyData.int)])->ab 6 ρ=some (.int 0)->ab 8 ρ=some (ag (cS false G T W off i))->(ai 2 [] (j9 (aa (f2 ar (ab 5) (ab 6)) (aa (ab 8) af))) (gu 0 1) (fun _=>some true) (f2 aD (ab 0) (ab 1))) ρ=some ((List.zipWith (·+·) A (cS false G T W off i)).map PyData.int):=fun ρ e5 e6 e8=>by
   refine ny ?_ (by omega)
   show ((aa _ (aa _ af)) ρ).bind uV=_
   rw[cons_of (az (JY _ _) e5 e6) (cons_of e8 rfl)]
   rfl
  exact (va (j:=0) (es:=[.list (A.map PyData.int),.list (B.map PyData.int)]) (ez _ rfl rfl rfl) rfl rfl rfl)
 | true =>
  have ez:∀ρ:Dl.Env,ab 5 ρ=some (.list [.list (A.map PyData.int),.list (B.map PyData.int)])->ab 6 ρ=some (.int 1)->ab 8 ρ=some (ag (cS true G T W off i))->(ai 2 [] (j9 (aa (f2 ar (ab 5) (ab 6)) (aa (ab 8) af))) (gu 0 1) (fun _=>some true) (f2 aD (ab 0) (ab 1))) ρ=some ((List.zipWith (·+·) B (cS true G T W off i)).map PyData.int):=fun ρ e5 e6 e8=>by
   refine ny ?_ (by omega)
   show ((aa _ (aa _ af)) ρ).bind uV=_
   rw[cons_of (az (a:=.list [.list (A.map PyData.int),.list (B.map PyData.int)]) (b:=.int 1) rfl e5 e6) (cons_of e8 rfl)]
   rfl
  exact (va (j:=1) (es:=[.list (A.map PyData.int),.list (B.map PyData.int)]) (ez _ rfl rfl rfl) rfl rfl rfl)
noncomputable def oF(ns:List Int)(n:Nat):List Int:=(List.range n).map fun k=>dr ns (70+((k:Nat):Int)) 5
noncomputable def mF(ns:List Int)(n:Nat):List Int:=(List.range n).map fun k=>(oF ns n).getD k 0+dr ns (80+((k:Nat):Int)) 3
theorem Hr{ns:List Int}{n:Nat}(hk:k < n):(oF ns n).getD k 0=dr ns (70+((k:Nat):Int)) 5:=by simp[oF,hk]
theorem HI{ns:List Int}{n:Nat}(hk:k < n):(mF ns n).getD k 0=(oF ns n).getD k 0+dr ns (80+((k:Nat):Int)) 3:=by simp[mF,hk]
theorem D9{ns:List Int}{n:Nat}(hl:ns.length<=63)(q:Nat):0<=(oF ns n).getD q 0/\(oF ns n).getD q 0<=4:=by
 by_cases hq:q < n
 ·rw[Hr hq]
  obtain⟨_,a,b⟩:=du (ns:=ns) (70+((q:Nat):Int)) 5 hl (by decide)
  omega
 ·simp[oF,hq]
noncomputable def acc(b:Bool)(G T:List Pl)(W:List Wy)(off:List Int)(j:Nat):List Int:=(List.range j).foldl (qH b G T W off) (List.replicate W.length 0)
theorem Am(j:Nat):acc b G T W off (j+1)=List.zipWith (·+·) (acc b G T W off j) (cS b G T W off j):=by
 unfold acc
 rw[List.range_succ,List.foldl_append]
 rfl
theorem wk(j:Nat):(acc b G T W off j).length=W.length:=by
 induction j with
 | zero=>simp[acc]
 | succ j ih=>rw[Am,List.length_zipWith,ih,gM,Nat.min_self]
theorem Df:acc b G T W off (aQ b G T).length=bF b G T W off:=rfl
theorem qX{ns:List Int}(h:Wd G T W)(ho:Off off)(hol:off.length=W.length)(ho4:∀q,off.getD q 0<=4)(hml:mo.length=W.length)(hm:∀q,q < W.length->off.getD q 0<=mo.getD q 0/\mo.getD q 0<=6)(b:Bool){A B:List Int}(hA:A.length=W.length)(hB:B.length=W.length){x7 x8 x9 x10 x11 x12:Slot} :
  ∃y7 y8 y9 y10 y11 y12,d5 [1,6] (aF (aa (ba cI (aa (f2 ar (ab 1) (ab 6)) af)) af)) (qu 7) pB [.val (bV ns),.val (aZ G T W),.val (nD W.length),.val (ag off),.val (ag mo),(if b then wh A (acc b G T W off 0) else wh (acc b G T W off 0) B),.val (.int (sI b)),x7,x8,x9,x10,x11,x12]=some (.nx [.val (bV ns),.val (aZ G T W),.val (nD W.length),.val (ag off),.val (ag mo),(if b then wh A (bF b G T W off) else wh (bF b G T W off) B),.val (.int (sI b)),y7,y8,y9,y10,y11,y12]):=by
 obtain⟨ρ,e,y7,y8,y9,y10,y11,y12,rfl⟩:=l6 (tgt:=qu 7) (gb:=pB) nD (fun j ρ=>∃x7 x8 x9 x10 x11 x12,ρ=[.val (bV ns),.val (aZ G T W),.val (nD W.length),.val (ag off),.val (ag mo),(if b then wh A (acc b G T W off j) else wh (acc b G T W off j) B),.val (.int (sI b)),x7,x8,x9,x10,x11,x12]) (aQ b G T).length 0 [.val (bV ns),.val (aZ G T W),.val (nD W.length),.val (ag off),.val (ag mo),(if b then wh A (acc b G T W off 0) else wh (acc b G T W off 0) B),.val (.int (sI b)),x7,x8,x9,x10,x11,x12]
  (fun j ρ _ hj hρ=>by
   obtain⟨x7,x8,x9,x10,x11,x12,rfl⟩:=hρ
   have hj:j < (aQ b G T).length:=by omega
   cases b with
   | false =>
    obtain⟨y8,y9,y10,y11,y12,e⟩:=pK (b:=false) (ns:=ns) (x8:=x8) (x9:=x9) (x10:=x10) (x11:=x11) (x12:=x12) h ho hol ho4 hml hm hj (A:=acc false G T W off j) (B:=B) (wk j) hB
    refine⟨_,_,rfl,e,.val (nD j),y8,y9,y10,y11,y12,?_⟩
    rw[Am]
    rfl
   | true =>
    obtain⟨y8,y9,y10,y11,y12,e⟩:=pK (b:=true) (ns:=ns) (x8:=x8) (x9:=x9) (x10:=x10) (x11:=x11) (x12:=x12) h ho hol ho4 hml hm hj (A:=A) (B:=acc true G T W off j) hA (wk j)
    refine⟨_,_,rfl,e,.val (nD j),y8,y9,y10,y11,y12,?_⟩
    rw[Am]
    rfl) ⟨_,_,_,_,_,_,rfl⟩
 rw[<- yI,Nat.zero_add,Df] at e
 have h4:=h.pl b
 exact⟨y7,y8,y9,y10,y11,y12,i4 e (kr (yZ (b:=b) rfl rfl) (by omega)) (by cases b<;>rfl)⟩
theorem v9{tgt:ao->D->Option ao}{gb:ao->Option Out}{d:D}{ds:List D}{ρ ρ1 ρ2:ao}(h1:tgt ρ d=some ρ1)(h2:gb ρ1=some (.nx ρ2)):dF tgt gb (d::ds) ρ=dF tgt gb ds ρ2:=by rw[dF,h1,zA,h2];rfl
theorem main(ns:List Int)(hl:ns.length<=63):gn [.list (ns.map PyData.int)]=some (.bool true):=by
 obtain⟨G,T,W,ew,h,few⟩:=rE (ns:=ns) (a:=0) (mo:=9) hl (by omega)
 have hw:=h.wl
 have ho:Off (oF ns W.length):=fun q=>(D9 hl q).1
 have ho4:∀q,(oF ns W.length).getD q 0<=4:=fun q=>(D9 hl q).2
 have hol:(oF ns W.length).length=W.length:=by simp[oF]
 have hml:(mF ns W.length).length=W.length:=by simp[mF]
 have hm:∀q,q < W.length->(oF ns W.length).getD q 0<=(mF ns W.length).getD q 0/\(mF ns W.length).getD q 0<=6:=fun q hq=>by
  rw[HI hq]
  obtain⟨_,a,b⟩:=du (ns:=ns) (80+((q:Nat):Int)) 3 hl (by decide)
  have:=ho4 q
  omega
 have eo:∀ρ:Dl.Env,ab 0 ρ=some (bV ns)->ab 2 ρ=some (nD W.length)->ba aN (aa (bT (ai 1 [0] (aF (aa (ab 2) af)) (fG 0) (fun _=>some true) (ak 3 ah (aa (ab 1) (aa (f2 aD (fC (.int 70)) (ab 0)) (aa (fC (.int 5)) af)))))) af) ρ=some (ag (oF ns W.length)):=fun ρ e0 e2=>by
  have e0':(ρ[0]?).getD none=some (bV ns):=e0
  have c:=i8 (ρ:=ρ) (fi:=aF (aa (ab 2) af)) (is:=List.range W.length) (cs:=[0]) (te:=(ak 3 ah (aa (ab 1) (aa (f2 aD (fC (.int 70)) (ab 0)) (aa (fC (.int 5)) af))))) (f:=fun k=>.int (dr ns (70+((k:Nat):Int)) 5)) (kr (cons_of e2 rfl) (by omega)) (by rw[zS];omega) fun k hk=>by
   rw[zI,List.map_nil,e0']
   exact call_of (mw (ns:=ns) (70+((k:Nat):Int)) 5 hl (by decide)) (cons_of rfl (cons_of (az (eJ 70 _) rfl rfl) rfl)) rfl
  rw[ij (eZ c),tE]
  show some (PyData.tuple _)=some (.tuple ((oF ns W.length).map PyData.int))
  rw[oF,zM]
  rfl
 have em:∀ρ:Dl.Env,ab 0 ρ=some (bV ns)->ab 3 ρ=some (ag (oF ns W.length))->ba aN (aa (bT (ai 2 [0] (bp (aa (ab 3) af)) (gu 0 1) (fun _=>some true) (f2 aD (ab 1) (ak 3 ah (aa (ab 2) (aa (f2 aD (fC (.int 80)) (ab 0)) (aa (fC (.int 3)) af))))))) af) ρ=some (ag (mF ns W.length)):=fun ρ e0 e3=>by
  have e0':(ρ[0]?).getD none=some (bV ns):=e0
  have hfi:bp (aa (ab 3) af) ρ=some ((List.range W.length).map fun k=>.tuple [nD k,.int ((oF ns W.length).getD k 0)]):=by
   show ((aa (ab 3) af) ρ).bind (fun ds=>(bU ds).map (aI 0))=_
   rw[cons_of e3 rfl]
   show some (aI 0 ((oF ns W.length).map PyData.int))=_
   rw[si,hol]
  have c:=Az (ρ:=ρ) (cs:=[0]) (tt:=fun _=>some true) (te:=(f2 aD (ab 1) (ak 3 ah (aa (ab 2) (aa (f2 aD (fC (.int 80)) (ab 0)) (aa (fC (.int 3)) af)))))) (p:=fun _=>true) (h:=fun k=>.int ((oF ns W.length).getD k 0+dr ns (80+((k:Nat):Int)) 3)) hfi (by omega) fun k hk=>⟨rfl,fun _=>by
   rw[zI,List.map_nil,e0']
   exact az (eJ _ _) rfl (call_of (mw (ns:=ns) (80+((k:Nat):Int)) 3 hl (by decide)) (cons_of rfl (cons_of (az (eJ 80 _) rfl rfl) rfl)) rfl)⟩
  rw[List.filter_eq_self.mpr fun _ _=>rfl] at c
  rw[ij (eZ c),tE]
  show some (PyData.tuple _)=some (.tuple ((mF ns W.length).map PyData.int))
  rw[mF,zM]
  rfl
 have ez:∀ρ:Dl.Env,ab 2 ρ=some (nD W.length)->ck (aa (bT (k8 (ck (aa (fC (.int 0)) af)) (ab 2))) (aa (bT (k8 (ck (aa (fC (.int 0)) af)) (ab 2))) af)) ρ=some [.list ((List.replicate W.length (0:Int)).map PyData.int),.list ((List.replicate W.length (0:Int)).map PyData.int)]:=fun ρ e2=>by
  have q:=eZ (Fb (ρ:=ρ) e2 (by omega))
  exact Ad (cons_of q (cons_of q rfl)) (by simp)
 obtain⟨y7,y8,y9,y10,y11,y12,e0⟩:=qX (ns:=ns) (x7:=.non) (x8:=.non) (x9:=.non) (x10:=.non) (x11:=.non) (x12:=.non) h ho hol ho4 hml hm false (A:=List.replicate W.length 0) (B:=List.replicate W.length 0) (by simp) (by simp)
 obtain⟨z7,z8,z9,z10,z11,z12,e1⟩:=qX (ns:=ns) (x7:=y7) (x8:=y8) (x9:=y9) (x10:=y10) (x11:=y11) (x12:=y12) h ho hol ho4 hml hm true (A:=bF false G T W (oF ns W.length)) (B:=List.replicate W.length 0) (vm ..) (by simp)
 have ef:dF (qu 6) (d5 [1,6] (aF (aa (ba cI (aa (f2 ar (ab 1) (ab 6)) af)) af)) (qu 7) pB) [.int (sI false),.int (sI true)] [.val (bV ns),.val (aZ G T W),.val (nD W.length),.val (ag (oF ns W.length)),.val (ag (mF ns W.length)),wh (List.replicate W.length 0) (List.replicate W.length 0),.non,.non,.non,.non,.non,.non,.non]=some (.nx [.val (bV ns),.val (aZ G T W),.val (nD W.length),.val (ag (oF ns W.length)),.val (ag (mF ns W.length)),wh (bF false G T W (oF ns W.length)) (bF true G T W (oF ns W.length)),.val (.int (sI true)),z7,z8,z9,z10,z11,z12]):=by
  rw[v9 (ρ1:=[.val (bV ns),.val (aZ G T W),.val (nD W.length),.val (ag (oF ns W.length)),.val (ag (mF ns W.length)),wh (List.replicate W.length 0) (List.replicate W.length 0),.val (.int (sI false)),.non,.non,.non,.non,.non,.non]) rfl e0]
  rw[v9 (ρ1:=[.val (bV ns),.val (aZ G T W),.val (nD W.length),.val (ag (oF ns W.length)),.val (ag (mF ns W.length)),wh (bF false G T W (oF ns W.length)) (List.replicate W.length 0),.val (.int (sI true)),y7,y8,y9,y10,y11,y12]) rfl e1]
  rfl
 have eb:∀ρ:Dl.Env,ab 1 ρ=some (aZ G T W)->ab 3 ρ=some (ag (oF ns W.length))->bT (ai 1 [1,3] (aF (aa (fC (.int 2)) af)) (fG 0) (fun _=>some true) (ak 3 cM (aa (ab 1) (aa (ab 0) (aa (ab 2) af))))) ρ=some (.list ([bF false G T W (oF ns W.length),bF true G T W (oF ns W.length)].map ag)):=fun ρ a1 a3=>by
  have a1':(ρ[1]?).getD none=some (aZ G T W):=a1
  have a3':(ρ[3]?).getD none=some (ag (oF ns W.length)):=a3
  refine eZ ?_
  have c:=i8 (ρ:=ρ) (fi:=aF (aa (fC (.int 2)) af)) (is:=[0,1]) (cs:=[1,3]) (te:=(ak 3 cM (aa (ab 1) (aa (ab 0) (aa (ab 2) af))))) (f:=fun k=>ag (bF (k == 1) G T W (oF ns W.length))) (Af ρ) (by simp) fun k hk=>by
   rw[zI,zI,List.map_nil,a1',a3']
   simp only[zR,yG,or_false] at hk
   rcases hk with rfl|rfl
   ·exact call_of (lA h hol false) rfl rfl
   ·exact call_of (lA h hol true) rfl rfl
  exact c
 have et:∀ρ:Dl.Env,ab 5 ρ=some (.list [.list ((bF false G T W (oF ns W.length)).map PyData.int),.list ((bF true G T W (oF ns W.length)).map PyData.int)])->bT (ai 1 [] (aM (ab 5)) (fG 0) (fun _=>some true) (ba aN (aa (ab 0) af))) ρ=some (.list ([bF false G T W (oF ns W.length),bF true G T W (oF ns W.length)].map ag)):=fun ρ a5=>by
  refine eZ ?_
  have c:=wu (ρ:=ρ) (fi:=aM (ab 5)) (cs:=[]) (tt:=fun _=>some true) (te:=ba aN (aa (ab 0) af)) (g:=fun (A:List Int)=>.list (A.map PyData.int)) (f:=ag) (q:=fun _=>true) (l:=[bF false G T W (oF ns W.length),bF true G T W (oF ns W.length)]) (l7 a5) (by simp) fun A _=>⟨rfl,fun _=>(ij rfl).trans (vh A)⟩
  rw[List.filter_eq_self.mpr fun _ _=>rfl] at c
  exact c
 refine d6 ?_
 show jg [.val (bV ns),.non,.non,.non,.non,.non,.non,.non,.non,.non,.non,.non,.non]=_
 unfold jg
 refine (aq (eP (call_of ew rfl rfl) (call_of ew rfl rfl) rfl)).trans ?_
 refine (aq (eP (qk (l:=W) (k:=aB) (az (gZ G T W) rfl rfl)) (qk (l:=W) (k:=aB) (az (gZ G T W) rfl rfl)) rfl)).trans ?_
 refine (aq (eP (eo _ rfl rfl) (eo _ rfl rfl) rfl)).trans ?_
 refine (aq (eP (em _ rfl rfl) (em _ rfl rfl) rfl)).trans ?_
 refine (aq (jd (ez _ rfl) rfl)).trans ?_
 refine (aq (i4 ef (Af _) rfl)).trans ?_
 refine (aq (gU (cW (az ((xQ _ _).trans (by rw[yB rfl];rfl)) (eb _ rfl rfl) (et _ rfl))))).trans ?_
 exact jC (az ((Ba _ _).trans (by rw[yB rfl])) (call_of (zq h) rfl rfl) (tj h rfl))
end
end K11M
end Wm
namespace K11
open PySem L2 Dl PySem.Spec PyProof.Rows Pg Hd
theorem main(ns:List Int)(h:ns.length<=63):gn [.list (ns.map PyData.int)]=some (.bool true):=Wm.K11M.main ns h
theorem ins(P:Params):HG (Kf P):=⟨f3 58 57 ki,f2 65 64 ki,f3 72 71 ki,f2 77 76 ki,f2 84 83 ki,f3 91 90 ki,f3 96 95 ki,f1 101 100 ki,f1 106 105 ki,f1 113 112 ki,f3 120 119 ki,f2 127 126 ki,f1 134 133 ki,f3 141 140 ki,l3 146 145 GR,f4 151 150 GR,f4 158 157 GR,f3 163 162 GT,f3 170 169 GT,f1 175 174 GT,f2 182 181 xS,f3 189 188 xS,f3 196 195 xS,f3 201 200 xS,f6 206 205 xS,f1 211 210 xS,Dl.DR (t:=241) (by kernel_rfl),Dl.DR (t:=243) (by kernel_rfl),Dl.GB (by kernel_rfl) (by kernel_rfl) (by kernel_rfl) (by kernel_rfl) (by kernel_rfl) (by kernel_rfl) (by kernel_rfl) (by kernel_rfl) (by kernel_rfl) (by kernel_rfl) (by kernel_rfl) (by kernel_rfl) (by kernel_rfl) (by kernel_rfl) (by kernel_rfl) (by kernel_rfl) (by kernel_rfl)⟩
theorem JV(w:World):kf (Kf w.params) [143]=true:=by kernel_rfl
end K11
open PySem PySem.W PyProof.Rows
theorem PySem.Challenge.cw_stillflow_k11_whole_choice_holds : PySem.Challenge.rw_stillflow_k11_whole_choice.Holds := by
 refine holds_law K11.Jz fun k1=>?_
 refine holds_open (XP:=XL K11.vw []) (YP:=K11.hk.says) K11.left K11.hk.of K11.hk.keeps (fun s e=>xl_of s (Bool.and_eq_true_iff.mp e).1) XL.keeps (by rfl) (by rfl) (by rfl) (fun s e=>recFacts_of (Bool.and_eq_true_iff.mp e).2) (by rfl) k1 (by decide +kernel) ⟨rfl,rfl,rfl,rfl,rfl,by decide +kernel⟩ ?hw ?hc
 case hw=>w_witness2
 case hc=>exact K11.walk (l:=PySem.Challenge.rw_stillflow_k11_whole_choice) (K:=K11.Kf) (ts:=[143]) rfl rfl rfl (fun w h Y=>⟨Y.1,Y.2⟩) K11.JV (fun w=>K11.ins w.params) K11.main
