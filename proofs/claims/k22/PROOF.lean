import PyProof.Rows.All
import Wide.All
import OpenK.AllK
import Wide.FinOn
import Lean
import PyProof.EqAt
import PyProof.EqKinds
import PyProof.TupleCall
import PyProof.Draws
import PyProof.ListRange
import PySem.Challenge.RW_stillflow_k22_steps
set_option Elab.async false
set_option linter.all false
set_option maxRecDepth 100000
set_option maxHeartbeats 4000000
namespace L2
open PySem PySem.Spec PyProof.Rows
noncomputable abbrev Key:=Sum Int Str
noncomputable def keyIs:Key->Value->Bool
  | .inl k,v=>Value.isInt k v
  | .inr x,v=>Value.isStrOf x v
noncomputable def keyH (w:World):Key->Int
  | .inl k=>hashInt k
  | .inr x=>hashStr w x
theorem keyIs_shape:∀ {k:Key} {v:Value},keyIs k v = true->(∃ i t,k = Sum.inl i/\v = Value.int i t)\/(∃ x t,k = Sum.inr x/\v = Value.str x t)
  | .inl i,v,h=>by
    obtain ⟨t,e⟩:=Value.isInt_shape (k:=i) (v:=v) h
    exact .inl ⟨i,t,rfl,e⟩
  | .inr x,v,h=>by
    obtain ⟨t,e⟩:=Value.isStrOf_shape (x:=x) (v:=v) h
    exact .inr ⟨x,t,rfl,e⟩
theorem key_ll (a b:Int):decide ((Sum.inl a:Key) = Sum.inl b) = (a == b):=by
  by_cases e:a = b
  · subst e; simp
  · have h:¬ (Sum.inl a:Key) = Sum.inl b:=fun q=>e (Sum.inl.inj q)
    rw [decide_eq_false h]
    exact (beq_eq_false_iff_ne.mpr e).symm
theorem key_rr (a b:Str):decide ((Sum.inr a:Key) = Sum.inr b) = decide (a = b):=by
  by_cases e:a = b
  · subst e; simp
  · have h:¬ (Sum.inr a:Key) = Sum.inr b:=fun q=>e (Sum.inr.inj q)
    rw [decide_eq_false h,decide_eq_false e]
theorem key_lr (a:Int) (b:Str):decide ((Sum.inl a:Key) = Sum.inr b) = false:=decide_eq_false (fun q=>nomatch q)
theorem key_rl (a:Str) (b:Int):decide ((Sum.inr a:Key) = Sum.inl b) = false:=decide_eq_false (fun q=>nomatch q)
noncomputable def mixKind (prog:Program) (w:World):PySem.KeyKind prog w Key where
  is:=keyIs
  hash:=keyH w
  inj:=fun v a b ha hb=>by
    rcases keyIs_shape ha with ⟨i,t,rfl,rfl⟩ | ⟨x,t,rfl,rfl⟩
    · rcases keyIs_shape hb with ⟨j,u,rfl,e⟩ | ⟨y,u,rfl,e⟩
      · injection e with e1 _; rw [e1]
      · exact nomatch e
    · rcases keyIs_shape hb with ⟨j,u,rfl,e⟩ | ⟨y,u,rfl,e⟩
      · exact nomatch e
      · injection e with e1 _; rw [e1]
  byValue:=fun k v h=>by
    rcases keyIs_shape h with ⟨i,t,rfl,rfl⟩ | ⟨x,t,rfl,rfl⟩ <;> rfl
  pyHash:=fun hv h=>by
    rcases keyIs_shape hv with ⟨i,t,rfl,rfl⟩ | ⟨x,t,rfl,rfl⟩
    · exact wpAny_pyHash_int h
    · exact wpAny_pyHash_str h
  eqBool:=fun hu hv h=>by
    rcases keyIs_shape hu with ⟨i,t,rfl,rfl⟩ | ⟨x,t,rfl,rfl⟩
    · rcases keyIs_shape hv with ⟨j,u,rfl,rfl⟩ | ⟨y,u,rfl,rfl⟩
      · rw [key_ll] at h; exact wpAny_eqBool_int h
      · rw [key_lr] at h; exact SeqAt.EqAt.int_str i t y u _ _ _ _ h
    · rcases keyIs_shape hv with ⟨j,u,rfl,rfl⟩ | ⟨y,u,rfl,rfl⟩
      · rw [key_rl] at h; exact SeqAt.EqAt.str_int x t j u _ _ _ _ h
      · rw [key_rr] at h; exact wpAny_eqBool_str h
  «strs»:=fun k x t v h=>by
    rcases keyIs_shape h with ⟨i,u,rfl,e⟩ | ⟨y,u,rfl,e⟩
    · exact nomatch e
    · injection e with e1 _
      subst e1
      cases v <;> rfl
end L2
namespace L2
open PySem PySem.Spec PyProof.Rows
inductive V where
  | non | bl (b:Bool) | int (i:Int) | str (x:Str) | byt (b:Array UInt8) | flt (b:UInt64) | ref (a:Addr) | ty (n:String)
  deriving DecidableEq
noncomputable def RelV:V->Value->Prop
  | .non,u=>u = Value.none
  | .bl b,u=>u = Value.bool b
  | .int i,u=>∃ t,u = Value.int i t
  | .str x,u=>∃ t,u = Value.str x t
  | .byt b,u=>∃ t,u = Value.bytes b t
  | .flt b,u=>∃ t,u = Value.float b t
  | .ref a,u=>u = Value.ref a
  | .ty n,u=>u = Value.type n
noncomputable abbrev Vals:List V->List Value->Prop:=Paired RelV
theorem Vals.length {xs:List V} {us:List Value} (r:Vals xs us):xs.length = us.length:=Paired.length r
theorem Vals.get:∀ {xs:List V} {us:List Value} {i:Nat} {x:V},Vals xs us->xs[i]? = some x->∃ u,us[i]? = some u/\RelV x u
  | _,_,_,_,.nil,e=>by simp at e
  | _,_,0,_,.cons r _,e=>by simp at e; subst e; exact ⟨_,rfl,r⟩
  | _,_,i + 1,x,.cons _ t,e=>by
    obtain ⟨u,h1,h2⟩:=Vals.get (i:=i) (x:=x) t (by simpa using e)
    exact ⟨u,by simpa using h1,h2⟩
theorem Vals.set {x:V} {u:Value} (r:RelV x u):∀ {xs:List V} {us:List Value} (i:Nat),Vals xs us->Vals (xs.set i x) (us.set i u)
  | _,_,_,.nil=>.nil
  | _,_,0,.cons _ t=>.cons r t
  | _,_,i + 1,.cons q t=>.cons q (Vals.set r i t)
theorem Vals.append:∀ {xs ys:List V} {us ws:List Value},Vals xs us->Vals ys ws->Vals (xs ++ ys) (us ++ ws)
  | _,_,_,_,.nil,s=>s
  | _,_,_,_,.cons r t,s=>.cons r (Vals.append t s)
theorem Vals.take:∀ {xs:List V} {us:List Value} (n:Nat),Vals xs us->Vals (xs.take n) (us.take n)
  | _,_,0,_=>.nil
  | _,_,_ + 1,.nil=>.nil
  | _,_,n + 1,.cons r t=>.cons r (Vals.take n t)
theorem Vals.drop:∀ {xs:List V} {us:List Value} (n:Nat),Vals xs us->Vals (xs.drop n) (us.drop n)
  | _,_,0,r=>r
  | _,_,_ + 1,.nil=>.nil
  | _,_,n + 1,.cons _ t=>Vals.drop n t
noncomputable def RelO:Option V->Option Value->Prop
  | some v,some u=>RelV v u
  | none,none=>True
  | _,_=>False
noncomputable def KV {κ:Type}:List (κ × V)->List (κ × Value)->Prop:=Paired fun (p:κ × V) (q:κ × Value)=>p.1 = q.1/\RelV p.2 q.2
noncomputable def kV:Key->V
  | .inl i=>.int i
  | .inr x=>.str x
inductive HO where
    | lst (xs:List V)
    | tup (xs:List V)
    | dK (kvs:List (Key × V)) | dT (kvs:List (List Key × V))
    | set (S:Int->Bool) (n:Nat)
    | ins (C dx:Addr) (fs:List (Str × V))
    | own (x:Addr)
    | xd (fs:List (Str × V))
    | met (f x:Addr)
    | rng (lo hi:Int)
    | frz (o:Obj) (u:HO)
    | tab (q:Str)
  | cod (q:Str)
    | ext (φ:Heap->Prop)
noncomputable abbrev Hp:=Addr->Option HO
noncomputable def upd (H:Hp) (a:Addr) (o:HO):Hp:=fun b=>if b = a then some o else H b
theorem upd_same {H:Hp} {a:Addr} {o:HO}:upd H a o a = some o:=by unfold upd; rw [if_pos rfl]
theorem upd_ne {H:Hp} {a b:Addr} {o:HO} (h:b ≠ a):upd H a o b = H b:=by unfold upd; rw [if_neg h]
theorem ne_of_none {H:Hp} {a b:Addr} {o:HO} (h:H a = some o) (h':H b = none):a ≠ b:=by
  intro e; subst e; rw [h] at h'; cases h'
noncomputable def TupD (h:Heap) (a:Addr) (its:Array Value):Prop:=IsTup h a its/\∃ o,h.get? a = some o/\o.dict = none
theorem TupD.new (h:Heap) (its:Array Value):TupD (h.push { cls:=.type "tuple",data:=.seq its }) h.objs.size its:=⟨IsTup.new _ _,_,Heap.get?_push_size _ rfl,rfl⟩
section
variable (P:Program) (w:World)
noncomputable def ObjOk (H:Hp) (h:Heap) (a:Addr):HO->Prop
  | .lst xs=>xs.length<=sizeLine/\∃ (its:List Value) (n:Nat),Vals xs its/\h.get? a = some { cls:=.type "list",data:=.seq its.toArray n }
  | .tup xs=>xs.length<=sizeLine/\∃ its:List Value,Vals xs its/\TupD h a its.toArray
  | .dK kvs=>kvs.length<=sizeLine/\(a == sysModules) = false/\∃ vs,KV kvs vs/\h.DictOf (mixKind P w) a vs
  | .dT kvs=>kvs.length<=sizeLine/\(a == sysModules) = false/\∃ xs:List (List Key × Addr × Value),
      Paired (fun (p:List Key × V) (q:List Key × Addr × Value)=>p.1 = q.1/\H q.2.1 = some (.tup (p.1.map kV))/\RelV p.2 q.2.2) kvs xs /\
      ∃ o es ep,h.get? a = some o/\o.ExactDict/\o.data = .dict es ep/\es.toList = xs.map (entryOfKey (tupleKind (mixKind P w)))/\(xs.map (·.1)).Nodup
  | .set S n=>h.SetOf (intKind P w) a S n
  | .ins C dx fs=>H dx = some (.own a)/\fs.length<=1000/\dx ≠ a/\h.get? a = some (PySem.W.instObj C dx) /\
      ∃ mA,h.Ns1 dx mA/\(∀ f,RelO (fs.lookup f) (mA f))/\PySem.Within mA (fs.map (·.1))
  | .own _=>∃ o,h.get? a = some o
  | .xd fs=>∃ mA,h.Ns1 a mA/\∀ f,RelO (fs.lookup f) (mA f)
  | .rng lo hi=>∃ t u v,h.get? a = some { cls:=.type "range",data:=.fields #[.int lo t,.int hi u,.int 1 v] }
  | .frz o u=>h.get? a = some o/\ObjOk H h a u
  | .tab q=>∃ ps:Array Value,h.get? a = some { cls:=.none,data:=.fields ps }/\TriplesOk ps.toList/\∀ pos v,codeAmong pos ps.toList = some v->∃ c,v = .ref c/\H c = some (.cod q)
  | .cod q=>h.CodeRec (.ref a) q
  | .met f x=>h.get? a = some (PySem.W.methodObj (.ref f) (.ref x))
  | .ext φ=>φ h/\(∃ o,h.get? a = some o)/\∀ h1 h2:Heap,φ h1->(∀ o,h1.get? a = some o->h2.get? a = some o)->φ h2
noncomputable def HOk (H:Hp) (h:Heap):Prop:=∀ a o,H a = some o->ObjOk P w H h a o
end
section
variable {P:Program} {w:World} {H H':Hp} {h h':Heap} {a:Addr} {o:HO}
theorem ObjOk.lt (x:ObjOk P w H h a o):a < h.objs.size:=by
  cases o with
  | lst xs=>obtain ⟨_,_,_,_,e⟩:=x; exact Heap.lt_size e
  | tup xs=>obtain ⟨_,_,_,p⟩:=x; exact p.1.lt
  | dK kvs=>obtain ⟨_,_,_,_,o,_,_,e,_⟩:=x; exact Heap.lt_size e
  | dT kvs=>obtain ⟨_,_,_,_,o,_,_,e,_⟩:=x; exact Heap.lt_size e
  | set S n=>obtain ⟨o,_,_,_,e,_⟩:=x; exact Heap.lt_size e
  | ins C dx fs=>obtain ⟨_,_,_,e,_⟩:=x; exact Heap.lt_size e
  | own y=>obtain ⟨_,e⟩:=x; exact Heap.lt_size e
  | xd fs=>obtain ⟨_,⟨_,_,_,e,_⟩,_⟩:=x; exact Heap.lt_size e
  | rng lo hi=>obtain ⟨_,_,_,e⟩:=x; exact Heap.lt_size e
  | frz ob u=>obtain ⟨e,_⟩:=x; exact Heap.lt_size e
  | tab q=>obtain ⟨_,e,_⟩:=x; exact Heap.lt_size e
  | cod q=>obtain ⟨_,_,_,_,e0,e,_⟩:=x; cases e0; exact Heap.lt_size e
  | met f y=>exact Heap.lt_size (show h.get? a = some _ from x)
  | ext φ=>obtain ⟨_,⟨_,e⟩,_⟩:=x; exact Heap.lt_size e
theorem Paired.mapP {α β:Type} {F G:α->β->Prop}:∀ {l₁:List α} {l₂:List β},Paired F l₁ l₂->(∀ a b,F a b->G a b)->Paired G l₁ l₂
  | _,_,.nil,_=>.nil
  | _,_,.cons r t,f=>.cons (f _ _ r) (Paired.mapP t f)
noncomputable def Hrd:HO->Prop
  | .tup _=>True
  | .cod _=>True
  | _=>False
theorem ObjOk.stay (x:ObjOk P w H h a o) (k:∀ b u,(b = a\/H b = some (.own a))->h.get? b = some u->h'.get? b = some u)
    (ho:∀ b,H b = some (.own a)->H' b = some (.own a)) (ht:∀ b u,H b = some u->Hrd u->H' b = some u):ObjOk P w H' h' a o:=by
  induction o with
  | lst xs=>obtain ⟨z,its,n,r,e⟩:=x; exact ⟨z,its,n,r,k _ _ (.inl rfl) e⟩
  | tup xs=>obtain ⟨z,its,r,⟨ob,e,c⟩,o2,e2,d2⟩:=x; exact ⟨z,its,r,⟨ob,k _ _ (.inl rfl) e,c⟩,o2,k _ _ (.inl rfl) e2,d2⟩
  | dK kvs=>obtain ⟨z,y,vs,r,ob,es,ep,e,c⟩:=x; exact ⟨z,y,vs,r,ob,es,ep,k _ _ (.inl rfl) e,c⟩
  | dT kvs =>
    obtain ⟨z,y,xs,r,ob,es,ep,e,c⟩:=x
    exact ⟨z,y,xs,Paired.mapP r fun p q z=>⟨z.1,ht _ _ z.2.1 trivial,z.2.2⟩,ob,es,ep,k _ _ (.inl rfl) e,c⟩
  | set S n=>obtain ⟨ob,es,ep,t,e,c⟩:=x; exact ⟨ob,es,ep,t,k _ _ (.inl rfl) e,c⟩
  | ins C dx fs =>
    obtain ⟨d,z,ne,e,mA,⟨od,es,ep,e2,c⟩,r⟩:=x
    exact ⟨ho _ d,z,ne,k _ _ (.inl rfl) e,mA,⟨od,es,ep,k _ _ (.inr d) e2,c⟩,r⟩
  | own y=>obtain ⟨ob,e⟩:=x; exact ⟨ob,k _ _ (.inl rfl) e⟩
  | xd fs=>obtain ⟨mA,⟨od,es,ep,e,c⟩,r⟩:=x; exact ⟨mA,⟨od,es,ep,k _ _ (.inl rfl) e,c⟩,r⟩
  | rng lo hi=>obtain ⟨t,u,v,e⟩:=x; exact ⟨t,u,v,k _ _ (.inl rfl) e⟩
  | frz ob u ih=>obtain ⟨e,q⟩:=x; exact ⟨k _ _ (.inl rfl) e,ih q⟩
  | tab q=>obtain ⟨ps,e,t,c⟩:=x; exact ⟨ps,k a _ (.inl rfl) e,t,fun pos v z=>let ⟨c0,z1,z2⟩:=c pos v z; ⟨c0,z1,ht _ _ z2 trivial⟩⟩
  | cod q=>obtain ⟨c,oc,vs,t,e0,e,r⟩:=x; cases e0; exact ⟨_,oc,vs,t,rfl,k _ _ (.inl rfl) e,r⟩
  | met f y =>
    have e:h.get? a = some (PySem.W.methodObj (.ref f) (.ref y)):=x
    show h'.get? a = some (PySem.W.methodObj (.ref f) (.ref y))
    exact k a _ (.inl rfl) e
  | ext φ=>obtain ⟨p,⟨o,e⟩,st⟩:=x; exact ⟨st _ _ p fun o q=>k _ _ (.inl rfl) q,⟨o,k _ _ (.inl rfl) e⟩,st⟩
theorem HOk.lt (x:HOk P w H h) (e:H a = some o):a < h.objs.size:=(x a o e).lt
theorem HOk.fresh (x:HOk P w H h) (e:h.objs.size<=a):H a = none:=by
  cases q:H a with
  | none=>rfl
  | some u=>exact absurd (Nat.lt_of_lt_of_le (x.lt q) e) (Nat.lt_irrefl _)
theorem HOk.kept (x:HOk P w H h) (k:∀ b u,h.get? b = some u->h'.get? b = some u):HOk P w H h':=fun a o e =>
  (x a o e).stay (fun b u _ q=>k b u q) (fun _ q=>q) fun _ _ q _=>q
theorem HOk.laid (x:HOk P w H h) (k:∀ b u,h.get? b = some u->h'.get? b = some u) (hp:h.objs.size<=a) (new:ObjOk P w (upd H a o) h' a o):HOk P w (upd H a o) h':=fun b u e=>by
  have hn:=x.fresh hp
  by_cases hb:b = a
  · subst hb; rw [upd_same] at e; cases e; exact new
  · rw [upd_ne hb] at e
    exact (x b u e).stay (fun c v _ q=>k c v q) (fun c q=>by rw [upd_ne (ne_of_none q hn)]; exact q) fun c xs q _=>by rw [upd_ne (ne_of_none q hn)]; exact q
end
noncomputable def Rd (H:Hp) (a:Addr) (u:HO):Prop:=H a = some u\/∃ o,H a = some (.frz o u)
theorem Rd.of {H:Hp} {a:Addr} {u:HO} (h:H a = some u):Rd H a u:=.inl h
theorem Rd.ok {P:Program} {w:World} {H:Hp} {h:Heap} {a:Addr} {u:HO} (r:Rd H a u) (x:HOk P w H h):ObjOk P w H h a u:=by
  rcases r with r | ⟨o,r⟩
  · exact x a u r
  · obtain ⟨_,q⟩:=x a _ r
    exact q
noncomputable def Mut:Option HO->Prop
  | some (.lst _)=>True
  | some (.dK _)=>True
  | some (.dT _)=>True
  | some (.set _ _)=>True
  | some (.ins _ _ _)=>True
  | some (.ext _)=>True
  | _=>False
section
variable {P:Program} {w:World} {H:Hp} {h h':Heap} {x e:Addr} {o':HO}
theorem HOk.write (ok:HOk P w H h) (mu:Mut (H x)) (he:e = x\/H e = some (.own x)) (k:∀ b u,b ≠ e->h.get? b = some u->h'.get? b = some u) (heo:∃ u,h'.get? e = some u)
    (new:ObjOk P w (upd H x o') h' x o'):HOk P w (upd H x o') h':=fun b u q=>by
  have nown:∀ c y,H c = some (.own y)->c ≠ x:=fun c y r z=>by subst z; rw [r] at mu; exact mu
  have ntup:∀ c u,H c = some u->Hrd u->c ≠ x:=fun c u r hr z=>by subst z; rw [r] at mu; cases u <;> first | exact mu | exact hr
  by_cases hb:b = x
  · subst hb; rw [upd_same] at q; cases q; exact new
  · rw [upd_ne hb] at q
    by_cases hbe:b = e
    · have q':H b = some (.own x):=by
        rcases he with z | z
        · exact absurd (hbe.trans z) hb
        · rw [hbe]; exact z
      rw [q] at q'; cases q'
      obtain ⟨v,hv⟩:=heo
      exact ⟨v,by rw [hbe]; exact hv⟩
    · refine (ok b u q).stay (fun c v hc r=>k c v ?_ r) (fun c r=>by rw [upd_ne (nown c b r)]; exact r) fun c xs r hr=>by rw [upd_ne (ntup c xs r hr)]; exact r
      rcases hc with rfl | hc
      · exact hbe
      · rintro rfl
        rcases he with z | z
        · exact nown c b hc z
        · rw [hc] at z; cases z; exact hb rfl
end
noncomputable def TbH:HO->Prop
  | .tab _=>True
  | .cod _=>True
  | _=>False
theorem TbH.not_mut {u:HO} (h:TbH u):¬ Mut (some u):=by cases u <;> first | exact fun z=>z | exact h.elim
structure TbK (H H':Hp) (h h':Heap):Prop where
  st:∀ b u,H b = some u->TbH u->H' b = some u
  gr:∀ b q ps,H b = some (.tab q)->h.get? b = some { cls:=.none,data:=.fields ps }->∃ more:Array Value,h'.get? b = some { cls:=.none,data:=.fields (ps ++ more) }
theorem TbK.kept {H H':Hp} {h h':Heap} (k:∀ b u,(∃ q,H b = some (.tab q))->h.get? b = some u->h'.get? b = some u) (st:∀ b u,H b = some u->TbH u->H' b = some u):TbK H H' h h' :=
  ⟨st,fun b q ps e z=>⟨#[],by rw [Array.append_empty]; exact k b _ ⟨q,e⟩ z⟩⟩
theorem TbK.trans {H H1 H2:Hp} {h h1 h2:Heap} (a:TbK H H1 h h1) (b:TbK H1 H2 h1 h2):TbK H H2 h h2 :=
  ⟨fun c u q t=>b.st c u (a.st c u q t) t,fun c q ps e z=>by
    obtain ⟨m1,z1⟩:=a.gr c q ps e z
    obtain ⟨m2,z2⟩:=b.gr c q _ (a.st c _ e trivial) z1
    exact ⟨m1 ++ m2,by rw [z2,Array.append_assoc]⟩⟩
structure Un (fs ex:List Addr) (H H':Hp) (h h':Heap):Prop where
  keep:∀ b o,h.get? b = some o->H b = none->b ∉ fs->b ∉ ex->h'.get? b = some o
  slot:∀ b o,h.get? b = some o->H b = none->b ∈ fs->b ∉ ex->∃ sl,h'.get? b = some { o with slots:=sl }
  free:∀ b o,h.get? b = some o->H b = none->b ∉ ex->H' b = none
  there:∀ b o,h.get? b = some o->b ∉ ex->∃ o',h'.get? b = some o'
  tups:∀ b xs,H b = some (.tup xs)->H' b = some (.tup xs)
  frzs:∀ b o u,H b = some (.frz o u)->H' b = some (.frz o u)
  tbls:TbK H H' h h'
section
variable {fs fs' ex ex':List Addr} {H H1 H2:Hp} {h h1 h2 h':Heap} {a x e:Addr} {o:HO}
theorem Un.any (u:Un fs ex H H1 h h1) {b:Addr} {ob:Obj} (q:h.get? b = some ob) (n:H b = none) (hx:b ∉ ex):∃ sl,h1.get? b = some { ob with slots:=sl }:=by
  by_cases hb:b ∈ fs
  · exact u.slot b ob q n hb hx
  · exact ⟨ob.slots,u.keep b ob q n hb hx⟩
theorem Un.trans (a:Un fs ex H H1 h h1) (b:Un fs ex H1 H2 h1 h2):Un fs ex H H2 h h2 where
  keep:=fun c ob q n hc hx=>b.keep c ob (a.keep c ob q n hc hx) (a.free c ob q n hx) hc hx
  slot:=fun c ob q n hc hx=>by
    obtain ⟨sl,e1⟩:=a.slot c ob q n hc hx
    obtain ⟨sl',e2⟩:=b.slot c _ e1 (a.free c ob q n hx) hc hx
    exact ⟨sl',e2⟩
  free:=fun c ob q n hx=>by
    obtain ⟨o',e1⟩:=a.there c ob q hx
    exact b.free c o' e1 (a.free c ob q n hx) hx
  there:=fun c ob q hx=>by
    obtain ⟨o',e1⟩:=a.there c ob q hx
    exact b.there c o' e1 hx
  tups:=fun c xs q=>b.tups c xs (a.tups c xs q)
  frzs:=fun c ob xs q=>b.frzs c ob xs (a.frzs c ob xs q)
  tbls:=a.tbls.trans b.tbls
theorem Un.kept (k:∀ b u,h.get? b = some u->h'.get? b = some u):Un fs ex H H h h' :=
  ⟨fun b ob q _ _ _=>k b ob q,fun b ob q _ _ _=>⟨ob.slots,k b ob q⟩,fun _ _ _ n _=>n,fun b ob q _=>⟨ob,k b ob q⟩,fun _ _ q=>q,fun _ _ _ q=>q,.kept (fun b u _ e=>k b u e) fun _ _ e _=>e⟩
theorem Un.refl:Un fs ex H H h h:=Un.kept fun _ _ q=>q
theorem Un.laid (k:∀ b u,h.get? b = some u->h'.get? b = some u) (hp:h.objs.size<=a) (hn:H a = none):Un fs ex H (upd H a o) h h' where
  keep:=fun b u q _ _ _=>k b u q
  slot:=fun b u q _ _ _=>⟨u.slots,k b u q⟩
  free:=fun b u q n _=>by rw [upd_ne (Nat.ne_of_lt (Nat.lt_of_lt_of_le (Heap.lt_size q) hp))]; exact n
  there:=fun b u q _=>⟨u,k b u q⟩
  tups:=fun b xs q=>by rw [upd_ne (ne_of_none q hn)]; exact q
  frzs:=fun b u xs q=>by rw [upd_ne (ne_of_none q hn)]; exact q
  tbls:=.kept (fun b u _ e=>k b u e) fun b u q _=>by rw [upd_ne (ne_of_none q hn)]; exact q
theorem Un.write (mu:Mut (H x)) (he:e = x\/H e = some (.own x)) (k:∀ b u,b ≠ e->h.get? b = some u->h'.get? b = some u) (heo:∃ u,h'.get? e = some u):Un fs ex H (upd H x o) h h':=by
  have hx:∀ b,H b = none->b ≠ x:=fun b n z=>by subst z; rw [n] at mu; exact mu
  have hb:∀ b,H b = none->b ≠ e:=fun b n z=>by
    subst z
    rcases he with r | r
    · exact hx b n r
    · rw [n] at r; cases r
  have hm:∀ b u,H b = some u->¬ Mut (some u)->b ≠ x:=fun b u q nm z=>by subst z; rw [q] at mu; exact nm mu
  refine ⟨fun b u q n _ _=>k b u (hb b n) q,fun b u q n _ _=>⟨u.slots,k b u (hb b n) q⟩,fun b u q n _=>by rw [upd_ne (hx b n)]; exact n,fun b u q _=>?_,
    fun b xs q=>by rw [upd_ne (hm b _ q fun z=>z)]; exact q,fun b u xs q=>by rw [upd_ne (hm b _ q fun z=>z)]; exact q,.kept (fun b u z e=>k b u (fun r=>by subst r; rcases he with r | r <;> first | (subst r; rcases z with ⟨q,z⟩; rw [z] at mu; exact mu) | (rcases z with ⟨q,z⟩; rw [z] at r; cases r)) e) fun b u q nm=>by rw [upd_ne (hm b _ q (nm.not_mut))]; exact q⟩
  by_cases hbe:b = e
  · subst hbe; exact heo
  · exact ⟨u,k b u hbe q⟩
theorem Un.mono (u:Un fs ex H H1 h h1) (hs:∀ b ∈ fs,b ∈ fs') (hx:∀ b ∈ ex,b ∈ ex'):Un fs' ex' H H1 h h1 :=
  ⟨fun b ob q n hb he=>u.keep b ob q n (fun z=>hb (hs b z)) fun z=>he (hx b z),fun _ _ q n _ he=>u.any q n fun z=>he (hx _ z),fun b ob q n he=>u.free b ob q n fun z=>he (hx b z),fun b ob q he=>u.there b ob q fun z=>he (hx b z),u.tups,u.frzs,u.tbls⟩
end
noncomputable def trk (h:Heap) (H:Hp):List Addr:=(List.range h.objs.size).filter fun a=>(H a).isSome
noncomputable def hidT (h:Heap) (H:Hp):Heap:=PySem.W.hideAll h (trk h H)
theorem hidT_size (h:Heap) (H:Hp):(hidT h H).objs.size = h.objs.size:=PySem.W.hideAll_size _ _
theorem hidT_get {h:Heap} {H:Hp} {b:Addr} {o:Obj} (e:h.get? b = some o) (n:H b = none):(hidT h H).get? b = some o :=
  PySem.W.hideAll_get _ e fun hm=>by
    have q:(H b).isSome = true:=(List.mem_filter.mp hm).2
    rw [n] at q; simp at q
theorem of_hidT {h:Heap} {H:Hp} {b:Addr} {o:Obj} (e:(hidT h H).get? b = some o):h.get? b = some o/\H b = none:=by
  have e':h.get? b = some o:=PySem.W.of_hideAll (trk h H) e
  refine ⟨e',?_⟩
  cases q:H b with
  | none=>rfl
  | some x =>
    have hm:b ∈ trk h H:=List.mem_filter.mpr ⟨List.mem_range.mpr (Heap.lt_size e'),by simp [q]⟩
    have z:(hidT h H).get? b = none:=PySem.W.hideAll_none (trk h H) hm
    rw [z] at e; cases e
noncomputable def allNews (g h:Heap) (L:Addr):List (Addr × Obj):=(List.range h.objs.size).filterMap fun a=>if a = L\/(g.get? a).isSome = true then none else (h.get? a).map fun o=>(a,o)
noncomputable def rest (g h:Heap) (L d:Addr):List (Addr × Obj):=(allNews g h L).filter fun p=>decide (p.1 ≠ d)
end L2
namespace L2
open PySem PySem.Spec PyProof.Rows
noncomputable def BMd (mg:Str->Option Value) (base:Heap):Prop:=∃ bm o,mg "__builtins__" = some (.ref bm)/\bm ≠ builtinsNs/\bm ≠ mainGlobals/\base.get? bm = some o/\o.cls = .type "module"/\o.dict = some builtinsNs/\o.data = .plain
structure Mod (K:PySem.W.Frag) (mg:Str->Option Value) (base:Heap):Prop where
  kin:K.In base
  glob:base.Ns mainGlobals mg
  blt:∃ mb,base.Ns builtinsNs mb/\∀ x:Str,x ≠ "__name__"->mb x = bootBuiltins x
  nolimit:base.NoLimit
  bmd:BMd mg base
structure Cx where
  prog:Program
  w:World
  K:PySem.W.Frag
  mg:Str->Option Value
  base:Heap
  A:Around
  N:List Str
  s₀:Shared
  H₀:Hp
  env:Env
  outer:List Env
  stack:List Env
  ex:List Addr
  fn:Str->Bool
  calm:Bool
  pn:List (Addr × Obj)
  xe:Value->Shared->Prop
noncomputable def frs (l:List Env):List Addr:=l.filterMap (·.frame)
noncomputable abbrev Cx.fs (X:Cx):List Addr:=frs X.outer
noncomputable def Vis (sc:Scope) (x:Str):Prop:=sc.names.lookup x = some .local\/sc.names.lookup x = some .cell\/sc.names.lookup x = some .free
noncomputable def Loc (sc:Scope) (x:Str):Prop:=sc.names.lookup x = some .local\/sc.names.lookup x = some .cell
noncomputable def Look (env:Env) (h:Heap) (m:Str->Option Value) (x:Str) (u:Value):Prop :=
  (env.kindOf x = some .local/\m x = some u)\/((env.kindOf x = some .cell\/env.kindOf x = some .free)/\∃ c,env.cells.lookup x = some c/\h.IsCell c (some u))
structure Cx.Ok (X:Cx):Prop where
  mod:Mod X.K X.mg X.base
  kind:X.env.scope.kind = .function
  glob:X.env.globals = mainGlobals
  blt:X.env.builtins = builtinsNs
  above:X.s₀.heap.objs.size<=X.env.locals
  inj:∀ x y c,X.env.cells.lookup x = some c->X.env.cells.lookup y = some c->x = y
  has:∀ x,(X.env.kindOf x = some .cell\/X.env.kindOf x = some .free)->∃ c,X.env.cells.lookup x = some c
  cab:∀ x c,X.fn x = true->X.env.cells.lookup x = some c->X.s₀.heap.objs.size<=c
  hd:X.calm = true->X.A.handled = none
  frames:X.A.frames = some X.stack
  stk:X.stack = X.outer\/(X.stack = X.env :: X.outer/\X.env.frame = some X.env.locals)
  exf:∀ b ∈ X.ex,b ≠ X.env.locals/\∀ x c,X.env.cells.lookup x = some c->c ≠ b
  bs:∀ b o,X.base.get? b = some o->X.s₀.heap.get? b = some o/\X.H₀ b = none
  bsz:X.base.objs.size<=X.s₀.heap.objs.size
  noex:∀ b o,X.base.get? b = some o->b ∉ X.ex
  exfs:∀ b ∈ X.ex,b ∉ X.fs
  funs:X.s₀.heap.FunFrames X.base X.outer
  frf:∀ b ∈ X.fs,X.H₀ b = none
structure Inv (X:Cx) (pins:List (Addr × Obj)) (σ:List (Option V)) (H:Hp) (s:Shared):Prop where
  ok:X.Ok
  os:s.os = X.s₀.os
  bare:AllBare s.gens
  base:Un X.fs X.ex X.H₀ H X.s₀.heap s.heap
  loc:∃ m,s.heap.Ns X.env.locals m/\∀ (i:Nat) (x:Str) (v:V),X.N[i]? = some x->σ[i]? = some (some v)->Vis X.env.scope x->∃ u,RelV v u/\Look X.env s.heap m x u
  cell:∀ x c,X.env.cells.lookup x = some c->∃ v,s.heap.IsCell c v
  free:H X.env.locals = none
  freeC:∀ x c,X.env.cells.lookup x = some c->H c = none
  pin:∀ p ∈ X.pn ++ pins,s.heap.get? p.1 = some p.2/\H p.1 = none/\p.1 ≠ X.env.locals/\p.1 ∉ X.fs/\∀ v,p.2.data ≠ .cell v
  hok:HOk X.prog X.w H s.heap
  len:σ.length = X.N.length
section
variable {X:Cx} {pins:List (Addr × Obj)} {σ:List (Option V)} {H H':Hp} {s:Shared} {h':Heap}
theorem Cx.Ok.nofr (ok:X.Ok) {b:Addr} {o:Obj} (e:X.base.get? b = some o):b ∉ X.fs:=fun hb=>by
  have:=(ok.funs.mem hb).1
  rw [e] at this; cases this
theorem Inv.bs (I:Inv X pins σ H s):∀ b o,X.base.get? b = some o->s.heap.get? b = some o/\H b = none:=fun b o e =>
  ⟨I.base.keep b o (I.ok.bs b o e).1 (I.ok.bs b o e).2 (I.ok.nofr e) (I.ok.noex b o e),I.base.free b o (I.ok.bs b o e).1 (I.ok.bs b o e).2 (I.ok.noex b o e)⟩
theorem Inv.bk (I:Inv X pins σ H s):∀ b o,X.base.get? b = some o->s.heap.get? b = some o:=fun b o e=>(I.bs b o e).1
theorem Inv.mod (I:Inv X pins σ H s):Mod X.K X.mg X.base:=I.ok.mod
theorem Inv.kIn (I:Inv X pins σ H s):X.K.In s.heap:=I.ok.mod.kin.keeps I.bk
theorem Inv.nolimit (I:Inv X pins σ H s):s.heap.NoLimit:=I.ok.mod.nolimit.keeps I.bk
theorem Inv.lt (I:Inv X pins σ H s):X.env.locals < s.heap.objs.size:=let ⟨_,hn,_⟩:=I.loc; hn.lt
theorem Inv.sz (I:Inv X pins σ H s):X.s₀.heap.objs.size<=s.heap.objs.size:=Nat.le_trans I.ok.above (Nat.le_of_lt I.lt)
theorem Inv.nofs (I:Inv X pins σ H s) {a:Addr} (h:s.heap.objs.size<=a):a ∉ X.fs:=fun hb=>by
  obtain ⟨_,o,ho,_⟩:=I.ok.funs.mem hb
  exact absurd (Nat.lt_of_lt_of_le (Heap.lt_size ho) (Nat.le_trans I.sz h)) (Nat.lt_irrefl _)
theorem Inv.cne (I:Inv X pins σ H s):∀ x c,X.env.cells.lookup x = some c->c ≠ X.env.locals:=fun x c e z=>by
  obtain ⟨v,o,ho,hd⟩:=I.cell x c e
  obtain ⟨m,⟨o',es,ep,ho',hd',_⟩,_⟩:=I.loc
  rw [z,ho'] at ho; cases ho; rw [hd'] at hd; cases hd
theorem Inv.funs (I:Inv X pins σ H s):s.heap.FunFrames X.base X.outer:=by
  have all:∀ (l:List Env),(∀ b ∈ frs l,b ∈ X.fs)->X.s₀.heap.FunFrames X.base l->s.heap.FunFrames X.base l:=by
    intro l
    induction l with
    | nil=>intro _ _; trivial
    | cons env r ih =>
      intro hs hl
      obtain ⟨hk,⟨L,o,hf,hn,ho,hd⟩,hr⟩:=hl
      have hL:L ∈ X.fs:=hs L (by unfold frs; rw [List.filterMap_cons,hf]; exact List.mem_cons_self)
      obtain ⟨sl,e⟩:=I.base.slot L o ho (I.ok.frf L hL) hL fun z=>I.ok.exfs L z hL
      exact ⟨hk,⟨L,_,hf,hn,e,hd⟩,ih (fun b hb=>hs b (by unfold frs; rw [List.filterMap_cons,hf]; exact List.mem_cons_of_mem _ hb)) hr⟩
  exact all X.outer (fun _ hb=>hb) I.ok.funs
theorem Inv.stack (I:Inv X pins σ H s):s.heap.FunFrames X.base X.stack:=by
  rcases I.ok.stk with e | ⟨e,hf⟩
  · rw [e]; exact I.funs
  · rw [e]
    obtain ⟨m,hn,_⟩:=I.loc
    refine .cons (by rw [I.ok.kind]; decide) hf hn ?_ I.funs
    exact Heap.get?_none_of_le (Nat.le_trans I.ok.bsz I.ok.above)
theorem Inv.stkSub (I:Inv X pins σ H s):∀ b ∈ frs X.stack,b ∈ X.env.locals :: X.fs:=fun b hb=>by
  rcases I.ok.stk with e | ⟨e,hf⟩
  · rw [e] at hb; exact List.mem_cons_of_mem _ hb
  · rw [e] at hb
    unfold frs at hb
    rw [List.filterMap_cons,hf] at hb
    exact hb
theorem Inv.stkFree (I:Inv X pins σ H s):∀ b ∈ frs X.stack,H b = none:=fun b hb=>by
  rcases List.mem_cons.mp (I.stkSub b hb) with e | hb
  · rw [e]; exact I.free
  · obtain ⟨_,o,ho,_⟩:=I.ok.funs.mem hb
    exact I.base.free b o ho (I.ok.frf b hb) fun z=>I.ok.exfs b z hb
theorem Inv.step {g':Array GenState} {t':Nat} {d':Drawn} {ch:List Addr} (I:Inv X pins σ H s)
    (hch:∀ b ∈ ch,(b ∈ X.ex\/X.s₀.heap.objs.size<=b)/\b ≠ X.env.locals/\(∀ x c,X.env.cells.lookup x = some c->c ≠ b)/\∀ p ∈ X.pn ++ pins,p.1 ≠ b)
    (keep:∀ b o,b ≠ X.env.locals->b ∉ X.fs->b ∉ ch->s.heap.get? b = some o->H b = none->h'.get? b = some o)
    (slot:∀ b o,b ≠ X.env.locals->b ∈ X.fs->b ∉ ch->s.heap.get? b = some o->H b = none->∃ sl,h'.get? b = some { o with slots:=sl }) (free:∀ b o,b ∉ ch->s.heap.get? b = some o->H b = none->H' b = none)
    (there:∀ b o,b ∉ ch->s.heap.get? b = some o->∃ o',h'.get? b = some o')
    (tups:∀ b xs,H b = some (.tup xs)->H' b = some (.tup xs)) (frzs:∀ b o u,H b = some (.frz o u)->H' b = some (.frz o u)) (tbls:TbK H H' s.heap h')
    (ns:∀ m,s.heap.Ns X.env.locals m->h'.Ns X.env.locals m) (hok:HOk X.prog X.w H' h') (hg:AllBare g') :
    Inv X pins σ H' { s with heap:=h',gens:=g',drawn:=d',toks:=t' }:=by
  have neL:∀ b o,X.s₀.heap.get? b = some o->b ≠ X.env.locals:=fun b o e=>Nat.ne_of_lt (Nat.lt_of_lt_of_le (Heap.lt_size e) I.ok.above)
  have neC:∀ b o,X.s₀.heap.get? b = some o->b ∉ X.ex->b ∉ ch:=fun b o e hx hb=>by
    rcases (hch b hb).1 with z | z
    · exact hx z
    · exact absurd (Nat.lt_of_lt_of_le (Heap.lt_size e) z) (Nat.lt_irrefl _)
  have cellK:∀ x c,X.env.cells.lookup x = some c->∀ v,s.heap.IsCell c v->h'.IsCell c v:=fun x c e v ⟨o,ho,hd⟩=>by
    have nch:c ∉ ch:=fun z=>(hch c z).2.2.1 x c e rfl
    by_cases hc:c ∈ X.fs
    · obtain ⟨sl,q⟩:=slot c o (I.cne x c e) hc nch ho (I.freeC x c e)
      exact ⟨_,q,hd⟩
    · exact ⟨o,keep c o (I.cne x c e) hc nch ho (I.freeC x c e),hd⟩
  refine ⟨I.ok,I.os,hg,⟨fun b o e n hb hx=>?_,fun b o e n hb hx=>?_,fun b o e n hx=>?_,fun b o e hx=>?_,fun b xs e=>tups b xs (I.base.tups b xs e),fun b o xs e=>frzs b o xs (I.base.frzs b o xs e),I.base.tbls.trans tbls⟩,?_,fun x c e=>?_,?_,fun x c e=>?_,fun p hp=>?_,hok,I.len⟩
  · exact keep b o (neL b o e) hb (neC b o e hx) (I.base.keep b o e n hb hx) (I.base.free b o e n hx)
  · obtain ⟨sl,e1⟩:=I.base.slot b o e n hb hx
    obtain ⟨sl',e2⟩:=slot b _ (neL b o e) hb (neC b o e hx) e1 (I.base.free b o e n hx)
    exact ⟨sl',e2⟩
  · obtain ⟨o',e1⟩:=I.base.there b o e hx
    exact free b o' (neC b o e hx) e1 (I.base.free b o e n hx)
  · obtain ⟨o',e1⟩:=I.base.there b o e hx
    exact there b o' (neC b o e hx) e1
  · obtain ⟨m,hn,hl⟩:=I.loc
    refine ⟨m,ns m hn,fun i x v e1 e2 e3=>?_⟩
    obtain ⟨u,r,l⟩:=hl i x v e1 e2 e3
    refine ⟨u,r,?_⟩
    rcases l with l | ⟨k,c,e,z⟩
    · exact .inl l
    · exact .inr ⟨k,c,e,cellK x c e _ z⟩
  · obtain ⟨v,z⟩:=I.cell x c e
    exact ⟨v,cellK x c e v z⟩
  · obtain ⟨m,⟨o,_,_,ho,_⟩,_⟩:=I.loc
    exact free _ o (fun z=>(hch _ z).2.1 rfl) ho I.free
  · obtain ⟨v,o,ho,hd⟩:=I.cell x c e
    exact free c o (fun z=>(hch c z).2.2.1 x c e rfl) ho (I.freeC x c e)
  · obtain ⟨e,n,ne,nf,d⟩:=I.pin p hp
    have nch:p.1 ∉ ch:=fun z=>(hch p.1 z).2.2.2 p hp rfl
    exact ⟨keep p.1 p.2 ne nf nch e n,free p.1 p.2 nch e n,ne,nf,d⟩
theorem Inv.un {t':Nat} (I:Inv X pins σ H s) (u:Un X.fs [] H H' s.heap h') (hok:HOk X.prog X.w H' h'):Inv X pins σ H' { s with heap:=h',toks:=t' }:=by
  obtain ⟨m,⟨o,es,ep,ho,r⟩,_⟩:=id I.loc
  obtain ⟨sl,hL⟩:=u.any ho I.free (by simp)
  exact I.step (g':=s.gens) (d':=s.drawn) (ch:=[]) (fun _ z=>nomatch z) (fun b o _ hb _ e n=>u.keep b o e n hb (by simp)) (fun b o _ hb _ e n=>u.slot b o e n hb (by simp)) (fun b o _ e n=>u.free b o e n (by simp)) (fun b o _ e=>u.there b o e (by simp)) u.tups u.frzs u.tbls (fun m' hm=>by
    obtain ⟨o',es',ep',ho',r'⟩:=hm
    rw [ho] at ho'; cases ho'
    exact ⟨_,es',ep',hL,r'⟩) hok I.bare
theorem Inv.call {g':Array GenState} {t':Nat} {d':Drawn} {ch:List Addr} (I:Inv X pins σ H s) (u:Un (frs X.stack) ch H H' s.heap h') (hok:HOk X.prog X.w H' h') (hg:AllBare g')
    (hch:∀ b ∈ ch,(b ∈ X.ex\/X.s₀.heap.objs.size<=b)/\b ≠ X.env.locals/\(∀ x c,X.env.cells.lookup x = some c->c ≠ b)/\∀ p ∈ X.pn ++ pins,p.1 ≠ b) :
    Inv X pins σ H' { s with heap:=h',gens:=g',drawn:=d',toks:=t' }:=by
  obtain ⟨m,⟨o,es,ep,ho,r⟩,_⟩:=id I.loc
  obtain ⟨sl,hL⟩:=u.any ho I.free fun z=>(hch _ z).2.1 rfl
  exact I.step (ch:=ch) hch (fun b o hL hb hc e n=>u.keep b o e n (fun z=>(List.mem_cons.mp (I.stkSub b z)).elim hL hb) hc) (fun b o _ _ hc e n=>u.any e n hc) (fun b o hc e n=>u.free b o e n hc) (fun b o hc e=>u.there b o e hc) u.tups u.frzs u.tbls (fun m' hm=>by
    obtain ⟨o',es',ep',ho',r'⟩:=hm
    rw [ho] at ho'; cases ho'
    exact ⟨_,es',ep',hL,r'⟩) hok hg
theorem Inv.turned {t':Nat} {it:Addr} (I:Inv X pins σ H s) (k:∀ b o,b ≠ it->s.heap.get? b = some o->h'.get? b = some o) (hn:H it = none) (hL:it ≠ X.env.locals)
    (h1:it ∈ X.ex\/X.s₀.heap.objs.size<=it) (h2:∀ x c,X.env.cells.lookup x = some c->c ≠ it) (h3:∀ p ∈ X.pn ++ pins,p.1 ≠ it):Inv X pins σ H { s with heap:=h',toks:=t' }:=by
  have nit:∀ b u,H b = some u->b ≠ it:=fun b u e z=>by rw [z,hn] at e; cases e
  refine I.step (g':=s.gens) (d':=s.drawn) (ch:=[it]) (fun b hb=>?_) (fun b o _ _ hc e _=>k b o (fun z=>hc (by simp [z])) e) (fun b o _ _ hc e _=>⟨o.slots,k b o (fun z=>hc (by simp [z])) e⟩) (fun _ _ _ _ n=>n)
    (fun b o hc e=>⟨o,k b o (fun z=>hc (by simp [z])) e⟩) (fun _ _ e=>e) (fun _ _ _ e=>e) (.kept (fun b u z e=>k b u (fun r=>by subst r; rcases z with ⟨q,z⟩; rw [hn] at z; cases z) e) fun _ _ e _=>e) (fun m hm=>?_) (fun b u e=>?_) I.bare
  · have e:b = it:=by simpa using hb
    subst e
    exact ⟨h1,hL,h2,h3⟩
  · obtain ⟨o,es,ep,ho,r⟩:=hm
    exact ⟨o,es,ep,k _ o (Ne.symm hL) ho,r⟩
  · refine (I.hok b u e).stay (fun c v hc q=>k c v ?_ q) (fun _ q=>q) fun _ _ q _=>q
    rcases hc with z | z
    · rw [z]; exact nit b u e
    · exact nit c _ z
theorem Inv.tok (I:Inv X pins σ H s) (t:Nat):Inv X pins σ H { s with toks:=t }:=I.un (h':=s.heap) (t':=t) Un.refl I.hok
theorem Inv.kept {t':Nat} (I:Inv X pins σ H s) (k:∀ b u,s.heap.get? b = some u->h'.get? b = some u):Inv X pins σ H { s with heap:=h',toks:=t' }:=I.un (Un.kept k) (I.hok.kept k)
theorem Inv.laid {a:Addr} {o:HO} {t':Nat} (I:Inv X pins σ H s) (k:∀ b u,s.heap.get? b = some u->h'.get? b = some u) (hp:s.heap.objs.size<=a) (new:ObjOk X.prog X.w (upd H a o) h' a o) :
    Inv X pins σ (upd H a o) { s with heap:=h',toks:=t' }:=I.un (Un.laid k hp (I.hok.fresh hp)) (I.hok.laid k hp new)
theorem Inv.write {x e:Addr} {o:HO} {t':Nat} (I:Inv X pins σ H s) (mu:Mut (H x)) (he:e = x\/H e = some (.own x)) (k:∀ b u,b ≠ e->s.heap.get? b = some u->h'.get? b = some u) (heo:∃ u,h'.get? e = some u)
    (new:ObjOk X.prog X.w (upd H x o) h' x o):Inv X pins σ (upd H x o) { s with heap:=h',toks:=t' }:=I.un (Un.write mu he k heo) (I.hok.write mu he k heo new)
theorem Inv.pins_of {pins':List (Addr × Obj)} (I:Inv X pins σ H s) (h:∀ p ∈ pins',s.heap.get? p.1 = some p.2/\H p.1 = none/\p.1 ≠ X.env.locals/\p.1 ∉ X.fs/\∀ v,p.2.data ≠ .cell v):Inv X pins' σ H s :=
  ⟨I.ok,I.os,I.bare,I.base,I.loc,I.cell,I.free,I.freeC,fun p hp=>(List.mem_append.mp hp).elim (fun z=>I.pin p (List.mem_append_left _ z)) (h p),I.hok,I.len⟩
theorem nodup_ix {N:List Str} (hN:N.Nodup) {i j:Nat} {x:Str} (a:N[i]? = some x) (b:N[j]? = some x):i = j:=by
  obtain ⟨h1,e1⟩:=List.getElem?_eq_some_iff.mp a
  obtain ⟨h2,e2⟩:=List.getElem?_eq_some_iff.mp b
  exact (List.getElem_inj hN).mp (e1.trans e2.symm)
theorem store_ok2 {M:Model} {A:Around} {E:Value->Shared->Prop} {i:Nat} {x:Str} {v:V} {u:Value} {Q:Unit->Shared->Prop} (I:Inv X pins σ H s) (hN:X.N.Nodup) (hi:X.N[i]? = some x) (hx:Loc X.env.scope x) (r:RelV v u)
    (h:∀ s',Inv X pins (σ.set i (some v)) H s'->(∃ a,Heap.SameBut a s.heap s'.heap/\(a = X.env.locals\/X.env.cells.lookup x = some a))->Q () s') (hf:X.fn x = true\/X.env.scope.names.lookup x = some .local:=by first | exact .inl rfl | exact .inr rfl | assumption):wpAny M A (storeName X.env x u) Q E s:=by
  obtain ⟨m,hn,hl⟩:=id I.loc
  have hcls:(X.env.scope.kind == .class || (X.env.scope.kind == .module && X.env.locals != X.env.globals)) = false:=by rw [I.ok.kind]; rfl
  have hiσ:i < σ.length:=by rw [I.len]; exact (List.getElem?_eq_some_iff.mp hi).1
  have cne:=I.cne
  have tracked:∀ {a:Addr} {h':Heap},(∃ o,s.heap.get? a = some o/\H a = none)->Heap.SameBut a s.heap h'->HOk X.prog X.w H h':=fun {a h'} ha hs b ob e=>by
    obtain ⟨_,_,hfree⟩:=ha
    refine (I.hok b ob e).stay (fun c w' hc q=>(hs.2 c ?_).trans q) (fun _ q=>q) fun _ _ q _=>q
    rintro rfl
    rcases hc with rfl | hc
    · rw [hfree] at e; cases e
    · rw [hfree] at hc; cases hc
  rcases hx with hk | hk
  · refine wpAny_storeName_local hk hn (fun h' hn' hs=>?_) hcls
    obtain ⟨oL,_,_,hoL,_⟩:=id hn
    refine h _ ⟨I.ok,I.os,I.bare,⟨fun b o e n hb hx=>?_,fun b o e n hb hx=>?_,I.base.free,fun b o e hx=>?_,I.base.tups,I.base.frzs,I.base.tbls.trans (.kept (fun b u z e=>(hs.2 b (fun r=>by rcases z with ⟨q,z⟩; rw [r,I.free] at z; cases z)).trans e) fun _ _ e _=>e)⟩,⟨_,hn',fun j y v' e1 e2 e3=>?_⟩,fun y c e=>?_,I.free,I.freeC,fun p hp=>?_,tracked ⟨oL,hoL,I.free⟩ hs,by simpa using I.len⟩ ⟨_,hs,.inl rfl⟩
    · exact (hs.2 b (Nat.ne_of_lt (Nat.lt_of_lt_of_le (Heap.lt_size e) I.ok.above))).trans (I.base.keep b o e n hb hx)
    · obtain ⟨sl,e1⟩:=I.base.slot b o e n hb hx
      exact ⟨sl,(hs.2 b (Nat.ne_of_lt (Nat.lt_of_lt_of_le (Heap.lt_size e) I.ok.above))).trans e1⟩
    · obtain ⟨o',e1⟩:=I.base.there b o e hx
      exact ⟨o',(hs.2 b (Nat.ne_of_lt (Nat.lt_of_lt_of_le (Heap.lt_size e) I.ok.above))).trans e1⟩
    · by_cases hj:j = i
      · subst hj
        rw [hi] at e1; cases e1
        rw [List.getElem?_set_self hiσ] at e2
        cases e2
        exact ⟨u,r,.inl ⟨hk,by simp⟩⟩
      · rw [List.getElem?_set_ne (Ne.symm hj)] at e2
        obtain ⟨u',r',q⟩:=hl j y v' e1 e2 e3
        refine ⟨u',r',?_⟩
        rcases q with ⟨k,e⟩ | ⟨k,c,e,z⟩
        · refine .inl ⟨k,?_⟩
          have:y ≠ x:=fun e=>hj (nodup_ix hN e1 (e ▸ hi))
          simp [this,e]
        · exact .inr ⟨k,c,e,z.sameBut hs (cne y c e)⟩
    · obtain ⟨w',z⟩:=I.cell y c e
      exact ⟨w',z.sameBut hs (cne y c e)⟩
    · obtain ⟨e,n,ne,nf,d⟩:=I.pin p hp
      exact ⟨(hs.2 p.1 ne).trans e,n,ne,nf,d⟩
  · have hfn:X.fn x = true:=by
      rcases hf with z | z
      · exact z
      · rw [z] at hk; cases hk
    obtain ⟨c,hc⟩:=I.ok.has x (.inl hk)
    obtain ⟨w',z⟩:=I.cell x c hc
    refine wpAny_storeName_cell I.ok.kind hk hc z (fun h' hc' hs=>?_)
    obtain ⟨oc,hoc,hocd⟩:=id z
    refine h { s with heap:=h' } ⟨I.ok,I.os,I.bare,⟨fun b o e n hb hx=>?_,fun b o e n hb hx=>?_,I.base.free,fun b o e hx=>?_,I.base.tups,I.base.frzs,I.base.tbls.trans (.kept (fun b u z e=>(hs.2 b (fun r=>by rcases z with ⟨q,z⟩; rw [r,I.freeC x c hc] at z; cases z)).trans e) fun _ _ e _=>e)⟩,⟨m,hn.sameBut hs (Ne.symm (cne x c hc)),fun j y v' e1 e2 e3=>?_⟩,fun y c' e=>?_,I.free,I.freeC,fun p hp=>?_,tracked ⟨oc,hoc,I.freeC x c hc⟩ hs,by simpa using I.len⟩ ⟨c,hs,.inr hc⟩
    · exact (hs.2 b (Nat.ne_of_lt (Nat.lt_of_lt_of_le (Heap.lt_size e) (I.ok.cab x c hfn hc)))).trans (I.base.keep b o e n hb hx)
    · obtain ⟨sl,e1⟩:=I.base.slot b o e n hb hx
      exact ⟨sl,(hs.2 b (Nat.ne_of_lt (Nat.lt_of_lt_of_le (Heap.lt_size e) (I.ok.cab x c hfn hc)))).trans e1⟩
    · obtain ⟨o',e1⟩:=I.base.there b o e hx
      exact ⟨o',(hs.2 b (Nat.ne_of_lt (Nat.lt_of_lt_of_le (Heap.lt_size e) (I.ok.cab x c hfn hc)))).trans e1⟩
    · by_cases hj:j = i
      · subst hj
        rw [hi] at e1; cases e1
        rw [List.getElem?_set_self hiσ] at e2
        cases e2
        exact ⟨u,r,.inr ⟨.inl hk,c,hc,hc'⟩⟩
      · rw [List.getElem?_set_ne (Ne.symm hj)] at e2
        obtain ⟨u',r',q⟩:=hl j y v' e1 e2 e3
        refine ⟨u',r',?_⟩
        rcases q with q | ⟨k,c',e,z'⟩
        · exact .inl q
        · refine .inr ⟨k,c',e,z'.sameBut hs ?_⟩
          rintro rfl
          exact hj (nodup_ix hN e1 (I.ok.inj _ _ _ e hc ▸ hi))
    · by_cases hcc:c' = c
      · subst hcc; exact ⟨_,hc'⟩
      · obtain ⟨w2,z2⟩:=I.cell y c' e
        exact ⟨w2,z2.sameBut hs hcc⟩
    · obtain ⟨e,n,ne,nf,d⟩:=I.pin p hp
      refine ⟨(hs.2 p.1 ?_).trans e,n,ne,nf,d⟩
      intro q
      rw [q,hoc] at e
      have q':oc = p.2:=Option.some.inj e
      exact d w' (by rw [<- q']; exact hocd)
theorem store_ok {M:Model} {A:Around} {E:Value->Shared->Prop} {i:Nat} {x:Str} {v:V} {u:Value} {Q:Unit->Shared->Prop} (I:Inv X pins σ H s) (hN:X.N.Nodup) (hi:X.N[i]? = some x) (hx:Loc X.env.scope x) (r:RelV v u)
    (h:∀ s',Inv X pins (σ.set i (some v)) H s'->Q () s') (hf:X.fn x = true\/X.env.scope.names.lookup x = some .local:=by first | exact .inl rfl | exact .inr rfl | assumption):wpAny M A (storeName X.env x u) Q E s :=
  store_ok2 I hN hi hx r (fun s' I' _=>h s' I') hf
theorem Inv.call' {s':Shared} {ch:List Addr} (I:Inv X pins σ H s) (ho:s'.os = s.os) (u:Un (frs X.stack) ch H H' s.heap s'.heap) (hok:HOk X.prog X.w H' s'.heap) (hg:AllBare s'.gens)
    (hch:∀ b ∈ ch,(b ∈ X.ex\/X.s₀.heap.objs.size<=b)/\b ≠ X.env.locals/\(∀ x c,X.env.cells.lookup x = some c->c ≠ b)/\∀ p ∈ X.pn ++ pins,p.1 ≠ b):Inv X pins σ H' s':=by
  obtain ⟨h',g',d',t',o'⟩:=s'
  have e:o' = s.os:=ho
  subst e
  exact I.call (g':=g') (t':=t') (d':=d') u hok hg hch
end
noncomputable abbrev XK:=Value->Option Addr->Hp->Prop
noncomputable abbrev St:=List (Option V)
noncomputable abbrev VK:=V->Hp->Prop
noncomputable abbrev TE:=St->Hp->VK->Prop
noncomputable abbrev TT:=St->Hp->(Bool->Hp->Prop)->Prop
noncomputable abbrev TA:=St->Hp->(List V->Hp->Prop)->Prop
structure Ends where
  nx:St->Hp->Prop
  rt:VK
  bk:St->Hp->Prop:=fun _ _=>False
  ct:St->Hp->Prop:=fun _ _=>False
noncomputable abbrev TS:=Ends->St->Hp->Prop
noncomputable def EP (X:Cx) (pins:List (Addr × Obj)) (σ:St) (Q:VK) (u:Value) (s':Shared):Prop:=∃ v H',Inv X pins σ H' s'/\RelV v u/\Q v H'
noncomputable def TP (X:Cx) (pins:List (Addr × Obj)) (σ:St) (Q:Bool->Hp->Prop) (b:Bool) (s':Shared):Prop:=∃ H',Inv X pins σ H' s'/\Q b H'
noncomputable def AP (X:Cx) (pins:List (Addr × Obj)) (σ:St) (Q:List V->Hp->Prop) (us:List Value) (s':Shared):Prop:=∃ vs H',Inv X pins σ H' s'/\Vals vs us/\Q vs H'
noncomputable def SP (X:Cx) (pins:List (Addr × Obj)) (D:Ends) (f:Flow) (s':Shared):Prop :=
  match f with
  | .next=>∃ σ' H',Inv X pins σ' H' s'/\D.nx σ' H'
  | .brk=>∃ σ' H',Inv X pins σ' H' s'/\D.bk σ' H'
  | .cont=>∃ σ' H',Inv X pins σ' H' s'/\D.ct σ' H'
  | .ret u=>∃ v σ' H',Inv X pins σ' H' s'/\RelV v u/\D.rt v H'
noncomputable def PE (X:Cx) (e:Expr) (t:TE):Prop :=
  ∀ (pins:List (Addr × Obj)) (s:Shared) (σ:St) (H:Hp) (Q:VK),Inv X pins σ H s->t σ H Q->wpAny (model X.prog X.w) X.A (eval e X.env) (EP X pins σ Q) X.xe s
noncomputable def PT (X:Cx) (e:Expr) (t:TT):Prop :=
  ∀ (pins:List (Addr × Obj)) (s:Shared) (σ:St) (H:Hp) (Q:Bool->Hp->Prop),Inv X pins σ H s->t σ H Q->wpAny (model X.prog X.w) X.A (isTrue e X.env (eval e X.env)) (TP X pins σ Q) X.xe s
noncomputable def PW (X:Cx) (e:Expr) (t:TT):Prop :=
  ∀ (whole:Sem Value) (pins:List (Addr × Obj)) (s:Shared) (σ:St) (H:Hp) (Q:Bool->Hp->Prop),Inv X pins σ H s->t σ H Q->wpAny (model X.prog X.w) X.A (isTrue e X.env whole) (TP X pins σ Q) X.xe s
theorem PW.pt {X:Cx} {e:Expr} {t:TT} (h:PW X e t):PT X e t:=h _
noncomputable def PA (X:Cx) (es:List Expr) (t:TA):Prop :=
  ∀ (pos:Pos) (pins:List (Addr × Obj)) (s:Shared) (σ:St) (H:Hp) (Q:List V->Hp->Prop),Inv X pins σ H s->t σ H Q->wpAny (model X.prog X.w) X.A (spliced (backTo pos (starEach es X.env))) (AP X pins σ Q) X.xe s
noncomputable def PS (X:Cx) (st:Stmt) (t:TS):Prop :=
  ∀ (pins:List (Addr × Obj)) (s:Shared) (σ:St) (H:Hp) (D:Ends),Inv X pins σ H s->t D σ H->wpAny (model X.prog X.w) X.A (exec st X.env) (SP X pins D) X.xe s
noncomputable def PSs (X:Cx) (st:List Stmt) (t:TS):Prop :=
  ∀ (pins:List (Addr × Obj)) (s:Shared) (σ:St) (H:Hp) (D:Ends),Inv X pins σ H s->t D σ H->wpAny (model X.prog X.w) X.A (execs st X.env) (SP X pins D) X.xe s
theorem thn {α:Type} {t:Sem α} {Q Q':α->Shared->Prop} {M:Model} {A:Around} {E:Value->Shared->Prop} {s:Shared} (h:wpAny M A t Q E s) (hQ:∀ a s,Q a s->Q' a s):wpAny M A t Q' E s:=wpAny_mono h hQ fun _ _ x=>x
end L2
namespace L2
open PySem PySem.Spec PyProof.Rows
section
variable {X:Cx}
theorem bin {a b:Expr} {ta tb:TE} (ha:PE X a ta) (hb:PE X b tb) {pins:List (Addr × Obj)} {s:Shared} {σ:St} {H:Hp} {R:V->V->Hp->Prop} (I:Inv X pins σ H s) (h:ta σ H fun x H1=>tb σ H1 fun y H2=>R x y H2)
    {α:Type} {Q:α->Shared->Prop} {f:Value->Value->Sem α}
    (hf:∀ v u s2 x y H2,Inv X pins σ H2 s2->RelV x v->RelV y u->R x y H2->wpAny (model X.prog X.w) X.A (f v u) Q X.xe s2) :
    wpAny (model X.prog X.w) X.A (eval a X.env) (fun v s₁=>wpAny (model X.prog X.w) X.A (eval b X.env) (fun u s₂=>wpAny (model X.prog X.w) X.A (f v u) Q X.xe s₂) X.xe s₁) X.xe s:=by
  refine thn (ha pins s σ H _ I h) fun v s1 ⟨x,H1,I1,r1,q1⟩=>?_
  refine thn (hb pins s1 σ H1 _ I1 q1) fun u s2 ⟨y,H2,I2,r2,q2⟩=>?_
  exact hf v u s2 x y H2 I2 r1 r2 q2
noncomputable def tVar (i:Nat):TE:=fun σ H Q=>∃ v,σ[i]? = some (some v)/\Q v H
noncomputable def tC (v:V):TE:=fun _ H Q=>Q v H
theorem pe_var {i:Nat} {x:Str} {pos:Pos} (hN:X.N[i]? = some x) (hv:Vis X.env.scope x) (hd:(x == ("__debug__":Str)) = false:=by decide) (hcd:(x == ("__classdict__":Str)) = false:=by decide):PE X (.Name x pos) (tVar i):=by
  intro pins s σ H Q I h
  obtain ⟨v,e,h⟩:=h
  obtain ⟨m,hn,hl⟩:=I.loc
  obtain ⟨u,r,l⟩:=hl i x v hN e hv
  have fin:EP X pins σ Q u s:=⟨v,H,I,r,h⟩
  rcases l with ⟨hk,hm⟩ | ⟨hk,c,hc,hcell⟩
  · exact wpAny_Name (wpAny_loadName_local I.ok.kind hk hn hm fin) hd
  · rcases hk with hk | hk
    · exact wpAny_Name (wpAny_loadName_cell I.ok.kind hk hc hcell fin) hd
    · exact wpAny_Name (wpAny_loadName_free I.ok.kind hk hc hcell fin hcd) hd
theorem pe_int {i j pos}:PE X (.Constant (.int i) j pos) (tC (.int i)):=fun _ _ _ H _ I h=>wpAny_Constant_int ⟨.int i,H,I.tok _,⟨_,rfl⟩,h⟩
theorem pe_bl {b j pos}:PE X (.Constant (.bool b) j pos) (tC (.bl b)):=fun _ _ _ H _ I h=>Constant_bool ⟨.bl b,H,I,rfl,h⟩
theorem pe_non {j pos}:PE X (.Constant .none j pos) (tC .non):=fun _ _ _ H _ I h=>Constant_none ⟨.non,H,I,rfl,h⟩
theorem pe_str {x j pos}:PE X (.Constant (.str x) j pos) (tC (.str x)):=fun _ _ _ H _ I h=>Calls.Constant_str ⟨.str x,H,I.tok _,⟨_,rfl⟩,h⟩
noncomputable def Gl (X:Cx) (x:Str):Prop:=X.env.kindOf x = some .globalImplicit
theorem ld_glob {E:Value->Shared->Prop} {pins:List (Addr × Obj)} {s:Shared} {σ:St} {H:Hp} {x:Str} {u:Value} {pos:Pos} {Q:Value->Shared->Prop} (I:Inv X pins σ H s) (hg:Gl X x) (hm:X.mg x = some u) (h:Q u s)
    (hd:(x == ("__debug__":Str)) = false:=by decide):wpAny (model X.prog X.w) X.A (eval (.Name x pos) X.env) Q E s :=
  Calls.Name_function_global I.ok.kind hg (Calls.loadGlobal_global (by rw [I.ok.glob]; exact I.mod.glob.keeps I.bk) hm h) hd
theorem ld_blt {E:Value->Shared->Prop} {pins:List (Addr × Obj)} {s:Shared} {σ:St} {H:Hp} {x:Str} {u:Value} {pos:Pos} {Q:Value->Shared->Prop} (I:Inv X pins σ H s) (hg:Gl X x) (hm:X.mg x = none) (hv:bootBuiltins x = some u) (h:Q u s)
    (hn:x ≠ "__name__":=by decide) (hd:(x == ("__debug__":Str)) = false:=by decide):wpAny (model X.prog X.w) X.A (eval (.Name x pos) X.env) Q E s:=by
  obtain ⟨mb,h1,h2⟩:=I.mod.blt
  exact Calls.Name_function_global I.ok.kind hg (Calls.loadGlobal_builtin (by rw [I.ok.glob]; exact I.mod.glob.keeps I.bk) hm (by rw [I.ok.blt]; exact h1.keeps I.bk) ((h2 x hn).trans hv) h) hd
theorem pe_glob {x:Str} {v:V} {u:Value} {pos:Pos} (hg:Gl X x) (hm:X.mg x = some u) (r:RelV v u) (hd:(x == ("__debug__":Str)) = false:=by decide):PE X (.Name x pos) (tC v) :=
  fun _ _ _ H _ I h=>ld_glob I hg hm ⟨v,H,I,r,h⟩ hd
theorem pe_bltn {x:Str} {v:V} {u:Value} {pos:Pos} (hg:Gl X x) (hm:X.mg x = none) (hv:bootBuiltins x = some u) (r:RelV v u) (hn:x ≠ "__name__":=by decide) (hd:(x == ("__debug__":Str)) = false:=by decide):PE X (.Name x pos) (tC v) :=
  fun _ _ _ H _ I h=>ld_blt I hg hm hv ⟨v,H,I,r,h⟩ hn hd
variable {a b:Expr} {ta tb:TE} {pos:Pos}
noncomputable def tB (t:TE):TT:=fun σ H Q=>t σ H fun x H1=>∃ c,x = .bl c/\Q c H1
theorem pt_val {e:Expr} {t:TE} (h:PE X e t) (he:∀ whole,isTrue e X.env whole = (do let v <- whole; standAt e.pos; holding [v] (truthy v)):=by intro _; rfl):PT X e (tB t):=by
  intro pins s σ H Q I hw
  refine isTrue_plain (thn (h pins s σ H _ I hw) fun v s1 ⟨x,H1,I1,r1,q1⟩=>?_) (he _)
  obtain ⟨d,rfl,q⟩:=q1
  cases r1
  exact wpAny_truthy_bool ⟨H1,I1,q⟩
variable {tA tB':TT} {rest:List Expr}
noncomputable def tAnd (t u:TT):TT:=fun σ H Q=>t σ H fun c H1=>if c = true then u σ H1 Q else Q false H1
noncomputable def tOr (t u:TT):TT:=fun σ H Q=>t σ H fun c H1=>if c = true then Q true H1 else u σ H1 Q
noncomputable def tNot (t:TT):TT:=fun σ H Q=>t σ H fun c H1=>Q (!c) H1
theorem pw_and1 (ha:PT X a tA):PW X (.BoolOp .And [a] pos) tA:=by
  intro wh pins s σ H Q I h
  refine isTrue_and (thn (ha pins s σ H Q I h) fun c s1 e=>?_)
  cases c with
  | true=>exact isTrue_and_nil e
  | false=>exact e
theorem pw_or1 (ha:PT X a tA):PW X (.BoolOp .Or [a] pos) tA:=by
  intro wh pins s σ H Q I h
  refine isTrue_or (thn (ha pins s σ H Q I h) fun c s1 e=>?_)
  cases c with
  | false=>exact isTrue_or_nil e
  | true=>exact e
theorem pw_and (ha:PT X a tA) (hb:PW X (.BoolOp .And (b :: rest) pos) tB'):PW X (.BoolOp .And (a :: b :: rest) pos) (tAnd tA tB'):=by
  intro wh pins s σ H Q I h
  refine isTrue_and (thn (ha pins s σ H _ I h) fun c s1 ⟨H1,I1,q1⟩=>?_)
  cases c with
  | true=>exact hb wh pins s1 σ H1 Q I1 q1
  | false=>exact ⟨H1,I1,q1⟩
theorem pw_or (ha:PT X a tA) (hb:PW X (.BoolOp .Or (b :: rest) pos) tB'):PW X (.BoolOp .Or (a :: b :: rest) pos) (tOr tA tB'):=by
  intro wh pins s σ H Q I h
  refine isTrue_or (thn (ha pins s σ H _ I h) fun c s1 ⟨H1,I1,q1⟩=>?_)
  cases c with
  | true=>exact ⟨H1,I1,q1⟩
  | false=>exact hb wh pins s1 σ H1 Q I1 q1
theorem pt_not (ha:PT X a tA):PT X (.UnaryOp .Not a pos) (tNot tA):=by
  intro pins s σ H Q I h
  exact isTrue_not (ha pins s σ H (fun c H1=>Q (!c) H1) I h)
noncomputable def tAndV (ta tb:TE):TE:=fun σ H Q=>ta σ H fun x H1=>∃ c,x = .bl c/\if c = true then tb σ H1 Q else Q (.bl false) H1
noncomputable def tOrV (ta tb:TE):TE:=fun σ H Q=>ta σ H fun x H1=>∃ c,x = .bl c/\if c = true then Q (.bl true) H1 else tb σ H1 Q
noncomputable def tNotV (ta:TE):TE:=fun σ H Q=>ta σ H fun x H1=>∃ c,x = .bl c/\Q (.bl (!c)) H1
theorem pe_one {op} {t:TE} (h:PE X a t):PE X (.BoolOp op [a] pos) t:=fun pins s σ H Q I hw=>BoolOp_one (h pins s σ H Q I hw)
theorem pe_and (ha:PE X a ta) (hb:PE X (.BoolOp .And (b :: rest) pos) tb):PE X (.BoolOp .And (a :: b :: rest) pos) (tAndV ta tb):=by
  intro pins s σ H Q I h
  refine BoolOp_and (thn (ha pins s σ H _ I h) fun v s1 ⟨x,H1,I1,r1,q1⟩=>?_)
  obtain ⟨c,rfl,q1⟩:=q1
  cases r1
  refine wpAny_truthy_bool ?_
  cases c with
  | true=>exact hb pins s1 σ H1 Q I1 q1
  | false=>exact ⟨.bl false,H1,I1,rfl,q1⟩
theorem pe_or (ha:PE X a ta) (hb:PE X (.BoolOp .Or (b :: rest) pos) tb):PE X (.BoolOp .Or (a :: b :: rest) pos) (tOrV ta tb):=by
  intro pins s σ H Q I h
  refine BoolOp_or (thn (ha pins s σ H _ I h) fun v s1 ⟨x,H1,I1,r1,q1⟩=>?_)
  obtain ⟨c,rfl,q1⟩:=q1
  cases r1
  refine wpAny_truthy_bool ?_
  cases c with
  | false=>exact hb pins s1 σ H1 Q I1 q1
  | true=>exact ⟨.bl true,H1,I1,rfl,q1⟩
theorem pe_not (ha:PE X a ta):PE X (.UnaryOp .Not a pos) (tNotV ta):=by
  intro pins s σ H Q I h
  refine UnaryOp_ (thn (ha pins s σ H _ I h) fun v s1 ⟨x,H1,I1,r1,q1⟩=>?_)
  obtain ⟨c,rfl,q1⟩:=q1
  cases r1
  exact not_of (wpAny_truthy_bool ⟨.bl (!c),H1,I1,rfl,q1⟩)
noncomputable def tIf (t:TT) (ta tb:TE):TE:=fun σ H Q=>t σ H fun c H1=>if c = true then ta σ H1 Q else tb σ H1 Q
theorem pe_ifExp {c:Expr} (hc:PT X c tA) (ha:PE X a ta) (hb:PE X b tb):PE X (.IfExp c a b pos) (tIf tA ta tb):=by
  intro pins s σ H Q I h
  refine wpAny_IfExp (thn (hc pins s σ H _ I h) fun d s1 ⟨H1,I1,q1⟩=>?_)
  cases d with
  | true=>exact ha pins s1 σ H1 Q I1 q1
  | false=>exact hb pins s1 σ H1 Q I1 q1
end
end L2
namespace L2
open PySem PySem.Spec PyProof.Rows
noncomputable def SqL (K:PySem.W.Frag) (H:Hp) (a:Addr) (xs:List V):Prop :=
  Rd H a (.lst xs) \/
    ∃ (o:Obj) (its:Array Value) (n:Nat),K.lookup a = some o/\o.cls = .type "list"/\o.dict = none/\o.data = .seq its n/\its.size<=sizeLine/\Vals xs its.toList
noncomputable def SqT (K:PySem.W.Frag) (H:Hp) (a:Addr) (xs:List V):Prop :=
  Rd H a (.tup xs) \/
    ∃ (o:Obj) (its:Array Value) (n:Nat),K.lookup a = some o/\o.cls = .type "tuple"/\o.dict = none/\o.data = .seq its n/\its.size<=sizeLine/\Vals xs its.toList
noncomputable def absV:Value->Option V
  | .none=>some .non
  | .bool b=>some (.bl b)
  | .int i _=>some (.int i)
  | .str x _=>some (.str x)
  | .bytes b _=>some (.byt b)
  | .float b _=>some (.flt b)
  | .ref a=>some (.ref a)
  | .type n=>some (.ty n)
  | _=>none
theorem RelV.abs {x:V} {u:Value} (r:RelV x u):absV u = some x:=by
  cases x with
  | non=>cases r; rfl
  | bl _=>cases r; rfl
  | int _=>obtain ⟨t,rfl⟩:=r; rfl
  | str _=>obtain ⟨t,rfl⟩:=r; rfl
  | byt _=>obtain ⟨t,rfl⟩:=r; rfl
  | flt _=>obtain ⟨t,rfl⟩:=r; rfl
  | ref _=>cases r; rfl
  | ty _=>cases r; rfl
theorem RelV.inj {x y:V} {u:Value} (r:RelV x u) (q:RelV y u):x = y:=Option.some.inj (r.abs.symm.trans q.abs)
theorem Vals.inj:∀ {xs ys:List V} {us:List Value},Vals xs us->Vals ys us->xs = ys
  | _,_,_,.nil,.nil=>rfl
  | _,_,_,.cons r t,.cons r' t'=>by rw [r.inj r',Vals.inj t t']
section
variable {X:Cx} {pins:List (Addr × Obj)} {σ:St} {H:Hp} {s:Shared} {a:Addr} {xs ys:List V}
theorem SqL.of {K:PySem.W.Frag} (h:H a = some (.lst xs)):SqL K H a xs:=.inl (.inl h)
theorem SqT.of {K:PySem.W.Frag} (h:H a = some (.tup xs)):SqT K H a xs:=.inl (.inl h)
theorem Inv.list (I:Inv X pins σ H s) (h:SqL X.K H a xs):∃ its:List Value,Vals xs its/\PlainL s.heap a its.toArray/\xs.length<=sizeLine:=by
  rcases h with h | ⟨o,its,n,hk,hc,hd,hs,hz,r⟩
  · obtain ⟨z,its,n,r,e⟩:=h.ok I.hok
    exact ⟨its,r,⟨_,n,e,rfl,rfl,rfl⟩,z⟩
  · refine ⟨its.toList,r,⟨o,n,I.kIn a o hk,hc,hd,by simpa using hs⟩,?_⟩
    have e:=r.length
    simp only [Array.length_toList] at e
    omega
theorem Inv.tuple (I:Inv X pins σ H s) (h:SqT X.K H a xs):∃ its:List Value,Vals xs its/\IsTup s.heap a its.toArray/\xs.length<=sizeLine:=by
  rcases h with h | ⟨o,its,n,hk,hc,_,hs,hz,r⟩
  · obtain ⟨z,its,r,p⟩:=h.ok I.hok
    exact ⟨its,r,p.1,z⟩
  · refine ⟨its.toList,r,⟨o,I.kIn a o hk,hc,n,by simpa using hs⟩,?_⟩
    have e:=r.length
    simp only [Array.length_toList] at e
    omega
theorem Inv.list_inj (I:Inv X pins σ H s) (h:SqL X.K H a xs) (h':SqL X.K H a ys):xs = ys:=by
  obtain ⟨its,r,⟨o,n,e,_,_,d⟩,_⟩:=I.list h
  obtain ⟨its',r',⟨o',n',e',_,_,d'⟩,_⟩:=I.list h'
  rw [e] at e'; cases e'
  rw [d] at d'
  injection d' with d1 _
  have:its = its':=by simpa using congrArg Array.toList d1
  subst this
  exact r.inj r'
theorem Inv.tuple_inj (I:Inv X pins σ H s) (h:SqT X.K H a xs) (h':SqT X.K H a ys):xs = ys:=by
  obtain ⟨its,r,⟨o,e,_,n,d⟩,_⟩:=I.tuple h
  obtain ⟨its',r',⟨o',e',_,n',d'⟩,_⟩:=I.tuple h'
  rw [e] at e'; cases e'
  rw [d] at d'
  injection d' with d1 _
  have:its = its':=by simpa using congrArg Array.toList d1
  subst this
  exact r.inj r'
end
noncomputable abbrev Cx.wish (X:Cx) (E:Value->Shared->Prop):Cx:={ X with xe:=E }
noncomputable abbrev Cx.nox (X:Cx):Cx:=X.wish fun _ _=>False
theorem Cx.Ok.wish {X:Cx} (ok:X.Ok) (E:Value->Shared->Prop):(X.wish E).Ok :=
  ⟨ok.mod,ok.kind,ok.glob,ok.blt,ok.above,ok.inj,ok.has,ok.cab,ok.hd,ok.frames,ok.stk,ok.exf,ok.bs,ok.bsz,ok.noex,ok.exfs,ok.funs,ok.frf⟩
theorem Cx.Ok.unwish {X:Cx} {E:Value->Shared->Prop} (ok:(X.wish E).Ok):X.Ok :=
  ⟨ok.mod,ok.kind,ok.glob,ok.blt,ok.above,ok.inj,ok.has,ok.cab,ok.hd,ok.frames,ok.stk,ok.exf,ok.bs,ok.bsz,ok.noex,ok.exfs,ok.funs,ok.frf⟩
section
variable {X:Cx} {pins:List (Addr × Obj)} {σ:St} {H:Hp} {s:Shared} {E:Value->Shared->Prop}
theorem Inv.wish (I:Inv X pins σ H s) (E:Value->Shared->Prop):Inv (X.wish E) pins σ H s:=⟨I.ok.wish E,I.os,I.bare,I.base,I.loc,I.cell,I.free,I.freeC,I.pin,I.hok,I.len⟩
theorem Inv.unwish (I:Inv (X.wish E) pins σ H s):Inv X pins σ H s:=⟨I.ok.unwish,I.os,I.bare,I.base,I.loc,I.cell,I.free,I.freeC,I.pin,I.hok,I.len⟩
theorem SP.unwish {D:Ends} {f:Flow} {s':Shared} (h:SP (X.wish E) pins D f s'):SP X pins D f s':=by
  cases f with
  | next=>obtain ⟨σ',H',I,q⟩:=h; exact ⟨σ',H',I.unwish,q⟩
  | brk=>obtain ⟨σ',H',I,q⟩:=h; exact ⟨σ',H',I.unwish,q⟩
  | cont=>obtain ⟨σ',H',I,q⟩:=h; exact ⟨σ',H',I.unwish,q⟩
  | ret u=>obtain ⟨v,σ',H',I,r,q⟩:=h; exact ⟨v,σ',H',I.unwish,r,q⟩
theorem PE.nox {e:Expr} {t:TE} (h:PE X.nox e t):PE X e t:=fun pins s σ H Q I hw =>
  wpAny_mono (h pins s σ H Q (I.wish _) hw) (fun _ _ ⟨v,H',I',r,q⟩=>⟨v,H',I'.unwish,r,q⟩) fun _ _ z=>False.elim z
theorem PT.nox {e:Expr} {t:TT} (h:PT X.nox e t):PT X e t:=fun pins s σ H Q I hw =>
  wpAny_mono (h pins s σ H Q (I.wish _) hw) (fun _ _ ⟨H',I',q⟩=>⟨H',I'.unwish,q⟩) fun _ _ z=>False.elim z
theorem PSs.nox {st:List Stmt} {t:TS} (h:PSs X.nox st t):PSs X st t:=fun pins s σ H D I hw =>
  wpAny_mono (h pins s σ H D (I.wish _) hw) (fun _ _ q=>q.unwish) fun _ _ z=>False.elim z
end
section
variable {X:Cx} {st:Stmt} {rest:List Stmt} {t u:TS} {e:Expr} {te:TE} {pos:Pos}
noncomputable def tNext:TS:=fun D σ H=>D.nx σ H
noncomputable def tSeq (t u:TS):TS:=fun D σ H=>t { D with nx:=u D } σ H
theorem pss_nil:PSs X [] tNext:=fun _ _ σ H _ I h=>wpAny_execs_nil ⟨σ,H,I,h⟩
theorem pss_cons (h1:PS X st t) (h2:PSs X rest u):PSs X (st :: rest) (tSeq t u):=by
  intro pins s σ H D I h
  refine wpAny_execs_cons (thn (h1 pins s σ H { D with nx:=u D } I h) fun f s1 q=>?_)
  cases f with
  | next =>
    obtain ⟨σ',H',I',q⟩:=q
    exact h2 pins s1 σ' H' D I' q
  | ret v=>exact q
  | brk=>exact q
  | cont=>exact q
theorem pss_one (h1:PS X st t):PSs X [st] t:=by
  intro pins s σ H D I h
  refine wpAny_execs_cons (thn (h1 pins s σ H D I h) fun f s1 q=>?_)
  cases f with
  | next=>exact wpAny_execs_nil q
  | ret v=>exact q
  | brk=>exact q
  | cont=>exact q
theorem ps_pass:PS X (.Pass pos) tNext:=fun _ _ σ H _ I h=>wpAny_Pass ⟨σ,H,I,h⟩
theorem Inv.quiet {pins:List (Addr × Obj)} {σ:St} {H:Hp} {s:Shared} (I:Inv X pins σ H s):interactive X.env = false:=by simp [interactive,I.ok.kind]
theorem ps_doc {x j pos pos'}:PS X (.Expr (.Constant (.str x) j pos) pos') tNext:=fun _ s σ H _ I h=>wpAny_Expr (Calls.Constant_str (show SP X _ _ .next { s with toks:=s.toks + 1 } from ⟨σ,H,I.tok _,h⟩)) I.quiet
noncomputable def tDrop (te:TE):TS:=fun D σ H=>te σ H fun _ H1=>D.nx σ H1
theorem ps_expr (he:PE X e te) (hs:swapsWith e none pos.line X.env = pure false:=by rfl):PS X (.Expr e pos) (tDrop te):=by
  intro pins s σ H D I h
  exact wpAny_Expr_any (thn (he pins s σ H _ I h) fun v s1 ⟨x,H1,I1,r1,q1⟩=>⟨σ,H1,I1,q1⟩) I.quiet hs
noncomputable def tRet (te:TE):TS:=fun D σ H=>te σ H D.rt
theorem ps_ret (he:PE X e te):PS X (.Return (some e) pos) (tRet te):=by
  intro pins s σ H D I h
  exact wpAny_Return_some (thn (he pins s σ H _ I h) fun v s1 ⟨x,H1,I1,r1,q1⟩=>⟨x,σ,H1,I1,r1,q1⟩)
noncomputable def tIfS (c:TT) (t u:TS):TS:=fun D σ H=>c σ H fun b H1=>if b = true then t D σ H1 else u D σ H1
theorem ps_if {c:Expr} {a b:List Stmt} {tc:TT} (hc:PT X c tc) (ha:PSs X a t) (hb:PSs X b u):PS X (.If c a b pos) (tIfS tc t u):=by
  intro pins s σ H D I h
  refine wpAny_If (thn (hc pins s σ H _ I h) fun d s1 ⟨H1,I1,q1⟩=>?_)
  cases d with
  | true=>exact ha pins s1 σ H1 D I1 q1
  | false=>exact hb pins s1 σ H1 D I1 q1
end
noncomputable abbrev TG:=V->St->Hp->(St->Hp->Prop)->Prop
noncomputable abbrev TGs:=List V->St->Hp->(St->Hp->Prop)->Prop
noncomputable def PG (X:Cx) (target:Expr) (t:TG):Prop :=
  ∀ (pins:List (Addr × Obj)) (s:Shared) (σ:St) (H:Hp) (v:V) (u:Value) (Q:St->Hp->Prop),Inv X pins σ H s->RelV v u->t v σ H Q ->
    wpAny (model X.prog X.w) X.A (assign target X.env u) (fun _ s'=>∃ σ' H',Inv X pins σ' H' s'/\Q σ' H') X.xe s
noncomputable def PGs (X:Cx) (ts:List Expr) (t:TGs):Prop :=
  ∀ (pins:List (Addr × Obj)) (s:Shared) (σ:St) (H:Hp) (vs:List V) (us:List Value) (Q:St->Hp->Prop),Inv X pins σ H s->Vals vs us->t vs σ H Q ->
    wpAny (model X.prog X.w) X.A (assignInOrder ((assignEach ts X.env).map (·.2)) us) (fun _ s'=>∃ σ' H',Inv X pins σ' H' s'/\Q σ' H') X.xe s
noncomputable abbrev TSet:=V->V->V->Hp->(Hp->Prop)->Prop
noncomputable def PSet (X:Cx) (t:TSet):Prop :=
  ∀ (pins:List (Addr × Obj)) (s:Shared) (σ:St) (H:Hp) (o i v:V) (ov iv u:Value) (Q:Hp->Prop),Inv X pins σ H s->RelV o ov->RelV i iv->RelV v u->t o i v H Q ->
    wpAny (model X.prog X.w) X.A (setItem ov iv u) (fun _ s'=>∃ H',Inv X pins σ H' s'/\Q H') X.xe s
section
variable {X:Cx} {pos:Pos}
noncomputable def gName (i:Nat):TG:=fun v σ H Q=>Q (σ.set i (some v)) H
theorem pg_name {i:Nat} {x:Str} (hN:X.N.Nodup) (hi:X.N[i]? = some x) (hx:Loc X.env.scope x) (hf:X.fn x = true\/X.env.scope.names.lookup x = some .local:=by first | exact .inl rfl | exact .inr rfl | assumption):PG X (.Name x pos) (gName i):=by
  intro pins s σ H v u Q I r h
  exact wpAny_assign_Name (store_ok I hN hi hx r (fun s' I'=>⟨_,H,I',h⟩) hf)
noncomputable def gNil:TGs:=fun vs σ H Q=>vs = []/\Q σ H
noncomputable def gCons (t:TG) (u:TGs):TGs:=fun vs σ H Q=>∃ v r,vs = v :: r/\t v σ H fun σ' H'=>u r σ' H' Q
theorem pgs_nil:PGs X [] gNil:=by
  intro pins s σ H vs us Q I r h
  obtain ⟨e,h⟩:=h
  subst e
  cases r
  exact assignInOrder_nil ⟨σ,H,I,h⟩
theorem pgs_cons {e:Expr} {es:List Expr} {t:TG} {u:TGs} (h1:PG X e t) (h2:PGs X es u)
    (hs:(assignEach (e :: es) X.env).map (·.2) = assign e X.env :: (assignEach es X.env).map (·.2):=by rfl):PGs X (e :: es) (gCons t u):=by
  intro pins s σ H vs us Q I r h
  obtain ⟨v,vr,e1,h⟩:=h
  subst e1
  cases r with
  | cons r rr =>
    rw [hs]
    refine assignInOrder_cons (thn (h1 pins s σ H _ _ _ I r h) fun _ s1 ⟨σ1,H1,I1,q1⟩=>?_)
    exact h2 pins s1 σ1 H1 _ _ Q I1 rr q1
noncomputable def gTup (K:PySem.W.Frag) (n:Nat) (t:TGs):TG:=fun v σ H Q=>∃ a xs,v = .ref a/\SqT K H a xs/\xs.length = n/\t xs σ H Q
theorem pg_tup {es:List Expr} {k:Nat} {t:TGs} {n:Nat} (hc:X.calm = true) (h:PGs X es t)
    (hn:(assignEach es X.env).length = n:=by rfl) (hst:(assignEach es X.env).findIdx? (·.1) = none:=by rfl):PG X (.Tuple es k pos) (gTup X.K n t):=by
  intro pins s σ H v u Q I r hw
  obtain ⟨a,xs,e1,hq,hl,hw⟩:=hw
  subst e1
  cases r
  obtain ⟨its,rv,ht,hz⟩:=I.tuple hq
  refine assign_Tuple_tuple (I.ok.hd hc) ht (by simp [hn,<- hl,rv.length]) hst fun h' hx=>?_
  have I1:Inv X pins σ H { s with heap:=h' }:=I.kept (t':=s.toks) fun b o e=>hx b o (Nat.ne_of_lt (Heap.lt_size e)) e
  exact h pins _ σ H xs _ Q I1 (by simpa using rv) hw
noncomputable def gSub (to ti:TE) (t:TSet):TG:=fun v σ H Q=>to σ H fun o H1=>ti σ H1 fun i H2=>t o i v H2 fun H3=>Q σ H3
theorem pg_sub {o i:Expr} {to ti:TE} {t:TSet} (ho:PE X o to) (hi:PE X i ti) (hs:PSet X t)
    (ha:∀ v,assign (.Subscript o i pos) X.env v = (do
      let ov <- holding [v] (eval o X.env)
      let iv <- holding [v,ov] (eval i X.env)
      standAt pos
      holding [v,ov,iv] (setItem ov iv v)
      release [v,ov,iv] []):=by intro _; rfl):PG X (.Subscript o i pos) (gSub to ti t):=by
  intro pins s σ H v u Q I r h
  rw [ha]
  refine wpAny_bind (wpAny_holding (thn (ho pins s σ H _ I h) fun ov s1 ⟨x,H1,I1,r1,q1⟩=>?_))
  refine wpAny_bind (wpAny_holding (thn (hi pins s1 σ H1 _ I1 q1) fun iv s2 ⟨y,H2,I2,r2,q2⟩=>?_))
  refine wpAny_bind (wpAny_standAt (wpAny_bind (wpAny_holding (thn (hs pins s2 σ H2 x y v ov iv u _ I2 r1 r2 r q2) fun _ s3 ⟨H3,I3,q3⟩=>?_))))
  exact wpAny_release ⟨σ,H3,I3,q3⟩
noncomputable def tAsg (te:TE) (g:TG):TS:=fun D σ H=>te σ H fun x H1=>g x σ H1 D.nx
theorem ps_asg {tg e:Expr} {te:TE} {g:TG} (he:PE X e te) (hg:PG X tg g) (hs:swapsWithSole [tg] e pos.line X.env = pure false:=by rfl) (hw:swappedStores [tg] e X.env = pure none:=by rfl)
    (h1:(assignEach [tg] X.env).map (·.2) = [assign tg X.env]:=by rfl):PS X (.Assign [tg] e pos) (tAsg te g):=by
  intro pins s σ H D I h
  refine wpAny_Assign_stores (thn (he pins s σ H _ I h) fun v s1 ⟨x,H1,I1,r1,q1⟩=>?_) hs hw
  rw [h1]
  exact thn (hg pins s1 σ H1 x v _ I1 r1 q1) fun _ s2 q=>q
theorem ps_set {i:Nat} {x:Str} {e:Expr} {te:TE} {pos':Pos} (hN:X.N.Nodup) (hi:X.N[i]? = some x) (hx:Loc X.env.scope x) (he:PE X e te) (hs:swapsWith e (some (.Name x pos')) pos.line X.env = pure false:=by rfl) (hf:X.fn x = true\/X.env.scope.names.lookup x = some .local:=by first | exact .inl rfl | exact .inr rfl | assumption) :
    PS X (.Assign [.Name x pos'] e pos) (tAsg te (gName i)):=by
  intro pins s σ H D I h
  refine wpAny_Assign_Name (thn (he pins s σ H _ I h) fun v s1 ⟨y,H1,I1,r1,q1⟩=>?_) hs
  exact store_ok I1 hN hi hx r1 (fun s2 I2=>⟨_,H1,I2,q1⟩) hf
end
section
variable {X:Cx} {pos:Pos}
noncomputable def tWhile (c:TT) (tb:TS):TS:=fun D σ H=>∃ W:Nat->St->Hp->Prop,(∃ m,W m σ H)/\∀ m σ H,W m σ H ->
  c σ H fun b H1=>if b = true then ∃ N:St->Hp->Prop,(∀ σ' H',N σ' H'->∃ m',m' < m/\W m' σ' H')/\tb { D with nx:=N,ct:=N,bk:=D.nx } σ H1 else D.nx σ H1
theorem ps_while {c:Expr} {body:List Stmt} {tc:TT} {tb:TS} (hp:PassesOwn (model X.prog X.w) X.A X.env X.xe) (hc:PT X c tc) (hb:PSs X body tb):PS X (.While c body [] pos) (tWhile tc tb):=by
  intro pins s σ H D I h
  obtain ⟨W,⟨m0,w0⟩,turn⟩:=h
  refine wpAny_While (codeAny_whileLoop (fun n s'=>∃ σ' H',Inv X pins σ' H' s'/\W n σ' H') ?_ m0 ⟨σ,H,I,w0⟩)
  rintro n s1 ⟨σ1,H1,I1,w1⟩
  refine wpAny_passesOwn hp (thn (hc pins s1 σ1 H1 _ I1 (turn n σ1 H1 w1)) fun b s2 ⟨H2,I2,q2⟩=>?_)
  cases b with
  | true =>
    obtain ⟨N,hN,q2⟩:=q2
    rw [if_pos rfl]
    refine wpAny_passesOwn hp (thn (hb pins s2 σ1 H2 _ I2 q2) fun f s3 q3=>?_)
    cases f with
    | next =>
      obtain ⟨σ3,H3,I3,n3⟩:=q3
      obtain ⟨m',hm,w3⟩:=hN σ3 H3 n3
      exact ⟨m',hm,σ3,H3,I3,w3⟩
    | cont =>
      obtain ⟨σ3,H3,I3,n3⟩:=q3
      obtain ⟨m',hm,w3⟩:=hN σ3 H3 n3
      exact ⟨m',hm,σ3,H3,I3,w3⟩
    | brk=>exact q3
    | ret v=>exact q3
  | false =>
    rw [if_neg Bool.false_ne_true]
    exact wpAny_execs_nil ⟨σ1,H2,I2,q2⟩
end
structure It where
  go:Nat->Hp->Prop
  yld:Nat->Hp->V->Hp->Prop
  stop:Nat->Hp->Prop
noncomputable def FpOk (X:Cx) (pins:List (Addr × Obj)) (H:Hp) (b:Addr):Prop :=
  H b = none/\b ≠ X.env.locals/\b ∉ X.fs/\(b ∈ X.ex\/X.s₀.heap.objs.size<=b)/\(∀ x c,X.env.cells.lookup x = some c->c ≠ b)/\∀ p ∈ X.pn ++ pins,p.1 ≠ b
theorem Inv.fpOk {X:Cx} {pins:List (Addr × Obj)} {σ:St} {H H':Hp} {s:Shared} {b:Addr} (I:Inv X pins σ H s) (hb:s.heap.objs.size<=b) (hn:H' b = none):FpOk X pins H' b:=by
  refine ⟨hn,Nat.ne_of_gt (Nat.lt_of_lt_of_le I.lt hb),I.nofs hb,.inr (Nat.le_trans I.sz hb),fun x c e z=>?_,fun p hp z=>?_⟩
  · obtain ⟨v,q⟩:=I.cell x c e
    exact absurd (Nat.lt_of_lt_of_le q.lt (by rw [z]; exact hb)) (Nat.lt_irrefl _)
  · exact absurd (Nat.lt_of_lt_of_le (Heap.lt_size (I.pin p hp).1) (by rw [z]; exact hb)) (Nat.lt_irrefl _)
structure Turn (P:Program) (w:World) (K:PySem.W.Frag) (tg:Expr) (J:It) (fp:List Addr) (it:Addr) (tn:Nat->Heap->Prop):Prop where
  mem:it ∈ fp
  obj:∀ i h,tn i h->∀ b ∈ fp,∃ o,h.get? b = some o/\∀ v,o.data ≠ .cell v
  keep:∀ i h h',tn i h->(∀ b ∈ fp,∀ o,h.get? b = some o->h'.get? b = some o)->tn i h'
  item:∀ (X:Cx),X.prog = P->X.w = w->X.K = K->X.calm = true->∀ (i:Nat) (pins:List (Addr × Obj)) (s:Shared) (σ:St) (H:Hp) (E:Value->Shared->Prop),Inv X pins σ H s->(∀ b ∈ fp,FpOk X pins H b)->tn i s.heap->J.go i H ->
    wpAny (model P w) X.A (pyNext (.ref it)) (fun r s1=>∃ u,r = some u /\
      wpAny (model P w) X.A (letOwnedTupleGo tg (.ref it) u) (fun _ s2=>∃ x H',Inv X pins σ H' s2/\RelV x u/\J.yld i H x H'/\tn (i + 1) s2.heap/\∀ b ∈ fp,H' b = none) E s1) E s
  done:∀ (X:Cx),X.prog = P->X.w = w->X.K = K->X.calm = true->∀ (i:Nat) (pins:List (Addr × Obj)) (s:Shared) (σ:St) (H:Hp) (E:Value->Shared->Prop),Inv X pins σ H s->(∀ b ∈ fp,FpOk X pins H b)->tn i s.heap->J.stop i H ->
    wpAny (model P w) X.A (pyNext (.ref it)) (fun r s1=>r = none/\Inv X pins σ H s1) E s
  self:∀ (A:Around) (i:Nat) (s:Shared) (Q:Value->Shared->Prop) (E:Value->Shared->Prop),tn i s.heap->Q (.ref it) s->wpAny (model P w) A (pyIter (.ref it)) Q E s
noncomputable abbrev TI:=St->Hp->(It->Hp->Prop)->Prop
noncomputable def PIE (X:Cx) (pins:List (Addr × Obj)) (σ:St) (tg:Expr) (R:It->Hp->Prop) (itv:Value) (s2:Shared):Prop :=
  ∃ (it:Addr) (fp:List Addr) (tn:Nat->Heap->Prop) (J:It) (H':Hp),itv = .ref it/\Inv X pins σ H' s2/\Turn X.prog X.w X.K tg J fp it tn/\tn 0 s2.heap/\(∀ b ∈ fp,FpOk X pins H' b)/\R J H'
noncomputable def PI (X:Cx) (tg iter:Expr) (wi:TI):Prop :=
  ∀ (pins:List (Addr × Obj)) (s:Shared) (σ:St) (H:Hp) (R:It->Hp->Prop),Inv X pins σ H s->wi σ H R ->
    wpAny (model X.prog X.w) X.A (eval iter X.env) (fun v s1=>wpAny (model X.prog X.w) X.A (pyIter v) (PIE X pins σ tg R) X.xe s1) X.xe s
theorem go_of {M:Model} {A:Around} {E:Value->Shared->Prop} {s:Shared} {tg:Expr} {it:Addr} {u:Value} {o:Obj} {n:String} {vs:Array Value} {Q:Unit->Shared->Prop} (ho:s.heap.get? it = some o) (hc:o.cls = .type n) (hd:o.data = .fields vs)
    (hn:["enumerate","zip","dict_itemiterator","dict_reverseitemiterator","odict_iterator","itertools.zip_longest","itertools.pairwise"].contains n = false) (hQ:Q () s):wpAny M A (letOwnedTupleGo tg (.ref it) u) Q E s:=by
  unfold letOwnedTupleGo
  cases tg <;> first
    | exact wpAny_pure hQ
    | (cases u <;> first
        | exact wpAny_pure hQ
        | (refine wpAny_bind (wpAny_load ho ?_)
           rw [hc,hd]
           show wpAny M A (if (["enumerate","zip","dict_itemiterator","dict_reverseitemiterator","odict_iterator","itertools.zip_longest","itertools.pairwise"].contains n && vs[0]? == some (rawInt _)) = true then _ else _) Q E s
           rw [if_neg (by intro h; rw [hn,Bool.false_and] at h; cases h)]
           exact wpAny_pure hQ))
noncomputable def Itl (K:PySem.W.Frag) (a:Addr):It :=
  ⟨fun i H=>∃ xs x,SqL K H a xs/\xs[i]? = some x,fun i H x H'=>H' = H/\∀ xs,SqL K H a xs->xs[i]? = some x,fun i H=>∃ xs,SqL K H a xs/\xs.length<=i⟩
noncomputable def Itt (K:PySem.W.Frag) (a:Addr):It :=
  ⟨fun i H=>∃ xs x,SqT K H a xs/\xs[i]? = some x,fun i H x H'=>H' = H/\∀ xs,SqT K H a xs->xs[i]? = some x,fun i H=>∃ xs,SqT K H a xs/\xs.length<=i⟩
noncomputable def Itr (lo:Int) (n:Nat):It:=⟨fun i _=>i < n,fun i H x H'=>H' = H/\x = .int (lo + i),fun i _=>n<=i⟩
theorem turn_list {P:Program} {w:World} {K:PySem.W.Frag} {tg:Expr} (a it:Addr):Turn P w K tg (Itl K a) [it] it (fun i h=>h.IsListIter it a i) where
  mem:=by simp
  obj:=fun i h st b hb=>by
    have e:b = it:=by simpa using hb
    subst e
    obtain ⟨o,e,c,d⟩:=st
    exact ⟨o,e,fun v z=>by rw [d] at z; cases z⟩
  keep:=fun i h h' st k=>st.at fun o e=>k it (by simp) o e
  item:=by
    intro X hP hw hK hc i pins s σ H E I hf st hg
    subst hP hw hK
    obtain ⟨xs,x,hq,hx⟩:=hg
    obtain ⟨its,rv,p,hz⟩:=I.list hq
    obtain ⟨u,hu,ru⟩:=rv.get hx
    obtain ⟨f0,f1,f2,f3,f4,f5⟩:=hf it (by simp)
    refine wpAny_pyNext_list_item st p.isList (x:=u) (by simpa using hu) fun h' st' sb=>?_
    have I1:Inv X pins σ H { s with heap:=h' }:=I.turned (t':=s.toks) (fun b o hb e=>(sb.2 b hb).trans e) f0 f1 f3 f4 f5
    obtain ⟨o,e,c,d⟩:=id st'
    exact ⟨u,rfl,go_of (s:={ s with heap:=h' }) e c d (by decide) ⟨x,H,I1,ru,⟨rfl,fun ys hy=>by rw [I.list_inj hy hq]; exact hx⟩,st',fun b hb=>(hf b hb).1⟩⟩
  done:=by
    intro X hP hw hK hc i pins s σ H E I hf st hg
    subst hP hw hK
    obtain ⟨xs,hq,hx⟩:=hg
    obtain ⟨its,rv,p,hz⟩:=I.list hq
    obtain ⟨f0,f1,f2,f3,f4,f5⟩:=hf it (by simp)
    have hl:=rv.length
    exact wpAny_pyNext_list_end (I.ok.hd hc) st p.isList (by simp; omega) fun h' eb=>⟨rfl,I.turned (t':=s.toks) (fun b o hb e=>eb b o hb e) f0 f1 f3 f4 f5⟩
  self:=fun _ _ _ _ _ st h=>wpAny_pyIter_listiter st h
theorem turn_tuple {P:Program} {w:World} {K:PySem.W.Frag} {tg:Expr} (a it:Addr):Turn P w K tg (Itt K a) [it] it (fun i h=>h.IsTupleIter it a i) where
  mem:=by simp
  obj:=fun i h st b hb=>by
    have e:b = it:=by simpa using hb
    subst e
    obtain ⟨o,e,c,d⟩:=st
    exact ⟨o,e,fun v z=>by rw [d] at z; cases z⟩
  keep:=fun i h h' st k=>st.at fun o e=>k it (by simp) o e
  item:=by
    intro X hP hw hK hc i pins s σ H E I hf st hg
    subst hP hw hK
    obtain ⟨xs,x,hq,hx⟩:=hg
    obtain ⟨its,rv,p,hz⟩:=I.tuple hq
    obtain ⟨u,hu,ru⟩:=rv.get hx
    obtain ⟨f0,f1,f2,f3,f4,f5⟩:=hf it (by simp)
    refine wpAny_pyNext_tuple_item st (show s.heap.IsTuple a its.toArray from p) (x:=u) (by simpa using hu) fun h' st' sb=>?_
    have I1:Inv X pins σ H { s with heap:=h' }:=I.turned (t':=s.toks) (fun b o hb e=>(sb.2 b hb).trans e) f0 f1 f3 f4 f5
    obtain ⟨o,e,c,d⟩:=id st'
    exact ⟨u,rfl,go_of (s:={ s with heap:=h' }) e c d (by decide) ⟨x,H,I1,ru,⟨rfl,fun ys hy=>by rw [I.tuple_inj hy hq]; exact hx⟩,st',fun b hb=>(hf b hb).1⟩⟩
  done:=by
    intro X hP hw hK hc i pins s σ H E I hf st hg
    subst hP hw hK
    obtain ⟨xs,hq,hx⟩:=hg
    obtain ⟨its,rv,p,hz⟩:=I.tuple hq
    obtain ⟨f0,f1,f2,f3,f4,f5⟩:=hf it (by simp)
    have hl:=rv.length
    exact wpAny_pyNext_tuple_end (I.ok.hd hc) st (show s.heap.IsTuple a its.toArray from p) (by simp; omega) fun h' eb=>⟨rfl,I.turned (t':=s.toks) (fun b o hb e=>eb b o hb e) f0 f1 f3 f4 f5⟩
  self:=fun _ _ _ _ _ st h=>wpAny_pyIter_tupleiter st h
theorem turn_range {P:Program} {w:World} {K:PySem.W.Frag} {tg:Expr} (it:Addr) (lo:Int) (n:Nat):Turn P w K tg (Itr lo n) [it] it (fun i h=>IsRangeIter h it (lo + (i:Nat) * 1) ((n:Int) - (i:Nat)) 1) where
  mem:=by simp
  obj:=fun i h st b hb=>by
    have e:b = it:=by simpa using hb
    subst e
    exact ⟨_,st,fun v z=>by
      have z':Data.fields _ = Data.cell v:=z
      cases z'⟩
  keep:=fun i h h' st k=>k it (by simp) _ st
  item:=by
    intro X hP hw hK hc i pins s σ H E I hf st hg
    subst hP hw hK
    obtain ⟨f0,f1,f2,f3,f4,f5⟩:=hf it (by simp)
    have W:=Walks.range (prog:=X.prog) (w:=X.w) (I.ok.hd hc) it lo 1 n
    refine W.item i s _ _ hg st fun v h' tk hv st' kk=>?_
    obtain ⟨t,rfl⟩:=hv
    have I1:Inv X pins σ H { s with heap:=h',toks:=tk }:=I.turned (fun b o hb e=>kk b o (by simpa using hb) e) f0 f1 f3 f4 f5
    refine ⟨_,rfl,go_of (s:={ s with heap:=h',toks:=tk }) (n:="range_iterator") st' rfl rfl (by decide) ⟨.int (lo + i),H,I1,⟨t,?_⟩,⟨rfl,rfl⟩,st',fun b hb=>(hf b hb).1⟩⟩
    rw [Int.mul_one]
  done:=by
    intro X hP hw hK hc i pins s σ H E I hf st hg
    subst hP hw hK
    obtain ⟨f0,f1,f2,f3,f4,f5⟩:=hf it (by simp)
    exact wpAny_pyNext_range_end (I.ok.hd hc) st (by have:n<=i:=hg; omega) fun h' eb=>⟨rfl,I.turned (t':=s.toks) (fun b o hb e=>eb b o hb e) f0 f1 f3 f4 f5⟩
  self:=fun _ _ _ _ _ st h=>wpAny_pyIter_rangeiter st h
end L2
namespace L2
open PySem PySem.Spec PyProof.Rows
section
variable {X:Cx} {tg:Expr}
theorem range_it {pins:List (Addr × Obj)} {σ:St} {H:Hp} {s:Shared} {R:It->Hp->Prop} {E:Value->Shared->Prop} {lo hi:Int} {t u v:Tok} {tk:Nat} (I:Inv X pins σ H s) (h1:-(2 ^ 62)<=lo) (h2:lo < 2 ^ 62) (h3:-(2 ^ 62)<=hi) (h4:hi < 2 ^ 62)
    (q:R (Itr lo (hi - lo).toNat) H):wpAny (model X.prog X.w) X.A (pyIter (.ref s.heap.objs.size)) (PIE X pins σ tg R) E { s with heap:=s.heap.push { cls:=.type "range",data:=.fields #[.int lo t,.int hi u,.int 1 v] },toks:=tk }:=by
  refine wpAny_pyIter_range (IsRange.new ..) (small_one h1 h2 h3 h4) ?_
  have I1:Inv X pins σ H { s with heap:=s.heap.push { cls:=.type "range",data:=.fields #[.int lo t,.int hi u,.int 1 v] },toks:=tk }:=I.kept fun b o e=>Heap.get?_push_of_some _ e
  refine ⟨(s.heap.push { cls:=.type "range",data:=.fields #[.int lo t,.int hi u,.int 1 v] }).objs.size,[(s.heap.push { cls:=.type "range",data:=.fields #[.int lo t,.int hi u,.int 1 v] }).objs.size],_,_,H,rfl,
    I1.kept (t':=tk) fun b o e=>Heap.get?_push_of_some _ e,turn_range _ lo (hi - lo).toNat,?_,fun b hb=>?_,q⟩
  · have e1:lo + ((0:Nat):Int) * 1 = lo:=by simp
    have e2:(((hi - lo).toNat:Nat):Int) - ((0:Nat):Int) = Builtin.Range.rangeSize lo hi 1:=by rw [rangeSize_one]; split <;> omega
    show IsRangeIter _ _ (lo + ((0:Nat):Int) * 1) ((((hi - lo).toNat:Nat):Int) - ((0:Nat):Int)) 1
    rw [e1,e2]
    exact Heap.get?_push_size _ rfl
  · have e:b = (s.heap.push { cls:=.type "range",data:=.fields #[.int lo t,.int hi u,.int 1 v] }).objs.size:=by simpa using hb
    subst e
    exact I1.fpOk (Nat.le_refl _) (I1.hok.fresh (Nat.le_refl _))
noncomputable def iRng1 (ta:TA):TI:=fun σ H R=>ta σ H fun vs H1=>∃ j:Int,vs = [.int j]/\-(2 ^ 62)<=j/\j < 2 ^ 62/\R (Itr 0 j.toNat) H1
theorem pi_range1 {a:Expr} {ta:TA} {p pos:Pos} (hg:Gl X "range") (hm:X.mg "range" = none) (ha:PA X [a] ta) (hs:starEach [a] X.env = [(false,eval a X.env)]:=by rfl):PI X tg (.Call (.Name "range" p) [a] [] pos) (iRng1 ta):=by
  intro pins s σ H R I h
  refine Call_ (ld_blt I hg hm boot_range (PyProof.Rows.callWith_type1 (thn (ha pos pins s σ H _ I h) fun us s1 ⟨vs,H1,I1,r1,q1⟩=>?_) hs rfl))
  obtain ⟨j,e,q1,q2,q⟩:=q1
  subst e
  cases r1 with
  | cons r rr =>
    cases rr
    obtain ⟨t,rfl⟩:=r
    exact call_range_1 (range_it I1 (by omega) (by omega) q1 q2 (by simpa using q))
noncomputable def tFor (wi:TI) (g:TG) (tb:TS):TS:=fun D σ H=>wi σ H fun J H1=>∃ W:Nat->Nat->St->Hp->Prop,(∃ m,W 0 m σ H1)/\∀ i m σ H,W i m σ H ->
  (J.stop i H/\D.nx σ H)\/(J.go i H/\∃ N:St->Hp->Prop,(∀ σ' H',N σ' H'->∃ m',m' < m/\W (i + 1) m' σ' H')/\∀ x H',J.yld i H x H'->g x σ H' fun σ2 H2=>tb { D with nx:=N,ct:=N,bk:=D.nx } σ2 H2)
noncomputable def pinsAt (fp:List Addr) (h:Heap):List (Addr × Obj):=fp.filterMap fun b=>(h.get? b).map fun o=>(b,o)
theorem mem_pinsAt {fp:List Addr} {h:Heap} {b:Addr} {o:Obj} (hb:b ∈ fp) (e:h.get? b = some o):(b,o) ∈ pinsAt fp h:=List.mem_filterMap.mpr ⟨b,hb,by rw [e]; rfl⟩
theorem of_pinsAt {fp:List Addr} {h:Heap} {p:Addr × Obj} (hp:p ∈ pinsAt fp h):p.1 ∈ fp/\h.get? p.1 = some p.2:=by
  obtain ⟨b,hb,e⟩:=List.mem_filterMap.mp hp
  cases q:h.get? b with
  | none=>rw [q] at e; cases e
  | some o =>
    rw [q] at e
    have e':(b,o) = p:=Option.some.inj e
    subst e'
    exact ⟨hb,q⟩
theorem Inv.pinned {pins:List (Addr × Obj)} {σ:St} {H:Hp} {s:Shared} {fp:List Addr} (I:Inv X pins σ H s) (hf:∀ b ∈ fp,FpOk X pins H b) (ho:∀ b ∈ fp,∃ o,s.heap.get? b = some o/\∀ v,o.data ≠ .cell v):Inv X (pins ++ pinsAt fp s.heap) σ H s :=
  I.pins_of fun p hp=>(List.mem_append.mp hp).elim (fun z=>I.pin p (List.mem_append_right _ z)) fun z=>by
    obtain ⟨hb,e⟩:=of_pinsAt z
    obtain ⟨f0,f1,f2,_⟩:=hf p.1 hb
    obtain ⟨o,e',d⟩:=ho p.1 hb
    rw [e] at e'; cases e'
    exact ⟨e,f0,f1,f2,d⟩
theorem Inv.unpinned {pins pl:List (Addr × Obj)} {σ:St} {H:Hp} {s:Shared} (I:Inv X (pins ++ pl) σ H s):Inv X pins σ H s:=I.pins_of fun p hp=>I.pin p (List.mem_append_right _ (List.mem_append_left _ hp))
theorem ps_for {iter:Expr} {body:List Stmt} {wi:TI} {g:TG} {tb:TS} {pos:Pos} (hp:PassesOwn (model X.prog X.w) X.A X.env X.xe) (hc:X.calm = true) (hi:PI X tg iter wi) (hg:PG X tg g) (hb:PSs X body tb)
    (hs:∀ x,foldedSetIterable iter X.env x = pure x:=by intro _; rfl):PS X (.For tg iter body [] pos) (tFor wi g tb):=by
  intro pins s σ H D I h
  refine wpAny_For (thn (hi pins s σ H _ I h) fun v s1 h1=>thn h1 fun itv s2 h2=>?_) hs
  obtain ⟨it,fp,tn,J,H2,e,I2,T,st2,f2,W,⟨m0,w0⟩,turn⟩:=h2
  subst e
  have stat:∀ {H':Hp},(∀ b ∈ fp,H' b = none)->∀ b ∈ fp,FpOk X pins H' b:=fun hn b hb=>⟨hn b hb,(f2 b hb).2⟩
  refine codeAny_forLoop_any (fun n s'=>∃ i σ' H',Inv X pins σ' H' s'/\tn i s'.heap/\(∀ b ∈ fp,H' b = none)/\W i n σ' H') ?_ m0 ⟨0,σ,H2,I2,st2,fun b hb=>(f2 b hb).1,w0⟩
  rintro n s3 ⟨i,σ3,H3,I3,st3,fr3,w3⟩
  rcases turn i n σ3 H3 w3 with ⟨stop,qn⟩ | ⟨go,N,hN,step⟩
  · refine wpAny_passesOwn hp (thn (T.done X rfl rfl rfl hc i pins s3 σ3 H3 X.xe I3 (stat fr3) st3 stop) fun r s4 ⟨hr,I4⟩=>?_)
    subst hr
    exact wpAny_execs_nil ⟨σ3,H3,I4,qn⟩
  · refine wpAny_passesOwn hp (thn (T.item X rfl rfl rfl hc i pins s3 σ3 H3 X.xe I3 (stat fr3) st3 go) fun r s4 ⟨u,hr,h4⟩=>?_)
    subst hr
    refine wpAny_passesOwn hp (thn h4 fun _ s5 ⟨x,H5,I5,r5,y5,st5,fr5⟩=>?_)
    have I5':=I5.pinned (stat fr5) (T.obj _ _ st5)
    refine wpAny_passesOwn hp (thn (hg _ s5 σ3 H5 x u _ I5' r5 (step x H5 y5)) fun _ s6 ⟨σ6,H6,I6,q6⟩=>?_)
    refine wpAny_passesOwn hp (thn (hb _ s6 σ6 H6 _ I6 q6) fun f s7 q7=>?_)
    have again:∀ {σ7:St} {H7:Hp},Inv X (pins ++ pinsAt fp s5.heap) σ7 H7 s7->N σ7 H7->∃ m,m < n/\∃ i σ' H',Inv X pins σ' H' s7/\tn i s7.heap/\(∀ b ∈ fp,H' b = none)/\W i m σ' H':=fun {σ7 H7} I7 n7=>by
      obtain ⟨m',hm,w7⟩:=hN σ7 H7 n7
      refine ⟨m',hm,i + 1,σ7,H7,I7.unpinned,T.keep _ _ _ st5 fun b hb o e=>(I7.pin (b,o) (List.mem_append_right _ (List.mem_append_right _ (mem_pinsAt hb e)))).1,fun b hb=>?_,w7⟩
      obtain ⟨o,e,d⟩:=T.obj _ _ st5 b hb
      exact (I7.pin (b,o) (List.mem_append_right _ (List.mem_append_right _ (mem_pinsAt hb e)))).2.1
    cases f with
    | next=>obtain ⟨σ7,H7,I7,n7⟩:=q7; exact again I7 n7
    | cont=>obtain ⟨σ7,H7,I7,n7⟩:=q7; exact again I7 n7
    | brk=>obtain ⟨σ7,H7,I7,q7⟩:=q7; exact ⟨σ7,H7,I7.unpinned,q7⟩
    | ret v=>obtain ⟨x7,σ7,H7,I7,r7,q7⟩:=q7; exact ⟨x7,σ7,H7,I7.unpinned,r7,q7⟩
end
end L2
namespace L2
open PySem PySem.Spec PyProof.Rows
noncomputable abbrev R2:=V->V->Hp->VK->Prop
noncomputable def OpR (X:Cx) (f:Value->Value->Sem Value) (r:R2):Prop :=
  ∀ (pins:List (Addr × Obj)) (s:Shared) (σ:St) (H:Hp) (x y:V) (v u:Value) (Q:VK),Inv X pins σ H s->RelV x v->RelV y u->r x y H Q ->
    wpAny (model X.prog X.w) X.A (f v u) (EP X pins σ Q) X.xe s
noncomputable def UnR (X:Cx) (f:Value->Sem Value) (r:V->Hp->VK->Prop):Prop :=
  ∀ (pins:List (Addr × Obj)) (s:Shared) (σ:St) (H:Hp) (x:V) (v:Value) (Q:VK),Inv X pins σ H s->RelV x v->r x H Q ->
    wpAny (model X.prog X.w) X.A (f v) (EP X pins σ Q) X.xe s
noncomputable def CallR (X:Cx) (f:Value) (r:List V->Hp->VK->Prop):Prop :=
  ∀ (pins:List (Addr × Obj)) (s:Shared) (σ:St) (H:Hp) (xs:List V) (us:List Value) (Q:VK),Inv X pins σ H s->Vals xs us->r xs H Q ->
    wpAny (model X.prog X.w) X.A (call f us) (EP X pins σ Q) X.xe s
noncomputable def tOp (r:R2) (ta tb:TE):TE:=fun σ H Q=>ta σ H fun x H1=>tb σ H1 fun y H2=>r x y H2 Q
noncomputable def tUn (r:V->Hp->VK->Prop) (ta:TE):TE:=fun σ H Q=>ta σ H fun x H1=>r x H1 Q
noncomputable def rI (C:Int->Int->Prop) (g:Int->Int->V):R2:=fun x y H Q=>∃ i j,x = .int i/\y = .int j/\C i j/\Q (g i j) H
noncomputable def rI0 (g:Int->Int->V):R2:=fun x y H Q=>∃ i j,x = .int i/\y = .int j/\Q (g i j) H
noncomputable def rU (g:Int->V):V->Hp->VK->Prop:=fun x H Q=>∃ i,x = .int i/\Q (g i) H
section
variable {X:Cx} {a b c:Expr} {ta tb tc:TE} {pos:Pos}
theorem binT (ha:PE X a ta) (hb:PE X b tb) {pins:List (Addr × Obj)} {s:Shared} {σ:St} {H:Hp} {R:V->V->Hp->Prop} (I:Inv X pins σ H s)
    (h:ta σ H fun x H1=>tb σ H1 fun y H2=>R x y H2) {Q:Value->Shared->Prop} {f:Value->Value->Sem Value}
    (hf:∀ v u s2 x y H2,Inv X pins σ H2 s2->RelV x v->RelV y u->R x y H2->wpAny (model X.prog X.w) X.A (f v u) Q X.xe s2) :
    wpAny (model X.prog X.w) X.A (eval a X.env) (fun v s₁=>wpAny (model X.prog X.w) X.A (eval b X.env) (fun u s₂=>wpAny (model X.prog X.w) X.A (f v u) Q X.xe s₂) X.xe s₁) X.xe s:=by
  refine thn (ha pins s σ H _ I h) fun v s1 ⟨x,H1,I1,r1,q1⟩=>?_
  refine thn (hb pins s1 σ H1 _ I1 q1) fun u s2 ⟨y,H2,I2,r2,q2⟩=>?_
  exact hf v u s2 x y H2 I2 r1 r2 q2
theorem pe_op {op:Operator} {r:R2} (ho:OpR X (binaryOp op) r) (ha:PE X a ta) (hb:PE X b tb):PE X (.BinOp a op b pos) (tOp r ta tb):=by
  intro pins s σ H Q I h
  exact wpAny_BinOp (binT ha hb I h fun v u s2 x y H2 I2 rx ry q=>ho pins s2 σ H2 x y v u Q I2 rx ry q)
theorem pe_un {op:UnaryOp} {r:V->Hp->VK->Prop} (ho:UnR X (unaryOp op) r) (ha:PE X a ta):PE X (.UnaryOp op a pos) (tUn r ta):=by
  intro pins s σ H Q I h
  exact UnaryOp_ (thn (ha pins s σ H _ I h) fun v s1 ⟨x,H1,I1,r1,q1⟩=>ho pins s1 σ H1 x v Q I1 r1 q1)
theorem opI {f:Value->Value->Sem Value} {C:Int->Int->Prop} {g:Int->Int->Int}
    (rule:∀ (i j:Int) (t u:Tok) (s:Shared) (Q:Value->Shared->Prop) (E:Value->Shared->Prop),C i j->Q (.int (g i j) s.toks) { s with toks:=s.toks + 1 }->wpAny (model X.prog X.w) X.A (f (.int i t) (.int j u)) Q E s) :
    OpR X f (rI C fun i j=>.int (g i j)):=by
  intro pins s σ H x y v u Q I rx ry h
  obtain ⟨i,j,rfl,rfl,hc,q⟩:=h
  obtain ⟨t,rfl⟩:=rx
  obtain ⟨t',rfl⟩:=ry
  exact rule i j t t' s _ _ hc ⟨.int (g i j),H,I.tok _,⟨_,rfl⟩,q⟩
theorem opI0 {f:Value->Value->Sem Value} {g:Int->Int->Int}
    (rule:∀ (i j:Int) (t u:Tok) (s:Shared) (Q:Value->Shared->Prop) (E:Value->Shared->Prop),Q (.int (g i j) s.toks) { s with toks:=s.toks + 1 }->wpAny (model X.prog X.w) X.A (f (.int i t) (.int j u)) Q E s) :
    OpR X f (rI0 fun i j=>.int (g i j)):=by
  intro pins s σ H x y v u Q I rx ry h
  obtain ⟨i,j,rfl,rfl,q⟩:=h
  obtain ⟨t,rfl⟩:=rx
  obtain ⟨t',rfl⟩:=ry
  exact rule i j t t' s _ _ ⟨.int (g i j),H,I.tok _,⟨_,rfl⟩,q⟩
theorem opB0 {f:Value->Value->Sem Value} {g:Int->Int->Bool}
    (rule:∀ (i j:Int) (t u:Tok) (s:Shared) (Q:Value->Shared->Prop) (E:Value->Shared->Prop),Q (.bool (g i j)) s->wpAny (model X.prog X.w) X.A (f (.int i t) (.int j u)) Q E s) :
    OpR X f (rI0 fun i j=>.bl (g i j)):=by
  intro pins s σ H x y v u Q I rx ry h
  obtain ⟨i,j,rfl,rfl,q⟩:=h
  obtain ⟨t,rfl⟩:=rx
  obtain ⟨t',rfl⟩:=ry
  exact rule i j t t' s _ _ ⟨.bl (g i j),H,I,rfl,q⟩
noncomputable def CDiv (i j:Int):Prop:=0 < j/\j < 1073741824
noncomputable def CMul (i j:Int):Prop:=(-(2 ^ 64) < i/\i < 2 ^ 64)\/(-(2 ^ 64) < j/\j < 2 ^ 64)
theorem CMul.ok {i j:Int} (h:CMul i j):IntMulOk i j:=by
  rcases h with ⟨h1,h2⟩ | ⟨h1,h2⟩
  · exact .of_left (intBits_le_64 h1 h2)
  · exact .of_right (intBits_le_64 h1 h2)
theorem op_add:OpR X (binaryOp .Add) (rI0 fun i j=>.int (i + j)):=opI0 fun _ _ _ _ _ _ _ q=>add_int q
theorem op_sub:OpR X (binaryOp .Sub) (rI0 fun i j=>.int (i - j)):=opI0 fun _ _ _ _ _ _ _ q=>sub_int q
theorem op_mul:OpR X (binaryOp .Mult) (rI CMul fun i j=>.int (i * j)):=opI fun _ _ _ _ _ _ _ hc q=>mul_int q hc.ok
theorem op_fdiv:OpR X (binaryOp .FloorDiv) (rI CDiv fun i j=>.int (i / j)):=opI fun i j _ _ _ _ _ hc q=>by
  have h1:(0:Int) < j:=hc.1
  have h2:j < 1073741824:=hc.2
  exact floordiv_int (by omega) (by rw [Int.fdiv_eq_ediv_of_nonneg i (by omega)]; exact q) (.inl (PyProof.noPylong_small (by omega)))
theorem op_mod:OpR X (binaryOp .Mod) (rI (fun _ j=>0 < j) fun i j=>.int (i % j)):=opI fun i j _ _ _ _ _ hc q=>by
  have h1:(0:Int) < j:=hc
  exact mod_int' (by omega) (by rw [Int.fmod_eq_emod_of_nonneg i (by omega)]; exact q)
theorem unI {f:Value->Sem Value} {g:Int->Int}
    (rule:∀ (i:Int) (t:Tok) (s:Shared) (Q:Value->Shared->Prop) (E:Value->Shared->Prop),Q (.int (g i) s.toks) { s with toks:=s.toks + 1 }->wpAny (model X.prog X.w) X.A (f (.int i t)) Q E s) :
    UnR X f (rU fun i=>.int (g i)):=by
  intro pins s σ H x v Q I rx h
  obtain ⟨i,rfl,q⟩:=h
  obtain ⟨t,rfl⟩:=rx
  exact rule i t s _ _ ⟨.int (g i),H,I.tok _,⟨_,rfl⟩,q⟩
theorem un_neg:UnR X (unaryOp .USub) (rU fun i=>.int (-i)):=unI fun _ _ _ _ _ q=>neg_int q
end
noncomputable def scal:V->V->Bool
  | .non,.non=>true | .non,.int _=>true | .int _,.non=>true | .non,.bl _=>true | .bl _,.non=>true | .non,.str _=>true | .str _,.non=>true
  | .int _,.int _=>true | .bl _,.bl _=>true | .str _,.str _=>true | .byt _,.byt _=>true
  | .int _,.str _=>true | .str _,.int _=>true | .bl _,.str _=>true | .str _,.bl _=>true
  | _,_=>false
section
variable {X:Cx} {a b c:Expr} {ta tb tc:TE} {pos:Pos}
theorem fin_bl {pins:List (Addr × Obj)} {σ:St} {H:Hp} {s:Shared} {Q:VK} {k k':Bool} (I:Inv X pins σ H s) (q:Q (.bl k) H) (e:k = k'):EP X pins σ Q (.bool k') s:=by
  subst e
  exact ⟨.bl k,H,I,rfl,q⟩
theorem op_lt:OpR X (compareOp .Lt) (rI0 fun i j=>.bl (decide (i < j))):=opB0 fun _ _ _ _ _ _ _ q=>lt_int q
theorem op_le:OpR X (compareOp .LtE) (rI0 fun i j=>.bl (decide (i<=j))):=opB0 fun _ _ _ _ _ _ _ q=>le_int q
theorem op_gt:OpR X (compareOp .Gt) (rI0 fun i j=>.bl (decide (j < i))):=opB0 fun _ _ _ _ _ _ _ q=>gt_int q
theorem op_ge:OpR X (compareOp .GtE) (rI0 fun i j=>.bl (decide (j<=i))):=opB0 fun _ _ _ _ _ _ _ q=>ge_int q
theorem op_isN:OpR X (compareOp .Is) (fun x y H Q=>y = .non/\Q (.bl (decide (x = .non))) H):=by
  intro pins s σ H x y v u Q I rx ry h
  obtain ⟨rfl,q⟩:=h
  cases ry
  refine is_none_gen (fin_bl I q ?_)
  cases x <;> first
    | (cases rx; rfl)
    | (obtain ⟨t,rfl⟩:=rx; rfl)
theorem op_notN:OpR X (compareOp .IsNot) (fun x y H Q=>y = .non/\Q (.bl (!decide (x = .non))) H):=by
  intro pins s σ H x y v u Q I rx ry h
  obtain ⟨rfl,q⟩:=h
  cases ry
  refine isnot_none_gen (fin_bl I q ?_)
  cases x <;> first
    | (cases rx; rfl)
    | (obtain ⟨t,rfl⟩:=rx; rfl)
theorem OpR.or {f:Value->Value->Sem Value} {r r':R2} (h:OpR X f r) (h':OpR X f r'):OpR X f (fun x y H Q=>r x y H Q\/r' x y H Q):=by
  intro pins s σ H x y v u Q I rx ry q
  rcases q with q | q
  · exact h pins s σ H x y v u Q I rx ry q
  · exact h' pins s σ H x y v u Q I rx ry q
theorem nomark (b:Expr) {op:CmpOp} (h:op ≠ .In:=by decide) (h2:op ≠ .NotIn:=by decide):behindInMarks op b = false:=by
  have e1:(op == CmpOp.In) = false:=by cases op <;> first | rfl | exact absurd rfl h
  have e2:(op == CmpOp.NotIn) = false:=by cases op <;> first | rfl | exact absurd rfl h2
  cases b <;> simp [behindInMarks,e1,e2]
theorem pe_cmpR {op:CmpOp} {r:R2} (ho:OpR X (compareOp op) r) (ha:PE X a ta) (hb:PE X b tb) (hm:behindInMarks op b = false):PE X (.Compare a [op] [b] pos) (tOp r ta tb):=by
  intro pins s σ H Q I h
  exact wpAny_Compare1 (binT ha hb I h fun v u s2 x y H2 I2 rx ry q=>ho pins s2 σ H2 x y v u Q I2 rx ry q) hm
noncomputable def tTest (t:TE):TT:=fun σ H Q=>t σ H fun x H'=>∃ k,x = .bl k/\Q k H'
theorem pt_cmpR {op:CmpOp} {r:R2} (ho:OpR X (compareOp op) r) (ha:PE X a ta) (hb:PE X b tb) (hm:behindInMarks op b = false):PT X (.Compare a [op] [b] pos) (tTest (tOp r ta tb)):=by
  intro pins s σ H Q I h
  refine wpAny_isTrue_Compare1 (thn (ha pins s σ H _ I h) fun v s1 ⟨x,H1,I1,r1,q1⟩=>thn (hb pins s1 σ H1 _ I1 q1) fun u s2 ⟨y,H2,I2,r2,q2⟩ =>
    thn (ho pins s2 σ H2 x y v u _ I2 r1 r2 q2) fun c s3 ⟨z,H3,I3,r3,k,e,q3⟩=>?_) hm
  subst e
  cases r3
  exact wpAny_truthy_bool ⟨H3,I3,q3⟩
noncomputable def tChain (r r':R2) (ta tb tc:TE):TE:=fun σ H Q=>ta σ H fun x H1=>tb σ H1 fun y H2=>r x y H2 fun z H3=>∃ k,z = .bl k /\
  (if k = true then tc σ H3 fun w' H4=>r' y w' H4 Q else Q (.bl false) H3)
theorem pe_chain {op op':CmpOp} {r r':R2} (ho:OpR X (compareOp op) r) (ho':OpR X (compareOp op') r') (ha:PE X a ta) (hb:PE X b tb) (hc:PE X c tc)
    (hm:lastMarks [op,op'] [b,c] = false:=by with_unfolding_all rfl):PE X (.Compare a [op,op'] [b,c] pos) (tChain r r' ta tb tc):=by
  intro pins s σ H Q I h
  refine Compare_chain (thn (ha pins s σ H _ I h) fun v s1 ⟨x,H1,I1,r1,q1⟩=>chain_link (thn (hb pins s1 σ H1 _ I1 q1) fun u s2 ⟨y,H2,I2,r2,q2⟩ =>
    thn (ho pins s2 σ H2 x y v u _ I2 r1 r2 q2) fun d s3 ⟨z,H3,I3,r3,k,e,q3⟩=>?_)) hm
  subst e
  cases r3
  refine wpAny_truthy_bool ?_
  cases k with
  | false=>exact ite_ff ⟨.bl false,H3,I3,rfl,q3⟩
  | true=>exact ite_tt (chain_last (thn (hc pins s3 σ H3 _ I3 q3) fun w' s4 ⟨z',H4,I4,r4,q4⟩=>ho' pins s4 σ H4 y z' u w' Q I4 r2 r4 q4))
theorem pt_chain {op op':CmpOp} {r r':R2} (ho:OpR X (compareOp op) r) (ho':OpR X (compareOp op') r') (ha:PE X a ta) (hb:PE X b tb) (hc:PE X c tc)
    (hm:lastMarks [op,op'] [b,c] = false:=by with_unfolding_all rfl):PT X (.Compare a [op,op'] [b,c] pos) (tTest (tChain r r' ta tb tc)):=by
  intro pins s σ H Q I h
  refine isTrue_chain (thn (ha pins s σ H _ I h) fun v s1 ⟨x,H1,I1,r1,q1⟩=>test_link (thn (hb pins s1 σ H1 _ I1 q1) fun u s2 ⟨y,H2,I2,r2,q2⟩ =>
    thn (ho pins s2 σ H2 x y v u _ I2 r1 r2 q2) fun d s3 ⟨z,H3,I3,r3,k,e,q3⟩=>?_)) hm
  subst e
  cases r3
  refine wpAny_truthy_bool ?_
  cases k with
  | false =>
    obtain ⟨k',e',q'⟩:=q3
    cases e'
    exact ite_ff ⟨H3,I3,q'⟩
  | true =>
    refine ite_tt (test_last (thn (hc pins s3 σ H3 _ I3 q3) fun w' s4 ⟨z',H4,I4,r4,q4⟩=>thn (ho' pins s4 σ H4 y z' u w' _ I4 r2 r4 q4) fun d' s5 ⟨z2,H5,I5,r5,k2,e2,q5⟩=>?_))
    subst e2
    cases r5
    exact wpAny_truthy_bool ⟨H5,I5,q5⟩
theorem line63:(sizeLine:Nat) < 2 ^ 63:=by rw [sizeLine_eq]; decide
theorem vals1 {x:V} {us:List Value} (r:Vals [x] us):∃ u,us = [u]/\RelV x u:=by
  cases r with
  | cons r1 r2=>cases r2; exact ⟨_,rfl,r1⟩
theorem vals2 {x y:V} {us:List Value} (r:Vals [x,y] us):∃ u w',us = [u,w']/\RelV x u/\RelV y w':=by
  cases r with
  | cons r1 r2 =>
    cases r2 with
    | cons r3 r4=>cases r4; exact ⟨_,_,rfl,r1,r3⟩
end
end L2
namespace L2
open PySem PySem.Spec PyProof.Rows
structure ObjM (h:Heap) (x dx C:Addr) (mA:Str->Option Value):Prop where
  obj:h.get? x = some (PySem.W.instObj C dx)
  ns:h.Ns1 dx mA
  ne:dx ≠ x
theorem lookIn_ns {h:Heap} {dx:Addr} {mA:Str->Option Value} (n:h.Ns1 dx mA):∃ od,h.get? dx = some od/\∀ name,PySem.W.lookIn name od = some (mA name):=by
  obtain ⟨o,es,ep,ho,hd,hk,_,hm⟩:=n
  refine ⟨o,ho,fun name=>?_⟩
  have e:=hm name
  unfold nsFind findBy at e
  rw [<- Array.find?_toList] at e
  unfold PySem.W.lookIn
  rw [hd]
  dsimp only
  split
  · rename_i y q
    rw [q] at e
    exact congrArg some e
  · rename_i q
    rw [q] at e
    have a:es.toList.any (·.refKey) = false:=by
      rw [List.any_eq_false]
      intro y hy
      obtain ⟨z,t,hkey⟩:=hk y (Array.mem_toList_iff.mp hy)
      simp [DictEntry.refKey,hkey]
    have a':¬ es.toList.any (·.refKey) = true:=by rw [a]; exact Bool.false_ne_true
    rw [if_neg a']
    exact congrArg some e
theorem ObjM.look {h:Heap} {x dx C:Addr} {mA:Str->Option Value} (I:ObjM h x dx C mA):∃ od,PySem.W.InstAt h x (PySem.W.instObj C dx) C (some od)/\∀ name,PySem.W.lookIn name od = some (mA name) :=
  let ⟨od,ho,hl⟩:=lookIn_ns I.ns
  ⟨od,⟨I.obj,rfl,rfl,ho⟩,hl⟩
section
variable {prog:Program} {w:World} {A:Around} {E:Value->Shared->Prop} {s:Shared} {K:PySem.W.Frag} {x dx C f:Addr} {mA:Str->Option Value} {name:Str} {v:Value}
theorem set_map {ns:List Str} {Q:Unit->Shared->Prop} (X:K.In s.heap) (I:ObjM s.heap x dx C mA)
    (hs:PySem.W.findIn K (.ref C) "__setattr__" = some (some (.builtin "object.__setattr__"))) (hp:PySem.W.plainOver K C = true) (ht:PySem.W.takerIn K C name = some none) (hh:PySem.W.hasDictIn K C = true)
    (hw:PySem.Within mA ns) (hsz:ns.length<=sizeLine)
    (h:∀ h',ObjM h' x dx C (fun y=>if y = name then some v else mA y)->Heap.SameBut dx s.heap h'->Q () { s with heap:=h',toks:=s.toks + 2 }) :
    wpAny (model prog w) A (setAttr (.ref x) name v) Q E s:=by
  obtain ⟨od,J,hl⟩:=I.look
  refine PySem.W.set_plain X J hs (PySem.W.osa_open (s:={ s with toks:=s.toks + 1 }) (r:=none) X J hp ht fun b=>?_)
  obtain ⟨cd,hc,hd'⟩:=PySem.W.any_some hh
  have hx:s.heap.get? x = some ⟨.ref C,some dx,.plain,#[]⟩:=I.obj
  refine wpAny_bind (wpAny_pure (wpAny_bind (wpAny_bind (wpAny_loadPart hx (wpAny_bind (PySem.W.Looks.here (s:={ s with toks:=s.toks + 1 }) (PySem.W.looks_clsIn X hc) ?_))))))
  rw [hd']
  refine wpAny_pure (a:=some dx) (wpAny_bind (wpAny_pure (wpAny_bind ?_)))
  refine wpAny_nsSet1 (s:={ s with toks:=s.toks + 1 }) I.ns fun h' hn2 hs2=>?_
  obtain ⟨oD,esD,epD,hoD,hdD,hcD⟩:=hn2.count (PySem.Within.cons name v hw)
  refine wpAny_bind (wpAny_lookBehind hoD (by rw [hdD]; exact pastItsLine_dict (Nat.le_trans hcD (by rw [List.length_cons]; omega))) ?_)
  exact wpAny_pure (h _ ⟨(hs2.2 _ (Ne.symm I.ne)).trans I.obj,hn2,I.ne⟩ hs2)
end
section
variable {P:Program} {w:World} {H H':Hp} {h h':Heap} {a C dx:Addr} {fs fs':List (Str × V)}
end
structure Cls (K:PySem.W.Frag) (C:Addr):Prop where
  pg:PySem.W.plainGet K C Str.empty = true
  hd:PySem.W.hasDictIn K C = true
  po:PySem.W.plainOver K C = true
  sa:PySem.W.findIn K (.ref C) "__setattr__" = some (some (.builtin "object.__setattr__"))
theorem Cls.get {K:PySem.W.Frag} {C:Addr} (c:Cls K C) (f:Str):PySem.W.plainGet K C f = true:=c.pg
structure Con (K:PySem.W.Frag) (C:Addr) (f:Str) (v:V) (u:Value):Prop where
  at_:PySem.W.findIn K (.ref C) f = some (some u)
  rel:RelV v u
  get:PySem.W.specialIn K u "__get__" = some none
  cp:PySem.W.copiedNames.contains f = false
structure Meth (K:PySem.W.Frag) (C:Addr) (m:Str) (f:Addr):Prop where
  at_:PySem.W.findIn K (.ref C) m = some (some (.ref f))
  fn:PySem.W.isFn K (.ref f) = true
  kp:PySem.W.keepIn K (.ref f) = true
section
variable {X:Cx} {pins:List (Addr × Obj)} {σ:St} {H:Hp} {s:Shared} {a C dx:Addr} {fs:List (Str × V)} {f:Str} {v:V} {A:Around} {E:Value->Shared->Prop}
theorem Inv.made (I:Inv X pins σ H s):Inv X pins σ (upd (upd H s.heap.objs.size (.own (s.heap.objs.size + 1))) (s.heap.objs.size + 1) (.ins C s.heap.objs.size []))
    { s with heap:=(s.heap.push PySem.W.emptyDict).push (PySem.W.instObj C s.heap.objs.size) }:=by
  have e1:(s.heap.push PySem.W.emptyDict).get? s.heap.objs.size = some PySem.W.emptyDict:=Heap.get?_push_size s.heap rfl
  have e2:((s.heap.push PySem.W.emptyDict).push (PySem.W.instObj C s.heap.objs.size)).get? (s.heap.objs.size + 1) = some (PySem.W.instObj C s.heap.objs.size):=by
    have:=Heap.get?_push_size (s.heap.push PySem.W.emptyDict) (o:=PySem.W.instObj C s.heap.objs.size) rfl
    rwa [Heap.size_push] at this
  have e3:(s.heap.push PySem.W.emptyDict).Ns s.heap.objs.size (fun _=>none):=⟨PySem.W.emptyDict,#[],_,e1,rfl,(fun e he=>absurd he (by simp)),fun _=>rfl⟩
  have I1:=I.laid (a:=s.heap.objs.size) (o:=.own (s.heap.objs.size + 1)) (h':=s.heap.push PySem.W.emptyDict) (t':=s.toks) (fun b u q=>Heap.get?_push_of_some _ q) (Nat.le_refl _) ⟨_,e1⟩
  refine I1.laid (a:=s.heap.objs.size + 1) (o:=.ins C s.heap.objs.size []) (t':=s.toks) (fun b u q=>Heap.get?_push_of_some _ q) (Nat.le_of_eq (Heap.size_push _ _)) ?_
  have ne:s.heap.objs.size ≠ s.heap.objs.size + 1:=Nat.ne_of_lt (Nat.lt_succ_self _)
  refine ⟨by rw [upd_ne ne,upd_same],Nat.zero_le _,ne,e2,fun _=>none,(Heap.Ns1.of_empty e3).at fun o q=>Heap.get?_push_of_some _ q,fun _=>True.intro,fun y hy=>absurd rfl hy⟩
end
section
variable {X:Cx} {o e value:Expr} {f:Str} {pos pos' tpos:Pos} {ta tv:TE}
end
section
variable {X:Cx} {pins:List (Addr × Obj)} {σ:St} {H:Hp} {s:Shared} {A:Around} {E:Value->Shared->Prop} {Q:Value->Shared->Prop} {c:Value} {b:Bool}
inductive TyOf (K:PySem.W.Frag) (H:Hp):V->Value->Prop where
  | non:TyOf K H .non (.type "NoneType")
  | bl (x:Bool):TyOf K H (.bl x) (.type "bool")
  | int (i:Int):TyOf K H (.int i) (.type "int")
  | str (x:Str):TyOf K H (.str x) (.type "str")
  | flt (x:UInt64):TyOf K H (.flt x) (.type "float")
  | lst {a:Addr} {xs:List V} (e:H a = some (.lst xs)):TyOf K H (.ref a) (.type "list")
  | frz {a:Addr} {o:Obj} {xs:List V} (e:H a = some (.frz o (.lst xs))):TyOf K H (.ref a) (.type "list")
  | tup {a:Addr} {xs:List V} (e:H a = some (.tup xs)):TyOf K H (.ref a) (.type "tuple")
  | dK {a:Addr} {kvs:List (Key × V)} (e:H a = some (.dK kvs)):TyOf K H (.ref a) (.type "dict")
  | dT {a:Addr} {kvs:List (List Key × V)} (e:H a = some (.dT kvs)):TyOf K H (.ref a) (.type "dict")
  | ins {a C dx:Addr} {fs:List (Str × V)} (e:H a = some (.ins C dx fs)) (cl:Cls K C) (ha:PySem.W.findIn K (.ref C) "__class__" = some (some (.builtin "object.__class__")))
      (hn:PySem.W.specialIn K (.builtin "object.__class__") "__get__" = some (some (.builtin "getset_descriptor.__get__"))) (htk:PySem.W.takesIn K (.builtin "object.__class__") = some true)
      (hm:PySem.W.mroIn K C (.type "object") = some true):TyOf K H (.ref a) (.ref C)
end
end L2
namespace L2
open PySem PySem.Spec PyProof.Rows
structure Room (k:Nat) (A:Around):Prop where
  hd:A.handled = none
  dp:A.depth + 3 * k + 5 < recursionLimit
  un:A.units + 16 * k + 200 < cLine
theorem Room.mono {j k:Nat} {A:Around} (r:Room k A) (h:j<=k):Room j A:=⟨r.hd,by have:=r.dp; omega,by have:=r.un; omega⟩
theorem Room.deeper {k:Nat} {A:Around} (r:Room (k + 1) A) (env:Env):Room k (A.deeper env) :=
  ⟨r.hd,by have:=r.dp; show A.depth + 1 + 3 * k + 5 < _; omega,by have:=r.un; show A.units + 3 + 16 * k + 200 < _; omega⟩
theorem Room.in1 {k:Nat} {A:Around} (r:Room (k + 1) A):Room k A.in1 :=
  ⟨r.hd,by have:=r.dp; show A.depth + 3 * k + 5 < _; omega,by have:=r.un; show A.units + 1 + 16 * k + 200 < _; omega⟩
theorem Room.depth {k:Nat} {A:Around} (r:Room k A):A.depth < recursionLimit:=by have:=r.dp; omega
theorem Room.units {k:Nat} {A:Around} (r:Room k A):A.units + 64 < cLine:=by have:=r.un; omega
theorem Room.units0 {k:Nat} {A:Around} (r:Room k A):A.units < cLine:=by have:=r.un; omega
noncomputable def tNil:TA:=fun _ H Q=>Q [] H
noncomputable def tCons (ta:TE) (tr:TA):TA:=fun σ H Q=>ta σ H fun x H1=>tr σ H1 fun xs H2=>Q (x :: xs) H2
section
variable {X:Cx} {e:Expr} {es:List Expr} {te:TE} {t:TA} {pos:Pos}
theorem pa_nil:PA X [] tNil:=fun _ _ _ _ H Q I h=>Calls.spliced_nil ⟨[],H,I,.nil,h⟩
theorem pa_cons (ha:PE X e te) (hr:PA X es t) (hs:starEach (e :: es) X.env = (false,eval e X.env) :: starEach es X.env:=by rfl):PA X (e :: es) (tCons te t):=by
  intro pos pins s σ H Q I h
  rw [hs]
  show wpAny _ _ (spliced ((false,eval e X.env) :: backTo pos (starEach es X.env))) _ _ s
  refine Calls.spliced_cons (thn (ha pins s σ H _ I h) fun u s1 ⟨x,H1,I1,r1,q1⟩=>?_)
  exact thn (hr pos pins s1 σ H1 _ I1 q1) fun us s2 ⟨xs,H2,I2,r2,q2⟩=>⟨x :: xs,H2,I2,.cons r1 r2,q2⟩
noncomputable def tTup (t:TA):TE:=fun σ H Q=>t σ H fun xs H1=>xs.length<=sizeLine/\∀ p,H1 p = none->Q (.ref p) (upd H1 p (.tup xs))
noncomputable def tLst (t:TA):TE:=fun σ H Q=>t σ H fun xs H1=>xs.length<=sizeLine/\∀ p,H1 p = none->Q (.ref p) (upd H1 p (.lst xs))
theorem pe_tup {x1} (h:PA X es t):PE X (.Tuple es x1 pos) (tTup t):=by
  intro pins s σ H Q I hq
  refine wpAny_Tuple_spliced (thn (h pos pins s σ H _ I hq) fun us s1 ⟨xs,H1,I1,r,z,q⟩=>⟨by rw [<- r.length]; exact z,?_⟩)
  have hf:H1 s1.heap.objs.size = none:=I1.hok.fresh (Nat.le_refl _)
  refine ⟨.ref s1.heap.objs.size,upd H1 s1.heap.objs.size (.tup xs),I1.laid (t':=s1.toks) (fun b u e=>Heap.get?_push_of_some _ e) (Nat.le_refl _) ?_,rfl,q _ hf⟩
  exact ⟨z,us,r,⟨_,Heap.get?_push_size _ rfl,rfl,_,rfl⟩,_,Heap.get?_push_size _ rfl,rfl⟩
theorem pe_lst (h:PA X es t):PE X (.List es pos) (tLst t):=by
  intro pins s σ H Q I hq
  refine wpAny_List_spliced (thn (h pos pins s σ H _ I hq) fun us s1 ⟨xs,H1,I1,r,z,q⟩=>⟨by rw [<- r.length]; exact z,?_⟩)
  have hf:H1 s1.heap.objs.size = none:=I1.hok.fresh (Nat.le_refl _)
  refine ⟨.ref s1.heap.objs.size,upd H1 s1.heap.objs.size (.lst xs),I1.laid (t':=s1.toks) (fun b u e=>Heap.get?_push_of_some _ e) (Nat.le_refl _) ?_,rfl,q _ hf⟩
  exact ⟨z,us,0,r,Heap.get?_push_size _ rfl⟩
end
noncomputable abbrev Sp:=List V->Hp->VK->XK->Prop
noncomputable abbrev CXT:=List Env->Hp->Shared->XK->Value->Shared->Prop
structure Env0 (P:Program) (w:World) (K:PySem.W.Frag) (mg:Str->Option Value) (base:Heap) (A:Around) (outer:List Env) (s:Shared) (H:Hp):Prop where
  frames:A.frames = some outer
  mod:Mod K mg base
  bs:∀ b o,base.get? b = some o->s.heap.get? b = some o/\H b = none
  bsz:base.objs.size<=s.heap.objs.size
  funs:s.heap.FunFrames base outer
  frf:∀ b ∈ frs outer,H b = none
  hok:HOk P w H s.heap
  bare:AllBare s.gens
noncomputable def CE (outer:List Env) (P:Program) (w:World) (H:Hp) (s:Shared) (Q:VK) (u:Value) (s':Shared):Prop :=
  ∃ v H',s'.os = s.os/\AllBare s'.gens/\Un (frs outer) [] H H' s.heap s'.heap/\HOk P w H' s'.heap/\RelV v u/\Q v H'
noncomputable def CR (CX:CXT) (outer:List Env) (P:Program) (w:World) (H:Hp) (s:Shared) (Q:VK) (E:XK) (r:Result) (s':Shared):Prop :=
  match r with
  | .ok (.ret u)=>CE outer P w H s Q u s'
  | .ok _=>False
  | .error e=>CX outer H s E e s'
structure FnOk (P:Program) (w:World) (K:PySem.W.Frag) (mg:Str->Option Value) (base:Heap) (CX:CXT) (k:Nat) (f:Addr) (fd:FuncData) (ps:List Str) (sp:Sp):Prop where
  len:∀ vs H Q E,sp vs H Q E->vs.length = ps.length
  run:∀ (A:Around) (outer:List Env) (s:Shared) (H:Hp) (args:Args) (us:List Value) (vs:List V) (Q:VK) (E:XK),Room k A->Env0 P w K mg base A outer s H->BindsTo s fd args (ps.zip us)->Vals vs us->sp vs H Q E ->
    codeAny (model P w) A (.call (.ref f) args) (CR CX outer P w H s Q E) s
theorem FnOk.mono {P:Program} {w:World} {K:PySem.W.Frag} {mg:Str->Option Value} {base:Heap} {CX:CXT} {j k:Nat} {f:Addr} {fd:FuncData} {ps:List Str} {sp:Sp} (F:FnOk P w K mg base CX j f fd ps sp) (h:j<=k) :
    FnOk P w K mg base CX k f fd ps sp:=⟨F.len,fun A outer s H args us vs Q E hr=>F.run A outer s H args us vs Q E (hr.mono h)⟩
theorem FnOk.imp {P:Program} {w:World} {K:PySem.W.Frag} {mg:Str->Option Value} {base:Heap} {CX:CXT} {k:Nat} {f:Addr} {fd:FuncData} {ps:List Str} {sp sp':Sp} (F:FnOk P w K mg base CX k f fd ps sp)
    (h:∀ vs H Q E,sp' vs H Q E->sp vs H Q E):FnOk P w K mg base CX k f fd ps sp' :=
  ⟨fun vs H Q E q=>F.len vs H Q E (h _ _ _ _ q),fun A outer s H args us vs Q E hr he hb hv hs=>F.run A outer s H args us vs Q E hr he hb hv (h _ _ _ _ hs)⟩
theorem Env0.in1 {P:Program} {w:World} {K:PySem.W.Frag} {mg:Str->Option Value} {base:Heap} {A:Around} {outer:List Env} {s:Shared} {H:Hp} (e:Env0 P w K mg base A outer s H) :
    Env0 P w K mg base A.in1 outer s H:=⟨e.frames,e.mod,e.bs,e.bsz,e.funs,e.frf,e.hok,e.bare⟩
section
variable {X:Cx} {pins:List (Addr × Obj)} {σ:St} {H:Hp} {s s':Shared}
theorem Inv.env0 (I:Inv X pins σ H s):Env0 X.prog X.w X.K X.mg X.base X.A X.stack s H :=
  ⟨I.ok.frames,I.ok.mod,I.bs,Nat.le_trans I.ok.bsz I.sz,I.stack,I.stkFree,I.hok,I.bare⟩
theorem Inv.after {Q:VK} {u:Value} (I:Inv X pins σ H s) (h:CE X.stack X.prog X.w H s Q u s'):EP X pins σ Q u s':=by
  obtain ⟨v,H',os,bare,un,hok,r,q⟩:=h
  obtain ⟨hh,g,d,t,os'⟩:=s'
  obtain rfl:os' = s.os:=os
  exact ⟨v,H',I.call (h':=hh) (g':=g) (d':=d) (t':=t) (ch:=[]) un hok bare (fun b z=>absurd z (by simp)),r,q⟩
end
noncomputable def tCall (sp:Sp) (dvs:List V) (E:XK) (t:TA):TE:=fun σ H Q=>t σ H fun vs H1=>sp (vs ++ dvs) H1 Q E
noncomputable def Binds (K:PySem.W.Frag) (fd:FuncData) (ps:List Str) (ds:List Value):Prop :=
  ∀ (s:Shared) (us:List Value),K.In s.heap->(us ++ ds).length = ps.length->BindsTo s fd ⟨us,[]⟩ (ps.zip (us ++ ds))
theorem Binds.all {K:PySem.W.Frag} {fd:FuncData} {ps:List Str} (h:∀ us:List Value,us.length = ps.length->bindArgs fd ⟨us,[]⟩ = pure (ps.zip us)):Binds K fd ps []:=fun s us _ hl=>by
  rw [List.append_nil] at hl ⊢
  exact .of_eq (h us hl)
noncomputable def Passes (CX:CXT) (X:Cx) (E:XK):Prop:=∀ (pins:List (Addr × Obj)) (σ:St) (H:Hp) (s:Shared) (e:Value) (s':Shared),Inv X pins σ H s->CX X.stack H s E e s'->X.xe e s'
section
variable {X:Cx} {CX:CXT} {k:Nat} {f C:Addr} {fd:FuncData} {ps:List Str} {sp:Sp} {dvs:List V} {ds:List Value} {E:XK} {x m:Str} {p pos apos:Pos} {e o:Expr} {es:List Expr} {ta:TE} {t:TA}
theorem run_fn {pins:List (Addr × Obj)} {σ:St} {H:Hp} {s:Shared} {Q:VK} {us:List Value} {vs:List V} (F:FnOk X.prog X.w X.K X.mg X.base CX k f fd ps sp) (hr:Room k X.A) (hb:Binds X.K fd ps ds) (hd:Vals dvs ds) (hx:Passes CX X E)
    (I:Inv X pins σ H s) (r:Vals vs us) (h:sp (vs ++ dvs) H Q E):wpAny (model X.prog X.w) X.A (call (.ref f) us) (EP X pins σ Q) X.xe s:=by
  have r2:Vals (vs ++ dvs) (us ++ ds):=r.append hd
  have hl:(us ++ ds).length = ps.length:=by rw [<- r2.length]; exact F.len _ _ _ _ h
  refine wpAny_call (codeAny_mono (F.run X.A X.stack s H ⟨us,[]⟩ (us ++ ds) (vs ++ dvs) Q E hr I.env0 (hb s us I.kIn hl) r2 h) fun r s' hq=>?_)
  cases r with
  | error e=>exact hx pins σ H s e s' I hq
  | ok fl =>
    cases fl with
    | ret u=>exact I.after hq
    | next=>exact False.elim hq
    | brk=>exact False.elim hq
    | cont=>exact False.elim hq
theorem pe_call (F:FnOk X.prog X.w X.K X.mg X.base CX k f fd ps sp) (hr:Room k X.A) (hg:Gl X x) (hm:X.mg x = some (.ref f)) (hk:PySem.W.keepIn X.K (.ref f) = true) (hb:Binds X.K fd ps ds) (hd:Vals dvs ds) (hx:Passes CX X E)
    (ha:PA X (e :: es) t) (hdb:(x == ("__debug__":Str)) = false:=by decide) (he:starEach (e :: es) X.env = (false,eval e X.env) :: starEach es X.env:=by rfl) (hpl:(backTo pos (starEach es X.env)).any (·.1) = false:=by rfl) :
    PE X (.Call (.Name x p) (e :: es) [] pos) (tCall sp dvs E t):=by
  intro pins s σ H Q I h
  refine wpAny_Call_Name_kw (ld_glob I hg hm ?_ hdb)
  refine PySem.W.callWith_K (h₀:=X.base) I.ok.mod.kin hk (thn (ha pos pins s σ H _ I h) fun us s1 ⟨vs,H1,I1,r,q⟩=>⟨I1.kIn,?_⟩) he hpl
  exact run_fn F hr hb hd hx I1 r q
structure Mk (K:PySem.W.Frag) (C f:Addr):Prop where
  makes:PySem.W.makesIn K C = true
  init:PySem.W.findIn K (.ref C) "__init__" = some (some (.ref f))
  fn:PySem.W.isFn K (.ref f) = true
  kp:PySem.W.keepIn K (.ref C) = true
end
section
variable {X:Cx} {CX:CXT} {k:Nat} {f C:Addr} {fd:FuncData} {ps ks:List Str} {sp:Sp} {E:XK} {x m:Str} {p pos apos kpos:Pos} {e o:Expr} {es:List Expr} {kws:List Keyword} {te ta:TE} {t tk:TA} {nm:Option Str}
structure KBinds (K:PySem.W.Frag) (fd:FuncData) (ps ks:List Str) (g:List Value->List Value->List Value) (gV:List V->List V->List V):Prop where
  to:∀ (s:Shared) (us ws:List Value),K.In s.heap->(g us ws).length = ps.length->BindsTo s fd ⟨us,ks.zip ws⟩ (ps.zip (g us ws))
  rel:∀ {vs:List V} {us:List Value} {zs:List V} {ws:List Value},Vals vs us->Vals zs ws->Vals (gV vs zs) (g us ws)
variable {g:List Value->List Value->List Value} {gV:List V->List V->List V}
end
structure FnScope (N P:List Str) (sc:Scope):Prop where
  kind:sc.kind = .function
  co:sc.isCoroutine = false
  gen:sc.isGenerator = false
  nd:N.Nodup
  pre:N.take P.length = P
  par:∀ x ∈ P,sc.names.lookup x = some .local\/sc.names.lookup x = some .cell
  nofree:∀ y ∈ sc.names,y.2 ≠ .free
theorem bindL_out {kindOf:Str->Option NameKind} {x:Str}:∀ {binds:List (Str × Value)} {m:Str->Option Value},(∀ v,(x,v) ∉ binds)->bindL kindOf binds m x = m x
  | [],_,_=>rfl
  | (n,v) :: r,m,h=>by
    unfold bindL
    rw [bindL_out fun w hw=>h w (List.mem_cons_of_mem _ hw)]
    split
    · have:x ≠ n:=by rintro rfl; exact h v List.mem_cons_self
      simp [this]
    · rfl
theorem bindC_out {kindOf:Str->Option NameKind} {x:Str}:∀ {binds:List (Str × Value)} {m:Str->Option Value},(∀ v,(x,v) ∉ binds)->bindC kindOf binds m x = m x
  | [],_,_=>rfl
  | (n,v) :: r,m,h=>by
    unfold bindC
    rw [bindC_out fun w hw=>h w (List.mem_cons_of_mem _ hw)]
    split
    · rfl
    · have:x ≠ n:=by rintro rfl; exact h v List.mem_cons_self
      simp [this]
theorem bindL_get {kindOf:Str->Option NameKind} {x:Str} {v:Value}:∀ {P:List Str} {vs:List Value} {i:Nat} {m:Str->Option Value},P.Nodup->P[i]? = some x->vs[i]? = some v->kindOf x = some .local ->
    bindL kindOf (P.zip vs) m x = some v
  | [],_,_,_,_,h,_,_=>by simp at h
  | _ :: _,[],_,_,_,_,h,_=>by simp at h
  | p :: P,w :: vs,0,m,nd,h1,h2,hk=>by
    simp at h1 h2; subst h1; subst h2
    show bindL kindOf ((p,w) :: P.zip vs) m p = _
    unfold bindL
    rw [bindL_out fun v hv=>(List.nodup_cons.mp nd).1 (List.of_mem_zip hv).1,if_pos hk]
    simp
  | p :: P,w :: vs,i + 1,m,nd,h1,h2,hk=>by
    show bindL kindOf ((p,w) :: P.zip vs) m x = _
    unfold bindL
    exact bindL_get (i:=i) (List.nodup_cons.mp nd).2 (by simpa using h1) (by simpa using h2) hk
theorem bindC_get {kindOf:Str->Option NameKind} {x:Str} {v:Value}:∀ {P:List Str} {vs:List Value} {i:Nat} {m:Str->Option Value},P.Nodup->P[i]? = some x->vs[i]? = some v->kindOf x ≠ some .local ->
    bindC kindOf (P.zip vs) m x = some v
  | [],_,_,_,_,h,_,_=>by simp at h
  | _ :: _,[],_,_,_,_,h,_=>by simp at h
  | p :: P,w :: vs,0,m,nd,h1,h2,hk=>by
    simp at h1 h2; subst h1; subst h2
    show bindC kindOf ((p,w) :: P.zip vs) m p = _
    unfold bindC
    rw [bindC_out fun v hv=>(List.nodup_cons.mp nd).1 (List.of_mem_zip hv).1,if_neg hk]
    simp
  | p :: P,w :: vs,i + 1,m,nd,h1,h2,hk=>by
    show bindC kindOf ((p,w) :: P.zip vs) m x = _
    unfold bindC
    exact bindC_get (i:=i) (List.nodup_cons.mp nd).2 (by simpa using h1) (by simpa using h2) hk
noncomputable def start (N:List Str) (vs:List V):St:=vs.map some ++ List.replicate (N.length - vs.length) none
noncomputable def cxOf (CX:CXT) (P:Program) (w:World) (K:PySem.W.Frag) (mg:Str->Option Value) (base:Heap) (N:List Str) (qual:Str) (scope:Scope) (f:Addr) (cd:Value) (A:Around) (outer:List Env) (s:Shared) (H:Hp) (E:XK):Cx where
  prog:=P
  w:=w
  K:=K
  mg:=mg
  base:=base
  A:=A.deeper (envOfC qual scope s.heap.objs.size f cd)
  N:=N
  s₀:=s
  H₀:=H
  env:=envOfC qual scope s.heap.objs.size f cd
  outer:=outer
  stack:=envOfC qual scope s.heap.objs.size f cd :: outer
  ex:=[]
  calm:=true
  fn:=fun _=>true
  pn:=[]
  xe:=fun e s'=>wpAny (model P w) (A.deeper (envOfC qual scope s.heap.objs.size f cd)) (leaving (envOfC qual scope s.heap.objs.size f cd) e) (fun _ s''=>CX outer H s E e s'') (fun e' s''=>CX outer H s E e' s'') s'
theorem cell_has {sc:Scope} {n:Nat} {x:Str} (h:sc.names.lookup x = some .cell):∃ c,(cellsFrom n sc.names []).lookup x = some c:=by
  have q:=PySem.W.cellsFrom_some sc.names n [] (.inl h)
  exact Option.isSome_iff_exists.mp q
theorem inv_start {CX:CXT} {P:Program} {w:World} {K:PySem.W.Frag} {mg:Str->Option Value} {base:Heap} {N ps:List Str} {qual:Str} {scope:Scope} {f:Addr} {cd:Value} {A:Around} {outer:List Env} {s s1:Shared} {H:Hp} {E:XK} {us:List Value} {vs:List V}
    (S:FnScope N ps scope) (hd:A.handled = none) (e0:Env0 P w K mg base A outer s H) (hl:vs.length = ps.length) (r:Vals vs us)
    (x:InCallC s s.heap.objs.size (bindL (envOfC qual scope s.heap.objs.size f cd).kindOf (ps.zip us) fun _=>none) (cellsFrom (s.heap.objs.size + 1) scope.names []) (bindC (envOfC qual scope s.heap.objs.size f cd).kindOf (ps.zip us) fun _=>none) s1) :
    Inv (cxOf CX P w K mg base N qual scope f cd A outer s H E) [] (start N vs) H s1:=by
  have hpl:ps.length<=N.length:=by have:=congrArg List.length S.pre; rw [List.length_take] at this; omega
  obtain ⟨h1,tk,rfl,hk⟩:=x.done
  have noA:∀ b:Addr,b ∉ (cxOf CX P w K mg base N qual scope f cd A outer s H E).ex:=fun b z=>absurd (show b ∈ ([]:List Addr) from z) (by simp)
  refine ⟨⟨e0.mod,S.kind,rfl,rfl,Nat.le_refl _,fun y z c h1 h2=>?_,fun y hy=>?_,fun y c _ h=>?_,fun _=>hd,Around.frames_deeper e0.frames,.inr ⟨rfl,rfl⟩,fun b z=>absurd z (noA b),e0.bs,e0.bsz,fun b _ _=>noA b,fun b z=>absurd z (noA b),e0.funs,e0.frf⟩,
    rfl,e0.bare,Un.kept hk,⟨_,x.toInCall.ns,fun i y v h1 h2 h3=>?_⟩,fun y c h=>⟨_,x.cell y c h⟩,e0.hok.fresh (Nat.le_refl _),fun y c h=>?_,fun p hp=>absurd (show p ∈ ([]:List (Addr × Obj)) from hp) (by simp),e0.hok.kept hk,?_⟩
  · exact name_of_addr x.apart (PySem.mem_of_lookup h1) (PySem.mem_of_lookup h2)
  · have hy:scope.names.lookup y = some .cell\/scope.names.lookup y = some .free:=hy
    rcases hy with hy | hy
    · exact cell_has hy
    · exact absurd rfl (S.nofree _ (PySem.mem_of_lookup hy))
  · exact Nat.le_of_lt (x.above y c (PySem.mem_of_lookup h))
  · have hi:i < vs.length:=by
      unfold start at h2
      by_cases hi:i < vs.length
      · exact hi
      · rw [List.getElem?_append_right (by simpa using hi)] at h2
        rw [List.getElem?_replicate] at h2
        split at h2 <;> cases h2
    have ha:vs[i]? = some v:=by
      unfold start at h2
      rw [List.getElem?_append_left (by simpa using hi),List.getElem?_map] at h2
      cases e:vs[i]? with
      | none=>rw [e] at h2; cases h2
      | some a=>rw [e] at h2; cases h2; rfl
    obtain ⟨u,hu,rv⟩:=r.get ha
    have hp:ps[i]? = some y:=by
      rw [<- S.pre,List.getElem?_take_of_lt (by omega)]; exact h1
    have ndP:ps.Nodup:=by rw [<- S.pre]; exact S.nd.sublist (List.take_sublist _ _)
    refine ⟨u,rv,?_⟩
    rcases S.par y (List.mem_of_getElem? hp) with k | k
    · exact .inl ⟨k,bindL_get ndP hp hu k⟩
    · obtain ⟨c,e⟩:=cell_has (n:=s.heap.objs.size + 1) k
      refine .inr ⟨.inl k,c,e,?_⟩
      have q:=x.cell y c e
      rw [bindC_get ndP hp hu (by show scope.names.lookup y ≠ _; rw [k]; decide)] at q
      exact q
  · exact e0.hok.fresh (Nat.le_of_lt (x.above y c (PySem.mem_of_lookup h)))
  · unfold start
    show _ = N.length
    rw [List.length_append,List.length_map,List.length_replicate]
    omega
theorem fn_of {CX:CXT} {P:Program} {w:World} {K:PySem.W.Frag} {mg:Str->Option Value} {base:Heap} {k:Nat} {f:Addr} {name qual:Str} {params:Arguments} {body:List Stmt} {scope:Scope} {dV kV doc pm cdv ct oc:Value} {an od:Option Addr}
    {osl:Array (Option Value)} {N ps:List Str} {sp:Sp} (lk:K.lookup f = some ⟨oc,od,.func (PySem.W.fnOf name qual params body scope dV kV doc pm an cdv ct),osl⟩) (hcd:PySem.W.codeIn K cdv qual = true) (S:FnScope N ps scope)
    (len:∀ vs H Q E,sp vs H Q E->vs.length = ps.length)
    (hbody:∀ (A:Around) (outer:List Env) (s:Shared) (H:Hp) (vs:List V) (Q:VK) (E:XK),Room k (A.deeper (envOfC qual scope s.heap.objs.size f cdv))->sp vs H Q E ->
      ∃ t,PSs (cxOf CX P w K mg base N qual scope f cdv A outer s H E) body t/\t { nx:=fun _ H'=>Q .non H',rt:=Q } (start N vs) H) :
    FnOk P w K mg base CX (k + 1) f (PySem.W.fnOf name qual params body scope dV kV doc pm an cdv ct) ps sp:=by
  refine ⟨len,fun A outer s H args us vs Q E hr e0 hb r hsp=>?_⟩
  have hl:=len _ _ _ _ hsp
  have KX:K.In s.heap:=e0.mod.kin.keeps fun b o e=>(e0.bs b o e).1
  have lim:s.heap.NoLimit:=e0.mod.nolimit.keeps fun b o e=>(e0.bs b o e).1
  have hkind:∀ y ∈ ps.zip us,scope.names.lookup y.1 = some .local\/(scope.names.lookup y.1 = some .cell/\((cellsFrom (s.heap.objs.size + 1) scope.names []).lookup y.1).isSome = true):=fun ⟨n,v⟩ hy=>by
    rcases S.par n (List.of_mem_zip hy).1 with q | q
    · exact .inl q
    · exact .inr ⟨q,PySem.W.cellsFrom_some _ _ _ (.inl q)⟩
  refine codeAny_call_function hr.depth (KX _ _ lk) rfl S.co S.gen rfl (PySem.W.codeRec_of KX hcd) (hb _ _ _ _ ?_)
  refine wpAny_newFunctionEnv_cells S.kind hkind fun env he s1 x=>?_
  subst he
  refine ⟨lim.keeps x.toInCall.keep,codeAny_func ?_⟩
  obtain ⟨t,ht,hq⟩:=hbody A outer s H vs Q E (hr.deeper _) hsp
  have I:Inv (cxOf CX P w K mg base N qual scope f cdv A outer s H E) [] (start N vs) H s1:=inv_start S hr.hd e0 hl r x
  refine wpAny_mono (ht [] s1 (start N vs) H _ I hq) (fun fl s' hs=>?_) fun e s' hs=>hs
  have fin:∀ {σ':St} {H':Hp} {v:V} {u:Value},Inv (cxOf CX P w K mg base N qual scope f cdv A outer s H E) [] σ' H' s'->RelV v u->Q v H'->CE outer P w H s Q u s' :=
    fun {σ' H' v u} J rv q=>⟨v,H',J.os,J.bare,J.base,J.hok,rv,q⟩
  cases fl with
  | ret u =>
    obtain ⟨v,σ',H',J,rv,q⟩:=hs
    exact fin J rv q
  | next =>
    obtain ⟨σ',H',J,q⟩:=hs
    exact fin (v:=V.non) (u:=Value.none) J rfl q
  | brk =>
    obtain ⟨_,_,_,q⟩:=hs
    exact False.elim q
  | cont =>
    obtain ⟨_,_,_,q⟩:=hs
    exact False.elim q
end L2
namespace L2
open PySem PySem.Spec PyProof.Rows
section
variable {X:Cx} {x:Str} {p pos:Pos} {e:Expr} {es:List Expr} {t:TA} {id T:String} {r:List V->Hp->VK->Prop}
noncomputable def tCB (r:List V->Hp->VK->Prop) (t:TA):TE:=fun σ H Q=>t σ H fun vs H1=>r vs H1 Q
theorem pe_callB (hc:CallR X (.builtin id) r) (hg:Gl X x) (hm:X.mg x = none) (hv:bootBuiltins x = some (.builtin id)) (ha:PA X (e :: es) t) (hn:x ≠ "__name__":=by decide) (hdb:(x == ("__debug__":Str)) = false:=by decide)
    (he:starEach (e :: es) X.env = (false,eval e X.env) :: starEach es X.env:=by rfl) (hpl:(backTo pos (starEach es X.env)).any (·.1) = false:=by rfl):PE X (.Call (.Name x p) (e :: es) [] pos) (tCB r t):=by
  intro pins s σ H Q I h
  refine wpAny_Call_Name_kw (ld_blt I hg hm hv ?_ hn hdb)
  exact PyProof.Rows.callWith_builtin1 (thn (ha pos pins s σ H _ I h) fun us s1 ⟨vs,H1,I1,r1,q1⟩=>hc pins s1 σ H1 vs us Q I1 r1 q1) he hpl
theorem pe_callTy (hc:CallR X (.type T) r) (hg:Gl X x) (hm:X.mg x = none) (hv:bootBuiltins x = some (.type T)) (ha:PA X (e :: es) t) (hn:x ≠ "__name__":=by decide) (hdb:(x == ("__debug__":Str)) = false:=by decide)
    (he:starEach (e :: es) X.env = (false,eval e X.env) :: starEach es X.env:=by rfl) (hpl:(backTo pos (starEach es X.env)).any (·.1) = false:=by rfl):PE X (.Call (.Name x p) (e :: es) [] pos) (tCB r t):=by
  intro pins s σ H Q I h
  refine wpAny_Call_Name_kw (ld_blt I hg hm hv ?_ hn hdb)
  exact PyProof.Rows.callWith_type1 (thn (ha pos pins s σ H _ I h) fun us s1 ⟨vs,H1,I1,r1,q1⟩=>hc pins s1 σ H1 vs us Q I1 r1 q1) he hpl
end
end L2
namespace HT
open PySem PyProof.Rows
noncomputable def lexLt:List Int->List Int->Bool
  | [],[]=>false
  | [],_ :: _=>true
  | _ :: _,[]=>false
  | x :: xs,y :: ys=>if x = y then lexLt xs ys else decide (x < y)
theorem lexLt_cons (x y:Int) (xs ys:List Int):lexLt (x :: xs) (y :: ys) = if x = y then lexLt xs ys else decide (x < y):=rfl
theorem lexLt_nil_nil:lexLt [] [] = false:=rfl
theorem lexLt_nil_cons (y:Int) (ys:List Int):lexLt [] (y :: ys) = true:=rfl
theorem lexLt_cons_nil (x:Int) (xs:List Int):lexLt (x :: xs) [] = false:=rfl
theorem eqAt_int (A:Around) (s:Shared) (a:Int) (t:Tok) (c:Int) (u:Tok):∃ e,SeqAt.EqAt A s (.int a t) (.int c u) e/\(e = true ↔ a = c) :=
  ⟨(a == c),SeqAt.EqAt.int_int a t c u,by simp⟩
section
open PySem.SeqAt
open PySem.AutoSeq1 (wpAny_loadPart')
open PySem.MeetsSeq PySem.MeetsSeq2 PySem.MeetsSeq3
end
section
variable {prog:Program} {w:World} {A:Around} {E:Value->Shared->Prop} {s:Shared}
theorem cat_tup {t b:Addr} {vs ws:List Value} {Q:Value->Shared->Prop} (ht:IsTup s.heap t vs.toArray) (hb:IsTup s.heap b ws.toArray) (hv:vs ≠ [])
    (h1:ws = []->Q (.ref t) s) (h2:ws ≠ []->Q (.ref s.heap.objs.size) { s with heap:=s.heap.push { cls:=.type "tuple",data:=.seq (vs ++ ws).toArray } })
    (hsz:vs.length + ws.length<=sizeLine):wpAny (model prog w) A (binaryOp .Add (.ref t) (.ref b)) Q E s:=by
  obtain ⟨⟨cls,dd,data,sl⟩,ho,hc,n,hd⟩:=id ht
  obtain ⟨⟨cls2,dd2,data2,sl2⟩,ho2,hc2,n2,hd2⟩:=id hb
  simp only at hc hd hc2 hd2
  subst hc hd hc2 hd2
  have e:vs.toArray ++ ws.toArray = (vs ++ ws).toArray:=by simp
  by_cases hw:ws = []
  · exact concat_meets ⟨_,ho,rfl⟩ ⟨_,ho2,rfl⟩ noFill_tuple_add seq_tuple_add PySem.F.slot_tuple_add PySem.F.entry_tuple_add (PySem.F.args_tuple_add_2 _ _)
      (tuple_addW1 t b vs.toArray ws.toArray n n2 dd dd2 sl sl2 (by simpa using hv) (by simp [hw])) ⟨ho,ho2,h1 hw⟩
  · refine concat_meets ⟨_,ho,rfl⟩ ⟨_,ho2,rfl⟩ noFill_tuple_add seq_tuple_add PySem.F.slot_tuple_add PySem.F.entry_tuple_add (PySem.F.args_tuple_add_2 _ _)
      (tuple_addW2 t b vs.toArray ws.toArray n n2 dd dd2 sl sl2 (by simpa using hv) (by simpa using hw) (by rw [List.size_toArray,List.size_toArray]; exact hsz)) ⟨ho,ho2,?_⟩
    rw [e]
    exact h2 hw
noncomputable def sIx (n d:Nat):Option Int->Nat
  | none=>d
  | some v=>if v < 0 then (v + (n:Int)).toNat else min v.toNat n
theorem sIx_none (n d:Nat):sIx n d none = d:=rfl
theorem sIx_nat (n d k:Nat):sIx n d (some (k:Int)) = min k n:=by
  show (if (k:Int) < 0 then ((k:Int) + (n:Int)).toNat else min (k:Int).toNat n) = min k n
  rw [if_neg (by omega),Int.toNat_natCast]
theorem sIx_le (n d:Nat) (hd:d<=n) (o:Option Int):sIx n d o<=n:=by
  cases o with
  | none=>exact hd
  | some v =>
    show (if v < 0 then (v + (n:Int)).toNat else min v.toNat n)<=n
    by_cases hv:v < 0
    · rw [if_pos hv]; omega
    · rw [if_neg hv]; exact Nat.min_le_right _ _
theorem clip_eq (v:Int) (n d:Nat):(if v < 0 then max (v + (n:Int)) 0 else min v (n:Int)) = ((sIx n d (some v):Nat):Int):=by
  show (if v < 0 then max (v + (n:Int)) 0 else min v (n:Int)) = (((if v < 0 then (v + (n:Int)).toNat else min v.toNat n):Nat):Int)
  by_cases hv:v < 0
  · simp only [if_pos hv]; omega
  · simp only [if_neg hv]; omega
theorem adjust_gen (lo hi:Option Int) (n:Nat):Builtin.Slice.sliceAdjust lo hi 1 (n:Int) = (((sIx n 0 lo:Nat):Int),((sIx n n hi:Nat):Int)):=by
  have h1:¬ ((1:Int) < 0):=by omega
  unfold Builtin.Slice.sliceAdjust
  simp only [h1,if_false]
  refine Prod.ext ?_ ?_
  · cases lo with
    | none=>rfl
    | some v=>exact clip_eq v n 0
  · cases hi with
    | none=>rfl
    | some v=>exact clip_eq v n n
theorem places_gen (i j:Nat):Builtin.Slice.slicePlaces (i:Int) (j:Int) 1 = j - i:=by
  unfold Builtin.Slice.slicePlaces
  have h1:(1:Int) > 0:=by omega
  simp only [h1,if_true,Int.ediv_one]
  split <;> omega
theorem slicePart_ {v:Value} {o:Option Int} {Q:Option Int->Shared->Prop} (p:IsPart v o) (h:Q o s):wpAny (model prog w) A (Builtin.Slice.slicePartIndex v) Q E s:=by
  cases p with
  | none=>exact slicePart_none h
  | int i t=>exact slicePart_int h
theorem sliceApplied_gen {sl:Addr} {vl vu:Value} {lo hi:Option Int} {n:Nat} {Q:Int × Int × Nat->Shared->Prop} (hs:s.heap.IsSliceOf sl vl vu .none) (pl:IsPart vl lo) (pu:IsPart vu hi)
    (h:Q (((sIx n 0 lo:Nat):Int),1,sIx n n hi - sIx n 0 lo) s):wpAny (model prog w) A (Builtin.Slice.sliceApplied (.ref sl) (pure (n:Int))) Q E s:=by
  obtain ⟨os,hos,hcs,hds⟩:=id hs
  unfold Builtin.Slice.sliceApplied Builtin.Slice.sliceFields
  refine wpAny_bind (wpAny_bind (wpAny_field hos hds (x:=vl) rfl (wpAny_bind (wpAny_field hos hds (x:=vu) rfl (wpAny_bind (wpAny_field hos hds (x:=.none) rfl (wpAny_pure ?_)))))))
  refine wpAny_bind (slicePart_none ?_)
  show wpAny _ _ (if ((1:Int) == 0) = true then _ else _) _ _ s
  rw [if_neg (by decide)]
  refine wpAny_bind (slicePart_ pl (wpAny_bind (slicePart_ pu (wpAny_bind (wpAny_pure ?_)))))
  show wpAny _ _ (match Builtin.Slice.sliceAdjust lo hi 1 (n:Int) with | (lo,hi)=>pure (lo,(1:Int),Builtin.Slice.slicePlaces lo hi 1)) _ _ s
  rw [adjust_gen lo hi n]
  show wpAny _ _ (pure (((sIx n 0 lo:Nat):Int),(1:Int),Builtin.Slice.slicePlaces ((sIx n 0 lo:Nat):Int) ((sIx n n hi:Nat):Int) 1)) _ _ s
  rw [places_gen]
  exact wpAny_pure h
theorem pick_gen (xs:Array Value) (i k:Nat):((List.range k).filterMap fun (m:Nat)=>xs[((i:Int) + (m:Int) * 1).toNat]?).toArray = ((xs.toList.drop i).take k).toArray:=by
  have e:(fun (m:Nat)=>xs[((i:Int) + (m:Int) * 1).toNat]?) = fun m=>xs[i + m]?:=by
    funext m
    have:((i:Int) + (m:Int) * 1).toNat = i + m:=by omega
    rw [this]
  rw [e]
  have:=pick_run xs i k
  rw [List.filterMap_map] at this
  have e2:((fun x=>xs[x]?) ∘ fun x=>i + x) = fun m=>xs[i + m]?:=rfl
  rw [e2] at this
  rw [this]
theorem getItem_tuple_cut {t sl:Addr} {items:Array Value} {vl vu:Value} {lo hi:Option Int} {Q:Value->Shared->Prop} (ht:IsTup s.heap t items) (hs:s.heap.IsSliceOf sl vl vu .none) (pl:IsPart vl lo) (pu:IsPart vu hi)
    (hw:¬ (sIx items.size 0 lo = 0/\sIx items.size items.size hi = items.size))
    (h:Q (.ref s.heap.objs.size) { s with heap:=s.heap.push { cls:=.type "tuple",data:=.seq ((items.toList.drop (sIx items.size 0 lo)).take (sIx items.size items.size hi - sIx items.size 0 lo)).toArray } })
    (hsz:items.size<=sizeLine):wpAny (model prog w) A (getItem (.ref t) (.ref sl)) Q E s:=by
  have htake:sizeOk (.seq ((items.toList.drop (sIx items.size 0 lo)).take (sIx items.size items.size hi - sIx items.size 0 lo)).toArray):=by
    show ((items.toList.drop (sIx items.size 0 lo)).take (sIx items.size items.size hi - sIx items.size 0 lo)).toArray.size<=sizeLine
    rw [List.size_toArray,List.length_take,List.length_drop,Array.length_toList]
    omega
  have hj:sIx items.size items.size hi<=items.size:=sIx_le _ _ (Nat.le_refl _) hi
  obtain ⟨os,hos,hcs,hds⟩:=id hs
  have hTs:s.TypeIs (.ref sl) "slice":=⟨os,hos,hcs⟩
  unfold getItem
  try with_reducible refine wpAny_holding ?_
  first | refine wpAny_bind (wpAny_pure ?_) | skip
  refine wpAny_bind (wpAny_sequenceKey ht.typeIs (by decide) ?_)
  refine wpAny_bind (wpAny_callSpecial?_slot (name:=Str.ofString "__getitem__") ht.typeIs PyProof.Rows.slot_tuple_getitem
    (wpAny_call_entry PyProof.Rows.slot_tuple_getitem ht.typeIs entry_tuple_getitem ?_ (args_tuple_getitem _ _)))
  show wpAny _ _ (Builtin.Tuple.tupleItemsOf (.ref t) >>= _) _ _ s
  refine wpAny_bind (tupleItemsOf_ ht ?_)
  refine wpAny_bind (wpAny_typeOf hTs ?_)
  rw [if_pos (by decide)]
  refine wpAny_bind (sliceApplied_gen hs pl pu ?_)
  have hno:¬ ((((sIx items.size 0 lo:Nat):Int) == 0 && (1:Int) == 1 && (sIx items.size items.size hi - sIx items.size 0 lo) == items.size) = true):=by
    intro q
    rw [Bool.and_eq_true,Bool.and_eq_true] at q
    have q1:((sIx items.size 0 lo:Nat):Int) = 0:=eq_of_beq q.1.1
    have q2:sIx items.size items.size hi - sIx items.size 0 lo = items.size:=eq_of_beq q.2
    exact hw ⟨by omega,by omega⟩
  show wpAny _ _ (if (((sIx items.size 0 lo:Nat):Int) == 0 && (1:Int) == 1 && (sIx items.size items.size hi - sIx items.size 0 lo) == items.size) = true then _ else _) _ _ s
  rw [if_neg hno,pick_gen]
  first
    | exact wpAny_bind (m:=Builtin.Tuple.tupleExact _) (wpAny_newObj_type (wpAny_pure ⟨_,rfl,wpAny_pure h⟩) htake)
    | exact wpAny_bind (m:=Builtin.Tuple.tupleExact _) (wpAny_newObj_type (wpAny_bind (wpAny_pure (wpAny_pure ⟨_,rfl,wpAny_pure h⟩))) htake)
    | exact wpAny_bind (wpAny_bind (m:=Builtin.Tuple.tupleExact _) (wpAny_newObj_type (wpAny_pure (wpAny_pure ⟨_,rfl,wpAny_pure h⟩)) htake))
    | exact wpAny_bind (wpAny_bind (m:=Builtin.Tuple.tupleExact _) (wpAny_newObj_type (wpAny_pure ⟨_,rfl,wpAny_pure h⟩) htake))
end
end HT
namespace L2
open PySem PySem.Spec PyProof.Rows
noncomputable abbrev TO:=St->Hp->(Option Int->Hp->Prop)->Prop
noncomputable def PO (X:Cx) (e:Option Expr) (t:TO):Prop :=
  ∀ (pins:List (Addr × Obj)) (s:Shared) (σ:St) (H:Hp) (Q:Option Int->Hp->Prop),Inv X pins σ H s->t σ H Q ->
    wpAny (model X.prog X.w) X.A (evalPart e X.env) (fun u s'=>∃ o H',Inv X pins σ H' s'/\IsPart u o/\Q o H') X.xe s
noncomputable def tNoPart:TO:=fun _ H Q=>Q none H
noncomputable def tPart (t:TE):TO:=fun σ H Q=>t σ H fun x H1=>∃ i,x = .int i/\Q (some i) H1
theorem intsAre_of {ns:List Int}:∀ {us:List Value},Vals (ns.map V.int) us->IntsAre us ns:=by
  induction ns with
  | nil=>intro us r; rw [List.map_nil] at r; cases r; exact .nil
  | cons n ns ih =>
    intro us r
    rw [List.map_cons] at r
    cases r with
    | cons r1 r2 =>
      obtain ⟨t,e⟩:=r1
      subst e
      exact .cons n t (ih r2)
section
variable {X:Cx} {e:Expr} {te:TE} {lo hi:Option Expr} {tl th:TO} {pos p2:Pos}
theorem po_none:PO X none tNoPart:=by
  intro pins s σ H Q I h
  rw [evalPart_none]
  exact wpAny_pure ⟨none,H,I,.none,h⟩
theorem po_some (h:PE X e te):PO X (some e) (tPart te):=by
  intro pins s σ H Q I hw
  rw [evalPart_some]
  refine thn (h pins s σ H _ I hw) fun u s1 ⟨x,H1,I1,r1,q1⟩=>?_
  obtain ⟨i,rfl,q⟩:=q1
  obtain ⟨t,rfl⟩:=r1
  exact ⟨some i,H1,I1,.int i t,q⟩
noncomputable def SlR (X:Cx) (r:V->Option Int->Option Int->Hp->VK->Prop):Prop :=
  ∀ (pins:List (Addr × Obj)) (s:Shared) (σ:St) (H:Hp) (x:V) (v vl vu:Value) (lo hi:Option Int) (sl:Addr) (Q:VK),Inv X pins σ H s->RelV x v->s.heap.IsSliceOf sl vl vu .none->IsPart vl lo->IsPart vu hi->r x lo hi H Q ->
    ∃ T id,typeLookup (.type T) "__getitem__" = pure (some (.builtin id))/\s.TypeIs v T/\wpAny (model X.prog X.w) X.A (getItem v (.ref sl)) (EP X pins σ Q) X.xe s
theorem SlR.or {r r':V->Option Int->Option Int->Hp->VK->Prop} (h:SlR X r) (h':SlR X r'):SlR X (fun x lo hi H Q=>r x lo hi H Q\/r' x lo hi H Q):=by
  intro pins s σ H x v vl vu lo hi sl Q I rx hs pl pu q
  rcases q with q | q
  · exact h pins s σ H x v vl vu lo hi sl Q I rx hs pl pu q
  · exact h' pins s σ H x v vl vu lo hi sl Q I rx hs pl pu q
noncomputable def tSl (r:V->Option Int->Option Int->Hp->VK->Prop) (te:TE) (tl th:TO):TE:=fun σ H Q=>te σ H fun x H1=>tl σ H1 fun l H2=>th σ H2 fun u H3=>r x l u H3 Q
theorem pe_slice {r:V->Option Int->Option Int->Hp->VK->Prop} (hr:SlR X r) (he:PE X e te) (hl:PO X lo tl) (hu:PO X hi th):PE X (.Subscript e (.Slice lo hi none p2) pos) (tSl r te tl th):=by
  intro pins s σ H Q I h
  refine Subscript_ (thn (he pins s σ H _ I h) fun v s1 ⟨x,H1,I1,r1,q1⟩=>?_)
  refine wpAny_Slice (thn (hl pins s1 σ H1 _ I1 q1) fun vl s2 ⟨l,H2,I2,pl,q2⟩=>thn (hu pins s2 σ H2 _ I2 q2) fun vu s3 ⟨u,H3,I3,pu,q3⟩=>?_)
  rw [evalPart_none]
  refine wpAny_pure ?_
  have I4:Inv X pins σ H3 { s3 with heap:=s3.heap.push { cls:=.type "slice",data:=.fields #[vl,vu,.none] } }:=I3.kept (t':=s3.toks) fun b ob q=>Heap.get?_push_of_some _ q
  obtain ⟨T,id,hT,ht,hg⟩:=hr pins { s3 with heap:=s3.heap.push { cls:=.type "slice",data:=.fields #[vl,vu,.none] } } σ H3 x v vl vu l u s3.heap.objs.size Q I4 r1 (Heap.IsSliceOf.new ..) pl pu q3
  show wpAny (model X.prog X.w) X.A (subscriptTail e (.Slice lo hi none p2) v (.ref s3.heap.objs.size)) (EP X pins σ Q) X.xe { s3 with heap:=s3.heap.push { cls:=.type "slice",data:=.fields #[vl,vu,.none] } }
  exact tail_any (ops:=[.ref s3.heap.objs.size,v]) ht hT hg (by with_unfolding_all rfl)
noncomputable def cutV (xs:List V) (lo hi:Option Int):List V:=(xs.drop (HT.sIx xs.length 0 lo)).take (HT.sIx xs.length xs.length hi - HT.sIx xs.length 0 lo)
theorem cutV_length (xs:List V) (lo hi:Option Int):(cutV xs lo hi).length<=xs.length:=by
  unfold cutV
  rw [List.length_take,List.length_drop]
  omega
noncomputable def rSlT (K:PySem.W.Frag):V->Option Int->Option Int->Hp->VK->Prop:=fun x lo hi H Q=>∃ a xs,x = .ref a/\SqT K H a xs /\
  ¬ (HT.sIx xs.length 0 lo = 0/\HT.sIx xs.length xs.length hi = xs.length)/\∀ p,H p = none->Q (.ref p) (upd H p (.tup (cutV xs lo hi)))
theorem sl_tup:SlR X (rSlT X.K):=by
  intro pins s σ H x v vl vu lo hi sl Q I rx hs pl pu h
  obtain ⟨a,xs,rfl,hx,hw,q⟩:=h
  cases rx
  obtain ⟨its,r,ht,hz⟩:=I.tuple hx
  have hlen:its.toArray.size = xs.length:=by rw [List.size_toArray]; exact r.length.symm
  refine ⟨"tuple",_,PyProof.Rows.slot_tuple_getitem.lookup,ht.typeIs,?_⟩
  refine HT.getItem_tuple_cut ht hs pl pu (by rw [hlen]; exact hw) ?_ (by rw [hlen]; exact hz)
  rw [hlen]
  refine ⟨.ref s.heap.objs.size,_,I.laid (t':=s.toks) (o:=.tup (cutV xs lo hi)) (fun b ob q=>Heap.get?_push_of_some _ q) (Nat.le_refl _) ?_,rfl,q _ (I.hok.fresh (Nat.le_refl _))⟩
  exact ⟨Nat.le_trans (cutV_length xs lo hi) hz,_,(r.drop (HT.sIx xs.length 0 lo)).take (HT.sIx xs.length xs.length hi - HT.sIx xs.length 0 lo),TupD.new _ _⟩
noncomputable def rCatT (K:PySem.W.Frag):R2:=fun x y H Q=>∃ a b xs ys,x = .ref a/\y = .ref b/\SqT K H a xs/\SqT K H b ys/\xs ≠ []/\xs.length + ys.length<=sizeLine /\
  (ys = []->Q (.ref a) H)/\(ys ≠ []->∀ p,H p = none->Q (.ref p) (upd H p (.tup (xs ++ ys))))
theorem Vals.nil_iff {xs:List V} {us:List Value} (r:Vals xs us):us = [] ↔ xs = []:=by
  cases r with
  | nil=>simp
  | cons _ _=>simp
theorem op_catT:OpR X (binaryOp .Add) (rCatT X.K):=by
  intro pins s σ H x y v u Q I rx ry h
  obtain ⟨a,b,xs,ys,rfl,rfl,ha,hb,hx,hz,q1,q2⟩:=h
  cases rx
  cases ry
  obtain ⟨its,r1,p1,_⟩:=I.tuple ha
  obtain ⟨its2,r2,p2,_⟩:=I.tuple hb
  refine HT.cat_tup p1 p2 (fun z=>hx (r1.nil_iff.mp z)) (fun z=>⟨.ref a,H,I,rfl,q1 (r2.nil_iff.mp z)⟩) (fun z=>?_) (by rw [<- r1.length,<- r2.length]; exact hz)
  refine ⟨.ref s.heap.objs.size,_,I.laid (t':=s.toks) (o:=.tup (xs ++ ys)) (fun b ob q=>Heap.get?_push_of_some _ q) (Nat.le_refl _) ?_,rfl,q2 (fun w=>z (r2.nil_iff.mpr w)) _ (I.hok.fresh (Nat.le_refl _))⟩
  exact ⟨by rw [List.length_append]; exact hz,_,r1.append r2,TupD.new _ _⟩
end
end L2
namespace L2
open PySem PySem.Spec PyProof.Rows
noncomputable def ixN (n:Nat) (i:Int):Option Nat:=if 0<=i then (if i < n then some i.toNat else none) else if -(n:Int)<=i then some (i + n).toNat else none
noncomputable def atI {α:Type} (xs:List α) (i:Int):Option α:=(ixN xs.length i).bind fun j=>xs[j]?
theorem ixN_seq {n:Nat} {i:Int} {j:Nat} (h:ixN n i = some j):seqIndex? i n = some j/\j < n/\-(n:Int)<=i/\i < n:=by
  unfold ixN at h
  by_cases h0:0<=i
  · rw [if_pos h0] at h
    by_cases h1:i < n
    · rw [if_pos h1] at h
      have e:i.toNat = j:=Option.some.inj h
      exact ⟨by rw [seqIndex_of h0 h1,e],by omega,by omega,h1⟩
    · rw [if_neg h1] at h; cases h
  · rw [if_neg h0] at h
    by_cases h1:-(n:Int)<=i
    · rw [if_pos h1] at h
      have e:(i + n).toNat = j:=Option.some.inj h
      exact ⟨by rw [seqIndex_neg (by omega) h1,e],by omega,h1,by omega⟩
    · rw [if_neg h1] at h; cases h
theorem atI_get {α:Type} {xs:List α} {i:Int} {v:α} (h:atI xs i = some v):∃ j,seqIndex? i xs.length = some j/\xs[j]? = some v/\j < xs.length/\-(xs.length:Int)<=i/\i < xs.length:=by
  unfold atI at h
  cases e:ixN xs.length i with
  | none=>rw [e] at h; cases h
  | some j =>
    rw [e] at h
    obtain ⟨h1,h2,h3,h4⟩:=ixN_seq e
    exact ⟨j,h1,h,h2,h3,h4⟩
theorem atI_nat {α:Type} {xs:List α} {j:Nat} {v:α} (h:xs[j]? = some v):atI xs (j:Int) = some v:=by
  have hj:j < xs.length:=(List.getElem?_eq_some_iff.mp h).1
  have e:ixN xs.length (j:Int) = some j:=by
    unfold ixN
    rw [if_pos (by omega),if_pos (by omega)]; simp
  unfold atI; rw [e]; exact h
noncomputable def PlainIx (b:Expr):Prop:=∀ o i,subscripted b false o i = operate [o,i] (getItem o i)
noncomputable def IxR (X:Cx) (r:R2):Prop :=
  ∀ (value slice:Expr) (pins:List (Addr × Obj)) (s:Shared) (σ:St) (H:Hp) (x y:V) (v u:Value) (Q:VK),Inv X pins σ H s->RelV x v->RelV y u->r x y H Q ->
    subscripted slice false v u = operate [v,u] (getItem v u)->wpAny (model X.prog X.w) X.A (subscriptTail value slice v u) (EP X pins σ Q) X.xe s
noncomputable def MtR (X:Cx) (id:String) (r:V->List V->Hp->VK->Prop):Prop :=
  ∀ (pins:List (Addr × Obj)) (s:Shared) (σ:St) (H:Hp) (x:V) (xs:List V) (v:Value) (us:List Value) (Q:VK),Inv X pins σ H s->RelV x v->Vals xs us->r x xs H Q ->
    wpAny (model X.prog X.w) X.A (call (.builtin id) (v :: us)) (EP X pins σ Q) X.xe s
section
variable {X:Cx} {a b:Expr} {ta tb:TE} {pos:Pos}
theorem IxR.or {r r':R2} (h:IxR X r) (h':IxR X r'):IxR X (fun x y H Q=>r x y H Q\/r' x y H Q):=by
  intro value slice pins s σ H x y v u Q I rx ry q hs
  rcases q with q | q
  · exact h value slice pins s σ H x y v u Q I rx ry q hs
  · exact h' value slice pins s σ H x y v u Q I rx ry q hs
theorem MtR.or {id:String} {r r':V->List V->Hp->VK->Prop} (h:MtR X id r) (h':MtR X id r'):MtR X id (fun x xs H Q=>r x xs H Q\/r' x xs H Q):=by
  intro pins s σ H x xs v us Q I rx rs q
  rcases q with q | q
  · exact h pins s σ H x xs v us Q I rx rs q
  · exact h' pins s σ H x xs v us Q I rx rs q
theorem pe_ix {r:R2} (hr:IxR X r) (ha:PE X a ta) (hb:PE X b tb) (hs:PlainIx b):PE X (.Subscript a b pos) (tOp r ta tb):=by
  intro pins s σ H Q I h
  exact Subscript_ (binT ha hb I h fun v u s2 x y H2 I2 rx ry q=>hr a b pins s2 σ H2 x y v u Q I2 rx ry q (hs _ _))
noncomputable def rIxL (K:PySem.W.Frag):R2:=fun x y H Q=>∃ p xs i v,x = .ref p/\y = .int i/\SqL K H p xs/\atI xs i = some v/\Q v H
noncomputable def rIxT (K:PySem.W.Frag):R2:=fun x y H Q=>∃ p xs i v,x = .ref p/\y = .int i/\SqT K H p xs/\atI xs i = some v/\Q v H
noncomputable def rIxS:R2:=fun x y H Q=>∃ z i c,x = .str z/\y = .int i/\z.length<=sizeLine/\atI z.cps.toList i = some c/\Q (.str ⟨#[c]⟩) H
theorem ix_list:IxR X (rIxL X.K):=by
  intro value slice pins s σ H x y v u Q I rx ry h hs
  obtain ⟨p,xs,i,z,rfl,rfl,hq,he,q⟩:=h
  cases rx
  obtain ⟨t,rfl⟩:=ry
  obtain ⟨its,r,pl,hz⟩:=I.list hq
  obtain ⟨j,h1,h2,h3,h4,h5⟩:=atI_get he
  obtain ⟨w,ew,rw'⟩:=r.get h2
  have hl:=r.length
  have hn:=line63
  have fin:EP X pins σ Q w s:=⟨z,H,I,rw',q⟩
  by_cases h0:0<=i
  · have hj:i.toNat = j:=by
      rw [seqIndex_of h0 h5] at h1
      exact Option.some.inj h1
    exact item_listR pl.isList h0 (by omega) (by rw [hj]; simpa using ew) fin hs
  · have hj:(i + (its.toArray.size:Int)).toNat = j:=by
      rw [seqIndex_neg (by omega) h4] at h1
      rw [List.size_toArray,<- hl]
      exact Option.some.inj h1
    exact subscriptTail_builtinR (x:=w) pl.isList.typeIs slot_list_getitem.lookup
      (wpAny_getItem_list_neg (Q:=fun r s'=>r = w/\EP X pins σ Q r s') pl.isList (by omega) (by rw [List.size_toArray] <;> omega) (by omega) (by rw [hj]; simpa using ew) ⟨rfl,fin⟩) hs
theorem ix_tup:IxR X (rIxT X.K):=by
  intro value slice pins s σ H x y v u Q I rx ry h hs
  obtain ⟨p,xs,i,z,rfl,rfl,hq,he,q⟩:=h
  cases rx
  obtain ⟨t,rfl⟩:=ry
  obtain ⟨its,r,pl,hz⟩:=I.tuple hq
  obtain ⟨j,h1,h2,h3,h4,h5⟩:=atI_get he
  obtain ⟨w,ew,rw'⟩:=r.get h2
  have hl:=r.length
  have hn:=line63
  have fin:EP X pins σ Q w s:=⟨z,H,I,rw',q⟩
  exact subscriptTail_builtinR (x:=w) pl.typeIs slot_tuple_getitem.lookup
    (getItem_tuple (j:=j) (Q:=fun r s'=>r = w/\EP X pins σ Q r s') pl (by omega) (by omega) (by rw [List.size_toArray,<- hl]; exact h1) (by simpa using ew) ⟨rfl,fin⟩) hs
theorem ix_str:IxR X rIxS:=by
  intro value slice pins s σ H x y v u Q I rx ry h hs
  obtain ⟨z,i,c,rfl,rfl,hz,he,q⟩:=h
  obtain ⟨t,rfl⟩:=rx
  obtain ⟨t',rfl⟩:=ry
  obtain ⟨j,h1,h2,h3,h4,h5⟩:=atI_get he
  have hl:z.cps.toList.length = z.length:=by simp [Str.length]
  rw [hl] at h1 h4 h5
  have hn:=line63
  exact tail_any (typeIs_str s z t) slot_str_getitem.lookup (getItem_str (c:=c) (by
    have e1:decide (i < -(2 ^ 63:Int)) = false:=decide_eq_false (by omega)
    have e2:decide (i >= 2 ^ 63) = false:=decide_eq_false (by omega)
    rw [e1,e2,Bool.or_false]) (by rw [h1]; simpa using h2) ⟨.str ⟨#[c]⟩,H,I.tok _,⟨_,rfl⟩,q⟩) hs
noncomputable def rIx (K:PySem.W.Frag):R2:=fun x y H Q=>rIxL K x y H Q\/rIxT K x y H Q\/rIxS x y H Q
theorem ix_seq:IxR X (rIx X.K):=ix_list.or (ix_tup.or ix_str)
theorem mapSeq_set (its:List Value) (n j:Nat) (u:Value):Obj.mapSeq (·.setIfInBounds j u) { cls:=.type "list",data:=.seq its.toArray n } = { cls:=.type "list",data:=.seq (its.set j u).toArray n }:=by
  simp [Obj.mapSeq]
theorem Inv.lst {pins:List (Addr × Obj)} {σ:St} {H:Hp} {s:Shared} {p:Addr} {xs:List V} (I:Inv X pins σ H s) (h:H p = some (.lst xs)) :
    ∃ (its:List Value) (n:Nat),Vals xs its/\s.heap.get? p = some { cls:=.type "list",data:=.seq its.toArray n }/\xs.length<=sizeLine:=by
  obtain ⟨z,its,n,r,e⟩:=I.hok p _ h
  exact ⟨its,n,r,e,z⟩
theorem Inv.lstUpd {pins:List (Addr × Obj)} {σ:St} {H:Hp} {s:Shared} {p:Addr} {xs ys:List V} {its its':List Value} {n n':Nat} {f:Obj->Obj} (I:Inv X pins σ H s) (h:H p = some (.lst xs))
    (ho:s.heap.get? p = some { cls:=.type "list",data:=.seq its.toArray n }) (hf:f { cls:=.type "list",data:=.seq its.toArray n } = { cls:=.type "list",data:=.seq its'.toArray n' }) (r:Vals ys its') (hz:ys.length<=sizeLine) (t:Nat) :
    Inv X pins σ (upd H p (.lst ys)) { s with heap:=s.heap.update p f,toks:=t }:=by
  have e:(s.heap.update p f).get? p = some { cls:=.type "list",data:=.seq its'.toArray n' }:=by
    rw [Heap.get?_update_self f ho (by rw [hf] <;> rfl),hf]
  refine I.write (x:=p) (e:=p) (by rw [h]; trivial) (.inl rfl) (fun b u hb q=>(Heap.get?_update_other _ _ (Ne.symm hb)).trans q) ⟨_,e⟩ ?_
  exact ⟨hz,its',n',r,e⟩
noncomputable def rSetL:V->V->V->Hp->(Hp->Prop)->Prop:=fun o i v H Q=>∃ p xs k j,o = .ref p/\i = .int k/\H p = some (.lst xs)/\ixN xs.length k = some j/\Q (upd H p (.lst (xs.set j v)))
theorem set_list:PSet X rSetL:=by
  intro pins s σ H o i v ov iv u Q I ro ri rv h
  obtain ⟨p,xs,k,j,rfl,rfl,hp,hj,q⟩:=h
  cases ro
  obtain ⟨t,rfl⟩:=ri
  obtain ⟨its,n,r,ho,hz⟩:=I.lst hp
  obtain ⟨h1,h2,h3,h4⟩:=ixN_seq hj
  have hl:=r.length
  have hn:=line63
  have I':Inv X pins σ (upd H p (.lst (xs.set j v))) { s with heap:=s.heap.update p (Obj.mapSeq (·.setIfInBounds j u)) } :=
    I.lstUpd hp ho (mapSeq_set its n j u) (r.set rv j) (by rw [List.length_set]; exact hz) s.toks
  by_cases h0:0<=k
  · have hk:k.toNat = j:=by
      rw [seqIndex_of h0 h4] at h1
      exact Option.some.inj h1
    exact PySem.W.ki_setAt ho h0 (by omega) (by rw [List.size_toArray,<- hl]; exact h4) (by rw [hk]; exact ⟨_,I',q⟩)
  · have hk:(k + (its.toArray.size:Int)).toNat = j:=by
      rw [seqIndex_neg (by omega) h3] at h1
      rw [List.size_toArray,<- hl]
      exact Option.some.inj h1
    exact PySem.W.ki_setBack ho (by omega) (by rw [List.size_toArray,<- hl]; exact h3) (by omega) (by rw [hk]; exact ⟨_,I',q⟩)
theorem slice_bounds (lo hi:Option Int) (n:Nat):(sliceBounds lo hi none n).1 = ((HT.sIx n 0 lo:Nat):Int)/\(sliceBounds lo hi none n).2.1 = ((HT.sIx n n hi:Nat):Int)/\(sliceBounds lo hi none n).2.2 = 1:=by
  refine ⟨?_,?_,rfl⟩
  · cases lo with
    | none=>simp [sliceBounds,HT.sIx]
    | some i =>
      simp only [sliceBounds,HT.sIx,Option.getD_none,show (1:Int) > 0 by decide,if_true]
      by_cases h:i < 0
      · simp only [h,if_true] <;> omega
      · simp only [h,if_false] <;> omega
  · cases hi with
    | none=>simp [sliceBounds,HT.sIx]
    | some i =>
      simp only [sliceBounds,HT.sIx,Option.getD_none,show (1:Int) > 0 by decide,if_true]
      by_cases h:i < 0
      · simp only [h,if_true] <;> omega
      · simp only [h,if_false] <;> omega
theorem slicePick_cut (its:List Value) (lo hi:Option Int):slicePick its.toArray lo hi none = ((its.drop (HT.sIx its.length 0 lo)).take (HT.sIx its.length its.length hi - HT.sIx its.length 0 lo)).toArray:=by
  obtain ⟨h1,h2,h3⟩:=slice_bounds lo hi its.toArray.size
  unfold slicePick
  rw [h1,h2,h3]
  simp only [sliceRange_one,pick_run,List.size_toArray] <;> rfl
noncomputable def rSlL (K:PySem.W.Frag):V->Option Int->Option Int->Hp->VK->Prop:=fun x lo hi H Q=>∃ a xs,x = .ref a/\SqL K H a xs/\∀ p,H p = none->Q (.ref p) (upd H p (.lst (cutV xs lo hi)))
theorem sl_list:SlR X (rSlL X.K):=by
  intro pins s σ H x v vl vu lo hi sl Q I rx hs pl pu h
  obtain ⟨a,xs,rfl,hx,q⟩:=h
  cases rx
  obtain ⟨its,r,ht,hz⟩:=I.list hx
  have hlen:=r.length
  refine ⟨"list",_,slot_list_getitem.lookup,ht.isList.typeIs,?_⟩
  refine wpAny_getItem_list_slice ht.isList hs pl pu .none (by simp) ?_ (by rw [List.size_toArray] <;> omega)
  rw [slicePick_cut,<- hlen]
  refine ⟨.ref s.heap.objs.size,_,I.laid (t':=s.toks) (o:=.lst (cutV xs lo hi)) (fun b ob q=>Heap.get?_push_of_some _ q) (Nat.le_refl _) ?_,rfl,q _ (I.hok.fresh (Nat.le_refl _))⟩
  exact ⟨Nat.le_trans (cutV_length xs lo hi) hz,_,0,(r.drop (HT.sIx xs.length 0 lo)).take (HT.sIx xs.length xs.length hi - HT.sIx xs.length 0 lo),Heap.get?_push_size _ rfl⟩
theorem call_len_seq:CallR X (.builtin "len") (fun xs H Q=>∃ p ys,xs = [.ref p]/\(SqL X.K H p ys\/SqT X.K H p ys)/\Q (.int ys.length) H):=by
  intro pins s σ H xs us Q I r h
  obtain ⟨p,ys,rfl,hq,q⟩:=h
  obtain ⟨u,rfl,rx⟩:=vals1 r
  cases rx
  have hn:=line63
  rcases hq with hq | hq
  · obtain ⟨its,r',pl,hz⟩:=I.list hq
    have hlen:=r'.length
    exact Calls.call_len_list pl.isList (by simp only [List.size_toArray] <;> omega) ⟨.int ys.length,H,I.tok _,⟨s.toks + 1,by rw [List.size_toArray,hlen]⟩,q⟩
  · obtain ⟨its,r',pl,hz⟩:=I.tuple hq
    have hlen:=r'.length
    exact len_tuple pl (by simp only [List.size_toArray] <;> omega) ⟨.int ys.length,H,I.tok _,⟨s.toks + 1,by rw [List.size_toArray,hlen]⟩,q⟩
theorem CallR.or {f:Value} {r r':List V->Hp->VK->Prop} (h:CallR X f r) (h':CallR X f r'):CallR X f (fun xs H Q=>r xs H Q\/r' xs H Q):=by
  intro pins s σ H xs us Q I rs q
  rcases q with q | q
  · exact h pins s σ H xs us Q I rs q
  · exact h' pins s σ H xs us Q I rs q
theorem call_list_of:CallR X (.type "list") (fun xs H Q=>∃ p ys,xs = [.ref p]/\(SqL X.K H p ys\/SqT X.K H p ys)/\∀ l,H l = none->Q (.ref l) (upd H l (.lst ys))):=by
  intro pins s σ H xs us Q I r h
  obtain ⟨p,ys,rfl,hq,q⟩:=h
  obtain ⟨u,rfl,rx⟩:=vals1 r
  cases rx
  have fin:∀ (its:List Value),Vals ys its->ys.length<=sizeLine->∀ (h':Heap) (c':Nat),(∀ b o',s.heap.get? b = some o'->h'.get? b = some o') ->
      h'.get? s.heap.objs.size = some { cls:=.type "list",dict:=none,data:=.seq its.toArray c',slots:=#[] }->EP X pins σ Q (.ref s.heap.objs.size) { s with heap:=h' }:=fun its r' hz h' c' kp e =>
    ⟨.ref s.heap.objs.size,_,I.laid (t':=s.toks) kp (Nat.le_refl _) (show ObjOk X.prog X.w _ h' _ (.lst ys) from ⟨hz,its,c',r',e⟩),rfl,q _ (I.hok.fresh (Nat.le_refl _))⟩
  rcases hq with hq | hq
  · obtain ⟨its,r',pl,hz⟩:=I.list hq
    have hlen:=r'.length
    obtain ⟨o,ho,hc,n,hd⟩:=pl.isList
    exact call_list_seq p (.inl rfl) ho hc hd (fun h' c' kp e=>fin its r' hz h' c' kp e) (by simp only [List.size_toArray] <;> omega)
  · obtain ⟨its,r',pl,hz⟩:=I.tuple hq
    have hlen:=r'.length
    obtain ⟨o,ho,hc,n,hd⟩:=pl
    exact call_list_seq p (.inr rfl) ho hc hd (fun h' c' kp e=>fin its r' hz h' c' kp e) (by simp only [List.size_toArray] <;> omega)
theorem call_tuple_of:CallR X (.type "tuple") (fun xs H Q=>∃ p ys,xs = [.ref p]/\((SqL X.K H p ys/\∀ l,H l = none->Q (.ref l) (upd H l (.tup ys)))\/(SqT X.K H p ys/\Q (.ref p) H))):=by
  intro pins s σ H xs us Q I r h
  obtain ⟨p,ys,rfl,h⟩:=h
  obtain ⟨u,rfl,rx⟩:=vals1 r
  cases rx
  rcases h with ⟨hq,q⟩ | ⟨hq,q⟩
  · obtain ⟨its,r',pl,hz⟩:=I.list hq
    have hlen:=r'.length
    refine call_tuple_list pl.isList (fun h' kp=>?_) (by simp only [List.size_toArray] <;> omega)
    have I1:Inv X pins σ H { s with heap:=h' }:=I.kept (t':=s.toks) kp
    have I2:Inv X pins σ (upd H h'.objs.size (.tup ys)) { s with heap:=h'.push { cls:=.type "tuple",data:=.seq its.toArray } } :=
      I1.laid (t':=s.toks) (fun b o e=>Heap.get?_push_of_some _ e) (Nat.le_refl _) (show ObjOk X.prog X.w _ _ _ (.tup ys) from ⟨hz,its,r',TupD.new _ _⟩)
    exact ⟨.ref h'.objs.size,_,I2,rfl,q _ (I1.hok.fresh (Nat.le_refl _))⟩
  · obtain ⟨its,r',pl,hz⟩:=I.tuple hq
    exact call_tuple_same pl ⟨.ref p,H,I,rfl,q⟩
noncomputable def tyV (K:PySem.W.Frag) (T:String) (x:V) (H:Hp):Prop:=match x with
  | .str _=>T = "str"
  | .int _=>T = "int"
  | .ref p=>(T = "list"/\∃ xs,SqL K H p xs)\/(T = "tuple"/\∃ xs,SqT K H p xs) \/
      (T = "dict"/\((∃ kvs,H p = some (.dK kvs))\/∃ kvs,H p = some (.dT kvs)))\/(T = "set"/\∃ S n,H p = some (.set S n))
  | _=>False
theorem tyV_is {pins:List (Addr × Obj)} {σ:St} {H:Hp} {s:Shared} {T:String} {x:V} {v:Value} (I:Inv X pins σ H s) (r:RelV x v) (ty:tyV X.K T x H) :
    s.TypeIs v T/\∀ a,v = .ref a->∃ ob,s.heap.get? a = some ob/\ob.dict = none:=by
  cases x with
  | str z =>
    obtain ⟨t,rfl⟩:=r
    cases (show T = "str" from ty)
    exact ⟨typeIs_str s z t,fun _ e=>nomatch e⟩
  | int i =>
    obtain ⟨t,rfl⟩:=r
    cases (show T = "int" from ty)
    exact ⟨typeIs_int s i t,fun _ e=>nomatch e⟩
  | ref p =>
    cases r
    rcases ty with ⟨rfl,xs,hq⟩ | ⟨rfl,xs,hq⟩ | ⟨rfl,hk⟩ | ⟨rfl,S,n,hk⟩
    · obtain ⟨its,_,pl,_⟩:=I.list hq
      refine ⟨pl.isList.typeIs,fun a e=>?_⟩
      cases e
      obtain ⟨o,n,e,c,hd,_⟩:=pl
      exact ⟨o,e,hd⟩
    · rcases hq with hq | ⟨o,its,n,hk,hc,hd,_⟩
      · obtain ⟨_,_,_,⟨o,e1,e2,_⟩,o2,e3,e4⟩:=hq.ok I.hok
        exact ⟨⟨o,e1,e2⟩,fun a e=>by cases e; exact ⟨o2,e3,e4⟩⟩
      · exact ⟨⟨o,I.kIn p o hk,hc⟩,fun a e=>by cases e; exact ⟨o,I.kIn _ o hk,hd⟩⟩
    · have z:∃ o,s.heap.get? p = some o/\o.ExactDict:=by
        rcases hk with ⟨kvs,hk⟩ | ⟨kvs,hk⟩
        · obtain ⟨_,_,_,_,o,_,_,e,ex,_⟩:=I.hok p _ hk
          exact ⟨o,e,ex⟩
        · obtain ⟨_,_,_,_,o,_,_,e,ex,_⟩:=I.hok p _ hk
          exact ⟨o,e,ex⟩
      obtain ⟨o,e,ex⟩:=z
      refine ⟨⟨o,e,ex.1⟩,fun a e2=>?_⟩
      cases e2
      exact ⟨o,e,ex.2.1⟩
    · obtain ⟨o,_,_,_,e,ex,_⟩:=I.hok p _ hk
      refine ⟨⟨o,e,ex.1⟩,fun a e2=>?_⟩
      cases e2
      exact ⟨o,e,ex.2.1⟩
  | _=>exact False.elim ty
noncomputable def tBM (K:PySem.W.Frag) (T:String) (r:V->List V->Hp->VK->Prop) (to:TE) (t:TA):TE:=fun σ H Q=>to σ H fun x H1=>tyV K T x H1/\t σ H1 fun xs H2=>r x xs H2 Q
variable {o e:Expr} {es:List Expr} {to:TE} {t:TA} {name:Str} {apos cpos:Pos} {T id:String} {r:V->List V->Hp->VK->Prop}
theorem pe_bm (pa:PlainAttrs T) (slot:Slot T name id) (hty:typeOf (.builtin id) = pure (.type "method_descriptor")) (hm:MtR X id r) (ho:PE X o to) (ha:PA X (e :: es) t)
    (hbase:attributeBase o name X.env (eval o X.env) = eval o X.env:=by rfl)
    (hfew:((backTo cpos (starEach (e :: es) X.env)).all (fun x=>!x.1) && (backToKw cpos (keywordEach [] X.env)).all (fun x=>x.1.isSome)
      && decide ((e :: es).length + ([]:List Keyword).length + (if ([]:List Keyword).isEmpty then 0 else 1) < 30)) = true:=by rfl)
    (hline:(apos.endLine == cpos.line) = true:=by rfl) (hs:starEach (e :: es) X.env = (false,eval e X.env) :: starEach es X.env:=by rfl) (hplain:(backTo cpos (starEach es X.env)).any (·.1) = false:=by rfl) :
    PE X (.Call (.Attribute o name apos) (e :: es) [] cpos) (tBM X.K T r to t):=by
  intro pins s σ H Q I h
  refine wpAny_Call_method_late hbase hfew hline rfl (thn (ho pins s σ H _ I h) fun v s1 ⟨x,H1,I1,r1,ty,q1⟩=>?_)
  obtain ⟨h1,h2⟩:=tyV_is I1 r1 ty
  refine ⟨T,id,pa,slot,hty,h1,h2,?_⟩
  have hA:=ha cpos pins s1 σ H1 _ I1 q1
  rw [hs] at hA ⊢
  refine Calls.callWith_builtin (by show (false || (backTo cpos (starEach es X.env)).any (·.1)) = false; rw [hplain] <;> rfl) (Calls.evalArgs_plain ?_)
  exact thn hA fun us s2 ⟨vs,H2,I2,r2,q2⟩=>hm pins s2 σ H2 x vs v us Q I2 r1 r2 q2
/- xs.append(e),list.index on a module's tuple .. are MtR facts of 06m -/
end
end L2
namespace L2
open PySem PySem.Spec PyProof.Rows
noncomputable def MtM (X:Cx) (id:String) (r:V->List V->Hp->VK->Prop):Prop :=
  ∀ (pins:List (Addr × Obj)) (s:Shared) (σ:St) (H:Hp) (x:V) (xs:List V) (v:Value) (us:List Value) (Q:VK),Inv X pins σ H s->RelV x v->Vals xs us->r x xs H Q ->
    wpAny (model X.prog X.w) X.A (call (.builtin id) (v :: us)) (EP X pins σ Q) X.xe s
theorem Vals.one:∀ {x:V} {us:List Value},Vals [x] us->∃ u,us = [u]/\RelV x u
  | _,_,.cons r .nil=>⟨_,rfl,r⟩
theorem Vals.two:∀ {x y:V} {us:List Value},Vals [x,y] us->∃ u v,us = [u,v]/\RelV x u/\RelV y v
  | _,_,_,.cons r (.cons q .nil)=>⟨_,_,rfl,r,q⟩
theorem Vals.reverse {xs:List V} {us:List Value} (h:Vals xs us):Vals xs.reverse us.reverse:=by
  induction h with
  | nil=>exact .nil
  | cons r t ih=>rw [List.reverse_cons,List.reverse_cons]; exact Vals.append ih (.cons r .nil)
theorem Vals.rep {xs:List V} {us:List Value} (h:Vals xs us):∀ k:Nat,Vals (List.replicate k xs).flatten (List.replicate k us).flatten
  | 0=>.nil
  | k + 1=>by
    rw [List.replicate_succ,List.replicate_succ,List.flatten_cons,List.flatten_cons]
    exact Vals.append h (Vals.rep h k)
theorem foldl_rep (its:List Value):∀ (k:Nat) (acc:List Value),
    List.foldl (fun x1 x2=>x1 ++ x2) acc.toArray (List.replicate k its.toArray) = (acc ++ (List.replicate k its).flatten).toArray
  | 0,acc=>by simp
  | k + 1,acc=>by
    have e:acc.toArray ++ its.toArray = (acc ++ its).toArray:=by simp
    have e2:(acc ++ its) ++ (List.replicate k its).flatten = acc ++ (List.replicate (k + 1) its).flatten:=by
      rw [List.replicate_succ,List.flatten_cons,List.append_assoc]
    rw [<- e2,<- foldl_rep its k (acc ++ its),<- e,List.replicate_succ,List.foldl_cons]
section
variable {X:Cx} {pins:List (Addr × Obj)} {σ:St} {H:Hp} {s:Shared} {l b:Addr} {xs ys zs:List V}
theorem Inv.lset {its its':List Value} {n:Nat} {f:Array Value->Array Value} {t':Nat} (I:Inv X pins σ H s) (hH:H l = some (.lst xs))
    (e:s.heap.get? l = some { cls:=.type "list",data:=.seq its.toArray n }) (hf:f its.toArray = its'.toArray) (hv:Vals ys its') (hz:ys.length<=sizeLine) :
    Inv X pins σ (upd H l (.lst ys)) { s with heap:=s.heap.update l (Obj.mapSeq f),toks:=t' }:=by
  have q:=PySem.IsL.update e f
  rw [hf] at q
  refine I.write (x:=l) (e:=l) (by rw [hH]; exact trivial) (.inl rfl) (fun b' u hb hu=>(Heap.get?_update_other s.heap (Obj.mapSeq f) (Ne.symm hb)).trans hu) ⟨_,q⟩ ?_
  exact ⟨hz,its',_,hv,q⟩
theorem Inv.lnew {its:List Value} {t':Nat} (I:Inv X pins σ H s) (hv:Vals ys its) (hz:ys.length<=sizeLine) :
    Inv X pins σ (upd H s.heap.objs.size (.lst ys)) { s with heap:=s.heap.push { cls:=.type "list",data:=.seq its.toArray },toks:=t' } :=
  I.laid (fun _ _ q=>Heap.get?_push_of_some _ q) (Nat.le_refl _) ⟨hz,its,0,hv,Heap.get?_push_size _ rfl⟩
theorem Inv.fresh (I:Inv X pins σ H s):H s.heap.objs.size = none:=I.hok.fresh (Nat.le_refl _)
theorem Inv.lstM (I:Inv X pins σ H s) (hH:H l = some (.lst xs)):xs.length<=sizeLine/\∃ (its:List Value) (n:Nat),Vals xs its/\xs.length = its.length/\s.heap.get? l = some { cls:=.type "list",data:=.seq its.toArray n }:=by
  obtain ⟨z,its,n,r,e⟩:=I.hok l _ hH
  exact ⟨z,its,n,r,r.length,e⟩
theorem notLongL {n:Nat} (h:n<=sizeLine):Builtin.List.listTooLong n = false:=by
  unfold Builtin.List.listTooLong
  exact decide_eq_false (by omega)
end
section
variable {X:Cx}
noncomputable def rAppend:V->List V->Hp->VK->Prop:=fun x vs H Q=>∃ l xs y,x = .ref l/\vs = [y]/\H l = some (.lst xs)/\xs.length < sizeLine/\Q .non (upd H l (.lst (xs ++ [y])))
theorem mt_append:MtM X "list.append" rAppend:=by
  intro pins s σ H x vs v us Q I rx rv h
  obtain ⟨l,xs,y,rfl,rfl,hH,hz,q⟩:=h
  cases rx
  obtain ⟨u,rfl,ru⟩:=rv.one
  obtain ⟨z,its,n,r,hl,e⟩:=I.lstM hH
  refine call_meets F.slot_list_append ⟨_,e,rfl⟩ F.entry_list_append (F.args_list_append_2 _ _) (PySem.list_append l its.toArray n u (by rw [List.size_toArray]; omega)) ⟨e,?_⟩
  refine ⟨.non,_,I.lset (its':=its ++ [u]) hH e (by simp) (r.append (.cons ru .nil)) ?_,rfl,q⟩
  rw [List.length_append,List.length_singleton]
  omega
noncomputable def rExtend:V->List V->Hp->VK->Prop:=fun x vs H Q=>∃ l b xs zs,x = .ref l/\vs = [.ref b]/\H l = some (.lst xs)/\H b = some (.lst zs)/\xs.length + zs.length<=sizeLine/\Q .non (upd H l (.lst (xs ++ zs)))
theorem mt_extend:MtM X "list.extend" rExtend:=by
  intro pins s σ H x vs v us Q I rx rv h
  obtain ⟨l,b,xs,zs,rfl,rfl,hH,hB,hz,q⟩:=h
  cases rx
  obtain ⟨u,rfl,ru⟩:=rv.one
  cases ru
  obtain ⟨z,its,n,r,hl,e⟩:=I.lstM hH
  obtain ⟨z2,its2,n2,r2,hl2,e2⟩:=I.lstM hB
  have hsz:its.toArray.size + its2.toArray.size<=sizeLine:=by rw [List.size_toArray,List.size_toArray]; omega
  have hlong:¬ (!its.toArray.isEmpty && Builtin.List.listTooLong (its.toArray.size + its2.toArray.size)) = true:=by
    rw [notLongL hsz,Bool.and_false]
    exact Bool.false_ne_true
  refine call_meets F.slot_list_extend ⟨_,e,rfl⟩ F.entry_list_extend (F.args_list_extend_2 _ _)
    (AutoSeq1.list_extend_list_list_0 l its.toArray n b its2.toArray n2 hlong (by rw [List.size_toArray]; omega) (by omega)) ⟨e,e2,?_⟩
  refine ⟨.non,_,I.lset (its':=its ++ its2) hH e (by simp) (r.append r2) ?_,rfl,q⟩
  rw [List.length_append]
  omega
noncomputable def rRep:R2:=fun x y H Q=>∃ l k xs,x = .ref l/\y = .int k/\H l = some (.lst xs)/\-(2 ^ 63)<=k/\k < 2 ^ 63/\xs.length * k.toNat<=sizeLine /\
  ∀ p,H p = none->Q (.ref p) (upd H p (.lst (List.replicate k.toNat xs).flatten))
theorem len_rep {α:Type} (xs:List α) (k:Nat):(List.replicate k xs).flatten.length = k * xs.length:=by
  induction k with
  | zero=>simp
  | succ k ih=>rw [List.replicate_succ,List.flatten_cons,List.length_append,ih,Nat.succ_mul,Nat.add_comm]
theorem op_rep:OpR X (binaryOp .Mult) rRep:=by
  intro pins s σ H x y v u Q I rx ry h
  obtain ⟨l,k,xs,rfl,rfl,hH,h1,h2,hz,q⟩:=h
  cases rx
  obtain ⟨t,rfl⟩:=ry
  obtain ⟨z,its,n,r,hl,e⟩:=I.lstM hH
  have hlen:its.toArray.size * k.toNat<=sizeLine:=by rw [List.size_toArray,<- hl]; exact hz
  have hcap:¬ its.toArray.size * k.toNat > (2 ^ 63 - 1) / 8:=by
    have:(sizeLine:Nat)<=(2 ^ 63 - 1) / 8:=by decide
    omega
  have hfit:¬ (!Builtin.List.listFitsIndex k) = true:=by
    rw [fitsIndex_both h1 h2]
    exact Bool.false_ne_true
  have hlong:¬ Builtin.List.listTooLong (its.toArray.size * k.toNat) = true:=by
    rw [notLongL hlen]
    exact Bool.false_ne_true
  have hnew:List.foldl (fun x1 x2=>x1 ++ x2) #[] (List.replicate (if its.toArray.isEmpty = true then 0 else k.toNat) its.toArray) = (List.replicate k.toNat its).flatten.toArray:=by
    have f0:∀ m:Nat,List.foldl (fun x1 x2=>x1 ++ x2) #[] (List.replicate m its.toArray) = (List.replicate m its).flatten.toArray:=fun m=>by
      have:=foldl_rep its m []
      rw [List.nil_append] at this
      exact this
    rw [f0]
    cases its with
    | nil=>simp
    | cons a r'=>rw [if_neg (by simp)]
  refine wpAny_binaryOp_repeat_ref (T:="list") (U:="int") (by decide) ⟨_,e,rfl⟩ (fun s'=>typeIs_int s' k t) noFill_list_mul F.fills_int_mul F.slot_int_rmul repeat_list F.slot_int_index.lookup
    (call_meets F.slot_int_rmul (typeIs_int s k t) F.entry_int_rmul (F.args_int_rmul_2 _ _) (int___rmul___int_list k t l its.toArray n)
      ⟨e,rfl,⟨_,e,rfl⟩,call_meets F.slot_list_mul ⟨_,e,rfl⟩ F.entry_list_mul (F.args_list_mul_2 _ _) (AutoListH.list___mul___list_int_3 l its.toArray n k t hfit hcap hlong) ⟨e,?_⟩⟩)
  rw [hnew]
  exact ⟨.ref _,_,I.lnew (t':=s.toks) (r.rep k.toNat) (by rw [len_rep,Nat.mul_comm]; exact hz),rfl,q _ I.fresh⟩
end
section
variable {prog:Program} {w:World} {A:Around} {E:Value->Shared->Prop} {s:Shared}
end
section
variable {X:Cx}
end
end L2
namespace Att
open PySem PySem.W PySem.Calls PyProof.Rows
theorem ints_of_wellAll {P:Params} {h:Heap}:∀ (ns:List Int) (vs:List Value),WellAll P h vs (ns.map WData.int)->IntsAre vs ns:=by
  intro ns
  induction ns with
  | nil =>
    intro vs w
    rw [List.map_nil] at w
    cases w
    exact .nil
  | cons n ns ih =>
    intro vs w
    rw [List.map_cons] at w
    cases w with
    | cons a b =>
      cases a
      exact .cons _ _ (ih _ b)
theorem script_of {l:OpenLaw} {n:Nat} (hn:l.most = some n) {P:Params} {h:Heap} {args:List WData} {vals:List Value}
    (hpre:l.row.toRowW.claim.pre args = true) (hwl:WellAll P h vals args) :
    ∃ a vs ns,vals = [Value.ref a]/\args = [WData.list (ns.map WData.int)]/\h.get? a = some { cls:=.type "list",data:=.seq vs.toArray }/\IntsAre vs ns/\ns.length<=n:=by
  have hsh:WShape.hasAll [] args [.list .int] = true:=(pre_splitW hpre).1
  have hc:l.pre.holds [] { args:=args } = true:=(pre_splitW hpre).2
  obtain ⟨d,r,rfl,h1,h2⟩:=hasAllW_cons hsh
  obtain rfl:=hasAllW_nil h2
  obtain ⟨xs,rfl,h3⟩:=hasW_list h1
  obtain ⟨ns,rfl⟩:=items_int h3
  have hlen:ns.length<=n:=by
    unfold OpenLaw.pre at hc
    have h4:(WTm.not (.lt (.lit (.int (n:Int))) (.len (.arg 0)))).holds [] { args:=[.list (ns.map .int)] } = true:=by
      have h4:=(holds_andW hc).1
      rw [hn] at h4
      exact h4
    have h5:=condW_of h4 (w_not (w_lt w_lit (w_len_list (w_arg rfl))))
    rw [List.length_map] at h5
    refine Nat.le_of_not_lt fun q=>?_
    have q':(n:Int) < ((ns.length:Nat):Int):=by omega
    first
      | (rw [decide_eq_true q'] at h5; exact absurd h5 (by decide))
      | (simp at h5; omega)
  cases hwl with
  | cons w1 w2 =>
    cases w2
    cases w1 with
    | list ho hall=>exact ⟨_,_,ns,rfl,rfl,ho,ints_of_wellAll ns _ hall,hlen⟩
theorem post_true (l:OpenLaw) (args:List WData):l.row.toRowW.claim.post args (.bool true) args = true :=
  postW_of (r:=l.row.toRowW) (X:=(true == true))
    (show WShape.has [] (.bool true) .bool = true by first | rfl | decide | simp [WShape.has,WShape.arms,WShape.armsAll])
    (show (WTm.eq .res (.lit (.bool true))).value [] { args:=args,res:=some (.bool true),after:=args } = some (.bool (true == true)) from w_eq_bool (w_res rfl) w_lit) rfl
theorem attach_call {l:OpenLaw} {n:Nat} {q:Program} {loose:List Str} {XP:(Str->Option Value)->Heap->Prop} {YP:World->Heap->Prop} {d:DefRec}
    (hn:l.most = some n) (hdf:d.params.defaults = [])
    (call:∀ (w:World) (s₀ s₁:Shared) (mg mb:Str->Option Value) (fa:Addr) (o:Obj) (pm cd doc:Value) (a:Addr) (vs:List Value) (ns:List Int),
      Ground q loose [] XP w s₀ mg mb s₁.heap->YP w s₁.heap ->
      s₁.heap.get? fa = some o->o.data = .func (docDef d.name d.params d.body d.scope pm cd doc)->s₁.heap.CodeRec cd d.name->mg d.name = some (.ref fa) ->
      s₁.heap.get? a = some { cls:=.type "list",data:=.seq vs.toArray }->IntsAre vs ns->ns.length<=n->s₁.gens = #[] ->
      codeAny (model l.prog w) callerA (.call (.ref fa) ⟨[.ref a],[]⟩) (fun r s'=>r = .ok (.ret (.bool true))/\OldK s₁.heap s'.heap/\s'.os = s₁.os/\AllBare s'.gens) s₁) :
    WalkO q loose XP YP l.row.toRowW d [] (fun f vs=>PySem.call f vs):=by
  intro w s₀ s₁ mg mb G Y fa o pm cd doc dV kV ho hd hcd hD hmg hg args vals as hpre hlay hrd hwl hlo
  obtain rfl:dV = .none:=Dflts.none hD hdf
  obtain rfl:kV = .none:=Dflts.noKw hD
  obtain ⟨a,vs,ns,rfl,rfl,hobj,hints,hlen⟩:=script_of hn hpre hwl
  refine enter_call (codeAny_mono (call w s₀ s₁ mg mb fa o pm cd doc a vs ns G Y ho (fd_plain hd) hcd hmg hobj hints hlen hg) fun r s' hq=>?_)
  obtain ⟨rfl,h2,h3,h4⟩:=hq
  exact ⟨.inl ⟨.bool true,.bool true,[],rfl,fun _=>rfl,.bool true,post_true l _,fun _=>⟨List.Pairwise.nil,fun _ hm=>(nomatch hm)⟩⟩,h2,h3,h4⟩
section
variable {prog:Program} {w:World} {A:Around} {E:Value->Shared->Prop} {s:Shared} {K:Frag}
end
end Att
namespace L2
open PySem PySem.Spec PyProof.Rows
theorem vals_ints:∀ {vs:List Value} {ns:List Int},IntsAre vs ns->Vals (ns.map V.int) vs
  | _,_,.nil=>.nil
  | _,_,.cons n t h=>.cons ⟨t,rfl⟩ (vals_ints h)
end L2
namespace L2
open PySem PySem.Spec PyProof.Rows
noncomputable def defArgs (s:Stmt):Arguments:=match s with
  | .FunctionDef _ a _ _ _ _ _ _ _ _=>a
  | _=>{ posonlyargs:=[],args:=[],vararg:=none,kwonlyargs:=[],kw_defaults:=[],kwarg:=none,defaults:=[] }
noncomputable def defBody (s:Stmt):List Stmt:=match s with
  | .FunctionDef _ _ b _ _ _ _ _ _ _=>b
  | _=>[]
noncomputable def defScope (s:Stmt):Scope:=match s with
  | .FunctionDef _ _ _ _ _ _ sc _ _ _=>sc
  | _=>{ kind:=.function,names:=[],isGenerator:=false,isCoroutine:=false }
noncomputable abbrev CX0:CXT:=fun _ _ _ _ _ _=>False
noncomputable abbrev E0:XK:=fun _ _ _=>False
theorem pass0 {X:Cx}:Passes CX0 X E0:=fun _ _ _ _ _ _ _ h=>h.elim
structure Fun (K:PySem.W.Frag) (x qual:Str) (st:Stmt) (f:Addr) (fd:FuncData):Prop where
  ex:∃ (oc:Value) (od:Option Addr) (kV doc pm:Value) (an:Option Addr) (cdv ct:Value) (osl:Array (Option Value)),
    fd = PySem.W.fnOf x qual (defArgs st) (defBody st) (defScope st) .none kV doc pm an cdv ct/\K.lookup f = some ⟨oc,od,.func fd,osl⟩/\PySem.W.codeIn K cdv qual = true
  kp:PySem.W.keepIn K (.ref f) = true
section
variable {P:Program} {w:World} {K:PySem.W.Frag} {mg:Str->Option Value} {base:Heap}
theorem Fun.ok {x qual:Str} {st:Stmt} {f:Addr} {fd:FuncData} {N ps:List Str} {k:Nat} {sp:Sp} (F:Fun K x qual st f fd) (S:FnScope N ps (defScope st)) (len:∀ vs H Q E,sp vs H Q E->vs.length = ps.length)
    (hbody:∀ (cdv:Value) (A:Around) (outer:List Env) (s:Shared) (H:Hp) (vs:List V) (Q:VK) (E:XK),Room k (A.deeper (envOfC qual (defScope st) s.heap.objs.size f cdv))->sp vs H Q E ->
      ∃ t,PSs (cxOf CX0 P w K mg base N qual (defScope st) f cdv A outer s H E).nox (defBody st) t/\t { nx:=fun _ H'=>Q .non H',rt:=Q } (start N vs) H):FnOk P w K mg base CX0 (k + 1) f fd ps sp:=by
  obtain ⟨oc,od,kV,doc,pm,an,cdv,ct,osl,rfl,lk,hcd⟩:=F.ex
  refine fn_of lk hcd S len fun A outer s H vs Q E hr hsp=>?_
  obtain ⟨t,h,q⟩:=hbody cdv A outer s H vs Q E hr hsp
  exact ⟨t,h.nox,q⟩
theorem Fun.binds {x qual:Str} {st:Stmt} {f:Addr} {fd:FuncData} {ps:List Str} (F:Fun K x qual st f fd)
    (h:∀ (kV doc pm:Value) (an:Option Addr) (cdv ct:Value) (us:List Value),us.length = ps.length->bindArgs (PySem.W.fnOf x qual (defArgs st) (defBody st) (defScope st) .none kV doc pm an cdv ct) ⟨us,[]⟩ = pure (ps.zip us)):Binds K fd ps []:=by
  obtain ⟨oc,od,kV,doc,pm,an,cdv,ct,osl,rfl,lk,hcd⟩:=F.ex
  exact .all (h kV doc pm an cdv ct)
theorem fun_mk {x qual:Str} {st:Stmt} {f:Addr} {oc:Value} {od an:Option Addr} {osl:Array (Option Value)} {kV doc pm cdv ct:Value} (l:K.lookup f = some ⟨oc,od,.func (PySem.W.fnOf x qual (defArgs st) (defBody st) (defScope st) .none kV doc pm an cdv ct),osl⟩)
    (c:PySem.W.codeIn K cdv qual = true) (k:PySem.W.keepIn K (.ref f) = true):Fun K x qual st f (PySem.W.fnOf x qual (defArgs st) (defBody st) (defScope st) .none kV doc pm an cdv ct):=⟨⟨oc,od,kV,doc,pm,an,cdv,ct,osl,rfl,l,c⟩,k⟩
end
section
variable {X:Cx}
end
theorem iteF {A B:Prop} (h:B):if false = true then A else B:=by
  rw [if_neg Bool.false_ne_true]
  exact h
theorem iteT {A B:Prop} (h:A):if true = true then A else B:=by
  rw [if_pos rfl]
  exact h
noncomputable def Same (H H':Hp):Prop:=∀ b o,H b = some o->H' b = some o
theorem Same.refl (H:Hp):Same H H:=fun _ _ h=>h
theorem Same.trans {H H1 H2:Hp} (a:Same H H1) (b:Same H1 H2):Same H H2:=fun c o h=>b c o (a c o h)
theorem Same.free {H H':Hp} (e:Same H H') {l:Addr} (h:H' l = Option.none):H l = Option.none:=by
  cases q:H l with
  | none=>rfl
  | some o =>
    rw [e l o q] at h
    cases h
theorem Same.seq {K:PySem.W.Frag} {H H':Hp} {a:Addr} {xs:List V} (e:Same H H') (h:SqL K H a xs):SqL K H' a xs:=by
  rcases h with (h | ⟨o,h⟩) | h
  · exact .inl (.inl (e _ _ h))
  · exact .inl (.inr ⟨o,e _ _ h⟩)
  · exact .inr h
end L2
namespace L2
open PySem PySem.Spec PyProof.Rows
theorem cellsFrom_app:∀ (names:List (Str × NameKind)) (n:Nat) (acc:List (Str × Addr)),cellsFrom n names acc = cellsFrom n names [] ++ acc
  | [],_,_=>rfl
  | (name,kind) :: r,n,acc=>by
    unfold cellsFrom
    split
    · rw [cellsFrom_app r (n + 1) ((name,n) :: acc),cellsFrom_app r (n + 1) [(name,n)]]
      simp
    · exact cellsFrom_app r n acc
theorem lookup_app_some {α:Type} {x:Str} {c:α}:∀ {l m:List (Str × α)},(l ++ m).lookup x = some c->l.lookup x = some c\/(l.lookup x = none/\m.lookup x = some c)
  | [],_,h=>.inr ⟨rfl,h⟩
  | (k,v) :: r,m,h=>by
    have ih:=@lookup_app_some α x c r m
    rw [List.cons_append,List.lookup_cons] at h
    rw [List.lookup_cons]
    cases e:x == k with
    | true=>rw [e] at h; exact .inl h
    | false=>rw [e] at h; exact ih h
theorem lookup_app_left {α:Type} {x:Str} {c:α}:∀ {l m:List (Str × α)},l.lookup x = some c->(l ++ m).lookup x = some c
  | [],_,h=>by cases h
  | (k,v) :: r,m,h=>by
    have ih:=@lookup_app_left α x c r m
    rw [List.lookup_cons] at h
    rw [List.cons_append,List.lookup_cons]
    cases e:x == k with
    | true=>rw [e] at h; exact h
    | false=>rw [e] at h; exact ih h
theorem lookup_app_right {α:Type} {x:Str}:∀ {l m:List (Str × α)},l.lookup x = none->(l ++ m).lookup x = m.lookup x
  | [],_,_=>rfl
  | (k,v) :: r,m,h=>by
    have ih:=@lookup_app_right α x r m
    rw [List.lookup_cons] at h
    rw [List.cons_append,List.lookup_cons]
    cases e:x == k with
    | true=>rw [e] at h; cases h
    | false=>rw [e] at h; exact ih h
theorem cellsFrom_kind:∀ (names:List (Str × NameKind)) (n:Nat) (x:Str) (c:Addr),(x,c) ∈ cellsFrom n names []->(x,NameKind.cell) ∈ names
  | [],_,_,_,h=>by cases h
  | (name,kind) :: r,n,x,c,h=>by
    unfold cellsFrom at h
    split at h
    · rename_i hk
      rw [cellsFrom_app] at h
      rcases List.mem_append.mp h with h | h
      · exact List.mem_cons_of_mem _ (cellsFrom_kind r _ x c h)
      · have:(x,c) = (name,n):=by simpa using h
        cases this
        have:kind = .cell:=by simpa using hk
        subst this
        exact List.mem_cons_self
    · exact List.mem_cons_of_mem _ (cellsFrom_kind r n x c h)
noncomputable def clOf (env:Env):List (Str × NameKind)->List (Str × Addr)->List (Str × Addr)
  | [],acc=>acc
  | (n,k) :: r,acc=>if k == .free then clOf env r ((n,(env.cells.lookup n).getD 0) :: acc) else clOf env r acc
theorem closure_go (env:Env):∀ (names:List (Str × NameKind)) (acc:List (Str × Addr)),(∀ x ∈ names,x.2 = .free->∃ c,env.cells.lookup x.1 = some c) ->
    (forIn names acc (fun (p:Str × NameKind) (cs:List (Str × Addr))=>(if p.2 == .free then (do let a <- cellOf env p.1; pure (.yield ((p.1,a) :: cs))) else pure (.yield cs):Sem (ForInStep (List (Str × Addr)))))) = pure (clOf env names acc)
  | [],acc,_=>rfl
  | (n,k) :: r,acc,h=>by
    rw [List.forIn_cons]
    have hr:=fun x hx=>h x (List.mem_cons_of_mem _ hx)
    unfold clOf
    by_cases hk:k = .free
    · obtain ⟨c,hc⟩:=h (n,k) List.mem_cons_self hk
      subst hk
      have e1:cellOf env n = pure c:=by
        have hc':env.cells.lookup n = some c:=hc
        unfold cellOf; rw [hc']
      have hc':env.cells.lookup n = some c:=hc
      simp only [beq_self_eq_true,if_true,e1,pure_bind,hc',Option.getD_some]
      exact closure_go env r _ hr
    · have hb:(k == NameKind.free) = false:=by simpa using hk
      simp only [hb,Bool.false_eq_true,if_false,pure_bind]
      exact closure_go env r _ hr
theorem closure_eq {env:Env} {scope:Scope} (h:∀ x ∈ scope.names,x.2 = .free->∃ c,env.cells.lookup x.1 = some c):closureFor scope env = pure (clOf env scope.names []):=by
  have:=closure_go env scope.names [] h
  unfold closureFor
  exact (bind_pure _).trans this
theorem clOf_look {env:Env}:∀ {names:List (Str × NameKind)} {acc:List (Str × Addr)},(∀ x ∈ names,x.2 = .free->∃ c,env.cells.lookup x.1 = some c)->(∀ x c,(x,c) ∈ acc->env.cells.lookup x = some c) ->
    ∀ x c,(x,c) ∈ clOf env names acc->env.cells.lookup x = some c
  | [],acc,_,ha,x,c,hm=>ha x c hm
  | (n,k) :: r,acc,h,ha,x,c,hm=>by
    unfold clOf at hm
    have hr:=fun x hx=>h x (List.mem_cons_of_mem _ hx)
    split at hm
    · rename_i hk
      have hk':k = .free:=by simpa using hk
      obtain ⟨c',hc⟩:=h (n,k) List.mem_cons_self hk'
      have hc:env.cells.lookup n = some c':=hc
      refine clOf_look hr (fun y d hy=>?_) x c hm
      rcases List.mem_cons.mp hy with e | hy
      · cases e; rw [hc]; rfl
      · exact ha y d hy
    · exact clOf_look hr ha x c hm
theorem clOf_has {env:Env}:∀ {names:List (Str × NameKind)} {acc:List (Str × Addr)} {x:Str},(names.lookup x = some .free\/∃ c,acc.lookup x = some c)->∃ c,(clOf env names acc).lookup x = some c
  | [],acc,x,h=>by
    rcases h with h | h
    · cases h
    · exact h
  | (n,k) :: r,acc,x,h=>by
    unfold clOf
    split
    · rename_i hk
      refine clOf_has ?_
      rcases h with h | ⟨c,h⟩
      · rw [List.lookup_cons] at h
        cases e:x == n with
        | true=>exact .inr ⟨_,by rw [List.lookup_cons,e]⟩
        | false=>rw [e] at h; exact .inl h
      · refine .inr ?_
        rw [List.lookup_cons]
        cases e:x == n with
        | true=>exact ⟨_,rfl⟩
        | false=>exact ⟨c,h⟩
    · rename_i hk
      refine clOf_has ?_
      rcases h with h | h
      · rw [List.lookup_cons] at h
        cases e:x == n with
        | true =>
          rw [e] at h
          cases h
          exact absurd rfl hk
        | false=>rw [e] at h; exact .inl h
      · exact .inr h
theorem relabel_look {env:Env}:∀ {names:List (Str × NameKind)} {x:Str} {k:NameKind},names.lookup x = some k ->
    (names.map fun (n,k)=>if (k == NameKind.free && env.scope.kind == .function && env.kindOf n == some .cell) then (n,NameKind.cell) else (n,k)).lookup x = some (if (k == NameKind.free && env.scope.kind == .function && env.kindOf x == some .cell) then NameKind.cell else k)
  | [],_,_,h=>by cases h
  | (n,k) :: r,x,k',h=>by
    have ih:=@relabel_look env r x k'
    rw [List.map_cons]
    dsimp only
    cases hx:x == n with
    | true =>
      have e:x = n:=by simpa using hx
      subst e
      rw [List.lookup_cons,hx] at h
      cases h
      split <;> simp [List.lookup_cons, *]
    | false =>
      rw [List.lookup_cons,hx] at h
      have ih:=ih h
      split
      · rw [List.lookup_cons,hx]; exact ih
      · rw [List.lookup_cons,hx]; exact ih
theorem relabel_out {env:Env}:∀ {names:List (Str × NameKind)} {x:Str},names.lookup x = none ->
    (names.map fun (n,k)=>if (k == NameKind.free && env.scope.kind == .function && env.kindOf n == some .cell) then (n,NameKind.cell) else (n,k)).lookup x = none
  | [],_,h=>rfl
  | (n,k) :: r,x,h=>by
    have ih:=@relabel_out env r x
    rw [List.map_cons]
    dsimp only
    cases hx:x == n with
    | true=>rw [List.lookup_cons,hx] at h; cases h
    | false =>
      rw [List.lookup_cons,hx] at h
      split
      · rw [List.lookup_cons,hx]; exact ih h
      · rw [List.lookup_cons,hx]; exact ih h
end L2
namespace L2
open PySem PySem.Spec PyProof.Rows
noncomputable def compEnvX (X:Cx) (scope:Scope) (C:Addr):Env :=
  { scope:=relabel scope X.env,locals:=C,globals:=X.env.globals,cells:=cellsFrom (C + 1) scope.names (clOf X.env scope.names []),qual:=X.env.qual,func:=none,code:=X.env.code,frame:=X.env.frame,builtins:=X.env.builtins }
noncomputable def cxComp (X:Cx) (scope:Scope) (N:List Str) (fp:List Addr) (s:Shared) (H:Hp):Cx :=
  { X with N:=N,s₀:=s,H₀:=H,env:=compEnvX X scope s.heap.objs.size,outer:=X.stack,ex:=fp,fn:=fun x=>decide (scope.names.lookup x = some .cell),pn:=[],xe:=fun _ _=>False }
theorem newCompEnv {M:Model} {A:Around} {E:Value->Shared->Prop} {s:Shared} {scope:Scope} {globals:Addr} {cl:List (Str × Addr)} {qual:Str} {env:Env} {Q:Env->Shared->Prop}
    (hQ:∀ h',h'.Ns s.heap.objs.size (fun _=>none)->(∀ b o,s.heap.get? b = some o->h'.get? b = some o)->CellsOk h' (s.heap.objs.size + 1) (cellsFrom (s.heap.objs.size + 1) scope.names []) ->
      Q { scope:=scope,locals:=s.heap.objs.size,globals:=globals,cells:=cellsFrom (s.heap.objs.size + 1) scope.names cl,qual:=qual,func:=none,code:=env.code,frame:=env.frame,builtins:=env.builtins } { s with heap:=h' }) :
    wpAny M A (newFunctionEnv scope globals cl [] qual none .none (some env)) Q E s:=by
  simp only [newFunctionEnv,Option.isSome_some,if_true]
  refine wpAny_bind (wpAny_alloc ?_)
  refine wpAny_bind (wpAny_layCells _ (fun name kind cells=>by cases hkc:kind == NameKind.cell <;> simp [hkc]) _ _ _ _ ?_)
  have ok:=cellsFrom_ok scope.names (s.heap.push { cls:=.type "dict",data:=.dict #[] }) (s.heap.objs.size + 1) [] ⟨fun _ _ hm=>(nomatch hm),List.Pairwise.nil⟩ (by rw [Heap.size_push]; exact Nat.le_refl _)
  rw [Heap.size_push] at ok
  rw [show ({ s with heap:=s.heap.push { cls:=.type "dict",data:=.dict #[] } }:Shared).heap.objs.size = s.heap.objs.size + 1 from Heap.size_push ..]
  rw [List.forIn_nil]
  refine wpAny_bind (wpAny_pure (wpAny_pure ?_))
  exact hQ _ ((Heap.Ns.new s.heap (.type "dict")).keeps (pushCells_keeps _ _)) (fun b o e=>pushCells_keeps _ _ b o (Heap.get?_push_of_some _ e)) ok
section
variable {X:Cx} {pins:List (Addr × Obj)} {σ σ':St} {H:Hp} {s:Shared} {fp:List Addr} {scope:Scope} {N:List Str} {h4:Heap}
theorem comp_has (ok:X.Ok) (hfree:∀ x ∈ scope.names,x.2 = .free->X.env.kindOf x.1 = some .cell\/X.env.kindOf x.1 = some .free):∀ x ∈ scope.names,x.2 = .free->∃ c,X.env.cells.lookup x.1 = some c :=
  fun x hx hk=>ok.has x.1 (hfree x hx hk)
theorem kind_comp {C:Addr} {x:Str} {k:NameKind} (h:scope.names.lookup x = some k):(compEnvX X scope C).kindOf x = some k\/(k = .free/\(compEnvX X scope C).kindOf x = some .cell):=by
  have q:=relabel_look (env:=X.env) h
  have q':(compEnvX X scope C).kindOf x = some (if (k == NameKind.free && X.env.scope.kind == .function && X.env.kindOf x == some .cell) then NameKind.cell else k):=q
  rw [q']
  split
  · rename_i hc
    have:k = .free:=by
      simp only [Bool.and_eq_true,beq_iff_eq] at hc
      exact hc.1.1
    exact .inr ⟨this,rfl⟩
  · exact .inl rfl
theorem kind_comp_inv {C:Addr} {x:Str} {k:NameKind} (h:(compEnvX X scope C).kindOf x = some k):scope.names.lookup x = some k\/(k = .cell/\scope.names.lookup x = some .free):=by
  cases e:scope.names.lookup x with
  | none =>
    have q:(compEnvX X scope C).kindOf x = none:=relabel_out (env:=X.env) e
    rw [q] at h; cases h
  | some k' =>
    rcases kind_comp (X:=X) (C:=C) e with q | ⟨q,q'⟩
    · rw [q] at h; cases h; exact .inl rfl
    · rw [q'] at h; cases h; subst q; exact .inr ⟨rfl,rfl⟩
theorem inv_comp (I:Inv X pins σ H s) (hf:∀ b ∈ fp,FpOk X pins H b) (hfl:∀ b ∈ fp,b < s.heap.objs.size) (hk:scope.kind = .function)
    (hfree:∀ x ∈ scope.names,x.2 = .free->X.env.kindOf x.1 = some .cell\/X.env.kindOf x.1 = some .free)
    (hns:h4.Ns s.heap.objs.size (fun _=>none)) (hkeep:∀ b o,s.heap.get? b = some o->h4.get? b = some o) (hco:CellsOk h4 (s.heap.objs.size + 1) (cellsFrom (s.heap.objs.size + 1) scope.names []))
    (hdup:∀ {x:Str},(x,NameKind.cell) ∈ scope.names->(x,NameKind.free) ∈ scope.names->False) (hcap:∀ (i:Nat) (x:Str) (v:V),N[i]? = some x->σ'[i]? = some (some v)->scope.names.lookup x = some .free/\∃ j:Nat,X.N[j]? = some x/\σ[j]? = some (some v)) (hlen:σ'.length = N.length) (t':Nat) :
    Inv (cxComp X scope N fp s H) [] σ' H { s with heap:=h4,toks:=t' }:=by
  have hcl:=comp_has I.ok hfree
  have clx:∀ x c,(clOf X.env scope.names []).lookup x = some c->X.env.cells.lookup x = some c:=fun x c e=>clOf_look hcl (fun _ _ z=>by cases z) x c (mem_of_lookup e)
  have look:∀ x c,(compEnvX X scope s.heap.objs.size).cells.lookup x = some c->(x,c) ∈ cellsFrom (s.heap.objs.size + 1) scope.names []\/X.env.cells.lookup x = some c:=fun x c e=>by
    have e:(cellsFrom (s.heap.objs.size + 1) scope.names (clOf X.env scope.names [])).lookup x = some c:=e
    rw [cellsFrom_app] at e
    rcases lookup_app_some e with q | ⟨_,q⟩
    · exact .inl (mem_of_lookup q)
    · exact .inr (clx x c q)
  have old:∀ x c,X.env.cells.lookup x = some c->c < s.heap.objs.size:=fun x c e=>let ⟨_,q⟩:=I.cell x c e; q.lt
  have new:∀ x c,(x,c) ∈ cellsFrom (s.heap.objs.size + 1) scope.names []->s.heap.objs.size < c:=fun x c e=>(hco.empty x c e).2
  refine ⟨⟨I.ok.mod,?_,I.ok.glob,I.ok.blt,Nat.le_refl _,?_,?_,?_,I.ok.hd,I.ok.frames,.inl rfl,?_,I.bs,Nat.le_trans I.ok.bsz I.sz,?_,?_,I.stack,I.stkFree⟩,rfl,I.bare,Un.kept hkeep,⟨_,hns,?_⟩,?_,I.hok.fresh (Nat.le_refl _),?_,
    fun p hp=>absurd (show p ∈ ([]:List (Addr × Obj)) from hp) (by simp),I.hok.kept hkeep,hlen⟩
  · show (relabel scope X.env).kind = _
    exact hk
  · intro x y c e1 e2
    rcases look x c e1 with a | a <;> rcases look y c e2 with b | b
    · exact name_of_addr hco.apart a b
    · exact absurd (Nat.lt_trans (new x c a) (old y c b)) (Nat.lt_irrefl _)
    · exact absurd (Nat.lt_trans (new y c b) (old x c a)) (Nat.lt_irrefl _)
    · exact I.ok.inj x y c a b
  · intro x hx
    show ∃ c,(cellsFrom (s.heap.objs.size + 1) scope.names (clOf X.env scope.names [])).lookup x = some c
    refine Option.isSome_iff_exists.mp (PySem.W.cellsFrom_some _ _ _ ?_)
    rcases hx with hx | hx
    · rcases kind_comp_inv hx with q | ⟨_,q⟩
      · exact .inl q
      · exact .inr (Option.isSome_iff_exists.mpr (clOf_has (.inl q)))
    · rcases kind_comp_inv hx with q | ⟨q,_⟩
      · exact .inr (Option.isSome_iff_exists.mpr (clOf_has (.inl q)))
      · cases q
  · intro x c hfn e
    have hfn:scope.names.lookup x = some .cell:=of_decide_eq_true hfn
    have e:(cellsFrom (s.heap.objs.size + 1) scope.names (clOf X.env scope.names [])).lookup x = some c:=e
    obtain ⟨c',hc'⟩:=cell_has (n:=s.heap.objs.size + 1) hfn
    rw [cellsFrom_app,lookup_app_left hc'] at e
    cases e
    exact Nat.le_of_lt (new x c (mem_of_lookup hc'))
  · intro b hb
    refine ⟨Nat.ne_of_lt (hfl b hb),fun x c e z=>?_⟩
    rcases look x c e with a | a
    · exact absurd (Nat.lt_trans (new x c a) (by rw [z]; exact hfl b hb)) (Nat.lt_irrefl _)
    · exact (hf b hb).2.2.2.2.1 x c a z
  · intro b o e hb
    obtain ⟨f0,f1,f2,f3,f4,f5⟩:=hf b hb
    rcases f3 with z | z
    · exact I.ok.noex b o e z
    · exact absurd (Nat.lt_of_lt_of_le (Heap.lt_size (I.ok.bs b o e).1) z) (Nat.lt_irrefl _)
  · intro b hb hz
    obtain ⟨f0,f1,f2,f3,f4,f5⟩:=hf b hb
    rcases List.mem_cons.mp (I.stkSub b hz) with z | z
    · exact f1 z
    · exact f2 z
  · intro i x v e1 e2 e3
    obtain ⟨hfr,j,hj,hv⟩:=hcap i x v e1 e2
    have hm:(x,NameKind.free) ∈ scope.names:=mem_of_lookup hfr
    obtain ⟨m,hn,hl⟩:=I.loc
    have kx:=hfree _ hm rfl
    obtain ⟨u,ru,lk⟩:=hl j x v hj hv (kx.elim (fun k=>.inr (.inl k)) fun k=>.inr (.inr k))
    refine ⟨u,ru,.inr ⟨?_,?_⟩⟩
    · rcases kind_comp (X:=X) (C:=s.heap.objs.size) hfr with q | ⟨_,q⟩
      · exact .inr q
      · exact .inl q
    · rcases lk with ⟨k,_⟩ | ⟨_,c,ec,ic⟩
      · have k:X.env.kindOf x = some .local:=k
        rcases kx with k' | k' <;> · rw [k] at k'; cases k'
      · obtain ⟨c',hc'⟩:=clOf_has (env:=X.env) (acc:=[]) (.inl hfr)
        have e':=clx x c' hc'
        rw [ec] at e'
        cases e'
        refine ⟨c,?_,ic.keeps hkeep⟩
        show (cellsFrom (s.heap.objs.size + 1) scope.names (clOf X.env scope.names [])).lookup x = some c
        rw [cellsFrom_app]
        cases eo:(cellsFrom (s.heap.objs.size + 1) scope.names []).lookup x with
        | none=>rw [lookup_app_right eo]; exact hc'
        | some d =>
          have hcm:=cellsFrom_kind _ _ _ _ (mem_of_lookup eo)
          exact (hdup hcm hm).elim
  · intro x c e
    rcases look x c e with a | a
    · exact ⟨_,(hco.empty x c a).1⟩
    · obtain ⟨v,q⟩:=I.cell x c a
      exact ⟨v,q.keeps hkeep⟩
  · intro x c e
    rcases look x c e with a | a
    · exact I.hok.fresh (Nat.le_of_lt (new x c a))
    · exact I.freeC x c a
end
end L2
namespace L2
open PySem PySem.Spec PyProof.Rows
noncomputable abbrev testsRun (ifs:List Expr) (env:Env):Sem Bool:=forIn ifs true fun c r=>if r = true then do let ok <- isTrue c env (eval c env); pure (ForInStep.yield ok) else pure (ForInStep.yield r)
noncomputable def PTs (X:Cx) (ifs:List Expr) (t:TT):Prop :=
  ∀ (pins:List (Addr × Obj)) (s:Shared) (σ:St) (H:Hp) (Q:Bool->Hp->Prop),Inv X pins σ H s->t σ H Q->wpAny (model X.prog X.w) X.A (testsRun ifs X.env) (TP X pins σ Q) X.xe s
theorem pts_nil {X:Cx}:PTs X [] (fun _ H Q=>Q true H):=fun _ _ _ H _ I h=>wpAny_tests_nil ⟨H,I,h⟩
theorem pts_one {X:Cx} {c:Expr} {t:TT} (h:PT X c t):PTs X [c] t:=fun pins s σ H Q I q=>wpAny_tests_one (h pins s σ H Q I q)
theorem compLoop_any {prog:Program} {w:World} {A:Around} {R:Result->Shared->Prop} {s:Shared} {elt target iter:Expr} {ifs:List Expr} {scope:Scope} {pos:Pos} {it acc:Value} {env:Env} (I:Nat->Shared->Prop)
    (turn:∀ n s,I n s->wpAny (model prog w) A (pyNext it) (fun r s₁=>match r with
      | none=>R (.ok .next) s₁
      | some v=>wpAny (model prog w) A (letOwnedTupleGo target it v) (fun _ s₁'=>wpAny (model prog w) A (assign target env v) (fun _ s₂ =>
          wpAny (model prog w) A (testsRun ifs env) (fun ok s₃ =>
            if ok = true then wpAny (model prog w) A (eval elt env) (fun x s₄ =>
              wpAny (model prog w) A (call (.builtin "list.append") [acc,x]) (fun _ s₅=>∃ m,m < n/\I m s₅) (fun _ _=>False) s₄) (fun _ _=>False) s₃
            else ∃ m,m < n/\I m s₃) (fun _ _=>False) s₂) (fun _ _=>False) s₁') (fun _ _=>False) s₁) (fun _ _=>False) s)
    (n:Nat) (h:I n s) :
    codeAny (model prog w) A (.compLoop (.ListComp elt [⟨target,iter,ifs,0⟩] scope pos) 0 it acc env) R s:=by
  refine codeAny_loop rfl I (fun n s hI=>?_) n h
  show wpAny _ A ((compTurn (.ListComp elt [⟨target,iter,ifs,0⟩] scope pos) 0 it acc env).onRaise (fun x=>do noteFrame x env; theTreesLotGoes x)) _ _ s
  refine wpAny_noted ?_
  rw [compTurn_list]
  refine wpAny_bind (wpAny_standAt (wpAny_bind (wpAny_mono (turn n s hI) (fun r s₁ h₁=>?_) fun _ _ h'=>h'.elim)))
  cases r with
  | none=>exact wpAny_pure h₁
  | some v =>
    refine wpAny_bind (wpAny_mono h₁ (fun _ s₁' h₁'=>?_) fun _ _ h'=>h'.elim)
    refine wpAny_bind (wpAny_mono h₁' (fun _ s₂ h₂=>wpAny_bind (wpAny_mono h₂ (fun ok s₃ h₃=>?_) fun _ _ h'=>h'.elim)) fun _ _ h'=>h'.elim)
    cases ok with
    | false=>exact wpAny_pure ⟨rfl,h₃⟩
    | true =>
      exact wpAny_bind (wpAny_bind (wpAny_mono h₃ (fun x s₄ h₄=>wpAny_bind (wpAny_mono h₄ (fun _ s₅ h₅=>wpAny_pure (wpAny_pure ⟨rfl,h₅⟩)) fun _ _ h'=>h'.elim)) fun _ _ h'=>h'.elim))
noncomputable def CompFin (X:Cx) (pins:List (Addr × Obj)) (σ:St) (Q:VK) (acc:Value) (C:Addr) (r:Result) (s5:Shared):Prop :=
  ∃ (D:Addr) (H5:Hp) (m:Str->Option Value),acc = .ref D/\r = .ok .next/\Inv X pins σ H5 s5/\s5.heap.Ns C m/\FpOk X pins H5 C/\Q (.ref D) H5
noncomputable def rdComp (J:It) (g:TG) (tt:TT) (te:TE) (D:Addr) (σ0:St) (H0:Hp) (Q:VK):Prop :=
  ∃ W:Nat->Nat->St->Hp->Prop,(∃ m,W 0 m σ0 H0)/\∀ i m σ H,W i m σ H ->
    (J.stop i H/\Q (.ref D) H)\/(J.go i H/\∀ x H',J.yld i H x H'->g x σ H' fun σ2 H2=>tt σ2 H2 fun b H3 =>
      if b = true then te σ2 H3 fun v H4=>∃ ys,H4 D = some (.lst ys)/\ys.length < sizeLine/\∃ m',m' < m/\W (i + 1) m' σ2 (upd H4 D (.lst (ys ++ [v])))
      else ∃ m',m' < m/\W (i + 1) m' σ2 H3)
section
variable {X:Cx} {pins:List (Addr × Obj)} {σ σ':St} {H:Hp} {s:Shared} {scope:Scope} {N:List Str}
  {tg iter elt:Expr} {ifs:List Expr} {pos:Pos} {g:TG} {tt:TT} {te:TE}
theorem comp_core {J:It} {fp:List Addr} {it:Addr} {tn:Nat->Heap->Prop} {Q:VK} (hc:X.calm = true) (I:Inv X pins σ H s) (T:Turn X.prog X.w X.K tg J fp it tn) (st:tn 0 s.heap) (hf:∀ b ∈ fp,FpOk X pins H b) (hk:scope.kind = .function)
    (hfree:∀ x ∈ scope.names,x.2 = .free->X.env.kindOf x.1 = some .cell\/X.env.kindOf x.1 = some .free) (hdup:∀ {x:Str},(x,NameKind.cell) ∈ scope.names->(x,NameKind.free) ∈ scope.names->False)
    (hcap:∀ (i:Nat) (x:Str) (v:V),N[i]? = some x->σ'[i]? = some (some v)->scope.names.lookup x = some .free/\∃ j:Nat,X.N[j]? = some x/\σ[j]? = some (some v)) (hlen:σ'.length = N.length)
    (hY:∀ fp s H,PG (cxComp X scope N fp s H) tg g/\PTs (cxComp X scope N fp s H) ifs tt/\PE (cxComp X scope N fp s H) elt te)
    (hrd:∀ D,H D = none->rdComp J g tt te D σ' (upd H D (.lst [])) Q) {E:Value->Shared->Prop} :
    wpAny (model X.prog X.w) X.A (newList []) (fun acc s₃=>wpAny (model X.prog X.w) X.A (newFunctionEnv scope X.env.globals (clOf X.env scope.names []) [] X.env.qual none .none (some X.env)) (fun cenv s₄ =>
      codeAny (model X.prog X.w) X.A (.compStart (.ListComp elt [⟨tg,iter,ifs,0⟩] scope pos) 0 (.ref it) acc { cenv with scope:=relabel scope X.env }) (CompFin X pins σ Q acc cenv.locals) s₄) E s₃) E s:=by
  refine wpAny_newObj_type ?_
  have hfl:∀ b ∈ fp,b < s.heap.objs.size:=fun b hb=>let ⟨o,e,_⟩:=T.obj _ _ st b hb; Heap.lt_size e
  have I3:=I.lnew (ys:=[]) (its:=[]) (t':=s.toks) .nil (Nat.zero_le _)
  have hD:H s.heap.objs.size = none:=I.fresh
  obtain ⟨W,⟨m0,w0⟩,turn⟩:=hrd _ hD
  generalize e3:({ s with heap:=s.heap.push { cls:=.type "list",data:=.seq ([]:List Value).toArray },toks:=s.toks }:Shared) = s3 at I3
  have e3h:s3.heap = s.heap.push { cls:=.type "list",data:=.seq ([]:List Value).toArray }:=by rw [<- e3]
  generalize hH3:upd H s.heap.objs.size (.lst []) = H3 at I3 w0 turn
  have hlt:s.heap.objs.size < s3.heap.objs.size:=by rw [e3h,Heap.size_push]; exact Nat.lt_succ_self _
  have hk3:∀ b o,s.heap.get? b = some o->s3.heap.get? b = some o:=fun b o e=>by rw [e3h]; exact Heap.get?_push_of_some _ e
  generalize s.heap.objs.size = D at *
  have f3:∀ b ∈ fp,FpOk X pins H3 b:=fun b hb=>by
    obtain ⟨f0,f⟩:=hf b hb
    refine ⟨?_,f⟩
    rw [<- hH3,upd_ne (Nat.ne_of_lt (hfl b hb))]
    exact f0
  have st3:tn 0 s3.heap:=T.keep _ _ _ st fun b _ o e=>hk3 b o e
  refine newCompEnv fun h4 hns hkp hco=>?_
  dsimp only
  have I4:=inv_comp (N:=N) (σ':=σ') (fp:=fp) I3 f3 (fun b hb=>Nat.lt_trans (hfl b hb) hlt) hk hfree hns hkp hco hdup hcap hlen s3.toks
  have fC:∀ H',H' s3.heap.objs.size = none->FpOk X pins H' s3.heap.objs.size:=fun H' hn=>I3.fpOk (Nat.le_refl _) hn
  obtain ⟨hg,htt,hte⟩:=hY fp s3 H3
  have efp:∀ b ∈ fp,∀ H':Hp,H' b = none->FpOk (cxComp X scope N fp s3 H3) [] H' b:=fun b hb H' hn=>by
    refine ⟨hn,(I4.ok.exf b hb).1,I4.ok.exfs b hb,.inl hb,(I4.ok.exf b hb).2,fun p hp=>?_⟩
    cases hp
  have loop:codeAny (model X.prog X.w) X.A (.compLoop (.ListComp elt [⟨tg,iter,ifs,0⟩] scope pos) 0 (.ref it) (.ref D) (compEnvX X scope s3.heap.objs.size)) (CompFin X pins σ Q (.ref D) s3.heap.objs.size) { s3 with heap:=h4 }:=by
    refine compLoop_any (fun n s'=>∃ i σ' H',Inv (cxComp X scope N fp s3 H3) [] σ' H' s'/\tn i s'.heap/\(∀ b ∈ fp,H' b = none)/\W i n σ' H') ?_ m0
      ⟨0,σ',H3,I4,T.keep _ _ _ st3 fun b _ o e=>hkp b o e,fun b hb=>(f3 b hb).1,w0⟩
    rintro n s5 ⟨i,σ5,H5,I5,st5,fr5,w5⟩
    rcases turn i n σ5 H5 w5 with ⟨stop,q⟩ | ⟨go,step⟩
    · refine thn (T.done (cxComp X scope N fp s3 H3) rfl rfl rfl hc i [] s5 σ5 H5 _ I5 (fun b hb=>efp b hb H5 (fr5 b hb)) st5 stop) fun r s6 ⟨hr,I6⟩=>?_
      subst hr
      obtain ⟨m,hn6,_⟩:=I6.loc
      refine ⟨D,H5,m,rfl,rfl,I3.call' I6.os I6.base I6.hok I6.bare (fun b hb=>?_),hn6,fC H5 I6.free,q⟩
      obtain ⟨f0,f1,f2,f4,f5,f6⟩:=f3 b hb
      exact ⟨f4,f1,f5,f6⟩
    · refine thn (T.item (cxComp X scope N fp s3 H3) rfl rfl rfl hc i [] s5 σ5 H5 _ I5 (fun b hb=>efp b hb H5 (fr5 b hb)) st5 go) fun r s6 ⟨u,hr,h6⟩=>?_
      subst hr
      refine thn h6 fun _ s7 ⟨x,H7,I7,r7,y7,st7,fr7⟩=>?_
      have I7':=I7.pinned (fun b hb=>efp b hb H7 (fr7 b hb)) (T.obj _ _ st7)
      have again:∀ {pl:List (Addr × Obj)} {σ9:St} {H9:Hp} {s9:Shared} {n':Nat},Inv (cxComp X scope N fp s3 H3) ([] ++ pinsAt fp s7.heap) σ9 H9 s9->W (i + 1) n' σ9 H9->∃ i σ' H',Inv (cxComp X scope N fp s3 H3) [] σ' H' s9/\tn i s9.heap/\(∀ b ∈ fp,H' b = none)/\W i n' σ' H':=fun {pl σ9 H9 s9 n'} I9 w9=>by
        refine ⟨i + 1,σ9,H9,I9.unpinned,T.keep _ _ _ st7 fun b hb o e=>(I9.pin (b,o) (List.mem_append_right _ (List.mem_append_right _ (mem_pinsAt hb e)))).1,fun b hb=>?_,w9⟩
        obtain ⟨o,e,d⟩:=T.obj _ _ st7 b hb
        exact (I9.pin (b,o) (List.mem_append_right _ (List.mem_append_right _ (mem_pinsAt hb e)))).2.1
      refine thn (hg _ s7 σ5 H7 x u _ I7' r7 (step x H7 y7)) fun _ s8 ⟨σ8,H8,I8,q8⟩=>?_
      refine thn (htt _ s8 σ8 H8 _ I8 q8) fun ok s9 ⟨H9,I9,q9⟩=>?_
      cases ok with
      | false =>
        rw [if_neg (by decide)] at q9
        rw [if_neg (by decide)]
        obtain ⟨m',hm,w9⟩:=q9
        exact ⟨m',hm,again (pl:=[]) I9 w9⟩
      | true =>
        rw [if_pos rfl] at q9
        rw [if_pos rfl]
        refine thn (hte _ s9 σ8 H9 _ I9 q9) fun y s10 ⟨v,H10,I10,r10,ys,hD10,hz,m',hm,w10⟩=>?_
        refine thn (mt_append (X:=cxComp X scope N fp s3 H3) _ s10 σ8 H10 (.ref D) [v] (.ref D) [y] (fun _ H'=>W (i + 1) m' σ8 H') I10 rfl (.cons r10 .nil) ⟨D,ys,v,rfl,rfl,hD10,hz,w10⟩) fun _ s11 ⟨_,H11,I11,_,w11⟩=>?_
        exact ⟨m',hm,again (pl:=[]) I11 w11⟩
  exact codeAny_compStart_list loop (T.self _ 0 _ _ _ (T.keep _ _ _ st3 fun b _ o e=>hkp b o e) loop)
end
end L2
namespace L2
open PySem PySem.Spec PyProof.Rows
noncomputable def tComp (wi:TI) (g:TG) (tt:TT) (te:TE) (caps:St->St):TE:=fun σ H Q=>wi σ H fun J H1=>∀ D,H1 D = none->rdComp J g tt te D (caps σ) (upd H1 D (.lst [])) Q
structure CompSc (X:Cx) (scope:Scope) (N:List Str) (caps:St->St):Prop where
  kind:scope.kind = .function
  free:∀ x ∈ scope.names,x.2 = .free->X.env.kindOf x.1 = some .cell\/X.env.kindOf x.1 = some .free
  dup:∀ {x:Str},(x,NameKind.cell) ∈ scope.names->(x,NameKind.free) ∈ scope.names->False
  loc:∀ x ∈ scope.names,x.2 = .local->scope.names.lookup x.1 = some .local
  cap:∀ (σ:St) (i:Nat) (x:Str) (v:V),N[i]? = some x->(caps σ)[i]? = some (some v)->scope.names.lookup x = some .free/\∃ j:Nat,X.N[j]? = some x/\σ[j]? = some (some v)
  len:∀ σ:St,(caps σ).length = N.length
section
variable {X:Cx} {scope:Scope} {N:List Str} {caps:St->St} {tg iter elt:Expr} {ifs:List Expr} {pos:Pos} {wi:TI} {g:TG} {tt:TT} {te:TE}
theorem pe_comp (hc:X.calm = true) (S:CompSc X scope N caps) (hi:PI X tg iter wi)
    (hY:∀ fp s H,PG (cxComp X scope N fp s H) tg g/\PTs (cxComp X scope N fp s H) ifs tt/\PE (cxComp X scope N fp s H) elt te)
    (hs:∀ x,foldedSetIterable iter X.env x = pure x:=by intro _; rfl):PE X (.ListComp elt [⟨tg,iter,ifs,0⟩] scope pos) (tComp wi g tt te caps):=by
  intro pins s σ H Q I h
  rw [eval_ListComp]
  refine wpAny_comprehension_free (use:=none) rfl hs (closure_eq (comp_has I.ok S.free)) S.kind S.loc (thn (hi pins s σ H _ I h) fun v s1 h1=>thn h1 fun itv s2 h2=>?_)
  obtain ⟨it,fp,tn,J,H2,e,I2,T,st2,f2,rd⟩:=h2
  subst e
  refine thn (comp_core (iter:=iter) (pos:=pos) (E:=X.xe) hc I2 T st2 f2 S.kind S.free S.dup (S.cap σ) (S.len σ) hY rd) fun acc s3 h3=>thn h3 fun cenv s4 h4=>?_
  refine codeAny_mono h4 fun r s5 h5=>?_
  obtain ⟨D,H5,m,rfl,rfl,I5,hn,fC,q⟩:=h5
  refine ⟨m,hn,fun h' sb=>?_⟩
  obtain ⟨f0,f1,f2',f3,f4,f5⟩:=fC
  exact ⟨.ref D,H5,I5.turned (t':=s5.toks) (fun b o hb e=>(sb.2 b hb).trans e) f0 f1 f3 f4 f5,rfl,q⟩
theorem ps_comp {i:Nat} {y:Str} {py spos:Pos} (hc:X.calm = true) (S:CompSc X scope N caps) (hi:PI X tg iter wi)
    (hY:∀ fp s H,PG (cxComp X scope N fp s H) tg g/\PTs (cxComp X scope N fp s H) ifs tt/\PE (cxComp X scope N fp s H) elt te)
    (hN:X.N.Nodup) (hiy:X.N[i]? = some y) (hy:X.env.scope.names.lookup y = some .local)
    (hsw:swapsWith (.ListComp elt [⟨tg,iter,ifs,0⟩] scope pos) (some (.Name y py)) spos.line X.env = pure true)
    (hs:∀ x,foldedSetIterable iter X.env x = pure x:=by intro _; rfl):PS X (.Assign [.Name y py] (.ListComp elt [⟨tg,iter,ifs,0⟩] scope pos) spos) (tAsg (tComp wi g tt te caps) (gName i)):=by
  intro pins s σ H D I h
  rw [exec_Assign_Name_used _ _ _ _ hsw]
  refine wpAny_bind (wpAny_standAt (wpAny_bind ?_))
  show wpAny _ X.A (do let _ <- comprehension (.ListComp elt [⟨tg,iter,ifs,0⟩] scope pos) scope X.env _ (newList []) false (eval iter X.env) (some (assign (.Name y py) X.env))) _ _ s
  refine wpAny_bind (wpAny_mono (wpAny_comprehension_free (use:=some (assign (.Name y py) X.env)) (Q:=fun _ s'=>SP X pins D .next s') rfl hs (closure_eq (comp_has I.ok S.free)) S.kind S.loc
    (thn (hi pins s σ H _ I h) fun v s1 h1=>thn h1 fun itv s2 h2=>?_)) (fun _ s' hq=>wpAny_pure (wpAny_pure hq)) fun _ _ e=>e)
  obtain ⟨it,fp,tn,J,H2,e,I2,T,st2,f2,rd⟩:=h2
  subst e
  refine thn (comp_core (iter:=iter) (pos:=pos) (E:=X.xe) hc I2 T st2 f2 S.kind S.free S.dup (S.cap σ) (S.len σ) hY rd) fun acc s3 h3=>thn h3 fun cenv s4 h4=>?_
  refine codeAny_mono h4 fun r s5 h5=>?_
  obtain ⟨D',H5,m,rfl,rfl,I5,hn,fC,q⟩:=h5
  show wpAny _ X.A (assign (.Name y py) X.env (.ref D')) _ _ _
  refine wpAny_assign_Name (store_ok2 (v:=.ref D') I5 hN hiy (.inl hy) rfl (fun s6 I6 ⟨a,sa,ha⟩=>?_) (.inr hy))
  obtain ⟨f0,f1,f2',f3,f4,f5⟩:=fC
  have hne:cenv.locals ≠ a:=by
    rcases ha with z | z
    · rw [z]; exact f1
    · exact fun w=>f4 y a z w.symm
  refine ⟨m,hn.sameBut sa hne,fun h' sb=>?_⟩
  exact ⟨_,H5,I6.turned (t':=s6.toks) (fun b o hb e=>(sb.2 b hb).trans e) f0 f1 f3 f4 f5,q⟩
end
end L2
namespace L2
open PySem PySem.Spec PyProof.Rows
noncomputable abbrev enL (X:Cx) (qual:Str) (scope:Scope) (f c L:Addr):Env:=PySem.W.envX qual scope L f (.ref c) (clOf X.env scope.names [])
noncomputable def cxLam (X:Cx) (A:Around) (qual:Str) (scope:Scope) (N:List Str) (f c:Addr) (s:Shared) (H:Hp):Cx where
  prog:=X.prog
  w:=X.w
  K:=X.K
  mg:=X.mg
  base:=X.base
  A:=A.deeper (enL X qual scope f c s.heap.objs.size)
  N:=N
  s₀:=s
  H₀:=H
  env:=enL X qual scope f c s.heap.objs.size
  outer:=X.stack
  stack:=enL X qual scope f c s.heap.objs.size :: X.stack
  ex:=[]
  fn:=fun _=>false
  calm:=true
  pn:=[]
  xe:=fun _ _=>False
section
variable {X:Cx} {pins:List (Addr × Obj)} {σ:St} {H:Hp} {s:Shared} {scope:Scope} {N:List Str} {h1:Heap} {A:Around} {caps:St->St} {p qual:Str} {f c:Addr} {u:Value} {v:V}
theorem inv_lam (I:Inv X pins σ H s) (hd:A.handled = none) (hA:A.frames = some X.stack) (S:CompSc X scope N caps) (hnc:∀ x ∈ scope.names,x.2 ≠ .cell) (hN0:N[0]? = some p) (hp:scope.names.lookup p = some .local) (hNd:N.Nodup) (r:RelV v u)
    (hns:h1.Ns s.heap.objs.size (fun x=>[(p,u)].reverse.lookup x)) (hkeep:∀ b o,s.heap.get? b = some o->h1.get? b = some o) (t':Nat) :
    Inv (cxLam X A qual scope N f c s H) [] ((caps σ).set 0 (some v)) H { s with heap:=h1,toks:=t' }:=by
  have hcl:=comp_has I.ok S.free
  have clx:∀ x c,(clOf X.env scope.names []).lookup x = some c->X.env.cells.lookup x = some c:=fun x c e=>clOf_look hcl (fun _ _ z=>by cases z) x c (mem_of_lookup e)
  have noA:∀ b:Addr,b ∉ (cxLam X A qual scope N f c s H).ex:=fun b z=>absurd (show b ∈ ([]:List Addr) from z) (by simp)
  refine ⟨⟨I.ok.mod,S.kind,rfl,rfl,Nat.le_refl _,fun x y d e1 e2=>I.ok.inj x y d (clx x d e1) (clx y d e2),fun x hx=>?_,fun x d z=>?_,fun _=>hd,Around.frames_deeper hA,.inr ⟨rfl,rfl⟩,fun b z=>absurd z (noA b),I.bs,Nat.le_trans I.ok.bsz I.sz,fun b _ _=>noA b,fun b z=>absurd z (noA b),I.stack,I.stkFree⟩,
    rfl,I.bare,Un.kept hkeep,⟨_,hns,fun i x w e1 e2 e3=>?_⟩,fun x d e=>?_,I.hok.fresh (Nat.le_refl _),fun x d e=>I.freeC x d (clx x d e),fun q hq=>absurd (show q ∈ ([]:List (Addr × Obj)) from hq) (by simp),I.hok.kept hkeep,?_⟩
  · rcases hx with hx | hx
    · exact absurd rfl (hnc _ (mem_of_lookup (show scope.names.lookup x = some .cell from hx)))
    · exact clOf_has (.inl hx)
  · cases z
  · cases i with
    | zero =>
      have e1:N[0]? = some x:=e1
      rw [hN0] at e1
      cases e1
      have hl:0 < (caps σ).length:=by rw [S.len]; exact (List.getElem?_eq_some_iff.mp hN0).1
      rw [List.getElem?_set_self hl] at e2
      cases e2
      exact ⟨u,r,.inl ⟨hp,by simp⟩⟩
    | succ i =>
      have e2':(caps σ)[i + 1]? = some (some w):=by
        rw [List.getElem?_set_ne (by omega)] at e2; exact e2
      obtain ⟨hfr,j,hj,hv⟩:=S.cap σ (i + 1) x w e1 e2'
      have hm:(x,NameKind.free) ∈ scope.names:=mem_of_lookup hfr
      obtain ⟨m,hn,hl⟩:=I.loc
      have kx:=S.free _ hm rfl
      obtain ⟨u',ru,lk⟩:=hl j x w hj hv (kx.elim (fun k=>.inr (.inl k)) fun k=>.inr (.inr k))
      refine ⟨u',ru,.inr ⟨.inr hfr,?_⟩⟩
      rcases lk with ⟨k,_⟩ | ⟨_,c',ec,ic⟩
      · have k:X.env.kindOf x = some .local:=k
        rcases kx with k' | k' <;> · rw [k] at k'; cases k'
      · obtain ⟨c'',hc'⟩:=clOf_has (env:=X.env) (acc:=[]) (.inl hfr)
        have e':=clx x c'' hc'
        rw [ec] at e'
        cases e'
        exact ⟨c',hc',ic.keeps hkeep⟩
  · obtain ⟨w,q⟩:=I.cell x d (clx x d e)
    exact ⟨w,q.keeps hkeep⟩
  · rw [List.length_set]; exact S.len σ
theorem lam_call {k:Nat} {params:Arguments} {body:Expr} {pm ctv:Value} {name:Str} {te:TE} {Q:VK} (I:Inv X pins σ H s) (hr:Room (k + 1) A) (hA:A.frames = some X.stack) (S:CompSc X scope N caps) (hnc:∀ x ∈ scope.names,x.2 ≠ .cell)
    (hN0:N[0]? = some p) (hp:scope.names.lookup p = some .local) (hNd:N.Nodup) (hco:scope.isCoroutine = false) (hgen:scope.isGenerator = false)
    (hf:s.heap.get? f = some (PySem.W.kla_obj name qual params body scope (clOf X.env scope.names []) pm c ctv)) (hcod:H c = some (.cod qual)) (hb:bindArgs (PySem.W.kla_fn name qual params body scope (clOf X.env scope.names []) pm (.ref c) ctv) ⟨[u],[]⟩ = pure [(p,u)])
    (r:RelV v u) (hY:PE (cxLam X A qual scope N f c s H) body te) (q:te ((caps σ).set 0 (some v)) H Q) :
    wpAny (model X.prog X.w) A (call (.ref f) [u]) (EP X pins σ Q) (fun _ _=>False) s:=by
  have hcd:s.heap.CodeRec (.ref c) qual:=I.hok c _ hcod
  refine wpAny_call (PySem.W.kla_callFunE hr.depth hf rfl hco hgen rfl hcd ?_)
  rw [hb]
  refine wpAny_pure (wpAny_newFunctionEnv hnc (fun y hy=>?_) (fun h1 hns hsb=>⟨?_,?_⟩) S.kind)
  · rw [List.mem_singleton.mp hy]; exact hp
  · exact I.nolimit.fresh _ hsb
  · have hk1:∀ b o,s.heap.get? b = some o->h1.get? b = some o:=fun b o e=>hsb.extBut b o (Nat.ne_of_lt (Heap.lt_size e)) (Heap.get?_push_of_some _ e)
    have I1:=inv_lam (qual:=qual) (f:=f) (c:=c) I hr.hd hA S hnc hN0 hp hNd r hns hk1 (s.toks + [(p,u)].length)
    refine PySem.W.kla_codeExpr (wpAny_mono (hY [] _ _ H Q I1 q) (fun w s' ⟨v',H',I',r',q'⟩=>?_) fun e s' h=>False.elim h)
    exact ⟨v',H',I.call' I'.os I'.base I'.hok I'.bare (fun b z=>absurd (show b ∈ ([]:List Addr) from z) (by simp)),r',q'⟩
end
theorem among_snoc {pos pos':Pos} {c v:Value} (l:List Value) (h:TriplesOk l) (e:codeAmong pos' (l ++ [rawInt pos.line,rawInt pos.col,c]) = some v):codeAmong pos' l = some v\/v = c:=by
  fun_induction TriplesOk l with
  | case1 =>
    simp only [List.nil_append,codeAmong,rawInt] at e
    split at e
    · cases e; exact .inr rfl
    · cases e
  | case2 a t b u x rest ih =>
    simp only [List.cons_append,codeAmong] at e ⊢
    split at e
    · rename_i hc; rw [if_pos hc]; exact .inl e
    · rename_i hc; rw [if_neg hc]; exact ih h e
  | case3 l h1 h2=>exact h.elim
section
variable {X:Cx} {pins:List (Addr × Obj)} {σ:St} {H:Hp} {s:Shared} {scope:Scope} {N:List Str} {caps:St->St} {qual:Str} {c P:Addr}
theorem lam_make {params:Arguments} {body:Expr} {lpos:Pos} {Q:Value->Shared->Prop} (I:Inv X pins σ H s) (S:CompSc X scope N caps) (hq:X.env.qual ++ "<lambda>" = qual) (hcode:X.env.code = .ref c) (C:PySem.W.CodeHd X.base c P) (hT:H P = some (.tab qual)) (hB:BMd X.mg X.base)
    (hdef:defaultsOf params X.env = ([],[]))
    (h:∀ (f c':Addr) (pm ctv:Value) (s':Shared) (H':Hp),Inv X pins σ H' s'->s'.heap.get? f = some (PySem.W.kla_obj "<lambda>" qual params body scope (clOf X.env scope.names []) pm c' ctv)->H' f = none->H' c' = some (.cod qual)->Same H H'->FpOk X pins H' f->(∀ b,H' b ≠ none->H b ≠ none\/H' b = some (.cod qual))->Q (.ref f) s') :
    wpAny (model X.prog X.w) X.A (eval (.Lambda params body scope lpos) X.env) Q X.xe s:=by
  have hcl:=closure_eq (comp_has I.ok S.free)
  have hCs:=C.keeps I.bk
  have hg:s.heap.Ns mainGlobals X.mg:=by
    obtain ⟨o,es,ep,e,r⟩:=I.ok.mod.glob
    exact ⟨o,es,ep,I.bk _ _ e,r⟩
  have hPn:X.base.get? P = none:=by
    cases e:X.base.get? P with
    | none=>rfl
    | some o=>rw [(I.bs P o e).2] at hT; cases hT
  obtain ⟨ps,hP,ht,hco⟩:=I.hok P _ hT
  have hb:s.heap.BuiltinsAt X.mg P:=by
    obtain ⟨bm,o,b1,b2,b3,b4,b5⟩:=hB
    exact ⟨bm,o,b1,b2,b3,(fun z=>by rw [z,hPn] at b4; cases b4),I.bk _ _ b4,b5⟩
  refine PySem.W.kla_eval hdef ?_
  rw [hq]
  cases hf:codeAmong lpos ps.toList with
  | some cv =>
    obtain ⟨c',rfl,hc'⟩:=hco lpos cv hf
    refine PySem.W.kla_makeFunctionHit hcl I.ok.glob hg hcode hCs hP ht hf hb fun ctv h' tk kp hz=>?_
    have kp2:∀ b o,s.heap.get? b = some o->(h'.push (PySem.W.kla_obj "<lambda>" qual params body scope (clOf X.env scope.names []) ((X.mg "__name__").getD .none) c' ctv)).get? b = some o:=fun b o e=>Heap.get?_push_of_some _ (kp b o e)
    have hn:H h'.objs.size = none:=I.hok.fresh hz
    exact h _ c' _ ctv _ H (I.kept (t':=tk) kp2) (Heap.get?_push_size _ rfl) hn hc' (.refl _) (I.fpOk hz hn) fun b z=>.inl z
  | none =>
    have hgP:mainGlobals ≠ P:=fun z=>by
      obtain ⟨o,es,ep,e,r⟩:=I.ok.mod.glob
      rw [z,hPn] at e; cases e
    refine PySem.W.kla_makeFunction hcl I.ok.glob hg hcode hCs hP ht hf hgP hb fun c' ctv h' tk hx hc1 hc2 hcr hP'=>?_
    have hn:H c' = none:=I.hok.fresh hc1
    have hz:s.heap.objs.size<=h'.objs.size:=Nat.le_of_lt (Nat.lt_of_le_of_lt hc1 hc2)
    have nP:∀ {b:Addr} {u:HO},H b = some u->(∀ q,u ≠ .tab q)->b ≠ P:=fun {b u} e hne z=>by subst z; rw [hT] at e; cases e; exact hne _ rfl
    have kp:∀ b o,b ≠ P->s.heap.get? b = some o->(h'.push (PySem.W.kla_obj "<lambda>" qual params body scope (clOf X.env scope.names []) ((X.mg "__name__").getD .none) c' ctv)).get? b = some o:=fun b o hb e=>Heap.get?_push_of_some _ (hx b o hb e)
    have hPc:P ≠ c':=fun z=>by rw [<- z,hT] at hn; cases hn
    have up:∀ b u,H b = some u->upd H c' (.cod qual) b = some u:=fun b u e=>by rw [upd_ne (ne_of_none e hn)]; exact e
    have un:Un X.fs [] H (upd H c' (.cod qual)) s.heap (h'.push (PySem.W.kla_obj "<lambda>" qual params body scope (clOf X.env scope.names []) ((X.mg "__name__").getD .none) c' ctv)):=by
      refine ⟨fun b o e n _ _=>kp b o (fun z=>by rw [z,hT] at n; cases n) e,fun b o e n _ _=>⟨o.slots,kp b o (fun z=>by rw [z,hT] at n; cases n) e⟩,fun b o e n _=>?_,fun b o e _=>?_,fun b xs e=>up b _ e,fun b o u e=>up b _ e,⟨fun b u e _=>up b u e,fun b q ps' e z=>?_⟩⟩
      · rw [upd_ne (Nat.ne_of_lt (Nat.lt_of_lt_of_le (Heap.lt_size e) hc1))]; exact n
      · by_cases hb:b = P
        · subst hb; exact ⟨_,Heap.get?_push_of_some _ hP'⟩
        · exact ⟨o,kp b o hb e⟩
      · by_cases hb:b = P
        · subst hb
          rw [hP] at z
          cases z
          exact ⟨_,Heap.get?_push_of_some _ hP'⟩
        · exact ⟨#[],by rw [Array.append_empty]; exact kp b _ hb z⟩
    have hok:HOk X.prog X.w (upd H c' (.cod qual)) (h'.push (PySem.W.kla_obj "<lambda>" qual params body scope (clOf X.env scope.names []) ((X.mg "__name__").getD .none) c' ctv)):=by
      intro b u e
      by_cases hbc:b = c'
      · subst hbc
        rw [upd_same] at e
        cases e
        obtain ⟨c0,oc,vs,t,e0,e1,r⟩:=hcr
        exact ⟨c0,oc,vs,t,e0,Heap.get?_push_of_some _ e1,r⟩
      · rw [upd_ne hbc] at e
        by_cases hb:b = P
        · subst hb
          rw [hT] at e
          cases e
          refine ⟨_,Heap.get?_push_of_some _ hP',?_,fun pos v hv=>?_⟩
          · have:=TriplesOk_snoc lpos.line lpos.col (.ref c') ps.toList ht
            simpa using this
          · have hv':codeAmong pos (ps.toList ++ [rawInt lpos.line,rawInt lpos.col,.ref c']) = some v:=by simpa using hv
            rcases among_snoc ps.toList ht hv' with z | z
            · obtain ⟨c0,z1,z2⟩:=hco pos v z
              exact ⟨c0,z1,up _ _ z2⟩
            · exact ⟨c',z,upd_same⟩
        · exact (I.hok b u e).stay (fun d o hd eo=>kp d o (by
            rcases hd with rfl | hd
            · exact hb
            · exact nP hd fun q z=>by cases z) eo) (fun d hd=>up d _ hd) fun d o hd _=>up d _ hd
    have I':=I.un (t':=tk) un hok
    have hnf:upd H c' (.cod qual) h'.objs.size = none:=by
      rw [upd_ne (Nat.ne_of_gt hc2)]; exact I.hok.fresh hz
    refine h _ c' _ ctv _ _ I' (Heap.get?_push_size _ rfl) hnf upd_same up (I.fpOk hz hnf) fun b z=>?_
    by_cases hbc:b = c'
    · subst hbc; exact .inr upd_same
    · rw [upd_ne hbc] at z; exact .inl z
end
end L2
namespace Dl
open PySem L2 PySem.Spec PyProof.Rows
noncomputable abbrev D:=PyData
mutual
noncomputable def Rep (K:PySem.W.Frag) (H:Hp):D->V->Prop
  | .none,v=>v = .non
  | .bool b,v=>v = .bl b
  | .int i,v=>v = .int i
  | .str x,v=>v = .str x
  | .tuple ds,v=>∃ a vs,v = .ref a/\SqT K H a vs/\Reps K H ds vs
  | .list ds,v=>∃ a vs,v = .ref a/\SqL K H a vs/\Reps K H ds vs
  | .dict _,_=>False
noncomputable def Reps (K:PySem.W.Frag) (H:Hp):List D->List V->Prop
  | [],vs=>vs = []
  | d :: ds,vs=>∃ v r,vs = v :: r/\Rep K H d v/\Reps K H ds r
end
theorem same_tup {K:PySem.W.Frag} {H H':Hp} {a:Addr} {xs:List V} (e:Same H H') (h:SqT K H a xs):SqT K H' a xs:=by
  rcases h with (h | ⟨o,h⟩) | h
  · exact .inl (.inl (e _ _ h))
  · exact .inl (.inr ⟨o,e _ _ h⟩)
  · exact .inr h
mutual
theorem Rep.mono {K:PySem.W.Frag} {H H':Hp} (e:Same H H'):∀ {d:D} {v:V},Rep K H d v->Rep K H' d v
  | .none,_,h=>h
  | .bool _,_,h=>h
  | .int _,_,h=>h
  | .str _,_,h=>h
  | .tuple ds,_,h=>by
    simp only [Rep] at h ⊢
    obtain ⟨a,vs,rfl,q,r⟩:=h
    exact ⟨a,vs,rfl,same_tup e q,Reps.mono e r⟩
  | .list ds,_,h=>by
    simp only [Rep] at h ⊢
    obtain ⟨a,vs,rfl,q,r⟩:=h
    exact ⟨a,vs,rfl,e.seq q,Reps.mono e r⟩
  | .dict _,_,h=>h
theorem Reps.mono {K:PySem.W.Frag} {H H':Hp} (e:Same H H'):∀ {ds:List D} {vs:List V},Reps K H ds vs->Reps K H' ds vs
  | [],_,h=>h
  | d :: ds,_,h=>by
    simp only [Reps] at h ⊢
    obtain ⟨v,r,rfl,a,b⟩:=h
    exact ⟨v,r,rfl,Rep.mono e a,Reps.mono e b⟩
end
section
variable {K:PySem.W.Frag} {H:Hp}
theorem Reps.nil:Reps K H [] []:=by simp [Reps]
theorem Reps.cons {d:D} {v:V} {ds:List D} {vs:List V} (a:Rep K H d v) (b:Reps K H ds vs):Reps K H (d :: ds) (v :: vs):=by
  simp only [Reps]; exact ⟨v,vs,rfl,a,b⟩
theorem Reps.cons_inv {d:D} {ds:List D} {vs:List V} (h:Reps K H (d :: ds) vs):∃ v r,vs = v :: r/\Rep K H d v/\Reps K H ds r:=by simpa only [Reps] using h
theorem Reps.nil_inv {vs:List V} (h:Reps K H [] vs):vs = []:=by simpa only [Reps] using h
theorem Reps.length:∀ {ds:List D} {vs:List V},Reps K H ds vs->vs.length = ds.length
  | [],_,h=>by rw [h.nil_inv]; rfl
  | d :: ds,_,h=>by obtain ⟨v,r,rfl,_,b⟩:=h.cons_inv; simp [Reps.length b]
theorem Reps.get:∀ {ds:List D} {vs:List V} {i:Nat} {v:V},Reps K H ds vs->vs[i]? = some v->∃ d,ds[i]? = some d/\Rep K H d v
  | [],_,i,v,h,e=>by rw [h.nil_inv] at e; simp at e
  | d :: ds,_,i,v,h,e=>by
    obtain ⟨v',r,rfl,a,b⟩:=h.cons_inv
    cases i with
    | zero=>simp at e; subst e; exact ⟨d,rfl,a⟩
    | succ i=>simp at e; obtain ⟨d',h1,h2⟩:=Reps.get b e; exact ⟨d',by simpa using h1,h2⟩
theorem Reps.getD:∀ {ds:List D} {vs:List V} {i:Nat} {d:D},Reps K H ds vs->ds[i]? = some d->∃ v,vs[i]? = some v/\Rep K H d v
  | [],_,i,d,h,e=>by simp at e
  | d :: ds,_,i,d',h,e=>by
    obtain ⟨v',r,rfl,a,b⟩:=h.cons_inv
    cases i with
    | zero=>simp at e; subst e; exact ⟨v',rfl,a⟩
    | succ i=>simp at e; obtain ⟨v,h1,h2⟩:=Reps.getD b e; exact ⟨v,by simpa using h1,h2⟩
theorem Reps.append:∀ {ds es:List D} {vs us:List V},Reps K H ds vs->Reps K H es us->Reps K H (ds ++ es) (vs ++ us)
  | [],_,_,_,h,g=>by rw [h.nil_inv]; exact g
  | d :: ds,_,_,_,h,g=>by obtain ⟨v,r,rfl,a,b⟩:=h.cons_inv; exact Reps.cons a (Reps.append b g)
theorem Reps.take:∀ {ds:List D} {vs:List V} (n:Nat),Reps K H ds vs->Reps K H (ds.take n) (vs.take n)
  | [],_,n,h=>by rw [h.nil_inv]; simp [Reps]
  | d :: ds,_,0,h=>by simp [Reps]
  | d :: ds,_,n + 1,h=>by obtain ⟨v,r,rfl,a,b⟩:=h.cons_inv; exact Reps.cons a (Reps.take n b)
theorem Reps.drop:∀ {ds:List D} {vs:List V} (n:Nat),Reps K H ds vs->Reps K H (ds.drop n) (vs.drop n)
  | [],_,n,h=>by rw [h.nil_inv]; simp [Reps]
  | d :: ds,_,0,h=>h
  | d :: ds,_,n + 1,h=>by obtain ⟨v,r,rfl,a,b⟩:=h.cons_inv; exact Reps.drop n b
theorem Reps.reverse:∀ {ds:List D} {vs:List V},Reps K H ds vs->Reps K H ds.reverse vs.reverse
  | [],_,h=>by rw [h.nil_inv]; simp [Reps]
  | d :: ds,_,h=>by
    obtain ⟨v,r,rfl,a,b⟩:=h.cons_inv
    rw [List.reverse_cons,List.reverse_cons]
    exact Reps.append (Reps.reverse b) (Reps.cons a Reps.nil)
end
structure Grow (HF H HF' H':Hp):Prop where
  hh:Same H H'
  ff:Same HF HF'
  fh:Same HF' H'
  nw:∀ a o,HF' a = some o->HF a = some o\/H a = none
theorem Grow.refl {HF H:Hp} (s:Same HF H):Grow HF H HF H:=⟨.refl _,.refl _,s,fun _ _ e=>.inl e⟩
theorem Grow.trans {HF H HF1 H1 HF2 H2:Hp} (a:Grow HF H HF1 H1) (b:Grow HF1 H1 HF2 H2):Grow HF H HF2 H2 :=
  ⟨a.hh.trans b.hh,a.ff.trans b.ff,b.fh,fun x o e=>(b.nw x o e).elim (fun z=>a.nw x o z) fun z=>.inr (a.hh.free z)⟩
theorem same_upd {H:Hp} {p:Addr} {o:HO} (h:H p = none):Same H (upd H p o):=fun b u e=>by rw [upd_ne (ne_of_none e h)]; exact e
theorem Grow.new {HF H:Hp} {p:Addr} {o:HO} (s:Same HF H) (h:H p = none):Grow HF H (upd HF p o) (upd H p o):=by
  have hf:HF p = none:=s.free h
  refine ⟨same_upd h,same_upd hf,fun b u e=>?_,fun b u e=>?_⟩
  · by_cases hb:b = p
    · subst hb; rw [upd_same] at e ⊢; exact e
    · rw [upd_ne hb] at e ⊢; exact s b u e
  · by_cases hb:b = p
    · subst hb; exact .inr h
    · rw [upd_ne hb] at e; exact .inl e
theorem Grow.own {HF H:Hp} {p:Addr} {o:HO} (s:Same HF H) (h:H p = none):Grow HF H HF (upd H p o) :=
  ⟨same_upd h,.refl _,fun b u e=>by rw [upd_ne (ne_of_none (s b u e) h)]; exact s b u e,fun _ _ e=>.inl e⟩
theorem Grow.freeze {HF H HF1 H1:Hp} {p:Addr} {o:HO} (g:Grow HF H HF1 H1) (h:H p = none) (h1:H1 p = some o) (hf:HF1 p = none):Grow HF H (upd HF1 p o) H1 :=
  ⟨g.hh,g.ff.trans (same_upd hf),fun b u e=>by
    by_cases hb:b = p
    · subst hb; rw [upd_same] at e; rw [h1,<- e]
    · rw [upd_ne hb] at e; exact g.fh b u e,fun b u e=>by
    by_cases hb:b = p
    · subst hb; exact .inr h
    · rw [upd_ne hb] at e; exact g.nw b u e⟩
noncomputable def lamNames:List Str:=["ways_of","turned_order","fairest"]
noncomputable def TabsIn (K:PySem.W.Frag) (HF:Hp):Prop:=∀ (f:Addr) (oc:Value) (od:Option Addr) (fd:FuncData) (sl:Array (Option Value)) (c P:Addr),K.lookup f = some ⟨oc,od,.func fd,sl⟩->fd.qualname ∈ lamNames->fd.code = .ref c->PySem.W.codeHdIn K c P = true->HF P = some (.tab (fd.qualname ++ ".<locals>." ++ "<lambda>"))
theorem TabsIn.mono {K:PySem.W.Frag} {HF HF':Hp} (h:TabsIn K HF) (e:Same HF HF'):TabsIn K HF':=fun f oc od fd sl c P a b d q=>e _ _ (h f oc od fd sl c P a b d q)
noncomputable abbrev Env:=List (Option D)
structure EnvOk (K:PySem.W.Frag) (HF:Hp) (ρ:Env) (σ:L2.St):Prop where
  get:∀ (i:Nat) (d:D),ρ[i]? = some (some d)->∃ v,σ[i]? = some (some v)/\Rep K HF d v
  len:ρ.length<=σ.length
  tb:TabsIn K HF
theorem EnvOk.mono {K:PySem.W.Frag} {HF HF':Hp} {ρ:Env} {σ:L2.St} (h:EnvOk K HF ρ σ) (e:Same HF HF'):EnvOk K HF' ρ σ:=⟨fun i d q=>let ⟨v,a,b⟩:=h.get i d q; ⟨v,a,b.mono e⟩,h.len,h.tb.mono e⟩
noncomputable def tD (K:PySem.W.Frag) (f:Env->Option D):TE:=fun σ H Q=>∃ HF ρ d,Same HF H/\EnvOk K HF ρ σ/\f ρ = some d/\∀ v H' HF',Grow HF H HF' H'->Rep K HF' d v->Q v H'
noncomputable def DE (X:Cx) (e:Expr) (f:Env->Option D):Prop:=PE X e (tD X.K f)
noncomputable def tF (K:PySem.W.Frag) (f:Env->Option (List D)):TE:=fun σ H Q=>∃ HF ρ ds,Same HF H/\EnvOk K HF ρ σ/\f ρ = some ds /\
  ∀ a vs H' HF',Grow HF H HF' H'->H a = none->HF' a = none->H' a = some (.lst vs)->Reps K HF' ds vs->Q (.ref a) H'
noncomputable def DF (X:Cx) (e:Expr) (f:Env->Option (List D)):Prop:=PE X e (tF X.K f)
noncomputable def tDT (K:PySem.W.Frag) (f:Env->Option Bool):TT:=fun σ H Q=>∃ HF ρ b,Same HF H/\EnvOk K HF ρ σ/\f ρ = some b/\∀ H' HF',Grow HF H HF' H'->Q b H'
noncomputable def DT (X:Cx) (e:Expr) (f:Env->Option Bool):Prop:=PT X e (tDT X.K f)
noncomputable def tDA (K:PySem.W.Frag) (f:Env->Option (List D)):TA:=fun σ H Q=>∃ HF ρ ds,Same HF H/\EnvOk K HF ρ σ/\f ρ = some ds/\∀ vs H' HF',Grow HF H HF' H'->Reps K HF' ds vs->Q vs H'
noncomputable def DA (X:Cx) (es:List Expr) (f:Env->Option (List D)):Prop:=PA X es (tDA X.K f)
section
variable {X:Cx}
theorem pe_imp {e:Expr} {t t':TE} (h:PE X e t) (i:∀ σ H Q,t' σ H Q->t σ H Q):PE X e t':=fun pins s σ H Q I q=>h pins s σ H Q I (i σ H Q q)
theorem pt_imp {e:Expr} {t t':TT} (h:PT X e t) (i:∀ σ H Q,t' σ H Q->t σ H Q):PT X e t':=fun pins s σ H Q I q=>h pins s σ H Q I (i σ H Q q)
theorem pa_imp {e:List Expr} {t t':TA} (h:PA X e t) (i:∀ σ H Q,t' σ H Q->t σ H Q):PA X e t':=fun pos pins s σ H Q I q=>h pos pins s σ H Q I (i σ H Q q)
theorem bs {α β:Type} {x:Option α} {f:α->Option β} {b:β} (h:x.bind f = some b):∃ a,x = some a/\f a = some b:=by
  cases x with
  | none=>cases h
  | some a=>exact ⟨a,rfl,h⟩
theorem DF.de {e:Expr} {f:Env->Option (List D)} (h:DF X e f):DE X e (fun ρ=>(f ρ).map PyData.list):=pe_imp h fun σ H Q ⟨HF,ρ,d,sm,eo,hf,q⟩=>by
  have hf:(f ρ).map PyData.list = some d:=hf
  cases e1:f ρ with
  | none=>rw [e1] at hf; cases hf
  | some ds =>
    rw [e1] at hf
    obtain rfl:PyData.list ds = d:=Option.some.inj hf
    refine ⟨HF,ρ,ds,sm,eo,e1,fun a vs H' HF' g ha hf' h' r=>q _ _ (upd HF' a (.lst vs)) (g.freeze ha h' hf') ?_⟩
    simp only [Rep]
    exact ⟨a,vs,rfl,.inl (.inl upd_same),r.mono (same_upd hf')⟩
noncomputable def fVar (i:Nat):Env->Option D:=fun ρ=>(ρ[i]?).getD none
theorem de_var (i:Nat) {x:Str} {pos:Pos} (hN:X.N[i]? = some x) (hv:Vis X.env.scope x) (hd:(x == ("__debug__":Str)) = false:=by decide) (hcd:(x == ("__classdict__":Str)) = false:=by decide):DE X (.Name x pos) (fVar i) :=
  pe_imp (pe_var hN hv hd hcd) fun σ H Q ⟨HF,ρ,d,sm,eo,hf,q⟩=>by
    have hf:(ρ[i]?).getD none = some d:=hf
    cases e:ρ[i]? with
    | none=>rw [e] at hf; cases hf
    | some o =>
      rw [e] at hf
      have hf:o = some d:=hf
      subst hf
      obtain ⟨v,a,b⟩:=eo.get i d e
      exact ⟨v,a,q v H HF (.refl sm) b⟩
noncomputable def fC (d:D):Env->Option D:=fun _=>some d
theorem de_int {i j pos}:DE X (.Constant (.int i) j pos) (fC (.int i)):=pe_imp pe_int fun σ H Q ⟨HF,ρ,d,sm,eo,hf,q⟩=>by cases hf; exact q _ H HF (.refl sm) (by simp [Rep])
theorem de_bl {b j pos}:DE X (.Constant (.bool b) j pos) (fC (.bool b)):=pe_imp pe_bl fun σ H Q ⟨HF,ρ,d,sm,eo,hf,q⟩=>by cases hf; exact q _ H HF (.refl sm) (by simp [Rep])
theorem de_non {j pos}:DE X (.Constant .none j pos) (fC .none):=pe_imp pe_non fun σ H Q ⟨HF,ρ,d,sm,eo,hf,q⟩=>by cases hf; exact q _ H HF (.refl sm) (by simp [Rep])
theorem de_str {x j pos}:DE X (.Constant (.str x) j pos) (fC (.str x)):=pe_imp pe_str fun σ H Q ⟨HF,ρ,d,sm,eo,hf,q⟩=>by cases hf; exact q _ H HF (.refl sm) (by simp [Rep])
theorem de_gint {x:Str} {i:Int} {t:Tok} {pos:Pos} (hg:Gl X x) (hm:X.mg x = some (.int i t)) (hd:(x == ("__debug__":Str)) = false:=by decide):DE X (.Name x pos) (fC (.int i)) :=
  pe_imp (pe_glob (v:=.int i) hg hm ⟨t,rfl⟩ hd) fun σ H Q ⟨HF,ρ,d,sm,eo,hf,q⟩=>by cases hf; exact q _ H HF (.refl sm) (by simp [Rep])
noncomputable def Sem2 (K:PySem.W.Frag) (r:R2) (g:D->D->Option D):Prop:=∀ HF H x y v1 v2 d Q,Same HF H->Rep K HF x v1->Rep K HF y v2->g x y = some d->(∀ v H' HF',Grow HF H HF' H'->Rep K HF' d v->Q v H')->r v1 v2 H Q
noncomputable def f2 (g:D->D->Option D) (f1 f2:Env->Option D):Env->Option D:=fun ρ=>(f1 ρ).bind fun x=>(f2 ρ).bind fun y=>g x y
variable {a b c:Expr} {fa fb fc:Env->Option D} {pos:Pos}
theorem t_op {r:R2} {g:D->D->Option D} (hr:Sem2 X.K r g):∀ σ H Q,tD X.K (f2 g fa fb) σ H Q->tOp r (tD X.K fa) (tD X.K fb) σ H Q:=fun σ H Q ⟨HF,ρ,d,sm,eo,hf,q⟩=>by
  obtain ⟨x,hx,hf⟩:=bs hf
  obtain ⟨y,hy,hg⟩:=bs hf
  exact ⟨HF,ρ,x,sm,eo,hx,fun v1 H1 HF1 g1 r1=>⟨HF1,ρ,y,g1.fh,eo.mono g1.ff,hy,fun v2 H2 HF2 g2 r2=>hr HF2 H2 x y v1 v2 d Q g2.fh (r1.mono g2.ff) r2 hg fun v H' HF' g3 r3=>q v H' HF' ((g1.trans g2).trans g3) r3⟩⟩
theorem de_op {op:Operator} {r:R2} {g:D->D->Option D} (ho:OpR X (binaryOp op) r) (hr:Sem2 X.K r g) (ha:DE X a fa) (hb:DE X b fb):DE X (.BinOp a op b pos) (f2 g fa fb):=pe_imp (pe_op ho ha hb) (t_op hr)
theorem de_cmp {op:CmpOp} {r:R2} {g:D->D->Option D} (ho:OpR X (compareOp op) r) (hr:Sem2 X.K r g) (ha:DE X a fa) (hb:DE X b fb) (hm:behindInMarks op b = false):DE X (.Compare a [op] [b] pos) (f2 g fa fb):=pe_imp (pe_cmpR ho ha hb hm) (t_op hr)
noncomputable def g2I (C:Int->Int->Prop) [∀ i j,Decidable (C i j)] (g:Int->Int->D):D->D->Option D
  | .int i,.int j=>if C i j then some (g i j) else none
  | _,_=>none
theorem sem_I {K:PySem.W.Frag} {C:Int->Int->Prop} [∀ i j,Decidable (C i j)] {gi:Int->Int->Int}:Sem2 K (rI C fun i j=>.int (gi i j)) (g2I C fun i j=>.int (gi i j)):=by
  intro HF H x y v1 v2 d Q sm r1 r2 hg q
  cases x <;> cases y <;> simp only [g2I] at hg <;> try cases hg
  rename_i i j
  simp only [Rep] at r1 r2
  by_cases hc:C i j
  · rw [if_pos hc] at hg
    cases hg
    exact ⟨i,j,r1,r2,hc,q _ H HF (.refl sm) (by simp [Rep])⟩
  · rw [if_neg hc] at hg; cases hg
theorem sem_I0 {K:PySem.W.Frag} {gi:Int->Int->Int}:Sem2 K (rI0 fun i j=>.int (gi i j)) (g2I (fun _ _=>True) fun i j=>.int (gi i j)):=by
  intro HF H x y v1 v2 d Q sm r1 r2 hg q
  cases x <;> cases y <;> simp only [g2I] at hg <;> try cases hg
  rename_i i j
  simp only [Rep] at r1 r2
  exact ⟨i,j,r1,r2,q _ H HF (.refl sm) (by simp [Rep])⟩
theorem sem_B0 {K:PySem.W.Frag} {gi:Int->Int->Bool}:Sem2 K (rI0 fun i j=>.bl (gi i j)) (g2I (fun _ _=>True) fun i j=>.bool (gi i j)):=by
  intro HF H x y v1 v2 d Q sm r1 r2 hg q
  cases x <;> cases y <;> simp only [g2I] at hg <;> try cases hg
  rename_i i j
  simp only [Rep] at r1 r2
  exact ⟨i,j,r1,r2,q _ H HF (.refl sm) (by simp [Rep])⟩
noncomputable instance (i j:Int):Decidable (CMul i j):=by unfold CMul; infer_instance
noncomputable instance (i j:Int):Decidable (CDiv i j):=by unfold CDiv; infer_instance
end
end Dl
namespace Dl
open PySem L2 PySem.Spec PyProof.Rows
section
variable {X:Cx} {a b c:Expr} {fa fb fc:Env->Option D} {pos:Pos} {rest:List Expr}
noncomputable def fAnd (fa fb:Env->Option D):Env->Option D:=fun ρ=>(fa ρ).bind fun | .bool true=>fb ρ | .bool false=>some (.bool false) | _=>none
noncomputable def fOr (fa fb:Env->Option D):Env->Option D:=fun ρ=>(fa ρ).bind fun | .bool true=>some (.bool true) | .bool false=>fb ρ | _=>none
noncomputable def gNot:D->Option D | .bool b=>some (.bool (!b)) | _=>none
noncomputable def fNot (fa:Env->Option D):Env->Option D:=fun ρ=>(fa ρ).bind gNot
theorem de_one {op} (h:DE X a fa):DE X (.BoolOp op [a] pos) fa:=pe_one h
theorem de_and (ha:DE X a fa) (hb:DE X (.BoolOp .And (b :: rest) pos) fb):DE X (.BoolOp .And (a :: b :: rest) pos) (fAnd fa fb):=pe_imp (pe_and ha hb) fun σ H Q ⟨HF,ρ,d,sm,eo,hf,q⟩=>by
  obtain ⟨x,hx,hf⟩:=bs hf
  refine ⟨HF,ρ,x,sm,eo,hx,fun v1 H1 HF1 g1 r1=>?_⟩
  cases x <;> try cases hf
  rename_i k
  simp only [Rep] at r1
  refine ⟨k,r1,?_⟩
  cases k with
  | true=>exact iteT ⟨HF1,ρ,d,g1.fh,eo.mono g1.ff,hf,fun v H' HF' g r=>q v H' HF' (g1.trans g) r⟩
  | false=>cases hf; exact iteF (q _ H1 HF1 g1 (by simp [Rep]))
theorem de_or (ha:DE X a fa) (hb:DE X (.BoolOp .Or (b :: rest) pos) fb):DE X (.BoolOp .Or (a :: b :: rest) pos) (fOr fa fb):=pe_imp (pe_or ha hb) fun σ H Q ⟨HF,ρ,d,sm,eo,hf,q⟩=>by
  obtain ⟨x,hx,hf⟩:=bs hf
  refine ⟨HF,ρ,x,sm,eo,hx,fun v1 H1 HF1 g1 r1=>?_⟩
  cases x <;> try cases hf
  rename_i k
  simp only [Rep] at r1
  refine ⟨k,r1,?_⟩
  cases k with
  | false=>exact iteF ⟨HF1,ρ,d,g1.fh,eo.mono g1.ff,hf,fun v H' HF' g r=>q v H' HF' (g1.trans g) r⟩
  | true=>cases hf; exact iteT (q _ H1 HF1 g1 (by simp [Rep]))
theorem de_not (ha:DE X a fa):DE X (.UnaryOp .Not a pos) (fNot fa):=pe_imp (pe_not ha) fun σ H Q ⟨HF,ρ,d,sm,eo,hf,q⟩=>by
  obtain ⟨x,hx,hf⟩:=bs hf
  refine ⟨HF,ρ,x,sm,eo,hx,fun v1 H1 HF1 g1 r1=>?_⟩
  cases x <;> try cases hf
  rename_i k
  simp only [Rep] at r1
  exact ⟨k,r1,q _ H1 HF1 g1 (by simp [Rep])⟩
noncomputable def gB:D->Option Bool | .bool b=>some b | _=>none
noncomputable def fB (f:Env->Option D):Env->Option Bool:=fun ρ=>(f ρ).bind gB
theorem t_test {f:Env->Option D}:∀ σ H (Q:Bool->Hp->Prop),tDT X.K (fB f) σ H Q->tD X.K f σ H fun x H1=>∃ c,x = .bl c/\Q c H1:=fun σ H Q ⟨HF,ρ,k,sm,eo,hf,q⟩=>by
  obtain ⟨x,hx,hf⟩:=bs hf
  refine ⟨HF,ρ,x,sm,eo,hx,fun v1 H1 HF1 g1 r1=>?_⟩
  cases x <;> try cases hf
  simp only [Rep] at r1
  exact ⟨_,r1,q H1 HF1 g1⟩
theorem dt_val {f:Env->Option D} (h:DE X a f) (he:∀ whole,isTrue a X.env whole = (do let v <- whole; standAt a.pos; holding [v] (truthy v)):=by intro _; rfl):DT X a (fB f):=pt_imp (pt_val h he) t_test
theorem dt_cmp {op:CmpOp} {r:R2} {g:D->D->Option D} (ho:OpR X (compareOp op) r) (hr:Sem2 X.K r g) (ha:DE X a fa) (hb:DE X b fb) (hm:behindInMarks op b = false):DT X (.Compare a [op] [b] pos) (fB (f2 g fa fb)) :=
  pt_imp (pt_cmpR ho ha hb hm) fun σ H Q h=>t_op hr σ H _ (t_test σ H Q h)
noncomputable def fAndT (fa fb:Env->Option Bool):Env->Option Bool:=fun ρ=>(fa ρ).bind fun | true=>fb ρ | false=>some false
noncomputable def fOrT (fa fb:Env->Option Bool):Env->Option Bool:=fun ρ=>(fa ρ).bind fun | true=>some true | false=>fb ρ
noncomputable def fNotT (fa:Env->Option Bool):Env->Option Bool:=fun ρ=>(fa ρ).map (!·)
variable {ta tb:Env->Option Bool}
noncomputable def DW (X:Cx) (e:Expr) (f:Env->Option Bool):Prop:=PW X e (tDT X.K f)
theorem pw_imp {e:Expr} {t t':TT} (h:PW X e t) (i:∀ σ H Q,t' σ H Q->t σ H Q):PW X e t':=fun wh pins s σ H Q I q=>h wh pins s σ H Q I (i σ H Q q)
theorem DW.dt (h:DW X a ta):DT X a ta:=PW.pt h
theorem dw_and1 (ha:DT X a ta):DW X (.BoolOp .And [a] pos) ta:=pw_and1 ha
theorem dw_or1 (ha:DT X a ta):DW X (.BoolOp .Or [a] pos) ta:=pw_or1 ha
theorem dw_and (ha:DT X a ta) (hb:DW X (.BoolOp .And (b :: rest) pos) tb):DW X (.BoolOp .And (a :: b :: rest) pos) (fAndT ta tb):=pw_imp (pw_and ha hb) fun σ H Q ⟨HF,ρ,d,sm,eo,hf,q⟩=>by
  obtain ⟨x,hx,hf⟩:=bs hf
  refine ⟨HF,ρ,x,sm,eo,hx,fun H1 HF1 g1=>?_⟩
  cases x with
  | true=>exact iteT ⟨HF1,ρ,d,g1.fh,eo.mono g1.ff,hf,fun H' HF' g=>q H' HF' (g1.trans g)⟩
  | false=>cases hf; exact iteF (q H1 HF1 g1)
theorem dw_or (ha:DT X a ta) (hb:DW X (.BoolOp .Or (b :: rest) pos) tb):DW X (.BoolOp .Or (a :: b :: rest) pos) (fOrT ta tb):=pw_imp (pw_or ha hb) fun σ H Q ⟨HF,ρ,d,sm,eo,hf,q⟩=>by
  obtain ⟨x,hx,hf⟩:=bs hf
  refine ⟨HF,ρ,x,sm,eo,hx,fun H1 HF1 g1=>?_⟩
  cases x with
  | false=>exact iteF ⟨HF1,ρ,d,g1.fh,eo.mono g1.ff,hf,fun H' HF' g=>q H' HF' (g1.trans g)⟩
  | true=>cases hf; exact iteT (q H1 HF1 g1)
theorem dt_not (ha:DT X a ta):DT X (.UnaryOp .Not a pos) (fNotT ta):=pt_imp (pt_not ha) fun σ H Q ⟨HF,ρ,d,sm,eo,hf,q⟩=>by
  have hf:(ta ρ).map (!·) = some d:=hf
  cases e:ta ρ with
  | none=>rw [e] at hf; cases hf
  | some k=>rw [e] at hf; cases hf; exact ⟨HF,ρ,k,sm,eo,e,fun H1 HF1 g1=>q H1 HF1 g1⟩
noncomputable def fIf (tc:Env->Option Bool) (fa fb:Env->Option D):Env->Option D:=fun ρ=>(tc ρ).bind fun | true=>fa ρ | false=>fb ρ
theorem de_if {c:Expr} (hc:DT X c ta) (ha:DE X a fa) (hb:DE X b fb):DE X (.IfExp c a b pos) (fIf ta fa fb):=pe_imp (pe_ifExp hc ha hb) fun σ H Q ⟨HF,ρ,d,sm,eo,hf,q⟩=>by
  obtain ⟨x,hx,hf⟩:=bs hf
  refine ⟨HF,ρ,x,sm,eo,hx,fun H1 HF1 g1=>?_⟩
  cases x with
  | true=>exact iteT ⟨HF1,ρ,d,g1.fh,eo.mono g1.ff,hf,fun v H' HF' g r=>q v H' HF' (g1.trans g) r⟩
  | false=>exact iteF ⟨HF1,ρ,d,g1.fh,eo.mono g1.ff,hf,fun v H' HF' g r=>q v H' HF' (g1.trans g) r⟩
noncomputable def fChain (g g':D->D->Option D) (fa fb fc:Env->Option D):Env->Option D:=fun ρ=>(fa ρ).bind fun x=>(fb ρ).bind fun y=>(g x y).bind fun | .bool true=>(fc ρ).bind fun z=>g' y z | .bool false=>some (.bool false) | _=>none
theorem t_chain {r r':R2} {g g':D->D->Option D} (hr:Sem2 X.K r g) (hr':Sem2 X.K r' g'):∀ σ H Q,tD X.K (fChain g g' fa fb fc) σ H Q->tChain r r' (tD X.K fa) (tD X.K fb) (tD X.K fc) σ H Q:=fun σ H Q ⟨HF,ρ,d,sm,eo,hf,q⟩=>by
  obtain ⟨x,hx,hf⟩:=bs hf
  obtain ⟨y,hy,hf⟩:=bs hf
  obtain ⟨z,hz,hf⟩:=bs hf
  refine ⟨HF,ρ,x,sm,eo,hx,fun v1 H1 HF1 g1 r1=>⟨HF1,ρ,y,g1.fh,eo.mono g1.ff,hy,fun v2 H2 HF2 g2 r2=>hr HF2 H2 x y v1 v2 z _ g2.fh (r1.mono g2.ff) r2 hz fun v3 H3 HF3 g3 r3=>?_⟩⟩
  cases z <;> try cases hf
  rename_i k
  simp only [Rep] at r3
  refine ⟨k,r3,?_⟩
  have G:=(g1.trans g2).trans g3
  cases k with
  | false=>cases hf; exact iteF (q _ H3 HF3 G (by simp [Rep]))
  | true =>
    obtain ⟨w,hw,hg⟩:=bs hf
    exact iteT ⟨HF3,ρ,w,G.fh,eo.mono G.ff,hw,fun v4 H4 HF4 g4 r4=>hr' HF4 H4 y w v2 v4 d Q g4.fh (r2.mono (g3.ff.trans g4.ff)) r4 hg fun v H' HF' g5 r5=>q v H' HF' ((G.trans g4).trans g5) r5⟩
theorem de_chain {op op':CmpOp} {r r':R2} {g g':D->D->Option D} (ho:OpR X (compareOp op) r) (hr:Sem2 X.K r g) (ho':OpR X (compareOp op') r') (hr':Sem2 X.K r' g') (ha:DE X a fa) (hb:DE X b fb) (hc:DE X c fc)
    (hm:lastMarks [op,op'] [b,c] = false:=by with_unfolding_all rfl):DE X (.Compare a [op,op'] [b,c] pos) (fChain g g' fa fb fc):=pe_imp (pe_chain ho ho' ha hb hc hm) (t_chain hr hr')
theorem dt_chain {op op':CmpOp} {r r':R2} {g g':D->D->Option D} (ho:OpR X (compareOp op) r) (hr:Sem2 X.K r g) (ho':OpR X (compareOp op') r') (hr':Sem2 X.K r' g') (ha:DE X a fa) (hb:DE X b fb) (hc:DE X c fc)
    (hm:lastMarks [op,op'] [b,c] = false:=by with_unfolding_all rfl):DT X (.Compare a [op,op'] [b,c] pos) (fB (fChain g g' fa fb fc)) :=
  pt_imp (pt_chain ho ho' ha hb hc hm) fun σ H Q h=>t_chain hr hr' σ H _ (t_test σ H Q h)
noncomputable def fNil:Env->Option (List D):=fun _=>some []
noncomputable def fCons (f:Env->Option D) (g:Env->Option (List D)):Env->Option (List D):=fun ρ=>(f ρ).bind fun x=>(g ρ).map (x :: ·)
theorem da_nil:DA X [] fNil:=pa_imp pa_nil fun σ H Q ⟨HF,ρ,d,sm,eo,hf,q⟩=>by cases hf; exact q [] H HF (.refl sm) Reps.nil
theorem da_cons {e:Expr} {es:List Expr} {f:Env->Option D} {g:Env->Option (List D)} (he:DE X e f) (hs:DA X es g) (hst:starEach (e :: es) X.env = (false,eval e X.env) :: starEach es X.env:=by rfl):DA X (e :: es) (fCons f g) :=
  pa_imp (pa_cons he hs hst) fun σ H Q ⟨HF,ρ,d,sm,eo,hf,q⟩=>by
    obtain ⟨x,hx,hf⟩:=bs hf
    have hf:(g ρ).map (x :: ·) = some d:=hf
    cases e1:g ρ with
    | none=>rw [e1] at hf; cases hf
    | some xs =>
      rw [e1] at hf; cases hf
      exact ⟨HF,ρ,x,sm,eo,hx,fun v1 H1 HF1 g1 r1=>⟨HF1,ρ,xs,g1.fh,eo.mono g1.ff,e1,fun vs H2 HF2 g2 r2=>q (v1 :: vs) H2 HF2 (g1.trans g2) (Reps.cons (r1.mono g2.ff) r2)⟩⟩
variable {es:List Expr} {fs:Env->Option (List D)}
noncomputable def small (ds:List D):Option (List D):=if ds.length<=sizeLine then some ds else none
theorem small_some {ds es:List D} (h:small ds = some es):es = ds/\ds.length<=sizeLine:=by
  unfold small at h
  split at h
  · cases h; exact ⟨rfl,‹_›⟩
  · cases h
noncomputable def fTup (g:Env->Option (List D)):Env->Option D:=fun ρ=>(g ρ).bind fun ds=>(small ds).map PyData.tuple
noncomputable def fLst (g:Env->Option (List D)):Env->Option (List D):=fun ρ=>(g ρ).bind small
theorem de_tup {x1} (h:DA X es fs):DE X (.Tuple es x1 pos) (fTup fs):=pe_imp (pe_tup h) fun σ H Q ⟨HF,ρ,d,sm,eo,hf,q⟩=>by
  obtain ⟨ds,hx,hf⟩:=bs hf
  have hf:(small ds).map PyData.tuple = some d:=hf
  cases e:small ds with
  | none=>rw [e] at hf; cases hf
  | some es' =>
    rw [e] at hf; cases hf
    obtain ⟨rfl,hz⟩:=small_some e
    refine ⟨HF,ρ,_,sm,eo,hx,fun vs H1 HF1 g1 r1=>⟨by rw [r1.length]; exact hz,fun p hp=>q _ _ (upd HF1 p (.tup vs)) (g1.trans (.new g1.fh hp)) ?_⟩⟩
    simp only [Rep]
    exact ⟨p,vs,rfl,.inl (.inl upd_same),r1.mono (same_upd (g1.fh.free hp))⟩
theorem df_lst (h:DA X es fs):DF X (.List es pos) (fLst fs):=pe_imp (pe_lst h) fun σ H Q ⟨HF,ρ,d,sm,eo,hf,q⟩=>by
  obtain ⟨ds,hx,hf⟩:=bs hf
  obtain ⟨rfl,hz⟩:=small_some hf
  exact ⟨HF,ρ,_,sm,eo,hx,fun vs H1 HF1 g1 r1=>⟨by rw [r1.length]; exact hz,fun p hp=>q p vs _ HF1 (g1.trans (.own g1.fh hp)) (g1.hh.free hp) (g1.fh.free hp) upd_same r1⟩⟩
noncomputable def gIx:D->D->Option D
  | .tuple ds,.int i=>atI ds i
  | .list ds,.int i=>atI ds i
  | _,_=>none
theorem atI_reps {K:PySem.W.Frag} {HF:Hp} {ds:List D} {vs:List V} {i:Int} {d:D} (r:Reps K HF ds vs) (h:atI ds i = some d):∃ v,atI vs i = some v/\Rep K HF d v:=by
  unfold atI at h ⊢
  rw [r.length]
  obtain ⟨j,hj,h⟩:=bs h
  obtain ⟨v,a,b⟩:=r.getD h
  exact ⟨v,by rw [hj]; exact a,b⟩
theorem sem_ix {K:PySem.W.Frag}:Sem2 K (rIx K) gIx:=by
  intro HF H x y v1 v2 d Q sm r1 r2 hg q
  cases x <;> cases y <;> simp only [gIx] at hg <;> try cases hg
  · simp only [Rep] at r1 r2
    obtain ⟨a,vs,rfl,hs,r⟩:=r1
    obtain ⟨v,hv,rv⟩:=atI_reps r hg
    exact .inl ⟨a,vs,_,v,rfl,r2,sm.seq hs,hv,q v H HF (.refl sm) rv⟩
  · simp only [Rep] at r1 r2
    obtain ⟨a,vs,rfl,hs,r⟩:=r1
    obtain ⟨v,hv,rv⟩:=atI_reps r hg
    exact .inr (.inl ⟨a,vs,_,v,rfl,r2,same_tup sm hs,hv,q v H HF (.refl sm) rv⟩)
theorem de_ix (ha:DE X a fa) (hb:DE X b fb) (hs:PlainIx b:=by intro _ _; rfl):DE X (.Subscript a b pos) (f2 gIx fa fb):=pe_imp (pe_ix ix_seq ha hb hs) (t_op sem_ix)
mutual
theorem reads_of {pins:List (Addr × Obj)} {σ:L2.St} {H HF:Hp} {s:Shared} (I:Inv X pins σ H s) (sm:Same HF H):∀ {d:D} {v:V} {u:Value},Rep X.K HF d v->RelV v u->∃ as,Reads s.heap u d as
  | .none,_,_,h,r=>by simp only [Rep] at h; subst h; cases r; exact ⟨_,.none⟩
  | .bool b,_,_,h,r=>by simp only [Rep] at h; subst h; cases r; exact ⟨_,.bool b⟩
  | .int i,_,_,h,r=>by simp only [Rep] at h; subst h; obtain ⟨t,rfl⟩:=r; exact ⟨_,.int i t⟩
  | .str i,_,_,h,r=>by simp only [Rep] at h; subst h; obtain ⟨t,rfl⟩:=r; exact ⟨_,.str i t⟩
  | .tuple ds,_,_,h,r=>by
    simp only [Rep] at h
    obtain ⟨a,vs,rfl,hs,rr⟩:=h
    cases r
    obtain ⟨its,rv,⟨o,ho,hc,n,hd⟩,_⟩:=I.tuple (same_tup sm hs)
    obtain ⟨as,q⟩:=reads_all I sm rr rv
    exact ⟨as,.tuple ho hc hd (by simpa using q)⟩
  | .list ds,_,_,h,r=>by
    simp only [Rep] at h
    obtain ⟨a,vs,rfl,hs,rr⟩:=h
    cases r
    obtain ⟨its,rv,pl,_⟩:=I.list (sm.seq hs)
    obtain ⟨o,ho,hc,n,hd⟩:=pl.isList
    obtain ⟨as,q⟩:=reads_all I sm rr rv
    exact ⟨_,.list ho hc hd (by simpa using q)⟩
  | .dict _,_,_,h,r=>by simp only [Rep] at h
theorem reads_all {pins:List (Addr × Obj)} {σ:L2.St} {H HF:Hp} {s:Shared} (I:Inv X pins σ H s) (sm:Same HF H):∀ {ds:List D} {vs:List V} {us:List Value},Reps X.K HF ds vs->Vals vs us->∃ as,ReadsAll s.heap us ds as
  | [],_,_,h,r=>by rw [h.nil_inv] at r; cases r; exact ⟨_,.nil⟩
  | d :: ds,_,_,h,r=>by
    obtain ⟨v,vr,rfl,a,b⟩:=h.cons_inv
    cases r with
    | cons r rr =>
      obtain ⟨as,q⟩:=reads_of I sm a r
      obtain ⟨bs,p⟩:=reads_all I sm b rr
      exact ⟨_,.cons q p⟩
end
noncomputable def rD2 (K:PySem.W.Frag) (g:D->D->Option Bool):R2:=fun v1 v2 H Q=>∃ HF x y k,Same HF H/\Rep K HF x v1/\Rep K HF y v2/\g x y = some k/\Q (.bl k) H
theorem sem_D2 {K:PySem.W.Frag} {g:D->D->Option Bool}:Sem2 K (rD2 K g) (fun x y=>(g x y).map PyData.bool):=by
  intro HF H x y v1 v2 d Q sm r1 r2 hg q
  have hg:(g x y).map PyData.bool = some d:=hg
  cases e:g x y with
  | none=>rw [e] at hg; cases hg
  | some k=>rw [e] at hg; cases hg; exact ⟨HF,x,y,k,sm,r1,r2,e,q _ H HF (.refl sm) (by simp [Rep])⟩
noncomputable def gEq (x y:D):Option Bool:=if SeqAt.shaped x = true/\SeqAt.shaped y = true then some (PyData.eqv x y) else none
noncomputable def gNe (x y:D):Option Bool:=if SeqAt.shaped x = true/\SeqAt.shaped y = true then some (!PyData.eqv x y) else none
theorem op_eqD (hu:X.A.units + 64 < cLine):OpR X (compareOp .Eq) (rD2 X.K gEq):=by
  intro pins s σ H v1 v2 u1 u2 Q I rx ry h
  obtain ⟨HF,x,y,k,sm,r1,r2,hg,q⟩:=h
  unfold gEq at hg
  split at hg <;> cases hg
  rename_i hh
  obtain ⟨as,ra⟩:=reads_of I sm r1 rx
  obtain ⟨bs,rb⟩:=reads_of I sm r2 ry
  exact eq_dataH ra rb hh.1 hh.2 hu ⟨.bl _,H,I,rfl,q⟩
theorem op_neD (hu:X.A.units + 64 < cLine):OpR X (compareOp .NotEq) (rD2 X.K gNe):=by
  intro pins s σ H v1 v2 u1 u2 Q I rx ry h
  obtain ⟨HF,x,y,k,sm,r1,r2,hg,q⟩:=h
  unfold gNe at hg
  split at hg <;> cases hg
  rename_i hh
  obtain ⟨as,ra⟩:=reads_of I sm r1 rx
  obtain ⟨bs,rb⟩:=reads_of I sm r2 ry
  exact ne_dataH ra rb hh.1 hh.2 hu ⟨.bl _,H,I,rfl,q⟩
noncomputable def items:D->Option (List D) | .tuple ds=>some ds | .list ds=>some ds | _=>none
noncomputable def gIn (x y:D):Option Bool:=match y with
  | .tuple ds=>if SeqAt.shaped x = true/\SeqAt.shaped y = true then some (ds.any fun z=>PyData.eqv z x) else none
  | .list ds=>if SeqAt.shaped x = true/\SeqAt.shaped y = true then some (ds.any fun z=>PyData.eqv z x) else none
  | _=>none
theorem op_inD (hu:X.A.units + 66 < cLine):OpR X (compareOp .In) (rD2 X.K gIn):=by
  intro pins s σ H v1 v2 u1 u2 Q I rx ry h
  obtain ⟨HF,x,y,k,sm,r1,r2,hg,q⟩:=h
  obtain ⟨as,ra⟩:=reads_of I sm r1 rx
  obtain ⟨bs,rb⟩:=reads_of I sm r2 ry
  cases y <;> simp only [gIn] at hg <;> try cases hg
  all_goals
    split at hg <;> cases hg
    rename_i ds hh
    have c1:=SeqAt.canLay_of_shaped hh.1
    have c2:=SeqAt.canLay_of_shaped hh.2
    have d1:=SeqAt.depth_of_shaped hh.1
    simp only [PyData.canLay0] at c2
    have m:=Nat.min_le_right (PyData.depthAll ds) x.depth
    first
      | exact SeqAt.in_list_reads rb ra c2 c1 (by omega) ⟨.bl _,H,I,rfl,q⟩
      | exact SeqAt.in_tuple_reads rb ra c2 c1 (by omega) ⟨.bl _,H,I,rfl,q⟩
end
end Dl
namespace Dl
open PySem L2 PySem.Spec PyProof.Rows
noncomputable def spD (K:PySem.W.Frag) (n:Nat) (m:List D->Option D):Sp:=fun vs H Q _=>∃ HF ds d,Same HF H/\TabsIn K HF/\Reps K HF ds vs/\ds.length = n/\m ds = some d/\∀ v H' HF',Grow HF H HF' H'->Rep K HF' d v->Q v H'
structure FnD (P:Program) (w:World) (K:PySem.W.Frag) (mg:Str->Option Value) (base:Heap) (k:Nat) (x:Str) (n:Nat) (m:List D->Option D):Prop where
  ex:∃ (f:Addr) (fd:FuncData) (ps:List Str),FnOk P w K mg base CX0 k f fd ps (spD K n m)/\mg x = some (.ref f)/\PySem.W.keepIn K (.ref f) = true/\Binds K fd ps []
theorem FnD.mono {P:Program} {w:World} {K:PySem.W.Frag} {mg:Str->Option Value} {base:Heap} {k j:Nat} {x:Str} {n:Nat} {m:List D->Option D} (F:FnD P w K mg base k x n m) (h:k<=j):FnD P w K mg base j x n m:=by
  obtain ⟨f,fd,ps,a,b,c,d⟩:=F.ex
  exact ⟨f,fd,ps,a.mono h,b,c,d⟩
theorem FnD.imp {P:Program} {w:World} {K:PySem.W.Frag} {mg:Str->Option Value} {base:Heap} {k:Nat} {x:Str} {n:Nat} {m m':List D->Option D} (F:FnD P w K mg base k x n m) (h:∀ ds d,ds.length = n->m' ds = some d->m ds = some d):FnD P w K mg base k x n m':=by
  obtain ⟨f,fd,ps,a,b,c,d⟩:=F.ex
  refine ⟨f,fd,ps,a.imp fun vs H Q E ⟨HF,ds,d,q1,q0,q2,q3,q4,q5⟩=>⟨HF,ds,d,q1,q0,q2,q3,h ds d q3 q4,q5⟩,b,c,d⟩
section
variable {X:Cx} {a b c e:Expr} {es:List Expr} {fa fb fc:Env->Option D} {fs:Env->Option (List D)} {pos p:Pos} {x:Str}
noncomputable def fCall (n:Nat) (m:List D->Option D) (fs:Env->Option (List D)):Env->Option D:=fun ρ=>(fs ρ).bind fun ds=>if ds.length = n then m ds else none
theorem de_call {k n:Nat} {m:List D->Option D} (F:FnD X.prog X.w X.K X.mg X.base k x n m) (hr:Room k X.A) (hg:Gl X x) (ha:DA X (e :: es) fs) (hdb:(x == ("__debug__":Str)) = false:=by decide)
    (he:starEach (e :: es) X.env = (false,eval e X.env) :: starEach es X.env:=by rfl) (hpl:(backTo pos (starEach es X.env)).any (·.1) = false:=by rfl):DE X (.Call (.Name x p) (e :: es) [] pos) (fCall n m fs):=by
  obtain ⟨f,fd,ps,ok,hm,hk,hb⟩:=F.ex
  refine pe_imp (pe_call (E:=E0) ok hr hg hm hk hb .nil pass0 ha hdb he hpl) fun σ H Q ⟨HF,ρ,d,sm,eo,hf,q⟩=>?_
  obtain ⟨ds,hx,hf⟩:=bs hf
  split at hf
  · rename_i hl
    exact ⟨HF,ρ,ds,sm,eo,hx,fun vs H1 HF1 g1 r1=>⟨HF1,ds,d,g1.fh,eo.tb.mono g1.ff,by rw [List.append_nil]; exact r1,hl,hf,fun v H' HF' g r=>q v H' HF' (g1.trans g) r⟩⟩
  · cases hf
noncomputable def SemN (K:PySem.W.Frag) (r:List V->Hp->VK->Prop) (g:List D->Option D):Prop:=∀ HF H ds vs d Q,Same HF H->Reps K HF ds vs->g ds = some d->(∀ v H' HF',Grow HF H HF' H'->Rep K HF' d v->Q v H')->r vs H Q
noncomputable def fCB (g:List D->Option D) (fs:Env->Option (List D)):Env->Option D:=fun ρ=>(fs ρ).bind g
theorem t_CB {r:List V->Hp->VK->Prop} {g:List D->Option D} (hs:SemN X.K r g):∀ σ H Q,tD X.K (fCB g fs) σ H Q->tCB r (tDA X.K fs) σ H Q:=fun σ H Q ⟨HF,ρ,d,sm,eo,hf,q⟩=>by
  obtain ⟨ds,hx,hf⟩:=bs hf
  exact ⟨HF,ρ,ds,sm,eo,hx,fun vs H1 HF1 g1 r1=>hs HF1 H1 ds vs d Q g1.fh r1 hf fun v H' HF' g2 r2=>q v H' HF' (g1.trans g2) r2⟩
noncomputable def SemNF (K:PySem.W.Frag) (r:List V->Hp->VK->Prop) (g:List D->Option (List D)):Prop:=∀ HF H ds vs es Q,Same HF H->Reps K HF ds vs->g ds = some es ->
  (∀ a us H' HF',Grow HF H HF' H'->H a = none->HF' a = none->H' a = some (.lst us)->Reps K HF' es us->Q (.ref a) H')->r vs H Q
noncomputable def fCBF (g:List D->Option (List D)) (fs:Env->Option (List D)):Env->Option (List D):=fun ρ=>(fs ρ).bind g
theorem t_CBF {r:List V->Hp->VK->Prop} {g:List D->Option (List D)} (hs:SemNF X.K r g):∀ σ H Q,tF X.K (fCBF g fs) σ H Q->tCB r (tDA X.K fs) σ H Q:=fun σ H Q ⟨HF,ρ,d,sm,eo,hf,q⟩=>by
  obtain ⟨ds,hx,hf⟩:=bs hf
  exact ⟨HF,ρ,ds,sm,eo,hx,fun vs H1 HF1 g1 r1=>hs HF1 H1 ds vs d Q g1.fh r1 hf fun a us H' HF' g2 ha hf' h' r2=>q a us H' HF' (g1.trans g2) (g1.hh.free ha) hf' h' r2⟩
structure Blt (X:Cx) (x:Str) (v:Value):Prop where
  gl:Gl X x
  mg:X.mg x = none
  bt:bootBuiltins x = some v
theorem de_callB {id:String} {r:List V->Hp->VK->Prop} {g:List D->Option D} (hc:CallR X (.builtin id) r) (hs:SemN X.K r g) (B:Blt X x (.builtin id)) (ha:DA X (e :: es) fs) (hn:x ≠ "__name__":=by decide) (hdb:(x == ("__debug__":Str)) = false:=by decide)
    (he:starEach (e :: es) X.env = (false,eval e X.env) :: starEach es X.env:=by rfl) (hpl:(backTo pos (starEach es X.env)).any (·.1) = false:=by rfl):DE X (.Call (.Name x p) (e :: es) [] pos) (fCB g fs) :=
  pe_imp (pe_callB hc B.gl B.mg B.bt ha hn hdb he hpl) (t_CB hs)
theorem df_callB {id:String} {r:List V->Hp->VK->Prop} {g:List D->Option (List D)} (hc:CallR X (.builtin id) r) (hs:SemNF X.K r g) (B:Blt X x (.builtin id)) (ha:DA X (e :: es) fs) (hn:x ≠ "__name__":=by decide) (hdb:(x == ("__debug__":Str)) = false:=by decide)
    (he:starEach (e :: es) X.env = (false,eval e X.env) :: starEach es X.env:=by rfl) (hpl:(backTo pos (starEach es X.env)).any (·.1) = false:=by rfl):DF X (.Call (.Name x p) (e :: es) [] pos) (fCBF g fs) :=
  pe_imp (pe_callB hc B.gl B.mg B.bt ha hn hdb he hpl) (t_CBF hs)
theorem de_callTy {T:String} {r:List V->Hp->VK->Prop} {g:List D->Option D} (hc:CallR X (.type T) r) (hs:SemN X.K r g) (B:Blt X x (.type T)) (ha:DA X (e :: es) fs) (hn:x ≠ "__name__":=by decide) (hdb:(x == ("__debug__":Str)) = false:=by decide)
    (he:starEach (e :: es) X.env = (false,eval e X.env) :: starEach es X.env:=by rfl) (hpl:(backTo pos (starEach es X.env)).any (·.1) = false:=by rfl):DE X (.Call (.Name x p) (e :: es) [] pos) (fCB g fs) :=
  pe_imp (pe_callTy hc B.gl B.mg B.bt ha hn hdb he hpl) (t_CB hs)
theorem df_callTy {T:String} {r:List V->Hp->VK->Prop} {g:List D->Option (List D)} (hc:CallR X (.type T) r) (hs:SemNF X.K r g) (B:Blt X x (.type T)) (ha:DA X (e :: es) fs) (hn:x ≠ "__name__":=by decide) (hdb:(x == ("__debug__":Str)) = false:=by decide)
    (he:starEach (e :: es) X.env = (false,eval e X.env) :: starEach es X.env:=by rfl) (hpl:(backTo pos (starEach es X.env)).any (·.1) = false:=by rfl):DF X (.Call (.Name x p) (e :: es) [] pos) (fCBF g fs) :=
  pe_imp (pe_callTy hc B.gl B.mg B.bt ha hn hdb he hpl) (t_CBF hs)
noncomputable def seqOf:D->Option (List D) | .tuple ds=>some ds | .list ds=>some ds | _=>none
noncomputable def oneOf:List D->Option D | [d]=>some d | _=>none
theorem oneOf_some {ds:List D} {d:D} (h:oneOf ds = some d):ds = [d]:=by
  cases ds with
  | nil=>cases h
  | cons x r=>cases r with
    | nil=>cases h; rfl
    | cons _ _=>cases h
theorem seqOf_some {d:D} {ds:List D} (h:seqOf d = some ds):d = .tuple ds\/d = .list ds:=by
  cases d <;> cases h
  · exact .inr rfl
  · exact .inl rfl
noncomputable def gItems:List D->Option (List D):=fun ds=>(oneOf ds).bind seqOf
theorem gItems_some {ds es:List D} (h:gItems ds = some es):ds = [.tuple es]\/ds = [.list es]:=by
  obtain ⟨d,h1,h2⟩:=bs h
  rw [oneOf_some h1]
  rcases seqOf_some h2 with rfl | rfl
  · exact .inl rfl
  · exact .inr rfl
noncomputable def gLen:List D->Option D:=fun ds=>(gItems ds).map fun es=>.int es.length
theorem map_some {α β:Type} {x:Option α} {f:α->β} {b:β} (h:x.map f = some b):∃ a,x = some a/\f a = b:=by
  cases x with
  | none=>cases h
  | some a=>exact ⟨a,rfl,Option.some.inj h⟩
theorem sem_len {K:PySem.W.Frag}:SemN K (fun xs H Q=>∃ p ys,xs = [.ref p]/\(SqL K H p ys\/SqT K H p ys)/\Q (.int ys.length) H) gLen:=by
  intro HF H ds vs d Q sm r hg q
  obtain ⟨es,h1,rfl⟩:=map_some hg
  rcases gItems_some h1 with rfl | rfl
  all_goals
    obtain ⟨v,r',rfl,a,b⟩:=r.cons_inv
    rw [b.nil_inv]
    simp only [Rep] at a
    obtain ⟨p,us,rfl,h,rr⟩:=a
  · exact ⟨p,us,rfl,.inr (same_tup sm h),q _ H HF (.refl sm) (by simp [Rep,rr.length])⟩
  · exact ⟨p,us,rfl,.inl (sm.seq h),q _ H HF (.refl sm) (by simp [Rep,rr.length])⟩
theorem de_len (B:Blt X "len" (.builtin "len")) (ha:DA X [e] fs) (he:starEach [e] X.env = (false,eval e X.env) :: starEach [] X.env:=by rfl):DE X (.Call (.Name "len" p) [e] [] pos) (fCB gLen fs) :=
  de_callB call_len_seq sem_len B ha (by decide) (by decide) he rfl
theorem sem_list {K:PySem.W.Frag}:SemNF K (fun xs H Q=>∃ p ys,xs = [.ref p]/\(SqL K H p ys\/SqT K H p ys)/\∀ l,H l = none->Q (.ref l) (upd H l (.lst ys))) gItems:=by
  intro HF H ds vs d Q sm r hg q
  rcases gItems_some hg with rfl | rfl
  all_goals
    obtain ⟨v,r',rfl,a,b⟩:=r.cons_inv
    rw [b.nil_inv]
    simp only [Rep] at a
    obtain ⟨p,us,rfl,h,rr⟩:=a
  · exact ⟨p,us,rfl,.inr (same_tup sm h),fun l hl=>q l us _ HF (.own sm hl) hl (sm.free hl) upd_same rr⟩
  · exact ⟨p,us,rfl,.inl (sm.seq h),fun l hl=>q l us _ HF (.own sm hl) hl (sm.free hl) upd_same rr⟩
theorem df_list (B:Blt X "list" (.type "list")) (ha:DA X [e] fs) (he:starEach [e] X.env = (false,eval e X.env) :: starEach [] X.env:=by rfl):DF X (.Call (.Name "list" p) [e] [] pos) (fCBF gItems fs) :=
  df_callTy call_list_of sem_list B ha (by decide) (by decide) he rfl
theorem rep_newtup {K:PySem.W.Frag} {HF:Hp} {l:Addr} {ds:List D} {vs:List V} (h:HF l = none) (r:Reps K HF ds vs):Rep K (upd HF l (.tup vs)) (.tuple ds) (.ref l):=by
  simp only [Rep]; exact ⟨l,vs,rfl,.inl (.inl upd_same),r.mono (same_upd h)⟩
theorem sem_tuple {K:PySem.W.Frag}:SemN K (fun xs H Q=>∃ p ys,xs = [.ref p]/\((SqL K H p ys/\∀ l,H l = none->Q (.ref l) (upd H l (.tup ys)))\/(SqT K H p ys/\Q (.ref p) H))) (fun ds=>(gItems ds).map PyData.tuple):=by
  intro HF H ds vs d Q sm r hg q
  obtain ⟨es,h1,rfl⟩:=map_some hg
  rcases gItems_some h1 with rfl | rfl
  all_goals
    obtain ⟨v,r',rfl,a,b⟩:=r.cons_inv
    rw [b.nil_inv]
    have a':=a
    simp only [Rep] at a
    obtain ⟨p,us,rfl,h,rr⟩:=a
  · exact ⟨p,us,rfl,.inr ⟨same_tup sm h,q _ H HF (.refl sm) a'⟩⟩
  · exact ⟨p,us,rfl,.inl ⟨sm.seq h,fun l hl=>q _ _ _ (.new sm hl) (rep_newtup (sm.free hl) rr)⟩⟩
theorem de_tuple (B:Blt X "tuple" (.type "tuple")) (ha:DA X [e] fs) (he:starEach [e] X.env = (false,eval e X.env) :: starEach [] X.env:=by rfl):DE X (.Call (.Name "tuple" p) [e] [] pos) (fCB (fun ds=>(gItems ds).map PyData.tuple) fs) :=
  de_callTy call_tuple_of sem_tuple B ha (by decide) (by decide) he rfl
noncomputable def tyName:D->String | .none=>"NoneType" | .bool _=>"bool" | .int _=>"int" | .str _=>"str" | .tuple _=>"tuple" | .list _=>"list" | .dict _=>"dict"
noncomputable def kit0 (a b:String):Option Bool:=if ((Value.type a) == (Value.type b)) = true then some true else if PySem.W.kitMeta b = true then (fastBuiltinMro a).map (·.contains (Value.type b)) else none
theorem kit_int:∀ a ∈ ["NoneType","bool","int","str","tuple","list"],kit0 a "int" = some (a == "int" || a == "bool"):=by decide +kernel
theorem kit_bool:∀ a ∈ ["NoneType","bool","int","str","tuple","list"],kit0 a "bool" = some (a == "bool"):=by decide +kernel
theorem kit_tuple:∀ a ∈ ["NoneType","bool","int","str","tuple","list"],kit0 a "tuple" = some (a == "tuple"):=by decide +kernel
theorem isinst_D {pins:List (Addr × Obj)} {σ:L2.St} {H HF:Hp} {s:Shared} {A:Around} {E:Value->Shared->Prop} {Q:Value->Shared->Prop} {d:D} {v:V} {u:Value} {T:String} {k:Bool} (I:Inv X pins σ H s) (sm:Same HF H) (r:Rep X.K HF d v) (rv:RelV v u)
    (e:kit0 (tyName d) T = some k) (h:∀ tk,Q (.bool k) { s with toks:=tk }):wpAny (model X.prog X.w) A (call (.builtin "isinstance") [u,.type T]) Q E s:=by
  have e':PySem.W.kitOne X.K (.type (tyName d)) (.type T) = some k:=e
  cases d <;> simp only [Rep] at r
  · subst r; cases rv; exact PySem.W.kia_one PySem.W.kitx_none I.kIn True.intro e' (fun z=>nomatch z) h
  · subst r; cases rv; exact PySem.W.kia_one PySem.W.kitx_bool I.kIn True.intro e' (fun z=>nomatch z) h
  · subst r; obtain ⟨t,rfl⟩:=rv; exact PySem.W.kia_one PySem.W.kitx_int I.kIn True.intro e' (fun z=>nomatch z) h
  · subst r; obtain ⟨t,rfl⟩:=rv; exact PySem.W.kia_one PySem.W.kitx_str I.kIn True.intro e' (fun z=>nomatch z) h
  · obtain ⟨a,vs,rfl,hs,rr⟩:=r
    cases rv
    obtain ⟨its,rv,pl,_⟩:=I.list (sm.seq hs)
    obtain ⟨o,ho,hc,n,hd⟩:=pl.isList
    exact PySem.W.kia_one PySem.W.kitx_list I.kIn ⟨o,ho,hc⟩ e' (fun z=>nomatch z) h
  · obtain ⟨a,vs,rfl,hs,rr⟩:=r
    cases rv
    obtain ⟨its,rv,⟨o,ho,hc,n,hd⟩,_⟩:=I.tuple (same_tup sm hs)
    exact PySem.W.kia_one PySem.W.kitx_tuple I.kIn ⟨o,ho,hc⟩ e' (fun z=>nomatch z) h
noncomputable def fIs (T:String) (f:Env->Option D):Env->Option D:=fun ρ=>(f ρ).bind fun d=>(kit0 (tyName d) T).map PyData.bool
theorem de_is {T:String} {xT:Str} {pT:Pos} {f:Env->Option D} (B:Blt X "isinstance" (.builtin "isinstance")) (C:Blt X xT (.type T)) (h:DE X e f) (hn:xT ≠ "__name__":=by decide) (hd:(xT == ("__debug__":Str)) = false:=by decide)
    (he:starEach [e,.Name xT pT] X.env = (false,eval e X.env) :: starEach [.Name xT pT] X.env:=by rfl):DE X (.Call (.Name "isinstance" p) [e,.Name xT pT] [] pos) (fIs T f):=by
  have hc:CallR X (.builtin "isinstance") (fun xs H Q=>∃ HF d v k,xs = [v,.ty T]/\Same HF H/\Rep X.K HF d v/\kit0 (tyName d) T = some k/\Q (.bl k) H):=by
    intro pins s σ H xs us Q I r h
    obtain ⟨HF,d,v,k,rfl,sm,rp,hk,q⟩:=h
    cases r with
    | cons ra rr =>
      cases rr with
      | cons rb rn =>
        cases rn
        cases rb
        exact isinst_D I sm rp ra hk fun tk=>⟨.bl k,H,I.tok _,rfl,q⟩
  refine pe_imp (pe_callB hc B.gl B.mg B.bt (pa_cons h (pa_cons (pe_bltn (v:=.ty T) C.gl C.mg C.bt rfl hn hd) pa_nil) he) (by decide) (by decide) he rfl) fun σ H Q ⟨HF,ρ,d,sm,eo,hf,q⟩=>?_
  obtain ⟨x,hx,hf⟩:=bs hf
  obtain ⟨k,hk,rfl⟩:=map_some hf
  exact ⟨HF,ρ,x,sm,eo,hx,fun v1 H1 HF1 g1 r1=>⟨HF1,x,v1,k,rfl,g1.fh,r1,hk,q _ H1 HF1 g1 (by simp [Rep])⟩⟩
noncomputable def gCat:D->D->Option D
  | .tuple xs,.tuple ys=>(small (xs ++ ys)).map PyData.tuple
  | _,_=>none
noncomputable def rCatAny (K:PySem.W.Frag):R2:=fun x y H Q=>∃ a b xs ys,x = .ref a/\y = .ref b/\SqT K H a xs/\SqT K H b ys/\xs.length + ys.length<=sizeLine /\
  (xs = []->Q (.ref b) H)/\(ys = []->Q (.ref a) H)/\(∀ p,H p = none->Q (.ref p) (upd H p (.tup (xs ++ ys))))
theorem op_catAny:OpR X (binaryOp .Add) (rCatAny X.K):=by
  intro pins s σ H x y v u Q I rx ry h
  obtain ⟨a,b,xs,ys,rfl,rfl,ha,hb,hz,q0,q1,q2⟩:=h
  by_cases hx:xs = []
  · cases rx
    cases ry
    obtain ⟨its,r1,p1,_⟩:=I.tuple ha
    obtain ⟨its2,r2,p2,_⟩:=I.tuple hb
    obtain ⟨⟨cls,dd,data,sl⟩,ho,hc,n,hd⟩:=id p1
    obtain ⟨⟨cls2,dd2,data2,sl2⟩,ho2,hc2,n2,hd2⟩:=id p2
    simp only at hc hd hc2 hd2
    subst hc hd hc2 hd2
    have e:its = []:=(L2.Vals.nil_iff r1).mpr hx
    exact concat_meets ⟨_,ho,rfl⟩ ⟨_,ho2,rfl⟩ noFill_tuple_add seq_tuple_add PySem.F.slot_tuple_add PySem.F.entry_tuple_add (PySem.F.args_tuple_add_2 _ _)
      (tuple_addW0 a b its.toArray its2.toArray n n2 dd dd2 sl sl2 (by simp [e])) ⟨ho,ho2,⟨.ref b,H,I,rfl,q0 hx⟩⟩
  · exact op_catT pins s σ H _ _ v u Q I rx ry ⟨a,b,xs,ys,rfl,rfl,ha,hb,hx,hz,q1,fun _ p hp=>q2 p hp⟩
theorem sem_cat {K:PySem.W.Frag}:Sem2 K (rCatAny K) gCat:=by
  intro HF H x y v1 v2 d Q sm r1 r2 hg q
  cases x <;> cases y <;> simp only [gCat] at hg <;> try cases hg
  rename_i xs ys
  obtain ⟨es,h1,rfl⟩:=map_some hg
  obtain ⟨rfl,hz⟩:=small_some h1
  have r1':=r1
  have r2':=r2
  simp only [Rep] at r1 r2
  obtain ⟨a,vs,rfl,ha,ra⟩:=r1
  obtain ⟨b,us,rfl,hb,rb⟩:=r2
  refine ⟨a,b,vs,us,rfl,rfl,same_tup sm ha,same_tup sm hb,by rw [ra.length,rb.length,<- List.length_append]; exact hz,fun e=>?_,fun e=>?_,fun p hp=>q _ _ _ (.new sm hp) (rep_newtup (sm.free hp) (ra.append rb))⟩
  · have:xs = []:=by have:=ra.length; rw [e] at this; exact List.length_eq_zero_iff.mp this.symm
    subst this
    exact q _ H HF (.refl sm) r2'
  · have:ys = []:=by have:=rb.length; rw [e] at this; exact List.length_eq_zero_iff.mp this.symm
    subst this
    rw [List.append_nil] at q
    exact q _ H HF (.refl sm) r1'
end
end Dl
namespace Dl
open PySem L2 PySem.Spec PyProof.Rows
structure IterD (K:PySem.W.Frag) (J:It) (HF:Hp) (ds:List D):Prop where
  go:∀ i d H₁ HF₁,ds[i]? = some d->Same HF HF₁->Same HF₁ H₁->J.go i H₁/\∀ x H₂,J.yld i H₁ x H₂->∃ HF₂,Grow HF₁ H₁ HF₂ H₂/\Rep K HF₂ d x
  stop:∀ H₁ HF₁,Same HF HF₁->Same HF₁ H₁->J.stop ds.length H₁
noncomputable def tDI (K:PySem.W.Frag) (f:Env->Option (List D)):TI:=fun σ H R=>∃ HF ρ ds,Same HF H/\EnvOk K HF ρ σ/\f ρ = some ds/\∀ J H' HF',Grow HF H HF' H'->IterD K J HF' ds->R J H'
noncomputable def DI (X:Cx) (tg iter:Expr) (f:Env->Option (List D)):Prop:=PI X tg iter (tDI X.K f)
theorem iter_list {K:PySem.W.Frag} {HF:Hp} {a:Addr} {ds:List D} {vs:List V} (h:SqL K HF a vs) (r:Reps K HF ds vs):IterD K (Itl K a) HF ds where
  go:=fun i d H₁ HF₁ e s1 s2=>by
    obtain ⟨v,hv,rv⟩:=r.getD e
    have q:=s2.seq (s1.seq h)
    refine ⟨⟨vs,v,q,hv⟩,fun x H₂ ⟨e2,hy⟩=>⟨HF₁,by rw [e2]; exact .refl s2,?_⟩⟩
    have:=hy vs q
    rw [hv] at this
    cases this
    exact rv.mono s1
  stop:=fun H₁ HF₁ s1 s2=>⟨vs,s2.seq (s1.seq h),by rw [r.length]; exact Nat.le_refl _⟩
theorem iter_tup {K:PySem.W.Frag} {HF:Hp} {a:Addr} {ds:List D} {vs:List V} (h:SqT K HF a vs) (r:Reps K HF ds vs):IterD K (Itt K a) HF ds where
  go:=fun i d H₁ HF₁ e s1 s2=>by
    obtain ⟨v,hv,rv⟩:=r.getD e
    have q:=same_tup s2 (same_tup s1 h)
    refine ⟨⟨vs,v,q,hv⟩,fun x H₂ ⟨e2,hy⟩=>⟨HF₁,by rw [e2]; exact .refl s2,?_⟩⟩
    have:=hy vs q
    rw [hv] at this
    cases this
    exact rv.mono s1
  stop:=fun H₁ HF₁ s1 s2=>⟨vs,same_tup s2 (same_tup s1 h),by rw [r.length]; exact Nat.le_refl _⟩
theorem iter_range {K:PySem.W.Frag} {HF:Hp} {lo:Int} {n:Nat}:IterD K (Itr lo n) HF ((List.range n).map fun i=>PyData.int (lo + (i:Nat))) where
  go:=fun i d H₁ HF₁ e s1 s2=>by
    rw [List.getElem?_map] at e
    obtain ⟨j,hj,rfl⟩:=map_some e
    obtain ⟨hi,hj'⟩:=List.getElem?_eq_some_iff.mp hj
    have hi':i < n:=by simpa using hi
    have:j = i:=by rw [<- hj']; simp
    subst this
    exact ⟨hi',fun x H₂ ⟨e2,hx⟩=>⟨HF₁,by rw [e2]; exact .refl s2,by simp [Rep,hx]⟩⟩
  stop:=fun H₁ HF₁ s1 s2=>by
    show n<=_
    simp
section
variable {X:Cx} {tg l e:Expr} {f:Env->Option D} {fs:Env->Option (List D)} {pos p:Pos}
theorem pi_imp {t t':TI} (h:PI X tg l t) (i:∀ σ H R,t' σ H R->t σ H R):PI X tg l t':=fun pins s σ H R I q=>h pins s σ H R I (i σ H R q)
theorem pi_seq {tl:TE} (hl:PE X l tl):PI X tg l (fun σ H R=>tl σ H fun x H1=>∃ a,x = .ref a/\((∃ xs,SqL X.K H1 a xs/\R (Itl X.K a) H1)\/∃ xs,SqT X.K H1 a xs/\R (Itt X.K a) H1)):=by
  intro pins s σ H R I h
  refine thn (hl pins s σ H _ I h) fun v s1 ⟨x,H1,I1,r1,q1⟩=>?_
  obtain ⟨a,e,q⟩:=q1
  subst e
  cases r1
  rcases q with ⟨xs,hq,q⟩ | ⟨xs,hq,q⟩
  · obtain ⟨its,rv,pl,hz⟩:=I1.list hq
    refine wpAny_pyIter_list pl.isList ⟨s1.heap.objs.size,[s1.heap.objs.size],_,_,H1,rfl,I1.kept (t':=s1.toks) fun b o e=>Heap.get?_push_of_some _ e,turn_list a _,⟨_,Heap.get?_push_size _ rfl,rfl,rfl⟩,fun b hb=>?_,q⟩
    cases List.mem_singleton.mp hb
    exact I1.fpOk (Nat.le_refl _) I1.fresh
  · obtain ⟨its,rv,pl,hz⟩:=I1.tuple hq
    refine wpAny_pyIter_tuple (show s1.heap.IsTuple a its.toArray from pl) ⟨s1.heap.objs.size,[s1.heap.objs.size],_,_,H1,rfl,I1.kept (t':=s1.toks) fun b o e=>Heap.get?_push_of_some _ e,turn_tuple a _,⟨_,Heap.get?_push_size _ rfl,rfl,rfl⟩,fun b hb=>?_,q⟩
    cases List.mem_singleton.mp hb
    exact I1.fpOk (Nat.le_refl _) I1.fresh
noncomputable def fSeq (f:Env->Option D):Env->Option (List D):=fun ρ=>(f ρ).bind seqOf
theorem di_seq (h:DE X l f):DI X tg l (fSeq f):=pi_imp (pi_seq h) fun σ H R ⟨HF,ρ,ds,sm,eo,hf,q⟩=>by
  obtain ⟨x,hx,hf⟩:=bs hf
  refine ⟨HF,ρ,x,sm,eo,hx,fun v1 H1 HF1 g1 r1=>?_⟩
  rcases seqOf_some hf with rfl | rfl
  · simp only [Rep] at r1
    obtain ⟨a,vs,rfl,hs,rr⟩:=r1
    exact ⟨a,rfl,.inr ⟨vs,same_tup g1.fh hs,q _ H1 HF1 g1 (iter_tup hs rr)⟩⟩
  · simp only [Rep] at r1
    obtain ⟨a,vs,rfl,hs,rr⟩:=r1
    exact ⟨a,rfl,.inl ⟨vs,g1.fh.seq hs,q _ H1 HF1 g1 (iter_list hs rr)⟩⟩
noncomputable def okR (i:Int):Bool:=decide (-(2 ^ 62)<=i) && decide (i < 2 ^ 62)
noncomputable def gRange:List D->Option (List D)
  | [.int j]=>if okR j then some ((List.range j.toNat).map fun i=>PyData.int ((i:Nat):Int)) else none
  | _=>none
theorem gRange_some {ds es:List D} (h:gRange ds = some es):∃ j,ds = [.int j]/\okR j = true/\es = (List.range j.toNat).map fun i=>PyData.int ((i:Nat):Int):=by
  unfold gRange at h
  split at h
  · split at h
    · cases h; exact ⟨_,rfl,‹_›,rfl⟩
    · cases h
  · cases h
noncomputable def fRange (fs:Env->Option (List D)):Env->Option (List D):=fun ρ=>(fs ρ).bind gRange
theorem di_range (B:Blt X "range" (.type "range")) (h:DA X [e] fs) (hs:starEach [e] X.env = [(false,eval e X.env)]:=by rfl):DI X tg (.Call (.Name "range" p) [e] [] pos) (fRange fs) :=
  pi_imp (pi_range1 B.gl B.mg h hs) fun σ H R ⟨HF,ρ,ds,sm,eo,hf,q⟩=>by
    obtain ⟨x,hx,hf⟩:=bs hf
    obtain ⟨j,rfl,hj,rfl⟩:=gRange_some hf
    refine ⟨HF,ρ,_,sm,eo,hx,fun vs H1 HF1 g1 r1=>?_⟩
    obtain ⟨v,r,rfl,a,b⟩:=r1.cons_inv
    rw [b.nil_inv]
    simp only [Rep] at a
    subst a
    unfold okR at hj
    rw [Bool.and_eq_true] at hj
    refine ⟨j,rfl,of_decide_eq_true hj.1,of_decide_eq_true hj.2,q _ H1 HF1 g1 ?_⟩
    have:=iter_range (K:=X.K) (HF:=HF1) (lo:=0) (n:=j.toNat)
    simpa using this
noncomputable def tDG (K:PySem.W.Frag) (f:Env->D->Option Env):TG:=fun v σ H Q=>∃ HF ρ d ρ',Same HF H/\EnvOk K HF ρ σ/\Rep K HF d v/\f ρ d = some ρ'/\∀ σ',EnvOk K HF ρ' σ'->EnvOk K HF ρ σ'->Q σ' H
noncomputable def DG (X:Cx) (tg:Expr) (f:Env->D->Option Env):Prop:=PG X tg (tDG X.K f)
theorem pg_imp {t t':TG} (h:PG X tg t) (i:∀ v σ H Q,t' v σ H Q->t v σ H Q):PG X tg t':=fun pins s σ H v u Q I r q=>h pins s σ H v u Q I r (i v σ H Q q)
noncomputable def isFree (ρ:Env) (i:Nat):Bool:=((ρ[i]?).getD none).isNone
theorem env_set {K:PySem.W.Frag} {HF:Hp} {ρ:Env} {σ:L2.St} {i:Nat} {d:D} {v:V} (eo:EnvOk K HF ρ σ) (r:Rep K HF d v):EnvOk K HF (ρ.set i (some d)) (σ.set i (some v)):=by
  refine ⟨fun j e h=>?_,by rw [List.length_set,List.length_set]; exact eo.len,eo.tb⟩
  rw [List.getElem?_set] at h ⊢
  by_cases hij:i = j
  · rw [if_pos hij] at h ⊢
    by_cases hl:i < ρ.length
    · rw [if_pos hl] at h
      cases h
      rw [if_pos (Nat.lt_of_lt_of_le hl eo.len)]
      exact ⟨v,rfl,r⟩
    · rw [if_neg hl] at h; cases h
  · rw [if_neg hij] at h ⊢
    exact eo.get j e h
theorem env_old {K:PySem.W.Frag} {HF:Hp} {ρ:Env} {σ:L2.St} {i:Nat} {v:V} (eo:EnvOk K HF ρ σ) (hf:isFree ρ i = true):EnvOk K HF ρ (σ.set i (some v)):=by
  refine ⟨fun j e h=>?_,by rw [List.length_set]; exact eo.len,eo.tb⟩
  have hij:i ≠ j:=by
    intro z; subst z
    unfold isFree at hf; rw [h] at hf; cases hf
  rw [List.getElem?_set,if_neg hij]
  exact eo.get j e h
noncomputable def fG (i:Nat):Env->D->Option Env:=fun ρ d=>if isFree ρ i = true then some (ρ.set i (some d)) else none
theorem dg_name (i:Nat) {x:Str} (hN:X.N.Nodup) (hi:X.N[i]? = some x) (hx:Loc X.env.scope x) (hf:X.fn x = true\/X.env.scope.names.lookup x = some .local:=by first | exact .inl rfl | exact .inr rfl | assumption):DG X (.Name x pos) (fG i) :=
  pg_imp (pg_name hN hi hx hf) fun v σ H Q ⟨HF,ρ,d,ρ',sm,eo,r,hf,q⟩=>by
    unfold fG at hf
    split at hf
    · cases hf; exact q _ (env_set eo r) (env_old eo ‹_›)
    · cases hf
noncomputable def fG2 (i j:Nat):Env->D->Option Env:=fun ρ d=>match d with
  | .tuple [x,y]=>if isFree ρ i = true/\isFree ρ j = true then some ((ρ.set i (some x)).set j (some y)) else none
  | _=>none
theorem dg_two (i j:Nat) {x y:Str} {px py:Pos} {k:Nat} (hc:X.calm = true) (hN:X.N.Nodup) (hi:X.N[i]? = some x) (hx:Loc X.env.scope x) (hj:X.N[j]? = some y) (hy:Loc X.env.scope y)
    (hf:X.fn x = true\/X.env.scope.names.lookup x = some .local:=by first | exact .inl rfl | exact .inr rfl | assumption) (hf':X.fn y = true\/X.env.scope.names.lookup y = some .local:=by first | exact .inl rfl | exact .inr rfl | assumption) :
    DG X (.Tuple [.Name x px,.Name y py] k pos) (fG2 i j) :=
  pg_imp (pg_tup hc (pgs_cons (pg_name hN hi hx hf) (pgs_cons (pg_name hN hj hy hf') pgs_nil))) fun v σ H Q ⟨HF,ρ,d,ρ',sm,eo,r,hf,q⟩=>by
    unfold fG2 at hf
    split at hf
    · rename_i x' y'
      split at hf
      · rename_i hh
        cases hf
        simp only [Rep] at r
        obtain ⟨a,vs,rfl,hs,rr⟩:=r
        obtain ⟨v1,r1,rfl,a1,b1⟩:=rr.cons_inv
        obtain ⟨v2,r2,rfl,a2,b2⟩:=b1.cons_inv
        rw [b2.nil_inv] at hs
        exact ⟨a,_,rfl,same_tup sm hs,rfl,v1,_,rfl,v2,_,rfl,rfl,q _ (env_set (env_set eo a1) a2) (env_old (env_old eo hh.1) hh.2)⟩
      · cases hf
    · cases hf
noncomputable def compL (tgt:Env->D->Option Env) (tt:Env->Option Bool) (te:Env->Option D) (ρ:Env):List D->Option (List D)
  | []=>some []
  | d :: ds=>(tgt ρ d).bind fun ρ'=>(tt ρ').bind fun b=>if b = true then (te ρ').bind fun x=>(compL tgt tt te ρ ds).map (x :: ·) else compL tgt tt te ρ ds
noncomputable def DTs (X:Cx) (ifs:List Expr) (f:Env->Option Bool):Prop:=PTs X ifs (tDT X.K f)
theorem dts_nil:DTs X [] (fun _=>some true):=fun pins s σ H Q I ⟨HF,ρ,b,sm,eo,hf,q⟩=>pts_nil pins s σ H Q I (by cases hf; exact q H HF (.refl sm))
theorem dts_one {c:Expr} {t:Env->Option Bool} (h:DT X c t):DTs X [c] t:=pts_one h
noncomputable def capsV (t:Nat) (cs:List Nat) (σ:L2.St):L2.St:=List.replicate t none ++ cs.map fun j=>(σ[j]?).getD none
noncomputable def capsD (t:Nat) (cs:List Nat) (ρ:Env):Env:=List.replicate t none ++ cs.map fun j=>(ρ[j]?).getD none
theorem caps_ok {K:PySem.W.Frag} {HF:Hp} {ρ:Env} {σ:L2.St} {t:Nat} {cs:List Nat} (eo:EnvOk K HF ρ σ):EnvOk K HF (capsD t cs ρ) (capsV t cs σ):=by
  refine ⟨fun i d h=>?_,by simp [capsD,capsV],eo.tb⟩
  unfold capsD at h
  unfold capsV
  by_cases hi:i < t
  · rw [List.getElem?_append_left (by simpa using hi),List.getElem?_replicate,if_pos hi] at h
    cases h
  · rw [List.getElem?_append_right (by simpa using hi),List.getElem?_map,List.length_replicate] at h
    rw [List.getElem?_append_right (by simpa using hi),List.getElem?_map,List.length_replicate]
    obtain ⟨j,hj,h⟩:=map_some h
    rw [hj]
    cases e:ρ[j]? with
    | none=>rw [e] at h; cases h
    | some o =>
      rw [e] at h
      have h:o = some d:=h
      subst h
      obtain ⟨v,a,b⟩:=eo.get j d e
      exact ⟨v,by show some ((σ[j]?).getD none) = _; rw [a]; rfl,b⟩
noncomputable def fComp (t:Nat) (cs:List Nat) (fi:Env->Option (List D)) (tgt:Env->D->Option Env) (tt:Env->Option Bool) (te:Env->Option D):Env->Option (List D):=fun ρ=>(fi ρ).bind fun ds=>(compL tgt tt te (capsD t cs ρ) ds).bind small
variable {elt iter:Expr} {ifs:List Expr} {scope:Scope} {N:List Str} {t:Nat} {cs:List Nat} {fi:Env->Option (List D)} {tgt:Env->D->Option Env} {tt:Env->Option Bool} {te:Env->Option D}
theorem t_comp:∀ σ H Q,tF X.K (fComp t cs fi tgt tt te) σ H Q->tComp (tDI X.K fi) (tDG X.K tgt) (tDT X.K tt) (tD X.K te) (capsV t cs) σ H Q:=fun σ H Q ⟨HF,ρ,out,sm,eo,hf,q⟩=>by
  obtain ⟨ds,hx,hf⟩:=bs hf
  obtain ⟨out',ho,hf⟩:=bs hf
  obtain ⟨rfl,hz⟩:=small_some hf
  refine ⟨HF,ρ,ds,sm,eo,hx,fun J H1 HF1 g1 it Dn hD=>?_⟩
  have eo1:=caps_ok (t:=t) (cs:=cs) (eo.mono g1.ff)
  have hFD:HF1 Dn = none:=g1.fh.free hD
  refine ⟨fun i m σ' H'=>m + i = ds.length/\∃ HF' xs ys rest,Grow HF1 H1 HF' H'/\HF' Dn = none/\H' Dn = some (.lst ys)/\Reps X.K HF' xs ys/\EnvOk X.K HF' (capsD t cs ρ) σ'/\compL tgt tt te (capsD t cs ρ) (ds.drop i) = some rest/\xs ++ rest = out,
    ⟨ds.length,rfl,HF1,[],[],out,.own g1.fh hD,hFD,upd_same,Reps.nil,eo1,ho,rfl⟩,?_⟩
  rintro i m σ' H' ⟨hm,HF',xs,ys,rest,G,hFD',hHD,rr,eo',hc,hout⟩
  by_cases hi:i < ds.length
  · refine .inr ?_
    have hd:ds.drop i = ds[i] :: ds.drop (i + 1):=List.drop_eq_getElem_cons hi
    have he:ds[i]? = some ds[i]:=List.getElem?_eq_some_iff.mpr ⟨hi,rfl⟩
    generalize ds[i] = d at hd he
    rw [hd] at hc
    unfold compL at hc
    obtain ⟨ρ',h1,hc⟩:=bs hc
    obtain ⟨b,h2,hc⟩:=bs hc
    obtain ⟨go,yld⟩:=it.go i d H' HF' he G.ff G.fh
    refine ⟨go,fun x H2 y=>?_⟩
    obtain ⟨HF2,G2,rx⟩:=yld x H2 y
    refine ⟨HF2,_,d,ρ',G2.fh,eo'.mono G2.ff,rx,h1,fun σ2 eo2 eo2'=>?_⟩
    refine ⟨HF2,ρ',b,G2.fh,eo2,h2,fun H3 HF3 G3=>?_⟩
    have nof:∀ HF4 H4,Grow HF' H' HF4 H4->HF4 Dn = none:=fun HF4 H4 G4=>by
      cases e4:HF4 Dn with
      | none=>rfl
      | some o =>
        rcases G4.nw Dn o e4 with z | z
        · rw [hFD'] at z; cases z
        · rw [hHD] at z; cases z
    cases b with
    | false =>
      refine iteF ⟨m - 1,by omega,by omega,HF3,xs,ys,rest,(G.trans G2).trans G3,nof _ _ (G2.trans G3),(G2.trans G3).hh _ _ hHD,rr.mono (G2.trans G3).ff,eo2'.mono G3.ff,by simpa using hc,hout⟩
    | true =>
      rw [if_pos rfl] at hc
      obtain ⟨z,h3,hc⟩:=bs hc
      obtain ⟨rest',h4,rfl⟩:=map_some hc
      refine iteT ⟨HF3,ρ',z,G3.fh,eo2.mono G3.ff,h3,fun v H4 HF4 G4 rv=>?_⟩
      have GG:=(G2.trans G3).trans G4
      have n4:=nof _ _ GG
      have h4D:=GG.hh _ _ hHD
      have hlen:ys.length < sizeLine:=by
        have e1:=rr.length
        have e2:out.length = xs.length + (rest'.length + 1):=by rw [<- hout]; simp
        omega
      refine ⟨ys,h4D,hlen,m - 1,by omega,by omega,HF4,xs ++ [z],ys ++ [v],rest',?_,n4,upd_same,(rr.mono GG.ff).append (Reps.cons rv Reps.nil),eo2'.mono (G3.ff.trans G4.ff),h4,by simp [<- hout]⟩
      have G5:=G.trans GG
      refine ⟨fun b o e=>?_,G5.ff,fun b o e=>?_,G5.nw⟩
      · rw [upd_ne (ne_of_none e hD)]; exact G5.hh b o e
      · rw [upd_ne (ne_of_none e n4)]; exact G5.fh b o e
  · have hi':i = ds.length:=by omega
    subst hi'
    rw [List.drop_length] at hc
    cases hc
    rw [List.append_nil] at hout
    subst hout
    exact .inl ⟨it.stop H' HF' G.ff G.fh,q Dn ys H' HF' (g1.trans G) (g1.hh.free hD) hFD' hHD rr⟩
theorem df_comp (hc:X.calm = true) (S:CompSc X scope N (capsV t cs)) (hi:DI X tg iter fi)
    (hY:∀ fp s H,DG (cxComp X scope N fp s H) tg tgt/\DTs (cxComp X scope N fp s H) ifs tt/\DE (cxComp X scope N fp s H) elt te)
    (hs:∀ x,foldedSetIterable iter X.env x = pure x:=by intro _; rfl):DF X (.ListComp elt [⟨tg,iter,ifs,0⟩] scope pos) (fComp t cs fi tgt tt te):=pe_imp (pe_comp (g:=tDG X.K tgt) (tt:=tDT X.K tt) (te:=tD X.K te) hc S hi hY hs) t_comp
end
end Dl
namespace Dl
open PySem L2 PySem.Spec PyProof.Rows
inductive Slot where
  | non | val (d:D) | own (ds:List D)
noncomputable abbrev SEnv:=List Slot
noncomputable def Slot.all:Slot->Option D | .non=>none | .val d=>some d | .own ds=>some (.list ds)
noncomputable def Slot.frz:Slot->Option D | .val d=>some d | _=>none
noncomputable def Slot.thaw:Slot->Slot | .own ds=>.val (.list ds) | s=>s
noncomputable def vAll (ρ:SEnv):Env:=ρ.map Slot.all
noncomputable def vFrz (ρ:SEnv):Env:=ρ.map Slot.frz
noncomputable def hand (fz:List Nat):Nat->SEnv->SEnv
  | _,[]=>[]
  | k,s :: r=>(if fz.contains k = true then s.thaw else s) :: hand fz (k + 1) r
theorem hand_get (fz:List Nat):∀ (ρ:SEnv) (k i:Nat),(hand fz k ρ)[i]? = (ρ[i]?).map fun s=>if fz.contains (k + i) = true then s.thaw else s
  | [],k,i=>by simp [hand]
  | s :: r,k,0=>by simp [hand]
  | s :: r,k,i + 1=>by
    simp only [hand,List.getElem?_cons_succ]
    rw [hand_get fz r (k + 1) i,Nat.add_assoc,Nat.add_comm 1 i]
theorem hand_len (fz:List Nat):∀ (ρ:SEnv) (k:Nat),(hand fz k ρ).length = ρ.length
  | [],k=>rfl
  | s :: r,k=>by simp [hand,hand_len fz r (k + 1)]
structure SOk (K:PySem.W.Frag) (HF₀ H₀ HF H:Hp) (ρ:SEnv) (σ:L2.St):Prop where
  gr:Grow HF₀ H₀ HF H
  val:∀ (i:Nat) (d:D),ρ[i]? = some (.val d)->∃ v,σ[i]? = some (some v)/\Rep K HF d v
  own:∀ (i:Nat) (ds:List D),ρ[i]? = some (.own ds)->∃ a vs,σ[i]? = some (some (.ref a))/\H a = some (.lst vs)/\HF a = none/\H₀ a = none/\Reps K HF ds vs
  inj:∀ (i j:Nat) (ds es:List D) (a:Addr),ρ[i]? = some (.own ds)->ρ[j]? = some (.own es)->σ[i]? = some (some (.ref a))->σ[j]? = some (some (.ref a))->i = j
  len:ρ.length<=σ.length
  tb:TabsIn K HF
section
variable {K:PySem.W.Frag} {HF₀ H₀ HF H HF' H':Hp} {ρ:SEnv} {σ:L2.St}
theorem SOk.all (S:SOk K HF₀ H₀ HF H ρ σ):EnvOk K H (vAll ρ) σ:=by
  refine ⟨fun i d h=>?_,by simpa [vAll] using S.len,S.tb.mono S.gr.fh⟩
  unfold vAll at h
  rw [List.getElem?_map] at h
  obtain ⟨s,hs,h⟩:=map_some h
  cases s with
  | non=>cases h
  | val e=>cases h; obtain ⟨v,a,b⟩:=S.val i _ hs; exact ⟨v,a,b.mono S.gr.fh⟩
  | own ds =>
    cases h
    obtain ⟨a,vs,e1,e2,e3,_,e4⟩:=S.own i ds hs
    exact ⟨.ref a,e1,by simp only [Rep]; exact ⟨a,vs,rfl,SqL.of e2,e4.mono S.gr.fh⟩⟩
theorem SOk.frz (S:SOk K HF₀ H₀ HF H ρ σ):EnvOk K HF (vFrz ρ) σ:=by
  refine ⟨fun i d h=>?_,by simpa [vFrz] using S.len,S.tb⟩
  unfold vFrz at h
  rw [List.getElem?_map] at h
  obtain ⟨s,hs,h⟩:=map_some h
  cases s with
  | non=>cases h
  | val e=>cases h; exact S.val i _ hs
  | own ds=>cases h
theorem SOk.grow (S:SOk K HF₀ H₀ HF H ρ σ) (g:Grow HF H HF' H'):SOk K HF₀ H₀ HF' H' ρ σ where
  gr:=S.gr.trans g
  val:=fun i d h=>let ⟨v,a,b⟩:=S.val i d h; ⟨v,a,b.mono g.ff⟩
  own:=fun i ds h=>by
    obtain ⟨a,vs,e1,e2,e3,e5,e4⟩:=S.own i ds h
    refine ⟨a,vs,e1,g.hh _ _ e2,?_,e5,e4.mono g.ff⟩
    cases e:HF' a with
    | none=>rfl
    | some o =>
      rcases g.nw a o e with z | z
      · rw [e3] at z; cases z
      · rw [e2] at z; cases z
  inj:=S.inj
  len:=S.len
  tb:=S.tb.mono g.ff
theorem SOk.step (S:SOk K HF₀ H₀ HF H ρ σ) (g:Same H H'):SOk K HF₀ H₀ HF H' ρ σ:=S.grow ⟨g,.refl _,S.gr.fh.trans g,fun _ _ e=>.inl e⟩
theorem SOk.hand (S:SOk K HF₀ H₀ HF H ρ σ) (fz:List Nat):∃ HF1,Same HF HF1/\SOk K HF₀ H₀ HF1 H (hand fz 0 ρ) σ:=by
  let P:Addr->Prop:=fun a=>∃ i ds,fz.contains i = true/\ρ[i]? = some (.own ds)/\σ[i]? = some (some (.ref a))
  have cl:=Classical.propDecidable
  let HF1:Hp:=fun a=>if P a then H a else HF a
  have hP:∀ a,P a->HF a = none/\H₀ a = none:=fun a ⟨i,ds,_,h1,h2⟩=>by
    obtain ⟨a',vs,e1,e2,e3,e5,e4⟩:=S.own i ds h1
    rw [h2] at e1
    cases e1
    exact ⟨e3,e5⟩
  have s1:Same HF HF1:=fun b o e=>by
    show (if P b then H b else HF b) = some o
    by_cases h:P b
    · rw [(hP b h).1] at e; cases e
    · rw [if_neg h]; exact e
  have s2:Same HF1 H:=fun b o e=>by
    have e:(if P b then H b else HF b) = some o:=e
    by_cases h:P b
    · rw [if_pos h] at e; exact e
    · rw [if_neg h] at e; exact S.gr.fh b o e
  refine ⟨HF1,s1,⟨S.gr.hh,S.gr.ff.trans s1,s2,fun b o e=>?_⟩,fun i d h=>?_,fun i ds h=>?_,fun i j ds es a h1 h2=>?_,by rw [hand_len]; exact S.len,S.tb.mono s1⟩
  · have e:(if P b then H b else HF b) = some o:=e
    by_cases h:P b
    · exact .inr (hP b h).2
    · rw [if_neg h] at e; exact S.gr.nw b o e
  · rw [hand_get] at h
    obtain ⟨s,hs,h⟩:=map_some h
    rw [Nat.zero_add] at h
    cases s with
    | non=>split at h <;> cases h
    | val e =>
      have:Slot.val e = Slot.val d:=by split at h <;> exact h
      cases this
      obtain ⟨v,a,b⟩:=S.val i _ hs
      exact ⟨v,a,b.mono s1⟩
    | own ds =>
      split at h
      · rename_i hc
        cases h
        obtain ⟨a,vs,e1,e2,e3,e5,e4⟩:=S.own i ds hs
        refine ⟨.ref a,e1,?_⟩
        simp only [Rep]
        refine ⟨a,vs,rfl,.inl (.inl ?_),e4.mono s1⟩
        show (if P a then H a else HF a) = _
        rw [if_pos ⟨i,ds,hc,hs,e1⟩]
        exact e2
      · cases h
  · rw [hand_get] at h
    obtain ⟨s,hs,h⟩:=map_some h
    rw [Nat.zero_add] at h
    cases s with
    | non=>split at h <;> cases h
    | val e=>split at h <;> cases h
    | own es =>
      split at h
      · cases h
      · rename_i hc
        cases h
        obtain ⟨a,vs,e1,e2,e3,e5,e4⟩:=S.own i ds hs
        refine ⟨a,vs,e1,e2,?_,e5,e4.mono s1⟩
        show (if P a then H a else HF a) = none
        rw [if_neg ?_]
        · exact e3
        · rintro ⟨j,es,hj,h1,h2⟩
          have:=S.inj i j ds es a hs h1 e1 h2
          subst this
          exact hc hj
  · rw [hand_get] at h1 h2
    obtain ⟨s,hs,h1⟩:=map_some h1
    obtain ⟨s',hs',h2⟩:=map_some h2
    rw [Nat.zero_add] at h1 h2
    cases s with
    | non=>split at h1 <;> cases h1
    | val e=>split at h1 <;> cases h1
    | own xs =>
      cases s' with
      | non=>split at h2 <;> cases h2
      | val e=>split at h2 <;> cases h2
      | own ys=>exact S.inj i j _ _ a hs hs'
theorem SOk.setV (S:SOk K HF₀ H₀ HF H ρ σ) {i:Nat} {d:D} {v:V} (r:Rep K HF d v):SOk K HF₀ H₀ HF H (ρ.set i (.val d)) (σ.set i (some v)):=by
  have ne:∀ {j:Nat} {s:Slot},(ρ.set i (.val d))[j]? = some s->(∀ e,s ≠ .val e)->i ≠ j/\ρ[j]? = some s:=fun {j s} h hn=>by
    rw [List.getElem?_set] at h
    by_cases hij:i = j
    · rw [if_pos hij] at h
      split at h
      · cases h; exact absurd rfl (hn _)
      · cases h
    · rw [if_neg hij] at h; exact ⟨hij,h⟩
  refine ⟨S.gr,fun j e h=>?_,fun j ds h=>?_,fun j k ds es a h1 h2 h3 h4=>?_,by rw [List.length_set,List.length_set]; exact S.len,S.tb⟩
  · rw [List.getElem?_set] at h ⊢
    by_cases hij:i = j
    · rw [if_pos hij] at h ⊢
      split at h
      · rename_i hl
        cases h
        rw [if_pos (Nat.lt_of_lt_of_le hl S.len)]
        exact ⟨v,rfl,r⟩
      · cases h
    · rw [if_neg hij] at h ⊢
      exact S.val j e h
  · obtain ⟨hij,h⟩:=ne h fun e z=>by cases z
    rw [List.getElem?_set,if_neg hij]
    exact S.own j ds h
  · obtain ⟨n1,h1⟩:=ne h1 fun e z=>by cases z
    obtain ⟨n2,h2⟩:=ne h2 fun e z=>by cases z
    rw [List.getElem?_set,if_neg n1] at h3
    rw [List.getElem?_set,if_neg n2] at h4
    exact S.inj j k ds es a h1 h2 h3 h4
theorem SOk.setO (S:SOk K HF₀ H₀ HF H ρ σ) {i:Nat} {ds:List D} {a:Addr} {vs:List V} (hs:Same H H') (h1:H' a = some (.lst vs)) (h2:HF a = none) (h3:H₀ a = none) (r:Reps K HF ds vs)
    (fr:∀ j es,i ≠ j->ρ[j]? = some (.own es)->σ[j]? ≠ some (some (.ref a))):SOk K HF₀ H₀ HF H' (ρ.set i (.own ds)) (σ.set i (some (.ref a))):=by
  have S:=S.step hs
  refine ⟨S.gr,fun j e h=>?_,fun j es h=>?_,fun j k xs ys b e1 e2 e3 e4=>?_,by rw [List.length_set,List.length_set]; exact S.len,S.tb⟩
  · rw [List.getElem?_set] at h ⊢
    by_cases hij:i = j
    · rw [if_pos hij] at h
      split at h <;> cases h
    · rw [if_neg hij] at h ⊢
      exact S.val j e h
  · rw [List.getElem?_set] at h ⊢
    by_cases hij:i = j
    · rw [if_pos hij] at h ⊢
      split at h
      · rename_i hl
        cases h
        rw [if_pos (Nat.lt_of_lt_of_le hl S.len)]
        exact ⟨a,vs,rfl,h1,h2,h3,r⟩
      · cases h
    · rw [if_neg hij] at h ⊢
      exact S.own j es h
  · rw [List.getElem?_set] at e1 e2 e3 e4
    by_cases hij:i = j
    · by_cases hik:i = k
      · exact hij.symm.trans hik
      · rw [if_pos hij] at e1 e3
        rw [if_neg hik] at e2 e4
        split at e3
        · cases e3; exact absurd e4 (fr k ys hik e2)
        · cases e3
    · by_cases hik:i = k
      · rw [if_neg hij] at e1 e3
        rw [if_pos hik] at e2 e4
        split at e4
        · cases e4; exact absurd e3 (fr j xs hij e1)
        · cases e4
      · rw [if_neg hij] at e1 e3
        rw [if_neg hik] at e2 e4
        exact S.inj j k xs ys b e1 e2 e3 e4
end
inductive Out where
  | nx (ρ:SEnv) | rt (d:D)
noncomputable def OutOk (K:PySem.W.Frag) (HF₀ H₀ HF:Hp) (E:Ends):Out->Prop
  | .nx ρ'=>∀ σ' H' HF',SOk K HF₀ H₀ HF' H' ρ' σ'->Same HF HF'->E.nx σ' H'
  | .rt d=>∀ v H' HF',Grow HF₀ H₀ HF' H'->Rep K HF' d v->E.rt v H'
noncomputable def tS (K:PySem.W.Frag) (HF₀ H₀:Hp) (g:SEnv->Option Out):TS:=fun E σ H=>∃ HF ρ o,SOk K HF₀ H₀ HF H ρ σ/\g ρ = some o/\OutOk K HF₀ H₀ HF E o
noncomputable def DS (X:Cx) (HF₀ H₀:Hp) (st:Stmt) (g:SEnv->Option Out):Prop:=PS X st (tS X.K HF₀ H₀ g)
noncomputable def DSs (X:Cx) (HF₀ H₀:Hp) (st:List Stmt) (g:SEnv->Option Out):Prop:=PSs X st (tS X.K HF₀ H₀ g)
section
variable {X:Cx} {HF₀ H₀:Hp} {st:Stmt} {rest:List Stmt} {g g1 g2:SEnv->Option Out} {e:Expr} {pos:Pos}
theorem ps_imp {t t':TS} (h:PS X st t) (i:∀ E σ H,t' E σ H->t E σ H):PS X st t':=fun pins s σ H E I q=>h pins s σ H E I (i E σ H q)
theorem pss_imp {t t':TS} (h:PSs X rest t) (i:∀ E σ H,t' E σ H->t E σ H):PSs X rest t':=fun pins s σ H E I q=>h pins s σ H E I (i E σ H q)
noncomputable def gNx:SEnv->Option Out:=fun ρ=>some (.nx ρ)
noncomputable def gSeq (g1 g2:SEnv->Option Out):SEnv->Option Out:=fun ρ=>(g1 ρ).bind fun | .nx ρ'=>g2 ρ' | .rt d=>some (.rt d)
theorem OutOk.mono {K:PySem.W.Frag} {HF HF':Hp} {E:Ends} {o:Out} (s:Same HF HF') (h:OutOk K HF₀ H₀ HF E o):OutOk K HF₀ H₀ HF' E o:=by
  cases o with
  | nx ρ'=>exact fun σ' H' HF2 S s2=>h σ' H' HF2 S (s.trans s2)
  | rt d=>exact h
theorem dss_nil:DSs X HF₀ H₀ [] gNx:=pss_imp pss_nil fun E σ H ⟨HF,ρ,o,S,hg,q⟩=>by cases hg; exact q σ H HF S (.refl _)
theorem dss_cons (h1:DS X HF₀ H₀ st g1) (h2:DSs X HF₀ H₀ rest g2):DSs X HF₀ H₀ (st :: rest) (gSeq g1 g2):=pss_imp (pss_cons h1 h2) fun E σ H ⟨HF,ρ,o,S,hg,q⟩=>by
  obtain ⟨o1,h,hg⟩:=bs hg
  refine ⟨HF,ρ,o1,S,h,?_⟩
  cases o1 with
  | nx ρ'=>exact fun σ' H' HF' S' s=>⟨HF',ρ',o,S',hg,q.mono s⟩
  | rt d=>cases hg; exact q
theorem dss_one (h1:DS X HF₀ H₀ st g1):DSs X HF₀ H₀ [st] g1:=pss_one h1
theorem ds_pass:DS X HF₀ H₀ (.Pass pos) gNx:=ps_imp ps_pass fun E σ H ⟨HF,ρ,o,S,hg,q⟩=>by cases hg; exact q σ H HF S (.refl _)
theorem ds_doc {x j pos pos'}:DS X HF₀ H₀ (.Expr (.Constant (.str x) j pos) pos') gNx:=ps_imp ps_doc fun E σ H ⟨HF,ρ,o,S,hg,q⟩=>by cases hg; exact q σ H HF S (.refl _)
noncomputable def gIf (t:Env->Option Bool) (g1 g2:SEnv->Option Out):SEnv->Option Out:=fun ρ=>(t (vAll ρ)).bind fun b=>if b = true then g1 ρ else g2 ρ
theorem ds_if {c:Expr} {a b:List Stmt} {t:Env->Option Bool} (hc:DT X c t) (ha:DSs X HF₀ H₀ a g1) (hb:DSs X HF₀ H₀ b g2):DS X HF₀ H₀ (.If c a b pos) (gIf t g1 g2):=ps_imp (ps_if hc ha hb) fun E σ H ⟨HF,ρ,o,S,hg,q⟩=>by
  obtain ⟨b,h,hg⟩:=bs hg
  refine ⟨H,vAll ρ,b,.refl _,S.all,h,fun H' HF' G=>?_⟩
  cases b with
  | true=>exact iteT ⟨HF,ρ,o,S.step G.hh,hg,q⟩
  | false=>exact iteF ⟨HF,ρ,o,S.step G.hh,hg,q⟩
theorem all_hand:∀ (ρ:SEnv) (k n:Nat),k + ρ.length<=n->vFrz (hand (List.range n) k ρ) = vAll ρ
  | [],k,n,h=>rfl
  | s :: r,k,n,h=>by
    have hk:(List.range n).contains k = true:=by simp at h ⊢; omega
    have ih:=all_hand r (k + 1) n (by simp at h; omega)
    unfold vFrz vAll at ih ⊢
    rw [hand,if_pos hk,List.map_cons,List.map_cons,ih]
    cases s <;> rfl
noncomputable def gRet (f:Env->Option D):SEnv->Option Out:=fun ρ=>(f (vAll ρ)).map Out.rt
theorem ds_ret {f:Env->Option D} (h:DE X e f):DS X HF₀ H₀ (.Return (some e) pos) (gRet f):=ps_imp (ps_ret h) fun E σ H ⟨HF,ρ,o,S,hg,q⟩=>by
  obtain ⟨d,h,rfl⟩:=map_some hg
  obtain ⟨HF1,s1,S1⟩:=S.hand (List.range ρ.length)
  refine ⟨HF1,vAll ρ,d,S1.gr.fh,?_,h,fun v H' HF' G r=>q v H' HF' (S1.gr.trans G) r⟩
  have:=S1.frz
  rw [all_hand ρ 0 ρ.length (by omega)] at this
  exact this
noncomputable def scal:D->Bool | .none=>true | .bool _=>true | .int _=>true | .str _=>true | _=>false
theorem scal_rep {K:PySem.W.Frag} {HF HF':Hp} {d:D} {v:V} (h:scal d = true) (r:Rep K HF d v):Rep K HF' d v:=by
  cases d <;> cases h <;> (simp only [Rep] at r ⊢; exact r)
noncomputable def gSet (i:Nat) (fz:List Nat) (f:Env->Option D):SEnv->Option Out:=fun ρ=>(f (vAll ρ)).bind fun d=>if scal d = true then some (.nx (ρ.set i (.val d))) else (f (vFrz (hand fz 0 ρ))).map fun d'=>.nx ((hand fz 0 ρ).set i (.val d'))
theorem t_set {i:Nat} {fz:List Nat} {f:Env->Option D}:∀ E σ H,tS X.K HF₀ H₀ (gSet i fz f) E σ H->tAsg (tD X.K f) (gName i) E σ H:=fun E σ H ⟨HF,ρ,o,S,hg,q⟩=>by
  obtain ⟨d,h,hg⟩:=bs hg
  split at hg
  · rename_i hs
    cases hg
    exact ⟨H,vAll ρ,d,.refl _,S.all,h,fun v H' HF' G r=>q _ H' HF ((S.step G.hh).setV (scal_rep hs r)) (.refl _)⟩
  · obtain ⟨d',h',rfl⟩:=map_some hg
    obtain ⟨HF1,s1,S1⟩:=S.hand fz
    exact ⟨HF1,_,d',S1.gr.fh,S1.frz,h',fun v H' HF' G r=>q _ H' HF' ((S1.grow G).setV r) (s1.trans G.ff)⟩
theorem ds_set (i:Nat) (fz:List Nat) {x:Str} {f:Env->Option D} {pos':Pos} (hN:X.N.Nodup) (hi:X.N[i]? = some x) (hx:Loc X.env.scope x) (he:DE X e f) (hs:swapsWith e (some (.Name x pos')) pos.line X.env = pure false:=by rfl)
    (hf:X.fn x = true\/X.env.scope.names.lookup x = some .local:=by first | exact .inl rfl | exact .inr rfl | assumption):DS X HF₀ H₀ (.Assign [.Name x pos'] e pos) (gSet i fz f):=ps_imp (ps_set hN hi hx he hs hf) t_set
noncomputable def gSetF (i:Nat) (fz:List Nat) (f:Env->Option (List D)):SEnv->Option Out:=fun ρ=>(f (vFrz (hand fz 0 ρ))).map fun ds=>.nx ((hand fz 0 ρ).set i (.own ds))
theorem t_setF {i:Nat} {fz:List Nat} {f:Env->Option (List D)}:∀ E σ H,tS X.K HF₀ H₀ (gSetF i fz f) E σ H->tAsg (tF X.K f) (gName i) E σ H:=fun E σ H ⟨HF,ρ,o,S,hg,q⟩=>by
  obtain ⟨ds,h,rfl⟩:=map_some hg
  obtain ⟨HF1,s1,S1⟩:=S.hand fz
  refine ⟨HF1,_,ds,S1.gr.fh,S1.frz,h,fun a vs H' HF' G ha hf h' r=>q _ H' HF' ?_ (s1.trans G.ff)⟩
  have S2:=S1.grow G
  refine S2.setO (.refl _) h' hf (S1.gr.hh.free ha) r fun j es _ hj z=>?_
  obtain ⟨b,us,e1,e2,_⟩:=S1.own j es hj
  rw [e1] at z
  cases z
  rw [ha] at e2; cases e2
theorem ds_setF (i:Nat) (fz:List Nat) {x:Str} {f:Env->Option (List D)} {pos':Pos} (hN:X.N.Nodup) (hi:X.N[i]? = some x) (hx:Loc X.env.scope x) (he:DF X e f) (hs:swapsWith e (some (.Name x pos')) pos.line X.env = pure false:=by rfl)
    (hf:X.fn x = true\/X.env.scope.names.lookup x = some .local:=by first | exact .inl rfl | exact .inr rfl | assumption):DS X HF₀ H₀ (.Assign [.Name x pos'] e pos) (gSetF i fz f):=ps_imp (ps_set hN hi hx he hs hf) t_setF
theorem ds_setC (i:Nat) (fz:List Nat) {y:Str} {py spos:Pos} {tg iter elt:Expr} {ifs:List Expr} {scope:Scope} {N:List Str} {t:Nat} {cs:List Nat} {fi:Env->Option (List D)} {tgt:Env->D->Option Env} {tt:Env->Option Bool} {te:Env->Option D}
    (hc:X.calm = true) (S:CompSc X scope N (capsV t cs)) (hi:DI X tg iter fi)
    (hY:∀ fp s H,DG (cxComp X scope N fp s H) tg tgt/\DTs (cxComp X scope N fp s H) ifs tt/\DE (cxComp X scope N fp s H) elt te)
    (hN:X.N.Nodup) (hiy:X.N[i]? = some y) (hy:X.env.scope.names.lookup y = some .local)
    (hsw:swapsWith (.ListComp elt [⟨tg,iter,ifs,0⟩] scope pos) (some (.Name y py)) spos.line X.env = pure true)
    (hs:∀ x,foldedSetIterable iter X.env x = pure x:=by intro _; rfl):DS X HF₀ H₀ (.Assign [.Name y py] (.ListComp elt [⟨tg,iter,ifs,0⟩] scope pos) spos) (gSetF i fz (fComp t cs fi tgt tt te)) :=
  ps_imp (ps_comp (g:=tDG X.K tgt) (tt:=tDT X.K tt) (te:=tD X.K te) hc S hi hY hN hiy hy hsw hs) fun E σ H q=>by
    have:=t_setF E σ H q
    exact t_comp σ H _ this
noncomputable def tSG (K:PySem.W.Frag) (HF₀ H₀:Hp) (f:SEnv->D->Option SEnv):TG:=fun v σ H Q=>∃ HF ρ d ρ',SOk K HF₀ H₀ HF H ρ σ/\Rep K HF d v/\f ρ d = some ρ'/\∀ σ',SOk K HF₀ H₀ HF H ρ' σ'->Q σ' H
noncomputable def DSG (X:Cx) (HF₀ H₀:Hp) (tg:Expr) (f:SEnv->D->Option SEnv):Prop:=PG X tg (tSG X.K HF₀ H₀ f)
noncomputable def fSG (i:Nat):SEnv->D->Option SEnv:=fun ρ d=>some (ρ.set i (.val d))
theorem dsg_name (i:Nat) {x:Str} (hN:X.N.Nodup) (hi:X.N[i]? = some x) (hx:Loc X.env.scope x) (hf:X.fn x = true\/X.env.scope.names.lookup x = some .local:=by first | exact .inl rfl | exact .inr rfl | assumption):DSG X HF₀ H₀ (.Name x pos) (fSG i) :=
  pg_imp (pg_name hN hi hx hf) fun v σ H Q ⟨HF,ρ,d,ρ',S,r,hf,q⟩=>by cases hf; exact q _ (S.setV r)
noncomputable def fSG2 (i j:Nat):SEnv->D->Option SEnv:=fun ρ d=>match d with
  | .tuple [x,y]=>some ((ρ.set i (.val x)).set j (.val y))
  | _=>none
theorem dsg_two (i j:Nat) {x y:Str} {px py:Pos} {k:Nat} (hc:X.calm = true) (hN:X.N.Nodup) (hi:X.N[i]? = some x) (hx:Loc X.env.scope x) (hj:X.N[j]? = some y) (hy:Loc X.env.scope y)
    (hf:X.fn x = true\/X.env.scope.names.lookup x = some .local:=by first | exact .inl rfl | exact .inr rfl | assumption) (hf':X.fn y = true\/X.env.scope.names.lookup y = some .local:=by first | exact .inl rfl | exact .inr rfl | assumption) :
    DSG X HF₀ H₀ (.Tuple [.Name x px,.Name y py] k pos) (fSG2 i j) :=
  pg_imp (pg_tup hc (pgs_cons (pg_name hN hi hx hf) (pgs_cons (pg_name hN hj hy hf') pgs_nil))) fun v σ H Q ⟨HF,ρ,d,ρ',S,r,hf,q⟩=>by
    unfold fSG2 at hf
    split at hf
    · cases hf
      simp only [Rep] at r
      obtain ⟨a,vs,rfl,hs,rr⟩:=r
      obtain ⟨v1,r1,rfl,a1,b1⟩:=rr.cons_inv
      obtain ⟨v2,r2,rfl,a2,b2⟩:=b1.cons_inv
      rw [b2.nil_inv] at hs
      exact ⟨a,_,rfl,same_tup S.gr.fh hs,rfl,v1,_,rfl,v2,_,rfl,rfl,q _ ((S.setV a1).setV a2)⟩
    · cases hf
noncomputable def forD (tgt:SEnv->D->Option SEnv) (gb:SEnv->Option Out):List D->SEnv->Option Out
  | [],ρ=>some (.nx ρ)
  | d :: ds,ρ=>(tgt ρ d).bind fun ρ1=>(gb ρ1).bind fun | .nx ρ2=>forD tgt gb ds ρ2 | .rt v=>some (.rt v)
noncomputable def gFor (fz:List Nat) (fi:Env->Option (List D)) (tgt:SEnv->D->Option SEnv) (gb:SEnv->Option Out):SEnv->Option Out:=fun ρ=>(fi (vFrz (hand fz 0 ρ))).bind fun ds=>forD tgt gb ds (hand fz 0 ρ)
theorem ds_for (fz:List Nat) {tg iter:Expr} {body:List Stmt} {fi:Env->Option (List D)} {tgt:SEnv->D->Option SEnv} {gb:SEnv->Option Out} (hp:PassesOwn (model X.prog X.w) X.A X.env X.xe) (hc:X.calm = true) (hi:DI X tg iter fi) (hg:DSG X HF₀ H₀ tg tgt) (hb:DSs X HF₀ H₀ body gb)
    (hs:∀ x,foldedSetIterable iter X.env x = pure x:=by intro _; rfl):DS X HF₀ H₀ (.For tg iter body [] pos) (gFor fz fi tgt gb):=ps_imp (ps_for hp hc hi hg hb hs) fun E σ H ⟨HF,ρ,o,S,hg,q⟩=>by
  obtain ⟨ds,h,hg⟩:=bs hg
  obtain ⟨HF1,s1,S1⟩:=S.hand fz
  refine ⟨HF1,_,ds,S1.gr.fh,S1.frz,h,fun J H2 HF2 G it=>?_⟩
  refine ⟨fun i m σ' H'=>m + i = ds.length/\∃ HF' ρ',SOk X.K HF₀ H₀ HF' H' ρ' σ'/\Same HF2 HF'/\forD tgt gb (ds.drop i) ρ' = some o,⟨ds.length,rfl,HF2,_,S1.grow G,.refl _,hg⟩,?_⟩
  rintro i m σ' H' ⟨hm,HF',ρ',S',s',hf⟩
  by_cases hi:i < ds.length
  · refine .inr ?_
    have hd:ds.drop i = ds[i] :: ds.drop (i + 1):=List.drop_eq_getElem_cons hi
    have he:ds[i]? = some ds[i]:=List.getElem?_eq_some_iff.mpr ⟨hi,rfl⟩
    generalize ds[i] = d at hd he
    rw [hd] at hf
    unfold forD at hf
    obtain ⟨ρ1,h1,hf⟩:=bs hf
    obtain ⟨o1,h2,hf⟩:=bs hf
    obtain ⟨go,yld⟩:=it.go i d H' HF' he s' S'.gr.fh
    refine ⟨go,fun σ2 H3=>∃ HF3 ρ3,SOk X.K HF₀ H₀ HF3 H3 ρ3 σ2/\Same HF2 HF3/\forD tgt gb (ds.drop (i + 1)) ρ3 = some o,fun σ2 H3 ⟨HF3,ρ3,a1,a2,a3⟩=>⟨m - 1,by omega,by omega,HF3,ρ3,a1,a2,a3⟩,fun x H3 y=>?_⟩
    obtain ⟨HF3,G3,rx⟩:=yld x H3 y
    refine ⟨HF3,ρ',d,ρ1,S'.grow G3,rx,h1,fun σ2 S2=>⟨HF3,ρ1,o1,S2,h2,?_⟩⟩
    cases o1 with
    | nx ρ2=>exact fun σ4 H4 HF4 S4 s4=>⟨HF4,ρ2,S4,(s'.trans G3.ff).trans s4,hf⟩
    | rt d=>cases hf; exact q
  · have hi':i = ds.length:=by omega
    subst hi'
    rw [List.drop_length] at hf
    cases hf
    exact .inl ⟨it.stop H' HF' s' S'.gr.fh,q σ' H' HF' S' ((s1.trans G.ff).trans s')⟩
end
end Dl
namespace Dl
open PySem L2 PySem.Spec PyProof.Rows
noncomputable def ScOf (X:Cx) (sc:Scope):Prop:=∀ x k,sc.names.lookup x = some k->X.env.kindOf x = some k\/(k = .free/\X.env.kindOf x = some .cell)
structure Bk (X:Cx) (N:List Str) (sc:Scope) (k:Nat):Prop where
  n:X.N = N
  nd:N.Nodup
  tb:ScOf X sc
  calm:X.calm = true
  fn:∀ x,sc.names.lookup x = some .cell->X.fn x = true
  room:Room k X.A
  xe:X.xe = fun _ _=>False
  kd:X.env.scope.kind = .function
noncomputable def bltNames:List Str:=["len","isinstance","int","bool","tuple","list","range","all","any","set","sorted","enumerate","zip","sum","min","max","reversed"]
noncomputable def Bn (X:Cx):Prop:=∀ x ∈ bltNames,X.mg x = none
noncomputable def glB (sc:Scope) (x:Str):Bool:=decide (sc.names.lookup x = some .globalImplicit)
noncomputable def visB (N:List Str) (sc:Scope) (i:Nat) (x:Str):Bool:=decide (N[i]? = some x) && (decide (sc.names.lookup x = some .local) || decide (sc.names.lookup x = some .cell) || decide (sc.names.lookup x = some .free)) && !(x == ("__debug__":Str)) && !(x == ("__classdict__":Str))
noncomputable def locB (N:List Str) (sc:Scope) (i:Nat) (x:Str):Bool:=decide (N[i]? = some x) && (decide (sc.names.lookup x = some .local) || decide (sc.names.lookup x = some .cell))
section
variable {X:Cx} {N:List Str} {sc:Scope} {k:Nat}
theorem Bk.gl (C:Bk X N sc k) {x:Str} (h:glB sc x = true):Gl X x:=by
  rcases C.tb x _ (of_decide_eq_true h) with q | ⟨q,_⟩
  · exact q
  · cases q
theorem Bk.vis (C:Bk X N sc k) {i:Nat} {x:Str} (h:visB N sc i x = true):X.N[i]? = some x/\Vis X.env.scope x/\(x == ("__debug__":Str)) = false/\(x == ("__classdict__":Str)) = false:=by
  unfold visB at h
  simp only [Bool.and_eq_true,Bool.or_eq_true,decide_eq_true_eq,Bool.not_eq_true'] at h
  obtain ⟨⟨⟨h1,h2⟩,h3⟩,h4⟩:=h
  refine ⟨by rw [C.n]; exact h1,?_,h3,h4⟩
  rcases h2 with (h2 | h2) | h2
  · rcases C.tb x _ h2 with q | ⟨q,_⟩
    · exact .inl q
    · cases q
  · rcases C.tb x _ h2 with q | ⟨q,_⟩
    · exact .inr (.inl q)
    · cases q
  · rcases C.tb x _ h2 with q | ⟨_,q⟩
    · exact .inr (.inr q)
    · exact .inr (.inl q)
theorem Bk.loc (C:Bk X N sc k) {i:Nat} {x:Str} (h:locB N sc i x = true):X.N.Nodup/\X.N[i]? = some x/\Loc X.env.scope x/\(X.fn x = true\/X.env.scope.names.lookup x = some .local):=by
  unfold locB at h
  simp only [Bool.and_eq_true,Bool.or_eq_true,decide_eq_true_eq] at h
  obtain ⟨h1,h2⟩:=h
  refine ⟨by rw [C.n]; exact C.nd,by rw [C.n]; exact h1,?_⟩
  rcases h2 with h2 | h2
  · rcases C.tb x _ h2 with q | ⟨q,_⟩
    · exact ⟨.inl q,.inr q⟩
    · cases q
  · rcases C.tb x _ h2 with q | ⟨q,_⟩
    · exact ⟨.inr q,.inl (C.fn x h2)⟩
    · cases q
theorem Bk.blt (C:Bk X N sc k) (B:Bn X) {x:Str} {v:Value} (h:glB sc x = true) (hm:x ∈ bltNames) (hv:bootBuiltins x = some v):Blt X x v:=⟨C.gl h,B x hm,hv⟩
theorem Bk.v (C:Bk X N sc k) (i:Nat) {x:Str} {pos:Pos} (h:visB N sc i x = true):DE X (.Name x pos) (fVar i):=let ⟨a,b,c,d⟩:=C.vis h; de_var i a b c d
theorem Bk.pass (C:Bk X N sc k):PassesOwn (model X.prog X.w) X.A X.env X.xe:=by rw [C.xe]; exact PassesOwn.never
noncomputable def compOk (sc scope:Scope) (N N':List Str) (t:Nat) (cs:List Nat):Bool :=
  decide (scope.kind = .function) && scope.names.all (fun p=>(!decide (p.2 = NameKind.free) || decide (sc.names.lookup p.1 = some .cell) || decide (sc.names.lookup p.1 = some .free)) && (!decide (p.2 = NameKind.local) || decide (scope.names.lookup p.1 = some .local)))
    && scope.names.all (fun p=>!decide (p.2 = NameKind.cell) || !scope.names.any fun q=>decide (q.1 = p.1) && decide (q.2 = NameKind.free))
    && decide (N'.length = t + cs.length) && decide (N'.drop t = cs.filterMap fun j=>N[j]?) && cs.all (fun j=>decide (j < N.length)) && (N'.drop t).all (fun x=>decide (scope.names.lookup x = some .free)) && decide N'.Nodup
theorem filterMap_get {α:Type} (N:List α):∀ (cs:List Nat),(∀ j ∈ cs,j < N.length)->∀ (i:Nat),(cs.filterMap fun j=>N[j]?)[i]? = (cs[i]?).bind fun j=>N[j]?
  | [],_,i=>by simp
  | c :: cs,h,i=>by
    have hc:=h c List.mem_cons_self
    rw [List.filterMap_cons,List.getElem?_eq_getElem hc]
    cases i with
    | zero=>simp [hc]
    | succ i =>
      simp only [List.getElem?_cons_succ]
      exact filterMap_get N cs (fun j hj=>h j (List.mem_cons_of_mem _ hj)) i
theorem Bk.comp (C:Bk X N sc k) {scope:Scope} {N':List Str} {t:Nat} {cs:List Nat} (h:compOk sc scope N N' t cs = true):CompSc X scope N' (capsV t cs)/\∀ fp s H,Bk (cxComp X scope N' fp s H) N' scope k:=by
  unfold compOk at h
  simp only [Bool.and_eq_true,decide_eq_true_eq,List.all_eq_true,Bool.or_eq_true,Bool.not_eq_true',decide_eq_false_iff_not] at h
  obtain ⟨⟨⟨⟨⟨⟨⟨h1,h2⟩,h3⟩,h4⟩,h5⟩,h6⟩,h7⟩,h8⟩:=h
  refine ⟨⟨h1,fun x hx hk=>?_,fun {x} a b=>?_,fun x hx hk=>?_,fun σ i x v e1 e2=>?_,fun σ=>?_⟩,fun fp s H=>⟨rfl,h8,fun x k hx=>kind_comp hx,C.calm,fun x hx=>decide_eq_true hx,C.room,rfl,h1⟩⟩
  · rcases (h2 x hx).1 with (q | q) | q
    · exact absurd hk q
    · rcases C.tb _ _ q with z | ⟨z,_⟩
      · exact .inl z
      · cases z
    · rcases C.tb _ _ q with z | ⟨_,z⟩
      · exact .inr z
      · exact .inl z
  · rcases h3 _ a with q | q
    · exact q rfl
    · have:(scope.names.any fun q=>decide (q.1 = x) && decide (q.2 = NameKind.free)) = true:=List.any_eq_true.mpr ⟨_,b,by simp⟩
      rw [this] at q
      cases q
  · rcases (h2 x hx).2 with q | q
    · exact absurd hk q
    · exact q
  · unfold capsV at e2
    by_cases hi:i < t
    · rw [List.getElem?_append_left (by simpa using hi),List.getElem?_replicate,if_pos hi] at e2
      cases e2
    · rw [List.getElem?_append_right (by simpa using hi),List.getElem?_map,List.length_replicate] at e2
      obtain ⟨j,hj,e2⟩:=map_some e2
      have e3:(N'.drop t)[i - t]? = some x:=by rw [List.getElem?_drop]; rw [show t + (i - t) = i by omega]; exact e1
      refine ⟨h7 x (List.mem_of_getElem? e3),j,?_,?_⟩
      · rw [h5,filterMap_get N cs h6,hj] at e3
        rw [C.n]; exact e3
      · cases e:σ[j]? with
        | none=>rw [e] at e2; cases e2
        | some o=>rw [e] at e2; have e2:o = some v:=e2; rw [e2]
  · unfold capsV
    rw [List.length_append,List.length_replicate,List.length_map,h4]
noncomputable def runB (g:SEnv->Option Out) (n:Nat) (args:List D):Option D:=(g (args.map Slot.val ++ List.replicate (n - args.length) .non)).map fun | .rt d=>d | .nx _=>.none
theorem fnOkD {P:Program} {w:World} {K:PySem.W.Frag} {mg:Str->Option Value} {base:Heap} {x qual:Str} {st:Stmt} {f:Addr} {fd:FuncData} {ps:List Str} {g:SEnv->Option Out} (F:Fun K x qual st f fd) (S:FnScope N ps (defScope st))
    (body:∀ X:Cx,X.prog = P->X.w = w->X.K = K->X.mg = mg->X.base = base->Bk X N (defScope st) k->X.env.code = fd.code->X.env.qual = qual ++ ".<locals>."->∀ HF₀ H₀,DSs X HF₀ H₀ (defBody st) g):FnOk P w K mg base CX0 (k + 1) f fd ps (spD K ps.length (runB g N.length)):=by
  obtain ⟨oc,od,kV,doc,pm,an,cdv,ct,osl,rfl,lk,hcd⟩:=F.ex
  refine fn_of lk hcd S (fun vs H Q E ⟨HF,ds,d,h1,_,h2,h3,_⟩=>by rw [h2.length,h3]) fun A outer s H vs Q E hr ⟨HF,ds,d,sm,tb,rr,hl,hd,q⟩=>?_
  refine ⟨_,(body (cxOf CX0 P w K mg base N qual (defScope st) f cdv A outer s H E).nox rfl rfl rfl rfl rfl ⟨rfl,S.nd,fun y kd hy=>.inl hy,rfl,fun _ _=>rfl,hr,rfl,S.kind⟩ rfl rfl HF H).nox,?_⟩
  unfold runB at hd
  obtain ⟨o,ho,hd⟩:=map_some hd
  have hpl:ps.length<=N.length:=by have:=congrArg List.length S.pre; rw [List.length_take] at this; omega
  refine ⟨HF,_,o,⟨.refl sm,fun i e h=>?_,fun i es h=>?_,fun i j es fs a h=>?_,?_,tb⟩,ho,?_⟩
  · have hi:i < ds.length:=by
      by_cases hi:i < ds.length
      · exact hi
      · rw [List.getElem?_append_right (by simpa using hi),List.getElem?_replicate] at h
        split at h <;> cases h
    rw [List.getElem?_append_left (by simpa using hi),List.getElem?_map] at h
    obtain ⟨d',hd',h⟩:=map_some h
    cases h
    obtain ⟨v,hv,rv⟩:=rr.getD hd'
    refine ⟨v,?_,rv⟩
    unfold L2.start
    rw [List.getElem?_append_left (by simpa [rr.length] using hi),List.getElem?_map,hv]
    rfl
  · exfalso
    by_cases hi:i < ds.length
    · rw [List.getElem?_append_left (by simpa using hi),List.getElem?_map] at h
      obtain ⟨d',hd',h⟩:=map_some h
      cases h
    · rw [List.getElem?_append_right (by simpa using hi),List.getElem?_replicate] at h
      split at h <;> cases h
  · exfalso
    by_cases hi:i < ds.length
    · rw [List.getElem?_append_left (by simpa using hi),List.getElem?_map] at h
      obtain ⟨d',hd',h⟩:=map_some h
      cases h
    · rw [List.getElem?_append_right (by simpa using hi),List.getElem?_replicate] at h
      split at h <;> cases h
  · unfold L2.start
    rw [List.length_append,List.length_append,List.length_map,List.length_map,List.length_replicate,List.length_replicate,rr.length]
    exact Nat.le_refl _
  · cases o with
    | rt d'=>cases hd; exact fun v H' HF' G r=>q v H' HF' G r
    | nx ρ'=>cases hd; exact fun σ' H' HF' S' _=>q .non H' HF' S'.gr (by simp [Rep])
theorem fnD {P:Program} {w:World} {K:PySem.W.Frag} {mg:Str->Option Value} {base:Heap} {x qual:Str} {st:Stmt} {f:Addr} {fd:FuncData} {ps:List Str} {g:SEnv->Option Out} (F:Fun K x qual st f fd) (S:FnScope N ps (defScope st)) (hb:Binds K fd ps []) (hm:mg x = some (.ref f))
    (body:∀ X:Cx,X.prog = P->X.w = w->X.K = K->X.mg = mg->X.base = base->Bk X N (defScope st) k->X.env.code = fd.code->X.env.qual = qual ++ ".<locals>."->∀ HF₀ H₀,DSs X HF₀ H₀ (defBody st) g):FnD P w K mg base (k + 1) x ps.length (runB g N.length):=⟨f,fd,ps,fnOkD F S body,hm,F.kp,hb⟩
end
section
variable {X:Cx} {HF₀ H₀:Hp} {e e2:Expr} {pos apos cpos px:Pos} {x:Str}
noncomputable def itemD (fz:List Nat) (f:Env->Option D) (ρ:SEnv):Option (D × SEnv):=(f (vAll ρ)).bind fun d=>if scal d = true then some (d,ρ) else (f (vFrz (hand fz 0 ρ))).map fun d'=>(d',hand fz 0 ρ)
theorem itemD_run {K:PySem.W.Frag} {HF H:Hp} {ρ ρ':SEnv} {σ:L2.St} {fz:List Nat} {f:Env->Option D} {d:D} (S:SOk K HF₀ H₀ HF H ρ σ) (h:itemD fz f ρ = some (d,ρ')) {Q:VK}
    (q:∀ v H' HF',Same HF HF'->SOk K HF₀ H₀ HF' H' ρ' σ->Same H H'->Rep K HF' d v->Q v H'):tD K f σ H Q:=by
  obtain ⟨d1,h1,h⟩:=bs h
  split at h
  · rename_i hs
    cases h
    exact ⟨H,vAll ρ,d,.refl _,S.all,h1,fun v H' HF' G r=>q v H' HF (.refl _) (S.step G.hh) G.hh (scal_rep hs r)⟩
  · obtain ⟨d2,h2,h⟩:=map_some h
    cases h
    obtain ⟨HF1,s1,S1⟩:=S.hand fz
    exact ⟨HF1,_,d,S1.gr.fh,S1.frz,h2,fun v H' HF' G r=>q v H' HF' (s1.trans G.ff) (S1.grow G) G.hh r⟩
noncomputable def gMut (i:Nat) (m:List D->Option (List D)) (ρ:SEnv):Option Out:=match ρ[i]? with
  | some (.own ds)=>(m ds).map fun es=>.nx (ρ.set i (.own es))
  | _=>none
theorem gMut_some {i:Nat} {m:List D->Option (List D)} {ρ:SEnv} {o:Out} (h:gMut i m ρ = some o):∃ ds es,ρ[i]? = some (.own ds)/\m ds = some es/\o = .nx (ρ.set i (.own es)):=by
  unfold gMut at h
  split at h
  · rename_i ds hd
    obtain ⟨es,h1,h2⟩:=map_some h
    exact ⟨ds,es,hd,h1,h2.symm⟩
  · cases h
theorem SOk.mut {K:PySem.W.Frag} {HF H:Hp} {ρ:SEnv} {σ:L2.St} (S:SOk K HF₀ H₀ HF H ρ σ) {i:Nat} {ds es:List D} {a:Addr} {vs us:List V} (h:ρ[i]? = some (.own ds)) (ha:σ[i]? = some (some (.ref a))) (hH:H a = some (.lst vs)) (r:Reps K HF es us) :
    SOk K HF₀ H₀ HF (upd H a (.lst us)) (ρ.set i (.own es)) σ:=by
  obtain ⟨a',vs',e1,e2,e3,e5,e4⟩:=S.own i ds h
  rw [ha] at e1; cases e1
  have hl:i < ρ.length:=(List.getElem?_eq_some_iff.mp h).1
  have gr:Grow HF₀ H₀ HF (upd H a (.lst us)):=⟨fun b o e=>by rw [upd_ne (ne_of_none e e5)]; exact S.gr.hh b o e,S.gr.ff,fun b o e=>by rw [upd_ne (ne_of_none e e3)]; exact S.gr.fh b o e,S.gr.nw⟩
  refine ⟨gr,fun j d hj=>?_,fun j xs hj=>?_,fun j k xs ys b f1 f2 f3 f4=>?_,by rw [List.length_set]; exact S.len,S.tb⟩
  · rw [List.getElem?_set] at hj
    by_cases hij:i = j
    · rw [if_pos hij] at hj
      split at hj <;> cases hj
    · rw [if_neg hij] at hj; exact S.val j d hj
  · rw [List.getElem?_set] at hj
    by_cases hij:i = j
    · subst hij
      rw [if_pos rfl,if_pos hl] at hj
      cases hj
      exact ⟨a,us,ha,upd_same,e3,e5,r⟩
    · rw [if_neg hij] at hj
      obtain ⟨b,ws,f1,f2,f3,f5,f4⟩:=S.own j xs hj
      refine ⟨b,ws,f1,?_,f3,f5,f4⟩
      rw [upd_ne]
      · exact f2
      · rintro rfl
        exact hij (S.inj i j ds xs b h hj ha f1)
  · have old:∀ {j:Nat} {xs:List D},(ρ.set i (.own es))[j]? = some (.own xs)->∃ ys,ρ[j]? = some (.own ys):=fun {j xs} hj=>by
      rw [List.getElem?_set] at hj
      by_cases hij:i = j
      · subst hij; exact ⟨ds,h⟩
      · rw [if_neg hij] at hj; exact ⟨xs,hj⟩
    obtain ⟨xs',g1⟩:=old f1
    obtain ⟨ys',g2⟩:=old f2
    exact S.inj j k xs' ys' b g1 g2 f3 f4
noncomputable def gApp (i:Nat) (fz:List Nat) (f:Env->Option D):SEnv->Option Out:=fun ρ=>(itemD fz f ρ).bind fun p=>gMut i (fun ds=>if ds.length < sizeLine then some (ds ++ [p.1]) else none) p.2
theorem ds_append (i:Nat) (fz:List Nat) {f:Env->Option D} (hN:X.N[i]? = some x) (hv:Vis X.env.scope x) (h:DE X e f) (hd:(x == ("__debug__":Str)) = false:=by decide) (hcd:(x == ("__classdict__":Str)) = false:=by decide)
    (hfew:((backTo cpos (starEach [e] X.env)).all (fun x=>!x.1) && (backToKw cpos (keywordEach [] X.env)).all (fun x=>x.1.isSome) && decide ([e].length + ([]:List Keyword).length + (if ([]:List Keyword).isEmpty then 0 else 1) < 30)) = true:=by rfl)
    (hline:(apos.endLine == cpos.line) = true:=by rfl) (hs:starEach [e] X.env = (false,eval e X.env) :: starEach [] X.env:=by rfl) :
    DS X HF₀ H₀ (.Expr (.Call (.Attribute (.Name x px) "append" apos) [e] [] cpos) pos) (gApp i fz f) :=
  ps_imp (ps_expr (pe_bm PySem.F.plainAttrs_list PySem.F.slot_list_append PySem.F.type_list_append mt_append (pe_var hN hv hd hcd) (pa_cons h pa_nil hs) rfl hfew hline hs rfl)) fun E σ H ⟨HF,ρ,o,S,hg,q⟩=>by
    obtain ⟨⟨d,ρ'⟩,h1,hg⟩:=bs hg
    obtain ⟨ds,es,h2,h3,rfl⟩:=gMut_some hg
    have hown:∃ ds',ρ[i]? = some (.own ds'):=by
      obtain ⟨d1,_,h1⟩:=bs h1
      split at h1
      · cases h1; exact ⟨ds,h2⟩
      · obtain ⟨d2,_,h1⟩:=map_some h1
        cases h1
        rw [hand_get] at h2
        obtain ⟨s,hs,h2⟩:=map_some h2
        cases s with
        | non=>split at h2 <;> cases h2
        | val _=>split at h2 <;> cases h2
        | own xs=>exact ⟨xs,hs⟩
    obtain ⟨ds',hown⟩:=hown
    obtain ⟨a,vs,e1,e2,e3,e5,e4⟩:=S.own i ds' hown
    refine ⟨.ref a,e1,.inl ⟨rfl,vs,SqL.of e2⟩,itemD_run S h1 fun v H' HF' s1 S' sh r=>?_⟩
    obtain ⟨a',vs',f1,f2,f3,f5,f4⟩:=S'.own i ds h2
    rw [e1] at f1; cases f1
    split at h3
    · rename_i hz
      cases h3
      exact ⟨a,vs',v,rfl,rfl,f2,by rw [f4.length]; exact hz,q σ _ HF' (S'.mut h2 e1 f2 (f4.append (Reps.cons r Reps.nil))) s1⟩
    · cases h3
end
end Dl
namespace Dl
open PySem L2 PySem.Spec PyProof.Rows
noncomputable def tabOne (K:PySem.W.Frag) (o:Obj):Option (Addr × Str):=match o.data with
  | .func fd=>if lamNames.contains fd.qualname = true then (match fd.code with
      | .ref c=>(match K.lookup c with
        | some ⟨_,_,.fields vs,_⟩=>(match (vs[11]?:Option Value) with
          | some (.ref P)=>if PySem.W.codeHdIn K c P = true then some (P,fd.qualname ++ ".<locals>." ++ "<lambda>") else none
          | _=>none)
        | _=>none)
      | _=>none) else none
  | _=>none
noncomputable def tabsOf (K:PySem.W.Frag):List (Addr × Str):=K.filterMap fun p=>tabOne K p.2
noncomputable def tabsChk (K:PySem.W.Frag) (ts:List Addr):Bool:=(tabsOf K).all fun p=>ts.contains p.1 && (K.lookup p.1).isNone && decide ((tabsOf K).lookup p.1 = some p.2)
theorem tabOne_some {K:PySem.W.Frag} {o:Obj} {P:Addr} {q:Str} (h:tabOne K o = some (P,q)):∃ c,PySem.W.codeHdIn K c P = true:=by
  unfold tabOne at h
  split at h
  · split at h
    · split at h
      · split at h
        · split at h
          · split at h
            · cases h; exact ⟨_,‹_›⟩
            · cases h
          · cases h
        · cases h
      · cases h
    · cases h
  · cases h
theorem tabsOf_code {K:PySem.W.Frag} {P:Addr} {q:Str} (h:(P,q) ∈ tabsOf K):∃ c,PySem.W.codeHdIn K c P = true:=by
  obtain ⟨p,_,e⟩:=List.mem_filterMap.mp h
  exact tabOne_some e
theorem tabsOf_mem {K:PySem.W.Frag} {f c P:Addr} {oc:Value} {od:Option Addr} {fd:FuncData} {sl:Array (Option Value)} (a:K.lookup f = some ⟨oc,od,.func fd,sl⟩) (b:fd.qualname ∈ lamNames) (d:fd.code = .ref c) (e:PySem.W.codeHdIn K c P = true) :
    (P,fd.qualname ++ ".<locals>." ++ "<lambda>") ∈ tabsOf K:=by
  refine List.mem_filterMap.mpr ⟨(f,_),PySem.W.mem_of_lookupK a,?_⟩
  have e':=e
  unfold PySem.W.codeHdIn at e'
  unfold tabOne
  simp only [d,List.contains_iff_mem,b,if_true]
  split at e'
  · rename_i vs sl' hl
    simp only [hl]
    simp only [Bool.and_eq_true] at e'
    have e1:=e'.1.1.1.1.1
    split at e1
    · rename_i P' hv
      have:P' = P:=by simpa using e1
      subst this
      simp only [hv,e,if_true]
    · cases e1
  · cases e'
theorem mem_lk {α:Type} {b:Addr} {q:α}:∀ {l:List (Addr × α)},l.lookup b = some q->(b,q) ∈ l
  | [],e=>by cases e
  | (c,x) :: r,e=>by
    rw [List.lookup_cons] at e
    cases h:b == c with
    | true=>rw [h] at e; cases e; rw [eq_of_beq h]; exact List.mem_cons_self
    | false=>rw [h] at e; exact List.mem_cons_of_mem _ (mem_lk e)
noncomputable def hTab (K:PySem.W.Frag) (h0:Hp):Hp:=fun b=>match (tabsOf K).lookup b with | some q=>some (.tab q) | none=>h0 b
theorem tabsIn_of {K:PySem.W.Frag} {ts:List Addr} {h0:Hp} (h:tabsChk K ts = true):TabsIn K (hTab K h0):=fun f oc od fd sl c P a b d e=>by
  have hm:=tabsOf_mem a b d e
  have:=List.all_eq_true.mp h _ hm
  simp only [Bool.and_eq_true,decide_eq_true_eq] at this
  unfold hTab
  rw [this.2]
theorem law_callT {P:Program} {w:World} {K:PySem.W.Frag} {mg mb:Str->Option Value} {CX:CXT} {k:Nat} {fa a:Addr} {fd:FuncData} {x:Str} {sp:Sp} {s₁:Shared} {vs:List Value} {ns:List Int} {ts:List Addr}
    (KX:K.In s₁.heap) (hns:s₁.heap.Ns mainGlobals mg) (hb:s₁.heap.Ns builtinsNs mb) (hbb:∀ x:Str,x ≠ "__name__"->mb x = bootBuiltins x) (hlim:s₁.heap.NoLimit) (hbm:BMd mg s₁.heap) (hg:s₁.gens = #[])
    (ht:tabsChk K ts = true) (hts:∀ P ∈ ts,s₁.heap.get? P = some (PySem.W.tabObj #[]))
    (ha:s₁.heap.get? a = some { cls:=.type "list",data:=.seq vs.toArray }) (hi:IntsAre vs ns) (hl:ns.length<=sizeLine) (hr:Room k callerA)
    (F:∀ base:Heap,K.In base->base.Ns mainGlobals mg->FnOk P w K mg base CX k fa fd [x] sp) (hbind:∀ (s:Shared) (u:Value),BindsTo s fd ⟨[u],[]⟩ [(x,u)])
    (hsp:∀ H:Hp,TabsIn K H->SqL K H a (ns.map V.int)->sp [.ref a] H (fun v _=>v = .bl true) fun _ _ _=>False)
    (hCX:∀ H e s',CX [] H s₁ (fun _ _ _=>False) e s'->False) :
    codeAny (model P w) callerA (.call (.ref fa) ⟨[.ref a],[]⟩) (fun r s'=>r = .ok (.ret (.bool true))/\OldK s₁.heap s'.heap/\s'.os = s₁.os/\AllBare s'.gens) s₁:=by
  have rv:=vals_ints hi
  have lenV:=hi.length
  have tabAt:∀ b q,(tabsOf K).lookup b = some q->s₁.heap.get? b = some (PySem.W.tabObj #[])/\K.lookup b = none/\∃ c,PySem.W.CodeHd s₁.heap c b:=fun b q e=>by
    have hm:=mem_lk e
    have:=List.all_eq_true.mp ht _ hm
    simp only [Bool.and_eq_true,decide_eq_true_eq,List.contains_iff_mem,Option.isNone_iff_eq_none] at this
    obtain ⟨c,hc⟩:=tabsOf_code hm
    exact ⟨hts b this.1.1,this.1.2,c,PySem.W.codeHd_of_K KX hc⟩
  have aT:(tabsOf K).lookup a = none:=by
    cases e:(tabsOf K).lookup a with
    | none=>rfl
    | some q=>have:=(tabAt a q e).1; rw [ha] at this; cases this
  have core:∀ h0:Hp,SqL K (hTab K h0) a (ns.map V.int)->HOk P w (hTab K h0) s₁.heap->(∀ b,h0 b ≠ none->b = a)->(h0 a ≠ none->K.lookup a = none)->(∀ b,h0 b = none\/∃ o xs,h0 b = some (.frz o (.lst xs))) ->
      codeAny (model P w) callerA (.call (.ref fa) ⟨[.ref a],[]⟩) (fun r s'=>r = .ok (.ret (.bool true))/\OldK s₁.heap s'.heap/\s'.os = s₁.os/\AllBare s'.gens) s₁:=by
    intro h0 hS hok hA hK hO
    have look:∀ b u,hTab K h0 b = some u->(∃ q,(tabsOf K).lookup b = some q/\u = .tab q)\/(b = a/\h0 b = some u):=fun b u e=>by
      unfold hTab at e
      split at e
      · rename_i q hq; cases e; exact .inl ⟨q,hq,rfl⟩
      · exact .inr ⟨hA b (by rw [e]; simp),e⟩
    have base_of:∀ {b:Addr} {o:Obj},s₁.heap.get? b = some o->hTab K h0 b = none->(hidT s₁.heap (hTab K h0)).get? b = some o:=fun e n=>hidT_get e n
    have noA:∀ {b:Addr} {o:Obj},s₁.heap.get? b = some o->(∀ vs n,o.data ≠ .seq vs n)->(∀ vs,o.data ≠ .fields vs)->hTab K h0 b = none:=fun {b o} e d d2=>by
      cases q:hTab K h0 b with
      | none=>rfl
      | some u =>
        rcases look b u q with ⟨q',z,_⟩ | ⟨z,_⟩
        · rw [(tabAt b q' z).1] at e; cases e; exact absurd rfl (d2 _)
        · subst z; rw [ha] at e; cases e; exact absurd rfl (d _ _)
    have nsK:∀ {b:Addr} {m:Str->Option Value},s₁.heap.Ns b m->(hidT s₁.heap (hTab K h0)).Ns b m:=fun {b m} ⟨o,es,ep,e,d,r⟩=>⟨o,es,ep,base_of e (noA e (fun _ _ z=>by rw [d] at z; cases z) fun _ z=>by rw [d] at z; cases z),d,r⟩
    have hKb:K.In (hidT s₁.heap (hTab K h0)):=fun b o e=>base_of (KX b o e) (by
      cases q:hTab K h0 b with
      | none=>rfl
      | some u =>
        rcases look b u q with ⟨q',z,_⟩ | ⟨z,z2⟩
        · rw [(tabAt b q' z).2.1] at e; cases e
        · subst z; rw [hK (by rw [z2]; simp)] at e; cases e)
    have hM:Mod K mg (hidT s₁.heap (hTab K h0)):=⟨hKb,nsK hns,⟨mb,nsK hb,hbb⟩,let ⟨mc,h1,h2⟩:=hlim; ⟨mc,nsK h1,h2⟩,
      let ⟨bm,o,b1,b2,b3,b4,b5,b6,b7⟩:=hbm; ⟨bm,o,b1,b2,b3,base_of b4 (noA b4 (fun _ _ z=>by rw [b7] at z; cases z) fun _ z=>by rw [b7] at z; cases z),b5,b6,b7⟩⟩
    have e0:Env0 P w K mg (hidT s₁.heap (hTab K h0)) callerA [] s₁ (hTab K h0):=⟨rfl,hM,fun b o e=>of_hidT e,Nat.le_of_eq (hidT_size _ _),trivial,fun b hb=>absurd (show b ∈ ([]:List Addr) from hb) (by simp),hok,.of_eq hg⟩
    refine codeAny_mono ((F _ hKb (nsK hns)).run callerA [] s₁ (hTab K h0) ⟨[.ref a],[]⟩ [.ref a] [.ref a] _ _ hr e0 (hbind s₁ (.ref a)) (.cons rfl .nil) (hsp _ (tabsIn_of ht) hS)) fun r s' h=>?_
    cases r with
    | error e=>exact (hCX _ e s' h).elim
    | ok fl =>
      cases fl with
      | next=>exact False.elim h
      | brk=>exact False.elim h
      | cont=>exact False.elim h
      | ret u =>
        obtain ⟨v,H',os,bare,un,hok',r',q⟩:=h
        have q':v = .bl true:=q
        subst q'
        obtain rfl:u = Value.bool true:=r'
        have key:∀ b o,s₁.heap.get? b = some o->s'.heap.get? b = some o\/(isCodeTable s₁.heap b/\o = PySem.W.tabObj #[]/\∃ ps,s'.heap.get? b = some (PySem.W.tabObj ps)):=fun b o e=>by
          cases q:hTab K h0 b with
          | none=>exact .inl (un.keep b o e q (by intro z; exact absurd (show b ∈ ([]:List Addr) from z) (by simp)) (by simp))
          | some u =>
            rcases look b u q with ⟨q',z,rfl⟩ | ⟨z,z2⟩
            · obtain ⟨t1,_,c,t3⟩:=tabAt b q' z
              obtain ⟨more,m1⟩:=un.tbls.gr b q' #[] q t1
              rw [e] at t1
              cases t1
              exact .inr ⟨(t3.tab e).isCodeTable,rfl,_,m1⟩
            · rcases hO b with z3 | ⟨ob,xs,z3⟩
              · rw [z2] at z3; cases z3
              · rw [z2] at z3
                cases z3
                have z4:=un.frzs b ob _ q
                obtain ⟨e1,_⟩:=hok b _ q
                obtain ⟨e2,_⟩:=hok' b _ z4
                rw [e] at e1; cases e1
                exact .inl e2
        refine ⟨rfl,⟨fun b o e=>?_,fun b o e=>?_⟩,os,bare⟩
        · rcases key b o e with z | ⟨t,rfl,ps,z⟩
          · exact .inl z
          · exact .inr (.inl ⟨t,rfl,#[],ps,rfl,by rw [Array.empty_append]; exact z⟩)
        · rcases key b o e with z | ⟨_,_,ps,z⟩
          · exact ⟨o,z⟩
          · exact ⟨_,z⟩
  have hoT:∀ (h0:Hp) b q,(tabsOf K).lookup b = some q->ObjOk P w (hTab K h0) s₁.heap b (.tab q):=fun h0 b q e=>⟨#[],(tabAt b q e).1,trivial,fun pos v z=>by cases z⟩
  cases hk:K.lookup a with
  | some o =>
    have e:=KX a o hk
    rw [ha] at e
    cases e
    refine core (fun _=>none) (.inr ⟨_,vs.toArray,_,hk,rfl,rfl,rfl,by rw [List.size_toArray,lenV]; exact hl,by simpa using rv⟩) (fun b u z=>?_) (fun b z=>absurd rfl z) (fun z=>absurd rfl z) fun _=>.inl rfl
    unfold hTab at z
    split at z
    · rename_i q hq; cases z; exact hoT _ b q hq
    · cases z
  | none =>
    refine core (fun b=>if b = a then some (.frz { cls:=.type "list",data:=.seq vs.toArray } (.lst (ns.map V.int))) else none) (.inl (.inr ⟨{ cls:=.type "list",data:=.seq vs.toArray },?_⟩)) (fun b u z=>?_) (fun b z=>?_) (fun _=>hk) fun b=>?_
    · unfold hTab; rw [aT]; exact if_pos rfl
    · unfold hTab at z
      split at z
      · rename_i q hq; cases z; exact hoT _ b q hq
      · by_cases hb:b = a
        · replace z:=(if_pos hb).symm.trans z
          cases z
          subst hb
          exact ⟨ha,by rw [List.length_map]; exact hl,vs,_,rv,ha⟩
        · replace z:=(if_neg hb).symm.trans z; cases z
    · by_cases hb:b = a
      · exact hb
      · exact absurd (if_neg hb) z
    · by_cases hb:b = a
      · exact .inr ⟨_,_,if_pos hb⟩
      · exact .inl (if_neg hb)
theorem walk_ofT {l:PySem.W.OpenLaw} {n k:Nat} {q:Program} {loose:List Str} {XP:(Str->Option Value)->Heap->Prop} {YP:World->Heap->Prop} {d:DefRec} {K:Params->PySem.W.Frag} {CX:World->CXT} {sp:World->Sp} {x:Str} {ts:List Addr}
    (hn:l.most = some n) (hn2:n<=sizeLine) (hdf:d.params.defaults = []) (hr:Room k callerA)
    (hY:∀ (w:World) (h:Heap),YP w h->(K w.params).In h/\∀ P ∈ ts,h.get? P = some (PySem.W.tabObj #[])) (ht:∀ w:World,tabsChk (K w.params) ts = true)
    (F:∀ (w:World) (mg:Str->Option Value) (fa:Addr) (h:Heap),(K w.params).In h->h.Ns mainGlobals mg->mg d.name = some (.ref fa) ->
      ∃ fd:FuncData,(∀ (s:Shared) (u:Value),BindsTo s fd ⟨[u],[]⟩ [(x,u)]) /\
        ∀ base:Heap,(K w.params).In base->base.Ns mainGlobals mg->FnOk l.prog w (K w.params) mg base (CX w) k fa fd [x] (sp w))
    (hsp:∀ (w:World) (H:Hp) (a:Addr) (ns:List Int),ns.length<=n->TabsIn (K w.params) H->SqL (K w.params) H a (ns.map V.int)->sp w [.ref a] H (fun v _=>v = .bl true) fun _ _ _=>False)
    (hCX:∀ (w:World) (H:Hp) (s:Shared) (e:Value) (s':Shared),CX w [] H s (fun _ _ _=>False) e s'->False) :
    PySem.W.WalkO q loose XP YP l.row.toRowW d [] (fun f vs=>PySem.call f vs):=by
  refine Att.attach_call hn hdf fun w s₀ s₁ mg mb fa o pm cd doc a vs ns G Y ho hd hcd hmg hobj hints hlen hg=>?_
  obtain ⟨KX,hts⟩:=hY w _ Y
  obtain ⟨fd,hb,hF⟩:=F w mg fa _ KX G.T.g hmg
  have hbm:BMd mg s₁.heap:=by
    obtain ⟨bm,ob,b1,b2,b3,b4,b5,b6⟩:=G.T.bmain
    refine ⟨bm,ob,b1,b2,fun z=>?_,b3,b4,b5,b6⟩
    obtain ⟨o',es,ep,e1,e2,_⟩:=G.T.g
    rw [<- z,b3] at e1
    cases e1
    rw [b6] at e2; cases e2
  exact law_callT KX G.T.g G.T.b G.T.builtins G.T.nolimit hbm hg (ht w) hts hobj hints (Nat.le_trans hlen hn2) hr hF hb (fun H hT hS=>hsp w H a ns hlen hT hS) fun H e s'=>hCX w H s₁ e s'
end Dl
namespace SP
open PySem PySem.W PyProof.Rows
noncomputable def run {α:Type} (lt:Nat->Nat->Bool):KasT α->α
  | .ret a=>a
  | .ask i j k=>run lt (k (lt i j))
theorem run_bind {α β:Type} (lt:Nat->Nat->Bool) (f:α->KasT β):∀ t:KasT α,run lt (t.bind f) = run lt (f (run lt t))
  | .ret a=>rfl
  | .ask i j k=>by
    show run lt ((k (lt i j)).bind f) = run lt (f (run lt (k (lt i j))))
    exact run_bind lt f (k (lt i j))
noncomputable def inB (n:Nat) {α:Type}:KasT α->Prop
  | .ret _=>True
  | .ask i j k=>i < n/\j < n/\∀ b,inB n (k b)
theorem wp_run {α:Type} {n:Nat} {cmp:Nat->Nat->(Bool->Shared->Prop)->Shared->Prop} {lt:Nat->Nat->Bool} {s:Shared} (hc:∀ i j C,i < n->j < n->C (lt i j) s->cmp i j C s):∀ (t:KasT α) {Q:α->Shared->Prop},inB n t->Q (run lt t) s->t.kasWp cmp Q s
  | .ret a,Q,_,h=>h
  | .ask i j k,Q,b,h=>hc i j _ b.1 b.2.1 (wp_run hc (k (lt i j)) (b.2.2 _) h)
noncomputable def outB (n:Nat) {α:Type} (R:α->Prop):KasT α->Prop
  | .ret a=>R a
  | .ask i j k=>i < n/\j < n/\∀ b,outB n R (k b)
theorem outB_bind {α β:Type} {n:Nat} {R:α->Prop} {f:α->KasT β}:∀ {t:KasT α},outB n R t->(∀ a,R a->inB n (f a))->inB n (t.bind f)
  | .ret a,b,h=>h a b
  | .ask i j k,b,h=>⟨b.1,b.2.1,fun c=>outB_bind (b.2.2 c) h⟩
theorem outB_bindO {α β:Type} {n:Nat} {R:α->Prop} {S:β->Prop} {f:α->KasT β}:∀ {t:KasT α},outB n R t->(∀ a,R a->outB n S (f a))->outB n S (t.bind f)
  | .ret a,b,h=>h a b
  | .ask i j k,b,h=>⟨b.1,b.2.1,fun c=>outB_bindO (b.2.2 c) h⟩
noncomputable def Bd (n:Nat) (p:Array Nat):Prop:=∀ a,p.getD a 0 < n
theorem Bd.perm {n:Nat} {p q:Array Nat} (h:Bd n p) (e:q.Perm p):Bd n q:=by
  intro a
  rw [Array.getD_eq_getD_getElem?]
  cases ha:q[a]? with
  | none=>have:=h p.size; rw [Array.getD_eq_getD_getElem?] at this; simpa using this
  | some x =>
    have hx:x ∈ q:=Array.mem_of_getElem? ha
    have hx':x ∈ p:=e.mem_iff.mp hx
    obtain ⟨i,hi,rfl⟩:=Array.mem_iff_getElem.mp hx'
    have:=h i
    rw [Array.getD_eq_getD_getElem?] at this
    simpa [hi] using this
theorem b_asc {n:Nat} {p:Array Nat} (h:Bd n p):∀ f m,outB n (fun _=>True) (kas_asc p f m)
  | 0,m=>trivial
  | f + 1,m=>⟨h _,h _,fun c=>by
    dsimp only
    split
    · trivial
    · exact b_asc h f (m + 1)⟩
theorem b_rev {n:Nat} {p:Array Nat} (h:Bd n p) (i j:Nat):Bd n (kas_rev p i j):=h.perm (mirror_perm _ _ _ _)
theorem b_desc {n:Nat}:∀ (f:Nat) {p:Array Nat} (h:Bd n p) (m q:Nat),outB n (fun r=>Bd n r.1) (kas_desc f p m q)
  | 0,p,h,m,q=>h
  | f + 1,p,h,m,q=>⟨h _,h _,fun c=>by
    dsimp only
    split
    · split
      · exact b_desc f (b_rev h _ _) (m + 1) 0
      · exact b_desc f h (m + 1) 0
    · exact ⟨h _,h _,fun d=>by
        dsimp only
        split
        · exact h
        · exact b_desc f h (m + 1) (q + 1)⟩⟩
theorem b_tail3 {n:Nat} {p:Array Nat} (h:Bd n p) (m nrem:Nat):outB n (fun r=>Bd n r.2) (kas_tail3 m nrem p):=outB_bindO (b_asc (b_rev h 0 m) _ _) fun _ _=>b_rev h 0 m
theorem b_descPart {n:Nat} {p:Array Nat} (h:Bd n p) (m nrem:Nat):outB n (fun r=>Bd n r.2) (kas_descPart m nrem p):=outB_bindO (b_desc _ h _ _) fun r hr=>by
  split
  · exact b_tail3 (b_rev hr _ _) _ _
  · exact b_tail3 hr _ _
theorem b_count {n:Nat} {p:Array Nat} (h:Bd n p) (nrem:Nat):outB n (fun r=>Bd n r.2) (kas_count nrem p):=outB_bindO (b_asc h _ _) fun m _=>by
  split
  · exact h
  · split
    · exact ⟨h _,h _,fun c=>by
        dsimp only
        split
        · exact h
        · exact b_descPart (b_rev h _ _) _ _⟩
    · exact b_descPart h _ _
theorem b_place {n:Nat} {p:Array Nat} (h:Bd n p) (k:Nat):∀ f l r,outB n (fun _=>True) (kas_place p k f l r)
  | 0,l,r=>trivial
  | f + 1,l,r=>by
    unfold kas_place
    split
    · trivial
    · exact ⟨h _,h _,fun c=>by
        dsimp only
        split
        · exact b_place h k f _ _
        · exact b_place h k f _ _⟩
theorem b_bin {n:Nat}:∀ (f:Nat) {p:Array Nat} (h:Bd n p) (k:Nat),inB n (kas_bin f p k)
  | 0,p,h,k=>trivial
  | f + 1,p,h,k=>outB_bind (b_place h k _ _ _) fun l _=>b_bin f (h.perm (bubble_perm _ _ _)) (k + 1)
theorem b_sort {n:Nat} (h1:1<=n):inB n (kas_sort n):=by
  have h:Bd n (List.toArray (List.range n)):=fun a=>by
    rw [Array.getD_eq_getD_getElem?]
    by_cases ha:a < n
    · simp [ha]
    · simp [ha]; omega
  refine outB_bind (b_count h n) fun r hr=>?_
  split
  · exact b_bin _ hr _
  · trivial
section
variable (z:Nat->Int)
noncomputable def Z (p:Array Nat) (a:Nat):Int:=z (p.getD a 0)
noncomputable def ltz:Nat->Nat->Bool:=fun i j=>decide (z i < z j)
theorem Z_congr {p q:Array Nat} {a b:Nat} (h:p[a]? = q[b]?):Z z p a = Z z q b:=by
  unfold Z
  rw [Array.getD_eq_getD_getElem?,Array.getD_eq_getD_getElem?,h]
theorem Z_rev {p:Array Nat} {i j:Nat} (hj:j<=p.size) (k:Nat):Z z (kas_rev p i j) k = if i<=k/\k < j then Z z p (i + j - 1 - k) else Z z p k:=by
  have e:=getElem?_mirror_all (xs:=p) (i:=i) hj k
  unfold kas_rev
  by_cases h1:i<=k/\k < j
  · rw [if_pos h1] at e ⊢; exact Z_congr z e
  · rw [if_neg h1] at e ⊢; exact Z_congr z e
theorem Z_bubble {p:Array Nat} {src d:Nat} (hs:src < p.size) (hd:d<=src) (k:Nat):Z z (bubble p src d) k = if k = src - d then Z z p src else if src - d < k/\k<=src then Z z p (k - 1) else Z z p k:=by
  have e:=getElem?_bubble hs d hd k
  by_cases h1:k = src - d
  · rw [if_pos h1] at e ⊢; exact Z_congr z e
  · rw [if_neg h1] at e ⊢
    by_cases h2:src - d < k/\k<=src
    · rw [if_pos h2] at e ⊢; exact Z_congr z e
    · rw [if_neg h2] at e ⊢; exact Z_congr z e
noncomputable def Up (p:Array Nat) (n:Nat):Prop:=∀ a b,a<=b->b < n->Z z p a<=Z z p b
noncomputable def Dn (p:Array Nat) (n:Nat):Prop:=∀ a b,a<=b->b < n->Z z p b<=Z z p a
variable {z}
theorem up_succ {p:Array Nat} {n:Nat} (h:Up z p n) (hn:1<=n) (h1:Z z p (n - 1)<=Z z p n):Up z p (n + 1):=by
  intro a b hab hb
  by_cases hbn:b < n
  · exact h a b hab hbn
  · have e:b = n:=by omega
    subst e
    by_cases ha:a = b
    · subst ha; exact Int.le_refl _
    · exact Int.le_trans (h a (b - 1) (by omega) (by omega)) h1
theorem asc {p:Array Nat}:∀ (f n:Nat),1<=n->Up z p n->n<=run (ltz z) (kas_asc p f n)/\run (ltz z) (kas_asc p f n)<=n + f/\Up z p (run (ltz z) (kas_asc p f n))/\(run (ltz z) (kas_asc p f n) < n + f->Z z p (run (ltz z) (kas_asc p f n)) < Z z p (run (ltz z) (kas_asc p f n) - 1))
  | 0,n,hn,h=>⟨Nat.le_refl _,Nat.le_refl _,h,fun q=>absurd q (Nat.lt_irrefl _)⟩
  | f + 1,n,hn,h=>by
    unfold kas_asc
    show n<=run (ltz z) (if ltz z (p.getD n 0) (p.getD (n - 1) 0) = true then .ret n else kas_asc p f (n + 1))/\run (ltz z) (if ltz z (p.getD n 0) (p.getD (n - 1) 0) = true then .ret n else kas_asc p f (n + 1))<=n + (f + 1)/\Up z p (run (ltz z) (if ltz z (p.getD n 0) (p.getD (n - 1) 0) = true then .ret n else kas_asc p f (n + 1)))/\(run (ltz z) (if ltz z (p.getD n 0) (p.getD (n - 1) 0) = true then .ret n else kas_asc p f (n + 1)) < n + (f + 1)->Z z p (run (ltz z) (if ltz z (p.getD n 0) (p.getD (n - 1) 0) = true then .ret n else kas_asc p f (n + 1))) < Z z p (run (ltz z) (if ltz z (p.getD n 0) (p.getD (n - 1) 0) = true then .ret n else kas_asc p f (n + 1)) - 1))
    by_cases hc:ltz z (p.getD n 0) (p.getD (n - 1) 0) = true
    · rw [if_pos hc]
      exact ⟨Nat.le_refl _,Nat.le_add_right _ _,h,fun _=>of_decide_eq_true hc⟩
    · rw [if_neg hc]
      have h1:Z z p (n - 1)<=Z z p n:=by
        have:¬ (Z z p n < Z z p (n - 1)):=fun q=>hc (decide_eq_true q)
        omega
      obtain ⟨a,b,c,d⟩:=asc f (n + 1) (by omega) (up_succ h hn h1)
      exact ⟨by omega,by omega,c,fun q=>d (by omega)⟩
theorem Z_same {p:Array Nat} {i j:Nat} (hj:j<=p.size) (h:∀ a b,i<=a->a < j->i<=b->b < j->Z z p a = Z z p b) (k:Nat):Z z (kas_rev p i j) k = Z z p k:=by
  rw [Z_rev z hj]
  split
  · rename_i hk
    exact h _ _ (by omega) (by omega) hk.1 hk.2
  · rfl
theorem dn_congr {p q:Array Nat} {n:Nat} (e:∀ k,Z z q k = Z z p k) (h:Dn z p n):Dn z q n:=fun a b hab hb=>by rw [e,e]; exact h a b hab hb
theorem rev_up {p:Array Nat} {n:Nat} (hn:n<=p.size) (h:Dn z p n):Up z (kas_rev p 0 n) n:=by
  intro a b hab hb
  rw [Z_rev z hn,Z_rev z hn,if_pos ⟨Nat.zero_le _,by omega⟩,if_pos ⟨Nat.zero_le _,hb⟩]
  exact h _ _ (by omega) (by omega)
theorem rev_size (p:Array Nat) (i j:Nat):(kas_rev p i j).size = p.size:=mirror_size _ _ _ _
theorem rev_perm (p:Array Nat) (i j:Nat):(kas_rev p i j).Perm p:=mirror_perm _ _ _ _
structure DInv (z:Nat->Int) (p₀ p:Array Nat) (n q nrem:Nat):Prop where
  perm:p.Perm p₀
  size:p.size = p₀.size
  le:n<=nrem
  qn:q + 1<=n
  dn:Dn z p n
  eq:∀ a b,n - (q + 1)<=a->a < n->n - (q + 1)<=b->b < n->Z z p a = Z z p b
theorem desc {p₀:Array Nat} {nrem:Nat} (hz:nrem<=p₀.size):∀ (f:Nat) (p:Array Nat) (n q:Nat),n + f<=nrem->DInv z p₀ p n q nrem ->
    let r:=run (ltz z) (kas_desc f p n q); DInv z p₀ r.1 r.2.1 r.2.2 nrem
  | 0,p,n,q,hn,h=>h
  | f + 1,p,n,q,hn,h=>by
    intro r
    have hr:r = run (ltz z) (if ltz z (p.getD n 0) (p.getD (n - 1) 0) = true then (if q > 0 then kas_desc f (kas_rev p (n - (q + 1)) n) (n + 1) 0 else kas_desc f p (n + 1) 0)
      else .ask (p.getD (n - 1) 0) (p.getD n 0) fun d=>if d = true then .ret (p,n,q) else kas_desc f p (n + 1) (q + 1)):=rfl
    have hq:=h.qn
    by_cases hc:ltz z (p.getD n 0) (p.getD (n - 1) 0) = true
    · rw [if_pos hc] at hr
      have hlt:Z z p n < Z z p (n - 1):=of_decide_eq_true hc
      have step:∀ p':Array Nat,p'.Perm p₀->p'.size = p₀.size->(∀ k,Z z p' k = Z z p k)->DInv z p₀ p' (n + 1) 0 nrem:=fun p' a1 a2 a3=>by
        refine ⟨a1,a2,by omega,by omega,fun a b hab hb=>?_,fun a b h1 h2 h3 h4=>by rw [show a = b by omega]⟩
        rw [a3,a3]
        by_cases hbn:b < n
        · exact h.dn a b hab hbn
        · have e:b = n:=by omega
          subst e
          by_cases ha:a = b
          · subst ha; exact Int.le_refl _
          · exact Int.le_trans (Int.le_of_lt hlt) (h.dn a (b - 1) (by omega) (by omega))
      by_cases hq0:q > 0
      · rw [if_pos hq0] at hr
        rw [hr]
        exact desc hz f _ (n + 1) 0 (by omega) (step _ ((rev_perm _ _ _).trans h.perm) (by rw [rev_size,h.size]) (Z_same (by rw [h.size]; omega) h.eq))
      · rw [if_neg hq0] at hr
        rw [hr]
        exact desc hz f p (n + 1) 0 (by omega) (step p h.perm h.size fun _=>rfl)
    · rw [if_neg hc] at hr
      have hge:Z z p (n - 1)<=Z z p n:=by
        have:¬ (Z z p n < Z z p (n - 1)):=fun q=>hc (decide_eq_true q)
        omega
      have hr':r = run (ltz z) (if ltz z (p.getD (n - 1) 0) (p.getD n 0) = true then .ret (p,n,q) else kas_desc f p (n + 1) (q + 1)):=hr
      by_cases hd:ltz z (p.getD (n - 1) 0) (p.getD n 0) = true
      · rw [if_pos hd] at hr'
        rw [hr']
        exact h
      · rw [if_neg hd] at hr'
        rw [hr']
        have heq:Z z p n = Z z p (n - 1):=by
          have:¬ (Z z p (n - 1) < Z z p n):=fun q=>hd (decide_eq_true q)
          omega
        refine desc hz f p (n + 1) (q + 1) (by omega) ⟨h.perm,h.size,by omega,by omega,fun a b hab hb=>?_,fun a b h1 h2 h3 h4=>?_⟩
        · by_cases hbn:b < n
          · exact h.dn a b hab hbn
          · have e:b = n:=by omega
            subst e
            by_cases ha:a = b
            · subst ha; exact Int.le_refl _
            · rw [heq]; exact h.dn a (b - 1) (by omega) (by omega)
        · have key:∀ c,n + 1 - (q + 1 + 1)<=c->c < n + 1->Z z p c = Z z p (n - 1):=fun c c1 c2=>by
            by_cases hcn:c < n
            · exact h.eq c (n - 1) (by omega) hcn (by omega) (by omega)
            · have e:c = n:=by omega
              subst e; exact heq
          rw [key a h1 h2,key b h3 h4]
structure COk (z:Nat->Int) (p₀:Array Nat) (nrem:Nat) (r:Nat × Array Nat):Prop where
  perm:r.2.Perm p₀
  size:r.2.size = p₀.size
  ge:1<=r.1
  le:r.1<=nrem
  up:Up z r.2 r.1
theorem tail3 {p₀ p:Array Nat} {n nrem:Nat} (hz:nrem<=p₀.size) (h1:1<=n) (hn:n<=nrem) (hp:p.Perm p₀) (hs:p.size = p₀.size) (hd:Dn z p n):COk z p₀ nrem (run (ltz z) (kas_tail3 n nrem p)):=by
  unfold kas_tail3
  rw [run_bind]
  obtain ⟨a,b,c,_⟩:=asc (nrem - n) n h1 (rev_up (by omega) hd)
  exact ⟨(rev_perm _ _ _).trans hp,by show (kas_rev p 0 n).size = _; rw [rev_size,hs],by show 1<=run _ (kas_asc _ _ _); omega,by show run _ (kas_asc _ _ _)<=nrem; omega,c⟩
theorem descPart {p₀ p:Array Nat} {n nrem:Nat} (hz:nrem<=p₀.size) (h1:1<=n) (hn:n < nrem) (hp:p.Perm p₀) (hs:p.size = p₀.size) (hd:Dn z p n) (hlt:Z z p n<=Z z p (n - 1)):COk z p₀ nrem (run (ltz z) (kas_descPart n nrem p)):=by
  unfold kas_descPart
  rw [run_bind]
  have D:=desc (z:=z) hz (nrem - (n + 1)) p (n + 1) 0 (by omega) ⟨hp,hs,by omega,by omega,fun a b hab hb=>by
    by_cases hbn:b < n
    · exact hd a b hab hbn
    · have e:b = n:=by omega
      subst e
      by_cases ha:a = b
      · subst ha; exact Int.le_refl _
      · exact Int.le_trans hlt (hd a (b - 1) (by omega) (by omega)),fun a b h1 h2 h3 h4=>by rw [show a = b by omega]⟩
  dsimp only at D
  generalize run (ltz z) (kas_desc (nrem - (n + 1)) p (n + 1) 0) = r at D
  have hq:=D.qn
  split
  · exact tail3 hz (by omega) D.le ((rev_perm _ _ _).trans D.perm) (by rw [rev_size,D.size]) (dn_congr (Z_same (by have:=D.size; have:=D.le; omega) D.eq) D.dn)
  · exact tail3 hz (by omega) D.le D.perm D.size D.dn
theorem count {p:Array Nat} {nrem:Nat} (hz:nrem<=p.size) (h1:1<=nrem):COk z p nrem (run (ltz z) (kas_count nrem p)):=by
  unfold kas_count
  rw [run_bind]
  obtain ⟨a,b,c,d⟩:=asc (z:=z) (p:=p) (nrem - 1) 1 (Nat.le_refl _) (fun x y hxy hy=>by rw [show x = y by omega]; exact Int.le_refl _)
  generalize run (ltz z) (kas_asc p (nrem - 1) 1) = n at a b c d
  split
  · exact ⟨Array.Perm.refl _,rfl,a,by show n<=nrem; omega,c⟩
  · rename_i hne
    have hlt:n < nrem:=by
      have:n ≠ nrem:=fun e=>hne (by simp [e])
      omega
    have hd:=d (by omega)
    split
    · rename_i hn1
      show COk z p nrem (run (ltz z) (if ltz z (p.getD 0 0) (p.getD (n - 1) 0) = true then .ret (n,p) else kas_descPart n nrem (kas_rev p 0 n)))
      by_cases hc:ltz z (p.getD 0 0) (p.getD (n - 1) 0) = true
      · rw [if_pos hc]
        exact ⟨Array.Perm.refl _,rfl,a,by show n<=nrem; omega,c⟩
      · rw [if_neg hc]
        have hge:Z z p (n - 1)<=Z z p 0:=by
          have:¬ (Z z p 0 < Z z p (n - 1)):=fun q=>hc (decide_eq_true q)
          omega
        have all:∀ x,x < n->Z z p x = Z z p 0:=fun x hx=>by
          have e1:=c 0 x (Nat.zero_le _) hx
          have e2:=c x (n - 1) (by omega) (by omega)
          omega
        have same:=Z_same (z:=z) (p:=p) (i:=0) (j:=n) (by omega) fun x y _ hx _ hy=>by rw [all x hx,all y hy]
        refine descPart hz (by omega) hlt (rev_perm _ _ _) (by rw [rev_size]) (fun x y hxy hy=>?_) ?_
        · rw [same,same,all x (by omega),all y hy]; exact Int.le_refl _
        · rw [same,same]; omega
    · exact descPart hz (by omega) hlt (Array.Perm.refl _) rfl (fun x y hxy hy=>by rw [show x = y by omega]; exact Int.le_refl _) (by omega)
theorem place {p:Array Nat} {k:Nat} (hu:Up z p k):∀ (f l r:Nat),r - l<=f->l<=r->r<=k->(∀ a,a < l->Z z p a<=Z z p k)->(∀ a,r<=a->a < k->Z z p k<=Z z p a) ->
    let m:=run (ltz z) (kas_place p k f l r); m<=k/\(∀ a,a < m->Z z p a<=Z z p k)/\(∀ a,m<=a->a < k->Z z p k<=Z z p a)
  | 0,l,r,hf,hl,hr,h1,h2=>by
    intro m
    have e:l = r:=by omega
    subst e
    exact ⟨hr,h1,h2⟩
  | f + 1,l,r,hf,hl,hr,h1,h2=>by
    intro m
    have hm:m = run (ltz z) (if l >= r then .ret l else .ask (p.getD k 0) (p.getD ((l + r) / 2) 0) fun c=>if c = true then kas_place p k f l ((l + r) / 2) else kas_place p k f ((l + r) / 2 + 1) r):=rfl
    by_cases hlr:l >= r
    · rw [if_pos hlr] at hm
      rw [hm]
      have e:l = r:=by omega
      subst e
      exact ⟨hr,h1,h2⟩
    · rw [if_neg hlr] at hm
      have hm':m = run (ltz z) (if ltz z (p.getD k 0) (p.getD ((l + r) / 2) 0) = true then kas_place p k f l ((l + r) / 2) else kas_place p k f ((l + r) / 2 + 1) r):=hm
      by_cases hc:ltz z (p.getD k 0) (p.getD ((l + r) / 2) 0) = true
      · rw [if_pos hc] at hm'
        rw [hm']
        have hlt:Z z p k < Z z p ((l + r) / 2):=of_decide_eq_true hc
        exact place hu f l ((l + r) / 2) (by omega) (by omega) (by omega) h1 fun a ha hak=>Int.le_trans (Int.le_of_lt hlt) (hu _ a ha hak)
      · rw [if_neg hc] at hm'
        rw [hm']
        have hge:Z z p ((l + r) / 2)<=Z z p k:=by
          have:¬ (Z z p k < Z z p ((l + r) / 2)):=fun q=>hc (decide_eq_true q)
          omega
        exact place hu f ((l + r) / 2 + 1) r (by omega) (by omega) hr (fun a ha=>Int.le_trans (hu a ((l + r) / 2) (by omega) (by omega)) hge) h2
theorem bin {p₀:Array Nat}:∀ (f:Nat) (p:Array Nat) (k:Nat),p.Perm p₀->p.size = p₀.size->k + f<=p₀.size->Up z p k ->
    (run (ltz z) (kas_bin f p k)).Perm p₀/\(run (ltz z) (kas_bin f p k)).size = p₀.size/\Up z (run (ltz z) (kas_bin f p k)) (k + f)
  | 0,p,k,hp,hs,hk,hu=>⟨hp,hs,hu⟩
  | f + 1,p,k,hp,hs,hk,hu=>by
    unfold kas_bin
    rw [run_bind]
    have P:=place hu k 0 k (by omega) (by omega) (Nat.le_refl _) (fun a ha=>absurd ha (Nat.not_lt_zero _)) fun a ha hak=>absurd ha (by omega)
    dsimp only at P
    generalize run (ltz z) (kas_place p k k 0 k) = l at P
    obtain ⟨p1,p2,p3⟩:=P
    have zb:=Z_bubble z (p:=p) (src:=k) (d:=k - l) (by omega) (by omega)
    have e:k - (k - l) = l:=by omega
    rw [e] at zb
    obtain ⟨q1,q2,q3⟩:=bin f (bubble p k (k - l)) (k + 1) ((bubble_perm _ _ _).trans hp) (by rw [bubble_size,hs]) (by omega) fun a b hab hb=>by
      rw [zb,zb]
      by_cases ha1:a = l
      · rw [if_pos ha1]
        by_cases hb1:b = l
        · rw [if_pos hb1]; exact Int.le_refl _
        · rw [if_neg hb1]
          rw [if_pos (by omega)]
          exact p3 _ (by omega) (by omega)
      · rw [if_neg ha1]
        by_cases hb1:b = l
        · rw [if_pos hb1,if_neg (by omega)]
          exact p2 a (by omega)
        · rw [if_neg hb1]
          by_cases ha2:l < a/\a<=k
          · rw [if_pos ha2,if_pos (by omega)]
            exact hu _ _ (by omega) (by omega)
          · rw [if_neg ha2]
            by_cases hb2:l < b/\b<=k
            · rw [if_pos hb2]
              exact hu _ _ (by omega) (by omega)
            · rw [if_neg hb2]
              exact hu _ _ hab (by omega)
    exact ⟨q1,q2,by rw [show k + (f + 1) = k + 1 + f by omega]; exact q3⟩
theorem sort_ok {n:Nat} (h1:1<=n):(run (ltz z) (kas_sort n)).toList.Perm (List.range n)/\((run (ltz z) (kas_sort n)).toList.map z).Pairwise (·<=·):=by
  have hsz:(List.toArray (List.range n)).size = n:=by simp
  have C:=count (z:=z) (p:=List.toArray (List.range n)) (nrem:=n) (by omega) h1
  have fin:∀ p:Array Nat,p.Perm (List.toArray (List.range n))->p.size = n->Up z p n->p.toList.Perm (List.range n)/\(p.toList.map z).Pairwise (·<=·):=fun p a b c=>by
    refine ⟨by have:=a.toList; simpa using this,?_⟩
    rw [List.pairwise_iff_getElem]
    intro i j hi hj hij
    have hi':i < n:=by simpa [b] using hi
    have hj':j < n:=by simpa [b] using hj
    have:=c i j (Nat.le_of_lt hij) hj'
    unfold Z at this
    have e1:p.getD i 0 = p[i]:=by simp [Array.getD,b,hi']
    have e2:p.getD j 0 = p[j]:=by simp [Array.getD,b,hj']
    rw [e1,e2] at this
    simpa using this
  unfold kas_sort
  rw [run_bind]
  generalize run (ltz z) (kas_count n (List.toArray (List.range n))) = r at C
  obtain ⟨k,p⟩:=r
  have hs:=C.size
  rw [hsz] at hs
  split
  · rename_i hlt
    have hge:=C.ge
    have e:max k 1 = k:=by have:1<=k:=hge; omega
    rw [e]
    obtain ⟨q1,q2,q3⟩:=bin (z:=z) (n - k) p k C.perm C.size (by rw [hsz]; have:k < n:=hlt; omega) C.up
    refine fin _ q1 (by rw [q2,hsz]) ?_
    rw [show k + (n - k) = n by have:k < n:=hlt; omega] at q3
    exact q3
  · rename_i hnlt
    have hle:=C.le
    have e:k = n:=by have h3:k<=n:=hle; have h4:¬ k < n:=hnlt; omega
    subst e
    exact fin p C.perm hs C.up
end
end SP
namespace Srt
open PySem PySem.W PySem.Calls PyProof.Rows
noncomputable def outV (z:Nat->Int) (vs:List Value):List Value:=if vs.length < 2 then vs else (SP.run (SP.ltz z) (kas_sort vs.length)).toList.map fun i=>vs.getD i Value.none
theorem outV_len (z:Nat->Int) (vs:List Value):(outV z vs).length = vs.length:=by
  unfold outV
  split
  · rfl
  · rename_i h
    have:=(SP.sort_ok (z:=z) (n:=vs.length) (by omega)).1.length_eq
    simpa using this
section
variable {prog:Program} {w:World} {A:Around} {E:Value->Shared->Prop} {s:Shared}
theorem list_sortG {a:Addr} {vs:List Value} {n:Nat} {P:PySem.Fin->Shared->Prop} (ho:s.heap.get? a = some (seqObj "list" vs.toArray n)) (h64:vs.length < 64) (z:Nat->Int) (κ:SortKind)
    (hk:2<=vs.length->∀ h':Heap,(∀ b o,b ≠ a->s.heap.get? b = some o->h'.get? b = some o)->∀ Q':SortKind->Shared->Prop,Q' κ { s with heap:=h' }->wpAny (model prog w) A (keyKind' vs.toArray) Q' (fun _ _=>False) { s with heap:=h' })
    (hlt:2<=vs.length->∀ h':Heap,(∀ b o,b ≠ a->s.heap.get? b = some o->h'.get? b = some o)->∀ i j C,i < vs.length->j < vs.length->C (SP.ltz z i j) { s with heap:=h' }->kas_ask prog w A κ vs i j C { s with heap:=h' })
    (h:∀ (h':Heap) (c:Nat),(∀ b o,b ≠ a->s.heap.get? b = some o->h'.get? b = some o)->h'.get? a = some (seqObj "list" (outV z vs).toArray c)->P (.done (.ret .none)) { s with heap:=h' }) :
    wpAny (model prog w) A (Builtin.«list.sort» ⟨[.ref a],[]⟩) P E s:=by
  rw [list_sort_plain]
  have ha:a < s.heap.objs.size:=Heap.lt_size ho
  have hsl:vs.length<=sizeLine:=by rw [sizeLine_eq]; omega
  refine wpAny_bind (listItems_at ho rfl (wpAny_bind (listUpdate_at ho rfl ?_ (by simpa using hsl) (Nat.zero_le _))))
  obtain ⟨e1,ho1⟩:∃ e,(s.heap.update a (Obj.mapSeq fun _=>(#[]:Array Value))).get? a = some (seqObj "list" #[] e):=⟨_,get?_update_seq ho fun _=>#[]⟩
  have kp1:∀ b o,b ≠ a->s.heap.get? b = some o->(s.heap.update a (Obj.mapSeq fun _=>(#[]:Array Value))).get? b = some o:=fun b o hb e=>(Heap.get?_update_other _ _ (Ne.symm hb)).trans e
  refine wpAny_bind (seqEpoch_at ho1 rfl (wpAny_bind (wpAny_newTuple ?_ (by simpa using hsl))))
  refine wpAny_bind (wpAny_newList (wpAny_holding ?_) (Nat.zero_le _))
  have ho3:(((s.heap.update a (Obj.mapSeq fun _=>(#[]:Array Value))).push (seqObj "tuple" vs.toArray 0)).push (seqObj "list" #[] 0)).get? a = some (seqObj "list" #[] e1):=Heap.get?_push_of_some _ (Heap.get?_push_of_some _ ho1)
  have kp3:∀ b o,b ≠ a->s.heap.get? b = some o->(((s.heap.update a (Obj.mapSeq fun _=>(#[]:Array Value))).push (seqObj "tuple" vs.toArray 0)).push (seqObj "list" #[] 0)).get? b = some o:=fun b o hb e=>Heap.get?_push_of_some _ (Heap.get?_push_of_some _ (kp1 b o hb e))
  show wpAny _ A _ P E { s with heap:=((s.heap.update a (Obj.mapSeq fun _=>(#[]:Array Value))).push (seqObj "tuple" vs.toArray 0)).push (seqObj "list" #[] 0) }
  generalize ((s.heap.update a (Obj.mapSeq fun _=>(#[]:Array Value))).push (seqObj "tuple" vs.toArray 0)).push (seqObj "list" #[] 0) = h3 at ho3 kp3
  clear ho1 kp1
  dsimp only
  have fin:∀ st':SortSt,(arrOf st').map (·.2) = (outV z vs).toArray->failedOf st' = none ->
      wpAny (model prog w) A (do
        let sorted:=(arrOf st').map (·.2)
        let touched:=(<- seqEpoch a) != e1
        Builtin.List.listUpdate (.ref a) fun _=>sorted
        if let some e:=failedOf st' then rule "list.sort.comparison-raised"; throw e
        if touched then rule "list.sort.modified"; raiseError "ValueError" "list modified during sort"
        ret .none) P E { s with heap:=h3 }:=fun st' h1 h2=>by
    dsimp only
    rw [h1,h2]
    refine wpAny_bind (seqEpoch_at ho3 rfl ?_)
    refine wpAny_bind (listUpdate_at ho3 rfl ?_ (Nat.zero_le _) (by show (outV z vs).toArray.size<=_; rw [List.size_toArray,outV_len]; omega))
    obtain ⟨c,hc⟩:∃ c,(h3.update a (Obj.mapSeq fun _=>(outV z vs).toArray)).get? a = some (seqObj "list" (outV z vs).toArray c):=⟨_,get?_update_seq ho3 fun _=>(outV z vs).toArray⟩
    have q:=h _ c (fun b o hb e=>(Heap.get?_update_other _ _ (Ne.symm hb)).trans (kp3 b o hb e)) hc
    simp only [bne_self_eq_false,Bool.false_eq_true,if_false]
    exact wpAny_pure q
  by_cases h2:vs.toArray.size < 2
  · rw [if_pos h2,if_pos h2]
    refine wpAny_bind (wpAny_pure ?_)
    rw [StateT.run_pure]
    refine wpAny_bind (wpAny_pure (fin _ ?_ rfl))
    have h2':vs.length < 2:=by simpa using h2
    unfold outV
    rw [if_pos h2']
    show ((vs.toArray.zip vs.toArray).map (·.2)) = vs.toArray
    apply Array.toList_inj.mp
    simp only [Array.toList_map,Array.toList_zip]
    exact List.map_snd_zip (Nat.le_refl _)
  · rw [if_neg h2,if_neg h2]
    have h2':2<=vs.length:=by
      have:¬ vs.length < 2:=by simpa using h2
      omega
    refine wpAny_bind (wpAny_mono (hk h2' h3 kp3 (fun κ' s'=>κ' = κ/\s' = { s with heap:=h3 }) ⟨rfl,rfl⟩) (fun κ' s' hs=>?_) fun _ _ x=>x.elim)
    obtain ⟨rfl,rfl⟩:=hs
    refine wpAny_bind (wpAny_mono (kat_run (Q:=fun st' s'=>s' = { s with heap:=h3 }/\(arrOf st').map (·.2) = (outV z vs).toArray/\failedOf st' = none) (G:=fun p s'=>s' = { s with heap:=h3 }/\p = SP.run (SP.ltz z) (kas_sort vs.length))
      rfl h2' h64 (fun p st' s' a1 a2 a3 a4=>⟨a4.1,?_,a3⟩) (SP.wp_run (hlt h2' h3 kp3) (kas_sort vs.length) (SP.b_sort (by omega)) ⟨rfl,rfl⟩)) ?_ fun _ _ e=>e)
    · rw [kat_snds rfl a2,a4.2]
      unfold outV
      rw [if_neg (by omega)]
    · rintro ⟨⟨⟩,st'⟩ s' ⟨hs,h4,h5⟩
      subst hs
      exact fin st' h4 h5
theorem sortedG {l:Addr} {vs:List Value} {Q:Value->Shared->Prop} (hl:s.heap.IsList l vs.toArray) (h64:vs.length < 64) (z:Nat->Int) (κ:SortKind)
    (hk:2<=vs.length->∀ h':Heap,(∀ b o,s.heap.get? b = some o->h'.get? b = some o)->∀ Q':SortKind->Shared->Prop,Q' κ { s with heap:=h' }->wpAny (model prog w) A.in1.in1 (keyKind' vs.toArray) Q' (fun _ _=>False) { s with heap:=h' })
    (hlt:2<=vs.length->∀ h':Heap,(∀ b o,s.heap.get? b = some o->h'.get? b = some o)->∀ i j C,i < vs.length->j < vs.length->C (SP.ltz z i j) { s with heap:=h' }->kas_ask prog w A.in1.in1 κ vs i j C { s with heap:=h' })
    (h:∀ (h':Heap) (D:Addr) (c:Nat),(∀ b o,s.heap.get? b = some o->h'.get? b = some o)->s.heap.objs.size<=D->h'.get? D = some (seqObj "list" (outV z vs).toArray c)->Q (.ref D) { s with heap:=h' }) :
    wpAny (model prog w) A (call (.builtin "sorted") [.ref l]) Q E s:=by
  have hsl:vs.length<=sizeLine:=by rw [sizeLine_eq]; omega
  refine Calls.call_function_entry kind_sorted plain_sorted entry_sorted (args_sorted1 _) ?_
  unfold Builtin.«sorted»
  refine wpAny_bind (m:=checkCount "sorted" 1 1 _) (wpAny_pure (wpAny_bind (collect_list hl ?_ hsl)))
  refine wpAny_bind (wpAny_newList ?_ (by simpa using hsl))
  have hsz:((s.heap.push (seqObj "list" #[] 0)).update s.heap.objs.size (Obj.mapSeq (· ++ vs.toArray))).objs.size = s.heap.objs.size + 1:=by rw [Heap.size_update,size_push']
  have kp:∀ b o,s.heap.get? b = some o->(((s.heap.push (seqObj "list" #[] 0)).update s.heap.objs.size (Obj.mapSeq (· ++ vs.toArray))).push (seqObj "list" vs.toArray 0)).get? b = some o:=fun b o e =>
    Heap.get?_push_of_some _ ((Heap.get?_update_other _ _ (Nat.ne_of_gt (Heap.lt_size e))).trans (Heap.get?_push_of_some _ e))
  have hoD:(((s.heap.push (seqObj "list" #[] 0)).update s.heap.objs.size (Obj.mapSeq (· ++ vs.toArray))).push (seqObj "list" vs.toArray 0)).get? (s.heap.objs.size + 1) = some (seqObj "list" vs.toArray 0):=by
    rw [<- hsz]; exact Heap.get?_push_size _ rfl
  show wpAny _ _ _ _ _ { s with heap:=((s.heap.push (seqObj "list" #[] 0)).update s.heap.objs.size (Obj.mapSeq (· ++ vs.toArray))).push (seqObj "list" vs.toArray 0) }
  rw [hsz]
  generalize ((s.heap.push (seqObj "list" #[] 0)).update s.heap.objs.size (Obj.mapSeq (· ++ vs.toArray))).push (seqObj "list" vs.toArray 0) = h1 at kp hoD
  have kk:∀ h':Heap,(∀ b o,b ≠ s.heap.objs.size + 1->h1.get? b = some o->h'.get? b = some o)->∀ b o,s.heap.get? b = some o->h'.get? b = some o:=fun h' q b o e=>q b o (Nat.ne_of_lt (Nat.lt_succ_of_lt (Heap.lt_size e))) (kp b o e)
  refine wpAny_bind (wpAny_holding (wpAny_call_entry slot_list_sort ⟨_,hoD,rfl⟩ entry_list_sort (list_sortG hoD h64 z κ (fun a h' q=>hk a h' (kk h' q)) (fun a h' q=>hlt a h' (kk h' q)) fun h' c q e=>⟨_,rfl,?_⟩) (args_list_sort _)))
  exact wpAny_pure ⟨_,rfl,h h' _ c (kk h' q) (by omega) e⟩
end
end Srt
namespace Dl
open PySem L2 PySem.Spec PyProof.Rows
section
variable {X:Cx} {HF₀ H₀:Hp} {e e2:Expr} {es:List Expr} {pos apos cpos px p:Pos} {x:Str} {fs:Env->Option (List D)}
noncomputable def gExt (i:Nat) (fz:List Nat) (f:Env->Option (List D)):SEnv->Option Out:=fun ρ=>(f (vFrz (hand fz 0 ρ))).bind fun us=>gMut i (fun ds=>if ds.length + us.length<=sizeLine then some (ds ++ us) else none) (hand fz 0 ρ)
theorem ds_extend (i:Nat) (fz:List Nat) {f:Env->Option (List D)} (hN:X.N[i]? = some x) (hv:Vis X.env.scope x) (h:DF X e f) (hd:(x == ("__debug__":Str)) = false:=by decide) (hcd:(x == ("__classdict__":Str)) = false:=by decide)
    (hfew:((backTo cpos (starEach [e] X.env)).all (fun x=>!x.1) && (backToKw cpos (keywordEach [] X.env)).all (fun x=>x.1.isSome) && decide ([e].length + ([]:List Keyword).length + (if ([]:List Keyword).isEmpty then 0 else 1) < 30)) = true:=by rfl)
    (hline:(apos.endLine == cpos.line) = true:=by rfl) (hs:starEach [e] X.env = (false,eval e X.env) :: starEach [] X.env:=by rfl) :
    DS X HF₀ H₀ (.Expr (.Call (.Attribute (.Name x px) "extend" apos) [e] [] cpos) pos) (gExt i fz f) :=
  ps_imp (ps_expr (pe_bm PySem.F.plainAttrs_list PySem.F.slot_list_extend PySem.F.type_list_extend mt_extend (pe_var hN hv hd hcd) (pa_cons h pa_nil hs) rfl hfew hline hs rfl)) fun E σ H ⟨HF,ρ,o,S,hg,q⟩=>by
    obtain ⟨us,h1,hg⟩:=bs hg
    obtain ⟨ds,es,h2,h3,rfl⟩:=gMut_some hg
    obtain ⟨HF1,s1,S1⟩:=S.hand fz
    obtain ⟨a,vs,e1,e2,e3,e5,e4⟩:=S1.own i ds h2
    refine ⟨.ref a,e1,.inl ⟨rfl,vs,SqL.of e2⟩,HF1,_,us,S1.gr.fh,S1.frz,h1,fun b ws H' HF' G hb hf h' r=>?_⟩
    have S2:=S1.grow G
    obtain ⟨a',vs',f1,f2,f3,f5,f4⟩:=S2.own i ds h2
    rw [e1] at f1; cases f1
    split at h3
    · rename_i hz
      cases h3
      exact ⟨a,b,vs',ws,rfl,rfl,f2,h',by rw [f4.length,r.length]; exact hz,q σ _ HF' (S2.mut h2 e1 f2 (f4.append r)) (s1.trans G.ff)⟩
    · cases h3
noncomputable def insAt (ds:List D) (k:Int) (d:D):List D:=let j:=if k < 0 then (k + (ds.length:Int)).toNat else min k.toNat ds.length; ds.take j ++ d :: ds.drop j
noncomputable def rInsert:V->List V->Hp->VK->Prop:=fun x vs H Q=>∃ l xs k y,x = .ref l/\vs = [.int k,y]/\H l = some (.lst xs)/\xs.length < sizeLine/\-(2 ^ 62)<=k/\k < 2 ^ 62 /\
  Q .non (upd H l (.lst (xs.take (if k < 0 then (k + (xs.length:Int)).toNat else min k.toNat xs.length) ++ y :: xs.drop (if k < 0 then (k + (xs.length:Int)).toNat else min k.toNat xs.length))))
theorem mt_insert:MtM X "list.insert" rInsert:=by
  intro pins s σ H x vs v us Q I rx rv h
  obtain ⟨l,xs,k,y,rfl,rfl,hH,hz,k1,k2,q⟩:=h
  cases rx
  obtain ⟨u1,u2,rfl,⟨t,rfl⟩,ru⟩:=L2.Vals.two rv
  obtain ⟨z,its,n,r,hl,e⟩:=I.lstM hH
  have hfit:¬(!Builtin.List.listFitsIndex k) = true:=by
    have:Builtin.List.listFitsIndex k = true:=by
      unfold Builtin.List.listFitsIndex
      simp only [Bool.and_eq_true,decide_eq_true_eq]
      omega
    rw [this]; simp
  refine call_meets F.slot_list_insert ⟨_,e,rfl⟩ F.entry_list_insert (F.args_list_insert_3 _ _ _) (AutoListH.list_insert_list_int_val_1 l its.toArray n k t u2 hfit (by rw [List.size_toArray]; omega)) ⟨e,?_⟩
  have hlen:its.length = xs.length:=hl.symm
  refine ⟨.non,_,I.lset (its':=its.take (if k < 0 then (k + (xs.length:Int)).toNat else min k.toNat xs.length) ++ u2 :: its.drop (if k < 0 then (k + (xs.length:Int)).toNat else min k.toNat xs.length)) hH e ?_ ((r.take _).append (.cons ru (r.drop _))) ?_,rfl,q⟩
  · dsimp only
    rw [List.size_toArray,hlen]
    apply Array.toList_inj.mp
    simp
    exact List.take_of_length_le (by rw [List.length_drop,hlen]; exact Nat.le_refl _)
  · rw [List.length_append,List.length_cons,List.length_take,List.length_drop]
    omega
noncomputable def gIns (i:Nat) (fz:List Nat) (fk f:Env->Option D):SEnv->Option Out:=fun ρ=>(fk (vAll ρ)).bind fun kd=>match kd with
  | .int k=>(itemD fz f ρ).bind fun p=>gMut i (fun ds=>if okR k = true/\ds.length < sizeLine then some (insAt ds k p.1) else none) p.2
  | _=>none
theorem ds_insert (i:Nat) (fz:List Nat) {fk f:Env->Option D} (hN:X.N[i]? = some x) (hv:Vis X.env.scope x) (hk:DE X e fk) (h:DE X e2 f) (hd:(x == ("__debug__":Str)) = false:=by decide) (hcd:(x == ("__classdict__":Str)) = false:=by decide)
    (hfew:((backTo cpos (starEach [e,e2] X.env)).all (fun x=>!x.1) && (backToKw cpos (keywordEach [] X.env)).all (fun x=>x.1.isSome) && decide ([e,e2].length + ([]:List Keyword).length + (if ([]:List Keyword).isEmpty then 0 else 1) < 30)) = true:=by rfl)
    (hline:(apos.endLine == cpos.line) = true:=by rfl) (hs:starEach [e,e2] X.env = (false,eval e X.env) :: starEach [e2] X.env:=by rfl) (hs2:starEach [e2] X.env = (false,eval e2 X.env) :: starEach [] X.env:=by rfl) :
    DS X HF₀ H₀ (.Expr (.Call (.Attribute (.Name x px) "insert" apos) [e,e2] [] cpos) pos) (gIns i fz fk f) :=
  ps_imp (ps_expr (pe_bm PySem.F.plainAttrs_list PySem.F.slot_list_insert PySem.F.type_list_insert mt_insert (pe_var hN hv hd hcd) (pa_cons hk (pa_cons h pa_nil hs2) hs) rfl hfew hline hs (by rw [hs2]; rfl))) fun E σ H ⟨HF,ρ,o,S,hg,q⟩=>by
    obtain ⟨kd,hkd,hg⟩:=bs hg
    cases kd <;> try cases hg
    rename_i k
    obtain ⟨⟨d,ρ'⟩,h1,hg⟩:=bs hg
    obtain ⟨ds,es,h2,h3,rfl⟩:=gMut_some hg
    have hown:∃ ds',ρ[i]? = some (.own ds'):=by
      obtain ⟨d1,_,h1⟩:=bs h1
      split at h1
      · cases h1; exact ⟨ds,h2⟩
      · obtain ⟨d2,_,h1⟩:=map_some h1
        cases h1
        rw [hand_get] at h2
        obtain ⟨s,hs,h2⟩:=map_some h2
        cases s with
        | non=>split at h2 <;> cases h2
        | val _=>split at h2 <;> cases h2
        | own xs=>exact ⟨xs,hs⟩
    obtain ⟨ds',hown⟩:=hown
    obtain ⟨a,vs,e1,e2,e3,e5,e4⟩:=S.own i ds' hown
    refine ⟨.ref a,e1,.inl ⟨rfl,vs,SqL.of e2⟩,H,vAll ρ,_,.refl _,S.all,hkd,fun vk Hk HFk Gk rk=>?_⟩
    simp only [Rep] at rk
    subst rk
    refine itemD_run (S.step Gk.hh) h1 fun v H' HF' s1 S' sh r=>?_
    obtain ⟨a',vs',f1,f2,f3,f5,f4⟩:=S'.own i ds h2
    rw [e1] at f1; cases f1
    split at h3
    · rename_i hz
      cases h3
      have ok:=hz.1
      unfold okR at ok
      rw [Bool.and_eq_true] at ok
      refine ⟨a,vs',k,v,rfl,rfl,f2,by rw [f4.length]; exact hz.2,of_decide_eq_true ok.1,of_decide_eq_true ok.2,q σ _ HF' (S'.mut h2 e1 f2 ?_) s1⟩
      unfold insAt
      rw [f4.length]
      exact (f4.take _).append (Reps.cons r (f4.drop _))
    · cases h3
noncomputable def gCatL:D->D->Option (List D)
  | .list xs,.list ys=>small (xs ++ ys)
  | _,_=>none
noncomputable def rCatLL (K:PySem.W.Frag):R2:=fun x y H Q=>∃ a b xs ys,x = .ref a/\y = .ref b/\SqL K H a xs/\SqL K H b ys/\xs.length + ys.length<=sizeLine/\∀ p,H p = none->Q (.ref p) (upd H p (.lst (xs ++ ys)))
theorem op_catLL:OpR X (binaryOp .Add) (rCatLL X.K):=by
  intro pins s σ H x y v u Q I rx ry h
  obtain ⟨a,b,xs,ys,rfl,rfl,ha,hb,hz,q⟩:=h
  cases rx
  cases ry
  obtain ⟨its,r1,p1,_⟩:=I.list ha
  obtain ⟨its2,r2,p2,_⟩:=I.list hb
  obtain ⟨⟨cls,dd,data,sl⟩,ho,hc,n,hd⟩:=id p1.isList
  obtain ⟨⟨cls2,dd2,data2,sl2⟩,ho2,hc2,n2,hd2⟩:=id p2.isList
  simp only at hc hd hc2 hd2
  subst hc hd hc2 hd2
  refine concat_meets ⟨_,ho,rfl⟩ ⟨_,ho2,rfl⟩ noFill_list_add seq_list_add PySem.F.slot_list_add PySem.F.entry_list_add (PySem.F.args_list_add_2 _ _) (list_addW a b its.toArray its2.toArray n n2 dd dd2 sl sl2 (by rw [List.size_toArray,List.size_toArray,<- r1.length,<- r2.length]; exact hz)) ⟨ho,ho2,?_⟩
  have e:its.toArray ++ its2.toArray = (its ++ its2).toArray:=by simp
  rw [e]
  exact ⟨.ref s.heap.objs.size,_,I.lnew (t':=s.toks) (r1.append r2) (by rw [List.length_append]; exact hz),rfl,q _ I.fresh⟩
noncomputable def f2L (g:D->D->Option (List D)) (f1 f2:Env->Option D):Env->Option (List D):=fun ρ=>(f1 ρ).bind fun x=>(f2 ρ).bind fun y=>g x y
theorem df_cat {a b:Expr} {fa fb:Env->Option D} (ha:DE X a fa) (hb:DE X b fb):DF X (.BinOp a .Add b pos) (f2L gCatL fa fb):=pe_imp (pe_op op_catLL ha hb) fun σ H Q ⟨HF,ρ,d,sm,eo,hf,q⟩=>by
  obtain ⟨x,hx,hf⟩:=bs hf
  obtain ⟨y,hy,hg⟩:=bs hf
  refine ⟨HF,ρ,x,sm,eo,hx,fun v1 H1 HF1 g1 r1=>⟨HF1,ρ,y,g1.fh,eo.mono g1.ff,hy,fun v2 H2 HF2 g2 r2=>?_⟩⟩
  have r1:=r1.mono g2.ff
  cases x <;> cases y <;> simp only [gCatL] at hg <;> try cases hg
  rename_i xs ys
  obtain ⟨rfl,hz⟩:=small_some hg
  simp only [Rep] at r1 r2
  obtain ⟨a,vs,rfl,ha,ra⟩:=r1
  obtain ⟨b,us,rfl,hb,rb⟩:=r2
  have G:=g1.trans g2
  exact ⟨a,b,vs,us,rfl,rfl,g2.fh.seq ha,g2.fh.seq hb,by rw [ra.length,rb.length,<- List.length_append]; exact hz,fun p hp=>q p _ _ HF2 (G.trans (.own G.fh hp)) (G.hh.free hp) (G.fh.free hp) upd_same (ra.append rb)⟩
noncomputable def boolsOf:List D->Option (List Bool)
  | []=>some []
  | .bool b :: r=>(boolsOf r).map (b :: ·)
  | _ :: _=>none
theorem boolsOf_some:∀ {ds:List D} {bs:List Bool},boolsOf ds = some bs->ds = bs.map PyData.bool
  | [],bs,h=>by cases h; rfl
  | d :: r,bs,h=>by
    cases d <;> simp only [boolsOf] at h <;> try cases h
    obtain ⟨bs',h1,rfl⟩:=map_some h
    rw [boolsOf_some h1]
    rfl
theorem reps_bools {K:PySem.W.Frag} {H:Hp}:∀ {bs:List Bool} {vs:List V},Reps K H (bs.map PyData.bool) vs->vs = bs.map V.bl
  | [],vs,h=>h.nil_inv
  | b :: bs,vs,h=>by
    obtain ⟨v,r,rfl,a,c⟩:=h.cons_inv
    simp only [Rep] at a
    rw [a,reps_bools c]
    rfl
theorem vals_bools:∀ {bs:List Bool} {us:List Value},Vals (bs.map V.bl) us->us = bs.map Value.bool
  | [],us,h=>by cases h; rfl
  | b :: bs,us,h=>by
    cases h with
    | cons r rr=>cases r; rw [vals_bools rr]; rfl
theorem range_all (bs:List Bool):(List.range bs.length).all (fun i=>bs.getD i false) = bs.all id:=by
  induction bs with
  | nil=>rfl
  | cons b bs ih=>rw [List.length_cons,List.range_succ_eq_map,List.all_cons,List.all_map,List.all_cons]; simpa [Function.comp_def] using congrArg (b && ·) ih
theorem range_any (bs:List Bool):(List.range bs.length).any (fun i=>bs.getD i false) = bs.any id:=by
  induction bs with
  | nil=>rfl
  | cons b bs ih=>rw [List.length_cons,List.range_succ_eq_map,List.any_cons,List.any_map,List.any_cons]; simpa [Function.comp_def] using congrArg (b || ·) ih
theorem call_all_l (hc:X.calm = true):CallR X (.builtin "all") (fun xs H Q=>∃ (a:Addr) (bs:List Bool),xs = [.ref a]/\SqL X.K H a (bs.map V.bl)/\Q (.bl (bs.all id)) H):=by
  intro pins s σ H xs us Q I r h
  obtain ⟨a,bs,rfl,hq,q⟩:=h
  obtain ⟨u,rfl,rx⟩:=vals1 r
  cases rx
  obtain ⟨its,rv,pl,hz⟩:=I.list hq
  have hv:=vals_bools rv
  subst hv
  have hh:X.A.in1.handled = none:=I.ok.hd hc
  refine call_all_walk (wpAny_pyIter_list pl.isList ?_)
  obtain ⟨o,ho,hcl,n,hd⟩:=pl.isList
  have hne:a ≠ s.heap.objs.size:=Nat.ne_of_lt (Heap.lt_size ho)
  refine ⟨_,_,_,_,_,_,fun i=>bs.getD i false,rfl,Walks.list hh s.heap.objs.size a hne (bs.map Value.bool).toArray,⟨⟨_,Heap.get?_push_size _ rfl,rfl,rfl⟩,pl.isList.push _⟩,fun i v s' Q' E' hP hQ=>?_,fun h' tk kp=>?_⟩
  · have e:v = Value.bool (bs.getD i false):=by
      have hP:(bs.map Value.bool).toArray[i]? = some v:=hP
      rw [List.getElem?_toArray,List.getElem?_map] at hP
      obtain ⟨b,hb,rfl⟩:=map_some hP
      rw [List.getD_eq_getElem?_getD,hb]
      rfl
    subst e
    exact wpAny_truthy_bool hQ
  · refine ⟨.bl (bs.all id),H,?_,?_,q⟩
    · exact I.kept (t':=tk) fun b o' e=>kp b o' (by simp; exact Nat.ne_of_lt (Heap.lt_size e)) (Heap.get?_push_of_some _ e)
    · show Value.bool _ = Value.bool _
      have:=range_all bs
      simp only [List.size_toArray,List.length_map]
      rw [this]
noncomputable def gAll:List D->Option D:=fun ds=>(oneOf ds).bind fun d=>match d with
  | .list es=>(boolsOf es).map fun bs=>.bool (bs.all id)
  | _=>none
theorem de_all (hc:X.calm = true) (B:Blt X "all" (.builtin "all")) (ha:DA X [e] fs) (he:starEach [e] X.env = (false,eval e X.env) :: starEach [] X.env:=by rfl):DE X (.Call (.Name "all" p) [e] [] pos) (fCB gAll fs) :=
  de_callB (call_all_l hc) (by
    intro HF H ds vs d Q sm r hg q
    obtain ⟨x,hx,hg⟩:=bs hg
    rw [oneOf_some hx] at r
    cases x <;> try cases hg
    obtain ⟨bs,hb,rfl⟩:=map_some hg
    obtain ⟨v,r',rfl,a,b⟩:=r.cons_inv
    rw [b.nil_inv]
    simp only [Rep] at a
    obtain ⟨p,us,rfl,h,rr⟩:=a
    rw [boolsOf_some hb] at rr
    have:=reps_bools rr
    subst this
    exact ⟨p,bs,rfl,sm.seq h,q _ H HF (.refl sm) (by simp [Rep])⟩) B ha (by decide) (by decide) he rfl
end
end Dl
namespace Dl
open PySem L2 PySem.Spec PyProof.Rows
noncomputable abbrev lexLt:=HT.lexLt
theorem lex_irrefl:∀ a:List Int,lexLt a a = false
  | []=>rfl
  | x :: a=>by show HT.lexLt (x :: a) (x :: a) = false; rw [HT.lexLt_cons,if_pos rfl]; exact lex_irrefl a
theorem lex_trans:∀ {a b c:List Int},lexLt a b = true->lexLt b c = true->lexLt a c = true
  | [],[],_,h,_=>by cases h
  | [],_ :: _,[],_,h=>by cases h
  | [],_ :: _,_ :: _,_,_=>rfl
  | _ :: _,[],_,h,_=>by cases h
  | _ :: _,_ :: _,[],_,h=>by cases h
  | x :: a,y :: b,z :: c,h1,h2=>by
    have h1:HT.lexLt (x :: a) (y :: b) = true:=h1
    have h2:HT.lexLt (y :: b) (z :: c) = true:=h2
    show HT.lexLt (x :: a) (z :: c) = true
    rw [HT.lexLt_cons] at h1 h2 ⊢
    by_cases e1:x = y
    · rw [if_pos e1] at h1
      by_cases e2:y = z
      · rw [if_pos e2] at h2
        rw [if_pos (e1.trans e2)]
        exact lex_trans h1 h2
      · rw [if_neg e2] at h2
        rw [if_neg (by omega)]
        have:=of_decide_eq_true h2
        exact decide_eq_true (by omega)
    · rw [if_neg e1] at h1
      have q1:=of_decide_eq_true h1
      by_cases e2:y = z
      · rw [if_neg (by omega)]
        exact decide_eq_true (by omega)
      · rw [if_neg e2] at h2
        have q2:=of_decide_eq_true h2
        rw [if_neg (by omega)]
        exact decide_eq_true (by omega)
theorem lex_total:∀ {a b:List Int},lexLt a b = false->lexLt b a = false->a = b
  | [],[],_,_=>rfl
  | [],_ :: _,h,_=>by cases h
  | _ :: _,[],_,h=>by cases h
  | x :: a,y :: b,h1,h2=>by
    have h1:HT.lexLt (x :: a) (y :: b) = false:=h1
    have h2:HT.lexLt (y :: b) (x :: a) = false:=h2
    rw [HT.lexLt_cons] at h1 h2
    by_cases e:x = y
    · rw [if_pos e] at h1
      rw [if_pos e.symm] at h2
      rw [e,lex_total h1 h2]
    · rw [if_neg e] at h1
      rw [if_neg (fun z=>e z.symm)] at h2
      have:=of_decide_eq_false h1
      have:=of_decide_eq_false h2
      omega
noncomputable def lexLe (a b:List Int):Bool:=!lexLt b a
theorem lexLe_trans (a b c:List Int) (h1:lexLe a b = true) (h2:lexLe b c = true):lexLe a c = true:=by
  unfold lexLe at *
  rw [Bool.not_eq_true'] at *
  cases e:lexLt c a with
  | false=>rfl
  | true =>
    cases e1:lexLt a b with
    | true=>rw [lex_trans e e1] at h2; cases h2
    | false =>
      have:=lex_total e1 h1
      subst this
      rw [e] at h2; cases h2
theorem lexLe_total (a b:List Int):(lexLe a b || lexLe b a) = true:=by
  unfold lexLe
  cases e1:lexLt b a with
  | false=>rfl
  | true =>
    cases e2:lexLt a b with
    | false=>rfl
    | true=>have:=lex_trans e1 e2; rw [lex_irrefl] at this; cases this
theorem lexLe_anti {a b:List Int} (h1:lexLe a b = true) (h2:lexLe b a = true):a = b:=by
  unfold lexLe at *
  rw [Bool.not_eq_true'] at *
  exact lex_total h2 h1
theorem sorted_eq {α:Type} {le:α->α->Bool} (anti:∀ a b,le a b = true->le b a = true->a = b):∀ {l m:List α},l.Perm m->l.Pairwise (fun a b=>le a b = true)->m.Pairwise (fun a b=>le a b = true)->l = m
  | [],m,p,_,_=>p.nil_eq
  | a :: l,[],p,_,_=>by have:=p.length_eq; simp at this
  | a :: l,b :: m,p,h1,h2=>by
    obtain ⟨h1a,h1b⟩:=List.pairwise_cons.mp h1
    obtain ⟨h2a,h2b⟩:=List.pairwise_cons.mp h2
    have e:a = b:=by
      have ha:a ∈ b :: m:=p.mem_iff.mp List.mem_cons_self
      have hb:b ∈ a :: l:=p.mem_iff.mpr List.mem_cons_self
      rcases List.mem_cons.mp ha with e | ha
      · exact e
      · rcases List.mem_cons.mp hb with e | hb
        · exact e.symm
        · exact anti a b (h1a b hb) (h2a a ha)
    subst e
    rw [sorted_eq anti (List.perm_cons a |>.mp p) h1b h2b]
noncomputable def srt (l:List (List Int)):List (List Int):=l.mergeSort lexLe
theorem srt_perm (l:List (List Int)):(srt l).Perm l:=List.mergeSort_perm l lexLe
theorem srt_up (l:List (List Int)):(srt l).Pairwise (fun a b=>lexLe a b = true):=List.pairwise_mergeSort lexLe_trans lexLe_total l
theorem srt_of {l m:List (List Int)} (p:l.Perm m) (h:l.Pairwise (fun a b=>lexLe a b = true)):l = srt m:=sorted_eq (fun _ _=>lexLe_anti) (p.trans (srt_perm m).symm) h (srt_up m)
noncomputable def rk (l:List (List Int)) (a:List Int):Int:=((l.countP fun b=>lexLt b a:Nat):Int)
theorem rk_lt {l:List (List Int)} {a b:List Int} (ha:a ∈ l):lexLt a b = decide (rk l a < rk l b):=by
  unfold rk
  have mono:∀ {a b:List Int},lexLt a b = true->(l.countP fun c=>lexLt c a)<=l.countP fun c=>lexLt c b:=fun {a b} h=>List.countP_mono_left fun c _ hc=>lex_trans hc h
  have strict:∀ {a b:List Int} (ha:a ∈ l),lexLt a b = true->(l.countP fun c=>lexLt c a) < l.countP fun c=>lexLt c b:=fun {a b} ha h=>by
    have key:∀ m:List (List Int),a ∈ m->(m.countP fun c=>lexLt c a) < m.countP fun c=>lexLt c b:=fun m hm=>by
      induction m with
      | nil=>cases hm
      | cons x m ih =>
        rw [List.countP_cons,List.countP_cons]
        have mo:(m.countP fun c=>lexLt c a)<=m.countP fun c=>lexLt c b:=List.countP_mono_left fun c _ hc=>lex_trans hc h
        rcases List.mem_cons.mp hm with e | hm
        · subst e
          rw [lex_irrefl,h]
          simp only [Bool.false_eq_true,if_false,if_true]
          omega
        · have:=ih hm
          by_cases hx:lexLt x a = true
          · rw [hx,lex_trans hx h]; simp only [if_true]; omega
          · have hx':lexLt x a = false:=by simpa using hx
            rw [hx']
            simp only [Bool.false_eq_true,if_false]
            split <;> omega
    exact key l ha
  cases e:lexLt a b with
  | true=>exact (decide_eq_true (by have:=strict ha e; omega)).symm
  | false =>
    refine (decide_eq_false ?_).symm
    cases e2:lexLt b a with
    | true=>have:=mono e2; omega
    | false=>rw [lex_total e e2]; omega
end Dl
namespace Dl
open PySem L2 PySem.Spec PyProof.Rows
section
variable {prog:Program} {w:World} {A:Around} {E:Value->Shared->Prop} {s:Shared}
theorem lex_loop {Q:Bool->Shared->Prop}:∀ {us ws:List Value} {ns ms:List Int} (i:Nat),IntsAre us ns->IntsAre ws ms->Q (lexLt ns ms) s->PySem.W.KatLex prog w A true (decide (ns.length < ms.length)) Q (us.zip ws) i s
  | [],[],_,_,i,.nil,.nil,h=>h
  | [],_ :: _,_,_,i,.nil,.cons _ _ _,h=>by
    show Q (decide (0 < _ + 1)) s
    rw [decide_eq_true (Nat.succ_pos _)]
    exact h
  | _ :: _,[],_,_,i,.cons _ _ _,.nil,h=>by
    show Q (decide (_ + 1 < 0)) s
    rw [decide_eq_false (Nat.not_lt_zero _)]
    exact h
  | _ :: us,_ :: ws,_,_,i,.cons n t r1,.cons m u r2,h=>by
    have h:Q (HT.lexLt (n :: _) (m :: _)) s:=h
    rw [HT.lexLt_cons] at h
    refine PySem.W.kat_cons (SeqAt.EqAt.int_int n t m u prog w _ _ ?_)
    cases e:(n == m) with
    | true =>
      have e':n = m:=eq_of_beq e
      rw [if_pos e'] at h
      refine PySem.W.kat_yes ?_
      have:=lex_loop (i + 1) r1 r2 h
      simp only [List.length_cons,Nat.add_lt_add_iff_right]
      exact this
    | false =>
      have e':¬ n = m:=fun q=>by rw [q] at e; simp at e
      rw [if_neg e'] at h
      refine PySem.W.kat_no ?_
      by_cases hi:(true && i == 0) = true
      · rw [hi]
        exact oneLt_int h
      · have hi':(true && i == 0) = false:=by simpa using hi
        rw [hi']
        refine PySem.W.kat_one _ _ (lt_int ?_)
        exact h
end
noncomputable def rowD (ns:List Int):D:=.tuple (ns.map PyData.int)
noncomputable def intsOf:List D->Option (List Int)
  | []=>some []
  | .int n :: r=>(intsOf r).map (n :: ·)
  | _ :: _=>none
theorem intsOf_some:∀ {ds:List D} {ns:List Int},intsOf ds = some ns->ds = ns.map PyData.int
  | [],ns,h=>by cases h; rfl
  | d :: r,ns,h=>by
    cases d <;> simp only [intsOf] at h <;> try cases h
    obtain ⟨ns',h1,rfl⟩:=map_some h
    rw [intsOf_some h1]
    rfl
theorem intsOf_map:∀ ns:List Int,intsOf (ns.map PyData.int) = some ns
  | []=>rfl
  | n :: ns=>by simp [intsOf,intsOf_map ns]
noncomputable def rowOf:D->Option (List Int) | .tuple ds=>(intsOf ds).bind fun ns=>if ns = [] then none else some ns | _=>none
theorem rowOf_some {d:D} {ns:List Int} (h:rowOf d = some ns):d = rowD ns/\ns ≠ []:=by
  cases d <;> try cases h
  obtain ⟨ms,h1,h2⟩:=bs h
  split at h2
  · cases h2
  · rename_i hn
    cases h2
    rw [intsOf_some h1]
    exact ⟨rfl,hn⟩
theorem rowOf_row {ns:List Int} (h:ns ≠ []):rowOf (rowD ns) = some ns:=by
  unfold rowD rowOf
  simp only [intsOf_map,Option.bind_some]
  rw [if_neg h]
noncomputable def rowsOf:List D->Option (List (List Int))
  | []=>some []
  | d :: r=>(rowOf d).bind fun ns=>(rowsOf r).map (ns :: ·)
theorem rowsOf_some:∀ {ds:List D} {nss:List (List Int)},rowsOf ds = some nss->ds = nss.map rowD/\∀ ns ∈ nss,ns ≠ []
  | [],nss,h=>by cases h; exact ⟨rfl,fun _ z=>by cases z⟩
  | d :: r,nss,h=>by
    obtain ⟨ns,h1,h⟩:=bs h
    obtain ⟨rest,h2,rfl⟩:=map_some h
    obtain ⟨e,hn⟩:=rowOf_some h1
    obtain ⟨e2,hn2⟩:=rowsOf_some h2
    refine ⟨by rw [e,e2]; rfl,fun m hm=>?_⟩
    rcases List.mem_cons.mp hm with q | q
    · subst q; exact hn
    · exact hn2 m q
theorem rowsOf_map:∀ {nss:List (List Int)},(∀ ns ∈ nss,ns ≠ [])->rowsOf (nss.map rowD) = some nss
  | [],_=>rfl
  | ns :: r,h=>by
    simp only [List.map_cons,rowsOf,rowOf_row (h ns List.mem_cons_self),Option.bind_some,rowsOf_map fun m hm=>h m (List.mem_cons_of_mem _ hm),Option.map_some]
structure RowV (h:Heap) (v:Value) (ns:List Int):Prop where
  ex:∃ (a:Addr) (o:Obj) (its:Array Value) (n:Nat),v = .ref a/\h.get? a = some o/\o.cls = .type "tuple"/\o.data = .seq its n/\IntsAre its.toList ns
theorem RowV.keep {h h':Heap} {v:Value} {ns:List Int} (r:RowV h v ns) (k:∀ b o,h.get? b = some o->h'.get? b = some o):RowV h' v ns:=let ⟨a,o,its,n,e,e1,e2,e3,e4⟩:=r.ex; ⟨a,o,its,n,e,k _ _ e1,e2,e3,e4⟩
section
variable {prog:Program} {w:World} {A:Around} {E:Value->Shared->Prop} {s:Shared}
theorem kat_tups {h:Heap}:∀ {vs:List Value} {nss:List (List Int)},Paired (RowV h) vs nss->(∀ ns ∈ nss,ns ≠ [])->∃ fs:List Value,PySem.W.KatTups h vs fs/\fs.length = vs.length/\∀ f ∈ fs,∃ n t,f = Value.int n t
  | _,_,.nil,_=>⟨[],trivial,rfl,fun _ z=>by cases z⟩
  | _,_,.cons (a:=v) (b:=ns) r p,hn=>by
    obtain ⟨fs,h1,h2,h3⟩:=kat_tups p fun m hm=>hn m (List.mem_cons_of_mem _ hm)
    obtain ⟨a,o,its,n,rfl,e1,e2,e3,e4⟩:=r.ex
    cases hits:its.toList with
    | nil =>
      rw [hits] at e4
      cases e4
      exact absurd rfl (hn [] List.mem_cons_self)
    | cons f rest =>
      rw [hits] at e4
      cases e4 with
      | cons m t e5 =>
        have h0:its[0]? = some (.int m t):=by
          have:its.toList[0]? = some (Value.int m t):=by rw [hits]; rfl
          simpa using this
        exact ⟨.int m t :: fs,PySem.W.KatTups.cons e1 e2 e3 h0 h1,by simp [h2],fun g hg=>by
          rcases List.mem_cons.mp hg with q | q
          · exact ⟨m,t,q⟩
          · exact h3 g q⟩
theorem paired_get {α β:Type} {R:α->β->Prop} {d:α} {d':β}:∀ {l:List α} {m:List β} {i:Nat},Paired R l m->i < l.length->R (l.getD i d) (m.getD i d')
  | _,_,i,.nil,h=>by simp at h
  | _,_,0,.cons r _,_=>r
  | _,_,i + 1,.cons _ p,h=>by simpa using paired_get (i:=i) (d:=d) (d':=d') p (by simpa using h)
theorem sorted_rows {l:Addr} {vs:List Value} {nss:List (List Int)} {Q:Value->Shared->Prop} (hl:s.heap.IsList l vs.toArray) (hp:Paired (RowV s.heap) vs nss) (hn:∀ ns ∈ nss,ns ≠ []) (h64:vs.length < 64)
    (h:∀ (h':Heap) (D:Addr) (c:Nat),(∀ b o,s.heap.get? b = some o->h'.get? b = some o)->s.heap.objs.size<=D->h'.get? D = some (seqObj "list" (Srt.outV (fun i=>rk nss (nss.getD i [])) vs).toArray c)->Q (.ref D) { s with heap:=h' }) :
    wpAny (model prog w) A (call (.builtin "sorted") [.ref l]) Q E s:=by
  refine Srt.sortedG hl h64 (fun i=>rk nss (nss.getD i [])) (tuples' true) (fun h2 h' kp Q' q=>?_) (fun h2 h' kp i j C hi hj q=>?_) h
  · have hp':Paired (RowV h') vs nss:=Paired.mapP hp fun _ _ r=>r.keep kp
    obtain ⟨fs,t,hlen,hf⟩:=kat_tups hp' hn
    refine PySem.W.kat_kind (s:={ s with heap:=h' }) (T:=.type "int") t (by omega) (fun v hv=>?_) (by decide) q
    obtain ⟨n,t,rfl⟩:=hf v hv
    exact PySem.W.Looks.of_pure rfl
  · have ri:=(paired_get (d:=Value.none) (d':=[]) hp hi).keep kp
    have rj:=(paired_get (d:=Value.none) (d':=[]) hp hj).keep kp
    have hlen:=hp.length
    obtain ⟨a,o,its,n,ea,e1,e2,e3,e4⟩:=ri.ex
    obtain ⟨b,o',its',n',eb,f1,f2,f3,f4⟩:=rj.ex
    unfold PySem.W.kas_ask
    rw [ea,eb]
    have hmem:nss.getD i [] ∈ nss:=by
      rw [List.getD_eq_getElem?_getD,List.getElem?_eq_getElem (by omega)]
      exact List.getElem_mem _
    have q':C (lexLt (nss.getD i []) (nss.getD j [])) { s with heap:=h' }:=by
      rw [rk_lt hmem]
      exact q
    refine PySem.W.kat_lt (s:={ s with heap:=h' }) e1 e3 f1 f3 ?_
    have:=lex_loop (prog:=prog) (w:=w) (A:=A.in1.in1) (s:={ s with heap:=h' }) 0 e4 f4 q'
    have l1:its.size = (nss.getD i []).length:=by have:=IntsAre.length e4; simpa using this
    have l2:its'.size = (nss.getD j []).length:=by have:=IntsAre.length f4; simpa using this
    rw [l1,l2]
    exact this
end
end Dl
namespace Dl
open PySem L2 PySem.Spec PyProof.Rows
noncomputable def byP {α:Type} (z:Nat->Int) (l:List α) (d:α):List α:=if l.length < 2 then l else (SP.run (SP.ltz z) (PySem.W.kas_sort l.length)).toList.map fun i=>l.getD i d
theorem map_getD_range {α:Type} (l:List α) (d:α):(List.range l.length).map (fun i=>l.getD i d) = l:=by
  apply List.ext_getElem
  · simp
  · intro i h1 h2
    simp [h2]
theorem byP_perm {α:Type} (z:Nat->Int) (l:List α) (d:α):(byP z l d).Perm l:=by
  unfold byP
  split
  · exact List.Perm.refl _
  · rename_i h
    have:=((SP.sort_ok (z:=z) (n:=l.length) (by omega)).1).map fun i=>l.getD i d
    rw [map_getD_range] at this
    exact this
theorem byP_srt (nss:List (List Int)):byP (fun i=>rk nss (nss.getD i [])) nss [] = srt nss:=by
  refine srt_of (byP_perm _ _ _) ?_
  unfold byP
  split
  · rename_i h
    match nss,h with
    | [],_=>exact List.Pairwise.nil
    | [a],_=>exact List.pairwise_singleton _ _
  · rename_i h
    obtain ⟨hp,hs⟩:=SP.sort_ok (z:=fun i=>rk nss (nss.getD i [])) (n:=nss.length) (by omega)
    rw [List.pairwise_map] at hs ⊢
    refine hs.imp_of_mem fun {i j} hi hj hij=>?_
    have hj':j < nss.length:=by have:=hp.mem_iff.mp hj; simpa using this
    unfold lexLe
    rw [rk_lt (l:=nss) (a:=nss.getD j []) (by rw [List.getD_eq_getElem?_getD,List.getElem?_eq_getElem hj']; exact List.getElem_mem _)]
    simp only [Bool.not_eq_true',decide_eq_false_iff_not]
    omega
section
variable {X:Cx}
theorem reps_byP {K:PySem.W.Frag} {HF:Hp} {ds:List D} {vs:List V} (z:Nat->Int) (r:Reps K HF ds vs):Reps K HF (byP z ds .none) (byP z vs .non):=by
  unfold byP
  rw [r.length]
  split
  · exact r
  · rename_i h
    obtain ⟨hp,_⟩:=SP.sort_ok (z:=z) (n:=ds.length) (by omega)
    have key:∀ l:List Nat,(∀ i ∈ l,i < ds.length)->Reps K HF (l.map fun i=>ds.getD i .none) (l.map fun i=>vs.getD i .non):=fun l=>by
      induction l with
      | nil=>exact fun _=>Reps.nil
      | cons i l ih =>
        intro hl
        have hi:=hl i List.mem_cons_self
        obtain ⟨v,e1,e2⟩:=r.getD (List.getElem?_eq_getElem hi)
        refine Reps.cons ?_ (ih fun j hj=>hl j (List.mem_cons_of_mem _ hj))
        dsimp only
        rw [List.getD_eq_getElem?_getD,List.getD_eq_getElem?_getD,e1,List.getElem?_eq_getElem hi]
        exact e2
    exact key _ fun i hi=>by have:=hp.mem_iff.mp hi; simpa using this
theorem vals_byP {vs:List V} {us:List Value} (z:Nat->Int) (r:Vals vs us):Vals (byP z vs .non) (Srt.outV z us):=by
  unfold byP Srt.outV
  rw [r.length]
  split
  · exact r
  · rename_i h
    obtain ⟨hp,_⟩:=SP.sort_ok (z:=z) (n:=us.length) (by omega)
    have key:∀ l:List Nat,(∀ i ∈ l,i < vs.length)->Vals (l.map fun i=>vs.getD i .non) (l.map fun i=>us.getD i Value.none):=fun l=>by
      induction l with
      | nil=>exact fun _=>.nil
      | cons i l ih =>
        intro hl
        have hi:=hl i List.mem_cons_self
        obtain ⟨v,e1,e2⟩:=r.get (List.getElem?_eq_getElem hi)
        refine .cons ?_ (ih fun j hj=>hl j (List.mem_cons_of_mem _ hj))
        dsimp only
        rw [List.getD_eq_getElem?_getD,List.getD_eq_getElem?_getD,e1,List.getElem?_eq_getElem hi]
        exact e2
    exact key _ fun i hi=>by have:=hp.mem_iff.mp hi; rw [r.length]; simpa using this
theorem byP_map (z:Nat->Int) (nss:List (List Int)):byP z (nss.map rowD) .none = (byP z nss []).map rowD:=by
  unfold byP
  rw [List.length_map]
  split
  · rfl
  · rename_i h
    rw [List.map_map]
    obtain ⟨hp,_⟩:=SP.sort_ok (z:=z) (n:=nss.length) (by omega)
    refine List.map_congr_left fun i hi=>?_
    have hi':i < nss.length:=by have:=hp.mem_iff.mp hi; simpa using this
    simp [hi']
theorem rows_at {pins:List (Addr × Obj)} {σ:L2.St} {H HF:Hp} {s:Shared} (I:Inv X pins σ H s) (sm:Same HF H):∀ {nss:List (List Int)} {vs:List V} {us:List Value},Reps X.K HF (nss.map rowD) vs->Vals vs us->Paired (RowV s.heap) us nss
  | [],_,_,h,r=>by rw [h.nil_inv] at r; cases r; exact .nil
  | ns :: nss,_,_,h,r=>by
    obtain ⟨v,vr,rfl,a,b⟩:=h.cons_inv
    cases r with
    | cons r rr =>
      refine .cons ?_ (rows_at I sm b rr)
      unfold rowD at a
      simp only [Rep] at a
      obtain ⟨p,ws,rfl,hs,rw'⟩:=a
      cases r
      obtain ⟨its,rv,⟨o,ho,hc,n,hd⟩,_⟩:=I.tuple (same_tup sm hs)
      have:ws = ns.map V.int:=by
        have key:∀ {ns:List Int} {ws:List V},Reps X.K HF (ns.map PyData.int) ws->ws = ns.map V.int:=fun {ns}=>by
          induction ns with
          | nil=>exact fun h=>h.nil_inv
          | cons n ns ih =>
            intro ws h
            obtain ⟨v,r,rfl,a,b⟩:=h.cons_inv
            simp only [Rep] at a
            rw [a,ih b]
            rfl
        exact key rw'
      subst this
      exact ⟨p,o,its.toArray,n,rfl,ho,hc,hd,intsAre_of rv⟩
theorem call_sorted_rows:CallR X (.builtin "sorted") (fun xs H Q=>∃ (HF:Hp) (a:Addr) (vs:List V) (nss:List (List Int)),xs = [.ref a]/\Same HF H/\SqL X.K HF a vs/\Reps X.K HF (nss.map rowD) vs/\(∀ ns ∈ nss,ns ≠ [])/\nss.length < 64 /\
    ∀ (Dn:Addr) (us:List V),H Dn = none->Reps X.K HF ((srt nss).map rowD) us->Q (.ref Dn) (upd H Dn (.lst us))):=by
  intro pins s σ H xs us Q I r h
  obtain ⟨HF,a,vs,nss,rfl,sm,hq,rr,hn,h64,q⟩:=h
  obtain ⟨u,rfl,rx⟩:=vals1 r
  cases rx
  obtain ⟨its,rv,pl,hz⟩:=I.list (sm.seq hq)
  have hl1:=rr.length
  rw [List.length_map] at hl1
  refine sorted_rows pl.isList (rows_at I sm rr rv) hn (by have:=rv.length; omega) fun h' Dn c kp hD e=>?_
  have hv:=vals_byP (fun i=>rk nss (nss.getD i [])) rv
  have hr:=reps_byP (fun i=>rk nss (nss.getD i [])) rr
  rw [byP_map,byP_srt] at hr
  refine ⟨.ref Dn,_,I.laid (t':=s.toks) (o:=.lst (byP (fun i=>rk nss (nss.getD i [])) vs .non)) kp hD ⟨?_,_,c,hv,e⟩,rfl,q Dn _ (I.hok.fresh hD) hr⟩
  rw [(byP_perm _ _ _).length_eq]
  exact hz
noncomputable def gSorted:List D->Option (List D):=fun ds=>(oneOf ds).bind fun d=>match d with
  | .list es=>(rowsOf es).bind fun nss=>if nss.length < 64 then some ((srt nss).map rowD) else none
  | _=>none
variable {e:Expr} {fs:Env->Option (List D)} {p pos:Pos}
theorem df_sorted (B:Blt X "sorted" (.builtin "sorted")) (ha:DA X [e] fs) (he:starEach [e] X.env = (false,eval e X.env) :: starEach [] X.env:=by rfl):DF X (.Call (.Name "sorted" p) [e] [] pos) (fCBF gSorted fs) :=
  df_callB call_sorted_rows (by
    intro HF H ds vs d Q sm r hg q
    obtain ⟨x,hx,hg⟩:=bs hg
    rw [oneOf_some hx] at r
    cases x <;> try cases hg
    obtain ⟨nss,hb,hg⟩:=bs hg
    split at hg
    · rename_i h64
      cases hg
      obtain ⟨v,r',rfl,a,b⟩:=r.cons_inv
      rw [b.nil_inv]
      simp only [Rep] at a
      obtain ⟨p,us,rfl,h,rr⟩:=a
      obtain ⟨e1,e2⟩:=rowsOf_some hb
      rw [e1] at rr
      exact ⟨HF,p,us,nss,rfl,sm,h,rr,e2,h64,fun Dn ws hD hr=>q Dn ws _ HF (.own sm hD) hD (sm.free hD) upd_same hr⟩
    · cases hg) B ha (by decide) (by decide) he rfl
end
end Dl
namespace En
open PySem PyProof.Rows
open AutoSeq1 (wpAny_loadPart')
section
variable {prog:Program} {w:World} {A:Around} {E:Value->Shared->Prop} {s:Shared}
theorem nextT_item {j t:Addr} {k:Nat} {its:Array Value} {v:Value} {Q:Value->Shared->Prop} (hj:s.heap.IsTupleIter j t k) (ht:s.heap.IsTuple t its) (hv:its[k]? = some v)
    (hQ:∀ g,g.IsTupleIter j t (k + 1)->Heap.SameBut j s.heap g->Q v { s with heap:=g }):wpAny (model prog w) A (Builtin.SmallTypes.nextOf (.ref j)) Q E s:=by
  obtain ⟨oj,gj,cj,dj⟩:=id hj
  obtain ⟨ot,gt,_,nt,dt⟩:=ht
  unfold Builtin.SmallTypes.nextOf
  refine wpAny_bind (wpAny_callSpecial?_slot (name:=Str.ofString "__next__") hj.typeIs F.slot_tuple_iterator_next (wpAny_call_entry F.slot_tuple_iterator_next hj.typeIs F.entry_tuple_iterator_next ?_ (F.args_tuple_iterator_next_1 _)))
  refine wpAny_bind (m:=field (.ref j) 0) (wpAny_field gj dj (x:=.ref t) rfl ?_)
  show wpAny _ _ (if (Value.ref t == Value.none) = true then _ else _) _ _ s
  rw [if_neg (show ¬ ((Value.ref t == Value.none) = true) by exact Bool.false_ne_true)]
  refine wpAny_bind (m:=field (.ref j) 1) (wpAny_field gj dj (x:=.int k 0) rfl ?_)
  refine wpAny_bind (m:=seqItems? (.ref t)) (wpAny_seqItems gt dt ?_)
  simp only [Int.toNat_natCast,hv]
  refine wpAny_bind (wpAny_setField gj dj (by simp) (wpAny_pure ⟨v,rfl,wpAny_pure (hQ _ ⟨_,Heap.get?_update_self _ gj (Obj.isFreed_of_fields (Obj.data_mapFields dj _)),(Obj.cls_mapFields ..).trans cj,?_⟩ (Heap.SameBut.update ..))⟩))
  rw [Obj.data_mapFields dj]; simp [rawInt]
theorem nextT_end {j t:Addr} {k:Nat} {its:Array Value} {Q:Value->Shared->Prop} (hh:A.handled = none) (hj:s.heap.IsTupleIter j t k) (ht:s.heap.IsTuple t its) (hv:its[k]? = none)
    (hE:∀ g x,Heap.ExtBut j s.heap g->(∃ o,g.get? x = some o/\o.cls = .type "StopIteration")->E (.ref x) { s with heap:=g }):wpAny (model prog w) A (Builtin.SmallTypes.nextOf (.ref j)) Q E s:=by
  obtain ⟨oj,gj,cj,dj⟩:=id hj
  obtain ⟨ot,gt,_,nt,dt⟩:=ht
  unfold Builtin.SmallTypes.nextOf
  refine wpAny_bind (wpAny_callSpecial?_slot (name:=Str.ofString "__next__") hj.typeIs F.slot_tuple_iterator_next (wpAny_call_entry F.slot_tuple_iterator_next hj.typeIs F.entry_tuple_iterator_next ?_ (F.args_tuple_iterator_next_1 _)))
  refine wpAny_bind (m:=field (.ref j) 0) (wpAny_field gj dj (x:=.ref t) rfl ?_)
  show wpAny _ _ (if (Value.ref t == Value.none) = true then _ else _) _ _ s
  rw [if_neg (show ¬ ((Value.ref t == Value.none) = true) by exact Bool.false_ne_true)]
  refine wpAny_bind (m:=field (.ref j) 1) (wpAny_field gj dj (x:=.int k 0) rfl ?_)
  refine wpAny_bind (m:=seqItems? (.ref t)) (wpAny_seqItems gt dt ?_)
  simp only [Int.toNat_natCast,hv]
  refine wpAny_bind (wpAny_rule (wpAny_bind (wpAny_setField gj dj (by simp) (wpAny_bind (m:=newExc (.type "StopIteration") []) ?_))))
  simp only [newExc,newTuple]
  refine wpAny_bind (wpAny_newObj_type (wpAny_bind (m:=firstArgMember _ _) (wpAny_of_eq (a:=Value.none) (by first | rfl | (simp only [firstArgMember]; rfl)) ?_)) (by size_fits))
  refine wpAny_newObj_type ?_ (by size_fits); simp only [raiseNew]
  refine wpAny_bind (wpAny_handled ?_)
  first | rw [show A.in1.handled = none from hh] | rw [hh]
  exact wpAny_bind (wpAny_pure (wpAny_throw (hE _ _ (((Heap.SameBut.update ..).extBut.push _).push _) ⟨_,Heap.get?_push_size _ rfl,rfl⟩)))
theorem meets_enumT (t:Addr) (its:Array Value) (n:Nat) (dd:Option Addr) (sl:Array (Option Value)) :
    Meets (Builtin.«enumerate.__new__» ⟨[.type "enumerate",.ref t],[]⟩) (fun _ R s=>s.heap.get? t = some { cls:=.type "tuple",dict:=dd,data:=.seq its n,slots:=sl } /\
      R (.ok (.ret (.ref (s.heap.push { cls:=.type "tuple_iterator",data:=.fields #[.ref t,.int 0 0] }).objs.size)))
        { s with heap:=(s.heap.push { cls:=.type "tuple_iterator",data:=.fields #[.ref t,.int 0 0] }).push { cls:=.type "enumerate",data:=.fields #[.none,.bool false,.ref s.heap.objs.size,rawInt 0,.none,.none] } }) :=
  .of_wp fun prog w A R s h=>by
    obtain ⟨hp,g,d,tk,os⟩:=s
    obtain ⟨hl,h⟩:=h
    have hsub:=sub_enumerate
    have hL:Heap.IsTuple (Shared.heap ⟨hp,g,d,tk,os⟩) t its:=⟨_,hl,rfl,n,rfl⟩
    wp_walk using wpAny_loadPart' hl
    refine wpAny_stack_any fun st=>wpAny_pure ?_
    split
    · rename_i c _ _ _ _ _
      cases (c == Value.type "enumerate")
      · wp_walk using wpAny_loadPart' hl,wpAny_pyIter_tuple hL
        exact ⟨_,rfl,h⟩
      · wp_walk using wpAny_loadPart' hl,wpAny_pyIter_tuple hL
        exact ⟨_,rfl,h⟩
    · wp_walk using wpAny_loadPart' hl,wpAny_pyIter_tuple hL
      exact ⟨_,rfl,h⟩
theorem call_enumT {t:Addr} {its:Array Value} {Q:Value->Shared->Prop} (ht:s.heap.IsTuple t its)
    (h:∀ h',IsEnum h' (s.heap.objs.size + 1) s.heap.objs.size 0 .none->h'.IsTupleIter s.heap.objs.size t 0->h'.objs.size = s.heap.objs.size + 2->(∀ b o,s.heap.get? b = some o->h'.get? b = some o)->Q (.ref (s.heap.objs.size + 1)) { s with heap:=h' }) :
    wpAny (model prog w) A (call (.type "enumerate") [.ref t]) Q E s:=by
  obtain ⟨⟨c,dct,dt,sl⟩,hl,hc,n,hd⟩:=ht
  simp only at hc hd
  subst hc hd
  refine callType_new F.called_enumerate (by decide) (F.typeCall_enumerate_1 _) (F.newCall_enumerate_1 _) (fun obj=>F.args_object_init_2 obj _) F.entry_enumerate_new (meets_enumT t its n dct sl) ⟨hl,?_⟩
  have hz:(s.heap.push { cls:=.type "tuple_iterator",data:=.fields #[.ref t,.int 0 0] }).objs.size = s.heap.objs.size + 1:=by rw [Heap.size_push]
  have he:=Heap.get?_push_size (s.heap.push { cls:=.type "tuple_iterator",data:=.fields #[.ref t,.int 0 0] }) (o:={ cls:=.type "enumerate",data:=.fields #[.none,.bool false,.ref s.heap.objs.size,rawInt 0,.none,.none] }) rfl
  show _/\_
  rw [hz] at he ⊢
  refine ⟨⟨_,he,rfl⟩,h _ he ⟨_,Heap.get?_push_of_some _ (Heap.get?_push_size _ rfl),rfl,rfl⟩ ?_ fun b o x=>Heap.get?_push_of_some _ (Heap.get?_push_of_some _ x)⟩
  show (Heap.push _ _).objs.size = _
  rw [Heap.size_push,hz]
end
end En
namespace Dl
open PySem L2 PySem.Spec PyProof.Rows
section
variable {X:Cx} {pins:List (Addr × Obj)} {σ:L2.St} {H:Hp} {s:Shared} {h':Heap} {t':Nat} {ch:List Addr}
theorem turn_lay (I:Inv X pins σ H s) (hch:∀ b ∈ ch,FpOk X pins H b) (k:∀ b o,b ∉ ch->s.heap.get? b = some o->h'.get? b = some o) {T:Addr} {vals:List Value} {xs:List V} (hT:s.heap.objs.size<=T) (ht:TupD h' T vals.toArray)
    (rv:Vals xs vals) (hz:xs.length<=sizeLine):Inv X pins σ (upd H T (.tup xs)) { s with heap:=h',toks:=t' }:=by
  have nT:H T = none:=I.hok.fresh hT
  have ne:∀ b o,s.heap.get? b = some o->b ≠ T:=fun b o e=>Nat.ne_of_lt (Nat.lt_of_lt_of_le (Heap.lt_size e) hT)
  have ne2:∀ b o,H b = some o->b ≠ T:=fun b o e=>ne_of_none e nT
  have nch:∀ b o,H b = some o->b ∉ ch:=fun b o e z=>by rw [(hch b z).1] at e; cases e
  refine I.step (g':=s.gens) (d':=s.drawn) (ch:=ch) (fun b hb=>?_) (fun b o _ _ hc e _=>k b o hc e) (fun b o _ _ hc e _=>⟨o.slots,k b o hc e⟩) (fun b o _ e n=>by rw [upd_ne (ne b o e)]; exact n)
    (fun b o hc e=>⟨o,k b o hc e⟩) (fun b ys e=>by rw [upd_ne (ne2 b _ e)]; exact e) (fun b o u e=>by rw [upd_ne (ne2 b _ e)]; exact e) (.kept (fun b u ⟨q,z⟩ e=>k b u (nch b _ z) e) fun b u e _=>by rw [upd_ne (ne2 b _ e)]; exact e) (fun m hm=>?_) (fun b u e=>?_) I.bare
  · obtain ⟨f0,f1,f2,f3,f4,f5⟩:=hch b hb
    exact ⟨f3,f1,f4,f5⟩
  · obtain ⟨o,es,ep,ho,r⟩:=hm
    exact ⟨o,es,ep,k _ o (fun z=>(hch _ z).2.1 rfl) ho,r⟩
  · by_cases hb:b = T
    · subst hb
      rw [upd_same] at e
      cases e
      exact ⟨hz,vals,rv,ht⟩
    · rw [upd_ne hb] at e
      refine (I.hok b u e).stay (fun c v hc q=>k c v ?_ q) (fun _ q=>?_) fun c v q _=>?_
      · rcases hc with z | z
        · rw [z]; exact nch b u e
        · exact nch c _ z
      all_goals first
        | (rw [upd_ne (ne2 _ _ q)]; exact q)
        | exact q
theorem fp_k (I:Inv X pins σ H s) {a b:Addr} {o:Obj} (hf:FpOk X pins H b) (h:X.K.lookup a = some o):a ≠ b:=by
  rintro rfl
  have hb:=I.ok.mod.kin a o h
  rcases hf.2.2.2.1 with z | z
  · exact I.ok.noex a o hb z
  · exact absurd (Nat.lt_of_lt_of_le (Heap.lt_size (I.ok.bs a o hb).1) z) (Nat.lt_irrefl _)
theorem fp_neL (I:Inv X pins σ H s) {a b:Addr} {xs:List V} (hf:FpOk X pins H b) (h:SqL X.K H a xs):a ≠ b:=by
  rcases h with (h | ⟨o,h⟩) | ⟨o,its,n,h,_⟩
  · exact ne_of_none h hf.1
  · exact ne_of_none h hf.1
  · exact fp_k I hf h
theorem fp_neT (I:Inv X pins σ H s) {a b:Addr} {xs:List V} (hf:FpOk X pins H b) (h:SqT X.K H a xs):a ≠ b:=by
  rcases h with (h | ⟨o,h⟩) | ⟨o,its,n,h,_⟩
  · exact ne_of_none h hf.1
  · exact ne_of_none h hf.1
  · exact fp_k I hf h
end
noncomputable def Ite (sq:Hp->List V->Prop):It:=⟨fun i H=>∃ xs x,sq H xs/\xs[i]? = some x,fun i H v H'=>∃ T y,v = .ref T/\H T = none/\H' = upd H T (.tup [.int (i:Nat),y])/\∀ xs,sq H xs->xs[i]? = some y,fun i H=>∃ xs,sq H xs/\xs.length<=i⟩
noncomputable def enumD (k:Nat):List D->List D
  | []=>[]
  | d :: ds=>.tuple [.int (k:Nat),d] :: enumD (k + 1) ds
theorem enumD_get:∀ {ds:List D} {k i:Nat} {d:D},(enumD k ds)[i]? = some d->∃ x,ds[i]? = some x/\d = .tuple [.int ((k + i:Nat):Int),x]
  | [],k,i,d,h=>by simp [enumD] at h
  | x :: ds,k,0,d,h=>by simp [enumD] at h; exact ⟨x,rfl,h.symm⟩
  | x :: ds,k,i + 1,d,h=>by
    simp only [enumD,List.getElem?_cons_succ] at h
    obtain ⟨y,h1,h2⟩:=enumD_get h
    refine ⟨y,by simpa using h1,?_⟩
    rw [h2,show k + 1 + i = k + (i + 1) by omega]
theorem enumD_len:∀ (ds:List D) (k:Nat),(enumD k ds).length = ds.length
  | [],k=>rfl
  | x :: ds,k=>by simp [enumD,enumD_len ds (k + 1)]
theorem iter_enum {K:PySem.W.Frag} {HF:Hp} {sq:Hp->List V->Prop} {ds:List D} {vs:List V} (h:sq HF vs) (mo:∀ H H',Same H H'->sq H vs->sq H' vs) (r:Reps K HF ds vs):IterD K (Ite sq) HF (enumD 0 ds) where
  go:=fun i d H₁ HF₁ e s1 s2=>by
    obtain ⟨x,hx,rfl⟩:=enumD_get e
    rw [Nat.zero_add]
    obtain ⟨v,hv,rv⟩:=r.getD hx
    have q:=mo _ _ s2 (mo _ _ s1 h)
    refine ⟨⟨vs,v,q,hv⟩,fun y H₂ ⟨T,z,e1,hT,e2,hy⟩=>?_⟩
    have:=hy vs q
    rw [hv] at this
    cases this
    subst e1 e2
    exact ⟨_,.new s2 hT,rep_newtup (s2.free hT) (Reps.cons (by simp [Rep]) (Reps.cons (rv.mono s1) Reps.nil))⟩
  stop:=fun H₁ HF₁ s1 s2=>⟨vs,mo _ _ s2 (mo _ _ s1 h),by rw [enumD_len,r.length]; exact Nat.le_refl _⟩
end Dl
namespace Dl
open PySem L2 PySem.Spec PyProof.Rows
noncomputable def Itz (sq1 sq2:Hp->List V->Prop):It:=⟨fun i H=>∃ xs ys x y,sq1 H xs/\sq2 H ys/\xs[i]? = some x/\ys[i]? = some y,
  fun i H v H'=>∃ T x y,v = .ref T/\H T = none/\H' = upd H T (.tup [x,y])/\(∀ xs,sq1 H xs->xs[i]? = some x)/\∀ ys,sq2 H ys->ys[i]? = some y,
  fun i H=>∃ xs ys,sq1 H xs/\sq2 H ys/\(xs.length<=i\/ys.length<=i)⟩
section
variable {X:Cx} {pins:List (Addr × Obj)} {σ:L2.St} {H:Hp} {s:Shared} {h':Heap} {t':Nat} {ch:List Addr}
theorem turn_many (I:Inv X pins σ H s) (hch:∀ b ∈ ch,FpOk X pins H b) (k:∀ b o,b ∉ ch->s.heap.get? b = some o->h'.get? b = some o):Inv X pins σ H { s with heap:=h',toks:=t' }:=by
  have nch:∀ b o,H b = some o->b ∉ ch:=fun b o e z=>by rw [(hch b z).1] at e; cases e
  refine I.step (g':=s.gens) (d':=s.drawn) (ch:=ch) (fun b hb=>?_) (fun b o _ _ hc e _=>k b o hc e) (fun b o _ _ hc e _=>⟨o.slots,k b o hc e⟩) (fun b o _ e n=>n)
    (fun b o hc e=>⟨o,k b o hc e⟩) (fun b ys e=>e) (fun b o u e=>e) (.kept (fun b u ⟨q,z⟩ e=>k b u (nch b _ z) e) fun b u e _=>e) (fun m hm=>?_) (fun b u e=>?_) I.bare
  · obtain ⟨f0,f1,f2,f3,f4,f5⟩:=hch b hb
    exact ⟨f3,f1,f4,f5⟩
  · obtain ⟨o,es,ep,ho,r⟩:=hm
    exact ⟨o,es,ep,k _ o (fun z=>(hch _ z).2.1 rfl) ho,r⟩
  · refine (I.hok b u e).stay (fun c v hc q=>k c v ?_ q) (fun _ q=>q) fun c v q _=>q
    rcases hc with z | z
    · rw [z]; exact nch b u e
    · exact nch c _ z
end
structure ZAp (z TI TO i1 i2:Addr):Prop where
  a1:TI ≠ z
  a2:TO ≠ z
  a3:i1 ≠ z
  a4:i2 ≠ z
  a5:TI ≠ TO
  a6:TI ≠ i1
  a7:TI ≠ i2
  a8:TO ≠ i1
  a9:TO ≠ i2
  a0:i1 ≠ i2
section
variable {X:Cx} {l l':Expr} {fs:Env->Option (List D)} {elts:List Expr} {k:Nat} {pos p tp:Pos}
noncomputable def zipD:List D->List D->List D
  | x :: xs,y :: ys=>.tuple [x,y] :: zipD xs ys
  | _,_=>[]
theorem zipD_get:∀ {xs ys:List D} {i:Nat} {d:D},(zipD xs ys)[i]? = some d->∃ x y,xs[i]? = some x/\ys[i]? = some y/\d = .tuple [x,y]
  | [],_,i,d,h=>by simp [zipD] at h
  | _ :: _,[],i,d,h=>by simp [zipD] at h
  | x :: xs,y :: ys,0,d,h=>by simp [zipD] at h; exact ⟨x,y,rfl,rfl,h.symm⟩
  | x :: xs,y :: ys,i + 1,d,h=>by
    simp only [zipD,List.getElem?_cons_succ] at h
    obtain ⟨a,b,h1,h2,h3⟩:=zipD_get h
    exact ⟨a,b,by simpa using h1,by simpa using h2,h3⟩
theorem zipD_len:∀ (xs ys:List D),(zipD xs ys).length = min xs.length ys.length
  | [],_=>by simp [zipD]
  | _ :: _,[]=>by simp [zipD]
  | x :: xs,y :: ys=>by simp [zipD,zipD_len xs ys]
theorem iter_zip {K:PySem.W.Frag} {HF:Hp} {sq1 sq2:Hp->List V->Prop} {xs ys:List D} {vs us:List V} (h1:sq1 HF vs) (mo1:∀ H H',Same H H'->sq1 H vs->sq1 H' vs) (h2:sq2 HF us) (mo2:∀ H H',Same H H'->sq2 H us->sq2 H' us) (r1:Reps K HF xs vs) (r2:Reps K HF ys us) :
    IterD K (Itz sq1 sq2) HF (zipD xs ys) where
  go:=fun i d H₁ HF₁ e s1 s2=>by
    obtain ⟨x,y,hx,hy,rfl⟩:=zipD_get e
    obtain ⟨v,hv,rv⟩:=r1.getD hx
    obtain ⟨u,hu,ru⟩:=r2.getD hy
    have q1:=mo1 _ _ s2 (mo1 _ _ s1 h1)
    have q2:=mo2 _ _ s2 (mo2 _ _ s1 h2)
    refine ⟨⟨vs,us,v,u,q1,q2,hv,hu⟩,fun w H₂ ⟨T,a,b,e1,hT,e2,ha,hb⟩=>?_⟩
    have ea:=ha vs q1
    have eb:=hb us q2
    rw [hv] at ea
    rw [hu] at eb
    cases ea
    cases eb
    subst e1 e2
    exact ⟨_,.new s2 hT,rep_newtup (s2.free hT) (Reps.cons (rv.mono s1) (Reps.cons (ru.mono s1) Reps.nil))⟩
  stop:=fun H₁ HF₁ s1 s2=>⟨vs,us,mo1 _ _ s2 (mo1 _ _ s1 h1),mo2 _ _ s2 (mo2 _ _ s1 h2),by rw [zipD_len,r1.length,r2.length]; omega⟩
end
end Dl
namespace Dl
open PySem L2 PySem.Spec PyProof.Rows
noncomputable def cut {α:Type} (xs:List α) (lo hi:Option Int):List α:=(xs.drop (HT.sIx xs.length 0 lo)).take (HT.sIx xs.length xs.length hi - HT.sIx xs.length 0 lo)
theorem cut_len {α:Type} (xs:List α) (lo hi:Option Int):(cut xs lo hi).length<=xs.length:=by
  unfold cut; rw [List.length_take,List.length_drop]; omega
theorem reps_cut {K:PySem.W.Frag} {H:Hp} {ds:List D} {vs:List V} (r:Reps K H ds vs) (lo hi:Option Int):Reps K H (cut ds lo hi) (cut vs lo hi):=by
  unfold cut; rw [r.length]; exact (r.drop _).take _
section
variable {X:Cx}
theorem whole_get {prog:Program} {w:World} {A:Around} {E:Value->Shared->Prop} {s:Shared} {t sl:Addr} {its:Array Value} {vl vu:Value} {lo hi:Option Int} {Q:Value->Shared->Prop} (ht:IsTup s.heap t its) (hs:s.heap.IsSliceOf sl vl vu .none) (pl:IsPart vl lo) (pu:IsPart vu hi)
    (hw:HT.sIx its.size 0 lo = 0/\HT.sIx its.size its.size hi = its.size) (h:Q (.ref t) s):wpAny (model prog w) A (getItem (.ref t) (.ref sl)) Q E s:=by
  obtain ⟨os,hos,hcs,hds⟩:=id hs
  have hTs:s.TypeIs (.ref sl) "slice":=⟨os,hos,hcs⟩
  unfold getItem
  try with_reducible refine wpAny_holding ?_
  first | refine wpAny_bind (wpAny_pure ?_) | skip
  refine wpAny_bind (wpAny_sequenceKey ht.typeIs (by decide) (wpAny_bind (wpAny_callSpecial?_slot (name:=Str.ofString "__getitem__") ht.typeIs PyProof.Rows.slot_tuple_getitem (wpAny_call_entry PyProof.Rows.slot_tuple_getitem ht.typeIs entry_tuple_getitem ?_ (args_tuple_getitem _ _)))))
  refine wpAny_bind (m:=Builtin.Tuple.tupleItemsOf (.ref t)) (tupleItemsOf_ ht (wpAny_bind (wpAny_typeOf hTs ?_)))
  rw [if_pos (by decide)]
  refine wpAny_bind (HT.sliceApplied_gen hs pl pu ?_)
  show wpAny _ _ (if (((HT.sIx its.size 0 lo:Nat):Int) == 0 && (1:Int) == 1 && (HT.sIx its.size its.size hi - HT.sIx its.size 0 lo) == its.size) = true then _ else _) _ _ s
  rw [hw.1,hw.2,if_pos (by simp)]
  unfold Builtin.Tuple.tupleIsExact
  refine wpAny_bind (wpAny_bind (wpAny_typeOf ht.typeIs (wpAny_pure ?_)))
  rw [if_pos (by decide)]
  first
    | exact wpAny_bind (wpAny_rule (wpAny_pure ⟨_,rfl,wpAny_pure h⟩))
    | exact wpAny_bind (wpAny_rule (wpAny_bind (wpAny_pure (wpAny_pure ⟨_,rfl,wpAny_pure h⟩))))
noncomputable def rSlA (K:PySem.W.Frag):V->Option Int->Option Int->Hp->VK->Prop:=fun x lo hi H Q=>∃ a xs,x = .ref a/\SqT K H a xs/\(cut xs lo hi = xs->Q (.ref a) H)/\∀ p,H p = none->Q (.ref p) (upd H p (.tup (cut xs lo hi)))
theorem sl_any:SlR X (rSlA X.K):=by
  intro pins s σ H x v vl vu lo hi sl Q I rx hs pl pu h
  obtain ⟨a,xs,rfl,hx,q1,q2⟩:=h
  by_cases hw:HT.sIx xs.length 0 lo = 0/\HT.sIx xs.length xs.length hi = xs.length
  · cases rx
    obtain ⟨its,r,ht,hz⟩:=I.tuple hx
    have hlen:its.toArray.size = xs.length:=by rw [List.size_toArray]; exact r.length.symm
    refine ⟨"tuple",_,PyProof.Rows.slot_tuple_getitem.lookup,ht.typeIs,whole_get ht hs pl pu (by rw [hlen]; exact hw) ⟨.ref a,H,I,rfl,q1 ?_⟩⟩
    unfold cut
    rw [hw.1,hw.2,List.drop_zero,Nat.sub_zero,List.take_length]
  · exact sl_tup pins s σ H (.ref a) v vl vu lo hi sl Q I rx hs pl pu ⟨a,xs,rfl,hx,hw,q2⟩
noncomputable def rSlL (K:PySem.W.Frag):V->Option Int->Option Int->Hp->VK->Prop:=fun x lo hi H Q=>∃ a xs,x = .ref a/\SqL K H a xs/\∀ p,H p = none->Q (.ref p) (upd H p (.lst (cut xs lo hi)))
theorem bounds_cut (lo hi:Option Int) (n:Nat):sliceBounds lo hi none n = (((HT.sIx n 0 lo:Nat):Int),((HT.sIx n n hi:Nat):Int),1):=by
  have h1:(1:Int) > 0:=by omega
  refine Prod.ext ?_ (Prod.ext ?_ rfl)
  · cases lo with
    | none=>simp [sliceBounds,HT.sIx]
    | some x =>
      by_cases h:x < 0
      · simp only [sliceBounds,HT.sIx,Option.getD_none,h1,if_true,if_pos h]; omega
      · simp only [sliceBounds,HT.sIx,Option.getD_none,h1,if_true,if_neg h]; omega
  · cases hi with
    | none=>simp [sliceBounds,HT.sIx]
    | some x =>
      by_cases h:x < 0
      · simp only [sliceBounds,HT.sIx,Option.getD_none,h1,if_true,if_pos h]; omega
      · simp only [sliceBounds,HT.sIx,Option.getD_none,h1,if_true,if_neg h]; omega
theorem sl_list:SlR X (rSlL X.K):=by
  intro pins s σ H x v vl vu lo hi sl Q I rx hs pl pu h
  obtain ⟨a,xs,rfl,hx,q⟩:=h
  cases rx
  obtain ⟨its,r,p,hz⟩:=I.list hx
  have hlen:=r.length
  refine ⟨"list",_,slot_list_getitem.lookup,p.isList.typeIs,wpAny_getItem_list_slice p.isList hs pl pu .none (by simp) ?_ (by rw [List.size_toArray]; omega)⟩
  rw [PySem.W.kmk_pick_nat its.toArray (bounds_cut lo hi its.toArray.size)]
  have e:((its.toArray.toList.drop (HT.sIx its.toArray.size 0 lo)).take (HT.sIx its.toArray.size its.toArray.size hi - HT.sIx its.toArray.size 0 lo)) = cut its lo hi:=by unfold cut; simp
  rw [e]
  have rc:Vals (cut xs lo hi) (cut its lo hi):=by unfold cut; rw [hlen]; exact (r.drop _).take _
  exact ⟨.ref s.heap.objs.size,_,I.lnew (t':=s.toks) rc (Nat.le_trans (cut_len xs lo hi) hz),rfl,q _ I.fresh⟩
noncomputable def tDO (K:PySem.W.Frag) (f:Env->Option (Option Int)):TO:=fun σ H Q=>∃ HF ρ o,Same HF H/\EnvOk K HF ρ σ/\f ρ = some o/\∀ H' HF',Grow HF H HF' H'->Q o H'
noncomputable def DO (X:Cx) (e:Option Expr) (f:Env->Option (Option Int)):Prop:=PO X e (tDO X.K f)
noncomputable def fNoB:Env->Option (Option Int):=fun _=>some none
noncomputable def gI:D->Option Int | .int i=>some i | _=>none
noncomputable def fBd (f:Env->Option D):Env->Option (Option Int):=fun ρ=>(f ρ).bind fun d=>(gI d).map some
theorem do_none:DO X none fNoB:=fun pins s σ H Q I ⟨HF,ρ,o,sm,eo,hf,q⟩=>po_none pins s σ H Q I (by cases hf; exact q H HF (.refl sm))
theorem do_some {e:Expr} {f:Env->Option D} (h:DE X e f):DO X (some e) (fBd f):=fun pins s σ H Q I ⟨HF,ρ,o,sm,eo,hf,q⟩=>po_some h pins s σ H Q I (by
  obtain ⟨d,hd,hf⟩:=bs hf
  obtain ⟨i,hi,rfl⟩:=map_some hf
  cases d <;> try cases hi
  exact ⟨HF,ρ,_,sm,eo,hd,fun v H1 HF1 g1 r1=>⟨_,by simpa only [Rep] using r1,q H1 HF1 g1⟩⟩)
variable {a:Expr} {lo hi:Option Expr} {fa:Env->Option D} {fl fh:Env->Option (Option Int)} {pos p2:Pos}
noncomputable def fCut {β:Type} (g:D->Option Int->Option Int->Option β) (fa:Env->Option D) (fl fh:Env->Option (Option Int)):Env->Option β:=fun ρ=>(fa ρ).bind fun x=>(fl ρ).bind fun l=>(fh ρ).bind fun h=>g x l h
end
end Dl
namespace Dl
open PySem L2 PySem.Spec PyProof.Rows
theorem fm_congr {α β:Type} {f g:α->Option β}:∀ {l:List α},(∀ x ∈ l,f x = g x)->l.filterMap f = l.filterMap g
  | [],_=>rfl
  | x :: l,h=>by rw [List.filterMap_cons,List.filterMap_cons,h x List.mem_cons_self,fm_congr fun y hy=>h y (List.mem_cons_of_mem _ hy)]
theorem pick_rev (xs:List Value):((List.range xs.length).filterMap fun (k:Nat)=>xs.toArray[(((xs.length:Nat):Int) - 1 + (k:Int) * (-1)).toNat]?) = xs.reverse:=by
  have e:∀ k ∈ List.range xs.length,xs.toArray[(((xs.length:Nat):Int) - 1 + (k:Int) * (-1)).toNat]? = xs.reverse[k]?:=fun k hk=>by
    have hk':k < xs.length:=by simpa using hk
    have:(((xs.length:Nat):Int) - 1 + (k:Int) * (-1)).toNat = xs.length - 1 - k:=by omega
    rw [this,List.getElem?_toArray,List.getElem?_reverse hk']
  rw [fm_congr e]
  have:=xs.length_reverse
  apply List.ext_getElem?
  intro i
  have key:∀ (l:List Value),(List.range l.length).filterMap (fun (k:Nat)=>l[k]?) = l:=fun l=>by
    induction l with
    | nil=>rfl
    | cons x l ih =>
      rw [List.length_cons,List.range_succ_eq_map,List.filterMap_cons]
      simp only [List.getElem?_cons_zero]
      rw [List.filterMap_map]
      congr 1
  have k2:=key xs.reverse
  rw [List.length_reverse] at k2
  rw [k2]
theorem rev_get {prog:Program} {w:World} {A:Around} {E:Value->Shared->Prop} {s:Shared} {t sl:Addr} {its:List Value} {tk:Tok} {Q:Value->Shared->Prop} (ht:IsTup s.heap t its.toArray) (hs:s.heap.IsSliceOf sl .none .none (.int (-1) tk))
    (hz:its.length<=sizeLine) (h:Q (.ref s.heap.objs.size) { s with heap:=s.heap.push { cls:=.type "tuple",data:=.seq its.reverse.toArray } }):wpAny (model prog w) A (getItem (.ref t) (.ref sl)) Q E s:=by
  obtain ⟨os,hos,hcs,hds⟩:=id hs
  have hTs:s.TypeIs (.ref sl) "slice":=⟨os,hos,hcs⟩
  unfold getItem
  try with_reducible refine wpAny_holding ?_
  first | refine wpAny_bind (wpAny_pure ?_) | skip
  refine wpAny_bind (wpAny_sequenceKey ht.typeIs (by decide) (wpAny_bind (wpAny_callSpecial?_slot (name:=Str.ofString "__getitem__") ht.typeIs PyProof.Rows.slot_tuple_getitem (wpAny_call_entry PyProof.Rows.slot_tuple_getitem ht.typeIs entry_tuple_getitem ?_ (args_tuple_getitem _ _)))))
  refine wpAny_bind (m:=Builtin.Tuple.tupleItemsOf (.ref t)) (tupleItemsOf_ ht (wpAny_bind (wpAny_typeOf hTs ?_)))
  rw [if_pos (by decide)]
  have hap:∀ {R:Int × Int × Nat->Shared->Prop},R (((its.length:Nat):Int) - 1,-1,its.length) s->wpAny (model prog w) A.in1 (Builtin.Slice.sliceApplied (.ref sl) (pure ((its.toArray.size:Nat):Int))) R E s:=fun {R} hR=>by
    unfold Builtin.Slice.sliceApplied Builtin.Slice.sliceFields
    refine wpAny_bind (wpAny_bind (wpAny_field hos hds (x:=.none) rfl (wpAny_bind (wpAny_field hos hds (x:=.none) rfl (wpAny_bind (wpAny_field hos hds (x:=.int (-1) tk) rfl (wpAny_pure ?_)))))))
    refine wpAny_bind (slicePart_int ?_)
    show wpAny _ _ (if ((-1:Int) == 0) = true then _ else _) _ _ s
    rw [if_neg (by decide)]
    refine wpAny_bind (slicePart_none (wpAny_bind (slicePart_none (wpAny_bind (wpAny_pure ?_)))))
    have e1:Builtin.Slice.sliceAdjust none none (-1) ((its.toArray.size:Nat):Int) = (((its.length:Nat):Int) - 1,-1):=by simp [Builtin.Slice.sliceAdjust]
    show wpAny _ _ (match Builtin.Slice.sliceAdjust none none (-1) ((its.toArray.size:Nat):Int) with | (lo,hi)=>pure (lo,(-1:Int),Builtin.Slice.slicePlaces lo hi (-1))) _ _ s
    rw [e1]
    have e2:Builtin.Slice.slicePlaces (((its.length:Nat):Int) - 1) (-1) (-1) = its.length:=by
      unfold Builtin.Slice.slicePlaces
      rw [if_neg (by decide)]
      simp only [Int.neg_neg,Int.ediv_one]
      split <;> omega
    show wpAny _ _ (pure (((its.length:Nat):Int) - 1,(-1:Int),Builtin.Slice.slicePlaces (((its.length:Nat):Int) - 1) (-1) (-1))) _ _ s
    rw [e2]
    exact wpAny_pure hR
  first
    | refine wpAny_bind (hap ?_)
    | refine wpAny_bind (wpAny_of_in1 (hap ?_))
  show wpAny _ _ (if ((((its.length:Nat):Int) - 1) == 0 && (-1:Int) == 1 && its.length == its.toArray.size) = true then _ else _) _ _ s
  rw [if_neg (by simp),pick_rev]
  have hz':sizeOk (.seq its.reverse.toArray):=by show its.reverse.toArray.size<=sizeLine; simpa using hz
  first
    | exact wpAny_bind (m:=Builtin.Tuple.tupleExact _) (wpAny_newObj_type (wpAny_pure ⟨_,rfl,wpAny_pure h⟩) hz')
    | exact wpAny_bind (m:=Builtin.Tuple.tupleExact _) (wpAny_newObj_type (wpAny_bind (wpAny_pure (wpAny_pure ⟨_,rfl,wpAny_pure h⟩))) hz')
    | exact wpAny_bind (wpAny_bind (m:=Builtin.Tuple.tupleExact _) (wpAny_newObj_type (wpAny_pure (wpAny_pure ⟨_,rfl,wpAny_pure h⟩)) hz'))
    | exact wpAny_bind (wpAny_bind (m:=Builtin.Tuple.tupleExact _) (wpAny_newObj_type (wpAny_pure ⟨_,rfl,wpAny_pure h⟩) hz'))
section
variable {X:Cx} {a:Expr} {fa:Env->Option D} {pos p2 p3 p4:Pos} {j:Nat}
theorem pe_rev {ta:TE} (ha:PE X a ta):PE X (.Subscript a (.Slice none none (some (.UnaryOp .USub (.Constant (.int 1) j p4) p3)) p2) pos) (fun σ H Q=>ta σ H fun x H1=>∃ b xs,x = .ref b/\SqT X.K H1 b xs/\∀ p,H1 p = none->Q (.ref p) (upd H1 p (.tup xs.reverse))):=by
  intro pins s σ H Q I h
  refine Subscript_ (thn (ha pins s σ H _ I h) fun v s1 ⟨x,H1,I1,r1,b,xs,e,hq,q⟩=>?_)
  subst e
  cases r1
  refine wpAny_Slice ?_
  rw [evalPart_none]
  refine wpAny_pure (wpAny_pure ?_)
  have hst:=po_some (X:=X) (pe_un (op:=.USub) un_neg (pe_int (X:=X) (i:=1) (j:=j) (pos:=p4)) (pos:=p3)) pins s1 σ H1 (fun o H'=>o = some (-1)/\H' = H1) I1 ⟨1,rfl,-1,rfl,rfl,rfl⟩
  refine thn hst fun vst s2 ⟨o,H2,I2,pst,e1,e2⟩=>?_
  subst e1 e2
  cases pst with
  | int _ tk =>
  obtain ⟨its,r,ht,hz⟩:=I2.tuple hq
  have I4:Inv X pins σ H2 { s2 with heap:=s2.heap.push { cls:=.type "slice",data:=.fields #[.none,.none,.int (-1) tk] } }:=I2.kept (t':=s2.toks) fun b ob q=>Heap.get?_push_of_some _ q
  obtain ⟨its',r',ht',_⟩:=I4.tuple hq
  refine tail_any (ops:=[.ref b,.ref s2.heap.objs.size]) ht'.typeIs PyProof.Rows.slot_tuple_getitem.lookup (rev_get ht' (Heap.IsSliceOf.new ..) (by rw [<- r'.length]; exact hz) ?_) (by with_unfolding_all rfl)
  have hv:Vals xs.reverse its'.reverse:=L2.Vals.reverse r'
  exact ⟨.ref _,_,I4.laid (t':=s2.toks) (o:=.tup xs.reverse) (fun b ob q=>Heap.get?_push_of_some _ q) (Nat.le_refl _) ⟨by rw [List.length_reverse]; exact hz,_,hv,TupD.new _ _⟩,rfl,q _ I4.fresh⟩
noncomputable def gRev:D->Option D | .tuple ds=>some (.tuple ds.reverse) | _=>none
noncomputable def f1 (g:D->Option D) (f:Env->Option D):Env->Option D:=fun ρ=>(f ρ).bind g
theorem de_rev (ha:DE X a fa):DE X (.Subscript a (.Slice none none (some (.UnaryOp .USub (.Constant (.int 1) j p4) p3)) p2) pos) (f1 gRev fa):=pe_imp (pe_rev ha) fun σ H Q ⟨HF,ρ,d,sm,eo,hf,q⟩=>by
  obtain ⟨x,hx,hf⟩:=bs hf
  refine ⟨HF,ρ,x,sm,eo,hx,fun v1 H1 HF1 g1 r1=>?_⟩
  cases x <;> try cases hf
  simp only [Rep] at r1
  obtain ⟨b,vs,rfl,hs,rr⟩:=r1
  exact ⟨b,vs,rfl,same_tup g1.fh hs,fun p hp=>q _ _ _ (g1.trans (.new g1.fh hp)) (rep_newtup (g1.fh.free hp) rr.reverse)⟩
end
end Dl
namespace HT
open PySem PyProof.Rows
section
open PySem.SeqAt
open PySem.AutoSeq1 (wpAny_loadPart')
open PySem.MeetsSeq PySem.MeetsSeq2 PySem.MeetsSeq3
theorem rcGe_int (A:Around) (s:Shared) (a:Int) (t:Tok) (c:Int) (u:Tok) (prog:Program) (w:World) (E:Value->Shared->Prop) (Q:Value->Shared->Prop) (h:Q (.bool (decide (c<=a))) s) :
    wpAny (model prog w) A (richCompare .GtE (.int a t) (.int c u)) Q E s :=
  (PyProof.Rows.ge_int h:wpAny (model prog w) A (compareOp .GtE (.int a t) (.int c u)) Q E s)
theorem tuple_ge_ints (l b:Addr) (items items2:Array Value) (n n2:Nat) (dd dd2:Option Addr) (sl sl2:Array (Option Value)) (ns ms:List Int) (hi:IntsAre items.toList ns) (hj:IntsAre items2.toList ms) :
    Meets (Builtin.«tuple.__ge__» ⟨[.ref l,.ref b],[]⟩)
      (fun _ R s=>s.heap.get? l = some { cls:=.type "tuple",dict:=dd,data:=.seq items n,slots:=sl }/\s.heap.get? b = some { cls:=.type "tuple",dict:=dd2,data:=.seq items2 n2,slots:=sl2 } /\
        R (.ok (.ret (.bool (!lexLt ns ms)))) s) :=
  .of_wp fun prog w A R s h=>by
    obtain ⟨hp,g,d,tk,os⟩:=s; obtain ⟨hl,hb,h⟩:=h
    have f2:=AutoSeq1.sub_tuple_tuple
    have z1:items.size = ns.length:=by rw [<- hi.length]; simp
    have z2:items2.size = ms.length:=by rw [<- hj.length]; simp
    wp_walk using wpAny_loadPart' hl,wpAny_loadPart' hb,wpAny_forIn_list _ (fun rest b s'=>b.1 = none/\s' = ⟨hp,g,d,tk,os⟩/\∃ (vs ws:List Value) (ns' ms':List Int),rest = vs.zip ws /\
      IntsAre vs ns'/\IntsAre ws ms'/\ns'.length + items2.size = ms'.length + items.size/\R (.ok (.ret (.bool (!lexLt ns' ms')))) ⟨hp,g,d,tk,os⟩) _
    case turn =>
      rintro ⟨y,x⟩ rest b s' ⟨hb',rfl,vs,ws,ns',ms',hz,hvi,hwi,hlen,hR⟩
      cases hvi with
      | nil=>rw [List.zip_nil_left] at hz; cases hz
      | cons a t hvi' =>
        cases hwi with
        | nil=>rw [List.zip_nil_right] at hz; cases hz
        | cons c u hwi' =>
          rw [List.zip_cons_cons] at hz
          injection hz with hyx hrest
          injection hyx with hy hx
          subst hy hx
          rw [lexLt_cons] at hR
          simp only [List.length_cons] at hlen
          obtain ⟨e,he,hiff⟩:=eqAt_int A.in1 ⟨hp,g,d,tk,os⟩ a t c u
          refine wpAny_bind (he prog w _ _ ?_)
          cases e with
          | true =>
            rw [if_pos (hiff.mp rfl)] at hR
            wp_walk
            exact ⟨rfl,rfl,_,_,_,_,hrest,hvi',hwi',by omega,hR⟩
          | false =>
            rw [if_neg (fun q=>absurd (hiff.mpr q) Bool.false_ne_true)] at hR
            have hri:=rcGe_int A.in1 ⟨hp,g,d,tk,os⟩ a t c u prog w
            have e1:(!decide (a < c)) = decide (c<=a):=by
              rw [<- decide_not]
              exact decide_eq_decide.mpr (by omega)
            rw [e1] at hR
            wp_walk using hri
            exact ⟨_,rfl,hR⟩
    case fin =>
      rintro ⟨b1,b2⟩ s' ⟨hb',rfl,vs,ws,ns',ms',hz,hvi,hwi,hlen,hR⟩
      simp only at hb'
      subst hb'
      have hv:lexLt ns' ms' = decide (items.size < items2.size):=by
        cases hvi with
        | nil =>
          cases hwi with
          | nil =>
            simp only [List.length_nil] at hlen
            rw [lexLt_nil_nil]
            exact (decide_eq_false (by omega)).symm
          | cons c u hw =>
            simp only [List.length_nil,List.length_cons] at hlen
            rw [lexLt_nil_cons]
            exact (decide_eq_true (by omega)).symm
        | cons a t hv =>
          cases hwi with
          | nil =>
            simp only [List.length_nil,List.length_cons] at hlen
            rw [lexLt_cons_nil]
            exact (decide_eq_false (by omega)).symm
          | cons c u hw =>
            rw [List.zip_cons_cons] at hz
            cases hz
      have hv2:(!lexLt ns' ms') = decide (items.size >= items2.size):=by
        rw [hv,<- decide_not]
        exact decide_eq_decide.mpr (by omega)
      rw [hv2] at hR
      wp_walk
      exact ⟨_,rfl,hR⟩
    case h =>
      exact ⟨rfl,rfl,items.toList,items2.toList,ns,ms,rfl,hi,hj,by omega,h⟩
end
end HT
namespace Dl
open PySem L2 PySem.Spec PyProof.Rows
section
variable {X:Cx}
noncomputable def tupInts:D->Option (List Int) | .tuple ds=>intsOf ds | _=>none
theorem tupInts_some {x:D} {ns:List Int} (h:tupInts x = some ns):x = .tuple (ns.map PyData.int):=by
  cases x <;> try cases h
  rename_i xs
  have h:intsOf xs = some ns:=h
  rw [intsOf_some h]
noncomputable def gGeT:D->D->Option Bool:=fun x y=>(tupInts x).bind fun ns=>(tupInts y).map fun ms=>!lexLt ns ms
theorem op_geT (hu:X.A.units < cLine):OpR X (compareOp .GtE) (rD2 X.K gGeT):=by
  intro pins s σ H v1 v2 u1 u2 Q I rx ry h
  obtain ⟨HF,x,y,k,sm,r1,r2,hg,q⟩:=h
  obtain ⟨ns,h1,hg⟩:=bs hg
  obtain ⟨ms,h2,rfl⟩:=map_some hg
  rw [tupInts_some h1] at r1
  rw [tupInts_some h2] at r2
  have key:∀ {ns:List Int} {v:V} {u:Value},Rep X.K HF (.tuple (ns.map PyData.int)) v->RelV v u->∃ a its,u = .ref a/\IsTup s.heap a its/\IntsAre its.toList ns:=fun {ns v u} r rv=>by
    have p:RowV s.heap u ns:=by
      cases rows_at (X:=X) (us:=[u]) (vs:=[v]) (nss:=[ns]) I sm (Reps.cons r Reps.nil) (.cons rv .nil) with
      | cons p _=>exact p
    obtain ⟨a,o,its,n,rfl,e1,e2,e3,e4⟩:=p.ex
    exact ⟨a,its,rfl,⟨o,e1,e2,n,e3⟩,e4⟩
  obtain ⟨a,its,rfl,⟨⟨cls,dd,data,sl⟩,ho,hc,n,hd⟩,i1⟩:=key r1 rx
  obtain ⟨b,its2,rfl,⟨⟨cls2,dd2,data2,sl2⟩,ho2,hc2,n2,hd2⟩,i2⟩:=key r2 ry
  simp only at hc hd hc2 hd2
  subst hc hd hc2 hd2
  exact richCompare_meets_room (op:=.GtE) ⟨_,ho,rfl⟩ ⟨_,ho2,rfl⟩ PySem.F.slot_tuple_ge PySem.F.entry_tuple_ge (PySem.F.args_tuple_ge_2 _ _) (HT.tuple_ge_ints a b its its2 n n2 dd dd2 sl sl2 ns ms i1 i2)
    ⟨ho,ho2,show Value.bool (!lexLt ns ms) ≠ Value.notImplemented/\EP X pins σ Q (.bool (!lexLt ns ms)) s from ⟨(fun x=>nomatch x),⟨.bl _,H,I,rfl,q⟩⟩⟩ hu
end
end Dl
namespace En
open PySem PyProof.Rows
open AutoSeq1 (wpAny_loadPart')
theorem noFill_tup:fillsNumberSlot (.type "tuple") "mul" = pure false:=PySem.fillsNumberSlot_seq (id:="tuple.__mul__") (r:=some (.builtin "tuple.__rmul__")) F.slot_tuple_mul.lookup (by decide +kernel) F.slot_tuple_rmul.lookup (by decide +kernel)
theorem repeat_tup:seqRepeat? (.type "tuple") = pure (some (.builtin "tuple.__mul__")):=by
  unfold seqRepeat?
  rw [PySem.seqSlot_of (T:="tuple") (name:="__mul__") (id:="tuple.__mul__") F.slot_tuple_mul.lookup (by decide +kernel),PySem.seqSlot_of (T:="tuple") (name:="__rmul__") (id:="tuple.__rmul__") F.slot_tuple_rmul.lookup (by decide +kernel)]; rfl
theorem rmul_tup (a:Int) (t:Tok) (l:Addr) (its:Array Value) (n:Nat) (dd:Option Addr) (sl:Array (Option Value)) :
    Meets (Builtin.«int.__rmul__» ⟨[.int a t,.ref l],[]⟩) (fun _ R s=>s.heap.get? l = some { cls:=.type "tuple",dict:=dd,data:=.seq its n,slots:=sl }/\R (.ok (.ret Value.notImplemented)) s) :=
  .of_wp fun prog w A R s h=>by
    obtain ⟨hp,g,d,tk,os⟩:=s; obtain ⟨hl,h⟩:=h
    wp_walk
    exact ⟨_,rfl,h⟩
end En
namespace En
open PySem PyProof.Rows
open AutoSeq1 (wpAny_loadPart')
theorem mulT_same (l:Addr) (its:Array Value) (n:Nat) (dd:Option Addr) (sl:Array (Option Value)) (k:Int) (t:Tok) (h1:¬ (decide (k < -(2 ^ 63)) || decide (k >= 2 ^ 63)) = true) (h2:(its.isEmpty || k == 1) = true) :
    Meets (Builtin.«tuple.__mul__» ⟨[.ref l,.int k t],[]⟩) (fun _ R s=>s.heap.get? l = some { cls:=.type "tuple",dict:=dd,data:=.seq its n,slots:=sl }/\R (.ok (.ret (.ref l))) s) :=
  .of_wp fun prog w A R s h=>by
    obtain ⟨hp,g,d,tk,os⟩:=s; obtain ⟨hl,h⟩:=h
    have f1:=AutoSeq1.idx_int
    wp_walk using wpAny_loadPart' hl
    rw [if_neg h1]
    wp_walk using wpAny_loadPart' hl
    exact ⟨_,rfl,h⟩
theorem mulT_none (l:Addr) (its:Array Value) (n:Nat) (dd:Option Addr) (sl:Array (Option Value)) (k:Int) (t:Tok) (h1:¬ (decide (k < -(2 ^ 63)) || decide (k >= 2 ^ 63)) = true) (h2:¬ (its.isEmpty || k == 1) = true) (h3:(decide (k<=0) || its.isEmpty) = true) :
    Meets (Builtin.«tuple.__mul__» ⟨[.ref l,.int k t],[]⟩) (fun _ R s=>s.heap.get? l = some { cls:=.type "tuple",dict:=dd,data:=.seq its n,slots:=sl }/\R (.ok (.ret (.ref s.heap.objs.size))) { s with heap:=s.heap.push { cls:=.type "tuple",data:=.seq #[] } }) :=
  .of_wp fun prog w A R s h=>by
    obtain ⟨hp,g,d,tk,os⟩:=s; obtain ⟨hl,h⟩:=h
    have f1:=AutoSeq1.idx_int
    wp_walk using wpAny_loadPart' hl
    rw [if_neg h1]
    wp_walk using wpAny_loadPart' hl
    exact ⟨_,rfl,h⟩
theorem mulT_many (l:Addr) (its:Array Value) (n:Nat) (dd:Option Addr) (sl:Array (Option Value)) (k:Int) (t:Tok) (h1:¬ (decide (k < -(2 ^ 63)) || decide (k >= 2 ^ 63)) = true) (h2:¬ (its.isEmpty || k == 1) = true) (h3:¬ (decide (k<=0) || its.isEmpty) = true)
    (h4:¬ ((its.size:Nat):Int) * k > (2 ^ 63 - 1) / 8) (h5:¬ Builtin.Tuple.tupleTooMany (((its.size:Nat):Int) * k) = true) (hz:((List.replicate k.toNat its).foldl (· ++ ·) #[]).size<=sizeLine) :
    Meets (Builtin.«tuple.__mul__» ⟨[.ref l,.int k t],[]⟩) (fun _ R s=>s.heap.get? l = some { cls:=.type "tuple",dict:=dd,data:=.seq its n,slots:=sl }/\R (.ok (.ret (.ref s.heap.objs.size))) { s with heap:=s.heap.push { cls:=.type "tuple",data:=.seq ((List.replicate k.toNat its).foldl (· ++ ·) #[]) } }) :=
  .of_wp fun prog w A R s h=>by
    obtain ⟨hp,g,d,tk,os⟩:=s; obtain ⟨hl,h⟩:=h
    have f1:=AutoSeq1.idx_int
    wp_walk using wpAny_loadPart' hl
    rw [if_neg h1]
    wp_walk using wpAny_loadPart' hl
    rw [if_neg h4]
    wp_walk using wpAny_loadPart' hl
    exact ⟨_,rfl,h⟩
end En
namespace Dl
open PySem L2 PySem.Spec PyProof.Rows
section
variable {X:Cx}
noncomputable def rRepT (K:PySem.W.Frag):R2:=fun x y H Q=>∃ a k xs,x = .ref a/\y = .int k/\SqT K H a xs/\-(2 ^ 62)<=k/\k < 2 ^ 62/\xs.length * k.toNat<=sizeLine/\((List.replicate k.toNat xs).flatten = xs->Q (.ref a) H) /\
  ∀ p,H p = none->Q (.ref p) (upd H p (.tup (List.replicate k.toNat xs).flatten))
theorem op_repT:OpR X (binaryOp .Mult) (rRepT X.K):=by
  intro pins s σ H x y v u Q I rx ry h
  obtain ⟨a,k,xs,rfl,rfl,hq,k1,k2,hz,q1,q2⟩:=h
  cases rx
  obtain ⟨t,rfl⟩:=ry
  obtain ⟨its,r,pl,hzx⟩:=I.tuple hq
  have hl:=r.length
  obtain ⟨⟨cls,dd,data,sl⟩,ho,hc,n,hd⟩:=id pl
  simp only at hc hd
  subst hc hd
  have b1:¬ (decide (k < -(2 ^ 63)) || decide (k >= 2 ^ 63)) = true:=by
    simp only [Bool.or_eq_true,decide_eq_true_eq]
    omega
  refine wpAny_binaryOp_repeat_ref (T:="tuple") (U:="int") (by decide) ⟨_,ho,rfl⟩ (fun s'=>typeIs_int s' k t) En.noFill_tup F.fills_int_mul F.slot_int_rmul En.repeat_tup F.slot_int_index.lookup
    (call_meets F.slot_int_rmul (typeIs_int s k t) F.entry_int_rmul (F.args_int_rmul_2 _ _) (En.rmul_tup k t a its.toArray n dd sl) ⟨ho,rfl,⟨_,ho,rfl⟩,?_⟩)
  have hfl:∀ m:Nat,List.foldl (fun x1 x2=>x1 ++ x2) #[] (List.replicate m its.toArray) = (List.replicate m its).flatten.toArray:=fun m=>by
    have:=foldl_rep its m []
    rw [List.nil_append] at this
    exact this
  by_cases h2:(its.toArray.isEmpty || k == 1) = true
  · refine call_meets F.slot_tuple_mul ⟨_,ho,rfl⟩ F.entry_tuple_mul (F.args_tuple_mul_2 _ _) (En.mulT_same a its.toArray n dd sl k t b1 h2) ⟨ho,⟨.ref a,H,I,rfl,q1 ?_⟩⟩
    rw [Bool.or_eq_true] at h2
    rcases h2 with h2 | h2
    · have:xs = []:=by
        have e:its = []:=by simpa using h2
        rw [e] at hl
        exact List.length_eq_zero_iff.mp hl
      rw [this]
      simp
    · have:k = 1:=eq_of_beq h2
      subst this
      simp
  · by_cases h3:(decide (k<=0) || its.toArray.isEmpty) = true
    · refine call_meets F.slot_tuple_mul ⟨_,ho,rfl⟩ F.entry_tuple_mul (F.args_tuple_mul_2 _ _) (En.mulT_none a its.toArray n dd sl k t b1 h2 h3) ⟨ho,?_⟩
      have hk0:k.toNat = 0:=by
        simp only [Bool.or_eq_true,decide_eq_true_eq] at h3 h2
        rcases h3 with h3 | h3
        · omega
        · exact absurd (.inl h3) h2
      have q3:=q2 s.heap.objs.size I.fresh
      rw [hk0] at q3
      exact ⟨.ref s.heap.objs.size,_,I.laid (t':=s.toks) (o:=.tup []) (fun b ob q=>Heap.get?_push_of_some _ q) (Nat.le_refl _) ⟨Nat.zero_le _,[],.nil,TupD.new _ _⟩,rfl,q3⟩
    · have hm:its.length * k.toNat<=sizeLine:=by rw [<- hl]; exact hz
      have hkn:(k.toNat:Int) = k:=by
        simp only [Bool.or_eq_true,decide_eq_true_eq,not_or] at h3
        omega
      have hmi:((its.toArray.size:Nat):Int) * k = ((its.length * k.toNat:Nat):Int):=by rw [List.size_toArray,Int.natCast_mul,hkn]
      have hv:=L2.Vals.rep r k.toNat
      have hlen2:(List.replicate k.toNat xs).flatten.length<=sizeLine:=by rw [len_rep,Nat.mul_comm]; exact hz
      have hs8:(sizeLine:Nat)<=(2 ^ 63 - 1) / 8:=by decide
      have h4:¬ ((its.toArray.size:Nat):Int) * k > (2 ^ 63 - 1) / 8:=by rw [hmi]; omega
      have h5:¬ Builtin.Tuple.tupleTooMany (((its.toArray.size:Nat):Int) * k) = true:=by
        unfold Builtin.Tuple.tupleTooMany
        rw [hmi]
        simp only [decide_eq_true_eq]
        omega
      refine call_meets F.slot_tuple_mul ⟨_,ho,rfl⟩ F.entry_tuple_mul (F.args_tuple_mul_2 _ _) (En.mulT_many a its.toArray n dd sl k t b1 h2 h3 h4 h5 (by rw [hfl,List.size_toArray,<- hv.length]; exact hlen2)) ⟨ho,?_⟩
      rw [hfl]
      exact ⟨.ref s.heap.objs.size,_,I.laid (t':=s.toks) (o:=.tup (List.replicate k.toNat xs).flatten) (fun b ob q=>Heap.get?_push_of_some _ q) (Nat.le_refl _) ⟨hlen2,_,hv,TupD.new _ _⟩,rfl,q2 _ I.fresh⟩
noncomputable def gRepT:D->D->Option D
  | .tuple ds,.int k=>if okR k = true/\ds.length * k.toNat<=sizeLine then some (.tuple (List.replicate k.toNat ds).flatten) else none
  | _,_=>none
theorem reps_rep {K:PySem.W.Frag} {HF:Hp} {ds:List D} {vs:List V} (r:Reps K HF ds vs):∀ k:Nat,Reps K HF (List.replicate k ds).flatten (List.replicate k vs).flatten
  | 0=>Reps.nil
  | k + 1=>by rw [List.replicate_succ,List.replicate_succ,List.flatten_cons,List.flatten_cons]; exact r.append (reps_rep r k)
theorem sem_repT {K:PySem.W.Frag}:Sem2 K (rRepT K) gRepT:=by
  intro HF H x y v1 v2 d Q sm r1 r2 hg q
  cases x <;> cases y <;> simp only [gRepT] at hg <;> try cases hg
  split at hg
  · rename_i xs k hh
    cases hg
    simp only [Rep] at r1 r2
    obtain ⟨a,vs,rfl,ha,ra⟩:=r1
    have ok:=hh.1
    unfold okR at ok
    rw [Bool.and_eq_true] at ok
    refine ⟨a,k,vs,rfl,r2,same_tup sm ha,of_decide_eq_true ok.1,of_decide_eq_true ok.2,by rw [ra.length]; exact hh.2,fun e=>q _ H HF (.refl sm) ?_,fun p hp=>q _ _ _ (.new sm hp) (rep_newtup (sm.free hp) (reps_rep ra _))⟩
    simp only [Rep]
    refine ⟨a,vs,rfl,ha,?_⟩
    have:=reps_rep ra k.toNat
    rw [e] at this
    exact this
  · cases hg
end
end Dl
namespace En
open PySem PyProof.Rows
section
variable {prog:Program} {w:World} {A:Around} {E:Value->Shared->Prop} {s:Shared}
theorem call_setT {l:Addr} {its:Array Value} {ns:List Int} {Q:Value->Shared->Prop} (hh:A.handled = none) (hl:s.heap.IsTuple l its) (hi:IntsAre its.toList ns) (hb:its.size + 1 < scanBound)
    (h:∀ (h':Heap) (tk:Nat),h'.SetOf (intKind prog w) s.heap.objs.size (fun k'=>(firstMet (fun i=>ns.getD i 0) its.size).any (· == k')) (firstMet (fun i=>ns.getD i 0) its.size).length->(∀ b o,b < s.heap.objs.size->s.heap.get? b = some o->h'.get? b = some o)->Q (.ref s.heap.objs.size) { s with heap:=h',toks:=tk }) :
    wpAny (model prog w) A (call (.type "set") [.ref l]) Q E s:=by
  obtain ⟨c,tl,hmro⟩:=F.called_set.mro
  have hmade:=F.called_set.made
  have hsub:=F.called_set.sub
  refine wpAny_call (codeAny_of_tree ?_); show wpAny _ _ (callAny (.type "set") _) _ _ _
  refine wpAny_pure ⟨Code.quiet_builtin _ (by decide +kernel),codeAny_builtin F.entry_type_call ?_⟩
  rw [Around.under_plain (weight_type_call_type "set" [.ref l] []) rfl]
  have h1:=F.called_set.notType
  have h2:=F.called_set.canCreate
  have hct:=F.typeCall_set_1 (.ref l)
  repeat (any_goals (first | assumption | wp_step))
  refine codeAny_mono (code_set_new_1 (.ref l) (E:=E) (Q₁:=fun obj s1=>∃ led:Bool,obj = .ref s.heap.objs.size/\s1 = { s with heap:=s.heap.push { cls:=.type "set",dict:=none,data:=.set #[] 0 (.fresh 0 0 led) } }) fun led=>⟨led,rfl,rfl⟩) fun r s1 hr=>?_
  cases r with
  | error e=>exact hr
  | ok fl =>
    cases fl with
    | ret obj =>
      obtain ⟨led,rfl,rfl⟩:=hr
      have hS:(s.heap.push { cls:=.type "set",dict:=none,data:=.set #[] 0 (.fresh 0 0 led) }).get? s.heap.objs.size = some { cls:=.type "set",dict:=none,data:=.set #[] 0 (.fresh 0 0 led) }:=by exact Heap.get?_push_size _ rfl
      have hT:Shared.TypeIs { s with heap:=s.heap.push { cls:=.type "set",dict:=none,data:=.set #[] 0 (.fresh 0 0 led) } } (.ref s.heap.objs.size) "set":=⟨_,hS,rfl⟩
      have hli:=F.called_set.init.lookup
      have hbi:=F.called_set.init.bind (.ref s.heap.objs.size)
      repeat (any_goals (first | assumption | wp_step))
      refine codeAny_mono (codeAny_call_builtin (R:=wants (fun r s2=>r = .none/\∃ h' tk,s2 = { s with heap:=h',toks:=tk }/\h'.SetOf (intKind prog w) s.heap.objs.size (fun k'=>(firstMet (fun i=>ns.getD i 0) its.size).any (· == k')) (firstMet (fun i=>ns.getD i 0) its.size).length /\
          (∀ b o,b < s.heap.objs.size->s.heap.get? b = some o->h'.get? b = some o)) E) F.called_set.init.plain F.entry_set_init (check_set_init_1 hT ?_)) fun r2 s2 hr2=>?_
      · obtain ⟨ol,hol,hcl,nl,hdl⟩:=hl
        obtain ⟨ocls,odict,odata,oslots⟩:=ol
        simp only at hcl hdl
        subst hcl hdl
        have hol':(s.heap.push { cls:=.type "set",dict:=none,data:=.set #[] 0 (.fresh 0 0 led) }).get? l = some { cls:=.type "tuple",dict:=odict,data:=.seq its nl,slots:=oslots }:=Heap.get?_push_of_some _ hol
        have hsls:=F.sub_tuple_set
        have hslf:=F.sub_tuple_frozenset
        have hne:(Value.type "tuple" == Value.type "dict") = false:=by decide
        have hl1:(s.heap.push { cls:=.type "set",dict:=none,data:=.set #[] 0 (.fresh 0 0 led) }).IsTuple l its:=⟨_,hol',rfl,nl,rfl⟩
        unfold Builtin.«set.__init__» noKeywords Builtin.Frozenset.updateFrom
        generalize hPI:pyIter = PI
        wp_walk
        subst hPI
        refine wpAny_pyIter_tuple hl1 (wpAny_bind (wpAny_runValue ?_))
        have hlS:l < s.heap.objs.size:=Heap.lt_size hol
        have hh3:A.in1.in1.in1.handled = none:=by simp [hh]
        have hneI:l ≠ (s.heap.push { cls:=.type "set",dict:=none,data:=.set #[] 0 (.fresh 0 0 led) }).objs.size:=by rw [Heap.size_push]; exact Nat.ne_of_lt (Nat.lt_succ_of_lt hlS)
        have hSf:s.heap.objs.size ∉ [(s.heap.push { cls:=.type "set",dict:=none,data:=.set #[] 0 (.fresh 0 0 led) }).objs.size,l]:=by
          rw [Heap.size_push]; simp only [List.mem_cons,List.not_mem_nil,or_false,not_or]
          exact ⟨Nat.ne_of_lt (Nat.lt_succ_self _),Nat.ne_of_gt hlS⟩
        have hval:∀ (i:Nat) (v:Value),its[i]? = some v->∃ t,v = .int ((fun i=>ns.getD i 0) i) t:=fun i v hv=>IntsAre.int_at hi i v (by rw [Array.getElem?_toList]; exact hv)
        refine codeAny_set_update_loopS ((Walks.tuple hh3 _ l hneI its).toS) s.heap.objs.size hSf (fun i=>ns.getD i 0) hval hb (its.size - 0) 0 _ (by omega) (Nat.zero_le _) ⟨⟨_,Heap.get?_push_size _ rfl,rfl,rfl⟩,?ht⟩ ?hS0 ?hR
        case ht=>exact ⟨_,Heap.get?_push_of_some _ hol',rfl,nl,rfl⟩
        case hS0 =>
          have hget:((s.heap.push { cls:=.type "set",dict:=none,data:=.set #[] 0 (.fresh 0 0 led) }).push { cls:=.type "tuple_iterator",data:=.fields #[.ref l,.int 0 0] }).get? s.heap.objs.size = some { cls:=.type "set",dict:=none,data:=.set #[] 0 (.fresh 0 0 led) }:=by exact Heap.get?_push_of_some _ hS
          exact SetOf_congr ((setObjOf_fresh (knd:=intKind prog w) led).setOf hget (by unfold scanBound; omega)) (fun _=>rfl) rfl
        case hR =>
          intro s' hm hS'
          obtain ⟨h',g',d',tk',os'⟩:=s'
          have eg:g' = s.gens:=hm.gens
          have ed:d' = s.drawn:=hm.drawn
          have eo:os' = s.os:=hm.os
          subst eg ed eo
          show wpAny _ _ _ _ _ _
          refine wpAny_pure ?_
          show wpAny _ _ (ret Value.none) _ _ _
          refine wpAny_pure ⟨rfl,h',tk',rfl,hS',fun b o hb' e=>?_⟩
          refine hm.heap b o ?_ (Heap.get?_push_of_some _ (Heap.get?_push_of_some _ e))
          simp only [List.mem_cons,List.not_mem_nil,or_false,not_or]
          exact ⟨Nat.ne_of_lt hb',by rw [Heap.size_push]; exact Nat.ne_of_lt (Nat.lt_succ_of_lt hb')⟩
      · cases r2 with
        | error e=>exact hr2
        | ok fl2 =>
          cases fl2 with
          | ret r =>
            obtain ⟨rfl,h',tk,rfl,hS',hk'⟩:=hr2
            repeat (any_goals (first | assumption | wp_step))
            exact h _ _ hS' hk'
          | _=>exact hr2.elim
    | _=>exact hr.elim
end
end En
namespace Dl
open PySem L2 PySem.Spec PyProof.Rows
noncomputable def many (ns:List Int):Nat:=(firstMet (fun i=>ns.getD i 0) ns.length).length
section
variable {X:Cx} {e:Expr} {f:Env->Option D} {pos p p' pos':Pos}
theorem call_setR (hc:X.calm = true):CallR X (.type "set") (fun xs H Q=>∃ (a:Addr) (ns:List Int),xs = [.ref a]/\SqT X.K H a (ns.map V.int)/\ns.length + 1 < scanBound/\∀ q S,H q = none->Q (.ref q) (upd H q (.set S (many ns)))):=by
  intro pins s σ H xs us Q I r h
  obtain ⟨a,ns,rfl,hq,hb,q⟩:=h
  obtain ⟨u,rfl,rx⟩:=vals1 r
  cases rx
  obtain ⟨its,rv,pl,hz⟩:=I.tuple hq
  have hi:IntsAre its.toArray.toList ns:=intsAre_of rv
  have hlen:its.toArray.size = ns.length:=by have:=rv.length; simpa using this.symm
  refine En.call_setT (I.ok.hd hc) (show s.heap.IsTuple a its.toArray from pl) hi (by rw [hlen]; exact hb) fun h' tk hS hk=>?_
  rw [hlen] at hS
  exact ⟨.ref s.heap.objs.size,_,I.laid (t':=tk) (fun b o e=>hk b o (Heap.lt_size e) e) (Nat.le_refl _) (show ObjOk X.prog X.w _ h' _ (.set _ (many ns)) from hS),rfl,q _ _ I.fresh⟩
theorem call_lenR:CallR X (.builtin "len") (fun xs H Q=>∃ (a:Addr) (S:Int->Bool) (n:Nat),xs = [.ref a]/\H a = some (.set S n)/\Q (.int n) H):=by
  intro pins s σ H xs us Q I r h
  obtain ⟨a,S,n,rfl,hq,q⟩:=h
  obtain ⟨u,rfl,rx⟩:=vals1 r
  cases rx
  obtain ⟨o,es,ep,t,ho,hex,hd,hel,hmem,hlt,hf,hn⟩:=(show s.heap.SetOf (intKind X.prog X.w) a S n from I.hok a _ hq)
  have hfit:((es.size:Nat):Int) < 2 ^ 63:=by unfold scanBound at hlt; omega
  refine call_len_set ho hex hd hf hfit ⟨.int n,H,I.tok _,⟨s.toks + 1,by rw [hn]⟩,q⟩
noncomputable def gLenSet:D->Option D:=fun d=>(tupInts d).bind fun ns=>if ns.length + 1 < scanBound then some (.int (many ns)) else none
theorem de_lenset (hc:X.calm = true) (B:Blt X "len" (.builtin "len")) (C:Blt X "set" (.type "set")) (h:DE X e f) (he:starEach [e] X.env = (false,eval e X.env) :: starEach [] X.env:=by rfl) :
    DE X (.Call (.Name "len" p) [.Call (.Name "set" p') [e] [] pos'] [] pos) (f1 gLenSet f) :=
  pe_imp (pe_callB call_lenR B.gl B.mg B.bt (pa_cons (pe_callTy (call_setR hc) C.gl C.mg C.bt (pa_cons h pa_nil he) (by decide) (by decide) he rfl) pa_nil) (by decide) (by decide) rfl rfl) fun σ H Q ⟨HF,ρ,d,sm,eo,hf,q⟩=>by
    obtain ⟨x,hx,hf⟩:=bs hf
    obtain ⟨ns,h1,hf⟩:=bs hf
    split at hf
    · rename_i hb
      cases hf
      refine ⟨HF,ρ,x,sm,eo,hx,fun v1 H1 HF1 g1 r1=>?_⟩
      rw [tupInts_some h1] at r1
      simp only [Rep] at r1
      obtain ⟨a,vs,rfl,hs,rr⟩:=r1
      have key:∀ {ns:List Int} {ws:List V},Reps X.K HF1 (ns.map PyData.int) ws->ws = ns.map V.int:=fun {ns}=>by
        induction ns with
        | nil=>exact fun h=>h.nil_inv
        | cons n ns ih =>
          intro ws h
          obtain ⟨v,r,rfl,a,b⟩:=h.cons_inv
          simp only [Rep] at a
          rw [a,ih b]
          rfl
      have:=key rr
      subst this
      refine ⟨a,ns,rfl,same_tup g1.fh hs,hb,fun b S hb'=>⟨b,S,_,rfl,upd_same,q _ _ HF1 (g1.trans (.own g1.fh hb')) (by simp [Rep])⟩⟩
    · cases hf
end
theorem firstMet_nodup (val:Nat->Int):∀ i,(firstMet val i).length = i ↔ ((List.range i).map val).Nodup
  | 0=>by simp [firstMet]
  | i + 1=>by
    have hle:=firstMet_length_le val i
    rw [firstMet_succ,step_length,List.range_succ,List.map_append,List.nodup_append]
    have ha:=firstMet_any val i (val i)
    have ih:=firstMet_nodup val i
    constructor
    · intro h
      by_cases hin:(firstMet val i).any (· == val i) = true
      · rw [if_pos hin] at h; omega
      · rw [if_neg hin] at h
        refine ⟨ih.mp (by omega),by simp,fun a hm b hb z=>?_⟩
        have hb':b = val i:=by simpa using hb
        subst z hb'
        rw [ha] at hin
        exact hin (List.any_eq_true.mpr ⟨_,hm,by simp⟩)
    · rintro ⟨h1,_,h3⟩
      rw [if_neg ?_]
      · rw [ih.mpr h1]
      · rw [ha]
        intro hin
        obtain ⟨x,hx,he⟩:=List.any_eq_true.mp hin
        have he':x = val i:=by simpa using he
        exact h3 x hx (val i) (by simp) he'
theorem many_nodup (ns:List Int):many ns = ns.length ↔ ns.Nodup:=by
  unfold many
  rw [firstMet_nodup]
  have:(List.range ns.length).map (fun i=>ns.getD i 0) = ns:=map_getD_range ns 0
  rw [this]
end Dl
namespace Dl
open PySem L2 PySem.Spec PyProof.Rows
section
variable {X:Cx} {N:List Str} {sc:Scope} {k:Nat} {a b c e e2:Expr} {es:List Expr} {fa fb fc f:Env->Option D} {fs:Env->Option (List D)} {pos p p' pos' p2 p3 p4 px apos cpos tp:Pos} {x y:Str} {HF₀ H₀:Hp}
theorem sem_or {K:PySem.W.Frag} {r r':R2} {g g':D->D->Option D} (h:Sem2 K r g) (h':Sem2 K r' g'):Sem2 K (fun x y H Q=>r x y H Q\/r' x y H Q) (fun x y=>(g x y).or (g' x y)):=by
  intro HF H x y v1 v2 d Q sm r1 r2 hg q
  cases e:g x y with
  | some d' =>
    have hg:(g x y).or (g' x y) = some d:=hg
    rw [e] at hg
    cases hg
    exact .inl (h HF H x y v1 v2 d Q sm r1 r2 e q)
  | none =>
    have hg:(g x y).or (g' x y) = some d:=hg
    rw [e] at hg
    exact .inr (h' HF H x y v1 v2 d Q sm r1 r2 hg q)
theorem sem_catLL {K:PySem.W.Frag}:Sem2 K (rCatLL K) (fun x y=>(gCatL x y).map PyData.list):=by
  intro HF H x y v1 v2 d Q sm r1 r2 hg q
  obtain ⟨zs,hg',rfl⟩:=map_some hg
  clear hg
  cases x <;> cases y <;> simp only [gCatL] at hg' <;> try cases hg'
  obtain ⟨rfl,hz⟩:=small_some hg'
  simp only [Rep] at r1 r2
  obtain ⟨a,vs,rfl,ha,ra⟩:=r1
  obtain ⟨b,us,rfl,hb,rb⟩:=r2
  refine ⟨a,b,vs,us,rfl,rfl,sm.seq ha,sm.seq hb,by rw [ra.length,rb.length,<- List.length_append]; exact hz,fun p hp=>q _ _ _ (.new sm hp) ?_⟩
  simp only [Rep]
  exact ⟨p,_,rfl,.inl (.inl upd_same),(ra.append rb).mono (same_upd (sm.free hp))⟩
noncomputable def gAdd:D->D->Option D:=fun x y=>((g2I (fun _ _=>True) fun i j=>.int (i + j)) x y).or ((gCat x y).or ((gCatL x y).map PyData.list))
theorem Bk.add (C:Bk X N sc k) (ha:DE X a fa) (hb:DE X b fb):DE X (.BinOp a .Add b pos) (f2 gAdd fa fb):=de_op (op_add.or (op_catAny.or op_catLL)) (sem_or sem_I0 (sem_or sem_cat sem_catLL)) ha hb
noncomputable def gSub:D->D->Option D:=g2I (fun _ _=>True) fun i j=>.int (i - j)
theorem Bk.sub (C:Bk X N sc k) (ha:DE X a fa) (hb:DE X b fb):DE X (.BinOp a .Sub b pos) (f2 gSub fa fb):=de_op op_sub sem_I0 ha hb
noncomputable def gMul:D->D->Option D:=fun x y=>((g2I CMul fun i j=>.int (i * j)) x y).or (gRepT x y)
theorem Bk.mul (C:Bk X N sc k) (ha:DE X a fa) (hb:DE X b fb):DE X (.BinOp a .Mult b pos) (f2 gMul fa fb):=de_op (op_mul.or op_repT) (sem_or sem_I sem_repT) ha hb
noncomputable def gDiv:D->D->Option D:=g2I CDiv fun i j=>.int (i / j)
theorem Bk.div (C:Bk X N sc k) (ha:DE X a fa) (hb:DE X b fb):DE X (.BinOp a .FloorDiv b pos) (f2 gDiv fa fb):=de_op op_fdiv sem_I ha hb
noncomputable def gMod:D->D->Option D:=g2I (fun _ j=>0 < j) fun i j=>.int (i % j)
theorem Bk.mod (C:Bk X N sc k) (ha:DE X a fa) (hb:DE X b fb):DE X (.BinOp a .Mod b pos) (f2 gMod fa fb):=de_op op_mod sem_I ha hb
noncomputable def gLt:D->D->Option D:=g2I (fun _ _=>True) fun i j=>.bool (decide (i < j))
noncomputable def gLe:D->D->Option D:=g2I (fun _ _=>True) fun i j=>.bool (decide (i<=j))
noncomputable def gGt:D->D->Option D:=g2I (fun _ _=>True) fun i j=>.bool (decide (j < i))
noncomputable def gGe:D->D->Option D:=fun x y=>((g2I (fun _ _=>True) fun i j=>.bool (decide (j<=i))) x y).or ((gGeT x y).map PyData.bool)
noncomputable def gEqD:D->D->Option D:=fun x y=>(gEq x y).map PyData.bool
noncomputable def gNeD:D->D->Option D:=fun x y=>(gNe x y).map PyData.bool
noncomputable def gInD:D->D->Option D:=fun x y=>(gIn x y).map PyData.bool
theorem Bk.u64 (C:Bk X N sc k):X.A.units + 64 < cLine:=C.room.units
theorem Bk.u66 (C:Bk X N sc k):X.A.units + 66 < cLine:=by have:=C.room.un; omega
theorem Bk.lt (C:Bk X N sc k) (ha:DE X a fa) (hb:DE X b fb):DE X (.Compare a [.Lt] [b] pos) (f2 gLt fa fb):=de_cmp op_lt sem_B0 ha hb (nomark _)
theorem Bk.le (C:Bk X N sc k) (ha:DE X a fa) (hb:DE X b fb):DE X (.Compare a [.LtE] [b] pos) (f2 gLe fa fb):=de_cmp op_le sem_B0 ha hb (nomark _)
theorem Bk.gt (C:Bk X N sc k) (ha:DE X a fa) (hb:DE X b fb):DE X (.Compare a [.Gt] [b] pos) (f2 gGt fa fb):=de_cmp op_gt sem_B0 ha hb (nomark _)
theorem Bk.ge (C:Bk X N sc k) (ha:DE X a fa) (hb:DE X b fb):DE X (.Compare a [.GtE] [b] pos) (f2 gGe fa fb):=de_cmp (op_ge.or (op_geT C.room.units0)) (sem_or sem_B0 sem_D2) ha hb (nomark _)
theorem Bk.eq (C:Bk X N sc k) (ha:DE X a fa) (hb:DE X b fb):DE X (.Compare a [.Eq] [b] pos) (f2 gEqD fa fb):=de_cmp (op_eqD C.u64) sem_D2 ha hb (nomark _)
theorem Bk.ne (C:Bk X N sc k) (ha:DE X a fa) (hb:DE X b fb):DE X (.Compare a [.NotEq] [b] pos) (f2 gNeD fa fb):=de_cmp (op_neD C.u64) sem_D2 ha hb (nomark _)
theorem Bk.isin (C:Bk X N sc k) (ha:DE X a fa) (hb:DE X b fb) (hm:behindInMarks .In b = false:=by rfl):DE X (.Compare a [.In] [b] pos) (f2 gInD fa fb):=de_cmp (op_inD C.u66) sem_D2 ha hb hm
theorem Bk.tlt (C:Bk X N sc k) (ha:DE X a fa) (hb:DE X b fb):DT X (.Compare a [.Lt] [b] pos) (fB (f2 gLt fa fb)):=dt_cmp op_lt sem_B0 ha hb (nomark _)
theorem Bk.tle (C:Bk X N sc k) (ha:DE X a fa) (hb:DE X b fb):DT X (.Compare a [.LtE] [b] pos) (fB (f2 gLe fa fb)):=dt_cmp op_le sem_B0 ha hb (nomark _)
theorem Bk.tgt (C:Bk X N sc k) (ha:DE X a fa) (hb:DE X b fb):DT X (.Compare a [.Gt] [b] pos) (fB (f2 gGt fa fb)):=dt_cmp op_gt sem_B0 ha hb (nomark _)
theorem Bk.tge (C:Bk X N sc k) (ha:DE X a fa) (hb:DE X b fb):DT X (.Compare a [.GtE] [b] pos) (fB (f2 gGe fa fb)):=dt_cmp (op_ge.or (op_geT C.room.units0)) (sem_or sem_B0 sem_D2) ha hb (nomark _)
theorem Bk.teq (C:Bk X N sc k) (ha:DE X a fa) (hb:DE X b fb):DT X (.Compare a [.Eq] [b] pos) (fB (f2 gEqD fa fb)):=dt_cmp (op_eqD C.u64) sem_D2 ha hb (nomark _)
theorem Bk.tne (C:Bk X N sc k) (ha:DE X a fa) (hb:DE X b fb):DT X (.Compare a [.NotEq] [b] pos) (fB (f2 gNeD fa fb)):=dt_cmp (op_neD C.u64) sem_D2 ha hb (nomark _)
theorem Bk.tin (C:Bk X N sc k) (ha:DE X a fa) (hb:DE X b fb) (hm:behindInMarks .In b = false:=by rfl):DT X (.Compare a [.In] [b] pos) (fB (f2 gInD fa fb)):=dt_cmp (op_inD C.u66) sem_D2 ha hb hm
noncomputable def gCutA:D->Option Int->Option Int->Option D | .tuple ds,lo,hi=>some (.tuple (cut ds lo hi)) | .list ds,lo,hi=>some (.list (cut ds lo hi)) | _,_,_=>none
theorem Bk.cut (C:Bk X N sc k) {lo hi:Option Expr} {fl fh:Env->Option (Option Int)} (ha:DE X a fa) (hl:DO X lo fl) (hh:DO X hi fh):DE X (.Subscript a (.Slice lo hi none p2) pos) (fCut gCutA fa fl fh):=pe_imp (pe_slice (sl_any.or sl_list) ha hl hh) fun σ H Q ⟨HF,ρ,d,sm,eo,hf,q⟩=>by
  obtain ⟨x,hx,hf⟩:=bs hf
  obtain ⟨l,hl,hf⟩:=bs hf
  obtain ⟨u,hu,hf⟩:=bs hf
  refine ⟨HF,ρ,x,sm,eo,hx,fun v1 H1 HF1 g1 r1=>⟨HF1,ρ,l,g1.fh,eo.mono g1.ff,hl,fun H2 HF2 g2=>⟨HF2,ρ,u,g2.fh,eo.mono (g1.ff.trans g2.ff),hu,fun H3 HF3 g3=>?_⟩⟩⟩
  have G:=(g1.trans g2).trans g3
  have r3:=r1.mono (g2.ff.trans g3.ff)
  cases x <;> try cases hf
  · simp only [Rep] at r3
    obtain ⟨b,vs,rfl,hs,rr⟩:=r3
    refine .inr ⟨b,vs,rfl,G.fh.seq hs,fun p hp=>q _ _ _ (G.trans (.new G.fh hp)) ?_⟩
    simp only [Rep]
    exact ⟨p,_,rfl,.inl (.inl upd_same),(reps_cut rr l u).mono (same_upd (G.fh.free hp))⟩
  · simp only [Rep] at r3
    obtain ⟨b,vs,rfl,hs,rr⟩:=r3
    refine .inl ⟨b,vs,rfl,same_tup G.fh hs,fun e=>q _ H3 HF3 G ?_,fun p hp=>q _ _ _ (G.trans (.new G.fh hp)) (rep_newtup (G.fh.free hp) (reps_cut rr l u))⟩
    simp only [Rep]
    refine ⟨b,vs,rfl,hs,?_⟩
    have:=reps_cut rr l u
    rw [e] at this
    exact this
noncomputable def gNeg:D->Option D | .int i=>some (.int (-i)) | _=>none
theorem Bk.neg (C:Bk X N sc k) (ha:DE X a fa):DE X (.UnaryOp .USub a pos) (f1 gNeg fa):=pe_imp (pe_un un_neg ha) fun σ H Q ⟨HF,ρ,d,sm,eo,hf,q⟩=>by
  obtain ⟨x,hx,hf⟩:=bs hf
  refine ⟨HF,ρ,x,sm,eo,hx,fun v1 H1 HF1 g1 r1=>?_⟩
  cases x <;> try cases hf
  exact ⟨_,by simpa only [Rep] using r1,q _ H1 HF1 g1 (by simp [Rep])⟩
theorem bo_len:bootBuiltins "len" = some (.builtin "len"):=by decide +kernel
theorem bo_isinstance:bootBuiltins "isinstance" = some (.builtin "isinstance"):=by decide +kernel
theorem bo_tuple:bootBuiltins "tuple" = some (.type "tuple"):=by decide +kernel
theorem bo_list:bootBuiltins "list" = some (.type "list"):=by decide +kernel
theorem bo_range:bootBuiltins "range" = some (.type "range"):=by decide +kernel
theorem bo_all:bootBuiltins "all" = some (.builtin "all"):=by decide +kernel
theorem bo_set:bootBuiltins "set" = some (.type "set"):=by decide +kernel
theorem bo_sorted:bootBuiltins "sorted" = some (.builtin "sorted"):=by decide +kernel
theorem bo_enumerate:bootBuiltins "enumerate" = some (.type "enumerate"):=by decide +kernel
theorem bo_zip:bootBuiltins "zip" = some (.type "zip"):=by decide +kernel
end
end Dl
namespace Dl
open PySem L2 PySem.Spec PyProof.Rows
noncomputable abbrev fLs (f:Env->Option (List D)):Env->Option D:=fun ρ=>(f ρ).map PyData.list
noncomputable abbrev gTuple:List D->Option D:=fun ds=>(gItems ds).map PyData.tuple
section
variable {X:Cx} {N:List Str} {sc:Scope} {k:Nat}
theorem Bk.locl (C:Bk X N sc k) {x:Str} (h:decide (sc.names.lookup x = some .local) = true):X.env.scope.names.lookup x = some .local:=by
  rcases C.tb x _ (of_decide_eq_true h) with q | ⟨q,_⟩
  · exact q
  · cases q
noncomputable def isStar:Expr->Bool | .Starred ..=>true | _=>false
theorem star_of {e:Expr} {es:List Expr} {env:PySem.Env} (h:isStar e = false):starEach (e :: es) env = (false,eval e env) :: starEach es env:=by
  cases e <;> first | rfl | cases h
theorem da_con {e:Expr} {es:List Expr} {f:Env->Option D} {g:Env->Option (List D)} (he:DE X e f) (hs:DA X es g) (h:isStar e = false:=by rfl):DA X (e :: es) (fCons f g):=da_cons he hs (star_of h)
theorem swap_val {elt:Expr} {gens:List Comprehension} {scope:Scope} {pos py:Pos} {x:Str} {line:Nat} {env:PySem.Env}:swapsWith (.ListComp elt gens scope pos) (some (.Name x py)) line env = pure (env.blockKind == .function && env.kindOf x == some .local && py.line == pos.line
      && !(scope.names.any fun (n,k)=>n == x && (k == .local || k == .cell))):=rfl
theorem bkind {env:PySem.Env} (h:env.scope.kind = .function):env.blockKind = .function:=by unfold PySem.Env.blockKind; rw [h]; rfl
theorem Bk.swap (C:Bk X N sc k) {elt:Expr} {gens:List Comprehension} {scope:Scope} {pos py:Pos} {x:Str} {line:Nat} (h:decide (sc.names.lookup x = some .local) = true) (h2:(py.line == pos.line && !(scope.names.any fun (n,k)=>n == x && (k == .local || k == .cell))) = true) :
    swapsWith (.ListComp elt gens scope pos) (some (.Name x py)) line X.env = pure true:=by
  rw [swap_val,bkind C.kd,show X.env.kindOf x = some .local from C.locl h]
  rw [Bool.and_assoc,h2]
  rfl
theorem Bk.noswap (C:Bk X N sc k) {elt:Expr} {gens:List Comprehension} {scope:Scope} {pos py:Pos} {x:Str} {line:Nat} (h:decide (sc.names.lookup x = some .cell) = true) :
    swapsWith (.ListComp elt gens scope pos) (some (.Name x py)) line X.env = pure false:=by
  have q:X.env.kindOf x = some .cell:=by
    rcases C.tb x _ (of_decide_eq_true h) with q | ⟨q,_⟩
    · exact q
    · cases q
  rw [swap_val,q,bkind C.kd]
  rfl
end
end Dl
namespace Dl
open PySem L2 PySem.Spec PyProof.Rows
section
variable {K:PySem.W.Frag}
structure DefIn (K:PySem.W.Frag) (x:Str) (st:Stmt) (ps:List Str):Prop where
  ex:∃ (f:Addr) (fd:FuncData),PySem.W.nsIn K mainGlobals x = some (some (.ref f))/\Fun K x x st f fd/\Binds K fd ps []
structure DefM (K:PySem.W.Frag) (mg:Str->Option Value) (x:Str) (st:Stmt) (ps:List Str):Prop where
  ex:∃ (f:Addr) (fd:FuncData),mg x = some (.ref f)/\Fun K x x st f fd/\Binds K fd ps []
theorem DefIn.mg {h:Heap} {mg:Str->Option Value} {x:Str} {st:Stmt} {ps:List Str} (D:DefIn K x st ps) (X:K.In h) (G:h.Ns mainGlobals mg):DefM K mg x st ps:=by
  obtain ⟨f,fd,a,b,c⟩:=D.ex
  exact ⟨f,fd,PySem.W.mg_of X G a,b,c⟩
noncomputable def bindsB (st:Stmt) (ps:List Str):Prop:=∀ (x qual:Str) (kV doc pm:Value) (an:Option Addr) (cdv ct:Value) (us:List Value),us.length = ps.length->bindArgs (PySem.W.fnOf x qual (defArgs st) (defBody st) (defScope st) .none kV doc pm an cdv ct) ⟨us,[]⟩ = pure (ps.zip us)
theorem defIn {x:Str} {st:Stmt} {ps:List Str} {f:Addr} {oc:Value} {od an:Option Addr} {osl:Array (Option Value)} {kV doc pm cdv ct:Value} (hb:bindsB st ps) (a:PySem.W.nsIn K mainGlobals x = some (some (.ref f))) (l:K.lookup f = some ⟨oc,od,.func (PySem.W.fnOf x x (defArgs st) (defBody st) (defScope st) .none kV doc pm an cdv ct),osl⟩)
    (c:PySem.W.codeIn K cdv x = true) (k:PySem.W.keepIn K (.ref f) = true):DefIn K x st ps:=⟨f,_,a,fun_mk (st:=st) l c k,(fun_mk (st:=st) l c k).binds fun kV doc pm an cdv ct us h=>hb _ _ kV doc pm an cdv ct us h⟩
structure LefIn (K:PySem.W.Frag) (x:Str) (st:Stmt) (ps:List Str):Prop where
  ex:∃ (f:Addr) (fd:FuncData) (c P:Addr),PySem.W.nsIn K mainGlobals x = some (some (.ref f))/\Fun K x x st f fd/\Binds K fd ps []/\fd.code = .ref c/\PySem.W.codeHdIn K c P = true
structure LefM (K:PySem.W.Frag) (mg:Str->Option Value) (x:Str) (st:Stmt) (ps:List Str):Prop where
  ex:∃ (f:Addr) (fd:FuncData) (c P:Addr),mg x = some (.ref f)/\Fun K x x st f fd/\Binds K fd ps []/\fd.code = .ref c/\PySem.W.codeHdIn K c P = true
theorem LefIn.mg {h:Heap} {mg:Str->Option Value} {x:Str} {st:Stmt} {ps:List Str} (D:LefIn K x st ps) (X:K.In h) (G:h.Ns mainGlobals mg):LefM K mg x st ps:=by
  obtain ⟨f,fd,c,P,a,b⟩:=D.ex
  exact ⟨f,fd,c,P,PySem.W.mg_of X G a,b⟩
noncomputable def hdOf (K:PySem.W.Frag) (c:Addr):Addr:=match K.lookup c with
  | some ⟨_,_,.fields vs,_⟩=>(match (vs[11]?:Option Value) with | some (.ref P)=>P | _=>0)
  | _=>0
theorem lefIn {x:Str} {st:Stmt} {ps:List Str} {f c:Addr} {oc:Value} {od an:Option Addr} {osl:Array (Option Value)} {kV doc pm ct:Value} (hb:bindsB st ps) (a:PySem.W.nsIn K mainGlobals x = some (some (.ref f))) (l:K.lookup f = some ⟨oc,od,.func (PySem.W.fnOf x x (defArgs st) (defBody st) (defScope st) .none kV doc pm an (.ref c) ct),osl⟩)
    (cd:PySem.W.codeIn K (.ref c) x = true) (k:PySem.W.keepIn K (.ref f) = true) (hh:PySem.W.codeHdIn K c (hdOf K c) = true):LefIn K x st ps:=⟨f,_,c,hdOf K c,a,fun_mk (st:=st) l cd k,(fun_mk (st:=st) l cd k).binds fun kV doc pm an cdv ct us h=>hb _ _ kV doc pm an cdv ct us h,rfl,hh⟩
theorem intIn {x:Str} {i:Int} {t:Tok} (h:PySem.W.nsIn K mainGlobals x = some (some (.int i t))):∃ t,PySem.W.nsIn K mainGlobals x = some (some (.int i t)):=⟨t,h⟩
theorem bltAll {K:PySem.W.Frag} (h0:PySem.W.nsIn K mainGlobals "len" = some none) (h1:PySem.W.nsIn K mainGlobals "isinstance" = some none) (h2:PySem.W.nsIn K mainGlobals "int" = some none) (h3:PySem.W.nsIn K mainGlobals "bool" = some none) (h4:PySem.W.nsIn K mainGlobals "tuple" = some none) (h5:PySem.W.nsIn K mainGlobals "list" = some none) (h6:PySem.W.nsIn K mainGlobals "range" = some none) (h7:PySem.W.nsIn K mainGlobals "all" = some none) (h8:PySem.W.nsIn K mainGlobals "any" = some none) (h9:PySem.W.nsIn K mainGlobals "set" = some none) (h10:PySem.W.nsIn K mainGlobals "sorted" = some none) (h11:PySem.W.nsIn K mainGlobals "enumerate" = some none) (h12:PySem.W.nsIn K mainGlobals "zip" = some none) (h13:PySem.W.nsIn K mainGlobals "sum" = some none) (h14:PySem.W.nsIn K mainGlobals "min" = some none) (h15:PySem.W.nsIn K mainGlobals "max" = some none) (h16:PySem.W.nsIn K mainGlobals "reversed" = some none):∀ x ∈ bltNames,PySem.W.nsIn K mainGlobals x = some none:=by
  intro x hx
  simp only [bltNames,List.mem_cons,List.not_mem_nil,or_false] at hx
  rcases hx with rfl | rfl | rfl | rfl | rfl | rfl | rfl | rfl | rfl | rfl | rfl | rfl | rfl | rfl | rfl | rfl | rfl <;> assumption
theorem spD_script {K:PySem.W.Frag} {H:Hp} {a:Addr} {ns:List Int} {m:List D->Option D} (hS:SqL K H a (ns.map V.int)) (hT:TabsIn K H) (h:m [.list (ns.map PyData.int)] = some (.bool true)) {X:_}:spD K 1 m [.ref a] H (fun v _=>v = .bl true) X:=by
  refine ⟨H,[.list (ns.map PyData.int)],.bool true,.refl _,hT,Reps.cons ?_ Reps.nil,rfl,h,fun v H' HF' G r=>by simpa only [Rep] using r⟩
  simp only [Rep]
  refine ⟨a,_,rfl,hS,?_⟩
  clear h hS hT
  induction ns with
  | nil=>exact Reps.nil
  | cons n ns ih=>exact Reps.cons (by simp [Rep]) ih
end
end Dl
namespace Dl
open PySem L2 PySem.Spec PyProof.Rows
end Dl
namespace Dl
open PySem L2 PySem.Spec PyProof.Rows
theorem da_c {X:Cx} {e:Expr} {es:List Expr} {f:Env->Option D} {g:Env->Option (List D)} (h:isStar e = false) (he:DE X e f) (hs:DA X es g):DA X (e :: es) (fCons f g):=da_con he hs h
end Dl
namespace Dl
open PySem L2 PySem.Spec PyProof.Rows
section
variable {X:Cx} {N:List Str} {sc:Scope} {k:Nat} {HF₀ H₀:Hp} {e c:Expr} {es:List Expr} {fs:Env->Option (List D)} {pos p:Pos}
noncomputable def gNo:SEnv->Option Out:=fun _=>none
theorem ds_no {st:Stmt}:DS X HF₀ H₀ st gNo:=fun pins s σ H E I ⟨HF,ρ,o,S,hg,q⟩=>by cases hg
noncomputable def gExp (f:Env->Option D):SEnv->Option Out:=fun ρ=>(f (vAll ρ)).map fun _=>.nx ρ
theorem ds_expr {f:Env->Option D} (hs:swapsWith e none pos.line X.env = pure false) (h:DE X e f):DS X HF₀ H₀ (.Expr e pos) (gExp f):=ps_imp (ps_expr h hs) fun E σ H ⟨HF,ρ,o,S,hg,q⟩=>by
  obtain ⟨d,h,rfl⟩:=map_some hg
  exact ⟨H,vAll ρ,d,.refl _,S.all,h,fun v H' HF' G r=>q σ H' HF (S.step G.hh) (.refl _)⟩
noncomputable def whD (t:Env->Option Bool) (gb:SEnv->Option Out):Nat->SEnv->Option Out
  | 0,_=>none
  | n + 1,ρ=>(t (vAll ρ)).bind fun b=>if b = true then (gb ρ).bind fun | .nx ρ'=>whD t gb n ρ' | .rt d=>some (.rt d) else some (.nx ρ)
theorem ds_while (n:Nat) {body:List Stmt} {t:Env->Option Bool} {gb:SEnv->Option Out} (hp:PassesOwn (model X.prog X.w) X.A X.env X.xe) (hc:DT X c t) (hb:DSs X HF₀ H₀ body gb):DS X HF₀ H₀ (.While c body [] pos) (whD t gb n) :=
  ps_imp (ps_while hp hc hb) fun E σ H ⟨HF,ρ,o,S,hg,q⟩=>by
    refine ⟨fun m σ' H'=>∃ HF' ρ',SOk X.K HF₀ H₀ HF' H' ρ' σ'/\Same HF HF'/\whD t gb m ρ' = some o,⟨n,HF,ρ,S,.refl _,hg⟩,?_⟩
    rintro m σ' H' ⟨HF',ρ',S',s',hf⟩
    cases m with
    | zero=>cases hf
    | succ m =>
      unfold whD at hf
      obtain ⟨b,hb,hf⟩:=bs hf
      refine ⟨H',vAll ρ',b,.refl _,S'.all,hb,fun H1 HF1 G=>?_⟩
      cases b with
      | false =>
        rw [if_neg Bool.false_ne_true] at hf ⊢
        cases hf
        exact q σ' H1 HF' (S'.step G.hh) s'
      | true =>
        rw [if_pos rfl] at hf ⊢
        obtain ⟨o1,h2,hf⟩:=bs hf
        refine ⟨fun σ2 H3=>∃ HF3 ρ3,SOk X.K HF₀ H₀ HF3 H3 ρ3 σ2/\Same HF HF3/\whD t gb m ρ3 = some o,fun σ2 H3 ⟨HF3,ρ3,a1,a2,a3⟩=>⟨m,Nat.lt_succ_self _,HF3,ρ3,a1,a2,a3⟩,HF',ρ',o1,S'.step G.hh,h2,?_⟩
        cases o1 with
        | nx ρ2=>exact fun σ4 H4 HF4 S4 s4=>⟨HF4,ρ2,S4,s'.trans s4,hf⟩
        | rt d=>cases hf; exact q
noncomputable def gMin:List D->Option D
  | [.int a,.int b]=>some (.int (min a b))
  | [.int a,.int b,.int c]=>some (.int (min (min a b) c))
  | _=>none
theorem call_min (hc:X.calm = true):CallR X (.builtin "min") (fun xs H Q=>(∃ a b:Int,xs = [.int a,.int b]/\Q (.int (min a b)) H)\/(∃ a b c:Int,xs = [.int a,.int b,.int c]/\Q (.int (min (min a b) c)) H)):=by
  intro pins s σ H xs us Q I r h
  have hh:X.A.handled = none:=I.ok.hd hc
  rcases h with ⟨a,b,rfl,q⟩ | ⟨a,b,c,rfl,q⟩
  · cases r with
    | cons r1 r =>
      cases r with
      | cons r2 r =>
        cases r
        obtain ⟨t,rfl⟩:=r1
        obtain ⟨u,rfl⟩:=r2
        refine min_two_ints hh fun h' tk kp=>⟨.int (min a b),H,I.kept (t':=tk) kp,?_,q⟩
        by_cases h:b < a
        · rw [if_pos h,show min a b = b by omega]; exact ⟨_,rfl⟩
        · rw [if_neg h,show min a b = a by omega]; exact ⟨_,rfl⟩
  · cases r with
    | cons r1 r =>
      cases r with
      | cons r2 r =>
        cases r with
        | cons r3 r =>
          cases r
          obtain ⟨t,rfl⟩:=r1
          obtain ⟨u,rfl⟩:=r2
          obtain ⟨x,rfl⟩:=r3
          refine min_three_ints hh fun h' tk kp=>⟨.int (min (min a b) c),H,I.kept (t':=tk) kp,?_,q⟩
          by_cases h:b < a
          · rw [if_pos h]
            by_cases h2:c < b
            · rw [if_pos h2,show min (min a b) c = c by omega]; exact ⟨_,rfl⟩
            · rw [if_neg h2,show min (min a b) c = b by omega]; exact ⟨_,rfl⟩
          · rw [if_neg h]
            by_cases h2:c < a
            · rw [if_pos h2,show min (min a b) c = c by omega]; exact ⟨_,rfl⟩
            · rw [if_neg h2,show min (min a b) c = a by omega]; exact ⟨_,rfl⟩
theorem reps_set {K:PySem.W.Frag} {H:Hp} {d:D} {v:V} (r:Rep K H d v):∀ {ds:List D} {vs:List V} (j:Nat),Reps K H ds vs->Reps K H (ds.set j d) (vs.set j v)
  | [],vs,j,h=>by rw [h.nil_inv]; exact Reps.nil
  | x :: ds,vs,j,h=>by
    obtain ⟨u,us,rfl,a,b⟩:=h.cons_inv
    cases j with
    | zero=>exact Reps.cons r b
    | succ j=>exact Reps.cons a (reps_set r j b)
noncomputable def gSto (i:Nat) (fz:List Nat) (fk f:Env->Option D):SEnv->Option Out:=fun ρ=>(itemD fz f ρ).bind fun p=>(fk (vAll p.2)).bind fun kd=>match kd with
  | .int k=>gMut i (fun ds=>(ixN ds.length k).map fun j=>ds.set j p.1) p.2
  | _=>none
theorem ds_store (i:Nat) (fz:List Nat) {x:Str} {e2:Expr} {px spos:Pos} {fk f:Env->Option D} (hN:X.N[i]? = some x) (hv:Vis X.env.scope x) (hk:DE X e fk) (h:DE X e2 f) (hd:(x == ("__debug__":Str)) = false:=by decide) (hcd:(x == ("__classdict__":Str)) = false:=by decide)
    (ha:∀ v,assign (.Subscript (.Name x px) e spos) X.env v = (do
      let ov <- holding [v] (eval (.Name x px) X.env)
      let iv <- holding [v,ov] (eval e X.env)
      standAt spos
      holding [v,ov,iv] (setItem ov iv v)
      release [v,ov,iv] []):=by intro _; rfl)
    (hs:swapsWithSole [.Subscript (.Name x px) e spos] e2 pos.line X.env = pure false:=by rfl) (hw:swappedStores [.Subscript (.Name x px) e spos] e2 X.env = pure none:=by rfl)
    (h1:(assignEach [.Subscript (.Name x px) e spos] X.env).map (·.2) = [assign (.Subscript (.Name x px) e spos) X.env]:=by rfl):DS X HF₀ H₀ (.Assign [.Subscript (.Name x px) e spos] e2 pos) (gSto i fz fk f) :=
  ps_imp (ps_asg h (pg_sub (pe_var hN hv hd hcd) hk set_list ha) hs hw h1) fun E σ H ⟨HF,ρ,o,S,hg,q⟩=>by
    obtain ⟨⟨d,ρ'⟩,h1,hg⟩:=bs hg
    obtain ⟨kd,h2,hg⟩:=bs hg
    cases kd <;> try cases hg
    rename_i k
    obtain ⟨ds,es,h3,h4,rfl⟩:=gMut_some hg
    obtain ⟨j,hj,rfl⟩:=map_some h4
    refine itemD_run S h1 fun v H1 HF1 s1 S1 s2 r=>?_
    obtain ⟨a,vs,e1,e2,e3,e5,e4⟩:=S1.own i ds h3
    refine ⟨.ref a,e1,H1,vAll ρ',.int k,.refl _,S1.all,h2,fun kv H2 HF2 G rk=>?_⟩
    simp only [Rep] at rk
    have S2:=S1.step G.hh
    obtain ⟨a',vs',f1,f2,f3,f5,f4⟩:=S2.own i ds h3
    rw [e1] at f1; cases f1
    exact ⟨a,vs',k,j,rfl,rk,f2,by rw [f4.length]; exact hj,q σ _ HF1 (S2.mut h3 e1 f2 (reps_set r j f4)) s1⟩
end
end Dl
namespace Dl
open PySem L2 PySem.Spec PyProof.Rows
section
variable {X:Cx} {N:List Str} {sc:Scope} {k:Nat} {HF₀ H₀:Hp} {a b e c:Expr} {es:List Expr} {fa fb:Env->Option D} {fs:Env->Option (List D)} {pos p:Pos}
noncomputable def isN:D->Bool | .none=>true | _=>false
theorem rep_non {K:PySem.W.Frag} {HF:Hp} {d:D} {v:V} (r:Rep K HF d v):decide (v = .non) = isN d:=by
  cases d <;> simp only [Rep] at r <;> first
    | (subst r; rfl)
    | (obtain ⟨a,vs,rfl,_⟩:=r; rfl)
    | exact r.elim
noncomputable def gIsN:D->D->Option D:=fun x y=>if isN y = true then some (.bool (isN x)) else none
noncomputable def gNotN:D->D->Option D:=fun x y=>if isN y = true then some (.bool (!isN x)) else none
theorem sem_isN {K:PySem.W.Frag}:Sem2 K (fun x y H Q=>y = .non/\Q (.bl (decide (x = .non))) H) gIsN:=by
  intro HF H x y v1 v2 d Q sm r1 r2 hg q
  unfold gIsN at hg
  split at hg
  · rename_i h
    cases hg
    have h2:=rep_non r2
    rw [h,decide_eq_true_eq] at h2
    refine ⟨h2,?_⟩
    rw [rep_non r1]
    exact q _ H HF (.refl sm) (by simp [Rep])
  · cases hg
theorem sem_notN {K:PySem.W.Frag}:Sem2 K (fun x y H Q=>y = .non/\Q (.bl (!decide (x = .non))) H) gNotN:=by
  intro HF H x y v1 v2 d Q sm r1 r2 hg q
  unfold gNotN at hg
  split at hg
  · rename_i h
    cases hg
    have h2:=rep_non r2
    rw [h,decide_eq_true_eq] at h2
    refine ⟨h2,?_⟩
    rw [rep_non r1]
    exact q _ H HF (.refl sm) (by simp [Rep])
  · cases hg
theorem Bk.is0 (C:Bk X N sc k) (ha:DE X a fa) (hb:DE X b fb):DE X (.Compare a [.Is] [b] pos) (f2 gIsN fa fb):=de_cmp op_isN sem_isN ha hb (nomark _)
theorem Bk.not0 (C:Bk X N sc k) (ha:DE X a fa) (hb:DE X b fb):DE X (.Compare a [.IsNot] [b] pos) (f2 gNotN fa fb):=de_cmp op_notN sem_notN ha hb (nomark _)
theorem Bk.tis0 (C:Bk X N sc k) (ha:DE X a fa) (hb:DE X b fb):DT X (.Compare a [.Is] [b] pos) (fB (f2 gIsN fa fb)):=dt_cmp op_isN sem_isN ha hb (nomark _)
theorem Bk.tnot0 (C:Bk X N sc k) (ha:DE X a fa) (hb:DE X b fb):DT X (.Compare a [.IsNot] [b] pos) (fB (f2 gNotN fa fb)):=dt_cmp op_notN sem_notN ha hb (nomark _)
theorem de_min (hc:X.calm = true) (B:Blt X "min" (.builtin "min")) (he:starEach (e :: es) X.env = (false,eval e X.env) :: starEach es X.env) (hpl:(backTo pos (starEach es X.env)).any (·.1) = false) (ha:DA X (e :: es) fs):DE X (.Call (.Name "min" p) (e :: es) [] pos) (fCB gMin fs) :=
  de_callB (call_min hc) (by
    intro HF H ds vs d Q sm r hg q
    unfold gMin at hg
    split at hg
    · cases hg
      obtain ⟨v1,r1,rfl,a1,b1⟩:=r.cons_inv
      obtain ⟨v2,r2,rfl,a2,b2⟩:=b1.cons_inv
      rw [b2.nil_inv]
      simp only [Rep] at a1 a2
      exact .inl ⟨_,_,by rw [a1,a2],q _ H HF (.refl sm) (by simp [Rep])⟩
    · cases hg
      obtain ⟨v1,r1,rfl,a1,b1⟩:=r.cons_inv
      obtain ⟨v2,r2,rfl,a2,b2⟩:=b1.cons_inv
      obtain ⟨v3,r3,rfl,a3,b3⟩:=b2.cons_inv
      rw [b3.nil_inv]
      simp only [Rep] at a1 a2 a3
      exact .inr ⟨_,_,_,by rw [a1,a2,a3],q _ H HF (.refl sm) (by simp [Rep])⟩
    · cases hg) B ha (by decide) (by decide) he hpl
end
end Dl
namespace Dl
open PySem L2 PySem.Spec PyProof.Rows
section
variable {X:Cx} {a b e c:Expr} {es:List Expr} {fa fb:Env->Option D} {fl fs:Env->Option (List D)} {pos p:Pos}
noncomputable def gRepF (ds:List D):D->Option (List D)
  | .int k=>if okR k = true/\ds.length * k.toNat<=sizeLine then some (List.replicate k.toNat ds).flatten else none
  | _=>none
noncomputable def fRepF (fl:Env->Option (List D)) (fb:Env->Option D):Env->Option (List D):=fun ρ=>(fl ρ).bind fun ds=>(fb ρ).bind (gRepF ds)
theorem df_rep (ha:DF X a fl) (hb:DE X b fb):DF X (.BinOp a .Mult b pos) (fRepF fl fb):=pe_imp (pe_op op_rep ha hb) fun σ H Q ⟨HF,ρ,d,sm,eo,hf,q⟩=>by
  obtain ⟨ds,hx,hf⟩:=bs hf
  obtain ⟨y,hy,hg⟩:=bs hf
  refine ⟨HF,ρ,ds,sm,eo,hx,fun l vs H1 HF1 g1 h0 hn h1 r1=>⟨HF1,ρ,y,g1.fh,eo.mono g1.ff,hy,fun v2 H2 HF2 g2 r2=>?_⟩⟩
  cases y <;> try cases hg
  rename_i k
  have hg:(if okR k = true/\ds.length * k.toNat<=sizeLine then some (List.replicate k.toNat ds).flatten else none) = some d:=hg
  split at hg
  · rename_i hz
    cases hg
    simp only [Rep] at r2
    have r1:=r1.mono g2.ff
    have G:=g1.trans g2
    have ok:=hz.1
    simp only [okR,Bool.and_eq_true,decide_eq_true_eq] at ok
    exact ⟨l,k,vs,rfl,r2,g2.hh _ _ h1,by omega,by omega,by rw [r1.length]; exact hz.2,fun p hp=>q p _ _ HF2 (G.trans (.own G.fh hp)) (G.hh.free hp) (G.fh.free hp) upd_same (reps_rep r1 _)⟩
  · cases hg
theorem call_any_l (hc:X.calm = true):CallR X (.builtin "any") (fun xs H Q=>∃ (a:Addr) (bs:List Bool),xs = [.ref a]/\SqL X.K H a (bs.map V.bl)/\Q (.bl (bs.any id)) H):=by
  intro pins s σ H xs us Q I r h
  obtain ⟨a,bs,rfl,hq,q⟩:=h
  obtain ⟨u,rfl,rx⟩:=vals1 r
  cases rx
  obtain ⟨its,rv,pl,hz⟩:=I.list hq
  have hv:=vals_bools rv
  subst hv
  have hh:X.A.in1.handled = none:=I.ok.hd hc
  refine call_any_walk (wpAny_pyIter_list pl.isList ?_)
  obtain ⟨o,ho,hcl,n,hd⟩:=pl.isList
  have hne:a ≠ s.heap.objs.size:=Nat.ne_of_lt (Heap.lt_size ho)
  refine ⟨_,_,_,_,_,_,fun i=>bs.getD i false,rfl,Walks.list hh s.heap.objs.size a hne (bs.map Value.bool).toArray,⟨⟨_,Heap.get?_push_size _ rfl,rfl,rfl⟩,pl.isList.push _⟩,fun i v s' Q' E' hP hQ=>?_,fun h' tk kp=>?_⟩
  · have e:v = Value.bool (bs.getD i false):=by
      have hP:(bs.map Value.bool).toArray[i]? = some v:=hP
      rw [List.getElem?_toArray,List.getElem?_map] at hP
      obtain ⟨b,hb,rfl⟩:=map_some hP
      rw [List.getD_eq_getElem?_getD,hb]
      rfl
    subst e
    exact wpAny_truthy_bool hQ
  · refine ⟨.bl (bs.any id),H,?_,?_,q⟩
    · exact I.kept (t':=tk) fun b o' e=>kp b o' (by simp; exact Nat.ne_of_lt (Heap.lt_size e)) (Heap.get?_push_of_some _ e)
    · show Value.bool _ = Value.bool _
      have:=range_any bs
      simp only [List.size_toArray,List.length_map]
      rw [this]
end
end Dl
namespace Dl
open PySem L2 PySem.Spec PyProof.Rows
section
variable {X:Cx} {e:Expr} {fs:Env->Option (List D)} {pos p:Pos}
theorem de_any (hc:X.calm = true) (B:Blt X "any" (.builtin "any")) (he:starEach [e] X.env = (false,eval e X.env) :: starEach [] X.env) (ha:DA X [e] fs):DE X (.Call (.Name "any" p) [e] [] pos) (fCB (fun ds=>(oneOf ds).bind fun d=>match d with
  | .list es=>(boolsOf es).map fun bs=>.bool (bs.any id)
  | _=>none) fs) :=
  de_callB (call_any_l hc) (by
    intro HF H ds vs d Q sm r hg q
    obtain ⟨x,hx,hg⟩:=bs hg
    rw [oneOf_some hx] at r
    cases x <;> try cases hg
    obtain ⟨bs,hb,rfl⟩:=map_some hg
    obtain ⟨v,r',rfl,a,b⟩:=r.cons_inv
    rw [b.nil_inv]
    simp only [Rep] at a
    obtain ⟨p,us,rfl,h,rr⟩:=a
    rw [boolsOf_some hb] at rr
    have:=reps_bools rr
    subst this
    exact ⟨p,bs,rfl,sm.seq h,q _ H HF (.refl sm) (by simp [Rep])⟩) B ha (by decide) (by decide) he rfl
theorem preSum_take (ns:List Int):∀ j:Nat,preSum (fun i=>ns.getD i 0) j = (ns.take j).sum
  | 0=>by simp [preSum]
  | j + 1=>by
    rw [preSum,preSum_take ns j,List.take_add_one,List.sum_append]
    congr 1
    rw [List.getD_eq_getElem?_getD]
    cases ns[j]? <;> simp
theorem preSum_bd (val:Nat->Int) (B:Int) (h:∀ i,-B<=val i/\val i<=B):∀ j:Nat,-(B * j)<=preSum val j/\preSum val j<=B * j
  | 0=>by simp [preSum]
  | j + 1=>by
    have ih:=preSum_bd val B h j
    have:=h j
    rw [preSum]
    have e:B * ((j + 1:Nat):Int) = B * (j:Int) + B:=by rw [Int.natCast_add,Int.mul_add]; simp
    rw [e]
    omega
noncomputable def okS (ns:List Int):Bool:=decide (ns.length<=1000) && ns.all fun n=>decide (-1000000<=n) && decide (n<=1000000)
theorem okS_bd {ns:List Int} (h:okS ns = true):ns.length<=1000/\∀ i,-1000000<=ns.getD i 0/\ns.getD i 0<=1000000:=by
  unfold okS at h
  rw [Bool.and_eq_true,decide_eq_true_eq,List.all_eq_true] at h
  refine ⟨h.1,fun i=>?_⟩
  rw [List.getD_eq_getElem?_getD]
  cases e:ns[i]? with
  | none=>simp
  | some n =>
    have:=h.2 n (List.mem_of_getElem? e)
    simpa using this
theorem ints_at {ns:List Int} {its:List Value} (r:Vals (ns.map V.int) its) {i:Nat} {v:Value} (h:its.toArray[i]? = some v):∃ t,v = .int (ns.getD i 0) t:=by
  rw [List.getElem?_toArray] at h
  induction ns generalizing its i with
  | nil=>cases r; simp at h
  | cons n ns ih =>
    cases r with
    | cons r1 rr =>
      cases i with
      | zero =>
        simp only [List.getElem?_cons_zero,Option.some.injEq] at h
        subst h
        obtain ⟨t,rfl⟩:=r1
        exact ⟨t,rfl⟩
      | succ i =>
        simp only [List.getElem?_cons_succ] at h
        exact ih rr h
theorem call_sum_s (hc:X.calm = true):CallR X (.builtin "sum") (fun xs H Q=>∃ (a:Addr) (ns:List Int),xs = [.ref a]/\(SqL X.K H a (ns.map V.int)\/SqT X.K H a (ns.map V.int))/\okS ns = true/\Q (.int ns.sum) H):=by
  intro pins s σ H xs us Q I r h
  obtain ⟨a,ns,rfl,hq,hok,q⟩:=h
  obtain ⟨u,rfl,rx⟩:=vals1 r
  cases rx
  have hh:X.A.in1.handled = none:=I.ok.hd hc
  obtain ⟨hlen,hbd⟩:=okS_bd hok
  have hin:∀ n:Nat,n<=1000->∀ j,j < n->InLong ((fun i=>ns.getD i 0) j)/\InLong (preSum (fun i=>ns.getD i 0) (j + 1)):=fun n hn j hj=>by
    have h1:=hbd j
    have h2:=preSum_bd (fun i=>ns.getD i 0) 1000000 hbd (j + 1)
    refine ⟨⟨?_,?_⟩,?_,?_⟩
    · show -(2 ^ 63)<=ns.getD j 0
      omega
    · show ns.getD j 0 < 2 ^ 63
      omega
    · omega
    · omega
  have hsum:preSum (fun i=>ns.getD i 0) ns.length = ns.sum:=by rw [preSum_take,List.take_length]
  rcases hq with hq | hq
  · obtain ⟨its,rv,pl,hz⟩:=I.list hq
    have hl:its.length = ns.length:=by rw [<- rv.length,List.length_map]
    refine call_sum_walk (wpAny_pyIter_list pl.isList ?_)
    obtain ⟨o,ho,hcl,n,hd⟩:=pl.isList
    have hlt:=Heap.lt_size ho
    have hne:a ≠ s.heap.objs.size:=Nat.ne_of_lt hlt
    refine ⟨_,_,_,_,_,_,fun i=>ns.getD i 0,rfl,Walks.list hh s.heap.objs.size a hne its.toArray,⟨⟨_,Heap.get?_push_size _ rfl,rfl,rfl⟩,pl.isList.push _⟩,fun b hb=>?_,fun i v hP=>ints_at rv hP,by rw [List.size_toArray,hl]; exact hin _ hlen,fun h' tk t' kp=>?_⟩
    · show b < (s.heap.push _).objs.size
      rw [Heap.size_push]
      simp only [List.mem_cons,List.not_mem_nil,or_false] at hb
      rcases hb with rfl | rfl
      · exact Nat.lt_succ_self _
      · exact Nat.lt_succ_of_lt hlt
    · refine ⟨.int ns.sum,H,I.kept (t':=tk) fun b o' e=>kp b o' (by simp; exact Nat.ne_of_lt (Heap.lt_size e)) (Heap.get?_push_of_some _ e),⟨t',?_⟩,q⟩
      rw [List.size_toArray,hl,hsum]
  · obtain ⟨its,rv,pl,hz⟩:=I.tuple hq
    have pl:s.heap.IsTuple a its.toArray:=pl
    have hl:its.length = ns.length:=by rw [<- rv.length,List.length_map]
    refine call_sum_walk (wpAny_pyIter_tuple pl ?_)
    obtain ⟨o,ho,hcl,n,hd⟩:=id pl
    have hlt:=Heap.lt_size ho
    have hne:a ≠ s.heap.objs.size:=Nat.ne_of_lt hlt
    refine ⟨_,_,_,_,_,_,fun i=>ns.getD i 0,rfl,Walks.tuple hh s.heap.objs.size a hne its.toArray,⟨⟨_,Heap.get?_push_size _ rfl,rfl,rfl⟩,pl.push _⟩,fun b hb=>?_,fun i v hP=>ints_at rv hP,by rw [List.size_toArray,hl]; exact hin _ hlen,fun h' tk t' kp=>?_⟩
    · show b < (s.heap.push _).objs.size
      rw [Heap.size_push]
      simp only [List.mem_cons,List.not_mem_nil,or_false] at hb
      rcases hb with rfl | rfl
      · exact Nat.lt_succ_self _
      · exact Nat.lt_succ_of_lt hlt
    · refine ⟨.int ns.sum,H,I.kept (t':=tk) fun b o' e=>kp b o' (by simp; exact Nat.ne_of_lt (Heap.lt_size e)) (Heap.get?_push_of_some _ e),⟨t',?_⟩,q⟩
      rw [List.size_toArray,hl,hsum]
end
end Dl
namespace Dl
open PySem L2 PySem.Spec PyProof.Rows
section
variable {X:Cx} {e:Expr} {fs:Env->Option (List D)} {pos p:Pos}
noncomputable def gSum:List D->Option D:=fun ds=>(gItems ds).bind fun es=>(intsOf es).bind fun ns=>if okS ns = true then some (.int ns.sum) else none
theorem reps_ints {K:PySem.W.Frag} {H:Hp}:∀ {ns:List Int} {vs:List V},Reps K H (ns.map PyData.int) vs->vs = ns.map V.int
  | [],vs,h=>h.nil_inv
  | b :: bs,vs,h=>by
    obtain ⟨v,r,rfl,a,c⟩:=h.cons_inv
    simp only [Rep] at a
    rw [a,reps_ints c]
    rfl
theorem de_sum (hc:X.calm = true) (B:Blt X "sum" (.builtin "sum")) (he:starEach [e] X.env = (false,eval e X.env) :: starEach [] X.env) (ha:DA X [e] fs):DE X (.Call (.Name "sum" p) [e] [] pos) (fCB gSum fs) :=
  de_callB (call_sum_s hc) (by
    intro HF H ds vs d Q sm r hg q
    obtain ⟨es,h1,hg⟩:=bs hg
    obtain ⟨ns,h2,hg⟩:=bs hg
    have hg:(if okS ns = true then some (PyData.int ns.sum) else none) = some d:=hg
    split at hg
    · rename_i hok
      cases hg
      have e2:=intsOf_some h2
      subst e2
      rcases gItems_some h1 with rfl | rfl
      all_goals
        obtain ⟨v,r',rfl,a,b⟩:=r.cons_inv
        rw [b.nil_inv]
        simp only [Rep] at a
        obtain ⟨p,us,rfl,h,rr⟩:=a
        have:=reps_ints rr
        subst this
      · exact ⟨p,ns,rfl,.inr (same_tup sm h),hok,q _ H HF (.refl sm) (by simp [Rep])⟩
      · exact ⟨p,ns,rfl,.inl (sm.seq h),hok,q _ H HF (.refl sm) (by simp [Rep])⟩
    · cases hg) B ha (by decide) (by decide) he rfl
end
end Dl
namespace Dl
open PySem L2 PySem.Spec PyProof.Rows
section
variable {X:Cx}
noncomputable def eqI (i:Int):Value->Bool | .int a _=>a == i | _=>false
theorem mt_indexL:MtM X "list.index" (fun x vs H Q=>∃ (l:Addr) (ns:List Int) (i:Int) (j:Nat),x = .ref l/\vs = [.int i]/\SqL X.K H l (ns.map V.int)/\ns[j]? = some i/\(∀ m,m < j->ns[m]? ≠ some i)/\Q (.int j) H):=by
  intro pins s σ H x vs v us Q I rx rv h
  obtain ⟨l,ns,i,j,rfl,rfl,hq,hj,hno,q⟩:=h
  cases rx
  obtain ⟨u,rfl,ru⟩:=rv.one
  obtain ⟨t,rfl⟩:=ru
  obtain ⟨its,r,pl,hz⟩:=I.list hq
  obtain ⟨⟨cls,dd,data,sl⟩,ho,hc,n,hd⟩:=id pl.isList
  simp only at hc hd
  subst hc hd
  have hl:its.length = ns.length:=by rw [<- r.length,List.length_map]
  have hj1:j < ns.length:=(List.getElem?_eq_some_iff.mp hj).1
  have hz':ns.length<=sizeLine:=by rw [List.length_map] at hz; exact hz
  have hs63:(sizeLine:Nat) < 2 ^ 62:=by decide
  have at_:∀ m (hm:m < its.toArray.size),∃ t',its.toArray[m] = .int (ns.getD m 0) t':=fun m hm=>ints_at r (Array.getElem?_eq_getElem hm)
  refine call_meets F.slot_list_index ⟨_,ho,rfl⟩ F.entry_list_index (F.args_list_index_2 _ _) (PySem.SeqAt.list_indexAt l its.toArray n dd sl (.int i t) (eqI i) j (by rw [List.size_toArray,hl]; exact hj1) (by omega) ?_ ?_) ⟨ho,?_,?_⟩
  · obtain ⟨t',e⟩:=at_ j (by rw [List.size_toArray,hl]; exact hj1)
    rw [e,eqI,List.getD_eq_getElem?_getD,hj]
    simp
  · intro m hm hmj
    obtain ⟨t',e⟩:=at_ m hm
    have hm':m < ns.length:=by omega
    have:=hno m hmj
    rw [e,eqI,List.getD_eq_getElem?_getD]
    rw [List.getElem?_eq_getElem hm'] at this ⊢
    simp only [Option.getD_some,beq_eq_false_iff_ne]
    exact fun h=>this (by rw [h])
  · intro y hy
    obtain ⟨m,hm,rfl⟩:=Array.getElem_of_mem hy
    obtain ⟨t',e⟩:=at_ m hm
    rw [e]
    exact PySem.SeqAt.EqAt.int_int _ _ _ _
  · exact ⟨.int j,H,I.tok _,⟨_,rfl⟩,q⟩
noncomputable def idxI (i:Int):List Int->Option Nat
  | []=>none
  | n :: ns=>if n = i then some 0 else (idxI i ns).map (· + 1)
theorem idxI_some {i:Int}:∀ {ns:List Int} {j:Nat},idxI i ns = some j->ns[j]? = some i/\∀ m,m < j->ns[m]? ≠ some i
  | [],j,h=>by cases h
  | n :: ns,j,h=>by
    unfold idxI at h
    split at h
    · cases h
      rename_i e
      exact ⟨by rw [e]; rfl,fun m hm=>absurd hm (Nat.not_lt_zero _)⟩
    · rename_i e
      obtain ⟨k,hk,rfl⟩:=map_some h
      obtain ⟨a,b⟩:=idxI_some hk
      refine ⟨by simpa using a,fun m hm=>?_⟩
      cases m with
      | zero=>simpa using e
      | succ m=>simpa using b m (by omega)
noncomputable def gIdx:D->D->Option D
  | .list es,.int i=>(intsOf es).bind fun ns=>(idxI i ns).map fun j=>.int ((j:Nat):Int)
  | _,_=>none
theorem de_index {o e:Expr} {apos cpos:Pos} {fo fe:Env->Option D} (hbase:attributeBase o "index" X.env (eval o X.env) = eval o X.env)
    (hfew:((backTo cpos (starEach [e] X.env)).all (fun x=>!x.1) && (backToKw cpos (keywordEach [] X.env)).all (fun x=>x.1.isSome) && decide ([e].length + ([]:List Keyword).length + (if ([]:List Keyword).isEmpty then 0 else 1) < 30)) = true)
    (hline:(apos.endLine == cpos.line) = true) (hs:starEach [e] X.env = (false,eval e X.env) :: starEach [] X.env) (ho:DE X o fo) (he:DE X e fe):DE X (.Call (.Attribute o "index" apos) [e] [] cpos) (f2 gIdx fo fe) :=
  pe_imp (pe_bm PySem.F.plainAttrs_list PySem.F.slot_list_index PySem.F.type_list_index mt_indexL ho (pa_cons he pa_nil hs) hbase hfew hline hs rfl) fun σ H Q ⟨HF,ρ,d,sm,eo,hf,q⟩=>by
    obtain ⟨x,hx,hf⟩:=bs hf
    obtain ⟨y,hy,hg⟩:=bs hf
    refine ⟨HF,ρ,x,sm,eo,hx,fun v1 H1 HF1 g1 r1=>?_⟩
    cases x <;> try cases hg
    cases y <;> try cases hg
    rename_i es i
    obtain ⟨ns,h1,hg⟩:=bs hg
    obtain ⟨j,h2,rfl⟩:=map_some hg
    have e1:=intsOf_some h1
    subst e1
    simp only [Rep] at r1
    obtain ⟨l,us,rfl,hq,rr⟩:=r1
    have:=reps_ints rr
    subst this
    refine ⟨.inl ⟨rfl,_,g1.fh.seq hq⟩,HF1,ρ,.int i,g1.fh,eo.mono g1.ff,hy,fun v2 H2 HF2 g2 r2=>?_⟩
    simp only [Rep] at r2
    obtain ⟨a,b⟩:=idxI_some h2
    exact ⟨l,ns,i,j,rfl,by rw [r2],g2.fh.seq (g2.ff.seq hq),a,b,q _ H2 HF2 (g1.trans g2) (by simp [Rep])⟩
end
end Dl
namespace Tx
open PySem PySem.SeqAt PyProof.Rows
open PySem.AutoSeq1 (wpAny_loadPart')
open PySem.MeetsSeq PySem.MeetsSeq2 PySem.MeetsSeq3
theorem wpR {M:Model} {A:Around} {E:Value->Shared->Prop} {s:Shared} {β:Type} (f:Nat->β->Sem (ForInStep β)) (I:List Nat->β->Shared->Prop) (Q:β->Shared->Prop)
    (turn:∀ x rest b s,I (x :: rest) b s->wpAny M A (f x b) (fun r s'=>match r with | .yield b'=>I rest b' s' | .done b'=>Q b' s') E s)
    (fin:∀ b s,I [] b s->Q b s) (n:Nat) (b:β) (h:I (List.range' 0 n 1) b s):wpAny M A (forIn [:n] b f) Q E s:=by
  have e:forIn [:n] b f = forIn (List.range' 0 n 1) b f:=by
    rw [Std.Legacy.Range.forIn_eq_forIn_range']
    simp [Std.Legacy.Range.size]
  rw [e]
  exact wpAny_forIn_list f I Q turn fin _ b h
theorem tuple_indexAt (l:Addr) (items:Array Value) (n:Nat) (dd:Option Addr) (sl:Array (Option Value)) (x:Value) (e:Value->Bool) (j:Nat) (hj:j < items.size) (h1:e items[j] = true) (h2:∀ m (hm:m < items.size),m < j->e items[m] = false) :
    Meets (Builtin.«tuple.index» ⟨[.ref l,x],[]⟩)
      (fun A R s=>s.heap.get? l = some { cls:=.type "tuple",dict:=dd,data:=.seq items n,slots:=sl }/\(∀ y,y ∈ items->EqAt A.in1 s y x (e y))/\R (.ok (.ret (.int (j:Nat) s.toks))) { s with toks:=s.toks + 1 }) :=
  .of_wp fun prog w A R s h=>by
    obtain ⟨hp,g,d,tk,os⟩:=s; obtain ⟨hl,he,h⟩:=h
    wp_walk using wpAny_loadPart' hl,wpR _ (fun rest b s'=>s' = ⟨hp,g,d,tk,os⟩/\b.1 = none/\∃ i,i<=j/\rest = List.range' i (items.size - i) 1) _
    case turn =>
      rintro i rest b s' ⟨rfl,hb,i',hi,e1⟩
      have hlt:i' < items.size:=by omega
      rw [show items.size - i' = (items.size - (i' + 1)) + 1 by omega,List.range'_succ] at e1
      injection e1 with e2 e3
      subst e2
      subst e3
      simp only [Array.getElem?_eq_getElem hlt]
      refine wpAny_bind (he _ (Array.getElem_mem hlt) prog w _ _ ?_)
      by_cases hij:i = j
      · subst hij
        rw [h1]
        wp_walk
        exact ⟨_,rfl,h⟩
      · rw [h2 i hlt (by omega)]
        wp_walk
        exact ⟨rfl,rfl,i + 1,by omega,rfl⟩
    case fin =>
      rintro b s' ⟨rfl,hb,i,hi,e1⟩
      have:=congrArg List.length e1
      simp at this
      omega
    case h =>
      exact ⟨rfl,rfl,0,Nat.zero_le _,by simp⟩
end Tx
namespace Dl
open PySem L2 PySem.Spec PyProof.Rows
section
variable {X:Cx}
theorem mt_indexT:MtM X "tuple.index" (fun x vs H Q=>∃ (l:Addr) (ns:List Int) (i:Int) (j:Nat),x = .ref l/\vs = [.int i]/\SqT X.K H l (ns.map V.int)/\ns[j]? = some i/\(∀ m,m < j->ns[m]? ≠ some i)/\Q (.int j) H):=by
  intro pins s σ H x vs v us Q I rx rv h
  obtain ⟨l,ns,i,j,rfl,rfl,hq,hj,hno,q⟩:=h
  cases rx
  obtain ⟨u,rfl,ru⟩:=rv.one
  obtain ⟨t,rfl⟩:=ru
  obtain ⟨its,r,pl,hz⟩:=I.tuple hq
  obtain ⟨⟨cls,dd,data,sl⟩,ho,hc,n,hd⟩:=id pl
  simp only at hc hd
  subst hc hd
  have hl:its.length = ns.length:=by rw [<- r.length,List.length_map]
  have hj1:j < ns.length:=(List.getElem?_eq_some_iff.mp hj).1
  have at_:∀ m (hm:m < its.toArray.size),∃ t',its.toArray[m] = .int (ns.getD m 0) t':=fun m hm=>ints_at r (Array.getElem?_eq_getElem hm)
  refine call_meets F.slot_tuple_index ⟨_,ho,rfl⟩ F.entry_tuple_index (F.args_tuple_index_2 _ _) (Tx.tuple_indexAt l its.toArray n dd sl (.int i t) (eqI i) j (by rw [List.size_toArray,hl]; exact hj1) ?_ ?_) ⟨ho,?_,?_⟩
  · obtain ⟨t',e⟩:=at_ j (by rw [List.size_toArray,hl]; exact hj1)
    rw [e,eqI,List.getD_eq_getElem?_getD,hj]
    simp
  · intro m hm hmj
    obtain ⟨t',e⟩:=at_ m hm
    have hm':m < ns.length:=by
      rw [List.size_toArray] at hm
      omega
    have:=hno m hmj
    rw [e,eqI,List.getD_eq_getElem?_getD]
    rw [List.getElem?_eq_getElem hm'] at this ⊢
    simp only [Option.getD_some,beq_eq_false_iff_ne]
    exact fun h=>this (by rw [h])
  · intro y hy
    obtain ⟨m,hm,rfl⟩:=Array.getElem_of_mem hy
    obtain ⟨t',e⟩:=at_ m hm
    rw [e]
    exact PySem.SeqAt.EqAt.int_int _ _ _ _
  · exact ⟨.int j,H,I.tok _,⟨_,rfl⟩,q⟩
theorem pe_or {e:Expr} {t u:TE} (h:PE X e t) (g:PE X e u):PE X e (fun σ H Q=>t σ H Q\/u σ H Q):=fun pins s σ H Q I q=>q.elim (h pins s σ H Q I) (g pins s σ H Q I)
noncomputable def gIx2:D->D->Option D
  | .list es,.int i=>(intsOf es).bind fun ns=>(idxI i ns).map fun j=>.int ((j:Nat):Int)
  | .tuple es,.int i=>(intsOf es).bind fun ns=>(idxI i ns).map fun j=>.int ((j:Nat):Int)
  | _,_=>none
theorem de_index2 {o e:Expr} {apos cpos:Pos} {fo fe:Env->Option D} (hbase:attributeBase o "index" X.env (eval o X.env) = eval o X.env)
    (hfew:((backTo cpos (starEach [e] X.env)).all (fun x=>!x.1) && (backToKw cpos (keywordEach [] X.env)).all (fun x=>x.1.isSome) && decide ([e].length + ([]:List Keyword).length + (if ([]:List Keyword).isEmpty then 0 else 1) < 30)) = true)
    (hline:(apos.endLine == cpos.line) = true) (hs:starEach [e] X.env = (false,eval e X.env) :: starEach [] X.env) (ho:DE X o fo) (he:DE X e fe):DE X (.Call (.Attribute o "index" apos) [e] [] cpos) (f2 gIx2 fo fe) :=
  pe_imp (pe_or (de_index hbase hfew hline hs ho he) (pe_bm PySem.F.plainAttrs_tuple PySem.F.slot_tuple_index PySem.F.type_tuple_index mt_indexT ho (pa_cons he pa_nil hs) hbase hfew hline hs rfl)) fun σ H Q ⟨HF,ρ,d,sm,eo,hf,q⟩=>by
    obtain ⟨x,hx,hf⟩:=bs hf
    obtain ⟨y,hy,hg⟩:=bs hf
    cases x <;> try cases hg
    · cases y <;> try cases hg
      rename_i es i
      exact .inl ⟨HF,ρ,d,sm,eo,by simp only [f2,hx,hy,Option.bind_some]; exact hg,q⟩
    · cases y <;> try cases hg
      rename_i es i
      obtain ⟨ns,h1,hg⟩:=bs hg
      obtain ⟨j,h2,rfl⟩:=map_some hg
      have e1:=intsOf_some h1
      subst e1
      refine .inr ⟨HF,ρ,_,sm,eo,hx,fun v1 H1 HF1 g1 r1=>?_⟩
      simp only [Rep] at r1
      obtain ⟨l,us,rfl,hq,rr⟩:=r1
      have:=reps_ints rr
      subst this
      refine ⟨?_,HF1,ρ,.int i,g1.fh,eo.mono g1.ff,hy,fun v2 H2 HF2 g2 r2=>?_⟩
      · first | exact .inr (.inl ⟨rfl,_,same_tup g1.fh hq⟩) | exact .inl ⟨rfl,_,same_tup g1.fh hq⟩ | exact .inr ⟨rfl,_,same_tup g1.fh hq⟩
      · simp only [Rep] at r2
        obtain ⟨a,b⟩:=idxI_some h2
        exact ⟨l,ns,i,j,rfl,by rw [r2],same_tup g2.fh (same_tup g2.ff hq),a,b,q _ H2 HF2 (g1.trans g2) (by simp [Rep])⟩
end
end Dl
namespace Zp
open PySem PyProof.Rows
noncomputable def IsI (b:Bool) (h:Heap) (it l:Addr) (k:Nat):Prop:=match b with | true=>h.IsTupleIter it l k | false=>h.IsListIter it l k
noncomputable def IsS (b:Bool) (h:Heap) (l:Addr) (xs:Array Value):Prop:=match b with | true=>h.IsTuple l xs | false=>h.IsList l xs
theorem IsI.obj {b:Bool} {h:Heap} {it l:Addr} {k:Nat} (x:IsI b h it l k):∃ o,h.get? it = some o/\∀ v,o.data ≠ .cell v:=by
  cases b
  · obtain ⟨o,e,_,d⟩:=(show h.IsListIter it l k from x); exact ⟨o,e,fun v q=>by rw [d] at q; cases q⟩
  · obtain ⟨o,e,_,d⟩:=(show h.IsTupleIter it l k from x); exact ⟨o,e,fun v q=>by rw [d] at q; cases q⟩
theorem IsI.at {b:Bool} {h h':Heap} {it l:Addr} {k:Nat} (x:IsI b h it l k) (e:∀ o,h.get? it = some o->h'.get? it = some o):IsI b h' it l k:=by
  cases b
  · exact Heap.IsListIter.at x e
  · exact Heap.IsTupleIter.at x e
theorem IsI.extBut {b:Bool} {h h':Heap} {a it l:Addr} {k:Nat} (x:IsI b h it l k) (e:Heap.ExtBut a h h') (n:it ≠ a):IsI b h' it l k:=x.at fun o q=>e it o n q
theorem IsS.at {b:Bool} {h h':Heap} {l:Addr} {xs:Array Value} (x:IsS b h l xs) (e:∀ o,h.get? l = some o->h'.get? l = some o):IsS b h' l xs:=by
  cases b
  · obtain ⟨o,q,r⟩:=(show h.IsList l xs from x); exact ⟨o,e o q,r⟩
  · obtain ⟨o,q,r⟩:=(show h.IsTuple l xs from x); exact ⟨o,e o q,r⟩
theorem IsS.extBut {b:Bool} {h h':Heap} {a l:Addr} {xs:Array Value} (x:IsS b h l xs) (e:Heap.ExtBut a h h') (n:l ≠ a):IsS b h' l xs:=x.at fun o q=>e l o n q
section
variable {prog:Program} {w:World} {A:Around} {E:Value->Shared->Prop} {s:Shared}
theorem nxt {b:Bool} {j t:Addr} {k:Nat} {its:Array Value} {v:Value} {Q:Value->Shared->Prop} (hj:IsI b s.heap j t k) (ht:IsS b s.heap t its) (hv:its[k]? = some v)
    (hQ:∀ g,IsI b g j t (k + 1)->Heap.SameBut j s.heap g->Q v { s with heap:=g }):wpAny (model prog w) A (Builtin.SmallTypes.nextOf (.ref j)) Q E s:=by
  cases b
  · exact wpAny_nextOf_list_item hj ht hv hQ
  · exact En.nextT_item hj ht hv hQ
theorem nxtE {b:Bool} {j t:Addr} {k:Nat} {its:Array Value} {Q:Value->Shared->Prop} (hh:A.handled = none) (hj:IsI b s.heap j t k) (ht:IsS b s.heap t its) (hv:its[k]? = none)
    (hE:∀ g x,Heap.ExtBut j s.heap g->(∃ o,g.get? x = some o/\o.cls = .type "StopIteration")->E (.ref x) { s with heap:=g }):wpAny (model prog w) A (Builtin.SmallTypes.nextOf (.ref j)) Q E s:=by
  cases b
  · exact wpAny_nextOf_list_end hh hj ht hv hE
  · exact En.nextT_end hh hj ht hv hE
structure ZS (b₁ b₂:Bool) (h₀ h:Heap) (z TI TO i j l m:Addr) (xs ys:Array Value) (f:Value) (p q:Nat) (a b:Value):Prop where
  zo:IsZip h z TI TO f
  ti:IsPair h TI (.ref i) (.ref j)
  to:IsPair h TO a b
  wi:IsI b₁ h i l p
  wj:IsI b₂ h j m q
  sl:IsS b₁ h l xs
  sm:IsS b₂ h m ys
  kp:∀ c o,c ≠ z->c ≠ TO->c ≠ i->c ≠ j->h₀.get? c = some o->h.get? c = some o
  sz:h.objs.size = h₀.objs.size
section
variable {b₁ b₂:Bool} {h₀ h g:Heap} {z TI TO i j l m:Addr} {xs ys:Array Value} {f f':Value} {p q:Nat} {a b x y:Value}
theorem ZS.fl (Z:ZS b₁ b₂ h₀ h z TI TO i j l m xs ys f p q a b) (D:ZipApart z TI TO i j l m) (e:IsZip g z TI TO f') (t:Heap.SameBut z h g):ZS b₁ b₂ h₀ g z TI TO i j l m xs ys f' p q a b :=
  ⟨e,t.extBut _ _ D.TIz Z.ti,t.extBut _ _ D.TOz Z.to,Z.wi.extBut t.extBut D.i1z,Z.wj.extBut t.extBut D.i2z,Z.sl.extBut t.extBut D.l1z,Z.sm.extBut t.extBut D.l2z,fun c o n1 n2 n3 n4 r=>t.extBut _ _ n1 (Z.kp c o n1 n2 n3 n4 r),t.1.trans Z.sz⟩
theorem ZS.fst (Z:ZS b₁ b₂ h₀ h z TI TO i j l m xs ys f p q a b) (D:ZipApart z TI TO i j l m) (e:IsI b₁ g i l (p + 1)) (t:Heap.SameBut i h g):ZS b₁ b₂ h₀ g z TI TO i j l m xs ys f (p + 1) q a b :=
  ⟨t.extBut _ _ D.i1z.symm Z.zo,t.extBut _ _ D.TIi1 Z.ti,t.extBut _ _ D.TOi1 Z.to,e,Z.wj.extBut t.extBut D.i12.symm,Z.sl.extBut t.extBut D.l1i1,Z.sm.extBut t.extBut D.l2i1,fun c o n1 n2 n3 n4 r=>t.extBut _ _ n3 (Z.kp c o n1 n2 n3 n4 r),t.1.trans Z.sz⟩
theorem ZS.snd (Z:ZS b₁ b₂ h₀ h z TI TO i j l m xs ys f p q a b) (D:ZipApart z TI TO i j l m) (e:IsI b₂ g j m (q + 1)) (t:Heap.SameBut j h g):ZS b₁ b₂ h₀ g z TI TO i j l m xs ys f p (q + 1) a b :=
  ⟨t.extBut _ _ D.i2z.symm Z.zo,t.extBut _ _ D.TIi2 Z.ti,t.extBut _ _ D.TOi2 Z.to,Z.wi.extBut t.extBut D.i12,e,Z.sl.extBut t.extBut D.l1i2,Z.sm.extBut t.extBut D.l2i2,fun c o n1 n2 n3 n4 r=>t.extBut _ _ n4 (Z.kp c o n1 n2 n3 n4 r),t.1.trans Z.sz⟩
theorem ZS.put (Z:ZS b₁ b₂ h₀ h z TI TO i j l m xs ys f p q a b) (D:ZipApart z TI TO i j l m) (e:IsPair g TO x y) (t:Heap.SameBut TO h g):ZS b₁ b₂ h₀ g z TI TO i j l m xs ys f p q x y :=
  ⟨t.extBut _ _ D.TOz.symm Z.zo,t.extBut _ _ D.TITO Z.ti,e,Z.wi.extBut t.extBut D.TOi1.symm,Z.wj.extBut t.extBut D.TOi2.symm,Z.sl.extBut t.extBut D.l1TO,Z.sm.extBut t.extBut D.l2TO,fun c o n1 n2 n3 n4 r=>t.extBut _ _ n2 (Z.kp c o n1 n2 n3 n4 r),t.1.trans Z.sz⟩
end
variable {b₁ b₂:Bool} {z TI TO i j l m:Addr} {xs ys:Array Value} {p q:Nat} {a b:Value}
theorem zipN {Q:Value->Shared->Prop} (hn:A.handled = none) (D:ZipApart z TI TO i j l m) (Z:ZS b₁ b₂ s.heap s.heap z TI TO i j l m xs ys .none p q a b)
    (item:∀ x y g g',xs[p]? = some x->ys[q]? = some y->ZS b₁ b₂ s.heap g z TI TO i j l m xs ys .ellipsis (p + 1) (q + 1) x y->IsZip g' z TI TO (rawInt g.objs.size) ->
      Heap.SameBut z (g.push { cls:=.type "tuple",data:=.seq #[x,y] }) g'->Q (.ref g.objs.size) { s with heap:=g' })
    (over:(xs[p]? = none\/ys[q]? = none)->∀ g e,(∀ c o,c ≠ z->c ≠ TO->c ≠ i->c ≠ j->s.heap.get? c = some o->g.get? c = some o)->(∃ o,g.get? e = some o/\o.cls = .type "StopIteration")->E (.ref e) { s with heap:=g }) :
    wpAny (model prog w) A (Builtin.«zip.__next__» ⟨[.ref z],[]⟩) (fun r s'=>∃ v,r = .done (.ret v)/\Q v s') E s:=by
  have stop:∀ {g1 g2:Heap} {e:Addr} {c:Addr} {p' q':Nat} {a' b':Value},ZS b₁ b₂ s.heap g1 z TI TO i j l m xs ys .ellipsis p' q' a' b'->(c = i\/c = j)->(xs[p]? = none\/ys[q]? = none)->Heap.ExtBut c g1 g2 ->
      (∃ o,g2.get? e = some o/\o.cls = .type "StopIteration")->wpAny (model prog w) A (setField (.ref z) 0 Value.none) (fun _ t=>E (.ref e) t) E { s with heap:=g2 }:=by
    intro g1 g2 e c p' q' a' b' Y hc hv k ⟨o,ho,ht⟩
    have cz:z ≠ c:=hc.elim (fun e=>e ▸ D.i1z.symm) fun e=>e ▸ D.i2z.symm
    have Yz:IsZip g2 z TI TO .ellipsis:=k _ _ cz Y.zo
    refine wpAny_setField_rec Yz (by simp) fun g3 _ t=>over hv g3 e (fun d u n1 n2 n3 n4 r=>t.extBut _ _ n1 (k _ _ ?_ (Y.kp d u n1 n2 n3 n4 r))) ⟨o,t.extBut _ _ ?_ ho,ht⟩
    · exact hc.elim (fun e=>e ▸ n3) fun e=>e ▸ n4
    · rintro rfl; rw [Yz] at ho; cases ho; simp at ht
  show wpAny _ _ (field (.ref z) 2 >>= _) _ _ _
  refine wpAny_bind (wpAny_field Z.zo rfl (x:=.bool false) rfl (wpAny_bind (wpAny_field Z.zo rfl (x:=.ref TI) rfl (wpAny_bind (wpAny_seqItems Z.ti rfl (wpAny_bind (m:=Builtin.SmallTypes.ownedTupleIsFree _) ?_))))))
  refine wpAny_bind (wpAny_field Z.zo rfl (x:=.none) rfl (wpAny_pure ?_))
  rw [if_pos rfl]
  refine wpAny_bind (wpAny_rule (wpAny_bind (wpAny_field Z.zo rfl (x:=.ref TO) rfl (wpAny_bind (wpAny_setField_rec Z.zo (by simp) fun g1 e1 t1=>?_)))))
  have Z1:=Z.fl D (f':=.ellipsis) e1 t1
  refine wpAny_bind ?_
  simp only [List.zipIdx_cons,List.zipIdx_nil,List.forIn_cons,List.forIn_nil]
  refine wpAny_bind (wpAny_bind (wpAny_onRaise (wpAny_bind (m:=Builtin.SmallTypes.nextOf _) ?_)))
  cases hx:xs[p]? with
  | none=>exact nxtE hn Z1.wi Z1.sl hx fun g2 e k o=>stop Z1 (.inl rfl) (.inl hx) k o
  | some x =>
  refine nxt Z1.wi Z1.sl hx fun g2 e2 t2=>wpAny_pure ?_
  have Z2:=Z1.fst D e2 t2
  refine wpAny_bind (wpAny_seqItems Z2.to rfl (wpAny_bind (wpAny_updateSeq_pair Z2.to fun g3 e3 t3=>wpAny_bind (wpAny_letGo (wpAny_pure ?_)))))
  have Z3:=Z2.put D (x:=x) (y:=b) e3 t3
  refine wpAny_bind (wpAny_bind (wpAny_onRaise (wpAny_bind (m:=Builtin.SmallTypes.nextOf _) ?_)))
  cases hy:ys[q]? with
  | none=>exact nxtE hn Z3.wj Z3.sm hy fun g4 e k o=>stop Z3 (.inr rfl) (.inr hy) k o
  | some y =>
  refine nxt Z3.wj Z3.sm hy fun g4 e4 t4=>wpAny_pure ?_
  have Z4:=Z3.snd D e4 t4
  refine wpAny_bind (wpAny_seqItems Z4.to rfl (wpAny_bind (wpAny_updateSeq_pair Z4.to fun g5 e5 t5=>wpAny_bind (wpAny_letGo (wpAny_pure (wpAny_pure ?_))))))
  have Z5:=Z4.put D (x:=x) (y:=y) e5 t5
  refine wpAny_bind (wpAny_seqItems Z5.to rfl (wpAny_bind (wpAny_newTuple (wpAny_bind (m:=Builtin.SmallTypes.ownedTupleHandOut _ _) ?_))))
  refine wpAny_bind (wpAny_setField_rec (Heap.get?_push_of_some _ Z5.zo) (by simp) fun g6 e6 t6=>wpAny_setField_rec e6 (by simp) fun g7 e7 t7=>wpAny_pure ⟨_,rfl,?_⟩)
  exact item x y g5 g7 hx hy Z5 e7 (t6.trans t7)
theorem nextZ {x y:Value} {Q:Option Value->Shared->Prop} (hn:A.handled = none) (D:ZipApart z TI TO i j l m)
    (qz:IsZip s.heap z TI TO .none) (qI:IsPair s.heap TI (.ref i) (.ref j)) (qO:IsPair s.heap TO a b)
    (p1:IsI b₁ s.heap i l p) (p2:IsI b₂ s.heap j m q) (r1:IsS b₁ s.heap l xs) (r2:IsS b₂ s.heap m ys) (ex:xs[p]? = some x) (ey:ys[q]? = some y)
    (kQ:∀ g,IsZip g z TI TO (rawInt s.heap.objs.size)->IsPair g TO x y->IsI b₁ g i l (p + 1)->IsI b₂ g j m (q + 1)->IsPair g s.heap.objs.size x y->g.objs.size = s.heap.objs.size + 1 ->
      (∀ c o,c ≠ z->c ≠ TO->c ≠ i->c ≠ j->s.heap.get? c = some o->g.get? c = some o)->Q (some (.ref s.heap.objs.size)) { s with heap:=g }) :
    wpAny (model prog w) A (pyNext (.ref z)) Q E s:=by
  have ty:s.TypeIs (.ref z) "zip":=⟨_,qz,rfl⟩
  have Z:ZS b₁ b₂ s.heap s.heap z TI TO i j l m xs ys .none p q a b:=⟨qz,qI,qO,p1,p2,r1,r2,fun _ _ _ _ _ _ e=>e,rfl⟩
  refine wpAny_bind (wpAny_attempt (wpAny_callSpecial?_slot (name:=Str.ofString "__next__") ty F.slot_zip_next (wpAny_call_entry F.slot_zip_next ty F.entry_zip_next (zipN hn D Z ?_ ?_) (F.args_zip_next_1 _))))
  · intro x' y' g g' hx hy Y ez t
    rw [ex] at hx; rw [ey] at hy; cases hx; cases hy
    rw [Y.sz] at ez ⊢
    have lt:=Heap.lt_size Y.zo
    have up:∀ c o,c ≠ z->g.get? c = some o->g'.get? c = some o:=fun c o n e=>t.extBut _ _ n (Heap.get?_push_of_some _ e)
    refine wpAny_pure (kQ g' ez (up _ _ D.TOz Y.to) (Y.wi.at fun o e=>up _ _ D.i1z e) (Y.wj.at fun o e=>up _ _ D.i2z e) ?_ (by rw [t.1,Heap.size_push,Y.sz]) fun c o n1 n2 n3 n4 e=>up c o n1 (Y.kp c o n1 n2 n3 n4 e))
    rw [<- Y.sz]
    exact t.extBut _ _ (Nat.ne_of_gt lt) (Heap.get?_push_size _ rfl)
  · intro no
    rw [ex,ey] at no
    rcases no with no | no <;> cases no
theorem nextZE {Q:Option Value->Shared->Prop} (hn:A.handled = none) (D:ZipApart z TI TO i j l m)
    (qz:IsZip s.heap z TI TO .none) (qI:IsPair s.heap TI (.ref i) (.ref j)) (qO:IsPair s.heap TO a b)
    (p1:IsI b₁ s.heap i l p) (p2:IsI b₂ s.heap j m q) (r1:IsS b₁ s.heap l xs) (r2:IsS b₂ s.heap m ys) (ends:xs[p]? = none\/ys[q]? = none)
    (kQ:∀ g,(∀ c o,c ≠ z->c ≠ TO->c ≠ i->c ≠ j->s.heap.get? c = some o->g.get? c = some o)->Q none { s with heap:=g }):wpAny (model prog w) A (pyNext (.ref z)) Q E s:=by
  have ty:s.TypeIs (.ref z) "zip":=⟨_,qz,rfl⟩
  have Z:ZS b₁ b₂ s.heap s.heap z TI TO i j l m xs ys .none p q a b:=⟨qz,qI,qO,p1,p2,r1,r2,fun _ _ _ _ _ _ e=>e,rfl⟩
  refine wpAny_bind (wpAny_attempt (wpAny_callSpecial?_slot (name:=Str.ofString "__next__") ty F.slot_zip_next (wpAny_call_entry F.slot_zip_next ty F.entry_zip_next (zipN hn D Z ?_ ?_) (F.args_zip_next_1 _))))
  · intro x y g g' hx hy
    rw [hx,hy] at ends
    rcases ends with no | no <;> cases no
  · rintro _ g e kp ⟨o,ho,ht⟩
    exact wpAny_bind (wpAny_isInstance (T:="StopIteration") (b:=true) ⟨o,ho,ht⟩ isSubtype_stop (wpAny_pure (kQ _ kp)))
end
end Zp
namespace Zp
open PySem PyProof.Rows
noncomputable abbrev itO (b:Bool) (l:Addr):Obj:={ cls:=.type (if b then "tuple_iterator" else "list_iterator"),data:=.fields #[.ref l,.int 0 0] }
noncomputable abbrev z1 (b:Bool) (h:Heap) (l:Addr):Heap:=h.push (itO b l)
noncomputable abbrev z2 (b c:Bool) (h:Heap) (l m:Addr):Heap:=(z1 b h l).push (itO c m)
noncomputable abbrev z3 (b c:Bool) (h:Heap) (l m:Addr):Heap:=(z2 b c h l m).push { cls:=.type "tuple",data:=.seq #[.ref h.objs.size,.ref (z1 b h l).objs.size] }
noncomputable abbrev z4 (b c:Bool) (h:Heap) (l m:Addr):Heap:=(z3 b c h l m).push { cls:=.type "tuple",data:=.seq #[.none,.none] }
noncomputable abbrev z5 (b c:Bool) (h:Heap) (l m:Addr):Heap:=(z4 b c h l m).push { cls:=.type "zip",data:=.fields #[.none,.bool false,.bool false,.ref (z2 b c h l m).objs.size,.ref (z3 b c h l m).objs.size] }
theorem IsS.push {b:Bool} {h:Heap} {l:Addr} {xs:Array Value} (x:IsS b h l xs) (o:Obj):IsS b (h.push o) l xs:=x.at fun o' e=>Heap.get?_push_of_some _ e
theorem new_zip (b c:Bool) (l m:Addr) (xs ys:Array Value):Meets (Builtin.«zip.__new__» ⟨[.type "zip",.ref l,.ref m],[]⟩) (fun _ R s=>IsS b s.heap l xs/\IsS c s.heap m ys/\R (.ok (.ret (.ref (z4 b c s.heap l m).objs.size))) { s with heap:=z5 b c s.heap l m }) :=
  .of_wp fun prog w A R s h=>by
    obtain ⟨hp,g,d,tk,os⟩:=s; obtain ⟨q1,q2,h⟩:=h
    have hsub:=sub_zip
    cases b <;> cases c
    · have L1:Heap.IsList (Shared.heap ⟨hp,g,d,tk,os⟩) l xs:=q1
      have L2:Heap.IsList (Shared.heap ⟨hp.push { cls:=.type "list_iterator",data:=.fields #[.ref l,.int 0 0] },g,d,tk,os⟩) m ys:=IsS.push (b:=false) q2 _
      wp_walk using wpAny_pyIter_list L1,wpAny_pyIter_list L2
      exact ⟨_,rfl,h⟩
    · have L1:Heap.IsList (Shared.heap ⟨hp,g,d,tk,os⟩) l xs:=q1
      have L2:Heap.IsTuple (Shared.heap ⟨hp.push { cls:=.type "list_iterator",data:=.fields #[.ref l,.int 0 0] },g,d,tk,os⟩) m ys:=IsS.push (b:=true) q2 _
      wp_walk using wpAny_pyIter_list L1,wpAny_pyIter_tuple L2
      exact ⟨_,rfl,h⟩
    · have L1:Heap.IsTuple (Shared.heap ⟨hp,g,d,tk,os⟩) l xs:=q1
      have L2:Heap.IsList (Shared.heap ⟨hp.push { cls:=.type "tuple_iterator",data:=.fields #[.ref l,.int 0 0] },g,d,tk,os⟩) m ys:=IsS.push (b:=false) q2 _
      wp_walk using wpAny_pyIter_tuple L1,wpAny_pyIter_list L2
      exact ⟨_,rfl,h⟩
    · have L1:Heap.IsTuple (Shared.heap ⟨hp,g,d,tk,os⟩) l xs:=q1
      have L2:Heap.IsTuple (Shared.heap ⟨hp.push { cls:=.type "tuple_iterator",data:=.fields #[.ref l,.int 0 0] },g,d,tk,os⟩) m ys:=IsS.push (b:=true) q2 _
      wp_walk using wpAny_pyIter_tuple L1,wpAny_pyIter_tuple L2
      exact ⟨_,rfl,h⟩
section
variable {prog:Program} {w:World} {A:Around} {E:Value->Shared->Prop} {s:Shared}
theorem isI_new {b:Bool} {h:Heap} {it l:Addr} (e:h.get? it = some (itO b l)):IsI b h it l 0:=by
  cases b
  · exact ⟨_,e,rfl,rfl⟩
  · exact ⟨_,e,rfl,rfl⟩
theorem call_zip {b c:Bool} {l m:Addr} {xs ys:Array Value} {Q:Value->Shared->Prop} (q1:IsS b s.heap l xs) (q2:IsS c s.heap m ys)
    (h:∀ g,IsZip g (s.heap.objs.size + 4) (s.heap.objs.size + 2) (s.heap.objs.size + 3) .none->IsPair g (s.heap.objs.size + 2) (.ref s.heap.objs.size) (.ref (s.heap.objs.size + 1))->IsPair g (s.heap.objs.size + 3) .none .none ->
      IsI b g s.heap.objs.size l 0->IsI c g (s.heap.objs.size + 1) m 0->(∀ a o,s.heap.get? a = some o->g.get? a = some o)->Q (.ref (s.heap.objs.size + 4)) { s with heap:=g }) :
    wpAny (model prog w) A (call (.type "zip") [.ref l,.ref m]) Q E s:=by
  refine callType_new F.called_zip (by decide) (F.typeCall_zip_2 _ _) (F.newCall_zip_2 _ _) (fun obj=>F.args_object_init_3 obj _ _) F.entry_zip_new (new_zip b c l m xs ys) ⟨q1,q2,?_⟩
  have n1:(z1 b s.heap l).objs.size = s.heap.objs.size + 1:=Heap.size_push ..
  have n2:(z2 b c s.heap l m).objs.size = s.heap.objs.size + 2:=by rw [Heap.size_push,n1]
  have n3:(z3 b c s.heap l m).objs.size = s.heap.objs.size + 3:=by rw [Heap.size_push,n2]
  have n4:(z4 b c s.heap l m).objs.size = s.heap.objs.size + 4:=by rw [Heap.size_push,n3]
  have g5:(z5 b c s.heap l m).get? (z4 b c s.heap l m).objs.size = some _:=Heap.get?_push_size _ rfl
  have g4:(z5 b c s.heap l m).get? (z3 b c s.heap l m).objs.size = some _:=Heap.get?_push_of_some _ (Heap.get?_push_size _ rfl)
  have g3:(z5 b c s.heap l m).get? (z2 b c s.heap l m).objs.size = some _:=Heap.get?_push_of_some _ (Heap.get?_push_of_some _ (Heap.get?_push_size _ rfl))
  have g2:(z5 b c s.heap l m).get? (z1 b s.heap l).objs.size = some (itO c m):=Heap.get?_push_of_some _ (Heap.get?_push_of_some _ (Heap.get?_push_of_some _ (Heap.get?_push_size _ rfl)))
  have g1:(z5 b c s.heap l m).get? s.heap.objs.size = some (itO b l):=Heap.get?_push_of_some _ (Heap.get?_push_of_some _ (Heap.get?_push_of_some _ (Heap.get?_push_of_some _ (Heap.get?_push_size _ rfl))))
  show _/\_
  rw [n2,n3,n4] at g5
  rw [n1,n2] at g3
  rw [n3] at g4
  rw [n1] at g2
  rw [n4]
  exact ⟨⟨_,g5,rfl⟩,h _ g5 g3 g4 (isI_new g1) (isI_new g2) fun a o x=>Heap.get?_push_of_some _ (Heap.get?_push_of_some _ (Heap.get?_push_of_some _ (Heap.get?_push_of_some _ (Heap.get?_push_of_some _ x))))⟩
end
end Zp
namespace Dl
open PySem L2 PySem.Spec PyProof.Rows Zp
noncomputable def sqB (K:PySem.W.Frag) (b:Bool) (a:Addr) (H:Hp) (xs:List V):Prop:=match b with | true=>SqT K H a xs | false=>SqL K H a xs
section
variable {X:Cx} {pins:List (Addr × Obj)} {σ:L2.St} {H:Hp} {s:Shared} {b:Bool} {a:Addr} {xs ys:List V}
theorem sqB.src (I:Inv X pins σ H s) (h:sqB X.K b a H xs):∃ its:List Value,Vals xs its/\IsS b s.heap a its.toArray/\xs.length<=sizeLine:=by
  cases b
  · obtain ⟨its,rv,pl,hz⟩:=I.list (show SqL X.K H a xs from h); exact ⟨its,rv,pl.isList,hz⟩
  · obtain ⟨its,rv,pl,hz⟩:=I.tuple (show SqT X.K H a xs from h); exact ⟨its,rv,pl,hz⟩
theorem sqB.ne (I:Inv X pins σ H s) {c:Addr} (hf:FpOk X pins H c) (h:sqB X.K b a H xs):a ≠ c:=by
  cases b
  · exact fp_neL I hf h
  · exact fp_neT I hf h
theorem sqB.inj (I:Inv X pins σ H s) (h:sqB X.K b a H xs) (h':sqB X.K b a H ys):xs = ys:=by
  cases b
  · exact I.list_inj h h'
  · exact I.tuple_inj h h'
theorem sqB.mono {K:PySem.W.Frag} {H H':Hp} (e:Same H H') (h:sqB K b a H xs):sqB K b a H' xs:=by
  cases b
  · exact e.seq h
  · exact same_tup e h
end
theorem turn_zipB {P:Program} {w:World} {K:PySem.W.Frag} {elts:List Expr} {k:Nat} {pos:Pos} (b c:Bool) (l1 l2 z TI TO i1 i2:Addr) (Z:ZAp z TI TO i1 i2) :
    Turn P w K (.Tuple elts k pos) (Itz (sqB K b l1) (sqB K c l2)) [z,TI,TO,i1,i2] z (fun i h=>IsZip h z TI TO .none/\IsPair h TI (.ref i1) (.ref i2)/\(∃ a b,IsPair h TO a b)/\IsI b h i1 l1 i/\IsI c h i2 l2 i) where
  mem:=by simp
  obj:=fun i h st d hd=>by
    obtain ⟨hz,hTI,⟨a,b',hTO⟩,p1,p2⟩:=st
    simp only [List.mem_cons,List.not_mem_nil,or_false] at hd
    rcases hd with rfl | rfl | rfl | rfl | rfl
    · exact ⟨_,hz,fun v q=>by have q:Data.fields _ = Data.cell v:=q; cases q⟩
    · exact ⟨_,hTI,fun v q=>by have q:Data.seq _ _ = Data.cell v:=q; cases q⟩
    · exact ⟨_,hTO,fun v q=>by have q:Data.seq _ _ = Data.cell v:=q; cases q⟩
    · exact p1.obj
    · exact p2.obj
  keep:=fun i h h' st kk=>by
    obtain ⟨hz,hTI,⟨a,b',hTO⟩,h1,h2⟩:=st
    exact ⟨kk z (by simp) _ hz,kk TI (by simp) _ hTI,⟨a,b',kk TO (by simp) _ hTO⟩,h1.at fun o q=>kk i1 (by simp) o q,h2.at fun o q=>kk i2 (by simp) o q⟩
  item:=by
    intro X hP hw hK hc i pins s σ H E I hf st hg
    subst hP hw hK
    obtain ⟨xs,ys,x,y,hq1,hq2,hx,hy⟩:=hg
    obtain ⟨its1,rv1,p1,hz1⟩:=hq1.src I
    obtain ⟨its2,rv2,p2,hz2⟩:=hq2.src I
    obtain ⟨u1,hu1,ru1⟩:=rv1.get hx
    obtain ⟨u2,hu2,ru2⟩:=rv2.get hy
    have D:ZipApart z TI TO i1 i2 l1 l2:=⟨Z.a1,Z.a2,Z.a3,Z.a4,Z.a5,Z.a6,Z.a7,Z.a8,Z.a9,Z.a0,hq1.ne I (hf z (by simp)),hq1.ne I (hf TO (by simp)),hq1.ne I (hf i1 (by simp)),hq1.ne I (hf i2 (by simp)),hq2.ne I (hf z (by simp)),hq2.ne I (hf TO (by simp)),hq2.ne I (hf i1 (by simp)),hq2.ne I (hf i2 (by simp))⟩
    obtain ⟨hz,hTI,⟨a,b',hTO⟩,h1,h2⟩:=st
    refine nextZ (I.ok.hd hc) D hz hTI hTO h1 h2 p1 p2 (x:=u1) (y:=u2) (by simpa using hu1) (by simpa using hu2) fun g b1 b2 b3 b4 b5 b6 hk=>⟨.ref s.heap.objs.size,rfl,?_⟩
    have lt:∀ {c:Addr} {o:Obj},s.heap.get? c = some o->s.heap.objs.size ≠ c:=fun e=>Nat.ne_of_gt (Heap.lt_size e)
    refine wpAny_letOwnedTupleGo_zip (s:={ s with heap:=g }) b1 fun g' hz' hs'=>?_
    have b5':g'.get? s.heap.objs.size = some { cls:=.type "tuple",data:=.seq #[u1,u2] }:=hs'.extBut _ _ (lt hz) b5
    have ht:TupD g' s.heap.objs.size (List.toArray [u1,u2]):=⟨⟨_,b5',rfl,_,rfl⟩,_,b5',rfl⟩
    refine ⟨.ref s.heap.objs.size,_,turn_lay (ch:=[z,TI,TO,i1,i2]) (xs:=[x,y]) (t':=s.toks) I hf (fun b o hb q=>?_) (Nat.le_refl _) ht (.cons ru1 (.cons ru2 .nil)) (by show 2<=sizeLine; decide),rfl,
      ⟨s.heap.objs.size,x,y,rfl,I.fresh,rfl,fun zs hzs=>by rw [hzs.inj I hq1]; exact hx,fun zs hzs=>by rw [hzs.inj I hq2]; exact hy⟩,
      ⟨hz',hs'.extBut _ _ Z.a1 (hk _ _ D.TIz D.TITO D.TIi1 D.TIi2 hTI),⟨_,_,hs'.extBut _ _ Z.a2 b2⟩,b3.extBut hs'.extBut Z.a3,b4.extBut hs'.extBut Z.a4⟩,fun b hb=>?_⟩
    · simp only [List.mem_cons,List.not_mem_nil,or_false,not_or] at hb
      exact hs'.extBut _ _ hb.1 (hk b o hb.1 hb.2.2.1 hb.2.2.2.1 hb.2.2.2.2 q)
    · have:s.heap.objs.size ≠ b:=by
        simp only [List.mem_cons,List.not_mem_nil,or_false] at hb
        obtain ⟨o1,g1,_⟩:=h1.obj
        obtain ⟨o2,g2,_⟩:=h2.obj
        rcases hb with rfl | rfl | rfl | rfl | rfl
        · exact lt hz
        · exact lt hTI
        · exact lt hTO
        · exact lt g1
        · exact lt g2
      rw [upd_ne (Ne.symm this)]
      exact (hf b hb).1
  done:=by
    intro X hP hw hK hc i pins s σ H E I hf st hg
    subst hP hw hK
    obtain ⟨xs,ys,hq1,hq2,hx⟩:=hg
    obtain ⟨its1,rv1,p1,hz1⟩:=hq1.src I
    obtain ⟨its2,rv2,p2,hz2⟩:=hq2.src I
    have D:ZipApart z TI TO i1 i2 l1 l2:=⟨Z.a1,Z.a2,Z.a3,Z.a4,Z.a5,Z.a6,Z.a7,Z.a8,Z.a9,Z.a0,hq1.ne I (hf z (by simp)),hq1.ne I (hf TO (by simp)),hq1.ne I (hf i1 (by simp)),hq1.ne I (hf i2 (by simp)),hq2.ne I (hf z (by simp)),hq2.ne I (hf TO (by simp)),hq2.ne I (hf i1 (by simp)),hq2.ne I (hf i2 (by simp))⟩
    obtain ⟨hz,hTI,⟨a,b',hTO⟩,h1,h2⟩:=st
    have e1:=rv1.length
    have e2:=rv2.length
    refine nextZE (I.ok.hd hc) D hz hTI hTO h1 h2 p1 p2 (hx.elim (fun q=>.inl (by simp; omega)) fun q=>.inr (by simp; omega)) fun g hk=>⟨rfl,?_⟩
    refine turn_many (ch:=[z,TI,TO,i1,i2]) (t':=s.toks) I hf fun b o hb q=>?_
    simp only [List.mem_cons,List.not_mem_nil,or_false,not_or] at hb
    exact hk b o hb.1 hb.2.2.1 hb.2.2.2.1 hb.2.2.2.2 q
  self:=fun _ _ _ _ _ st h=>wpAny_pyIter_zip st.1 h
section
variable {X:Cx} {l l':Expr} {fs:Env->Option (List D)} {elts:List Expr} {k:Nat} {pos p tp:Pos}
theorem pi_zipB {tl:TA} (B:Blt X "zip" (.type "zip")) (ha:PA X [l,l'] tl) (hs:starEach [l,l'] X.env = (false,eval l X.env) :: starEach [l'] X.env) (hs2:(backTo pos (starEach [l'] X.env)).any (·.1) = false) :
    PI X (.Tuple elts k tp) (.Call (.Name "zip" p) [l,l'] [] pos) (fun σ H R=>tl σ H fun vs H1=>∃ a b,vs = [.ref a,.ref b]/\∃ c d xs ys,sqB X.K c a H1 xs/\sqB X.K d b H1 ys/\R (Itz (sqB X.K c a) (sqB X.K d b)) H1):=by
  intro pins s σ H R I h
  refine Call_ (ld_blt I B.gl B.mg B.bt (PyProof.Rows.callWith_type1 (thn (ha pos pins s σ H _ I h) fun us s1 ⟨vs,H1,I1,r1,q1⟩=>?_) hs hs2))
  obtain ⟨a,b,e,c,d,xs,ys,hq1,hq2,q⟩:=q1
  subst e
  obtain ⟨u,u',rfl,rx,ry⟩:=vals2 r1
  cases rx
  cases ry
  obtain ⟨its,rv,pl,hz⟩:=hq1.src I1
  obtain ⟨its',rv',pl',hz'⟩:=hq2.src I1
  refine call_zip pl pl' fun g b1 b2 b3 b4 b5 kp=>wpAny_pyIter_zip (s:={ s1 with heap:=g }) b1 ?_
  refine ⟨_,_,_,_,H1,rfl,I1.kept (t':=s1.toks) kp,turn_zipB c d a b (s1.heap.objs.size + 4) (s1.heap.objs.size + 2) (s1.heap.objs.size + 3) s1.heap.objs.size (s1.heap.objs.size + 1) ?_,⟨b1,b2,⟨_,_,b3⟩,b4,b5⟩,fun c hc=>?_,q⟩
  · constructor <;> (intro z; have z:(_:Nat) = _:=z; omega)
  · have hge:s1.heap.objs.size<=c:=by
      simp only [List.mem_cons,List.not_mem_nil,or_false] at hc
      rcases hc with rfl | rfl | rfl | rfl | rfl
      · exact Nat.le_add_right _ _
      · exact Nat.le_add_right _ _
      · exact Nat.le_add_right _ _
      · exact Nat.le_refl _
      · exact Nat.le_add_right _ _
    exact I1.fpOk hge (I1.hok.fresh hge)
noncomputable def gZip:List D->Option (List D):=fun ds=>match ds with
  | [x,y]=>(seqOf x).bind fun xs=>(seqOf y).map fun ys=>zipD xs ys
  | _=>none
theorem sqB_of {K:PySem.W.Frag} {HF:Hp} {d:D} {v:V} {xs:List D} (h:seqOf d = some xs) (r:Rep K HF d v):∃ b a vs,v = .ref a/\sqB K b a HF vs/\Reps K HF xs vs:=by
  rcases seqOf_some h with rfl | rfl
  · simp only [Rep] at r
    obtain ⟨a,vs,rfl,q,rr⟩:=r
    exact ⟨true,a,vs,rfl,q,rr⟩
  · simp only [Rep] at r
    obtain ⟨a,vs,rfl,q,rr⟩:=r
    exact ⟨false,a,vs,rfl,q,rr⟩
noncomputable def fZip2 (fs:Env->Option (List D)):Env->Option (List D):=fun ρ=>(fs ρ).bind gZip
theorem di_zipB (B:Blt X "zip" (.type "zip")) (hs:starEach [l,l'] X.env = (false,eval l X.env) :: starEach [l'] X.env) (hs2:(backTo pos (starEach [l'] X.env)).any (·.1) = false) (h:DA X [l,l'] fs) :
    DI X (.Tuple elts k tp) (.Call (.Name "zip" p) [l,l'] [] pos) (fZip2 fs) :=
  pi_imp (pi_zipB B h hs hs2) fun σ H R ⟨HF,ρ,ds,sm,eo,hf,q⟩=>by
    obtain ⟨x,hx,hf⟩:=bs hf
    refine ⟨HF,ρ,_,sm,eo,hx,fun vs H1 HF1 g1 r1=>?_⟩
    unfold gZip at hf
    split at hf
    · obtain ⟨xs,h1,hf⟩:=bs hf
      obtain ⟨ys,h2,rfl⟩:=map_some hf
      obtain ⟨v,r',rfl,a,b⟩:=r1.cons_inv
      obtain ⟨v',r'',rfl,a',b'⟩:=b.cons_inv
      rw [b'.nil_inv]
      obtain ⟨c,ad,us,rfl,hq,rr⟩:=sqB_of h1 a
      obtain ⟨c',ad',us',rfl,hq',rr'⟩:=sqB_of h2 a'
      exact ⟨ad,ad',rfl,c,c',us,us',hq.mono g1.fh,hq'.mono g1.fh,q _ H1 HF1 g1 (iter_zip hq (fun _ _ s h=>h.mono s) hq' (fun _ _ s h=>h.mono s) rr rr')⟩
    · cases hf
end
end Dl
namespace Zp
open PySem PyProof.Rows
theorem IsI.ne {b:Bool} {h:Heap} {it l:Addr} {k:Nat} {xs:Array Value} (x:IsI b h it l k) (y:IsS b h l xs):l ≠ it:=by
  rintro rfl
  cases b
  · obtain ⟨o,e,c,d⟩:=(show h.IsListIter l l k from x)
    obtain ⟨o',e',r⟩:=(show h.IsList l xs from y)
    rw [e] at e'; cases e'
    simp_all
  · obtain ⟨o,e,c,d⟩:=(show h.IsTupleIter l l k from x)
    obtain ⟨o',e',r⟩:=(show h.IsTuple l xs from y)
    rw [e] at e'; cases e'
    simp_all
section
variable {prog:Program} {w:World} {A:Around} {E:Value->Shared->Prop} {s:Shared}
theorem drawsI (hn:A.handled = none) (b:Bool) (it l:Addr) (xs:Array Value):Draws prog w A it [it,l] xs.size (fun i x=>xs[i]? = some x) (fun i h=>IsI b h it l i/\IsS b h l xs) where
  live:=fun i h st=>let ⟨o,e,_⟩:=st.1.obj; ⟨o,e⟩
  frame:=fun i h h' st k=>⟨st.1.at (k it (by simp)),st.2.at (k l (by simp))⟩
  item:=fun i s Q E hi st hQ=>nxt st.1 st.2 (v:=xs[i]) (by simp [hi]) fun g e t=>hQ _ g s.toks (by simp [hi]) ⟨e,st.2.extBut t.extBut (st.1.ne st.2)⟩ t
  done:=fun s Q E st hE=>nxtE hn st.1 st.2 (by simp) hE
theorem nextE {b₁:Bool} {e it l:Addr} {i:Nat} {items:Array Value} {x old:Value} {Q:Option Value->Shared->Prop} (hn:A.handled = none)
    (qe:IsEnum s.heap e it i old) (qi:IsI b₁ s.heap it l i) (ql:IsS b₁ s.heap l items) (ex:items[i]? = some x) (nei:e ≠ it)
    (kQ:∀ g tk,IsEnumOut g e it ((i:Int) + 1) x s.heap.objs.size->IsI b₁ g it l (i + 1)->g.get? s.heap.objs.size = some { cls:=.type "tuple",data:=.seq #[.int i tk,x] } ->
      g.objs.size = s.heap.objs.size + 1->(∀ c o,c ≠ e->c ≠ it->s.heap.get? c = some o->g.get? c = some o)->Q (some (.ref s.heap.objs.size)) { s with heap:=g,toks:=tk + 1 }) :
    wpAny (model prog w) A (pyNext (.ref e)) Q E s:=by
  have nel:e ≠ l:=by
    rintro rfl
    cases b₁
    · obtain ⟨o,e1,r⟩:=(show s.heap.IsList e items from ql)
      rw [qe] at e1; cases e1; simp at r
    · obtain ⟨o,e1,r⟩:=(show s.heap.IsTuple e items from ql)
      rw [qe] at e1; cases e1; simp at r
  have D:Draws prog w A.in1 it [it,l] items.size (fun i x=>items[i]? = some x) (fun i h=>IsI b₁ h it l i/\IsS b₁ h l items):=drawsI (A:=A.in1) hn b₁ it l items
  refine wpAny_pyNext_enum_itemD D qe ⟨qi,ql⟩ (Array.getElem?_eq_some_iff.mp ex).1 nei (by simp [nei,nel]) fun y g tk hy a b c d k=>?_
  rw [ex] at hy; cases hy
  exact kQ g tk a b.1 c d k
end
end Zp
namespace Dl
open PySem L2 PySem.Spec PyProof.Rows Zp
theorem turn_enumB {P:Program} {w:World} {K:PySem.W.Frag} {elts:List Expr} {k:Nat} {pos:Pos} (b:Bool) (a it e:Addr) (hei:e ≠ it):Turn P w K (.Tuple elts k pos) (Ite (sqB K b a)) [e,it] e (fun i h=>(∃ old,IsEnum h e it i old)/\IsI b h it a i) where
  mem:=by simp
  obj:=fun i h st c hc=>by
    obtain ⟨⟨old,he⟩,hi⟩:=st
    rcases List.mem_cons.mp hc with z | z
    · subst z; exact ⟨_,he,fun v q=>by have q:Data.fields _ = Data.cell v:=q; cases q⟩
    · rw [List.mem_singleton.mp z]; exact hi.obj
  keep:=fun i h h' st kk=>⟨let ⟨old,he⟩:=st.1; ⟨old,kk e (by simp) _ he⟩,st.2.at fun o q=>kk it (by simp) o q⟩
  item:=by
    intro X hP hw hK hc i pins s σ H E I hf st hg
    subst hP hw hK
    obtain ⟨xs,x,hq,hx⟩:=hg
    obtain ⟨its,rv,p,hz⟩:=hq.src I
    obtain ⟨u,hu,ru⟩:=rv.get hx
    obtain ⟨⟨old,he⟩,hi⟩:=st
    refine nextE (I.ok.hd hc) he hi p (x:=u) (by simpa using hu) hei fun g tk b1 b2 b3 b4 hk=>⟨.ref s.heap.objs.size,rfl,?_⟩
    have lt:∀ {c:Addr} {o:Obj},s.heap.get? c = some o->s.heap.objs.size ≠ c:=fun e=>Nat.ne_of_gt (Heap.lt_size e)
    have hte:s.heap.objs.size ≠ e:=lt he
    refine wpAny_letOwnedTupleGo_enum (s:={ s with heap:=g,toks:=tk + 1 }) b1 fun g' he' hs'=>?_
    have b3':g'.get? s.heap.objs.size = some { cls:=.type "tuple",data:=.seq #[.int i tk,u] }:=hs'.extBut _ _ hte b3
    have ht:TupD g' s.heap.objs.size (List.toArray [Value.int (i:Nat) tk,u]):=⟨⟨_,b3',rfl,_,rfl⟩,_,b3',rfl⟩
    refine ⟨.ref s.heap.objs.size,_,turn_lay (ch:=[e,it]) (xs:=[.int (i:Nat),x]) (t':=tk + 1) I hf (fun c o hb q=>?_) (Nat.le_refl _) ht (.cons ⟨_,rfl⟩ (.cons ru .nil)) (by show 2<=sizeLine; decide),rfl,
      ⟨s.heap.objs.size,x,rfl,I.fresh,rfl,fun zs hzs=>by rw [hzs.inj I hq]; exact hx⟩,⟨⟨_,he'⟩,b2.extBut hs'.extBut (Ne.symm hei)⟩,fun c hc'=>?_⟩
    · simp only [List.mem_cons,List.not_mem_nil,or_false,not_or] at hb
      exact hs'.extBut _ _ hb.1 (hk c o hb.1 hb.2 q)
    · have:s.heap.objs.size ≠ c:=by
        simp only [List.mem_cons,List.not_mem_nil,or_false] at hc'
        obtain ⟨o1,g1,_⟩:=hi.obj
        rcases hc' with rfl | rfl
        · exact lt he
        · exact lt g1
      rw [upd_ne (Ne.symm this)]
      exact (hf c hc').1
  done:=by
    intro X hP hw hK hc i pins s σ H E I hf st hg
    subst hP hw hK
    obtain ⟨xs,hq,hx⟩:=hg
    obtain ⟨its,rv,p,hz⟩:=hq.src I
    have hh:X.A.in1.handled = none:=I.ok.hd hc
    have hl:=rv.length
    obtain ⟨⟨old,he⟩,hi⟩:=st
    have hT:s.TypeIs (.ref e) "enumerate":=⟨_,he,rfl⟩
    unfold pyNext
    refine wpAny_bind (wpAny_attempt (wpAny_callSpecial?_slot (name:=Str.ofString "__next__") hT F.slot_enumerate_next (wpAny_call_entry F.slot_enumerate_next hT F.entry_enumerate_next ?_ (F.args_enumerate_next_1 _))))
    refine wpAny_bind (m:=field (.ref e) 2) (wpAny_field he rfl (x:=.ref it) rfl ?_)
    refine wpAny_bind (nxtE hh hi p (by simp; omega) fun h1 x k1 hx1=>?_)
    obtain ⟨o,ho,hc1⟩:=hx1
    refine wpAny_bind (wpAny_isInstance (T:="StopIteration") (b:=true) ⟨o,ho,hc1⟩ isSubtype_stop (wpAny_pure ⟨rfl,?_⟩))
    obtain ⟨f0,f1,f2,f3,f4,f5⟩:=hf it (by simp)
    exact I.turned (t':=s.toks) (fun b o hb q=>k1 b o hb q) f0 f1 f3 f4 f5
  self:=fun _ _ _ _ _ st h=>let ⟨_,he⟩:=st.1; wpAny_pyIter_enum he h
section
variable {X:Cx} {l:Expr} {f:Env->Option D} {fs:Env->Option (List D)} {elts:List Expr} {k:Nat} {pos p tp:Pos}
theorem pi_enum {tl:TA} (B:Blt X "enumerate" (.type "enumerate")) (ha:PA X [l] tl) (hs:starEach [l] X.env = [(false,eval l X.env)]):PI X (.Tuple elts k tp) (.Call (.Name "enumerate" p) [l] [] pos) (fun σ H R=>tl σ H fun vs H1=>∃ a,vs = [.ref a]/\∃ b xs,sqB X.K b a H1 xs/\R (Ite (sqB X.K b a)) H1):=by
  intro pins s σ H R I h
  refine Call_ (ld_blt I B.gl B.mg B.bt (PyProof.Rows.callWith_type1 (thn (ha pos pins s σ H _ I h) fun us s1 ⟨vs,H1,I1,r1,q1⟩=>?_) hs rfl))
  obtain ⟨a,e,b,xs,hq,q⟩:=q1
  subst e
  obtain ⟨u,rfl,rx⟩:=vals1 r1
  cases rx
  have fresh:∀ b ∈ [s1.heap.objs.size + 1,s1.heap.objs.size],FpOk X pins H1 b:=fun b hb=>by
    rcases List.mem_cons.mp hb with z | z
    · subst z; exact I1.fpOk (Nat.le_succ _) (I1.hok.fresh (Nat.le_succ _))
    · cases List.mem_singleton.mp z; exact I1.fpOk (Nat.le_refl _) I1.fresh
  obtain ⟨its,rv,pl,hz⟩:=hq.src I1
  cases b with
  | false =>
    refine call_enumerate_list pl fun h' he hit hsz kp=>wpAny_pyIter_enum (s:={ s1 with heap:=h' }) he ?_
    exact ⟨_,_,_,_,H1,rfl,I1.kept (t':=s1.toks) kp,turn_enumB false a s1.heap.objs.size (s1.heap.objs.size + 1) (Nat.succ_ne_self _),⟨⟨_,he⟩,hit⟩,fresh,q⟩
  | true =>
    refine En.call_enumT (show s1.heap.IsTuple a its.toArray from pl) fun h' he hit hsz kp=>wpAny_pyIter_enum (s:={ s1 with heap:=h' }) he ?_
    exact ⟨_,_,_,_,H1,rfl,I1.kept (t':=s1.toks) kp,turn_enumB true a s1.heap.objs.size (s1.heap.objs.size + 1) (Nat.succ_ne_self _),⟨⟨_,he⟩,hit⟩,fresh,q⟩
noncomputable def fEnum (fs:Env->Option (List D)):Env->Option (List D):=fun ρ=>(fs ρ).bind fun ds=>(gItems ds).map (enumD 0)
theorem di_enum (B:Blt X "enumerate" (.type "enumerate")) (h:DA X [l] fs) (hs:starEach [l] X.env = [(false,eval l X.env)]):DI X (.Tuple elts k tp) (.Call (.Name "enumerate" p) [l] [] pos) (fEnum fs) :=
  pi_imp (pi_enum B h hs) fun σ H R ⟨HF,ρ,ds,sm,eo,hf,q⟩=>by
    obtain ⟨x,hx,hf⟩:=bs hf
    obtain ⟨es,h1,rfl⟩:=map_some hf
    obtain ⟨d,h0,h1⟩:=bs h1
    rw [oneOf_some h0] at hx
    refine ⟨HF,ρ,_,sm,eo,hx,fun vs H1 HF1 g1 r1=>?_⟩
    obtain ⟨v,r',rfl,a,b⟩:=r1.cons_inv
    rw [b.nil_inv]
    obtain ⟨c,ad,us,rfl,hq,rr⟩:=sqB_of h1 a
    exact ⟨ad,rfl,c,us,hq.mono g1.fh,q _ H1 HF1 g1 (iter_enum hq (fun _ _ s h=>h.mono s) rr)⟩
end
end Dl
namespace Srt
open PySem PySem.W PySem.Calls PyProof.Rows L2
theorem FpOk.at {X:Cx} {pins:List (Addr × Obj)} {H H':Hp} {b:Addr} (h:FpOk X pins H b) (e:H' b = none):FpOk X pins H' b:=⟨e,h.2⟩
section
variable {X:Cx} {pins:List (Addr × Obj)} {σ:L2.St} {H:Hp} {s:Shared} {A:Around} {E:Value->Shared->Prop}
theorem upd_inv {b:Addr} {g:Array Value->Array Value} (I:Inv X pins σ H s) (f:FpOk X pins H b):Inv X pins σ H { s with heap:=s.heap.update b (Obj.mapSeq g) }:=by
  obtain ⟨f0,f1,f2,f3,f4,f5⟩:=f
  exact I.turned (t':=s.toks) (h':=s.heap.update b (Obj.mapSeq g)) (fun c o hc e=>(Heap.get?_update_other _ _ (Ne.symm hc)).trans e) f0 f1 f3 f4 f5
theorem pin_get {fp:List Addr} {h:Heap} {b:Addr} {o:Obj} {H':Hp} {s':Shared} (I:Inv X (pins ++ pinsAt fp h) σ H' s') (hb:b ∈ fp) (e:h.get? b = some o):s'.heap.get? b = some o/\H' b = none :=
  let q:=I.pin (b,o) (List.mem_append_right _ (List.mem_append_right _ (mem_pinsAt hb e))); ⟨q.1,q.2.1⟩
theorem list_sortK {a:Addr} {f:Value} {vs:List Value} {n:Nat} {P:PySem.Fin->Shared->Prop} (I:Inv X pins σ H s) (ho:s.heap.get? a = some (seqObj "list" vs.toArray n)) (fa:FpOk X pins H a) (h64:vs.length < 64)
    (J:List Value->Hp->Prop) (j0:J [] H)
    (step:∀ us v,vs[us.length]? = some v->∀ pl s' H',Inv X (pins ++ pl) σ H' s'->J us H'->wpAny (model X.prog X.w) A (call f [v]) (fun u s''=>∃ H'',Inv X (pins ++ pl) σ H'' s''/\J (us ++ [u]) H'') (fun _ _=>False) s')
    (fin:∀ us H',us.length = vs.length->J us H'->∃ (z:Nat->Int) (κ:SortKind),(2<=vs.length->∀ s',Inv X pins σ H' s'->(∀ Q':SortKind->Shared->Prop,Q' κ s'->wpAny (model X.prog X.w) A (keyKind' us.toArray) Q' (fun _ _=>False) s') /\
        ∀ i j C,i < vs.length->j < vs.length->C (SP.ltz z i j) s'->kas_ask X.prog X.w A κ us i j C s') /\
      ∀ s' c,Inv X pins σ H' s'->FpOk X pins H' a->s'.heap.get? a = some (seqObj "list" (outV z vs).toArray c)->P (.done (.ret .none)) s') :
    wpAny (model X.prog X.w) A (ksk_tree a f false) P E s:=by
  have hsl:vs.length<=sizeLine:=by rw [sizeLine_eq]; omega
  unfold ksk_tree
  refine wpAny_bind (listItems_at ho rfl ?_)
  refine wpAny_bind (listUpdate_at ho rfl ?_ (by simpa using hsl) (Nat.zero_le _))
  obtain ⟨e1,ho1⟩:∃ e,(s.heap.update a (Obj.mapSeq fun _=>(#[]:Array Value))).get? a = some (seqObj "list" #[] e):=⟨_,get?_update_seq ho fun _=>#[]⟩
  have I1:=upd_inv (g:=fun _=>(#[]:Array Value)) I fa
  refine wpAny_bind (seqEpoch_at ho1 rfl ?_)
  refine wpAny_bind (wpAny_newTuple ?_ (by simpa using hsl))
  refine wpAny_bind (wpAny_newList ?_ (Nat.zero_le _))
  refine wpAny_holding ?_
  have ho3:(((s.heap.update a (Obj.mapSeq fun _=>(#[]:Array Value))).push (seqObj "tuple" vs.toArray 0)).push (seqObj "list" #[] 0)).get? a = some (seqObj "list" #[] e1):=Heap.get?_push_of_some _ (Heap.get?_push_of_some _ ho1)
  have hk3:(((s.heap.update a (Obj.mapSeq fun _=>(#[]:Array Value))).push (seqObj "tuple" vs.toArray 0)).push (seqObj "list" #[] 0)).get? ((s.heap.update a (Obj.mapSeq fun _=>(#[]:Array Value))).push (seqObj "tuple" vs.toArray 0)).objs.size = some (seqObj "list" #[] 0):=Heap.get?_push_size _ rfl
  have I3:=(I1.kept (t':=s.toks) (h':=((s.heap.update a (Obj.mapSeq fun _=>(#[]:Array Value))).push (seqObj "tuple" vs.toArray 0)).push (seqObj "list" #[] 0)) fun b o e=>Heap.get?_push_of_some _ (Heap.get?_push_of_some _ e))
  have I2:=(I1.kept (t':=s.toks) (h':=(s.heap.update a (Obj.mapSeq fun _=>(#[]:Array Value))).push (seqObj "tuple" vs.toArray 0)) fun b o e=>Heap.get?_push_of_some _ e)
  have fk:FpOk X pins H ((s.heap.update a (Obj.mapSeq fun _=>(#[]:Array Value))).push (seqObj "tuple" vs.toArray 0)).objs.size:=I2.fpOk (Nat.le_refl _) (I2.hok.fresh (Nat.le_refl _))
  have hka:((s.heap.update a (Obj.mapSeq fun _=>(#[]:Array Value))).push (seqObj "tuple" vs.toArray 0)).objs.size ≠ a:=by
    have hlt:=Heap.lt_size ho1
    rw [Heap.size_push]
    exact Nat.ne_of_gt (Nat.lt_succ_of_lt hlt)
  show wpAny _ A _ P E { s with heap:=((s.heap.update a (Obj.mapSeq fun _=>(#[]:Array Value))).push (seqObj "tuple" vs.toArray 0)).push (seqObj "list" #[] 0) }
  generalize ((s.heap.update a (Obj.mapSeq fun _=>(#[]:Array Value))).push (seqObj "tuple" vs.toArray 0)).objs.size = kS at hk3 fk hka
  generalize e3:({ s with heap:=((s.heap.update a (Obj.mapSeq fun _=>(#[]:Array Value))).push (seqObj "tuple" vs.toArray 0)).push (seqObj "list" #[] 0) }:Shared) = s3 at I3
  have ho3:s3.heap.get? a = some (seqObj "list" #[] e1):=by rw [<- e3]; exact ho3
  have hk3:s3.heap.get? kS = some (seqObj "list" #[] 0):=by rw [<- e3]; exact hk3
  clear e3 I2 I1 ho1 ho
  unfold ksk_rest
  refine wpAny_bind (wpAny_rule ?_)
  first
    | rw [List.forIn_toArray]
    | (rw [<- Array.forIn_toList]; simp only [List.toList_toArray])
    | rw [<- Array.forIn_toList]
  refine wpAny_bind (ksk_fold (fun i s'=>∃ us H' e,us.length = i/\Inv X pins σ H' s'/\H' a = none/\H' kS = none/\s'.heap.get? a = some (seqObj "list" #[] e1)/\s'.heap.get? kS = some (seqObj "list" us.toArray e)/\J us H') vs 0 s3
    ⟨[],H,0,rfl,I3,fa.1,fk.1,ho3,hk3,j0⟩ ?step ?done)
  case step =>
    rintro j x s' hx ⟨us,H',e,hu,I',ha',hk',hoa,hok,j'⟩
    have hu:us.length = j:=by omega
    have hj:j < vs.length:=(List.getElem?_eq_some_iff.mp hx).1
    have Ip:=I'.pinned (fp:=[a,kS]) (fun b hb=>by
      rcases List.mem_cons.mp hb with rfl | hb
      · exact FpOk.at fa ha'
      · rw [List.mem_singleton.mp hb]; exact FpOk.at fk hk') (fun b hb=>by
      rcases List.mem_cons.mp hb with rfl | hb
      · exact ⟨_,hoa,fun v z=>by cases z⟩
      · rw [List.mem_singleton.mp hb]; exact ⟨_,hok,fun v z=>by cases z⟩)
    refine wpAny_bind (wpAny_attempt (wpAny_mono (step us x (by rw [hu]; exact hx) _ s' H' Ip j') (fun u s'' he=>?_) fun _ _ hF=>hF.elim))
    obtain ⟨H'',I'',j''⟩:=he
    try dsimp only
    obtain ⟨ga,na⟩:=pin_get I'' (b:=a) List.mem_cons_self hoa
    obtain ⟨gk,nk⟩:=pin_get I'' (b:=kS) (List.mem_cons_of_mem _ List.mem_cons_self) hok
    have I4:=I''.unpinned
    obtain ⟨c2,hc2⟩:∃ c2,(s''.heap.update kS (Obj.mapSeq (·.push u))).get? kS = some (seqObj "list" (us.toArray.push u) c2):=⟨_,get?_update_seq gk (·.push u)⟩
    refine wpAny_bind (listUpdate_at gk rfl ?_ (by rw [List.size_toArray,sizeLine_eq]; omega) (Nat.le_trans (Nat.le_of_eq (Array.size_push ..)) (by rw [List.size_toArray,sizeLine_eq]; omega)))
    refine wpAny_pure ⟨rfl,us ++ [u],H'',c2,by rw [List.length_append,hu]; simp,upd_inv I4 (FpOk.at fk nk),na,nk,(Heap.get?_update_other _ _ hka).trans ga,?_,j''⟩
    rw [hc2]
    simp
  case done =>
    rintro s' ⟨us,H',e,hu,I',ha',hk',hoa,hok,j'⟩
    have hu:us.length = vs.length:=by omega
    try dsimp only
    refine wpAny_bind (listItems_at hok rfl ?_)
    obtain ⟨z,κ,hz,hP⟩:=fin us H' hu j'
    have last:∀ st':SortSt,(arrOf st').map (·.2) = (outV z vs).toArray->failedOf st' = none->wpAny (model X.prog X.w) A (ksk_tail a false e1 (.ref kS) st') P E s':=fun st' h1 h2=>by
      unfold ksk_tail
      try dsimp only
      rw [h1,h2]
      have na1:(s'.heap.update kS (Obj.mapSeq fun _=>(#[]:Array Value))).get? a = some (seqObj "list" #[] e1):=(Heap.get?_update_other _ _ hka).trans hoa
      have I5:=upd_inv (g:=fun _=>(#[]:Array Value)) I' (FpOk.at fk hk')
      have I6:=upd_inv (s:={ s' with heap:=s'.heap.update kS (Obj.mapSeq fun _=>(#[]:Array Value)) }) (g:=fun _=>(outV z vs).toArray) I5 (FpOk.at fa ha')
      refine wpAny_bind (listUpdate_at hok rfl ?_ (by rw [List.size_toArray,sizeLine_eq]; omega) (Nat.zero_le _))
      refine wpAny_bind (wpAny_letGo ?_)
      refine wpAny_bind (seqEpoch_at na1 rfl ?_)
      refine wpAny_bind (listUpdate_at na1 rfl ?_ (Nat.zero_le _) (by
        simp only [Bool.false_eq_true,if_false]
        show (outV z vs).toArray.size<=_; rw [List.size_toArray,outV_len]; omega))
      obtain ⟨c,hc⟩:∃ c,((s'.heap.update kS (Obj.mapSeq fun _=>(#[]:Array Value))).update a (Obj.mapSeq fun _=>(outV z vs).toArray)).get? a = some (seqObj "list" (outV z vs).toArray c):=⟨_,get?_update_seq na1 fun _=>(outV z vs).toArray⟩
      simp only [bne_self_eq_false,Bool.false_eq_true,if_false]
      exact wpAny_pure (hP _ c I6 (FpOk.at fa ha') hc)
    unfold ksk_end
    try dsimp only
    simp only [Bool.false_eq_true,if_false]
    by_cases h2:vs.toArray.size < 2
    · rw [if_pos h2,if_pos h2]
      refine wpAny_bind (wpAny_pure ?_)
      rw [StateT.run_pure]
      refine wpAny_bind (wpAny_pure (last _ ?_ rfl))
      have h2':vs.length < 2:=by simpa using h2
      unfold outV
      rw [if_pos h2']
      show ((us.toArray.zip vs.toArray).map (·.2)) = vs.toArray
      apply Array.toList_inj.mp
      simp only [Array.toList_map,Array.toList_zip]
      exact List.map_snd_zip (by rw [hu]; exact Nat.le_refl _)
    · rw [if_neg h2,if_neg h2]
      have h2':2<=vs.length:=by
        have:¬ vs.length < 2:=by simpa using h2
        omega
      obtain ⟨hk,hlt⟩:=hz h2' s' I'
      refine wpAny_bind (wpAny_mono (hk (fun κ' s''=>κ' = κ/\s'' = s') ⟨rfl,rfl⟩) (fun κ' s'' hs=>?_) fun _ _ x=>x.elim)
      obtain ⟨rfl,rfl⟩:=hs
      refine wpAny_bind (wpAny_mono (kat_run (Q:=fun st' s2=>s2 = s''/\(arrOf st').map (·.2) = (outV z vs).toArray/\failedOf st' = none) (G:=fun p s2=>s2 = s''/\p = SP.run (SP.ltz z) (kas_sort vs.length))
        hu h2' h64 (fun p st' s2 a1 a2 a3 a4=>⟨a4.1,?_,a3⟩) (SP.wp_run hlt (kas_sort vs.length) (SP.b_sort (by omega)) ⟨rfl,rfl⟩)) ?_ fun _ _ e=>e)
      · rw [kat_snds hu a2,a4.2]
        unfold outV
        rw [if_neg (by omega)]
      · rintro ⟨⟨⟩,st'⟩ s2 ⟨hs,h4,h5⟩
        subst hs
        exact last st' h4 h5
theorem sortedK {l:Value} {f:Addr} {vs:List Value} {Q:Value->Shared->Prop} (I:Inv X pins σ H s) (h64:vs.length < 64)
    (hcol:∀ {Q':List Value->Shared->Prop},(∀ h':Heap,(∀ b o,s.heap.get? b = some o->h'.get? b = some o)->Q' vs { s with heap:=h' })->wpAny (model X.prog X.w) A.in1 (collect l) Q' E s)
    (J:List Value->Hp->Prop) (j0:J [] H)
    (step:∀ us v,vs[us.length]? = some v->∀ pl s' H',Inv X (pins ++ pl) σ H' s'->J us H'->wpAny (model X.prog X.w) A.in1.in1 (call (.ref f) [v]) (fun u s''=>∃ H'',Inv X (pins ++ pl) σ H'' s''/\J (us ++ [u]) H'') (fun _ _=>False) s')
    (fin:∀ us H',us.length = vs.length->J us H'->∃ (z:Nat->Int) (κ:SortKind),(2<=vs.length->∀ s',Inv X pins σ H' s'->(∀ Q':SortKind->Shared->Prop,Q' κ s'->wpAny (model X.prog X.w) A.in1.in1 (keyKind' us.toArray) Q' (fun _ _=>False) s') /\
        ∀ i j C,i < vs.length->j < vs.length->C (SP.ltz z i j) s'->kas_ask X.prog X.w A.in1.in1 κ us i j C s') /\
      ∀ s' D c,Inv X pins σ H' s'->FpOk X pins H' D->s'.heap.get? D = some (seqObj "list" (outV z vs).toArray c)->Q (.ref D) s') :
    wpAny (model X.prog X.w) A (call (.builtin "sorted") [l] [(Str.ofString "key",.ref f)]) Q E s:=by
  have hsl:vs.length<=sizeLine:=by rw [sizeLine_eq]; omega
  refine call_function_entry_kw kind_sorted plain_sorted entry_sorted (ksk_s1 _ _) ?_
  unfold Builtin.«sorted»
  refine wpAny_bind (m:=checkCount "sorted" 1 1 _) (wpAny_pure (wpAny_bind (hcol fun h1 kp=>?_)))
  refine wpAny_bind (wpAny_newList ?_ (by simpa using hsl))
  have I1:=I.kept (t':=s.toks) kp
  have fD:FpOk X pins H h1.objs.size:=I1.fpOk (Nat.le_refl _) (I1.hok.fresh (Nat.le_refl _))
  have hoD:(h1.push (seqObj "list" vs.toArray 0)).get? h1.objs.size = some (seqObj "list" vs.toArray 0):=Heap.get?_push_size _ rfl
  have I2:=I1.kept (t':=s.toks) (h':=h1.push (seqObj "list" vs.toArray 0)) fun b o e=>Heap.get?_push_of_some _ e
  show wpAny _ _ _ _ _ { s with heap:=h1.push (seqObj "list" vs.toArray 0) }
  refine wpAny_bind (wpAny_holding (wpAny_call_entry_kw slot_list_sort ⟨_,hoD,rfl⟩ entry_list_sort ?body (ksk_l1 _ _)))
  case body =>
    show wpAny (model X.prog X.w) A.in1.in1 (Builtin.«list.sort» ⟨[.ref h1.objs.size],[(Str.ofString "key",.ref f)]⟩) _ _ _
    rw [ksk_t1]
    refine list_sortK I2 hoD fD h64 J j0 step fun us H' hu j'=>?_
    obtain ⟨z,κ,hz,hP⟩:=fin us H' hu j'
    exact ⟨z,κ,hz,fun s' c I' f' e=>⟨_,rfl,wpAny_pure ⟨_,rfl,hP s' _ c I' f' e⟩⟩⟩
end
end Srt
namespace Dl
open PySem L2 PySem.Spec PyProof.Rows
theorem _root_.L2.Inv.track {X:Cx} {pins:List (Addr × Obj)} {σ:L2.St} {H:Hp} {s:Shared} {b:Addr} {o:HO} (I:Inv X pins σ H s) (f:FpOk X pins H b) (ho:ObjOk X.prog X.w (upd H b o) s.heap b o):Inv X pins σ (upd H b o) s:=by
  obtain ⟨f0,f1,f2,f3,f4,f5⟩:=f
  have up:∀ c u,H c = some u->upd H b o c = some u:=fun c u e=>by rw [upd_ne (ne_of_none e f0)]; exact e
  refine ⟨I.ok,I.os,I.bare,⟨I.base.keep,I.base.slot,fun c oc e n hx=>?_,I.base.there,fun c xs e=>up c _ (I.base.tups c xs e),fun c oc u e=>up c _ (I.base.frzs c oc u e),⟨fun c u e t=>up c u (I.base.tbls.st c u e t),I.base.tbls.gr⟩⟩,I.loc,I.cell,?_,fun x c e=>?_,fun p hp=>?_,fun c u e=>?_,I.len⟩
  · have hne:c ≠ b:=fun z=>by
      rcases f3 with g | g
      · exact hx (z ▸ g)
      · exact absurd (Nat.lt_of_lt_of_le (Heap.lt_size e) (z ▸ g)) (Nat.lt_irrefl _)
    rw [upd_ne hne]; exact I.base.free c oc e n hx
  · rw [upd_ne (Ne.symm f1)]; exact I.free
  · rw [upd_ne (f4 x c e)]; exact I.freeC x c e
  · obtain ⟨e,n,r⟩:=I.pin p hp
    exact ⟨e,by rw [upd_ne (f5 p hp)]; exact n,r⟩
  · by_cases hc:c = b
    · subst hc; rw [upd_same] at e; cases e; exact ho
    · rw [upd_ne hc] at e
      exact (I.hok c u e).stay (fun d w _ q=>q) (fun d q=>up d _ q) fun d w q _=>up d _ q
noncomputable def lamOk (scope:Scope) (N':List Str) (p:Str):Bool:=scope.names.all (fun q=>!decide (q.2 = NameKind.cell)) && decide (N'[0]? = some p) && decide (scope.names.lookup p = some .local) && decide (scope.isCoroutine = false) && decide (scope.isGenerator = false)
section
variable {X:Cx} {N:List Str} {sc:Scope} {k:Nat}
theorem bk_lam {scope:Scope} {N':List Str} {p qual:Str} {A:Around} {f c:Addr} {s:Shared} {H:Hp} (C:Bk X N sc (k + 3)) (hA:Room (k + 1) A) (hk:scope.kind = .function) (hnd:N'.Nodup) (hl:lamOk scope N' p = true):Bk (cxLam X A qual scope N' f c s H) N' scope k where
  n:=rfl
  nd:=hnd
  tb:=fun x kd hx=>.inl hx
  calm:=rfl
  fn:=fun x hx=>by
    unfold lamOk at hl
    simp only [Bool.and_eq_true,List.all_eq_true,Bool.not_eq_true',decide_eq_false_iff_not] at hl
    exact absurd rfl (hl.1.1.1.1 _ (mem_of_lookup hx))
  room:=hA.deeper _
  xe:=rfl
  kd:=hk
structure LamAt (X:Cx) (qual:Str):Prop where
  ex:∃ c P,X.env.code = .ref c/\X.env.qual ++ "<lambda>" = qual/\PySem.W.codeHdIn X.K c P = true/\∀ HF,TabsIn X.K HF->HF P = some (.tab qual)
noncomputable def keysL (te:Env->Option D) (ρ:Env):List D->Option (List D)
  | []=>some []
  | d :: ds=>(te (ρ.set 0 (some d))).bind fun x=>(keysL te ρ ds).map (x :: ·)
theorem keysL_len {te:Env->Option D} {ρ:Env}:∀ {ds ks:List D},keysL te ρ ds = some ks->ks.length = ds.length
  | [],ks,h=>by cases h; rfl
  | d' :: ds,ks,h=>by
    unfold keysL at h
    obtain ⟨y,h1,h⟩:=bs h
    obtain ⟨ys,h2,rfl⟩:=map_some h
    simp [keysL_len h2]
theorem keysL_at {te:Env->Option D} {ρ:Env}:∀ {ds ks:List D} {i:Nat} {d:D},keysL te ρ ds = some ks->ds[i]? = some d->∃ x,te (ρ.set 0 (some d)) = some x/\ks[i]? = some x
  | [],ks,i,d,h,e=>by simp at e
  | d' :: ds,ks,i,d,h,e=>by
    unfold keysL at h
    obtain ⟨y,h1,h⟩:=bs h
    obtain ⟨ys,h2,rfl⟩:=map_some h
    cases i with
    | zero=>simp at e; subst e; exact ⟨y,h1,rfl⟩
    | succ i=>obtain ⟨x,a,b⟩:=keysL_at h2 (by simpa using e); exact ⟨x,a,by simpa using b⟩
noncomputable def fSortK (cs:List Nat) (fl te:Env->Option D):Env->Option (List D):=fun ρ=>(fl ρ).bind fun l=>match l with
  | .list ds=>(keysL te (capsD 1 cs ρ) ds).bind fun ks=>(intsOf ks).bind fun zs=>if ds.length < 64 then some (byP (fun i=>zs.getD i 0) ds .none) else none
  | _=>none
theorem caps_set {K:PySem.W.Frag} {HF:Hp} {ρ:Env} {σ:L2.St} {cs:List Nat} {d:D} {v:V} (eo:EnvOk K HF ρ σ) (r:Rep K HF d v):EnvOk K HF ((capsD 1 cs ρ).set 0 (some d)) ((capsV 1 cs σ).set 0 (some v)):=env_set (caps_ok eo) r
theorem intsAre_reps {K:PySem.W.Frag} {HF:Hp}:∀ {ks:List D} {zs:List Int} {kvs:List V} {us:List Value},intsOf ks = some zs->Reps K HF ks kvs->Vals kvs us->IntsAre us zs
  | [],zs,kvs,us,h,r,v=>by
    cases h
    rw [r.nil_inv] at v
    cases v
    exact .nil
  | d :: ks,zs,kvs,us,h,r,v=>by
    cases d <;> simp only [intsOf] at h <;> try cases h
    rename_i i
    obtain ⟨ys,h2,rfl⟩:=map_some h
    obtain ⟨w,ws,rfl,a,b⟩:=r.cons_inv
    simp only [Rep] at a
    subst a
    cases v with
    | cons r1 r2 =>
      obtain ⟨t,rfl⟩:=r1
      exact .cons i t (intsAre_reps h2 b r2)
theorem intsAre_getD:∀ {us:List Value} {zs:List Int} {i:Nat},IntsAre us zs->i < us.length->∃ t,us.getD i Value.none = .int (zs.getD i 0) t
  | _,_,i,.nil,h=>by simp at h
  | _,_,0,.cons n t r,h=>⟨t,rfl⟩
  | _,_,i + 1,.cons n t r,h=>by
    obtain ⟨t',e⟩:=intsAre_getD (i:=i) r (by simpa using h)
    exact ⟨t',by simpa using e⟩
variable {l body:Expr} {fl te:Env->Option D} {params:Arguments} {scope:Scope} {lpos pos p0 kpos:Pos} {N':List Str} {cs:List Nat} {p qual:Str}
theorem Bk.sortK (C:Bk X N sc (k + 3)) (B:Blt X "sorted" (.builtin "sorted")) (L:LamAt X qual) (ok:compOk sc scope N N' 1 cs = true) (hl:lamOk scope N' p = true)
    (hb:∀ (cl:List (Str × Addr)) (pm ctv u:Value) (c:Addr),bindArgs (PySem.W.kla_fn "<lambda>" qual params body scope cl pm (.ref c) ctv) ⟨[u],[]⟩ = pure [(p,u)]) (hdef:defaultsOf params X.env = ([],[])) (h:DE X l fl)
    (hY:∀ A f c s H,Bk (cxLam X A qual scope N' f c s H) N' scope k->DE (cxLam X A qual scope N' f c s H) body te)
    (hst:starEach [l] X.env = (false,eval l X.env) :: starEach [] X.env) (he:backTo pos (starEach [l] X.env) = (false,eval l X.env) :: backTo pos (starEach [] X.env)) (hpl:(backTo pos (starEach [l] X.env)).any (·.1) = false) :
    DF X (.Call (.Name "sorted" p0) [l] [⟨some "key",.Lambda params body scope lpos,kpos⟩] pos) (fSortK cs fl te):=by
  obtain ⟨S,_⟩:=C.comp ok
  have hnd:N'.Nodup:=by
    unfold compOk at ok
    simp only [Bool.and_eq_true,decide_eq_true_eq] at ok
    exact ok.2
  have hl':=hl
  unfold lamOk at hl'
  simp only [Bool.and_eq_true,List.all_eq_true,Bool.not_eq_true',decide_eq_false_iff_not,decide_eq_true_eq] at hl'
  obtain ⟨⟨⟨⟨hnc,hN0⟩,hp⟩,hco⟩,hgen⟩:=hl'
  obtain ⟨cc,P,hcode,hqual,hhd,hTab⟩:=L.ex
  intro pins s σ H Q I ⟨HF,ρ,out,sm,eo,hf,q⟩
  obtain ⟨ld,hld,hf⟩:=bs hf
  cases ld <;> try cases hf
  rename_i ds
  obtain ⟨ks,hks,hf⟩:=bs hf
  obtain ⟨zs,hzs,hf⟩:=bs hf
  split at hf <;> cases hf
  rename_i h64
  refine wpAny_Call_Name_kw (ld_blt I B.gl B.mg B.bt ?_ (by decide) (by decide))
  refine PyProof.Rows.callWith_kw (e:=l) (rest:=[]) (kws:=[⟨some "key",.Lambda params body scope lpos,kpos⟩]) ?_ he hpl rfl rfl
  refine thn (da_cons h da_nil hst pos pins s σ H _ I ⟨HF,ρ,[.list ds],sm,eo,by simp [fCons,fNil,hld],fun vs H1 HF1 g1 r1=>(⟨HF1,g1,r1⟩:∃ HF1,Grow HF H HF1 H1/\Reps X.K HF1 [.list ds] vs)⟩) fun us s1 ⟨vs,H1,I1,rv,HF1,g1,r1⟩=>?_
  obtain ⟨v,vr,rfl,a1,b1⟩:=r1.cons_inv
  rw [b1.nil_inv] at rv
  obtain ⟨u,rfl,rx⟩:=vals1 rv
  simp only [Rep] at a1
  obtain ⟨la,ws,rfl,hq,rr⟩:=a1
  cases rx
  have hT1:H1 P = some (.tab qual):=g1.fh _ _ (hTab HF1 (eo.tb.mono g1.ff))
  show wpAny _ _ (evalAll ((do let v <- eval (.Lambda params body scope lpos) X.env; standAt pos; pure v) :: [])) _ _ s1
  refine wpAny_evalAll_cons (wpAny_bind ?_)
  refine lam_make (P:=P) I1 S hqual hcode (PySem.W.codeHd_of_K I1.ok.mod.kin hhd) hT1 I1.ok.mod.bmd hdef fun f c' pm ctv s2 H2 I2 hfo hfn hcod s12 fp2 _=>?_
  refine wpAny_bind (wpAny_standAt (wpAny_pure (wpAny_evalAll_nil ?_)))
  show wpAny _ _ (call (.builtin "sorted") [.ref la] [(Str.ofString "key",.ref f)]) _ _ s2
  have Ip:=I2.pinned (fp:=[f]) (fun b hb=>by rw [List.mem_singleton.mp hb]; exact fp2) (fun b hb=>by rw [List.mem_singleton.mp hb]; exact ⟨_,hfo,fun v z=>by cases z⟩)
  have g2:Grow HF1 H1 HF1 H2:=⟨s12,.refl _,g1.fh.trans s12,fun _ _ e=>.inl e⟩
  obtain ⟨its,rvi,pl,hz⟩:=Ip.list (s12.seq (g1.fh.seq hq))
  have hlen:its.length = ds.length:=by rw [<- rvi.length,rr.length]
  have hkl:=keysL_len hks
  have hR:Room (k + 1) X.A.in1.in1:=C.room.in1.in1
  refine Srt.sortedK (vs:=its) Ip (by omega) (fun {Q'} hQ=>?_) (fun us H'=>∃ HF' kvs,Grow HF1 H2 HF' H'/\Reps X.K HF' (ks.take us.length) kvs/\Vals kvs us) ⟨HF1,[],.refl g2.fh,by simpa using Reps.nil,.nil⟩ (fun us x hx pl' s3 H3 I3 ⟨HF3,kvs,g3,rk,rvk⟩=>?_) fun us H3 hu ⟨HF3,kvs,g3,rk,rvk⟩=>?_
  · refine collect_list pl.isList (hQ _ fun b o e=>?_) (by rw [sizeLine_eq]; omega)
    exact (Heap.get?_update_other _ _ (Nat.ne_of_gt (Heap.lt_size e))).trans (Heap.get?_push_of_some _ e)
  · have hi:us.length < its.length:=(List.getElem?_eq_some_iff.mp hx).1
    obtain ⟨w,hw⟩:∃ w,ws[us.length]? = some w:=⟨_,List.getElem?_eq_getElem (by rw [rvi.length]; exact hi)⟩
    obtain ⟨x',hx',rw'⟩:=rvi.get hw
    rw [hx] at hx'
    cases hx'
    obtain ⟨d,hd,rd⟩:=rr.get hw
    obtain ⟨kd,hkd,hki⟩:=keysL_at hks hd
    have hfo3:s3.heap.get? f = some (PySem.W.kla_obj "<lambda>" qual params body scope (clOf X.env scope.names []) pm c' ctv) :=
      (I3.pin (f,_) (List.mem_append_right _ (List.mem_append_left _ (List.mem_append_right _ (mem_pinsAt List.mem_cons_self hfo))))).1
    refine wpAny_mono (lam_call (Q:=fun v H4=>∃ HF4,Grow HF3 H3 HF4 H4/\Rep X.K HF4 kd v) (te:=tD X.K te) I3 hR I3.ok.frames S hnc hN0 hp hnd hco hgen hfo3 (g3.hh _ _ hcod) (hb _ _ _ _ _) rw' (hY _ _ _ _ _ (bk_lam C hR S.kind hnd hl))
      ⟨HF3,_,kd,g3.fh,caps_set (eo.mono (g1.ff.trans g3.ff)) (rd.mono g3.ff),hkd,fun v H4 HF4 g4 r4=>⟨HF4,g4,r4⟩⟩) (fun u s4 ⟨v4,H4,I4,r4,HF4,g4,rp⟩=>⟨H4,I4,HF4,kvs ++ [v4],g3.trans g4,?_,rvk.append (.cons r4 .nil)⟩) fun _ _ e=>e
    rw [List.length_append,List.length_singleton,List.take_add_one,hki]
    exact (rk.mono g4.ff).append (Reps.cons rp Reps.nil)
  · have hk':ks.take us.length = ks:=List.take_of_length_le (by omega)
    rw [hk'] at rk
    have ia:=intsAre_reps hzs rk rvk
    refine ⟨fun i=>zs.getD i 0,oneType',fun h2 s3 I3=>⟨fun Q' q'=>?_,fun i j Cc hi hj q'=>?_⟩,fun s3 Dn c I3 fD e=>?_⟩
    · rw [PyProof.Rows.ksk_kind (keys:=us.toArray) (kz:=zs) (by simpa using ia) (by simpa [hu] using h2)]
      exact wpAny_pure q'
    · obtain ⟨t1,e1⟩:=intsAre_getD ia (i:=i) (by omega)
      obtain ⟨t2,e2⟩:=intsAre_getD ia (i:=j) (by omega)
      unfold PySem.W.kas_ask
      rw [e1,e2]
      exact PySem.W.kat_lt_int q'
    · have hv:=vals_byP (fun i=>zs.getD i 0) rvi
      have hr:=reps_byP (fun i=>zs.getD i 0) rr
      have hnD:H3 Dn = none:=fD.1
      have I4:=Inv.track (o:=.lst (byP (fun i=>zs.getD i 0) ws .non)) I3 fD ⟨by rw [(byP_perm _ _ _).length_eq]; exact hz,_,c,hv,e⟩
      have G:=(g1.trans g2).trans g3
      refine ⟨.ref Dn,_,I4.unpinned,rfl,q Dn _ _ HF3 (G.trans (.own G.fh hnD)) (G.hh.free hnD) (G.fh.free hnD) upd_same (hr.mono g3.ff)⟩
end
end Dl
namespace Srt
open PySem PySem.W PySem.Calls PyProof.Rows L2
section
variable {prog:Program} {w:World} {A:Around} {E:Value->Shared->Prop} {s:Shared}
theorem iadd_rng {R:Result->Shared->Prop} {r S:Addr} {a b c:Int} {t u v:Tok} {n:Nat} (hh:A.handled = none) (hr:IsRange s.heap r a b c t u v) (hsmall:Builtin.Range.small a b c = true) (hn:Builtin.Range.rangeSize a b c = n) (hlen:n<=2 ^ 24)
    (hS:s.heap.get? S = some { cls:=.type "list",data:=.seq #[] })
    (hR:∀ h' tk acc' c',(∀ b o,b ≠ S->s.heap.get? b = some o->h'.get? b = some o)->h'.get? S = some { cls:=.type "list",dict:=none,data:=.seq acc' c',slots:=#[] } ->
      ItemsOf (fun i v=>∃ t,v = .int (a + i * c) t) acc' n->R (.ok (.ret (.ref S))) { s with heap:=h',toks:=tk }):codeAny (model prog w) A (.builtin "list.__iadd__" ⟨[.ref S,.ref r],[]⟩) R s:=by
  refine codeAny_builtin entry_list_iadd' ?_
  rw [Around.under_plainId (by decide +kernel:plainId "list.__iadd__" = true) _]
  exact wpAny_extend_range (A:=A) hh hr hsmall hn hlen S (.ref S) _ hS hR
theorem collect_rng {r:Addr} {a b c:Int} {t u v:Tok} {n:Nat} {Q:List Value->Shared->Prop} (hh:A.handled = none) (hr:IsRange s.heap r a b c t u v) (hsmall:Builtin.Range.small a b c = true) (hn:Builtin.Range.rangeSize a b c = n) (hlen:n<=2 ^ 24)
    (h:∀ h' tk acc,(∀ b o,s.heap.get? b = some o->h'.get? b = some o)->ItemsOf (fun i v=>∃ t,v = .int (a + i * c) t) acc n->Q acc.toList { s with heap:=h',toks:=tk }):wpAny (model prog w) A (collect (.ref r)) Q E s:=by
  unfold collect
  refine wpAny_bind (wpAny_runValue (codeAny_builtin entry_proto_collect' ?_))
  rw [Around.under_plainId (by decide +kernel:plainId "proto.collect" = true) _]
  show wpAny _ A.in1 (newList [] >>= fun l=>again (.builtin "list.__iadd__" ⟨[l,.ref r],[]⟩)) _ _ s
  refine wpAny_bind (wpAny_newObj_type ?_)
  have hS:(s.heap.push { cls:=.type "list",data:=.seq #[] }).get? s.heap.objs.size = some { cls:=.type "list",data:=.seq #[] }:=Heap.get?_push_size _ rfl
  refine wpAny_pure ⟨plainId_quiet (by decide +kernel) _,iadd_rng (s:={ s with heap:=s.heap.push { cls:=.type "list",data:=.seq #[] } }) hh (Heap.get?_push_of_some _ hr) hsmall hn hlen hS fun h' tk acc' c' hk hS' hacc=>?_⟩
  show wpAny _ A (load s.heap.objs.size >>= _) _ _ _
  refine wpAny_bind (wpAny_load hS' ?_)
  exact wpAny_pure (h h' tk acc' (fun b o e=>hk b o (Nat.ne_of_lt (Heap.lt_size e)) (Heap.get?_push_of_some _ e)) hacc)
end
section
variable {X:Cx} {pins:List (Addr × Obj)} {σ:L2.St} {H:Hp} {s:Shared} {A:Around} {E:Value->Shared->Prop}
theorem sortedR {l:Value} {f:Addr} {PV:List Value->Prop} {Q:Value->Shared->Prop} (I:Inv X pins σ H s)
    (hcol:∀ {Q':List Value->Shared->Prop},(∀ (h':Heap) (tk:Nat) (vs:List Value),PV vs->(∀ b o,s.heap.get? b = some o->h'.get? b = some o)->Q' vs { s with heap:=h',toks:=tk })->wpAny (model X.prog X.w) A.in1 (collect l) Q' E s)
    (rest:∀ vs,PV vs->vs.length < 64/\∃ J:List Value->Hp->Prop,J [] H /\
      (∀ us v,vs[us.length]? = some v->∀ pl s' H',Inv X (pins ++ pl) σ H' s'->J us H'->wpAny (model X.prog X.w) A.in1.in1 (call (.ref f) [v]) (fun u s''=>∃ H'',Inv X (pins ++ pl) σ H'' s''/\J (us ++ [u]) H'') (fun _ _=>False) s') /\
      (∀ us H',us.length = vs.length->J us H'->∃ (z:Nat->Int) (κ:SortKind),(2<=vs.length->∀ s',Inv X pins σ H' s'->(∀ Q':SortKind->Shared->Prop,Q' κ s'->wpAny (model X.prog X.w) A.in1.in1 (keyKind' us.toArray) Q' (fun _ _=>False) s') /\
        ∀ i j C,i < vs.length->j < vs.length->C (SP.ltz z i j) s'->kas_ask X.prog X.w A.in1.in1 κ us i j C s') /\
      ∀ s' D c,Inv X pins σ H' s'->FpOk X pins H' D->s'.heap.get? D = some (seqObj "list" (outV z vs).toArray c)->Q (.ref D) s')) :
    wpAny (model X.prog X.w) A (call (.builtin "sorted") [l] [(Str.ofString "key",.ref f)]) Q E s:=by
  refine call_function_entry_kw kind_sorted plain_sorted entry_sorted (ksk_s1 _ _) ?_
  unfold Builtin.«sorted»
  refine wpAny_bind (m:=checkCount "sorted" 1 1 _) (wpAny_pure (wpAny_bind (hcol fun h1 tk vs hv kp=>?_)))
  obtain ⟨h64,J,j0,step,fin⟩:=rest vs hv
  have hsl:vs.length<=sizeLine:=by rw [sizeLine_eq]; omega
  refine wpAny_bind (wpAny_newList ?_ (by simpa using hsl))
  have I1:=I.kept (t':=tk) kp
  have fD:FpOk X pins H h1.objs.size:=I1.fpOk (Nat.le_refl _) (I1.hok.fresh (Nat.le_refl _))
  have hoD:(h1.push (seqObj "list" vs.toArray 0)).get? h1.objs.size = some (seqObj "list" vs.toArray 0):=Heap.get?_push_size _ rfl
  have I2:=I1.kept (t':=tk) (h':=h1.push (seqObj "list" vs.toArray 0)) fun b o e=>Heap.get?_push_of_some _ e
  show wpAny _ _ _ _ _ { s with heap:=h1.push (seqObj "list" vs.toArray 0),toks:=tk }
  refine wpAny_bind (wpAny_holding (wpAny_call_entry_kw slot_list_sort ⟨_,hoD,rfl⟩ entry_list_sort ?body (ksk_l1 _ _)))
  case body =>
    show wpAny (model X.prog X.w) A.in1.in1 (Builtin.«list.sort» ⟨[.ref h1.objs.size],[(Str.ofString "key",.ref f)]⟩) _ _ _
    rw [ksk_t1]
    refine list_sortK I2 hoD fD h64 J j0 step fun us H' hu j'=>?_
    obtain ⟨z,κ,hz,hP⟩:=fin us H' hu j'
    exact ⟨z,κ,hz,fun s' c I' f' e=>⟨_,rfl,wpAny_pure ⟨_,rfl,hP s' _ c I' f' e⟩⟩⟩
end
end Srt
namespace Dl
open PySem L2 PySem.Spec PyProof.Rows
noncomputable def natsD (n:Nat):List D:=(List.range n).map fun i=>PyData.int ((i:Nat):Int)
noncomputable def fSortR (cs:List Nat) (fs:Env->Option (List D)) (te:Env->Option D):Env->Option (List D):=fun ρ=>(fs ρ).bind fun l=>match l with
  | [.int n]=>if 0<=n/\n < 64 then (keysL te (capsD 1 cs ρ) (natsD n.toNat)).bind fun ks=>(rowsOf ks).map fun nss=>byP (fun i=>rk nss (nss.getD i [])) (natsD n.toNat) .none else none
  | _=>none
theorem nats_vals:∀ {vs:List Value} {k:Nat},(∀ i v,vs[i]? = some v->∃ t,v = Value.int ((k + i:Nat):Int) t)->Vals ((List.range' k vs.length).map fun i=>V.int ((i:Nat):Int)) vs
  | [],k,_=>.nil
  | v :: vs,k,h=>by
    rw [List.length_cons,List.range'_succ,List.map_cons]
    obtain ⟨t,e⟩:=h 0 v rfl
    refine .cons ⟨t,by simpa using e⟩ (nats_vals fun i u hu=>?_)
    obtain ⟨t',e'⟩:=h (i + 1) u (by simpa using hu)
    exact ⟨t',by rw [e']; congr 1; omega⟩
theorem nats_reps {K:PySem.W.Frag} {HF:Hp}:∀ (l:List Nat),Reps K HF (l.map fun i=>PyData.int ((i:Nat):Int)) (l.map fun i=>V.int ((i:Nat):Int))
  | []=>Reps.nil
  | i :: l=>Reps.cons (by simp [Rep]) (nats_reps l)
section
variable {X:Cx} {N:List Str} {sc:Scope} {k:Nat}
variable {e body:Expr} {fs:Env->Option (List D)} {te:Env->Option D} {params:Arguments} {scope:Scope} {lpos pos p0 kpos rpos p1:Pos} {N':List Str} {cs:List Nat} {p qual:Str}
theorem Bk.sortR (C:Bk X N sc (k + 3)) (B:Blt X "sorted" (.builtin "sorted")) (BR:Blt X "range" (.type "range")) (L:LamAt X qual) (ok:compOk sc scope N N' 1 cs = true) (hl:lamOk scope N' p = true)
    (hb:∀ (cl:List (Str × Addr)) (pm ctv u:Value) (c:Addr),bindArgs (PySem.W.kla_fn "<lambda>" qual params body scope cl pm (.ref c) ctv) ⟨[u],[]⟩ = pure [(p,u)]) (hdef:defaultsOf params X.env = ([],[])) (h:DA X [e] fs)
    (hY:∀ A f c s H,Bk (cxLam X A qual scope N' f c s H) N' scope k->DE (cxLam X A qual scope N' f c s H) body te)
    (hsR:starEach [e] X.env = [(false,eval e X.env)])
    (hst:starEach [.Call (.Name "range" p1) [e] [] rpos] X.env = (false,eval (.Call (.Name "range" p1) [e] [] rpos) X.env) :: starEach [] X.env) (he:backTo pos (starEach [.Call (.Name "range" p1) [e] [] rpos] X.env) = (false,eval (.Call (.Name "range" p1) [e] [] rpos) X.env) :: backTo pos (starEach [] X.env)) (hpl:(backTo pos (starEach [.Call (.Name "range" p1) [e] [] rpos] X.env)).any (·.1) = false) :
    DF X (.Call (.Name "sorted" p0) [.Call (.Name "range" p1) [e] [] rpos] [⟨some "key",.Lambda params body scope lpos,kpos⟩] pos) (fSortR cs fs te):=by
  obtain ⟨S,_⟩:=C.comp ok
  have hnd:N'.Nodup:=by
    unfold compOk at ok
    simp only [Bool.and_eq_true,decide_eq_true_eq] at ok
    exact ok.2
  have hl':=hl
  unfold lamOk at hl'
  simp only [Bool.and_eq_true,List.all_eq_true,Bool.not_eq_true',decide_eq_false_iff_not,decide_eq_true_eq] at hl'
  obtain ⟨⟨⟨⟨hnc,hN0⟩,hp⟩,hco⟩,hgen⟩:=hl'
  obtain ⟨cc,P,hcode,hqual,hhd,hTab⟩:=L.ex
  intro pins s σ H Q I ⟨HF,ρ,out,sm,eo,hf,q⟩
  obtain ⟨ld,hld,hf⟩:=bs hf
  obtain ⟨n,rfl⟩:∃ n,ld = [.int n]:=by
    split at hf
    · exact ⟨_,rfl⟩
    · cases hf
  simp only at hf
  split at hf
  rotate_left
  · cases hf
  rename_i h64
  obtain ⟨ks,hks,hf⟩:=bs hf
  obtain ⟨nss,hns,rfl⟩:=map_some hf
  obtain ⟨hkr,hne⟩:=rowsOf_some hns
  refine wpAny_Call_Name_kw (ld_blt I B.gl B.mg B.bt ?_ (by decide) (by decide))
  refine PyProof.Rows.callWith_kw (e:=.Call (.Name "range" p1) [e] [] rpos) (rest:=[]) (kws:=[⟨some "key",.Lambda params body scope lpos,kpos⟩]) ?_ he hpl rfl rfl
  rw [he]
  refine Calls.spliced_cons ?_
  refine Call_ (ld_blt I BR.gl BR.mg boot_range (PyProof.Rows.callWith_type1 (thn (h rpos pins s σ H _ I ⟨HF,ρ,[.int n],sm,eo,hld,fun vs H1 HF1 g1 r1=>(⟨HF1,g1,r1⟩:∃ HF1,Grow HF H HF1 H1/\Reps X.K HF1 [.int n] vs)⟩) fun us s1 ⟨vs,H1,I1,rv,HF1,g1,r1⟩=>?_) hsR rfl))
  obtain ⟨v,vr,rfl,a1,b1⟩:=r1.cons_inv
  rw [b1.nil_inv] at rv
  obtain ⟨u,rfl,rx⟩:=vals1 rv
  simp only [Rep] at a1
  subst a1
  obtain ⟨t,rfl⟩:=rx
  refine call_range_1 ?_
  refine Calls.spliced_nil ?_
  obtain ⟨hn0,hn64⟩:=h64
  have I1':=I1.kept (t':=s1.toks + 1 + 1) (h':=s1.heap.push { cls:=Value.type "range",data:=Data.fields #[Value.int 0 s1.toks,Value.int n t,Value.int 1 (s1.toks + 1)] }) fun b o e=>Heap.get?_push_of_some _ e
  have hro:(s1.heap.push { cls:=Value.type "range",data:=Data.fields #[Value.int 0 s1.toks,Value.int n t,Value.int 1 (s1.toks + 1)] }).get? s1.heap.objs.size = some { cls:=Value.type "range",data:=Data.fields #[Value.int 0 s1.toks,Value.int n t,Value.int 1 (s1.toks + 1)] }:=Heap.get?_push_size _ rfl
  have Ir:=I1'.pinned (fp:=[s1.heap.objs.size]) (fun b hb=>by rw [List.mem_singleton.mp hb]; exact I1.fpOk (Nat.le_refl _) I1.fresh) (fun b hb=>by rw [List.mem_singleton.mp hb]; exact ⟨_,hro,fun v z=>by cases z⟩)
  have hT1:H1 P = some (.tab qual):=g1.fh _ _ (hTab HF1 (eo.tb.mono g1.ff))
  show wpAny _ _ (evalAll ((do let v <- eval (.Lambda params body scope lpos) X.env; standAt pos; pure v) :: [])) _ _ _
  refine wpAny_evalAll_cons (wpAny_bind ?_)
  refine lam_make (P:=P) Ir S hqual hcode (PySem.W.codeHd_of_K Ir.ok.mod.kin hhd) hT1 Ir.ok.mod.bmd hdef fun f c' pm ctv s2 H2 I2 hfo hfn hcod s12 fp2 _=>?_
  refine wpAny_bind (wpAny_standAt (wpAny_pure (wpAny_evalAll_nil ?_)))
  show wpAny _ _ (call (.builtin "sorted") [.ref s1.heap.objs.size] [(Str.ofString "key",.ref f)]) _ _ s2
  have hr2:IsRange s2.heap s1.heap.objs.size 0 n 1 s1.toks t (s1.toks + 1):=(Srt.pin_get I2 List.mem_cons_self hro).1
  have Ip:=I2.pinned (fp:=[f]) (fun b hb=>by rw [List.mem_singleton.mp hb]; exact fp2) (fun b hb=>by rw [List.mem_singleton.mp hb]; exact ⟨_,hfo,fun v z=>by cases z⟩)
  have g2:Grow HF1 H1 HF1 H2:=⟨s12,.refl _,g1.fh.trans s12,fun _ _ e=>.inl e⟩
  have hkl:=keysL_len hks
  have hnl:(natsD n.toNat).length = n.toNat:=by simp [natsD]
  have hR:Room (k + 1) X.A.in1.in1:=C.room.in1.in1
  refine Srt.sortedR (PV:=fun vs=>vs.length = n.toNat/\∀ i v,vs[i]? = some v->∃ t,v = Value.int ((i:Nat):Int) t) Ip (fun {Q'} hQ=>?_) fun its ⟨hil,hiv⟩=>⟨by omega,fun us H'=>∃ HF' kvs,Grow HF1 H2 HF' H'/\Reps X.K HF' (ks.take us.length) kvs/\Vals kvs us,⟨HF1,[],.refl g2.fh,by simpa using Reps.nil,.nil⟩,fun us x hx pl' s3 H3 I3 ⟨HF3,kvs,g3,rk,rvk⟩=>?_,fun us H3 hu ⟨HF3,kvs,g3,rk,rvk⟩=>?_⟩
  · refine Srt.collect_rng (n:=n.toNat) C.room.in1.hd hr2 (small_one (by omega) (by omega) (by omega) (by omega)) (by rw [rangeSize_one]; split <;> omega) (by omega) fun h' tk acc kp ha=>?_
    refine hQ h' tk acc.toList ⟨by have:=ha.1; simpa using this,fun i v hv=>?_⟩ kp
    obtain ⟨t',e'⟩:=ha.2 i v (by simpa using hv)
    exact ⟨t',by rw [e']; congr 1; omega⟩
  · have hi:us.length < n.toNat:=by rw [<- hil]; exact (List.getElem?_eq_some_iff.mp hx).1
    obtain ⟨tx,rfl⟩:=hiv _ _ hx
    have hd:(natsD n.toNat)[us.length]? = some (.int ((us.length:Nat):Int)):=by simp [natsD,hi]
    obtain ⟨kd,hkd,hki⟩:=keysL_at hks hd
    have hfo3:s3.heap.get? f = some (PySem.W.kla_obj "<lambda>" qual params body scope (clOf X.env scope.names []) pm c' ctv) :=
      (I3.pin (f,_) (List.mem_append_right _ (List.mem_append_left _ (List.mem_append_right _ (mem_pinsAt List.mem_cons_self hfo))))).1
    refine wpAny_mono (lam_call (v:=V.int ((us.length:Nat):Int)) (Q:=fun v H4=>∃ HF4,Grow HF3 H3 HF4 H4/\Rep X.K HF4 kd v) (te:=tD X.K te) I3 hR I3.ok.frames S hnc hN0 hp hnd hco hgen hfo3 (g3.hh _ _ hcod) (hb _ _ _ _ _) ⟨tx,rfl⟩ (hY _ _ _ _ _ (bk_lam C hR S.kind hnd hl))
      ⟨HF3,_,kd,g3.fh,caps_set (eo.mono (g1.ff.trans g3.ff)) (by simp [Rep]),hkd,fun v H4 HF4 g4 r4=>⟨HF4,g4,r4⟩⟩) (fun u s4 ⟨v4,H4,I4,r4,HF4,g4,rp⟩=>⟨H4,I4,HF4,kvs ++ [v4],g3.trans g4,?_,rvk.append (.cons r4 .nil)⟩) fun _ _ e=>e
    rw [List.length_append,List.length_singleton,List.take_add_one,hki]
    exact (rk.mono g4.ff).append (Reps.cons rp Reps.nil)
  · have hk':ks.take us.length = ks:=List.take_of_length_le (by omega)
    rw [hk',hkr] at rk
    have hnn:nss.length = n.toNat:=by
      have:=congrArg List.length hkr
      rw [List.length_map] at this
      omega
    refine ⟨fun i=>Dl.rk nss (nss.getD i []),tuples' true,fun h2 s3 I3=>⟨fun Q' q'=>?_,fun i j Cc hi hj q'=>?_⟩,fun s3 Dn c I3 fD e=>?_⟩
    · obtain ⟨fs',tt,hlen,hff⟩:=kat_tups (rows_at I3 g3.fh rk rvk) hne
      refine PySem.W.kat_kind (T:=.type "int") tt (by omega) (fun v hv=>?_) (by decide) q'
      obtain ⟨n',t',rfl⟩:=hff v hv
      exact PySem.W.Looks.of_pure rfl
    · have hp3:=rows_at I3 g3.fh rk rvk
      have ri:=paired_get (d:=Value.none) (d':=[]) hp3 (show i < us.length by omega)
      have rj:=paired_get (d:=Value.none) (d':=[]) hp3 (show j < us.length by omega)
      obtain ⟨a,o,its1,n1,ea,e1,e2,e3,e4⟩:=ri.ex
      obtain ⟨b,o',its',n',eb,f1,f2,f3,f4⟩:=rj.ex
      unfold PySem.W.kas_ask
      rw [ea,eb]
      have hmem:nss.getD i [] ∈ nss:=by
        rw [List.getD_eq_getElem?_getD,List.getElem?_eq_getElem (by omega)]
        exact List.getElem_mem _
      have q2:Cc (lexLt (nss.getD i []) (nss.getD j [])) s3:=by
        rw [rk_lt hmem]
        exact q'
      refine PySem.W.kat_lt e1 e3 f1 f3 ?_
      have:=lex_loop (prog:=X.prog) (w:=X.w) (A:=X.A.in1.in1) (s:=s3) 0 e4 f4 q2
      have l1:its1.size = (nss.getD i []).length:=by have:=IntsAre.length e4; simpa using this
      have l2:its'.size = (nss.getD j []).length:=by have:=IntsAre.length f4; simpa using this
      rw [l1,l2]
      exact this
    · have rvi:Vals ((List.range n.toNat).map fun i=>V.int ((i:Nat):Int)) its:=by
        have:=nats_vals (vs:=its) (k:=0) fun i v hv=>by
          obtain ⟨t',e'⟩:=hiv i v hv
          exact ⟨t',by rw [e']; congr 1; omega⟩
        rw [hil,<- List.range_eq_range'] at this
        exact this
      have rr:Reps X.K HF1 (natsD n.toNat) ((List.range n.toNat).map fun i=>V.int ((i:Nat):Int)):=nats_reps _
      have hv:=vals_byP (fun i=>Dl.rk nss (nss.getD i [])) rvi
      have hr:=reps_byP (fun i=>Dl.rk nss (nss.getD i [])) rr
      have hnD:H3 Dn = none:=fD.1
      have I4:=Inv.track (o:=.lst (byP (fun i=>Dl.rk nss (nss.getD i [])) ((List.range n.toNat).map fun i=>V.int ((i:Nat):Int)) .non)) I3 fD ⟨by rw [(byP_perm _ _ _).length_eq,List.length_map,List.length_range,PySem.sizeLine_eq]; omega,_,c,hv,e⟩
      have G:=(g1.trans g2).trans g3
      refine ⟨.ref Dn,_,I4.unpinned.unpinned,rfl,q Dn _ _ HF3 (G.trans (.own G.fh hnD)) (G.hh.free hnD) (G.fh.free hnD) upd_same (hr.mono g3.ff)⟩
end
end Dl
namespace Dl
open PySem L2 PySem.Spec PyProof.Rows
section
variable {X:Cx} {pos:Pos}
noncomputable def fG3 (i j l:Nat):Env->D->Option Env:=fun ρ d=>match d with
  | .tuple [x,y,z]=>if isFree ρ i = true/\isFree ρ j = true/\isFree ρ l = true then some (((ρ.set i (some x)).set j (some y)).set l (some z)) else none
  | _=>none
theorem dg_three (i j l:Nat) {x y z:Str} {px py pz:Pos} {k:Nat} (hc:X.calm = true) (hN:X.N.Nodup) (hi:X.N[i]? = some x) (hx:Loc X.env.scope x) (hj:X.N[j]? = some y) (hy:Loc X.env.scope y) (hl:X.N[l]? = some z) (hz:Loc X.env.scope z)
    (hf:X.fn x = true\/X.env.scope.names.lookup x = some .local) (hf':X.fn y = true\/X.env.scope.names.lookup y = some .local) (hf'':X.fn z = true\/X.env.scope.names.lookup z = some .local) :
    DG X (.Tuple [.Name x px,.Name y py,.Name z pz] k pos) (fG3 i j l) :=
  pg_imp (pg_tup hc (pgs_cons (pg_name hN hi hx hf) (pgs_cons (pg_name hN hj hy hf') (pgs_cons (pg_name hN hl hz hf'') pgs_nil)))) fun v σ H Q ⟨HF,ρ,d,ρ',sm,eo,r,hf,q⟩=>by
    unfold fG3 at hf
    split at hf
    · rename_i x' y' z'
      split at hf
      · rename_i hh
        cases hf
        simp only [Rep] at r
        obtain ⟨a,vs,rfl,hs,rr⟩:=r
        obtain ⟨v1,r1,rfl,a1,b1⟩:=rr.cons_inv
        obtain ⟨v2,r2,rfl,a2,b2⟩:=b1.cons_inv
        obtain ⟨v3,r3,rfl,a3,b3⟩:=b2.cons_inv
        rw [b3.nil_inv] at hs
        exact ⟨a,_,rfl,same_tup sm hs,rfl,v1,_,rfl,v2,_,rfl,v3,_,rfl,rfl,q _ (env_set (env_set (env_set eo a1) a2) a3) (env_old (env_old (env_old eo hh.1) hh.2.1) hh.2.2)⟩
      · cases hf
    · cases hf
end
end Dl
namespace Rf
open PySem L2 Dl PySem.Spec PyProof.Rows
structure Tr where
  e:Expr->Option (Dl.Env->Option D)
  f:Expr->Option (Dl.Env->Option (List D))
  t:Expr->Option (Dl.Env->Option Bool)
structure Sg where
  fn:List (Str × Nat × (List D->Option D))
  int:List (Str × Int)
noncomputable abbrev FE:=Dl.Env->Option D
noncomputable def trName (G:Sg) (sc:Scope) (N:List Str) (x:Str):Option FE:=match N.idxOf? x with
  | some i=>if visB N sc i x = true then some (fVar i) else none
  | none=>if (glB sc x && !(x == ("__debug__":Str))) = true then (G.int.lookup x).map fun n=>fC (.int n) else none
noncomputable def trConst:Const->Option FE
  | .int i=>some (fC (.int i))
  | .bool b=>some (fC (.bool b))
  | .none=>some (fC .none)
  | .str x=>some (fC (.str x))
  | _=>none
noncomputable def trUn (T:Tr) (op:UnaryOp) (a:Expr):Option FE:=match op with
  | .Not=>(T.e a).map fNot
  | .USub=>(T.e a).map (f1 gNeg)
  | _=>none
noncomputable def binG:Operator->Option (D->D->Option D)
  | .Add=>some gAdd
  | .Sub=>some Dl.gSub
  | .Mult=>some gMul
  | .FloorDiv=>some gDiv
  | .Mod=>some gMod
  | _=>none
noncomputable def isLst:Expr->Bool
  | .List ..=>true
  | .ListComp ..=>true
  | _=>false
noncomputable def listy:Expr->Bool
  | .List ..=>true
  | .ListComp ..=>true
  | .BinOp a .Mult _ _=>isLst a
  | .BinOp a .Add b _=>listy a || listy b
  | .Call (.Name x _) _ _ _=>x == ("sorted":Str) || x == ("list":Str)
  | _=>false
noncomputable def trBin (T:Tr) (whole a:Expr) (op:Operator) (b:Expr):Option FE :=
  if listy whole = true then (T.f whole).map fLs else (binG op).bind fun g=>(T.e a).bind fun x=>(T.e b).map fun y=>f2 g x y
noncomputable def trBool (T:Tr) (op:BoolOp):List Expr->Option FE
  | []=>none
  | [a]=>T.e a
  | a :: b :: r=>(T.e a).bind fun x=>(trBool T op (b :: r)).map fun y=>match op with | .And=>fAnd x y | .Or=>fOr x y
noncomputable def cmpG:CmpOp->Option (D->D->Option D)
  | .Lt=>some gLt
  | .LtE=>some gLe
  | .Gt=>some gGt
  | .GtE=>some gGe
  | .Eq=>some gEqD
  | .NotEq=>some gNeD
  | .In=>some gInD
  | .Is=>some gIsN
  | .IsNot=>some gNotN
  | _=>none
noncomputable def chG:CmpOp->Option (D->D->Option D)
  | .Lt=>some gLt
  | .LtE=>some gLe
  | _=>none
noncomputable def trCmp (T:Tr) (a:Expr) (ops:List CmpOp) (cs:List Expr):Option FE:=match ops,cs with
  | [op],[b]=>if behindInMarks op b = false then (cmpG op).bind fun g=>(T.e a).bind fun x=>(T.e b).map fun y=>f2 g x y else none
  | [op,op'],[b,c]=>if lastMarks [op,op'] [b,c] = false then (chG op).bind fun g=>(chG op').bind fun g'=>(T.e a).bind fun x=>(T.e b).bind fun y=>(T.e c).map fun z=>fChain g g' x y z else none
  | _,_=>none
noncomputable def trA (T:Tr):List Expr->Option (Dl.Env->Option (List D))
  | []=>some fNil
  | e :: es=>if isStar e = false then (T.e e).bind fun x=>(trA T es).map fun r=>fCons x r else none
noncomputable def trO (T:Tr):Option Expr->Option (Dl.Env->Option (Option Int))
  | none=>some fNoB
  | some e=>(T.e e).map fBd
noncomputable def isCut:Expr->Bool
  | .Slice ..=>true
  | .Tuple ..=>true
  | .Starred ..=>true
  | _=>false
noncomputable def isMinus1:Expr->Bool
  | .UnaryOp .USub (.Constant (.int 1) _ _) _=>true
  | _=>false
noncomputable def trSub (T:Tr) (a b:Expr):Option FE:=match b with
  | .Slice lo hi none _=>(T.e a).bind fun x=>(trO T lo).bind fun l=>(trO T hi).map fun h=>fCut gCutA x l h
  | .Slice none none (some s) _=>if isMinus1 s = true then (T.e a).map fun x=>f1 gRev x else none
  | _=>if isCut b = false then (T.e a).bind fun x=>(T.e b).map fun y=>f2 gIx x y else none
noncomputable def gAny:List D->Option D:=fun ds=>(oneOf ds).bind fun d=>match d with
  | .list es=>(boolsOf es).map fun bs=>.bool (bs.any id)
  | _=>none
noncomputable def isSetCall:Expr->Option Expr
  | .Call (.Name x _) [e] [] _=>if x = "set" then some e else none
  | _=>none
noncomputable def tyOf (x:Str):Option String:=if x = "int" then some "int" else if x = "bool" then some "bool" else if x = "tuple" then some "tuple" else if x = "list" then some "list" else none
noncomputable def trCall (G:Sg) (sc:Scope) (T:Tr) (whole:Expr) (x:Str) (args:List Expr):Option FE :=
  if (glB sc x && args.all fun e=>!isStar e) = true then
    match G.fn.lookup x with
    | some (n,m)=>if (args.isEmpty || x == ("__debug__":Str)) = true then none else (trA T args).map fun fs=>fCall n m fs
    | none =>
      if x = "len" then (match args with
        | [e]=>(match isSetCall e with
          | some e'=>if (glB sc "set" && !isStar e') = true then (T.e e').map fun y=>f1 gLenSet y else none
          | none=>(trA T args).map fun fs=>fCB gLen fs)
        | _=>none)
      else if x = "isinstance" then (match args with
        | [e,.Name y _]=>if glB sc y = true then (tyOf y).bind fun ty=>(T.e e).map fun z=>fIs ty z else none
        | _=>none)
      else if x = "tuple" then (if args.length = 1 then (trA T args).map fun fs=>fCB gTuple fs else none)
      else if x = "all" then (if args.length = 1 then (trA T args).map fun fs=>fCB gAll fs else none)
      else if x = "any" then (if args.length = 1 then (trA T args).map fun fs=>fCB gAny fs else none)
      else if x = "sum" then (if args.length = 1 then (trA T args).map fun fs=>fCB gSum fs else none)
      else if x = "min" then (if args.isEmpty = true then none else (trA T args).map fun fs=>fCB gMin fs)
      else if (x == ("list":Str) || x == ("sorted":Str)) = true then (T.f whole).map fLs
      else none
  else none
noncomputable def isCallE:Expr->Bool
  | .Call ..=>true
  | _=>false
noncomputable def trMeth (T:Tr) (o:Expr) (m:Str) (apos:Pos) (args:List Expr) (cpos:Pos):Option FE :=
  if (m == ("index":Str) && apos.endLine == cpos.line && !isCallE o) = true then (match args with
    | [e]=>if isStar e = false then (T.e o).bind fun x=>(T.e e).map fun y=>f2 gIx2 x y else none
    | _=>none)
  else none
noncomputable def stepE (G:Sg) (sc:Scope) (N:List Str) (T:Tr) (whole:Expr):Option FE:=match whole with
  | .Name x _=>trName G sc N x
  | .Constant c _ _=>trConst c
  | .UnaryOp op a _=>trUn T op a
  | .BinOp a op b _=>trBin T whole a op b
  | .BoolOp op es _=>trBool T op es
  | .Compare a ops cs _=>trCmp T a ops cs
  | .IfExp c a b _=>(T.t c).bind fun z=>(T.e a).bind fun x=>(T.e b).map fun y=>fIf z x y
  | .Tuple es _ _=>(trA T es).map fTup
  | .Subscript a b _=>trSub T a b
  | .List ..=>(T.f whole).map fLs
  | .ListComp ..=>(T.f whole).map fLs
  | .Call (.Name x _) args [] _=>trCall G sc T whole x args
  | .Call (.Name _ _) _ (_ :: _) _=>(T.f whole).map fLs
  | .Call (.Attribute o m apos) args [] cpos=>trMeth T o m apos args cpos
  | _=>none
noncomputable def trW (T:Tr) (op:BoolOp):List Expr->Option (Dl.Env->Option Bool)
  | []=>none
  | [a]=>T.t a
  | a :: b :: r=>(T.t a).bind fun x=>(trW T op (b :: r)).map fun y=>match op with | .And=>fAndT x y | .Or=>fOrT x y
noncomputable def isPlainT:Expr->Bool
  | .Name ..=>true
  | .Call ..=>true
  | .Subscript ..=>true
  | _=>false
noncomputable def stepT (T:Tr) (whole:Expr):Option (Dl.Env->Option Bool):=match whole with
  | .Compare a ops cs _=>(trCmp T a ops cs).map fB
  | .UnaryOp .Not a _=>(T.t a).map fNotT
  | .BoolOp op es _=>trW T op es
  | _=>if isPlainT whole = true then (T.e whole).map fB else none
noncomputable def isTupT:Expr->Bool
  | .Tuple ..=>true
  | _=>false
noncomputable def trI (sc:Scope) (T:Tr) (tg iter:Expr):Option (Dl.Env->Option (List D)):=match iter with
  | .Call (.Name x _) args [] _ =>
    if x = "range" then (match args with | [e]=>if (glB sc "range" && !isStar e) = true then (trA T args).map fRange else none | _=>none)
    else if x = "enumerate" then (match args with | [e]=>if (glB sc "enumerate" && !isStar e && isTupT tg) = true then (trA T args).map fEnum else none | _=>none)
    else if x = "zip" then (match args with | [e,e']=>if (glB sc "zip" && !isStar e && !isStar e' && isTupT tg) = true then (trA T args).map fZip2 else none | _=>none)
    else (T.e iter).map fSeq
  | .Set ..=>none
  | _=>(T.e iter).map fSeq
noncomputable def tgN:Expr->Option (List Str)
  | .Name x _=>some [x]
  | .Tuple [.Name x _,.Name y _] _ _=>some [x,y]
  | _=>none
noncomputable def tgC:Expr->Option (List Str)
  | .Tuple [.Name x _,.Name y _,.Name z _] _ _=>some [x,y,z]
  | tg=>tgN tg
noncomputable def capIx (N:List Str) (scope:Scope):List Nat:=(List.range N.length).filter fun j=>match N[j]? with | some x=>decide (scope.names.lookup x = some .free) | none=>false
noncomputable def noFold:Expr->Bool
  | .Set ..=>false
  | _=>true
noncomputable def trIfs (B:Tr) (ifs:List Expr):Option (Dl.Env->Option Bool):=match ifs with
  | []=>some fun _=>some true
  | [c]=>B.t c
  | _=>none
noncomputable def trComp (sc:Scope) (N:List Str) (T:Tr) (blk:Scope->List Str->Tr) (elt:Expr) (gens:List Comprehension) (scope:Scope):Option (Dl.Env->Option (List D)):=match gens with
  | [⟨tg,iter,ifs,as⟩] =>
    if as = 0 then (tgC tg).bind fun xs =>
      if (compOk sc scope N (xs ++ (capIx N scope).filterMap fun j=>N[j]?) xs.length (capIx N scope) && (List.range xs.length).all fun i=>locB (xs ++ (capIx N scope).filterMap fun j=>N[j]?) scope i (xs.getD i "")) = true then
        (trI sc T tg iter).bind fun fi=>(trIfs (blk scope (xs ++ (capIx N scope).filterMap fun j=>N[j]?)) ifs).bind fun tt =>
          ((blk scope (xs ++ (capIx N scope).filterMap fun j=>N[j]?)).e elt).map fun te=>fComp xs.length (capIx N scope) fi (match xs with | [_]=>fG 0 | [_,_]=>fG2 0 1 | _=>fG3 0 1 2) tt te
      else none
    else none
  | _=>none
noncomputable def parOf:Arguments->Option Str
  | ⟨[],[⟨x,none,_⟩],none,[],[],none,[]⟩=>if x = "number" then some x else if x = "plan" then some x else none
  | _=>none
noncomputable def trSortK (lam:Option Str) (sc:Scope) (N:List Str) (T:Tr) (lmb:Scope->List Str->Tr) (l:Expr) (params:Arguments) (body:Expr) (scope:Scope):Option (Dl.Env->Option (List D)) :=
  if (lam.isSome && glB sc "sorted" && !isStar l) = true then
    (parOf params).bind fun p =>
      if (compOk sc scope N (p :: (capIx N scope).filterMap fun j=>N[j]?) 1 (capIx N scope) && lamOk scope (p :: (capIx N scope).filterMap fun j=>N[j]?) p) = true then
        (T.e l).bind fun fl=>((lmb scope (p :: (capIx N scope).filterMap fun j=>N[j]?)).e body).map fun te=>fSortK (capIx N scope) fl te
      else none
  else none
noncomputable def trSortR (lam:Option Str) (sc:Scope) (N:List Str) (T:Tr) (lmb:Scope->List Str->Tr) (l:Expr) (params:Arguments) (body:Expr) (scope:Scope):Option (Dl.Env->Option (List D)):=match l with
  | .Call (.Name r _) [e] [] _ =>
    if (lam.isSome && glB sc "sorted" && r == ("range":Str) && glB sc "range" && !isStar e) = true then
      (parOf params).bind fun p =>
        if (compOk sc scope N (p :: (capIx N scope).filterMap fun j=>N[j]?) 1 (capIx N scope) && lamOk scope (p :: (capIx N scope).filterMap fun j=>N[j]?) p) = true then
          (trA T [e]).bind fun fs=>((lmb scope (p :: (capIx N scope).filterMap fun j=>N[j]?)).e body).map fun te=>fSortR (capIx N scope) fs te
        else none
    else none
  | _=>none
noncomputable def stepF (lam:Option Str) (sc:Scope) (N:List Str) (T:Tr) (blk lmb:Scope->List Str->Tr) (whole:Expr):Option (Dl.Env->Option (List D)):=match whole with
  | .List es _=>(trA T es).map fLst
  | .ListComp elt gens scope _=>trComp sc N T blk elt gens scope
  | .BinOp a .Mult b _=>if isLst a = true then (T.f a).bind fun x=>(T.e b).map fun y=>fRepF x y else none
  | .BinOp a .Add b _=>(T.e a).bind fun x=>(T.e b).map fun y=>f2L gCatL x y
  | .Call (.Name x _) [l] [⟨some ky,.Lambda params body scope _,_⟩] _=>if (x == ("sorted":Str) && ky == ("key":Str)) = true then (match trSortK lam sc N T lmb l params body scope with | some f=>some f | none=>trSortR lam sc N T lmb l params body scope) else none
  | .Call (.Name x _) [e] [] _ =>
    if (glB sc x && !isStar e) = true then
      if x = "list" then (trA T [e]).map fun fs=>fCBF gItems fs
      else if x = "sorted" then (trA T [e]).map fun fs=>fCBF gSorted fs
      else none
    else none
  | _=>none
noncomputable def tr (G:Sg):Nat->Option Str->Scope->List Str->Tr
  | 0,_,_,_=>⟨fun _=>none,fun _=>none,fun _=>none⟩
  | n + 1,lam,sc,N=>⟨stepE G sc N (tr G n lam sc N),stepF lam sc N (tr G n lam sc N) (tr G n none) (tr G n none),stepT (tr G n lam sc N)⟩
end Rf
namespace Rf
open PySem L2 Dl PySem.Spec PyProof.Rows
structure GOk (G:Sg) (X:Cx) (j:Nat):Prop where
  fn:∀ x n m,G.fn.lookup x = some (n,m)->FnD X.prog X.w X.K X.mg X.base j x n m
  int:∀ x i,G.int.lookup x = some i->∃ t,X.mg x = some (.int i t)
  bn:Bn X
structure CompOk (X:Cx) (tg iter:Expr) (ifs:List Expr) (elt:Expr) (scope:Scope) (f:Dl.Env->Option (List D)):Prop where
  ex:∃ (N':List Str) (t:Nat) (cs:List Nat) (fi:Dl.Env->Option (List D)) (tgt:Dl.Env->D->Option Dl.Env) (tt:Dl.Env->Option Bool) (te:FE),f = fComp t cs fi tgt tt te/\CompSc X scope N' (capsV t cs)/\DI X tg iter fi/\(∀ x,foldedSetIterable iter X.env x = pure x) /\
    ∀ fp s H,DG (cxComp X scope N' fp s H) tg tgt/\DTs (cxComp X scope N' fp s H) ifs tt/\DE (cxComp X scope N' fp s H) elt te
structure TrOk (X:Cx) (T:Tr):Prop where
  c:∀ elt gens scope p f,T.f (.ListComp elt gens scope p) = some f->∃ tg iter ifs,gens = [⟨tg,iter,ifs,0⟩]/\CompOk X tg iter ifs elt scope f
  e:∀ e f,T.e e = some f->DE X e f
  f:∀ e f,T.f e = some f->DF X e f
  t:∀ e f,T.t e = some f->DT X e f
section
variable {G:Sg} {X:Cx} {N:List Str} {sc:Scope} {k j:Nat} {T:Tr} {pos p:Pos}
theorem trName_ok (C:Bk X N sc k) (g:GOk G X j) {x:Str} {f:FE} (h:trName G sc N x = some f):DE X (.Name x pos) f:=by
  unfold trName at h
  split at h
  · split at h
    · cases h; exact C.v _ ‹_›
    · cases h
  · split at h
    · rename_i hg
      obtain ⟨n,hn,rfl⟩:=map_some h
      obtain ⟨t,ht⟩:=g.int x n hn
      simp only [Bool.and_eq_true,Bool.not_eq_true'] at hg
      exact de_gint (C.gl hg.1) ht hg.2
    · cases h
theorem trConst_ok {c:Const} {i:Nat} {f:FE} (h:trConst c = some f):DE X (.Constant c i pos) f:=by
  cases c <;> cases h <;> first | exact de_int | exact de_bl | exact de_non | exact de_str
theorem trUn_ok (C:Bk X N sc k) (O:TrOk X T) {op:UnaryOp} {a:Expr} {f:FE} (h:trUn T op a = some f):DE X (.UnaryOp op a pos) f:=by
  cases op <;> try cases h
  · obtain ⟨x,hx,rfl⟩:=map_some h; exact de_not (O.e _ _ hx)
  · obtain ⟨x,hx,rfl⟩:=map_some h; exact C.neg (O.e _ _ hx)
theorem trBin_ok (C:Bk X N sc k) (O:TrOk X T) {op:Operator} {a b:Expr} {f:FE} (h:trBin T (.BinOp a op b pos) a op b = some f):DE X (.BinOp a op b pos) f:=by
  unfold trBin at h
  split at h
  · obtain ⟨x,hx,rfl⟩:=map_some h; exact DF.de (O.f _ _ hx)
  · obtain ⟨g,hg,h⟩:=bs h
    obtain ⟨x,hx,h⟩:=bs h
    obtain ⟨y,hy,rfl⟩:=map_some h
    cases op <;> cases hg
    · exact C.add (O.e _ _ hx) (O.e _ _ hy)
    · exact C.sub (O.e _ _ hx) (O.e _ _ hy)
    · exact C.mul (O.e _ _ hx) (O.e _ _ hy)
    · exact C.mod (O.e _ _ hx) (O.e _ _ hy)
    · exact C.div (O.e _ _ hx) (O.e _ _ hy)
theorem trBool_ok (O:TrOk X T) {op:BoolOp}:∀ {es:List Expr} {f:FE},trBool T op es = some f->DE X (.BoolOp op es pos) f
  | [],f,h=>by cases h
  | [a],f,h=>de_one (O.e _ _ h)
  | a :: b :: r,f,h=>by
    unfold trBool at h
    obtain ⟨x,hx,h⟩:=bs h
    obtain ⟨y,hy,rfl⟩:=map_some h
    have ih:=trBool_ok O hy
    cases op with
    | And=>exact de_and (O.e _ _ hx) ih
    | Or=>exact de_or (O.e _ _ hx) ih
theorem cmp_ok (C:Bk X N sc k) {op:CmpOp} {a b:Expr} {g:D->D->Option D} {x y:FE} (hg:cmpG op = some g) (hm:behindInMarks op b = false) (ha:DE X a x) (hb:DE X b y):DE X (.Compare a [op] [b] pos) (f2 g x y)/\DT X (.Compare a [op] [b] pos) (fB (f2 g x y)):=by
  cases op <;> cases hg
  · exact ⟨C.eq ha hb,C.teq ha hb⟩
  · exact ⟨C.ne ha hb,C.tne ha hb⟩
  · exact ⟨C.lt ha hb,C.tlt ha hb⟩
  · exact ⟨C.le ha hb,C.tle ha hb⟩
  · exact ⟨C.gt ha hb,C.tgt ha hb⟩
  · exact ⟨C.ge ha hb,C.tge ha hb⟩
  · exact ⟨C.is0 ha hb,C.tis0 ha hb⟩
  · exact ⟨C.not0 ha hb,C.tnot0 ha hb⟩
  · exact ⟨C.isin ha hb hm,C.tin ha hb hm⟩
theorem ch_op {op:CmpOp} {g:D->D->Option D} (h:chG op = some g):∃ r,OpR X (compareOp op) r/\Sem2 X.K r g:=by
  cases op <;> cases h
  · exact ⟨_,op_lt,sem_B0⟩
  · exact ⟨_,op_le,sem_B0⟩
theorem trCmp_ok (C:Bk X N sc k) (O:TrOk X T) {a:Expr} {ops:List CmpOp} {cs:List Expr} {f:FE} (h:trCmp T a ops cs = some f):DE X (.Compare a ops cs pos) f/\DT X (.Compare a ops cs pos) (fB f):=by
  unfold trCmp at h
  split at h
  · split at h
    · rename_i hm
      obtain ⟨g,hg,h⟩:=bs h
      obtain ⟨x,hx,h⟩:=bs h
      obtain ⟨y,hy,rfl⟩:=map_some h
      exact cmp_ok C hg hm (O.e _ _ hx) (O.e _ _ hy)
    · cases h
  · split at h
    · rename_i hm
      obtain ⟨g,hg,h⟩:=bs h
      obtain ⟨g',hg',h⟩:=bs h
      obtain ⟨x,hx,h⟩:=bs h
      obtain ⟨y,hy,h⟩:=bs h
      obtain ⟨z,hz,rfl⟩:=map_some h
      obtain ⟨r,r1,r2⟩:=ch_op (X:=X) hg
      obtain ⟨r',r1',r2'⟩:=ch_op (X:=X) hg'
      exact ⟨de_chain r1 r2 r1' r2' (O.e _ _ hx) (O.e _ _ hy) (O.e _ _ hz) hm,dt_chain r1 r2 r1' r2' (O.e _ _ hx) (O.e _ _ hy) (O.e _ _ hz) hm⟩
    · cases h
  · cases h
theorem trA_ok (O:TrOk X T):∀ {es:List Expr} {fs:Dl.Env->Option (List D)},trA T es = some fs->DA X es fs
  | [],fs,h=>by cases h; exact da_nil
  | e :: es,fs,h=>by
    unfold trA at h
    split at h
    · rename_i hs
      obtain ⟨x,hx,h⟩:=bs h
      obtain ⟨r,hr,rfl⟩:=map_some h
      exact da_c hs (O.e _ _ hx) (trA_ok O hr)
    · cases h
theorem trO_ok (O:TrOk X T) {o:Option Expr} {f:Dl.Env->Option (Option Int)} (h:trO T o = some f):DO X o f:=by
  cases o with
  | none=>cases h; exact do_none
  | some e=>obtain ⟨x,hx,rfl⟩:=map_some h; exact do_some (O.e _ _ hx)
theorem plainIx_of {b:Expr} (h:isCut b = false):PlainIx b:=by
  cases b <;> first | (intro _ _; rfl) | cases h
theorem minus1_of {e:Expr} (h:isMinus1 e = true):∃ j p4 p3,e = .UnaryOp .USub (.Constant (.int 1) j p4) p3:=by
  unfold isMinus1 at h
  split at h
  · exact ⟨_,_,_,rfl⟩
  · cases h
theorem trSub_ok (C:Bk X N sc k) (O:TrOk X T) {a b:Expr} {f:FE} (h:trSub T a b = some f):DE X (.Subscript a b pos) f:=by
  unfold trSub at h
  split at h
  · obtain ⟨x,hx,h⟩:=bs h
    obtain ⟨l,hl,h⟩:=bs h
    obtain ⟨u,hu,rfl⟩:=map_some h
    exact C.cut (O.e _ _ hx) (trO_ok O hl) (trO_ok O hu)
  · split at h
    · rename_i hm
      obtain ⟨x,hx,rfl⟩:=map_some h
      obtain ⟨_,_,_,rfl⟩:=minus1_of hm
      exact de_rev (O.e _ _ hx)
    · cases h
  · split at h
    · rename_i hc
      obtain ⟨x,hx,h⟩:=bs h
      obtain ⟨y,hy,rfl⟩:=map_some h
      exact de_ix (O.e _ _ hx) (O.e _ _ hy) (plainIx_of hc)
    · cases h
theorem noStar_any {env:PySem.Env}:∀ {es:List Expr},(es.all fun e=>!isStar e) = true->(backTo pos (starEach es env)).any (·.1) = false
  | [],_=>rfl
  | e :: es,h=>by
    rw [List.all_cons,Bool.and_eq_true,Bool.not_eq_true'] at h
    rw [star_of h.1]
    show (false || (backTo pos (starEach es env)).any (·.1)) = false
    rw [noStar_any h.2]
    rfl
theorem isSet_of {e e':Expr} (h:isSetCall e = some e'):∃ p q,e = .Call (.Name "set" p) [e'] [] q:=by
  unfold isSetCall at h
  split at h
  · split at h
    · rename_i hx; cases h; subst hx; exact ⟨_,_,rfl⟩
    · cases h
  · cases h
theorem tyOf_ok {y:Str} {ty:String} (h:tyOf y = some ty):y ∈ bltNames/\bootBuiltins y = some (.type ty)/\y ≠ "__name__"/\(y == ("__debug__":Str)) = false:=by
  unfold tyOf at h
  split at h
  · rename_i e; cases h; subst e; exact ⟨by decide +kernel,by decide +kernel,by decide,by decide⟩
  · split at h
    · rename_i e; cases h; subst e; exact ⟨by decide +kernel,by decide +kernel,by decide,by decide⟩
    · split at h
      · rename_i e; cases h; subst e; exact ⟨by decide +kernel,by decide +kernel,by decide,by decide⟩
      · split at h
        · rename_i e; cases h; subst e; exact ⟨by decide +kernel,by decide +kernel,by decide,by decide⟩
        · cases h
theorem bo_any:bootBuiltins "any" = some (.builtin "any"):=by decide +kernel
theorem bo_sum:bootBuiltins "sum" = some (.builtin "sum"):=by decide +kernel
theorem bo_min:bootBuiltins "min" = some (.builtin "min"):=by decide +kernel
theorem len1 {α:Type} {l:List α} (h:l.length = 1):∃ a,l = [a]:=by
  match l,h with
  | [a],_=>exact ⟨a,rfl⟩
theorem trCall_ok (C:Bk X N sc k) (g:GOk G X j) (hjk:j<=k) (O:TrOk X T) {x:Str} {args:List Expr} {f:FE} (h:trCall G sc T (.Call (.Name x p) args [] pos) x args = some f):DE X (.Call (.Name x p) args [] pos) f:=by
  unfold trCall at h
  split at h
  · rename_i hg
    rw [Bool.and_eq_true] at hg
    obtain ⟨hg,hs⟩:=hg
    have st1:∀ {e:Expr} {es:List Expr},args = e :: es->starEach (e :: es) X.env = (false,eval e X.env) :: starEach es X.env:=fun {e es} q=>by
      subst q
      rw [List.all_cons,Bool.and_eq_true,Bool.not_eq_true'] at hs
      exact star_of hs.1
    have st2:∀ {e:Expr} {es:List Expr},args = e :: es->(backTo pos (starEach es X.env)).any (·.1) = false:=fun {e es} q=>by
      subst q
      rw [List.all_cons,Bool.and_eq_true] at hs
      exact noStar_any hs.2
    split at h
    · rename_i n m hfn
      split at h
      · cases h
      · rename_i hne
        obtain ⟨fs,hfs,rfl⟩:=map_some h
        cases args with
        | nil=>exact absurd (by simp) hne
        | cons e es =>
          have hd:(x == ("__debug__":Str)) = false:=by simpa using hne
          exact de_call (g.fn x n m hfn) (C.room.mono hjk) (C.gl hg) (trA_ok O hfs) hd (st1 rfl) (st2 rfl)
    · split at h
      · rename_i hx
        subst hx
        split at h
        · rename_i e
          split at h
          · rename_i e' he'
            split at h
            · rename_i hg2
              rw [Bool.and_eq_true,Bool.not_eq_true'] at hg2
              obtain ⟨y,hy,rfl⟩:=map_some h
              obtain ⟨p1,p2,rfl⟩:=isSet_of he'
              exact de_lenset C.calm (C.blt g.bn hg (by decide +kernel) bo_len) (C.blt g.bn hg2.1 (by decide +kernel) bo_set) (O.e _ _ hy) (star_of hg2.2)
            · cases h
          · obtain ⟨fs,hfs,rfl⟩:=map_some h
            exact de_len (C.blt g.bn hg (by decide +kernel) bo_len) (trA_ok O hfs) (st1 rfl)
        · cases h
      · split at h
        · rename_i hx
          subst hx
          split at h
          · rename_i e y py
            split at h
            · rename_i hgy
              obtain ⟨ty,hty,h⟩:=bs h
              obtain ⟨z,hz,rfl⟩:=map_some h
              obtain ⟨t1,t2,t3,t4⟩:=tyOf_ok hty
              exact de_is (C.blt g.bn hg (by decide +kernel) bo_isinstance) (C.blt g.bn hgy t1 t2) (O.e _ _ hz) t3 t4 (st1 rfl)
            · cases h
          · cases h
        · split at h
          · rename_i hx
            subst hx
            split at h
            · rename_i hl
              obtain ⟨fs,hfs,rfl⟩:=map_some h
              obtain ⟨e,rfl⟩:=len1 hl
              exact de_tuple (C.blt g.bn hg (by decide +kernel) bo_tuple) (trA_ok O hfs) (st1 rfl)
            · cases h
          · split at h
            · rename_i hx
              subst hx
              split at h
              · rename_i hl
                obtain ⟨fs,hfs,rfl⟩:=map_some h
                obtain ⟨e,rfl⟩:=len1 hl
                exact de_all C.calm (C.blt g.bn hg (by decide +kernel) bo_all) (trA_ok O hfs) (st1 rfl)
              · cases h
            · split at h
              · rename_i hx
                subst hx
                split at h
                · rename_i hl
                  obtain ⟨fs,hfs,rfl⟩:=map_some h
                  obtain ⟨e,rfl⟩:=len1 hl
                  exact de_any C.calm (C.blt g.bn hg (by decide +kernel) bo_any) (st1 rfl) (trA_ok O hfs)
                · cases h
              · split at h
                · rename_i hx
                  subst hx
                  split at h
                  · rename_i hl
                    obtain ⟨fs,hfs,rfl⟩:=map_some h
                    obtain ⟨e,rfl⟩:=len1 hl
                    exact de_sum C.calm (C.blt g.bn hg (by decide +kernel) bo_sum) (st1 rfl) (trA_ok O hfs)
                  · cases h
                · split at h
                  · rename_i hx
                    subst hx
                    split at h
                    · cases h
                    · rename_i hl
                      obtain ⟨fs,hfs,rfl⟩:=map_some h
                      cases args with
                      | nil=>exact absurd rfl hl
                      | cons e es=>exact de_min C.calm (C.blt g.bn hg (by decide +kernel) bo_min) (st1 rfl) (st2 rfl) (trA_ok O hfs)
                  · split at h
                    · obtain ⟨y,hy,rfl⟩:=map_some h
                      exact DF.de (O.f _ _ hy)
                    · cases h
  · cases h
end
end Rf
namespace Rf
open PySem L2 Dl PySem.Spec PyProof.Rows
section
variable {G:Sg} {X:Cx} {N:List Str} {sc:Scope} {k j:Nat} {T:Tr} {pos p:Pos}
theorem few1 {env:PySem.Env} {e:Expr} {cpos:Pos} (h:isStar e = false):((backTo cpos (starEach [e] env)).all (fun x=>!x.1) && (backToKw cpos (keywordEach [] env)).all (fun x=>x.1.isSome) && decide ([e].length + ([]:List Keyword).length + (if ([]:List Keyword).isEmpty then 0 else 1) < 30)) = true:=by
  rw [star_of h]; rfl
theorem base_of {o:Expr} {a:Str} {env:PySem.Env} {w:Sem Value} (h:isCallE o = false):attributeBase o a env w = w:=by
  cases o <;> first | rfl | cases h
theorem trMeth_ok (O:TrOk X T) {o:Expr} {m:Str} {apos cpos:Pos} {args:List Expr} {f:FE} (h:trMeth T o m apos args cpos = some f):DE X (.Call (.Attribute o m apos) args [] cpos) f:=by
  unfold trMeth at h
  split at h
  · rename_i hm
    rw [Bool.and_eq_true,Bool.and_eq_true,Bool.not_eq_true'] at hm
    obtain ⟨⟨hm1,hm⟩,hcl⟩:=hm
    have e1:m = "index":=eq_of_beq hm1
    subst e1
    split at h
    · rename_i e
      split at h
      · rename_i hs
        obtain ⟨x,hx,h⟩:=bs h
        obtain ⟨y,hy,rfl⟩:=map_some h
        exact de_index2 (base_of hcl) (few1 hs) hm (star_of hs) (O.e _ _ hx) (O.e _ _ hy)
      · cases h
    · cases h
  · cases h
theorem stepE_ok (C:Bk X N sc k) (g:GOk G X j) (hjk:j<=k) (O:TrOk X T) {e:Expr} {f:FE} (h:stepE G sc N T e = some f):DE X e f:=by
  unfold stepE at h
  split at h
  · exact trName_ok C g h
  · exact trConst_ok h
  · exact trUn_ok C O h
  · exact trBin_ok C O h
  · exact trBool_ok O h
  · exact (trCmp_ok C O h).1
  · obtain ⟨z,hz,h⟩:=bs h
    obtain ⟨x,hx,h⟩:=bs h
    obtain ⟨y,hy,rfl⟩:=map_some h
    exact de_if (O.t _ _ hz) (O.e _ _ hx) (O.e _ _ hy)
  · obtain ⟨x,hx,rfl⟩:=map_some h; exact de_tup (trA_ok O hx)
  · exact trSub_ok C O h
  · obtain ⟨x,hx,rfl⟩:=map_some h; exact DF.de (O.f _ _ hx)
  · obtain ⟨x,hx,rfl⟩:=map_some h; exact DF.de (O.f _ _ hx)
  · exact trCall_ok C g hjk O h
  · obtain ⟨x,hx,rfl⟩:=map_some h; exact DF.de (O.f _ _ hx)
  · exact trMeth_ok O h
  · cases h
theorem trW_ok (O:TrOk X T) {op:BoolOp}:∀ {es:List Expr} {f:Dl.Env->Option Bool},trW T op es = some f->DW X (.BoolOp op es pos) f
  | [],f,h=>by cases h
  | [a],f,h=>by
    cases op with
    | And=>exact dw_and1 (O.t _ _ h)
    | Or=>exact dw_or1 (O.t _ _ h)
  | a :: b :: r,f,h=>by
    unfold trW at h
    obtain ⟨x,hx,h⟩:=bs h
    obtain ⟨y,hy,rfl⟩:=map_some h
    have ih:=trW_ok O hy
    cases op with
    | And=>exact dw_and (O.t _ _ hx) ih
    | Or=>exact dw_or (O.t _ _ hx) ih
theorem stepT_ok (C:Bk X N sc k) (O:TrOk X T) {e:Expr} {f:Dl.Env->Option Bool} (h:stepT T e = some f):DT X e f:=by
  unfold stepT at h
  split at h
  · obtain ⟨x,hx,rfl⟩:=map_some h; exact (trCmp_ok C O hx).2
  · obtain ⟨x,hx,rfl⟩:=map_some h; exact dt_not (O.t _ _ hx)
  · exact DW.dt (trW_ok O h)
  · split at h
    · rename_i hp
      obtain ⟨x,hx,rfl⟩:=map_some h
      refine dt_val (O.e _ _ hx) ?_
      revert hp
      cases e <;> first | (intro hp; cases hp; done) | (intro hp _; rfl)
    · cases h
theorem foldIx {e:Expr} {env:PySem.Env} (h:noFold e = true):∀ x,foldedSetIterable e env x = pure x:=by
  cases e <;> first | (intro _; rfl) | cases h
theorem trI_ok (C:Bk X N sc k) (B:Bn X) (O:TrOk X T) {tg iter:Expr} {fi:Dl.Env->Option (List D)} (h:trI sc T tg iter = some fi):DI X tg iter fi/\∀ x,foldedSetIterable iter X.env x = pure x:=by
  unfold trI at h
  split at h
  · refine ⟨?_,fun _=>rfl⟩
    split at h
    · rename_i hx
      subst hx
      split at h
      · split at h
        · rename_i hg
          rw [Bool.and_eq_true,Bool.not_eq_true'] at hg
          obtain ⟨x,hx,rfl⟩:=map_some h
          exact di_range (C.blt B hg.1 (by decide +kernel) bo_range) (trA_ok O hx) (star_of hg.2)
        · cases h
      · cases h
    · split at h
      · rename_i hx
        subst hx
        split at h
        · split at h
          · rename_i hg
            simp only [Bool.and_eq_true,Bool.not_eq_true'] at hg
            obtain ⟨x,hx,rfl⟩:=map_some h
            cases tg <;> first | exact di_enum (C.blt B hg.1.1 (by decide +kernel) bo_enumerate) (trA_ok O hx) (star_of hg.1.2) | exact absurd hg.2 (by simp [isTupT])
          · cases h
        · cases h
      · split at h
        · rename_i hx
          subst hx
          split at h
          · split at h
            · rename_i e e' hg
              simp only [Bool.and_eq_true,Bool.not_eq_true'] at hg
              obtain ⟨x,hx,rfl⟩:=map_some h
              cases tg <;> first | exact di_zipB (C.blt B hg.1.1.1 (by decide +kernel) bo_zip) (star_of hg.1.1.2) (noStar_any (by simp [hg.1.2])) (trA_ok O hx) | exact absurd hg.2 (by simp [isTupT])
            · cases h
          · cases h
        · obtain ⟨x,hx,rfl⟩:=map_some h
          exact di_seq (O.e _ _ hx)
  · cases h
  · rename_i h1 h2
    obtain ⟨x,hx,rfl⟩:=map_some h
    refine ⟨di_seq (O.e _ _ hx),foldIx ?_⟩
    cases iter <;> first | rfl | exact absurd rfl (h2 _ _ _)
theorem tgN_ok {tg:Expr} {xs:List Str} (h:tgN tg = some xs):(∃ x px,tg = .Name x px/\xs = [x])\/∃ x px y py m pt,tg = .Tuple [.Name x px,.Name y py] m pt/\xs = [x,y]:=by
  unfold tgN at h
  split at h
  · cases h; exact .inl ⟨_,_,rfl,rfl⟩
  · cases h; exact .inr ⟨_,_,_,_,_,_,rfl,rfl⟩
  · cases h
theorem tgC_ok {tg:Expr} {xs:List Str} (h:tgC tg = some xs):((∃ x px,tg = .Name x px/\xs = [x])\/∃ x px y py m pt,tg = .Tuple [.Name x px,.Name y py] m pt/\xs = [x,y])\/∃ x px y py z pz m pt,tg = .Tuple [.Name x px,.Name y py,.Name z pz] m pt/\xs = [x,y,z]:=by
  unfold tgC at h
  split at h
  · cases h; exact .inr ⟨_,_,_,_,_,_,_,_,rfl,rfl⟩
  · exact .inl (tgN_ok h)
theorem trComp_ok (C:Bk X N sc k) (B:Bn X) (O:TrOk X T) {blk:Scope->List Str->Tr} (OB:∀ scope N' fp s H,Bk (cxComp X scope N' fp s H) N' scope k->TrOk (cxComp X scope N' fp s H) (blk scope N')) {tg iter elt:Expr} {ifs:List Expr} {as:Int} {scope:Scope} {f:Dl.Env->Option (List D)}
    (h:trComp sc N T blk elt [⟨tg,iter,ifs,as⟩] scope = some f):as = 0/\CompOk X tg iter ifs elt scope f:=by
  unfold trComp at h
  dsimp only at h
  split at h
  · rename_i has
    refine ⟨has,?_⟩
    obtain ⟨xs,hxs,h⟩:=bs h
    split at h
    · rename_i hok
      rw [Bool.and_eq_true] at hok
      obtain ⟨fi,hfi,h⟩:=bs h
      obtain ⟨tt,htt,h⟩:=bs h
      obtain ⟨te,hte,rfl⟩:=map_some h
      obtain ⟨S,CB⟩:=C.comp hok.1
      obtain ⟨hd,hfold⟩:=trI_ok C B O hfi
      refine ⟨_,_,_,_,_,_,_,rfl,S,hd,hfold,fun fp s H=>?_⟩
      have C1:=CB fp s H
      have O1:=OB scope _ fp s H C1
      refine ⟨?_,?_,O1.e _ _ hte⟩
      · rcases tgC_ok hxs with (⟨x,px,rfl,rfl⟩ | ⟨x,px,y,py,m,pt,rfl,rfl⟩) | ⟨x,px,y,py,z,pz,m,pt,rfl,rfl⟩
        · have z:=C1.loc (i:=0) (x:=x) (List.all_eq_true.mp hok.2 0 (by simp))
          exact dg_name 0 z.1 z.2.1 z.2.2.1 z.2.2.2
        · have z:=C1.loc (i:=0) (x:=x) (List.all_eq_true.mp hok.2 0 (by simp))
          have w:=C1.loc (i:=1) (x:=y) (List.all_eq_true.mp hok.2 1 (by simp))
          exact dg_two 0 1 C1.calm z.1 z.2.1 z.2.2.1 w.2.1 w.2.2.1 z.2.2.2 w.2.2.2
        · have z0:=C1.loc (i:=0) (x:=x) (List.all_eq_true.mp hok.2 0 (by simp))
          have w:=C1.loc (i:=1) (x:=y) (List.all_eq_true.mp hok.2 1 (by simp))
          have u:=C1.loc (i:=2) (x:=z) (List.all_eq_true.mp hok.2 2 (by simp))
          exact dg_three 0 1 2 C1.calm z0.1 z0.2.1 z0.2.2.1 w.2.1 w.2.2.1 u.2.1 u.2.2.1 z0.2.2.2 w.2.2.2 u.2.2.2
      · unfold trIfs at htt
        split at htt
        · cases htt; exact dts_nil
        · exact dts_one (O1.t _ _ htt)
        · cases htt
    · cases h
  · cases h
theorem CompOk.df {tg iter elt:Expr} {ifs:List Expr} {scope:Scope} {f:Dl.Env->Option (List D)} (hc:X.calm = true) (h:CompOk X tg iter ifs elt scope f):DF X (.ListComp elt [⟨tg,iter,ifs,0⟩] scope pos) f:=by
  obtain ⟨N',t,cs,fi,tgt,tt,te,rfl,S,hd,hfold,hY⟩:=h.ex
  exact df_comp hc S hd hY hfold
theorem parOf_ok {a:Arguments} {x:Str} (h:parOf a = some x):∃ px,a = ⟨[],[⟨x,none,px⟩],none,[],[],none,[]⟩/\(x = "number"\/x = "plan"):=by
  unfold parOf at h
  split at h
  · split at h
    · cases h; exact ⟨_,rfl,.inl ‹_›⟩
    · split at h
      · cases h; exact ⟨_,rfl,.inr ‹_›⟩
      · cases h
  · cases h
theorem bind1 {x q:Str} {px:Pos} {body:Expr} {scope:Scope} {cl:List (Str × Addr)} {pm ctv u:Value} {c:Addr} (h:x = "number"\/x = "plan") :
    bindArgs (PySem.W.kla_fn "<lambda>" q ⟨[],[⟨x,none,px⟩],none,[],[],none,[]⟩ body scope cl pm (.ref c) ctv) ⟨[u],[]⟩ = pure [(x,u)]:=by
  rcases h with rfl | rfl <;> rfl
theorem trSortK_ok {lam:Option Str} (C:Bk X N sc k) (B:Bn X) (hlam:∀ q,lam = some q->LamAt X q/\j + 3<=k) (O:TrOk X T) {lmb:Scope->List Str->Tr}
    (OL:∀ scope N' qual A f c s H,Bk (cxLam X A qual scope N' f c s H) N' scope (k - 3)->j<=k - 3->TrOk (cxLam X A qual scope N' f c s H) (lmb scope N')) {l body:Expr} {params:Arguments} {scope:Scope} {p0 lpos kpos:Pos} {f:Dl.Env->Option (List D)}
    (h:trSortK lam sc N T lmb l params body scope = some f):DF X (.Call (.Name "sorted" p0) [l] [⟨some "key",.Lambda params body scope lpos,kpos⟩] pos) f:=by
  unfold trSortK at h
  split at h
  · rename_i hg
    simp only [Bool.and_eq_true,Bool.not_eq_true'] at hg
    obtain ⟨⟨hl,hg⟩,hs⟩:=hg
    obtain ⟨q,rfl⟩:=Option.isSome_iff_exists.mp hl
    obtain ⟨L,hk⟩:=hlam q rfl
    obtain ⟨x,hx,h2⟩:=bs h
    clear h
    obtain ⟨px,rfl,hpx⟩:=parOf_ok hx
    split at h2
    · rename_i hok
      rw [Bool.and_eq_true] at hok
      obtain ⟨fl,hfl,h⟩:=bs h2
      obtain ⟨te,hte,rfl⟩:=map_some h
      obtain ⟨k',rfl⟩:∃ k',k = k' + 3:=⟨k - 3,by omega⟩
      exact Bk.sortK (p:=x) C (C.blt B hg (by decide +kernel) bo_sorted) L hok.1 hok.2 (fun _ _ _ _ _=>bind1 hpx) rfl (O.e _ _ hfl) (fun A f c s H C'=>(OL scope _ q A f c s H C' (by omega)).e _ _ hte) (star_of hs) (by rw [star_of hs]; rfl) (noStar_any (by simp [hs]))
    · cases h2
  · cases h
theorem trSortR_ok {lam:Option Str} (C:Bk X N sc k) (B:Bn X) (hlam:∀ q,lam = some q->LamAt X q/\j + 3<=k) (O:TrOk X T) {lmb:Scope->List Str->Tr}
    (OL:∀ scope N' qual A f c s H,Bk (cxLam X A qual scope N' f c s H) N' scope (k - 3)->j<=k - 3->TrOk (cxLam X A qual scope N' f c s H) (lmb scope N')) {l body:Expr} {params:Arguments} {scope:Scope} {p0 lpos kpos:Pos} {f:Dl.Env->Option (List D)}
    (h:trSortR lam sc N T lmb l params body scope = some f):DF X (.Call (.Name "sorted" p0) [l] [⟨some "key",.Lambda params body scope lpos,kpos⟩] pos) f:=by
  unfold trSortR at h
  split at h
  · split at h
    · rename_i hg
      simp only [Bool.and_eq_true,Bool.not_eq_true'] at hg
      obtain ⟨⟨⟨⟨hl,hg⟩,hr⟩,hgr⟩,hs⟩:=hg
      have er:=eq_of_beq hr
      subst er
      obtain ⟨q,rfl⟩:=Option.isSome_iff_exists.mp hl
      obtain ⟨L,hk⟩:=hlam q rfl
      obtain ⟨x,hx,h2⟩:=bs h
      clear h
      obtain ⟨px,rfl,hpx⟩:=parOf_ok hx
      split at h2
      · rename_i hok
        rw [Bool.and_eq_true] at hok
        obtain ⟨fl,hfl,h⟩:=bs h2
        obtain ⟨te,hte,rfl⟩:=map_some h
        obtain ⟨k',rfl⟩:∃ k',k = k' + 3:=⟨k - 3,by omega⟩
        exact Bk.sortR (p:=x) C (C.blt B hg (by decide +kernel) bo_sorted) (C.blt B hgr (by decide +kernel) bo_range) L hok.1 hok.2 (fun _ _ _ _ _=>bind1 hpx) rfl (trA_ok O hfl) (fun A f c s H C'=>(OL scope _ q A f c s H C' (by omega)).e _ _ hte) (star_of hs) (star_of rfl) (by rw [star_of rfl]; rfl) (noStar_any (by rfl))
      · cases h2
    · cases h
  · cases h
theorem stepF_ok {lam:Option Str} (C:Bk X N sc k) (B:Bn X) (hlam:∀ q,lam = some q->LamAt X q/\j + 3<=k) (O:TrOk X T) {blk lmb:Scope->List Str->Tr}
    (OB:∀ scope N' fp s H,Bk (cxComp X scope N' fp s H) N' scope k->TrOk (cxComp X scope N' fp s H) (blk scope N'))
    (OL:∀ scope N' qual A f c s H,Bk (cxLam X A qual scope N' f c s H) N' scope (k - 3)->j<=k - 3->TrOk (cxLam X A qual scope N' f c s H) (lmb scope N')) {e:Expr} {f:Dl.Env->Option (List D)} (h:stepF lam sc N T blk lmb e = some f):DF X e f:=by
  unfold stepF at h
  split at h
  · obtain ⟨x,hx,rfl⟩:=map_some h; exact df_lst (trA_ok O hx)
  · rename_i elt gens scope ps
    match gens,h with
    | [⟨tg,iter,ifs,as⟩],h =>
      obtain ⟨rfl,q⟩:=trComp_ok C B O OB h
      exact q.df C.calm
  · split at h
    · obtain ⟨x,hx,h⟩:=bs h
      obtain ⟨y,hy,rfl⟩:=map_some h
      exact df_rep (O.f _ _ hx) (O.e _ _ hy)
    · cases h
  · obtain ⟨x,hx,h⟩:=bs h
    obtain ⟨y,hy,rfl⟩:=map_some h
    exact df_cat (O.e _ _ hx) (O.e _ _ hy)
  · split at h
    · rename_i hk
      rw [Bool.and_eq_true] at hk
      have e1:=eq_of_beq hk.1
      have e2:=eq_of_beq hk.2
      subst e1 e2
      split at h
      · cases h; exact trSortK_ok C B hlam O OL ‹_›
      · exact trSortR_ok C B hlam O OL h
    · cases h
  · split at h
    · rename_i hg
      rw [Bool.and_eq_true,Bool.not_eq_true'] at hg
      split at h
      · rename_i hx
        subst hx
        obtain ⟨x,hx,rfl⟩:=map_some h
        exact df_list (C.blt B hg.1 (by decide +kernel) bo_list) (trA_ok O hx) (star_of hg.2)
      · split at h
        · rename_i hx
          subst hx
          obtain ⟨x,hx,rfl⟩:=map_some h
          exact df_sorted (C.blt B hg.1 (by decide +kernel) bo_sorted) (trA_ok O hx) (star_of hg.2)
        · cases h
    · cases h
  · cases h
theorem stepF_c {lam:Option Str} (C:Bk X N sc k) (B:Bn X) (O:TrOk X T) {blk lmb:Scope->List Str->Tr} (OB:∀ scope N' fp s H,Bk (cxComp X scope N' fp s H) N' scope k->TrOk (cxComp X scope N' fp s H) (blk scope N'))
    {elt:Expr} {gens:List Comprehension} {scope:Scope} {p:Pos} {f:Dl.Env->Option (List D)} (h:stepF lam sc N T blk lmb (.ListComp elt gens scope p) = some f):∃ tg iter ifs,gens = [⟨tg,iter,ifs,0⟩]/\CompOk X tg iter ifs elt scope f:=by
  have h:trComp sc N T blk elt gens scope = some f:=h
  match gens,h with
  | [⟨tg,iter,ifs,as⟩],h =>
    obtain ⟨rfl,q⟩:=trComp_ok C B O OB h
    exact ⟨tg,iter,ifs,rfl,q⟩
theorem tr_ok (n:Nat):∀ {lam:Option Str} {X:Cx} {N:List Str} {sc:Scope} {k:Nat},Bk X N sc k->GOk G X j->j<=k->(∀ q,lam = some q->LamAt X q/\j + 3<=k)->TrOk X (tr G n lam sc N):=by
  induction n with
  | zero=>intro lam X N sc k C g hjk hlam; exact ⟨fun _ _ _ _ _ h=>(by cases h),fun _ _ h=>(by cases h),fun _ _ h=>(by cases h),fun _ _ h=>(by cases h)⟩
  | succ n ih =>
    intro lam X N sc k C g hjk hlam
    have O:=ih C g hjk hlam
    exact ⟨fun elt gens scope p f h=>stepF_c (lam:=lam) (lmb:=tr G n none) (p:=p) C g.bn O (fun scope N' fp s H C'=>ih C' ⟨g.fn,g.int,g.bn⟩ hjk fun q z=>by cases z) h,fun e f h=>stepE_ok C g hjk O h,
      fun e f h=>stepF_ok C g.bn hlam O (fun scope N' fp s H C'=>ih C' ⟨g.fn,g.int,g.bn⟩ hjk fun q z=>by cases z) (fun scope N' qual A f c s H C' hk=>ih C' ⟨g.fn,g.int,g.bn⟩ hk fun q z=>by cases z) h,
      fun e f h=>stepT_ok C O h⟩
end
end Rf
namespace Rf
open PySem L2 Dl PySem.Spec PyProof.Rows
noncomputable def nms:Nat->Expr->List Str
  | 0,_=>[]
  | n + 1,e=>match e with
    | .Name x _=>[x]
    | .UnaryOp _ a _=>nms n a
    | .BinOp a _ b _=>nms n a ++ nms n b
    | .BoolOp _ es _=>es.flatMap (nms n)
    | .Compare a _ cs _=>nms n a ++ cs.flatMap (nms n)
    | .IfExp c a b _=>nms n c ++ (nms n a ++ nms n b)
    | .Tuple es _ _=>es.flatMap (nms n)
    | .List es _=>es.flatMap (nms n)
    | .Subscript a b _=>nms n a ++ nms n b
    | .Slice lo hi st _=>(lo.toList ++ (hi.toList ++ st.toList)).flatMap (nms n)
    | .Call f args kws _=>nms n f ++ (args.flatMap (nms n) ++ kws.flatMap fun k=>nms n k.value)
    | .Attribute o _ _=>nms n o
    | .ListComp elt gens _ _=>nms n elt ++ gens.flatMap fun g=>nms n g.iter ++ g.ifs.flatMap (nms n)
    | .Lambda _ b _ _=>nms n b
    | _=>[]
noncomputable def fzOf (N:List Str) (e:Expr):List Nat:=let ns:=nms 60 e; (List.range N.length).filter fun j=>match N[j]? with | some x=>ns.contains x | none=>false
noncomputable abbrev GS:=SEnv->Option Out
noncomputable def turns:Nat:=1000000
noncomputable def isComp:Expr->Bool
  | .ListComp ..=>true
  | .SetComp ..=>true
  | .DictComp ..=>true
  | _=>false
noncomputable def trSet (sc:Scope) (N:List Str) (T:Tr) (x:Str) (px:Pos) (e:Expr):Option GS :=
  (N.idxOf? x).bind fun i=>if locB N sc i x = true then
    (if listy e = true then (match e with
      | .ListComp _ _ scope lp =>
        if (decide (sc.names.lookup x = some .local) && (px.line == lp.line && !(scope.names.any fun (n,k)=>n == x && (k == .local || k == .cell)))) = true then (T.f e).map fun f=>gSetF i (fzOf N e) f
        else if decide (sc.names.lookup x = some .cell) = true then (T.f e).map fun f=>gSetF i (fzOf N e) f
        else if (px.line == lp.line) = false then (T.f e).map fun f=>gSetF i (fzOf N e) f
        else none
      | _=>(T.f e).map fun f=>gSetF i (fzOf N e) f)
    else if isComp e = false then (T.e e).map fun f=>gSet i (fzOf N e) f else none) else none
noncomputable def trExp (N:List Str) (sc:Scope) (T:Tr) (e:Expr):Option GS:=match e with
  | .Constant (.str _) _ _=>some gNx
  | .Call (.Attribute (.Name x _) m apos) args [] cpos =>
    (N.idxOf? x).bind fun i=>if (visB N sc i x && apos.endLine == cpos.line && args.all fun e=>!isStar e) = true then
      (if m = "append" then (match args with
        | [a]=>(T.e a).map fun f=>gApp i (fzOf N a) f
        | _=>none)
      else if m = "extend" then (match args with
        | [a]=>(T.f a).map fun f=>gExt i (fzOf N a) f
        | _=>none)
      else if m = "insert" then (match args with
        | [a,b]=>(T.e a).bind fun fk=>(T.e b).map fun f=>gIns i (fzOf N b) fk f
        | _=>none)
      else none) else none
  | .Call (.Name _ _) _ _ _=>(T.e e).map gExp
  | _=>none
noncomputable def tgS (sc:Scope) (N:List Str) (tg:Expr):Option (SEnv->D->Option SEnv):=match tg with
  | .Name x _=>(N.idxOf? x).bind fun i=>if locB N sc i x = true then some (fSG i) else none
  | .Tuple [.Name x _,.Name y _] _ _=>(N.idxOf? x).bind fun i=>(N.idxOf? y).bind fun j=>if (locB N sc i x && locB N sc j y) = true then some (fSG2 i j) else none
  | _=>none
noncomputable def trSto (sc:Scope) (N:List Str) (T:Tr) (x:Str) (kx e:Expr):Option GS :=
  (N.idxOf? x).bind fun i=>if (visB N sc i x && !isCut kx && !isComp e) = true then (T.e kx).bind fun fk=>(T.e e).map fun f=>gSto i (fzOf N e) fk f else none
noncomputable def trSs (f:Stmt->Option GS):List Stmt->Option GS
  | []=>some gNx
  | [s]=>f s
  | s :: r=>(f s).bind fun g=>(trSs f r).map fun h=>gSeq g h
noncomputable def trS (sc:Scope) (N:List Str) (T:Tr):Nat->Stmt->Option GS
  | 0,_=>none
  | n + 1,st=>match st with
    | .Return (some e) _=>(T.e e).map gRet
    | .If c a b _=>(T.t c).bind fun t=>(trSs (trS sc N T n) a).bind fun g=>(trSs (trS sc N T n) b).map fun h=>gIf t g h
    | .Assign [.Name x px] e _=>trSet sc N T x px e
    | .Assign [.Subscript (.Name x _) kx _] e _=>trSto sc N T x kx e
    | .For tg iter body [] _=>(trI sc T tg iter).bind fun fi=>(tgS sc N tg).bind fun t=>(trSs (trS sc N T n) body).map fun g=>gFor (fzOf N iter) fi t g
    | .While c body [] _=>(T.t c).bind fun t=>(trSs (trS sc N T n) body).map fun g=>whD t g turns
    | .Expr e _=>trExp N sc T e
    | .Raise ..=>some gNo
    | .Pass _=>some gNx
    | _=>none
section
variable {X:Cx} {N:List Str} {sc:Scope} {k:Nat} {T:Tr} {HF₀ H₀:Hp} {pos:Pos}
theorem trSs_ok {f:Stmt->Option GS} (H:∀ s g,f s = some g->DS X HF₀ H₀ s g):∀ {l:List Stmt} {g:GS},trSs f l = some g->DSs X HF₀ H₀ l g
  | [],g,h=>by cases h; exact dss_nil
  | [s],g,h=>dss_one (H _ _ h)
  | s :: t :: r,g,h=>by
    unfold trSs at h
    obtain ⟨x,hx,h⟩:=bs h
    obtain ⟨y,hy,rfl⟩:=map_some h
    exact dss_cons (H _ _ hx) (trSs_ok H hy)
theorem noswap_of {e:Expr} {x:Str} {px:Pos} {line:Nat} {env:PySem.Env} (h:isComp e = false):swapsWith e (some (.Name x px)) line env = pure false:=by
  cases e <;> first | rfl | cases h
theorem trSet_ok (C:Bk X N sc k) (O:TrOk X T) {x:Str} {px:Pos} {e:Expr} {g:GS} (h:trSet sc N T x px e = some g):DS X HF₀ H₀ (.Assign [.Name x px] e pos) g:=by
  unfold trSet at h
  obtain ⟨i,hi,h⟩:=bs h
  split at h
  · rename_i hloc
    obtain ⟨z1,z2,z3,z4⟩:=C.loc hloc
    split at h
    · split at h
      · rename_i elt gens scope lp hl
        split at h
        · rename_i hc
          rw [Bool.and_eq_true] at hc
          obtain ⟨f,hf,rfl⟩:=map_some h
          obtain ⟨tg,iter,ifs,rfl,q⟩:=O.c _ _ _ _ _ hf
          obtain ⟨N',t,cs,fi,tgt,tt,te,rfl,S,hd,hfold,hY⟩:=q.ex
          exact ds_setC i _ C.calm S hd hY z1 z2 (C.locl hc.1) (C.swap hc.1 hc.2) hfold
        · split at h
          · rename_i hc
            obtain ⟨f,hf,rfl⟩:=map_some h
            exact ds_setF i _ z1 z2 z3 (O.f _ _ hf) (C.noswap hc) z4
          · split at h
            · rename_i hc
              obtain ⟨f,hf,rfl⟩:=map_some h
              refine ds_setF i _ z1 z2 z3 (O.f _ _ hf) ?_ z4
              rw [swap_val,hc]
              simp
            · cases h
      · rename_i hl hn
        obtain ⟨f,hf,rfl⟩:=map_some h
        refine ds_setF i _ z1 z2 z3 (O.f _ _ hf) (noswap_of ?_) z4
        cases e <;> first | rfl | exact absurd rfl (hn _ _ _ _) | (rename_i hl _; cases hl; done)
    · split at h
      · rename_i hc
        obtain ⟨f,hf,rfl⟩:=map_some h
        exact ds_set i _ z1 z2 z3 (O.e _ _ hf) (noswap_of hc) z4
      · cases h
  · cases h
theorem few_of {env:PySem.Env} {es:List Expr} {cpos:Pos} (h:(es.all fun e=>!isStar e) = true) (hl:es.length < 20):((backTo cpos (starEach es env)).all (fun x=>!x.1) && (backToKw cpos (keywordEach [] env)).all (fun x=>x.1.isSome) && decide (es.length + ([]:List Keyword).length + (if ([]:List Keyword).isEmpty then 0 else 1) < 30)) = true:=by
  have h1:(backTo cpos (starEach es env)).all (fun x=>!x.1) = true:=by
    have:=noStar_any (pos:=cpos) (env:=env) h
    rw [List.all_eq_not_any_not]
    simpa using this
  rw [h1]
  simp [backToKw,keywordEach]
  omega
theorem trExp_ok (C:Bk X N sc k) (O:TrOk X T) {e:Expr} {g:GS} (h:trExp N sc T e = some g):DS X HF₀ H₀ (.Expr e pos) g:=by
  unfold trExp at h
  split at h
  · cases h; exact ds_doc
  · rename_i x px m apos args cpos
    replace h:=bs h
    obtain ⟨i,hi,h⟩:=h
    split at h
    · rename_i hv
      simp only [Bool.and_eq_true] at hv
      obtain ⟨⟨hv,hline⟩,hs⟩:=hv
      obtain ⟨z1,z2,z3,z4⟩:=C.vis hv
      split at h
      · rename_i hm
        subst hm
        split at h
        · obtain ⟨f,hf,rfl⟩:=map_some h
          exact ds_append i _ z1 z2 (O.e _ _ hf) z3 z4 (few_of hs (by simp)) hline (star_of (by simpa using hs))
        · cases h
      · split at h
        · rename_i hm
          subst hm
          split at h
          · obtain ⟨f,hf,rfl⟩:=map_some h
            exact ds_extend i _ z1 z2 (O.f _ _ hf) z3 z4 (few_of hs (by simp)) hline (star_of (by simpa using hs))
          · cases h
        · split at h
          · rename_i hm
            subst hm
            split at h
            · obtain ⟨fk,hfk,h⟩:=bs h
              obtain ⟨f,hf,rfl⟩:=map_some h
              have hs':=hs
              simp only [List.all_cons,List.all_nil,Bool.and_true,Bool.and_eq_true,Bool.not_eq_true'] at hs'
              exact ds_insert i _ z1 z2 (O.e _ _ hfk) (O.e _ _ hf) z3 z4 (few_of hs (by simp)) hline (star_of hs'.1) (star_of hs'.2)
            · cases h
          · cases h
    · cases h
  · obtain ⟨f,hf,rfl⟩:=map_some h
    exact ds_expr rfl (O.e _ _ hf)
  · cases h
theorem tgS_ok (C:Bk X N sc k) {tg:Expr} {t:SEnv->D->Option SEnv} (h:tgS sc N tg = some t):DSG X HF₀ H₀ tg t:=by
  unfold tgS at h
  split at h
  · obtain ⟨i,hi,h⟩:=bs h
    split at h
    · rename_i hl
      cases h
      have z:=C.loc hl
      exact dsg_name i z.1 z.2.1 z.2.2.1 z.2.2.2
    · cases h
  · obtain ⟨i,hi,h⟩:=bs h
    obtain ⟨j,hj,h⟩:=bs h
    split at h
    · rename_i hl
      rw [Bool.and_eq_true] at hl
      cases h
      have z:=C.loc hl.1
      have w:=C.loc hl.2
      exact dsg_two i j C.calm z.1 z.2.1 z.2.2.1 w.2.1 w.2.2.1 z.2.2.2 w.2.2.2
    · cases h
  · cases h
theorem trSto_ok (C:Bk X N sc k) (O:TrOk X T) {x:Str} {px spos:Pos} {kx e:Expr} {g:GS} (h:trSto sc N T x kx e = some g):DS X HF₀ H₀ (.Assign [.Subscript (.Name x px) kx spos] e pos) g:=by
  unfold trSto at h
  obtain ⟨i,hi,h⟩:=bs h
  split at h
  · rename_i hv
    simp only [Bool.and_eq_true,Bool.not_eq_true'] at hv
    obtain ⟨⟨hv,hc⟩,he⟩:=hv
    obtain ⟨z1,z2,z3,z4⟩:=C.vis hv
    obtain ⟨fk,hfk,h⟩:=bs h
    obtain ⟨f,hf,rfl⟩:=map_some h
    refine ds_store i _ z1 z2 (O.e _ _ hfk) (O.e _ _ hf) z3 z4 (fun v=>?_) ?_ ?_ rfl
    · cases kx <;> first | rfl | cases hc
    · cases e <;> first | rfl | cases he
    · rfl
  · cases h
theorem trS_ok (C:Bk X N sc k) (B:Bn X) (O:TrOk X T):∀ (n:Nat) {st:Stmt} {g:GS},trS sc N T n st = some g->DS X HF₀ H₀ st g
  | 0,st,g,h=>by cases h
  | n + 1,st,g,h=>by
    have ih:=fun s g h=>trS_ok C B O n (st:=s) (g:=g) h
    unfold trS at h
    split at h
    · obtain ⟨f,hf,rfl⟩:=map_some h; exact ds_ret (O.e _ _ hf)
    · obtain ⟨t,ht,h⟩:=bs h
      obtain ⟨a,ha,h⟩:=bs h
      obtain ⟨b,hb,rfl⟩:=map_some h
      exact ds_if (O.t _ _ ht) (trSs_ok ih ha) (trSs_ok ih hb)
    · exact trSet_ok C O h
    · exact trSto_ok C O h
    · obtain ⟨fi,hfi,h⟩:=bs h
      obtain ⟨t,ht,h⟩:=bs h
      obtain ⟨b,hb,rfl⟩:=map_some h
      obtain ⟨hd,hfold⟩:=trI_ok C B O hfi
      exact ds_for _ C.pass C.calm hd (tgS_ok C ht) (trSs_ok ih hb) hfold
    · obtain ⟨t,ht,h⟩:=bs h
      obtain ⟨b,hb,rfl⟩:=map_some h
      exact ds_while _ C.pass (O.t _ _ ht) (trSs_ok ih hb)
    · exact trExp_ok C O h
    · cases h; exact ds_no
    · cases h; exact ds_pass
    · cases h
end
end Rf
namespace Rf
open PySem L2 Dl PySem.Spec PyProof.Rows
section
variable {P:Program} {w:World} {K:PySem.W.Frag} {mg:Str->Option Value} {base:Heap} {j:Nat}
noncomputable def FnsOk (P:Program) (w:World) (K:PySem.W.Frag) (mg:Str->Option Value) (base:Heap) (j:Nat) (l:List (Str × Nat × (List D->Option D))):Prop:=∀ x n m,l.lookup x = some (n,m)->FnD P w K mg base j x n m
noncomputable def IntsOk (mg:Str->Option Value) (l:List (Str × Int)):Prop:=∀ x i,l.lookup x = some i->∃ t,mg x = some (.int i t)
theorem fnil:FnsOk P w K mg base j []:=fun _ _ _ h=>by cases h
theorem fcons {x:Str} {n:Nat} {m:List D->Option D} {l:List (Str × Nat × (List D->Option D))} (F:FnD P w K mg base j x n m) (h:FnsOk P w K mg base j l):FnsOk P w K mg base j ((x,n,m) :: l):=fun y n' m' e=>by
  rw [List.lookup_cons] at e
  cases q:y == x with
  | true=>rw [q] at e; cases e; rw [eq_of_beq q]; exact F
  | false=>rw [q] at e; exact h y n' m' e
theorem inil:IntsOk mg []:=fun _ _ h=>by cases h
theorem icons {x:Str} {i:Int} {l:List (Str × Int)} (F:∃ t,mg x = some (.int i t)) (h:IntsOk mg l):IntsOk mg ((x,i) :: l):=fun y i' e=>by
  rw [List.lookup_cons] at e
  cases q:y == x with
  | true=>rw [q] at e; cases e; rw [eq_of_beq q]; exact F
  | false=>rw [q] at e; exact h y i' e
theorem bodyT {X:Cx} {N:List Str} {st:Stmt} {g:SEnv->Option Out} {fs:List (Str × Nat × (List D->Option D))} {is:List (Str × Int)} {HF₀ H₀:Hp} (C:Bk X N (defScope st) j) (B:Bn X) (hf:FnsOk X.prog X.w X.K X.mg X.base j fs) (hi:IntsOk X.mg is)
    (t:trSs (trS (defScope st) N (tr ⟨fs,is⟩ 40 none (defScope st) N) 40) (defBody st) = some g):DSs X HF₀ H₀ (defBody st) g :=
  trSs_ok (fun s g h=>trS_ok C B (tr_ok (G:=⟨fs,is⟩) 40 C ⟨hf,hi,B⟩ (Nat.le_refl j) fun q z=>by cases z) 40 h) t
theorem fnT {x:Str} {st:Stmt} {ps N:List Str} {g:SEnv->Option Out} {fs:List (Str × Nat × (List D->Option D))} {is:List (Str × Int)} (D:DefM K mg x st ps) (S:FnScope N ps (defScope st)) (B:∀ x ∈ bltNames,mg x = none) (hf:FnsOk P w K mg base j fs) (hi:IntsOk mg is)
    (t:trSs (trS (defScope st) N (tr ⟨fs,is⟩ 40 none (defScope st) N) 40) (defBody st) = some g):FnD P w K mg base (j + 1) x ps.length (runB g N.length):=by
  obtain ⟨f,fd,hm,F,hb⟩:=D.ex
  exact fnD F S hb hm fun X hP hw hK hm' hb' C _ _ HF H=>by subst hP; subst hw; subst hK; subst hm'; subst hb'; exact bodyT C B hf hi t
theorem fnL {x q:Str} {st:Stmt} {ps N:List Str} {g:SEnv->Option Out} {fs:List (Str × Nat × (List D->Option D))} {is:List (Str × Int)} (D:LefM K mg x st ps) (S:FnScope N ps (defScope st)) (B:∀ x ∈ bltNames,mg x = none) (hf:FnsOk P w K mg base j fs) (hi:IntsOk mg is)
    (hq:x ∈ lamNames/\x ++ ".<locals>." ++ "<lambda>" = q) (t:trSs (trS (defScope st) N (tr ⟨fs,is⟩ 40 (some q) (defScope st) N) 40) (defBody st) = some g):FnD P w K mg base (j + 4) x ps.length (runB g N.length):=by
  obtain ⟨f,fd,c,P',hm,F,hb,hc,hh⟩:=D.ex
  refine fnD (k:=j + 3) F S hb hm fun X hP hw hK hm' hb' C h1 h2 HF H=>?_
  subst hP; subst hw; subst hK; subst hm'; subst hb'
  have L:LamAt X q:=by
    refine ⟨c,P',by rw [h1,hc],by rw [h2]; exact hq.2,hh,fun HF tb=>?_⟩
    obtain ⟨oc,od,kV,doc,pm,an,cdv,ct,osl,rfl,lk,_⟩:=F.ex
    have:=tb f oc od _ osl c P' lk hq.1 hc hh
    rw [<- hq.2]
    exact this
  exact trSs_ok (fun s g h=>trS_ok C B (tr_ok (G:=⟨fs,is⟩) (j:=j) 40 C ⟨hf,hi,B⟩ (Nat.le_add_right _ _) fun q' z=>by cases z; exact ⟨L,Nat.le_refl _⟩) 40 h) t
end
end Rf
namespace Hd
open PySem L2 Dl PySem.Spec PyProof.Rows
noncomputable def en (P:Params) (x:String) (t:Nat) (v:Value):DictEntry:=⟨PyData.keyHash P (Str.ofString x),.str (Str.ofString x) t,v⟩
noncomputable def fo (x:Str) (st:Stmt) (pm:Value) (c:Addr):Obj:=⟨.type "function",none,.func (PySem.W.fnOf x x (defArgs st) (defBody st) (defScope st) .none .none .none pm none (.ref c) .none),#[]⟩
noncomputable def co (vs:List Value):Obj:=⟨.type "code",none,.fields vs.toArray,#[]⟩
section
variable {K:PySem.W.Frag}
theorem fIn {x:Str} {st:Stmt} {ps:List Str} {f c:Addr} {pm:Value} (hb:bindsB st ps) (a:PySem.W.nsIn K mainGlobals x = some (some (.ref f))) (l:K.lookup f = some (fo x st pm c)) (d:PySem.W.codeIn K (.ref c) x = true) (k:PySem.W.keepIn K (.ref f) = true):DefIn K x st ps:=defIn hb a l d k
theorem lIn {x:Str} {st:Stmt} {ps:List Str} {f c:Addr} {pm:Value} (hb:bindsB st ps) (a:PySem.W.nsIn K mainGlobals x = some (some (.ref f))) (l:K.lookup f = some (fo x st pm c)) (d:PySem.W.codeIn K (.ref c) x = true) (k:PySem.W.keepIn K (.ref f) = true) (hh:PySem.W.codeHdIn K c (hdOf K c) = true):LefIn K x st ps:=lefIn hb a l d k hh
end
section
variable {α:Type} {R:List α->Prop}
theorem len1 (h:∀ a,R [a]) (us:List α) (e:us.length = 1):R us:=by
  obtain ⟨a,rfl⟩:=List.length_eq_one_iff.mp e; exact h a
theorem lenS {n:Nat} (us:List α) (e:us.length = n + 1):∃ a r,us = a :: r/\r.length = n:=by
  cases us with
  | nil=>cases e
  | cons a r=>exact ⟨a,r,rfl,by simpa using e⟩
theorem len2 (h:∀ a b,R [a,b]) (us:List α) (e:us.length = 2):R us:=by
  obtain ⟨a,r,rfl,e'⟩:=lenS us e; exact len1 (R:=fun r=>R (a :: r)) (h a) r e'
theorem len3 (h:∀ a b c,R [a,b,c]) (us:List α) (e:us.length = 3):R us:=by
  obtain ⟨a,r,rfl,e'⟩:=lenS us e; exact len2 (R:=fun r=>R (a :: r)) (h a) r e'
theorem len4 (h:∀ a b c d,R [a,b,c,d]) (us:List α) (e:us.length = 4):R us:=by
  obtain ⟨a,r,rfl,e'⟩:=lenS us e; exact len3 (R:=fun r=>R (a :: r)) (h a) r e'
end
end Hd
namespace Pg
open PySem L2 Dl PySem.Spec PyProof.Rows
noncomputable abbrev N_is_whole:List Str:=["thing","least","most"]
noncomputable def g_is_whole:SEnv->Option Out:=(gSeq (gIf (fOrT (fNotT (fB (fIs "int" (fVar 0)))) (fB (fIs "bool" (fVar 0)))) (gRet (fC (.bool false))) gNx) (gRet (fChain gLe gLe (fVar 1) (fVar 0) (fVar 2))))
noncomputable def m_is_whole:List D->Option D:=runB g_is_whole 3
noncomputable abbrev N_is_number:List Str:=["thing","many"]
noncomputable def g_is_number:SEnv->Option Out:=(gRet (fCall 3 m_is_whole (fCons (fVar 0) (fCons (fC (.int 0)) (fCons (f2 Dl.gSub (fVar 1) (fC (.int 1))) fNil)))))
noncomputable def m_is_number:List D->Option D:=runB g_is_number 2
noncomputable abbrev N_is_long:List Str:=["thing","least","most"]
noncomputable def g_is_long:SEnv->Option Out:=(gRet (fAnd (fIs "tuple" (fVar 0)) (fChain gLe gLe (fVar 1) (fCB gLen (fCons (fVar 0) fNil)) (fVar 2))))
noncomputable def m_is_long:List D->Option D:=runB g_is_long 3
noncomputable abbrev N_are_likes:List Str:=["thing","many"]
noncomputable def g_are_likes:SEnv->Option Out:=(gSeq (gIf (fNotT (fB (fIs "tuple" (fVar 0)))) (gRet (fC (.bool false))) gNx) (gSeq (gIf (fNotT (fB (fCB gAll (fCons (fLs (fComp 1 [1] (fSeq (fVar 0)) (fG 0) (fun _=>some true) (fCall 2 m_is_number (fCons (fVar 0) (fCons (fVar 1) fNil))))) fNil)))) (gRet (fC (.bool false))) gNx) (gRet (f2 gEqD (f1 gLenSet (fVar 0)) (fCB gLen (fCons (fVar 0) fNil))))))
noncomputable def m_are_likes:List D->Option D:=runB g_are_likes 2
noncomputable abbrev N_is_end:List Str:=["thing","many"]
noncomputable def g_is_end:SEnv->Option Out:=(gRet (fAnd (fCall 3 m_is_long (fCons (fVar 0) (fCons (fC (.int 2)) (fCons (fC (.int 2)) fNil)))) (fAnd (fCall 3 m_is_whole (fCons (f2 gIx (fVar 0) (fC (.int 0))) (fCons (fC (.int 0)) (fCons (fC (.int 9)) fNil)))) (fCall 2 m_are_likes (fCons (f2 gIx (fVar 0) (fC (.int 1))) (fCons (fVar 1) fNil))))))
noncomputable def m_is_end:List D->Option D:=runB g_is_end 2
noncomputable abbrev N_is_way:List Str:=["thing","givers","takers"]
noncomputable def g_is_way:SEnv->Option Out:=(gSeq (gIf (fNotT (fB (fCall 3 m_is_long (fCons (fVar 0) (fCons (fC (.int 3)) (fCons (fC (.int 3)) fNil)))))) (gRet (fC (.bool false))) gNx) (gRet (fAnd (fCall 2 m_is_number (fCons (f2 gIx (fVar 0) (fC (.int 0))) (fCons (fVar 1) fNil))) (fAnd (fCall 2 m_is_number (fCons (f2 gIx (fVar 0) (fC (.int 1))) (fCons (fVar 2) fNil))) (fCall 3 m_is_whole (fCons (f2 gIx (fVar 0) (fC (.int 2))) (fCons (fC (.int 1)) (fCons (fC (.int 9)) fNil))))))))
noncomputable def m_is_way:List D->Option D:=runB g_is_way 3
noncomputable abbrev N_are_parts:List Str:=["givers","takers","ways"]
noncomputable def g_are_parts:SEnv->Option Out:=(gSeq (gIf (fOrT (fNotT (fB (fCall 3 m_is_long (fCons (fVar 0) (fCons (fC (.int 1)) (fCons (fC (.int 4)) fNil)))))) (fNotT (fB (fCall 3 m_is_long (fCons (fVar 1) (fCons (fC (.int 1)) (fCons (fC (.int 4)) fNil))))))) (gRet (fC (.bool false))) gNx) (gSeq (gIf (fNotT (fB (fCB gAll (fCons (fLs (fComp 1 [1] (fSeq (fVar 0)) (fG 0) (fun _=>some true) (fCall 2 m_is_end (fCons (fVar 0) (fCons (fCB gLen (fCons (fVar 1) fNil)) fNil))))) fNil)))) (gRet (fC (.bool false))) gNx) (gSeq (gIf (fNotT (fB (fCB gAll (fCons (fLs (fComp 1 [0] (fSeq (fVar 1)) (fG 0) (fun _=>some true) (fCall 2 m_is_end (fCons (fVar 0) (fCons (fCB gLen (fCons (fVar 1) fNil)) fNil))))) fNil)))) (gRet (fC (.bool false))) gNx) (gRet (fAnd (fIs "tuple" (fVar 2)) (fCB gAll (fCons (fLs (fComp 1 [0,1] (fSeq (fVar 2)) (fG 0) (fun _=>some true) (fCall 3 m_is_way (fCons (fVar 0) (fCons (fCB gLen (fCons (fVar 1) fNil)) (fCons (fCB gLen (fCons (fVar 2) fNil)) fNil)))))) fNil)))))))
noncomputable def m_are_parts:List D->Option D:=runB g_are_parts 3
noncomputable abbrev N_liked_pairs:List Str:=["places","pairs","number","place"]
noncomputable def g_liked_pairs:SEnv->Option Out:=(gSeq (gSetF 1 [] (fLst fNil)) (gSeq (gFor [0] (fEnum (fCons (fVar 0) fNil)) (fSG2 2 3) (gExt 1 [2,3] (fComp 1 [2] (fSeq (f2 gIx (fVar 3) (fC (.int 1)))) (fG 0) (fun _=>some true) (fTup (fCons (fVar 1) (fCons (fVar 0) fNil)))))) (gRet (fVar 1))))
noncomputable def m_liked_pairs:List D->Option D:=runB g_liked_pairs 4
noncomputable abbrev N_is_world:List Str:=["thing","joined","by_givers","by_takers"]
noncomputable def g_is_world:SEnv->Option Out:=(gSeq (gIf (fOrT (fNotT (fB (fCall 3 m_is_long (fCons (fVar 0) (fCons (fC (.int 3)) (fCons (fC (.int 3)) fNil)))))) (fNotT (fB (fCall 3 m_are_parts (fCons (f2 gIx (fVar 0) (fC (.int 0))) (fCons (f2 gIx (fVar 0) (fC (.int 1))) (fCons (f2 gIx (fVar 0) (fC (.int 2))) fNil))))))) (gRet (fC (.bool false))) gNx) (gSeq (gSetF 1 [0] (fComp 1 [] (fSeq (f2 gIx (fVar 0) (fC (.int 2)))) (fG 0) (fun _=>some true) (fTup (fCons (f2 gIx (fVar 0) (fC (.int 0))) (fCons (f2 gIx (fVar 0) (fC (.int 1))) fNil))))) (gSeq (gSetF 2 [0] (fCBF gSorted (fCons (fCall 1 m_liked_pairs (fCons (f2 gIx (fVar 0) (fC (.int 0))) fNil)) fNil))) (gSeq (gSetF 3 [0] (fCBF gSorted (fCons (fLs (fComp 2 [] (fSeq (fCall 1 m_liked_pairs (fCons (f2 gIx (fVar 0) (fC (.int 1))) fNil))) (fG2 0 1) (fun _=>some true) (fTup (fCons (fVar 1) (fCons (fVar 0) fNil))))) fNil))) (gRet (fAnd (f2 gEqD (fVar 1) (fVar 2)) (f2 gEqD (fVar 1) (fVar 3))))))))
noncomputable def m_is_world:List D->Option D:=runB g_is_world 4
noncomputable abbrev N_check_world:List Str:=["world"]
noncomputable def g_check_world:SEnv->Option Out:=(gIf (fNotT (fB (fCall 1 m_is_world (fCons (fVar 0) fNil)))) gNo gNx)
noncomputable def m_check_world:List D->Option D:=runB g_check_world 1
noncomputable abbrev N_check_whole:List Str:=["thing","least","most"]
noncomputable def g_check_whole:SEnv->Option Out:=(gIf (fNotT (fB (fCall 3 m_is_whole (fCons (fVar 0) (fCons (fVar 1) (fCons (fVar 2) fNil)))))) gNo gNx)
noncomputable def m_check_whole:List D->Option D:=runB g_check_whole 3
noncomputable abbrev N_check_number:List Str:=["thing","many"]
noncomputable def g_check_number:SEnv->Option Out:=(gExp (fCall 3 m_check_whole (fCons (fVar 0) (fCons (fC (.int 0)) (fCons (f2 Dl.gSub (fVar 1) (fC (.int 1))) fNil)))))
noncomputable def m_check_number:List D->Option D:=runB g_check_number 2
noncomputable abbrev N_check_side:List Str:=["thing"]
noncomputable def g_check_side:SEnv->Option Out:=(gExp (fCall 2 m_check_number (fCons (fVar 0) (fCons (fC (.int 2)) fNil))))
noncomputable def m_check_side:List D->Option D:=runB g_check_side 1
noncomputable abbrev N_replaced:List Str:=["parts","number","part"]
noncomputable def g_replaced:SEnv->Option Out:=(gRet (f2 gAdd (f2 gAdd (fCut gCutA (fVar 0) fNoB (fBd (fVar 1))) (fTup (fCons (fVar 2) fNil))) (fCut gCutA (fVar 0) (fBd (f2 gAdd (fVar 1) (fC (.int 1)))) fNoB)))
noncomputable def m_replaced:List D->Option D:=runB g_replaced 3
noncomputable abbrev N_ways_of:List Str:=["world","side","place","ways","likes","own"]
noncomputable def g_ways_of:SEnv->Option Out:=(gSeq (gSet 3 [0] (f2 gIx (fVar 0) (fC (.int 2)))) (gSeq (gSet 4 [0,1,2] (f2 gIx (f2 gIx (f2 gIx (fVar 0) (fVar 1)) (fVar 2)) (fC (.int 1)))) (gSeq (gSetF 5 [1,2,3] (fComp 2 [1,2] (fEnum (fCons (fVar 3) fNil)) (fG2 0 1) (fB (f2 gEqD (f2 gIx (fVar 1) (fVar 2)) (fVar 3))) (fVar 0))) (gRet (fLs (fSortK [1,3,4] (fVar 5) (f2 gIx2 (fVar 3) (f2 gIx (f2 gIx (fVar 2) (fVar 0)) (f2 Dl.gSub (fC (.int 1)) (fVar 1))))))))))
noncomputable def m_ways_of:List D->Option D:=runB g_ways_of 6
noncomputable abbrev N_chosen_by:List Str:=["world","side","place","offers","chosen","left","number"]
noncomputable def g_chosen_by:SEnv->Option Out:=(gSeq (gSetF 4 [0] (fComp 1 [] (fSeq (f2 gIx (fVar 0) (fC (.int 2)))) (fG 0) (fun _=>some true) (fC (.int 0)))) (gSeq (gSet 5 [0,1,2] (f2 gIx (f2 gIx (f2 gIx (fVar 0) (fVar 1)) (fVar 2)) (fC (.int 0)))) (gSeq (gFor [0,1,2] (fSeq (fCall 3 m_ways_of (fCons (fVar 0) (fCons (fVar 1) (fCons (fVar 2) fNil))))) (fSG 6) (gSeq (gSto 4 [0,3,5,6] (fVar 6) (fCB gMin (fCons (f2 gIx (fVar 3) (fVar 6)) (fCons (f2 gIx (f2 gIx (f2 gIx (fVar 0) (fC (.int 2))) (fVar 6)) (fC (.int 2))) (fCons (fVar 5) fNil))))) (gSet 5 [4,5,6] (f2 Dl.gSub (fVar 5) (f2 gIx (fVar 4) (fVar 6)))))) (gRet (fCB gTuple (fCons (fVar 4) fNil))))))
noncomputable def m_chosen_by:List D->Option D:=runB g_chosen_by 7
noncomputable abbrev N_chosen_by_all:List Str:=["world","side","offers","sums","place","chosen"]
noncomputable def g_chosen_by_all:SEnv->Option Out:=(gSeq (gSetF 3 [0] (fComp 1 [] (fSeq (f2 gIx (fVar 0) (fC (.int 2)))) (fG 0) (fun _=>some true) (fC (.int 0)))) (gSeq (gFor [0,1] (fRange (fCons (fCB gLen (fCons (f2 gIx (fVar 0) (fVar 1)) fNil)) fNil)) (fSG 4) (gSeq (gSet 5 [0,1,2,4] (fCall 4 m_chosen_by (fCons (fVar 0) (fCons (fVar 1) (fCons (fVar 4) (fCons (fVar 2) fNil)))))) (gSetF 3 [3,5] (fComp 2 [] (fZip2 (fCons (fVar 3) (fCons (fVar 5) fNil))) (fG2 0 1) (fun _=>some true) (f2 gAdd (fVar 0) (fVar 1)))))) (gRet (fCB gTuple (fCons (fVar 3) fNil)))))
noncomputable def m_chosen_by_all:List D->Option D:=runB g_chosen_by_all 6
noncomputable abbrev N_both_ends:List Str:=["world","side","offers"]
noncomputable def g_both_ends:SEnv->Option Out:=(gSeq (gExp (fCall 1 m_check_world (fCons (fVar 0) fNil))) (gSeq (gExp (fCall 1 m_check_side (fCons (fVar 1) fNil))) (gRet (fCall 3 m_chosen_by_all (fCons (fVar 0) (fCons (fVar 1) (fCons (fVar 2) fNil)))))))
noncomputable def m_both_ends:List D->Option D:=runB g_both_ends 3
noncomputable abbrev N_limits:List Str:=["world"]
noncomputable def g_limits:SEnv->Option Out:=(gRet (fCB gTuple (fCons (fLs (fComp 1 [] (fSeq (f2 gIx (fVar 0) (fC (.int 2)))) (fG 0) (fun _=>some true) (f2 gIx (fVar 0) (fC (.int 2))))) fNil)))
noncomputable def m_limits:List D->Option D:=runB g_limits 1
noncomputable abbrev N_lowered:List Str:=["caps","way","cap"]
noncomputable def g_lowered:SEnv->Option Out:=(gRet (fCall 3 m_replaced (fCons (fVar 0) (fCons (fVar 1) (fCons (fVar 2) fNil)))))
noncomputable def m_lowered:List D->Option D:=runB g_lowered 3
noncomputable abbrev N_refused:List Str:=["world","caps","given","kept","way","many"]
noncomputable def g_refused:SEnv->Option Out:=(gSeq (gSet 2 [0,1] (fCall 3 m_chosen_by_all (fCons (fVar 0) (fCons (fC (.int 0)) (fCons (fVar 1) fNil))))) (gSeq (gSet 3 [0,2] (fCall 3 m_chosen_by_all (fCons (fVar 0) (fCons (fC (.int 1)) (fCons (fVar 2) fNil))))) (gSeq (gFor [3] (fEnum (fCons (fVar 3) fNil)) (fSG2 4 5) (gIf (fB (f2 gLt (fVar 5) (f2 gIx (fVar 2) (fVar 4)))) (gRet (fTup (fCons (fVar 4) (fCons (fVar 5) fNil)))) gNx)) (gRet (fC .none)))))
noncomputable def m_refused:List D->Option D:=runB g_refused 6
noncomputable abbrev N_steps:List Str:=["world","rows","caps","row"]
noncomputable def g_steps:SEnv->Option Out:=(gSeq (gSetF 1 [] (fLst fNil)) (gSeq (gSet 2 [0] (fCall 1 m_limits (fCons (fVar 0) fNil))) (gSeq (gSet 3 [0,2] (fCall 2 m_refused (fCons (fVar 0) (fCons (fVar 2) fNil)))) (gSeq (whD (fB (f2 gNotN (fVar 3) (fC .none))) (gSeq (gApp 1 [3] (fVar 3)) (gSeq (gSet 2 [2,3] (fCall 3 m_lowered (fCons (fVar 2) (fCons (f2 gIx (fVar 3) (fC (.int 0))) (fCons (f2 gIx (fVar 3) (fC (.int 1))) fNil))))) (gSet 3 [0,2] (fCall 2 m_refused (fCons (fVar 0) (fCons (fVar 2) fNil)))))) Rf.turns) (gRet (fVar 1))))))
noncomputable def m_steps:List D->Option D:=runB g_steps 4
noncomputable abbrev N_capped:List Str:=["world","rows","caps","way","cap"]
noncomputable def g_capped:SEnv->Option Out:=(gSeq (gSet 2 [0] (fCall 1 m_limits (fCons (fVar 0) fNil))) (gSeq (gFor [1] (fSeq (fVar 1)) (fSG2 3 4) (gSet 2 [2,3,4] (fCall 3 m_lowered (fCons (fVar 2) (fCons (fVar 3) (fCons (fVar 4) fNil)))))) (gRet (fVar 2))))
noncomputable def m_capped:List D->Option D:=runB g_capped 5
noncomputable abbrev N_givers_best:List Str:=["world"]
noncomputable def g_givers_best:SEnv->Option Out:=(gSeq (gExp (fCall 1 m_check_world (fCons (fVar 0) fNil))) (gRet (fCall 3 m_chosen_by_all (fCons (fVar 0) (fCons (fC (.int 0)) (fCons (fCall 2 m_capped (fCons (fVar 0) (fCons (fCall 1 m_steps (fCons (fVar 0) fNil)) fNil))) fNil))))))
noncomputable def m_givers_best:List D->Option D:=runB g_givers_best 1
noncomputable abbrev N__law_cell:List Str:=["_law_script","_law_k"]
noncomputable def g__law_cell:SEnv->Option Out:=(gSeq (gIf (fB (f2 gEqD (fVar 0) (fLs (fLst fNil)))) (gRet (f2 gMul (fC (.int 7)) (fVar 1))) gNx) (gRet (f2 gAdd (f2 gIx (fVar 0) (f2 gMod (fVar 1) (fCB gLen (fCons (fVar 0) fNil)))) (f2 gMul (fC (.int 6553)) (f2 gDiv (fVar 1) (fCB gLen (fCons (fVar 0) fNil)))))))
noncomputable def m__law_cell:List D->Option D:=runB g__law_cell 2
noncomputable abbrev N__law_drawn:List Str:=["_law_script","_law_k","_law_many","_law_cell_here"]
noncomputable def g__law_drawn:SEnv->Option Out:=(gSeq (gSet 3 [0,1] (f2 gMod (f2 gAdd (f2 gMul (f2 gMod (fCall 2 m__law_cell (fCons (fVar 0) (fCons (fVar 1) fNil))) (fC (.int 2147483563))) (fC (.int 69069))) (f2 gMul (fC (.int 104723)) (f2 gAdd (fVar 1) (fC (.int 1))))) (fC (.int 2147483563)))) (gSeq (gSet 3 [3] (f2 gMod (f2 gAdd (f2 gMul (fVar 3) (fVar 3)) (f2 gDiv (fVar 3) (fC (.int 3)))) (fC (.int 2147483399)))) (gRet (f2 gMod (f2 gDiv (f2 gMod (f2 gAdd (f2 gMul (fVar 3) (fVar 3)) (f2 gDiv (fVar 3) (fC (.int 7)))) (fC (.int 2147483647))) (fC (.int 11))) (fVar 2)))))
noncomputable def m__law_drawn:List D->Option D:=runB g__law_drawn 4
noncomputable abbrev N__law_orders:List Str:=["_law_script","_law_at","_law_rows","_law_found","_law_k","_law_row","_law_order","_law_j","_law_one"]
noncomputable def g__law_orders:SEnv->Option Out:=(gSeq (gSetF 3 [] (fLst fNil)) (gSeq (gFor [2] (fEnum (fCons (fVar 2) fNil)) (fSG2 4 5) (gSeq (gSetF 6 [] (fLst fNil)) (gSeq (gFor [5] (fEnum (fCons (fVar 5) fNil)) (fSG2 7 8) (gIns 6 [8] (fCall 3 m__law_drawn (fCons (fVar 0) (fCons (f2 gAdd (f2 gAdd (fVar 1) (f2 gMul (fC (.int 4)) (fVar 4))) (fVar 7)) (fCons (f2 gAdd (fCB gLen (fCons (fVar 6) fNil)) (fC (.int 1))) fNil)))) (fVar 8))) (gApp 3 [6] (fCB gTuple (fCons (fVar 6) fNil)))))) (gRet (fVar 3))))
noncomputable def m__law_orders:List D->Option D:=runB g__law_orders 9
noncomputable abbrev N__law_world:List Str:=["_law_script","_law_at","_law_most","_law_each","_law_takers","_law_many","_law_size","_law_ways","_law_k","_law_mine","_law_yours","_law_givers"]
noncomputable def g__law_world:SEnv->Option Out:=(gSeq (gIf (fAndT (fB (f2 gGt (fVar 2) (fC (.int 3)))) (fB (f2 gEqD (fCall 3 m__law_drawn (fCons (fVar 0) (fCons (f2 gAdd (fVar 1) (fC (.int 64))) (fCons (fC (.int 4)) fNil)))) (fC (.int 0))))) (gSeq (gSet 3 [0,1] (f2 gAdd (fC (.int 1)) (fCall 3 m__law_drawn (fCons (fVar 0) (fCons (f2 gAdd (fVar 1) (fC (.int 65))) (fCons (fC (.int 2)) fNil)))))) (gSeq (gSet 4 [3] (fTup (fCons (fTup (fCons (fVar 3) (fCons (fTup (fCons (fC (.int 1)) (fCons (fC (.int 0)) fNil))) fNil))) (fCons (fTup (fCons (fVar 3) (fCons (fTup (fCons (fC (.int 0)) (fCons (fC (.int 1)) fNil))) fNil))) fNil)))) (gRet (fTup (fCons (fTup (fCons (fTup (fCons (fVar 3) (fCons (fTup (fCons (fC (.int 0)) (fCons (fC (.int 1)) fNil))) fNil))) (fCons (fTup (fCons (fVar 3) (fCons (fTup (fCons (fC (.int 1)) (fCons (fC (.int 0)) fNil))) fNil))) fNil))) (fCons (fVar 4) (fCons (fTup (fCons (fTup (fCons (fC (.int 0)) (fCons (fC (.int 0)) (fCons (fC (.int 2)) fNil)))) (fCons (fTup (fCons (fC (.int 0)) (fCons (fC (.int 1)) (fCons (fC (.int 2)) fNil)))) (fCons (fTup (fCons (fC (.int 1)) (fCons (fC (.int 0)) (fCons (fC (.int 2)) fNil)))) (fCons (fTup (fCons (fC (.int 1)) (fCons (fC (.int 1)) (fCons (fC (.int 2)) fNil)))) fNil))))) fNil))))))) gNx) (gSeq (gSet 5 [0,1] (f2 gAdd (fC (.int 1)) (fCall 3 m__law_drawn (fCons (fVar 0) (fCons (fVar 1) (fCons (fC (.int 3)) fNil)))))) (gSeq (gSet 6 [0,1] (f2 gAdd (fC (.int 1)) (fCall 3 m__law_drawn (fCons (fVar 0) (fCons (f2 gAdd (fVar 1) (fC (.int 1))) (fCons (fC (.int 3)) fNil)))))) (gSeq (gSetF 7 [] (fLst fNil)) (gSeq (gFor [5,6] (fRange (fCons (f2 gMul (fVar 5) (fVar 6)) fNil)) (fSG 8) (gIf (fAndT (fB (f2 gLt (fCB gLen (fCons (fVar 7) fNil)) (fVar 2))) (fB (f2 gGt (fCall 3 m__law_drawn (fCons (fVar 0) (fCons (f2 gAdd (f2 gAdd (fVar 1) (fC (.int 2))) (fVar 8)) (fCons (fC (.int 4)) fNil)))) (fC (.int 0))))) (gApp 7 [0,1,6,8] (fTup (fCons (f2 gDiv (fVar 8) (fVar 6)) (fCons (f2 gMod (fVar 8) (fVar 6)) (fCons (f2 gAdd (fC (.int 1)) (fCall 3 m__law_drawn (fCons (fVar 0) (fCons (f2 gAdd (f2 gAdd (fVar 1) (fC (.int 12))) (fVar 8)) (fCons (fC (.int 2)) fNil))))) fNil))))) gNx)) (gSeq (gSet 9 [0,1,5,7] (fCall 3 m__law_orders (fCons (fVar 0) (fCons (f2 gAdd (fVar 1) (fC (.int 24))) (fCons (fLs (fComp 1 [7] (fRange (fCons (fVar 5) fNil)) (fG 0) (fun _=>some true) (fLs (fComp 1 [0] (fSeq (fVar 1)) (fG 0) (fB (f2 gEqD (f2 gIx (fVar 0) (fC (.int 0))) (fVar 1))) (f2 gIx (fVar 0) (fC (.int 1))))))) fNil))))) (gSeq (gSet 10 [0,1,6,7] (fCall 3 m__law_orders (fCons (fVar 0) (fCons (f2 gAdd (fVar 1) (fC (.int 40))) (fCons (fLs (fComp 1 [7] (fRange (fCons (fVar 6) fNil)) (fG 0) (fun _=>some true) (fLs (fComp 1 [0] (fSeq (fVar 1)) (fG 0) (fB (f2 gEqD (f2 gIx (fVar 0) (fC (.int 1))) (fVar 1))) (f2 gIx (fVar 0) (fC (.int 0))))))) fNil))))) (gSeq (gSet 11 [0,1,8,9] (fCB gTuple (fCons (fLs (fComp 2 [0,1] (fEnum (fCons (fVar 9) fNil)) (fG2 0 1) (fun _=>some true) (fTup (fCons (fCall 3 m__law_drawn (fCons (fVar 2) (fCons (f2 gAdd (f2 gAdd (fVar 3) (fC (.int 56))) (fVar 0)) (fCons (fC (.int 4)) fNil)))) (fCons (fVar 1) fNil))))) fNil))) (gSeq (gSet 4 [0,1,8,10] (fCB gTuple (fCons (fLs (fComp 2 [0,1] (fEnum (fCons (fVar 10) fNil)) (fG2 0 1) (fun _=>some true) (fTup (fCons (fCall 3 m__law_drawn (fCons (fVar 2) (fCons (f2 gAdd (f2 gAdd (fVar 3) (fC (.int 60))) (fVar 0)) (fCons (fC (.int 4)) fNil)))) (fCons (fVar 1) fNil))))) fNil))) (gRet (fTup (fCons (fVar 11) (fCons (fVar 4) (fCons (fCB gTuple (fCons (fVar 7) fNil)) fNil))))))))))))))
noncomputable def m__law_world:List D->Option D:=runB g__law_world 12
noncomputable abbrev N__law_choice:List Str:=["_law_world_here","_law_side","_law_place","_law_offers","_law_found","_law_left","_law_other","_law_way"]
noncomputable def g__law_choice:SEnv->Option Out:=(gSeq (gSetF 4 [3] (fRepF (fLst (fCons (fC (.int 0)) fNil)) (fCB gLen (fCons (fVar 3) fNil)))) (gSeq (gSet 5 [0,1,2] (f2 gIx (f2 gIx (f2 gIx (fVar 0) (fVar 1)) (fVar 2)) (fC (.int 0)))) (gSeq (gFor [0,1,2] (fSeq (f2 gIx (f2 gIx (f2 gIx (fVar 0) (fVar 1)) (fVar 2)) (fC (.int 1)))) (fSG 6) (gFor [3] (fRange (fCons (fCB gLen (fCons (fVar 3) fNil)) fNil)) (fSG 7) (gIf (fAndT (fB (f2 gEqD (f2 gIx (f2 gIx (f2 gIx (fVar 0) (fC (.int 2))) (fVar 7)) (fVar 1)) (fVar 2))) (fB (f2 gEqD (f2 gIx (f2 gIx (f2 gIx (fVar 0) (fC (.int 2))) (fVar 7)) (f2 Dl.gSub (fC (.int 1)) (fVar 1))) (fVar 6)))) (gSeq (gSto 4 [0,3,5,7] (fVar 7) (fCB gMin (fCons (fVar 5) (fCons (f2 gIx (fVar 3) (fVar 7)) (fCons (f2 gIx (f2 gIx (f2 gIx (fVar 0) (fC (.int 2))) (fVar 7)) (fC (.int 2))) fNil))))) (gSet 5 [4,5,7] (f2 Dl.gSub (fVar 5) (f2 gIx (fVar 4) (fVar 7))))) gNx))) (gRet (fCB gTuple (fCons (fVar 4) fNil))))))
noncomputable def m__law_choice:List D->Option D:=runB g__law_choice 8
noncomputable abbrev N__law_ends:List Str:=["_law_world_here","_law_side","_law_offers","_law_found","_law_place"]
noncomputable def g__law_ends:SEnv->Option Out:=(gSeq (gSetF 3 [2] (fRepF (fLst (fCons (fC (.int 0)) fNil)) (fCB gLen (fCons (fVar 2) fNil)))) (gSeq (gFor [0,1] (fRange (fCons (fCB gLen (fCons (f2 gIx (fVar 0) (fVar 1)) fNil)) fNil)) (fSG 4) (gSetF 3 [0,1,2,3,4] (fComp 2 [] (fZip2 (fCons (fVar 3) (fCons (fCall 4 m__law_choice (fCons (fVar 0) (fCons (fVar 1) (fCons (fVar 4) (fCons (fVar 2) fNil))))) fNil))) (fG2 0 1) (fun _=>some true) (f2 gAdd (fVar 0) (fVar 1))))) (gRet (fCB gTuple (fCons (fVar 3) fNil)))))
noncomputable def m__law_ends:List D->Option D:=runB g__law_ends 5
noncomputable abbrev N__law_refused_first:List Str:=["_law_world_here","_law_caps","_law_offers","_law_some","_law_rows"]
noncomputable def g__law_refused_first:SEnv->Option Out:=(gSeq (gSet 2 [0,1] (fCall 3 m__law_ends (fCons (fVar 0) (fCons (fC (.int 0)) (fCons (fVar 1) fNil))))) (gSeq (gSet 3 [0,2] (fCall 3 m__law_ends (fCons (fVar 0) (fCons (fC (.int 1)) (fCons (fVar 2) fNil))))) (gSeq (gSetF 4 [1,2,3] (fComp 1 [2,3] (fRange (fCons (fCB gLen (fCons (fVar 1) fNil)) fNil)) (fG 0) (fB (f2 gLt (f2 gIx (fVar 2) (fVar 0)) (f2 gIx (fVar 1) (fVar 0)))) (fTup (fCons (fVar 0) (fCons (f2 gIx (fVar 2) (fVar 0)) fNil))))) (gRet (f2 gIx (fLs (f2L gCatL (fVar 4) (fLs (fLst (fCons (fC .none) fNil))))) (fC (.int 0)))))))
noncomputable def m__law_refused_first:List D->Option D:=runB g__law_refused_first 5
noncomputable abbrev N_law_k22:List Str:=["_law_script","_law_world_here","_law_caps","_law_side","_law_here","_law_rows","_law_told"]
noncomputable def g_law_k22:SEnv->Option Out:=(gSeq (gSet 1 [0] (fCall 3 m__law_world (fCons (fVar 0) (fCons (fC (.int 0)) (fCons (fC (.int 9)) fNil))))) (gSeq (gSet 2 [0,1] (fCB gTuple (fCons (fLs (fComp 2 [0] (fEnum (fCons (f2 gIx (fVar 1) (fC (.int 2))) fNil)) (fG2 0 1) (fun _=>some true) (fCall 3 m__law_drawn (fCons (fVar 2) (fCons (f2 gAdd (fC (.int 70)) (fVar 0)) (fCons (f2 gAdd (f2 gIx (fVar 1) (fC (.int 2))) (fC (.int 1))) fNil)))))) fNil))) (gSeq (gFor [] (fRange (fCons (fC (.int 2)) fNil)) (fSG 3) (gIf (fB (f2 gNeD (fCall 3 m_both_ends (fCons (fVar 1) (fCons (fVar 3) (fCons (fVar 2) fNil)))) (fCall 3 m__law_ends (fCons (fVar 1) (fCons (fVar 3) (fCons (fVar 2) fNil)))))) (gRet (fC (.bool false))) gNx)) (gSeq (gIf (fOrT (fB (f2 gNeD (fCall 2 m_refused (fCons (fVar 1) (fCons (fVar 2) fNil))) (fCall 2 m__law_refused_first (fCons (fVar 1) (fCons (fVar 2) fNil))))) (fB (f2 gNeD (fCall 1 m_limits (fCons (fVar 1) fNil)) (fCB gTuple (fCons (fLs (fComp 1 [] (fSeq (f2 gIx (fVar 1) (fC (.int 2)))) (fG 0) (fun _=>some true) (f2 gIx (fVar 0) (fC (.int 2))))) fNil))))) (gRet (fC (.bool false))) gNx) (gSeq (gSet 4 [1] (fCB gTuple (fCons (fLs (fComp 1 [] (fSeq (f2 gIx (fVar 1) (fC (.int 2)))) (fG 0) (fun _=>some true) (f2 gIx (fVar 0) (fC (.int 2))))) fNil))) (gSeq (gSetF 5 [] (fLst fNil)) (gSeq (gSet 6 [1,4] (fCall 2 m__law_refused_first (fCons (fVar 1) (fCons (fVar 4) fNil)))) (gSeq (whD (fB (f2 gNotN (fVar 6) (fC .none))) (gSeq (gIf (fB (f2 gNeD (fCall 3 m_lowered (fCons (fVar 4) (fCons (f2 gIx (fVar 6) (fC (.int 0))) (fCons (f2 gIx (fVar 6) (fC (.int 1))) fNil)))) (f2 gAdd (f2 gAdd (fCut gCutA (fVar 4) fNoB (fBd (f2 gIx (fVar 6) (fC (.int 0))))) (fCut gCutA (fVar 6) (fBd (fC (.int 1))) fNoB)) (fCut gCutA (fVar 4) (fBd (f2 gAdd (f2 gIx (fVar 6) (fC (.int 0))) (fC (.int 1)))) fNoB)))) (gRet (fC (.bool false))) gNx) (gSeq (gApp 5 [6] (fVar 6)) (gSeq (gSet 4 [4,6] (f2 gAdd (f2 gAdd (fCut gCutA (fVar 4) fNoB (fBd (f2 gIx (fVar 6) (fC (.int 0))))) (fCut gCutA (fVar 6) (fBd (fC (.int 1))) fNoB)) (fCut gCutA (fVar 4) (fBd (f2 gAdd (f2 gIx (fVar 6) (fC (.int 0))) (fC (.int 1)))) fNoB))) (gSeq (gIf (fB (f2 gNeD (fCall 2 m_capped (fCons (fVar 1) (fCons (fVar 5) fNil))) (fVar 4))) (gRet (fC (.bool false))) gNx) (gSet 6 [1,4] (fCall 2 m__law_refused_first (fCons (fVar 1) (fCons (fVar 4) fNil)))))))) Rf.turns) (gSeq (gIf (fOrT (fB (f2 gNeD (fCall 1 m_steps (fCons (fVar 1) fNil)) (fVar 5))) (fB (f2 gNeD (fCall 2 m_capped (fCons (fVar 1) (fCons (fLs (fLst fNil)) fNil))) (fCall 1 m_limits (fCons (fVar 1) fNil))))) (gRet (fC (.bool false))) gNx) (gRet (f2 gEqD (fCall 1 m_givers_best (fCons (fVar 1) fNil)) (fCall 3 m__law_ends (fCons (fVar 1) (fCons (fC (.int 0)) (fCons (fVar 4) fNil)))))))))))))))
noncomputable def m_law_k22:List D->Option D:=runB g_law_k22 7
end Pg
namespace K22
open PySem L2 Dl PySem.Spec PyProof.Rows
open Pg
noncomputable abbrev top (i:Nat):Stmt:=PySem.Challenge.pw_stillflow_k22_steps.main.body.getD i (.Pass ⟨0,0,0,0⟩)
noncomputable abbrev s_is_whole:Stmt:=top 7
noncomputable abbrev S_is_whole:Rf.Sg:=⟨[],[]⟩
theorem t_is_whole:Rf.trSs (Rf.trS (defScope s_is_whole) N_is_whole (Rf.tr S_is_whole 40 (none) (defScope s_is_whole) N_is_whole) 40) (defBody s_is_whole) = some g_is_whole:=by kernel_rfl
theorem fs_is_whole:FnScope N_is_whole ["thing","least","most"] (defScope s_is_whole):=⟨rfl,rfl,rfl,by decide +kernel,rfl,by decide +kernel,by decide +kernel⟩
noncomputable abbrev s_is_number:Stmt:=top 8
noncomputable abbrev S_is_number:Rf.Sg:=⟨[("is_whole",3,m_is_whole)],[]⟩
theorem t_is_number:Rf.trSs (Rf.trS (defScope s_is_number) N_is_number (Rf.tr S_is_number 40 (none) (defScope s_is_number) N_is_number) 40) (defBody s_is_number) = some g_is_number:=by kernel_rfl
theorem fs_is_number:FnScope N_is_number ["thing","many"] (defScope s_is_number):=⟨rfl,rfl,rfl,by decide +kernel,rfl,by decide +kernel,by decide +kernel⟩
noncomputable abbrev s_is_long:Stmt:=top 9
noncomputable abbrev S_is_long:Rf.Sg:=⟨[],[]⟩
theorem t_is_long:Rf.trSs (Rf.trS (defScope s_is_long) N_is_long (Rf.tr S_is_long 40 (none) (defScope s_is_long) N_is_long) 40) (defBody s_is_long) = some g_is_long:=by kernel_rfl
theorem fs_is_long:FnScope N_is_long ["thing","least","most"] (defScope s_is_long):=⟨rfl,rfl,rfl,by decide +kernel,rfl,by decide +kernel,by decide +kernel⟩
noncomputable abbrev s_are_likes:Stmt:=top 10
noncomputable abbrev S_are_likes:Rf.Sg:=⟨[("is_number",2,m_is_number)],[]⟩
theorem t_are_likes:Rf.trSs (Rf.trS (defScope s_are_likes) N_are_likes (Rf.tr S_are_likes 40 (none) (defScope s_are_likes) N_are_likes) 40) (defBody s_are_likes) = some g_are_likes:=by kernel_rfl
theorem fs_are_likes:FnScope N_are_likes ["thing","many"] (defScope s_are_likes):=⟨rfl,rfl,rfl,by decide +kernel,rfl,by decide +kernel,by decide +kernel⟩
noncomputable abbrev s_is_end:Stmt:=top 11
noncomputable abbrev S_is_end:Rf.Sg:=⟨[("is_long",3,m_is_long),("is_whole",3,m_is_whole),("are_likes",2,m_are_likes)],[("MOST",9)]⟩
theorem t_is_end:Rf.trSs (Rf.trS (defScope s_is_end) N_is_end (Rf.tr S_is_end 40 (none) (defScope s_is_end) N_is_end) 40) (defBody s_is_end) = some g_is_end:=by kernel_rfl
theorem fs_is_end:FnScope N_is_end ["thing","many"] (defScope s_is_end):=⟨rfl,rfl,rfl,by decide +kernel,rfl,by decide +kernel,by decide +kernel⟩
noncomputable abbrev s_is_way:Stmt:=top 12
noncomputable abbrev S_is_way:Rf.Sg:=⟨[("is_long",3,m_is_long),("is_number",2,m_is_number),("is_whole",3,m_is_whole)],[("MOST",9)]⟩
theorem t_is_way:Rf.trSs (Rf.trS (defScope s_is_way) N_is_way (Rf.tr S_is_way 40 (none) (defScope s_is_way) N_is_way) 40) (defBody s_is_way) = some g_is_way:=by kernel_rfl
theorem fs_is_way:FnScope N_is_way ["thing","givers","takers"] (defScope s_is_way):=⟨rfl,rfl,rfl,by decide +kernel,rfl,by decide +kernel,by decide +kernel⟩
noncomputable abbrev s_are_parts:Stmt:=top 13
noncomputable abbrev S_are_parts:Rf.Sg:=⟨[("is_long",3,m_is_long),("is_end",2,m_is_end),("is_way",3,m_is_way)],[("MOST_PLACES",4)]⟩
theorem t_are_parts:Rf.trSs (Rf.trS (defScope s_are_parts) N_are_parts (Rf.tr S_are_parts 40 (none) (defScope s_are_parts) N_are_parts) 40) (defBody s_are_parts) = some g_are_parts:=by kernel_rfl
theorem fs_are_parts:FnScope N_are_parts ["givers","takers","ways"] (defScope s_are_parts):=⟨rfl,rfl,rfl,by decide +kernel,rfl,by decide +kernel,by decide +kernel⟩
noncomputable abbrev s_liked_pairs:Stmt:=top 14
noncomputable abbrev S_liked_pairs:Rf.Sg:=⟨[],[]⟩
theorem t_liked_pairs:Rf.trSs (Rf.trS (defScope s_liked_pairs) N_liked_pairs (Rf.tr S_liked_pairs 40 (none) (defScope s_liked_pairs) N_liked_pairs) 40) (defBody s_liked_pairs) = some g_liked_pairs:=by kernel_rfl
theorem fs_liked_pairs:FnScope N_liked_pairs ["places"] (defScope s_liked_pairs):=⟨rfl,rfl,rfl,by decide +kernel,rfl,by decide +kernel,by decide +kernel⟩
noncomputable abbrev s_is_world:Stmt:=top 15
noncomputable abbrev S_is_world:Rf.Sg:=⟨[("liked_pairs",1,m_liked_pairs),("is_long",3,m_is_long),("are_parts",3,m_are_parts)],[]⟩
theorem t_is_world:Rf.trSs (Rf.trS (defScope s_is_world) N_is_world (Rf.tr S_is_world 40 (none) (defScope s_is_world) N_is_world) 40) (defBody s_is_world) = some g_is_world:=by kernel_rfl
theorem fs_is_world:FnScope N_is_world ["thing"] (defScope s_is_world):=⟨rfl,rfl,rfl,by decide +kernel,rfl,by decide +kernel,by decide +kernel⟩
noncomputable abbrev s_check_world:Stmt:=top 16
noncomputable abbrev S_check_world:Rf.Sg:=⟨[("is_world",1,m_is_world)],[]⟩
theorem t_check_world:Rf.trSs (Rf.trS (defScope s_check_world) N_check_world (Rf.tr S_check_world 40 (none) (defScope s_check_world) N_check_world) 40) (defBody s_check_world) = some g_check_world:=by kernel_rfl
theorem fs_check_world:FnScope N_check_world ["world"] (defScope s_check_world):=⟨rfl,rfl,rfl,by decide +kernel,rfl,by decide +kernel,by decide +kernel⟩
noncomputable abbrev s_check_whole:Stmt:=top 17
noncomputable abbrev S_check_whole:Rf.Sg:=⟨[("is_whole",3,m_is_whole)],[]⟩
theorem t_check_whole:Rf.trSs (Rf.trS (defScope s_check_whole) N_check_whole (Rf.tr S_check_whole 40 (none) (defScope s_check_whole) N_check_whole) 40) (defBody s_check_whole) = some g_check_whole:=by kernel_rfl
theorem fs_check_whole:FnScope N_check_whole ["thing","least","most"] (defScope s_check_whole):=⟨rfl,rfl,rfl,by decide +kernel,rfl,by decide +kernel,by decide +kernel⟩
noncomputable abbrev s_check_number:Stmt:=top 18
noncomputable abbrev S_check_number:Rf.Sg:=⟨[("check_whole",3,m_check_whole)],[]⟩
theorem t_check_number:Rf.trSs (Rf.trS (defScope s_check_number) N_check_number (Rf.tr S_check_number 40 (none) (defScope s_check_number) N_check_number) 40) (defBody s_check_number) = some g_check_number:=by kernel_rfl
theorem fs_check_number:FnScope N_check_number ["thing","many"] (defScope s_check_number):=⟨rfl,rfl,rfl,by decide +kernel,rfl,by decide +kernel,by decide +kernel⟩
noncomputable abbrev s_check_side:Stmt:=top 19
noncomputable abbrev S_check_side:Rf.Sg:=⟨[("check_number",2,m_check_number)],[]⟩
theorem t_check_side:Rf.trSs (Rf.trS (defScope s_check_side) N_check_side (Rf.tr S_check_side 40 (none) (defScope s_check_side) N_check_side) 40) (defBody s_check_side) = some g_check_side:=by kernel_rfl
theorem fs_check_side:FnScope N_check_side ["thing"] (defScope s_check_side):=⟨rfl,rfl,rfl,by decide +kernel,rfl,by decide +kernel,by decide +kernel⟩
noncomputable abbrev s_replaced:Stmt:=top 20
noncomputable abbrev S_replaced:Rf.Sg:=⟨[],[]⟩
theorem t_replaced:Rf.trSs (Rf.trS (defScope s_replaced) N_replaced (Rf.tr S_replaced 40 (none) (defScope s_replaced) N_replaced) 40) (defBody s_replaced) = some g_replaced:=by kernel_rfl
theorem fs_replaced:FnScope N_replaced ["parts","number","part"] (defScope s_replaced):=⟨rfl,rfl,rfl,by decide +kernel,rfl,by decide +kernel,by decide +kernel⟩
noncomputable abbrev s_ways_of:Stmt:=top 22
noncomputable abbrev S_ways_of:Rf.Sg:=⟨[],[]⟩
theorem t_ways_of:Rf.trSs (Rf.trS (defScope s_ways_of) N_ways_of (Rf.tr S_ways_of 40 (some "ways_of.<locals>.<lambda>") (defScope s_ways_of) N_ways_of) 40) (defBody s_ways_of) = some g_ways_of:=by kernel_rfl
theorem fs_ways_of:FnScope N_ways_of ["world","side","place"] (defScope s_ways_of):=⟨rfl,rfl,rfl,by decide +kernel,rfl,by decide +kernel,by decide +kernel⟩
noncomputable abbrev s_chosen_by:Stmt:=top 23
noncomputable abbrev S_chosen_by:Rf.Sg:=⟨[("ways_of",3,m_ways_of)],[]⟩
theorem t_chosen_by:Rf.trSs (Rf.trS (defScope s_chosen_by) N_chosen_by (Rf.tr S_chosen_by 40 (none) (defScope s_chosen_by) N_chosen_by) 40) (defBody s_chosen_by) = some g_chosen_by:=by kernel_rfl
theorem fs_chosen_by:FnScope N_chosen_by ["world","side","place","offers"] (defScope s_chosen_by):=⟨rfl,rfl,rfl,by decide +kernel,rfl,by decide +kernel,by decide +kernel⟩
noncomputable abbrev s_chosen_by_all:Stmt:=top 25
noncomputable abbrev S_chosen_by_all:Rf.Sg:=⟨[("chosen_by",4,m_chosen_by)],[]⟩
theorem t_chosen_by_all:Rf.trSs (Rf.trS (defScope s_chosen_by_all) N_chosen_by_all (Rf.tr S_chosen_by_all 40 (none) (defScope s_chosen_by_all) N_chosen_by_all) 40) (defBody s_chosen_by_all) = some g_chosen_by_all:=by kernel_rfl
theorem fs_chosen_by_all:FnScope N_chosen_by_all ["world","side","offers"] (defScope s_chosen_by_all):=⟨rfl,rfl,rfl,by decide +kernel,rfl,by decide +kernel,by decide +kernel⟩
noncomputable abbrev s_both_ends:Stmt:=top 26
noncomputable abbrev S_both_ends:Rf.Sg:=⟨[("check_world",1,m_check_world),("check_side",1,m_check_side),("chosen_by_all",3,m_chosen_by_all)],[]⟩
theorem t_both_ends:Rf.trSs (Rf.trS (defScope s_both_ends) N_both_ends (Rf.tr S_both_ends 40 (none) (defScope s_both_ends) N_both_ends) 40) (defBody s_both_ends) = some g_both_ends:=by kernel_rfl
theorem fs_both_ends:FnScope N_both_ends ["world","side","offers"] (defScope s_both_ends):=⟨rfl,rfl,rfl,by decide +kernel,rfl,by decide +kernel,by decide +kernel⟩
noncomputable abbrev s_limits:Stmt:=top 27
noncomputable abbrev S_limits:Rf.Sg:=⟨[],[]⟩
theorem t_limits:Rf.trSs (Rf.trS (defScope s_limits) N_limits (Rf.tr S_limits 40 (none) (defScope s_limits) N_limits) 40) (defBody s_limits) = some g_limits:=by kernel_rfl
theorem fs_limits:FnScope N_limits ["world"] (defScope s_limits):=⟨rfl,rfl,rfl,by decide +kernel,rfl,by decide +kernel,by decide +kernel⟩
noncomputable abbrev s_lowered:Stmt:=top 28
noncomputable abbrev S_lowered:Rf.Sg:=⟨[("replaced",3,m_replaced)],[]⟩
theorem t_lowered:Rf.trSs (Rf.trS (defScope s_lowered) N_lowered (Rf.tr S_lowered 40 (none) (defScope s_lowered) N_lowered) 40) (defBody s_lowered) = some g_lowered:=by kernel_rfl
theorem fs_lowered:FnScope N_lowered ["caps","way","cap"] (defScope s_lowered):=⟨rfl,rfl,rfl,by decide +kernel,rfl,by decide +kernel,by decide +kernel⟩
noncomputable abbrev s_refused:Stmt:=top 29
noncomputable abbrev S_refused:Rf.Sg:=⟨[("chosen_by_all",3,m_chosen_by_all)],[]⟩
theorem t_refused:Rf.trSs (Rf.trS (defScope s_refused) N_refused (Rf.tr S_refused 40 (none) (defScope s_refused) N_refused) 40) (defBody s_refused) = some g_refused:=by kernel_rfl
theorem fs_refused:FnScope N_refused ["world","caps"] (defScope s_refused):=⟨rfl,rfl,rfl,by decide +kernel,rfl,by decide +kernel,by decide +kernel⟩
noncomputable abbrev s_steps:Stmt:=top 30
noncomputable abbrev S_steps:Rf.Sg:=⟨[("limits",1,m_limits),("refused",2,m_refused),("lowered",3,m_lowered)],[]⟩
theorem t_steps:Rf.trSs (Rf.trS (defScope s_steps) N_steps (Rf.tr S_steps 40 (none) (defScope s_steps) N_steps) 40) (defBody s_steps) = some g_steps:=by kernel_rfl
theorem fs_steps:FnScope N_steps ["world"] (defScope s_steps):=⟨rfl,rfl,rfl,by decide +kernel,rfl,by decide +kernel,by decide +kernel⟩
noncomputable abbrev s_capped:Stmt:=top 31
noncomputable abbrev S_capped:Rf.Sg:=⟨[("limits",1,m_limits),("lowered",3,m_lowered)],[]⟩
theorem t_capped:Rf.trSs (Rf.trS (defScope s_capped) N_capped (Rf.tr S_capped 40 (none) (defScope s_capped) N_capped) 40) (defBody s_capped) = some g_capped:=by kernel_rfl
theorem fs_capped:FnScope N_capped ["world","rows"] (defScope s_capped):=⟨rfl,rfl,rfl,by decide +kernel,rfl,by decide +kernel,by decide +kernel⟩
noncomputable abbrev s_givers_best:Stmt:=top 32
noncomputable abbrev S_givers_best:Rf.Sg:=⟨[("check_world",1,m_check_world),("chosen_by_all",3,m_chosen_by_all),("capped",2,m_capped),("steps",1,m_steps)],[]⟩
theorem t_givers_best:Rf.trSs (Rf.trS (defScope s_givers_best) N_givers_best (Rf.tr S_givers_best 40 (none) (defScope s_givers_best) N_givers_best) 40) (defBody s_givers_best) = some g_givers_best:=by kernel_rfl
theorem fs_givers_best:FnScope N_givers_best ["world"] (defScope s_givers_best):=⟨rfl,rfl,rfl,by decide +kernel,rfl,by decide +kernel,by decide +kernel⟩
noncomputable abbrev s__law_cell:Stmt:=top 34
noncomputable abbrev S__law_cell:Rf.Sg:=⟨[],[]⟩
theorem t__law_cell:Rf.trSs (Rf.trS (defScope s__law_cell) N__law_cell (Rf.tr S__law_cell 40 (none) (defScope s__law_cell) N__law_cell) 40) (defBody s__law_cell) = some g__law_cell:=by kernel_rfl
theorem fs__law_cell:FnScope N__law_cell ["_law_script","_law_k"] (defScope s__law_cell):=⟨rfl,rfl,rfl,by decide +kernel,rfl,by decide +kernel,by decide +kernel⟩
noncomputable abbrev s__law_drawn:Stmt:=top 35
noncomputable abbrev S__law_drawn:Rf.Sg:=⟨[("_law_cell",2,m__law_cell)],[]⟩
theorem t__law_drawn:Rf.trSs (Rf.trS (defScope s__law_drawn) N__law_drawn (Rf.tr S__law_drawn 40 (none) (defScope s__law_drawn) N__law_drawn) 40) (defBody s__law_drawn) = some g__law_drawn:=by kernel_rfl
theorem fs__law_drawn:FnScope N__law_drawn ["_law_script","_law_k","_law_many"] (defScope s__law_drawn):=⟨rfl,rfl,rfl,by decide +kernel,rfl,by decide +kernel,by decide +kernel⟩
noncomputable abbrev s__law_orders:Stmt:=top 36
noncomputable abbrev S__law_orders:Rf.Sg:=⟨[("_law_drawn",3,m__law_drawn)],[]⟩
theorem t__law_orders:Rf.trSs (Rf.trS (defScope s__law_orders) N__law_orders (Rf.tr S__law_orders 40 (none) (defScope s__law_orders) N__law_orders) 40) (defBody s__law_orders) = some g__law_orders:=by kernel_rfl
theorem fs__law_orders:FnScope N__law_orders ["_law_script","_law_at","_law_rows"] (defScope s__law_orders):=⟨rfl,rfl,rfl,by decide +kernel,rfl,by decide +kernel,by decide +kernel⟩
noncomputable abbrev s__law_world:Stmt:=top 37
noncomputable abbrev S__law_world:Rf.Sg:=⟨[("_law_orders",3,m__law_orders),("_law_drawn",3,m__law_drawn)],[]⟩
theorem t__law_world:Rf.trSs (Rf.trS (defScope s__law_world) N__law_world (Rf.tr S__law_world 40 (none) (defScope s__law_world) N__law_world) 40) (defBody s__law_world) = some g__law_world:=by kernel_rfl
theorem fs__law_world:FnScope N__law_world ["_law_script","_law_at","_law_most"] (defScope s__law_world):=⟨rfl,rfl,rfl,by decide +kernel,rfl,by decide +kernel,by decide +kernel⟩
noncomputable abbrev s__law_choice:Stmt:=top 38
noncomputable abbrev S__law_choice:Rf.Sg:=⟨[],[]⟩
theorem t__law_choice:Rf.trSs (Rf.trS (defScope s__law_choice) N__law_choice (Rf.tr S__law_choice 40 (none) (defScope s__law_choice) N__law_choice) 40) (defBody s__law_choice) = some g__law_choice:=by kernel_rfl
theorem fs__law_choice:FnScope N__law_choice ["_law_world_here","_law_side","_law_place","_law_offers"] (defScope s__law_choice):=⟨rfl,rfl,rfl,by decide +kernel,rfl,by decide +kernel,by decide +kernel⟩
noncomputable abbrev s__law_ends:Stmt:=top 39
noncomputable abbrev S__law_ends:Rf.Sg:=⟨[("_law_choice",4,m__law_choice)],[]⟩
theorem t__law_ends:Rf.trSs (Rf.trS (defScope s__law_ends) N__law_ends (Rf.tr S__law_ends 40 (none) (defScope s__law_ends) N__law_ends) 40) (defBody s__law_ends) = some g__law_ends:=by kernel_rfl
theorem fs__law_ends:FnScope N__law_ends ["_law_world_here","_law_side","_law_offers"] (defScope s__law_ends):=⟨rfl,rfl,rfl,by decide +kernel,rfl,by decide +kernel,by decide +kernel⟩
noncomputable abbrev s__law_refused_first:Stmt:=top 40
noncomputable abbrev S__law_refused_first:Rf.Sg:=⟨[("_law_ends",3,m__law_ends)],[]⟩
theorem t__law_refused_first:Rf.trSs (Rf.trS (defScope s__law_refused_first) N__law_refused_first (Rf.tr S__law_refused_first 40 (none) (defScope s__law_refused_first) N__law_refused_first) 40) (defBody s__law_refused_first) = some g__law_refused_first:=by kernel_rfl
theorem fs__law_refused_first:FnScope N__law_refused_first ["_law_world_here","_law_caps"] (defScope s__law_refused_first):=⟨rfl,rfl,rfl,by decide +kernel,rfl,by decide +kernel,by decide +kernel⟩
noncomputable abbrev s_law:Stmt:=top 41
noncomputable abbrev S_law:Rf.Sg:=⟨[("_law_world",3,m__law_world),("_law_refused_first",2,m__law_refused_first),("givers_best",1,m_givers_best),("_law_ends",3,m__law_ends),("_law_drawn",3,m__law_drawn),("both_ends",3,m_both_ends),("refused",2,m_refused),("limits",1,m_limits),("lowered",3,m_lowered),("capped",2,m_capped),("steps",1,m_steps)],[]⟩
theorem t_law:Rf.trSs (Rf.trS (defScope s_law) N_law_k22 (Rf.tr S_law 40 (none) (defScope s_law) N_law_k22) 40) (defBody s_law) = some g_law_k22:=by kernel_rfl
theorem fs_law:FnScope N_law_k22 ["_law_script"] (defScope s_law):=⟨rfl,rfl,rfl,by decide +kernel,rfl,by decide +kernel,by decide +kernel⟩
structure Ins (K:PySem.W.Frag):Prop where
  c_is_whole:DefIn K "is_whole" s_is_whole ["thing","least","most"]
  c_is_number:DefIn K "is_number" s_is_number ["thing","many"]
  c_is_long:DefIn K "is_long" s_is_long ["thing","least","most"]
  c_are_likes:DefIn K "are_likes" s_are_likes ["thing","many"]
  c_is_end:DefIn K "is_end" s_is_end ["thing","many"]
  c_is_way:DefIn K "is_way" s_is_way ["thing","givers","takers"]
  c_are_parts:DefIn K "are_parts" s_are_parts ["givers","takers","ways"]
  c_liked_pairs:DefIn K "liked_pairs" s_liked_pairs ["places"]
  c_is_world:DefIn K "is_world" s_is_world ["thing"]
  c_check_world:DefIn K "check_world" s_check_world ["world"]
  c_check_whole:DefIn K "check_whole" s_check_whole ["thing","least","most"]
  c_check_number:DefIn K "check_number" s_check_number ["thing","many"]
  c_check_side:DefIn K "check_side" s_check_side ["thing"]
  c_replaced:DefIn K "replaced" s_replaced ["parts","number","part"]
  c_ways_of:LefIn K "ways_of" s_ways_of ["world","side","place"]
  c_chosen_by:DefIn K "chosen_by" s_chosen_by ["world","side","place","offers"]
  c_chosen_by_all:DefIn K "chosen_by_all" s_chosen_by_all ["world","side","offers"]
  c_both_ends:DefIn K "both_ends" s_both_ends ["world","side","offers"]
  c_limits:DefIn K "limits" s_limits ["world"]
  c_lowered:DefIn K "lowered" s_lowered ["caps","way","cap"]
  c_refused:DefIn K "refused" s_refused ["world","caps"]
  c_steps:DefIn K "steps" s_steps ["world"]
  c_capped:DefIn K "capped" s_capped ["world","rows"]
  c_givers_best:DefIn K "givers_best" s_givers_best ["world"]
  c__law_cell:DefIn K "_law_cell" s__law_cell ["_law_script","_law_k"]
  c__law_drawn:DefIn K "_law_drawn" s__law_drawn ["_law_script","_law_k","_law_many"]
  c__law_orders:DefIn K "_law_orders" s__law_orders ["_law_script","_law_at","_law_rows"]
  c__law_world:DefIn K "_law_world" s__law_world ["_law_script","_law_at","_law_most"]
  c__law_choice:DefIn K "_law_choice" s__law_choice ["_law_world_here","_law_side","_law_place","_law_offers"]
  c__law_ends:DefIn K "_law_ends" s__law_ends ["_law_world_here","_law_side","_law_offers"]
  c__law_refused_first:DefIn K "_law_refused_first" s__law_refused_first ["_law_world_here","_law_caps"]
  c_law:DefIn K "law" s_law ["_law_script"]
  i_MOST_PLACES:∃ t,PySem.W.nsIn K mainGlobals "MOST_PLACES" = some (some (.int 4 t))
  i_MOST:∃ t,PySem.W.nsIn K mainGlobals "MOST" = some (some (.int 9 t))
  b:∀ x ∈ bltNames,PySem.W.nsIn K mainGlobals x = some none
structure Defs (K:PySem.W.Frag) (mg:Str->Option Value):Prop where
  c_is_whole:DefM K mg "is_whole" s_is_whole ["thing","least","most"]
  c_is_number:DefM K mg "is_number" s_is_number ["thing","many"]
  c_is_long:DefM K mg "is_long" s_is_long ["thing","least","most"]
  c_are_likes:DefM K mg "are_likes" s_are_likes ["thing","many"]
  c_is_end:DefM K mg "is_end" s_is_end ["thing","many"]
  c_is_way:DefM K mg "is_way" s_is_way ["thing","givers","takers"]
  c_are_parts:DefM K mg "are_parts" s_are_parts ["givers","takers","ways"]
  c_liked_pairs:DefM K mg "liked_pairs" s_liked_pairs ["places"]
  c_is_world:DefM K mg "is_world" s_is_world ["thing"]
  c_check_world:DefM K mg "check_world" s_check_world ["world"]
  c_check_whole:DefM K mg "check_whole" s_check_whole ["thing","least","most"]
  c_check_number:DefM K mg "check_number" s_check_number ["thing","many"]
  c_check_side:DefM K mg "check_side" s_check_side ["thing"]
  c_replaced:DefM K mg "replaced" s_replaced ["parts","number","part"]
  c_ways_of:LefM K mg "ways_of" s_ways_of ["world","side","place"]
  c_chosen_by:DefM K mg "chosen_by" s_chosen_by ["world","side","place","offers"]
  c_chosen_by_all:DefM K mg "chosen_by_all" s_chosen_by_all ["world","side","offers"]
  c_both_ends:DefM K mg "both_ends" s_both_ends ["world","side","offers"]
  c_limits:DefM K mg "limits" s_limits ["world"]
  c_lowered:DefM K mg "lowered" s_lowered ["caps","way","cap"]
  c_refused:DefM K mg "refused" s_refused ["world","caps"]
  c_steps:DefM K mg "steps" s_steps ["world"]
  c_capped:DefM K mg "capped" s_capped ["world","rows"]
  c_givers_best:DefM K mg "givers_best" s_givers_best ["world"]
  c__law_cell:DefM K mg "_law_cell" s__law_cell ["_law_script","_law_k"]
  c__law_drawn:DefM K mg "_law_drawn" s__law_drawn ["_law_script","_law_k","_law_many"]
  c__law_orders:DefM K mg "_law_orders" s__law_orders ["_law_script","_law_at","_law_rows"]
  c__law_world:DefM K mg "_law_world" s__law_world ["_law_script","_law_at","_law_most"]
  c__law_choice:DefM K mg "_law_choice" s__law_choice ["_law_world_here","_law_side","_law_place","_law_offers"]
  c__law_ends:DefM K mg "_law_ends" s__law_ends ["_law_world_here","_law_side","_law_offers"]
  c__law_refused_first:DefM K mg "_law_refused_first" s__law_refused_first ["_law_world_here","_law_caps"]
  c_law:DefM K mg "law" s_law ["_law_script"]
  i_MOST_PLACES:∃ t,mg "MOST_PLACES" = some (.int 4 t)
  i_MOST:∃ t,mg "MOST" = some (.int 9 t)
  b:∀ x ∈ bltNames,mg x = none
theorem Ins.defs {K:PySem.W.Frag} {h:Heap} {mg:Str->Option Value} (I:Ins K) (X:K.In h) (G:h.Ns mainGlobals mg):Defs K mg :=
  ⟨I.c_is_whole.mg X G,I.c_is_number.mg X G,I.c_is_long.mg X G,I.c_are_likes.mg X G,I.c_is_end.mg X G,I.c_is_way.mg X G,I.c_are_parts.mg X G,I.c_liked_pairs.mg X G,I.c_is_world.mg X G,I.c_check_world.mg X G,I.c_check_whole.mg X G,I.c_check_number.mg X G,I.c_check_side.mg X G,I.c_replaced.mg X G,I.c_ways_of.mg X G,I.c_chosen_by.mg X G,I.c_chosen_by_all.mg X G,I.c_both_ends.mg X G,I.c_limits.mg X G,I.c_lowered.mg X G,I.c_refused.mg X G,I.c_steps.mg X G,I.c_capped.mg X G,I.c_givers_best.mg X G,I.c__law_cell.mg X G,I.c__law_drawn.mg X G,I.c__law_orders.mg X G,I.c__law_world.mg X G,I.c__law_choice.mg X G,I.c__law_ends.mg X G,I.c__law_refused_first.mg X G,I.c_law.mg X G,(let ⟨t,h⟩:=I.i_MOST_PLACES; ⟨t,PySem.W.mg_of X G h⟩),(let ⟨t,h⟩:=I.i_MOST; ⟨t,PySem.W.mg_of X G h⟩),fun x hx=>PySem.W.mg_none_of X G (I.b x hx)⟩
section
variable {P:Program} {w:World} {K:PySem.W.Frag} {mg:Str->Option Value} {base:Heap}
theorem F_is_whole (D:Defs K mg):FnD P w K mg base 1 "is_whole" 3 m_is_whole:=Rf.fnT (j:=0) D.c_is_whole fs_is_whole D.b Rf.fnil Rf.inil t_is_whole
theorem F_is_number (D:Defs K mg):FnD P w K mg base 2 "is_number" 2 m_is_number:=Rf.fnT (j:=1) D.c_is_number fs_is_number D.b (Rf.fcons ((F_is_whole D).mono (by decide)) Rf.fnil) Rf.inil t_is_number
theorem F_is_long (D:Defs K mg):FnD P w K mg base 1 "is_long" 3 m_is_long:=Rf.fnT (j:=0) D.c_is_long fs_is_long D.b Rf.fnil Rf.inil t_is_long
theorem F_are_likes (D:Defs K mg):FnD P w K mg base 3 "are_likes" 2 m_are_likes:=Rf.fnT (j:=2) D.c_are_likes fs_are_likes D.b (Rf.fcons ((F_is_number D).mono (by decide)) Rf.fnil) Rf.inil t_are_likes
theorem F_is_end (D:Defs K mg):FnD P w K mg base 4 "is_end" 2 m_is_end:=Rf.fnT (j:=3) D.c_is_end fs_is_end D.b (Rf.fcons ((F_is_long D).mono (by decide)) (Rf.fcons ((F_is_whole D).mono (by decide)) (Rf.fcons ((F_are_likes D).mono (by decide)) Rf.fnil))) (Rf.icons D.i_MOST Rf.inil) t_is_end
theorem F_is_way (D:Defs K mg):FnD P w K mg base 3 "is_way" 3 m_is_way:=Rf.fnT (j:=2) D.c_is_way fs_is_way D.b (Rf.fcons ((F_is_long D).mono (by decide)) (Rf.fcons ((F_is_number D).mono (by decide)) (Rf.fcons ((F_is_whole D).mono (by decide)) Rf.fnil))) (Rf.icons D.i_MOST Rf.inil) t_is_way
theorem F_are_parts (D:Defs K mg):FnD P w K mg base 5 "are_parts" 3 m_are_parts:=Rf.fnT (j:=4) D.c_are_parts fs_are_parts D.b (Rf.fcons ((F_is_long D).mono (by decide)) (Rf.fcons ((F_is_end D).mono (by decide)) (Rf.fcons ((F_is_way D).mono (by decide)) Rf.fnil))) (Rf.icons D.i_MOST_PLACES Rf.inil) t_are_parts
theorem F_liked_pairs (D:Defs K mg):FnD P w K mg base 1 "liked_pairs" 1 m_liked_pairs:=Rf.fnT (j:=0) D.c_liked_pairs fs_liked_pairs D.b Rf.fnil Rf.inil t_liked_pairs
theorem F_is_world (D:Defs K mg):FnD P w K mg base 6 "is_world" 1 m_is_world:=Rf.fnT (j:=5) D.c_is_world fs_is_world D.b (Rf.fcons ((F_liked_pairs D).mono (by decide)) (Rf.fcons ((F_is_long D).mono (by decide)) (Rf.fcons ((F_are_parts D).mono (by decide)) Rf.fnil))) Rf.inil t_is_world
theorem F_check_world (D:Defs K mg):FnD P w K mg base 7 "check_world" 1 m_check_world:=Rf.fnT (j:=6) D.c_check_world fs_check_world D.b (Rf.fcons ((F_is_world D).mono (by decide)) Rf.fnil) Rf.inil t_check_world
theorem F_check_whole (D:Defs K mg):FnD P w K mg base 2 "check_whole" 3 m_check_whole:=Rf.fnT (j:=1) D.c_check_whole fs_check_whole D.b (Rf.fcons ((F_is_whole D).mono (by decide)) Rf.fnil) Rf.inil t_check_whole
theorem F_check_number (D:Defs K mg):FnD P w K mg base 3 "check_number" 2 m_check_number:=Rf.fnT (j:=2) D.c_check_number fs_check_number D.b (Rf.fcons ((F_check_whole D).mono (by decide)) Rf.fnil) Rf.inil t_check_number
theorem F_check_side (D:Defs K mg):FnD P w K mg base 4 "check_side" 1 m_check_side:=Rf.fnT (j:=3) D.c_check_side fs_check_side D.b (Rf.fcons ((F_check_number D).mono (by decide)) Rf.fnil) Rf.inil t_check_side
theorem F_replaced (D:Defs K mg):FnD P w K mg base 1 "replaced" 3 m_replaced:=Rf.fnT (j:=0) D.c_replaced fs_replaced D.b Rf.fnil Rf.inil t_replaced
theorem F_ways_of (D:Defs K mg):FnD P w K mg base 4 "ways_of" 3 m_ways_of:=Rf.fnL (j:=0) D.c_ways_of fs_ways_of D.b Rf.fnil Rf.inil (by decide +kernel) t_ways_of
theorem F_chosen_by (D:Defs K mg):FnD P w K mg base 5 "chosen_by" 4 m_chosen_by:=Rf.fnT (j:=4) D.c_chosen_by fs_chosen_by D.b (Rf.fcons ((F_ways_of D).mono (by decide)) Rf.fnil) Rf.inil t_chosen_by
theorem F_chosen_by_all (D:Defs K mg):FnD P w K mg base 6 "chosen_by_all" 3 m_chosen_by_all:=Rf.fnT (j:=5) D.c_chosen_by_all fs_chosen_by_all D.b (Rf.fcons ((F_chosen_by D).mono (by decide)) Rf.fnil) Rf.inil t_chosen_by_all
theorem F_both_ends (D:Defs K mg):FnD P w K mg base 8 "both_ends" 3 m_both_ends:=Rf.fnT (j:=7) D.c_both_ends fs_both_ends D.b (Rf.fcons ((F_check_world D).mono (by decide)) (Rf.fcons ((F_check_side D).mono (by decide)) (Rf.fcons ((F_chosen_by_all D).mono (by decide)) Rf.fnil))) Rf.inil t_both_ends
theorem F_limits (D:Defs K mg):FnD P w K mg base 1 "limits" 1 m_limits:=Rf.fnT (j:=0) D.c_limits fs_limits D.b Rf.fnil Rf.inil t_limits
theorem F_lowered (D:Defs K mg):FnD P w K mg base 2 "lowered" 3 m_lowered:=Rf.fnT (j:=1) D.c_lowered fs_lowered D.b (Rf.fcons ((F_replaced D).mono (by decide)) Rf.fnil) Rf.inil t_lowered
theorem F_refused (D:Defs K mg):FnD P w K mg base 7 "refused" 2 m_refused:=Rf.fnT (j:=6) D.c_refused fs_refused D.b (Rf.fcons ((F_chosen_by_all D).mono (by decide)) Rf.fnil) Rf.inil t_refused
theorem F_steps (D:Defs K mg):FnD P w K mg base 8 "steps" 1 m_steps:=Rf.fnT (j:=7) D.c_steps fs_steps D.b (Rf.fcons ((F_limits D).mono (by decide)) (Rf.fcons ((F_refused D).mono (by decide)) (Rf.fcons ((F_lowered D).mono (by decide)) Rf.fnil))) Rf.inil t_steps
theorem F_capped (D:Defs K mg):FnD P w K mg base 3 "capped" 2 m_capped:=Rf.fnT (j:=2) D.c_capped fs_capped D.b (Rf.fcons ((F_limits D).mono (by decide)) (Rf.fcons ((F_lowered D).mono (by decide)) Rf.fnil)) Rf.inil t_capped
theorem F_givers_best (D:Defs K mg):FnD P w K mg base 9 "givers_best" 1 m_givers_best:=Rf.fnT (j:=8) D.c_givers_best fs_givers_best D.b (Rf.fcons ((F_check_world D).mono (by decide)) (Rf.fcons ((F_chosen_by_all D).mono (by decide)) (Rf.fcons ((F_capped D).mono (by decide)) (Rf.fcons ((F_steps D).mono (by decide)) Rf.fnil)))) Rf.inil t_givers_best
theorem F__law_cell (D:Defs K mg):FnD P w K mg base 1 "_law_cell" 2 m__law_cell:=Rf.fnT (j:=0) D.c__law_cell fs__law_cell D.b Rf.fnil Rf.inil t__law_cell
theorem F__law_drawn (D:Defs K mg):FnD P w K mg base 2 "_law_drawn" 3 m__law_drawn:=Rf.fnT (j:=1) D.c__law_drawn fs__law_drawn D.b (Rf.fcons ((F__law_cell D).mono (by decide)) Rf.fnil) Rf.inil t__law_drawn
theorem F__law_orders (D:Defs K mg):FnD P w K mg base 3 "_law_orders" 3 m__law_orders:=Rf.fnT (j:=2) D.c__law_orders fs__law_orders D.b (Rf.fcons ((F__law_drawn D).mono (by decide)) Rf.fnil) Rf.inil t__law_orders
theorem F__law_world (D:Defs K mg):FnD P w K mg base 4 "_law_world" 3 m__law_world:=Rf.fnT (j:=3) D.c__law_world fs__law_world D.b (Rf.fcons ((F__law_orders D).mono (by decide)) (Rf.fcons ((F__law_drawn D).mono (by decide)) Rf.fnil)) Rf.inil t__law_world
theorem F__law_choice (D:Defs K mg):FnD P w K mg base 1 "_law_choice" 4 m__law_choice:=Rf.fnT (j:=0) D.c__law_choice fs__law_choice D.b Rf.fnil Rf.inil t__law_choice
theorem F__law_ends (D:Defs K mg):FnD P w K mg base 2 "_law_ends" 3 m__law_ends:=Rf.fnT (j:=1) D.c__law_ends fs__law_ends D.b (Rf.fcons ((F__law_choice D).mono (by decide)) Rf.fnil) Rf.inil t__law_ends
theorem F__law_refused_first (D:Defs K mg):FnD P w K mg base 3 "_law_refused_first" 2 m__law_refused_first:=Rf.fnT (j:=2) D.c__law_refused_first fs__law_refused_first D.b (Rf.fcons ((F__law_ends D).mono (by decide)) Rf.fnil) Rf.inil t__law_refused_first
end
theorem law_ok {P:Program} {w:World} {K:PySem.W.Frag} {h:Heap} {mg:Str->Option Value} {fa:Addr} (X:K.In h) (G:h.Ns mainGlobals mg) (hfa:mg "law" = some (.ref fa)) (I:Ins K):∃ fd:FuncData,(∀ (s:Shared) (v:Value),BindsTo s fd ⟨[v],[]⟩ [("_law_script",v)])/\∀ base:Heap,K.In base->base.Ns mainGlobals mg->FnOk P w K mg base CX0 10 fa fd ["_law_script"] (spD K 1 m_law_k22):=by
  have D:=I.defs X G
  obtain ⟨f,fd,hm,F,hb⟩:=D.c_law.ex
  rw [hfa] at hm; cases hm
  refine ⟨fd,fun s v=>?_,fun base _ _=>fnOkD F fs_law fun X hP hw hK hm' hb' C _ _ HF H=>by subst hP; subst hw; subst hK; subst hm'; subst hb'; exact Rf.bodyT (j:=9) C D.b (Rf.fcons ((F__law_world D).mono (by decide)) (Rf.fcons ((F__law_refused_first D).mono (by decide)) (Rf.fcons ((F_givers_best D).mono (by decide)) (Rf.fcons ((F__law_ends D).mono (by decide)) (Rf.fcons ((F__law_drawn D).mono (by decide)) (Rf.fcons ((F_both_ends D).mono (by decide)) (Rf.fcons ((F_refused D).mono (by decide)) (Rf.fcons ((F_limits D).mono (by decide)) (Rf.fcons ((F_lowered D).mono (by decide)) (Rf.fcons ((F_capped D).mono (by decide)) (Rf.fcons ((F_steps D).mono (by decide)) Rf.fnil))))))))))) Rf.inil t_law⟩
  obtain ⟨oc,od,kV,doc,pm,an,cdv,ct,osl,rfl,lk,hcd⟩:=F.ex
  exact .of_eq rfl
theorem walk {l:PySem.W.OpenLaw} {q:Program} {loose:List Str} {XP:(Str->Option Value)->Heap->Prop} {YP:World->Heap->Prop} {d:DefRec} {K:Params->PySem.W.Frag} {ts:List Addr} (hn:l.most = some 63) (hdf:d.params.defaults = []) (hname:d.name = "law")
    (hY:∀ (w:World) (h:Heap),YP w h->(K w.params).In h/\∀ P ∈ ts,h.get? P = some (PySem.W.tabObj #[])) (ht:∀ w:World,tabsChk (K w.params) ts = true) (hI:∀ w:World,Ins (K w.params)) (main:∀ ns:List Int,ns.length<=63->m_law_k22 [.list (ns.map PyData.int)] = some (.bool true)) :
    PySem.W.WalkO q loose XP YP l.row.toRowW d [] (fun f vs=>PySem.call f vs) :=
  walk_ofT (n:=63) (k:=10) (x:="_law_script") (CX:=fun _=>CX0) (sp:=fun w=>spD (K w.params) 1 m_law_k22) hn (by decide) hdf ⟨rfl,by decide,by decide⟩ hY ht (fun w mg fa h KX G hmg=>law_ok KX G (by rw [<- hname]; exact hmg) (hI w)) (fun _ _ a ns hl hT hS=>spD_script hS hT (main ns hl)) fun _ _ _ _ _ z=>z
end K22
namespace Dl
open PySem L2 PySem.Spec PyProof.Rows
noncomputable def leafD:D->Prop | .none=>True | .bool _=>True | .int _=>True | .str x=>PyData.canLay0 (.str x) = true | _=>False
noncomputable def Fit (b:Nat):Nat->D->Prop
  | 0,d=>leafD d
  | k + 1,d=>leafD d\/(∃ xs,(d = .list xs\/d = .tuple xs)/\xs.length<=b/\∀ x ∈ xs,Fit b k x)
theorem Fit.leaf {b k:Nat} {d:D} (h:leafD d):Fit b k d:=by
  cases k with
  | zero=>exact h
  | succ k=>exact .inl h
theorem Fit.tup {b k:Nat} {xs:List D} (hb:xs.length<=b) (h:∀ x ∈ xs,Fit b k x):Fit b (k + 1) (.tuple xs):=.inr ⟨xs,.inr rfl,hb,h⟩
theorem Fit.lst {b k:Nat} {xs:List D} (hb:xs.length<=b) (h:∀ x ∈ xs,Fit b k x):Fit b (k + 1) (.list xs):=.inr ⟨xs,.inl rfl,hb,h⟩
theorem Fit.of_tup {b k:Nat} {xs:List D} (h:Fit b k (.tuple xs)):∃ j,k = j + 1/\xs.length<=b/\∀ x ∈ xs,Fit b j x:=by
  cases k with
  | zero=>cases h
  | succ k =>
    rcases h with h | ⟨ys,h | h,h1,h2⟩
    · cases h
    · cases h
    · cases h; exact ⟨k,rfl,h1,h2⟩
theorem Fit.mono {b b':Nat} (hb:b<=b'):∀ {k k':Nat} {d:D},k<=k'->Fit b k d->Fit b' k' d
  | 0,k',d,_,h=>.leaf h
  | k + 1,0,d,hk,h=>by omega
  | k + 1,k' + 1,d,hk,h=>by
    rcases h with h | ⟨xs,h,h1,h2⟩
    · exact .inl h
    · exact .inr ⟨xs,h,Nat.le_trans h1 hb,fun x hx=>(h2 x hx).mono hb (by omega)⟩
theorem fit_all {b k:Nat}:∀ {xs:List D},(∀ x ∈ xs,PyData.canLay0 x = true/\x.depth<=k)->PyData.canLayAll0 xs = true/\PyData.depthAll xs<=k
  | [],_=>⟨by simp [PyData.canLayAll0],by simp [PyData.depthAll]⟩
  | x :: xs,h=>by
    obtain ⟨a,c⟩:=fit_all (b:=b) (xs:=xs) fun y hy=>h y (List.mem_cons_of_mem _ hy)
    obtain ⟨a',c'⟩:=h x List.mem_cons_self
    exact ⟨by simp [PyData.canLayAll0,a,a'],by simp [PyData.depthAll]; omega⟩
theorem Fit.lay {b:Nat}:∀ {k:Nat} {d:D},Fit b k d->PyData.canLay0 d = true/\d.depth<=k:=by
  have lf:∀ {k:Nat} {d:D},leafD d->PyData.canLay0 d = true/\d.depth<=k:=fun {k d} h=>by
    cases d <;> simp only [leafD] at h <;> first | exact ⟨h,by simp [PyData.depth]⟩ | exact ⟨by simp [PyData.canLay0],by simp [PyData.depth]⟩
  intro k
  induction k with
  | zero=>exact fun h=>lf h
  | succ k ih =>
    intro d h
    rcases h with h | ⟨xs,h,h1,h2⟩
    · exact lf h
    · obtain ⟨a,c⟩:=fit_all (b:=b) (xs:=xs) fun y hy=>ih (h2 y hy)
      rcases h with rfl | rfl
      · exact ⟨by simp [PyData.canLay0,a],by simp [PyData.depth]; omega⟩
      · exact ⟨by simp [PyData.canLay0,a],by simp [PyData.depth]; omega⟩
theorem Fit.shaped {b k:Nat} {d:D} (h:Fit b k d) (hk:k<=64):SeqAt.shaped d = true:=by
  obtain ⟨a,c⟩:=h.lay
  simp [SeqAt.shaped,a]; omega
theorem Fit.noDict {b k:Nat} {d:D} (h:Fit b k d):∀ kv,d ≠ .dict kv:=by
  rintro kv rfl
  have:=h.lay.1
  simp [PyData.canLay0] at this
noncomputable def noDic:D->Bool | .dict _=>false | _=>true
theorem Fit.nd {b k:Nat} {d:D} (h:Fit b k d):noDic d = true:=by
  cases d <;> first | rfl | exact absurd rfl (h.noDict _)
noncomputable def isI:D->Bool | .int _=>true | .bool _=>true | _=>false
noncomputable def isB:D->Bool | .bool _=>true | _=>false
noncomputable def isT:D->Bool | .tuple _=>true | _=>false
theorem kI {d:D} (h:noDic d = true):kit0 (tyName d) "int" = some (isI d):=by cases d <;> first | cases h; done | exact kit_int _ (by simp [tyName])
theorem kB {d:D} (h:noDic d = true):kit0 (tyName d) "bool" = some (isB d):=by cases d <;> first | cases h; done | exact kit_bool _ (by simp [tyName])
theorem kT {d:D} (h:noDic d = true):kit0 (tyName d) "tuple" = some (isT d):=by cases d <;> first | cases h; done | exact kit_tuple _ (by simp [tyName])
noncomputable def whole (a b:Int):D->Bool | .int i=>decide (a<=i) && decide (i<=b) | _=>false
theorem compL_map {tgt:Env->D->Option Env} {te:Env->Option D} {ρ:Env} {h:D->D}:∀ {ds:List D},(∀ d ∈ ds,∃ ρ',tgt ρ d = some ρ'/\te ρ' = some (h d))->compL tgt (fun _=>some true) te ρ ds = some (ds.map h)
  | [],_=>rfl
  | d :: ds,hh=>by
    obtain ⟨ρ',h1,h2⟩:=hh d List.mem_cons_self
    have ih:=compL_map (ds:=ds) fun y hy=>hh y (List.mem_cons_of_mem _ hy)
    unfold compL
    rw [h1]
    simp [h2,ih]
theorem compL_filter {tgt:Env->D->Option Env} {tt:Env->Option Bool} {te:Env->Option D} {ρ:Env} {p:D->Bool} {h:D->D}:∀ {ds:List D},(∀ d ∈ ds,∃ ρ',tgt ρ d = some ρ'/\tt ρ' = some (p d)/\(p d = true->te ρ' = some (h d)))->compL tgt tt te ρ ds = some ((ds.filter p).map h)
  | [],_=>rfl
  | d :: ds,hh=>by
    obtain ⟨ρ',h1,h2,h3⟩:=hh d List.mem_cons_self
    have ih:=compL_filter (ds:=ds) fun y hy=>hh y (List.mem_cons_of_mem _ hy)
    unfold compL
    rw [h1]
    simp only [Option.bind_some,h2]
    cases hp:p d with
    | true=>rw [if_pos rfl,h3 hp]; simp [ih,List.filter_cons,hp]
    | false=>simp [ih,List.filter_cons,hp]
theorem boolsOf_map {p:D->Bool}:∀ ds:List D,boolsOf (ds.map fun d=>.bool (p d)) = some (ds.map p)
  | []=>rfl
  | d :: ds=>by simp [boolsOf,boolsOf_map ds]
theorem gAll_map {p:D->Bool} (ds:List D):gAll [.list (ds.map fun d=>.bool (p d))] = some (.bool (ds.all p)):=by
  simp only [gAll,oneOf,Option.bind_some,boolsOf_map,Option.map_some,List.all_map]
  rfl
theorem small_of {ds:List D} (h:ds.length<=4000):small ds = some ds:=if_pos (Nat.le_trans h (by decide))
theorem atI_nat' {ds:List D} {i:Nat} (h:i < ds.length):atI ds (i:Nat) = some (ds.getD i .none):=by
  have:=atI_nat (xs:=ds) (j:=i) (v:=ds[i]) (List.getElem?_eq_some_iff.mpr ⟨h,rfl⟩)
  rw [this]
  simp [List.getD,h]
theorem atI_0 {ds:List D} (h:0 < ds.length):atI ds 0 = some (ds.getD 0 .none):=atI_nat' (i:=0) h
theorem atI_1 {ds:List D} (h:1 < ds.length):atI ds 1 = some (ds.getD 1 .none):=atI_nat' (i:=1) h
theorem atI_2 {ds:List D} (h:2 < ds.length):atI ds 2 = some (ds.getD 2 .none):=atI_nat' (i:=2) h
end Dl
namespace Wm
open PySem L2 Dl PySem.Spec PyProof.Rows Pg
theorem chain_le {fa fb fc:Dl.Env->Option D} {ρ:Dl.Env} {a i b:Int} (ha:fa ρ = some (.int a)) (hb:fb ρ = some (.int i)) (hc:fc ρ = some (.int b)):fChain gLe gLe fa fb fc ρ = some (.bool (decide (a<=i) && decide (i<=b))):=by
  simp only [fChain,ha,hb,hc,Option.bind_some,gLe,g2I,if_true]
  by_cases h:a<=i <;> simp [h]
theorem gSub_int (i j:Int):Dl.gSub (.int i) (.int j) = some (.int (i - j)):=rfl
theorem gAdd_int (i j:Int):Dl.gAdd (.int i) (.int j) = some (.int (i + j)):=rfl
theorem all_val (d:D):Slot.all (.val d) = some d:=rfl
theorem all_own (ds:List D):Slot.all (.own ds) = some (.list ds):=rfl
theorem all_non:Slot.all .non = none:=rfl
theorem frz_val (d:D):Slot.frz (.val d) = some d:=rfl
theorem frz_own (ds:List D):Slot.frz (.own ds) = none:=rfl
theorem frz_non:Slot.frz .non = none:=rfl
local macro_rules | `(tactic| simp! [$ts,*])=>`(tactic| simp only [runB,gSeq,gIf,gRet,gNx,fOrT,fAndT,fNotT,fB,gB,fIs,fVar,fC,fAnd,fOr,fNot,gNot,f1,f2,gSub_int,gAdd_int,fCons,fNil,fCall,fCB,fCBF,gLen,gItems,oneOf,seqOf,vAll,all_val,all_own,all_non,frz_val,frz_own,frz_non,fSeq,fLs,gTuple,fTup,fLst,gIx,  List.map_cons,List.map_nil,List.cons_append,List.nil_append,List.length_cons,List.length_nil,List.replicate,List.getElem?_cons_zero,List.getElem?_cons_succ,Option.getD_some,Option.getD_none,Option.bind_some,Option.bind_none,Option.map_some,Option.map_none,Nat.reduceAdd,Nat.reduceSub,Nat.zero_add,Nat.sub_self,if_true,reduceIte,$ts,*])
theorem e_is_whole {d:D} (h:noDic d = true) (a b:Int):m_is_whole [d,.int a,.int b] = some (.bool (whole a b d)):=by
  simp! [m_is_whole,g_is_whole,kI h,kB h]
  cases d <;> simp [isI,isB,whole]
  rw [chain_le rfl rfl rfl]
theorem e_is_number {d:D} (h:noDic d = true) (n:Int):m_is_number [d,.int n] = some (.bool (whole 0 (n - 1) d)):=by
  simp! [m_is_number,g_is_number,e_is_whole h]
noncomputable def long (a b:Int):D->Bool | .tuple ds=>decide (a<=(ds.length:Int)) && decide ((ds.length:Int)<=b) | _=>false
theorem e_is_long {d:D} (h:noDic d = true) (a b:Int):m_is_long [d,.int a,.int b] = some (.bool (long a b d)):=by
  simp! [m_is_long,g_is_long,kT h]
  cases d <;> simp [isT,long]
  rw [chain_le rfl (i:=_) rfl rfl]
noncomputable def toI:D->Int | .int i=>i | _=>0
theorem whole_int {a b:Int} {d:D} (h:whole a b d = true):d = .int (toI d)/\a<=toI d/\toI d<=b:=by
  cases d <;> simp [whole] at h
  exact ⟨rfl,h⟩
theorem whole_ints {a b:Int}:∀ {ls:List D},ls.all (whole a b) = true->ls = (ls.map toI).map PyData.int
  | [],_=>rfl
  | d :: ls,h=>by
    rw [List.all_cons,Bool.and_eq_true] at h
    rw [List.map_cons,List.map_cons,<- (whole_int h.1).1,<- whole_ints h.2]
noncomputable def likesOk (n:Int):D->Bool | .tuple ls=>ls.all (whole 0 (n - 1)) && decide ((ls.map toI).Nodup) | _=>false
theorem gEqD_int (i j:Int):gEqD (.int i) (.int j) = some (.bool (decide (i = j))):=by
  simp [gEqD,gEq,SeqAt.shaped,PyData.canLay0,PyData.depth,PyData.eqv]
  rfl
theorem lenset_eq {ls:List D} {a b:Int} (h:ls.all (whole a b) = true) (hl:ls.length<=100):f2 gEqD (f1 gLenSet (fun _=>some (.tuple ls))) (fCB gLen (fCons (fun _=>some (.tuple ls)) fNil)) [] = some (.bool (decide ((ls.map toI).Nodup))):=by
  have e:=whole_ints h
  have e1:gLenSet (.tuple ls) = some (.int (many (ls.map toI))):=by
    simp only [gLenSet,tupInts]
    conv=>lhs; rw [e]
    rw [intsOf_map,Option.bind_some,if_pos]
    rw [List.length_map]
    exact Nat.lt_of_le_of_lt (Nat.add_le_add_right hl 1) (by decide)
  simp! [e1,gEqD_int]
  have:=many_nodup (ls.map toI)
  rw [List.length_map] at this
  simp only [<- this,Int.ofNat_inj,Option.some.injEq,PyData.bool.injEq]
theorem fG_0 (r:Dl.Env) (d:D):fG 0 (none :: r) d = some (some d :: r):=by simp [fG,isFree]
theorem fComp_map {cs:List Nat} {fi:Dl.Env->Option (List D)} {ds:List D} {te:Dl.Env->Option D} {h:D->D} {ρ:Dl.Env} (hfi:fi ρ = some ds) (hl:ds.length<=4000) (hh:∀ d ∈ ds,te (some d :: cs.map fun j=>(ρ[j]?).getD none) = some (h d)):fComp 1 cs fi (fG 0) (fun _=>some true) te ρ = some (ds.map h):=by
  simp only [fComp,hfi,Option.bind_some,capsD,List.replicate,List.cons_append,List.nil_append]
  rw [compL_map (h:=h) fun d hd=>⟨_,fG_0 _ d,hh d hd⟩,Option.bind_some,small_of (by rw [List.length_map]; exact hl)]
theorem fComp_filter {cs:List Nat} {fi:Dl.Env->Option (List D)} {ds:List D} {tt:Dl.Env->Option Bool} {te:Dl.Env->Option D} {p:D->Bool} {h:D->D} {ρ:Dl.Env} (hfi:fi ρ = some ds) (hl:ds.length<=4000)
    (hp:∀ d ∈ ds,tt (some d :: cs.map fun j=>(ρ[j]?).getD none) = some (p d)) (hh:∀ d ∈ ds,p d = true->te (some d :: cs.map fun j=>(ρ[j]?).getD none) = some (h d)):fComp 1 cs fi (fG 0) tt te ρ = some ((ds.filter p).map h):=by
  simp only [fComp,hfi,Option.bind_some,capsD,List.replicate,List.cons_append,List.nil_append]
  rw [compL_filter (p:=p) (h:=h) fun d hd=>⟨_,fG_0 _ d,hp d hd,hh d hd⟩,Option.bind_some,small_of (by rw [List.length_map]; exact Nat.le_trans (List.length_filter_le _ _) hl)]
theorem e_are_likes {b k:Nat} {d:D} (h:Fit b k d) (hb:b<=100) (n:Int):m_are_likes [d,.int n] = some (.bool (likesOk n d)):=by
  simp! [m_are_likes,g_are_likes,kT h.nd]
  cases d <;> try (simp [isT,likesOk]; done)
  rename_i ls
  obtain ⟨j,rfl,hl,hf⟩:=h.of_tup
  have c:=fComp_map (cs:=[1]) (fi:=fSeq (fVar 0)) (te:=(fCall 2 m_is_number (fCons (fVar 0) (fCons (fVar 1) fNil)))) (h:=fun x=>.bool (whole 0 (n - 1) x)) (ρ:=[some (.tuple ls),some (.int n)]) rfl (by omega) fun x hx=>by simp! [e_is_number (hf x hx).nd]
  simp! [isT,Bool.not_true,Bool.false_eq_true,c,gAll_map]
  cases e:ls.all (whole 0 (n - 1)) with
  | false=>simp [likesOk,e]
  | true =>
    have:=lenset_eq e (Nat.le_trans hl hb)
    simp only [f2,f1,fCB,fCons,fNil,Option.bind_some,Option.map_some] at this
    simp! [likesOk,e,Bool.not_true,Bool.false_eq_true,Bool.true_and]
    simp only [gLen,gItems,oneOf,Option.bind_some,seqOf,Option.map_some] at this
    simp! [this]
noncomputable def placeOk (n:Int):D->Bool | .tuple ds=>decide (ds.length = 2) && (whole 0 9 (ds.getD 0 .none) && likesOk n (ds.getD 1 .none)) | _=>false
noncomputable def wayOk (g t:Int):D->Bool | .tuple ds=>decide (ds.length = 3) && (whole 0 (g - 1) (ds.getD 0 .none) && (whole 0 (t - 1) (ds.getD 1 .none) && whole 1 9 (ds.getD 2 .none))) | _=>false
theorem long_n (n:Nat) (ds:List D):long (n:Int) (n:Int) (.tuple ds) = decide (ds.length = n):=by
  simp only [long]
  by_cases h:ds.length = n
  · simp [h]
  · rw [decide_eq_false h,Bool.and_eq_false_iff,decide_eq_false_iff_not,decide_eq_false_iff_not]; omega
theorem getD_mem {ds:List D} {i:Nat} (h:i < ds.length):ds.getD i .none ∈ ds:=by simp [List.getD,h]
theorem e_is_end {b k:Nat} {d:D} (h:Fit b k d) (hb:b<=100) (n:Int):m_is_end [d,.int n] = some (.bool (placeOk n d)):=by
  simp! [m_is_end,g_is_end,e_is_long h.nd]
  cases d <;> try (simp [long,placeOk]; done)
  rename_i ds
  obtain ⟨j,rfl,hl,hf⟩:=h.of_tup
  rw [show long 2 2 (.tuple ds) = decide (ds.length = 2) from long_n 2 ds]
  by_cases e:ds.length = 2
  · have f0:=hf _ (getD_mem (i:=0) (by omega))
    have f1:=hf _ (getD_mem (i:=1) (by omega))
    simp! [e,decide_true,atI_0 (show 0 < ds.length by omega),atI_1 (show 1 < ds.length by omega),e_is_whole f0.nd,e_are_likes f1 hb,placeOk]
    cases whole 0 9 (ds.getD 0 .none) <;> simp
  · simp [e,placeOk]
theorem e_is_way {b k:Nat} {d:D} (h:Fit b k d) (hb:b<=100) (g t:Int):m_is_way [d,.int g,.int t] = some (.bool (wayOk g t d)):=by
  simp! [m_is_way,g_is_way,e_is_long h.nd]
  cases d <;> try (simp [long,wayOk]; done)
  rename_i ds
  obtain ⟨j,rfl,hl,hf⟩:=h.of_tup
  rw [show long 3 3 (.tuple ds) = decide (ds.length = 3) from long_n 3 ds]
  by_cases e:ds.length = 3
  · have f0:=hf _ (getD_mem (i:=0) (by omega))
    have f1:=hf _ (getD_mem (i:=1) (by omega))
    have f2':=hf _ (getD_mem (i:=2) (by omega))
    simp! [e,decide_true,Bool.not_true,Bool.false_eq_true,atI_0 (show 0 < ds.length by omega),atI_1 (show 1 < ds.length by omega),atI_2 (show 2 < ds.length by omega),e_is_whole f2'.nd,e_is_number f0.nd,e_is_number f1.nd,wayOk]
    cases whole 0 (g - 1) (ds.getD 0 .none) <;> cases whole 0 (t - 1) (ds.getD 1 .none) <;> simp
  · simp [e,wayOk]
noncomputable def seqD:D->List D | .tuple ds=>ds | _=>[]
noncomputable def sideOk (d:D):Bool:=long 1 4 d
noncomputable def partsOk (g t w:D):Bool:=sideOk g && (sideOk t && ((seqD g).all (placeOk (seqD t).length) && ((seqD t).all (placeOk (seqD g).length) && (isT w && (seqD w).all (wayOk (seqD g).length (seqD t).length)))))
theorem long_tup {a b:Int} {d:D} (h:long a b d = true):d = .tuple (seqD d):=by cases d <;> first | rfl | cases h
theorem e_are_parts {b k:Nat} {g t w:D} (hg:Fit b k g) (ht:Fit b k t) (hw:Fit b k w) (hb:b<=100):m_are_parts [g,t,w] = some (.bool (partsOk g t w)):=by
  simp! [m_are_parts,g_are_parts,e_is_long hg.nd,e_is_long ht.nd,kT hw.nd]
  unfold partsOk sideOk
  cases e1:long 1 4 g with
  | false=>simp
  | true =>
    cases e2:long 1 4 t with
    | false=>simp
    | true =>
      obtain ⟨gs,rfl⟩:∃ gs,g = .tuple gs:=⟨_,long_tup e1⟩
      obtain ⟨ts,rfl⟩:∃ ts,t = .tuple ts:=⟨_,long_tup e2⟩
      obtain ⟨j,rfl,hgl,hgf⟩:=hg.of_tup
      obtain ⟨j',hj,htl,htf⟩:=ht.of_tup
      have c1:=fComp_map (cs:=[1]) (fi:=fSeq (fVar 0)) (te:=(fCall 2 m_is_end (fCons (fVar 0) (fCons (fCB gLen (fCons (fVar 1) fNil)) fNil)))) (h:=fun x=>.bool (placeOk ts.length x)) (ρ:=[some (.tuple gs),some (.tuple ts),some w]) rfl (by omega) fun x hx=>by simp! [e_is_end (hgf x hx) hb]
      have c2:=fComp_map (cs:=[0]) (fi:=fSeq (fVar 1)) (te:=(fCall 2 m_is_end (fCons (fVar 0) (fCons (fCB gLen (fCons (fVar 1) fNil)) fNil)))) (h:=fun x=>.bool (placeOk gs.length x)) (ρ:=[some (.tuple gs),some (.tuple ts),some w]) rfl (by omega) fun x hx=>by simp! [e_is_end (htf x hx) hb]
      simp! [Bool.not_true,Bool.false_eq_true,c1,gAll_map,seqD,Bool.true_and]
      cases e3:gs.all (placeOk ts.length) with
      | false=>simp
      | true =>
        simp! [Bool.not_true,Bool.false_eq_true,c2,gAll_map,Bool.true_and]
        cases e4:ts.all (placeOk gs.length) with
        | false=>simp
        | true =>
          cases hT:isT w with
          | false=>simp! [Bool.not_true,Bool.false_eq_true,kT hw.nd,hT,Bool.false_and,Bool.and_false]
          | true =>
          obtain ⟨ws,rfl⟩:∃ ws,w = .tuple ws:=by cases w <;> first | exact ⟨_,rfl⟩ | cases hT
          obtain ⟨j2,hj2,hwl,hwf⟩:=hw.of_tup
          have c3:=fComp_map (cs:=[0,1]) (fi:=fSeq (fVar 2)) (te:=(fCall 3 m_is_way (fCons (fVar 0) (fCons (fCB gLen (fCons (fVar 1) fNil)) (fCons (fCB gLen (fCons (fVar 2) fNil)) fNil))))) (h:=fun x=>.bool (wayOk gs.length ts.length x)) (ρ:=[some (.tuple gs),some (.tuple ts),some (.tuple ws)]) rfl (by omega) fun x hx=>by simp! [e_is_way (hwf x hx) hb]
          simp! [Bool.not_true,Bool.false_eq_true,c3,gAll_map,Bool.true_and,kT hw.nd,isT]
theorem eqv_ints:∀ (a b:List Int),PyData.eqvAll (a.map PyData.int) (b.map PyData.int) = decide (a = b)
  | [],[]=>by simp [PyData.eqvAll]
  | [],_ :: _=>by simp [PyData.eqvAll]
  | _ :: _,[]=>by simp [PyData.eqvAll]
  | i :: a,j :: b=>by
    rw [List.map_cons,List.map_cons,PyData.eqvAll,eqv_ints a b]
    by_cases h:i = j
    · subst h; simp [PyData.eqv]
    · simp [PyData.eqv,h]
theorem eqv_rows:∀ (a b:List (List Int)),PyData.eqvAll (a.map rowD) (b.map rowD) = decide (a = b)
  | [],[]=>by simp [PyData.eqvAll]
  | [],_ :: _=>by simp [PyData.eqvAll]
  | _ :: _,[]=>by simp [PyData.eqvAll]
  | x :: a,y :: b=>by
    rw [List.map_cons,List.map_cons,PyData.eqvAll,eqv_rows a b,rowD,rowD,PyData.eqv,eqv_ints]
    by_cases h:x = y
    · subst h; simp
    · simp [h]
theorem fit_int {b k:Nat} (i:Int):Fit b k (.int i):=.leaf trivial
theorem fit_row {b k:Nat} {r:List Int} (h:r.length<=b):Fit b (k + 1) (rowD r):=.tup (by rw [List.length_map]; exact h) fun x hx=>by
  obtain ⟨i,_,rfl⟩:=List.mem_map.mp hx
  exact fit_int i
theorem fit_rows {b k:Nat} {a:List (List Int)} (h:a.length<=b) (hr:∀ r ∈ a,r.length<=b):Fit b (k + 2) (.list (a.map rowD)):=.lst (by rw [List.length_map]; exact h) fun x hx=>by
  obtain ⟨r,hr',rfl⟩:=List.mem_map.mp hx
  exact fit_row (hr r hr')
theorem exists_bd (a:List (List Int)):∃ b,a.length<=b/\∀ r ∈ a,r.length<=b:=by
  induction a with
  | nil=>exact ⟨0,Nat.le_refl _,fun r h=>by cases h⟩
  | cons x a ih =>
    obtain ⟨b,h1,h2⟩:=ih
    refine ⟨b + 1 + x.length,by rw [List.length_cons]; omega,fun r hr=>?_⟩
    rcases List.mem_cons.mp hr with rfl | hr
    · omega
    · have:=h2 r hr; omega
theorem shaped_rows (a:List (List Int)):SeqAt.shaped (.list (a.map rowD)) = true:=by
  obtain ⟨b,h1,h2⟩:=exists_bd a
  exact (fit_rows (b:=b) (k:=0) h1 h2).shaped (by decide)
theorem gEqD_rows (a b:List (List Int)):gEqD (.list (a.map rowD)) (.list (b.map rowD)) = some (.bool (decide (a = b))):=by
  simp only [gEqD,gEq,shaped_rows,and_self,if_true,PyData.eqv,eqv_rows,Option.map_some]
noncomputable def likeD (d:D):List Int:=(seqD ((seqD d).getD 1 .none)).map toI
theorem placeOk_like {n:Int} {d:D} (h:placeOk n d = true):∃ a ds,d = .tuple ds/\ds.length = 2/\ds.getD 0 .none = .int a/\0<=a/\a<=9/\ds.getD 1 .none = .tuple ((likeD d).map PyData.int)/\(likeD d).Nodup/\∀ j ∈ likeD d,0<=j/\j<=n - 1:=by
  cases d <;> simp only [placeOk] at h <;> try cases h
  rename_i ds
  simp only [Bool.and_eq_true,decide_eq_true_eq] at h
  obtain ⟨h1,h2,h3⟩:=h
  have e:likeD (.tuple ds) = (seqD (ds.getD 1 .none)).map toI:=rfl
  rw [e]
  generalize hl:ds.getD 1 .none = l at h3
  cases l <;> simp only [likesOk] at h3 <;> try cases h3
  rename_i ls
  simp only [Bool.and_eq_true,decide_eq_true_eq] at h3
  obtain ⟨w1,w2,w3⟩:=whole_int h2
  refine ⟨_,ds,rfl,h1,w1,w2,w3,?_,h3.2,fun j hj=>?_⟩
  · rw [show seqD (.tuple ls) = ls from rfl,<- whole_ints h3.1]; exact hl
  · obtain ⟨x,hx,rfl⟩:=List.mem_map.mp hj
    exact (whole_int (List.all_eq_true.mp h3.1 x hx)).2
noncomputable def prs (k:Nat):List D->List (List Int) | []=>[] | p :: ps=>(likeD p).map (fun j=>[((k:Nat):Int),j]) ++ prs (k + 1) ps
theorem nodup_bd:∀ (n:Nat) {l:List Int},l.Nodup->(∀ j ∈ l,0<=j/\j<=(n:Int) - 1)->l.length<=n:=by
  intro n l hn h
  have hs:l.map Int.toNat ⊆ List.range n:=fun x hx=>by
    obtain ⟨j,hj,rfl⟩:=List.mem_map.mp hx
    have:=h j hj
    exact List.mem_range.mpr (by omega)
  have hnd:(l.map Int.toNat).Nodup:=by
    refine List.pairwise_map.mpr (hn.imp_of_mem fun {x y} hx hy hne e=>hne ?_)
    have:=h x hx; have:=h y hy; omega
  have:=List.Nodup.length_le_of_subset hnd hs
  simpa using this
theorem prs_len {n:Nat}:∀ {ps:List D} {k:Nat},(∀ p ∈ ps,placeOk n p = true)->(prs k ps).length<=ps.length * n
  | [],k,_=>Nat.zero_le _
  | p :: ps,k,h=>by
    obtain ⟨_,_,_,_,_,_,_,_,hn,hr⟩:=placeOk_like (h p List.mem_cons_self)
    have h1:=nodup_bd n hn hr
    have h2:=prs_len (ps:=ps) (k:=k + 1) fun q hq=>h q (List.mem_cons_of_mem _ hq)
    rw [prs,List.length_append,List.length_map,List.length_cons,Nat.succ_mul]
    omega
noncomputable def pB:SEnv->Option Out:=gExt 1 [2,3] (fComp 1 [2] (fSeq (f2 gIx (fVar 3) (fC (.int 1)))) (fG 0) (fun _=>some true) (fTup (fCons (fVar 1) (fCons (fVar 0) fNil))))
theorem pB_run {n:Nat} {p x:D} {acc:List D} {k:Nat} (hp:placeOk n p = true) (hn:n<=100) (ha:acc.length<=1000):pB [.val x,.own acc,.val (.int (k:Nat)),.val p] = some (.nx [.val x,.own (acc ++ ((likeD p).map fun j=>rowD [((k:Nat):Int),j])),.val (.int (k:Nat)),.val p]):=by
  obtain ⟨a,ds,rfl,hl,_,_,_,h1,hnd,hr⟩:=placeOk_like hp
  have hb:=nodup_bd n hnd hr
  generalize likeD (.tuple ds) = ls at *
  have c:=fComp_map (cs:=[2]) (fi:=fSeq (f2 gIx (fVar 3) (fC (.int 1)))) (te:=fTup (fCons (fVar 1) (fCons (fVar 0) fNil))) (h:=fun y=>.tuple [.int (k:Nat),y]) (ρ:=[some x,none,some (.int (k:Nat)),some (.tuple ds)]) (ds:=ls.map PyData.int)
    (by simp! [atI_1 (show 1 < ds.length by omega),h1]) (by rw [List.length_map]; omega) fun y hy=>by
      simp! [small_of (show [PyData.int (k:Nat),y].length<=4000 by simp)]
  have hh:hand [2,3] 0 [Slot.val x,.own acc,.val (.int (k:Nat)),.val (.tuple ds)] = [Slot.val x,.own acc,.val (.int (k:Nat)),.val (.tuple ds)]:=rfl
  simp only [pB,gExt,hh,vFrz,List.map_cons,List.map_nil,Slot.frz,c,Option.bind_some,gMut,List.getElem?_cons_succ,List.getElem?_cons_zero]
  rw [if_pos]
  · simp only [Option.map_some,List.set_cons_succ,List.set_cons_zero,List.map_map]
    rfl
  · simp only [List.length_map]
    exact Nat.le_trans (show acc.length + ls.length<=1100 by omega) (by decide)
theorem for_pairs {n:Nat} {x:D} (hn:n<=100):∀ {ps:List D} {k:Nat} {acc:List D} {s2 s3:Slot},(∀ p ∈ ps,placeOk n p = true)->acc.length + ps.length * n<=1000 ->
    ∃ t2 t3,forD (fSG2 2 3) pB (enumD k ps) [.val x,.own acc,s2,s3] = some (.nx [.val x,.own (acc ++ (prs k ps).map rowD),t2,t3])
  | [],k,acc,s2,s3,_,_=>⟨s2,s3,by simp [enumD,forD,prs]⟩
  | p :: ps,k,acc,s2,s3,h,hl=>by
    have hp:=h p List.mem_cons_self
    obtain ⟨_,_,_,_,_,_,_,_,hnd,hr⟩:=placeOk_like hp
    have hb:=nodup_bd n hnd hr
    rw [List.length_cons,Nat.succ_mul] at hl
    obtain ⟨t2,t3,e⟩:=for_pairs hn (x:=x) (ps:=ps) (k:=k + 1) (acc:=acc ++ ((likeD p).map fun j=>rowD [((k:Nat):Int),j])) (s2:=.val (.int (k:Nat))) (s3:=.val p) (fun q hq=>h q (List.mem_cons_of_mem _ hq)) (by rw [List.length_append,List.length_map]; omega)
    refine ⟨t2,t3,?_⟩
    have hs:fSG2 2 3 [.val x,.own acc,s2,s3] (.tuple [.int (k:Nat),p]) = some [.val x,.own acc,.val (.int (k:Nat)),.val p]:=rfl
    simp only [enumD,forD,hs,Option.bind_some,pB_run hp hn (show acc.length<=1000 by omega)]
    rw [e]
    simp [prs,List.map_map,Function.comp_def]
theorem e_liked {n:Nat} {ps:List D} (h:∀ p ∈ ps,placeOk n p = true) (hn:n<=100) (hl:ps.length * n<=1000):m_liked_pairs [.tuple ps] = some (.list ((prs 0 ps).map rowD)):=by
  obtain ⟨t2,t3,e⟩:=for_pairs hn (x:=.tuple ps) (k:=0) (acc:=[]) (s2:=.non) (s3:=.non) h (by simpa using hl)
  have hs:gSetF 1 [] (fLst fNil) [Slot.val (.tuple ps),.non,.non,.non] = some (.nx [.val (.tuple ps),.own [],.non,.non]):=rfl
  have hh:hand [0] 0 [Slot.val (.tuple ps),.own [],.non,.non] = [Slot.val (.tuple ps),.own [],.non,.non]:=rfl
  have hf:fEnum (fCons (fVar 0) fNil) (vFrz [Slot.val (.tuple ps),.own [],.non,.non]) = some (enumD 0 ps):=rfl
  simp! [m_liked_pairs,g_liked_pairs,hs,gFor,hh,hf]
  rw [show gExt 1 [2,3] (fComp 1 [2] (fSeq (f2 gIx (fVar 3) (fC (.int 1)))) (fG 0) (fun _=>some true) (fTup (fCons (fVar 1) (fCons (fVar 0) fNil)))) = pB from rfl,e]
  simp! []
noncomputable def wpair (d:D):List Int:=[toI ((seqD d).getD 0 .none),toI ((seqD d).getD 1 .none)]
theorem wayOk_pair {g t:Int} {d:D} (h:wayOk g t d = true):∃ ds c,d = .tuple ds/\ds.length = 3/\ds.getD 0 .none = .int (toI (ds.getD 0 .none))/\ds.getD 1 .none = .int (toI (ds.getD 1 .none))/\ds.getD 2 .none = .int c/\1<=c/\c<=9 /\
    0<=toI (ds.getD 0 .none)/\toI (ds.getD 0 .none)<=g - 1/\0<=toI (ds.getD 1 .none)/\toI (ds.getD 1 .none)<=t - 1:=by
  cases d <;> simp only [wayOk] at h <;> try cases h
  rename_i ds
  simp only [Bool.and_eq_true,decide_eq_true_eq] at h
  obtain ⟨h1,h2,h3,h4⟩:=h
  have a:=whole_int h2
  have b:=whole_int h3
  have c:=whole_int h4
  exact ⟨ds,_,rfl,h1,a.1,b.1,c.1,c.2.1,c.2.2,a.2.1,a.2.2,b.2.1,b.2.2⟩
noncomputable def rowsOk (g t w:D):Bool:=decide ((seqD w).map wpair = srt (prs 0 (seqD g))) && decide ((seqD w).map wpair = srt ((prs 0 (seqD t)).map List.reverse))
noncomputable def wOk (d:D):Bool:=long 3 3 d && (partsOk ((seqD d).getD 0 .none) ((seqD d).getD 1 .none) ((seqD d).getD 2 .none) && rowsOk ((seqD d).getD 0 .none) ((seqD d).getD 1 .none) ((seqD d).getD 2 .none))
theorem prs_two:∀ {ps:List D} {k:Nat},∀ r ∈ prs k ps,∃ i j,r = [i,j]
  | [],k,r,h=>by cases h
  | p :: ps,k,r,h=>by
    rcases List.mem_append.mp h with h | h
    · obtain ⟨j,_,rfl⟩:=List.mem_map.mp h; exact ⟨_,_,rfl⟩
    · exact prs_two r h
theorem gSorted_rows {a:List (List Int)} (h:∀ r ∈ a,∃ i j,r = [i,j]) (hl:a.length < 64):gSorted [.list (a.map rowD)] = some ((srt a).map rowD):=by
  have:∀ ns ∈ a,ns ≠ []:=fun ns hn=>by obtain ⟨i,j,rfl⟩:=h ns hn; exact List.cons_ne_nil _ _
  simp only [gSorted,oneOf,Option.bind_some,rowsOf_map this,if_pos hl]
theorem flip_rows:∀ {a:List (List Int)},(∀ r ∈ a,∃ i j,r = [i,j])->compL (fG2 0 1) (fun _=>some true) (fTup (fCons (fVar 1) (fCons (fVar 0) fNil))) [none,none] (a.map rowD) = some ((a.map List.reverse).map rowD)
  | [],_=>rfl
  | r :: a,h=>by
    obtain ⟨i,j,rfl⟩:=h r List.mem_cons_self
    have ih:=flip_rows (a:=a) fun q hq=>h q (List.mem_cons_of_mem _ hq)
    have e:fG2 0 1 [none,none] (rowD [i,j]) = some [some (.int i),some (.int j)]:=rfl
    rw [List.map_cons,compL,e,Option.bind_some,Option.bind_some,if_pos rfl,ih]
    simp! [small_of (show [PyData.int j,.int i].length<=4000 by simp)]
    rfl
theorem flip_comp {a:List (List Int)} {fi:Dl.Env->Option (List D)} {ρ:Dl.Env} (hfi:fi ρ = some (a.map rowD)) (hl:a.length<=4000) (h:∀ r ∈ a,∃ i j,r = [i,j]):fComp 2 [] fi (fG2 0 1) (fun _=>some true) (fTup (fCons (fVar 1) (fCons (fVar 0) fNil))) ρ = some ((a.map List.reverse).map rowD):=by
  simp only [fComp,hfi,Option.bind_some,capsD,List.replicate,List.cons_append,List.nil_append,List.map_nil]
  rw [flip_rows h,Option.bind_some,small_of (by rw [List.length_map,List.length_map]; exact hl)]
theorem partsOk_out {g t w:D} (h:partsOk g t w = true):∃ gs ts ws,g = .tuple gs/\t = .tuple ts/\w = .tuple ws/\1<=gs.length/\gs.length<=4/\1<=ts.length/\ts.length<=4/\(∀ p ∈ gs,placeOk ts.length p = true)/\(∀ p ∈ ts,placeOk gs.length p = true)/\∀ x ∈ ws,wayOk gs.length ts.length x = true:=by
  simp only [partsOk,sideOk,Bool.and_eq_true] at h
  obtain ⟨h1,h2,h3,h4,h5,h6⟩:=h
  cases w <;> try cases h5
  rename_i ws
  have e1:=long_tup h1
  have e2:=long_tup h2
  generalize seqD g = gs at *
  generalize seqD t = ts at *
  subst e1 e2
  simp only [long,Bool.and_eq_true,decide_eq_true_eq] at h1 h2
  exact ⟨gs,ts,ws,rfl,rfl,rfl,by omega,by omega,by omega,by omega,List.all_eq_true.mp h3,List.all_eq_true.mp h4,List.all_eq_true.mp h6⟩
theorem e_is_world {b k:Nat} {d:D} (h:Fit b k d) (hb:b<=100):m_is_world [d] = some (.bool (wOk d)):=by
  unfold wOk
  cases e1:long 3 3 d with
  | false=>simp! [m_is_world,g_is_world,e_is_long h.nd,e1,Bool.not_false,Bool.false_and]
  | true =>
    obtain ⟨ds,rfl⟩:∃ ds,d = .tuple ds:=⟨_,long_tup e1⟩
    obtain ⟨j,rfl,hl,hf⟩:=h.of_tup
    rw [show long 3 3 (.tuple ds) = decide (ds.length = 3) from long_n 3 ds,decide_eq_true_eq] at e1
    have f0:=hf _ (getD_mem (i:=0) (by omega))
    have f1:=hf _ (getD_mem (i:=1) (by omega))
    have f2':=hf _ (getD_mem (i:=2) (by omega))
    have i0:=atI_0 (show 0 < ds.length by omega)
    have i1:=atI_1 (show 1 < ds.length by omega)
    have i2:=atI_2 (show 2 < ds.length by omega)
    have el:m_is_long [.tuple ds,.int 3,.int 3] = some (.bool true):=by rw [e_is_long rfl,show long 3 3 (.tuple ds) = decide (ds.length = 3) from long_n 3 ds,decide_eq_true e1]
    rw [show seqD (.tuple ds) = ds from rfl,Bool.true_and]
    generalize hg:ds.getD 0 .none = g at *
    generalize ht:ds.getD 1 .none = t at *
    generalize hw:ds.getD 2 .none = w at *
    cases e2:partsOk g t w with
    | false=>simp! [m_is_world,g_is_world,el,i0,i1,i2,e_are_parts f0 f1 f2' hb,e2,Bool.not_false,Bool.not_true,Bool.false_and]
    | true =>
      obtain ⟨gs,ts,ws,rfl,rfl,rfl,g1,g4,t1,t4,hG,hT,hW⟩:=partsOk_out e2
      have hfw:=f2'.of_tup
      obtain ⟨j2,_,hwl,_⟩:=hfw
      have q1:=prs_len (k:=0) hG
      have q2:=prs_len (k:=0) hT
      have m1:gs.length * ts.length<=16:=Nat.mul_le_mul g4 t4
      have m2:ts.length * gs.length<=16:=Nat.mul_le_mul t4 g4
      have l1:=e_liked hG (by omega) (by omega)
      have l2:=e_liked hT (by omega) (by omega)
      have s1:=gSorted_rows (a:=prs 0 gs) prs_two (by omega)
      have s2:=gSorted_rows (a:=(prs 0 ts).map List.reverse) (fun r hr=>by
        obtain ⟨q,hq,rfl⟩:=List.mem_map.mp hr
        obtain ⟨i,j,rfl⟩:=prs_two q hq
        exact ⟨j,i,rfl⟩) (by rw [List.length_map]; omega)
      have c1:fComp 1 [] (fSeq (f2 gIx (fVar 0) (fC (.int 2)))) (fG 0) (fun _=>some true) (fTup (fCons (f2 gIx (fVar 0) (fC (.int 0))) (fCons (f2 gIx (fVar 0) (fC (.int 1))) fNil))) [some (.tuple ds),none,none,none] = some ((ws.map wpair).map rowD):=by
        rw [fComp_map (ds:=ws) (h:=fun x=>rowD (wpair x)) (by simp! [i2]) (by omega) fun x hx=>?_,List.map_map]
        · rfl
        · obtain ⟨vs,c,rfl,v3,v0,v1,_⟩:=wayOk_pair (hW x hx)
          simp! [atI_0 (show 0 < vs.length by omega),atI_1 (show 1 < vs.length by omega),small_of (show [vs.getD 0 PyData.none,vs.getD 1 .none].length<=4000 by simp),rowD,wpair,seqD]
          rw [<- v0,<- v1]
      have c2:∀ x y z,fComp 2 [] (fSeq (fCall 1 m_liked_pairs (fCons (f2 gIx (fVar 0) (fC (.int 1))) fNil))) (fG2 0 1) (fun _=>some true) (fTup (fCons (fVar 1) (fCons (fVar 0) fNil))) [some (.tuple ds),x,y,z] = some (((prs 0 ts).map List.reverse).map rowD):=fun x y z =>
        flip_comp (by simp! [i1,l2]) (by omega) prs_two
      have st1:gSetF 1 [0] (fComp 1 [] (fSeq (f2 gIx (fVar 0) (fC (.int 2)))) (fG 0) (fun _=>some true) (fTup (fCons (f2 gIx (fVar 0) (fC (.int 0))) (fCons (f2 gIx (fVar 0) (fC (.int 1))) fNil)))) [Slot.val (.tuple ds),.non,.non,.non] = some (.nx [.val (.tuple ds),.own ((ws.map wpair).map rowD),.non,.non]):=by
        have hh:hand [0] 0 [Slot.val (.tuple ds),.non,.non,.non] = [Slot.val (.tuple ds),.non,.non,.non]:=rfl
        simp only [gSetF,hh,vFrz,List.map_cons,List.map_nil,Slot.frz,c1,Option.map_some,List.set_cons_succ,List.set_cons_zero]
      have st2:gSetF 2 [0] (fCBF gSorted (fCons (fCall 1 m_liked_pairs (fCons (f2 gIx (fVar 0) (fC (.int 0))) fNil)) fNil)) [Slot.val (.tuple ds),.own ((ws.map wpair).map rowD),.non,.non] = some (.nx [.val (.tuple ds),.own ((ws.map wpair).map rowD),.own ((srt (prs 0 gs)).map rowD),.non]):=by
        have hh:hand [0] 0 [Slot.val (.tuple ds),.own ((ws.map wpair).map rowD),.non,.non] = [Slot.val (.tuple ds),.own ((ws.map wpair).map rowD),.non,.non]:=rfl
        simp only [gSetF,hh,vFrz,List.map_cons,List.map_nil,Slot.frz]
        simp! [i0,l1,s1,List.set_cons_succ,List.set_cons_zero]
      have st3:gSetF 3 [0] (fCBF gSorted (fCons (fLs (fComp 2 [] (fSeq (fCall 1 m_liked_pairs (fCons (f2 gIx (fVar 0) (fC (.int 1))) fNil))) (fG2 0 1) (fun _=>some true) (fTup (fCons (fVar 1) (fCons (fVar 0) fNil))))) fNil)) [Slot.val (.tuple ds),.own ((ws.map wpair).map rowD),.own ((srt (prs 0 gs)).map rowD),.non]
          = some (.nx [.val (.tuple ds),.own ((ws.map wpair).map rowD),.own ((srt (prs 0 gs)).map rowD),.own ((srt ((prs 0 ts).map List.reverse)).map rowD)]):=by
        have hh:hand [0] 0 [Slot.val (.tuple ds),.own ((ws.map wpair).map rowD),.own ((srt (prs 0 gs)).map rowD),.non] = [Slot.val (.tuple ds),.own ((ws.map wpair).map rowD),.own ((srt (prs 0 gs)).map rowD),.non]:=rfl
        simp only [gSetF,hh,vFrz,List.map_cons,List.map_nil,Slot.frz]
        simp! [c2,s2,List.set_cons_succ,List.set_cons_zero]
      simp! [m_is_world,g_is_world,el,i0,i1,i2,e_are_parts f0 f1 f2' hb,e2,Bool.not_true,Bool.false_eq_true,st1,st2,st3,gEqD_rows,rowsOk,seqD,Bool.true_and]
      by_cases hq:List.map wpair ws = srt (prs 0 gs) <;> simp [hq]
theorem eqvAll_nil (xs:List D):PyData.eqvAll xs [] = xs.isEmpty:=by cases xs <;> simp [PyData.eqvAll]
theorem shaped_nil:SeqAt.shaped (.list []) = true:=by simp [SeqAt.shaped,PyData.canLay0,PyData.canLayAll0,PyData.depth,PyData.depthAll]
theorem gEqD_nil {b k:Nat} {xs:List D} (h:∀ x ∈ xs,Fit b k x) (hk:k<=60):gEqD (.list xs) (.list []) = some (.bool xs.isEmpty):=by
  have hs:SeqAt.shaped (.list xs) = true:=(Fit.lst (b:=max b xs.length) (k:=k) (Nat.le_max_right _ _) fun x hx=>(h x hx).mono (Nat.le_max_left _ _) (Nat.le_refl _)).shaped (by omega)
  simp only [gEqD,gEq,hs,shaped_nil,and_self,if_true,PyData.eqv,eqvAll_nil,Option.map_some]
theorem small_nil:small [] = some []:=rfl
theorem cut_take {α:Type} (xs:List α) (k:Nat):cut xs none (some (k:Int)) = xs.take k:=by
  simp only [cut,HT.sIx_none,HT.sIx_nat,List.drop_zero,Nat.sub_zero]
  rw [List.take_eq_take_iff]; omega
theorem cut_drop {α:Type} (xs:List α) (k:Nat):cut xs (some (k:Int)) none = xs.drop k:=by
  simp only [cut,HT.sIx_none,HT.sIx_nat]
  rw [List.take_of_length_le (by rw [List.length_drop]; omega)]
  by_cases h:k<=xs.length
  · rw [Nat.min_eq_left h]
  · rw [Nat.min_eq_right (by omega),List.drop_of_length_le (Nat.le_refl _),List.drop_of_length_le (by omega)]
noncomputable def adj:List (List Int)->Bool | a :: b :: r=>lexLt a b && adj (b :: r) | _=>true
theorem gB_bool (b:Bool):gB (.bool b) = some b:=rfl
noncomputable def okp (P:List (List Int)) (i j:Int) (lp lq:List Int):Bool:=decide ([i,j] ∈ P) == decide (j ∈ lp) && decide ([i,j] ∈ P) == decide (i ∈ lq)
noncomputable def okq (P:List (List Int)) (i:Int) (lp:List Int):Nat->List D->Bool | _,[]=>true | k,q :: qs=>okp P i k lp (likeD q) && okq P i lp (k + 1) qs
noncomputable def okg (P:List (List Int)) (ts:List D):Nat->List D->Bool | _,[]=>true | k,p :: ps=>okq P k (likeD p) 0 ts && okg P ts (k + 1) ps
theorem small2 (a b:D):small [a,b] = some [a,b]:=rfl
noncomputable def lOk (d:D):Bool:=long 3 3 d && (partsOk ((seqD d).getD 0 .none) ((seqD d).getD 1 .none) ((seqD d).getD 2 .none) && (adj ((seqD ((seqD d).getD 2 .none)).map wpair) && okg ((seqD ((seqD d).getD 2 .none)).map wpair) (seqD ((seqD d).getD 1 .none)) 0 (seqD ((seqD d).getD 0 .none))))
theorem hand_nil:∀ (ρ:SEnv) (k:Nat),hand [] k ρ = ρ
  | [],k=>rfl
  | s :: r,k=>by simp [hand,hand_nil r]
theorem mem_prs:∀ {ps:List D} {k:Nat} {i j:Int},[i,j] ∈ prs k ps ↔ ∃ m p,ps[m]? = some p/\i = ((k + m:Nat):Int)/\j ∈ likeD p
  | [],k,i,j=>by simp [prs]
  | p :: ps,k,i,j=>by
    rw [prs,List.mem_append,mem_prs (ps:=ps)]
    constructor
    · rintro (h | ⟨m,q,h1,h2,h3⟩)
      · obtain ⟨y,hy,e⟩:=List.mem_map.mp h
        injection e with e1 e2
        injection e2 with e2 _
        exact ⟨0,p,rfl,by simpa using e1.symm,e2 ▸ hy⟩
      · exact ⟨m + 1,q,by simpa using h1,by rw [h2]; congr 1; omega,h3⟩
    · rintro ⟨m,q,h1,h2,h3⟩
      cases m with
      | zero =>
        simp at h1
        subst h1
        exact .inl (List.mem_map.mpr ⟨j,h3,by rw [h2]; rfl⟩)
      | succ m=>exact .inr ⟨m,q,by simpa using h1,by rw [h2]; congr 1; omega,h3⟩
theorem prs_nodup:∀ {ps:List D} {k:Nat},(∀ p ∈ ps,(likeD p).Nodup)->(prs k ps).Nodup
  | [],k,_=>List.nodup_nil
  | p :: ps,k,h=>by
    rw [prs,List.nodup_append]
    refine ⟨List.pairwise_map.mpr ((h p List.mem_cons_self).imp fun hne e=>hne ?_),prs_nodup fun q hq=>h q (List.mem_cons_of_mem _ hq),?_⟩
    rotate_left
    · injection e with _ e2
      injection e2
    · rintro a ha b hb rfl
      obtain ⟨y,hy,rfl⟩:=List.mem_map.mp ha
      obtain ⟨m,q,h1,h2,h3⟩:=mem_prs.mp hb
      omega
theorem adj_pair:∀ {P:List (List Int)},adj P = true->P.Pairwise fun a b=>Dl.lexLt a b = true
  | [],_=>List.Pairwise.nil
  | [a],_=>List.pairwise_singleton _ _
  | a :: b :: r,h=>by
    rw [adj,Bool.and_eq_true] at h
    have ih:=adj_pair h.2
    refine List.Pairwise.cons (fun c hc=>?_) ih
    rcases List.mem_cons.mp hc with rfl | hc
    · exact h.1
    · exact lex_trans h.1 ((List.pairwise_cons.mp ih).1 c hc)
theorem pair_adj:∀ {P:List (List Int)},(P.Pairwise fun a b=>Dl.lexLt a b = true)->adj P = true
  | [],_=>rfl
  | [a],_=>rfl
  | a :: b :: r,h=>by
    rw [List.pairwise_cons] at h
    rw [adj,Bool.and_eq_true]
    exact ⟨h.1 b List.mem_cons_self,pair_adj h.2⟩
theorem okq_iff {P:List (List Int)} {i:Int} {lp:List Int}:∀ {qs:List D} {k:Nat},okq P i lp k qs = true ↔ ∀ (l:Nat) (q:D),qs[l]? = some q->okp P i ((k + l:Nat):Int) lp (likeD q) = true
  | [],k=>by simp [okq]
  | q :: qs,k=>by
    rw [okq,Bool.and_eq_true,okq_iff (qs:=qs)]
    constructor
    · rintro ⟨h1,h2⟩ l q' hl
      cases l with
      | zero=>simp at hl; subst hl; exact h1
      | succ l=>have:=h2 l q' (by simpa using hl); rw [show k + (l + 1) = k + 1 + l by omega]; exact this
    · intro h
      refine ⟨by have:=h 0 q rfl; exact this,fun l q' hl=>?_⟩
      have:=h (l + 1) q' (by simpa using hl)
      rw [show k + 1 + l = k + (l + 1) by omega]; exact this
theorem okg_iff {P:List (List Int)} {ts:List D}:∀ {ps:List D} {k:Nat},okg P ts k ps = true ↔ ∀ (m:Nat) (p:D),ps[m]? = some p->∀ (l:Nat) (q:D),ts[l]? = some q->okp P ((k + m:Nat):Int) (l:Int) (likeD p) (likeD q) = true
  | [],k=>by simp [okg]
  | p :: ps,k=>by
    rw [okg,Bool.and_eq_true,okg_iff (ps:=ps),okq_iff]
    constructor
    · rintro ⟨h1,h2⟩ m p' hm l q hl
      cases m with
      | zero=>simp at hm; subst hm; have:=h1 l q hl; rw [Nat.zero_add] at this; exact this
      | succ m=>have:=h2 m p' (by simpa using hm) l q hl; rw [show k + (m + 1) = k + 1 + m by omega]; exact this
    · intro h
      refine ⟨fun l q hl=>by have:=h 0 p rfl l q hl; rw [Nat.zero_add]; exact this,fun m p' hm l q hl=>?_⟩
      have:=h (m + 1) p' (by simpa using hm) l q hl
      rw [show k + 1 + m = k + (m + 1) by omega]; exact this
theorem okp_iff {P:List (List Int)} {i j:Int} {lp lq:List Int}:okp P i j lp lq = true ↔ ([i,j] ∈ P ↔ j ∈ lp)/\([i,j] ∈ P ↔ i ∈ lq):=by
  simp only [okp,Bool.and_eq_true,beq_iff_eq,decide_eq_decide]
theorem lt_le {a b:List Int} (h:Dl.lexLt a b = true):lexLe a b = true:=by
  unfold lexLe
  cases e:Dl.lexLt b a with
  | false=>rfl
  | true=>have:=lex_trans h e; rw [lex_irrefl] at this; cases this
theorem get_of {ts:List D} {n:Nat} {j:Int} (h:ts.length = n) (h0:0<=j) (h1:j<=(n:Int) - 1):∃ (l:Nat) (q:D),ts[l]? = some q/\j = (l:Int):=by
  have hl:j.toNat < ts.length:=by omega
  exact ⟨j.toNat,ts[j.toNat],List.getElem?_eq_some_iff.mpr ⟨hl,rfl⟩,by omega⟩
theorem rows_same {g t w:D} (h:partsOk g t w = true):rowsOk g t w = (adj ((seqD w).map wpair) && okg ((seqD w).map wpair) (seqD t) 0 (seqD g)):=by
  obtain ⟨gs,ts,ws,rfl,rfl,rfl,g1,g4,t1,t4,hG,hT,hW⟩:=partsOk_out h
  have e0:(rowsOk (.tuple gs) (.tuple ts) (.tuple ws) = true) ↔ (ws.map wpair = srt (prs 0 gs)/\ws.map wpair = srt ((prs 0 ts).map List.reverse)):=by
    unfold rowsOk
    rw [Bool.and_eq_true,decide_eq_true_eq,decide_eq_true_eq]
    exact Iff.rfl
  rw [Bool.eq_iff_iff,e0,Bool.and_eq_true,okg_iff]
  simp only [seqD]
  generalize hP:ws.map wpair = P
  have pin:∀ r ∈ P,∃ i j,r = [i,j]/\0<=i/\i<=(gs.length:Int) - 1/\0<=j/\j<=(ts.length:Int) - 1:=fun r hr=>by
    rw [<- hP] at hr
    obtain ⟨x,hx,rfl⟩:=List.mem_map.mp hr
    obtain ⟨vs,c,rfl,v3,v0,v1,v2,_,_,a1,a2,a3,a4⟩:=wayOk_pair (hW x hx)
    exact ⟨_,_,rfl,a1,a2,a3,a4⟩
  have nG:(prs 0 gs).Nodup:=prs_nodup fun p hp=>by
    obtain ⟨_,_,_,_,_,_,_,_,hnd,_⟩:=placeOk_like (hG p hp); exact hnd
  have nT0:(prs 0 ts).Nodup:=prs_nodup fun p hp=>by
    obtain ⟨_,_,_,_,_,_,_,_,hnd,_⟩:=placeOk_like (hT p hp); exact hnd
  have nT:((prs 0 ts).map List.reverse).Nodup:=List.pairwise_map.mpr (nT0.imp fun hne e=>hne (List.reverse_inj.mp e))
  have mG:∀ r ∈ prs 0 gs,∃ i j,r = [i,j]/\0<=i/\i<=(gs.length:Int) - 1/\0<=j/\j<=(ts.length:Int) - 1:=fun r hr=>by
    obtain ⟨i,j,rfl⟩:=prs_two r hr
    obtain ⟨m,p,h1,h2,h3⟩:=mem_prs.mp hr
    obtain ⟨_,_,_,_,_,_,_,_,_,hr'⟩:=placeOk_like (hG p (List.mem_of_getElem? h1))
    have:=hr' j h3
    have hm:=(List.getElem?_eq_some_iff.mp h1).1
    exact ⟨i,j,rfl,by omega,by omega,this.1,this.2⟩
  have mT:∀ r ∈ (prs 0 ts).map List.reverse,∃ i j,r = [i,j]/\[j,i] ∈ prs 0 ts/\0<=i/\i<=(gs.length:Int) - 1/\0<=j/\j<=(ts.length:Int) - 1:=fun r hr=>by
    obtain ⟨s,hs,rfl⟩:=List.mem_map.mp hr
    obtain ⟨j,i,rfl⟩:=prs_two s hs
    obtain ⟨m,p,h1,h2,h3⟩:=mem_prs.mp hs
    obtain ⟨_,_,_,_,_,_,_,_,_,hr'⟩:=placeOk_like (hT p (List.mem_of_getElem? h1))
    have:=hr' i h3
    have hm:=(List.getElem?_eq_some_iff.mp h1).1
    exact ⟨i,j,rfl,hs,this.1,this.2,by omega,by omega⟩
  have inG:∀ {m:Nat} {p:D} {j:Int},gs[m]? = some p->([(m:Int),j] ∈ prs 0 gs ↔ j ∈ likeD p):=fun {m p j} hm=>by
    rw [mem_prs]
    constructor
    · rintro ⟨m',p',h1,h2,h3⟩
      have:m = m':=by omega
      subst this
      rw [hm] at h1
      cases h1
      exact h3
    · exact fun hj=>⟨m,p,hm,by omega,hj⟩
  have inT:∀ {l:Nat} {q:D} {i:Int},ts[l]? = some q->([i,(l:Int)] ∈ (prs 0 ts).map List.reverse ↔ i ∈ likeD q):=fun {l q i} hl=>by
    have:[i,(l:Int)] ∈ (prs 0 ts).map List.reverse ↔ [(l:Int),i] ∈ prs 0 ts:=by
      constructor
      · intro hh
        obtain ⟨s,hs,e⟩:=List.mem_map.mp hh
        have:s = [(l:Int),i]:=by rw [<- List.reverse_reverse s,e]; rfl
        exact this ▸ hs
      · exact fun hh=>List.mem_map.mpr ⟨_,hh,rfl⟩
    rw [this,mem_prs]
    constructor
    · rintro ⟨m',p',h1,h2,h3⟩
      have:l = m':=by omega
      subst this
      rw [hl] at h1
      cases h1
      exact h3
    · exact fun hj=>⟨l,q,hl,by omega,hj⟩
  constructor
  · rintro ⟨e1,e2⟩
    have p1:P.Perm (prs 0 gs):=e1 ▸ srt_perm _
    have p2:P.Perm ((prs 0 ts).map List.reverse):=e2 ▸ srt_perm _
    refine ⟨pair_adj ?_,fun m p hm l q hl=>okp_iff.mpr ⟨?_,?_⟩⟩
    · have up:P.Pairwise fun a b=>lexLe a b = true:=e1 ▸ srt_up _
      have nd:P.Nodup:=p1.symm.nodup nG
      refine (up.and nd).imp fun {a b} hab=>?_
      cases e:Dl.lexLt a b with
      | true=>rfl
      | false =>
        have h2:Dl.lexLt b a = false:=by have:=hab.1; unfold lexLe at this; simpa using this
        exact absurd (lex_total e h2) hab.2
    · rw [Nat.zero_add,p1.mem_iff]; exact inG hm
    · rw [Nat.zero_add,p2.mem_iff]; exact inT hl
  · rintro ⟨ha,hk⟩
    have lt:=adj_pair ha
    have up:P.Pairwise fun a b=>lexLe a b = true:=lt.imp fun h=>lt_le h
    have nd:P.Nodup:=lt.imp fun {a b} h e=>by subst e; rw [lex_irrefl] at h; cases h
    have key:∀ {i j:Int},0<=i->i<=(gs.length:Int) - 1->0<=j->j<=(ts.length:Int) - 1->([i,j] ∈ P ↔ [i,j] ∈ prs 0 gs)/\([i,j] ∈ P ↔ [i,j] ∈ (prs 0 ts).map List.reverse):=fun {i j} a1 a2 a3 a4=>by
      obtain ⟨m,p,hm,rfl⟩:=get_of rfl a1 a2
      obtain ⟨l,q,hl,rfl⟩:=get_of rfl a3 a4
      have:=okp_iff.mp (hk m p hm l q hl)
      rw [Nat.zero_add] at this
      exact ⟨this.1.trans (inG hm).symm,this.2.trans (inT hl).symm⟩
    refine ⟨srt_of ((List.perm_ext_iff_of_nodup nd nG).mpr fun r=>⟨fun hr=>?_,fun hr=>?_⟩) up,srt_of ((List.perm_ext_iff_of_nodup nd nT).mpr fun r=>⟨fun hr=>?_,fun hr=>?_⟩) up⟩
    · obtain ⟨i,j,rfl,a1,a2,a3,a4⟩:=pin r hr; exact (key a1 a2 a3 a4).1.mp hr
    · obtain ⟨i,j,rfl,a1,a2,a3,a4⟩:=mG r hr; exact (key a1 a2 a3 a4).1.mpr hr
    · obtain ⟨i,j,rfl,a1,a2,a3,a4⟩:=pin r hr; exact (key a1 a2 a3 a4).2.mp hr
    · obtain ⟨i,j,rfl,_,a1,a2,a3,a4⟩:=mT r hr; exact (key a1 a2 a3 a4).2.mpr hr
theorem w_is_l (d:D):wOk d = lOk d:=by
  unfold wOk lOk
  cases h:partsOk ((seqD d).getD 0 .none) ((seqD d).getD 1 .none) ((seqD d).getD 2 .none) with
  | false=>rw [Bool.false_and,Bool.false_and]
  | true=>rw [rows_same h]
theorem gMul_int {i j:Int} (h:CMul i j):Dl.gMul (.int i) (.int j) = some (.int (i * j)):=by
  simp only [Dl.gMul,g2I,if_pos h,Option.some_or]
theorem gMod_int {i j:Int} (h:0 < j):Dl.gMod (.int i) (.int j) = some (.int (i % j)):=if_pos h
theorem gDiv_int {i j:Int} (h:0 < j/\j < 1073741824):Dl.gDiv (.int i) (.int j) = some (.int (i / j)):=if_pos h
theorem gGt_int (i j:Int):Dl.gGt (.int i) (.int j) = some (.bool (decide (j < i))):=rfl
theorem gLt_int (i j:Int):Dl.gLt (.int i) (.int j) = some (.bool (decide (i < j))):=rfl
theorem cmul_l {i j:Int} (h:-(2 ^ 64) < i/\i < 2 ^ 64):CMul i j:=.inl h
theorem cmul_r {i j:Int} (h:-(2 ^ 64) < j/\j < 2 ^ 64):CMul i j:=.inr h
theorem scal_int (i:Int):Dl.scal (.int i) = true:=rfl
theorem scal_tup (i:List D):Dl.scal (.tuple i) = false:=rfl
noncomputable def scr (ns:List Int):D:=.list (ns.map PyData.int)
theorem e_cell {ns:List Int} (k:Int) (hl:ns.length<=63):∃ c,m__law_cell [scr ns,.int k] = some (.int c):=by
  have heq:gEqD (.list (ns.map PyData.int)) (.list []) = some (.bool ns.isEmpty):=by
    have:=gEqD_nil (b:=0) (k:=0) (xs:=ns.map PyData.int) (fun x hx=>by obtain ⟨i,_,rfl⟩:=List.mem_map.mp hx; exact fit_int i) (by decide)
    rw [this]; cases ns <;> rfl
  by_cases hn:ns = []
  · subst hn
    refine ⟨7 * k,?_⟩
    rw [List.map_nil,List.isEmpty_nil] at heq
    simp! [m__law_cell,g__law_cell,scr,small_nil,heq,List.isEmpty_nil,gMul_int (cmul_l (i:=7) (j:=k) (by decide))]
  · have hpos:(0:Int) < (ns.length:Int):=by have:=List.length_pos_iff.mpr hn; omega
    have he:ns.isEmpty = false:=by cases ns <;> first | rfl | exact absurd rfl hn
    obtain ⟨j,hj⟩:=Int.eq_ofNat_of_zero_le (Int.emod_nonneg k (show (ns.length:Int) ≠ 0 by omega))
    have hlt:=Int.emod_lt_of_pos k hpos
    have hx:atI (ns.map PyData.int) (k % (ns.length:Int)) = some (.int (ns.getD j 0)):=by
      rw [hj]
      have:j < (ns.map PyData.int).length:=by rw [List.length_map]; omega
      rw [atI_nat' this,List.getD_eq_getElem?_getD,List.getElem?_map,List.getD_eq_getElem?_getD]
      rw [List.getElem?_eq_getElem (by omega)]
      rfl
    refine ⟨ns.getD j 0 + 6553 * (k / (ns.length:Int)),?_⟩
    simp! [m__law_cell,g__law_cell,scr,small_nil,heq,he,Bool.false_eq_true,List.length_map,gMod_int hpos,hx,gDiv_int (i:=k) (j:=(ns.length:Int)) ⟨hpos,by omega⟩,gMul_int (cmul_l (i:=6553) (j:=k / (ns.length:Int)) (by decide))]
theorem e_drawn {ns:List Int} (k many:Int) (hl:ns.length<=63) (hm:0 < many):∃ r,m__law_drawn [scr ns,.int k,.int many] = some (.int r)/\0<=r/\r < many:=by
  obtain ⟨c,hc⟩:=e_cell k hl
  have m1:∀ i:Int,Dl.gMod (.int i) (.int 2147483563) = some (.int (i % 2147483563)):=fun i=>gMod_int (by decide)
  have m2:∀ i:Int,Dl.gMod (.int i) (.int 2147483399) = some (.int (i % 2147483399)):=fun i=>gMod_int (by decide)
  have m3:∀ i:Int,Dl.gMod (.int i) (.int 2147483647) = some (.int (i % 2147483647)):=fun i=>gMod_int (by decide)
  have d1:∀ i:Int,Dl.gDiv (.int i) (.int 3) = some (.int (i / 3)):=fun i=>gDiv_int (by decide)
  have d2:∀ i:Int,Dl.gDiv (.int i) (.int 7) = some (.int (i / 7)):=fun i=>gDiv_int (by decide)
  have d3:∀ i:Int,Dl.gDiv (.int i) (.int 11) = some (.int (i / 11)):=fun i=>gDiv_int (by decide)
  have u1:∀ i:Int,Dl.gMul (.int i) (.int 69069) = some (.int (i * 69069)):=fun i=>gMul_int (cmul_r (by decide))
  have u2:∀ i:Int,Dl.gMul (.int 104723) (.int i) = some (.int (104723 * i)):=fun i=>gMul_int (cmul_l (by decide))
  have b1:∀ x:Int,Dl.gMul (.int (x % 2147483563)) (.int (x % 2147483563)) = some (.int (x % 2147483563 * (x % 2147483563))):=fun x=>gMul_int (cmul_l (by
    have:=Int.emod_nonneg x (show (2147483563:Int) ≠ 0 by decide)
    have:=Int.emod_lt_of_pos x (show (0:Int) < 2147483563 by decide)
    omega))
  have b2:∀ x:Int,Dl.gMul (.int (x % 2147483399)) (.int (x % 2147483399)) = some (.int (x % 2147483399 * (x % 2147483399))):=fun x=>gMul_int (cmul_l (by
    have:=Int.emod_nonneg x (show (2147483399:Int) ≠ 0 by decide)
    have:=Int.emod_lt_of_pos x (show (0:Int) < 2147483399 by decide)
    omega))
  suffices h:∃ x,m__law_drawn [scr ns,.int k,.int many] = some (.int (x % many)) by
    obtain ⟨x,hx⟩:=h
    exact ⟨_,hx,Int.emod_nonneg x (show many ≠ 0 by omega),Int.emod_lt_of_pos x hm⟩
  · refine ⟨(((((c % 2147483563 * 69069 + 104723 * (k + 1)) % 2147483563) * ((c % 2147483563 * 69069 + 104723 * (k + 1)) % 2147483563) + ((c % 2147483563 * 69069 + 104723 * (k + 1)) % 2147483563) / 3) % 2147483399) * ((((c % 2147483563 * 69069 + 104723 * (k + 1)) % 2147483563) * ((c % 2147483563 * 69069 + 104723 * (k + 1)) % 2147483563) + ((c % 2147483563 * 69069 + 104723 * (k + 1)) % 2147483563) / 3) % 2147483399) + ((((c % 2147483563 * 69069 + 104723 * (k + 1)) % 2147483563) * ((c % 2147483563 * 69069 + 104723 * (k + 1)) % 2147483563) + ((c % 2147483563 * 69069 + 104723 * (k + 1)) % 2147483563) / 3) % 2147483399) / 7) % 2147483647 / 11,?_⟩
    simp! [m__law_drawn,g__law_drawn,hc,m1,u1,u2,Dl.gSet,scal_int,List.set_cons_succ,List.set_cons_zero,b1,d1,m2,b2,d2,m3,d3,gMod_int (j:=many) hm]
noncomputable def dr (ns:List Int) (k many:Int):Int:=toI ((m__law_drawn [scr ns,.int k,.int many]).getD .none)
theorem dr_all {ns:List Int} (k many:Int) (hl:ns.length<=63) (hm:0 < many):m__law_drawn [scr ns,.int k,.int many] = some (.int (dr ns k many))/\0<=dr ns k many/\dr ns k many < many:=by
  obtain ⟨r,h1,h2⟩:=e_drawn k many hl hm
  have:dr ns k many = r:=by simp only [dr,h1,Option.getD_some,toI]
  rw [this]; exact ⟨h1,h2⟩
theorem dr_eq {ns:List Int} (k many:Int) (hl:ns.length<=63) (hm:0 < many):m__law_drawn [scr ns,.int k,.int many] = some (.int (dr ns k many)):=(dr_all k many hl hm).1
theorem dr_ge {ns:List Int} (k many:Int) (hl:ns.length<=63) (hm:0 < many):0<=dr ns k many:=(dr_all k many hl hm).2.1
theorem dr_lt {ns:List Int} (k many:Int) (hl:ns.length<=63) (hm:0 < many):dr ns k many < many:=(dr_all k many hl hm).2.2
noncomputable def lstD (r:List Int):D:=.list (r.map PyData.int)
noncomputable def insI (ds:List Int) (k:Int) (d:Int):List Int:=let j:=if k < 0 then (k + (ds.length:Int)).toNat else min k.toNat ds.length; ds.take j ++ d :: ds.drop j
theorem insAt_map (ds:List Int) (k d:Int):insAt (ds.map PyData.int) k (.int d) = (insI ds k d).map PyData.int:=by
  simp only [insAt,insI,List.length_map,List.map_append,List.map_cons,List.map_take,List.map_drop]
theorem insI_perm (ds:List Int) (k d:Int):(insI ds k d).Perm (d :: ds):=by
  simp only [insI]
  refine List.perm_middle.trans ?_
  rw [List.take_append_drop]
noncomputable def oB:SEnv->Option Out:=(gIns 6 [8] (fCall 3 m__law_drawn (fCons (fVar 0) (fCons (f2 gAdd (f2 gAdd (fVar 1) (f2 gMul (fC (.int 4)) (fVar 4))) (fVar 7)) (fCons (f2 gAdd (fCB gLen (fCons (fVar 6) fNil)) (fC (.int 1))) fNil)))) (fVar 8))
theorem oB_run {ns order:List Int} {a k j x:Int} {s2 s3 s5:Slot} (hl:ns.length<=63) (ho:order.length<=1000) :
    oB [.val (scr ns),.val (.int a),s2,s3,.val (.int k),s5,.own (order.map PyData.int),.val (.int j),.val (.int x)] =
      some (.nx [.val (scr ns),.val (.int a),s2,s3,.val (.int k),s5,.own ((insI order (dr ns (a + 4 * k + j) ((order.length:Int) + 1)) x).map PyData.int),.val (.int j),.val (.int x)]):=by
  have h4:Dl.gMul (.int 4) (.int k) = some (.int (4 * k)):=gMul_int (cmul_l (by decide))
  have hd:=dr_all (ns:=ns) (a + 4 * k + j) ((order.length:Int) + 1) hl (by omega)
  have hr:okR (dr ns (a + 4 * k + j) ((order.length:Int) + 1)) = true:=by
    simp only [okR,Bool.and_eq_true,decide_eq_true_eq]
    omega
  have hz:(order.map PyData.int).length < sizeLine:=by rw [List.length_map]; exact Nat.lt_of_le_of_lt ho (by decide)
  simp! [oB,gIns,itemD,scal_int,gMut,List.length_map,h4,hd.1]
  rw [List.length_map] at hz
  simp only [hr,hz,and_self,if_true,Option.map_some,insAt_map,List.set_cons_succ,List.set_cons_zero]
theorem oB_for {ns:List Int} {a k:Int} {s2 s3 s5:Slot} (hl:ns.length<=63):∀ {row order:List Int} {j:Nat} {s7 s8:Slot},order.length + row.length<=1000 ->
    ∃ (o:List Int) (t7 t8:Slot),forD (fSG2 7 8) oB (enumD j (row.map PyData.int)) [.val (scr ns),.val (.int a),s2,s3,.val (.int k),s5,.own (order.map PyData.int),s7,s8] =
      some (.nx [.val (scr ns),.val (.int a),s2,s3,.val (.int k),s5,.own (o.map PyData.int),t7,t8])/\o.Perm (row ++ order)
  | [],order,j,s7,s8,_=>⟨order,s7,s8,by simp [enumD,forD],by simp⟩
  | x :: row,order,j,s7,s8,h=>by
    rw [List.length_cons] at h
    have hp:=insI_perm order (dr ns (a + 4 * k + ((j:Nat):Int)) ((order.length:Int) + 1)) x
    have hlen:=hp.length_eq
    rw [List.length_cons] at hlen
    obtain ⟨o,t7,t8,e,p⟩:=oB_for (s2:=s2) (s3:=s3) (s5:=s5) (a:=a) (k:=k) hl (row:=row) (order:=insI order (dr ns (a + 4 * k + ((j:Nat):Int)) ((order.length:Int) + 1)) x) (j:=j + 1) (s7:=.val (.int (j:Nat))) (s8:=.val (.int x)) (by omega)
    refine ⟨o,t7,t8,?_,p.trans ?_⟩
    · have hs:fSG2 7 8 [.val (scr ns),.val (.int a),s2,s3,.val (.int k),s5,.own (order.map PyData.int),s7,s8] (.tuple [.int (j:Nat),.int x]) = some [.val (scr ns),.val (.int a),s2,s3,.val (.int k),s5,.own (order.map PyData.int),.val (.int (j:Nat)),.val (.int x)]:=rfl
      simp only [List.map_cons,enumD,forD,hs,Option.bind_some,oB_run hl (show order.length<=1000 by omega),e]
    · refine (hp.append_left row).trans ?_
      rw [List.cons_append]
      exact List.perm_middle
noncomputable def PermL:List (List Int)->List (List Int)->Prop | [],[]=>True | a :: l,b :: m=>a.Perm b/\PermL l m | _,_=>False
noncomputable def rB:SEnv->Option Out:=(gSeq (gSetF 6 [] (fLst fNil)) (gSeq (gFor [5] (fEnum (fCons (fVar 5) fNil)) (fSG2 7 8) oB) (gApp 3 [6] (fCB gTuple (fCons (fVar 6) fNil)))))
theorem rB_run {ns row:List Int} {a k:Int} {rows:D} {found:List D} {s6 s7 s8:Slot} (hl:ns.length<=63) (hr:row.length<=1000) (hf:found.length<=1000) :
    ∃ (o:List Int) (t7 t8:Slot),rB [.val (scr ns),.val (.int a),.val rows,.own found,.val (.int k),.val (lstD row),s6,s7,s8] = some (.nx [.val (scr ns),.val (.int a),.val rows,.own (found ++ [rowD o]),.val (.int k),.val (lstD row),.val (lstD o),t7,t8])/\o.Perm row:=by
  obtain ⟨o,t7,t8,e,p⟩:=oB_for (s2:=.val rows) (s3:=.own found) (s5:=.val (lstD row)) (a:=a) (k:=k) hl (row:=row) (order:=[]) (j:=0) (s7:=s7) (s8:=s8) (by simpa using hr)
  rw [List.append_nil] at p
  refine ⟨o,t7,t8,?_,p⟩
  have h1:gSetF 6 [] (fLst fNil) [.val (scr ns),.val (.int a),.val rows,.own found,.val (.int k),.val (lstD row),s6,s7,s8] = some (.nx [.val (scr ns),.val (.int a),.val rows,.own found,.val (.int k),.val (lstD row),.own [],s7,s8]):=by
    simp only [gSetF,hand_nil,fLst,fNil,Option.bind_some,small_nil,Option.map_some,List.set_cons_succ,List.set_cons_zero]
  have h2:gFor [5] (fEnum (fCons (fVar 5) fNil)) (fSG2 7 8) oB [.val (scr ns),.val (.int a),.val rows,.own found,.val (.int k),.val (lstD row),.own [],s7,s8] = some (.nx [.val (scr ns),.val (.int a),.val rows,.own found,.val (.int k),.val (lstD row),.own (o.map PyData.int),t7,t8]):=by
    have hh:hand [5] 0 [Slot.val (scr ns),.val (.int a),.val rows,.own found,.val (.int k),.val (lstD row),.own [],s7,s8] = [Slot.val (scr ns),.val (.int a),.val rows,.own found,.val (.int k),.val (lstD row),.own [],s7,s8]:=rfl
    have hq:fEnum (fCons (fVar 5) fNil) (vFrz [Slot.val (scr ns),.val (.int a),.val rows,.own found,.val (.int k),.val (lstD row),.own [],s7,s8]) = some (enumD 0 (row.map PyData.int)):=by
      simp only [vFrz,List.map_cons,List.map_nil]
      simp! [fEnum,lstD]
    simp only [gFor,hh,hq,Option.bind_some]
    exact e
  have h3:gApp 3 [6] (fCB gTuple (fCons (fVar 6) fNil)) [.val (scr ns),.val (.int a),.val rows,.own found,.val (.int k),.val (lstD row),.own (o.map PyData.int),t7,t8] = some (.nx [.val (scr ns),.val (.int a),.val rows,.own (found ++ [rowD o]),.val (.int k),.val (lstD row),.val (lstD o),t7,t8]):=by
    have hz:found.length < sizeLine:=Nat.lt_of_le_of_lt hf (by decide)
    have hh:hand [6] 0 [Slot.val (scr ns),.val (.int a),.val rows,.own found,.val (.int k),.val (lstD row),.own (o.map PyData.int),t7,t8] = [Slot.val (scr ns),.val (.int a),.val rows,.own found,.val (.int k),.val (lstD row),.val (lstD o),t7,t8]:=rfl
    simp only [gApp,itemD,hh,vFrz,List.map_cons,List.map_nil]
    simp! [scal_tup,Bool.false_eq_true,gMut,hz,List.set_cons_succ,List.set_cons_zero,lstD,rowD]
  simp only [rB,gSeq,h1,h2,h3,Option.bind_some]
theorem rB_for {ns:List Int} {a:Int} {rws:D} (hl:ns.length<=63):∀ {rows:List (List Int)} {found:List D} {k:Nat} {s4 s5 s6 s7 s8:Slot},(∀ r ∈ rows,r.length<=1000)->found.length + rows.length<=1000 ->
    ∃ (os:List (List Int)) (t4 t5 t6 t7 t8:Slot),forD (fSG2 4 5) rB (enumD k (rows.map lstD)) [.val (scr ns),.val (.int a),.val rws,.own found,s4,s5,s6,s7,s8] = some (.nx [.val (scr ns),.val (.int a),.val rws,.own (found ++ os.map rowD),t4,t5,t6,t7,t8])/\PermL os rows
  | [],found,k,s4,s5,s6,s7,s8,_,_=>⟨[],s4,s5,s6,s7,s8,by simp [enumD,forD],trivial⟩
  | r :: rows,found,k,s4,s5,s6,s7,s8,h,hf=>by
    rw [List.length_cons] at hf
    obtain ⟨o,u7,u8,e1,p1⟩:=rB_run (rows:=rws) (a:=a) (k:=((k:Nat):Int)) (s6:=s6) (s7:=s7) (s8:=s8) hl (h r List.mem_cons_self) (show found.length<=1000 by omega)
    obtain ⟨os,t4,t5,t6,t7,t8,e,p⟩:=rB_for hl (rws:=rws) (a:=a) (rows:=rows) (found:=found ++ [rowD o]) (k:=k + 1) (s4:=.val (.int (k:Nat))) (s5:=.val (lstD r)) (s6:=.val (lstD o)) (s7:=u7) (s8:=u8) (fun r' hr'=>h r' (List.mem_cons_of_mem _ hr')) (by rw [List.length_append,List.length_singleton]; omega)
    refine ⟨o :: os,t4,t5,t6,t7,t8,?_,p1,p⟩
    have hs:fSG2 4 5 [.val (scr ns),.val (.int a),.val rws,.own found,s4,s5,s6,s7,s8] (.tuple [.int (k:Nat),lstD r]) = some [.val (scr ns),.val (.int a),.val rws,.own found,.val (.int (k:Nat)),.val (lstD r),s6,s7,s8]:=rfl
    simp only [List.map_cons,enumD,forD,hs,Option.bind_some,e1]
    rw [e,List.append_assoc]
    rfl
theorem e_orders {ns:List Int} {a:Int} {rows:List (List Int)} (hl:ns.length<=63) (hr:∀ r ∈ rows,r.length<=1000) (hn:rows.length<=1000):∃ os:List (List Int),m__law_orders [scr ns,.int a,.list (rows.map lstD)] = some (.list (os.map rowD))/\PermL os rows:=by
  obtain ⟨os,t4,t5,t6,t7,t8,e,p⟩:=rB_for hl (rws:=.list (rows.map lstD)) (a:=a) (rows:=rows) (found:=[]) (k:=0) (s4:=.non) (s5:=.non) (s6:=.non) (s7:=.non) (s8:=.non) hr (by simpa using hn)
  refine ⟨os,?_,p⟩
  rw [List.nil_append] at e
  have h1:gSetF 3 [] (fLst fNil) [.val (scr ns),.val (.int a),.val (.list (rows.map lstD)),.non,.non,.non,.non,.non,.non] = some (.nx [.val (scr ns),.val (.int a),.val (.list (rows.map lstD)),.own [],.non,.non,.non,.non,.non]):=by
    simp only [gSetF,hand_nil,fLst,fNil,Option.bind_some,small_nil,Option.map_some,List.set_cons_succ,List.set_cons_zero]
  have h2:gFor [2] (fEnum (fCons (fVar 2) fNil)) (fSG2 4 5) rB [.val (scr ns),.val (.int a),.val (.list (rows.map lstD)),.own [],.non,.non,.non,.non,.non] = some (.nx [.val (scr ns),.val (.int a),.val (.list (rows.map lstD)),.own (os.map rowD),t4,t5,t6,t7,t8]):=by
    have hh:hand [2] 0 [Slot.val (scr ns),.val (.int a),.val (.list (rows.map lstD)),.own [],.non,.non,.non,.non,.non] = [Slot.val (scr ns),.val (.int a),.val (.list (rows.map lstD)),.own [],.non,.non,.non,.non,.non]:=rfl
    have hq:fEnum (fCons (fVar 2) fNil) (vFrz [Slot.val (scr ns),.val (.int a),.val (.list (rows.map lstD)),.own [],.non,.non,.non,.non,.non]) = some (enumD 0 (rows.map lstD)):=by
      simp only [vFrz,List.map_cons,List.map_nil]
      simp! [fEnum]
    simp only [gFor,hh,hq,Option.bind_some]
    exact e
  unfold rB oB at h2
  simp! [m__law_orders,g__law_orders,h1,h2]
noncomputable abbrev Pl:=Int × List Int
noncomputable abbrev Wy:=Int × Int × Int
noncomputable def plcD (p:Pl):D:=.tuple [.int p.1,rowD p.2]
noncomputable def wayD (w:Wy):D:=.tuple [.int w.1,.int w.2.1,.int w.2.2]
noncomputable def wdD (G T:List Pl) (W:List Wy):D:=.tuple [.tuple (G.map plcD),.tuple (T.map plcD),.tuple (W.map wayD)]
noncomputable def ofG (W:List Wy) (i:Int):List Int:=(W.filter fun w=>decide (w.1 = i)).map fun w=>w.2.1
noncomputable def ofT (W:List Wy) (j:Int):List Int:=(W.filter fun w=>decide (w.2.1 = j)).map fun w=>w.1
noncomputable abbrev Ris (W:List Wy):Prop:=W.Pairwise fun a b=>a.1 < b.1\/(a.1 = b.1/\a.2.1 < b.2.1)
structure Wd (G T:List Pl) (W:List Wy):Prop where
  g1:1<=G.length
  g4:G.length<=4
  t1:1<=T.length
  t4:T.length<=4
  ga:∀ p ∈ G,0<=p.1/\p.1<=9
  ta:∀ p ∈ T,0<=p.1/\p.1<=9
  gl:∀ (i:Nat) (p:Pl),G[i]? = some p->p.2.Perm (ofG W i)
  tl:∀ (j:Nat) (p:Pl),T[j]? = some p->p.2.Perm (ofT W j)
  wr:∀ w ∈ W,(0<=w.1/\w.1 < G.length)/\(0<=w.2.1/\w.2.1 < T.length)/\1<=w.2.2/\w.2.2<=9
  wp:Ris W
  wl:W.length<=16
theorem mem_ofG {W:List Wy} {i j:Int}:j ∈ ofG W i ↔ [i,j] ∈ W.map fun w=>[w.1,w.2.1]:=by
  simp only [ofG,List.mem_map,List.mem_filter,decide_eq_true_eq,List.cons.injEq,and_true]
  constructor
  · rintro ⟨w,⟨h1,h2⟩,h3⟩; exact ⟨w,h1,h2,h3⟩
  · rintro ⟨w,h1,h2,h3⟩; exact ⟨w,⟨h1,h2⟩,h3⟩
theorem mem_ofT {W:List Wy} {i j:Int}:i ∈ ofT W j ↔ [i,j] ∈ W.map fun w=>[w.1,w.2.1]:=by
  simp only [ofT,List.mem_map,List.mem_filter,decide_eq_true_eq,List.cons.injEq,and_true]
  constructor
  · rintro ⟨w,⟨h1,h2⟩,h3⟩; exact ⟨w,h1,h3,h2⟩
  · rintro ⟨w,h1,h2,h3⟩; exact ⟨w,⟨h1,h3⟩,h2⟩
theorem ofG_nodup {W:List Wy} (h:Ris W) (i:Int):(ofG W i).Nodup:=by
  unfold ofG List.Nodup
  rw [List.pairwise_map,List.pairwise_filter]
  refine h.imp fun hab ha hb=>?_
  rw [decide_eq_true_eq] at ha hb
  omega
theorem ofT_nodup {W:List Wy} (h:Ris W) (i:Int):(ofT W i).Nodup:=by
  unfold ofT List.Nodup
  rw [List.pairwise_map,List.pairwise_filter]
  refine h.imp fun hab ha hb=>?_
  rw [decide_eq_true_eq] at ha hb
  omega
theorem likeD_plc (p:Pl):likeD (plcD p) = p.2:=by
  show ((p.2.map PyData.int).map toI) = p.2
  rw [List.map_map]
  exact List.map_id _
theorem placeOk_plc {n:Int} {p:Pl} (ha:0<=p.1/\p.1<=9) (hn:p.2.Nodup) (hr:∀ j ∈ p.2,0<=j/\j < n):placeOk n (plcD p) = true:=by
  have e:(p.2.map PyData.int).map toI = p.2:=likeD_plc p
  have e2:(p.2.map PyData.int).all (whole 0 (n - 1)) = true:=by
    rw [List.all_eq_true]
    intro x hx
    obtain ⟨j,hj,rfl⟩:=List.mem_map.mp hx
    have:=hr j hj
    simp only [whole,Bool.and_eq_true,decide_eq_true_eq]
    omega
  simp only [placeOk,plcD,rowD,List.length_cons,List.length_nil,List.getD_cons_zero,List.getD_cons_succ,likesOk,whole,e,e2,ha.1,ha.2,hn,decide_true,Bool.and_self]
theorem wayOk_way {g t:Int} {w:Wy} (h:(0<=w.1/\w.1 < g)/\(0<=w.2.1/\w.2.1 < t)/\1<=w.2.2/\w.2.2<=9):wayOk g t (wayD w) = true:=by
  obtain ⟨⟨a,b⟩,⟨c,d⟩,e,f⟩:=h
  have b':w.1<=g - 1:=by omega
  have d':w.2.1<=t - 1:=by omega
  simp only [wayOk,wayD,List.length_cons,List.length_nil,List.getD_cons_zero,List.getD_cons_succ,whole,a,b',c,d',e,f,decide_true,Bool.and_self]
theorem lex2 {a b c d:Int} (h:a < c\/(a = c/\b < d)):Dl.lexLt [a,b] [c,d] = true:=by
  show HT.lexLt [a,b] [c,d] = true
  rw [HT.lexLt_cons]
  by_cases e:a = c
  · rw [if_pos e,HT.lexLt_cons,if_neg (by omega)]
    simp only [decide_eq_true_eq]; omega
  · rw [if_neg e]; simp only [decide_eq_true_eq]; omega
theorem Wd.glike {G T:List Pl} {W:List Wy} (h:Wd G T W) {p:Pl} (hp:p ∈ G):∃ i:Nat,i < G.length/\p.2.Perm (ofG W i):=by
  obtain ⟨i,hi,e⟩:=List.getElem_of_mem hp
  exact ⟨i,hi,h.gl i p (by rw [List.getElem?_eq_getElem hi,e])⟩
theorem Wd.tlike {G T:List Pl} {W:List Wy} (h:Wd G T W) {p:Pl} (hp:p ∈ T):∃ i:Nat,i < T.length/\p.2.Perm (ofT W i):=by
  obtain ⟨i,hi,e⟩:=List.getElem_of_mem hp
  exact ⟨i,hi,h.tl i p (by rw [List.getElem?_eq_getElem hi,e])⟩
theorem Wd.gok {G T:List Pl} {W:List Wy} (h:Wd G T W):(G.map plcD).all (placeOk T.length) = true:=by
  rw [List.all_eq_true]
  intro x hx
  obtain ⟨p,hp,rfl⟩:=List.mem_map.mp hx
  obtain ⟨i,hi,q⟩:=h.glike hp
  refine placeOk_plc (h.ga p hp) (q.nodup_iff.mpr (ofG_nodup h.wp _)) fun j hj=>?_
  obtain ⟨w,hw,e⟩:=List.mem_map.mp (mem_ofG.mp (q.mem_iff.mp hj))
  injection e with e1 e2
  injection e2 with e2 _
  have:=(h.wr w hw).2.1
  rw [e2] at this; exact this
theorem Wd.tok {G T:List Pl} {W:List Wy} (h:Wd G T W):(T.map plcD).all (placeOk G.length) = true:=by
  rw [List.all_eq_true]
  intro x hx
  obtain ⟨p,hp,rfl⟩:=List.mem_map.mp hx
  obtain ⟨i,hi,q⟩:=h.tlike hp
  refine placeOk_plc (h.ta p hp) (q.nodup_iff.mpr (ofT_nodup h.wp _)) fun j hj=>?_
  obtain ⟨w,hw,e⟩:=List.mem_map.mp (mem_ofT.mp (q.mem_iff.mp hj))
  injection e with e1 e2
  have:=(h.wr w hw).1
  rw [e1] at this; exact this
theorem Wd.lok {G T:List Pl} {W:List Wy} (h:Wd G T W):lOk (wdD G T W) = true:=by
  have hP:(W.map wayD).map wpair = W.map fun w=>[w.1,w.2.1]:=by rw [List.map_map]; rfl
  have hadj:adj (W.map fun w=>[w.1,w.2.1]) = true:=pair_adj (List.pairwise_map.mpr (h.wp.imp fun hab=>lex2 hab))
  have hokg:okg (W.map fun w=>[w.1,w.2.1]) (T.map plcD) 0 (G.map plcD) = true:=by
    rw [okg_iff]
    intro m p hp l q hq
    rw [List.getElem?_map] at hp hq
    obtain ⟨p',hp',rfl⟩:=Option.map_eq_some_iff.mp hp
    obtain ⟨q',hq',rfl⟩:=Option.map_eq_some_iff.mp hq
    rw [okp_iff,likeD_plc,likeD_plc,(h.gl m p' hp').mem_iff,(h.tl l q' hq').mem_iff,mem_ofG,mem_ofT,Nat.zero_add]
    exact ⟨Iff.rfl,Iff.rfl⟩
  have hw:(W.map wayD).all (wayOk G.length T.length) = true:=by
    rw [List.all_eq_true]
    intro x hx
    obtain ⟨w,hw,rfl⟩:=List.mem_map.mp hx
    exact wayOk_way (h.wr w hw)
  have hs:∀ {L:List Pl},1<=L.length->L.length<=4->sideOk (.tuple (L.map plcD)) = true:=fun {L} a b=>by
    simp only [sideOk,long,List.length_map,Bool.and_eq_true,decide_eq_true_eq]; omega
  have h3:long 3 3 (wdD G T W) = true:=rfl
  have hg:=h.gok
  have ht:=h.tok
  unfold lOk
  rw [h3,Bool.true_and]
  simp only [wdD,seqD,List.getD_cons_zero,List.getD_cons_succ,hP,hadj,hokg,Bool.and_true,partsOk,hs h.g1 h.g4,hs h.t1 h.t4,List.length_map,hg,ht,hw,isT]
theorem len_filter {W:List Wy} {p:Wy->Bool} (h:W.length<=16):(W.filter p).length<=16:=Nat.le_trans (List.length_filter_le _ _) h
theorem plc_fit {p:Pl} (h:p.2.length<=16):Fit 16 2 (plcD p):=.tup (by simp only [List.length_cons,List.length_nil]; omega) fun x hx=>by
  rcases List.mem_cons.mp hx with rfl | hx
  · exact fit_int _
  · rw [List.mem_singleton] at hx
    subst hx
    exact fit_row h
theorem way_fit (w:Wy):Fit 16 1 (wayD w):=.tup (by simp only [List.length_cons,List.length_nil]; omega) fun x hx=>by
  simp only [List.mem_cons,List.not_mem_nil,or_false] at hx
  rcases hx with rfl | rfl | rfl <;> exact fit_int _
theorem Wd.fit {G T:List Pl} {W:List Wy} (h:Wd G T W):Fit 16 4 (wdD G T W):=by
  refine .tup (by simp only [List.length_cons,List.length_nil]; omega) fun x hx=>?_
  simp only [List.mem_cons,List.not_mem_nil,or_false] at hx
  have h4:=h.g4
  have h5:=h.t4
  have h6:=h.wl
  rcases hx with rfl | rfl | rfl
  · refine .tup (by rw [List.length_map]; omega) fun x hx=>?_
    obtain ⟨p,hp,rfl⟩:=List.mem_map.mp hx
    obtain ⟨i,hi,q⟩:=h.glike hp
    exact plc_fit (by rw [q.length_eq,ofG,List.length_map]; exact len_filter h.wl)
  · refine .tup (by rw [List.length_map]; omega) fun x hx=>?_
    obtain ⟨p,hp,rfl⟩:=List.mem_map.mp hx
    obtain ⟨i,hi,q⟩:=h.tlike hp
    exact plc_fit (by rw [q.length_eq,ofT,List.length_map]; exact len_filter h.wl)
  · refine .tup (by rw [List.length_map]; omega) fun x hx=>?_
    obtain ⟨p,hp,rfl⟩:=List.mem_map.mp hx
    exact (way_fit p).mono (Nat.le_refl _) (by decide)
theorem wd_closed {c:Int} (h0:0<=c) (h9:c<=9):Wd [(c,[0,1]),(c,[1,0])] [(c,[1,0]),(c,[0,1])] [(0,0,2),(0,1,2),(1,0,2),(1,1,2)] where
  g1:=by simp only [List.length_cons,List.length_nil]; omega
  g4:=by simp only [List.length_cons,List.length_nil]; omega
  t1:=by simp only [List.length_cons,List.length_nil]; omega
  t4:=by simp only [List.length_cons,List.length_nil]; omega
  ga:=by intro p hp; simp only [List.mem_cons,List.not_mem_nil,or_false] at hp; rcases hp with rfl | rfl <;> exact ⟨h0,h9⟩
  ta:=by intro p hp; simp only [List.mem_cons,List.not_mem_nil,or_false] at hp; rcases hp with rfl | rfl <;> exact ⟨h0,h9⟩
  gl:=by
    intro i p hp
    match i,hp with
    | 0,hp=>injection hp with hp; subst hp; exact (show List.Perm ([0,1]:List Int) (ofG [(0,0,2),(0,1,2),(1,0,2),(1,1,2)] ((0:Nat):Int)) by decide)
    | 1,hp=>injection hp with hp; subst hp; exact (show List.Perm ([1,0]:List Int) (ofG [(0,0,2),(0,1,2),(1,0,2),(1,1,2)] ((1:Nat):Int)) by decide)
  tl:=by
    intro i p hp
    match i,hp with
    | 0,hp=>injection hp with hp; subst hp; exact (show List.Perm ([1,0]:List Int) (ofT [(0,0,2),(0,1,2),(1,0,2),(1,1,2)] ((0:Nat):Int)) by decide)
    | 1,hp=>injection hp with hp; subst hp; exact (show List.Perm ([0,1]:List Int) (ofT [(0,0,2),(0,1,2),(1,0,2),(1,1,2)] ((1:Nat):Int)) by decide)
  wr:=show ∀ w ∈ ([(0,0,2),(0,1,2),(1,0,2),(1,1,2)]:List Wy),(0<=w.1/\w.1 < ((2:Nat):Int))/\(0<=w.2.1/\w.2.1 < ((2:Nat):Int))/\1<=w.2.2/\w.2.2<=9 by decide
  wp:=by decide
  wl:=by decide
noncomputable def zipA (f:Nat->Int):Nat->List (List Int)->List Pl | _,[]=>[] | k,r :: rs=>(f k,r) :: zipA f (k + 1) rs
theorem zipA_len (f:Nat->Int):∀ (rs:List (List Int)) (k:Nat),(zipA f k rs).length = rs.length
  | [],k=>rfl
  | r :: rs,k=>by rw [zipA,List.length_cons,List.length_cons,zipA_len f rs]
theorem zipA_get (f:Nat->Int):∀ {rs:List (List Int)} {k i:Nat} {p:Pl},(zipA f k rs)[i]? = some p->∃ r,rs[i]? = some r/\p = (f (k + i),r)
  | [],k,i,p,h=>by simp [zipA] at h
  | r :: rs,k,0,p,h=>by simp [zipA] at h; exact ⟨r,rfl,h.symm⟩
  | r :: rs,k,i + 1,p,h=>by
    simp only [zipA,List.getElem?_cons_succ] at h
    obtain ⟨y,h1,h2⟩:=zipA_get f h
    exact ⟨y,by simpa using h1,by rw [h2]; congr 2; omega⟩
theorem permL_len:∀ {a b:List (List Int)},PermL a b->a.length = b.length
  | [],[],_=>rfl
  | x :: a,y :: b,h=>by rw [List.length_cons,List.length_cons,permL_len h.2]
  | [],_ :: _,h=>h.elim
  | _ :: _,[],h=>h.elim
theorem permL_get:∀ {a b:List (List Int)} {i:Nat} {r:List Int},PermL a b->a[i]? = some r->∃ s,b[i]? = some s/\r.Perm s
  | [],[],i,r,_,h=>by simp at h
  | x :: a,y :: b,0,r,h,e=>by
    simp only [List.getElem?_cons_zero,Option.some.injEq] at e
    subst e
    exact ⟨y,rfl,h.1⟩
  | x :: a,y :: b,i + 1,r,h,e=>by
    simp only [List.getElem?_cons_succ] at e
    obtain ⟨s,h1,h2⟩:=permL_get h.2 e
    exact ⟨s,by simpa using h1,h2⟩
  | [],_ :: _,i,r,h,_=>h.elim
  | _ :: _,[],i,r,h,_=>h.elim
noncomputable def rowsG (W:List Wy) (m:Nat):List (List Int):=(List.range m).map fun i=>ofG W ((i:Nat):Int)
noncomputable def rowsT (W:List Wy) (m:Nat):List (List Int):=(List.range m).map fun i=>ofT W ((i:Nat):Int)
theorem wd_rows {m s:Nat} {W:List Wy} {mine yours:List (List Int)} {f g:Nat->Int} (m1:1<=m) (m4:m<=4) (s1:1<=s) (s4:s<=4) (hf:∀ k,0<=f k/\f k<=9) (hg:∀ k,0<=g k/\g k<=9)
    (hm:PermL mine (rowsG W m)) (hy:PermL yours (rowsT W s)) (wr:∀ w ∈ W,(0<=w.1/\w.1 < m)/\(0<=w.2.1/\w.2.1 < s)/\1<=w.2.2/\w.2.2<=9) (wp:Ris W) (wl:W.length<=16):Wd (zipA f 0 mine) (zipA g 0 yours) W:=by
  have lm:(zipA f 0 mine).length = m:=by rw [zipA_len,permL_len hm,rowsG,List.length_map,List.length_range]
  have ly:(zipA g 0 yours).length = s:=by rw [zipA_len,permL_len hy,rowsT,List.length_map,List.length_range]
  have am:∀ {h:Nat->Int} {rs:List (List Int)},(∀ k,0<=h k/\h k<=9)->∀ p ∈ zipA h 0 rs,0<=p.1/\p.1<=9:=fun {h rs} hh p hp=>by
    obtain ⟨i,hi⟩:=List.mem_iff_getElem?.mp hp
    obtain ⟨r,_,rfl⟩:=zipA_get h hi
    exact hh _
  refine ⟨by omega,by omega,by omega,by omega,am hf,am hg,fun i p hp=>?_,fun i p hp=>?_,by rw [lm,ly]; exact wr,wp,wl⟩
  · obtain ⟨r,h1,rfl⟩:=zipA_get f hp
    obtain ⟨t,h2,h3⟩:=permL_get hm h1
    rw [rowsG,List.getElem?_map] at h2
    obtain ⟨k,hk,rfl⟩:=Option.map_eq_some_iff.mp h2
    have:k = i:=by
      rw [List.getElem?_eq_some_iff] at hk
      obtain ⟨h,e⟩:=hk
      rw [List.getElem_range] at e
      exact e.symm
    subst this
    exact h3
  · obtain ⟨r,h1,rfl⟩:=zipA_get g hp
    obtain ⟨t,h2,h3⟩:=permL_get hy h1
    rw [rowsT,List.getElem?_map] at h2
    obtain ⟨k,hk,rfl⟩:=Option.map_eq_some_iff.mp h2
    have:k = i:=by
      rw [List.getElem?_eq_some_iff] at hk
      obtain ⟨h,e⟩:=hk
      rw [List.getElem_range] at e
      exact e.symm
    subst this
    exact h3
theorem gSet_same {i:Nat} {fz:List Nat} {f:Dl.Env->Option D} {ρ ρ':SEnv} {d:D} (hf:f (vAll ρ) = some d) (hs:Dl.scal d = false) (hh:hand fz 0 ρ = ρ') (hv:vFrz ρ' = vAll ρ):Dl.gSet i fz f ρ = some (.nx (ρ'.set i (.val d))):=by
  simp only [Dl.gSet,hf,Option.bind_some,hs,Bool.false_eq_true,if_false,hh,hv,Option.map_some]
theorem gSet_scal {i:Nat} {fz:List Nat} {f:Dl.Env->Option D} {ρ:SEnv} {d:D} (hf:f (vAll ρ) = some d) (hs:Dl.scal d = true):Dl.gSet i fz f ρ = some (.nx (ρ.set i (.val d))):=by
  simp only [Dl.gSet,hf,Option.bind_some,hs,if_true]
theorem way_0 (w:Wy):gIx (wayD w) (.int 0) = some (.int w.1):=rfl
theorem way_1 (w:Wy):gIx (wayD w) (.int 1) = some (.int w.2.1):=rfl
theorem small3 (a b c:D):small [a,b,c] = some [a,b,c]:=rfl
theorem dm_lt {a b s:Int} (hs:s = 1\/s = 2\/s = 3) (h:a < b):a / s < b / s\/(a / s = b / s/\a % s < b % s):=by rcases hs with rfl | rfl | rfl <;> omega
theorem dm_rng {k m s:Int} (hs:s = 1\/s = 2\/s = 3) (hm:m = 1\/m = 2\/m = 3) (h0:0<=k) (h:k < m * s):(0<=k / s/\k / s < m)/\0<=k % s/\k % s < s:=by
  rcases hs with rfl | rfl | rfl <;> rcases hm with rfl | rfl | rfl <;> omega
noncomputable def lB:SEnv->Option Out:=(gIf (fAndT (fB (f2 gLt (fCB gLen (fCons (fVar 7) fNil)) (fVar 2))) (fB (f2 gGt (fCall 3 m__law_drawn (fCons (fVar 0) (fCons (f2 gAdd (f2 gAdd (fVar 1) (fC (.int 2))) (fVar 8)) (fCons (fC (.int 4)) fNil)))) (fC (.int 0))))) (gApp 7 [0,1,6,8] (fTup (fCons (f2 gDiv (fVar 8) (fVar 6)) (fCons (f2 gMod (fVar 8) (fVar 6)) (fCons (f2 gAdd (fC (.int 1)) (fCall 3 m__law_drawn (fCons (fVar 0) (fCons (f2 gAdd (f2 gAdd (fVar 1) (fC (.int 12))) (fVar 8)) (fCons (fC (.int 2)) fNil))))) fNil))))) gNx)
noncomputable abbrev st (ns:List Int) (a mo m s:Int) (x4 x7 x8 x9 x10 x11:Slot):SEnv:=[.val (scr ns),.val (.int a),.val (.int mo),.non,x4,.val (.int m),.val (.int s),x7,x8,x9,x10,x11]
noncomputable def nxW (ns:List Int) (a mo s k:Int) (W:List Wy):List Wy:=if (W.length:Int) < mo/\0 < dr ns (a + 2 + k) 4 then W ++ [(k / s,k % s,1 + dr ns (a + 12 + k) 2)] else W
theorem lB_run {ns:List Int} {a mo m s k:Int} {W:List Wy} (hl:ns.length<=63) (hs:s = 1\/s = 2\/s = 3) (hw:W.length<=9) :
    lB (st ns a mo m s .non (.own (W.map wayD)) (.val (.int k)) .non .non .non) = some (.nx (st ns a mo m s .non (.own ((nxW ns a mo s k W).map wayD)) (.val (.int k)) .non .non .non)):=by
  have hs0:0 < s:=by omega
  have hz:W.length < sizeLine:=Nat.lt_of_le_of_lt hw (by decide)
  have hd:Dl.gDiv (.int k) (.int s) = some (.int (k / s)):=gDiv_int ⟨hs0,by omega⟩
  have hm:Dl.gMod (.int k) (.int s) = some (.int (k % s)):=gMod_int hs0
  have e4:=dr_eq (ns:=ns) (a + 2 + k) 4 hl (by decide)
  have e2:=dr_eq (ns:=ns) (a + 12 + k) 2 hl (by decide)
  have hh:hand [0,1,6,8] 0 (st ns a mo m s .non (.own (W.map wayD)) (.val (.int k)) .non .non .non) = st ns a mo m s .non (.own (W.map wayD)) (.val (.int k)) .non .non .non:=rfl
  have ha:gApp 7 [0,1,6,8] (fTup (fCons (f2 gDiv (fVar 8) (fVar 6)) (fCons (f2 gMod (fVar 8) (fVar 6)) (fCons (f2 gAdd (fC (.int 1)) (fCall 3 m__law_drawn (fCons (fVar 0) (fCons (f2 gAdd (f2 gAdd (fVar 1) (fC (.int 12))) (fVar 8)) (fCons (fC (.int 2)) fNil))))) fNil)))) (st ns a mo m s .non (.own (W.map wayD)) (.val (.int k)) .non .non .non) = some (.nx (st ns a mo m s .non (.own ((W ++ [(k / s,k % s,1 + dr ns (a + 12 + k) 2)]).map wayD)) (.val (.int k)) .non .non .non)):=by
    simp only [gApp,itemD,hh,vFrz,List.map_cons,List.map_nil]
    simp! [scal_tup,Bool.false_eq_true,gMut,hd,hm,e2,small3,List.length_map,hz,List.set_cons_succ,List.set_cons_zero,List.map_append]
    rfl
  by_cases c1:(W.length:Int) < mo
  · by_cases c2:0 < dr ns (a + 2 + k) 4
    · rw [show nxW ns a mo s k W = W ++ [(k / s,k % s,1 + dr ns (a + 12 + k) 2)] from if_pos ⟨c1,c2⟩,<- ha]
      simp! [lB,gLt_int,gGt_int,List.length_map,c1,c2,decide_true,gB_bool,e4]
    · rw [show nxW ns a mo s k W = W from if_neg fun h=>c2 h.2]
      simp! [lB,gLt_int,gGt_int,List.length_map,c1,c2,decide_true,decide_false,gB_bool,e4,Bool.false_eq_true]
  · rw [show nxW ns a mo s k W = W from if_neg fun h=>c1 h.1]
    simp! [lB,gLt_int,gGt_int,List.length_map,c1,decide_false,gB_bool,Bool.false_eq_true]
structure WInv (mo s k:Int) (W:List Wy):Prop where
  mem:∀ w ∈ W,∃ j:Int,0<=j/\j < k/\w.1 = j / s/\w.2.1 = j % s/\1<=w.2.2/\w.2.2<=2
  ris:Ris W
  len:(W.length:Int)<=k
  lem:(W.length:Int)<=mo
theorem WInv.next {ns:List Int} {a mo s k:Int} {W:List Wy} (hl:ns.length<=63) (hs:s = 1\/s = 2\/s = 3) (hk:0<=k) (h:WInv mo s k W):WInv mo s (k + 1) (nxW ns a mo s k W):=by
  have old:∀ w ∈ W,∃ j:Int,0<=j/\j < k + 1/\w.1 = j / s/\w.2.1 = j % s/\1<=w.2.2/\w.2.2<=2:=fun w hw=>by
    obtain ⟨j,a,b,c⟩:=h.mem w hw
    exact ⟨j,a,by omega,c⟩
  by_cases c:(W.length:Int) < mo/\0 < dr ns (a + 2 + k) 4
  · rw [show nxW ns a mo s k W = W ++ [(k / s,k % s,1 + dr ns (a + 12 + k) 2)] from if_pos c]
    have g1:=dr_ge (ns:=ns) (a + 12 + k) 2 hl (by decide)
    have g2:=dr_lt (ns:=ns) (a + 12 + k) 2 hl (by decide)
    refine ⟨fun w hw=>?_,?_,?_,?_⟩
    · rcases List.mem_append.mp hw with hw | hw
      · exact old w hw
      · rw [List.mem_singleton] at hw
        subst hw
        exact ⟨k,hk,by omega,rfl,rfl,by simp only; omega,by simp only; omega⟩
    · refine List.pairwise_append.mpr ⟨h.ris,List.pairwise_singleton _ _,fun a ha b hb=>?_⟩
      rw [List.mem_singleton] at hb
      subst hb
      obtain ⟨j,_,b,c1,c2,_⟩:=h.mem a ha
      rw [c1,c2]
      exact dm_lt hs b
    · have:=h.len; rw [List.length_append,List.length_singleton]; omega
    · have:=c.1; rw [List.length_append,List.length_singleton]; omega
  · rw [show nxW ns a mo s k W = W from if_neg c]
    exact ⟨old,h.ris,by have:=h.len; omega,h.lem⟩
theorem lB_for {ns:List Int} {a mo m s:Int} (hl:ns.length<=63) (hs:s = 1\/s = 2\/s = 3):∀ (n k:Nat) {W:List Wy} {x8:Slot},k + n<=9->WInv mo s k W ->
    ∃ W' t8,forD (fSG 8) lB ((List.range' k n).map fun i=>PyData.int ((i:Nat):Int)) (st ns a mo m s .non (.own (W.map wayD)) x8 .non .non .non) = some (.nx (st ns a mo m s .non (.own (W'.map wayD)) t8 .non .non .non))/\(n = 0/\t8 = x8\/∃ d,t8 = .val d)/\WInv mo s ((k + n:Nat):Int) W'
  | 0,k,W,x8,hk,h=>⟨W,x8,rfl,.inl ⟨rfl,rfl⟩,h⟩
  | n + 1,k,W,x8,hk,h=>by
    have h':WInv mo s ((k + 1:Nat):Int) (nxW ns a mo s k W):=by
      have:=h.next (ns:=ns) (a:=a) hl hs (by omega)
      rwa [show ((k:Int) + 1) = ((k + 1:Nat):Int) by omega] at this
    obtain ⟨W',t8,e,q,b⟩:=lB_for hl hs n (k + 1) (W:=nxW ns a mo s k W) (x8:=.val (.int (k:Nat))) (by omega) h'
    refine ⟨W',t8,?_,.inr (q.elim (fun z=>⟨_,z.2⟩) id),by rw [show k + (n + 1) = k + 1 + n by omega]; exact b⟩
    have hsg:∀ d,fSG 8 (st ns a mo m s .non (.own (W.map wayD)) x8 .non .non .non) d = some (st ns a mo m s .non (.own (W.map wayD)) (.val d) .non .non .non):=fun d=>rfl
    rw [List.range'_succ,List.map_cons,forD,hsg,Option.bind_some,lB_run hl hs (by have:=h.len; omega)]
    exact e
theorem inG (W:List Wy) (i:Int) (hw:W.length<=20):fComp 1 [0] (fSeq (fVar 1)) (fG 0) (fB (f2 gEqD (f2 gIx (fVar 0) (fC (.int 0))) (fVar 1))) (f2 gIx (fVar 0) (fC (.int 1))) [some (.int i),some (.list (W.map wayD))] = some ((ofG W i).map PyData.int):=by
  rw [fComp_filter (ds:=W.map wayD) (p:=fun d=>decide (toI ((seqD d).getD 0 .none) = i)) (h:=fun d=>(seqD d).getD 1 .none) rfl (by rw [List.length_map]; omega) (fun d hd=>?_) fun d hd _=>?_]
  · rw [List.filter_map,List.map_map,ofG,List.map_map]; rfl
  · obtain ⟨w,_,rfl⟩:=List.mem_map.mp hd
    simp! [way_0,gEqD_int,gB_bool]
    rfl
  · obtain ⟨w,_,rfl⟩:=List.mem_map.mp hd
    simp! [way_1]
    rfl
theorem inT (W:List Wy) (i:Int) (hw:W.length<=20):fComp 1 [0] (fSeq (fVar 1)) (fG 0) (fB (f2 gEqD (f2 gIx (fVar 0) (fC (.int 1))) (fVar 1))) (f2 gIx (fVar 0) (fC (.int 0))) [some (.int i),some (.list (W.map wayD))] = some ((ofT W i).map PyData.int):=by
  rw [fComp_filter (ds:=W.map wayD) (p:=fun d=>decide (toI ((seqD d).getD 1 .none) = i)) (h:=fun d=>(seqD d).getD 0 .none) rfl (by rw [List.length_map]; omega) (fun d hd=>?_) fun d hd _=>?_]
  · rw [List.filter_map,List.map_map,ofT,List.map_map]; rfl
  · obtain ⟨w,_,rfl⟩:=List.mem_map.mp hd
    simp! [way_1,gEqD_int,gB_bool]
    rfl
  · obtain ⟨w,_,rfl⟩:=List.mem_map.mp hd
    simp! [way_0]
    rfl
theorem okR_nat {m:Nat} (hm:m<=1000):okR ((m:Nat):Int) = true:=by
  unfold okR
  rw [Bool.and_eq_true,decide_eq_true_eq,decide_eq_true_eq]
  have h1:(0:Int)<=(m:Int):=Int.natCast_nonneg m
  have h2:(m:Int)<=1000:=by omega
  exact ⟨Int.le_trans (by decide) h1,Int.lt_of_le_of_lt h2 (by decide)⟩
theorem gRange_n {j:Int} (h:okR j = true):gRange [.int j] = some ((List.range j.toNat).map fun i=>PyData.int ((i:Nat):Int)):=by
  rw [gRange,if_pos h]
theorem range_n {fi:Dl.Env->Option D} {ρ:Dl.Env} (m:Nat) (hm:m<=1000) (h:fi ρ = some (.int (m:Nat))):fRange (fCons fi fNil) ρ = some ((List.range m).map fun i=>PyData.int ((i:Nat):Int)):=by
  have e:fCons fi fNil ρ = some [.int ((m:Nat):Int)]:=by simp only [fCons,fNil,h,Option.bind_some,Option.map_some]
  have e2:fRange (fCons fi fNil) ρ = (fCons fi fNil ρ).bind gRange:=rfl
  rw [e2,e,Option.bind_some,gRange_n (okR_nat hm),Int.toNat_natCast]
theorem e_rowsG {W:List Wy} {m:Nat} {i7 i5:Nat} {ρ:Dl.Env} (hw:W.length<=20) (hm:m<=1000) (h5:fVar i5 ρ = some (.int (m:Nat))) (h7:(ρ[i7]?).getD none = some (.list (W.map wayD))) :
    fComp 1 [i7] (fRange (fCons (fVar i5) fNil)) (fG 0) (fun _=>some true) (fLs (fComp 1 [0] (fSeq (fVar 1)) (fG 0) (fB (f2 gEqD (f2 gIx (fVar 0) (fC (.int 0))) (fVar 1))) (f2 gIx (fVar 0) (fC (.int 1))))) ρ = some ((rowsG W m).map lstD):=by
  rw [fComp_map (h:=fun d=>lstD (ofG W (toI d))) (range_n m hm h5) (by rw [List.length_map,List.length_range]; omega) fun d hd=>?_]
  · rw [rowsG,List.map_map,List.map_map]; rfl
  · obtain ⟨i,_,rfl⟩:=List.mem_map.mp hd
    simp only [List.map_cons,List.map_nil,h7,fLs,inG W _ hw,Option.map_some,lstD,toI]
theorem e_rowsT {W:List Wy} {m:Nat} {i7 i5:Nat} {ρ:Dl.Env} (hw:W.length<=20) (hm:m<=1000) (h5:fVar i5 ρ = some (.int (m:Nat))) (h7:(ρ[i7]?).getD none = some (.list (W.map wayD))) :
    fComp 1 [i7] (fRange (fCons (fVar i5) fNil)) (fG 0) (fun _=>some true) (fLs (fComp 1 [0] (fSeq (fVar 1)) (fG 0) (fB (f2 gEqD (f2 gIx (fVar 0) (fC (.int 1))) (fVar 1))) (f2 gIx (fVar 0) (fC (.int 0))))) ρ = some ((rowsT W m).map lstD):=by
  rw [fComp_map (h:=fun d=>lstD (ofT W (toI d))) (range_n m hm h5) (by rw [List.length_map,List.length_range]; omega) fun d hd=>?_]
  · rw [rowsT,List.map_map,List.map_map]; rfl
  · obtain ⟨i,_,rfl⟩:=List.mem_map.mp hd
    simp only [List.map_cons,List.map_nil,h7,fLs,inT W _ hw,Option.map_some,lstD,toI]
noncomputable def plE (c:Int):Dl.Env->Option D:=(fTup (fCons (fCall 3 m__law_drawn (fCons (fVar 2) (fCons (f2 gAdd (f2 gAdd (fVar 3) (fC (.int c))) (fVar 0)) (fCons (fC (.int 4)) fNil)))) (fCons (fVar 1) fNil)))
theorem e_pl {ns:List Int} {a:Int} (c:Int) (hl:ns.length<=63):∀ (mine:List (List Int)) (k:Nat),compL (fG2 0 1) (fun _=>some true) (plE c) [none,none,some (scr ns),some (.int a)] (enumD k (mine.map rowD)) = some ((zipA (fun k=>dr ns (a + c + ((k:Nat):Int)) 4) k mine).map plcD)
  | [],k=>rfl
  | r :: mine,k=>by
    have hg:fG2 0 1 [none,none,some (scr ns),some (.int a)] (.tuple [.int ((k:Nat):Int),rowD r]) = some [some (.int ((k:Nat):Int)),some (rowD r),some (scr ns),some (.int a)]:=rfl
    have he:plE c [some (.int ((k:Nat):Int)),some (rowD r),some (scr ns),some (.int a)] = some (plcD (dr ns (a + c + ((k:Nat):Int)) 4,r)):=by
      simp! [plE,dr_eq (ns:=ns) (a + c + ((k:Nat):Int)) 4 hl (by decide),small2,plcD]
    have ih:=e_pl (a:=a) c hl mine (k + 1)
    rw [List.map_cons,enumD,compL,hg]
    simp only [Option.bind_some,if_true,he,ih,Option.map_some,zipA,List.map_cons]
theorem enumD_len:∀ (ds:List D) (k:Nat),(enumD k ds).length = ds.length
  | [],k=>rfl
  | d :: ds,k=>by rw [enumD,List.length_cons,List.length_cons,enumD_len ds]
theorem e_places {ns:List Int} {a c:Int} {i9:Nat} {ρ:Dl.Env} {mine:List (List Int)} (hl:ns.length<=63) (hm:mine.length<=1000) (h9:fVar i9 ρ = some (.list (mine.map rowD))) (h0:(ρ[0]?).getD none = some (scr ns)) (h1:(ρ[1]?).getD none = some (.int a)) :
    fCB gTuple (fCons (fLs (fComp 2 [0,1] (fEnum (fCons (fVar i9) fNil)) (fG2 0 1) (fun _=>some true) (plE c))) fNil) ρ = some (.tuple ((zipA (fun k=>dr ns (a + c + ((k:Nat):Int)) 4) 0 mine).map plcD)):=by
  have hi:fEnum (fCons (fVar i9) fNil) ρ = some (enumD 0 (mine.map rowD)):=by
    simp only [fEnum,fCons,fNil,h9,Option.bind_some,Option.map_some,gItems,oneOf,seqOf]
  have hc:fComp 2 [0,1] (fEnum (fCons (fVar i9) fNil)) (fG2 0 1) (fun _=>some true) (plE c) ρ = some ((zipA (fun k=>dr ns (a + c + ((k:Nat):Int)) 4) 0 mine).map plcD):=by
    simp only [fComp,hi,Option.bind_some,capsD,List.map_cons,List.map_nil,h0,h1,List.replicate,List.cons_append,List.nil_append,e_pl c hl]
    exact small_of (by rw [List.length_map,zipA_len]; omega)
  simp only [fCB,fCons,fNil,fLs,hc,Option.map_some,Option.bind_some,gTuple,gItems,oneOf,seqOf]
theorem gSeq_nx {g1 g2:SEnv->Option Out} {ρ ρ':SEnv} (h:g1 ρ = some (.nx ρ')):gSeq g1 g2 ρ = g2 ρ':=by
  simp only [gSeq,h,Option.bind_some]
theorem runB_rt {g:SEnv->Option Out} {n:Nat} {args:List D} {d:D} (h:g (args.map Slot.val ++ List.replicate (n - args.length) .non) = some (.rt d)):runB g n args = some d:=by
  simp only [runB,h,Option.map_some]
theorem f2_at {g:D->D->Option D} {fa fb:Dl.Env->Option D} {ρ:Dl.Env} {a b:D} (ha:fa ρ = some a) (hb:fb ρ = some b):f2 g fa fb ρ = g a b:=by
  simp only [f2,ha,hb,Option.bind_some]
theorem mul_ms {ns:List Int} {a mo:Int} {m s:Nat} (m1:m<=3) (s1:s<=3):f2 gMul (fVar 5) (fVar 6) (vFrz (st ns a mo m s .non (.own []) .non .non .non .non)) = some (.int ((m * s:Nat):Int)):=by
  have h:Dl.gMul (.int (m:Int)) (.int (s:Int)) = some (.int ((m:Int) * (s:Int))):=gMul_int (cmul_l (by omega))
  rw [f2_at (a:=.int (m:Int)) (b:=.int (s:Int)) rfl rfl,h,Int.natCast_mul]
theorem lB_all {ns:List Int} {a mo:Int} {m s:Nat} (m1:m<=3) (s1:s<=3) (hms:m * s<=9) {W:List Wy} {t8:Slot} (e: forD (fSG 8) lB ((List.range' 0 (m * s)).map fun i=>PyData.int ((i:Nat):Int)) (st ns a mo m s .non (.own (([]:List Wy).map wayD)) .non .non .non .non) = some (.nx (st ns a mo m s .non (.own (W.map wayD)) t8 .non .non .non))):gFor [5,6] (fRange (fCons (f2 gMul (fVar 5) (fVar 6)) fNil)) (fSG 8) lB (st ns a mo m s .non (.own []) .non .non .non .non) = some (.nx (st ns a mo m s .non (.own (W.map wayD)) t8 .non .non .non)):=by
  have hh:hand [5,6] 0 (st ns a mo m s .non (.own []) .non .non .non .non) = st ns a mo m s .non (.own []) .non .non .non .non:=rfl
  have hr:=range_n (fi:=f2 gMul (fVar 5) (fVar 6)) (ρ:=vFrz (st ns a mo m s .non (.own []) .non .non .non .non)) (m * s) (by omega) (mul_ms m1 s1)
  rw [List.range_eq_range'] at hr
  rw [List.map_nil] at e
  simp only [gFor,hh,hr,Option.bind_some]
  exact e
structure Few (mo:Int) (G T:List Pl) (W:List Wy):Prop where
  g3:G.length<=3
  t3:T.length<=3
  w2:∀ w ∈ W,w.2.2<=2
  ga:∀ p ∈ G,p.1<=3
  ta:∀ p ∈ T,p.1<=3
  wm:(W.length:Int)<=mo
theorem e_law_world1 {ns:List Int} {a mo:Int} (hl:ns.length<=63) (hmo:3 < mo) (c:dr ns (a + 64) 4 = 0):∃ G T W,m__law_world [scr ns,.int a,.int mo] = some (wdD G T W)/\Wd G T W/\Few mo G T W:=by
  have e64:=dr_eq (ns:=ns) (a + 64) 4 hl (by decide)
  have e65:=dr_all (ns:=ns) (a + 65) 2 hl (by decide)
  refine ⟨_,_,_,?_,wd_closed (c:=1 + dr ns (a + 65) 2) (by omega) (by omega),⟨by simp,by simp,by decide,fun p hp=>?_,fun p hp=>?_,by simp; omega⟩⟩
  rotate_left
  · simp only [List.mem_cons,List.not_mem_nil,or_false] at hp; rcases hp with rfl | rfl <;> (simp only; omega)
  · simp only [List.mem_cons,List.not_mem_nil,or_false] at hp; rcases hp with rfl | rfl <;> (simp only; omega)
  have s1:Dl.gSet 3 [0,1] (f2 gAdd (fC (.int 1)) (fCall 3 m__law_drawn (fCons (fVar 0) (fCons (f2 gAdd (fVar 1) (fC (.int 65))) (fCons (fC (.int 2)) fNil))))) [.val (scr ns),.val (.int a),.val (.int mo),.non,.non,.non,.non,.non,.non,.non,.non,.non] = some (.nx [.val (scr ns),.val (.int a),.val (.int mo),.val (.int (1 + dr ns (a + 65) 2)),.non,.non,.non,.non,.non,.non,.non,.non]) :=
    gSet_scal (d:=.int (1 + dr ns (a + 65) 2)) (by simp! [e65.1]) rfl
  generalize 1 + dr ns (a + 65) 2 = x at *
  have s2:Dl.gSet 4 [3] (fTup (fCons (fTup (fCons (fVar 3) (fCons (fTup (fCons (fC (.int 1)) (fCons (fC (.int 0)) fNil))) fNil))) (fCons (fTup (fCons (fVar 3) (fCons (fTup (fCons (fC (.int 0)) (fCons (fC (.int 1)) fNil))) fNil))) fNil))) [.val (scr ns),.val (.int a),.val (.int mo),.val (.int x),.non,.non,.non,.non,.non,.non,.non,.non] = some (.nx [.val (scr ns),.val (.int a),.val (.int mo),.val (.int x),.val (.tuple [plcD (x,[1,0]),plcD (x,[0,1])]),.non,.non,.non,.non,.non,.non,.non]) :=
    gSet_same (d:=.tuple [plcD (x,[1,0]),plcD (x,[0,1])]) (by simp! [small2]; rfl) rfl rfl rfl
  simp! [m__law_world,g__law_world,gGt_int,e64,c,gEqD_int,decide_true,gB_bool,show decide ((3:Int) < mo) = true from decide_eq_true hmo,s1,s2,small2,small3,show ∀ a b c d:D,small [a,b,c,d] = some [a,b,c,d] from fun _ _ _ _=>rfl]
  rfl
theorem e_law_world2 {ns:List Int} {a mo:Int} (hl:ns.length<=63) (hm0:0<=mo) (c:¬ (3 < mo/\dr ns (a + 64) 4 = 0)):∃ G T W,m__law_world [scr ns,.int a,.int mo] = some (wdD G T W)/\Wd G T W/\Few mo G T W:=by
  have e64:=dr_eq (ns:=ns) (a + 64) 4 hl (by decide)
  have em:=dr_all (ns:=ns) a 3 hl (by decide)
  have es:=dr_all (ns:=ns) (a + 1) 3 hl (by decide)
  obtain ⟨m,hm⟩:=Int.eq_ofNat_of_zero_le (show 0<=1 + dr ns a 3 by omega)
  obtain ⟨s,hs⟩:=Int.eq_ofNat_of_zero_le (show 0<=1 + dr ns (a + 1) 3 by omega)
  have m1:1<=m/\m<=3:=by omega
  have s1:1<=s/\s<=3:=by omega
  have hs':(s:Int) = 1\/(s:Int) = 2\/(s:Int) = 3:=by omega
  have hm':(m:Int) = 1\/(m:Int) = 2\/(m:Int) = 3:=by omega
  have t5:Dl.gSet 5 [0,1] (f2 gAdd (fC (.int 1)) (fCall 3 m__law_drawn (fCons (fVar 0) (fCons (fVar 1) (fCons (fC (.int 3)) fNil))))) [.val (scr ns),.val (.int a),.val (.int mo),.non,.non,.non,.non,.non,.non,.non,.non,.non] = some (.nx [.val (scr ns),.val (.int a),.val (.int mo),.non,.non,.val (.int (m:Nat)),.non,.non,.non,.non,.non,.non]) :=
    gSet_scal (d:=.int (m:Nat)) (by simp! [em.1,hm]) rfl
  have t6:Dl.gSet 6 [0,1] (f2 gAdd (fC (.int 1)) (fCall 3 m__law_drawn (fCons (fVar 0) (fCons (f2 gAdd (fVar 1) (fC (.int 1))) (fCons (fC (.int 3)) fNil))))) [.val (scr ns),.val (.int a),.val (.int mo),.non,.non,.val (.int (m:Nat)),.non,.non,.non,.non,.non,.non] = some (.nx (st ns a mo m s .non .non .non .non .non .non)) :=
    gSet_scal (d:=.int (s:Nat)) (by simp! [es.1,hs]) rfl
  have t7:gSetF 7 [] (fLst fNil) (st ns a mo m s .non .non .non .non .non .non) = some (.nx (st ns a mo m s .non (.own []) .non .non .non .non)):=by
    simp only [gSetF,hand_nil,fLst,fNil,Option.bind_some,small_nil,Option.map_some,List.set_cons_succ,List.set_cons_zero]
  have hms:m * s<=9:=Nat.mul_le_mul m1.2 s1.2
  have hms1:1<=m * s:=Nat.mul_le_mul m1.1 s1.1
  obtain ⟨W,t8,e,h8,I⟩:=lB_for (ns:=ns) (a:=a) (m:=m) (s:=s) hl hs' (m * s) 0 (W:=[]) (x8:=.non) (by omega) (mo:=mo) ⟨fun w hw=>(by cases hw),List.Pairwise.nil,by decide,hm0⟩
  rw [Nat.zero_add] at I
  obtain ⟨d8,rfl⟩:∃ d,t8 = .val d:=h8.elim (fun z=>by omega) id
  have hlen9:W.length<=9:=by have:=I.len; omega
  have tf:=lB_all m1.2 s1.2 hms e
  unfold lB at tf
  have hwl:W.length<=20:=by omega
  have wr:∀ w ∈ W,(0<=w.1/\w.1 < m)/\(0<=w.2.1/\w.2.1 < s)/\1<=w.2.2/\w.2.2<=9:=fun w hw=>by
    obtain ⟨j,j0,jk,ea,b,c1,c2⟩:=I.mem w hw
    have:=dm_rng hs' hm' j0 (by rw [<- Int.natCast_mul]; exact jk)
    rw [ea,b]
    exact ⟨this.1,this.2,c1,by omega⟩
  have lenG:∀ r ∈ rowsG W m,r.length<=1000:=fun r hr=>by
    obtain ⟨i,_,rfl⟩:=List.mem_map.mp hr
    rw [ofG,List.length_map]
    exact Nat.le_trans (List.length_filter_le _ _) (by omega)
  have lenT:∀ r ∈ rowsT W s,r.length<=1000:=fun r hr=>by
    obtain ⟨i,_,rfl⟩:=List.mem_map.mp hr
    rw [ofT,List.length_map]
    exact Nat.le_trans (List.length_filter_le _ _) (by omega)
  obtain ⟨mine,om,pm⟩:=e_orders (ns:=ns) (a:=a + 24) (rows:=rowsG W m) hl lenG (by rw [rowsG,List.length_map,List.length_range]; omega)
  obtain ⟨yours,oy,py⟩:=e_orders (ns:=ns) (a:=a + 40) (rows:=rowsT W s) hl lenT (by rw [rowsT,List.length_map,List.length_range]; omega)
  have lm:mine.length<=1000:=by rw [permL_len pm,rowsG,List.length_map,List.length_range]; omega
  have ly:yours.length<=1000:=by rw [permL_len py,rowsT,List.length_map,List.length_range]; omega
  have t9:Dl.gSet 9 [0,1,5,7] (fCall 3 m__law_orders (fCons (fVar 0) (fCons (f2 gAdd (fVar 1) (fC (.int 24))) (fCons (fLs (fComp 1 [7] (fRange (fCons (fVar 5) fNil)) (fG 0) (fun _=>some true) (fLs (fComp 1 [0] (fSeq (fVar 1)) (fG 0) (fB (f2 gEqD (f2 gIx (fVar 0) (fC (.int 0))) (fVar 1))) (f2 gIx (fVar 0) (fC (.int 1))))))) fNil)))) (st ns a mo m s .non (.own (W.map wayD)) (.val d8) .non .non .non) = some (.nx (st ns a mo m s .non (.val (.list (W.map wayD))) (.val d8) (.val (.list (mine.map rowD))) .non .non)):=by
    refine (gSet_same (ρ':=st ns a mo m s .non (.val (.list (W.map wayD))) (.val d8) .non .non .non) (d:=.list (mine.map rowD)) ?_ rfl rfl ?_).trans rfl
    · have q:=e_rowsG (ρ:=vAll (st ns a mo m s .non (.own (W.map wayD)) (.val d8) .non .non .non)) (i5:=5) (i7:=7) hwl (show m<=1000 by omega) rfl rfl
      simp only [fCall,fCons,fNil,fLs,q,Option.map_some,Option.bind_some]
      simp! [om]
    · simp only [st,vFrz,vAll,List.map_cons,List.map_nil]; rfl
  have t10:Dl.gSet 10 [0,1,6,7] (fCall 3 m__law_orders (fCons (fVar 0) (fCons (f2 gAdd (fVar 1) (fC (.int 40))) (fCons (fLs (fComp 1 [7] (fRange (fCons (fVar 6) fNil)) (fG 0) (fun _=>some true) (fLs (fComp 1 [0] (fSeq (fVar 1)) (fG 0) (fB (f2 gEqD (f2 gIx (fVar 0) (fC (.int 1))) (fVar 1))) (f2 gIx (fVar 0) (fC (.int 0))))))) fNil)))) (st ns a mo m s .non (.val (.list (W.map wayD))) (.val d8) (.val (.list (mine.map rowD))) .non .non) = some (.nx (st ns a mo m s .non (.val (.list (W.map wayD))) (.val d8) (.val (.list (mine.map rowD))) (.val (.list (yours.map rowD))) .non)):=by
    refine (gSet_same (ρ':=st ns a mo m s .non (.val (.list (W.map wayD))) (.val d8) (.val (.list (mine.map rowD))) .non .non) (d:=.list (yours.map rowD)) ?_ rfl ?_ ?_).trans rfl
    · have q:=e_rowsT (ρ:=vAll (st ns a mo m s .non (.val (.list (W.map wayD))) (.val d8) (.val (.list (mine.map rowD))) .non .non)) (i5:=6) (i7:=7) hwl (show s<=1000 by omega) rfl rfl
      simp only [fCall,fCons,fNil,fLs,q,Option.map_some,Option.bind_some]
      simp! [oy]
    · rfl
    · simp only [st,vFrz,vAll,List.map_cons,List.map_nil]; rfl
  have t11:Dl.gSet 11 [0,1,8,9] (fCB gTuple (fCons (fLs (fComp 2 [0,1] (fEnum (fCons (fVar 9) fNil)) (fG2 0 1) (fun _=>some true) (plE 56))) fNil)) (st ns a mo m s .non (.val (.list (W.map wayD))) (.val d8) (.val (.list (mine.map rowD))) (.val (.list (yours.map rowD))) .non) = some (.nx (st ns a mo m s .non (.val (.list (W.map wayD))) (.val d8) (.val (.list (mine.map rowD))) (.val (.list (yours.map rowD))) (.val (.tuple ((zipA (fun k=>dr ns (a + 56 + ((k:Nat):Int)) 4) 0 mine).map plcD))))):=by
    refine (gSet_same (ρ':=st ns a mo m s .non (.val (.list (W.map wayD))) (.val d8) (.val (.list (mine.map rowD))) (.val (.list (yours.map rowD))) .non) (e_places hl lm rfl rfl rfl) rfl rfl ?_).trans rfl
    simp only [st,vFrz,vAll,List.map_cons,List.map_nil]; rfl
  have t4:∀ G:D,Dl.gSet 4 [0,1,8,10] (fCB gTuple (fCons (fLs (fComp 2 [0,1] (fEnum (fCons (fVar 10) fNil)) (fG2 0 1) (fun _=>some true) (plE 60))) fNil)) (st ns a mo m s .non (.val (.list (W.map wayD))) (.val d8) (.val (.list (mine.map rowD))) (.val (.list (yours.map rowD))) (.val G)) = some (.nx (st ns a mo m s (.val (.tuple ((zipA (fun k=>dr ns (a + 60 + ((k:Nat):Int)) 4) 0 yours).map plcD))) (.val (.list (W.map wayD))) (.val d8) (.val (.list (mine.map rowD))) (.val (.list (yours.map rowD))) (.val G))):=fun G=>by
    refine (gSet_same (ρ':=st ns a mo m s .non (.val (.list (W.map wayD))) (.val d8) (.val (.list (mine.map rowD))) (.val (.list (yours.map rowD))) (.val G)) (e_places hl ly rfl rfl rfl) rfl rfl ?_).trans rfl
    simp only [st,vFrz,vAll,List.map_cons,List.map_nil]; rfl
  refine ⟨_,_,W,?_,wd_rows (f:=fun k=>dr ns (a + 56 + ((k:Nat):Int)) 4) (g:=fun k=>dr ns (a + 60 + ((k:Nat):Int)) 4) m1.1 (by omega) s1.1 (by omega) (fun k=>?_) (fun k=>?_) pm py wr I.ris (by omega),⟨by rw [zipA_len,permL_len pm,rowsG,List.length_map,List.length_range]; omega,by rw [zipA_len,permL_len py,rowsT,List.length_map,List.length_range]; omega,fun w hw=>(by obtain ⟨j,_,_,_,_,_,z⟩:=I.mem w hw; exact z),fun p hp=>?_,fun p hp=>?_,I.lem⟩⟩
  · unfold plE at t11 t4
    have tA:∀ g,gIf (fAndT (fB (f2 gGt (fVar 2) (fC (.int 3)))) (fB (f2 gEqD (fCall 3 m__law_drawn (fCons (fVar 0) (fCons (f2 gAdd (fVar 1) (fC (.int 64))) (fCons (fC (.int 4)) fNil)))) (fC (.int 0))))) g gNx [.val (scr ns),.val (.int a),.val (.int mo),.non,.non,.non,.non,.non,.non,.non,.non,.non] = some (.nx [.val (scr ns),.val (.int a),.val (.int mo),.non,.non,.non,.non,.non,.non,.non,.non,.non]):=fun g=>by
      by_cases c1:3 < mo
      · have c2:¬ dr ns (a + 64) 4 = 0:=fun z=>c ⟨c1,z⟩
        simp! [gGt_int,e64,c1,c2,gEqD_int,decide_false,decide_true,gB_bool,Bool.false_eq_true]
      · simp! [gGt_int,c1,decide_false,gB_bool,Bool.false_eq_true]
    refine runB_rt ?_
    show g__law_world [.val (scr ns),.val (.int a),.val (.int mo),.non,.non,.non,.non,.non,.non,.non,.non,.non] = _
    unfold g__law_world
    rw [gSeq_nx (tA _),gSeq_nx t5,gSeq_nx t6,gSeq_nx t7,gSeq_nx tf,gSeq_nx t9,gSeq_nx t10,gSeq_nx t11,gSeq_nx (t4 _)]
    simp! [small3,wdD]
  · have q:=dr_all (ns:=ns) (a + 56 + ((k:Nat):Int)) 4 hl (by decide)
    exact ⟨q.2.1,by omega⟩
  · have q:=dr_all (ns:=ns) (a + 60 + ((k:Nat):Int)) 4 hl (by decide)
    exact ⟨q.2.1,by omega⟩
  · obtain ⟨i,hi⟩:=List.getElem?_of_mem hp
    obtain ⟨r,_,rfl⟩:=zipA_get _ hi
    have q:=dr_all (ns:=ns) (a + 56 + ((0 + i:Nat):Int)) 4 hl (by decide)
    simp only; omega
  · obtain ⟨i,hi⟩:=List.getElem?_of_mem hp
    obtain ⟨r,_,rfl⟩:=zipA_get _ hi
    have q:=dr_all (ns:=ns) (a + 60 + ((0 + i:Nat):Int)) 4 hl (by decide)
    simp only; omega
theorem e_law_world {ns:List Int} {a mo:Int} (hl:ns.length<=63) (hm0:0<=mo):∃ G T W,m__law_world [scr ns,.int a,.int mo] = some (wdD G T W)/\Wd G T W/\Few mo G T W:=by
  by_cases c:3 < mo/\dr ns (a + 64) 4 = 0
  · exact e_law_world1 hl c.1 c.2
  · exact e_law_world2 hl hm0 c
noncomputable def sI (b:Bool):Int:=if b then 1 else 0
noncomputable def endI (b:Bool) (w:Wy):Int:=if b then w.2.1 else w.1
noncomputable def othI (b:Bool) (w:Wy):Int:=endI (!b) w
noncomputable def plcs (b:Bool) (G T:List Pl):List Pl:=if b then T else G
theorem wd_side (b:Bool) (G T:List Pl) (W:List Wy):gIx (wdD G T W) (.int (sI b)) = some (.tuple ((plcs b G T).map plcD)):=by cases b <;> rfl
theorem wd_ways (G T:List Pl) (W:List Wy):gIx (wdD G T W) (.int 2) = some (.tuple (W.map wayD)):=rfl
theorem way_end (b:Bool) (w:Wy):gIx (wayD w) (.int (sI b)) = some (.int (endI b w)):=by cases b <;> rfl
theorem way_oth (b:Bool) (w:Wy):gIx (wayD w) (.int (1 - sI b)) = some (.int (othI b w)):=by cases b <;> rfl
theorem way_lim (w:Wy):gIx (wayD w) (.int 2) = some (.int w.2.2):=rfl
theorem plc_amt (p:Pl):gIx (plcD p) (.int 0) = some (.int p.1):=rfl
theorem plc_lik (p:Pl):gIx (plcD p) (.int 1) = some (rowD p.2):=rfl
theorem ix_tup {ds:List D} {i:Nat} {d:D} (h:ds[i]? = some d):gIx (.tuple ds) (.int ((i:Nat):Int)) = some d:=by
  show atI ds (i:Nat) = _
  exact atI_nat h
theorem ix_lst {ds:List D} {i:Nat} {d:D} (h:ds[i]? = some d):gIx (.list ds) (.int ((i:Nat):Int)) = some d:=by
  show atI ds (i:Nat) = _
  exact atI_nat h
theorem ix_map {α:Type} {f:α->D} {l:List α} {i:Nat} {x:α} (h:l[i]? = some x):gIx (.tuple (l.map f)) (.int ((i:Nat):Int)) = some (f x):=ix_tup (by rw [List.getElem?_map,h]; rfl)
theorem ix_mapL {α:Type} {f:α->D} {l:List α} {i:Nat} {x:α} (h:l[i]? = some x):gIx (.list (l.map f)) (.int ((i:Nat):Int)) = some (f x):=ix_lst (by rw [List.getElem?_map,h]; rfl)
noncomputable def ofS (b:Bool) (W:List Wy) (p:Int):List Int:=(W.filter fun w=>decide (endI b w = p)).map (othI b)
theorem Wd.lik {G T:List Pl} {W:List Wy} (h:Wd G T W) {b:Bool} {i:Nat} {p:Pl} (e:(plcs b G T)[i]? = some p):p.2.Perm (ofS b W i):=by
  cases b
  · exact h.gl i p e
  · exact h.tl i p e
theorem Wd.nod {G T:List Pl} {W:List Wy} (h:Wd G T W) (b:Bool) (i:Int):(ofS b W i).Nodup:=by
  cases b
  · exact ofG_nodup h.wp i
  · exact ofT_nodup h.wp i
theorem compL_enum {tt:Dl.Env->Option Bool} {te:Dl.Env->Option D} {r:List (Option D)} {p:Nat->D->Bool} {h:Nat->D->D}:∀ {ds:List D} {k:Nat},
    (∀ i d,ds[i]? = some d->tt (some (.int ((k + i:Nat):Int)) :: some d :: r) = some (p (k + i) d)/\(p (k + i) d = true->te (some (.int ((k + i:Nat):Int)) :: some d :: r) = some (h (k + i) d))) ->
    compL (fG2 0 1) tt te (none :: none :: r) (enumD k ds) = some (((ds.zipIdx k).filter fun q=>p q.2 q.1).map fun q=>h q.2 q.1)
  | [],k,_=>rfl
  | d :: ds,k,hh=>by
    obtain ⟨h1,h2⟩:=hh 0 d rfl
    have ih:=compL_enum (ds:=ds) (k:=k + 1) fun i x hx=>by
      have:=hh (i + 1) x (by simpa using hx)
      rw [show k + 1 + i = k + (i + 1) by omega]
      exact this
    have hg:fG2 0 1 (none :: none :: r) (.tuple [.int ((k:Nat):Int),d]) = some (some (.int ((k:Nat):Int)) :: some d :: r):=by
      simp only [fG2,isFree,List.getElem?_cons_zero,List.getElem?_cons_succ,Option.getD_some,Option.isNone_none,and_self,if_true,List.set_cons_zero,List.set_cons_succ]
    rw [enumD,compL,hg,List.zipIdx_cons]
    simp only [Nat.add_zero] at h1 h2
    simp only [Option.bind_some,h1]
    cases hp:p k d with
    | true=>simp [h2 hp,ih,hp]
    | false=>simp [ih,hp]
theorem comp_enum {cs:List Nat} {fi:Dl.Env->Option (List D)} {tt:Dl.Env->Option Bool} {te:Dl.Env->Option D} {ρ:Dl.Env} {ds:List D} {p:Nat->D->Bool} {h:Nat->D->D} (hfi:fi ρ = some (enumD 0 ds)) (hl:ds.length<=1000)
    (hh:∀ i d,ds[i]? = some d->tt (some (.int ((i:Nat):Int)) :: some d :: cs.map fun j=>(ρ[j]?).getD none) = some (p i d)/\(p i d = true->te (some (.int ((i:Nat):Int)) :: some d :: cs.map fun j=>(ρ[j]?).getD none) = some (h i d))) :
    fComp 2 cs fi (fG2 0 1) tt te ρ = some ((ds.zipIdx.filter fun q=>p q.2 q.1).map fun q=>h q.2 q.1):=by
  have:=compL_enum (tt:=tt) (te:=te) (r:=cs.map fun j=>(ρ[j]?).getD none) (p:=p) (h:=h) (ds:=ds) (k:=0) (by simpa using hh)
  simp only [fComp,hfi,Option.bind_some,capsD,List.replicate,List.cons_append,List.nil_append,this]
  refine small_of ?_
  rw [List.length_map]
  refine Nat.le_trans (List.length_filter_le _ _) ?_
  rw [List.length_zipIdx]
  omega
theorem sorted_unique {α:Type} (f:α->Int):∀ {l m:List α},l.Perm m->(l.Pairwise fun a b=>f a<=f b)->(m.Pairwise fun a b=>f a < f b)->l = m
  | l,[],hp,_,_=>hp.eq_nil
  | [],x :: m,hp,_,_=>absurd hp.symm.eq_nil (by simp)
  | y :: l,x :: m,hp,h1,h2=>by
    rw [List.pairwise_cons] at h1 h2
    have e:y = x:=by
      have hx:x ∈ y :: l:=hp.mem_iff.mpr List.mem_cons_self
      rcases List.mem_cons.mp hx with z | hx
      · exact z.symm
      · have hy:y ∈ x :: m:=hp.mem_iff.mp List.mem_cons_self
        rcases List.mem_cons.mp hy with z | hy
        · exact z
        · have:=h1.1 x hx
          have:=h2.1 y hy
          omega
    subst e
    rw [sorted_unique f ((List.perm_cons y).mp hp) h1.2 h2.2]
theorem byP_sorted {α:Type} (z:Nat->Int) (l:List α) (d:α) (f:α->Int) (h:∀ i,i < l.length->z i = f (l.getD i d)):(byP z l d).Pairwise fun a b=>f a<=f b:=by
  unfold byP
  split
  · rename_i hl
    match l,hl with
    | [],_=>exact List.Pairwise.nil
    | [a],_=>exact List.pairwise_singleton _ _
  · rename_i hl
    obtain ⟨hp,hs⟩:=SP.sort_ok (z:=z) (n:=l.length) (by omega)
    rw [List.pairwise_map] at hs ⊢
    refine hs.imp_of_mem fun {i j} hi hj hij=>?_
    have hi':i < l.length:=by have:=hp.mem_iff.mp hi; simpa using this
    have hj':j < l.length:=by have:=hp.mem_iff.mp hj; simpa using this
    rw [<- h i hi',<- h j hj']
    exact hij
noncomputable def atW (W:List Wy) (i:Nat):Wy:=W.getD i (0,0,0)
theorem at_get {W:List Wy} {k:Nat} (hk:k < W.length):W[k] = atW W k:=by simp [atW,hk]
theorem at_get? {W:List Wy} {k:Nat} (hk:k < W.length):W[k]? = some (atW W k):=by rw [List.getElem?_eq_getElem hk,at_get hk]
noncomputable def own (b:Bool) (W:List Wy) (p:Int):List Nat:=(List.range W.length).filter fun i=>decide (endI b (atW W i) = p)
noncomputable def wIx (b:Bool) (W:List Wy) (p o:Int):Nat:=W.findIdx fun w=>decide (endI b w = p) && decide (othI b w = o)
noncomputable def wOf (b:Bool) (W:List Wy) (p:Int) (L:List Int):List Nat:=L.map (wIx b W p)
theorem own_mem {b:Bool} {W:List Wy} {p:Int} {i:Nat}:i ∈ own b W p ↔ i < W.length/\endI b (atW W i) = p:=by simp [own]
theorem map_range {α β:Type} (d:α) (f:α->β) (l:List α):(List.range l.length).map (fun i=>f (l.getD i d)) = l.map f:=by
  apply List.ext_getElem
  · simp
  · intro i h1 h2
    have:i < l.length:=by simpa using h2
    simp [this]
theorem filter_range {α:Type} (d:α) (q:α->Bool):∀ (l:List α),((List.range l.length).filter fun i=>q (l.getD i d)).map (fun i=>l.getD i d) = l.filter q:=by
  intro l
  have e:l = (List.range l.length).map fun i=>l.getD i d:=by
    have:=map_range d (fun x=>x) l
    simp at this
    simpa using this.symm
  conv=>rhs; rw [e]
  rw [List.filter_map]
  rfl
theorem own_oth (b:Bool) (W:List Wy) (p:Int):(own b W p).map (fun i=>othI b (atW W i)) = ofS b W p:=by
  unfold own ofS atW
  rw [<- filter_range (0,0,0) (fun w=>decide (endI b w = p)) W,List.map_map]
  rfl
theorem ris_inj {W:List Wy} (h:Ris W) {i j:Nat} (hi:i < W.length) (hj:j < W.length) (h1:(atW W i).1 = (atW W j).1) (h2:(atW W i).2.1 = (atW W j).2.1):i = j:=by
  have e:∀ k,k < W.length->W[k]? = some (atW W k):=fun k hk=>by simp [atW,hk]
  rcases Nat.lt_trichotomy i j with z | z | z
  · have:=List.pairwise_iff_getElem.mp h i j hi hj z
    have a:=e i hi
    have b:=e j hj
    rw [List.getElem?_eq_getElem hi] at a
    rw [List.getElem?_eq_getElem hj] at b
    rw [Option.some.inj a,Option.some.inj b] at this
    rcases this with z | z <;> omega
  · exact z
  · have:=List.pairwise_iff_getElem.mp h j i hj hi z
    have a:=e i hi
    have b:=e j hj
    rw [List.getElem?_eq_getElem hi] at a
    rw [List.getElem?_eq_getElem hj] at b
    rw [Option.some.inj a,Option.some.inj b] at this
    rcases this with z | z <;> omega
theorem ends_inj {W:List Wy} (h:Ris W) {b:Bool} {i j:Nat} (hi:i < W.length) (hj:j < W.length) (h1:endI b (atW W i) = endI b (atW W j)) (h2:othI b (atW W i) = othI b (atW W j)):i = j:=by
  cases b
  · exact ris_inj h hi hj h1 h2
  · exact ris_inj h hi hj h2 h1
theorem wIx_at {W:List Wy} (h:Ris W) {b:Bool} {p:Int} {i:Nat} (hi:i ∈ own b W p):wIx b W p (othI b (atW W i)) = i:=by
  obtain ⟨hl,he⟩:=own_mem.mp hi
  have hw:W[i] = atW W i:=by simp [atW,hl]
  unfold wIx
  have hlt:W.findIdx (fun w=>decide (endI b w = p) && decide (othI b w = othI b (atW W i))) < W.length:=by
    apply List.findIdx_lt_length_of_exists
    exact ⟨W[i],List.getElem_mem _,by rw [hw]; simp [he]⟩
  have hq:=List.findIdx_getElem (w:=hlt)
  rw [Bool.and_eq_true,decide_eq_true_eq,decide_eq_true_eq] at hq
  rw [at_get hlt] at hq
  exact ends_inj h hlt hl (by rw [hq.1,he]) hq.2
theorem wOf_perm {G T:List Pl} {W:List Wy} (h:Wd G T W) {b:Bool} {i:Nat} {p:Pl} (e:(plcs b G T)[i]? = some p):(wOf b W i p.2).Perm (own b W i):=by
  have h1:=(h.lik e).map (wIx b W i)
  rw [<- own_oth b W i,List.map_map] at h1
  have e2:(own b W i).map (wIx b W i ∘ fun j=>othI b (atW W j)) = own b W i:=by
    conv=>rhs; rw [<- List.map_id (own b W i)]
    exact List.map_congr_left fun j hj=>wIx_at h.wp hj
  rw [e2] at h1
  exact h1
theorem wIx_mem {G T:List Pl} {W:List Wy} (h:Wd G T W) {b:Bool} {i:Nat} {p:Pl} (e:(plcs b G T)[i]? = some p) {o:Int} (ho:o ∈ p.2):wIx b W i o < W.length/\endI b (atW W (wIx b W i o)) = i/\othI b (atW W (wIx b W i o)) = o:=by
  have hm:=(h.lik e).mem_iff.mp ho
  rw [<- own_oth b W i] at hm
  obtain ⟨j,hj,rfl⟩:=List.mem_map.mp hm
  rw [wIx_at h.wp hj]
  obtain ⟨h1,h2⟩:=own_mem.mp hj
  exact ⟨h1,h2,rfl⟩
noncomputable def kD (b:Bool) (W:List Wy) (L:List Int) (d:D):Int:=(L.findIdx fun o=>decide (o = othI b (atW W (toI d).toNat)):Nat)
theorem idxI_find:∀ {L:List Int} {x:Int},x ∈ L->idxI x L = some (L.findIdx fun o=>decide (o = x))
  | [],x,h=>by cases h
  | o :: L,x,h=>by
    unfold idxI
    by_cases e:o = x
    · simp [e,List.findIdx_cons]
    · rw [if_neg e]
      have hx:x ∈ L:=(List.mem_cons.mp h).resolve_left fun z=>e z.symm
      rw [idxI_find hx]
      simp [List.findIdx_cons,e]
theorem sort_own {G T:List Pl} {W:List Wy} (h:Wd G T W) {b:Bool} {i:Nat} {p:Pl} (e:(plcs b G T)[i]? = some p) (z:Nat->Int) (hz:∀ j,j < (own b W i).length->z j = kD b W p.2 (((own b W i).map fun n=>PyData.int ((n:Nat):Int)).getD j .none)) :
    byP z ((own b W i).map fun n=>PyData.int ((n:Nat):Int)) .none = (wOf b W i p.2).map fun n=>PyData.int ((n:Nat):Int):=by
  refine sorted_unique (kD b W p.2) ((byP_perm _ _ _).trans ((wOf_perm h e).symm.map _)) (byP_sorted z _ _ _ fun j hj=>hz j (by simpa using hj)) ?_
  have hn:p.2.Nodup:=(h.lik e).nodup_iff.mpr (h.nod b i)
  unfold wOf
  rw [List.map_map,List.pairwise_map]
  have key:∀ k (hk:k < p.2.length),kD b W p.2 (PyData.int ((wIx b W i p.2[k]:Nat):Int)) = (k:Nat):=fun k hk=>by
    obtain ⟨_,_,e3⟩:=wIx_mem h e (List.getElem_mem hk)
    unfold kD
    simp only [toI,Int.toNat_natCast,e3]
    congr 1
    rw [List.findIdx_eq (by exact hk)]
    refine ⟨by simp,fun j hj=>?_⟩
    have:=List.pairwise_iff_getElem.mp hn j k (by omega) hk hj
    simpa using this
  refine List.pairwise_iff_getElem.mpr fun j k hj hk hjk=>?_
  show kD b W p.2 (PyData.int ((wIx b W i p.2[j]:Nat):Int)) < kD b W p.2 (PyData.int ((wIx b W i p.2[k]:Nat):Int))
  rw [key j hj,key k hk]
  omega
noncomputable abbrev nD (n:Nat):D:=.int ((n:Nat):Int)
theorem keysL_map {te:Dl.Env->Option D} {ρ:Dl.Env} {h:D->D}:∀ {ds:List D},(∀ d ∈ ds,te (ρ.set 0 (some d)) = some (h d))->keysL te ρ ds = some (ds.map h)
  | [],_=>rfl
  | d :: ds,hh=>by
    unfold keysL
    rw [hh d List.mem_cons_self,Option.bind_some,keysL_map fun x hx=>hh x (List.mem_cons_of_mem _ hx)]
    rfl
theorem own_len (b:Bool) (W:List Wy) (p:Int):(own b W p).length<=W.length:=by
  unfold own
  refine Nat.le_trans (List.length_filter_le _ _) ?_
  rw [List.length_range]
  exact Nat.le_refl _
theorem zipIdx_own (b:Bool) (W:List Wy) (p:Int):(((W.map wayD).zipIdx.filter fun q=>decide (endI b (atW W q.2) = p)).map fun q=>nD q.2) = (own b W p).map nD:=by
  have e:(W.map wayD).zipIdx = (List.range W.length).map fun i=>(wayD (atW W i),i):=by
    apply List.ext_getElem
    · simp
    · intro i h1 h2
      have:i < W.length:=by simpa using h2
      simp [at_get this]
  rw [e,List.filter_map,List.map_map]
  rfl
theorem e_ways_of {G T:List Pl} {W:List Wy} (h:Wd G T W) {b:Bool} {i:Nat} {p:Pl} (e:(plcs b G T)[i]? = some p):m_ways_of [wdD G T W,.int (sI b),nD i] = some (.list ((wOf b W i p.2).map nD)):=by
  have hw:=h.wl
  have ep:gIx (.tuple ((plcs b G T).map plcD)) (nD i) = some (plcD p):=ix_map e
  have hl:=own_len b W i
  have t3:Dl.gSet 3 [0] (f2 gIx (fVar 0) (fC (.int 2))) [.val (wdD G T W),.val (.int (sI b)),.val (nD i),.non,.non,.non] = some (.nx [.val (wdD G T W),.val (.int (sI b)),.val (nD i),.val (.tuple (W.map wayD)),.non,.non]) :=
    gSet_same (d:=.tuple (W.map wayD)) rfl rfl rfl rfl
  have t4:Dl.gSet 4 [0,1,2] (f2 gIx (f2 gIx (f2 gIx (fVar 0) (fVar 1)) (fVar 2)) (fC (.int 1))) [.val (wdD G T W),.val (.int (sI b)),.val (nD i),.val (.tuple (W.map wayD)),.non,.non] = some (.nx [.val (wdD G T W),.val (.int (sI b)),.val (nD i),.val (.tuple (W.map wayD)),.val (rowD p.2),.non]):=by
    refine gSet_same (d:=rowD p.2) ?_ rfl rfl rfl
    rw [f2_at (a:=plcD p) (b:=.int 1) ?_ rfl,plc_lik]
    rw [f2_at (a:=.tuple ((plcs b G T).map plcD)) (b:=nD i) ?_ rfl,ep]
    rw [f2_at (a:=wdD G T W) (b:=.int (sI b)) rfl rfl,wd_side]
  have c5:fComp 2 [1,2] (fEnum (fCons (fVar 3) fNil)) (fG2 0 1) (fB (f2 gEqD (f2 gIx (fVar 1) (fVar 2)) (fVar 3))) (fVar 0) [some (wdD G T W),some (.int (sI b)),some (nD i),some (.tuple (W.map wayD)),some (rowD p.2),none] = some ((own b W i).map nD):=by
    rw [comp_enum (ds:=W.map wayD) (p:=fun j _=>decide (endI b (atW W j) = i)) (h:=fun j _=>nD j) rfl (by rw [List.length_map]; omega) fun j d hd=>?_,zipIdx_own]
    rw [List.getElem?_map] at hd
    obtain ⟨w,hw',rfl⟩:=Dl.map_some hd
    have hj:j < W.length:=(List.getElem?_eq_some_iff.mp hw').1
    rw [at_get? hj] at hw'
    cases hw'
    refine ⟨?_,fun _=>rfl⟩
    show fB (f2 gEqD (f2 gIx (fVar 1) (fVar 2)) (fVar 3)) [some (nD j),some (wayD (atW W j)),some (.int (sI b)),some (nD i)] = _
    simp only [fB]
    rw [f2_at (a:=.int (endI b (atW W j))) (b:=nD i) (by rw [f2_at (a:=wayD (atW W j)) (b:=.int (sI b)) rfl rfl,way_end]) rfl,gEqD_int]
    rfl
  have t5:gSetF 5 [1,2,3] (fComp 2 [1,2] (fEnum (fCons (fVar 3) fNil)) (fG2 0 1) (fB (f2 gEqD (f2 gIx (fVar 1) (fVar 2)) (fVar 3))) (fVar 0)) [.val (wdD G T W),.val (.int (sI b)),.val (nD i),.val (.tuple (W.map wayD)),.val (rowD p.2),.non] = some (.nx [.val (wdD G T W),.val (.int (sI b)),.val (nD i),.val (.tuple (W.map wayD)),.val (rowD p.2),.own ((own b W i).map nD)]):=by
    have hh:hand [1,2,3] 0 [Slot.val (wdD G T W),.val (.int (sI b)),.val (nD i),.val (.tuple (W.map wayD)),.val (rowD p.2),.non] = [Slot.val (wdD G T W),.val (.int (sI b)),.val (nD i),.val (.tuple (W.map wayD)),.val (rowD p.2),.non]:=rfl
    simp only [gSetF,hh,vFrz,List.map_cons,List.map_nil,Slot.frz,c5,Option.map_some,List.set_cons_succ,List.set_cons_zero]
  have hk:keysL (f2 gIx2 (fVar 3) (f2 gIx (f2 gIx (fVar 2) (fVar 0)) (f2 Dl.gSub (fC (.int 1)) (fVar 1)))) [none,some (.int (sI b)),some (.tuple (W.map wayD)),some (rowD p.2)] ((own b W i).map nD) = some (((own b W i).map nD).map fun d=>.int (kD b W p.2 d)):=by
    refine keysL_map fun d hd=>?_
    obtain ⟨j,hj,rfl⟩:=List.mem_map.mp hd
    obtain ⟨hjl,hje⟩:=own_mem.mp hj
    show f2 gIx2 (fVar 3) (f2 gIx (f2 gIx (fVar 2) (fVar 0)) (f2 Dl.gSub (fC (.int 1)) (fVar 1))) [some (nD j),some (.int (sI b)),some (.tuple (W.map wayD)),some (rowD p.2)] = _
    have ew:gIx (.tuple (W.map wayD)) (nD j) = some (wayD (atW W j)):=ix_map (at_get? hjl)
    rw [f2_at (a:=rowD p.2) (b:=.int (othI b (atW W j))) rfl ?_]
    · have hm:othI b (atW W j) ∈ p.2:=(h.lik e).mem_iff.mpr (by rw [<- own_oth]; exact List.mem_map.mpr ⟨j,hj,rfl⟩)
      simp only [gIx2,rowD,intsOf_map,Option.bind_some,idxI_find hm,Option.map_some,kD,toI,Int.toNat_natCast]
      first | rfl | (congr 3; funext o; congr)
    · rw [f2_at (a:=wayD (atW W j)) (b:=.int (1 - sI b)) ?_ ?_,way_oth]
      · rw [f2_at (a:=.tuple (W.map wayD)) (b:=nD j) rfl rfl,ew]
      · rw [f2_at (a:=.int 1) (b:=.int (sI b)) rfl rfl,gSub_int]
  have hi:intsOf (((own b W i).map nD).map fun d=>PyData.int (kD b W p.2 d)) = some (((own b W i).map nD).map (kD b W p.2)):=by
    rw [show (((own b W i).map nD).map fun d=>PyData.int (kD b W p.2 d)) = (((own b W i).map nD).map (kD b W p.2)).map PyData.int by simp only [List.map_map]; rfl,intsOf_map]
  have t6:gRet (fLs (fSortK [1,3,4] (fVar 5) (f2 gIx2 (fVar 3) (f2 gIx (f2 gIx (fVar 2) (fVar 0)) (f2 Dl.gSub (fC (.int 1)) (fVar 1)))))) [.val (wdD G T W),.val (.int (sI b)),.val (nD i),.val (.tuple (W.map wayD)),.val (rowD p.2),.own ((own b W i).map nD)] = some (.rt (.list ((wOf b W i p.2).map nD))):=by
    have es:fSortK [1,3,4] (fVar 5) (f2 gIx2 (fVar 3) (f2 gIx (f2 gIx (fVar 2) (fVar 0)) (f2 Dl.gSub (fC (.int 1)) (fVar 1)))) [some (wdD G T W),some (.int (sI b)),some (nD i),some (.tuple (W.map wayD)),some (rowD p.2),some (.list ((own b W i).map nD))] = some ((wOf b W i p.2).map nD):=by
      unfold fSortK
      show (keysL _ [none,some (.int (sI b)),some (.tuple (W.map wayD)),some (rowD p.2)] ((own b W i).map nD)).bind _ = _
      rw [hk,Option.bind_some,hi,Option.bind_some,if_pos (by rw [List.length_map]; omega),sort_own h e _ fun j hj=>?_]
      simp [hj]
    simp only [gRet,vAll,List.map_cons,List.map_nil,all_val,all_own,fLs,es,Option.map_some]
  refine runB_rt ?_
  show g_ways_of [.val (wdD G T W),.val (.int (sI b)),.val (nD i),.non,.non,.non] = _
  unfold g_ways_of
  rw [gSeq_nx t3,gSeq_nx t4,gSeq_nx t5,t6]
local macro_rules | `(tactic| dsimp! [$ts,*])=>`(tactic| simp only [fVar,fC,f1,f2,fCons,fNil,fCall,fCB,fCBF,fSeq,seqOf,fLs,fB,gB,fNotT,fAndT,fOrT,fEnum,vAll,vFrz,all_val,all_own,all_non,frz_val,frz_own,frz_non,List.map_cons,List.map_nil,List.getElem?_cons_zero,List.getElem?_cons_succ,Option.bind_some,Option.map_some,Option.getD_some,List.length_cons,List.length_nil,Nat.reduceAdd,Nat.zero_add,reduceIte,List.set_cons_succ,List.set_cons_zero,$ts,*])
theorem forD_map {S α:Type} {tgt:SEnv->D->Option SEnv} {gb:SEnv->Option Out} (R:S->SEnv->Prop) (f:α->D) (st:S->α->S):∀ {l:List α} {s:S} {ρ:SEnv},
    (∀ s ρ x,x ∈ l->R s ρ->∃ ρ1 ρ2,tgt ρ (f x) = some ρ1/\gb ρ1 = some (.nx ρ2)/\R (st s x) ρ2)->R s ρ->∃ ρ',forD tgt gb (l.map f) ρ = some (.nx ρ')/\R (l.foldl st s) ρ'
  | [],s,ρ,_,h=>⟨ρ,rfl,h⟩
  | d :: ds,s,ρ,hh,h=>by
    obtain ⟨ρ1,ρ2,e1,e2,h2⟩:=hh s ρ d List.mem_cons_self h
    obtain ⟨ρ',e3,h3⟩:=forD_map R f st (fun s ρ x hx=>hh s ρ x (List.mem_cons_of_mem _ hx)) h2
    refine ⟨ρ',?_,h3⟩
    rw [List.map_cons,forD,e1,Option.bind_some,e2]
    exact e3
theorem forD_first {α:Type} {tgt:SEnv->D->Option SEnv} {gb:SEnv->Option Out} (R:SEnv->Prop) (f:α->D) (q:α->Bool) (out:α->D):∀ {l:List α} {ρ:SEnv},
    (∀ ρ x,x ∈ l->R ρ->∃ ρ1,tgt ρ (f x) = some ρ1/\(q x = true->gb ρ1 = some (.rt (out x)))/\(q x = false->∃ ρ2,gb ρ1 = some (.nx ρ2)/\R ρ2))->R ρ ->
    (∀ x,l.find? q = some x->forD tgt gb (l.map f) ρ = some (.rt (out x)))/\(l.find? q = none->∃ ρ',forD tgt gb (l.map f) ρ = some (.nx ρ')/\R ρ')
  | [],ρ,_,h=>⟨fun x hx=>(by cases hx),fun _=>⟨ρ,rfl,h⟩⟩
  | x :: l,ρ,hh,h=>by
    obtain ⟨ρ1,e1,e2,e3⟩:=hh ρ x List.mem_cons_self h
    rw [List.map_cons,forD,e1,Option.bind_some]
    cases hq:q x with
    | true =>
      rw [List.find?_cons_of_pos (by simpa using hq),e2 hq]
      exact ⟨fun y hy=>(by cases hy; rfl),fun hn=>(by cases hn)⟩
    | false =>
      obtain ⟨ρ2,e4,h2⟩:=e3 hq
      rw [List.find?_cons_of_neg (by simp [hq]),e4]
      exact forD_first R f q out (fun ρ x hx=>hh ρ x (List.mem_cons_of_mem _ hx)) h2
theorem gFor_of {fz:List Nat} {fi:Dl.Env->Option (List D)} {tgt:SEnv->D->Option SEnv} {gb:SEnv->Option Out} {ρ ρ1:SEnv} {ds:List D} {o:Option Out} (h:forD tgt gb ds ρ1 = o) (hi:fi (vFrz ρ1) = some ds) (hh:hand fz 0 ρ = ρ1):gFor fz fi tgt gb ρ = o:=by
  simp only [gFor,hh,hi,Option.bind_some,h]
theorem setF_of {i:Nat} {fz:List Nat} {f:Dl.Env->Option (List D)} {ρ ρ':SEnv} {ds:List D} (hh:hand fz 0 ρ = ρ') (hf:f (vFrz ρ') = some ds):gSetF i fz f ρ = some (.nx (ρ'.set i (.own ds))):=by
  simp only [gSetF,hh,hf,Option.map_some]
theorem setF_same {i:Nat} {fz:List Nat} {f:Dl.Env->Option (List D)} {ρ:SEnv} {ds:List D} (hf:f (vFrz ρ) = some ds) (hh:hand fz 0 ρ = ρ):gSetF i fz f ρ = some (.nx (ρ.set i (.own ds))):=setF_of hh hf
theorem gSet_same' {i:Nat} {fz:List Nat} {f:Dl.Env->Option D} {ρ ρ':SEnv} (hh:hand fz 0 ρ = ρ') {d:D} (hA:f (vAll ρ) = some d) (hF:f (vFrz ρ') = some d) (hs:Dl.scal d = false):Dl.gSet i fz f ρ = some (.nx (ρ'.set i (.val d))):=by
  simp only [Dl.gSet,hA,Option.bind_some,hs,Bool.false_eq_true,if_false,hh,hF,Option.map_some]
theorem call_of {n:Nat} {m:List D->Option D} {fs:Dl.Env->Option (List D)} {ρ:Dl.Env} {ds:List D} {d:D} (h:m ds = some d) (hf:fs ρ = some ds) (hn:ds.length = n):fCall n m fs ρ = some d:=by
  unfold fCall
  rw [hf,Option.bind_some,if_pos hn,h]
theorem cons_of {f:Dl.Env->Option D} {fs:Dl.Env->Option (List D)} {ρ:Dl.Env} {d:D} {ds:List D} (h:f ρ = some d) (hs:fs ρ = some ds):fCons f fs ρ = some (d :: ds):=by
  unfold fCons
  rw [h,hs]
  rfl
theorem ret_of {f:Dl.Env->Option D} {ρ:SEnv} {d:D} (hf:f (vAll ρ) = some d):gRet f ρ = some (.rt d):=by
  simp only [gRet,hf,Option.map_some]
theorem exp_of {f:Dl.Env->Option D} {ρ:SEnv} {d:D} (hf:f (vAll ρ) = some d):gExp f ρ = some (.nx ρ):=by
  simp only [gExp,hf,Option.map_some]
theorem gIf_no {t:Dl.Env->Option Bool} {g:SEnv->Option Out} {ρ:SEnv} (h:t (vAll ρ) = some false):gIf t g gNx ρ = some (.nx ρ):=by
  simp [gIf,h,gNx]
theorem gIf_yes {t:Dl.Env->Option Bool} {g g2:SEnv->Option Out} {ρ:SEnv} (h:t (vAll ρ) = some true):gIf t g g2 ρ = g ρ:=by
  simp [gIf,h]
theorem seq_rt {g1 g2:SEnv->Option Out} {ρ:SEnv} {d:D} (h:g1 ρ = some (.rt d)):gSeq g1 g2 ρ = some (.rt d):=by
  simp only [gSeq,h,Option.bind_some]
theorem gSto_scal {i:Nat} {fz:List Nat} {fk f:Dl.Env->Option D} {ρ:SEnv} {d:D} {k:Nat} {ds:List D} (hf:f (vAll ρ) = some d) (hs:Dl.scal d = true) (hk:fk (vAll ρ) = some (nD k)) (ho:ρ[i]? = some (.own ds)) (hl:k < ds.length):gSto i fz fk f ρ = some (.nx (ρ.set i (.own (ds.set k d)))):=by
  have hx:ixN ds.length ((k:Nat):Int) = some k:=by
    unfold ixN
    rw [if_pos (Int.natCast_nonneg k),if_pos (by omega)]
    simp
  simp only [gSto,itemD,hf,Option.bind_some,hs,if_true,hk,gMut,ho,hx,Option.map_some]
noncomputable def lp {S:Type} (cont:S->Bool) (st:S->S):Nat->S->S
  | 0,s=>s
  | n + 1,s=>if cont s = true then lp cont st n (st s) else s
theorem whD_meas {S:Type} {t:Dl.Env->Option Bool} {gb:SEnv->Option Out} (R:S->SEnv->Prop) (cont:S->Bool) (st:S->S) (μ:S->Nat)
    (ht:∀ s ρ,R s ρ->t (vAll ρ) = some (cont s)) (hb:∀ s ρ,R s ρ->cont s = true->∃ ρ',gb ρ = some (.nx ρ')/\R (st s) ρ'/\μ (st s) < μ s) :
    ∀ (n:Nat) (s:S) (ρ:SEnv),μ s < n->R s ρ->∃ ρ',whD t gb n ρ = some (.nx ρ')/\R (lp cont st n s) ρ'/\cont (lp cont st n s) = false
  | 0,s,ρ,h,_=>absurd h (by omega)
  | n + 1,s,ρ,h,r=>by
    rw [whD,ht s ρ r,Option.bind_some,lp]
    cases hc:cont s with
    | false=>exact ⟨ρ,by simp,by simpa [hc] using r,by simpa [hc] using hc⟩
    | true =>
      obtain ⟨ρ',e,r',hm⟩:=hb s ρ r hc
      obtain ⟨ρ2,e2,r2,c2⟩:=whD_meas R cont st μ ht hb n (st s) ρ' (by omega) r'
      refine ⟨ρ2,?_,by simpa [hc] using r2,by simpa [hc] using c2⟩
      simp only [if_true,e,Option.bind_some]
      exact e2
theorem row_at {off:List Int} {i:Nat} (h:i < off.length):gIx (rowD off) (nD i) = some (.int (off.getD i 0)):=ix_map (f:=PyData.int) (l:=off) (by simp [h])
theorem lst_at {off:List Int} {i:Nat} (h:i < off.length):gIx (.list (off.map PyData.int)) (nD i) = some (.int (off.getD i 0)):=ix_mapL (f:=PyData.int) (l:=off) (by simp [h])
theorem way_at {W:List Wy} {i:Nat} (h:i < W.length):gIx (.tuple (W.map wayD)) (nD i) = some (wayD (atW W i)):=ix_map (at_get? h)
theorem min3 (a b c:Int):gMin [.int a,.int b,.int c] = some (.int (min (min a b) c)):=rfl
theorem set_map (l:List Int) (k:Nat) (v:Int):(l.map PyData.int).set k (.int v) = (l.set k v).map PyData.int:=by rw [List.map_set]
theorem tup_own (l:List Int):gTuple [.list (l.map PyData.int)] = some (rowD l):=rfl
theorem len_tup (l:List D):gLen [.tuple l] = some (nD l.length):=rfl
theorem len_row (l:List Int):gLen [rowD l] = some (nD l.length):=by
  show some (PyData.int ((l.map PyData.int).length:Nat)) = _
  rw [List.length_map]
theorem range_nat {n:Nat} (h:n<=1000):gRange [nD n] = some ((List.range n).map nD):=by
  rw [gRange_n (okR_nat h),Int.toNat_natCast]
theorem rng_of {fs:Dl.Env->Option (List D)} {ρ:Dl.Env} {n:Nat} (h:fs ρ = some [nD n]) (hn:n<=1000):fRange fs ρ = some ((List.range n).map nD):=by
  unfold fRange
  rw [h,Option.bind_some,range_nat hn]
theorem sub_int (i j:Int):Dl.gSub (.int i) (.int j) = some (.int (i - j)):=gSub_int i j
theorem zeros {fi:Dl.Env->Option (List D)} {ρ:Dl.Env} {ds:List D} (hfi:fi ρ = some ds) (hl:ds.length<=1000):fComp 1 [] fi (fG 0) (fun _=>some true) (fC (.int 0)) ρ = some ((List.replicate ds.length (0:Int)).map PyData.int):=by
  rw [fComp_map (h:=fun _=>.int 0) hfi (by omega) fun d hd=>rfl]
  simp [List.map_const']
theorem gRepF_of {ds:List D} {k:Int} (h1:okR k = true) (h2:ds.length * k.toNat<=sizeLine):gRepF ds (.int k) = some (List.replicate k.toNat ds).flatten:=by
  simp only [gRepF]
  rw [if_pos (And.intro h1 h2)]
theorem reps0:∀ n,(List.replicate n [PyData.int 0]).flatten = (List.replicate n (0:Int)).map PyData.int
  | 0=>rfl
  | n + 1=>by rw [List.replicate_succ,List.flatten_cons,reps0 n,List.replicate_succ]; rfl
theorem gRepF_nat {n:Nat} (hl:n<=1000):gRepF [.int 0] (nD n) = some ((List.replicate n (0:Int)).map PyData.int):=by
  rw [gRepF_of (okR_nat hl),Int.toNat_natCast,reps0]
  rw [Int.toNat_natCast,List.length_singleton,Nat.one_mul]
  exact Nat.le_trans hl (by decide)
theorem lst0 (ρ:Dl.Env):fLst (fCons (fC (.int 0)) fNil) ρ = some [.int 0]:=by
  simp only [fLst,fCons,fC,fNil,Option.bind_some,Option.map_some]
  exact small_of (by simp)
theorem zerosL {f:Dl.Env->Option D} {ρ:Dl.Env} {n:Nat} (hf:f ρ = some (nD n)) (hl:n<=1000):fRepF (fLst (fCons (fC (.int 0)) fNil)) f ρ = some ((List.replicate n (0:Int)).map PyData.int):=by
  have e:=gRepF_nat hl
  unfold fRepF
  rw [lst0,Option.bind_some,hf,Option.bind_some,e]
theorem compL_zip {r:List (Option D)}:∀ (a b:List Int),compL (fG2 0 1) (fun _=>some true) (f2 gAdd (fVar 0) (fVar 1)) (none :: none :: r) (zipD (a.map PyData.int) (b.map PyData.int)) = some ((List.zipWith (· + ·) a b).map PyData.int)
  | [],b=>by cases b <;> rfl
  | x :: a,[]=>rfl
  | x :: a,y :: b=>by
    have ih:=compL_zip (r:=r) a b
    have hg:fG2 0 1 (none :: none :: r) (.tuple [.int x,.int y]) = some (some (.int x) :: some (.int y) :: r):=by
      simp only [fG2,isFree,List.getElem?_cons_zero,List.getElem?_cons_succ,Option.getD_some,Option.isNone_none,and_self,if_true,List.set_cons_zero,List.set_cons_succ]
    rw [List.map_cons,List.map_cons,zipD,compL,hg,Option.bind_some]
    dsimp! [gAdd_int,ih,List.zipWith_cons_cons]
theorem comp_zip {fi:Dl.Env->Option (List D)} {ρ:Dl.Env} {a b:List Int} (hfi:fi ρ = some (zipD (a.map PyData.int) (b.map PyData.int))) (hl:a.length<=1000) :
    fComp 2 [] fi (fG2 0 1) (fun _=>some true) (f2 gAdd (fVar 0) (fVar 1)) ρ = some ((List.zipWith (· + ·) a b).map PyData.int):=by
  have:=compL_zip (r:=[]) a b
  simp only [fComp,hfi,Option.bind_some,capsD,List.replicate,List.map_nil,List.append_nil,this]
  refine small_of ?_
  rw [List.length_map,List.length_zipWith]
  omega
noncomputable def cV (W:List Wy) (off:List Int) (left:Int) (i:Nat):Int:=min (min (off.getD i 0) (atW W i).2.2) left
noncomputable def cSt (W:List Wy) (off:List Int) (s:Int × List Int) (i:Nat):Int × List Int:=(s.1 - cV W off s.1 i,s.2.set i (cV W off s.1 i))
noncomputable def chs (W:List Wy) (off:List Int) (amt:Int) (is:List Nat):List Int:=(is.foldl (cSt W off) (amt,List.replicate W.length 0)).2
theorem cSt_len (W:List Wy) (off:List Int):∀ (is:List Nat) (s:Int × List Int),(is.foldl (cSt W off) s).2.length = s.2.length
  | [],s=>rfl
  | i :: is,s=>by rw [List.foldl_cons,cSt_len W off is]; simp [cSt]
theorem chs_len (W:List Wy) (off:List Int) (amt:Int) (is:List Nat):(chs W off amt is).length = W.length:=by rw [chs,cSt_len]; simp
theorem wd_at {G T:List Pl} {W:List Wy} {b:Bool} {i:Nat} {p:Pl} (e:(plcs b G T)[i]? = some p):gIx (.tuple ((plcs b G T).map plcD)) (nD i) = some (plcD p):=ix_map e
theorem cB_run {G T:List Pl} {W:List Wy} {off:List Int} {d1 d2:D} {s:Int × List Int} {i:Nat} (hi:i < W.length) (ho:off.length = W.length) (hs:s.2.length = W.length) :
    (gSeq (gSto 4 [0,3,5,6] (fVar 6) (fCB gMin (fCons (f2 gIx (fVar 3) (fVar 6)) (fCons (f2 gIx (f2 gIx (f2 gIx (fVar 0) (fC (.int 2))) (fVar 6)) (fC (.int 2))) (fCons (fVar 5) fNil))))) (Dl.gSet 5 [4,5,6] (f2 Dl.gSub (fVar 5) (f2 gIx (fVar 4) (fVar 6))))) [.val (wdD G T W),.val d1,.val d2,.val (rowD off),.own (s.2.map PyData.int),.val (.int s.1),.val (nD i)] = some (.nx [.val (wdD G T W),.val d1,.val d2,.val (rowD off),.own ((cSt W off s i).2.map PyData.int),.val (.int (cSt W off s i).1),.val (nD i)]):=by
  have hv:(fCB gMin (fCons (f2 gIx (fVar 3) (fVar 6)) (fCons (f2 gIx (f2 gIx (f2 gIx (fVar 0) (fC (.int 2))) (fVar 6)) (fC (.int 2))) (fCons (fVar 5) fNil)))) (vAll [.val (wdD G T W),.val d1,.val d2,.val (rowD off),.own (s.2.map PyData.int),.val (.int s.1),.val (nD i)]) = some (.int (cV W off s.1 i)):=by
    dsimp! [row_at (show i < off.length by omega),wd_ways,way_at hi,way_lim,min3,cV]
  have t1:=gSto_scal (i:=4) (fz:=[0,3,5,6]) (fk:=fVar 6) (k:=i) (ds:=s.2.map PyData.int) hv rfl rfl rfl (by rw [List.length_map]; omega)
  rw [set_map] at t1
  rw [gSeq_nx t1]
  have hl:i < (s.2.set i (cV W off s.1 i)).length:=by rw [List.length_set]; omega
  have hg:(s.2.set i (cV W off s.1 i)).getD i 0 = cV W off s.1 i:=by
    have:i < s.2.length:=by omega
    simp [this]
  have hv2:(f2 Dl.gSub (fVar 5) (f2 gIx (fVar 4) (fVar 6))) (vAll ([.val (wdD G T W),.val d1,.val d2,.val (rowD off),.own (s.2.map PyData.int),.val (.int s.1),.val (nD i)].set 4 (.own ((s.2.set i (cV W off s.1 i)).map PyData.int)))) = some (.int (cSt W off s i).1):=by
    dsimp! [lst_at hl,sub_int,hg,cSt]
  rw [gSet_scal hv2 rfl]
  rfl
theorem e_chosen_by {G T:List Pl} {W:List Wy} {off:List Int} (h:Wd G T W) (ho:off.length = W.length) {b:Bool} {i:Nat} {p:Pl} (e:(plcs b G T)[i]? = some p) :
    m_chosen_by [wdD G T W,.int (sI b),nD i,rowD off] = some (rowD (chs W off p.1 (wOf b W i p.2))):=by
  have hw:W.length<=16:=h.wl
  have t4:gSetF 4 [0] (fComp 1 [] (fSeq (f2 gIx (fVar 0) (fC (.int 2)))) (fG 0) (fun _=>some true) (fC (.int 0))) [.val (wdD G T W),.val (.int (sI b)),.val (nD i),.val (rowD off),.non,.non,.non] = some (.nx [.val (wdD G T W),.val (.int (sI b)),.val (nD i),.val (rowD off),.own ((List.replicate W.length (0:Int)).map PyData.int),.non,.non]):=by
    have z:=zeros (fi:=fSeq (f2 gIx (fVar 0) (fC (.int 2)))) (ρ:=vFrz [.val (wdD G T W),.val (.int (sI b)),.val (nD i),.val (rowD off),.non,.non,.non]) (ds:=W.map wayD) rfl (by rw [List.length_map]; omega)
    rw [List.length_map] at z
    exact setF_of rfl z
  have t5:Dl.gSet 5 [0,1,2] (f2 gIx (f2 gIx (f2 gIx (fVar 0) (fVar 1)) (fVar 2)) (fC (.int 0))) [.val (wdD G T W),.val (.int (sI b)),.val (nD i),.val (rowD off),.own ((List.replicate W.length (0:Int)).map PyData.int),.non,.non] = some (.nx [.val (wdD G T W),.val (.int (sI b)),.val (nD i),.val (rowD off),.own ((List.replicate W.length (0:Int)).map PyData.int),.val (.int p.1),.non]) :=
    gSet_scal (d:=.int p.1) (by dsimp! [wd_side,wd_at (W:=W) e,plc_amt]) rfl
  obtain ⟨ρ',e3,hs',x,rfl⟩:=forD_map (tgt:=fSG 6) (gb:=(gSeq (gSto 4 [0,3,5,6] (fVar 6) (fCB gMin (fCons (f2 gIx (fVar 3) (fVar 6)) (fCons (f2 gIx (f2 gIx (f2 gIx (fVar 0) (fC (.int 2))) (fVar 6)) (fC (.int 2))) (fCons (fVar 5) fNil))))) (Dl.gSet 5 [4,5,6] (f2 Dl.gSub (fVar 5) (f2 gIx (fVar 4) (fVar 6)))))) (R:=fun s ρ=>s.2.length = W.length/\∃ x,ρ = [.val (wdD G T W),.val (.int (sI b)),.val (nD i),.val (rowD off),.own (s.2.map PyData.int),.val (.int s.1),x]) nD (cSt W off)
    (l:=wOf b W i p.2) (s:=(p.1,List.replicate W.length (0:Int))) (ρ:=[.val (wdD G T W),.val (.int (sI b)),.val (nD i),.val (rowD off),.own ((List.replicate W.length (0:Int)).map PyData.int),.val (.int p.1),.non])
    (fun s ρ j hj ⟨hs,x,hρ⟩=>by
      subst hρ
      obtain ⟨hjl,_⟩:=own_mem.mp ((wOf_perm h e).mem_iff.mp hj)
      refine ⟨_,_,rfl,cB_run hjl ho hs,?_,.val (nD j),rfl⟩
      simp [cSt,hs]) ⟨by simp,_,rfl⟩
  refine runB_rt ?_
  show g_chosen_by [.val (wdD G T W),.val (.int (sI b)),.val (nD i),.val (rowD off),.non,.non,.non] = _
  unfold g_chosen_by
  rw [gSeq_nx t4,gSeq_nx t5,gSeq_nx (gFor_of e3 (by dsimp! [e_ways_of h e]) rfl)]
  exact ret_of rfl
theorem foldl_one {S:Type} (q:Nat->Bool) (f:S->Nat->S) (j:Nat) (hq:∀ k,q k = true ↔ k = j):∀ (n:Nat) (s:S),(List.range n).foldl (fun s k=>if q k = true then f s k else s) s = if j < n then f s j else s
  | 0,s=>by simp
  | n + 1,s=>by
    rw [List.range_succ,List.foldl_append,foldl_one q f j hq n s,List.foldl_cons,List.foldl_nil]
    by_cases e:n = j
    · subst e
      rw [if_pos ((hq n).mpr rfl),if_neg (by omega),if_pos (by omega)]
    · have:¬ q n = true:=fun z=>e ((hq n).mp z)
      rw [if_neg this]
      by_cases hj:j < n
      · rw [if_pos hj,if_pos (by omega)]
      · rw [if_neg hj,if_neg (by omega)]
noncomputable def qW (b:Bool) (W:List Wy) (i:Nat) (o:Int) (k:Nat):Bool:=decide (endI b (atW W k) = i) && decide (othI b (atW W k) = o)
noncomputable def lcB:SEnv->Option Out:=gIf (fAndT (fB (f2 gEqD (f2 gIx (f2 gIx (f2 gIx (fVar 0) (fC (.int 2))) (fVar 7)) (fVar 1)) (fVar 2))) (fB (f2 gEqD (f2 gIx (f2 gIx (f2 gIx (fVar 0) (fC (.int 2))) (fVar 7)) (f2 Dl.gSub (fC (.int 1)) (fVar 1))) (fVar 6)))) (gSeq (gSto 4 [0,3,5,7] (fVar 7) (fCB gMin (fCons (fVar 5) (fCons (f2 gIx (fVar 3) (fVar 7)) (fCons (f2 gIx (f2 gIx (f2 gIx (fVar 0) (fC (.int 2))) (fVar 7)) (fC (.int 2))) fNil))))) (Dl.gSet 5 [4,5,7] (f2 Dl.gSub (fVar 5) (f2 gIx (fVar 4) (fVar 7))))) gNx
theorem lcB_run {G T:List Pl} {W:List Wy} {off:List Int} {b:Bool} {i:Nat} {o:Int} {s:Int × List Int} {k:Nat} (hk:k < W.length) (ho:off.length = W.length) (hs:s.2.length = W.length) :
    lcB [.val (wdD G T W),.val (.int (sI b)),.val (nD i),.val (rowD off),.own (s.2.map PyData.int),.val (.int s.1),.val (.int o),.val (nD k)] = some (.nx [.val (wdD G T W),.val (.int (sI b)),.val (nD i),.val (rowD off),.own ((if qW b W i o k = true then cSt W off s k else s).2.map PyData.int),.val (.int (if qW b W i o k = true then cSt W off s k else s).1),.val (.int o),.val (nD k)]):=by
  have hc:(fAndT (fB (f2 gEqD (f2 gIx (f2 gIx (f2 gIx (fVar 0) (fC (.int 2))) (fVar 7)) (fVar 1)) (fVar 2))) (fB (f2 gEqD (f2 gIx (f2 gIx (f2 gIx (fVar 0) (fC (.int 2))) (fVar 7)) (f2 Dl.gSub (fC (.int 1)) (fVar 1))) (fVar 6)))) (vAll [.val (wdD G T W),.val (.int (sI b)),.val (nD i),.val (rowD off),.own (s.2.map PyData.int),.val (.int s.1),.val (.int o),.val (nD k)]) = some (qW b W i o k):=by
    dsimp! [wd_ways,way_at hk,way_end,sub_int,way_oth,gEqD_int,qW]
    cases decide (endI b (atW W k) = i) <;> rfl
  unfold lcB
  cases hq:qW b W i o k with
  | false =>
    rw [hq] at hc
    rw [gIf_no hc]
    rfl
  | true =>
    rw [hq] at hc
    rw [gIf_yes hc]
    simp only [if_true]
    have hv:(fCB gMin (fCons (fVar 5) (fCons (f2 gIx (fVar 3) (fVar 7)) (fCons (f2 gIx (f2 gIx (f2 gIx (fVar 0) (fC (.int 2))) (fVar 7)) (fC (.int 2))) fNil)))) (vAll [.val (wdD G T W),.val (.int (sI b)),.val (nD i),.val (rowD off),.own (s.2.map PyData.int),.val (.int s.1),.val (.int o),.val (nD k)]) = some (.int (cV W off s.1 k)):=by
      dsimp! [row_at (show k < off.length by omega),wd_ways,way_at hk,way_lim,min3,cV]
      congr 2
      omega
    have t1:=gSto_scal (i:=4) (fz:=[0,3,5,7]) (fk:=fVar 7) (k:=k) (ds:=s.2.map PyData.int) hv rfl rfl rfl (by rw [List.length_map]; omega)
    rw [set_map] at t1
    rw [gSeq_nx t1]
    have hl:k < (s.2.set k (cV W off s.1 k)).length:=by rw [List.length_set]; omega
    have hg:(s.2.set k (cV W off s.1 k)).getD k 0 = cV W off s.1 k:=by
      have:k < s.2.length:=by omega
      simp [this]
    have hv2:(f2 Dl.gSub (fVar 5) (f2 gIx (fVar 4) (fVar 7))) (vAll ([.val (wdD G T W),.val (.int (sI b)),.val (nD i),.val (rowD off),.own (s.2.map PyData.int),.val (.int s.1),.val (.int o),.val (nD k)].set 4 (.own ((s.2.set k (cV W off s.1 k)).map PyData.int)))) = some (.int (cSt W off s k).1):=by
      dsimp! [lst_at hl,sub_int,hg,cSt]
    rw [gSet_scal hv2 rfl]
    rfl
theorem qW_iff {G T:List Pl} {W:List Wy} (h:Wd G T W) {b:Bool} {i:Nat} {p:Pl} (e:(plcs b G T)[i]? = some p) {o:Int} (ho:o ∈ p.2) {k:Nat} (hk:k < W.length):qW b W i o k = true ↔ k = wIx b W i o:=by
  obtain ⟨h1,h2,h3⟩:=wIx_mem h e ho
  unfold qW
  rw [Bool.and_eq_true,decide_eq_true_eq,decide_eq_true_eq]
  constructor
  · intro ⟨a,c⟩
    exact ends_inj h.wp hk h1 (by rw [a,h2]) (by rw [c,h3])
  · rintro rfl
    exact ⟨h2,h3⟩
theorem foldl_congr {S α:Type} {f g:S->α->S}:∀ {l:List α} {s:S},(∀ s x,x ∈ l->f s x = g s x)->l.foldl f s = l.foldl g s
  | [],s,_=>rfl
  | x :: l,s,h=>by
    rw [List.foldl_cons,List.foldl_cons,h s x List.mem_cons_self]
    exact foldl_congr fun s y hy=>h s y (List.mem_cons_of_mem _ hy)
theorem fold_way {G T:List Pl} {W:List Wy} (h:Wd G T W) {off:List Int} {b:Bool} {i:Nat} {p:Pl} (e:(plcs b G T)[i]? = some p) {o:Int} (ho:o ∈ p.2) (s:Int × List Int) :
    (List.range W.length).foldl (fun s k=>if qW b W i o k = true then cSt W off s k else s) s = cSt W off s (wIx b W i o):=by
  have h1:=(wIx_mem h e ho).1
  rw [foldl_congr (g:=fun s k=>if decide (k = wIx b W i o) = true then cSt W off s k else s) fun s k hk=>by
    have:=qW_iff h e ho (List.mem_range.mp hk)
    by_cases hq:qW b W i o k = true
    · rw [if_pos hq,if_pos (by simpa using this.mp hq)]
    · rw [if_neg hq,if_neg (by simpa using fun z=>hq (this.mpr z))]]
  rw [foldl_one (fun k=>decide (k = wIx b W i o)) (cSt W off) (wIx b W i o) (fun k=>by simp),if_pos h1]
theorem lc_t4 {G T:List Pl} {W:List Wy} {off:List Int} {d1 d2:D} (ho:off.length = W.length) (hw:W.length<=16):gSetF 4 [3] (fRepF (fLst (fCons (fC (.int 0)) fNil)) (fCB gLen (fCons (fVar 3) fNil))) [.val (wdD G T W),.val d1,.val d2,.val (rowD off),.non,.non,.non,.non] = some (.nx [.val (wdD G T W),.val d1,.val d2,.val (rowD off),.own ((List.replicate W.length (0:Int)).map PyData.int),.non,.non,.non]):=by
  rw [setF_same (zerosL (n:=W.length) ?_ (by omega)) rfl]
  · rfl
  · dsimp! [len_row,ho]
theorem lc_rng {n:Nat} {off:List Int} {r:Dl.Env} {a b c:Option D} (ho:off.length = n) (hw:n<=16):(fRange (fCons (fCB gLen (fCons (fVar 3) fNil)) fNil)) (a :: b :: c :: some (rowD off) :: r) = some ((List.range n).map nD):=by
  have e:(fCons (fCB gLen (fCons (fVar 3) fNil)) fNil) (a :: b :: c :: some (rowD off) :: r) = some [nD n]:=by
    dsimp! [len_row,ho]
  unfold fRange
  rw [e,Option.bind_some,range_nat (show n<=1000 by omega)]
theorem e_law_choice {G T:List Pl} {W:List Wy} {off:List Int} (h:Wd G T W) (ho:off.length = W.length) {b:Bool} {i:Nat} {p:Pl} (e:(plcs b G T)[i]? = some p) :
    m__law_choice [wdD G T W,.int (sI b),nD i,rowD off] = some (rowD (chs W off p.1 (wOf b W i p.2))):=by
  have hw:W.length<=16:=h.wl
  have t4:=lc_t4 (G:=G) (T:=T) (d1:=.int (sI b)) (d2:=nD i) ho hw
  have t5:Dl.gSet 5 [0,1,2] (f2 gIx (f2 gIx (f2 gIx (fVar 0) (fVar 1)) (fVar 2)) (fC (.int 0))) [.val (wdD G T W),.val (.int (sI b)),.val (nD i),.val (rowD off),.own ((List.replicate W.length (0:Int)).map PyData.int),.non,.non,.non] = some (.nx [.val (wdD G T W),.val (.int (sI b)),.val (nD i),.val (rowD off),.own ((List.replicate W.length (0:Int)).map PyData.int),.val (.int p.1),.non,.non]) :=
    gSet_scal (d:=.int p.1) (by dsimp! [wd_side,wd_at (W:=W) e,plc_amt]) rfl
  obtain ⟨ρ',e3,hs',x,y,rfl⟩:=forD_map (tgt:=fSG 6) (gb:=gFor [3] (fRange (fCons (fCB gLen (fCons (fVar 3) fNil)) fNil)) (fSG 7) lcB) (R:=fun s ρ=>s.2.length = W.length/\∃ x y,ρ = [.val (wdD G T W),.val (.int (sI b)),.val (nD i),.val (rowD off),.own (s.2.map PyData.int),.val (.int s.1),x,y]) PyData.int (fun s o=>cSt W off s (wIx b W i o))
    (l:=p.2) (s:=(p.1,List.replicate W.length (0:Int))) (ρ:=[.val (wdD G T W),.val (.int (sI b)),.val (nD i),.val (rowD off),.own ((List.replicate W.length (0:Int)).map PyData.int),.val (.int p.1),.non,.non])
    (fun s ρ o hm ⟨hs,x,y,hρ⟩=>by
      subst hρ
      obtain ⟨ρ2,e2,hs2,y2,rfl⟩:=forD_map (tgt:=fSG 7) (gb:=lcB) (R:=fun s ρ=>s.2.length = W.length/\∃ y,ρ = [.val (wdD G T W),.val (.int (sI b)),.val (nD i),.val (rowD off),.own (s.2.map PyData.int),.val (.int s.1),.val (.int o),y]) nD (fun s k=>if qW b W i o k = true then cSt W off s k else s)
        (l:=List.range W.length) (s:=s) (ρ:=[.val (wdD G T W),.val (.int (sI b)),.val (nD i),.val (rowD off),.own (s.2.map PyData.int),.val (.int s.1),.val (.int o),y])
        (fun s ρ k hk ⟨hs,y,hρ⟩=>by
          subst hρ
          refine ⟨_,_,rfl,lcB_run (List.mem_range.mp hk) ho hs,?_,.val (nD k),rfl⟩
          split
          · simp [cSt,hs]
          · exact hs) ⟨hs,_,rfl⟩
      rw [fold_way h e hm] at e2 hs2
      exact ⟨_,_,rfl,gFor_of e2 (lc_rng ho hw) rfl,hs2,_,_,rfl⟩) ⟨by simp,_,_,rfl⟩
  refine runB_rt ?_
  show g__law_choice [.val (wdD G T W),.val (.int (sI b)),.val (nD i),.val (rowD off),.non,.non,.non,.non] = _
  unfold g__law_choice
  rw [gSeq_nx t4,gSeq_nx t5]
  refine (gSeq_nx (gFor_of e3 (by dsimp! [wd_side,wd_at (W:=W) e,plc_lik,rowD]) rfl)).trans ?_
  rw [ret_of (d:=rowD (chs W off p.1 (wOf b W i p.2)))]
  dsimp! [tup_own]
  rw [chs,wOf,List.foldl_map]
noncomputable def plA (b:Bool) (G T:List Pl) (i:Nat):Pl:=(plcs b G T).getD i (0,[])
noncomputable def aSt (b:Bool) (G T:List Pl) (W:List Wy) (off s:List Int) (i:Nat):List Int:=List.zipWith (· + ·) s (chs W off (plA b G T i).1 (wOf b W i (plA b G T i).2))
noncomputable def allI (b:Bool) (G T:List Pl) (W:List Wy) (off:List Int):List Int:=(List.range (plcs b G T).length).foldl (aSt b G T W off) (List.replicate W.length 0)
theorem pl_get {b:Bool} {G T:List Pl} {i:Nat} (h:i < (plcs b G T).length):(plcs b G T)[i]? = some (plA b G T i):=by simp [plA,h]
theorem aSt_len {b:Bool} {G T:List Pl} {W:List Wy} {off s:List Int} {i:Nat} (h:s.length = W.length):(aSt b G T W off s i).length = W.length:=by
  unfold aSt
  rw [List.length_zipWith,chs_len,h,Nat.min_self]
theorem foldl_inv {S α:Type} {f:S->α->S} (R:S->Prop):∀ {l:List α} {s:S},(∀ s x,x ∈ l->R s->R (f s x))->R s->R (l.foldl f s)
  | [],s,_,h=>h
  | x :: l,s,hh,h=>by
    rw [List.foldl_cons]
    exact foldl_inv (l:=l) R (fun s y hy=>hh s y (List.mem_cons_of_mem _ hy)) (hh s x List.mem_cons_self h)
theorem all_len (b:Bool) (G T:List Pl) (W:List Wy) (off:List Int):(allI b G T W off).length = W.length :=
  foldl_inv (fun s:List Int=>s.length = W.length) (fun s i _ h=>aSt_len h) (by simp)
theorem Wd.pl {G T:List Pl} {W:List Wy} (h:Wd G T W) (b:Bool):(plcs b G T).length<=4:=by
  cases b
  · exact h.g4
  · exact h.t4
noncomputable def caB:SEnv->Option Out:=(gSeq (Dl.gSet 5 [0,1,2,4] (fCall 4 m_chosen_by (fCons (fVar 0) (fCons (fVar 1) (fCons (fVar 4) (fCons (fVar 2) fNil)))))) (gSetF 3 [3,5] (fComp 2 [] (fZip2 (fCons (fVar 3) (fCons (fVar 5) fNil))) (fG2 0 1) (fun _=>some true) (f2 gAdd (fVar 0) (fVar 1)))))
theorem e_chosen_by_all {G T:List Pl} {W:List Wy} {off:List Int} (h:Wd G T W) (ho:off.length = W.length) (b:Bool) :
    m_chosen_by_all [wdD G T W,.int (sI b),rowD off] = some (rowD (allI b G T W off)):=by
  have hw:W.length<=16:=h.wl
  have hp:=h.pl b
  have t3:gSetF 3 [0] (fComp 1 [] (fSeq (f2 gIx (fVar 0) (fC (.int 2)))) (fG 0) (fun _=>some true) (fC (.int 0))) [.val (wdD G T W),.val (.int (sI b)),.val (rowD off),.non,.non,.non] = some (.nx [.val (wdD G T W),.val (.int (sI b)),.val (rowD off),.own ((List.replicate W.length (0:Int)).map PyData.int),.non,.non]):=by
    have z:=zeros (fi:=fSeq (f2 gIx (fVar 0) (fC (.int 2)))) (ρ:=vFrz [.val (wdD G T W),.val (.int (sI b)),.val (rowD off),.non,.non,.non]) (ds:=W.map wayD) rfl (by rw [List.length_map]; omega)
    rw [List.length_map] at z
    exact setF_same z rfl
  obtain ⟨ρ',e3,hs',x,y,rfl⟩:=forD_map (tgt:=fSG 4) (gb:=caB) (R:=fun s ρ=>s.length = W.length/\∃ x y,ρ = [.val (wdD G T W),.val (.int (sI b)),.val (rowD off),.own (s.map PyData.int),x,y]) nD (aSt b G T W off)
    (l:=List.range (plcs b G T).length) (s:=List.replicate W.length (0:Int)) (ρ:=[.val (wdD G T W),.val (.int (sI b)),.val (rowD off),.own ((List.replicate W.length (0:Int)).map PyData.int),.non,.non])
    (fun s ρ i hi ⟨hs,x,y,hρ⟩=>by
      subst hρ
      have ei:=pl_get (List.mem_range.mp hi)
      have t1:Dl.gSet 5 [0,1,2,4] (fCall 4 m_chosen_by (fCons (fVar 0) (fCons (fVar 1) (fCons (fVar 4) (fCons (fVar 2) fNil))))) [.val (wdD G T W),.val (.int (sI b)),.val (rowD off),.own (s.map PyData.int),.val (nD i),y] = some (.nx [.val (wdD G T W),.val (.int (sI b)),.val (rowD off),.own (s.map PyData.int),.val (nD i),.val (rowD (chs W off (plA b G T i).1 (wOf b W i (plA b G T i).2)))]):=by
        refine gSet_same' (ρ':=[.val (wdD G T W),.val (.int (sI b)),.val (rowD off),.own (s.map PyData.int),.val (nD i),y]) rfl (d:=rowD (chs W off (plA b G T i).1 (wOf b W i (plA b G T i).2))) ?_ ?_ rfl
        · dsimp! [e_chosen_by h ho ei]
        · dsimp! [e_chosen_by h ho ei]
      have t2:gSetF 3 [3,5] (fComp 2 [] (fZip2 (fCons (fVar 3) (fCons (fVar 5) fNil))) (fG2 0 1) (fun _=>some true) (f2 gAdd (fVar 0) (fVar 1))) [.val (wdD G T W),.val (.int (sI b)),.val (rowD off),.own (s.map PyData.int),.val (nD i),.val (rowD (chs W off (plA b G T i).1 (wOf b W i (plA b G T i).2)))] = some (.nx [.val (wdD G T W),.val (.int (sI b)),.val (rowD off),.own ((aSt b G T W off s i).map PyData.int),.val (nD i),.val (rowD (chs W off (plA b G T i).1 (wOf b W i (plA b G T i).2)))]):=by
        refine setF_of (ρ':=[.val (wdD G T W),.val (.int (sI b)),.val (rowD off),.val (.list (s.map PyData.int)),.val (nD i),.val (rowD (chs W off (plA b G T i).1 (wOf b W i (plA b G T i).2)))]) rfl (ds:=(aSt b G T W off s i).map PyData.int) ?_
        exact comp_zip (a:=s) (b:=chs W off (plA b G T i).1 (wOf b W i (plA b G T i).2)) rfl (by omega)
      exact ⟨_,_,rfl,(gSeq_nx t1).trans t2,aSt_len hs,_,_,rfl⟩) ⟨by simp,_,_,rfl⟩
  refine runB_rt ?_
  show g_chosen_by_all [.val (wdD G T W),.val (.int (sI b)),.val (rowD off),.non,.non,.non] = _
  unfold g_chosen_by_all
  rw [gSeq_nx t3]
  refine (gSeq_nx (gFor_of e3 (rng_of (by dsimp! [wd_side,len_tup,List.length_map]) (by omega)) rfl)).trans ?_
  exact ret_of rfl
theorem le_t3 {G T:List Pl} {W:List Wy} {off:List Int} {d1:D} (ho:off.length = W.length) (hw:W.length<=16):gSetF 3 [2] (fRepF (fLst (fCons (fC (.int 0)) fNil)) (fCB gLen (fCons (fVar 2) fNil))) [.val (wdD G T W),.val d1,.val (rowD off),.non,.non] = some (.nx [.val (wdD G T W),.val d1,.val (rowD off),.own ((List.replicate W.length (0:Int)).map PyData.int),.non]):=by
  rw [setF_same (zerosL (n:=W.length) ?_ (by omega)) rfl]
  · rfl
  · dsimp! [len_row,ho]
theorem le_zip {G T:List Pl} {W:List Wy} {off s:List Int} (h:Wd G T W) (ho:off.length = W.length) {b:Bool} {i:Nat} {p:Pl} (e:(plcs b G T)[i]? = some p) :
    fZip2 (fCons (fVar 3) (fCons (fCall 4 m__law_choice (fCons (fVar 0) (fCons (fVar 1) (fCons (fVar 4) (fCons (fVar 2) fNil))))) fNil)) (vFrz [.val (wdD G T W),.val (.int (sI b)),.val (rowD off),.val (.list (s.map PyData.int)),.val (nD i)]) = some (zipD (s.map PyData.int) ((chs W off p.1 (wOf b W i p.2)).map PyData.int)):=by
  have e2:(fCons (fVar 3) (fCons (fCall 4 m__law_choice (fCons (fVar 0) (fCons (fVar 1) (fCons (fVar 4) (fCons (fVar 2) fNil))))) fNil)) (vFrz [.val (wdD G T W),.val (.int (sI b)),.val (rowD off),.val (.list (s.map PyData.int)),.val (nD i)]) = some [.list (s.map PyData.int),rowD (chs W off p.1 (wOf b W i p.2))]:=by
    have e3:(fCall 4 m__law_choice (fCons (fVar 0) (fCons (fVar 1) (fCons (fVar 4) (fCons (fVar 2) fNil))))) (vFrz [.val (wdD G T W),.val (.int (sI b)),.val (rowD off),.val (.list (s.map PyData.int)),.val (nD i)]) = some (rowD (chs W off p.1 (wOf b W i p.2))):=call_of (e_law_choice h ho e) rfl rfl
    exact cons_of rfl (cons_of e3 rfl)
  unfold fZip2
  rw [e2]
  rfl
theorem e_law_ends {G T:List Pl} {W:List Wy} {off:List Int} (h:Wd G T W) (ho:off.length = W.length) (b:Bool) :
    m__law_ends [wdD G T W,.int (sI b),rowD off] = some (rowD (allI b G T W off)):=by
  have hw:W.length<=16:=h.wl
  have hp:=h.pl b
  have t3:=le_t3 (G:=G) (T:=T) (d1:=.int (sI b)) ho hw
  obtain ⟨ρ',e3,hs',x,rfl⟩:=forD_map (tgt:=fSG 4) (gb:=(gSetF 3 [0,1,2,3,4] (fComp 2 [] (fZip2 (fCons (fVar 3) (fCons (fCall 4 m__law_choice (fCons (fVar 0) (fCons (fVar 1) (fCons (fVar 4) (fCons (fVar 2) fNil))))) fNil))) (fG2 0 1) (fun _=>some true) (f2 gAdd (fVar 0) (fVar 1))))) (R:=fun s ρ=>s.length = W.length/\∃ x,ρ = [.val (wdD G T W),.val (.int (sI b)),.val (rowD off),.own (s.map PyData.int),x]) nD (aSt b G T W off)
    (l:=List.range (plcs b G T).length) (s:=List.replicate W.length (0:Int)) (ρ:=[.val (wdD G T W),.val (.int (sI b)),.val (rowD off),.own ((List.replicate W.length (0:Int)).map PyData.int),.non])
    (fun s ρ i hi ⟨hs,x,hρ⟩=>by
      subst hρ
      have ei:=pl_get (List.mem_range.mp hi)
      have t2:gSetF 3 [0,1,2,3,4] (fComp 2 [] (fZip2 (fCons (fVar 3) (fCons (fCall 4 m__law_choice (fCons (fVar 0) (fCons (fVar 1) (fCons (fVar 4) (fCons (fVar 2) fNil))))) fNil))) (fG2 0 1) (fun _=>some true) (f2 gAdd (fVar 0) (fVar 1))) [.val (wdD G T W),.val (.int (sI b)),.val (rowD off),.own (s.map PyData.int),.val (nD i)] = some (.nx [.val (wdD G T W),.val (.int (sI b)),.val (rowD off),.own ((aSt b G T W off s i).map PyData.int),.val (nD i)]):=by
        refine setF_of (ρ':=[.val (wdD G T W),.val (.int (sI b)),.val (rowD off),.val (.list (s.map PyData.int)),.val (nD i)]) rfl (ds:=(aSt b G T W off s i).map PyData.int) ?_
        refine comp_zip (a:=s) (b:=chs W off (plA b G T i).1 (wOf b W i (plA b G T i).2)) ?_ (by omega)
        exact le_zip h ho ei
      exact ⟨_,_,rfl,t2,aSt_len hs,_,rfl⟩) ⟨by simp,_,rfl⟩
  refine runB_rt ?_
  show g__law_ends [.val (wdD G T W),.val (.int (sI b)),.val (rowD off),.non,.non] = _
  unfold g__law_ends
  rw [gSeq_nx t3]
  refine (gSeq_nx (gFor_of e3 (rng_of (by dsimp! [wd_side,len_tup,List.length_map]) (by omega)) rfl)).trans ?_
  exact ret_of rfl
theorem add_tup {xs ys:List D} (h:(xs ++ ys).length<=4000):Dl.gAdd (.tuple xs) (.tuple ys) = some (.tuple (xs ++ ys)):=by
  simp only [Dl.gAdd,g2I,gCat,small_of h,Option.map_some,Option.none_or,Option.some_or]
theorem tup1 {f:Dl.Env->Option D} {ρ:Dl.Env} {d:D} (h:f ρ = some d):fTup (fCons f fNil) ρ = some (.tuple [d]):=by
  simp only [fTup,fCons,fNil,h,Option.bind_some,Option.map_some]
  rw [small_of (by simp),Option.map_some]
theorem tup2 {f g:Dl.Env->Option D} {ρ:Dl.Env} {d e:D} (h:f ρ = some d) (h2:g ρ = some e):fTup (fCons f (fCons g fNil)) ρ = some (.tuple [d,e]):=by
  simp only [fTup,fCons,fNil,h,h2,Option.bind_some,Option.map_some]
  rw [small_of (by simp),Option.map_some]
theorem f2_of {g:D->D->Option D} {fa fb:Dl.Env->Option D} {ρ:Dl.Env} {a b c:D} (h:g a b = some c) (ha:fa ρ = some a) (hb:fb ρ = some b):f2 g fa fb ρ = some c:=by rw [f2_at ha hb,h]
theorem cut_to {f g:Dl.Env->Option D} {ρ:Dl.Env} {ds:List D} {k:Nat} (h:f ρ = some (.tuple ds)) (h2:g ρ = some (nD k)):fCut gCutA f fNoB (fBd g) ρ = some (.tuple (ds.take k)):=by
  simp only [fCut,h,fNoB,fBd,h2,Option.bind_some,gI,Option.map_some,gCutA,cut_take]
theorem cut_fr {f g:Dl.Env->Option D} {ρ:Dl.Env} {ds:List D} {k:Nat} (h:f ρ = some (.tuple ds)) (h2:g ρ = some (nD k)):fCut gCutA f (fBd g) fNoB ρ = some (.tuple (ds.drop k)):=by
  simp only [fCut,h,fNoB,fBd,h2,Option.bind_some,gI,Option.map_some,gCutA,cut_drop]
theorem ix0 (d:D) (ds:List D):gIx (.list (d :: ds)) (.int 0) = some d:=ix_lst (i:=0) rfl
theorem ix0T (d:D) (ds:List D):gIx (.tuple (d :: ds)) (.int 0) = some d:=ix_tup (i:=0) rfl
theorem ix1T (c d:D) (ds:List D):gIx (.tuple (c :: d :: ds)) (.int 1) = some d:=ix_tup (i:=1) rfl
theorem catL {f:Dl.Env->Option D} {fl:Dl.Env->Option (List D)} {ρ:Dl.Env} {xs ys:List D} (h:f ρ = some (.list xs)) (h2:fl ρ = some ys) (hl:(xs ++ ys).length<=4000):fLs (f2L gCatL f (fLs fl)) ρ = some (.list (xs ++ ys)):=by
  simp only [fLs,f2L,h,h2,Option.map_some,Option.bind_some,gCatL,small_of hl]
theorem set_cut (c:List Int) (i:Nat) (v:Int) (h:i < c.length):((c.map PyData.int).take i ++ [PyData.int v]) ++ (c.map PyData.int).drop (i + 1) = (c.set i v).map PyData.int:=by
  rw [List.set_eq_take_append_cons_drop,if_pos h]
  simp
theorem nD1 (i:Nat):Dl.gAdd (nD i) (.int 1) = some (nD (i + 1)):=by
  rw [gAdd_int]
  rfl
theorem e_replaced {c:List Int} {i:Nat} {v:Int} (h:i < c.length) (hl:c.length<=1000):m_replaced [rowD c,nD i,.int v] = some (rowD (c.set i v)):=by
  refine runB_rt ?_
  show g_replaced [.val (rowD c),.val (nD i),.val (.int v)] = _
  refine ret_of ?_
  refine f2_of (a:=.tuple ((c.map PyData.int).take i ++ [PyData.int v])) (b:=.tuple ((c.map PyData.int).drop (i + 1))) ?_ (f2_of (a:=.tuple ((c.map PyData.int).take i)) (b:=.tuple [.int v]) (add_tup ?_) (cut_to rfl rfl) (tup1 rfl)) (cut_fr rfl (f2_of (nD1 i) rfl rfl))
  · rw [add_tup,set_cut c i v h]
    · rfl
    · rw [set_cut c i v h]; simp; omega
  · simp; omega
theorem e_lowered {c:List Int} {i:Nat} {v:Int} (h:i < c.length) (hl:c.length<=1000):m_lowered [rowD c,nD i,.int v] = some (rowD (c.set i v)):=by
  refine runB_rt ?_
  show g_lowered [.val (rowD c),.val (nD i),.val (.int v)] = _
  exact ret_of (call_of (e_replaced h hl) rfl rfl)
noncomputable def limI (W:List Wy):List Int:=W.map fun w=>w.2.2
theorem lim_comp {G T:List Pl} {W:List Wy} (h:Wd G T W) {f:Dl.Env->Option D} {ρ:Dl.Env} (hf:f ρ = some (wdD G T W)):(fCB gTuple (fCons (fLs (fComp 1 [] (fSeq (f2 gIx f (fC (.int 2)))) (fG 0) (fun _=>some true) (f2 gIx (fVar 0) (fC (.int 2))))) fNil)) ρ = some (rowD (limI W)):=by
  have hw:=h.wl
  have hs:(fSeq (f2 gIx f (fC (.int 2)))) ρ = some (W.map wayD):=by
    unfold fSeq
    rw [f2_of (wd_ways G T W) hf rfl]
    rfl
  have e:fComp 1 [] (fSeq (f2 gIx f (fC (.int 2)))) (fG 0) (fun _=>some true) (f2 gIx (fVar 0) (fC (.int 2))) ρ = some ((limI W).map PyData.int):=by
    rw [fComp_map (h:=fun d=>.int (toI ((seqD d).getD 2 .none))) hs (by rw [List.length_map]; omega) fun d hd=>?_]
    · rw [limI,List.map_map,List.map_map]
      rfl
    · obtain ⟨w,hw',rfl⟩:=List.mem_map.mp hd
      rfl
  simp only [fCB,fCons,fNil,fLs,e,Option.map_some,Option.bind_some,tup_own]
theorem e_limits {G T:List Pl} {W:List Wy} (h:Wd G T W):m_limits [wdD G T W] = some (rowD (limI W)):=by
  refine runB_rt ?_
  show g_limits [.val (wdD G T W)] = _
  exact ret_of (lim_comp h rfl)
theorem lim_len (W:List Wy):(limI W).length = W.length:=by simp [limI]
noncomputable def keI (G T:List Pl) (W:List Wy) (c:List Int):List Int:=allI true G T W (allI false G T W c)
noncomputable def qR (G T:List Pl) (W:List Wy) (c:List Int) (k:Nat):Bool:=decide ((keI G T W c).getD k 0 < (allI false G T W c).getD k 0)
noncomputable def rfI (G T:List Pl) (W:List Wy) (c:List Int):Option (Nat × Int):=((List.range W.length).find? (qR G T W c)).map fun k=>(k,(keI G T W c).getD k 0)
noncomputable def rfD:Option (Nat × Int)->D
  | none=>.none
  | some p=>.tuple [nD p.1,.int p.2]
theorem enum_zip:∀ (ds:List D) (k:Nat),enumD k ds = (ds.zipIdx k).map fun q=>.tuple [nD q.2,q.1]
  | [],k=>rfl
  | d :: ds,k=>by rw [enumD,enum_zip ds (k + 1),List.zipIdx_cons]; rfl
theorem enum_ints (l:List Int):enumD 0 (l.map PyData.int) = (List.range l.length).map fun k=>.tuple [nD k,.int (l.getD k 0)]:=by
  rw [enum_zip]
  apply List.ext_getElem
  · simp
  · intro i h1 h2
    have:i < l.length:=by simpa using h2
    simp [this]
theorem ke_len (G T:List Pl) (W:List Wy) (c:List Int):(keI G T W c).length = W.length:=all_len _ _ _ _ _
noncomputable def rfB:SEnv->Option Out:=(gIf (fB (f2 gLt (fVar 5) (f2 gIx (fVar 2) (fVar 4)))) (gRet (fTup (fCons (fVar 4) (fCons (fVar 5) fNil)))) gNx)
theorem e_refused {G T:List Pl} {W:List Wy} {c:List Int} (h:Wd G T W) (ho:c.length = W.length):m_refused [wdD G T W,rowD c] = some (rfD (rfI G T W c)):=by
  have hw:W.length<=16:=h.wl
  have t2:Dl.gSet 2 [0,1] (fCall 3 m_chosen_by_all (fCons (fVar 0) (fCons (fC (.int 0)) (fCons (fVar 1) fNil)))) [.val (wdD G T W),.val (rowD c),.non,.non,.non,.non] = some (.nx [.val (wdD G T W),.val (rowD c),.val (rowD (allI false G T W c)),.non,.non,.non]) :=
    gSet_same (call_of (e_chosen_by_all h ho false) rfl rfl) rfl rfl rfl
  have t3:Dl.gSet 3 [0,2] (fCall 3 m_chosen_by_all (fCons (fVar 0) (fCons (fC (.int 1)) (fCons (fVar 2) fNil)))) [.val (wdD G T W),.val (rowD c),.val (rowD (allI false G T W c)),.non,.non,.non] = some (.nx [.val (wdD G T W),.val (rowD c),.val (rowD (allI false G T W c)),.val (rowD (keI G T W c)),.non,.non]) :=
    gSet_same (call_of (e_chosen_by_all h (all_len _ _ _ _ _) true) rfl rfl) rfl rfl rfl
  have hl:=forD_first (tgt:=fSG2 4 5) (gb:=rfB) (R:=fun ρ=>∃ x y,ρ = [.val (wdD G T W),.val (rowD c),.val (rowD (allI false G T W c)),.val (rowD (keI G T W c)),x,y]) (fun k=>.tuple [nD k,.int ((keI G T W c).getD k 0)]) (qR G T W c) (fun k=>.tuple [nD k,.int ((keI G T W c).getD k 0)])
    (l:=List.range W.length) (ρ:=[.val (wdD G T W),.val (rowD c),.val (rowD (allI false G T W c)),.val (rowD (keI G T W c)),.non,.non])
    (fun ρ k hk ⟨x,y,hρ⟩=>by
      subst hρ
      have hk':k < (allI false G T W c).length:=by rw [all_len]; exact List.mem_range.mp hk
      have hc:(fB (f2 gLt (fVar 5) (f2 gIx (fVar 2) (fVar 4)))) (vAll [.val (wdD G T W),.val (rowD c),.val (rowD (allI false G T W c)),.val (rowD (keI G T W c)),.val (nD k),.val (.int ((keI G T W c).getD k 0))]) = some (qR G T W c k):=by
        dsimp! [row_at hk',gLt_int,qR]
      refine ⟨[.val (wdD G T W),.val (rowD c),.val (rowD (allI false G T W c)),.val (rowD (keI G T W c)),.val (nD k),.val (.int ((keI G T W c).getD k 0))],rfl,fun hq=>?_,fun hq=>?_⟩
      · rw [hq] at hc
        unfold rfB
        rw [gIf_yes hc]
        exact ret_of (tup2 rfl rfl)
      · rw [hq] at hc
        unfold rfB
        rw [gIf_no hc]
        exact ⟨_,rfl,_,_,rfl⟩) ⟨_,_,rfl⟩
  have hi:(fEnum (fCons (fVar 3) fNil)) (vFrz [.val (wdD G T W),.val (rowD c),.val (rowD (allI false G T W c)),.val (rowD (keI G T W c)),.non,.non]) = some ((List.range W.length).map fun k=>.tuple [nD k,.int ((keI G T W c).getD k 0)]):=by
    have:=enum_ints (keI G T W c)
    rw [ke_len] at this
    rw [<- this]
    rfl
  refine runB_rt ?_
  show g_refused [.val (wdD G T W),.val (rowD c),.non,.non,.non,.non] = _
  unfold g_refused
  rw [gSeq_nx t2,gSeq_nx t3]
  unfold rfI
  cases hq:(List.range W.length).find? (qR G T W c) with
  | some k =>
    exact seq_rt (gFor_of (hl.1 k hq) hi rfl)
  | none =>
    obtain ⟨ρ',e,x,y,rfl⟩:=hl.2 hq
    exact (gSeq_nx (gFor_of e hi rfl)).trans (ret_of rfl)
theorem e_law_refused {G T:List Pl} {W:List Wy} {c:List Int} (h:Wd G T W) (ho:c.length = W.length):m__law_refused_first [wdD G T W,rowD c] = some (rfD (rfI G T W c)):=by
  have hw:W.length<=16:=h.wl
  have t2:Dl.gSet 2 [0,1] (fCall 3 m__law_ends (fCons (fVar 0) (fCons (fC (.int 0)) (fCons (fVar 1) fNil)))) [.val (wdD G T W),.val (rowD c),.non,.non,.non] = some (.nx [.val (wdD G T W),.val (rowD c),.val (rowD (allI false G T W c)),.non,.non]) :=
    gSet_same (call_of (e_law_ends h ho false) rfl rfl) rfl rfl rfl
  have t3:Dl.gSet 3 [0,2] (fCall 3 m__law_ends (fCons (fVar 0) (fCons (fC (.int 1)) (fCons (fVar 2) fNil)))) [.val (wdD G T W),.val (rowD c),.val (rowD (allI false G T W c)),.non,.non] = some (.nx [.val (wdD G T W),.val (rowD c),.val (rowD (allI false G T W c)),.val (rowD (keI G T W c)),.non]) :=
    gSet_same (call_of (e_law_ends h (all_len _ _ _ _ _) true) rfl rfl) rfl rfl rfl
  have hi:(fRange (fCons (fCB gLen (fCons (fVar 1) fNil)) fNil)) (vFrz [.val (wdD G T W),.val (rowD c),.val (rowD (allI false G T W c)),.val (rowD (keI G T W c)),.non]) = some ((List.range W.length).map nD) :=
    rng_of (by dsimp! [len_row,ho]) (by omega)
  have t4:gSetF 4 [1,2,3] (fComp 1 [2,3] (fRange (fCons (fCB gLen (fCons (fVar 1) fNil)) fNil)) (fG 0) (fB (f2 gLt (f2 gIx (fVar 2) (fVar 0)) (f2 gIx (fVar 1) (fVar 0)))) (fTup (fCons (fVar 0) (fCons (f2 gIx (fVar 2) (fVar 0)) fNil)))) [.val (wdD G T W),.val (rowD c),.val (rowD (allI false G T W c)),.val (rowD (keI G T W c)),.non] = some (.nx [.val (wdD G T W),.val (rowD c),.val (rowD (allI false G T W c)),.val (rowD (keI G T W c)),.own (((List.range W.length).filter (qR G T W c)).map fun k=>.tuple [nD k,.int ((keI G T W c).getD k 0)])]):=by
    refine setF_same ?_ rfl
    have hp:∀ d ∈ (List.range W.length).map nD,(fB (f2 gLt (f2 gIx (fVar 2) (fVar 0)) (f2 gIx (fVar 1) (fVar 0)))) [some d,some (rowD (allI false G T W c)),some (rowD (keI G T W c))] = some (qR G T W c (toI d).toNat):=fun d hd=>by
      obtain ⟨k,hk,rfl⟩:=List.mem_map.mp hd
      have hk1:k < (allI false G T W c).length:=by rw [all_len]; exact List.mem_range.mp hk
      have hk2:k < (keI G T W c).length:=by rw [ke_len]; exact List.mem_range.mp hk
      dsimp! [row_at hk1,row_at hk2,gLt_int,qR,toI,Int.toNat_natCast]
      rfl
    have hh:∀ d ∈ (List.range W.length).map nD,qR G T W c (toI d).toNat = true->(fTup (fCons (fVar 0) (fCons (f2 gIx (fVar 2) (fVar 0)) fNil))) [some d,some (rowD (allI false G T W c)),some (rowD (keI G T W c))] = some (.tuple [d,.int ((keI G T W c).getD (toI d).toNat 0)]):=fun d hd _=>by
      obtain ⟨k,hk,rfl⟩:=List.mem_map.mp hd
      have hk2:k < (keI G T W c).length:=by rw [ke_len]; exact List.mem_range.mp hk
      refine tup2 rfl ?_
      dsimp! [row_at hk2,toI,Int.toNat_natCast]
    rw [fComp_filter (p:=fun d=>qR G T W c (toI d).toNat) (h:=fun d=>.tuple [d,.int ((keI G T W c).getD (toI d).toNat 0)]) hi (by simp; omega) hp hh]
    rw [List.filter_map,List.map_map]
    simp only [Function.comp_def,toI,Int.toNat_natCast]
  refine runB_rt ?_
  show g__law_refused_first [.val (wdD G T W),.val (rowD c),.non,.non,.non] = _
  unfold g__law_refused_first
  rw [gSeq_nx t2,gSeq_nx t3,gSeq_nx t4]
  refine ret_of ?_
  have hz:(((List.range W.length).filter (qR G T W c)).map fun k=>PyData.tuple [nD k,.int ((keI G T W c).getD k 0)]).length<=W.length:=by
    rw [List.length_map]
    exact Nat.le_trans (List.length_filter_le _ _) (by simp)
  have hf:(fLs (f2L gCatL (fVar 4) (fLs (fLst (fCons (fC .none) fNil))))) (vAll [.val (wdD G T W),.val (rowD c),.val (rowD (allI false G T W c)),.val (rowD (keI G T W c)),.own (((List.range W.length).filter (qR G T W c)).map fun k=>.tuple [nD k,.int ((keI G T W c).getD k 0)])]) = some (.list ((((List.range W.length).filter (qR G T W c)).map fun k=>PyData.tuple [nD k,.int ((keI G T W c).getD k 0)]) ++ [.none])):=by
    have h0:(fLst (fCons (fC .none) fNil)) (vAll [.val (wdD G T W),.val (rowD c),.val (rowD (allI false G T W c)),.val (rowD (keI G T W c)),.own (((List.range W.length).filter (qR G T W c)).map fun k=>.tuple [nD k,.int ((keI G T W c).getD k 0)])]) = some [.none]:=by
      unfold fLst
      rw [cons_of rfl rfl,Option.bind_some]
      exact small_of (by simp)
    exact catL rfl h0 (by rw [List.length_append,List.length_singleton]; omega)
  refine f2_of ?_ hf rfl
  unfold rfI
  cases hq:(List.range W.length).find? (qR G T W c) with
  | some k =>
    rw [<- List.head?_filter] at hq
    obtain ⟨r,hr⟩:=List.head?_eq_some_iff.mp hq
    rw [hr]
    exact ix0 _ _
  | none =>
    rw [<- List.head?_filter,List.head?_eq_none_iff] at hq
    rw [hq]
    exact ix0 _ _
theorem getD_set (l:List Int) (k:Nat) (v:Int) (i:Nat):(l.set k v).getD i 0 = if k = i/\i < l.length then v else l.getD i 0:=by
  simp only [List.getD_eq_getElem?_getD,List.getElem?_set]
  by_cases h:k = i
  · subst h
    by_cases h2:k < l.length
    · simp [h2]
    · simp [h2]
  · simp [h]
theorem getD_zip {a b:List Int} {i:Nat} (ha:i < a.length) (hb:i < b.length):(List.zipWith (· + ·) a b).getD i 0 = a.getD i 0 + b.getD i 0:=by
  rw [List.getD_eq_getElem?_getD,List.getD_eq_getElem?_getD,List.getD_eq_getElem?_getD,List.getElem?_zipWith,List.getElem?_eq_getElem ha,List.getElem?_eq_getElem hb]
  rfl
noncomputable def Off (off:List Int):Prop:=∀ i,0<=off.getD i 0
noncomputable def Lim (W:List Wy):Prop:=∀ i,0<=(atW W i).2.2
theorem Wd.lim {G T:List Pl} {W:List Wy} (h:Wd G T W):Lim W:=fun i=>by
  by_cases hi:i < W.length
  · have:=h.wr (atW W i) (by rw [<- at_get hi]; exact List.getElem_mem hi)
    omega
  · simp only [atW,List.getD_eq_getElem?_getD]
    rw [List.getElem?_eq_none (by omega)]
    simp
theorem Wd.amt {G T:List Pl} {W:List Wy} (h:Wd G T W) (b:Bool) (i:Nat):0<=(plA b G T i).1:=by
  unfold plA
  rw [List.getD_eq_getElem?_getD]
  cases e:(plcs b G T)[i]? with
  | none=>simp
  | some p =>
    have hm:=List.mem_of_getElem? e
    cases b
    · exact (h.ga p hm).1
    · exact (h.ta p hm).1
theorem chs_bd {W:List Wy} {off:List Int} (ho:Off off) (hl:Lim W) {amt:Int} (ha:0<=amt) (is:List Nat) (i:Nat):0<=(chs W off amt is).getD i 0/\(chs W off amt is).getD i 0<=off.getD i 0:=by
  have:=foldl_inv (l:=is) (f:=cSt W off) (s:=(amt,List.replicate W.length 0)) (fun s=>0<=s.1/\∀ i,0<=s.2.getD i 0/\s.2.getD i 0<=off.getD i 0) (fun s k _ ⟨h1,h2⟩=>by
    have ok:=ho k
    have lk:=hl k
    have v0:0<=cV W off s.1 k:=by unfold cV; omega
    have v1:cV W off s.1 k<=off.getD k 0:=by unfold cV; omega
    have v2:cV W off s.1 k<=s.1:=by unfold cV; omega
    refine ⟨by simp only [cSt]; omega,fun i=>?_⟩
    simp only [cSt,getD_set]
    split
    · rename_i z
      rw [<- z.1]
      exact ⟨v0,v1⟩
    · exact h2 i) ⟨ha,fun i=>by
      have:=ho i
      have z:(List.replicate W.length (0:Int)).getD i 0 = 0:=by
        simp only [List.getD_eq_getElem?_getD,List.getElem?_replicate]
        split <;> rfl
      simp only [z]
      omega⟩
  exact this.2 i
theorem chs_non {W:List Wy} {off:List Int} {amt:Int} {is:List Nat} {i:Nat} (hi:i ∉ is):(chs W off amt is).getD i 0 = 0:=by
  refine foldl_inv (l:=is) (f:=cSt W off) (s:=(amt,List.replicate W.length 0)) (fun s=>s.2.getD i 0 = 0) (fun s k hk h=>?_) ?_
  · simp only [cSt,getD_set]
    have hki:¬ (k = i/\i < s.2.length):=fun z=>hi (z.1 ▸ hk)
    rw [if_neg hki,h]
  · simp only [List.getD_eq_getElem?_getD,List.getElem?_replicate]
    split <;> rfl
theorem all_bd' {G T:List Pl} {W:List Wy} (h:Wd G T W) {off:List Int} (ho:Off off) (b:Bool):∀ (n:Nat),n<=(plcs b G T).length ->
    ((List.range n).foldl (aSt b G T W off) (List.replicate W.length 0)).length = W.length/\∀ i,i < W.length->(0<=((List.range n).foldl (aSt b G T W off) (List.replicate W.length 0)).getD i 0/\((List.range n).foldl (aSt b G T W off) (List.replicate W.length 0)).getD i 0<=off.getD i 0)/\((n:Nat)<=endI b (atW W i)->((List.range n).foldl (aSt b G T W off) (List.replicate W.length 0)).getD i 0 = 0)
  | 0,_=>by
    refine ⟨by simp,fun i hi=>?_⟩
    have:=ho i
    have z:((List.range 0).foldl (aSt b G T W off) (List.replicate W.length 0)).getD i 0 = 0:=by simp [List.getD_eq_getElem?_getD,hi]
    rw [z]
    exact ⟨by omega,fun _=>rfl⟩
  | n + 1,hn=>by
    obtain ⟨h1,h2⟩:=all_bd' h ho b n (by omega)
    rw [List.range_succ,List.foldl_append,List.foldl_cons,List.foldl_nil]
    generalize (List.range n).foldl (aSt b G T W off) (List.replicate W.length 0) = s at h1 h2
    refine ⟨aSt_len h1,fun i hi=>?_⟩
    obtain ⟨h3,h4⟩:=h2 i hi
    have e:=pl_get (b:=b) (G:=G) (T:=T) (i:=n) (by omega)
    have hc:=chs_bd ho h.lim (h.amt b n) (wOf b W n (plA b G T n).2) i
    have hz:(aSt b G T W off s n).getD i 0 = s.getD i 0 + (chs W off (plA b G T n).1 (wOf b W n (plA b G T n).2)).getD i 0:=getD_zip (by omega) (by rw [chs_len]; exact hi)
    rw [hz]
    by_cases he:endI b (atW W i) = n
    · rw [h4 (by omega)]
      exact ⟨by omega,fun z=>by omega⟩
    · have hni:i ∉ wOf b W n (plA b G T n).2:=fun z=>he (own_mem.mp ((wOf_perm h e).mem_iff.mp z)).2
      rw [chs_non hni]
      exact ⟨by omega,fun z=>by rw [h4 (by omega)]; rfl⟩
theorem getD_out {l:List Int} {i:Nat} (h:l.length<=i):l.getD i 0 = 0:=by simp [List.getD_eq_getElem?_getD,h]
theorem all_off {G T:List Pl} {W:List Wy} (h:Wd G T W) {off:List Int} (ho:Off off) (b:Bool):Off (allI b G T W off):=fun i=>by
  by_cases hi:i < W.length
  · exact ((all_bd' h ho b _ (Nat.le_refl _)).2 i hi).1.1
  · rw [getD_out (by rw [all_len]; omega)]
    exact Int.le_refl 0
theorem all_le {G T:List Pl} {W:List Wy} (h:Wd G T W) {off:List Int} (ho:Off off) (b:Bool) {i:Nat} (hi:i < W.length):(allI b G T W off).getD i 0<=off.getD i 0 :=
  ((all_bd' h ho b _ (Nat.le_refl _)).2 i hi).1.2
theorem rf_bd {G T:List Pl} {W:List Wy} (h:Wd G T W) {c:List Int} (ho:Off c) {p:Nat × Int} (e:rfI G T W c = some p):p.1 < W.length/\0<=p.2/\p.2 < c.getD p.1 0:=by
  unfold rfI at e
  obtain ⟨k,hk,rfl⟩:=Dl.map_some e
  have hm:=List.mem_of_find?_eq_some hk
  have hq:=List.find?_some hk
  have hi:=List.mem_range.mp hm
  rw [qR,decide_eq_true_eq] at hq
  have a:=all_le h ho false hi
  have b:=all_off h (all_off h ho false) true k
  exact ⟨hi,b,by simp only; omega⟩
noncomputable def mea (c:List Int):Nat:=(c.map Int.toNat).sum
theorem mea_set:∀ {c:List Int} {k:Nat} {v:Int},0<=v->v < c.getD k 0->mea (c.set k v) < mea c
  | [],k,v,h0,h1=>by simp at h1; omega
  | x :: c,0,v,h0,h1=>by
    simp at h1
    simp only [mea,List.set_cons_zero,List.map_cons,List.sum_cons]
    omega
  | x :: c,k + 1,v,h0,h1=>by
    have:=mea_set (c:=c) (k:=k) h0 (by simpa using h1)
    simp only [mea,List.set_cons_succ,List.map_cons,List.sum_cons] at this ⊢
    omega
theorem mea_lim:∀ {W:List Wy},(∀ w ∈ W,w.2.2<=9)->mea (limI W)<=9 * W.length
  | [],_=>by simp [mea,limI]
  | w :: W,h=>by
    have:=mea_lim (W:=W) fun x hx=>h x (List.mem_cons_of_mem _ hx)
    have:=h w List.mem_cons_self
    simp only [mea,limI,List.map_cons,List.sum_cons,List.length_cons] at *
    omega
theorem lim_off {G T:List Pl} {W:List Wy} (h:Wd G T W):Off (limI W):=fun i=>by
  have:=h.lim i
  by_cases hi:i < W.length
  · simpa [limI,atW,List.getD_eq_getElem?_getD,hi] using this
  · rw [getD_out (by rw [lim_len]; omega)]
    exact Int.le_refl 0
theorem off_set {c:List Int} (h:Off c) {k:Nat} {v:Int} (hv:0<=v):Off (c.set k v):=fun i=>by
  rw [getD_set]
  split
  · exact hv
  · exact h i
theorem shaped_row (a:List Int):SeqAt.shaped (rowD a) = true :=
  (Fit.tup (b:=a.length) (k:=0) (by simp) fun x hx=>by obtain ⟨i,_,rfl⟩:=List.mem_map.mp hx; exact fit_int _).shaped (by decide)
theorem eqv_rowD (a b:List Int):PyData.eqv (rowD a) (rowD b) = decide (a = b):=by
  rw [rowD,rowD,PyData.eqv,eqv_ints]
theorem fB_of {f:Dl.Env->Option D} {ρ:Dl.Env} {b:Bool} (h:f ρ = some (.bool b)):fB f ρ = some b:=by
  simp only [fB,h,Option.bind_some,gB]
theorem notT_of {t:Dl.Env->Option Bool} {ρ:Dl.Env} {b:Bool} (h:t ρ = some b):fNotT t ρ = some (!b):=by
  simp only [fNotT,h,Option.map_some]
theorem orT_no {t u:Dl.Env->Option Bool} {ρ:Dl.Env} (h:t ρ = some false) (h2:u ρ = some false):fOrT t u ρ = some false:=by
  simp only [fOrT,h,Option.bind_some,h2]
theorem gNeD_row (a b:List Int):gNeD (rowD a) (rowD b) = some (.bool (!decide (a = b))):=by
  simp only [gNeD,gNe,shaped_row,and_self,if_true,eqv_rowD,Option.map_some]
theorem gEqD_row (a b:List Int):gEqD (rowD a) (rowD b) = some (.bool (decide (a = b))):=by
  simp only [gEqD,gEq,shaped_row,and_self,if_true,eqv_rowD,Option.map_some]
theorem gNeD_same (a:List Int):gNeD (rowD a) (rowD a) = some (.bool false):=by rw [gNeD_row]; simp
theorem gNeD_rows (a b:List (List Int)):gNeD (.list (a.map rowD)) (.list (b.map rowD)) = some (.bool (!decide (a = b))):=by
  simp only [gNeD,gNe,shaped_rows,and_self,if_true,PyData.eqv,eqv_rows,Option.map_some]
theorem gNeD_none:gNeD .none .none = some (.bool false):=by
  simp [gNeD,gNe,SeqAt.shaped,PyData.canLay0,PyData.depth,PyData.eqv]
theorem gNeD_rf (x:Option (Nat × Int)):gNeD (rfD x) (rfD x) = some (.bool false):=by
  cases x with
  | none=>exact gNeD_none
  | some p=>exact gNeD_same [((p.1:Nat):Int),p.2]
theorem notN_rf (x:Option (Nat × Int)):gNotN (rfD x) .none = some (.bool x.isSome):=by cases x <;> rfl
theorem gSet_any {i:Nat} {fz:List Nat} {f:Dl.Env->Option D} {ρ:SEnv} {d:D} (hA:f (vAll ρ) = some d) (hF:f (vFrz ρ) = some d) (hh:hand fz 0 ρ = ρ):Dl.gSet i fz f ρ = some (.nx (ρ.set i (.val d))):=by
  cases hs:Dl.scal d with
  | true=>exact gSet_scal hA hs
  | false=>exact gSet_same' hh hA hF hs
theorem app_of {i:Nat} {fz:List Nat} {f:Dl.Env->Option D} {ρ:SEnv} {d:D} {ds:List D} (hA:f (vAll ρ) = some d) (hF:f (vFrz ρ) = some d) (hh:hand fz 0 ρ = ρ) (ho:ρ[i]? = some (.own ds)) (hl:ds.length < 4000):gApp i fz f ρ = some (.nx (ρ.set i (.own (ds ++ [d])))):=by
  have hz:ds.length < sizeLine:=Nat.lt_of_lt_of_le hl (by decide)
  have hi:itemD fz f ρ = some (d,ρ):=by
    unfold itemD
    rw [hA,Option.bind_some,hh,hF]
    cases Dl.scal d <;> rfl
  simp only [gApp,hi,Option.bind_some,gMut,ho,hz,if_true,Option.map_some]
theorem e_check_world {G T:List Pl} {W:List Wy} (h:Wd G T W):m_check_world [wdD G T W] = some .none:=by
  have hw:m_is_world [wdD G T W] = some (.bool true):=by rw [e_is_world h.fit (by decide),w_is_l,h.lok]
  have hc:(fNotT (fB (fCall 1 m_is_world (fCons (fVar 0) fNil)))) (vAll [.val (wdD G T W)]) = some false:=notT_of (fB_of (call_of hw rfl rfl))
  have:g_check_world [.val (wdD G T W)] = some (.nx [.val (wdD G T W)]):=by
    unfold g_check_world
    rw [gIf_no hc]
  show (g_check_world [.val (wdD G T W)]).map _ = _
  rw [this]
  rfl
theorem e_check_whole {a b:Int} {i:Int} (h1:a<=i) (h2:i<=b):m_check_whole [.int i,.int a,.int b] = some .none:=by
  have hw:m_is_whole [.int i,.int a,.int b] = some (.bool true):=by rw [e_is_whole rfl]; simp [whole,h1,h2]
  have hc:(fNotT (fB (fCall 3 m_is_whole (fCons (fVar 0) (fCons (fVar 1) (fCons (fVar 2) fNil)))))) (vAll [.val (.int i),.val (.int a),.val (.int b)]) = some false:=notT_of (fB_of (call_of hw rfl rfl))
  have:g_check_whole [.val (.int i),.val (.int a),.val (.int b)] = some (.nx [.val (.int i),.val (.int a),.val (.int b)]):=by
    unfold g_check_whole
    rw [gIf_no hc]
  show (g_check_whole [.val (.int i),.val (.int a),.val (.int b)]).map _ = _
  rw [this]
  rfl
theorem e_check_number {n i:Int} (h1:0<=i) (h2:i<=n - 1):m_check_number [.int i,.int n] = some .none:=by
  have:g_check_number [.val (.int i),.val (.int n)] = some (.nx [.val (.int i),.val (.int n)]):=by
    unfold g_check_number
    exact exp_of (call_of (e_check_whole h1 h2) (cons_of rfl (cons_of rfl (cons_of (f2_of (sub_int n 1) rfl rfl) rfl))) rfl)
  show (g_check_number [.val (.int i),.val (.int n)]).map _ = _
  rw [this]
  rfl
theorem e_check_side (b:Bool):m_check_side [.int (sI b)] = some .none:=by
  have:g_check_side [.val (.int (sI b))] = some (.nx [.val (.int (sI b))]):=by
    unfold g_check_side
    exact exp_of (call_of (e_check_number (n:=2) (i:=sI b) (by cases b <;> decide) (by cases b <;> decide)) rfl rfl)
  show (g_check_side [.val (.int (sI b))]).map _ = _
  rw [this]
  rfl
theorem e_both_ends {G T:List Pl} {W:List Wy} {off:List Int} (h:Wd G T W) (ho:off.length = W.length) (b:Bool):m_both_ends [wdD G T W,.int (sI b),rowD off] = some (rowD (allI b G T W off)):=by
  refine runB_rt ?_
  show g_both_ends [.val (wdD G T W),.val (.int (sI b)),.val (rowD off)] = _
  unfold g_both_ends
  refine (gSeq_nx (exp_of (call_of (e_check_world h) rfl rfl))).trans ?_
  refine (gSeq_nx (exp_of (call_of (e_check_side b) rfl rfl))).trans ?_
  exact ret_of (call_of (e_chosen_by_all h ho b) rfl rfl)
noncomputable abbrev Sp:=List (Nat × Int) × List Int
noncomputable def spC (G T:List Pl) (W:List Wy) (s:Sp):Bool:=(rfI G T W s.2).isSome
noncomputable def spS (G T:List Pl) (W:List Wy) (s:Sp):Sp:=match rfI G T W s.2 with | some p=>(s.1 ++ [p],s.2.set p.1 p.2) | none=>s
noncomputable def low (c:List Int) (p:Nat × Int):List Int:=c.set p.1 p.2
structure SpI (W:List Wy) (s:Sp):Prop where
  len:s.2.length = W.length
  off:Off s.2
  eq:s.2 = s.1.foldl low (limI W)
  bd:s.1.length + mea s.2<=mea (limI W)
  mem:∀ p ∈ s.1,p.1 < W.length
theorem SpI.start {G T:List Pl} {W:List Wy} (h:Wd G T W):SpI W ([],limI W):=⟨lim_len W,lim_off h,rfl,by simp,fun p hp=>by cases hp⟩
theorem spS_at {G T:List Pl} {W:List Wy} {s:Sp} {p:Nat × Int} (e:rfI G T W s.2 = some p):spS G T W s = (s.1 ++ [p],s.2.set p.1 p.2):=by
  unfold spS
  rw [e]
theorem SpI.step {G T:List Pl} {W:List Wy} (h:Wd G T W) {s:Sp} (i:SpI W s) {p:Nat × Int} (e:rfI G T W s.2 = some p):SpI W (spS G T W s)/\mea (spS G T W s).2 < mea s.2:=by
  obtain ⟨h1,h2,h3⟩:=rf_bd h i.off e
  have hm:=mea_set h2 h3
  rw [spS_at e]
  refine ⟨⟨by simp [i.len],off_set i.off h2,?_,?_,fun q hq=>?_⟩,hm⟩
  · rw [List.foldl_append,<- i.eq]
    rfl
  · have:=i.bd
    simp only [List.length_append,List.length_singleton]
    omega
  · rcases List.mem_append.mp hq with z | z
    · exact i.mem q z
    · rw [List.mem_singleton] at z
      rw [z]
      exact h1
theorem Wd.mea {G T:List Pl} {W:List Wy} (h:Wd G T W):mea (limI W)<=144:=by
  have:=mea_lim (W:=W) fun w hw=>(h.wr w hw).2.2.2
  have:=h.wl
  omega
noncomputable def rwD (r:List (Nat × Int)):List D:=(r.map fun p=>[((p.1:Nat):Int),p.2]).map rowD
theorem rwD_app (r:List (Nat × Int)) (p:Nat × Int):rwD (r ++ [p]) = rwD r ++ [rfD (some p)]:=by simp [rwD]; rfl
theorem rwD_len (r:List (Nat × Int)):(rwD r).length = r.length:=by simp [rwD]
noncomputable def fin (G T:List Pl) (W:List Wy):Sp:=lp (spC G T W) (spS G T W) Rf.turns ([],limI W)
noncomputable def stB:SEnv->Option Out:=(gSeq (gApp 1 [3] (fVar 3)) (gSeq (Dl.gSet 2 [2,3] (fCall 3 m_lowered (fCons (fVar 2) (fCons (f2 gIx (fVar 3) (fC (.int 0))) (fCons (f2 gIx (fVar 3) (fC (.int 1))) fNil))))) (Dl.gSet 3 [0,2] (fCall 2 m_refused (fCons (fVar 0) (fCons (fVar 2) fNil))))))
noncomputable def stR (G T:List Pl) (W:List Wy) (s:Sp):SEnv:=[.val (wdD G T W),.own (rwD s.1),.val (rowD s.2),.val (rfD (rfI G T W s.2))]
theorem stB_run {G T:List Pl} {W:List Wy} (h:Wd G T W) {s:Sp} (i:SpI W s) {p:Nat × Int} (e:rfI G T W s.2 = some p):stB (stR G T W s) = some (.nx (stR G T W (spS G T W s))):=by
  obtain ⟨h1,h2,h3⟩:=rf_bd h i.off e
  obtain ⟨i2,hm⟩:=i.step h e
  have hb:=h.mea
  have hbd:=i.bd
  have hw:=h.wl
  have t1:gApp 1 [3] (fVar 3) (stR G T W s) = some (.nx [.val (wdD G T W),.own (rwD s.1 ++ [rfD (some p)]),.val (rowD s.2),.val (rfD (some p))]):=by
    unfold stR
    rw [e]
    exact app_of rfl rfl rfl rfl (by rw [rwD_len]; omega)
  have hlow:∀ ρ:Dl.Env,fVar 2 ρ = some (rowD s.2)->fVar 3 ρ = some (rfD (some p))->(fCall 3 m_lowered (fCons (fVar 2) (fCons (f2 gIx (fVar 3) (fC (.int 0))) (fCons (f2 gIx (fVar 3) (fC (.int 1))) fNil)))) ρ = some (rowD (s.2.set p.1 p.2)):=fun ρ a b =>
    call_of (e_lowered (c:=s.2) (i:=p.1) (v:=p.2) (by rw [i.len]; exact h1) (by rw [i.len]; omega)) (cons_of a (cons_of (f2_of (ix0T _ _) b rfl) (cons_of (f2_of (ix1T _ _ _) b rfl) rfl))) rfl
  have t2:Dl.gSet 2 [2,3] (fCall 3 m_lowered (fCons (fVar 2) (fCons (f2 gIx (fVar 3) (fC (.int 0))) (fCons (f2 gIx (fVar 3) (fC (.int 1))) fNil)))) [.val (wdD G T W),.own (rwD s.1 ++ [rfD (some p)]),.val (rowD s.2),.val (rfD (some p))] = some (.nx [.val (wdD G T W),.own (rwD s.1 ++ [rfD (some p)]),.val (rowD (s.2.set p.1 p.2)),.val (rfD (some p))]) :=
    gSet_any (hlow _ rfl rfl) (hlow _ rfl rfl) rfl
  have hl2:(s.2.set p.1 p.2).length = W.length:=by rw [List.length_set,i.len]
  have t3:Dl.gSet 3 [0,2] (fCall 2 m_refused (fCons (fVar 0) (fCons (fVar 2) fNil))) [.val (wdD G T W),.own (rwD s.1 ++ [rfD (some p)]),.val (rowD (s.2.set p.1 p.2)),.val (rfD (some p))] = some (.nx [.val (wdD G T W),.own (rwD s.1 ++ [rfD (some p)]),.val (rowD (s.2.set p.1 p.2)),.val (rfD (rfI G T W (s.2.set p.1 p.2)))]) :=
    gSet_any (call_of (e_refused h hl2) rfl rfl) (call_of (e_refused h hl2) rfl rfl) rfl
  unfold stB
  rw [gSeq_nx t1,gSeq_nx t2,t3,spS_at e]
  unfold stR
  rw [rwD_app]
theorem spC_some {G T:List Pl} {W:List Wy} {s:Sp} (h:spC G T W s = true):∃ p,rfI G T W s.2 = some p:=Option.isSome_iff_exists.mp h
theorem e_steps {G T:List Pl} {W:List Wy} (h:Wd G T W):m_steps [wdD G T W] = some (.list (rwD (fin G T W).1))/\SpI W (fin G T W):=by
  have hb:=h.mea
  have t1:gSetF 1 [] (fLst fNil) [.val (wdD G T W),.non,.non,.non] = some (.nx [.val (wdD G T W),.own [],.non,.non]):=setF_same (f:=fLst fNil) (ds:=[]) (show small [] = some [] from small_of (by simp)) rfl
  have t2:Dl.gSet 2 [0] (fCall 1 m_limits (fCons (fVar 0) fNil)) [.val (wdD G T W),.own [],.non,.non] = some (.nx [.val (wdD G T W),.own [],.val (rowD (limI W)),.non]) :=
    gSet_any (call_of (e_limits h) rfl rfl) (call_of (e_limits h) rfl rfl) rfl
  have t3:Dl.gSet 3 [0,2] (fCall 2 m_refused (fCons (fVar 0) (fCons (fVar 2) fNil))) [.val (wdD G T W),.own [],.val (rowD (limI W)),.non] = some (.nx (stR G T W ([],limI W))) :=
    gSet_any (call_of (e_refused h (lim_len W)) rfl rfl) (call_of (e_refused h (lim_len W)) rfl rfl) rfl
  obtain ⟨ρ',ew,⟨rfl,iv⟩,_⟩:=whD_meas (t:=(fB (f2 gNotN (fVar 3) (fC .none)))) (gb:=stB) (R:=fun s ρ=>ρ = stR G T W s/\SpI W s) (spC G T W) (spS G T W) (fun s=>mea s.2)
    (fun s ρ ⟨hρ,i⟩=>by
      subst hρ
      exact fB_of (f2_of (notN_rf _) rfl rfl))
    (fun s ρ ⟨hρ,i⟩ hc=>by
      subst hρ
      obtain ⟨p,e⟩:=spC_some hc
      exact ⟨_,stB_run h i e,⟨rfl,(i.step h e).1⟩,(i.step h e).2⟩)
    Rf.turns ([],limI W) (stR G T W ([],limI W)) (Nat.lt_of_le_of_lt hb (by decide)) ⟨rfl,SpI.start h⟩
  refine ⟨?_,iv⟩
  refine runB_rt ?_
  show g_steps [.val (wdD G T W),.non,.non,.non] = _
  unfold g_steps
  rw [gSeq_nx t1,gSeq_nx t2,gSeq_nx t3]
  refine (gSeq_nx ew).trans ?_
  exact ret_of rfl
theorem low_len (c:List Int) (p:Nat × Int):(low c p).length = c.length:=by simp [low]
theorem e_capped {G T:List Pl} {W:List Wy} (h:Wd G T W) {r:List (Nat × Int)} (hr:∀ p ∈ r,p.1 < W.length):m_capped [wdD G T W,.list (rwD r)] = some (rowD (r.foldl low (limI W))):=by
  have hw:=h.wl
  have t2:Dl.gSet 2 [0] (fCall 1 m_limits (fCons (fVar 0) fNil)) [.val (wdD G T W),.val (.list (rwD r)),.non,.non,.non] = some (.nx [.val (wdD G T W),.val (.list (rwD r)),.val (rowD (limI W)),.non,.non]) :=
    gSet_any (call_of (e_limits h) rfl rfl) (call_of (e_limits h) rfl rfl) rfl
  obtain ⟨ρ',e3,hs',x,y,rfl⟩:=forD_map (tgt:=fSG2 3 4) (gb:=Dl.gSet 2 [2,3,4] (fCall 3 m_lowered (fCons (fVar 2) (fCons (fVar 3) (fCons (fVar 4) fNil))))) (R:=fun (c:List Int) ρ=>c.length = W.length/\∃ x y,ρ = [.val (wdD G T W),.val (.list (rwD r)),.val (rowD c),x,y]) (fun p:Nat × Int=>rowD [((p.1:Nat):Int),p.2]) low
    (l:=r) (s:=limI W) (ρ:=[.val (wdD G T W),.val (.list (rwD r)),.val (rowD (limI W)),.non,.non])
    (fun c ρ p hp ⟨hc,x,y,hρ⟩=>by
      subst hρ
      have el:=e_lowered (c:=c) (i:=p.1) (v:=p.2) (by rw [hc]; exact hr p hp) (by omega)
      have t:Dl.gSet 2 [2,3,4] (fCall 3 m_lowered (fCons (fVar 2) (fCons (fVar 3) (fCons (fVar 4) fNil)))) [.val (wdD G T W),.val (.list (rwD r)),.val (rowD c),.val (nD p.1),.val (.int p.2)] = some (.nx [.val (wdD G T W),.val (.list (rwD r)),.val (rowD (low c p)),.val (nD p.1),.val (.int p.2)]) :=
        gSet_any (call_of el rfl rfl) (call_of el rfl rfl) rfl
      exact ⟨_,_,rfl,t,by rw [low_len,hc],_,_,rfl⟩) ⟨lim_len W,_,_,rfl⟩
  refine runB_rt ?_
  show g_capped [.val (wdD G T W),.val (.list (rwD r)),.non,.non,.non] = _
  unfold g_capped
  rw [gSeq_nx t2]
  refine (gSeq_nx (gFor_of e3 ?_ rfl)).trans (ret_of rfl)
  show some (rwD r) = _
  rw [rwD,List.map_map]
  rfl
theorem e_givers_best {G T:List Pl} {W:List Wy} (h:Wd G T W):m_givers_best [wdD G T W] = some (rowD (allI false G T W (fin G T W).2)):=by
  obtain ⟨e1,i⟩:=e_steps h
  have e2:=e_capped h i.mem
  rw [<- i.eq] at e2
  refine runB_rt ?_
  show g_givers_best [.val (wdD G T W)] = _
  unfold g_givers_best
  refine (gSeq_nx (exp_of (call_of (e_check_world h) rfl rfl))).trans ?_
  exact ret_of (call_of (e_chosen_by_all h i.len false) (cons_of rfl (cons_of rfl (cons_of (call_of e2 (cons_of rfl (cons_of (call_of e1 rfl rfl) rfl)) rfl) rfl))) rfl)
namespace K22M
noncomputable def capI (ns:List Int) (W:List Wy):List Int:=(W.map wayD).zipIdx.map fun q=>dr ns (70 + ((q.2:Nat):Int)) (toI ((seqD q.1).getD 2 .none) + 1)
theorem cap_len (ns:List Int) (W:List Wy):(capI ns W).length = W.length:=by simp [capI]
theorem t2 {ns:List Int} (hl:ns.length<=63) {G T:List Pl} {W:List Wy} (h:Wd G T W) {ρ:Dl.Env} (h0:(ρ[0]?).getD none = some (scr ns)) (h1:fVar 1 ρ = some (wdD G T W)) :
    (fCB gTuple (fCons (fLs (fComp 2 [0] (fEnum (fCons (f2 gIx (fVar 1) (fC (.int 2))) fNil)) (fG2 0 1) (fun _=>some true) (fCall 3 m__law_drawn (fCons (fVar 2) (fCons (f2 gAdd (fC (.int 70)) (fVar 0)) (fCons (f2 gAdd (f2 gIx (fVar 1) (fC (.int 2))) (fC (.int 1))) fNil)))))) fNil)) ρ = some (rowD (capI ns W)):=by
  have hw:=h.wl
  have hi:fEnum (fCons (f2 gIx (fVar 1) (fC (.int 2))) fNil) ρ = some (enumD 0 (W.map wayD)):=by
    unfold fEnum
    rw [cons_of (f2_of (wd_ways G T W) h1 rfl) rfl]
    rfl
  have e:fComp 2 [0] (fEnum (fCons (f2 gIx (fVar 1) (fC (.int 2))) fNil)) (fG2 0 1) (fun _=>some true) (fCall 3 m__law_drawn (fCons (fVar 2) (fCons (f2 gAdd (fC (.int 70)) (fVar 0)) (fCons (f2 gAdd (f2 gIx (fVar 1) (fC (.int 2))) (fC (.int 1))) fNil)))) ρ = some ((capI ns W).map PyData.int):=by
    rw [comp_enum (p:=fun _ _=>true) (h:=fun j d=>.int (dr ns (70 + ((j:Nat):Int)) (toI ((seqD d).getD 2 .none) + 1))) hi (by rw [List.length_map]; omega) fun j d hd=>⟨rfl,fun _=>?_⟩]
    · rw [List.filter_eq_self.mpr fun _ _=>rfl,capI,List.map_map]
      rfl
    · rw [List.getElem?_map] at hd
      obtain ⟨w,hw',rfl⟩:=Dl.map_some hd
      have hm:=h.wr w (List.mem_of_getElem? hw')
      simp only [List.map_cons,List.map_nil,h0]
      exact call_of (dr_eq (70 + ((j:Nat):Int)) (w.2.2 + 1) hl (by omega)) (cons_of rfl (cons_of (f2_of (gAdd_int 70 j) rfl rfl) (cons_of (f2_of (gAdd_int w.2.2 1) (f2_of (way_lim w) rfl rfl) rfl) rfl))) rfl
  simp only [fCB,fCons,fNil,fLs,e,Option.map_some,Option.bind_some,tup_own]
noncomputable def s3:SEnv->Option Out:=(gIf (fB (f2 gNeD (fCall 3 m_both_ends (fCons (fVar 1) (fCons (fVar 3) (fCons (fVar 2) fNil)))) (fCall 3 m__law_ends (fCons (fVar 1) (fCons (fVar 3) (fCons (fVar 2) fNil)))))) (gRet (fC (.bool false))) gNx)
theorem s3_run {ns:List Int} {G T:List Pl} {W:List Wy} (h:Wd G T W) {c:List Int} (hc:c.length = W.length) (b:Bool):s3 [.val (scr ns),.val (wdD G T W),.val (rowD c),.val (.int (sI b)),.non,.non,.non] = some (.nx [.val (scr ns),.val (wdD G T W),.val (rowD c),.val (.int (sI b)),.non,.non,.non]):=by
  unfold s3
  exact gIf_no (fB_of (f2_of (gNeD_same _) (call_of (e_both_ends h hc b) rfl rfl) (call_of (e_law_ends h hc b) rfl rfl)))
noncomputable def fLw:Dl.Env->Option D:=(f2 gAdd (f2 gAdd (fCut gCutA (fVar 4) fNoB (fBd (f2 gIx (fVar 6) (fC (.int 0))))) (fCut gCutA (fVar 6) (fBd (fC (.int 1))) fNoB)) (fCut gCutA (fVar 4) (fBd (f2 gAdd (f2 gIx (fVar 6) (fC (.int 0))) (fC (.int 1)))) fNoB))
theorem fLw_at {c:List Int} {p:Nat × Int} (h:p.1 < c.length) (hl:c.length<=1000) {ρ:Dl.Env} (h4:fVar 4 ρ = some (rowD c)) (h6:fVar 6 ρ = some (rfD (some p))):fLw ρ = some (rowD (c.set p.1 p.2)):=by
  refine f2_of (a:=.tuple ((c.map PyData.int).take p.1 ++ [PyData.int p.2])) (b:=.tuple ((c.map PyData.int).drop (p.1 + 1))) ?_ (f2_of (a:=.tuple ((c.map PyData.int).take p.1)) (b:=.tuple [.int p.2]) (add_tup ?_) (cut_to h4 (f2_of (ix0T _ _) h6 rfl)) (cut_fr (k:=1) h6 rfl)) (cut_fr h4 (f2_of (nD1 p.1) (f2_of (ix0T _ _) h6 rfl) rfl))
  · rw [add_tup,set_cut c p.1 p.2 h]
    · rfl
    · rw [set_cut c p.1 p.2 h]; simp; omega
  · simp; omega
noncomputable def lwB:SEnv->Option Out:=(gSeq (gIf (fB (f2 gNeD (fCall 3 m_lowered (fCons (fVar 4) (fCons (f2 gIx (fVar 6) (fC (.int 0))) (fCons (f2 gIx (fVar 6) (fC (.int 1))) fNil)))) fLw)) (gRet (fC (.bool false))) gNx) (gSeq (gApp 5 [6] (fVar 6)) (gSeq (Dl.gSet 4 [4,6] fLw) (gSeq (gIf (fB (f2 gNeD (fCall 2 m_capped (fCons (fVar 1) (fCons (fVar 5) fNil))) (fVar 4))) (gRet (fC (.bool false))) gNx) (Dl.gSet 6 [1,4] (fCall 2 m__law_refused_first (fCons (fVar 1) (fCons (fVar 4) fNil))))))))
noncomputable def lwR (ns:List Int) (G T:List Pl) (W:List Wy) (c:List Int) (x:Slot) (s:Sp):SEnv:=[.val (scr ns),.val (wdD G T W),.val (rowD c),x,.val (rowD s.2),.own (rwD s.1),.val (rfD (rfI G T W s.2))]
theorem lwB_run {ns c:List Int} {x:Slot} {G T:List Pl} {W:List Wy} (h:Wd G T W) {s:Sp} (i:SpI W s) {p:Nat × Int} (e:rfI G T W s.2 = some p):lwB (lwR ns G T W c x s) = some (.nx (lwR ns G T W c x (spS G T W s))):=by
  obtain ⟨h1,h2,h3⟩:=rf_bd h i.off e
  obtain ⟨i2,hm⟩:=i.step h e
  have hb:=h.mea
  have hbd:=i.bd
  have hw:=h.wl
  have hp:p.1 < s.2.length:=by rw [i.len]; exact h1
  have hl1:s.2.length<=1000:=by rw [i.len]; omega
  have hl2:(s.2.set p.1 p.2).length = W.length:=by rw [List.length_set,i.len]
  have hl:∀ ρ:Dl.Env,fVar 4 ρ = some (rowD s.2)->fVar 6 ρ = some (rfD (some p))->(fCall 3 m_lowered (fCons (fVar 4) (fCons (f2 gIx (fVar 6) (fC (.int 0))) (fCons (f2 gIx (fVar 6) (fC (.int 1))) fNil)))) ρ = some (rowD (s.2.set p.1 p.2)):=fun ρ a b =>
    call_of (e_lowered (c:=s.2) (i:=p.1) (v:=p.2) hp hl1) (cons_of a (cons_of (f2_of (ix0T _ _) b rfl) (cons_of (f2_of (ix1T _ _ _) b rfl) rfl))) rfl
  have a1:(gIf (fB (f2 gNeD (fCall 3 m_lowered (fCons (fVar 4) (fCons (f2 gIx (fVar 6) (fC (.int 0))) (fCons (f2 gIx (fVar 6) (fC (.int 1))) fNil)))) fLw)) (gRet (fC (.bool false))) gNx) (lwR ns G T W c x s) = some (.nx [.val (scr ns),.val (wdD G T W),.val (rowD c),x,.val (rowD s.2),.own (rwD s.1),.val (rfD (some p))]):=by
    unfold lwR
    rw [e]
    exact gIf_no (fB_of (f2_of (gNeD_same _) (hl _ rfl rfl) (fLw_at hp hl1 rfl rfl)))
  have a2:gApp 5 [6] (fVar 6) [.val (scr ns),.val (wdD G T W),.val (rowD c),x,.val (rowD s.2),.own (rwD s.1),.val (rfD (some p))] = some (.nx [.val (scr ns),.val (wdD G T W),.val (rowD c),x,.val (rowD s.2),.own (rwD s.1 ++ [rfD (some p)]),.val (rfD (some p))]) :=
    app_of rfl rfl rfl rfl (by rw [rwD_len]; omega)
  have a3:Dl.gSet 4 [4,6] fLw [.val (scr ns),.val (wdD G T W),.val (rowD c),x,.val (rowD s.2),.own (rwD s.1 ++ [rfD (some p)]),.val (rfD (some p))] = some (.nx [.val (scr ns),.val (wdD G T W),.val (rowD c),x,.val (rowD (s.2.set p.1 p.2)),.own (rwD s.1 ++ [rfD (some p)]),.val (rfD (some p))]) :=
    gSet_any (fLw_at hp hl1 rfl rfl) (fLw_at hp hl1 rfl rfl) rfl
  have ec:=e_capped h i2.mem
  rw [<- i2.eq,spS_at e] at ec
  simp only [rwD_app] at ec
  have a4:(gIf (fB (f2 gNeD (fCall 2 m_capped (fCons (fVar 1) (fCons (fVar 5) fNil))) (fVar 4))) (gRet (fC (.bool false))) gNx) [.val (scr ns),.val (wdD G T W),.val (rowD c),x,.val (rowD (s.2.set p.1 p.2)),.own (rwD s.1 ++ [rfD (some p)]),.val (rfD (some p))] = some (.nx [.val (scr ns),.val (wdD G T W),.val (rowD c),x,.val (rowD (s.2.set p.1 p.2)),.own (rwD s.1 ++ [rfD (some p)]),.val (rfD (some p))]) :=
    gIf_no (fB_of (f2_of (gNeD_same _) (call_of ec rfl rfl) rfl))
  have a5:Dl.gSet 6 [1,4] (fCall 2 m__law_refused_first (fCons (fVar 1) (fCons (fVar 4) fNil))) [.val (scr ns),.val (wdD G T W),.val (rowD c),x,.val (rowD (s.2.set p.1 p.2)),.own (rwD s.1 ++ [rfD (some p)]),.val (rfD (some p))] = some (.nx [.val (scr ns),.val (wdD G T W),.val (rowD c),x,.val (rowD (s.2.set p.1 p.2)),.own (rwD s.1 ++ [rfD (some p)]),.val (rfD (rfI G T W (s.2.set p.1 p.2)))]) :=
    gSet_any (call_of (e_law_refused h hl2) rfl rfl) (call_of (e_law_refused h hl2) rfl rfl) rfl
  unfold lwB
  rw [gSeq_nx a1,gSeq_nx a2,gSeq_nx a3,gSeq_nx a4,a5,spS_at e]
  unfold lwR
  rw [rwD_app]
theorem lsn (ρ:Dl.Env):fLs (fLst fNil) ρ = some (.list []):=by
  have:fLst fNil ρ = some []:=show small [] = some [] from small_of (by simp)
  unfold fLs
  rw [this]
  rfl
theorem main (ns:List Int) (hl:ns.length<=63):m_law_k22 [.list (ns.map PyData.int)] = some (.bool true):=by
  obtain ⟨G,T,W,ew,h,_⟩:=e_law_world (ns:=ns) (a:=0) (mo:=9) hl (by decide)
  have hb:=h.mea
  have hc:=cap_len ns W
  have t1:Dl.gSet 1 [0] (fCall 3 m__law_world (fCons (fVar 0) (fCons (fC (.int 0)) (fCons (fC (.int 9)) fNil)))) [.val (scr ns),.non,.non,.non,.non,.non,.non] = some (.nx [.val (scr ns),.val (wdD G T W),.non,.non,.non,.non,.non]) :=
    gSet_any (call_of ew rfl rfl) (call_of ew rfl rfl) rfl
  have t2':Dl.gSet 2 [0,1] (fCB gTuple (fCons (fLs (fComp 2 [0] (fEnum (fCons (f2 gIx (fVar 1) (fC (.int 2))) fNil)) (fG2 0 1) (fun _=>some true) (fCall 3 m__law_drawn (fCons (fVar 2) (fCons (f2 gAdd (fC (.int 70)) (fVar 0)) (fCons (f2 gAdd (f2 gIx (fVar 1) (fC (.int 2))) (fC (.int 1))) fNil)))))) fNil)) [.val (scr ns),.val (wdD G T W),.non,.non,.non,.non,.non] = some (.nx [.val (scr ns),.val (wdD G T W),.val (rowD (capI ns W)),.non,.non,.non,.non]) :=
    gSet_any (t2 hl h rfl rfl) (t2 hl h rfl rfl) rfl
  obtain ⟨ρ',e3,d,rfl⟩:=forD_map (S:=Unit) (tgt:=fSG 3) (gb:=s3) (R:=fun _ ρ=>∃ d,ρ = [.val (scr ns),.val (wdD G T W),.val (rowD (capI ns W)),d,.non,.non,.non]) nD (fun s _=>s)
    (l:=List.range 2) (s:=()) (ρ:=[.val (scr ns),.val (wdD G T W),.val (rowD (capI ns W)),.non,.non,.non,.non])
    (fun s ρ k hk ⟨d,hρ⟩=>by
      subst hρ
      have hk2:k = 0\/k = 1:=by have:=List.mem_range.mp hk; omega
      rcases hk2 with rfl | rfl
      · exact ⟨_,_,rfl,s3_run h hc false,_,rfl⟩
      · exact ⟨_,_,rfl,s3_run h hc true,_,rfl⟩) ⟨_,rfl⟩
  have e3:gFor [] (fRange (fCons (fC (.int 2)) fNil)) (fSG 3) s3 [.val (scr ns),.val (wdD G T W),.val (rowD (capI ns W)),.non,.non,.non,.non] = some (.nx [.val (scr ns),.val (wdD G T W),.val (rowD (capI ns W)),d,.non,.non,.non]) :=
    gFor_of e3 (rng_of (n:=2) rfl (by decide)) rfl
  have c4:fOrT (fB (f2 gNeD (fCall 2 m_refused (fCons (fVar 1) (fCons (fVar 2) fNil))) (fCall 2 m__law_refused_first (fCons (fVar 1) (fCons (fVar 2) fNil))))) (fB (f2 gNeD (fCall 1 m_limits (fCons (fVar 1) fNil)) (fCB gTuple (fCons (fLs (fComp 1 [] (fSeq (f2 gIx (fVar 1) (fC (.int 2)))) (fG 0) (fun _=>some true) (f2 gIx (fVar 0) (fC (.int 2))))) fNil)))) (vAll [.val (scr ns),.val (wdD G T W),.val (rowD (capI ns W)),d,.non,.non,.non]) = some false :=
    orT_no (fB_of (f2_of (gNeD_rf _) (call_of (e_refused h hc) rfl rfl) (call_of (e_law_refused h hc) rfl rfl))) (fB_of (f2_of (gNeD_same _) (call_of (e_limits h) rfl rfl) (lim_comp h rfl)))
  have t5:Dl.gSet 4 [1] (fCB gTuple (fCons (fLs (fComp 1 [] (fSeq (f2 gIx (fVar 1) (fC (.int 2)))) (fG 0) (fun _=>some true) (f2 gIx (fVar 0) (fC (.int 2))))) fNil)) [.val (scr ns),.val (wdD G T W),.val (rowD (capI ns W)),d,.non,.non,.non] = some (.nx [.val (scr ns),.val (wdD G T W),.val (rowD (capI ns W)),d,.val (rowD (limI W)),.non,.non]) :=
    gSet_any (lim_comp h rfl) (lim_comp h rfl) rfl
  have t6:gSetF 5 [] (fLst fNil) [.val (scr ns),.val (wdD G T W),.val (rowD (capI ns W)),d,.val (rowD (limI W)),.non,.non] = some (.nx [.val (scr ns),.val (wdD G T W),.val (rowD (capI ns W)),d,.val (rowD (limI W)),.own [],.non]):=setF_same (f:=fLst fNil) (ds:=[]) (show small [] = some [] from small_of (by simp)) rfl
  have t7:Dl.gSet 6 [1,4] (fCall 2 m__law_refused_first (fCons (fVar 1) (fCons (fVar 4) fNil))) [.val (scr ns),.val (wdD G T W),.val (rowD (capI ns W)),d,.val (rowD (limI W)),.own [],.non] = some (.nx (lwR ns G T W (capI ns W) d ([],limI W))) :=
    gSet_any (call_of (e_law_refused h (lim_len W)) rfl rfl) (call_of (e_law_refused h (lim_len W)) rfl rfl) rfl
  obtain ⟨ρ',ew2,⟨rfl,iv⟩,_⟩:=whD_meas (t:=(fB (f2 gNotN (fVar 6) (fC .none)))) (gb:=lwB) (R:=fun s ρ=>ρ = lwR ns G T W (capI ns W) d s/\SpI W s) (spC G T W) (spS G T W) (fun s=>mea s.2)
    (fun s ρ ⟨hρ,i⟩=>by
      subst hρ
      exact fB_of (f2_of (notN_rf _) rfl rfl))
    (fun s ρ ⟨hρ,i⟩ hc=>by
      subst hρ
      obtain ⟨p,e⟩:=spC_some hc
      exact ⟨_,lwB_run h i e,⟨rfl,(i.step h e).1⟩,(i.step h e).2⟩)
    Rf.turns ([],limI W) (lwR ns G T W (capI ns W) d ([],limI W)) (Nat.lt_of_le_of_lt hb (by decide)) ⟨rfl,SpI.start h⟩
  change SpI W (fin G T W) at iv
  change whD _ _ _ _ = some (.nx (lwR ns G T W (capI ns W) d (fin G T W))) at ew2
  obtain ⟨es,is⟩:=e_steps h
  have ec0:=e_capped h (r:=[]) fun p hp=>by cases hp
  have c9:fOrT (fB (f2 gNeD (fCall 1 m_steps (fCons (fVar 1) fNil)) (fVar 5))) (fB (f2 gNeD (fCall 2 m_capped (fCons (fVar 1) (fCons (fLs (fLst fNil)) fNil))) (fCall 1 m_limits (fCons (fVar 1) fNil)))) (vAll (lwR ns G T W (capI ns W) d (fin G T W))) = some false:=by
    refine orT_no (fB_of (f2_of (a:=.list (rwD (fin G T W).1)) (b:=.list (rwD (fin G T W).1)) ?_ (call_of es rfl rfl) rfl)) (fB_of (f2_of (gNeD_same _) (call_of ec0 (cons_of rfl (cons_of (lsn _) rfl)) rfl) (call_of (e_limits h) rfl rfl)))
    unfold rwD
    rw [gNeD_rows]
    simp
  have l10:=e_law_ends h iv.len false
  have t10:gRet (f2 gEqD (fCall 1 m_givers_best (fCons (fVar 1) fNil)) (fCall 3 m__law_ends (fCons (fVar 1) (fCons (fC (.int 0)) (fCons (fVar 4) fNil))))) (lwR ns G T W (capI ns W) d (fin G T W)) = some (.rt (.bool true)):=by
    refine ret_of (f2_of ?_ (call_of (e_givers_best h) rfl rfl) (call_of l10 rfl rfl))
    rw [gEqD_row]
    simp
  refine runB_rt ?_
  show g_law_k22 [.val (scr ns),.non,.non,.non,.non,.non,.non] = _
  unfold g_law_k22
  refine (gSeq_nx t1).trans ?_
  refine (gSeq_nx t2').trans ?_
  refine (gSeq_nx e3).trans ?_
  refine (gSeq_nx (gIf_no c4)).trans ?_
  refine (gSeq_nx t5).trans ?_
  refine (gSeq_nx t6).trans ?_
  refine (gSeq_nx t7).trans ?_
  refine (gSeq_nx ew2).trans ?_
  refine (gSeq_nx (gIf_no c9)).trans ?_
  exact t10
end K22M
end Wm
namespace K22
open PySem L2 Dl PySem.Spec PyProof.Rows Pg Hd
theorem main (ns:List Int) (h:ns.length<=63):m_law_k22 [.list (ns.map PyData.int)] = some (.bool true):=Wm.K22M.main ns h
noncomputable def vw:Program:=PySem.W.view PySem.Challenge.pw_stillflow_k22_steps [1,2,3,5,6,7,8,9,10,11,12,13,14,15,16,17,18,19,20,22,23,25,26,27,28,29,30,31,32,34,35,36,37,38,39,40,41]
noncomputable def Kf (P:Params):PySem.W.Frag:=[(3,⟨.type "dict",none,.dict #[en P "__name__" 165 (.str "law_stillflow_k22_steps" 438),en P "__doc__" 166 .none,en P "__package__" 167 .none,en P "__loader__" 168 (.builtin "__main__.__loader__#opaque"),en P "__spec__" 169 .none,en P "__annotations__" 170 (.ref 6),en P "__builtins__" 171 (.ref 4),en P "__file__" 173 (.str "/claim/cut.py" 172),en P "__cached__" 174 .none,en P "FlowError" 206 (.ref 24),en P "NoWorld" 222 (.ref 37),en P "NoPlace" 238 (.ref 49),en P "MOST_PLACES" 242 (.int 4 241),en P "MOST" 244 (.int 9 243),en P "is_whole" 253 (.ref 58),en P "is_number" 261 (.ref 65),en P "is_long" 270 (.ref 72),en P "are_likes" 276 (.ref 77),en P "is_end" 284 (.ref 84),en P "is_way" 293 (.ref 91),en P "are_parts" 299 (.ref 96),en P "liked_pairs" 305 (.ref 101),en P "is_world" 311 (.ref 106),en P "check_world" 318 (.ref 113),en P "check_whole" 327 (.ref 120),en P "check_number" 335 (.ref 127),en P "check_side" 342 (.ref 134),en P "replaced" 351 (.ref 141),en P "ways_of" 359 (.ref 146),en P "chosen_by" 365 (.ref 151),en P "chosen_by_all" 373 (.ref 156),en P "both_ends" 382 (.ref 163),en P "limits" 388 (.ref 168),en P "lowered" 397 (.ref 175),en P "refused" 409 (.ref 182),en P "steps" 419 (.ref 189),en P "capped" 430 (.ref 196),en P "givers_best" 437 (.ref 203),en P "_law_cell" 447 (.ref 210),en P "_law_drawn" 457 (.ref 217),en P "_law_orders" 472 (.ref 224),en P "_law_world" 478 (.ref 229),en P "_law_choice" 492 (.ref 236),en P "_law_ends" 498 (.ref 241),en P "_law_refused_first" 504 (.ref 246),en P "law" 510 (.ref 251)] 46,#[]⟩),
  (57,co [(.str "is_whole" 245),(.str "is_whole" 246),(.str "/claim/cut.py" 247),(.int 11 0),(.int 3 0),(.int 0 0),(.int 0 0),(.int 3 0),(.ref 52),(.bool true),(.int 181 0),(.ref 53),.none,(.ref 54),(.ref 55),(.ref 56),(.int 251 0),(.int 11 0),(.str "/claim/cut.py" 252)]),
  (58,fo "is_whole" (top 7) (.str "stillflow.worlds" 239) 57),
  (64,co [(.str "is_number" 254),(.str "is_number" 255),(.str "/claim/cut.py" 256),(.int 15 0),(.int 2 0),(.int 0 0),(.int 0 0),(.int 3 0),(.ref 59),(.bool true),(.int 181 0),(.ref 60),.none,(.ref 61),(.ref 62),(.ref 63),(.int 259 0),(.int 15 0),(.str "/claim/cut.py" 260)]),
  (65,fo "is_number" (top 8) (.str "stillflow.worlds" 239) 64),
  (71,co [(.str "is_long" 262),(.str "is_long" 263),(.str "/claim/cut.py" 264),(.int 17 0),(.int 3 0),(.int 0 0),(.int 0 0),(.int 3 0),(.ref 66),(.bool true),(.int 181 0),(.ref 67),.none,(.ref 68),(.ref 69),(.ref 70),(.int 268 0),(.int 17 0),(.str "/claim/cut.py" 269)]),
  (72,fo "is_long" (top 9) (.str "stillflow.worlds" 239) 71),
  (76,co [(.str "are_likes" 271),(.str "are_likes" 272),(.str "/claim/cut.py" 273),(.int 19 0),(.int 2 0),(.int 0 0),(.int 0 0),(.int 3 0),(.ref 73),(.bool true),(.int 181 0),(.ref 74),.none,.none,.none,(.ref 75),(.int 274 0),(.int 19 0),(.str "/claim/cut.py" 275)]),
  (77,fo "are_likes" (top 10) (.str "stillflow.worlds" 239) 76),
  (83,co [(.str "is_end" 277),(.str "is_end" 278),(.str "/claim/cut.py" 279),(.int 25 0),(.int 2 0),(.int 0 0),(.int 0 0),(.int 3 0),(.ref 78),(.bool true),(.int 181 0),(.ref 79),.none,(.ref 80),(.ref 81),(.ref 82),(.int 282 0),(.int 25 0),(.str "/claim/cut.py" 283)]),
  (84,fo "is_end" (top 11) (.str "stillflow.worlds" 239) 83),
  (90,co [(.str "is_way" 285),(.str "is_way" 286),(.str "/claim/cut.py" 287),(.int 27 0),(.int 3 0),(.int 0 0),(.int 0 0),(.int 3 0),(.ref 85),(.bool true),(.int 181 0),(.ref 86),.none,(.ref 87),(.ref 88),(.ref 89),(.int 291 0),(.int 27 0),(.str "/claim/cut.py" 292)]),
  (91,fo "is_way" (top 12) (.str "stillflow.worlds" 239) 90),
  (95,co [(.str "are_parts" 294),(.str "are_parts" 295),(.str "/claim/cut.py" 296),(.int 31 0),(.int 3 0),(.int 0 0),(.int 0 0),(.int 3 0),(.ref 92),(.bool true),(.int 181 0),(.ref 93),.none,.none,.none,(.ref 94),(.int 297 0),(.int 31 0),(.str "/claim/cut.py" 298)]),
  (96,fo "are_parts" (top 13) (.str "stillflow.worlds" 239) 95),
  (100,co [(.str "liked_pairs" 300),(.str "liked_pairs" 301),(.str "/claim/cut.py" 302),(.int 39 0),(.int 1 0),(.int 0 0),(.int 0 0),(.int 3 0),(.ref 97),(.bool true),(.int 181 0),(.ref 98),.none,.none,.none,(.ref 99),(.int 303 0),(.int 39 0),(.str "/claim/cut.py" 304)]),
  (101,fo "liked_pairs" (top 14) (.str "stillflow.worlds" 239) 100),
  (105,co [(.str "is_world" 306),(.str "is_world" 307),(.str "/claim/cut.py" 308),(.int 44 0),(.int 1 0),(.int 0 0),(.int 0 0),(.int 3 0),(.ref 102),(.bool true),(.int 181 0),(.ref 103),.none,.none,.none,(.ref 104),(.int 309 0),(.int 44 0),(.str "/claim/cut.py" 310)]),
  (106,fo "is_world" (top 15) (.str "stillflow.worlds" 239) 105),
  (112,co [(.str "check_world" 312),(.str "check_world" 313),(.str "/claim/cut.py" 314),(.int 51 0),(.int 1 0),(.int 0 0),(.int 0 0),(.int 3 0),(.ref 107),(.bool true),(.int 181 0),(.ref 108),.none,(.ref 109),(.ref 110),(.ref 111),(.int 316 0),(.int 51 0),(.str "/claim/cut.py" 317)]),
  (113,fo "check_world" (top 16) (.str "stillflow.worlds" 239) 112),
  (119,co [(.str "check_whole" 319),(.str "check_whole" 320),(.str "/claim/cut.py" 321),(.int 54 0),(.int 3 0),(.int 0 0),(.int 0 0),(.int 3 0),(.ref 114),(.bool true),(.int 181 0),(.ref 115),.none,(.ref 116),(.ref 117),(.ref 118),(.int 325 0),(.int 54 0),(.str "/claim/cut.py" 326)]),
  (120,fo "check_whole" (top 17) (.str "stillflow.worlds" 239) 119),
  (126,co [(.str "check_number" 328),(.str "check_number" 329),(.str "/claim/cut.py" 330),(.int 57 0),(.int 2 0),(.int 0 0),(.int 0 0),(.int 3 0),(.ref 121),(.bool true),(.int 181 0),(.ref 122),.none,(.ref 123),(.ref 124),(.ref 125),(.int 333 0),(.int 57 0),(.str "/claim/cut.py" 334)]),
  (127,fo "check_number" (top 18) (.str "stillflow.worlds" 239) 126),
  (133,co [(.str "check_side" 336),(.str "check_side" 337),(.str "/claim/cut.py" 338),(.int 59 0),(.int 1 0),(.int 0 0),(.int 0 0),(.int 3 0),(.ref 128),(.bool true),(.int 181 0),(.ref 129),.none,(.ref 130),(.ref 131),(.ref 132),(.int 340 0),(.int 59 0),(.str "/claim/cut.py" 341)]),
  (134,fo "check_side" (top 19) (.str "stillflow.worlds" 239) 133),
  (140,co [(.str "replaced" 343),(.str "replaced" 344),(.str "/claim/cut.py" 345),(.int 61 0),(.int 3 0),(.int 0 0),(.int 0 0),(.int 3 0),(.ref 135),(.bool true),(.int 181 0),(.ref 136),.none,(.ref 137),(.ref 138),(.ref 139),(.int 349 0),(.int 61 0),(.str "/claim/cut.py" 350)]),
  (141,fo "replaced" (top 20) (.str "stillflow.worlds" 239) 140),
  (145,co [(.str "ways_of" 354),(.str "ways_of" 355),(.str "/claim/cut.py" 356),(.int 64 0),(.int 3 0),(.int 0 0),(.int 0 0),(.int 3 0),(.ref 142),(.bool true),(.int 181 0),(.ref 143),.none,.none,.none,(.ref 144),(.int 357 0),(.int 64 0),(.str "/claim/cut.py" 358)]),
  (146,fo "ways_of" (top 22) (.str "stillflow.flows" 352) 145),
  (150,co [(.str "chosen_by" 360),(.str "chosen_by" 361),(.str "/claim/cut.py" 362),(.int 69 0),(.int 4 0),(.int 0 0),(.int 0 0),(.int 3 0),(.ref 147),(.bool true),(.int 181 0),(.ref 148),.none,.none,.none,(.ref 149),(.int 363 0),(.int 69 0),(.str "/claim/cut.py" 364)]),
  (151,fo "chosen_by" (top 23) (.str "stillflow.flows" 352) 150),
  (155,co [(.str "chosen_by_all" 368),(.str "chosen_by_all" 369),(.str "/claim/cut.py" 370),(.int 77 0),(.int 3 0),(.int 0 0),(.int 0 0),(.int 3 0),(.ref 152),(.bool true),(.int 181 0),(.ref 153),.none,.none,.none,(.ref 154),(.int 371 0),(.int 77 0),(.str "/claim/cut.py" 372)]),
  (156,fo "chosen_by_all" (top 25) (.str "stillflow.finding" 366) 155),
  (162,co [(.str "both_ends" 374),(.str "both_ends" 375),(.str "/claim/cut.py" 376),(.int 83 0),(.int 3 0),(.int 0 0),(.int 0 0),(.int 3 0),(.ref 157),(.bool true),(.int 181 0),(.ref 158),.none,(.ref 159),(.ref 160),(.ref 161),(.int 380 0),(.int 83 0),(.str "/claim/cut.py" 381)]),
  (163,fo "both_ends" (top 26) (.str "stillflow.finding" 366) 162),
  (167,co [(.str "limits" 383),(.str "limits" 384),(.str "/claim/cut.py" 385),(.int 87 0),(.int 1 0),(.int 0 0),(.int 0 0),(.int 3 0),(.ref 164),(.bool true),(.int 181 0),(.ref 165),.none,.none,.none,(.ref 166),(.int 386 0),(.int 87 0),(.str "/claim/cut.py" 387)]),
  (168,fo "limits" (top 27) (.str "stillflow.finding" 366) 167),
  (174,co [(.str "lowered" 389),(.str "lowered" 390),(.str "/claim/cut.py" 391),(.int 89 0),(.int 3 0),(.int 0 0),(.int 0 0),(.int 3 0),(.ref 169),(.bool true),(.int 181 0),(.ref 170),.none,(.ref 171),(.ref 172),(.ref 173),(.int 395 0),(.int 89 0),(.str "/claim/cut.py" 396)]),
  (175,fo "lowered" (top 28) (.str "stillflow.finding" 366) 174),
  (181,co [(.str "refused" 398),(.str "refused" 399),(.str "/claim/cut.py" 400),(.int 91 0),(.int 2 0),(.int 0 0),(.int 0 0),(.int 3 0),(.ref 176),(.bool true),(.int 181 0),(.ref 177),.none,(.ref 178),(.ref 179),(.ref 180),(.int 407 0),(.int 91 0),(.str "/claim/cut.py" 408)]),
  (182,fo "refused" (top 29) (.str "stillflow.finding" 366) 181),
  (188,co [(.str "steps" 410),(.str "steps" 411),(.str "/claim/cut.py" 412),(.int 98 0),(.int 1 0),(.int 0 0),(.int 0 0),(.int 3 0),(.ref 183),(.bool true),(.int 181 0),(.ref 184),.none,(.ref 185),(.ref 186),(.ref 187),(.int 417 0),(.int 98 0),(.str "/claim/cut.py" 418)]),
  (189,fo "steps" (top 30) (.str "stillflow.finding" 366) 188),
  (195,co [(.str "capped" 420),(.str "capped" 421),(.str "/claim/cut.py" 422),(.int 107 0),(.int 2 0),(.int 0 0),(.int 0 0),(.int 3 0),(.ref 190),(.bool true),(.int 181 0),(.ref 191),.none,(.ref 192),(.ref 193),(.ref 194),(.int 428 0),(.int 107 0),(.str "/claim/cut.py" 429)]),
  (196,fo "capped" (top 31) (.str "stillflow.finding" 366) 195),
  (202,co [(.str "givers_best" 431),(.str "givers_best" 432),(.str "/claim/cut.py" 433),(.int 112 0),(.int 1 0),(.int 0 0),(.int 0 0),(.int 3 0),(.ref 197),(.bool true),(.int 181 0),(.ref 198),.none,(.ref 199),(.ref 200),(.ref 201),(.int 435 0),(.int 112 0),(.str "/claim/cut.py" 436)]),
  (203,fo "givers_best" (top 32) (.str "stillflow.finding" 366) 202),
  (209,co [(.str "_law_cell" 440),(.str "_law_cell" 441),(.str "/claim/cut.py" 442),(.int 116 0),(.int 2 0),(.int 0 0),(.int 0 0),(.int 3 0),(.ref 204),(.bool true),(.int 181 0),(.ref 205),.none,(.ref 206),(.ref 207),(.ref 208),(.int 445 0),(.int 116 0),(.str "/claim/cut.py" 446)]),
  (210,fo "_law_cell" (top 34) (.str "law_stillflow_k22_steps" 438) 209),
  (216,co [(.str "_law_drawn" 448),(.str "_law_drawn" 449),(.str "/claim/cut.py" 450),(.int 120 0),(.int 3 0),(.int 0 0),(.int 0 0),(.int 3 0),(.ref 211),(.bool true),(.int 181 0),(.ref 212),.none,(.ref 213),(.ref 214),(.ref 215),(.int 455 0),(.int 120 0),(.str "/claim/cut.py" 456)]),
  (217,fo "_law_drawn" (top 35) (.str "law_stillflow_k22_steps" 438) 216),
  (223,co [(.str "_law_orders" 458),(.str "_law_orders" 459),(.str "/claim/cut.py" 460),(.int 124 0),(.int 3 0),(.int 0 0),(.int 0 0),(.int 3 0),(.ref 218),(.bool true),(.int 181 0),(.ref 219),.none,(.ref 220),(.ref 221),(.ref 222),(.int 470 0),(.int 124 0),(.str "/claim/cut.py" 471)]),
  (224,fo "_law_orders" (top 36) (.str "law_stillflow_k22_steps" 438) 223),
  (228,co [(.str "_law_world" 473),(.str "_law_world" 474),(.str "/claim/cut.py" 475),(.int 132 0),(.int 3 0),(.int 0 0),(.int 0 0),(.int 3 0),(.ref 225),(.bool true),(.int 181 0),(.ref 226),.none,.none,.none,(.ref 227),(.int 476 0),(.int 132 0),(.str "/claim/cut.py" 477)]),
  (229,fo "_law_world" (top 37) (.str "law_stillflow_k22_steps" 438) 228),
  (235,co [(.str "_law_choice" 479),(.str "_law_choice" 480),(.str "/claim/cut.py" 481),(.int 148 0),(.int 4 0),(.int 0 0),(.int 0 0),(.int 3 0),(.ref 230),(.bool true),(.int 181 0),(.ref 231),.none,(.ref 232),(.ref 233),(.ref 234),(.int 490 0),(.int 148 0),(.str "/claim/cut.py" 491)]),
  (236,fo "_law_choice" (top 38) (.str "law_stillflow_k22_steps" 438) 235),
  (240,co [(.str "_law_ends" 493),(.str "_law_ends" 494),(.str "/claim/cut.py" 495),(.int 157 0),(.int 3 0),(.int 0 0),(.int 0 0),(.int 3 0),(.ref 237),(.bool true),(.int 181 0),(.ref 238),.none,.none,.none,(.ref 239),(.int 496 0),(.int 157 0),(.str "/claim/cut.py" 497)]),
  (241,fo "_law_ends" (top 39) (.str "law_stillflow_k22_steps" 438) 240),
  (245,co [(.str "_law_refused_first" 499),(.str "_law_refused_first" 500),(.str "/claim/cut.py" 501),(.int 162 0),(.int 2 0),(.int 0 0),(.int 0 0),(.int 3 0),(.ref 242),(.bool true),(.int 181 0),(.ref 243),.none,.none,.none,(.ref 244),(.int 502 0),(.int 162 0),(.str "/claim/cut.py" 503)]),
  (246,fo "_law_refused_first" (top 40) (.str "law_stillflow_k22_steps" 438) 245),
  (250,co [(.str "law" 505),(.str "law" 506),(.str "/claim/cut.py" 507),(.int 167 0),(.int 1 0),(.int 0 0),(.int 0 0),(.int 3 0),(.ref 247),(.bool true),(.int 181 0),(.ref 248),.none,.none,.none,(.ref 249),(.int 508 0),(.int 167 0),(.str "/claim/cut.py" 509)]),
  (251,fo "law" (top 41) (.str "law_stillflow_k22_steps" 438) 250)]
noncomputable def hk:PySem.W.Hook:=PySem.W.kmHook Kf [3,57,58,64,65,71,72,76,77,83,84,90,91,95,96,100,101,105,106,112,113,119,120,126,127,133,134,140,141,145,146,150,151,155,156,162,163,167,168,174,175,181,182,188,189,195,196,202,203,209,210,216,217,223,224,228,229,235,236,240,241,245,246,250,251] (fun _=>rfl) [143]
theorem left:PySem.W.LeftO PySem.Challenge.pw_stillflow_k22_steps vw [] (fun s=>PySem.W.xlAt vw [] s && PySem.W.recOk [] s) hk.obs hk.val 3356:=fun w=>by kernel_rfl
theorem ins (P:Params):Ins (Kf P):=⟨fIn (x:="is_whole") (st:=top 7) (f:=58) (pm:=(.str "stillflow.worlds" 239)) (c:=57) (fun _ _ _ _ _ _ _ _ us hl=>len3 (R:=fun us=>bindArgs _ ⟨us,[]⟩ = pure (List.zip _ us)) (fun _ _ _=>rfl) us hl) (by kernel_rfl) (by kernel_rfl) (by kernel_rfl) (by kernel_rfl),
  fIn (x:="is_number") (st:=top 8) (f:=65) (pm:=(.str "stillflow.worlds" 239)) (c:=64) (fun _ _ _ _ _ _ _ _ us hl=>len2 (R:=fun us=>bindArgs _ ⟨us,[]⟩ = pure (List.zip _ us)) (fun _ _=>rfl) us hl) (by kernel_rfl) (by kernel_rfl) (by kernel_rfl) (by kernel_rfl),
  fIn (x:="is_long") (st:=top 9) (f:=72) (pm:=(.str "stillflow.worlds" 239)) (c:=71) (fun _ _ _ _ _ _ _ _ us hl=>len3 (R:=fun us=>bindArgs _ ⟨us,[]⟩ = pure (List.zip _ us)) (fun _ _ _=>rfl) us hl) (by kernel_rfl) (by kernel_rfl) (by kernel_rfl) (by kernel_rfl),
  fIn (x:="are_likes") (st:=top 10) (f:=77) (pm:=(.str "stillflow.worlds" 239)) (c:=76) (fun _ _ _ _ _ _ _ _ us hl=>len2 (R:=fun us=>bindArgs _ ⟨us,[]⟩ = pure (List.zip _ us)) (fun _ _=>rfl) us hl) (by kernel_rfl) (by kernel_rfl) (by kernel_rfl) (by kernel_rfl),
  fIn (x:="is_end") (st:=top 11) (f:=84) (pm:=(.str "stillflow.worlds" 239)) (c:=83) (fun _ _ _ _ _ _ _ _ us hl=>len2 (R:=fun us=>bindArgs _ ⟨us,[]⟩ = pure (List.zip _ us)) (fun _ _=>rfl) us hl) (by kernel_rfl) (by kernel_rfl) (by kernel_rfl) (by kernel_rfl),
  fIn (x:="is_way") (st:=top 12) (f:=91) (pm:=(.str "stillflow.worlds" 239)) (c:=90) (fun _ _ _ _ _ _ _ _ us hl=>len3 (R:=fun us=>bindArgs _ ⟨us,[]⟩ = pure (List.zip _ us)) (fun _ _ _=>rfl) us hl) (by kernel_rfl) (by kernel_rfl) (by kernel_rfl) (by kernel_rfl),
  fIn (x:="are_parts") (st:=top 13) (f:=96) (pm:=(.str "stillflow.worlds" 239)) (c:=95) (fun _ _ _ _ _ _ _ _ us hl=>len3 (R:=fun us=>bindArgs _ ⟨us,[]⟩ = pure (List.zip _ us)) (fun _ _ _=>rfl) us hl) (by kernel_rfl) (by kernel_rfl) (by kernel_rfl) (by kernel_rfl),
  fIn (x:="liked_pairs") (st:=top 14) (f:=101) (pm:=(.str "stillflow.worlds" 239)) (c:=100) (fun _ _ _ _ _ _ _ _ us hl=>len1 (R:=fun us=>bindArgs _ ⟨us,[]⟩ = pure (List.zip _ us)) (fun _=>rfl) us hl) (by kernel_rfl) (by kernel_rfl) (by kernel_rfl) (by kernel_rfl),
  fIn (x:="is_world") (st:=top 15) (f:=106) (pm:=(.str "stillflow.worlds" 239)) (c:=105) (fun _ _ _ _ _ _ _ _ us hl=>len1 (R:=fun us=>bindArgs _ ⟨us,[]⟩ = pure (List.zip _ us)) (fun _=>rfl) us hl) (by kernel_rfl) (by kernel_rfl) (by kernel_rfl) (by kernel_rfl),
  fIn (x:="check_world") (st:=top 16) (f:=113) (pm:=(.str "stillflow.worlds" 239)) (c:=112) (fun _ _ _ _ _ _ _ _ us hl=>len1 (R:=fun us=>bindArgs _ ⟨us,[]⟩ = pure (List.zip _ us)) (fun _=>rfl) us hl) (by kernel_rfl) (by kernel_rfl) (by kernel_rfl) (by kernel_rfl),
  fIn (x:="check_whole") (st:=top 17) (f:=120) (pm:=(.str "stillflow.worlds" 239)) (c:=119) (fun _ _ _ _ _ _ _ _ us hl=>len3 (R:=fun us=>bindArgs _ ⟨us,[]⟩ = pure (List.zip _ us)) (fun _ _ _=>rfl) us hl) (by kernel_rfl) (by kernel_rfl) (by kernel_rfl) (by kernel_rfl),
  fIn (x:="check_number") (st:=top 18) (f:=127) (pm:=(.str "stillflow.worlds" 239)) (c:=126) (fun _ _ _ _ _ _ _ _ us hl=>len2 (R:=fun us=>bindArgs _ ⟨us,[]⟩ = pure (List.zip _ us)) (fun _ _=>rfl) us hl) (by kernel_rfl) (by kernel_rfl) (by kernel_rfl) (by kernel_rfl),
  fIn (x:="check_side") (st:=top 19) (f:=134) (pm:=(.str "stillflow.worlds" 239)) (c:=133) (fun _ _ _ _ _ _ _ _ us hl=>len1 (R:=fun us=>bindArgs _ ⟨us,[]⟩ = pure (List.zip _ us)) (fun _=>rfl) us hl) (by kernel_rfl) (by kernel_rfl) (by kernel_rfl) (by kernel_rfl),
  fIn (x:="replaced") (st:=top 20) (f:=141) (pm:=(.str "stillflow.worlds" 239)) (c:=140) (fun _ _ _ _ _ _ _ _ us hl=>len3 (R:=fun us=>bindArgs _ ⟨us,[]⟩ = pure (List.zip _ us)) (fun _ _ _=>rfl) us hl) (by kernel_rfl) (by kernel_rfl) (by kernel_rfl) (by kernel_rfl),
  lIn (x:="ways_of") (st:=top 22) (f:=146) (pm:=(.str "stillflow.flows" 352)) (c:=145) (fun _ _ _ _ _ _ _ _ us hl=>len3 (R:=fun us=>bindArgs _ ⟨us,[]⟩ = pure (List.zip _ us)) (fun _ _ _=>rfl) us hl) (by kernel_rfl) (by kernel_rfl) (by kernel_rfl) (by kernel_rfl) (by kernel_rfl),
  fIn (x:="chosen_by") (st:=top 23) (f:=151) (pm:=(.str "stillflow.flows" 352)) (c:=150) (fun _ _ _ _ _ _ _ _ us hl=>len4 (R:=fun us=>bindArgs _ ⟨us,[]⟩ = pure (List.zip _ us)) (fun _ _ _ _=>rfl) us hl) (by kernel_rfl) (by kernel_rfl) (by kernel_rfl) (by kernel_rfl),
  fIn (x:="chosen_by_all") (st:=top 25) (f:=156) (pm:=(.str "stillflow.finding" 366)) (c:=155) (fun _ _ _ _ _ _ _ _ us hl=>len3 (R:=fun us=>bindArgs _ ⟨us,[]⟩ = pure (List.zip _ us)) (fun _ _ _=>rfl) us hl) (by kernel_rfl) (by kernel_rfl) (by kernel_rfl) (by kernel_rfl),
  fIn (x:="both_ends") (st:=top 26) (f:=163) (pm:=(.str "stillflow.finding" 366)) (c:=162) (fun _ _ _ _ _ _ _ _ us hl=>len3 (R:=fun us=>bindArgs _ ⟨us,[]⟩ = pure (List.zip _ us)) (fun _ _ _=>rfl) us hl) (by kernel_rfl) (by kernel_rfl) (by kernel_rfl) (by kernel_rfl),
  fIn (x:="limits") (st:=top 27) (f:=168) (pm:=(.str "stillflow.finding" 366)) (c:=167) (fun _ _ _ _ _ _ _ _ us hl=>len1 (R:=fun us=>bindArgs _ ⟨us,[]⟩ = pure (List.zip _ us)) (fun _=>rfl) us hl) (by kernel_rfl) (by kernel_rfl) (by kernel_rfl) (by kernel_rfl),
  fIn (x:="lowered") (st:=top 28) (f:=175) (pm:=(.str "stillflow.finding" 366)) (c:=174) (fun _ _ _ _ _ _ _ _ us hl=>len3 (R:=fun us=>bindArgs _ ⟨us,[]⟩ = pure (List.zip _ us)) (fun _ _ _=>rfl) us hl) (by kernel_rfl) (by kernel_rfl) (by kernel_rfl) (by kernel_rfl),
  fIn (x:="refused") (st:=top 29) (f:=182) (pm:=(.str "stillflow.finding" 366)) (c:=181) (fun _ _ _ _ _ _ _ _ us hl=>len2 (R:=fun us=>bindArgs _ ⟨us,[]⟩ = pure (List.zip _ us)) (fun _ _=>rfl) us hl) (by kernel_rfl) (by kernel_rfl) (by kernel_rfl) (by kernel_rfl),
  fIn (x:="steps") (st:=top 30) (f:=189) (pm:=(.str "stillflow.finding" 366)) (c:=188) (fun _ _ _ _ _ _ _ _ us hl=>len1 (R:=fun us=>bindArgs _ ⟨us,[]⟩ = pure (List.zip _ us)) (fun _=>rfl) us hl) (by kernel_rfl) (by kernel_rfl) (by kernel_rfl) (by kernel_rfl),
  fIn (x:="capped") (st:=top 31) (f:=196) (pm:=(.str "stillflow.finding" 366)) (c:=195) (fun _ _ _ _ _ _ _ _ us hl=>len2 (R:=fun us=>bindArgs _ ⟨us,[]⟩ = pure (List.zip _ us)) (fun _ _=>rfl) us hl) (by kernel_rfl) (by kernel_rfl) (by kernel_rfl) (by kernel_rfl),
  fIn (x:="givers_best") (st:=top 32) (f:=203) (pm:=(.str "stillflow.finding" 366)) (c:=202) (fun _ _ _ _ _ _ _ _ us hl=>len1 (R:=fun us=>bindArgs _ ⟨us,[]⟩ = pure (List.zip _ us)) (fun _=>rfl) us hl) (by kernel_rfl) (by kernel_rfl) (by kernel_rfl) (by kernel_rfl),
  fIn (x:="_law_cell") (st:=top 34) (f:=210) (pm:=(.str "law_stillflow_k22_steps" 438)) (c:=209) (fun _ _ _ _ _ _ _ _ us hl=>len2 (R:=fun us=>bindArgs _ ⟨us,[]⟩ = pure (List.zip _ us)) (fun _ _=>rfl) us hl) (by kernel_rfl) (by kernel_rfl) (by kernel_rfl) (by kernel_rfl),
  fIn (x:="_law_drawn") (st:=top 35) (f:=217) (pm:=(.str "law_stillflow_k22_steps" 438)) (c:=216) (fun _ _ _ _ _ _ _ _ us hl=>len3 (R:=fun us=>bindArgs _ ⟨us,[]⟩ = pure (List.zip _ us)) (fun _ _ _=>rfl) us hl) (by kernel_rfl) (by kernel_rfl) (by kernel_rfl) (by kernel_rfl),
  fIn (x:="_law_orders") (st:=top 36) (f:=224) (pm:=(.str "law_stillflow_k22_steps" 438)) (c:=223) (fun _ _ _ _ _ _ _ _ us hl=>len3 (R:=fun us=>bindArgs _ ⟨us,[]⟩ = pure (List.zip _ us)) (fun _ _ _=>rfl) us hl) (by kernel_rfl) (by kernel_rfl) (by kernel_rfl) (by kernel_rfl),
  fIn (x:="_law_world") (st:=top 37) (f:=229) (pm:=(.str "law_stillflow_k22_steps" 438)) (c:=228) (fun _ _ _ _ _ _ _ _ us hl=>len3 (R:=fun us=>bindArgs _ ⟨us,[]⟩ = pure (List.zip _ us)) (fun _ _ _=>rfl) us hl) (by kernel_rfl) (by kernel_rfl) (by kernel_rfl) (by kernel_rfl),
  fIn (x:="_law_choice") (st:=top 38) (f:=236) (pm:=(.str "law_stillflow_k22_steps" 438)) (c:=235) (fun _ _ _ _ _ _ _ _ us hl=>len4 (R:=fun us=>bindArgs _ ⟨us,[]⟩ = pure (List.zip _ us)) (fun _ _ _ _=>rfl) us hl) (by kernel_rfl) (by kernel_rfl) (by kernel_rfl) (by kernel_rfl),
  fIn (x:="_law_ends") (st:=top 39) (f:=241) (pm:=(.str "law_stillflow_k22_steps" 438)) (c:=240) (fun _ _ _ _ _ _ _ _ us hl=>len3 (R:=fun us=>bindArgs _ ⟨us,[]⟩ = pure (List.zip _ us)) (fun _ _ _=>rfl) us hl) (by kernel_rfl) (by kernel_rfl) (by kernel_rfl) (by kernel_rfl),
  fIn (x:="_law_refused_first") (st:=top 40) (f:=246) (pm:=(.str "law_stillflow_k22_steps" 438)) (c:=245) (fun _ _ _ _ _ _ _ _ us hl=>len2 (R:=fun us=>bindArgs _ ⟨us,[]⟩ = pure (List.zip _ us)) (fun _ _=>rfl) us hl) (by kernel_rfl) (by kernel_rfl) (by kernel_rfl) (by kernel_rfl),
  fIn (x:="law") (st:=top 41) (f:=251) (pm:=(.str "law_stillflow_k22_steps" 438)) (c:=250) (fun _ _ _ _ _ _ _ _ us hl=>len1 (R:=fun us=>bindArgs _ ⟨us,[]⟩ = pure (List.zip _ us)) (fun _=>rfl) us hl) (by kernel_rfl) (by kernel_rfl) (by kernel_rfl) (by kernel_rfl),
  Dl.intIn (t:=241) (by kernel_rfl),
  Dl.intIn (t:=243) (by kernel_rfl),
  Dl.bltAll (by kernel_rfl) (by kernel_rfl) (by kernel_rfl) (by kernel_rfl) (by kernel_rfl) (by kernel_rfl) (by kernel_rfl) (by kernel_rfl) (by kernel_rfl) (by kernel_rfl) (by kernel_rfl) (by kernel_rfl) (by kernel_rfl) (by kernel_rfl) (by kernel_rfl) (by kernel_rfl) (by kernel_rfl)⟩
theorem chk (w:World):tabsChk (Kf w.params) [143] = true:=by kernel_rfl
theorem said:PySem.Challenge.rw_stillflow_k22_steps.wellSaid = true:=by kernel_rfl
end K22
open PySem PySem.W PyProof.Rows
theorem PySem.Challenge.cw_stillflow_k22_steps_holds : PySem.Challenge.rw_stillflow_k22_steps.Holds := by
  refine holds_law K22.said fun k1=>?_
  refine holds_open (XP:=XL K22.vw []) (YP:=K22.hk.says) K22.left K22.hk.of K22.hk.keeps (fun s e=>xl_of s (Bool.and_eq_true_iff.mp e).1) XL.keeps (by rfl) (by rfl) (by rfl) (fun s e=>recFacts_of (Bool.and_eq_true_iff.mp e).2) (by rfl) k1 (by decide +kernel) ⟨rfl,rfl,rfl,rfl,rfl,by decide +kernel⟩ ?hw ?hc
  case hw=>w_witness2
  case hc=>exact K22.walk (l:=PySem.Challenge.rw_stillflow_k22_steps) (K:=K22.Kf) (ts:=[143]) rfl rfl rfl (fun w h Y=>⟨Y.1,Y.2⟩) K22.chk (fun w=>K22.ins w.params) K22.main
