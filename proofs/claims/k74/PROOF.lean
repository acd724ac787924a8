import PyProof.Rows.All
import Wide.All
import OpenK.AllK
import Wide.FinOn
import PyProof.EqAt
import PyProof.EqKinds
import PyProof.TupleCall
import Lean
import PyProof.Draws
import PyProof.ListRange
import PyProof.Rows.Range3
import PySem.Challenge.RW_stillflow_k74_whole_back_and_twins
set_option Elab.async false
set_option linter.all false
set_option maxRecDepth 100000
set_option maxHeartbeats 4000000
set_option hygiene false in
local macro_rules
|`(tactic|sleep 1)=>`(tactic|rcases bC h with ⟨_,h⟩|⟨z,hz,h⟩)
|`(tactic|sleep 2)=>`(tactic|let⟨HF,ρ,d,sm,eo,hf,q⟩:=z)
|`(tactic|sleep 3)=>`(tactic|intro X hP hw hK hc i pins s σ H E I hf st hg)
|`(tactic|sleep 4)=>`(tactic|have kl:k < os.length:=(List.getElem?_eq_some_iff.mp e2).1)
|`(tactic|sleep 5)=>`(tactic|let⟨x,hx,hf⟩:=bs hf)
|`(tactic|sleep 6)=>`(tactic|intro pins s σ H Q I h)
|`(tactic|sleep 7)=>`(tactic|intro HF H x y v1 v2 d Q sm r1 r2 hg q)
|`(tactic|sleep 8)=>`(tactic|have D:ZipApart z TI TO i1 i2 l1 l2:=⟨Z.a1,Z.a2,Z.a3,Z.a4,Z.a5,Z.a6,Z.a7,Z.a8,Z.a9,Z.a0,XA.ne I (hf z (by simp)),XA.ne I (hf TO (by simp)),XA.ne I (hf i1 (by simp)),XA.ne I (hf i2 (by simp)),Xd.ne I (hf z (by simp)),Xd.ne I (hf TO (by simp)),Xd.ne I (hf i1 (by simp)),Xd.ne I (hf i2 (by simp))⟩)
|`(tactic|sleep 9)=>`(tactic|let⟨HF,ρ,os,d,Vz,S,hf,q⟩:=z)
|`(tactic|sleep 10)=>`(tactic|let⟨f0,f1,f2,f3,f4,f5⟩:=hf it (by simp))
|`(tactic|sleep 11)=>`(tactic|let⟨HF,ρ,os,o,S,hg,q⟩:=z)
|`(tactic|sleep 12)=>`(tactic|let⟨HF,ρ,o,S,hg,q⟩:=z)
|`(tactic|sleep 13)=>`(tactic|rcases cI h with ⟨hx,h⟩|⟨_,h⟩)
|`(tactic|sleep 14)=>`(tactic|intro pins s σ H x y v u Q I rx ry h)
|`(tactic|sleep 15)=>`(tactic|let⟨x,hx,h⟩:=bs h)
|`(tactic|sleep 16)=>`(tactic|let⟨hc,h⟩:=ax h)
|`(tactic|sleep 17)=>`(tactic|let⟨z,hz,h⟩:=bs h)
|`(tactic|sleep 18)=>`(tactic|intro pins s σ H xs us Q I r h)
|`(tactic|sleep 19)=>`(tactic|let⟨f,hf,rfl⟩:=ae h)
|`(tactic|sleep 20)=>`(tactic|let⟨oc,od,kV,doc,pm,an,VT,ct,W7,rfl,lk,VF⟩:=F.ex)
|`(tactic|sleep 21)=>`(tactic|let⟨y,hy,rfl⟩:=ae h)
|`(tactic|sleep 22)=>`(tactic|let⟨v1,v2,v3,v4⟩:=dq C hi)
abbrev Γ:=@List
abbrev Δ:=@Option
abbrev Θ:=PySem.Value
abbrev Ξ:=PySem.Shared
abbrev Φ:=PySem.W.Frag
abbrev Ψ:=PySem.Addr
abbrev Ω:=PySem.Stmt
abbrev γ:=PySem.Expr
abbrev δ:=PySem.World
abbrev ε:=PySem.Program
abbrev ζ:=PySem.Scope
abbrev η:=PySem.FuncData
abbrev θ:=Bool
abbrev ι:=PySem.Heap
abbrev ξ:=PySem.Around
abbrev zA:=@Option.bind_some
abbrev zB:=@Option.map_some
abbrev zC:=@List.mem_cons_of_mem
abbrev zD:=@List.length_map
abbrev zE:=@List.mem_cons_self
abbrev zF:=@Bool.and_eq_true
abbrev zG:=@List.getD_eq_getElem?_getD
abbrev zH:=@List.size_toArray
abbrev zI:=@List.map_cons
abbrev zJ:=@decide_eq_true_eq
abbrev zK:=@List.getElem?_eq_getElem
abbrev zL:=@List.length_cons
abbrev zM:=@List.map_map
abbrev zN:=@List.length_append
abbrev zO:=@List.getElem?_map
abbrev zP:=@Nat.lt_of_lt_of_le
abbrev zQ:=@List.mem_cons
abbrev zR:=@List.length_range
abbrev zS:=@List.mem_range
abbrev zT:=@List.getElem?_eq_some_iff
abbrev zU:=@PySem.Heap.get?_push_of_some
abbrev zV:=@PySem.wpAny_bind
abbrev zW:=@PySem.wpAny_pure
abbrev zX:=@PySem.Heap.get?_push_size
abbrev zY:=@PySem.Heap.lt_size
abbrev zZ:=@decide_eq_false
abbrev yA:=@decide_eq_true
abbrev yB:=@List.lookup_cons
abbrev yC:=@List.length_set
abbrev yD:=@Nat.le_trans
abbrev yE:=@List.mem_append_right
abbrev yF:=@List.not_mem_nil
abbrev yG:=@Int.toNat_natCast
abbrev yH:=@List.map_congr_left
abbrev yI:=@List.mem_singleton
abbrev yJ:=@Option.some.injEq
abbrev yK:=@if_pos
abbrev yL:=@Nat.le_refl
abbrev yM:=@if_neg
abbrev yN:=@Bool.false_eq_true
abbrev yO:=@Bool.not_eq_true'
abbrev yP:=@of_decide_eq_true
abbrev yQ:=@Nat.ne_of_lt
abbrev yR:=@List.getElem?_append_left
abbrev yS:=@List.getElem?_append_right
abbrev yT:=@List.map_nil
abbrev yU:=@List.set_cons_zero
abbrev yV:=@List.set_cons_succ
abbrev yW:=@List.getElem?_replicate
abbrev yX:=@List.getElem?_cons_succ
abbrev yY:=@Bool.false_ne_true
abbrev yZ:=@PySem.wpAny_mono
abbrev xA:=@decide_eq_false_iff_not
abbrev xB:=@List.length_singleton
abbrev xC:=@Option.some.inj
abbrev xD:=@List.replicate_succ
abbrev xE:=@List.cons_append
abbrev xF:=@List.all_eq_true
abbrev xG:=@if_true
abbrev xH:=@List.getElem?_set
abbrev xI:=@PySem.Heap.size_push
abbrev xJ:=@List.length_nil
abbrev xK:=@List.length_replicate
abbrev xM:=@PySem.Heap.get?_update_other
abbrev xN:=@List.nil_append
abbrev xO:=@List.length_filter_le
abbrev xP:=@List.getElem?_cons_zero
abbrev xQ:=@PySem.wpAny_pyIter_tuple
abbrev xR:=@List.all_cons
abbrev xS:=@or_false
abbrev xU:=@Nat.zero_le
abbrev xV:=@PySem.wpAny_truthy_bool
abbrev xW:=@PySem.wpAny_holding
abbrev xX:=@Bool.not_true
abbrev xY:=@Int.le_refl
abbrev xZ:=@List.getElem_mem
abbrev qA:=@List.mem_of_getElem?
abbrev qB:=@PySem.wpAny_callSpecial?_slot
abbrev qC:=@Array.getD_eq_getD_getElem?
abbrev qD:=@Nat.lt_irrefl
abbrev qE:=@List.append_nil
abbrev qF:=@Option.getD_some
abbrev qG:=@List.length_drop
abbrev qH:=@List.mem_append_left
abbrev qJ:=@PySem.wpAny_pyIter_list
abbrev qK:=@PySem.wpAny_newObj_type
abbrev qL:=@List.flatten_cons
abbrev qM:=@PySem.F.plainAttrs_list
abbrev qN:=@if_false
abbrev qP:=@List.getElem_of_mem
abbrev qQ:=@PyProof.Rows.callWith_type1
abbrev qS:=@PySem.wpAny_field
abbrev qT:=@PySem.sizeLine_eq
abbrev qU:=@PySem.wpAny_call_entry
abbrev qV:=@PySem.call_meets
abbrev qX:=@PySem.wpAny_Call_Name_kw
abbrev qY:=@Nat.lt_of_le_of_lt
abbrev qZ:=@List.map_append
abbrev jA:=@Bool.or_eq_true
abbrev jB:=@congrArg
abbrev jC:=@Nat.zero_add
abbrev jD:=@List.pairwise_map
abbrev jE:=@PyProof.Rows.slot_tuple_getitem
abbrev jF:=@List.filterMap_cons
abbrev jG:=@List.ext_getElem
abbrev jH:=@Nat.ne_of_gt
abbrev jI:=@PySem.wpAny_passesOwn
abbrev jJ:=@Bool.true_and
abbrev jK:=@List.getElem?_eq_none
abbrev jL:=@Ne.symm
abbrev jM:=@Nat.lt_succ_of_lt
abbrev jN:=@and_self
abbrev jO:=@decide_true
abbrev jP:=@PySem.F.slot_tuple_iterator_next
abbrev jQ:=@PySem.codeAny_mono
abbrev jR:=@Nat.le_of_lt
abbrev jS:=@Int.le_trans
abbrev jT:=@Nat.le_add_right
abbrev jU:=@List.length_take
abbrev jV:=@List.filter_cons
abbrev jW:=@Array.getElem?_eq_getElem
abbrev jX:=@PySem.mem_of_lookup
abbrev jY:=@PyProof.Rows.listUpdate_at
abbrev jZ:=@PyProof.Rows.get?_update_seq
abbrev kA:=@List.filter_map
abbrev kC:=@PySem.wpAny_seqItems
abbrev kE:=@List.take_of_length_le
abbrev kF:=@List.find?_cons_of_neg
abbrev kG:=@List.findIdx_lt_length_of_exists
abbrev kH:=@Option.getD_none
abbrev kJ:=@Nat.lt_succ_self
abbrev kK:=@PySem.wpAny_newList
abbrev kL:=@PySem.wpAny_attempt
abbrev kM:=@List.getElem?_set_ne
abbrev kN:=@List.cons.injEq
abbrev kO:=@PySem.wpAny_setField_rec
abbrev kP:=@Int.emod_lt_of_pos
abbrev kR:=@List.drop_eq_getElem_cons
abbrev kU:=@List.findIdx_cons
abbrev kW:=@PySem.wpAny_standAt
abbrev kX:=@List.any_cons
abbrev kY:=@PySem.F.args_tuple_add_2
abbrev kZ:=@List.range'_succ
abbrev vA:=@PySem.F.entry_tuple_add
abbrev vB:=@List.pairwise_singleton
abbrev vC:=@Int.eq_ofNat_of_zero_le
abbrev vD:=@beq_iff_eq
abbrev vE:=@PyProof.Rows.listItems_at
abbrev vF:=@PySem.F.slot_tuple_add
abbrev vG:=@List.range_succ_eq_map
abbrev vH:=@List.getElem?_set_self
abbrev vI:=@List.find?_cons_of_pos
abbrev vJ:=@PySem.wpAny_execs_nil
abbrev vK:=@Nat.not_lt_zero
abbrev vL:=@List.range_succ
abbrev vM:=@List.of_mem_zip
abbrev vN:=@Int.emod_nonneg
abbrev vO:=@PySem.F.slot_zip_next
abbrev vP:=@List.getElem?_toArray
abbrev vQ:=@Nat.mul_le_mul
abbrev vR:=@Bool.false_and
abbrev vS:=@List.findIdx_getElem
abbrev vT:=@List.getD_cons_zero
abbrev vU:=@List.getD_cons_succ
abbrev vV:=@Array.length_toList
abbrev vW:=@PySem.wpAny_rule
abbrev vX:=@PySem.F.args_tuple_mul_2
abbrev vY:=@PySem.wpAny_typeOf
abbrev vZ:=@decide_false
abbrev wA:=@PySem.concat_meets
abbrev wC:=@Nat.lt_trans
abbrev wD:=@List.any_map
abbrev wF:=@PySem.wpAny_pyIter_enum
abbrev wG:=@List.nodup_append
abbrev wH:=@Function.comp_def
abbrev wI:=@PySem.F.entry_tuple_mul
local macro_rules|`(tactic|simp?[$t,*] $[$l:location]?)=>`(tactic|simp only[$t,*] $[$l]?)
local macro_rules|`(tactic|let ⟨$a,*⟩:=$e)=>do
 let rec f(n:Nat)(t:Lean.Syntax):Lean.MacroM (Lean.TSyntax `rcasesPat):=match n with
 |0=>Lean.Macro.throwUnsupported
 |n+1=>match t with
  |`(⟨$b,*⟩)=>do
    let c<-b.getElems.mapM fun x=>do `(Lean.Parser.Tactic.rcasesPatLo|$(<-f n x):rcasesPat)
    `(rcasesPat|⟨$c,*⟩)
  |`($x:ident)=>`(rcasesPat|$x:ident)
  |_=>`(rcasesPat|_)
 `(tactic|obtain $(<-f 9 (<-`(⟨$a,*⟩))):rcasesPat:=$e)
local macro_rules|`(tactic|lia)=>`(tactic|omega)
local macro_rules|`(def $i:declId $s:optDeclSig $v:declVal)=>`(noncomputable def $i:declId $s:optDeclSig $v:declVal)
local macro_rules|`(abbrev $i:declId $s:optDeclSig $v:declVal)=>`(noncomputable abbrev $i:declId $s:optDeclSig $v:declVal)
namespace L2
open PySem
def dY(s:Ω):Arguments:=match s with
 | .FunctionDef _ a _ _ _ _ _ _ _ _=>a
 | _=>{ posonlyargs:=[],args:=[],vararg:=none,kwonlyargs:=[],kw_defaults:=[],kwarg:=none,defaults:=[] }
def aP(s:Ω):Γ Ω:=match s with
 | .FunctionDef _ _ b _ _ _ _ _ _ _=>b
 | _=>[]
def ah(s:Ω):ζ:=match s with
 | .FunctionDef _ _ _ _ _ _ sc _ _ _=>sc
 | _=>{ kind:=.function,names:=[],isGenerator:=false,isCoroutine:=false }
end L2
namespace Hd
open PySem L2 PySem.Spec PyProof.Rows
variable {N:Nat}
def en(P:Params)(x:String)(t:Nat)(v:Θ):DictEntry:=⟨PyData.keyHash P (Str.ofString x),.str (Str.ofString x) t,v⟩
def fo(x:Str)(st:Ω)(pm:Θ)(c:Ψ):Obj:=⟨.type "function",none,.func (W.fnOf x x (dY st) (aP st) (ah st) .none .none .none pm none (.ref c) .none),#[]⟩
def co(vs:Γ Θ):Obj:=⟨.type "code",none,.fields vs.toArray,#[]⟩
def Gq(n:Nat):Θ:=if n=0 then .none else .ref n
def Sz(x:Str)(t l n a b c d e f u:Nat):Obj:=co [.str x t,.str x (t+1),.str "/claim/cut.py" (t+2),.int l 0,.int n 0,.int 0 0,.int 0 0,.int 3 0,Gq a,.bool true,.int 181 0,Gq b,Gq c,Gq d,Gq e,Gq f,.int u 0,.int l 0,.str "/claim/cut.py" (u+1)]
open PySem PySem.W L2
structure Acc where
 a:Nat
 t:Nat
 nm:Θ
 es:Γ DictEntry
 ts:Γ Θ
 os:Γ Obj
def Lw(q:NameKind)(sc:ζ):Γ Str:=sc.names.filterMap λ(x,k)=>if k=q then some x else none
def Pj:Nat->Γ Str->Γ Θ
 | _,[]=>[]
 | t,x::l=>.str x t::Pj (t+1) l
def Jl(vs:Γ Θ):Obj:=⟨.type "tuple",none,.seq vs.toArray,#[]⟩
def QA:Obj:=⟨.none,none,.fields #[],#[]⟩
def QH(x:Str)(st:Ω):Obj:=⟨.none,none,.func { name:=x,qualname:=x,params:=dY st,body:=.stmts (aP st),scope:=ah st,globals:=0,closure:=[],defaults:=.none,kwdefaults:=.none },#[]⟩
def Vl(P:Params)(k:Nat)(st:Ω):Acc->Acc
 | ⟨a,t,nm,es,ts,os⟩=>match st with
  | .FunctionDef x args _ _ _ _ sc _ _ pos =>
   if k=0 then ⟨a+5,t+6,nm,⟨PyData.keyHash P x,.str x (t+5),.ref (a+4)⟩::es,.ref (a+3)::.int 0 0::.int pos.line 0::ts,
    fo x st nm (a+3)::Sz x t pos.line args.args.length a (a+1) 0 0 0 (a+2) (t+3)::QH x st::QA::Jl []::os⟩
   else
    let m:=(Lw .local sc).length;let n:=m+(Lw .cell sc).length
    ⟨a+7,t+6+n,nm,⟨PyData.keyHash P x,.str x (t+5+n),.ref (a+6)⟩::es,.ref (a+5)::.int 0 0::.int pos.line 0::ts,
    fo x st nm (a+5)::Sz x t pos.line args.args.length a (a+1) 0 (a+2) (a+3) (a+4) (t+3+n)::QH x st::Jl (Pj (t+3+m) (Lw .cell sc))::Jl (Pj (t+3) (Lw .local sc))::QA::Jl []::os⟩
  | .Assign [.Name x _] (.Constant c _ _) _ =>
   let v:=match c with|.int i=>Value.int i t|.str y=>.str y t|_=>.none
   if k=2 then ⟨a,t+2,v,es,ts,os⟩ else ⟨a,t+2,nm,⟨PyData.keyHash P x,.str x (t+1),v⟩::es,ts,os⟩
  | _=>⟨a,t,nm,es,ts,os⟩
def R0(P:Params):Γ Nat->Γ Ω->Acc->Acc
 | k::ks,st::r,A=>R0 P ks r (Vl P k st A)
 | _,_,A=>A
def TX:ι->Acc->ι
 | ⟨⟨o0::o1::o2::⟨c3,d3,.dict ⟨e0::es⟩ n,s3⟩::r⟩,lf⟩,A=>⟨⟨o0::o1::o2::⟨c3,d3,.dict ⟨{ e0 with val:=A.nm }::(es++A.es.reverse)⟩ (n+A.es.length),s3⟩ ::
   (r.modify 8 (fun|⟨c,d,.fields ⟨vs⟩,s⟩=>⟨c,d,.fields ⟨vs++A.ts.reverse⟩,s⟩|o=>o)++A.os.reverse)⟩,lf⟩
 | h,_=>h
def cP(s:Ξ)(A:Acc):Ξ:={ s with heap:=TX s.heap A,toks:=A.t }
section
variable (p:ε) (w:δ)
abbrev Ap:=behindTheImports p
abbrev Iy:PySem.Env:={ scope:=p.main.scope,locals:=3,globals:=3,cells:=[],code:=.ref 13,frame:=some 14 }
abbrev Ak:Code:=.body (Ap p) (Iy p)
def EX(i:Nat):Pos:=if i=0 then default else ((Ap p).getD (i - 1) (.Pass default)).pos
abbrev JA:Γ Frame:=[topFrame default]
def S0:Ξ:=(fencedOpening treeTable p w 6000).getD {}
def Sb:Ξ:=((topGo treeTable p w 11 (some (.ref 6)) 12 (S0 p w) (topStub p)).map (·.1)).getD {}
abbrev PZ(n i j:Nat)(s:Ξ):=segRun treeTable p w 11 (some (.ref 6)) 1 n s (piecesOf (((Ap p).drop i).take (j - i)) (Iy p) (Ak p) (EX p i) JA)
end
def Kx{p q:ε}{loose:Γ Str}{Xt:Ξ->θ}{α:Type}{Yf:Ξ->α}{Ya:δ->α}{g0:θ}{s1:δ->Ξ}{M:Nat}
  (ho:∀w,fencedOpening treeTable p w 6000=some (S0 p w)) (hs:∀w,((S0 p w).heap.isNs mainGlobals&&(S0 p w).gens.size == 0,(S0 p w).heap.objs.size,(S0 p w).heap.nsMap mainGlobals "__annotations__")=(true,11,some (.ref 6)))
  (hr:∀w,topRun treeTable p w 11 (some (.ref 6)) M (S0 p w) (topStub p)=some (s1 w)) (hM:M<=6000)
  (hl:∀w,(staticsOk (importedModules p.main.body) (S0 p w).heap (s1 w).heap&&namesBound p (s1 w).heap&&gensDone (s1 w)&&laidKept (S0 p w).heap (s1 w).heap)=true)
  (hk:∀w,openSeen q loose (importedModules p.main.body) Xt g0 (s1 w)=openGood q loose) (hy:∀w,Yf (s1 w)=Ya w):LeftO p q loose Xt Yf Ya 6000 g0:=λw=>by
 have r:=topRun_mono (6000 - M) _ _ _ _ (hr w);rw[show M+(6000 - M)=6000 by lia] at r;have e:=hs w;simp?[Prod.mk.injEq] at e;have t:openEnds treeTable p w 6000=some (s1 w):=by
  unfold openEnds;rw[ho w,zA];unfold topFrom;rw[e.1,e.2.1,e.2.2];dsimp only;rw[r,zA,hl w]
 rw[t,zB,hk w,hy w]
def Ov{p:ε}{w:δ}{r:Ξ}(a:topGo treeTable p w 11 (some (.ref 6)) 12 (S0 p w) (topStub p)=some (Sb p w,⟨denote treeTable (.body (Ap p) (Iy p)),Ak p,default,JA⟩))
  (b:segRun treeTable p w 11 (some (.ref 6)) 1 1 (Sb p w) (blockOf (Ap p) (Iy p) (Ak p) default JA)=some (.next,Sb p w,Ak p,EX p 0))
  (k:topRun treeTable p w 11 (some (.ref 6)) N (Sb p w) (restOf (Ap p) (Iy p) (Ak p) (EX p 0) JA)=some r):topRun treeTable p w 11 (some (.ref 6)) (12+(1+N)) (S0 p w) (topStub p)=some r:=go_top a (piece_block b k)
def Sv{p:ε}{w:δ}{n N i j:Nat}{s s' r:Ξ}(h:PZ p w n i j s=some (.next,s',Ak p,EX p j))(Vy:i<=j)(k:topRun treeTable p w 11 (some (.ref 6)) N s' (restOf ((Ap p).drop j) (Iy p) (Ak p) (EX p j) JA)=some r) :
  topRun treeTable p w 11 (some (.ref 6)) (n+N) s (restOf ((Ap p).drop i) (Iy p) (Ak p) (EX p i) JA)=some r:=by
 have e:(Ap p).drop i=((Ap p).drop i).take (j - i)++(Ap p).drop j:=by
  have:=List.take_append_drop (j - i) ((Ap p).drop i);rw[List.drop_drop,show i+(j - i)=j by lia] at this;exact this.symm
 rw[e];exact piece_app h k
def JT:Ω->Γ Ω
 | .ClassDef _ _ _ b ..=>b
 | _=>[]
def UM(x:Str)(C ns t u:Nat):Obj:=⟨.type "type",none,.cls { name:=x,bases:=[.type "object"],mro:=[.ref C,.type "object"],ns:=ns,qualname:=x,subclasses:=[] },#[none,none,some (.str x t),some (.str x u),some (.builtin "object.__new__"),some (.bool true)]⟩
def Sw(x q:Str)(st:Ω)(pm:Θ)(c:Ψ):Obj:=⟨.type "function",none,.func (W.fnOf x q (dY st) (aP st) (ah st) .none .none .none pm none (.ref c) .none),#[]⟩
def U7(x q:Str)(t l n a b d e f u:Nat):Obj:=co [.str x t,.str q (t+1),.str "/claim/cut.py" (t+2),.int l 0,.int n 0,.int 0 0,.int 0 0,.int 3 0,Gq a,.bool true,.int 181 0,Gq b,.none,Gq d,Gq e,Gq f,.int u 0,.int l 0,.str "/claim/cut.py" (u+1)]
def d5(x:Str)(st:Ω)(pm:Θ)(t l n a:Nat):Γ (Ψ×Obj):=[(a+3,Sz x t l n a (a+1) 0 0 0 (a+2) (t+3)),(a+4,fo x st pm (a+3))]
def d7(x:Str)(st:Ω)(pm:Θ)(t l n a u:Nat):Γ (Ψ×Obj):=[(a+5,Sz x t l n a (a+1) 0 (a+2) (a+3) (a+4) u),(a+6,fo x st pm (a+5))]
def m7(x q:Str)(st:Ω)(pm:Θ)(t l n a u:Nat):Γ (Ψ×Obj):=[(a+5,U7 x q t l n a (a+1) (a+2) (a+3) (a+4) u),(a+6,Sw x q st pm (a+5))]
section
variable (p:ε) (w:δ)
def Sd(n i j:Nat)(s:Ξ):Ξ:=((PZ p w n i j s).map (·.2.1)).getD {}
def SB(s:Ξ)(j:Nat)(A:Acc)(ks:Γ Nat)(m:Nat):Ξ:=cP s (R0 w.params (ks.take m) ((Ap p).drop j) A)
end
end Hd
namespace K74
open PySem L2 PySem.Spec PyProof.Rows Hd PySem.W
abbrev top(i:Nat):Ω:=PySem.Challenge.pw_stillflow_k74_whole_back_and_twins.main.body.getD i (.Pass ⟨0,0,0,0⟩)
def vw:ε:=W.view PySem.Challenge.pw_stillflow_k74_whole_back_and_twins [1,2,3,4,5,7,8,9,10,11,12,13,14,15,16,17,18,19,20,21,22,23,24,25,27,28,29,30,31,33,34,35,36,38,40,41,42,43,44,45,46,47,48,49,50,51,52,53]
abbrev bZ:Ψ:=322
abbrev bo(i:Nat):Ω:=(JT (top 38)).getD i (.Pass ⟨0,0,0,0⟩)
def sS:Θ:=(.str "stillflow.floors" 483)
def lC:Θ:=(.str "stillflow.worlds" 271)
def ID:Θ:=(.str "stillflow.flows" 403)
def L6:Θ:=(.str "stillflow.walks" 441)
def nY:Θ:=(.str "law_stillflow_k74_whole_back_and_twins" 597)
def Kf(P:Params):Φ:=[(3,⟨.type "dict",none,.dict #[en P "__name__" 165 (.str "law_stillflow_k74_whole_back_and_twins" 597),en P "__doc__" 166 .none,en P "__package__" 167 .none,en P "__loader__" 168 (.builtin "__main__.__loader__#opaque"),en P "__spec__" 169 .none,en P "__annotations__" 170 (.ref 6),en P "__builtins__" 171 (.ref 4),en P "__file__" 173 (.str "/claim/cut.py" 172),en P "__cached__" 174 .none,en P "FlowError" 206 (.ref 24),en P "NoWorld" 222 (.ref 37),en P "NoPlan" 238 (.ref 49),en P "NoPlace" 254 (.ref 61),en P "Nothing" 270 (.ref 73),en P "MOST_PLACES" 274 (.int 4 273),en P "MOST" 276 (.int 9 275),en P "is_whole" 285 (.ref 82),en P "is_number" 293 (.ref 89),en P "is_long" 302 (.ref 96),en P "are_likes" 308 (.ref 101),en P "is_end" 316 (.ref 108),en P "is_way" 325 (.ref 115),en P "are_parts" 331 (.ref 120),en P "liked_pairs" 337 (.ref 125),en P "is_world" 343 (.ref 130),en P "through" 349 (.ref 135),en P "keeps_amounts" 355 (.ref 140),en P "is_plan" 361 (.ref 145),en P "check_world" 368 (.ref 152),en P "check_plan" 376 (.ref 159),en P "check_whole" 385 (.ref 166),en P "check_number" 393 (.ref 173),en P "replaced" 402 (.ref 180),en P "ways_of" 410 (.ref 185),en P "wants_more" 416 (.ref 190),en P "why_kept" 425 (.ref 197),en P "first_leaving" 434 (.ref 204),en P "leaving" 440 (.ref 209),en P "least_liked_used" 448 (.ref 214),en P "pushed_on" 461 (.ref 221),en P "pushed" 470 (.ref 228),en P "walk" 482 (.ref 235),en P "Floor" 596 (.ref 322),en P "_law_cell" 606 (.ref 333),en P "_law_drawn" 616 (.ref 340),en P "_law_orders" 631 (.ref 347),en P "_law_world" 637 (.ref 352),en P "_law_used" 643 (.ref 357),en P "_law_fits" 654 (.ref 364),en P "_law_plan" 668 (.ref 371),en P "_law_wants" 682 (.ref 378),en P "_law_why" 694 (.ref 385),en P "_law_gone" 700 (.ref 390),en P "_law_step" 712 (.ref 397),en P "_law_go_on" 722 (.ref 404),en P "_law_goes" 728 (.ref 409),en P "law" 746 (.ref 416)] 57,#[]⟩)] ++
 (d7 "is_whole" (top 9) lC 277 15 3 76 283 ++
 (d7 "is_number" (top 10) lC 286 19 2 83 291 ++
 (d7 "is_long" (top 11) lC 294 21 3 90 300 ++
 (d5 "are_likes" (top 12) lC 303 23 2 97 ++
 (d7 "is_end" (top 13) lC 309 29 2 102 314 ++
 (d7 "is_way" (top 14) lC 317 31 3 109 323 ++
 (d5 "are_parts" (top 15) lC 326 35 3 116 ++
 (d5 "liked_pairs" (top 16) lC 332 43 1 121 ++
 (d5 "is_world" (top 17) lC 338 48 1 126 ++
 (d5 "through" (top 18) lC 344 55 4 131 ++
 (d5 "keeps_amounts" (top 19) lC 350 57 3 136 ++
 (d5 "is_plan" (top 20) lC 356 59 2 141 ++
 (d7 "check_world" (top 21) lC 362 66 1 146 366 ++
 (d7 "check_plan" (top 22) lC 369 69 2 153 374 ++
 (d7 "check_whole" (top 23) lC 377 73 3 160 383 ++
 (d7 "check_number" (top 24) lC 386 76 2 167 391 ++
 (d7 "replaced" (top 25) lC 394 78 3 174 400 ++
 (d5 "ways_of" (top 27) ID 405 81 3 181 ++
 (d5 "wants_more" (top 28) ID 411 86 4 186 ++
 (d7 "why_kept" (top 29) ID 417 93 3 191 423 ++
 (d7 "first_leaving" (top 30) ID 426 101 2 198 432 ++
 (d5 "leaving" (top 31) ID 435 106 2 205 ++
 (d5 "least_liked_used" (top 33) L6 443 110 4 210 ++
 (d7 "pushed_on" (top 34) L6 449 112 3 215 459 ++
 (d7 "pushed" (top 35) L6 462 120 3 222 468 ++
 (d7 "walk" (top 36) L6 471 126 2 229 480 ++
 (m7 "__init__" "Floor.__init__" (bo 0) sS 497 142 3 243 503 ++
 (m7 "step_to" "Floor.step_to" (bo 1) sS 506 149 3 250 512 ++
 (m7 "push" "Floor.push" (bo 2) sS 515 154 2 257 520 ++
 (m7 "lay" "Floor.lay" (bo 3) sS 523 158 2 264 528 ++
 (m7 "settle" "Floor.settle" (bo 4) sS 531 163 1 271 536 ++
 (m7 "plan" "Floor.plan" (bo 5) sS 539 168 1 278 543 ++
 (m7 "move" "Floor.move" (bo 6) sS 546 171 3 285 553 ++
 (m7 "back" "Floor.back" (bo 7) sS 556 179 1 292 560 ++
 (m7 "forth" "Floor.forth" (bo 8) sS 563 182 1 299 567 ++
 (m7 "counts" "Floor.counts" (bo 9) sS 570 185 1 306 574 ++
 (m7 "twin" "Floor.twin" (bo 10) sS 577 188 1 313 582 ++
 ([(321,⟨.type "dict",none,.dict #[en P "__module__" 492 (.str "stillflow.floors" 483),en P "__firstlineno__" 496 (.int 140 495),en P "__init__" 505 (.ref 249),en P "step_to" 514 (.ref 256),en P "push" 522 (.ref 263),en P "lay" 530 (.ref 270),en P "settle" 538 (.ref 277),en P "plan" 545 (.ref 284),en P "move" 555 (.ref 291),en P "back" 562 (.ref 298),en P "forth" 569 (.ref 305),en P "counts" 576 (.ref 312),en P "twin" 584 (.ref 319),en P "__static_attributes__" 589 (.ref 320),en P "__dict__" 591 (.ref 323),en P "__weakref__" 593 (.ref 324),en P "__doc__" 594 .none] 4,#[]⟩)] ++
 ([(322,UM "Floor" 322 321 485 493)] ++
 (d7 "_law_cell" (top 40) nY 599 194 2 327 604 ++
 (d7 "_law_drawn" (top 41) nY 607 198 3 334 614 ++
 (d7 "_law_orders" (top 42) nY 617 202 3 341 629 ++
 (d5 "_law_world" (top 43) nY 632 210 3 348 ++
 (d5 "_law_used" (top 44) nY 638 226 4 353 ++
 (d7 "_law_fits" (top 45) nY 644 228 2 358 652 ++
 (d7 "_law_plan" (top 46) nY 655 234 3 365 666 ++
 (d7 "_law_wants" (top 47) nY 669 241 5 372 680 ++
 (d7 "_law_why" (top 48) nY 683 249 3 379 692 ++
 (d5 "_law_gone" (top 49) nY 695 256 2 386 ++
 (d7 "_law_step" (top 50) nY 701 258 4 391 710 ++
 (d7 "_law_go_on" (top 51) nY 713 267 3 398 720 ++
 (d5 "_law_goes" (top 52) nY 723 271 2 405 ++
 (d7 "law" (top 53) nY 729 284 1 410 744)))))))))))))))))))))))))))))))))))))))))))))))))))))
def hk:W.Hook:=W.kmHook Kf [3,81,82,88,89,95,96,100,101,107,108,114,115,119,120,124,125,129,130,134,135,139,140,144,145,151,152,158,159,165,166,172,173,179,180,184,185,189,190,196,197,203,204,208,209,213,214,220,221,227,228,234,235,248,249,255,256,262,263,269,270,276,277,283,284,290,291,297,298,304,305,311,312,318,319,321,322,332,333,339,340,346,347,351,352,356,357,363,364,370,371,377,378,384,385,389,390,396,397,403,404,408,409,415,416] (λ_=>rfl) [182]
abbrev pp:=PySem.Challenge.pw_stillflow_k74_whole_back_and_twins
abbrev Ua(w:δ):Ξ:=Sd pp w 1048 0 6 (Sb pp w)
abbrev A0:Acc:=⟨76,271,.str "stillflow.errors" 187,[],[],[]⟩
abbrev UZ:Γ Nat:=[2,3,3,1,1,1,0,1,1,0,0,0,0,0,0,1,1,1,1,1,2,0,0,1,1,0,2,0,1,1,1]
abbrev QR(w:δ)(m:Nat):Ξ:=SB pp w (Ua w) 6 A0 UZ m
abbrev S6(w:δ):Ξ:=Sd pp w 555 37 39 (QR w 31)
abbrev A2:Acc:=⟨327,597,.str "stillflow.floors" 483,[],[],[]⟩
abbrev U2:Γ Nat:=[2,1,1,1,0,0,1,1,1,1,0,1,1,0,1]
abbrev Sl(w:δ)(m:Nat):Ξ:=SB pp w (S6 w) 39 A2 U2 m
def o0(w:δ):fencedOpening treeTable pp w 6000=some (S0 pp w):=by kernel_rfl
def o1(w:δ):((S0 pp w).heap.isNs mainGlobals&&(S0 pp w).gens.size == 0,(S0 pp w).heap.objs.size,(S0 pp w).heap.nsMap mainGlobals "__annotations__")=(true,11,some (.ref 6)):=by kernel_rfl
def o2(w:δ):topGo treeTable pp w 11 (some (.ref 6)) 12 (S0 pp w) (topStub pp)=some (Sb pp w,⟨denote treeTable (.body (Ap pp) (Iy pp)),Ak pp,default,JA⟩):=by kernel_rfl
def o3(w:δ):segRun treeTable pp w 11 (some (.ref 6)) 1 1 (Sb pp w) (blockOf (Ap pp) (Iy pp) (Ak pp) default JA)=some (.next,Sb pp w,Ak pp,EX pp 0):=by kernel_rfl
def q0(w:δ):PZ pp w 1048 0 6 (Sb pp w)=some (.next,Ua w,Ak pp,EX pp 6):=by kernel_rfl
def p0(w:δ):Ua w=QR w 0:=by kernel_rfl
def r0(w:δ):PZ pp w 798 6 37 (QR w 0)=some (.next,QR w 31,Ak pp,EX pp 37):=by kernel_rfl
def q2(w:δ):PZ pp w 555 37 39 (QR w 31)=some (.next,S6 w,Ak pp,EX pp 39):=by kernel_rfl
def p2(w:δ):S6 w=Sl w 0:=by kernel_rfl
def r1(w:δ):PZ pp w 458 39 54 (Sl w 0)=some (.next,Sl w 15,Ak pp,EX pp 54):=by kernel_rfl
abbrev fs(w:δ):Ξ:=Sl w 15
def qe(w:δ):topRun treeTable pp w 11 (some (.ref 6)) 3 (fs w) (restOf ((Ap pp).drop 54) (Iy pp) (Ak pp) (EX pp 54) JA)=some (fs w):=by kernel_rfl
def rl(w:δ):topRun treeTable pp w 11 (some (.ref 6)) (12+(1+(1048+(798+(555+(458+3)))))) (S0 pp w) (topStub pp)=some (fs w):=Ov (o2 w) (o3 w) (Sv (i:=0) (q0 w) (by decide) (by rw[p0 w];exact (Sv (r0 w) (by decide) (Sv (q2 w) (by decide) (by rw[p2 w];exact (Sv (r1 w) (by decide) (qe w)))))))
abbrev sn(w:δ):=openSeen vw [] (importedModules pp.main.body) (λs=>xlAt vw [] s&&recOk [] s) true (fs w)
abbrev gd:=openGood vw []
def l0(w:δ):(staticsOk (importedModules pp.main.body) (S0 pp w).heap (fs w).heap&&namesBound pp (fs w).heap&&gensDone (fs w)&&laidKept (S0 pp w).heap (fs w).heap)=true:=by kernel_rfl
def UJ(w:δ):(sn w).1=gd.1:=by kernel_rfl
def UR(w:δ):(sn w).2.1=gd.2.1:=by kernel_rfl
def U0(w:δ):(sn w).2.2.1=gd.2.2.1:=by kernel_rfl
def U3(w:δ):(sn w).2.2.2.1=gd.2.2.2.1:=by kernel_rfl
def UL(w:δ):(sn w).2.2.2.2.1=gd.2.2.2.2.1:=by kernel_rfl
def U4(w:δ):(sn w).2.2.2.2.2.1=gd.2.2.2.2.2.1:=by kernel_rfl
def Vi(w:δ):(sn w).2.2.2.2.2.2=gd.2.2.2.2.2.2:=by kernel_rfl
def UV(w:δ):hk.obs (fs w)=hk.val w:=by kernel_rfl
def left:LeftO pp vw [] (λs=>xlAt vw [] s&&recOk [] s) hk.obs hk.val 6000:=Kx o0 o1 rl (by decide) l0 (λw=>Prod.ext (UJ w) (Prod.ext (UR w) (Prod.ext (U0 w) (Prod.ext (U3 w) (Prod.ext (UL w) (Prod.ext (U4 w) (Vi w))))))) UV
def SX:PySem.Challenge.rw_stillflow_k74_whole_back_and_twins.wellSaid=true:=by kernel_rfl
end K74
namespace L2
open PySem PySem.Spec PyProof.Rows
abbrev oQ:=Sum Int Str
def CP:oQ->Θ->θ
 | .inl k,v=>Value.isInt k v
 | .inr x,v=>Value.isStrOf x v
def Ud(w:δ):oQ->Int
 | .inl k=>hashInt k
 | .inr x=>hashStr w x
def bW:∀ {k:oQ}{v:Θ},CP k v=true->(∃i t,k=Sum.inl i/\v=Value.int i t)\/(∃x t,k=Sum.inr x/\v=Value.str x t)
 | .inl i,v,h=>by
  let⟨t,e⟩:=Value.isInt_shape (k:=i) (v:=v) h;exact .inl ⟨i,t,rfl,e⟩
 | .inr x,v,h=>by
  let⟨t,e⟩:=Value.isStrOf_shape (x:=x) (v:=v) h;exact .inr ⟨x,t,rfl,e⟩
def Dz(i:Int)(t:Tok):CP (.inl i) (.int i t)=true:=by simp[CP,Value.isInt]
def Pk(a b:Int):decide ((Sum.inl a:oQ)=Sum.inl b)=(a == b):=by
 by_cases e:a=b
 ·subst e;simp
 ·have h:¬ (Sum.inl a:oQ)=Sum.inl b:=λq=>e (Sum.inl.inj q);rw[zZ h];exact (beq_eq_false_iff_ne.mpr e).symm
def Pp(a b:Str):decide ((Sum.inr a:oQ)=Sum.inr b)=decide (a=b):=by
 by_cases e:a=b
 ·subst e;simp
 ·have h:¬ (Sum.inr a:oQ)=Sum.inr b:=λq=>e (Sum.inr.inj q);rw[zZ h,zZ e]
def Ng(a:Int)(b:Str):decide ((Sum.inl a:oQ)=Sum.inr b)=false:=zZ (λq=>nomatch q)
def Nm(a:Str)(b:Int):decide ((Sum.inr a:oQ)=Sum.inl b)=false:=zZ (λq=>nomatch q)
def nF(prog:ε)(w:δ):PySem.KeyKind prog w oQ where
 is:=CP
 hash:=Ud w
 inj:=λv a b ha hb=>by
  rcases bW ha with ⟨i,t,rfl,rfl⟩|⟨x,t,rfl,rfl⟩
  ·rcases bW hb with ⟨j,u,rfl,e⟩|⟨y,u,rfl,e⟩
   ·injection e with e1 _;rw[e1]
   ·exact nomatch e
  ·rcases bW hb with ⟨j,u,rfl,e⟩|⟨y,u,rfl,e⟩
   ·exact nomatch e
   ·injection e with e1 _;rw[e1]
 byValue:=λk v h=>by
  rcases bW h with ⟨i,t,rfl,rfl⟩|⟨x,t,rfl,rfl⟩<;>rfl
 pyHash:=λhv h=>by
  rcases bW hv with ⟨i,t,rfl,rfl⟩|⟨x,t,rfl,rfl⟩
  ·exact wpAny_pyHash_int h
  ·exact wpAny_pyHash_str h
 eqBool:=λhu hv h=>by
  rcases bW hu with ⟨i,t,rfl,rfl⟩|⟨x,t,rfl,rfl⟩
  ·rcases bW hv with ⟨j,u,rfl,rfl⟩|⟨y,u,rfl,rfl⟩
   ·rw[Pk] at h;exact wpAny_eqBool_int h
   ·rw[Ng] at h;exact SeqAt.EqAt.int_str i t y u _ _ _ _ h
  ·rcases bW hv with ⟨j,u,rfl,rfl⟩|⟨y,u,rfl,rfl⟩
   ·rw[Nm] at h;exact SeqAt.EqAt.str_int x t j u _ _ _ _ h
   ·rw[Pp] at h;exact wpAny_eqBool_str h
 «strs»:=λk x t v h=>by
  rcases bW h with ⟨i,u,rfl,e⟩|⟨y,u,rfl,e⟩
  ·exact nomatch e
  ·injection e with e1 _
   subst e1;cases v<;>rfl
def xj(prog:ε)(w:δ)(i:Int)(t:Tok):(nF prog w).is (.inl i) (.int i t)=true:=Dz i t
inductive V where
 | Vs|bl (b:θ)|int (i:Int)|str (x:Str)|byt (b:Array UInt8)|flt (b:UInt64)|ref (a:Ψ)|ty (n:String)
 deriving DecidableEq
def RelV:V->Θ->Prop
 | .Vs,u=>u=Value.none
 | .bl b,u=>u=Value.bool b
 | .int i,u=>∃t,u=Value.int i t
 | .str x,u=>∃t,u=Value.str x t
 | .byt b,u=>∃t,u=Value.bytes b t
 | .flt b,u=>∃t,u=Value.float b t
 | .ref a,u=>u=Value.ref a
 | .ty n,u=>u=Value.type n
abbrev aI:Γ V->Γ Θ->Prop:=Paired RelV
def aI.length(r:aI xs us):xs.length=us.length:=Paired.length r
def aI.get:∀ {xs:Γ V}{us:Γ Θ}{i:Nat}{x:V},aI xs us->xs[i]?=some x->∃u,us[i]?=some u/\RelV x u
 | _,_,_,_,.nil,e=>by simp at e
 | _,_,0,_,.cons r _,e=>by simp at e;subst e;exact⟨_,rfl,r⟩
 | _,_,i+1,x,.cons _ t,e=>by
  let⟨u,h1,h2⟩:=aI.get (i:=i) (x:=x) t (by simpa using e);exact⟨u,by simpa using h1,h2⟩
def aI.set(r:RelV x u):∀ {xs:Γ V}{us:Γ Θ}(i:Nat),aI xs us->aI (xs.set i x) (us.set i u)
 | _,_,_,.nil=>.nil
 | _,_,0,.cons _ t=>.cons r t
 | _,_,i+1,.cons q t=>.cons q (aI.set r i t)
def aI.append:∀ {xs ys:Γ V}{us ws:Γ Θ},aI xs us->aI ys ws->aI (xs++ys) (us++ws)
 | _,_,_,_,.nil,s=>s
 | _,_,_,_,.cons r t,s=>.cons r (aI.append t s)
def aI.take:∀ {xs:Γ V}{us:Γ Θ}(n:Nat),aI xs us->aI (xs.take n) (us.take n)
 | _,_,0,_=>.nil
 | _,_,_+1,.nil=>.nil
 | _,_,n+1,.cons r t=>.cons r (aI.take n t)
def aI.drop:∀ {xs:Γ V}{us:Γ Θ}(n:Nat),aI xs us->aI (xs.drop n) (us.drop n)
 | _,_,0,r=>r
 | _,_,_+1,.nil=>.nil
 | _,_,n+1,.cons _ t=>aI.drop n t
def tI:Δ V->Δ Θ->Prop
 | some v,some u=>RelV v u
 | none,none=>True
 | _,_=>False
def KV:Γ (κ×V)->Γ (κ×Θ)->Prop:=Paired λ(p:κ×V) (q:κ×Θ)=>p.1=q.1/\RelV p.2 q.2
def kV:oQ->V
 | .inl i=>.int i
 | .inr x=>.str x
inductive HO where
  | lst (xs:Γ V)
  | tup (xs:Γ V)
  | dK (VP:Γ (oQ×V))|dT (xs:Γ (Γ oQ×Ψ×Θ))
  | set (S:Int->θ) (n:Nat)
  | ins (C dx:Ψ) (fs:Γ (Str×V))
  | own (x:Ψ)
  | xd (fs:Γ (Str×V))
  | met (f x:Ψ)
  | rng (lo hi:Int)
  | V5 (o:Obj) (u:HO)
  | tab (q:Str)
 | XD (q:Str)
  | ext (φ:ι->Prop)
abbrev Hp:=Ψ->Δ HO
def upd(H:Hp)(a:Ψ)(o:HO):Hp:=λb=>if b=a then some o else H b
def aw:upd H a o a=some o:=by unfold upd;rw[yK rfl]
def ak(h:b≠a):upd H a o b=H b:=by unfold upd;rw[yM h]
def aG{H:Hp}{a b:Ψ}{o:HO}(h:H a=some o)(h':H b=none):a≠b:=by
 intro e;subst e;rw[h] at h';cases h'
def qo(h:ι)(a:Ψ)(its:Array Θ):Prop:=IsTup h a its/\∃o,h.get? a=some o/\o.dict=none
def qo.new(h:ι)(its:Array Θ):qo (h.push { cls:=.type "tuple",data:=.seq its }) h.objs.size its:=⟨IsTup.new _ _,_,zX _ rfl,rfl⟩
section
variable (P:ε) (w:δ)
def dO(H:Hp)(h:ι)(a:Ψ):HO->Prop
 | .lst xs=>xs.length<=sizeLine/\∃ (its:Γ Θ) (n:Nat),aI xs its/\h.get? a=some { cls:=.type "list",data:=.seq its.toArray n }
 | .tup xs=>xs.length<=sizeLine/\∃its:Γ Θ,aI xs its/\qo h a its.toArray
 | .dK VP=>VP.length<=sizeLine/\(a == sysModules)=false/\∃vs,KV VP vs/\h.DictOf (nF P w) a vs
 | .dT xs=>xs.length<=sizeLine/\(a == sysModules)=false /\
   ∃o es ep,h.get? a=some o/\o.ExactDict/\o.data=.dict es ep/\es.toList=xs.map (entryOfKey (tupleKind (nF P w)))/\(xs.map (·.1)).Nodup
 | .set S n=>h.SetOf (intKind P w) a S n
 | .ins C dx fs=>H dx=some (.own a)/\fs.length<=1000/\dx≠a/\h.get? a=some (W.instObj C dx) /\
   ∃mA,h.Ns1 dx mA/\(∀f,tI (fs.lookup f) (mA f))/\PySem.Within mA (fs.map (·.1))
 | .own _=>∃o,h.get? a=some o
 | .xd fs=>∃mA,h.Ns1 a mA/\∀f,tI (fs.lookup f) (mA f)
 | .rng lo hi=>∃t u v,h.get? a=some { cls:=.type "range",data:=.fields #[.int lo t,.int hi u,.int 1 v] }
 | .V5 o u=>h.get? a=some o/\dO H h a u
 | .tab q=>∃ps:Array Θ,h.get? a=some { cls:=.none,data:=.fields ps }/\TriplesOk ps.toList/\∀pos v,codeAmong pos ps.toList=some v->∃c,v=.ref c/\H c=some (.XD q)
 | .XD q=>h.CodeRec (.ref a) q
 | .met f x=>h.get? a=some (W.methodObj (.ref f) (.ref x))
 | .ext φ=>φ h/\(∃o,h.get? a=some o)/\∀h1 h2:ι,φ h1->(∀o,h1.get? a=some o->h2.get? a=some o)->φ h2
def pS(H:Hp)(h:ι):Prop:=∀a o,H a=some o->dO P w H h a o
end
def dO.lt(x:dO P w H h a o):a < h.objs.size:=by
 cases o with
 | lst xs=>let⟨_,_,_,_,e⟩:=x;exact zY e
 | tup xs=>let⟨_,_,_,p⟩:=x;exact p.1.lt
 | dK VP=>let⟨_,_,_,_,o,_,_,e,_⟩:=x;exact zY e
 | dT VP=>let⟨_,_,o,_,_,e,_⟩:=x;exact zY e
 | set S n=>let⟨o,_,_,_,e,_⟩:=x;exact zY e
 | ins C dx fs=>let⟨_,_,_,e,_⟩:=x;exact zY e
 | own y=>let⟨_,e⟩:=x;exact zY e
 | xd fs=>let⟨_,⟨_,_,_,e,_⟩,_⟩:=x;exact zY e
 | rng lo hi=>let⟨_,_,_,e⟩:=x;exact zY e
 | V5 ob u=>let⟨e,_⟩:=x;exact zY e
 | tab q=>let⟨_,e,_⟩:=x;exact zY e
 | XD q=>let⟨_,_,_,_,e0,e,_⟩:=x;cases e0;exact zY e
 | met f y=>exact zY (show h.get? a=some _ from x)
 | ext φ=>let⟨_,⟨_,e⟩,_⟩:=x;exact zY e
def Paired.aaF:∀ {aaG:Γ α}{aaH:Γ β},Paired F aaG aaH->(∀a b,F a b->G a b)->Paired G aaG aaH
 | _,_,.nil,_=>.nil
 | _,_,.cons r t,f=>.cons (f _ _ r) (Paired.aaF t f)
def UI:HO->Prop
 | .tup _=>True
 | .XD _=>True
 | _=>False
def dO.V6(x:dO P w H h a o)(k:∀b u,(b=a\/H b=some (.own a))->h.get? b=some u->h'.get? b=some u)
  (ho:∀b,H b=some (.own a)->H' b=some (.own a)) (ht:∀b u,H b=some u->UI u->H' b=some u):dO P w H' h' a o:=by
 induction o with
 | lst xs=>let⟨z,its,n,r,e⟩:=x;exact⟨z,its,n,r,k _ _ (.inl rfl) e⟩
 | tup xs=>let⟨z,its,r,⟨ob,e,c⟩,o2,e2,d2⟩:=x;exact⟨z,its,r,⟨ob,k _ _ (.inl rfl) e,c⟩,o2,k _ _ (.inl rfl) e2,d2⟩
 | dK VP=>let⟨z,y,vs,r,ob,es,ep,e,c⟩:=x;exact⟨z,y,vs,r,ob,es,ep,k _ _ (.inl rfl) e,c⟩
 | dT VP =>
  let⟨z,y,ob,es,ep,e,c⟩:=x;exact⟨z,y,ob,es,ep,k _ _ (.inl rfl) e,c⟩
 | set S n=>let⟨ob,es,ep,t,e,c⟩:=x;exact⟨ob,es,ep,t,k _ _ (.inl rfl) e,c⟩
 | ins C dx fs =>
  let⟨d,z,ne,e,mA,⟨od,es,ep,e2,c⟩,r⟩:=x;exact⟨ho _ d,z,ne,k _ _ (.inl rfl) e,mA,⟨od,es,ep,k _ _ (.inr d) e2,c⟩,r⟩
 | own y=>let⟨ob,e⟩:=x;exact⟨ob,k _ _ (.inl rfl) e⟩
 | xd fs=>let⟨mA,⟨od,es,ep,e,c⟩,r⟩:=x;exact⟨mA,⟨od,es,ep,k _ _ (.inl rfl) e,c⟩,r⟩
 | rng lo hi=>let⟨t,u,v,e⟩:=x;exact⟨t,u,v,k _ _ (.inl rfl) e⟩
 | V5 ob u ih=>let⟨e,q⟩:=x;exact⟨k _ _ (.inl rfl) e,ih q⟩
 | tab q=>let⟨ps,e,t,c⟩:=x;exact⟨ps,k a _ (.inl rfl) e,t,λpos v z=>let ⟨c0,z1,z2⟩:=c pos v z;⟨c0,z1,ht _ _ z2 trivial⟩⟩
 | XD q=>let⟨c,oc,vs,t,e0,e,r⟩:=x;cases e0;exact⟨_,oc,vs,t,rfl,k _ _ (.inl rfl) e,r⟩
 | met f y =>
  have e:h.get? a=some (W.methodObj (.ref f) (.ref y)):=x;show h'.get? a=some (W.methodObj (.ref f) (.ref y));exact k a _ (.inl rfl) e
 | ext φ=>let⟨p,⟨o,e⟩,st⟩:=x;exact⟨st _ _ p λo q=>k _ _ (.inl rfl) q,⟨o,k _ _ (.inl rfl) e⟩,st⟩
def pS.lt(x:pS P w H h)(e:H a=some o):a < h.objs.size:=(x a o e).lt
def pS.fresh(x:pS P w H h)(e:h.objs.size<=a):H a=none:=by
 cases q:H a with
 | none=>rfl
 | some u=>exact absurd (zP (x.lt q) e) (qD _)
def pS.kept(x:pS P w H h)(k:∀b u,h.get? b=some u->h'.get? b=some u):pS P w H h':=λa o e =>
 (x a o e).V6 (λb u _ q=>k b u q) (λ_ q=>q) λ_ _ q _=>q
def pS.laid(x:pS P w H h)(k:∀b u,h.get? b=some u->h'.get? b=some u)(hp:h.objs.size<=a)(new:dO P w (upd H a o) h' a o):pS P w (upd H a o) h':=λb u e=>by
 have hn:=x.fresh hp;by_cases hb:b=a
 ·subst hb;rw[aw] at e;cases e;exact new
 ·rw[ak hb] at e;exact (x b u e).V6 (λc v _ q=>k c v q) (λc q=>by rw[ak (aG q hn)];exact q) λc xs q _=>by rw[ak (aG q hn)];exact q
def Rd(H:Hp)(a:Ψ)(u:HO):Prop:=H a=some u\/∃o,H a=some (.V5 o u)
def Rd.ok(r:Rd H a u)(x:pS P w H h):dO P w H h a u:=by
 rcases r with r|⟨o,r⟩
 ·exact x a u r
 ·let⟨_,q⟩:=x a _ r;exact q
def Q1:Δ HO->Prop
 | some (.lst _)=>True
 | some (.dK _)=>True
 | some (.dT _)=>True
 | some (.set _ _)=>True
 | some (.ins _ _ _)=>True
 | some (.ext _)=>True
 | _=>False
def pS.write(ok:pS P w H h)(mu:Q1 (H x))(he:e=x\/H e=some (.own x))(k:∀b u,b≠e->h.get? b=some u->h'.get? b=some u)(heo:∃u,h'.get? e=some u)
  (new:dO P w (upd H x o') h' x o'):pS P w (upd H x o') h':=λb u q=>by
 have aaI:∀c y,H c=some (.own y)->c≠x:=λc y r z=>by subst z;rw[r] at mu;exact mu
 have adh:∀c u,H c=some u->UI u->c≠x:=λc u r hr z=>by subst z;rw[r] at mu;cases u<;>first|exact mu|exact hr
 by_cases hb:b=x
 ·subst hb;rw[aw] at q;cases q;exact new
 ·rw[ak hb] at q;by_cases ZE:b=e
  ·have q':H b=some (.own x):=by
    rcases he with z|z
    ·exact absurd (ZE.trans z) hb
    ·rw[ZE];exact z
   rw[q] at q';cases q';let⟨v,hv⟩:=heo;exact⟨v,by rw[ZE];exact hv⟩
  ·refine (ok b u q).V6 (λc v hc r=>k c v ?_ r) (λc r=>by rw[ak (aaI c b r)];exact r) λc xs r hr=>by rw[ak (adh c xs r hr)];exact r
   rcases hc with rfl|hc
   ·exact ZE
   ·rintro rfl;rcases he with z|z
    ·exact aaI c b hc z
    ·rw[hc] at z;cases z;exact hb rfl
def Sr:HO->Prop
 | .tab _=>True
 | .XD _=>True
 | _=>False
def Sr.YK(h:Sr u):¬ Q1 (some u):=by cases u<;>first|exactλz=>z|exact h.elim
structure Mb(H H':Hp)(h h':Heap):Prop where
 st:∀b u,H b=some u->Sr u->H' b=some u
 gr:∀b q ps,H b=some (.tab q)->h.get? b=some { cls:=.none,data:=.fields ps }->∃more:Array Θ,h'.get? b=some { cls:=.none,data:=.fields (ps++more) }
def Mb.kept(k:∀b u,(∃q,H b=some (.tab q))->h.get? b=some u->h'.get? b=some u)(st:∀b u,H b=some u->Sr u->H' b=some u):Mb H H' h h' :=
 ⟨st,λb q ps e z=>⟨#[],by rw[Array.append_empty];exact k b _ ⟨q,e⟩ z⟩⟩
def Mb.trans(a:Mb H H1 h h1)(b:Mb H1 H2 h1 h2):Mb H H2 h h2 :=
 ⟨λc u q t=>b.st c u (a.st c u q t) t,λc q ps e z=>by
  let⟨m1,z1⟩:=a.gr c q ps e z;let⟨m2,z2⟩:=b.gr c q _ (a.st c _ e trivial) z1;exact⟨m1++m2,by rw[z2,Array.append_assoc]⟩⟩
structure Un(fs ex:List Addr)(H H':Hp)(h h':Heap):Prop where
 keep:∀b o,h.get? b=some o->H b=none->b∉fs->b∉ex->h'.get? b=some o
 slot:∀b o,h.get? b=some o->H b=none->b∈fs->b∉ex->∃sl,h'.get? b=some { o with slots:=sl }
 free:∀b o,h.get? b=some o->H b=none->b∉ex->H' b=none
 there:∀b o,h.get? b=some o->b∉ex->∃o',h'.get? b=some o'
 WT:∀b xs,H b=some (.tup xs)->H' b=some (.tup xs)
 WH:∀b o u,H b=some (.V5 o u)->H' b=some (.V5 o u)
 Wx:Mb H H' h h'
def Un.any(u:Un fs ex H H1 h h1)(q:h.get? b=some ob)(n:H b=none)(hx:b∉ex):∃sl,h1.get? b=some { ob with slots:=sl }:=by
 by_cases hb:b∈fs
 ·exact u.slot b ob q n hb hx
 ·exact⟨ob.slots,u.keep b ob q n hb hx⟩
def Un.kept(k:∀b u,h.get? b=some u->h'.get? b=some u):Un fs ex H H h h' :=
 ⟨λb ob q _ _ _=>k b ob q,λb ob q _ _ _=>⟨ob.slots,k b ob q⟩,λ_ _ _ n _=>n,λb ob q _=>⟨ob,k b ob q⟩,λ_ _ q=>q,λ_ _ _ q=>q,.kept (λb u _ e=>k b u e) λ_ _ e _=>e⟩
def Un.refl:Un fs ex H H h h:=Un.kept λ_ _ q=>q
def Un.laid(k:∀b u,h.get? b=some u->h'.get? b=some u)(hp:h.objs.size<=a)(hn:H a=none):Un fs ex H (upd H a o) h h' where
 keep:=λb u q _ _ _=>k b u q
 slot:=λb u q _ _ _=>⟨u.slots,k b u q⟩
 free:=λb u q n _=>by rw[ak (yQ (zP (zY q) hp))];exact n
 there:=λb u q _=>⟨u,k b u q⟩
 WT:=λb xs q=>by rw[ak (aG q hn)];exact q
 WH:=λb u xs q=>by rw[ak (aG q hn)];exact q
 Wx:=.kept (λb u _ e=>k b u e) λb u q _=>by rw[ak (aG q hn)];exact q
def Un.write(mu:Q1 (H x))(he:e=x\/H e=some (.own x))(k:∀b u,b≠e->h.get? b=some u->h'.get? b=some u)(heo:∃u,h'.get? e=some u):Un fs ex H (upd H x o) h h':=by
 have hx:∀b,H b=none->b≠x:=λb n z=>by subst z;rw[n] at mu;exact mu
 have hb:∀b,H b=none->b≠e:=λb n z=>by
  subst z;rcases he with r|r
  ·exact hx b n r
  ·rw[n] at r;cases r
 have hm:∀b u,H b=some u->¬ Q1 (some u)->b≠x:=λb u q nm z=>by subst z;rw[q] at mu;exact nm mu
 refine⟨λb u q n _ _=>k b u (hb b n) q,λb u q n _ _=>⟨u.slots,k b u (hb b n) q⟩,λb u q n _=>by rw[ak (hx b n)];exact n,λb u q _=>?_,
  λb xs q=>by rw[ak (hm b _ q λz=>z)];exact q,λb u xs q=>by rw[ak (hm b _ q λz=>z)];exact q,.kept (λb u z e=>k b u (λr=>by subst r;rcases he with r|r<;>first|(subst r;rcases z with ⟨q,z⟩;rw[z] at mu;exact mu)|(rcases z with ⟨q,z⟩;rw[z] at r;cases r)) e) λb u q nm=>by rw[ak (hm b _ q (nm.YK))];exact q⟩
 by_cases ZE:b=e
 ·subst ZE;exact heo
 ·exact⟨u,k b u ZE q⟩
def Su(h:ι)(H:Hp):Γ Ψ:=(List.range h.objs.size).filter λa=>(H a).isSome
def wa(h:ι)(H:Hp):ι:=W.hideAll h (Su h H)
def Dp(h:ι)(H:Hp):(wa h H).objs.size=h.objs.size:=W.hideAll_size _ _
def Gu(e:h.get? b=some o)(n:H b=none):(wa h H).get? b=some o :=
 W.hideAll_get _ e λhm=>by
  have q:(H b).isSome=true:=(List.mem_filter.mp hm).2;rw[n] at q;simp at q
def LD(e:(wa h H).get? b=some o):h.get? b=some o/\H b=none:=by
 have e':h.get? b=some o:=W.of_hideAll (Su h H) e;refine⟨e',?_⟩;cases q:H b with
 | none=>rfl
 | some x =>
  have hm:b∈Su h H:=List.mem_filter.mpr ⟨List.mem_range.mpr (zY e'),by simp[q]⟩;have z:(wa h H).get? b=none:=W.hideAll_none (Su h H) hm;rw[z] at e;cases e
def Sq(mg:Str->Δ Θ)(base:ι):Prop:=∃bm o,mg "__builtins__"=some (.ref bm)/\bm≠builtinsNs/\bm≠mainGlobals/\base.get? bm=some o/\o.cls=.type "module"/\o.dict=some builtinsNs/\o.data=.plain
structure Mod(K:W.Frag)(mg:Str->Option Value)(base:Heap):Prop where
 ZF:K.In base
 glob:base.Ns mainGlobals mg
 blt:∃mb,base.Ns builtinsNs mb/\∀x:Str,x≠"__name__"->mb x=bootBuiltins x
 nolimit:base.NoLimit
 bmd:Sq mg base
structure Cx where
 prog:ε
 w:δ
 K:Φ
 mg:Str->Δ Θ
 base:ι
 A:ξ
 N:Γ Str
 VM:Ξ
 H₀:Hp
 env:Env
 outer:Γ Env
 stack:Γ Env
 ex:Γ Ψ
 fn:Str->θ
 calm:θ
 pn:Γ (Ψ×Obj)
 xe:Θ->Ξ->Prop
def FG(l:Γ Env):Γ Ψ:=l.filterMap (·.frame)
abbrev Cx.fs(X:Cx):Γ Ψ:=FG X.outer
def oo(sc:ζ)(x:Str):Prop:=sc.names.lookup x=some .local \/ sc.names.lookup x=some .cell\/sc.names.lookup x=some .free
def Loc(sc:ζ)(x:Str):Prop:=sc.names.lookup x=some .local \/ sc.names.lookup x=some .cell
def Look(env:Env)(h:ι)(m:Str->Δ Θ)(x:Str)(u:Θ):Prop :=
 (env.kindOf x=some .local /\ m x=some u)\/((env.kindOf x=some .cell\/env.kindOf x=some .free)/\∃c,env.cells.lookup x=some c/\h.IsCell c (some u))
structure Cx.Ok(X:Cx):Prop where
 mod:Mod X.K X.mg X.base
 kind:X.env.scope.kind=.function
 glob:X.env.globals=mainGlobals
 blt:X.env.builtins=builtinsNs
 above:X.VM.heap.objs.size<=X.env.locals
 inj:∀x y c,X.env.cells.lookup x=some c->X.env.cells.lookup y=some c->x=y
 has:∀x,(X.env.kindOf x=some .cell\/X.env.kindOf x=some .free)->∃c,X.env.cells.lookup x=some c
 cab:∀x c,X.fn x=true->X.env.cells.lookup x=some c->X.VM.heap.objs.size<=c
 hd:X.calm=true->X.A.handled=none
 frames:X.A.frames=some X.stack
 stk:X.stack=X.outer\/(X.stack=X.env::X.outer/\X.env.frame=some X.env.locals)
 exf:∀b∈X.ex,b≠X.env.locals/\∀x c,X.env.cells.lookup x=some c->c≠b
 bs:∀b o,X.base.get? b=some o->X.VM.heap.get? b=some o/\X.H₀ b=none
 YL:X.base.objs.size<=X.VM.heap.objs.size
 XF:∀b o,X.base.get? b=some o->b∉X.ex
 X8:∀b∈X.ex,b∉X.fs
 Wq:X.VM.heap.FunFrames X.base X.outer
 ZH:∀b∈X.fs,X.H₀ b=none
structure Inv(X:Cx)(pins:List (Addr×Obj))(σ:List (Option V))(H:Hp)(s:Shared):Prop where
 ok:X.Ok
 os:s.os=X.VM.os
 bare:AllBare s.gens
 base:Un X.fs X.ex X.H₀ H X.VM.heap s.heap
 loc:∃m,s.heap.Ns X.env.locals m/\∀ (i:Nat) (x:Str) (v:V),X.N[i]?=some x->σ[i]?=some (some v)->oo X.env.scope x->∃u,RelV v u/\Look X.env s.heap m x u
 cell:∀x c,X.env.cells.lookup x=some c->∃v,s.heap.IsCell c v
 free:H X.env.locals=none
 VR:∀x c,X.env.cells.lookup x=some c->H c=none
 pin:∀p∈X.pn++pins,s.heap.get? p.1=some p.2/\H p.1=none/\p.1≠X.env.locals/\p.1∉X.fs/\∀v,p.2.data≠.cell v
 Vx:pS X.prog X.w H s.heap
 len:σ.length=X.N.length
def Cx.Ok.adi{X:Cx}(ok:X.Ok)(e:X.base.get? b=some o):b∉X.fs:=λhb=>by
 have:=(ok.Wq.mem hb).1;rw[e] at this;cases this
def Inv.bs{X:Cx}{s:Ξ}(I:Inv X pins σ H s):∀b o,X.base.get? b=some o->s.heap.get? b=some o/\H b=none:=λb o e =>
 ⟨I.base.keep b o (I.ok.bs b o e).1 (I.ok.bs b o e).2 (I.ok.adi e) (I.ok.XF b o e),I.base.free b o (I.ok.bs b o e).1 (I.ok.bs b o e).2 (I.ok.XF b o e)⟩
def Inv.bk(I:Inv X pins σ H s):∀b o,X.base.get? b=some o->s.heap.get? b=some o:=λb o e=>(I.bs b o e).1
def Inv.mod(I:Inv X pins σ H s):Mod X.K X.mg X.base:=I.ok.mod
def Inv.WN(I:Inv X pins σ H s):X.K.In s.heap:=I.ok.mod.ZF.keeps I.bk
def Inv.nolimit(I:Inv X pins σ H s):s.heap.NoLimit:=I.ok.mod.nolimit.keeps I.bk
def Inv.lt(I:Inv X pins σ H s):X.env.locals < s.heap.objs.size:=let ⟨_,hn,_⟩:=I.loc;hn.lt
def Inv.sz(I:Inv X pins σ H s):X.VM.heap.objs.size<=s.heap.objs.size:=yD I.ok.above (jR I.lt)
def Inv.adk(I:Inv X pins σ H s)(h:s.heap.objs.size<=a):a∉X.fs:=λhb=>by
 let⟨_,o,ho,_⟩:=I.ok.Wq.mem hb;exact absurd (zP (zY ho) (yD I.sz h)) (qD _)
def Inv.ZI(I:Inv X pins σ H s):∀x c,X.env.cells.lookup x=some c->c≠X.env.locals:=λx c e z=>by
 let⟨v,o,ho,hd⟩:=I.cell x c e;let⟨m,⟨o',es,ep,W3,Xg,_⟩,_⟩:=I.loc;rw[z,W3] at ho;cases ho;rw[Xg] at hd;cases hd
def Inv.Wq(I:Inv X pins σ H s):s.heap.FunFrames X.base X.outer:=by
 have all:∀ (l:Γ Env),(∀b∈FG l,b∈X.fs)->X.VM.heap.FunFrames X.base l->s.heap.FunFrames X.base l:=by
  intro l
  induction l with
  | nil=>intro _ _;trivial
  | cons env r ih =>
   intro hs hl;let⟨hk,⟨L,o,hf,hn,ho,hd⟩,hr⟩:=hl;have hL:L∈X.fs:=hs L (by unfold FG;rw[jF,hf];exact zE);let⟨sl,e⟩:=I.base.slot L o ho (I.ok.ZH L hL) hL λz=>I.ok.X8 L z hL;exact⟨hk,⟨L,_,hf,hn,e,hd⟩,ih (λb hb=>hs b (by unfold FG;rw[jF,hf];exact zC _ hb)) hr⟩
 exact all X.outer (λ_ hb=>hb) I.ok.Wq
def Inv.stack(I:Inv X pins σ H s):s.heap.FunFrames X.base X.stack:=by
 rcases I.ok.stk with e|⟨e,hf⟩
 ·rw[e];exact I.Wq
 ·rw[e];let⟨m,hn,_⟩:=I.loc;refine .cons (by rw[I.ok.kind];decide) hf hn ?_ I.Wq;exact Heap.get?_none_of_le (yD I.ok.YL I.ok.above)
def Inv.Xh(I:Inv X pins σ H s):∀b∈FG X.stack,b∈X.env.locals::X.fs:=λb hb=>by
 rcases I.ok.stk with e|⟨e,hf⟩
 ·rw[e] at hb;exact zC _ hb
 ·rw[e] at hb;unfold FG at hb;rw[jF,hf] at hb;exact hb
def Inv.WU(I:Inv X pins σ H s):∀b∈FG X.stack,H b=none:=λb hb=>by
 rcases List.mem_cons.mp (I.Xh b hb) with e|hb
 ·rw[e];exact I.free
 ·let⟨_,o,ho,_⟩:=I.ok.Wq.mem hb;exact I.base.free b o ho (I.ok.ZH b hb) λz=>I.ok.X8 b z hb
def Inv.step{g':Array GenState}{t':Nat}{d':Drawn}{ch:Γ Ψ}(I:Inv X pins σ H s)
  (W4:∀b∈ch,(b∈X.ex\/X.VM.heap.objs.size<=b)/\b≠X.env.locals/\(∀x c,X.env.cells.lookup x=some c->c≠b)/\∀p∈X.pn++pins,p.1≠b)
  (keep:∀b o,b≠X.env.locals->b∉X.fs->b∉ch->s.heap.get? b=some o->H b=none->h'.get? b=some o)
  (slot:∀b o,b≠X.env.locals->b∈X.fs->b∉ch->s.heap.get? b=some o->H b=none->∃sl,h'.get? b=some { o with slots:=sl }) (free:∀b o,b∉ch->s.heap.get? b=some o->H b=none->H' b=none)
  (there:∀b o,b∉ch->s.heap.get? b=some o->∃o',h'.get? b=some o')
  (WT:∀b xs,H b=some (.tup xs)->H' b=some (.tup xs)) (WH:∀b o u,H b=some (.V5 o u)->H' b=some (.V5 o u)) (Wx:Mb H H' s.heap h')
  (ns:∀m,s.heap.Ns X.env.locals m->h'.Ns X.env.locals m) (Vx:pS X.prog X.w H' h') (hg:AllBare g') :
  Inv X pins σ H' { s with heap:=h',gens:=g',drawn:=d',toks:=t' }:=by
 have neL:∀b o,X.VM.heap.get? b=some o->b≠X.env.locals:=λb o e=>yQ (zP (zY e) I.ok.above);have neC:∀b o,X.VM.heap.get? b=some o->b∉X.ex->b∉ch:=λb o e hx hb=>by
  rcases (W4 b hb).1 with z|z
  ·exact hx z
  ·exact absurd (zP (zY e) z) (qD _)
 have cellK:∀x c,X.env.cells.lookup x=some c->∀v,s.heap.IsCell c v->h'.IsCell c v:=λx c e v z=>by
  let⟨o,ho,hd⟩:=z;have XG:c∉ch:=λz=>(W4 c z).2.2.1 x c e rfl;by_cases hc:c∈X.fs
  ·let⟨sl,q⟩:=slot c o (I.ZI x c e) hc XG ho (I.VR x c e);exact⟨_,q,hd⟩
  ·exact⟨o,keep c o (I.ZI x c e) hc XG ho (I.VR x c e),hd⟩
 refine⟨I.ok,I.os,hg,⟨λb o e n hb hx=>?_,λb o e n hb hx=>?_,λb o e n hx=>?_,λb o e hx=>?_,λb xs e=>WT b xs (I.base.WT b xs e),λb o xs e=>WH b o xs (I.base.WH b o xs e),I.base.Wx.trans Wx⟩,?_,λx c e=>?_,?_,λx c e=>?_,λp hp=>?_,Vx,I.len⟩
 ·exact keep b o (neL b o e) hb (neC b o e hx) (I.base.keep b o e n hb hx) (I.base.free b o e n hx)
 ·let⟨sl,e1⟩:=I.base.slot b o e n hb hx;let⟨sl',e2⟩:=slot b _ (neL b o e) hb (neC b o e hx) e1 (I.base.free b o e n hx);exact⟨sl',e2⟩
 ·let⟨o',e1⟩:=I.base.there b o e hx;exact free b o' (neC b o e hx) e1 (I.base.free b o e n hx)
 ·let⟨o',e1⟩:=I.base.there b o e hx;exact there b o' (neC b o e hx) e1
 ·let⟨m,hn,hl⟩:=I.loc;refine⟨m,ns m hn,λi x v e1 e2 e3=>?_⟩;let⟨u,r,l⟩:=hl i x v e1 e2 e3;refine⟨u,r,?_⟩;rcases l with l|⟨k,c,e,z⟩
  ·exact .inl l
  ·exact .inr ⟨k,c,e,cellK x c e _ z⟩
 ·let⟨v,z⟩:=I.cell x c e;exact⟨v,cellK x c e v z⟩
 ·let⟨m,⟨o,_,_,ho,_⟩,_⟩:=I.loc;exact free _ o (λz=>(W4 _ z).2.1 rfl) ho I.free
 ·let⟨v,o,ho,hd⟩:=I.cell x c e;exact free c o (λz=>(W4 c z).2.2.1 x c e rfl) ho (I.VR x c e)
 ·let⟨e,n,ne,nf,d⟩:=I.pin p hp;have XG:p.1∉ch:=λz=>(W4 p.1 z).2.2.2 p hp rfl;exact⟨keep p.1 p.2 ne nf XG e n,free p.1 p.2 XG e n,ne,nf,d⟩
def Inv.un{t':Nat}(I:Inv X pins σ H s)(u:Un X.fs [] H H' s.heap h')(Vx:pS X.prog X.w H' h'):Inv X pins σ H' { s with heap:=h',toks:=t' }:=by
 let⟨m,⟨o,es,ep,ho,r⟩,_⟩:=id I.loc;let⟨sl,hL⟩:=u.any ho I.free (by simp);exact I.step (g':=s.gens) (d':=s.drawn) (ch:=[]) (λ_ z=>nomatch z) (λb o _ hb _ e n=>u.keep b o e n hb (by simp)) (λb o _ hb _ e n=>u.slot b o e n hb (by simp)) (λb o _ e n=>u.free b o e n (by simp)) (λb o _ e=>u.there b o e (by simp)) u.WT u.WH u.Wx (λm' hm=>by
  let⟨o',ZJ,ep',W3,r'⟩:=hm;rw[ho] at W3;cases W3;exact⟨_,ZJ,ep',hL,r'⟩) Vx I.bare
def Inv.call{t':Nat}{d':Drawn}{ch:Γ Ψ}(I:Inv X pins σ H s)(u:Un (FG X.stack) ch H H' s.heap h')(Vx:pS X.prog X.w H' h')(hg:AllBare g')
  (W4:∀b∈ch,(b∈X.ex\/X.VM.heap.objs.size<=b)/\b≠X.env.locals/\(∀x c,X.env.cells.lookup x=some c->c≠b)/\∀p∈X.pn++pins,p.1≠b) :
  Inv X pins σ H' { s with heap:=h',gens:=g',drawn:=d',toks:=t' }:=by
 let⟨m,⟨o,es,ep,ho,r⟩,_⟩:=id I.loc;let⟨sl,hL⟩:=u.any ho I.free λz=>(W4 _ z).2.1 rfl;exact I.step (ch:=ch) W4 (λb o hL hb hc e n=>u.keep b o e n (λz=>(List.mem_cons.mp (I.Xh b z)).elim hL hb) hc) (λb o _ _ hc e n=>u.any e n hc) (λb o hc e n=>u.free b o e n hc) (λb o hc e=>u.there b o e hc) u.WT u.WH u.Wx (λm' hm=>by
  let⟨o',ZJ,ep',W3,r'⟩:=hm;rw[ho] at W3;cases W3;exact⟨_,ZJ,ep',hL,r'⟩) Vx hg
def Inv.turned{t':Nat}(I:Inv X pins σ H s)(k:∀b o,b≠it->s.heap.get? b=some o->h'.get? b=some o)(hn:H it=none)(hL:it≠X.env.locals)
  (h1:it∈X.ex\/X.VM.heap.objs.size<=it) (h2:∀x c,X.env.cells.lookup x=some c->c≠it) (h3:∀p∈X.pn++pins,p.1≠it):Inv X pins σ H { s with heap:=h',toks:=t' }:=by
 have nit:∀b u,H b=some u->b≠it:=λb u e z=>by rw[z,hn] at e;cases e
 refine I.step (g':=s.gens) (d':=s.drawn) (ch:=[it]) (λb hb=>?_) (λb o _ _ hc e _=>k b o (λz=>hc (by simp[z])) e) (λb o _ _ hc e _=>⟨o.slots,k b o (λz=>hc (by simp[z])) e⟩) (λ_ _ _ _ n=>n)
  (λb o hc e=>⟨o,k b o (λz=>hc (by simp[z])) e⟩) (λ_ _ e=>e) (λ_ _ _ e=>e) (.kept (λb u z e=>k b u (λr=>by subst r;rcases z with ⟨q,z⟩;rw[hn] at z;cases z) e) λ_ _ e _=>e) (λm hm=>?_) (λb u e=>?_) I.bare
 ·have e:b=it:=by simpa using hb
  subst e;exact⟨h1,hL,h2,h3⟩
 ·let⟨o,es,ep,ho,r⟩:=hm;exact⟨o,es,ep,k _ o (jL hL) ho,r⟩
 ·refine (I.Vx b u e).V6 (λc v hc q=>k c v ?_ q) (λ_ q=>q) λ_ _ q _=>q;rcases hc with z|z
  ·rw[z];exact nit b u e
  ·exact nit c _ z
def Inv.tok(I:Inv X pins σ H s)(t:Nat):Inv X pins σ H { s with toks:=t }:=I.un (h':=s.heap) (t':=t) Un.refl I.Vx
def Inv.kept{t':Nat}(I:Inv X pins σ H s)(k:∀b u,s.heap.get? b=some u->h'.get? b=some u):Inv X pins σ H { s with heap:=h',toks:=t' }:=I.un (Un.kept k) (I.Vx.kept k)
def Inv.laid{t':Nat}(I:Inv X pins σ H s)(k:∀b u,s.heap.get? b=some u->h'.get? b=some u)(hp:s.heap.objs.size<=a)(new:dO X.prog X.w (upd H a o) h' a o) :
  Inv X pins σ (upd H a o) { s with heap:=h',toks:=t' }:=I.un (Un.laid k hp (I.Vx.fresh hp)) (I.Vx.laid k hp new)
def Inv.write{t':Nat}(I:Inv X pins σ H s)(mu:Q1 (H x))(he:e=x\/H e=some (.own x))(k:∀b u,b≠e->s.heap.get? b=some u->h'.get? b=some u)(heo:∃u,h'.get? e=some u)
  (new:dO X.prog X.w (upd H x o) h' x o):Inv X pins σ (upd H x o) { s with heap:=h',toks:=t' }:=I.un (Un.write mu he k heo) (I.Vx.write mu he k heo new)
def Inv.Xu(I:Inv X pins σ H s)(h:∀p∈aaK,s.heap.get? p.1=some p.2/\H p.1=none/\p.1≠X.env.locals/\p.1∉X.fs/\∀v,p.2.data≠.cell v):Inv X aaK σ H s :=
 ⟨I.ok,I.os,I.bare,I.base,I.loc,I.cell,I.free,I.VR,λp hp=>(List.mem_append.mp hp).elim (λz=>I.pin p (qH _ z)) (h p),I.Vx,I.len⟩
def xv{N:Γ Str}(hN:N.Nodup){i j:Nat}(a:N[i]?=some x)(b:N[j]?=some x):i=j:=by
 let⟨h1,e1⟩:=List.getElem?_eq_some_iff.mp a;let⟨h2,e2⟩:=List.getElem?_eq_some_iff.mp b;exact (List.getElem_inj hN).mp (e1.trans e2.symm)
def ux{M:Model}{A:ξ}{E:Θ->Ξ->Prop}{i:Nat}{Q:Unit->Ξ->Prop}(I:Inv X pins σ H s)(hN:X.N.Nodup)(hi:X.N[i]?=some x)(hx:Loc X.env.scope x)(r:RelV v u)
  (h:∀s',Inv X pins (σ.set i (some v)) H s'->(∃a,Heap.SameBut a s.heap s'.heap/\(a=X.env.locals\/X.env.cells.lookup x=some a))->Q () s') (hf:X.fn x=true\/X.env.scope.names.lookup x=some .local:=by first|exact .inl rfl|exact .inr rfl|assumption):wpAny M A (storeName X.env x u) Q E s:=by
 let⟨m,hn,hl⟩:=id I.loc;have adm:(X.env.scope.kind == .class||(X.env.scope.kind == .module&&X.env.locals != X.env.globals))=false:=by rw[I.ok.kind];rfl
 have aaL:i < σ.length:=by rw[I.len];exact (List.getElem?_eq_some_iff.mp hi).1
 have ZI:=I.ZI;have tracked:∀ {a:Ψ}{h':ι},(∃o,s.heap.get? a=some o/\H a=none)->Heap.SameBut a s.heap h'->pS X.prog X.w H h':=λ{a h'} ha hs b ob e=>by
  let⟨_,_,Wg⟩:=ha;refine (I.Vx b ob e).V6 (λc w' hc q=>(hs.2 c ?_).trans q) (λ_ q=>q) λ_ _ q _=>q;rintro rfl;rcases hc with rfl|hc
  ·rw[Wg] at e;cases e
  ·rw[Wg] at hc;cases hc
 rcases hx with hk|hk
 ·refine wpAny_storeName_local hk hn (λh' hn' hs=>?_) adm;let⟨oL,_,_,hoL,_⟩:=id hn;refine h _ ⟨I.ok,I.os,I.bare,⟨λb o e n hb hx=>?_,λb o e n hb hx=>?_,I.base.free,λb o e hx=>?_,I.base.WT,I.base.WH,I.base.Wx.trans (.kept (λb u z e=>(hs.2 b (λr=>by rcases z with ⟨q,z⟩;rw[r,I.free] at z;cases z)).trans e) λ_ _ e _=>e)⟩,⟨_,hn',λj y v' e1 e2 e3=>?_⟩,λy c e=>?_,I.free,I.VR,λp hp=>?_,tracked ⟨oL,hoL,I.free⟩ hs,by simpa using I.len⟩ ⟨_,hs,.inl rfl⟩
  ·exact (hs.2 b (yQ (zP (zY e) I.ok.above))).trans (I.base.keep b o e n hb hx)
  ·let⟨sl,e1⟩:=I.base.slot b o e n hb hx;exact⟨sl,(hs.2 b (yQ (zP (zY e) I.ok.above))).trans e1⟩
  ·let⟨o',e1⟩:=I.base.there b o e hx;exact⟨o',(hs.2 b (yQ (zP (zY e) I.ok.above))).trans e1⟩
  ·by_cases hj:j=i
   ·subst hj;rw[hi] at e1;cases e1;rw[vH aaL] at e2;cases e2;exact⟨u,r,.inl ⟨hk,by simp⟩⟩
   ·rw[kM (jL hj)] at e2;let⟨u',r',q⟩:=hl j y v' e1 e2 e3;refine⟨u',r',?_⟩;rcases q with ⟨k,e⟩|⟨k,c,e,z⟩
    ·refine .inl ⟨k,?_⟩;have:y≠x:=λe=>hj (xv hN e1 (e ▸ hi));simp[this,e]
    ·exact .inr ⟨k,c,e,z.sameBut hs (ZI y c e)⟩
  ·let⟨w',z⟩:=I.cell y c e;exact⟨w',z.sameBut hs (ZI y c e)⟩
  ·let⟨e,n,ne,nf,d⟩:=I.pin p hp;exact⟨(hs.2 p.1 ne).trans e,n,ne,nf,d⟩
 ·have Yy:X.fn x=true:=by
   rcases hf with z|z
   ·exact z
   ·rw[z] at hk;cases hk
  let⟨c,hc⟩:=I.ok.has x (.inl hk);let⟨w',z⟩:=I.cell x c hc;refine wpAny_storeName_cell I.ok.kind hk hc z (λh' WI hs=>?_);let⟨oc,hoc,adn⟩:=id z;refine h { s with heap:=h' } ⟨I.ok,I.os,I.bare,⟨λb o e n hb hx=>?_,λb o e n hb hx=>?_,I.base.free,λb o e hx=>?_,I.base.WT,I.base.WH,I.base.Wx.trans (.kept (λb u z e=>(hs.2 b (λr=>by rcases z with ⟨q,z⟩;rw[r,I.VR x c hc] at z;cases z)).trans e) λ_ _ e _=>e)⟩,⟨m,hn.sameBut hs (jL (ZI x c hc)),λj y v' e1 e2 e3=>?_⟩,λy c' e=>?_,I.free,I.VR,λp hp=>?_,tracked ⟨oc,hoc,I.VR x c hc⟩ hs,by simpa using I.len⟩ ⟨c,hs,.inr hc⟩
  ·exact (hs.2 b (yQ (zP (zY e) (I.ok.cab x c Yy hc)))).trans (I.base.keep b o e n hb hx)
  ·let⟨sl,e1⟩:=I.base.slot b o e n hb hx;exact⟨sl,(hs.2 b (yQ (zP (zY e) (I.ok.cab x c Yy hc)))).trans e1⟩
  ·let⟨o',e1⟩:=I.base.there b o e hx;exact⟨o',(hs.2 b (yQ (zP (zY e) (I.ok.cab x c Yy hc)))).trans e1⟩
  ·by_cases hj:j=i
   ·subst hj;rw[hi] at e1;cases e1;rw[vH aaL] at e2;cases e2;exact⟨u,r,.inr ⟨.inl hk,c,hc,WI⟩⟩
   ·rw[kM (jL hj)] at e2;let⟨u',r',q⟩:=hl j y v' e1 e2 e3;refine⟨u',r',?_⟩;rcases q with q|⟨k,c',e,z'⟩
    ·exact .inl q
    ·refine .inr ⟨k,c',e,z'.sameBut hs ?_⟩;rintro rfl;exact hj (xv hN e1 (I.ok.inj _ _ _ e hc ▸ hi))
  ·by_cases hcc:c'=c
   ·subst hcc;exact⟨_,WI⟩
   ·let⟨w2,z2⟩:=I.cell y c' e;exact⟨w2,z2.sameBut hs hcc⟩
  ·let⟨e,n,ne,nf,d⟩:=I.pin p hp;refine⟨(hs.2 p.1 ?_).trans e,n,ne,nf,d⟩;intro q;rw[q,hoc] at e;have q':oc=p.2:=xC e;exact d w' (by rw[<- q'];exact adn)
def zh{M:Model}{A:ξ}{E:Θ->Ξ->Prop}(I:Inv X pins σ H s)(hN:X.N.Nodup)(hi:X.N[i]?=some x)(hx:Loc X.env.scope x)(r:RelV v u)
  (h:∀s',Inv X pins (σ.set i (some v)) H s'->Q () s') (hf:X.fn x=true\/X.env.scope.names.lookup x=some .local:=by first|exact .inl rfl|exact .inr rfl|assumption):wpAny M A (storeName X.env x u) Q E s :=
 ux I hN hi hx r (λs' I' _=>h s' I') hf
def Inv.Y5{ch:Γ Ψ}(I:Inv X pins σ H s)(ho:s'.os=s.os)(u:Un (FG X.stack) ch H H' s.heap s'.heap)(Vx:pS X.prog X.w H' s'.heap)(hg:AllBare s'.gens)
  (W4:∀b∈ch,(b∈X.ex\/X.VM.heap.objs.size<=b)/\b≠X.env.locals/\(∀x c,X.env.cells.lookup x=some c->c≠b)/\∀p∈X.pn++pins,p.1≠b):Inv X pins σ H' s':=by
 let⟨h',g',d',t',o'⟩:=s';have e:o'=s.os:=ho;subst e;exact I.call (g':=g') (t':=t') (d':=d') u Vx hg W4
abbrev XK:=Θ->Δ Ψ->Hp->Prop
abbrev St:=Γ (Δ V)
abbrev VK:=V->Hp->Prop
abbrev TE:=St->Hp->VK->Prop
abbrev TT:=St->Hp->(θ->Hp->Prop)->Prop
abbrev TA:=St->Hp->(Γ V->Hp->Prop)->Prop
structure Ends where
 nx:St->Hp->Prop
 rt:VK
 bk:St->Hp->Prop:=λ_ _=>False
 ct:St->Hp->Prop:=λ_ _=>False
abbrev TS:=Ends->St->Hp->Prop
def EP(X:Cx)(pins:Γ (Ψ×Obj))(σ:St)(Q:VK)(u:Θ)(s':Ξ):Prop:=∃v H',Inv X pins σ H' s'/\RelV v u/\Q v H'
def TP(X:Cx)(pins:Γ (Ψ×Obj))(σ:St)(Q:θ->Hp->Prop)(b:θ)(s':Ξ):Prop:=∃H',Inv X pins σ H' s'/\Q b H'
def AP(X:Cx)(pins:Γ (Ψ×Obj))(σ:St)(Q:Γ V->Hp->Prop)(us:Γ Θ)(s':Ξ):Prop:=∃vs H',Inv X pins σ H' s'/\aI vs us/\Q vs H'
def SP(X:Cx)(pins:Γ (Ψ×Obj))(D:Ends)(f:Flow)(s':Ξ):Prop :=
 match f with
 | .next=>∃σ' H',Inv X pins σ' H' s'/\D.nx σ' H'
 | .brk=>∃σ' H',Inv X pins σ' H' s'/\D.bk σ' H'
 | .cont=>∃σ' H',Inv X pins σ' H' s'/\D.ct σ' H'
 | .ret u=>∃v σ' H',Inv X pins σ' H' s'/\RelV v u/\D.rt v H'
def PE(X:Cx)(e:γ)(t:TE):Prop :=
 ∀ (pins:Γ (Ψ×Obj)) (s:Ξ) (σ:St) (H:Hp) (Q:VK),Inv X pins σ H s->t σ H Q->wpAny (model X.prog X.w) X.A (eval e X.env) (EP X pins σ Q) X.xe s
def PT(X:Cx)(e:γ)(t:TT):Prop :=
 ∀ (pins:Γ (Ψ×Obj)) (s:Ξ) (σ:St) (H:Hp) (Q:θ->Hp->Prop),Inv X pins σ H s->t σ H Q->wpAny (model X.prog X.w) X.A (isTrue e X.env (eval e X.env)) (TP X pins σ Q) X.xe s
def PW(X:Cx)(e:γ)(t:TT):Prop :=
 ∀ (whole:Sem Θ) (pins:Γ (Ψ×Obj)) (s:Ξ) (σ:St) (H:Hp) (Q:θ->Hp->Prop),Inv X pins σ H s->t σ H Q->wpAny (model X.prog X.w) X.A (isTrue e X.env whole) (TP X pins σ Q) X.xe s
def PW.pt(h:PW X e t):PT X e t:=h _
def PA(X:Cx)(es:Γ γ)(t:TA):Prop :=
 ∀ (pos:Pos) (pins:Γ (Ψ×Obj)) (s:Ξ) (σ:St) (H:Hp) (Q:Γ V->Hp->Prop),Inv X pins σ H s->t σ H Q->wpAny (model X.prog X.w) X.A (spliced (backTo pos (starEach es X.env))) (AP X pins σ Q) X.xe s
def PS(X:Cx)(st:Ω)(t:TS):Prop :=
 ∀ (pins:Γ (Ψ×Obj)) (s:Ξ) (σ:St) (H:Hp) (D:Ends),Inv X pins σ H s->t D σ H->wpAny (model X.prog X.w) X.A (exec st X.env) (SP X pins D) X.xe s
def uC(X:Cx)(st:Γ Ω)(t:TS):Prop :=
 ∀ (pins:Γ (Ψ×Obj)) (s:Ξ) (σ:St) (H:Hp) (D:Ends),Inv X pins σ H s->t D σ H->wpAny (model X.prog X.w) X.A (execs st X.env) (SP X pins D) X.xe s
def bR(h:wpAny M A t Q E s)(hQ:∀a s,Q a s->Q' a s):wpAny M A t Q' E s:=yZ h hQ λ_ _ x=>x
section
def mL(i:Nat):TE:=λσ H Q=>∃v,σ[i]?=some (some v)/\Q v H
def tC(v:V):TE:=λ_ H Q=>Q v H
def bb(hN:X.N[i]?=some x)(hv:oo X.env.scope x)(hd:(x == ("__debug__":Str))=false:=by decide)(VF:(x == ("__classdict__":Str))=false:=by decide):PE X (.Name x pos) (mL i):=by
 sleep 6;let⟨v,e,h⟩:=h;let⟨m,hn,hl⟩:=I.loc;let⟨u,r,l⟩:=hl i x v hN e hv;have fin:EP X pins σ Q u s:=⟨v,H,I,r,h⟩
 rcases l with ⟨hk,hm⟩|⟨hk,c,hc,Y6⟩
 ·exact wpAny_Name (wpAny_loadName_local I.ok.kind hk hn hm fin) hd
 ·rcases hk with hk|hk
  ·exact wpAny_Name (wpAny_loadName_cell I.ok.kind hk hc Y6 fin) hd
  ·exact wpAny_Name (wpAny_loadName_free I.ok.kind hk hc Y6 fin VF) hd
def Pq{i j pos}:PE X (.Constant (.int i) j pos) (tC (.int i)):=λ_ _ _ H _ I h=>wpAny_Constant_int ⟨.int i,H,I.tok _,⟨_,rfl⟩,h⟩
def Rq{b j pos}:PE X (.Constant (.bool b) j pos) (tC (.bl b)):=λ_ _ _ H _ I h=>Constant_bool ⟨.bl b,H,I,rfl,h⟩
def Os{j pos}:PE X (.Constant .none j pos) (tC .Vs):=λ_ _ _ H _ I h=>Constant_none ⟨.Vs,H,I,rfl,h⟩
def NZ{x j pos}:PE X (.Constant (.str x) j pos) (tC (.str x)):=λ_ _ _ H _ I h=>Calls.Constant_str ⟨.str x,H,I.tok _,⟨_,rfl⟩,h⟩
def Gl(X:Cx)(x:Str):Prop:=X.env.kindOf x=some .globalImplicit
def wZ{E:Θ->Ξ->Prop}{pos:Pos}(I:Inv X pins σ H s)(hg:Gl X x)(hm:X.mg x=some u)(h:Q u s)
  (hd:(x == ("__debug__":Str))=false:=by decide):wpAny (model X.prog X.w) X.A (eval (.Name x pos) X.env) Q E s :=
 Calls.Name_function_global I.ok.kind hg (Calls.loadGlobal_global (by rw[I.ok.glob];exact I.mod.glob.keeps I.bk) hm h) hd
def i6{E:Θ->Ξ->Prop}{pos:Pos}(I:Inv X pins σ H s)(hg:Gl X x)(hm:X.mg x=none)(hv:bootBuiltins x=some u)(h:Q u s)
  (hn:x≠"__name__":=by decide) (hd:(x == ("__debug__":Str))=false:=by decide):wpAny (model X.prog X.w) X.A (eval (.Name x pos) X.env) Q E s:=by
 let⟨mb,h1,h2⟩:=I.mod.blt;exact Calls.Name_function_global I.ok.kind hg (Calls.loadGlobal_builtin (by rw[I.ok.glob];exact I.mod.glob.keeps I.bk) hm (by rw[I.ok.blt];exact h1.keeps I.bk) ((h2 x hn).trans hv) h) hd
def Ky(hg:Gl X x)(hm:X.mg x=some u)(r:RelV v u)(hd:(x == ("__debug__":Str))=false:=by decide):PE X (.Name x pos) (tC v) :=
 λ_ _ _ H _ I h=>wZ I hg hm ⟨v,H,I,r,h⟩ hd
def J7(hg:Gl X x)(hm:X.mg x=none)(hv:bootBuiltins x=some u)(r:RelV v u)(hn:x≠"__name__":=by decide)(hd:(x == ("__debug__":Str))=false:=by decide):PE X (.Name x pos) (tC v) :=
 λ_ _ _ H _ I h=>i6 I hg hm hv ⟨v,H,I,r,h⟩ hn hd
def tB(t:TE):TT:=λσ H Q=>t σ H λx H1=>∃c,x=.bl c/\Q c H1
def Hw(h:PE X e t)(he:∀whole,isTrue e X.env whole=(do let v <- whole;standAt e.pos;holding [v] (truthy v)):=by intro _;rfl):PT X e (tB t):=by
 intro pins s σ H Q I hw;refine isTrue_plain (bR (h pins s σ H _ I hw) λv s1 z=>?_) (he _);let⟨x,H1,I1,r1,q1⟩:=z;let⟨d,rfl,q⟩:=q1;cases r1;exact xV ⟨H1,I1,q⟩
variable {rest:Γ γ}
def SG(t u:TT):TT:=λσ H Q=>t σ H λc H1=>if c=true then u σ H1 Q else Q false H1
def UN(t u:TT):TT:=λσ H Q=>t σ H λc H1=>if c=true then Q true H1 else u σ H1 Q
def T2(t:TT):TT:=λσ H Q=>t σ H λc H1=>Q (!c) H1
def Kt(ha:PT X a tA):PW X (.BoolOp .And [a] pos) tA:=by
 intro wh pins s σ H Q I h;refine isTrue_and (bR (ha pins s σ H Q I h) λc s1 e=>?_);cases c with
 | true=>exact isTrue_and_nil e
 | false=>exact e
def Gp(ha:PT X a tA):PW X (.BoolOp .Or [a] pos) tA:=by
 intro wh pins s σ H Q I h;refine isTrue_or (bR (ha pins s σ H Q I h) λc s1 e=>?_);cases c with
 | false=>exact isTrue_or_nil e
 | true=>exact e
def NL(ha:PT X a tA)(hb:PW X (.BoolOp .And (b::rest) pos) tB'):PW X (.BoolOp .And (a::b::rest) pos) (SG tA tB'):=by
 intro wh pins s σ H Q I h;refine isTrue_and (bR (ha pins s σ H _ I h) λc s1 z=>?_);let⟨H1,I1,q1⟩:=z;cases c with
 | true=>exact hb wh pins s1 σ H1 Q I1 q1
 | false=>exact⟨H1,I1,q1⟩
def Mf(ha:PT X a tA)(hb:PW X (.BoolOp .Or (b::rest) pos) tB'):PW X (.BoolOp .Or (a::b::rest) pos) (UN tA tB'):=by
 intro wh pins s σ H Q I h;refine isTrue_or (bR (ha pins s σ H _ I h) λc s1 z=>?_);let⟨H1,I1,q1⟩:=z;cases c with
 | true=>exact⟨H1,I1,q1⟩
 | false=>exact hb wh pins s1 σ H1 Q I1 q1
def FF(ha:PT X a tA):PT X (.UnaryOp .Not a pos) (T2 tA):=by
 sleep 6;exact isTrue_not (ha pins s σ H (λc H1=>Q (!c) H1) I h)
def QK(ta tb:TE):TE:=λσ H Q=>ta σ H λx H1=>∃c,x=.bl c/\if c=true then tb σ H1 Q else Q (.bl false) H1
def TK(ta tb:TE):TE:=λσ H Q=>ta σ H λx H1=>∃c,x=.bl c/\if c=true then Q (.bl true) H1 else tb σ H1 Q
def F2{op}(h:PE X a t):PE X (.BoolOp op [a] pos) t:=λpins s σ H Q I hw=>BoolOp_one (h pins s σ H Q I hw)
def E6(ha:PE X a ta)(hb:PE X (.BoolOp .And (b::rest) pos) tb):PE X (.BoolOp .And (a::b::rest) pos) (QK ta tb):=by
 sleep 6;refine BoolOp_and (bR (ha pins s σ H _ I h) λv s1 z=>?_);let⟨x,H1,I1,r1,q1⟩:=z;let⟨c,rfl,q1⟩:=q1;cases r1;refine xV ?_;cases c with
 | true=>exact hb pins s1 σ H1 Q I1 q1
 | false=>exact⟨.bl false,H1,I1,rfl,q1⟩
def Mh(ha:PE X a ta)(hb:PE X (.BoolOp .Or (b::rest) pos) tb):PE X (.BoolOp .Or (a::b::rest) pos) (TK ta tb):=by
 sleep 6;refine BoolOp_or (bR (ha pins s σ H _ I h) λv s1 z=>?_);let⟨x,H1,I1,r1,q1⟩:=z;let⟨c,rfl,q1⟩:=q1;cases r1;refine xV ?_;cases c with
 | false=>exact hb pins s1 σ H1 Q I1 q1
 | true=>exact⟨.bl true,H1,I1,rfl,q1⟩
def U5(t:TT)(ta tb:TE):TE:=λσ H Q=>t σ H λc H1=>if c=true then ta σ H1 Q else tb σ H1 Q
def Gn(hc:PT X c tA)(ha:PE X a ta)(hb:PE X b tb):PE X (.IfExp c a b pos) (U5 tA ta tb):=by
 sleep 6;refine wpAny_IfExp (bR (hc pins s σ H _ I h) λd s1 z=>?_);let⟨H1,I1,q1⟩:=z;cases d with
 | true=>exact ha pins s1 σ H1 Q I1 q1
 | false=>exact hb pins s1 σ H1 Q I1 q1
end
def gc(K:Φ)(H:Hp)(a:Ψ)(xs:Γ V):Prop :=
 Rd H a (.lst xs) \/
  ∃ (o:Obj) (its:Array Θ) (n:Nat),K.lookup a=some o/\o.cls=.type "list"/\o.dict=none/\o.data=.seq its n/\its.size<=sizeLine/\aI xs its.toList
def gG(K:Φ)(H:Hp)(a:Ψ)(xs:Γ V):Prop :=
 Rd H a (.tup xs) \/
  ∃ (o:Obj) (its:Array Θ) (n:Nat),K.lookup a=some o/\o.cls=.type "tuple"/\o.dict=none/\o.data=.seq its n/\its.size<=sizeLine/\aI xs its.toList
def Uh:Θ->Δ V
 | .none=>some .Vs
 | .bool b=>some (.bl b)
 | .int i _=>some (.int i)
 | .str x _=>some (.str x)
 | .bytes b _=>some (.byt b)
 | .float b _=>some (.flt b)
 | .ref a=>some (.ref a)
 | .type n=>some (.ty n)
 | _=>none
def RelV.abs(r:RelV x u):Uh u=some x:=by
 cases x with
 | Vs=>cases r;rfl
 | bl _=>cases r;rfl
 | int _=>let⟨t,rfl⟩:=r;rfl
 | str _=>let⟨t,rfl⟩:=r;rfl
 | byt _=>let⟨t,rfl⟩:=r;rfl
 | flt _=>let⟨t,rfl⟩:=r;rfl
 | ref _=>cases r;rfl
 | ty _=>cases r;rfl
def RelV.inj(r:RelV x u)(q:RelV y u):x=y:=xC (r.abs.symm.trans q.abs)
def aI.inj(h:aI xs us):aI ys us->xs=ys:=by
 induction h generalizing ys with
 | nil=>intro h;cases h;rfl
 | cons r t ih=>intro h;cases h with|cons r' t'=>rw[r.inj r',ih t']
def gc.of{K:Φ}(h:H a=some (.lst xs)):gc K H a xs:=.inl (.inl h)
def Inv.list(I:Inv X pins σ H s)(h:gc X.K H a xs):∃its:Γ Θ,aI xs its/\PlainL s.heap a its.toArray/\xs.length<=sizeLine:=by
 rcases h with h|⟨o,its,n,hk,hc,hd,hs,hz,r⟩
 ·let⟨z,its,n,r,e⟩:=h.ok I.Vx;exact⟨its,r,⟨_,n,e,rfl,rfl,rfl⟩,z⟩
 ·refine⟨its.toList,r,⟨o,n,I.WN a o hk,hc,hd,by simpa using hs⟩,?_⟩;have e:=r.length;simp?[vV] at e;lia
def Inv.tuple(I:Inv X pins σ H s)(h:gG X.K H a xs):∃its:Γ Θ,aI xs its/\IsTup s.heap a its.toArray/\xs.length<=sizeLine:=by
 rcases h with h|⟨o,its,n,hk,hc,_,hs,hz,r⟩
 ·let⟨z,its,r,p⟩:=h.ok I.Vx;exact⟨its,r,p.1,z⟩
 ·refine⟨its.toList,r,⟨o,I.WN a o hk,hc,n,by simpa using hs⟩,?_⟩;have e:=r.length;simp?[vV] at e;lia
def Inv.W6(I:Inv X pins σ H s)(h:gc X.K H a xs)(h':gc X.K H a ys):xs=ys:=by
 let⟨its,r,⟨o,n,e,_,_,d⟩,_⟩:=I.list h;let⟨its',r',⟨o',n',e',_,_,d'⟩,_⟩:=I.list h';rw[e] at e';cases e';rw[d] at d';injection d' with d1 _
 have:its=its':=by simpa using jB Array.toList d1
 subst this;exact r.inj r'
def Inv.WO(I:Inv X pins σ H s)(h:gG X.K H a xs)(h':gG X.K H a ys):xs=ys:=by
 let⟨its,r,⟨o,e,_,n,d⟩,_⟩:=I.tuple h;let⟨its',r',⟨o',e',_,n',d'⟩,_⟩:=I.tuple h';rw[e] at e';cases e';rw[d] at d';injection d' with d1 _
 have:its=its':=by simpa using jB Array.toList d1
 subst this;exact r.inj r'
abbrev Cx.WJ(X:Cx)(E:Θ->Ξ->Prop):Cx:={ X with xe:=E }
abbrev Cx.X2(X:Cx):Cx:=X.WJ λ_ _=>False
def Cx.Ok.WJ{X:Cx}(ok:X.Ok)(E:Θ->Ξ->Prop):(X.WJ E).Ok :=
 ⟨ok.mod,ok.kind,ok.glob,ok.blt,ok.above,ok.inj,ok.has,ok.cab,ok.hd,ok.frames,ok.stk,ok.exf,ok.bs,ok.YL,ok.XF,ok.X8,ok.Wq,ok.ZH⟩
def Cx.Ok.V2{X:Cx}{E:Θ->Ξ->Prop}(ok:(X.WJ E).Ok):X.Ok :=
 ⟨ok.mod,ok.kind,ok.glob,ok.blt,ok.above,ok.inj,ok.has,ok.cab,ok.hd,ok.frames,ok.stk,ok.exf,ok.bs,ok.YL,ok.XF,ok.X8,ok.Wq,ok.ZH⟩
def Inv.WJ(I:Inv X pins σ H s)(E:Θ->Ξ->Prop):Inv (X.WJ E) pins σ H s:=⟨I.ok.WJ E,I.os,I.bare,I.base,I.loc,I.cell,I.free,I.VR,I.pin,I.Vx,I.len⟩
def Inv.V2(I:Inv (X.WJ E) pins σ H s):Inv X pins σ H s:=⟨I.ok.V2,I.os,I.bare,I.base,I.loc,I.cell,I.free,I.VR,I.pin,I.Vx,I.len⟩
def SP.V2{D:Ends}(h:SP (X.WJ E) pins D f s'):SP X pins D f s':=by
 cases f with
 | next=>let⟨σ',H',I,q⟩:=h;exact⟨σ',H',I.V2,q⟩
 | brk=>let⟨σ',H',I,q⟩:=h;exact⟨σ',H',I.V2,q⟩
 | cont=>let⟨σ',H',I,q⟩:=h;exact⟨σ',H',I.V2,q⟩
 | ret u=>let⟨v,σ',H',I,r,q⟩:=h;exact⟨v,σ',H',I.V2,r,q⟩
def uC.X2{st:Γ Ω}(h:uC X.X2 st t):uC X st t:=λpins s σ H D I hw =>
 yZ (h pins s σ H D (I.WJ _) hw) (λ_ _ q=>q.V2) λ_ _ z=>False.elim z
section
variable {st:Ω}{rest:Γ Ω}
def yt:TS:=λD σ H=>D.nx σ H
def rA(t u:TS):TS:=λD σ H=>t { D with nx:=u D } σ H
def uZ:uC X [] yt:=λ_ _ σ H _ I h=>vJ ⟨σ,H,I,h⟩
def dM(h1:PS X st t)(h2:uC X rest u):uC X (st::rest) (rA t u):=by
 intro pins s σ H D I h;refine wpAny_execs_cons (bR (h1 pins s σ H { D with nx:=u D } I h) λf s1 q=>?_);cases f with
 | next =>
  let⟨σ',H',I',q⟩:=q;exact h2 pins s1 σ' H' D I' q
 | ret v=>exact q
 | brk=>exact q
 | cont=>exact q
def pX(h1:PS X st t):uC X [st] t:=by
 intro pins s σ H D I h;refine wpAny_execs_cons (bR (h1 pins s σ H D I h) λf s1 q=>?_);cases f with
 | next=>exact vJ q
 | ret v=>exact q
 | brk=>exact q
 | cont=>exact q
def Jt:PS X (.Pass pos) yt:=λ_ _ σ H _ I h=>wpAny_Pass ⟨σ,H,I,h⟩
def Inv.quiet(I:Inv X pins σ H s):interactive X.env=false:=by simp[interactive,I.ok.kind]
def Pb{x j pos pos'}:PS X (.Expr (.Constant (.str x) j pos) pos') yt:=λ_ s σ H _ I h=>wpAny_Expr (Calls.Constant_str (show SP X _ _ .next { s with toks:=s.toks+1 } from ⟨σ,H,I.tok _,h⟩)) I.quiet
def CK(te:TE):TS:=λD σ H=>te σ H λ_ H1=>D.nx σ H1
def gP(he:PE X e te)(hs:swapsWith e none pos.line X.env=pure false:=by rfl):PS X (.Expr e pos) (CK te):=by
 intro pins s σ H D I h;exact wpAny_Expr_any (bR (he pins s σ H _ I h) λv s1 z=>by let⟨x,H1,I1,r1,q1⟩:=z;exact ⟨σ,H1,I1,q1⟩) I.quiet hs
def GE(te:TE):TS:=λD σ H=>te σ H D.rt
def u9(he:PE X e te):PS X (.Return (some e) pos) (GE te):=by
 intro pins s σ H D I h;exact wpAny_Return_some (bR (he pins s σ H _ I h) λv s1 z=>by let⟨x,H1,I1,r1,q1⟩:=z;exact ⟨x,σ,H1,I1,r1,q1⟩)
def Pu(c:TT)(t u:TS):TS:=λD σ H=>c σ H λb H1=>if b=true then t D σ H1 else u D σ H1
def Dh(hc:PT X c tc)(ha:uC X a t)(hb:uC X b u):PS X (.If c a b pos) (Pu tc t u):=by
 intro pins s σ H D I h;refine wpAny_If (bR (hc pins s σ H _ I h) λd s1 z=>?_);let⟨H1,I1,q1⟩:=z;cases d with
 | true=>exact ha pins s1 σ H1 D I1 q1
 | false=>exact hb pins s1 σ H1 D I1 q1
end
abbrev TG:=V->St->Hp->(St->Hp->Prop)->Prop
abbrev RG:=Γ V->St->Hp->(St->Hp->Prop)->Prop
def PG(X:Cx)(target:γ)(t:TG):Prop :=
 ∀ (pins:Γ (Ψ×Obj)) (s:Ξ) (σ:St) (H:Hp) (v:V) (u:Θ) (Q:St->Hp->Prop),Inv X pins σ H s->RelV v u->t v σ H Q ->
  wpAny (model X.prog X.w) X.A (assign target X.env u) (λ_ s'=>∃σ' H',Inv X pins σ' H' s'/\Q σ' H') X.xe s
def Sf(X:Cx)(ts:Γ γ)(t:RG):Prop :=
 ∀ (pins:Γ (Ψ×Obj)) (s:Ξ) (σ:St) (H:Hp) (vs:Γ V) (us:Γ Θ) (Q:St->Hp->Prop),Inv X pins σ H s->aI vs us->t vs σ H Q ->
  wpAny (model X.prog X.w) X.A (assignInOrder ((assignEach ts X.env).map (·.2)) us) (λ_ s'=>∃σ' H',Inv X pins σ' H' s'/\Q σ' H') X.xe s
abbrev RC:=V->V->V->Hp->(Hp->Prop)->Prop
def OD(X:Cx)(t:RC):Prop :=
 ∀ (pins:Γ (Ψ×Obj)) (s:Ξ) (σ:St) (H:Hp) (o i v:V) (ov iv u:Θ) (Q:Hp->Prop),Inv X pins σ H s->RelV o ov->RelV i iv->RelV v u->t o i v H Q ->
  wpAny (model X.prog X.w) X.A (setItem ov iv u) (λ_ s'=>∃H',Inv X pins σ H' s'/\Q H') X.xe s
def qu(i:Nat):TG:=λv σ H Q=>Q (σ.set i (some v)) H
def dv(hN:X.N.Nodup)(hi:X.N[i]?=some x)(hx:Loc X.env.scope x)(hf:X.fn x=true\/X.env.scope.names.lookup x=some .local:=by first|exact .inl rfl|exact .inr rfl|assumption):PG X (.Name x pos) (qu i):=by
 intro pins s σ H v u Q I r h;exact wpAny_assign_Name (zh I hN hi hx r (λs' I'=>⟨_,H,I',h⟩) hf)
def S7:RG:=λvs σ H Q=>vs=[]/\Q σ H
def Rb(t:TG)(u:RG):RG:=λvs σ H Q=>∃v r,vs=v::r/\t v σ H λσ' H'=>u r σ' H' Q
def p8:Sf X [] S7:=by
 intro pins s σ H vs us Q I r h;let⟨e,h⟩:=h;subst e;cases r;exact assignInOrder_nil ⟨σ,H,I,h⟩
def dh(h1:PG X e t)(h2:Sf X es u)
  (hs:(assignEach (e::es) X.env).map (·.2)=assign e X.env::(assignEach es X.env).map (·.2):=by rfl):Sf X (e::es) (Rb t u):=by
 intro pins s σ H vs us Q I r h;let⟨v,vr,e1,h⟩:=h;subst e1;cases r with
 | cons r rr =>
  rw[hs];refine assignInOrder_cons (bR (h1 pins s σ H _ _ _ I r h) λ_ s1 z=>?_);let⟨ZK,H1,I1,q1⟩:=z;exact h2 pins s1 ZK H1 _ _ Q I1 rr q1
def TN(K:Φ)(n:Nat)(t:RG):TG:=λv σ H Q=>∃a xs,v=.ref a/\gG K H a xs/\xs.length=n/\t xs σ H Q
def wz{k:Nat}(hc:X.calm=true)(h:Sf X es t)
  (hn:(assignEach es X.env).length=n:=by rfl) (WQ:(assignEach es X.env).findIdx? (·.1)=none:=by rfl):PG X (.Tuple es k pos) (TN X.K n t):=by
 intro pins s σ H v u Q I r hw;let⟨a,xs,e1,hq,hl,hw⟩:=hw;subst e1;cases r;let⟨its,rv,ht,hz⟩:=I.tuple hq;refine assign_Tuple_tuple (I.ok.hd hc) ht (by simp[hn,<- hl,rv.length]) WQ λh' hx=>?_;have I1:Inv X pins σ H { s with heap:=h' }:=I.kept (t':=s.toks) λb o e=>hx b o (yQ (zY e)) e;exact h pins _ σ H xs _ Q I1 (by simpa using rv) hw
def fx(to ti:TE)(t:RC):TG:=λv σ H Q=>to σ H λo H1=>ti σ H1 λi H2=>t o i v H2 λH3=>Q σ H3
def EY(ho:PE X o to)(hi:PE X i ti)(hs:OD X t)
  (ha:∀v,assign (.Subscript o i pos) X.env v=(do
   let ov <- holding [v] (eval o X.env)
   let iv <- holding [v,ov] (eval i X.env)
   standAt pos
   holding [v,ov,iv] (setItem ov iv v)
   release [v,ov,iv] []):=by intro _;rfl):PG X (.Subscript o i pos) (fx to ti t):=by
 intro pins s σ H v u Q I r h;rw[ha];refine zV (xW (bR (ho pins s σ H _ I h) λov s1 z=>?_));let⟨x,H1,I1,r1,q1⟩:=z;refine zV (xW (bR (hi pins s1 σ H1 _ I1 q1) λiv s2 z=>?_));let⟨y,H2,I2,r2,q2⟩:=z;refine zV (kW (zV (xW (bR (hs pins s2 σ H2 x y v ov iv u _ I2 r1 r2 r q2) λ_ s3 z=>?_))));let⟨H3,I3,q3⟩:=z;exact wpAny_release ⟨σ,H3,I3,q3⟩
def AC(te:TE)(g:TG):TS:=λD σ H=>te σ H λx H1=>g x σ H1 D.nx
def AR(he:PE X e te)(hg:PG X tg g)(hs:swapsWithSole [tg] e pos.line X.env=pure false:=by rfl)(hw:swappedStores [tg] e X.env=pure none:=by rfl)
  (h1:(assignEach [tg] X.env).map (·.2)=[assign tg X.env]:=by rfl):PS X (.Assign [tg] e pos) (AC te g):=by
 intro pins s σ H D I h;refine wpAny_Assign_stores (bR (he pins s σ H _ I h) λv s1 z=>?_) hs hw;let⟨x,H1,I1,r1,q1⟩:=z;rw[h1];exact bR (hg pins s1 σ H1 x v _ I1 r1 q1) λ_ s2 q=>q
def lb(hN:X.N.Nodup)(hi:X.N[i]?=some x)(hx:Loc X.env.scope x)(he:PE X e te)(hs:swapsWith e (some (.Name x pos')) pos.line X.env=pure false:=by rfl)(hf:X.fn x=true\/X.env.scope.names.lookup x=some .local:=by first|exact .inl rfl|exact .inr rfl|assumption) :
  PS X (.Assign [.Name x pos'] e pos) (AC te (qu i)):=by
 intro pins s σ H D I h;refine wpAny_Assign_Name (bR (he pins s σ H _ I h) λv s1 z=>?_) hs;let⟨y,H1,I1,r1,q1⟩:=z;exact zh I1 hN hi hx r1 (λs2 I2=>⟨_,H1,I2,q1⟩) hf
def Nk(c:TT)(tb:TS):TS:=λD σ H=>∃W:Nat->St->Hp->Prop,(∃m,W m σ H)/\∀m σ H,W m σ H ->
 c σ H λb H1=>if b=true then ∃N:St->Hp->Prop,(∀σ' H',N σ' H'->∃m',m' < m/\W m' σ' H')/\tb { D with nx:=N,ct:=N,bk:=D.nx } σ H1 else D.nx σ H1
def HM(hp:PassesOwn (model X.prog X.w) X.A X.env X.xe)(hc:PT X c tc)(hb:uC X body tb):PS X (.While c body [] pos) (Nk tc tb):=by
 intro pins s σ H D I h;let⟨W,⟨m0,w0⟩,turn⟩:=h;refine wpAny_While (codeAny_whileLoop (λn s'=>∃σ' H',Inv X pins σ' H' s'/\W n σ' H') ?_ m0 ⟨σ,H,I,w0⟩);rintro n s1 ⟨ZK,H1,I1,w1⟩;refine jI hp (bR (hc pins s1 ZK H1 _ I1 (turn n ZK H1 w1)) λb s2 z=>?_);let⟨H2,I2,q2⟩:=z;cases b with
 | true =>
  let⟨N,hN,q2⟩:=q2;rw[yK rfl];refine jI hp (bR (hb pins s2 ZK H2 _ I2 q2) λf s3 q3=>?_);cases f with
  | next =>
   let⟨X3,H3,I3,n3⟩:=q3;let⟨m',hm,w3⟩:=hN X3 H3 n3;exact⟨m',hm,X3,H3,I3,w3⟩
  | cont =>
   let⟨X3,H3,I3,n3⟩:=q3;let⟨m',hm,w3⟩:=hN X3 H3 n3;exact⟨m',hm,X3,H3,I3,w3⟩
  | brk=>exact q3
  | ret v=>exact q3
 | false =>
  rw[yM yY];exact vJ ⟨ZK,H2,I2,q2⟩
structure It where
 go:Nat->Hp->Prop
 YA:Nat->Hp->V->Hp->Prop
 stop:Nat->Hp->Prop
def cM(X:Cx)(pins:Γ (Ψ×Obj))(H:Hp)(b:Ψ):Prop :=
 H b=none/\b≠X.env.locals/\b∉X.fs/\(b∈X.ex\/X.VM.heap.objs.size<=b)/\(∀x c,X.env.cells.lookup x=some c->c≠b)/\∀p∈X.pn++pins,p.1≠b
def Inv.Wr(I:Inv X pins σ H s)(hb:s.heap.objs.size<=b)(hn:H' b=none):cM X pins H' b:=by
 refine⟨hn,jH (zP I.lt hb),I.adk hb,.inr (yD I.sz hb),λx c e z=>?_,λp hp z=>?_⟩
 ·let⟨v,q⟩:=I.cell x c e;exact absurd (zP q.lt (by rw[z];exact hb)) (qD _)
 ·exact absurd (zP (zY (I.pin p hp).1) (by rw[z];exact hb)) (qD _)
structure Turn(P:Program)(w:World)(K:W.Frag)(tg:Expr)(J:It)(fp:List Addr)(it:Addr)(tn:Nat->Heap->Prop):Prop where
 mem:it∈fp
 obj:∀i h,tn i h->∀b∈fp,∃o,h.get? b=some o/\∀v,o.data≠.cell v
 keep:∀i h h',tn i h->(∀b∈fp,∀o,h.get? b=some o->h'.get? b=some o)->tn i h'
 item:∀ (X:Cx),X.prog=P->X.w=w->X.K=K->X.calm=true->∀ (i:Nat) (pins:Γ (Ψ×Obj)) (s:Ξ) (σ:St) (H:Hp) (E:Θ->Ξ->Prop),Inv X pins σ H s->(∀b∈fp,cM X pins H b)->tn i s.heap->J.go i H ->
  wpAny (model P w) X.A (pyNext (.ref it)) (λr s1=>∃u,r=some u /\
   wpAny (model P w) X.A (letOwnedTupleGo tg (.ref it) u) (λ_ s2=>∃x H',Inv X pins σ H' s2/\RelV x u/\J.YA i H x H'/\tn (i+1) s2.heap/\∀b∈fp,H' b=none) E s1) E s
 done:∀ (X:Cx),X.prog=P->X.w=w->X.K=K->X.calm=true->∀ (i:Nat) (pins:Γ (Ψ×Obj)) (s:Ξ) (σ:St) (H:Hp) (E:Θ->Ξ->Prop),Inv X pins σ H s->(∀b∈fp,cM X pins H b)->tn i s.heap->J.stop i H ->
  wpAny (model P w) X.A (pyNext (.ref it)) (λr s1=>r=none/\Inv X pins σ H s1) E s
 self:∀ (A:ξ) (i:Nat) (s:Ξ) (Q:Θ->Ξ->Prop) (E:Θ->Ξ->Prop),tn i s.heap->Q (.ref it) s->wpAny (model P w) A (pyIter (.ref it)) Q E s
abbrev TI:=St->Hp->(It->Hp->Prop)->Prop
def SS(X:Cx)(pins:Γ (Ψ×Obj))(σ:St)(tg:γ)(R:It->Hp->Prop)(itv:Θ)(s2:Ξ):Prop :=
 ∃ (it:Ψ) (fp:Γ Ψ) (tn:Nat->ι->Prop) (J:It) (H':Hp),itv=.ref it/\Inv X pins σ H' s2/\Turn X.prog X.w X.K tg J fp it tn/\tn 0 s2.heap/\(∀b∈fp,cM X pins H' b)/\R J H'
def PI(X:Cx)(tg iter:γ)(wi:TI):Prop :=
 ∀ (pins:Γ (Ψ×Obj)) (s:Ξ) (σ:St) (H:Hp) (R:It->Hp->Prop),Inv X pins σ H s->wi σ H R ->
  wpAny (model X.prog X.w) X.A (eval iter X.env) (λv s1=>wpAny (model X.prog X.w) X.A (pyIter v) (SS X pins σ tg R) X.xe s1) X.xe s
def BY(ho:s.heap.get? it=some o)(hc:o.cls=.type n)(hd:o.data=.fields vs)
  (hn:["enumerate","zip","dict_itemiterator","dict_reverseitemiterator","odict_iterator","itertools.zip_longest","itertools.pairwise"].contains n=false) (hQ:Q () s):wpAny M A (letOwnedTupleGo tg (.ref it) u) Q E s:=by
 unfold letOwnedTupleGo;cases tg<;>first
  | exact zW hQ
  | (cases u<;>first
    | exact zW hQ
    | (refine zV (wpAny_load ho ?_)
       rw[hc,hd];show wpAny M A (if (["enumerate","zip","dict_itemiterator","dict_reverseitemiterator","odict_iterator","itertools.zip_longest","itertools.pairwise"].contains n&&vs[0]? == some (rawInt _))=true then _ else _) Q E s;rw[yM (by intro h;rw[hn,vR] at h;cases h)];exact zW hQ))
def SU(K:Φ)(a:Ψ):It :=
 ⟨λi H=>∃xs x,gc K H a xs/\xs[i]?=some x,λi H x H'=>H'=H/\∀xs,gc K H a xs->xs[i]?=some x,λi H=>∃xs,gc K H a xs/\xs.length<=i⟩
def TF(K:Φ)(a:Ψ):It :=
 ⟨λi H=>∃xs x,gG K H a xs/\xs[i]?=some x,λi H x H'=>H'=H/\∀xs,gG K H a xs->xs[i]?=some x,λi H=>∃xs,gG K H a xs/\xs.length<=i⟩
def Rl(lo:Int)(n:Nat):It:=⟨λi _=>i < n,λi H x H'=>H'=H/\x=.int (lo+i),λi _=>n<=i⟩
def Ec{K:Φ}(a it:Ψ):Turn P w K tg (SU K a) [it] it (λi h=>h.IsListIter it a i) where
 mem:=by simp
 obj:=λi h st b hb=>by
  have e:b=it:=by simpa using hb
  subst e;let⟨o,e,c,d⟩:=st;exact⟨o,e,λv z=>by rw[d] at z;cases z⟩
 keep:=λi h h' st k=>st.at λo e=>k it (by simp) o e
 item:=by
  sleep 3;subst hP hw hK;let⟨xs,x,hq,hx⟩:=hg;let⟨its,rv,p,hz⟩:=I.list hq;let⟨u,hu,ru⟩:=rv.get hx;sleep 10;refine wpAny_pyNext_list_item st p.isList (x:=u) (by simpa using hu) λh' VI sb=>?_;have I1:Inv X pins σ H { s with heap:=h' }:=I.turned (t':=s.toks) (λb o hb e=>(sb.2 b hb).trans e) f0 f1 f3 f4 f5;let⟨o,e,c,d⟩:=id VI;exact⟨u,rfl,BY (s:={ s with heap:=h' }) e c d (by decide) ⟨x,H,I1,ru,⟨rfl,λys hy=>by rw[I.W6 hy hq];exact hx⟩,VI,λb hb=>(hf b hb).1⟩⟩
 done:=by
  sleep 3;subst hP hw hK;let⟨xs,hq,hx⟩:=hg;let⟨its,rv,p,hz⟩:=I.list hq;sleep 10;have hl:=rv.length;exact wpAny_pyNext_list_end (I.ok.hd hc) st p.isList (by simp;lia) λh' eb=>⟨rfl,I.turned (t':=s.toks) (λb o hb e=>eb b o hb e) f0 f1 f3 f4 f5⟩
 self:=λ_ _ _ _ _ st h=>wpAny_pyIter_listiter st h
def Bq{K:Φ}(a it:Ψ):Turn P w K tg (TF K a) [it] it (λi h=>h.IsTupleIter it a i) where
 mem:=by simp
 obj:=λi h st b hb=>by
  have e:b=it:=by simpa using hb
  subst e;let⟨o,e,c,d⟩:=st;exact⟨o,e,λv z=>by rw[d] at z;cases z⟩
 keep:=λi h h' st k=>st.at λo e=>k it (by simp) o e
 item:=by
  sleep 3;subst hP hw hK;let⟨xs,x,hq,hx⟩:=hg;let⟨its,rv,p,hz⟩:=I.tuple hq;let⟨u,hu,ru⟩:=rv.get hx;sleep 10;refine wpAny_pyNext_tuple_item st (show s.heap.IsTuple a its.toArray from p) (x:=u) (by simpa using hu) λh' VI sb=>?_;have I1:Inv X pins σ H { s with heap:=h' }:=I.turned (t':=s.toks) (λb o hb e=>(sb.2 b hb).trans e) f0 f1 f3 f4 f5;let⟨o,e,c,d⟩:=id VI;exact⟨u,rfl,BY (s:={ s with heap:=h' }) e c d (by decide) ⟨x,H,I1,ru,⟨rfl,λys hy=>by rw[I.WO hy hq];exact hx⟩,VI,λb hb=>(hf b hb).1⟩⟩
 done:=by
  sleep 3;subst hP hw hK;let⟨xs,hq,hx⟩:=hg;let⟨its,rv,p,hz⟩:=I.tuple hq;sleep 10;have hl:=rv.length;exact wpAny_pyNext_tuple_end (I.ok.hd hc) st (show s.heap.IsTuple a its.toArray from p) (by simp;lia) λh' eb=>⟨rfl,I.turned (t':=s.toks) (λb o hb e=>eb b o hb e) f0 f1 f3 f4 f5⟩
 self:=λ_ _ _ _ _ st h=>wpAny_pyIter_tupleiter st h
def AN{K:Φ}(it:Ψ)(lo:Int)(n:Nat):Turn P w K tg (Rl lo n) [it] it (λi h=>IsRangeIter h it (lo+(i:Nat) * 1) ((n:Int) - (i:Nat)) 1) where
 mem:=by simp
 obj:=λi h st b hb=>by
  have e:b=it:=by simpa using hb
  subst e;exact⟨_,st,λv z=>by
   have z':Data.fields _=Data.cell v:=z;cases z'⟩
 keep:=λi h h' st k=>k it (by simp) _ st
 item:=by
  sleep 3;subst hP hw hK;sleep 10;have W:=Walks.range (prog:=X.prog) (w:=X.w) (I.ok.hd hc) it lo 1 n;refine W.item i s _ _ hg st λv h' tk hv VI kk=>?_;let⟨t,rfl⟩:=hv;have I1:Inv X pins σ H { s with heap:=h',toks:=tk }:=I.turned (λb o hb e=>kk b o (by simpa using hb) e) f0 f1 f3 f4 f5;refine⟨_,rfl,BY (s:={ s with heap:=h',toks:=tk }) (n:="range_iterator") VI rfl rfl (by decide) ⟨.int (lo+i),H,I1,⟨t,?_⟩,⟨rfl,rfl⟩,VI,λb hb=>(hf b hb).1⟩⟩;rw[Int.mul_one]
 done:=by
  sleep 3;subst hP hw hK;sleep 10;exact wpAny_pyNext_range_end (I.ok.hd hc) st (by have:n<=i:=hg;lia) λh' eb=>⟨rfl,I.turned (t':=s.toks) (λb o hb e=>eb b o hb e) f0 f1 f3 f4 f5⟩
 self:=λ_ _ _ _ _ st h=>wpAny_pyIter_rangeiter st h
def xk{lo:Int}{t u v:Tok}{tk:Nat}(I:Inv X pins σ H s)(h1:-(2 ^ 62)<=lo)(h2:lo < 2 ^ 62)(h3:-(2 ^ 62)<=hi)(h4:hi < 2 ^ 62)
  (q:R (Rl lo (hi - lo).toNat) H):wpAny (model X.prog X.w) X.A (pyIter (.ref s.heap.objs.size)) (SS X pins σ tg R) E { s with heap:=s.heap.push { cls:=.type "range",data:=.fields #[.int lo t,.int hi u,.int 1 v] },toks:=tk }:=by
 refine wpAny_pyIter_range (IsRange.new ..) (small_one h1 h2 h3 h4) ?_;have I1:Inv X pins σ H { s with heap:=s.heap.push { cls:=.type "range",data:=.fields #[.int lo t,.int hi u,.int 1 v] },toks:=tk }:=I.kept λb o e=>zU _ e;refine⟨(s.heap.push { cls:=.type "range",data:=.fields #[.int lo t,.int hi u,.int 1 v] }).objs.size,[(s.heap.push { cls:=.type "range",data:=.fields #[.int lo t,.int hi u,.int 1 v] }).objs.size],_,_,H,rfl,
  I1.kept (t':=tk) λb o e=>zU _ e,AN _ lo (hi - lo).toNat,?_,λb hb=>?_,q⟩
 ·have e1:lo+((0:Nat):Int) * 1=lo:=by simp
  have e2:(((hi - lo).toNat:Nat):Int) - ((0:Nat):Int)=Builtin.Range.rangeSize lo hi 1:=by rw[rangeSize_one];split<;>lia
  show IsRangeIter _ _ (lo+((0:Nat):Int) * 1) ((((hi - lo).toNat:Nat):Int) - ((0:Nat):Int)) 1;rw[e1,e2];exact zX _ rfl
 ·have e:b=(s.heap.push { cls:=.type "range",data:=.fields #[.int lo t,.int hi u,.int 1 v] }).objs.size:=by simpa using hb
  subst e;exact I1.Wr (yL _) (I1.Vx.fresh (yL _))
def Qp(ta:TA):TI:=λσ H R=>ta σ H λvs H1=>∃j:Int,vs=[.int j]/\-(2 ^ 62)<=j/\j < 2 ^ 62/\R (Rl 0 j.toNat) H1
def Q7(ta:TA):TI:=λσ H R=>ta σ H λvs H1=>∃i j:Int,vs=[.int i,.int j]/\(-(2 ^ 62)<=i/\i < 2 ^ 62/\-(2 ^ 62)<=j/\j < 2 ^ 62)/\R (Rl i (j - i).toNat) H1
def EJ(hg:Gl X "range")(hm:X.mg "range"=none)(ha:PA X [a] ta)(hs:starEach [a] X.env=[(false,eval a X.env)]:=by rfl):PI X tg (.Call (.Name "range" p) [a] [] pos) (Qp ta):=by
 intro pins s σ H R I h;refine Call_ (i6 I hg hm boot_range (qQ (bR (ha pos pins s σ H _ I h) λus s1 z=>?_) hs rfl));let⟨vs,H1,I1,r1,q1⟩:=z;let⟨j,e,q1,q2,q⟩:=q1;subst e;cases r1 with
 | cons r rr =>
  cases rr;let⟨t,rfl⟩:=r;exact call_range_1 (xk I1 (by lia) (by lia) q1 q2 (by simpa using q))
def D0(hg:Gl X "range")(hm:X.mg "range"=none)(ha:PA X [a,b] ta)(hs:starEach [a,b] X.env=[(false,eval a X.env),(false,eval b X.env)]:=by rfl)(WV:starEach [b] X.env=[(false,eval b X.env)]:=by rfl) :
  PI X tg (.Call (.Name "range" p) [a,b] [] pos) (Q7 ta):=by
 intro pins s σ H R I h;refine Call_ (i6 I hg hm boot_range (qQ (bR (ha pos pins s σ H _ I h) λus s1 z=>?_) (by rw[hs,WV]) (by rw[WV];rfl)));let⟨vs,H1,I1,r1,q1⟩:=z;let⟨i,j,e,⟨q1,q2,q3,q4⟩,q⟩:=q1;subst e;cases r1 with
 | cons r rr =>
  cases rr with
  | cons r' rr =>
   cases rr;let⟨t,rfl⟩:=r;let⟨t',rfl⟩:=r';exact call_range_2 (xk I1 q1 q2 q3 q4 q)
def TR(wi:TI)(g:TG)(tb:TS):TS:=λD σ H=>wi σ H λJ H1=>∃W:Nat->Nat->St->Hp->Prop,(∃m,W 0 m σ H1)/\∀i m σ H,W i m σ H ->
 (J.stop i H/\D.nx σ H)\/(J.go i H/\∃N:St->Hp->Prop,(∀σ' H',N σ' H'->∃m',m' < m/\W (i+1) m' σ' H')/\∀x H',J.YA i H x H'->g x σ H' λWW H2=>tb { D with nx:=N,ct:=N,bk:=D.nx } WW H2)
def oV(fp:Γ Ψ)(h:ι):Γ (Ψ×Obj):=fp.filterMap λb=>(h.get? b).map λo=>(b,o)
def eJ(hb:b∈fp)(e:h.get? b=some o):(b,o)∈oV fp h:=List.mem_filterMap.mpr ⟨b,hb,by rw[e];rfl⟩
def D7(hp:p∈oV fp h):p.1∈fp/\h.get? p.1=some p.2:=by
 let⟨b,hb,e⟩:=List.mem_filterMap.mp hp;cases q:h.get? b with
 | none=>rw[q] at e;cases e
 | some o =>
  rw[q] at e;have e':(b,o)=p:=xC e;subst e';exact⟨hb,q⟩
def Inv.pinned(I:Inv X pins σ H s)(hf:∀b∈fp,cM X pins H b)(ho:∀b∈fp,∃o,s.heap.get? b=some o/\∀v,o.data≠.cell v):Inv X (pins++oV fp s.heap) σ H s :=
 I.Xu λp hp=>(List.mem_append.mp hp).elim (λz=>I.pin p (yE _ z)) λz=>by
  let⟨hb,e⟩:=D7 z;let⟨f0,f1,f2,_⟩:=hf p.1 hb;let⟨o,e',d⟩:=ho p.1 hb;rw[e] at e';cases e';exact⟨e,f0,f1,f2,d⟩
def Inv.VS(I:Inv X (pins++pl) σ H s):Inv X pins σ H s:=I.Xu λp hp=>I.pin p (yE _ (qH _ hp))
def GD{pos:Pos}(hp:PassesOwn (model X.prog X.w) X.A X.env X.xe)(hc:X.calm=true)(hi:PI X tg iter wi)(hg:PG X tg g)(hb:uC X body tb)
  (hs:∀x,foldedSetIterable iter X.env x=pure x:=by intro _;rfl):PS X (.For tg iter body [] pos) (TR wi g tb):=by
 intro pins s σ H D I h;refine wpAny_For (bR (hi pins s σ H _ I h) λv s1 h1=>bR h1 λitv s2 h2=>?_) hs;let⟨it,fp,tn,J,H2,e,I2,T,VZ,f2,W,⟨m0,w0⟩,turn⟩:=h2;subst e;have ZL:∀ {H':Hp},(∀b∈fp,H' b=none)->∀b∈fp,cM X pins H' b:=λhn b hb=>⟨hn b hb,(f2 b hb).2⟩
 refine codeAny_forLoop_any (λn s'=>∃i σ' H',Inv X pins σ' H' s'/\tn i s'.heap/\(∀b∈fp,H' b=none)/\W i n σ' H') ?_ m0 ⟨0,σ,H2,I2,VZ,λb hb=>(f2 b hb).1,w0⟩;rintro n s3 ⟨i,X3,H3,I3,X9,fr3,w3⟩;rcases turn i n X3 H3 w3 with ⟨stop,qn⟩|⟨go,N,hN,step⟩
 ·refine jI hp (bR (T.done X rfl rfl rfl hc i pins s3 X3 H3 X.xe I3 (ZL fr3) X9 stop) λr s4 z=>?_);let⟨hr,I4⟩:=z;subst hr;exact vJ ⟨X3,H3,I4,qn⟩
 ·refine jI hp (bR (T.item X rfl rfl rfl hc i pins s3 X3 H3 X.xe I3 (ZL fr3) X9 go) λr s4 z=>?_);let⟨u,hr,h4⟩:=z;subst hr;refine jI hp (bR h4 λ_ s5 z=>?_);let⟨x,H5,I5,r5,y5,st5,fr5⟩:=z;have I5':=I5.pinned (ZL fr5) (T.obj _ _ st5);refine jI hp (bR (hg _ s5 X3 H5 x u _ I5' r5 (step x H5 y5)) λ_ s6 z=>?_);let⟨σ6,H6,I6,q6⟩:=z;refine jI hp (bR (hb _ s6 σ6 H6 _ I6 q6) λf s7 q7=>?_);have again:∀ {Yb:St}{H7:Hp},Inv X (pins++oV fp s5.heap) Yb H7 s7->N Yb H7->∃m,m < n/\∃i σ' H',Inv X pins σ' H' s7/\tn i s7.heap/\(∀b∈fp,H' b=none)/\W i m σ' H':=λ{Yb H7} I7 n7=>by
   let⟨m',hm,w7⟩:=hN Yb H7 n7;refine⟨m',hm,i+1,Yb,H7,I7.VS,T.keep _ _ _ st5 λb hb o e=>(I7.pin (b,o) (yE _ (yE _ (eJ hb e)))).1,λb hb=>?_,w7⟩;let⟨o,e,d⟩:=T.obj _ _ st5 b hb;exact (I7.pin (b,o) (yE _ (yE _ (eJ hb e)))).2.1
  cases f with
  | next=>let⟨Yb,H7,I7,n7⟩:=q7;exact again I7 n7
  | cont=>let⟨Yb,H7,I7,n7⟩:=q7;exact again I7 n7
  | brk=>let⟨Yb,H7,I7,q7⟩:=q7;exact⟨Yb,H7,I7.VS,q7⟩
  | ret v=>let⟨x7,Yb,H7,I7,r7,q7⟩:=q7;exact⟨x7,Yb,H7,I7.VS,r7,q7⟩
abbrev R2:=V->V->Hp->VK->Prop
def gH(X:Cx)(f:Θ->Θ->Sem Θ)(r:R2):Prop :=
 ∀ (pins:Γ (Ψ×Obj)) (s:Ξ) (σ:St) (H:Hp) (x y:V) (v u:Θ) (Q:VK),Inv X pins σ H s->RelV x v->RelV y u->r x y H Q ->
  wpAny (model X.prog X.w) X.A (f v u) (EP X pins σ Q) X.xe s
def Ue(X:Cx)(f:Θ->Sem Θ)(r:V->Hp->VK->Prop):Prop :=
 ∀ (pins:Γ (Ψ×Obj)) (s:Ξ) (σ:St) (H:Hp) (x:V) (v:Θ) (Q:VK),Inv X pins σ H s->RelV x v->r x H Q ->
  wpAny (model X.prog X.w) X.A (f v) (EP X pins σ Q) X.xe s
def fN(X:Cx)(f:Θ)(r:Γ V->Hp->VK->Prop):Prop :=
 ∀ (pins:Γ (Ψ×Obj)) (s:Ξ) (σ:St) (H:Hp) (xs:Γ V) (us:Γ Θ) (Q:VK),Inv X pins σ H s->aI xs us->r xs H Q ->
  wpAny (model X.prog X.w) X.A (call f us) (EP X pins σ Q) X.xe s
def PY(r:R2)(ta tb:TE):TE:=λσ H Q=>ta σ H λx H1=>tb σ H1 λy H2=>r x y H2 Q
def Vg(r:V->Hp->VK->Prop)(ta:TE):TE:=λσ H Q=>ta σ H λx H1=>r x H1 Q
def rI(C:Int->Int->Prop)(g:Int->Int->V):R2:=λx y H Q=>∃i j,x=.int i/\y=.int j/\C i j/\Q (g i j) H
def I0(g:Int->Int->V):R2:=λx y H Q=>∃i j,x=.int i/\y=.int j/\Q (g i j) H
def rU(g:Int->V):V->Hp->VK->Prop:=λx H Q=>∃i,x=.int i/\Q (g i) H
def Pf(ha:PE X a ta)(hb:PE X b tb){pins:Γ (Ψ×Obj)}{σ:St}{R:V->V->Hp->Prop}(I:Inv X pins σ H s)
  (h:ta σ H λx H1=>tb σ H1 λy H2=>R x y H2) {Q:Θ->Ξ->Prop}{f:Θ->Θ->Sem Θ}
  (hf:∀v u s2 x y H2,Inv X pins σ H2 s2->RelV x v->RelV y u->R x y H2->wpAny (model X.prog X.w) X.A (f v u) Q X.xe s2) :
  wpAny (model X.prog X.w) X.A (eval a X.env) (λv Vw=>wpAny (model X.prog X.w) X.A (eval b X.env) (λu YM=>wpAny (model X.prog X.w) X.A (f v u) Q X.xe YM) X.xe Vw) X.xe s:=by
 refine bR (ha pins s σ H _ I h) λv s1 z=>?_;let⟨x,H1,I1,r1,q1⟩:=z;refine bR (hb pins s1 σ H1 _ I1 q1) λu s2 z=>?_;let⟨y,H2,I2,r2,q2⟩:=z;exact hf v u s2 x y H2 I2 r1 r2 q2
def Qf(ho:gH X (binaryOp op) r)(ha:PE X a ta)(hb:PE X b tb):PE X (.BinOp a op b pos) (PY r ta tb):=by
 sleep 6;exact wpAny_BinOp (Pf ha hb I h λv u s2 x y H2 I2 rx ry q=>ho pins s2 σ H2 x y v u Q I2 rx ry q)
def RM(ho:Ue X (unaryOp op) r)(ha:PE X a ta):PE X (.UnaryOp op a pos) (Vg r ta):=by
 sleep 6;exact UnaryOp_ (bR (ha pins s σ H _ I h) λv s1 z=>by let⟨x,H1,I1,r1,q1⟩:=z;exact ho pins s1 σ H1 x v Q I1 r1 q1)
def TJ{f:Θ->Θ->Sem Θ}{C:Int->Int->Prop}{g:Int->Int->Int}
  (rule:∀ (i j:Int) (t u:Tok) (s:Ξ) (Q:Θ->Ξ->Prop) (E:Θ->Ξ->Prop),C i j->Q (.int (g i j) s.toks) { s with toks:=s.toks+1 }->wpAny (model X.prog X.w) X.A (f (.int i t) (.int j u)) Q E s) :
  gH X f (rI C λi j=>.int (g i j)):=by
 sleep 14;let⟨i,j,rfl,rfl,hc,q⟩:=h;let⟨t,rfl⟩:=rx;let⟨t',rfl⟩:=ry;exact rule i j t t' s _ _ hc ⟨.int (g i j),H,I.tok _,⟨_,rfl⟩,q⟩
def Re{f:Θ->Θ->Sem Θ}{g:Int->Int->Int}
  (rule:∀ (i j:Int) (t u:Tok) (s:Ξ) (Q:Θ->Ξ->Prop) (E:Θ->Ξ->Prop),Q (.int (g i j) s.toks) { s with toks:=s.toks+1 }->wpAny (model X.prog X.w) X.A (f (.int i t) (.int j u)) Q E s) :
  gH X f (I0 λi j=>.int (g i j)):=by
 sleep 14;let⟨i,j,rfl,rfl,q⟩:=h;let⟨t,rfl⟩:=rx;let⟨t',rfl⟩:=ry;exact rule i j t t' s _ _ ⟨.int (g i j),H,I.tok _,⟨_,rfl⟩,q⟩
def PP{f:Θ->Θ->Sem Θ}{g:Int->Int->θ}
  (rule:∀ (i j:Int) (t u:Tok) (s:Ξ) (Q:Θ->Ξ->Prop) (E:Θ->Ξ->Prop),Q (.bool (g i j)) s->wpAny (model X.prog X.w) X.A (f (.int i t) (.int j u)) Q E s) :
  gH X f (I0 λi j=>.bl (g i j)):=by
 sleep 14;let⟨i,j,rfl,rfl,q⟩:=h;let⟨t,rfl⟩:=rx;let⟨t',rfl⟩:=ry;exact rule i j t t' s _ _ ⟨.bl (g i j),H,I,rfl,q⟩
def Jy(i j:Int):Prop:=0 < j/\j < 1073741824
def tx(i j:Int):Prop:=(-(2 ^ 64) < i/\i < 2 ^ 64)\/(-(2 ^ 64) < j/\j < 2 ^ 64)
def tx.ok(h:tx i j):IntMulOk i j:=by
 rcases h with ⟨h1,h2⟩|⟨h1,h2⟩
 ·exact .of_left (intBits_le_64 h1 h2)
 ·exact .of_right (intBits_le_64 h1 h2)
def N2:gH X (binaryOp .Add) (I0 λi j=>.int (i+j)):=Re λ_ _ _ _ _ _ _ q=>add_int q
def MK:gH X (binaryOp .Sub) (I0 λi j=>.int (i - j)):=Re λ_ _ _ _ _ _ _ q=>sub_int q
def MD:gH X (binaryOp .Mult) (rI tx λi j=>.int (i * j)):=TJ λ_ _ _ _ _ _ _ hc q=>mul_int q hc.ok
def Lk:gH X (binaryOp .FloorDiv) (rI Jy λi j=>.int (i / j)):=TJ λi j _ _ _ _ _ hc q=>by
 have h1:(0:Int) < j:=hc.1;have h2:j < 1073741824:=hc.2;exact floordiv_int (by lia) (by rw[Int.fdiv_eq_ediv_of_nonneg i (by lia)];exact q) (.inl (PyProof.noPylong_small (by lia)))
def MY:gH X (binaryOp .Mod) (rI (λ_ j=>0 < j) λi j=>.int (i % j)):=TJ λi j _ _ _ _ _ hc q=>by
 have h1:(0:Int) < j:=hc;exact mod_int' (by lia) (by rw[Int.fmod_eq_emod_of_nonneg i (by lia)];exact q)
def UK{f:Θ->Sem Θ}{g:Int->Int}
  (rule:∀ (i:Int) (t:Tok) (s:Ξ) (Q:Θ->Ξ->Prop) (E:Θ->Ξ->Prop),Q (.int (g i) s.toks) { s with toks:=s.toks+1 }->wpAny (model X.prog X.w) X.A (f (.int i t)) Q E s) :
  Ue X f (rU λi=>.int (g i)):=by
 intro pins s σ H x v Q I rx h;let⟨i,rfl,q⟩:=h;let⟨t,rfl⟩:=rx;exact rule i t s _ _ ⟨.int (g i),H,I.tok _,⟨_,rfl⟩,q⟩
def Nu:Ue X (unaryOp .USub) (rU λi=>.int (-i)):=UK λ_ _ _ _ _ q=>neg_int q
def FU(I:Inv X pins σ H s)(q:Q (.bl k) H)(e:k=k'):EP X pins σ Q (.bool k') s:=by
 subst e;exact⟨.bl k,H,I,rfl,q⟩
def HC:gH X (compareOp .Lt) (I0 λi j=>.bl (decide (i < j))):=PP λ_ _ _ _ _ _ _ q=>lt_int q
def E3:gH X (compareOp .LtE) (I0 λi j=>.bl (decide (i<=j))):=PP λ_ _ _ _ _ _ _ q=>le_int q
def LX:gH X (compareOp .Gt) (I0 λi j=>.bl (decide (j < i))):=PP λ_ _ _ _ _ _ _ q=>gt_int q
def E2:gH X (compareOp .Is) (λx y H Q=>y=.Vs/\Q (.bl (decide (x=.Vs))) H):=by
 sleep 14;let⟨rfl,q⟩:=h;cases ry;refine is_none_gen (FU I q ?_);cases x<;>first
  | (cases rx;rfl)
  | (let⟨t,rfl⟩:=rx;rfl)
def Cp:gH X (compareOp .IsNot) (λx y H Q=>y=.Vs/\Q (.bl (!decide (x=.Vs))) H):=by
 sleep 14;let⟨rfl,q⟩:=h;cases ry;refine isnot_none_gen (FU I q ?_);cases x<;>first
  | (cases rx;rfl)
  | (let⟨t,rfl⟩:=rx;rfl)
def gH.or(h:gH X f r)(h':gH X f r'):gH X f (λx y H Q=>r x y H Q\/r' x y H Q):=by
 intro pins s σ H x y v u Q I rx ry q;rcases q with q|q
 ·exact h pins s σ H x y v u Q I rx ry q
 ·exact h' pins s σ H x y v u Q I rx ry q
def d9(b:γ)(h:op≠.In:=by decide)(h2:op≠.NotIn:=by decide):behindInMarks op b=false:=by
 have e1:(op == CmpOp.In)=false:=by cases op<;>first|rfl|exact absurd rfl h
 have e2:(op == CmpOp.NotIn)=false:=by cases op<;>first|rfl|exact absurd rfl h2
 cases b<;>simp[behindInMarks,e1,e2]
def CV(ho:gH X (compareOp op) r)(ha:PE X a ta)(hb:PE X b tb)(hm:behindInMarks op b=false):PE X (.Compare a [op] [b] pos) (PY r ta tb):=by
 sleep 6;exact wpAny_Compare1 (Pf ha hb I h λv u s2 x y H2 I2 rx ry q=>ho pins s2 σ H2 x y v u Q I2 rx ry q) hm
def L5(t:TE):TT:=λσ H Q=>t σ H λx H'=>∃k,x=.bl k/\Q k H'
def vo(ho:gH X (compareOp op) r)(ha:PE X a ta)(hb:PE X b tb)(hm:behindInMarks op b=false):PT X (.Compare a [op] [b] pos) (L5 (PY r ta tb)):=by
 intro pins s σ H Q I h;refine wpAny_isTrue_Compare1 (bR (ha pins s σ H _ I h) λv s1 ⟨x,H1,I1,r1,q1⟩=>bR (hb pins s1 σ H1 _ I1 q1) λu s2 ⟨y,H2,I2,r2,q2⟩ =>
  bR (ho pins s2 σ H2 x y v u _ I2 r1 r2 q2) λc s3 ⟨z,H3,I3,r3,k,e,q3⟩=>?_) hm
 subst e;cases r3;exact xV ⟨H3,I3,q3⟩
def AD(r r':R2)(ta tb tc:TE):TE:=λσ H Q=>ta σ H λx H1=>tb σ H1 λy H2=>r x y H2 λz H3=>∃k,z=.bl k /\
 (if k=true then tc σ H3 λw' H4=>r' y w' H4 Q else Q (.bl false) H3)
def GY(ho:gH X (compareOp op) r)(W3:gH X (compareOp Yc) r')(ha:PE X a ta)(hb:PE X b tb)(hc:PE X c tc)
  (hm:lastMarks [op,Yc] [b,c]=false:=by with_unfolding_all rfl):PE X (.Compare a [op,Yc] [b,c] pos) (AD r r' ta tb tc):=by
 intro pins s σ H Q I h;refine Compare_chain (bR (ha pins s σ H _ I h) λv s1 ⟨x,H1,I1,r1,q1⟩=>chain_link (bR (hb pins s1 σ H1 _ I1 q1) λu s2 ⟨y,H2,I2,r2,q2⟩ =>
  bR (ho pins s2 σ H2 x y v u _ I2 r1 r2 q2) λd s3 ⟨z,H3,I3,r3,k,e,q3⟩=>?_)) hm
 subst e;cases r3;refine xV ?_;cases k with
 | false=>exact ite_ff ⟨.bl false,H3,I3,rfl,q3⟩
 | true=>exact ite_tt (chain_last (bR (hc pins s3 σ H3 _ I3 q3) λw' s4 z=>by let⟨z',H4,I4,r4,q4⟩:=z;exact W3 pins s4 σ H4 y z' u w' Q I4 r2 r4 q4))
def Hc(ho:gH X (compareOp op) r)(W3:gH X (compareOp Yc) r')(ha:PE X a ta)(hb:PE X b tb)(hc:PE X c tc)
  (hm:lastMarks [op,Yc] [b,c]=false:=by with_unfolding_all rfl):PT X (.Compare a [op,Yc] [b,c] pos) (L5 (AD r r' ta tb tc)):=by
 intro pins s σ H Q I h;refine isTrue_chain (bR (ha pins s σ H _ I h) λv s1 ⟨x,H1,I1,r1,q1⟩=>test_link (bR (hb pins s1 σ H1 _ I1 q1) λu s2 ⟨y,H2,I2,r2,q2⟩ =>
  bR (ho pins s2 σ H2 x y v u _ I2 r1 r2 q2) λd s3 ⟨z,H3,I3,r3,k,e,q3⟩=>?_)) hm
 subst e;cases r3;refine xV ?_;cases k with
 | false =>
  let⟨k',e',q'⟩:=q3;cases e';exact ite_ff ⟨H3,I3,q'⟩
 | true =>
  refine ite_tt (test_last (bR (hc pins s3 σ H3 _ I3 q3) λw' s4 ⟨z',H4,I4,r4,q4⟩=>bR (W3 pins s4 σ H4 y z' u w' _ I4 r2 r4 q4) λd' s5 z=>?_));let⟨z2,H5,I5,r5,k2,e2,q5⟩:=z;subst e2;cases r5;exact xV ⟨H5,I5,q5⟩
def rW:(sizeLine:Nat) < 2 ^ 63:=by rw[qT];decide
def vals1(r:aI [x] us):∃u,us=[u]/\RelV x u:=by
 cases r with
 | cons r1 r2=>cases r2;exact⟨_,rfl,r1⟩
def vals2(r:aI [x,y] us):∃u w',us=[u,w']/\RelV x u/\RelV y w':=by
 cases r with
 | cons r1 r2 =>
  cases r2 with
  | cons r3 r4=>cases r4;exact⟨_,_,rfl,r1,r3⟩
structure BD(h:Heap)(x dx C:Addr)(mA:Str->Option Value):Prop where
 obj:h.get? x=some (W.instObj C dx)
 ns:h.Ns1 dx mA
 ne:dx≠x
def Ek{h:ι}(n:h.Ns1 dx mA):∃od,h.get? dx=some od/\∀name,W.lookIn name od=some (mA name):=by
 let⟨o,es,ep,ho,hd,hk,_,hm⟩:=n;refine⟨o,ho,λname=>?_⟩;have e:=hm name;unfold nsFind findBy at e;rw[<- Array.find?_toList] at e;unfold W.lookIn;rw[hd];dsimp only;split
 ·rename_i y q;rw[q] at e;exact jB some e
 ·rename_i q;rw[q] at e;have a:es.toList.any (·.refKey)=false:=by
   rw[List.any_eq_false];intro y hy;let⟨z,t,adp⟩:=hk y (Array.mem_toList_iff.mp hy);simp[DictEntry.refKey,adp]
  have a':¬ es.toList.any (·.refKey)=true:=by rw[a];exact yY
  rw[yM a'];exact jB some e
def BD.look(I:BD h x dx C mA):∃od,W.InstAt h x (W.instObj C dx) C (some od)/\∀name,W.lookIn name od=some (mA name) :=
 let ⟨od,ho,hl⟩:=Ek I.ns
 ⟨od,⟨I.obj,rfl,rfl,ho⟩,hl⟩
section
variable {K:Φ}
def Jo{expr:θ}(X:K.In s.heap)(I:BD s.heap x dx C mA)(hg:W.plainGet K C name=true)(hh:W.hasDictIn K C=true)
  (ha:W.findIn K (.ref C) name=some none) (hv:mA name=some v) (ZM:W.handedIn v=true) (h:Q v { s with toks:=s.toks+1 }) :
  wpAny (model prog w) A (getAttr (.ref x) name expr) Q E s:=by
 let⟨od,J,hl⟩:=I.look;exact W.get_value X J (W.plainGet_of hg).1 (W.findObj_own hh ha rfl (by rw[hl,hv])) ZM h
def F4(X:K.In s.heap)(I:BD s.heap x dx C mA)(hg:W.plainGet K C name=true)
  (hf:W.findIn K (.ref C) name=some (some (.ref f))) (ht:W.isFn K (.ref f)=true) (hv:mA name=none) (h:Q (.ref f,[.ref x]) s) :
  wpAny (model prog w) A (getMethod (.ref x) name pl) Q E s:=by
 let⟨od,J,hl⟩:=I.look;exact W.method_fn X J (W.plainGet_of hg).1 (W.plainGet_of hg).2 hf (beq_iff_eq.mp ht) (by show (W.lookIn name od).map (·.isSome)=some false;rw[hl,hv];rfl) h
def CM(X:K.In s.heap)(I:BD s.heap x dx C mA)
  (hs:W.findIn K (.ref C) "__setattr__"=some (some (.builtin "object.__setattr__"))) (hp:W.plainOver K C=true) (ht:W.takerIn K C name=some none) (hh:W.hasDictIn K C=true)
  (hw:PySem.Within mA ns) (hsz:ns.length<=sizeLine)
  (h:∀h',BD h' x dx C (λy=>if y=name then some v else mA y)->Heap.SameBut dx s.heap h'->Q () { s with heap:=h',toks:=s.toks+2 }) :
  wpAny (model prog w) A (setAttr (.ref x) name v) Q E s:=by
 let⟨od,J,hl⟩:=I.look;refine W.set_plain X J hs (W.osa_open (s:={ s with toks:=s.toks+1 }) (r:=none) X J hp ht λb=>?_);let⟨cd,hc,Xg⟩:=W.any_some hh;have hx:s.heap.get? x=some ⟨.ref C,some dx,.plain,#[]⟩:=I.obj;refine zV (zW (zV (zV (wpAny_loadPart hx (zV (W.Looks.here (s:={ s with toks:=s.toks+1 }) (W.looks_clsIn X hc) ?_))))));rw[Xg];refine zW (a:=some dx) (zV (zW (zV ?_)));refine wpAny_nsSet1 (s:={ s with toks:=s.toks+1 }) I.ns λh' hn2 WV=>?_;let⟨oD,esD,epD,Y7,hdD,hcD⟩:=hn2.count (PySem.Within.cons name v hw);refine zV (wpAny_lookBehind Y7 (by rw[hdD];exact pastItsLine_dict (yD hcD (by rw[zL];lia))) ?_);exact zW (h _ ⟨(WV.2 _ (jL I.ne)).trans I.obj,hn2,I.ne⟩ WV)
def HR(X:K.In s.heap)(hm:W.makesIn K C=true)
  (hi:W.findIn K (.ref C) "__init__"=some (some (.ref f))) (hf:W.typeIn K (.ref f)=some (.type "function"))
  (h:codeAny (model prog w) (A.under (.builtin "type.__call__" ⟨.ref C::vs,kw⟩)) (.call (.ref f) ⟨.ref (s.heap.objs.size+1)::vs,kw⟩) (W.InitBack (s.heap.objs.size+1) R)
   { s with heap:=(s.heap.push W.emptyDict).push (W.instObj C s.heap.objs.size) }) :
  codeAny (model prog w) A (.call (.ref C) ⟨vs,kw⟩) R s:=by
 let⟨hh,g,d,t,os⟩:=s;exact W.make_core (W.makes_of X hm) (W.looks_findIn X hi) (λself=>W.bind_fn X self hf) (.inl rfl) h
end
def eu(f:Str)(v:V):Γ (Str×V)->Γ (Str×V)
 | []=>[(f,v)]
 | (g,x)::r=>if g=f then (g,v)::r else (g,x)::eu f v r
def pb(f g:Str)(v:V):∀fs:Γ (Str×V),(eu f v fs).lookup g=if g=f then some v else fs.lookup g
 | []=>by
  show List.lookup g [(f,v)]=_;by_cases h:g=f
  ·have hb:(g == f)=true:=beq_iff_eq.mpr h;simp?[List.lookup,hb,yK h]
  ·have hb:(g == f)=false:=beq_eq_false_iff_ne.mpr h;simp?[List.lookup,hb,yM h]
 | (k,x)::r=>by
  have ih:=pb f g v r;rw[show eu f v ((k,x)::r)=(if k=f then (k,v)::r else (k,x)::eu f v r) from rfl];by_cases hk:k=f
  ·rw[yK hk];by_cases h:g=k
   ·have hb:(g == k)=true:=beq_iff_eq.mpr h;simp?[List.lookup,hb,yK (h.trans hk)]
   ·have hb:(g == k)=false:=beq_eq_false_iff_ne.mpr h;simp?[List.lookup,hb,yM (λe:g=f=>h (e.trans hk.symm))]
  ·rw[yM hk];by_cases h:g=k
   ·have hb:(g == k)=true:=beq_iff_eq.mpr h;simp?[List.lookup,hb,yM (λe:g=f=>hk (h.symm.trans e))]
   ·have hb:(g == k)=false:=beq_eq_false_iff_ne.mpr h;simp?[List.lookup,hb];exact ih
def oz(f:Str)(v:V):∀fs:Γ (Str×V),f∈(eu f v fs).map (·.1)/\∀g,g∈fs.map (·.1)->g∈(eu f v fs).map (·.1)
 | []=>⟨by simp[eu],λg h=>by simp at h⟩
 | (k,x)::r=>by
  let⟨i1,i2⟩:=oz f v r;rw[show eu f v ((k,x)::r)=(if k=f then (k,v)::r else (k,x)::eu f v r) from rfl];by_cases hk:k=f
  ·rw[yK hk];subst hk;exact⟨by simp,λg h=>by simpa using h⟩
  ·rw[yM hk];refine⟨?_,λg h=>?_⟩
   ·rw[zI];exact zC _ i1
   ·rw[zI] at h ⊢;rcases List.mem_cons.mp h with e|e
    ·exact List.mem_cons.mpr (.inl e)
    ·exact zC _ (i2 g e)
def pC(f:Str)(v:V):∀fs:Γ (Str×V),(eu f v fs).length<=fs.length+1
 | []=>by simp[eu]
 | (k,x)::r=>by
  have ih:=pC f v r;rw[show eu f v ((k,x)::r)=(if k=f then (k,v)::r else (k,x)::eu f v r) from rfl];by_cases hk:k=f
  ·rw[yK hk,zL,zL];lia
  ·rw[yM hk,zL,zL];lia
def tI.some_of(r:tI (some v) o):∃u,o=some u/\RelV v u:=by
 cases o with
 | none=>exact (show False from r).elim
 | some u=>exact⟨u,rfl,r⟩
def tI.none_of(r:tI none o):o=none:=by
 cases o with
 | none=>rfl
 | some u=>exact (show False from r).elim
def EF(r:RelV v u):W.handedIn u=true:=by
 cases v with
 | Vs=>cases (show u=Value.none from r);rfl
 | bl b=>cases (show u=Value.bool b from r);rfl
 | int i=>let⟨t,e⟩:=(show ∃t,u=Value.int i t from r);cases e;rfl
 | str x=>let⟨t,e⟩:=(show ∃t,u=Value.str x t from r);cases e;rfl
 | byt b=>let⟨t,e⟩:=(show ∃t,u=Value.bytes b t from r);cases e;rfl
 | flt b=>let⟨t,e⟩:=(show ∃t,u=Value.float b t from r);cases e;rfl
 | ref a=>cases (show u=Value.ref a from r);rfl
 | ty n=>cases (show u=Value.type n from r);rfl
def wc(Vx:pS P w H h)(e:H a=some (.ins C dx fs)):∃mA,BD h a dx C mA/\(∀f,tI (fs.lookup f) (mA f))/\PySem.Within mA (fs.map (·.1))/\fs.length<=1000/\H dx=some (.own a):=by
 let⟨d,z,ne,ob,mA,n,r,q⟩:=(show dO P w H h a (.ins C dx fs) from Vx a _ e)
 exact⟨mA,⟨ob,n,ne⟩,r,q,z,d⟩
structure pA(K:W.Frag)(C:Addr):Prop where
 pg:W.plainGet K C Str.empty=true
 hd:W.hasDictIn K C=true
 po:W.plainOver K C=true
 sa:W.findIn K (.ref C) "__setattr__"=some (some (.builtin "object.__setattr__"))
def pA.get{K:Φ}(c:pA K C)(f:Str):W.plainGet K C f=true:=c.pg
def bH(K:Φ)(C:Ψ)(f:Str):Prop:=W.findIn K (.ref C) f=some none
def bH.aaM{K:Φ}(n:bH K C f):W.takerIn K C f=some none:=by
 unfold W.takerIn;rw[show W.findIn K (.ref C) f=some none from n];rfl
structure pP(K:W.Frag)(C:Addr)(m:Str)(f:Addr):Prop where
 at_:W.findIn K (.ref C) m=some (some (.ref f))
 fn:W.isFn K (.ref f)=true
 kp:W.keepIn K (.ref f)=true
def Bm(I:Inv X pins σ H s)(e:H a=some (.ins C dx fs))(c:pA X.K C)(n:bH X.K C f)(l:fs.lookup f=some v)
  (h:∀u s',Inv X pins σ H s'->RelV v u->Q u s'):wpAny (model X.prog X.w) A (getAttr (.ref a) f b) Q E s:=by
 let⟨mA,O,r,_,_,_⟩:=wc I.Vx e;let⟨u,hu,ru⟩:=tI.some_of (v:=v) (o:=mA f) (by rw[<- l];exact r f);exact Jo I.WN O (c.get f) c.hd n hu (EF ru) (h u _ (I.tok _) ru)
def rh(I:Inv X pins σ H s)(e:H a=some (.ins C dx fs))(c:pA X.K C)(k:pP X.K C m g)(l:fs.lookup m=none)
  (h:Q (.ref g,[.ref a]) s):wpAny (model X.prog X.w) A (getMethod (.ref a) m pl) Q E s:=by
 let⟨mA,O,r,_,_,_⟩:=wc I.Vx e;have hn:mA m=none:=tI.none_of (by rw[<- l];exact r m);exact F4 I.WN O (c.get m) k.at_ k.fn hn h
def Ba(I:Inv X pins σ H s)(e:H a=some (.ins C dx fs))(c:pA X.K C)(n:bH X.K C f)(hl:fs.length < 1000)(ry:RelV y u)
  (h:∀s',Inv X pins σ (upd H a (.ins C dx (eu f y fs))) s'->Q () s'):wpAny (model X.prog X.w) A (setAttr (.ref a) f u) Q E s:=by
 let⟨mA,O,r,wi,_,ho⟩:=wc I.Vx e;have hz:(fs.map (·.1)).length<=sizeLine:=by rw[zD,qT];lia
 refine CM I.WN O c.sa c.po n.aaM c.hd wi hz λh' O' sb=>h _ ?_;have hd:∃o,h'.get? dx=some o:=let ⟨o,_,_,e',_⟩:=O'.ns;⟨o,e'⟩;refine I.write (x:=a) (e:=dx) (by rw[e];exact True.intro) (.inr ho) (λb q hb z=>(sb.2 b hb).trans z) hd ?_;refine⟨by rw[ak O.ne];exact ho,?_,O.ne,O'.obj,_,O'.ns,λg=>?_,λg hg=>?_⟩
 ·have:=pC f y fs;lia
 ·show tI ((eu f y fs).lookup g) (if g=f then some u else mA g);rw[pb];by_cases q:g=f
  ·rw[yK q,yK q];exact ry
  ·rw[yM q,yM q];exact r g
 ·by_cases q:g=f
  ·rw[q];exact (oz f y fs).1
  ·refine (oz f y fs).2 g (wi g λz=>hg ?_);show (if g=f then some u else mA g)=none;rw[yM q];exact z
def Inv.made(I:Inv X pins σ H s):Inv X pins σ (upd (upd H s.heap.objs.size (.own (s.heap.objs.size+1))) (s.heap.objs.size+1) (.ins C s.heap.objs.size []))
  { s with heap:=(s.heap.push W.emptyDict).push (W.instObj C s.heap.objs.size) }:=by
 have e1:(s.heap.push W.emptyDict).get? s.heap.objs.size=some W.emptyDict:=zX s.heap rfl;have e2:((s.heap.push W.emptyDict).push (W.instObj C s.heap.objs.size)).get? (s.heap.objs.size+1)=some (W.instObj C s.heap.objs.size):=by
  have:=zX (s.heap.push W.emptyDict) (o:=W.instObj C s.heap.objs.size) rfl
  rwa [xI] at this
 have e3:(s.heap.push W.emptyDict).Ns s.heap.objs.size (λ_=>none):=⟨W.emptyDict,#[],_,e1,rfl,(λe he=>absurd he (by simp)),λ_=>rfl⟩
 have I1:=I.laid (a:=s.heap.objs.size) (o:=.own (s.heap.objs.size+1)) (h':=s.heap.push W.emptyDict) (t':=s.toks) (λb u q=>zU _ q) (yL _) ⟨_,e1⟩;refine I1.laid (a:=s.heap.objs.size+1) (o:=.ins C s.heap.objs.size []) (t':=s.toks) (λb u q=>zU _ q) (Nat.le_of_eq (xI _ _)) ?_;have ne:s.heap.objs.size≠s.heap.objs.size+1:=yQ (kJ _);refine⟨by rw[ak ne,aw],xU _,ne,e2,λ_=>none,(Heap.Ns1.of_empty e3).at λo q=>zU _ q,λ_=>True.intro,λy hy=>absurd rfl hy⟩
def Lb{env:Env}(hb:attributeBase e f env (eval e env)=eval e env)
  (h:wpAny (model prog w) A (eval e env) (λo Vw=>wpAny (model prog w) A (getAttr o f true) Q E Vw) E s):wpAny (model prog w) A (eval (.Attribute e f pos) env) Q E s :=
 Attribute_any_ h (by rw[arm_eval_Attribute,hb])
def Du(K:Φ)(ta:TE)(f:Str):TE:=λσ H Q=>ta σ H λx H1=>∃a C dx fs v,x=.ref a/\H1 a=some (.ins C dx fs)/\pA K C/\bH K C f/\fs.lookup f=some v/\Q v H1
def M4(K:Φ)(ta tv:TE)(f:Str):TS:=λD σ H=>tv σ H λy H1=>ta σ H1 λx H2=>∃a C dx fs,x=.ref a/\H2 a=some (.ins C dx fs)/\pA K C/\bH K C f/\fs.length < 1000 /\
 D.nx σ (upd H2 a (.ins C dx (eu f y fs)))
def kb(he:PE X e ta)(hb:attributeBase e f X.env (eval e X.env)=eval e X.env):PE X (.Attribute e f pos) (Du X.K ta f):=by
 sleep 6;refine Lb hb (bR (he pins s σ H _ I h) λu s1 z=>?_);let⟨x,H1,I1,rx,a,C,dx,fs,v,ex,ea,c,n,l,q⟩:=z;subst ex;obtain rfl:u=Value.ref a:=rx;exact Bm I1 ea c n l λu' s2 I2 ru=>⟨v,H1,I2,ru,q⟩
def Ay(ha:PE X o ta)(hv:PE X value tv)(hs:swapsWith value (some (.Attribute o f pos')) pos.line X.env=pure false):PS X (.Assign [.Attribute o f pos'] value pos) (M4 X.K ta tv f):=by
 intro pins s σ H D I h;refine plainObj_wpAny_Assign_Attribute (bR (hv pins s σ H _ I h) λu s1 ⟨y,H1,I1,ry,q⟩=>bR (ha pins s1 σ H1 _ I1 q) λov s2 z=>?_) hs;let⟨x,H2,I2,rx,a,C,dx,fs,ex,ea,c,n,l,q2⟩:=z;subst ex;obtain rfl:ov=Value.ref a:=rx;exact Ba I2 ea c n l ry λs3 I3=>⟨σ,_,I3,q2⟩
structure cJ(k:Nat)(A:Around):Prop where
 hd:A.handled=none
 dp:A.depth+3 * k+5 < recursionLimit
 un:A.units+16 * k+200 < cLine
def cJ.mono(r:cJ k A)(h:j<=k):cJ j A:=⟨r.hd,by have:=r.dp;lia,by have:=r.un;lia⟩
def cJ.deeper(r:cJ (k+1) A)(env:Env):cJ k (A.deeper env) :=
 ⟨r.hd,by have:=r.dp;show A.depth+1+3 * k+5 < _;lia,by have:=r.un;show A.units+3+16 * k+200 < _;lia⟩
def cJ.in1(r:cJ (k+1) A):cJ k A.in1 :=
 ⟨r.hd,by have:=r.dp;show A.depth+3 * k+5 < _;lia,by have:=r.un;show A.units+1+16 * k+200 < _;lia⟩
def BH{A:ξ}{us:Γ Θ}:(A.under (.builtin "type.__call__" ⟨.ref C::us,kw⟩)).depth=A.depth+1:=by
 first|rfl|simp[Around.under,Code.weight,Code.isCreation,Code.isGuard,Code.isCaller,Code.frames,Code.isFrame,guardIds]
def Bx{A:ξ}{us:Γ Θ}:(A.under (.builtin "type.__call__" ⟨.ref C::us,kw⟩)).units=A.units+1:=by
 first|rfl|simp[Around.under,Code.cUnits,Code.frames,Code.isFrame]
def cJ.make(r:cJ (k+1) A)(C:Ψ)(us:Γ Θ)(kw:Γ (Str×Θ)):cJ k (A.under (.builtin "type.__call__" ⟨.ref C::us,kw⟩)) :=
 ⟨r.hd,by have:=r.dp;rw[BH];lia,by have:=r.un;rw[Bx];lia⟩
def cJ.depth(r:cJ k A):A.depth < recursionLimit:=by have:=r.dp;lia
def cJ.units(r:cJ k A):A.units+64 < cLine:=by have:=r.un;lia
def DZ:TA:=λ_ H Q=>Q [] H
def rR(ta:TE)(tr:TA):TA:=λσ H Q=>ta σ H λx H1=>tr σ H1 λxs H2=>Q (x::xs) H2
def cF:PA X [] DZ:=λ_ _ _ _ H Q I h=>Calls.spliced_nil ⟨[],H,I,.nil,h⟩
def ba(ha:PE X e te)(hr:PA X es t)(hs:starEach (e::es) X.env=(false,eval e X.env)::starEach es X.env:=by rfl):PA X (e::es) (rR te t):=by
 intro pos pins s σ H Q I h;rw[hs];show wpAny _ _ (spliced ((false,eval e X.env)::backTo pos (starEach es X.env))) _ _ s;refine Calls.spliced_cons (bR (ha pins s σ H _ I h) λu s1 z=>?_);let⟨x,H1,I1,r1,q1⟩:=z;exact bR (hr pos pins s1 σ H1 _ I1 q1) λus s2 z=>by let⟨xs,H2,I2,r2,q2⟩:=z;exact ⟨x::xs,H2,I2,.cons r1 r2,q2⟩
def N5(t:TA):TE:=λσ H Q=>t σ H λxs H1=>xs.length<=sizeLine/\∀p,H1 p=none->Q (.ref p) (upd H1 p (.tup xs))
def SO(t:TA):TE:=λσ H Q=>t σ H λxs H1=>xs.length<=sizeLine/\∀p,H1 p=none->Q (.ref p) (upd H1 p (.lst xs))
def u4{x1}(h:PA X es t):PE X (.Tuple es x1 pos) (N5 t):=by
 intro pins s σ H Q I hq;refine wpAny_Tuple_spliced (bR (h pos pins s σ H _ I hq) λus s1 ⟨xs,H1,I1,r,z,q⟩=>⟨by rw[<- r.length];exact z,?_⟩);have hf:H1 s1.heap.objs.size=none:=I1.Vx.fresh (yL _);refine⟨.ref s1.heap.objs.size,upd H1 s1.heap.objs.size (.tup xs),I1.laid (t':=s1.toks) (λb u e=>zU _ e) (yL _) ?_,rfl,q _ hf⟩;exact⟨z,us,r,⟨_,zX _ rfl,rfl,_,rfl⟩,_,zX _ rfl,rfl⟩
def HS(h:PA X es t):PE X (.List es pos) (SO t):=by
 intro pins s σ H Q I hq;refine wpAny_List_spliced (bR (h pos pins s σ H _ I hq) λus s1 ⟨xs,H1,I1,r,z,q⟩=>⟨by rw[<- r.length];exact z,?_⟩);have hf:H1 s1.heap.objs.size=none:=I1.Vx.fresh (yL _);refine⟨.ref s1.heap.objs.size,upd H1 s1.heap.objs.size (.lst xs),I1.laid (t':=s1.toks) (λb u e=>zU _ e) (yL _) ?_,rfl,q _ hf⟩;exact⟨z,us,0,r,zX _ rfl⟩
abbrev Sp:=Γ V->Hp->VK->XK->Prop
abbrev LL:=Γ Env->Hp->Ξ->XK->Θ->Ξ->Prop
structure AK(P:Program)(w:World)(K:W.Frag)(mg:Str->Option Value)(base:Heap)(A:Around)(outer:List Env)(s:Shared)(H:Hp):Prop where
 frames:A.frames=some outer
 mod:Mod K mg base
 bs:∀b o,base.get? b=some o->s.heap.get? b=some o/\H b=none
 YL:base.objs.size<=s.heap.objs.size
 Wq:s.heap.FunFrames base outer
 ZH:∀b∈FG outer,H b=none
 Vx:pS P w H s.heap
 bare:AllBare s.gens
def CE(outer:Γ Env)(P:ε)(w:δ)(H:Hp)(s:Ξ)(Q:VK)(u:Θ)(s':Ξ):Prop :=
 ∃v H',s'.os=s.os/\AllBare s'.gens/\Un (FG outer) [] H H' s.heap s'.heap/\pS P w H' s'.heap/\RelV v u/\Q v H'
def CR(CX:LL)(outer:Γ Env)(P:ε)(w:δ)(H:Hp)(s:Ξ)(Q:VK)(E:XK)(r:Result)(s':Ξ):Prop :=
 match r with
 | .ok (.ret u)=>CE outer P w H s Q u s'
 | .ok _=>False
 | .error e=>CX outer H s E e s'
structure cY(P:Program)(w:World)(K:W.Frag)(mg:Str->Option Value)(base:Heap)(CX:LL)(k:Nat)(f:Addr)(fd:FuncData)(ps:List Str)(sp:Sp):Prop where
 len:∀vs H Q E,sp vs H Q E->vs.length=ps.length
 run:∀ (A:ξ) (outer:Γ Env) (s:Ξ) (H:Hp) (args:Args) (us:Γ Θ) (vs:Γ V) (Q:VK) (E:XK),cJ k A->AK P w K mg base A outer s H->BindsTo s fd args (ps.zip us)->aI vs us->sp vs H Q E ->
  codeAny (model P w) A (.call (.ref f) args) (CR CX outer P w H s Q E) s
def cY.mono{K:Φ}(F:cY P w K mg base CX j f fd ps sp)(h:j<=k) :
  cY P w K mg base CX k f fd ps sp:=⟨F.len,λA outer s H args us vs Q E hr=>F.run A outer s H args us vs Q E (hr.mono h)⟩
def AK.make{K:Φ}(e:AK P w K mg base A outer s H)(C:Ψ)(us:Γ Θ)(kw:Γ (Str×Θ)) :
  AK P w K mg base (A.under (.builtin "type.__call__" ⟨.ref C::us,kw⟩)) outer s H:=⟨by first|exact e.frames|(simpa [Around.under,Code.envs,Code.isFrame,pushEnvs] using e.frames),e.mod,e.bs,e.YL,e.Wq,e.ZH,e.Vx,e.bare⟩
def Inv.aaN(I:Inv X pins σ H s):AK X.prog X.w X.K X.mg X.base X.A X.stack s H :=
 ⟨I.ok.frames,I.ok.mod,I.bs,yD I.ok.YL I.sz,I.stack,I.WU,I.Vx,I.bare⟩
def Inv.after(I:Inv X pins σ H s)(h:CE X.stack X.prog X.w H s Q u s'):EP X pins σ Q u s':=by
 let⟨v,H',os,bare,un,Vx,r,q⟩:=h;let⟨hh,g,d,t,Vz⟩:=s';obtain rfl:Vz=s.os:=os;exact⟨v,H',I.call (h':=hh) (g':=g) (d':=d) (t':=t) (ch:=[]) un Vx bare (λb z=>absurd z (by simp)),r,q⟩
def QO(sp:Sp)(WR:Γ V)(E:XK)(t:TA):TE:=λσ H Q=>t σ H λvs H1=>sp (vs++WR) H1 Q E
def F3(C:Ψ)(m:Str)(sp:Sp)(WR:Γ V)(E:XK)(ta:TE)(t:TA):TE:=λσ H Q=>ta σ H λx H1=>∃a dx fs,x=.ref a/\H1 a=some (.ins C dx fs)/\fs.lookup m=none /\
 t σ H1 λvs H2=>sp (x::(vs++WR)) H2 Q E
def RD(C:Ψ)(sp:Sp)(WR:Γ V)(E:XK)(t:TA):TE:=λσ H Q=>t σ H λvs H1=>∀x dx,H1 x=none->H1 dx=none->dx≠x ->
 sp (.ref x::(vs++WR)) (upd (upd H1 dx (.own x)) x (.ins C dx [])) (λv H2=>v=.Vs/\Q (.ref x) H2) E
def Binds(K:Φ)(fd:η)(ps:Γ Str)(ds:Γ Θ):Prop :=
 ∀ (s:Ξ) (us:Γ Θ),K.In s.heap->(us++ds).length=ps.length->BindsTo s fd ⟨us,[]⟩ (ps.zip (us++ds))
def Binds.all{K:Φ}(h:∀us:Γ Θ,us.length=ps.length->bindArgs fd ⟨us,[]⟩=pure (ps.zip us)):Binds K fd ps []:=λs us _ hl=>by
 rw[qE] at hl ⊢;exact .of_eq (h us hl)
def mC(CX:LL)(X:Cx)(E:XK):Prop:=∀ (pins:Γ (Ψ×Obj)) (σ:St) (H:Hp) (s:Ξ) (e:Θ) (s':Ξ),Inv X pins σ H s->CX X.stack H s E e s'->X.xe e s'
def BK(F:cY X.prog X.w X.K X.mg X.base CX k f fd ps sp)(hr:cJ k X.A)(hb:Binds X.K fd ps ds)(hd:aI WR ds)(hx:mC CX X E)
  (I:Inv X pins σ H s) (r:aI vs us) (h:sp (vs++WR) H Q E):wpAny (model X.prog X.w) X.A (call (.ref f) us) (EP X pins σ Q) X.xe s:=by
 have r2:aI (vs++WR) (us++ds):=r.append hd;have hl:(us++ds).length=ps.length:=by rw[<- r2.length];exact F.len _ _ _ _ h
 refine wpAny_call (jQ (F.run X.A X.stack s H ⟨us,[]⟩ (us++ds) (vs++WR) Q E hr I.aaN (hb s us I.WN hl) r2 h) λr s' hq=>?_);cases r with
 | error e=>exact hx pins σ H s e s' I hq
 | ok fl =>
  cases fl with
  | ret u=>exact I.after hq
  | next=>exact False.elim hq
  | brk=>exact False.elim hq
  | cont=>exact False.elim hq
def vf(F:cY X.prog X.w X.K X.mg X.base CX k f fd ps sp)(hr:cJ k X.A)(hg:Gl X x)(hm:X.mg x=some (.ref f))(hk:W.keepIn X.K (.ref f)=true)(hb:Binds X.K fd ps ds)(hd:aI WR ds)(hx:mC CX X E)
  (ha:PA X (e::es) t) (Wz:(x == ("__debug__":Str))=false:=by decide) (he:starEach (e::es) X.env=(false,eval e X.env)::starEach es X.env:=by rfl) (V1:(backTo pos (starEach es X.env)).any (·.1)=false:=by rfl) :
  PE X (.Call (.Name x p) (e::es) [] pos) (QO sp WR E t):=by
 sleep 6;refine qX (wZ I hg hm ?_ Wz);refine W.callWith_K (h₀:=X.base) I.ok.mod.ZF hk (bR (ha pos pins s σ H _ I h) λus s1 ⟨vs,H1,I1,r,q⟩=>⟨I1.WN,?_⟩) he V1;exact BK F hr hb hd hx I1 r q
def Ce{pl:Sem θ}(he:PE X o ta)(c:pA X.K C)(hm:pP X.K C m f)(F:cY X.prog X.w X.K X.mg X.base CX k f fd ps sp)(hr:cJ k X.A)(hb:Binds X.K fd ps ds)(hd:aI WR ds)(hx:mC CX X E)(ha:PA X (e::es) t)
  (WQ:starEach (e::es) X.env=(false,eval e X.env)::starEach es X.env:=by rfl) (V1:(backTo pos (starEach es X.env)).any (·.1)=false:=by rfl)
  (ht:eval (.Call (.Attribute o m apos) (e::es) [] pos) X.env=(do
   let ov <- eval o X.env
   standAt apos.atName
   let (f,first) <- holding [ov] (getMethod ov m pl)
   callWith pos f first (backTo pos (starEach (e::es) X.env)) (backToKw pos (keywordEach [] X.env))):=by rfl) :
  PE X (.Call (.Attribute o m apos) (e::es) [] pos) (F3 C m sp WR E ta t):=by
 sleep 6;refine W.methodCall_KW (pl:=pl) (bR (he pins s σ H _ I h) λu s1 z=>?_) ht;let⟨x,H1,I1,rx,a,dx,fs,ex,ea,l,q⟩:=z;subst ex;obtain rfl:u=Value.ref a:=rx;refine rh I1 ea c hm l ?_;refine W.callWith_K (first:=[.ref a]) (h₀:=X.base) I.ok.mod.ZF hm.kp (bR (ha pos pins s1 σ H1 _ I1 q) λus s2 ⟨vs,H2,I2,r,q2⟩=>⟨I2.WN,?_⟩) WQ V1;exact BK (us:=.ref a::us) (vs:=.ref a::vs) F hr hb hd hx I2 (.cons rfl r) q2
def xx(he:PE X o ta)(c:pA X.K C)(hm:pP X.K C m f)(F:cY X.prog X.w X.K X.mg X.base CX k f fd ps sp)(hr:cJ k X.A)(hb:Binds X.K fd ps ds)(hd:aI WR ds)(hx:mC CX X E)
  (ht:eval (.Call (.Attribute o m apos) [] [] pos) X.env=(do
   let ov <- eval o X.env
   standAt apos.atName
   let (f,first) <- holding [ov] (getMethod ov m pl)
   callWith pos f first (backTo pos (starEach [] X.env)) (backToKw pos (keywordEach [] X.env))):=by rfl) :
  PE X (.Call (.Attribute o m apos) [] [] pos) (F3 C m sp WR E ta DZ):=by
 sleep 6;refine W.methodCall_KW (pl:=pl) (bR (he pins s σ H _ I h) λu s1 z=>?_) ht;let⟨x,H1,I1,rx,a,dx,fs,ex,ea,l,q⟩:=z;subst ex;obtain rfl:u=Value.ref a:=rx;refine rh I1 ea c hm l ?_;exact W.callWith_K0 (first:=[.ref a]) I1.WN hm.kp (BK (us:=[.ref a]) (vs:=[.ref a]) F hr hb hd hx I1 (.cons rfl .nil) q)
structure Mk(K:W.Frag)(C f:Addr):Prop where
 makes:W.makesIn K C=true
 init:W.findIn K (.ref C) "__init__"=some (some (.ref f))
 fn:W.isFn K (.ref f)=true
 kp:W.keepIn K (.ref C)=true
def Fc(M:Mk X.K C f)(F:cY X.prog X.w X.K X.mg X.base CX k f fd ps sp)(hr:cJ (k+1) X.A)(hb:Binds X.K fd ps ds)(hd:aI WR ds)
  (hx:mC CX X E) (I:Inv X pins σ H s) (r:aI vs us)
  (h:∀x dx,H x=none->H dx=none->dx≠x->sp (.ref x::(vs++WR)) (upd (upd H dx (.own x)) x (.ins C dx [])) (λv H2=>v=.Vs/\Q (.ref x) H2) E) :
  wpAny (model X.prog X.w) X.A (call (.ref C) us) (EP X pins σ Q) X.xe s:=by
 have hq:=h (s.heap.objs.size+1) s.heap.objs.size (I.Vx.fresh (Nat.le_succ _)) (I.Vx.fresh (yL _)) (yQ (kJ _));have I2:=Inv.made (C:=C) I;have r2:aI (V.ref (s.heap.objs.size+1)::(vs++WR)) (Value.ref (s.heap.objs.size+1)::(us++ds)):=.cons rfl (r.append hd);have hl:(Value.ref (s.heap.objs.size+1)::us++ds).length=ps.length:=by
  have e:=r2.length;rw[F.len _ _ _ _ hq] at e;exact e.symm
 refine wpAny_call (HR (f:=f) I.WN M.makes M.init (beq_iff_eq.mp M.fn) (jQ (F.run _ X.stack _ _ ⟨Value.ref (s.heap.objs.size+1)::us,[]⟩ (Value.ref (s.heap.objs.size+1)::(us++ds)) _ _ E (hr.make C us [])
  (I2.aaN.make C us []) (hb _ (Value.ref (s.heap.objs.size+1)::us) I2.WN hl) r2 hq) λr s' Y8=>?_))
 cases r with
 | error e=>exact hx pins σ _ _ e s' I2 Y8
 | ok fl =>
  cases fl with
  | ret u =>
   let⟨v,H',I3,rv,ev,q3⟩:=I2.after Y8;subst ev;exact⟨rv,⟨V.ref (s.heap.objs.size+1),H',I3,rfl,q3⟩⟩
  | next=>exact False.elim Y8
  | brk=>exact False.elim Y8
  | cont=>exact False.elim Y8
def Kd(M:Mk X.K C f)(F:cY X.prog X.w X.K X.mg X.base CX k f fd ps sp)(hr:cJ (k+1) X.A)(hg:Gl X x)(hm:X.mg x=some (.ref C))(hb:Binds X.K fd ps ds)(hd:aI WR ds)(hx:mC CX X E)
  (ha:PA X (e::es) t) (Wz:(x == ("__debug__":Str))=false:=by decide) (he:starEach (e::es) X.env=(false,eval e X.env)::starEach es X.env:=by rfl) (V1:(backTo pos (starEach es X.env)).any (·.1)=false:=by rfl) :
  PE X (.Call (.Name x p) (e::es) [] pos) (RD C sp WR E t):=by
 sleep 6;refine qX (wZ I hg hm ?_ Wz);refine W.callWith_K (h₀:=X.base) I.ok.mod.ZF M.kp (bR (ha pos pins s σ H _ I h) λus s1 ⟨vs,H1,I1,r,q⟩=>⟨I1.WN,?_⟩) he V1;exact Fc M F hr hb hd hx I1 r q
structure bj(N P:List Str)(sc:Scope):Prop where
 kind:sc.kind=.function
 co:sc.isCoroutine=false
 gen:sc.isGenerator=false
 nd:N.Nodup
 pre:N.take P.length=P
 par:∀x∈P,sc.names.lookup x=some .local \/ sc.names.lookup x=some .cell
 ZN:∀y∈sc.names,y.2≠.free
def um{kindOf:Str->Δ NameKind}:∀ {binds:Γ (Str×Θ)}{m:Str->Δ Θ},(∀v,(x,v)∉binds)->bindL kindOf binds m x=m x
 | [],_,_=>rfl
 | (n,v)::r,m,h=>by
  unfold bindL;rw[um λw hw=>h w (zC _ hw)];split
  ·have:x≠n:=by rintro rfl;exact h v zE
   simp[this]
  ·rfl
def uI{kindOf:Str->Δ NameKind}:∀ {binds:Γ (Str×Θ)}{m:Str->Δ Θ},(∀v,(x,v)∉binds)->bindC kindOf binds m x=m x
 | [],_,_=>rfl
 | (n,v)::r,m,h=>by
  unfold bindC;rw[uI λw hw=>h w (zC _ hw)];split
  ·rfl
  ·have:x≠n:=by rintro rfl;exact h v zE
   simp[this]
def tR{kindOf:Str->Δ NameKind}:∀ {P:Γ Str}{vs:Γ Θ}{i:Nat}{m:Str->Δ Θ},P.Nodup->P[i]?=some x->vs[i]?=some v->kindOf x=some .local ->
  bindL kindOf (P.zip vs) m x=some v
 | [],_,_,_,_,h,_,_=>by simp at h
 | _::_,[],_,_,_,_,h,_=>by simp at h
 | p::P,w::vs,0,m,nd,h1,h2,hk=>by
  simp at h1 h2;subst h1;subst h2;show bindL kindOf ((p,w)::P.zip vs) m p=_;unfold bindL;rw[um λv hv=>(List.nodup_cons.mp nd).1 (vM hv).1,yK hk];simp
 | p::P,w::vs,i+1,m,nd,h1,h2,hk=>by
  show bindL kindOf ((p,w)::P.zip vs) m x=_;unfold bindL;exact tR (i:=i) (List.nodup_cons.mp nd).2 (by simpa using h1) (by simpa using h2) hk
def uG{kindOf:Str->Δ NameKind}:∀ {P:Γ Str}{vs:Γ Θ}{i:Nat}{m:Str->Δ Θ},P.Nodup->P[i]?=some x->vs[i]?=some v->kindOf x≠some .local ->
  bindC kindOf (P.zip vs) m x=some v
 | [],_,_,_,_,h,_,_=>by simp at h
 | _::_,[],_,_,_,_,h,_=>by simp at h
 | p::P,w::vs,0,m,nd,h1,h2,hk=>by
  simp at h1 h2;subst h1;subst h2;show bindC kindOf ((p,w)::P.zip vs) m p=_;unfold bindC;rw[uI λv hv=>(List.nodup_cons.mp nd).1 (vM hv).1,yM hk];simp
 | p::P,w::vs,i+1,m,nd,h1,h2,hk=>by
  show bindC kindOf ((p,w)::P.zip vs) m x=_;unfold bindC;exact uG (i:=i) (List.nodup_cons.mp nd).2 (by simpa using h1) (by simpa using h2) hk
def start(N:Γ Str)(vs:Γ V):St:=vs.map some++List.replicate (N.length - vs.length) none
def tj(CX:LL)(P:ε)(w:δ)(K:Φ)(mg:Str->Δ Θ)(base:ι)(N:Γ Str)(qual:Str)(scope:ζ)(f:Ψ)(cd:Θ)(A:ξ)(outer:Γ Env)(s:Ξ)(H:Hp)(E:XK):Cx where
 prog:=P
 w:=w
 K:=K
 mg:=mg
 base:=base
 A:=A.deeper (envOfC qual scope s.heap.objs.size f cd)
 N:=N
 VM:=s
 H₀:=H
 env:=envOfC qual scope s.heap.objs.size f cd
 outer:=outer
 stack:=envOfC qual scope s.heap.objs.size f cd::outer
 ex:=[]
 calm:=true
 fn:=λ_=>true
 pn:=[]
 xe:=λe s'=>wpAny (model P w) (A.deeper (envOfC qual scope s.heap.objs.size f cd)) (leaving (envOfC qual scope s.heap.objs.size f cd) e) (λ_ Xv=>CX outer H s E e Xv) (λe' Xv=>CX outer H s E e' Xv) s'
def rm{sc:ζ}{n:Nat}(h:sc.names.lookup x=some .cell):∃c,(cellsFrom n sc.names []).lookup x=some c:=by
 have q:=W.cellsFrom_some sc.names n [] (.inl h);exact Option.isSome_iff_exists.mp q
def D9{CX:LL}{K:Φ}{mg:Str->Δ Θ}{ps:Γ Str}{scope:ζ}{cd:Θ}{A:ξ}{outer:Γ Env}{s:Ξ}{E:XK}{us:Γ Θ}{vs:Γ V}
  (S:bj N ps scope) (hd:A.handled=none) (e0:AK P w K mg base A outer s H) (hl:vs.length=ps.length) (r:aI vs us)
  (x:InCallC s s.heap.objs.size (bindL (envOfC qual scope s.heap.objs.size f cd).kindOf (ps.zip us) λ_=>none) (cellsFrom (s.heap.objs.size+1) scope.names []) (bindC (envOfC qual scope s.heap.objs.size f cd).kindOf (ps.zip us) λ_=>none) s1) :
  Inv (tj CX P w K mg base N qual scope f cd A outer s H E) [] (start N vs) H s1:=by
 have V1:ps.length<=N.length:=by have:=jB List.length S.pre;rw[jU] at this;lia
 let⟨h1,tk,rfl,hk⟩:=x.done;have YB:∀b:Ψ,b∉(tj CX P w K mg base N qual scope f cd A outer s H E).ex:=λb z=>absurd (show b∈([]:Γ Ψ) from z) (by simp);refine⟨⟨e0.mod,S.kind,rfl,rfl,yL _,λy z c h1 h2=>?_,λy hy=>?_,λy c _ h=>?_,λ_=>hd,Around.frames_deeper e0.frames,.inr ⟨rfl,rfl⟩,λb z=>absurd z (YB b),e0.bs,e0.YL,λb _ _=>YB b,λb z=>absurd z (YB b),e0.Wq,e0.ZH⟩,
  rfl,e0.bare,Un.kept hk,⟨_,x.toInCall.ns,λi y v h1 h2 h3=>?_⟩,λy c h=>⟨_,x.cell y c h⟩,e0.Vx.fresh (yL _),λy c h=>?_,λp hp=>absurd (show p∈([]:Γ (Ψ×Obj)) from hp) (by simp),e0.Vx.kept hk,?_⟩
 ·exact name_of_addr x.apart (jX h1) (jX h2)
 ·have hy:scope.names.lookup y=some .cell\/scope.names.lookup y=some .free:=hy;rcases hy with hy|hy
  ·exact rm hy
  ·exact absurd rfl (S.ZN _ (jX hy))
 ·exact jR (x.above y c (jX h))
 ·have hi:i < vs.length:=by
   unfold start at h2;by_cases hi:i < vs.length
   ·exact hi
   ·rw[yS (by simpa using hi)] at h2;rw[yW] at h2;split at h2<;>cases h2
  have ha:vs[i]?=some v:=by
   unfold start at h2;rw[yR (by simpa using hi),zO] at h2;cases e:vs[i]? with
   | none=>rw[e] at h2;cases h2
   | some a=>rw[e] at h2;cases h2;rfl
  let⟨u,hu,rv⟩:=r.get ha;have hp:ps[i]?=some y:=by
   rw[<- S.pre,List.getElem?_take_of_lt (by lia)];exact h1
  have ndP:ps.Nodup:=by rw[<- S.pre];exact S.nd.sublist (List.take_sublist _ _)
  refine⟨u,rv,?_⟩;rcases S.par y (qA hp) with k|k
  ·exact .inl ⟨k,tR ndP hp hu k⟩
  ·let⟨c,e⟩:=rm (n:=s.heap.objs.size+1) k;refine .inr ⟨.inl k,c,e,?_⟩;have q:=x.cell y c e;rw[uG ndP hp hu (by show scope.names.lookup y≠_;rw[k];decide)] at q;exact q
 ·exact e0.Vx.fresh (jR (x.above y c (jX h)))
 ·unfold start;show _=N.length;rw[zN,zD,xK];lia
def xi{K:Φ}{kV:Θ}
  {W7:Array (Δ Θ)}{N ps:Γ Str}{sp:Sp}(lk:K.lookup f=some ⟨oc,od,.func (W.fnOf name qual params body scope dV kV doc pm an VT ct),W7⟩) (VF:W.codeIn K VT qual=true) (S:bj N ps scope)
  (len:∀vs H Q E,sp vs H Q E->vs.length=ps.length)
  (aaO:∀ (A:ξ) (outer:Γ Env) (s:Ξ) (H:Hp) (vs:Γ V) (Q:VK) (E:XK),cJ k (A.deeper (envOfC qual scope s.heap.objs.size f VT))->sp vs H Q E ->
   ∃t,uC (tj CX P w K mg base N qual scope f VT A outer s H E) body t/\t { nx:=λ_ H'=>Q .Vs H',rt:=Q } (start N vs) H) :
  cY P w K mg base CX (k+1) f (W.fnOf name qual params body scope dV kV doc pm an VT ct) ps sp:=by
 refine⟨len,λA outer s H args us vs Q E hr e0 hb r hsp=>?_⟩;have hl:=len _ _ _ _ hsp;have KX:K.In s.heap:=e0.mod.ZF.keeps λb o e=>(e0.bs b o e).1;have lim:s.heap.NoLimit:=e0.mod.nolimit.keeps λb o e=>(e0.bs b o e).1;have aaP:∀y∈ps.zip us,scope.names.lookup y.1=some .local \/ (scope.names.lookup y.1=some .cell/\((cellsFrom (s.heap.objs.size+1) scope.names []).lookup y.1).isSome=true):=λz hy=>by
  let⟨n,v⟩:=z
  rcases S.par n (vM hy).1 with q|q
  ·exact .inl q
  ·exact .inr ⟨q,W.cellsFrom_some _ _ _ (.inl q)⟩
 refine codeAny_call_function hr.depth (KX _ _ lk) rfl S.co S.gen rfl (W.codeRec_of KX VF) (hb _ _ _ _ ?_);refine wpAny_newFunctionEnv_cells S.kind aaP λenv he s1 x=>?_;subst he;refine⟨lim.keeps x.toInCall.keep,codeAny_func ?_⟩;let⟨t,ht,hq⟩:=aaO A outer s H vs Q E (hr.deeper _) hsp;have I:Inv (tj CX P w K mg base N qual scope f VT A outer s H E) [] (start N vs) H s1:=D9 S hr.hd e0 hl r x;refine yZ (ht [] s1 (start N vs) H _ I hq) (λfl s' hs=>?_) λe s' hs=>hs;have fin:∀ {σ':St}{H':Hp}{v:V}{u:Θ},Inv (tj CX P w K mg base N qual scope f VT A outer s H E) [] σ' H' s'->RelV v u->Q v H'->CE outer P w H s Q u s' :=
  λ{σ' H' v u} J rv q=>⟨v,H',J.os,J.bare,J.base,J.Vx,rv,q⟩
 cases fl with
 | ret u =>
  let⟨v,σ',H',J,rv,q⟩:=hs;exact fin J rv q
 | next =>
  let⟨σ',H',J,q⟩:=hs;exact fin (v:=V.Vs) (u:=Value.none) J rfl q
 | brk =>
  let⟨_,_,_,q⟩:=hs;exact False.elim q
 | cont =>
  let⟨_,_,_,q⟩:=hs;exact False.elim q
section
variable {id T:String}
def Sx(r:Γ V->Hp->VK->Prop)(t:TA):TE:=λσ H Q=>t σ H λvs H1=>r vs H1 Q
def lg(hc:fN X (.builtin id) r)(hg:Gl X x)(hm:X.mg x=none)(hv:bootBuiltins x=some (.builtin id))(ha:PA X (e::es) t)(hn:x≠"__name__":=by decide)(Wz:(x == ("__debug__":Str))=false:=by decide)
  (he:starEach (e::es) X.env=(false,eval e X.env)::starEach es X.env:=by rfl) (V1:(backTo pos (starEach es X.env)).any (·.1)=false:=by rfl):PE X (.Call (.Name x p) (e::es) [] pos) (Sx r t):=by
 sleep 6;refine qX (i6 I hg hm hv ?_ hn Wz);exact PyProof.Rows.callWith_builtin1 (bR (ha pos pins s σ H _ I h) λus s1 z=>by let⟨vs,H1,I1,r1,q1⟩:=z;exact hc pins s1 σ H1 vs us Q I1 r1 q1) he V1
def oU(hc:fN X (.type T) r)(hg:Gl X x)(hm:X.mg x=none)(hv:bootBuiltins x=some (.type T))(ha:PA X (e::es) t)(hn:x≠"__name__":=by decide)(Wz:(x == ("__debug__":Str))=false:=by decide)
  (he:starEach (e::es) X.env=(false,eval e X.env)::starEach es X.env:=by rfl) (V1:(backTo pos (starEach es X.env)).any (·.1)=false:=by rfl):PE X (.Call (.Name x p) (e::es) [] pos) (Sx r t):=by
 sleep 6;refine qX (i6 I hg hm hv ?_ hn Wz);exact qQ (bR (ha pos pins s σ H _ I h) λus s1 z=>by let⟨vs,H1,I1,r1,q1⟩:=z;exact hc pins s1 σ H1 vs us Q I1 r1 q1) he V1
end
end L2
namespace HT
open PySem PyProof.Rows
def lexLt:Γ Int->Γ Int->θ
 | [],[]=>false
 | [],_::_=>true
 | _::_,[]=>false
 | x::xs,y::ys=>if x=y then lexLt xs ys else decide (x < y)
def eH(x y:Int)(xs ys:Γ Int):lexLt (x::xs) (y::ys)=if x=y then lexLt xs ys else decide (x < y):=rfl
section
open PySem.SeqAt
open PySem.AutoSeq1 (wpAny_loadPart')
open PySem.MeetsSeq PySem.MeetsSeq2 PySem.MeetsSeq3
end
def Ks(ht:IsTup s.heap t vs.toArray)(hb:IsTup s.heap b ws.toArray)(hv:vs≠[])
  (h1:ws=[]->Q (.ref t) s) (h2:ws≠[]->Q (.ref s.heap.objs.size) { s with heap:=s.heap.push { cls:=.type "tuple",data:=.seq (vs++ws).toArray } })
  (hsz:vs.length+ws.length<=sizeLine):wpAny (model prog w) A (binaryOp .Add (.ref t) (.ref b)) Q E s:=by
 let⟨⟨cls,dd,data,sl⟩,ho,hc,n,hd⟩:=id ht;let⟨⟨aaQ,dd2,data2,sl2⟩,X4,XH,n2,hd2⟩:=id hb;simp only at hc hd XH hd2;subst hc hd XH hd2;have e:vs.toArray++ws.toArray=(vs++ws).toArray:=by simp
 by_cases hw:ws=[]
 ·exact wA ⟨_,ho,rfl⟩ ⟨_,X4,rfl⟩ noFill_tuple_add seq_tuple_add vF vA (kY _ _)
   (tuple_addW1 t b vs.toArray ws.toArray n n2 dd dd2 sl sl2 (by simpa using hv) (by simp[hw])) ⟨ho,X4,h1 hw⟩
 ·refine wA ⟨_,ho,rfl⟩ ⟨_,X4,rfl⟩ noFill_tuple_add seq_tuple_add vF vA (kY _ _)
   (tuple_addW2 t b vs.toArray ws.toArray n n2 dd dd2 sl sl2 (by simpa using hv) (by simpa using hw) (by rw[zH,zH];exact hsz)) ⟨ho,X4,?_⟩
  rw[e];exact h2 hw
def dD(n d:Nat):Δ Int->Nat
 | none=>d
 | some v=>if v < 0 then (v+(n:Int)).toNat else min v.toNat n
def yl(n d:Nat):dD n d none=d:=rfl
def Cy(n d k:Nat):dD n d (some (k:Int))=min k n:=by
 show (if (k:Int) < 0 then ((k:Int)+(n:Int)).toNat else min (k:Int).toNat n)=min k n;rw[yM (by lia),yG]
def NK(n d:Nat)(hd:d<=n)(o:Δ Int):dD n d o<=n:=by
 cases o with
 | none=>exact hd
 | some v =>
  show (if v < 0 then (v+(n:Int)).toNat else min v.toNat n)<=n;by_cases hv:v < 0
  ·rw[yK hv];lia
  ·rw[yM hv];exact Nat.min_le_right _ _
def B5(v:Int)(n d:Nat):(if v < 0 then max (v+(n:Int)) 0 else min v (n:Int))=((dD n d (some v):Nat):Int):=by
 show (if v < 0 then max (v+(n:Int)) 0 else min v (n:Int))=(((if v < 0 then (v+(n:Int)).toNat else min v.toNat n):Nat):Int)
 by_cases hv:v < 0
 ·simp?[yK hv];lia
 ·simp?[yM hv];lia
def AJ(lo hi:Δ Int)(n:Nat):Builtin.Slice.sliceAdjust lo hi 1 (n:Int)=(((dD n 0 lo:Nat):Int),((dD n n hi:Nat):Int)):=by
 have h1:¬ ((1:Int) < 0):=by lia
 unfold Builtin.Slice.sliceAdjust;simp?[h1,qN];refine Prod.ext ?_ ?_
 ·cases lo with
  | none=>rfl
  | some v=>exact B5 v n 0
 ·cases hi with
  | none=>rfl
  | some v=>exact B5 v n n
def A8(i j:Nat):Builtin.Slice.slicePlaces (i:Int) (j:Int) 1=j - i:=by
 unfold Builtin.Slice.slicePlaces;have h1:(1:Int) > 0:=by lia
 simp?[h1,xG,Int.ediv_one];split<;>lia
def sF(p:IsPart v o)(h:Q o s):wpAny (model prog w) A (Builtin.Slice.slicePartIndex v) Q E s:=by
 cases p with
 | none=>exact slicePart_none h
 | int i t=>exact slicePart_int h
def iA{vl:Θ}{lo hi:Δ Int}{n:Nat}{Q:Int×Int×Nat->Ξ->Prop}(hs:s.heap.IsSliceOf sl vl vu .none)(pl:IsPart vl lo)(pu:IsPart vu hi)
  (h:Q (((dD n 0 lo:Nat):Int),1,dD n n hi - dD n 0 lo) s):wpAny (model prog w) A (Builtin.Slice.sliceApplied (.ref sl) (pure (n:Int))) Q E s:=by
 let⟨os,ZO,hcs,Yd⟩:=id hs;unfold Builtin.Slice.sliceApplied Builtin.Slice.sliceFields;refine zV (zV (qS ZO Yd (x:=vl) rfl (zV (qS ZO Yd (x:=vu) rfl (zV (qS ZO Yd (x:=.none) rfl (zW ?_)))))));refine zV (slicePart_none ?_);show wpAny _ _ (if ((1:Int) == 0)=true then _ else _) _ _ s;rw[yM (by decide)];refine zV (sF pl (zV (sF pu (zV (zW ?_)))));show wpAny _ _ (match Builtin.Slice.sliceAdjust lo hi 1 (n:Int) with|(lo,hi)=>pure (lo,(1:Int),Builtin.Slice.slicePlaces lo hi 1)) _ _ s;rw[AJ lo hi n];show wpAny _ _ (pure (((dD n 0 lo:Nat):Int),(1:Int),Builtin.Slice.slicePlaces ((dD n 0 lo:Nat):Int) ((dD n n hi:Nat):Int) 1)) _ _ s;rw[A8];exact zW h
def GT(xs:Array Θ)(i k:Nat):((List.range k).filterMap λ(m:Nat)=>xs[((i:Int)+(m:Int) * 1).toNat]?).toArray=((xs.toList.drop i).take k).toArray:=by
 have e:(λ(m:Nat)=>xs[((i:Int)+(m:Int) * 1).toNat]?)=λm=>xs[i+m]?:=by
  funext m;have:((i:Int)+(m:Int) * 1).toNat=i+m:=by lia
  rw[this]
 rw[e];have:=pick_run xs i k;rw[List.filterMap_map] at this;have e2:((λx=>xs[x]?) ∘ λx=>i+x)=λm=>xs[i+m]?:=rfl;rw[e2] at this;rw[this]
def nz{items:Array Θ}{vl:Θ}{lo:Δ Int}(ht:IsTup s.heap t items)(hs:s.heap.IsSliceOf sl vl vu .none)(pl:IsPart vl lo)(pu:IsPart vu hi)
  (hw:¬ (dD items.size 0 lo=0/\dD items.size items.size hi=items.size))
  (h:Q (.ref s.heap.objs.size) { s with heap:=s.heap.push { cls:=.type "tuple",data:=.seq ((items.toList.drop (dD items.size 0 lo)).take (dD items.size items.size hi - dD items.size 0 lo)).toArray } })
  (hsz:items.size<=sizeLine):wpAny (model prog w) A (getItem (.ref t) (.ref sl)) Q E s:=by
 have Xw:sizeOk (.seq ((items.toList.drop (dD items.size 0 lo)).take (dD items.size items.size hi - dD items.size 0 lo)).toArray):=by
  show ((items.toList.drop (dD items.size 0 lo)).take (dD items.size items.size hi - dD items.size 0 lo)).toArray.size<=sizeLine;rw[zH,jU,qG,vV];lia
 have hj:dD items.size items.size hi<=items.size:=NK _ _ (yL _) hi;let⟨os,ZO,hcs,Yd⟩:=id hs;have hTs:s.TypeIs (.ref sl) "slice":=⟨os,ZO,hcs⟩
 unfold getItem
 try with_reducible refine xW ?_
 first|refine zV (zW ?_)|skip
 refine zV (wpAny_sequenceKey ht.typeIs (by decide) ?_);refine zV (qB (name:=Str.ofString "__getitem__") ht.typeIs jE
  (qU jE ht.typeIs entry_tuple_getitem ?_ (args_tuple_getitem _ _)))
 show wpAny _ _ (Builtin.Tuple.tupleItemsOf (.ref t) >>= _) _ _ s;refine zV (tupleItemsOf_ ht ?_);refine zV (vY hTs ?_);rw[yK (by decide)];refine zV (iA hs pl pu ?_);have hno:¬ ((((dD items.size 0 lo:Nat):Int) == 0&&(1:Int) == 1&&(dD items.size items.size hi - dD items.size 0 lo) == items.size)=true):=by
  intro q;rw[zF,zF] at q;have q1:((dD items.size 0 lo:Nat):Int)=0:=eq_of_beq q.1.1;have q2:dD items.size items.size hi - dD items.size 0 lo=items.size:=eq_of_beq q.2;exact hw ⟨by lia,by lia⟩
 show wpAny _ _ (if (((dD items.size 0 lo:Nat):Int) == 0&&(1:Int) == 1&&(dD items.size items.size hi - dD items.size 0 lo) == items.size)=true then _ else _) _ _ s;rw[yM hno,GT]
 first
  | exact zV (m:=Builtin.Tuple.tupleExact _) (qK (zW ⟨_,rfl,zW h⟩) Xw)
  | exact zV (m:=Builtin.Tuple.tupleExact _) (qK (zV (zW (zW ⟨_,rfl,zW h⟩))) Xw)
  | exact zV (zV (m:=Builtin.Tuple.tupleExact _) (qK (zW (zW ⟨_,rfl,zW h⟩)) Xw))
  | exact zV (zV (m:=Builtin.Tuple.tupleExact _) (qK (zW ⟨_,rfl,zW h⟩) Xw))
end HT
namespace L2
open PySem PySem.Spec PyProof.Rows
abbrev TO:=St->Hp->(Δ Int->Hp->Prop)->Prop
def PO(X:Cx)(e:Δ γ)(t:TO):Prop :=
 ∀ (pins:Γ (Ψ×Obj)) (s:Ξ) (σ:St) (H:Hp) (Q:Δ Int->Hp->Prop),Inv X pins σ H s->t σ H Q ->
  wpAny (model X.prog X.w) X.A (evalPart e X.env) (λu s'=>∃o H',Inv X pins σ H' s'/\IsPart u o/\Q o H') X.xe s
def K7:TO:=λ_ H Q=>Q none H
def QQ(t:TE):TO:=λσ H Q=>t σ H λx H1=>∃i,x=.int i/\Q (some i) H1
def intsAre_of:∀ {us:Γ Θ},aI (ns.map V.int) us->IntsAre us ns:=by
 induction ns with
 | nil=>intro us r;rw[yT] at r;cases r;exact .nil
 | cons n ns ih =>
  intro us r;rw[zI] at r;cases r with
  | cons r1 r2 =>
   let⟨t,e⟩:=r1;subst e;exact .cons n t (ih r2)
section
variable {lo hi:Δ γ}
def JZ:PO X none K7:=by
 sleep 6;rw[evalPart_none];exact zW ⟨none,H,I,.none,h⟩
def Kr(h:PE X e te):PO X (some e) (QQ te):=by
 intro pins s σ H Q I hw;rw[evalPart_some];refine bR (h pins s σ H _ I hw) λu s1 z=>?_;let⟨x,H1,I1,r1,q1⟩:=z;let⟨i,rfl,q⟩:=q1;let⟨t,rfl⟩:=r1;exact⟨some i,H1,I1,.int i t,q⟩
def L3(X:Cx)(r:V->Δ Int->Δ Int->Hp->VK->Prop):Prop :=
 ∀ (pins:Γ (Ψ×Obj)) (s:Ξ) (σ:St) (H:Hp) (x:V) (v vl vu:Θ) (lo hi:Δ Int) (sl:Ψ) (Q:VK),Inv X pins σ H s->RelV x v->s.heap.IsSliceOf sl vl vu .none->IsPart vl lo->IsPart vu hi->r x lo hi H Q ->
  ∃T id,typeLookup (.type T) "__getitem__"=pure (some (.builtin id))/\s.TypeIs v T/\wpAny (model X.prog X.w) X.A (getItem v (.ref sl)) (EP X pins σ Q) X.xe s
def L3.or(h:L3 X r)(h':L3 X r'):L3 X (λx lo hi H Q=>r x lo hi H Q\/r' x lo hi H Q):=by
 intro pins s σ H x v vl vu lo hi sl Q I rx hs pl pu q;rcases q with q|q
 ·exact h pins s σ H x v vl vu lo hi sl Q I rx hs pl pu q
 ·exact h' pins s σ H x v vl vu lo hi sl Q I rx hs pl pu q
def Ve(r:V->Δ Int->Δ Int->Hp->VK->Prop)(te:TE)(tl th:TO):TE:=λσ H Q=>te σ H λx H1=>tl σ H1 λl H2=>th σ H2 λu H3=>r x l u H3 Q
def GC(hr:L3 X r)(he:PE X e te)(hl:PO X lo tl)(hu:PO X hi th):PE X (.Subscript e (.Slice lo hi none p2) pos) (Ve r te tl th):=by
 sleep 6;refine Subscript_ (bR (he pins s σ H _ I h) λv s1 z=>?_);let⟨x,H1,I1,r1,q1⟩:=z;refine wpAny_Slice (bR (hl pins s1 σ H1 _ I1 q1) λvl s2 ⟨l,H2,I2,pl,q2⟩=>bR (hu pins s2 σ H2 _ I2 q2) λvu s3 z=>?_);let⟨u,H3,I3,pu,q3⟩:=z;rw[evalPart_none];refine zW ?_;have I4:Inv X pins σ H3 { s3 with heap:=s3.heap.push { cls:=.type "slice",data:=.fields #[vl,vu,.none] } }:=I3.kept (t':=s3.toks) λb ob q=>zU _ q;let⟨T,id,hT,ht,hg⟩:=hr pins { s3 with heap:=s3.heap.push { cls:=.type "slice",data:=.fields #[vl,vu,.none] } } σ H3 x v vl vu l u s3.heap.objs.size Q I4 r1 (Heap.IsSliceOf.new ..) pl pu q3;show wpAny (model X.prog X.w) X.A (subscriptTail e (.Slice lo hi none p2) v (.ref s3.heap.objs.size)) (EP X pins σ Q) X.xe { s3 with heap:=s3.heap.push { cls:=.type "slice",data:=.fields #[vl,vu,.none] } };exact tail_any (ops:=[.ref s3.heap.objs.size,v]) ht hT hg (by with_unfolding_all rfl)
def Jq(xs:Γ V)(lo hi:Δ Int):Γ V:=(xs.drop (HT.dD xs.length 0 lo)).take (HT.dD xs.length xs.length hi - HT.dD xs.length 0 lo)
def xw(xs:Γ V)(lo hi:Δ Int):(Jq xs lo hi).length<=xs.length:=by
 unfold Jq;rw[jU,qG];lia
def TM(K:Φ):V->Δ Int->Δ Int->Hp->VK->Prop:=λx lo hi H Q=>∃a xs,x=.ref a/\gG K H a xs /\
 ¬ (HT.dD xs.length 0 lo=0/\HT.dD xs.length xs.length hi=xs.length)/\∀p,H p=none->Q (.ref p) (upd H p (.tup (Jq xs lo hi)))
def Nw:L3 X (TM X.K):=by
 intro pins s σ H x v vl vu lo hi sl Q I rx hs pl pu h;let⟨a,xs,rfl,hx,hw,q⟩:=h;cases rx;let⟨its,r,ht,hz⟩:=I.tuple hx;have hlen:its.toArray.size=xs.length:=by rw[zH];exact r.length.symm
 refine⟨"tuple",_,PyProof.Rows.slot_tuple_getitem.lookup,ht.typeIs,?_⟩;refine HT.nz ht hs pl pu (by rw[hlen];exact hw) ?_ (by rw[hlen];exact hz);rw[hlen];refine⟨.ref s.heap.objs.size,_,I.laid (t':=s.toks) (o:=.tup (Jq xs lo hi)) (λb ob q=>zU _ q) (yL _) ?_,rfl,q _ (I.Vx.fresh (yL _))⟩;exact⟨yD (xw xs lo hi) hz,_,(r.drop (HT.dD xs.length 0 lo)).take (HT.dD xs.length xs.length hi - HT.dD xs.length 0 lo),qo.new _ _⟩
def QS(K:Φ):R2:=λx y H Q=>∃a b xs ys,x=.ref a/\y=.ref b/\gG K H a xs/\gG K H b ys/\xs≠[]/\xs.length+ys.length<=sizeLine /\
 (ys=[]->Q (.ref a) H)/\(ys≠[]->∀p,H p=none->Q (.ref p) (upd H p (.tup (xs++ys))))
def aI.Wu(r:aI xs us):us=[]↔xs=[]:=by
 cases r with
 | nil=>simp
 | cons _ _=>simp
def JR:gH X (binaryOp .Add) (QS X.K):=by
 sleep 14;let⟨a,b,xs,ys,rfl,rfl,ha,hb,hx,hz,q1,q2⟩:=h;cases rx;cases ry;let⟨its,r1,p1,_⟩:=I.tuple ha;let⟨Wn,r2,p2,_⟩:=I.tuple hb;refine HT.Ks p1 p2 (λz=>hx (r1.Wu.mp z)) (λz=>⟨.ref a,H,I,rfl,q1 (r2.Wu.mp z)⟩) (λz=>?_) (by rw[<- r1.length,<- r2.length];exact hz);refine⟨.ref s.heap.objs.size,_,I.laid (t':=s.toks) (o:=.tup (xs++ys)) (λb ob q=>zU _ q) (yL _) ?_,rfl,q2 (λw=>z (r2.Wu.mpr w)) _ (I.Vx.fresh (yL _))⟩;exact⟨by rw[zN];exact hz,_,r1.append r2,qo.new _ _⟩
end
def J5(n:Nat)(i:Int):Δ Nat:=if 0<=i then (if i < n then some i.toNat else none) else if -(n:Int)<=i then some (i+n).toNat else none
def sV(xs:Γ α)(i:Int):Δ α:=(J5 xs.length i).bind λj=>xs[j]?
def Ci(h:J5 n i=some j):seqIndex? i n=some j/\j < n/\-(n:Int)<=i/\i < n:=by
 unfold J5 at h;by_cases h0:0<=i
 ·rw[yK h0] at h;by_cases h1:i < n
  ·rw[yK h1] at h;have e:i.toNat=j:=xC h;exact⟨by rw[seqIndex_of h0 h1,e],by lia,by lia,h1⟩
  ·rw[yM h1] at h;cases h
 ·rw[yM h0] at h;by_cases h1:-(n:Int)<=i
  ·rw[yK h1] at h;have e:(i+n).toNat=j:=xC h;exact⟨by rw[seqIndex_neg (by lia) h1,e],by lia,h1,by lia⟩
  ·rw[yM h1] at h;cases h
def uY(h:sV xs i=some v):∃j,seqIndex? i xs.length=some j/\xs[j]?=some v/\j < xs.length/\-(xs.length:Int)<=i/\i < xs.length:=by
 unfold sV at h;cases e:J5 xs.length i with
 | none=>rw[e] at h;cases h
 | some j =>
  rw[e] at h;let⟨h1,h2,h3,h4⟩:=Ci e;exact⟨j,h1,h,h2,h3,h4⟩
def wJ{α:Type}{xs:Γ α}{j:Nat}{v:α}(h:xs[j]?=some v):sV xs (j:Int)=some v:=by
 have hj:j < xs.length:=(List.getElem?_eq_some_iff.mp h).1;have e:J5 xs.length (j:Int)=some j:=by
  unfold J5;rw[yK (by lia),yK (by lia)];simp
 unfold sV;rw[e];exact h
def wk(b:γ):Prop:=∀o i,subscripted b false o i=operate [o,i] (getItem o i)
def IG(X:Cx)(r:R2):Prop :=
 ∀ (value slice:γ) (pins:Γ (Ψ×Obj)) (s:Ξ) (σ:St) (H:Hp) (x y:V) (v u:Θ) (Q:VK),Inv X pins σ H s->RelV x v->RelV y u->r x y H Q ->
  subscripted slice false v u=operate [v,u] (getItem v u)->wpAny (model X.prog X.w) X.A (subscriptTail value slice v u) (EP X pins σ Q) X.xe s
def Ug(X:Cx)(id:String)(r:V->Γ V->Hp->VK->Prop):Prop :=
 ∀ (pins:Γ (Ψ×Obj)) (s:Ξ) (σ:St) (H:Hp) (x:V) (xs:Γ V) (v:Θ) (us:Γ Θ) (Q:VK),Inv X pins σ H s->RelV x v->aI xs us->r x xs H Q ->
  wpAny (model X.prog X.w) X.A (call (.builtin id) (v::us)) (EP X pins σ Q) X.xe s
section
def IG.or(h:IG X r)(h':IG X r'):IG X (λx y H Q=>r x y H Q\/r' x y H Q):=by
 intro value slice pins s σ H x y v u Q I rx ry q hs;rcases q with q|q
 ·exact h value slice pins s σ H x y v u Q I rx ry q hs
 ·exact h' value slice pins s σ H x y v u Q I rx ry q hs
def Q4(hr:IG X r)(ha:PE X a ta)(hb:PE X b tb)(hs:wk b):PE X (.Subscript a b pos) (PY r ta tb):=by
 sleep 6;exact Subscript_ (Pf ha hb I h λv u s2 x y H2 I2 rx ry q=>hr a b pins s2 σ H2 x y v u Q I2 rx ry q (hs _ _))
def Rw(K:Φ):R2:=λx y H Q=>∃p xs i v,x=.ref p/\y=.int i/\gc K H p xs/\sV xs i=some v/\Q v H
def Qg(K:Φ):R2:=λx y H Q=>∃p xs i v,x=.ref p/\y=.int i/\gG K H p xs/\sV xs i=some v/\Q v H
def Qn:R2:=λx y H Q=>∃z i c,x=.str z/\y=.int i/\z.length<=sizeLine/\sV z.cps.toList i=some c/\Q (.str ⟨#[c]⟩) H
def J6:IG X (Rw X.K):=by
 intro value slice pins s σ H x y v u Q I rx ry h hs;let⟨p,xs,i,z,rfl,rfl,hq,he,q⟩:=h;cases rx;let⟨t,rfl⟩:=ry;let⟨its,r,pl,hz⟩:=I.list hq;let⟨j,h1,h2,h3,h4,h5⟩:=uY he;let⟨w,ew,ZP⟩:=r.get h2;have hl:=r.length;have hn:=rW;have fin:EP X pins σ Q w s:=⟨z,H,I,ZP,q⟩
 by_cases h0:0<=i
 ·have hj:i.toNat=j:=by
   rw[seqIndex_of h0 h5] at h1;exact xC h1
  exact item_listR pl.isList h0 (by lia) (by rw[hj];simpa using ew) fin hs
 ·have hj:(i+(its.toArray.size:Int)).toNat=j:=by
   rw[seqIndex_neg (by lia) h4] at h1;rw[zH,<- hl];exact xC h1
  exact subscriptTail_builtinR (x:=w) pl.isList.typeIs slot_list_getitem.lookup
   (wpAny_getItem_list_neg (Q:=λr s'=>r=w/\EP X pins σ Q r s') pl.isList (by lia) (by rw[zH]<;>lia) (by lia) (by rw[hj];simpa using ew) ⟨rfl,fin⟩) hs
def wq:IG X (Qg X.K):=by
 intro value slice pins s σ H x y v u Q I rx ry h hs;let⟨p,xs,i,z,rfl,rfl,hq,he,q⟩:=h;cases rx;let⟨t,rfl⟩:=ry;let⟨its,r,pl,hz⟩:=I.tuple hq;let⟨j,h1,h2,h3,h4,h5⟩:=uY he;let⟨w,ew,ZP⟩:=r.get h2;have hl:=r.length;have hn:=rW;have fin:EP X pins σ Q w s:=⟨z,H,I,ZP,q⟩
 exact subscriptTail_builtinR (x:=w) pl.typeIs slot_tuple_getitem.lookup
  (getItem_tuple (j:=j) (Q:=λr s'=>r=w/\EP X pins σ Q r s') pl (by lia) (by lia) (by rw[zH,<- hl];exact h1) (by simpa using ew) ⟨rfl,fin⟩) hs
def N1:IG X Qn:=by
 intro value slice pins s σ H x y v u Q I rx ry h hs;let⟨z,i,c,rfl,rfl,hz,he,q⟩:=h;let⟨t,rfl⟩:=rx;let⟨t',rfl⟩:=ry;let⟨j,h1,h2,h3,h4,h5⟩:=uY he;have hl:z.cps.toList.length=z.length:=by simp[Str.length]
 rw[hl] at h1 h4 h5;have hn:=rW;exact tail_any (typeIs_str s z t) slot_str_getitem.lookup (getItem_str (c:=c) (by
  have e1:decide (i < -(2 ^ 63:Int))=false:=zZ (by lia);have e2:decide (i >= 2 ^ 63)=false:=zZ (by lia);rw[e1,e2,Bool.or_false]) (by rw[h1];simpa using h2) ⟨.str ⟨#[c]⟩,H,I.tok _,⟨_,rfl⟩,q⟩) hs
def UE(K:Φ):R2:=λx y H Q=>Rw K x y H Q\/Qg K x y H Q\/Qn x y H Q
def Pa:IG X (UE X.K):=J6.or (wq.or N1)
def AF(its:Γ Θ)(n j:Nat)(u:Θ):Obj.mapSeq (·.setIfInBounds j u) { cls:=.type "list",data:=.seq its.toArray n }={ cls:=.type "list",data:=.seq (its.set j u).toArray n }:=by
 simp[Obj.mapSeq]
def Inv.lst(I:Inv X pins σ H s)(h:H p=some (.lst xs)) :
  ∃ (its:Γ Θ) (n:Nat),aI xs its/\s.heap.get? p=some { cls:=.type "list",data:=.seq its.toArray n }/\xs.length<=sizeLine:=by
 let⟨z,its,n,r,e⟩:=I.Vx p _ h;exact⟨its,n,r,e,z⟩
def Inv.ZQ{ys:Γ V}{its its':Γ Θ}{n n':Nat}{f:Obj->Obj}(I:Inv X pins σ H s)(h:H p=some (.lst xs))
  (ho:s.heap.get? p=some { cls:=.type "list",data:=.seq its.toArray n }) (hf:f { cls:=.type "list",data:=.seq its.toArray n }={ cls:=.type "list",data:=.seq its'.toArray n' }) (r:aI ys its') (hz:ys.length<=sizeLine) (t:Nat) :
  Inv X pins σ (upd H p (.lst ys)) { s with heap:=s.heap.update p f,toks:=t }:=by
 have e:(s.heap.update p f).get? p=some { cls:=.type "list",data:=.seq its'.toArray n' }:=by
  rw[Heap.get?_update_self f ho (by rw[hf]<;>rfl),hf]
 refine I.write (x:=p) (e:=p) (by rw[h];trivial) (.inl rfl) (λb u hb q=>(xM _ _ (jL hb)).trans q) ⟨_,e⟩ ?_;exact⟨hz,its',n',r,e⟩
def Qx:V->V->V->Hp->(Hp->Prop)->Prop:=λo i v H Q=>∃p xs k j,o=.ref p/\i=.int k/\H p=some (.lst xs)/\J5 xs.length k=some j/\Q (upd H p (.lst (xs.set j v)))
def set_list:OD X Qx:=by
 intro pins s σ H o i v ov iv u Q I ro ri rv h;let⟨p,xs,k,j,rfl,rfl,hp,hj,q⟩:=h;cases ro;let⟨t,rfl⟩:=ri;let⟨its,n,r,ho,hz⟩:=I.lst hp;let⟨h1,h2,h3,h4⟩:=Ci hj;have hl:=r.length;have hn:=rW;have I':Inv X pins σ (upd H p (.lst (xs.set j v))) { s with heap:=s.heap.update p (Obj.mapSeq (·.setIfInBounds j u)) } :=
  I.ZQ hp ho (AF its n j u) (r.set rv j) (by rw[yC];exact hz) s.toks
 by_cases h0:0<=k
 ·have hk:k.toNat=j:=by
   rw[seqIndex_of h0 h4] at h1;exact xC h1
  exact W.ki_setAt ho h0 (by lia) (by rw[zH,<- hl];exact h4) (by rw[hk];exact⟨_,I',q⟩)
 ·have hk:(k+(its.toArray.size:Int)).toNat=j:=by
   rw[seqIndex_neg (by lia) h3] at h1;rw[zH,<- hl];exact xC h1
  exact W.ki_setBack ho (by lia) (by rw[zH,<- hl];exact h3) (by lia) (by rw[hk];exact⟨_,I',q⟩)
def ni:fN X (.builtin "len") (λxs H Q=>∃p ys,xs=[.ref p]/\(gc X.K H p ys\/gG X.K H p ys)/\Q (.int ys.length) H):=by
 sleep 18;let⟨p,ys,rfl,hq,q⟩:=h;let⟨u,rfl,rx⟩:=vals1 r;cases rx;have hn:=rW;rcases hq with hq|hq
 ·let⟨its,r',pl,hz⟩:=I.list hq;have hlen:=r'.length;exact Calls.call_len_list pl.isList (by simp?[zH]<;>lia) ⟨.int ys.length,H,I.tok _,⟨s.toks+1,by rw[zH,hlen]⟩,q⟩
 ·let⟨its,r',pl,hz⟩:=I.tuple hq;have hlen:=r'.length;exact len_tuple pl (by simp?[zH]<;>lia) ⟨.int ys.length,H,I.tok _,⟨s.toks+1,by rw[zH,hlen]⟩,q⟩
def wY:fN X (.type "list") (λxs H Q=>∃p ys,xs=[.ref p]/\(gc X.K H p ys\/gG X.K H p ys)/\∀l,H l=none->Q (.ref l) (upd H l (.lst ys))):=by
 sleep 18;let⟨p,ys,rfl,hq,q⟩:=h;let⟨u,rfl,rx⟩:=vals1 r;cases rx;have fin:∀ (its:Γ Θ),aI ys its->ys.length<=sizeLine->∀ (h':ι) (c':Nat),(∀b o',s.heap.get? b=some o'->h'.get? b=some o') ->
   h'.get? s.heap.objs.size=some { cls:=.type "list",dict:=none,data:=.seq its.toArray c',slots:=#[] }->EP X pins σ Q (.ref s.heap.objs.size) { s with heap:=h' }:=λits r' hz h' c' kp e =>
  ⟨.ref s.heap.objs.size,_,I.laid (t':=s.toks) kp (yL _) (show dO X.prog X.w _ h' _ (.lst ys) from ⟨hz,its,c',r',e⟩),rfl,q _ (I.Vx.fresh (yL _))⟩
 rcases hq with hq|hq
 ·let⟨its,r',pl,hz⟩:=I.list hq;have hlen:=r'.length;let⟨o,ho,hc,n,hd⟩:=pl.isList;exact call_list_seq p (.inl rfl) ho hc hd (λh' c' kp e=>fin its r' hz h' c' kp e) (by simp?[zH]<;>lia)
 ·let⟨its,r',pl,hz⟩:=I.tuple hq;have hlen:=r'.length;let⟨o,ho,hc,n,hd⟩:=pl;exact call_list_seq p (.inr rfl) ho hc hd (λh' c' kp e=>fin its r' hz h' c' kp e) (by simp?[zH]<;>lia)
def tG:fN X (.type "tuple") (λxs H Q=>∃p ys,xs=[.ref p]/\((gc X.K H p ys/\∀l,H l=none->Q (.ref l) (upd H l (.tup ys)))\/(gG X.K H p ys/\Q (.ref p) H))):=by
 sleep 18;let⟨p,ys,rfl,h⟩:=h;let⟨u,rfl,rx⟩:=vals1 r;cases rx;rcases h with ⟨hq,q⟩|⟨hq,q⟩
 ·let⟨its,r',pl,hz⟩:=I.list hq;have hlen:=r'.length;refine call_tuple_list pl.isList (λh' kp=>?_) (by simp?[zH]<;>lia);have I1:Inv X pins σ H { s with heap:=h' }:=I.kept (t':=s.toks) kp;have I2:Inv X pins σ (upd H h'.objs.size (.tup ys)) { s with heap:=h'.push { cls:=.type "tuple",data:=.seq its.toArray } } :=
   I1.laid (t':=s.toks) (λb o e=>zU _ e) (yL _) (show dO X.prog X.w _ _ _ (.tup ys) from ⟨hz,its,r',qo.new _ _⟩)
  exact⟨.ref h'.objs.size,_,I2,rfl,q _ (I1.Vx.fresh (yL _))⟩
 ·let⟨its,r',pl,hz⟩:=I.tuple hq;exact call_tuple_same pl ⟨.ref p,H,I,rfl,q⟩
def T6(K:Φ)(T:String)(x:V)(H:Hp):Prop:=match x with
 | .str _=>T="str"
 | .int _=>T="int"
 | .ref p=>(T="list"/\∃xs,gc K H p xs)\/(T="tuple"/\∃xs,gG K H p xs) \/
   (T="dict"/\((∃VP,H p=some (.dK VP))\/∃VP,H p=some (.dT VP)))\/(T="set"/\∃S n,H p=some (.set S n))
 | _=>False
def FR(I:Inv X pins σ H s)(r:RelV x v)(ty:T6 X.K T x H) :
  s.TypeIs v T/\∀a,v=.ref a->∃ob,s.heap.get? a=some ob/\ob.dict=none:=by
 cases x with
 | str z =>
  let⟨t,rfl⟩:=r;cases (show T="str" from ty);exact⟨typeIs_str s z t,λ_ e=>nomatch e⟩
 | int i =>
  let⟨t,rfl⟩:=r;cases (show T="int" from ty);exact⟨typeIs_int s i t,λ_ e=>nomatch e⟩
 | ref p =>
  cases r;rcases ty with ⟨rfl,xs,hq⟩|⟨rfl,xs,hq⟩|⟨rfl,hk⟩|⟨rfl,S,n,hk⟩
  ·let⟨its,_,pl,_⟩:=I.list hq;refine⟨pl.isList.typeIs,λa e=>?_⟩;cases e;let⟨o,n,e,c,hd,_⟩:=pl;exact⟨o,e,hd⟩
  ·rcases hq with hq|⟨o,its,n,hk,hc,hd,_⟩
   ·let⟨_,_,_,⟨o,e1,e2,_⟩,o2,e3,e4⟩:=hq.ok I.Vx;exact⟨⟨o,e1,e2⟩,λa e=>by cases e;exact⟨o2,e3,e4⟩⟩
   ·exact⟨⟨o,I.WN p o hk,hc⟩,λa e=>by cases e;exact⟨o,I.WN _ o hk,hd⟩⟩
  ·have z:∃o,s.heap.get? p=some o/\o.ExactDict:=by
    rcases hk with ⟨VP,hk⟩|⟨VP,hk⟩
    ·let⟨_,_,_,_,o,_,_,e,ex,_⟩:=I.Vx p _ hk;exact⟨o,e,ex⟩
    ·let⟨_,_,o,_,_,e,ex,_⟩:=I.Vx p _ hk;exact⟨o,e,ex⟩
   let⟨o,e,ex⟩:=z;refine⟨⟨o,e,ex.1⟩,λa e2=>?_⟩;cases e2;exact⟨o,e,ex.2.1⟩
  ·let⟨o,_,_,_,e,ex,_⟩:=I.Vx p _ hk;refine⟨⟨o,e,ex.1⟩,λa e2=>?_⟩;cases e2;exact⟨o,e,ex.2.1⟩
 | _=>exact False.elim ty
def OV(K:Φ)(T:String)(r:V->Γ V->Hp->VK->Prop)(to:TE):TE:=λσ H Q=>to σ H λx H1=>T6 K T x H1/\r x [] H1 Q
def Sh(K:Φ)(T:String)(r:V->Γ V->Hp->VK->Prop)(to:TE)(t:TA):TE:=λσ H Q=>to σ H λx H1=>T6 K T x H1/\t σ H1 λxs H2=>r x xs H2 Q
variable {T id:String}
def Nh(pa:PlainAttrs T)(slot:Slot T name id)(hty:typeOf (.builtin id)=pure (.type "method_descriptor"))(hm:Ug X id r)(ho:PE X o to)
  (Wa:attributeBase o name X.env (eval o X.env)=eval o X.env:=by rfl) (VA:(apos.endLine == Vv.line)=true:=by rfl):PE X (.Call (.Attribute o name apos) [] [] Vv) (OV X.K T r to):=by
 sleep 6;refine wpAny_Call_method0_late Wa VA (bR (ho pins s σ H _ I h) λv s1 z=>?_);let⟨x,H1,I1,r1,ty,q1⟩:=z;let⟨h1,h2⟩:=FR I1 r1 ty;exact⟨T,id,pa,slot,hty,h1,h2,Calls.callWith_builtin rfl (PySem.evalArgs_none (hm pins s1 σ H1 x [] v [] Q I1 r1 .nil q1))⟩
def pK(pa:PlainAttrs T)(slot:Slot T name id)(hty:typeOf (.builtin id)=pure (.type "method_descriptor"))(hm:Ug X id r)(ho:PE X o to)(ha:PA X (e::es) t)
  (Wa:attributeBase o name X.env (eval o X.env)=eval o X.env:=by rfl)
  (V7:((backTo Vv (starEach (e::es) X.env)).all (λx=>!x.1)&&(backToKw Vv (keywordEach [] X.env)).all (λx=>x.1.isSome)
   &&decide ((e::es).length+([]:Γ Keyword).length+(if ([]:Γ Keyword).isEmpty then 0 else 1) < 30))=true:=by rfl)
  (VA:(apos.endLine == Vv.line)=true:=by rfl) (hs:starEach (e::es) X.env=(false,eval e X.env)::starEach es X.env:=by rfl) (ZR:(backTo Vv (starEach es X.env)).any (·.1)=false:=by rfl) :
  PE X (.Call (.Attribute o name apos) (e::es) [] Vv) (Sh X.K T r to t):=by
 sleep 6;refine wpAny_Call_method_late Wa V7 VA rfl (bR (ho pins s σ H _ I h) λv s1 ⟨x,H1,I1,r1,ty,q1⟩=>?_);let⟨h1,h2⟩:=FR I1 r1 ty;refine⟨T,id,pa,slot,hty,h1,h2,?_⟩;have hA:=ha Vv pins s1 σ H1 _ I1 q1;rw[hs] at hA ⊢;refine Calls.callWith_builtin (by show (false||(backTo Vv (starEach es X.env)).any (·.1))=false;rw[ZR]<;>rfl) (Calls.evalArgs_plain ?_);exact bR hA λus s2 z=>by let⟨vs,H2,I2,r2,q2⟩:=z;exact hm pins s2 σ H2 x vs v us Q I2 r1 r2 q2
/- xs.append(e),list.index on a aaT tuple .. are Ug facts of 06m -/
end
def Qd(X:Cx)(id:String)(r:V->Γ V->Hp->VK->Prop):Prop :=
 ∀ (pins:Γ (Ψ×Obj)) (s:Ξ) (σ:St) (H:Hp) (x:V) (xs:Γ V) (v:Θ) (us:Γ Θ) (Q:VK),Inv X pins σ H s->RelV x v->aI xs us->r x xs H Q ->
  wpAny (model X.prog X.w) X.A (call (.builtin id) (v::us)) (EP X pins σ Q) X.xe s
def aI.one(h:aI [x] us):∃u,us=[u]/\RelV x u:=by
 cases h with|cons r t=>cases t;exact⟨_,rfl,r⟩
def aI.two(h:aI [x,y] us):∃u v,us=[u,v]/\RelV x u/\RelV y v:=by
 cases h with|cons r t=>let⟨v,rfl,q⟩:=aI.one t;exact⟨_,_,rfl,r,q⟩
def aI.zero:∀ {us:Γ Θ},aI [] us->us=[]
 | _,.nil=>rfl
def aI.dropLast(h:aI xs us):aI xs.dropLast us.dropLast:=by
 induction h with
 | nil=>exact .nil
 | cons r t ih =>
  cases t with
  | nil=>exact .nil
  | cons q t'=>exact .cons r ih
def aI.rep(h:aI xs us):∀k:Nat,aI (List.replicate k xs).flatten (List.replicate k us).flatten
 | 0=>.nil
 | k+1=>by
  rw[xD,xD,qL,qL];exact aI.append h (aI.rep h k)
def AE(l:Γ α):l.eraseIdx (l.length - 1)=l.dropLast:=by
 induction l with
 | nil=>rfl
 | cons a r ih =>
  cases r with
  | nil=>rfl
  | cons b r =>
   have e:(a::b::r).length - 1=((b::r).length - 1)+1:=by
    have h1:(a::b::r).length=r.length+2:=rfl;have h2:(b::r).length=r.length+1:=rfl;lia
   rw[e,List.eraseIdx_cons_succ,ih]
   all_goals rfl
def foldl_rep(its:Γ Θ):∀ (k:Nat) (acc:Γ Θ),
  List.foldl (λx1 x2=>x1++x2) acc.toArray (List.replicate k its.toArray)=(acc++(List.replicate k its).flatten).toArray
 | 0,acc=>by simp
 | k+1,acc=>by
  have e:acc.toArray++its.toArray=(acc++its).toArray:=by simp
  have e2:(acc++its)++(List.replicate k its).flatten=acc++(List.replicate (k+1) its).flatten:=by
   rw[xD,qL,List.append_assoc]
  rw[<- e2,<- foldl_rep its k (acc++its),<- e,xD,List.foldl_cons]
section
variable {xs ys zs:Γ V}
def Inv.YN{its its':Γ Θ}{n:Nat}{f:Array Θ->Array Θ}{t':Nat}(I:Inv X pins σ H s)(hH:H l=some (.lst xs))
  (e:s.heap.get? l=some { cls:=.type "list",data:=.seq its.toArray n }) (hf:f its.toArray=its'.toArray) (hv:aI ys its') (hz:ys.length<=sizeLine) :
  Inv X pins σ (upd H l (.lst ys)) { s with heap:=s.heap.update l (Obj.mapSeq f),toks:=t' }:=by
 have q:=PySem.IsL.update e f;rw[hf] at q;refine I.write (x:=l) (e:=l) (by rw[hH];exact trivial) (.inl rfl) (λb' u hb hu=>(xM s.heap (Obj.mapSeq f) (jL hb)).trans hu) ⟨_,q⟩ ?_;exact⟨hz,its',_,hv,q⟩
def Inv.ZT{t':Nat}(I:Inv X pins σ H s)(hv:aI ys its)(hz:ys.length<=sizeLine) :
  Inv X pins σ (upd H s.heap.objs.size (.lst ys)) { s with heap:=s.heap.push { cls:=.type "list",data:=.seq its.toArray },toks:=t' } :=
 I.laid (λ_ _ q=>zU _ q) (yL _) ⟨hz,its,0,hv,zX _ rfl⟩
def Inv.fresh(I:Inv X pins σ H s):H s.heap.objs.size=none:=I.Vx.fresh (yL _)
def Inv.Ye(I:Inv X pins σ H s)(hH:H l=some (.lst xs)):xs.length<=sizeLine/\∃ (its:Γ Θ) (n:Nat),aI xs its/\xs.length=its.length/\s.heap.get? l=some { cls:=.type "list",data:=.seq its.toArray n }:=by
 let⟨z,its,n,r,e⟩:=I.Vx l _ hH;exact⟨z,its,n,r,r.length,e⟩
def Hu(h:n<=sizeLine):Builtin.List.listTooLong n=false:=by
 unfold Builtin.List.listTooLong;exact zZ (by lia)
end
def wg:V->Γ V->Hp->VK->Prop:=λx vs H Q=>∃l xs y,x=.ref l/\vs=[y]/\H l=some (.lst xs)/\xs.length < sizeLine/\Q .Vs (upd H l (.lst (xs++[y])))
def iu:Qd X "list.append" wg:=by
 intro pins s σ H x vs v us Q I rx rv h;let⟨l,xs,y,rfl,rfl,hH,hz,q⟩:=h;cases rx;let⟨u,rfl,ru⟩:=rv.one;let⟨z,its,n,r,hl,e⟩:=I.Ye hH;refine qV F.slot_list_append ⟨_,e,rfl⟩ F.entry_list_append (F.args_list_append_2 _ _) (PySem.list_append l its.toArray n u (by rw[zH];lia)) ⟨e,?_⟩;refine⟨.Vs,_,I.YN (its':=its++[u]) hH e (by simp) (r.append (.cons ru .nil)) ?_,rfl,q⟩;rw[zN,xB];lia
def LB:V->Γ V->Hp->VK->Prop:=λx vs H Q=>∃l b xs zs,x=.ref l/\vs=[.ref b]/\H l=some (.lst xs)/\H b=some (.lst zs)/\xs.length+zs.length<=sizeLine/\Q .Vs (upd H l (.lst (xs++zs)))
def DR:Qd X "list.extend" LB:=by
 intro pins s σ H x vs v us Q I rx rv h;let⟨l,b,xs,zs,rfl,rfl,hH,hB,hz,q⟩:=h;cases rx;let⟨u,rfl,ru⟩:=rv.one;cases ru;let⟨z,its,n,r,hl,e⟩:=I.Ye hH;let⟨z2,Wn,n2,r2,hl2,e2⟩:=I.Ye hB;have hsz:its.toArray.size+Wn.toArray.size<=sizeLine:=by rw[zH,zH];lia
 have aaU:¬ (!its.toArray.isEmpty&&Builtin.List.listTooLong (its.toArray.size+Wn.toArray.size))=true:=by
  rw[Hu hsz,Bool.and_false];exact yY
 refine qV F.slot_list_extend ⟨_,e,rfl⟩ F.entry_list_extend (F.args_list_extend_2 _ _)
  (AutoSeq1.list_extend_list_list_0 l its.toArray n b Wn.toArray n2 aaU (by rw[zH];lia) (by lia)) ⟨e,e2,?_⟩
 refine⟨.Vs,_,I.YN (its':=its++Wn) hH e (by simp) (r.append r2) ?_,rfl,q⟩;rw[zN];lia
def Oq:V->Γ V->Hp->VK->Prop:=λx vs H Q=>∃l xs y,x=.ref l/\vs=[]/\H l=some (.lst xs)/\xs[xs.length - 1]?=some y/\Q y (upd H l (.lst xs.dropLast))
def ND:Qd X "list.pop" Oq:=by
 intro pins s σ H x vs v us Q I rx rv h;let⟨l,xs,y,rfl,rfl,hH,hy,q⟩:=h;cases rx;have hus:=rv.zero;subst hus;let⟨z,its,n,r,hl,e⟩:=I.Ye hH;let⟨u,hu,ru⟩:=r.get hy;have hy':its.toArray[its.toArray.size - 1]?=some u:=by
  show its.toArray[its.length - 1]?=some u;rw[<- Array.getElem?_toList,<- hl];exact hu
 refine qV F.slot_list_pop ⟨_,e,rfl⟩ F.entry_list_pop (F.args_list_pop_1 _) (MeetsSeq.list_pop_last l its.toArray n u hy' (by rw[zH];lia)) ⟨e,?_⟩;refine⟨y,_,I.YN (its':=its.dropLast) hH e ?_ r.dropLast ?_,ru,q⟩
 ·show its.toArray.eraseIdxIfInBounds (its.toArray.size - 1)=its.dropLast.toArray;rw[zH,List.eraseIdxIfInBounds_toArray,AE]
 ·rw[List.length_dropLast];lia
def len_rep(xs:Γ α)(k:Nat):(List.replicate k xs).flatten.length=k * xs.length:=by
 induction k with
 | zero=>simp
 | succ k ih=>rw[xD,qL,zN,ih,Nat.succ_mul,Nat.add_comm]
end L2
namespace Att
open PySem PySem.W PySem.Calls PyProof.Rows
variable {n:Nat}
def Ws:∀ (ns:Γ Int) (vs:Γ Θ),WellAll P h vs (ns.map WData.int)->IntsAre vs ns:=by
 intro ns
 induction ns with
 | nil =>
  intro vs w;rw[yT] at w;cases w;exact .nil
 | cons n ns ih =>
  intro vs w;rw[zI] at w;cases w with
  | cons a b =>
   cases a;exact .cons _ _ (ih _ b)
def XI{l:OpenLaw}(hn:l.most=some n){P:Params}{h:ι}{args:Γ WData}{vals:Γ Θ}
  (YO:l.row.toRowW.claim.pre args=true) (Yg:WellAll P h vals args) :
  ∃a vs ns,vals=[Value.ref a]/\args=[WData.list (ns.map WData.int)]/\h.get? a=some { cls:=.type "list",data:=.seq vs.toArray }/\IntsAre vs ns/\ns.length<=n:=by
 have hsh:WShape.hasAll [] args [.list .int]=true:=(pre_splitW YO).1;have hc:l.pre.holds [] { args:=args }=true:=(pre_splitW YO).2;let⟨d,r,rfl,h1,h2⟩:=hasAllW_cons hsh;obtain rfl:=hasAllW_nil h2;let⟨xs,rfl,h3⟩:=hasW_list h1;let⟨ns,rfl⟩:=items_int h3;have hlen:ns.length<=n:=by
  unfold OpenLaw.pre at hc;have h4:(WTm.not (.lt (.lit (.int (n:Int))) (.len (.arg 0)))).holds [] { args:=[.list (ns.map .int)] }=true:=by
   have h4:=(holds_andW hc).1;rw[hn] at h4;exact h4
  have h5:=condW_of h4 (w_not (w_lt w_lit (w_len_list (w_arg rfl))));rw[zD] at h5;refine Nat.le_of_not_lt λq=>?_;have q':(n:Int) < ((ns.length:Nat):Int):=by lia
  first
   | (rw[yA q'] at h5;exact absurd h5 (by decide))
   | (simp at h5;lia)
 cases Yg with
 | cons w1 w2 =>
  cases w2;cases w1 with
  | list ho XJ=>exact⟨_,_,ns,rfl,rfl,ho,Ws ns _ XJ,hlen⟩
def XM(l:OpenLaw)(args:Γ WData):l.row.toRowW.claim.post args (.bool true) args=true :=
 postW_of (r:=l.row.toRowW) (X:=(true == true))
  (show WShape.has [] (.bool true) .bool=true by first|rfl|decide|simp[WShape.has,WShape.arms,WShape.armsAll])
  (show (WTm.eq .res (.lit (.bool true))).value [] { args:=args,res:=some (.bool true),after:=args }=some (.bool (true == true)) from w_eq_bool (w_res rfl) w_lit) rfl
def W8{l:OpenLaw}{q:ε}{loose:Γ Str}{XP:(Str->Δ Θ)->ι->Prop}{YP:δ->ι->Prop}{d:DefRec}
  (hn:l.most=some n) (hdf:d.params.defaults=[])
  (call:∀ (w:δ) (VM Vw:Ξ) (mg mb:Str->Δ Θ) (fa:Ψ) (o:Obj) (pm cd doc:Θ) (a:Ψ) (vs:Γ Θ) (ns:Γ Int),
   Ground q loose [] XP w VM mg mb Vw.heap->YP w Vw.heap ->
   Vw.heap.get? fa=some o->o.data=.func (docDef d.name d.params d.body d.scope pm cd doc)->Vw.heap.CodeRec cd d.name->mg d.name=some (.ref fa) ->
   Vw.heap.get? a=some { cls:=.type "list",data:=.seq vs.toArray }->IntsAre vs ns->ns.length<=n->Vw.gens=#[] ->
   codeAny (model l.prog w) callerA (.call (.ref fa) ⟨[.ref a],[]⟩) (λr s'=>r=.ok (.ret (.bool true))/\OldK Vw.heap s'.heap/\s'.os=Vw.os/\AllBare s'.gens) Vw) :
  WalkO q loose XP YP l.row.toRowW d [] (λf vs=>PySem.call f vs):=by
 intro w VM Vw mg mb G Y fa o pm cd doc dV kV ho hd VF hD hmg hg args vals as YO agI hrd Yg hlo;obtain rfl:dV=.none:=Dflts.none hD hdf;obtain rfl:kV=.none:=Dflts.noKw hD;let⟨a,vs,ns,rfl,rfl,ZU,hints,hlen⟩:=XI hn YO Yg;refine enter_call (jQ (call w VM Vw mg mb fa o pm cd doc a vs ns G Y ho (fd_plain hd) VF hmg ZU hints hlen hg) λr s' hq=>?_);let⟨rfl,h2,h3,h4⟩:=hq;exact⟨.inl ⟨.bool true,.bool true,[],rfl,λ_=>rfl,.bool true,XM l _,λ_=>⟨List.Pairwise.nil,λ_ hm=>(nomatch hm)⟩⟩,h2,h3,h4⟩
section
variable {K:Frag}
end
end Att
namespace L2
open PySem PySem.Spec PyProof.Rows
variable {B:Prop}
def tJ:∀ {vs:Γ Θ}{ns:Γ Int},IntsAre vs ns->aI (ns.map V.int) vs
 | _,_,.nil=>.nil
 | _,_,.cons n t h=>.cons ⟨t,rfl⟩ (tJ h)
abbrev nX:LL:=λ_ _ _ _ _ _=>False
abbrev E0:XK:=λ_ _ _=>False
def pw:mC nX X E0:=λ_ _ _ _ _ _ _ h=>h.elim
structure AI(K:W.Frag)(x qual:Str)(st:Stmt)(f:Addr)(fd:FuncData):Prop where
 ex:∃ (oc:Θ) (od:Δ Ψ) (kV doc pm:Θ) (an:Δ Ψ) (VT ct:Θ) (W7:Array (Δ Θ)),
  fd=W.fnOf x qual (dY st) (aP st) (ah st) .none kV doc pm an VT ct/\K.lookup f=some ⟨oc,od,.func fd,W7⟩/\W.codeIn K VT qual=true
 kp:W.keepIn K (.ref f)=true
section
variable {K:Φ}
def AI.binds{st:Ω}(F:AI K x qual st f fd)
  (h:∀ (kV doc pm:Θ) (an:Δ Ψ) (VT ct:Θ) (us:Γ Θ),us.length=ps.length->bindArgs (W.fnOf x qual (dY st) (aP st) (ah st) .none kV doc pm an VT ct) ⟨us,[]⟩=pure (ps.zip us)):Binds K fd ps []:=by
 sleep 20;exact .all (h kV doc pm an VT ct)
def oS{st:Ω}{kV:Θ}(l:K.lookup f=some ⟨oc,od,.func (W.fnOf x qual (dY st) (aP st) (ah st) .none kV doc pm an VT ct),W7⟩)
  (c:W.codeIn K VT qual=true) (k:W.keepIn K (.ref f)=true):AI K x qual st f (W.fnOf x qual (dY st) (aP st) (ah st) .none kV doc pm an VT ct):=⟨⟨oc,od,kV,doc,pm,an,VT,ct,W7,rfl,l,c⟩,k⟩
end
def pR{A B:Prop}(h:B):if false=true then A else B:=by
 rw[yM yY];exact h
def sj{A B:Prop}(h:A):if true=true then A else B:=by
 rw[yK rfl];exact h
def aB(H H':Hp):Prop:=∀b o,H b=some o->H' b=some o
def aB.refl(H:Hp):aB H H:=λ_ _ h=>h
def aB.trans(a:aB H H1)(b:aB H1 H2):aB H H2:=λc o h=>b c o (a c o h)
def aB.free(e:aB H H')(h:H' l=Option.none):H l=Option.none:=by
 cases q:H l with
 | none=>rfl
 | some o =>
  rw[e l o q] at h;cases h
def aB.seq{K:Φ}(e:aB H H')(h:gc K H a xs):gc K H' a xs:=by
 rcases h with (h|⟨o,h⟩)|h
 ·exact .inl (.inl (e _ _ h))
 ·exact .inl (.inr ⟨o,e _ _ h⟩)
 ·exact .inr h
def b9:∀ (names:Γ (Str×NameKind)) (n:Nat) (acc:Γ (Str×Ψ)),cellsFrom n names acc=cellsFrom n names []++acc
 | [],_,_=>rfl
 | (name,kind)::r,n,acc=>by
  unfold cellsFrom;split
  ·rw[b9 r (n+1) ((name,n)::acc),b9 r (n+1) [(name,n)]];simp
  ·exact b9 r n acc
def jg:∀ {l m:Γ (Str×α)},(l++m).lookup x=some c->l.lookup x=some c\/(l.lookup x=none/\m.lookup x=some c)
 | [],_,h=>.inr ⟨rfl,h⟩
 | (k,v)::r,m,h=>by
  have ih:=@jg α x c r m;rw[xE,yB] at h;rw[yB];cases e:x == k with
  | true=>rw[e] at h;exact .inl h
  | false=>rw[e] at h;exact ih h
def jh:∀ {l m:Γ (Str×α)},l.lookup x=some c->(l++m).lookup x=some c
 | [],_,h=>by cases h
 | (k,v)::r,m,h=>by
  have ih:=@jh α x c r m;rw[yB] at h;rw[xE,yB];cases e:x == k with
  | true=>rw[e] at h;exact h
  | false=>rw[e] at h;exact ih h
def ik:∀ {l m:Γ (Str×α)},l.lookup x=none->(l++m).lookup x=m.lookup x
 | [],_,_=>rfl
 | (k,v)::r,m,h=>by
  have ih:=@ik α x r m;rw[yB] at h;rw[xE,yB];cases e:x == k with
  | true=>rw[e] at h;cases h
  | false=>rw[e] at h;exact ih h
def gF:∀ (names:Γ (Str×NameKind)) (n:Nat) (x:Str) (c:Ψ),(x,c)∈cellsFrom n names []->(x,NameKind.cell)∈names
 | [],_,_,_,h=>by cases h
 | (name,kind)::r,n,x,c,h=>by
  unfold cellsFrom at h;split at h
  ·rename_i hk;rw[b9] at h;rcases List.mem_append.mp h with h|h
   ·exact zC _ (gF r _ x c h)
   ·have:(x,c)=(name,n):=by simpa using h
    cases this;have:kind=.cell:=by simpa using hk
    subst this;exact zE
  ·exact zC _ (gF r n x c h)
def fg(env:Env):Γ (Str×NameKind)->Γ (Str×Ψ)->Γ (Str×Ψ)
 | [],acc=>acc
 | (n,k)::r,acc=>if k == .free then fg env r ((n,(env.cells.lookup n).getD 0)::acc) else fg env r acc
def mh(env:Env):∀ (names:Γ (Str×NameKind)) (acc:Γ (Str×Ψ)),(∀x∈names,x.2=.free->∃c,env.cells.lookup x.1=some c) ->
  (forIn names acc (λ(p:Str×NameKind) (cs:Γ (Str×Ψ))=>(if p.2 == .free then (do let a <- cellOf env p.1;pure (.yield ((p.1,a)::cs))) else pure (.yield cs):Sem (ForInStep (Γ (Str×Ψ))))))=pure (fg env names acc)
 | [],acc,_=>rfl
 | (n,k)::r,acc,h=>by
  rw[List.forIn_cons];have hr:=λx hx=>h x (zC _ hx);unfold fg;by_cases hk:k=.free
  ·let⟨c,hc⟩:=h (n,k) zE hk;subst hk;have e1:cellOf env n=pure c:=by
    have WI:env.cells.lookup n=some c:=hc;unfold cellOf;rw[WI]
   have WI:env.cells.lookup n=some c:=hc;simp?[beq_self_eq_true,xG,e1,pure_bind,WI,qF];exact mh env r _ hr
  ·have hb:(k == NameKind.free)=false:=by simpa using hk
   simp?[hb,yN,qN,pure_bind];exact mh env r _ hr
def mH{env:Env}(h:∀x∈scope.names,x.2=.free->∃c,env.cells.lookup x.1=some c):closureFor scope env=pure (fg env scope.names []):=by
 have:=mh env scope.names [] h;unfold closureFor;exact (bind_pure _).trans this
def lD{env:Env}:∀ {names:Γ (Str×NameKind)}{acc:Γ (Str×Ψ)},(∀x∈names,x.2=.free->∃c,env.cells.lookup x.1=some c)->(∀x c,(x,c)∈acc->env.cells.lookup x=some c) ->
  ∀x c,(x,c)∈fg env names acc->env.cells.lookup x=some c
 | [],acc,_,ha,x,c,hm=>ha x c hm
 | (n,k)::r,acc,h,ha,x,c,hm=>by
  unfold fg at hm;have hr:=λx hx=>h x (zC _ hx);split at hm
  ·rename_i hk;have Yh:k=.free:=by simpa using hk
   let⟨c',hc⟩:=h (n,k) zE Yh;have hc:env.cells.lookup n=some c':=hc;refine lD hr (λy d hy=>?_) x c hm;rcases List.mem_cons.mp hy with e|hy
   ·cases e;rw[hc];rfl
   ·exact ha y d hy
  ·exact lD hr ha x c hm
def gh{env:Env}:∀ {names:Γ (Str×NameKind)}{acc:Γ (Str×Ψ)}{x:Str},(names.lookup x=some .free\/∃c,acc.lookup x=some c)->∃c,(fg env names acc).lookup x=some c
 | [],acc,x,h=>by
  rcases h with h|h
  ·cases h
  ·exact h
 | (n,k)::r,acc,x,h=>by
  unfold fg;split
  ·rename_i hk;refine gh ?_;rcases h with h|⟨c,h⟩
   ·rw[yB] at h;cases e:x == n with
    | true=>exact .inr ⟨_,by rw[yB,e]⟩
    | false=>rw[e] at h;exact .inl h
   ·refine .inr ?_;rw[yB];cases e:x == n with
    | true=>exact⟨_,rfl⟩
    | false=>exact⟨c,h⟩
  ·rename_i hk;refine gh ?_;rcases h with h|h
   ·rw[yB] at h;cases e:x == n with
    | true =>
     rw[e] at h;cases h;exact absurd rfl hk
    | false=>rw[e] at h;exact .inl h
   ·exact .inr h
def nA{env:Env}:∀ {names:Γ (Str×NameKind)}{x:Str}{k:NameKind},names.lookup x=some k ->
  (names.map λ(n,k)=>if (k == NameKind.free&&env.scope.kind == .function&&env.kindOf n == some .cell) then (n,NameKind.cell) else (n,k)).lookup x=some (if (k == NameKind.free&&env.scope.kind == .function&&env.kindOf x == some .cell) then NameKind.cell else k)
 | [],_,_,h=>by cases h
 | (n,k)::r,x,k',h=>by
  have ih:=@nA env r x k';rw[zI];dsimp only;cases hx:x == n with
  | true =>
   have e:x=n:=by simpa using hx
   subst e;rw[yB,hx] at h;cases h;split<;>simp[yB, *]
  | false =>
   rw[yB,hx] at h;have ih:=ih h;split
   ·rw[yB,hx];exact ih
   ·rw[yB,hx];exact ih
def pL{env:Env}:∀ {names:Γ (Str×NameKind)}{x:Str},names.lookup x=none ->
  (names.map λ(n,k)=>if (k == NameKind.free&&env.scope.kind == .function&&env.kindOf n == some .cell) then (n,NameKind.cell) else (n,k)).lookup x=none
 | [],_,h=>rfl
 | (n,k)::r,x,h=>by
  have ih:=@pL env r x;rw[zI];dsimp only;cases hx:x == n with
  | true=>rw[yB,hx] at h;cases h
  | false =>
   rw[yB,hx] at h;split
   ·rw[yB,hx];exact ih h
   ·rw[yB,hx];exact ih h
def fA(X:Cx)(scope:ζ)(C:Ψ):Env :=
 { scope:=relabel scope X.env,locals:=C,globals:=X.env.globals,cells:=cellsFrom (C+1) scope.names (fg X.env scope.names []),qual:=X.env.qual,func:=none,code:=X.env.code,frame:=X.env.frame,builtins:=X.env.builtins }
def aY(X:Cx)(scope:ζ)(N:Γ Str)(fp:Γ Ψ)(s:Ξ)(H:Hp):Cx :=
 { X with N:=N,VM:=s,H₀:=H,env:=fA X scope s.heap.objs.size,outer:=X.stack,ex:=fp,fn:=λx=>decide (scope.names.lookup x=some .cell),pn:=[],xe:=λ_ _=>False }
def AW{M:Model}{A:ξ}{E:Θ->Ξ->Prop}{globals:Ψ}{cl:Γ (Str×Ψ)}{qual:Str}{env:Env}
  (hQ:∀h',h'.Ns s.heap.objs.size (λ_=>none)->(∀b o,s.heap.get? b=some o->h'.get? b=some o)->CellsOk h' (s.heap.objs.size+1) (cellsFrom (s.heap.objs.size+1) scope.names []) ->
   Q { scope:=scope,locals:=s.heap.objs.size,globals:=globals,cells:=cellsFrom (s.heap.objs.size+1) scope.names cl,qual:=qual,func:=none,code:=env.code,frame:=env.frame,builtins:=env.builtins } { s with heap:=h' }) :
  wpAny M A (newFunctionEnv scope globals cl [] qual none .none (some env)) Q E s:=by
 simp?[newFunctionEnv,Option.isSome_some,xG];refine zV (wpAny_alloc ?_);refine zV (wpAny_layCells _ (λname kind cells=>by cases hkc:kind == NameKind.cell<;>simp[hkc]) _ _ _ _ ?_);have ok:=cellsFrom_ok scope.names (s.heap.push { cls:=.type "dict",data:=.dict #[] }) (s.heap.objs.size+1) [] ⟨λ_ _ hm=>(nomatch hm),List.Pairwise.nil⟩ (by rw[xI];exact yL _);rw[xI] at ok;rw[show ({ s with heap:=s.heap.push { cls:=.type "dict",data:=.dict #[] } }:Ξ).heap.objs.size=s.heap.objs.size+1 from xI ..];rw[List.forIn_nil];refine zV (zW (zW ?_));exact hQ _ ((Heap.Ns.new s.heap (.type "dict")).keeps (pushCells_keeps _ _)) (λb o e=>pushCells_keeps _ _ b o (zU _ e)) ok
section
variable {X:Cx}{pins:Γ (Ψ×Obj)}{σ σ':St}{H:Hp}{s:Ξ}{fp:Γ Ψ}{scope:ζ}{N:Γ Str}{h4:ι}
def k9(ok:X.Ok)(Wg:∀x∈scope.names,x.2=.free->X.env.kindOf x.1=some .cell\/X.env.kindOf x.1=some .free):∀x∈scope.names,x.2=.free->∃c,X.env.cells.lookup x.1=some c :=
 λx hx hk=>ok.has x.1 (Wg x hx hk)
def oG(h:scope.names.lookup x=some k):(fA X scope C).kindOf x=some k\/(k=.free/\(fA X scope C).kindOf x=some .cell):=by
 have q:=nA (env:=X.env) h;have q':(fA X scope C).kindOf x=some (if (k == NameKind.free&&X.env.scope.kind == .function&&X.env.kindOf x == some .cell) then NameKind.cell else k):=q;rw[q'];split
 ·rename_i hc;have:k=.free:=by
   simp?[zF,vD] at hc;exact hc.1.1
  exact .inr ⟨this,rfl⟩
 ·exact .inl rfl
def lZ(h:(fA X scope C).kindOf x=some k):scope.names.lookup x=some k\/(k=.cell/\scope.names.lookup x=some .free):=by
 cases e:scope.names.lookup x with
 | none =>
  have q:(fA X scope C).kindOf x=none:=pL (env:=X.env) e;rw[q] at h;cases h
 | some k' =>
  rcases oG (X:=X) (C:=C) e with q|⟨q,q'⟩
  ·rw[q] at h;cases h;exact .inl rfl
  ·rw[q'] at h;cases h;subst q;exact .inr ⟨rfl,rfl⟩
def Fh(I:Inv X pins σ H s)(hf:∀b∈fp,cM X pins H b)(Xx:∀b∈fp,b < s.heap.objs.size)(hk:scope.kind=.function)
  (Wg:∀x∈scope.names,x.2=.free->X.env.kindOf x.1=some .cell\/X.env.kindOf x.1=some .free)
  (YC:h4.Ns s.heap.objs.size (λ_=>none)) (Wh:∀b o,s.heap.get? b=some o->h4.get? b=some o) (X5:CellsOk h4 (s.heap.objs.size+1) (cellsFrom (s.heap.objs.size+1) scope.names []))
  (ZV:∀ {x:Str},(x,NameKind.cell)∈scope.names->(x,NameKind.free)∈scope.names->False) (ZW:∀ (i:Nat) (x:Str) (v:V),N[i]?=some x->σ'[i]?=some (some v)->scope.names.lookup x=some .free/\∃j:Nat,X.N[j]?=some x/\σ[j]?=some (some v)) (hlen:σ'.length=N.length) (t':Nat) :
  Inv (aY X scope N fp s H) [] σ' H { s with heap:=h4,toks:=t' }:=by
 have Xi:=k9 I.ok Wg;have Y9:∀x c,(fg X.env scope.names []).lookup x=some c->X.env.cells.lookup x=some c:=λx c e=>lD Xi (λ_ _ z=>by cases z) x c (mem_of_lookup e);have look:∀x c,(fA X scope s.heap.objs.size).cells.lookup x=some c->(x,c)∈cellsFrom (s.heap.objs.size+1) scope.names []\/X.env.cells.lookup x=some c:=λx c e=>by
  have e:(cellsFrom (s.heap.objs.size+1) scope.names (fg X.env scope.names [])).lookup x=some c:=e;rw[b9] at e;rcases jg e with q|⟨_,q⟩
  ·exact .inl (mem_of_lookup q)
  ·exact .inr (Y9 x c q)
 have old:∀x c,X.env.cells.lookup x=some c->c < s.heap.objs.size:=λx c e=>let ⟨_,q⟩:=I.cell x c e;q.lt;have new:∀x c,(x,c)∈cellsFrom (s.heap.objs.size+1) scope.names []->s.heap.objs.size < c:=λx c e=>(X5.empty x c e).2;refine⟨⟨I.ok.mod,?_,I.ok.glob,I.ok.blt,yL _,?_,?_,?_,I.ok.hd,I.ok.frames,.inl rfl,?_,I.bs,yD I.ok.YL I.sz,?_,?_,I.stack,I.WU⟩,rfl,I.bare,Un.kept Wh,⟨_,YC,?_⟩,?_,I.Vx.fresh (yL _),?_,
  λp hp=>absurd (show p∈([]:Γ (Ψ×Obj)) from hp) (by simp),I.Vx.kept Wh,hlen⟩
 ·show (relabel scope X.env).kind=_;exact hk
 ·intro x y c e1 e2;rcases look x c e1 with a|a<;>rcases look y c e2 with b|b
  ·exact name_of_addr X5.apart a b
  ·exact absurd (wC (new x c a) (old y c b)) (qD _)
  ·exact absurd (wC (new y c b) (old x c a)) (qD _)
  ·exact I.ok.inj x y c a b
 ·intro x hx;show ∃c,(cellsFrom (s.heap.objs.size+1) scope.names (fg X.env scope.names [])).lookup x=some c;refine Option.isSome_iff_exists.mp (W.cellsFrom_some _ _ _ ?_);rcases hx with hx|hx
  ·rcases lZ hx with q|⟨_,q⟩
   ·exact .inl q
   ·exact .inr (Option.isSome_iff_exists.mpr (gh (.inl q)))
  ·rcases lZ hx with q|⟨q,_⟩
   ·exact .inr (Option.isSome_iff_exists.mpr (gh (.inl q)))
   ·cases q
 ·intro x c Yy e;have Yy:scope.names.lookup x=some .cell:=yP Yy;have e:(cellsFrom (s.heap.objs.size+1) scope.names (fg X.env scope.names [])).lookup x=some c:=e;let⟨c',WI⟩:=rm (n:=s.heap.objs.size+1) Yy;rw[b9,jh WI] at e;cases e;exact jR (new x c (mem_of_lookup WI))
 ·intro b hb;refine⟨yQ (Xx b hb),λx c e z=>?_⟩;rcases look x c e with a|a
  ·exact absurd (wC (new x c a) (by rw[z];exact Xx b hb)) (qD _)
  ·exact (hf b hb).2.2.2.2.1 x c a z
 ·intro b o e hb;let⟨f0,f1,f2,f3,f4,f5⟩:=hf b hb;rcases f3 with z|z
  ·exact I.ok.XF b o e z
  ·exact absurd (zP (zY (I.ok.bs b o e).1) z) (qD _)
 ·intro b hb hz;let⟨f0,f1,f2,f3,f4,f5⟩:=hf b hb;rcases List.mem_cons.mp (I.Xh b hz) with z|z
  ·exact f1 z
  ·exact f2 z
 ·intro i x v e1 e2 e3;let⟨ZX,j,hj,hv⟩:=ZW i x v e1 e2;have hm:(x,NameKind.free)∈scope.names:=mem_of_lookup ZX;let⟨m,hn,hl⟩:=I.loc;have kx:=Wg _ hm rfl;let⟨u,ru,lk⟩:=hl j x v hj hv (kx.elim (λk=>.inr (.inl k)) λk=>.inr (.inr k));refine⟨u,ru,.inr ⟨?_,?_⟩⟩
  ·rcases oG (X:=X) (C:=s.heap.objs.size) ZX with q|⟨_,q⟩
   ·exact .inr q
   ·exact .inl q
  ·rcases lk with ⟨k,_⟩|⟨_,c,ec,ic⟩
   ·have k:X.env.kindOf x=some .local:=k;rcases kx with k'|k'<;>· rw[k] at k';cases k'
   ·let⟨c',WI⟩:=gh (env:=X.env) (acc:=[]) (.inl ZX);have e':=Y9 x c' WI;rw[ec] at e';cases e';refine⟨c,?_,ic.keeps Wh⟩;show (cellsFrom (s.heap.objs.size+1) scope.names (fg X.env scope.names [])).lookup x=some c;rw[b9];cases eo:(cellsFrom (s.heap.objs.size+1) scope.names []).lookup x with
    | none=>rw[ik eo];exact WI
    | some d =>
     have hcm:=gF _ _ _ _ (mem_of_lookup eo);exact (ZV hcm hm).elim
 ·intro x c e;rcases look x c e with a|a
  ·exact⟨_,(X5.empty x c a).1⟩
  ·let⟨v,q⟩:=I.cell x c a;exact⟨v,q.keeps Wh⟩
 ·intro x c e;rcases look x c e with a|a
  ·exact I.Vx.fresh (jR (new x c a))
  ·exact I.VR x c a
end
abbrev yq(ifs:Γ γ)(env:Env):Sem θ:=forIn ifs true λc r=>if r=true then do let ok <- isTrue c env (eval c env);pure (ForInStep.yield ok) else pure (ForInStep.yield r)
def P7(X:Cx)(ifs:Γ γ)(t:TT):Prop :=
 ∀ (pins:Γ (Ψ×Obj)) (s:Ξ) (σ:St) (H:Hp) (Q:θ->Hp->Prop),Inv X pins σ H s->t σ H Q->wpAny (model X.prog X.w) X.A (yq ifs X.env) (TP X pins σ Q) X.xe s
def JV:P7 X [] (λ_ H Q=>Q true H):=λ_ _ _ H _ I h=>wpAny_tests_nil ⟨H,I,h⟩
def IT(h:PT X c t):P7 X [c] t:=λpins s σ H Q I q=>wpAny_tests_one (h pins s σ H Q I q)
def vi{R:Result->Ξ->Prop}{elt target iter:γ}{ifs:Γ γ}{scope:ζ}{pos:Pos}{acc:Θ}{env:Env}(I:Nat->Ξ->Prop)
  (turn:∀n s,I n s->wpAny (model prog w) A (pyNext it) (λr Vw=>match r with
   | none=>R (.ok .next) Vw
   | some v=>wpAny (model prog w) A (letOwnedTupleGo target it v) (λ_ Za=>wpAny (model prog w) A (assign target env v) (λ_ YM =>
     wpAny (model prog w) A (yq ifs env) (λok Yi =>
      if ok=true then wpAny (model prog w) A (eval elt env) (λx YQ =>
       wpAny (model prog w) A (call (.builtin "list.append") [acc,x]) (λ_ aaX=>∃m,m < n/\I m aaX) (λ_ _=>False) YQ) (λ_ _=>False) Yi
      else ∃m,m < n/\I m Yi) (λ_ _=>False) YM) (λ_ _=>False) Za) (λ_ _=>False) Vw) (λ_ _=>False) s)
  (n:Nat) (h:I n s) :
  codeAny (model prog w) A (.compLoop (.ListComp elt [⟨target,iter,ifs,0⟩] scope pos) 0 it acc env) R s:=by
 refine codeAny_loop rfl I (λn s hI=>?_) n h;show wpAny _ A ((compTurn (.ListComp elt [⟨target,iter,ifs,0⟩] scope pos) 0 it acc env).onRaise (λx=>do noteFrame x env;theTreesLotGoes x)) _ _ s;refine wpAny_noted ?_;rw[compTurn_list];refine zV (kW (zV (yZ (turn n s hI) (λr Vw aaY=>?_) λ_ _ h'=>h'.elim)));cases r with
 | none=>exact zW aaY
 | some v =>
  refine zV (yZ aaY (λ_ Za aaZ=>?_) λ_ _ h'=>h'.elim);refine zV (yZ aaZ (λ_ YM ads=>zV (yZ ads (λok Yi aa0=>?_) λ_ _ h'=>h'.elim)) λ_ _ h'=>h'.elim);cases ok with
  | false=>exact zW ⟨rfl,aa0⟩
  | true =>
   exact zV (zV (yZ aa0 (λx YQ adt=>zV (yZ adt (λ_ aaX adu=>zW (zW ⟨rfl,adu⟩)) λ_ _ h'=>h'.elim)) λ_ _ h'=>h'.elim))
def De(X:Cx)(pins:Γ (Ψ×Obj))(σ:St)(Q:VK)(acc:Θ)(C:Ψ)(r:Result)(s5:Ξ):Prop :=
 ∃ (D:Ψ) (H5:Hp) (m:Str->Δ Θ),acc=.ref D/\r=.ok .next/\Inv X pins σ H5 s5/\s5.heap.Ns C m/\cM X pins H5 C/\Q (.ref D) H5
def E5(J:It)(g:TG)(tt:TT)(te:TE)(D:Ψ)(σ0:St)(H0:Hp)(Q:VK):Prop :=
 ∃W:Nat->Nat->St->Hp->Prop,(∃m,W 0 m σ0 H0)/\∀i m σ H,W i m σ H ->
  (J.stop i H/\Q (.ref D) H)\/(J.go i H/\∀x H',J.YA i H x H'->g x σ H' λWW H2=>tt WW H2 λb H3 =>
   if b=true then te WW H3 λv H4=>∃ys,H4 D=some (.lst ys)/\ys.length < sizeLine/\∃m',m' < m/\W (i+1) m' WW (upd H4 D (.lst (ys++[v])))
   else ∃m',m' < m/\W (i+1) m' WW H3)
section
variable {X:Cx}{pins:Γ (Ψ×Obj)}{σ σ':St}{H:Hp}{s:Ξ}{scope:ζ}{N:Γ Str}
 {tg iter elt:γ}{ifs:Γ γ}{pos:Pos}{g:TG}{tt:TT}{te:TE}
def tP(hc:X.calm=true)(I:Inv X pins σ H s)(T:Turn X.prog X.w X.K tg J fp it tn)(st:tn 0 s.heap)(hf:∀b∈fp,cM X pins H b)(hk:scope.kind=.function)
  (Wg:∀x∈scope.names,x.2=.free->X.env.kindOf x.1=some .cell\/X.env.kindOf x.1=some .free) (ZV:∀ {x:Str},(x,NameKind.cell)∈scope.names->(x,NameKind.free)∈scope.names->False)
  (ZW:∀ (i:Nat) (x:Str) (v:V),N[i]?=some x->σ'[i]?=some (some v)->scope.names.lookup x=some .free/\∃j:Nat,X.N[j]?=some x/\σ[j]?=some (some v)) (hlen:σ'.length=N.length)
  (hY:∀fp s H,PG (aY X scope N fp s H) tg g/\P7 (aY X scope N fp s H) ifs tt/\PE (aY X scope N fp s H) elt te)
  (hrd:∀D,H D=none->E5 J g tt te D σ' (upd H D (.lst [])) Q) {E:Θ->Ξ->Prop} :
  wpAny (model X.prog X.w) X.A (newList []) (λacc Yi=>wpAny (model X.prog X.w) X.A (newFunctionEnv scope X.env.globals (fg X.env scope.names []) [] X.env.qual none .none (some X.env)) (λYj YQ =>
   codeAny (model X.prog X.w) X.A (.compStart (.ListComp elt [⟨tg,iter,ifs,0⟩] scope pos) 0 (.ref it) acc { Yj with scope:=relabel scope X.env }) (De X pins σ Q acc Yj.locals) YQ) E Yi) E s:=by
 refine qK ?_;have Xx:∀b∈fp,b < s.heap.objs.size:=λb hb=>let ⟨o,e,_⟩:=T.obj _ _ st b hb;zY e;have I3:=I.ZT (ys:=[]) (its:=[]) (t':=s.toks) .nil (xU _);have hD:H s.heap.objs.size=none:=I.fresh;let⟨W,⟨m0,w0⟩,turn⟩:=hrd _ hD;generalize e3:({ s with heap:=s.heap.push { cls:=.type "list",data:=.seq ([]:Γ Θ).toArray },toks:=s.toks }:Ξ)=s3 at I3;have e3h:s3.heap=s.heap.push { cls:=.type "list",data:=.seq ([]:Γ Θ).toArray }:=by rw[<- e3]
 generalize hH3:upd H s.heap.objs.size (.lst [])=H3 at I3 w0 turn;have VU:s.heap.objs.size < s3.heap.objs.size:=by rw[e3h,xI];exact kJ _
 have hk3:∀b o,s.heap.get? b=some o->s3.heap.get? b=some o:=λb o e=>by rw[e3h];exact zU _ e
 generalize s.heap.objs.size=D at *;have f3:∀b∈fp,cM X pins H3 b:=λb hb=>by
  let⟨f0,f⟩:=hf b hb;refine⟨?_,f⟩;rw[<- hH3,ak (yQ (Xx b hb))];exact f0
 have X9:tn 0 s3.heap:=T.keep _ _ _ st λb _ o e=>hk3 b o e;refine AW λh4 YC hkp X5=>?_;dsimp only;have I4:=Fh (N:=N) (σ':=σ') (fp:=fp) I3 f3 (λb hb=>wC (Xx b hb) VU) hk Wg YC hkp X5 ZV ZW hlen s3.toks;have fC:∀H',H' s3.heap.objs.size=none->cM X pins H' s3.heap.objs.size:=λH' hn=>I3.Wr (yL _) hn;let⟨hg,htt,YR⟩:=hY fp s3 H3;have efp:∀b∈fp,∀H':Hp,H' b=none->cM (aY X scope N fp s3 H3) [] H' b:=λb hb H' hn=>by
  refine⟨hn,(I4.ok.exf b hb).1,I4.ok.X8 b hb,.inl hb,(I4.ok.exf b hb).2,λp hp=>?_⟩;cases hp
 have loop:codeAny (model X.prog X.w) X.A (.compLoop (.ListComp elt [⟨tg,iter,ifs,0⟩] scope pos) 0 (.ref it) (.ref D) (fA X scope s3.heap.objs.size)) (De X pins σ Q (.ref D) s3.heap.objs.size) { s3 with heap:=h4 }:=by
  refine vi (λn s'=>∃i σ' H',Inv (aY X scope N fp s3 H3) [] σ' H' s'/\tn i s'.heap/\(∀b∈fp,H' b=none)/\W i n σ' H') ?_ m0
   ⟨0,σ',H3,I4,T.keep _ _ _ X9 λb _ o e=>hkp b o e,λb hb=>(f3 b hb).1,w0⟩
  rintro n s5 ⟨i,σ5,H5,I5,st5,fr5,w5⟩;rcases turn i n σ5 H5 w5 with ⟨stop,q⟩|⟨go,step⟩
  ·refine bR (T.done (aY X scope N fp s3 H3) rfl rfl rfl hc i [] s5 σ5 H5 _ I5 (λb hb=>efp b hb H5 (fr5 b hb)) st5 stop) λr s6 z=>?_;let⟨hr,I6⟩:=z;subst hr;let⟨m,hn6,_⟩:=I6.loc;refine⟨D,H5,m,rfl,rfl,I3.Y5 I6.os I6.base I6.Vx I6.bare (λb hb=>?_),hn6,fC H5 I6.free,q⟩;let⟨f0,f1,f2,f4,f5,f6⟩:=f3 b hb;exact⟨f4,f1,f5,f6⟩
  ·refine bR (T.item (aY X scope N fp s3 H3) rfl rfl rfl hc i [] s5 σ5 H5 _ I5 (λb hb=>efp b hb H5 (fr5 b hb)) st5 go) λr s6 z=>?_;let⟨u,hr,h6⟩:=z;subst hr;refine bR h6 λ_ s7 z=>?_;let⟨x,H7,I7,r7,y7,st7,fr7⟩:=z;have I7':=I7.pinned (λb hb=>efp b hb H7 (fr7 b hb)) (T.obj _ _ st7);have again:∀ {pl:Γ (Ψ×Obj)}{σ9:St}{H9:Hp}{s9:Ξ}{n':Nat},Inv (aY X scope N fp s3 H3) ([]++oV fp s7.heap) σ9 H9 s9->W (i+1) n' σ9 H9->∃i σ' H',Inv (aY X scope N fp s3 H3) [] σ' H' s9/\tn i s9.heap/\(∀b∈fp,H' b=none)/\W i n' σ' H':=λ{pl σ9 H9 s9 n'} I9 w9=>by
    refine⟨i+1,σ9,H9,I9.VS,T.keep _ _ _ st7 λb hb o e=>(I9.pin (b,o) (yE _ (yE _ (eJ hb e)))).1,λb hb=>?_,w9⟩;let⟨o,e,d⟩:=T.obj _ _ st7 b hb;exact (I9.pin (b,o) (yE _ (yE _ (eJ hb e)))).2.1
   refine bR (hg _ s7 σ5 H7 x u _ I7' r7 (step x H7 y7)) λ_ s8 z=>?_;let⟨σ8,H8,I8,q8⟩:=z;refine bR (htt _ s8 σ8 H8 _ I8 q8) λok s9 z=>?_;let⟨H9,I9,q9⟩:=z;cases ok with
   | false =>
    rw[yM (by decide)] at q9;rw[yM (by decide)];let⟨m',hm,w9⟩:=q9;exact⟨m',hm,again (pl:=[]) I9 w9⟩
   | true =>
    rw[yK rfl] at q9;rw[yK rfl];refine bR (YR _ s9 σ8 H9 _ I9 q9) λy s10 z=>?_;let⟨v,H10,I10,r10,ys,adz,hz,m',hm,w10⟩:=z;refine bR (iu (X:=aY X scope N fp s3 H3) _ s10 σ8 H10 (.ref D) [v] (.ref D) [y] (λ_ H'=>W (i+1) m' σ8 H') I10 rfl (.cons r10 .nil) ⟨D,ys,v,rfl,rfl,adz,hz,w10⟩) λ_ s11 z=>?_;let⟨_,H11,I11,_,w11⟩:=z;exact⟨m',hm,again (pl:=[]) I11 w11⟩
 exact codeAny_compStart_list loop (T.self _ 0 _ _ _ (T.keep _ _ _ X9 λb _ o e=>hkp b o e) loop)
end
def Il(wi:TI)(g:TG)(tt:TT)(te:TE)(V8:St->St):TE:=λσ H Q=>wi σ H λJ H1=>∀D,H1 D=none->E5 J g tt te D (V8 σ) (upd H1 D (.lst [])) Q
structure iP(X:Cx)(scope:Scope)(N:List Str)(V8:St->St):Prop where
 kind:scope.kind=.function
 free:∀x∈scope.names,x.2=.free->X.env.kindOf x.1=some .cell\/X.env.kindOf x.1=some .free
 dup:∀ {x:Str},(x,NameKind.cell)∈scope.names->(x,NameKind.free)∈scope.names->False
 loc:∀x∈scope.names,x.2=.local -> scope.names.lookup x.1=some .local
 cap:∀ (σ:St) (i:Nat) (x:Str) (v:V),N[i]?=some x->(V8 σ)[i]?=some (some v)->scope.names.lookup x=some .free/\∃j:Nat,X.N[j]?=some x/\σ[j]?=some (some v)
 len:∀σ:St,(V8 σ).length=N.length
section
variable {X:Cx}{scope:ζ}{N:Γ Str}{V8:St->St}{tg iter elt:γ}{ifs:Γ γ}{pos:Pos}{wi:TI}{g:TG}{tt:TT}{te:TE}
def Kc(hc:X.calm=true)(S:iP X scope N V8)(hi:PI X tg iter wi)
  (hY:∀fp s H,PG (aY X scope N fp s H) tg g/\P7 (aY X scope N fp s H) ifs tt/\PE (aY X scope N fp s H) elt te)
  (hs:∀x,foldedSetIterable iter X.env x=pure x:=by intro _;rfl):PE X (.ListComp elt [⟨tg,iter,ifs,0⟩] scope pos) (Il wi g tt te V8):=by
 sleep 6;rw[eval_ListComp];refine wpAny_comprehension_free (use:=none) rfl hs (mH (k9 I.ok S.free)) S.kind S.loc (bR (hi pins s σ H _ I h) λv s1 h1=>bR h1 λitv s2 h2=>?_);let⟨it,fp,tn,J,H2,e,I2,T,VZ,f2,rd⟩:=h2;subst e;refine bR (tP (iter:=iter) (pos:=pos) (E:=X.xe) hc I2 T VZ f2 S.kind S.free S.dup (S.cap σ) (S.len σ) hY rd) λacc s3 h3=>bR h3 λYj s4 h4=>?_;refine jQ h4 λr s5 h5=>?_;let⟨D,H5,m,rfl,rfl,I5,hn,fC,q⟩:=h5;refine⟨m,hn,λh' sb=>?_⟩;let⟨f0,f1,Xj,f3,f4,f5⟩:=fC;exact⟨.ref D,H5,I5.turned (t':=s5.toks) (λb o hb e=>(sb.2 b hb).trans e) f0 f1 f3 f4 f5,rfl,q⟩
def Jx(hc:X.calm=true)(S:iP X scope N V8)(hi:PI X tg iter wi)
  (hY:∀fp s H,PG (aY X scope N fp s H) tg g/\P7 (aY X scope N fp s H) ifs tt/\PE (aY X scope N fp s H) elt te)
  (hN:X.N.Nodup) (hiy:X.N[i]?=some y) (hy:X.env.scope.names.lookup y=some .local)
  (hsw:swapsWith (.ListComp elt [⟨tg,iter,ifs,0⟩] scope pos) (some (.Name y py)) V0.line X.env=pure true)
  (hs:∀x,foldedSetIterable iter X.env x=pure x:=by intro _;rfl):PS X (.Assign [.Name y py] (.ListComp elt [⟨tg,iter,ifs,0⟩] scope pos) V0) (AC (Il wi g tt te V8) (qu i)):=by
 intro pins s σ H D I h;rw[exec_Assign_Name_used _ _ _ _ hsw];refine zV (kW (zV ?_));show wpAny _ X.A (do let _ <- comprehension (.ListComp elt [⟨tg,iter,ifs,0⟩] scope pos) scope X.env _ (newList []) false (eval iter X.env) (some (assign (.Name y py) X.env))) _ _ s;refine zV (yZ (wpAny_comprehension_free (use:=some (assign (.Name y py) X.env)) (Q:=λ_ s'=>SP X pins D .next s') rfl hs (mH (k9 I.ok S.free)) S.kind S.loc
  (bR (hi pins s σ H _ I h) λv s1 h1=>bR h1 λitv s2 h2=>?_)) (λ_ s' hq=>zW (zW hq)) λ_ _ e=>e)
 let⟨it,fp,tn,J,H2,e,I2,T,VZ,f2,rd⟩:=h2;subst e;refine bR (tP (iter:=iter) (pos:=pos) (E:=X.xe) hc I2 T VZ f2 S.kind S.free S.dup (S.cap σ) (S.len σ) hY rd) λacc s3 h3=>bR h3 λYj s4 h4=>?_;refine jQ h4 λr s5 h5=>?_;let⟨D',H5,m,rfl,rfl,I5,hn,fC,q⟩:=h5;show wpAny _ X.A (assign (.Name y py) X.env (.ref D')) _ _ _;refine wpAny_assign_Name (ux (v:=.ref D') I5 hN hiy (.inl hy) rfl (λs6 I6 z=>?_) (.inr hy));let⟨a,sa,ha⟩:=z;let⟨f0,f1,Xj,f3,f4,f5⟩:=fC;have Wi:Yj.locals≠a:=by
  rcases ha with z|z
  ·rw[z];exact f1
  ·exactλw=>f4 y a z w.symm
 refine⟨m,hn.sameBut sa Wi,λh' sb=>?_⟩;exact⟨_,H5,I6.turned (t':=s6.toks) (λb o hb e=>(sb.2 b hb).trans e) f0 f1 f3 f4 f5,q⟩
end
abbrev S8(X:Cx)(qual:Str)(scope:ζ)(f c L:Ψ):Env:=W.envX qual scope L f (.ref c) (fg X.env scope.names [])
def jm(X:Cx)(A:ξ)(qual:Str)(scope:ζ)(N:Γ Str)(f c:Ψ)(s:Ξ)(H:Hp):Cx where
 prog:=X.prog
 w:=X.w
 K:=X.K
 mg:=X.mg
 base:=X.base
 A:=A.deeper (S8 X qual scope f c s.heap.objs.size)
 N:=N
 VM:=s
 H₀:=H
 env:=S8 X qual scope f c s.heap.objs.size
 outer:=X.stack
 stack:=S8 X qual scope f c s.heap.objs.size::X.stack
 ex:=[]
 fn:=λ_=>false
 calm:=true
 pn:=[]
 xe:=λ_ _=>False
def Kj(I:Inv X pins σ H s)(hd:A.handled=none)(hA:A.frames=some X.stack)(S:iP X scope N V8)(hnc:∀x∈scope.names,x.2≠.cell)(hN0:N[0]?=some p)(hp:scope.names.lookup p=some .local)(hNd:N.Nodup)(r:RelV v u)
  (YC:h1.Ns s.heap.objs.size (λx=>[(p,u)].reverse.lookup x)) (Wh:∀b o,s.heap.get? b=some o->h1.get? b=some o) (t':Nat) :
  Inv (jm X A qual scope N f c s H) [] ((V8 σ).set 0 (some v)) H { s with heap:=h1,toks:=t' }:=by
 have Xi:=k9 I.ok S.free;have Y9:∀x c,(fg X.env scope.names []).lookup x=some c->X.env.cells.lookup x=some c:=λx c e=>lD Xi (λ_ _ z=>by cases z) x c (mem_of_lookup e);have YB:∀b:Ψ,b∉(jm X A qual scope N f c s H).ex:=λb z=>absurd (show b∈([]:Γ Ψ) from z) (by simp);refine⟨⟨I.ok.mod,S.kind,rfl,rfl,yL _,λx y d e1 e2=>I.ok.inj x y d (Y9 x d e1) (Y9 y d e2),λx hx=>?_,λx d z=>?_,λ_=>hd,Around.frames_deeper hA,.inr ⟨rfl,rfl⟩,λb z=>absurd z (YB b),I.bs,yD I.ok.YL I.sz,λb _ _=>YB b,λb z=>absurd z (YB b),I.stack,I.WU⟩,
  rfl,I.bare,Un.kept Wh,⟨_,YC,λi x w e1 e2 e3=>?_⟩,λx d e=>?_,I.Vx.fresh (yL _),λx d e=>I.VR x d (Y9 x d e),λq hq=>absurd (show q∈([]:Γ (Ψ×Obj)) from hq) (by simp),I.Vx.kept Wh,?_⟩
 ·rcases hx with hx|hx
  ·exact absurd rfl (hnc _ (mem_of_lookup (show scope.names.lookup x=some .cell from hx)))
  ·exact gh (.inl hx)
 ·cases z
 ·cases i with
  | zero =>
   have e1:N[0]?=some x:=e1;rw[hN0] at e1;cases e1;have hl:0 < (V8 σ).length:=by rw[S.len];exact (List.getElem?_eq_some_iff.mp hN0).1
   rw[vH hl] at e2;cases e2;exact⟨u,r,.inl ⟨hp,by simp⟩⟩
  | succ i =>
   have e2':(V8 σ)[i+1]?=some (some w):=by
    rw[kM (by lia)] at e2;exact e2
   let⟨ZX,j,hj,hv⟩:=S.cap σ (i+1) x w e1 e2';have hm:(x,NameKind.free)∈scope.names:=mem_of_lookup ZX;let⟨m,hn,hl⟩:=I.loc;have kx:=S.free _ hm rfl;let⟨u',ru,lk⟩:=hl j x w hj hv (kx.elim (λk=>.inr (.inl k)) λk=>.inr (.inr k));refine⟨u',ru,.inr ⟨.inr ZX,?_⟩⟩;rcases lk with ⟨k,_⟩|⟨_,c',ec,ic⟩
   ·have k:X.env.kindOf x=some .local:=k;rcases kx with k'|k'<;>· rw[k] at k';cases k'
   ·let⟨c'',WI⟩:=gh (env:=X.env) (acc:=[]) (.inl ZX);have e':=Y9 x c'' WI;rw[ec] at e';cases e';exact⟨c',WI,ic.keeps Wh⟩
 ·let⟨w,q⟩:=I.cell x d (Y9 x d e);exact⟨w,q.keeps Wh⟩
 ·rw[yC];exact S.len σ
def HV(I:Inv X pins σ H s)(hr:cJ (k+1) A)(hA:A.frames=some X.stack)(S:iP X scope N V8)(hnc:∀x∈scope.names,x.2≠.cell)
  (hN0:N[0]?=some p) (hp:scope.names.lookup p=some .local) (hNd:N.Nodup) (X5:scope.isCoroutine=false) (ZY:scope.isGenerator=false)
  (hf:s.heap.get? f=some (W.kla_obj name qual params body scope (fg X.env scope.names []) pm c W9)) (ZZ:H c=some (.XD qual)) (hb:bindArgs (W.kla_fn name qual params body scope (fg X.env scope.names []) pm (.ref c) W9) ⟨[u],[]⟩=pure [(p,u)])
  (r:RelV v u) (hY:PE (jm X A qual scope N f c s H) body te) (q:te ((V8 σ).set 0 (some v)) H Q) :
  wpAny (model X.prog X.w) A (call (.ref f) [u]) (EP X pins σ Q) (λ_ _=>False) s:=by
 have VF:s.heap.CodeRec (.ref c) qual:=I.Vx c _ ZZ;refine wpAny_call (W.kla_callFunE hr.depth hf rfl X5 ZY rfl VF ?_);rw[hb];refine zW (wpAny_newFunctionEnv hnc (λy hy=>?_) (λh1 YC hsb=>⟨?_,?_⟩) S.kind)
 ·rw[List.mem_singleton.mp hy];exact hp
 ·exact I.nolimit.fresh _ hsb
 ·have hk1:∀b o,s.heap.get? b=some o->h1.get? b=some o:=λb o e=>hsb.extBut b o (yQ (zY e)) (zU _ e);have I1:=Kj (qual:=qual) (f:=f) (c:=c) I hr.hd hA S hnc hN0 hp hNd r YC hk1 (s.toks+[(p,u)].length);refine W.kla_codeExpr (yZ (hY [] _ _ H Q I1 q) (λw s' z=>?_) λe s' h=>False.elim h);let⟨v',H',I',r',q'⟩:=z;exact⟨v',H',I.Y5 I'.os I'.base I'.Vx I'.bare (λb z=>absurd (show b∈([]:Γ Ψ) from z) (by simp)),r',q'⟩
def AH{pos:Pos}(l:Γ Θ)(h:TriplesOk l)(e:codeAmong pos' (l++[rawInt pos.line,rawInt pos.col,c])=some v):codeAmong pos' l=some v\/v=c:=by
 fun_induction TriplesOk l with
 | case1 =>
  simp?[xN,codeAmong,rawInt] at e;split at e
  ·cases e;exact .inr rfl
  ·cases e
 | case2 a t b u x rest ih =>
  simp?[xE,codeAmong] at e ⊢;split at e
  ·rename_i hc;rw[yK hc];exact .inl e
  ·rename_i hc;rw[yM hc];exact ih h e
 | case3 l h1 h2=>exact h.elim
def HN(I:Inv X pins σ H s)(S:iP X scope N V8)(hq:X.env.qual++"<lambda>"=qual)(Xy:X.env.code=.ref c)(C:W.CodeHd X.base c P)(hT:H P=some (.tab qual))(hB:Sq X.mg X.base)
  (Z0:defaultsOf params X.env=([],[]))
  (h:∀ (f c':Ψ) (pm W9:Θ) (s':Ξ) (H':Hp),Inv X pins σ H' s'->s'.heap.get? f=some (W.kla_obj "<lambda>" qual params body scope (fg X.env scope.names []) pm c' W9)->H' f=none->H' c'=some (.XD qual)->aB H H'->cM X pins H' f->(∀b,H' b≠none->H b≠none\/H' b=some (.XD qual))->Q (.ref f) s') :
  wpAny (model X.prog X.w) X.A (eval (.Lambda params body scope WX) X.env) Q X.xe s:=by
 have Xi:=mH (k9 I.ok S.free);have hCs:=C.keeps I.bk;have hg:s.heap.Ns mainGlobals X.mg:=by
  let⟨o,es,ep,e,r⟩:=I.ok.mod.glob;exact⟨o,es,ep,I.bk _ _ e,r⟩
 have hPn:X.base.get? P=none:=by
  cases e:X.base.get? P with
  | none=>rfl
  | some o=>rw[(I.bs P o e).2] at hT;cases hT
 let⟨ps,hP,ht,X5⟩:=I.Vx P _ hT;have hb:s.heap.BuiltinsAt X.mg P:=by
  let⟨bm,o,b1,b2,b3,b4,b5⟩:=hB;exact⟨bm,o,b1,b2,b3,(λz=>by rw[z,hPn] at b4;cases b4),I.bk _ _ b4,b5⟩
 refine W.kla_eval Z0 ?_;rw[hq];cases hf:codeAmong WX ps.toList with
 | some cv =>
  let⟨c',rfl,WI⟩:=X5 WX cv hf;refine W.kla_makeFunctionHit Xi I.ok.glob hg Xy hCs hP ht hf hb λW9 h' tk kp hz=>?_;have kp2:∀b o,s.heap.get? b=some o->(h'.push (W.kla_obj "<lambda>" qual params body scope (fg X.env scope.names []) ((X.mg "__name__").getD .none) c' W9)).get? b=some o:=λb o e=>zU _ (kp b o e);have hn:H h'.objs.size=none:=I.Vx.fresh hz;exact h _ c' _ W9 _ H (I.kept (t':=tk) kp2) (zX _ rfl) hn WI (.refl _) (I.Wr hz hn) λb z=>.inl z
 | none =>
  have hgP:mainGlobals≠P:=λz=>by
   let⟨o,es,ep,e,r⟩:=I.ok.mod.glob;rw[z,hPn] at e;cases e
  refine W.kla_makeFunction Xi I.ok.glob hg Xy hCs hP ht hf hgP hb λc' W9 h' tk hx hc1 XH hcr hP'=>?_;have hn:H c'=none:=I.Vx.fresh hc1;have hz:s.heap.objs.size<=h'.objs.size:=jR (qY hc1 XH);have nP:∀ {b:Ψ}{u:HO},H b=some u->(∀q,u≠.tab q)->b≠P:=λ{b u} e Wi z=>by subst z;rw[hT] at e;cases e;exact Wi _ rfl
  have kp:∀b o,b≠P->s.heap.get? b=some o->(h'.push (W.kla_obj "<lambda>" qual params body scope (fg X.env scope.names []) ((X.mg "__name__").getD .none) c' W9)).get? b=some o:=λb o hb e=>zU _ (hx b o hb e);have hPc:P≠c':=λz=>by rw[<- z,hT] at hn;cases hn
  have up:∀b u,H b=some u->upd H c' (.XD qual) b=some u:=λb u e=>by rw[ak (aG e hn)];exact e
  have un:Un X.fs [] H (upd H c' (.XD qual)) s.heap (h'.push (W.kla_obj "<lambda>" qual params body scope (fg X.env scope.names []) ((X.mg "__name__").getD .none) c' W9)):=by
   refine⟨λb o e n _ _=>kp b o (λz=>by rw[z,hT] at n;cases n) e,λb o e n _ _=>⟨o.slots,kp b o (λz=>by rw[z,hT] at n;cases n) e⟩,λb o e n _=>?_,λb o e _=>?_,λb xs e=>up b _ e,λb o u e=>up b _ e,⟨λb u e _=>up b u e,λb q ps' e z=>?_⟩⟩
   ·rw[ak (yQ (zP (zY e) hc1))];exact n
   ·by_cases hb:b=P
    ·subst hb;exact⟨_,zU _ hP'⟩
    ·exact⟨o,kp b o hb e⟩
   ·by_cases hb:b=P
    ·subst hb;rw[hP] at z;cases z;exact⟨_,zU _ hP'⟩
    ·exact⟨#[],by rw[Array.append_empty];exact kp b _ hb z⟩
  have Vx:pS X.prog X.w (upd H c' (.XD qual)) (h'.push (W.kla_obj "<lambda>" qual params body scope (fg X.env scope.names []) ((X.mg "__name__").getD .none) c' W9)):=by
   intro b u e;by_cases hbc:b=c'
   ·subst hbc;rw[aw] at e;cases e;let⟨c0,oc,vs,t,e0,e1,r⟩:=hcr;exact⟨c0,oc,vs,t,e0,zU _ e1,r⟩
   ·rw[ak hbc] at e;by_cases hb:b=P
    ·subst hb;rw[hT] at e;cases e;refine⟨_,zU _ hP',?_,λpos v hv=>?_⟩
     ·have:=TriplesOk_snoc WX.line WX.col (.ref c') ps.toList ht;simpa using this
     ·have ZM:codeAmong pos (ps.toList++[rawInt WX.line,rawInt WX.col,.ref c'])=some v:=by simpa using hv
      rcases AH ps.toList ht ZM with z|z
      ·let⟨c0,z1,z2⟩:=X5 pos v z;exact⟨c0,z1,up _ _ z2⟩
      ·exact⟨c',z,aw⟩
    ·exact (I.Vx b u e).V6 (λd o hd eo=>kp d o (by
      rcases hd with rfl|hd
      ·exact hb
      ·exact nP hd λq z=>by cases z) eo) (λd hd=>up d _ hd) λd o hd _=>up d _ hd
  have I':=I.un (t':=tk) un Vx;have hnf:upd H c' (.XD qual) h'.objs.size=none:=by
   rw[ak (jH XH)];exact I.Vx.fresh hz
  refine h _ c' _ W9 _ _ I' (zX _ rfl) hnf aw up (I.Wr hz hnf) λb z=>?_;by_cases hbc:b=c'
  ·subst hbc;exact .inr aw
  ·rw[ak hbc] at z;exact .inl z
end L2
namespace Dl
open PySem L2 PySem.Spec PyProof.Rows
abbrev D:=PyData
mutual
def Rep(K:Φ)(H:Hp):D->V->Prop
 | .none,v=>v=.Vs
 | .bool b,v=>v=.bl b
 | .int i,v=>v=.int i
 | .str x,v=>v=.str x
 | .tuple ds,v=>∃a vs,v=.ref a/\gG K H a vs/\au K H ds vs
 | .list ds,v=>∃a vs,v=.ref a/\gc K H a vs/\au K H ds vs
 | .dict _,_=>False
def au(K:Φ)(H:Hp):Γ D->Γ V->Prop
 | [],vs=>vs=[]
 | d::ds,vs=>∃v r,vs=v::r/\Rep K H d v/\au K H ds r
end
def aE{K:Φ}(e:aB H H')(h:gG K H a xs):gG K H' a xs:=by
 rcases h with (h|⟨o,h⟩)|h
 ·exact .inl (.inl (e _ _ h))
 ·exact .inl (.inr ⟨o,e _ _ h⟩)
 ·exact .inr h
mutual
theorem Rep.mono{K:Φ}{H H':Hp}(e:aB H H'):∀ {d:D}{v:V},Rep K H d v->Rep K H' d v
 | .none,_,h=>h
 | .bool _,_,h=>h
 | .int _,_,h=>h
 | .str _,_,h=>h
 | .tuple ds,_,h=>by
  simp?[Rep] at h ⊢;let⟨a,vs,rfl,q,r⟩:=h;exact⟨a,vs,rfl,aE e q,au.mono e r⟩
 | .list ds,_,h=>by
  simp?[Rep] at h ⊢;let⟨a,vs,rfl,q,r⟩:=h;exact⟨a,vs,rfl,e.seq q,au.mono e r⟩
 | .dict _,_,h=>h
theorem au.mono{K:Φ}{H H':Hp}(e:aB H H'):∀ {ds:Γ D}{vs:Γ V},au K H ds vs->au K H' ds vs
 | [],_,h=>h
 | d::ds,_,h=>by
  simp?[au] at h ⊢;let⟨v,r,rfl,a,b⟩:=h;exact⟨v,r,rfl,Rep.mono e a,au.mono e b⟩
end
section
variable {K:Φ}
def au.nil:au K H [] []:=by simp[au]
def au.cons(a:Rep K H d v)(b:au K H ds vs):au K H (d::ds) (v::vs):=by
 simp?[au];exact⟨v,vs,rfl,a,b⟩
def au.cons_inv(h:au K H (d::ds) vs):∃v r,vs=v::r/\Rep K H d v/\au K H ds r:=by simpa only[au] using h
def au.nil_inv(h:au K H [] vs):vs=[]:=by simpa only[au] using h
def au.length:∀ {ds:Γ D}{vs:Γ V},au K H ds vs->vs.length=ds.length
 | [],_,h=>by rw[h.nil_inv];rfl
 | d::ds,_,h=>by let⟨v,r,rfl,_,b⟩:=h.cons_inv;simp[au.length b]
def au.get:∀ {ds:Γ D}{vs:Γ V}{i:Nat}{v:V},au K H ds vs->vs[i]?=some v->∃d,ds[i]?=some d/\Rep K H d v
 | [],_,i,v,h,e=>by rw[h.nil_inv] at e;simp at e
 | d::ds,_,i,v,h,e=>by
  let⟨v',r,rfl,a,b⟩:=h.cons_inv;cases i with
  | zero=>simp at e;subst e;exact⟨d,rfl,a⟩
  | succ i=>simp at e;let⟨d',h1,h2⟩:=au.get b e;exact⟨d',by simpa using h1,h2⟩
def au.getD:∀ {ds:Γ D}{vs:Γ V}{i:Nat}{d:D},au K H ds vs->ds[i]?=some d->∃v,vs[i]?=some v/\Rep K H d v
 | [],_,i,d,h,e=>by simp at e
 | d::ds,_,i,d',h,e=>by
  let⟨v',r,rfl,a,b⟩:=h.cons_inv;cases i with
  | zero=>simp at e;subst e;exact⟨v',rfl,a⟩
  | succ i=>simp at e;let⟨v,h1,h2⟩:=au.getD b e;exact⟨v,by simpa using h1,h2⟩
def au.append:∀ {ds es:Γ D}{vs us:Γ V},au K H ds vs->au K H es us->au K H (ds++es) (vs++us)
 | [],_,_,_,h,g=>by rw[h.nil_inv];exact g
 | d::ds,_,_,_,h,g=>by let⟨v,r,rfl,a,b⟩:=h.cons_inv;exact au.cons a (au.append b g)
def au.take:∀ {ds:Γ D}{vs:Γ V}(n:Nat),au K H ds vs->au K H (ds.take n) (vs.take n)
 | [],_,n,h=>by rw[h.nil_inv];simp[au]
 | d::ds,_,0,h=>by simp[au]
 | d::ds,_,n+1,h=>by let⟨v,r,rfl,a,b⟩:=h.cons_inv;exact au.cons a (au.take n b)
def au.drop:∀ {ds:Γ D}{vs:Γ V}(n:Nat),au K H ds vs->au K H (ds.drop n) (vs.drop n)
 | [],_,n,h=>by rw[h.nil_inv];simp[au]
 | d::ds,_,0,h=>h
 | d::ds,_,n+1,h=>by let⟨v,r,rfl,a,b⟩:=h.cons_inv;exact au.drop n b
end
structure bA(HF H Vt H':Hp):Prop where
 hh:aB H H'
 ff:aB HF Vt
 fh:aB Vt H'
 nw:∀a o,Vt a=some o->HF a=some o\/H a=none
def bA.refl(s:aB HF H):bA HF H HF H:=⟨.refl _,.refl _,s,λ_ _ e=>.inl e⟩
def bA.trans(a:bA HF H Vu H1)(b:bA Vu H1 VG H2):bA HF H VG H2 :=
 ⟨a.hh.trans b.hh,a.ff.trans b.ff,b.fh,λx o e=>(b.nw x o e).elim (λz=>a.nw x o z) λz=>.inr (a.hh.free z)⟩
def bV(h:H p=none):aB H (upd H p o):=λb u e=>by rw[ak (aG e h)];exact e
def bA.new(s:aB HF H)(h:H p=none):bA HF H (upd HF p o) (upd H p o):=by
 have hf:HF p=none:=s.free h;refine⟨bV h,bV hf,λb u e=>?_,λb u e=>?_⟩
 ·by_cases hb:b=p
  ·subst hb;rw[aw] at e ⊢;exact e
  ·rw[ak hb] at e ⊢;exact s b u e
 ·by_cases hb:b=p
  ·subst hb;exact .inr h
  ·rw[ak hb] at e;exact .inl e
def bA.own(s:aB HF H)(h:H p=none):bA HF H HF (upd H p o) :=
 ⟨bV h,.refl _,λb u e=>by rw[ak (aG (s b u e) h)];exact s b u e,λ_ _ e=>.inl e⟩
def bA.freeze(g:bA HF H Vu H1)(h:H p=none)(h1:H1 p=some o)(hf:Vu p=none):bA HF H (upd Vu p o) H1 :=
 ⟨g.hh,g.ff.trans (bV hf),λb u e=>by
  by_cases hb:b=p
  ·subst hb;rw[aw] at e;rw[h1,<- e]
  ·rw[ak hb] at e;exact g.fh b u e,λb u e=>by
  by_cases hb:b=p
  ·subst hb;exact .inr h
  ·rw[ak hb] at e;exact g.nw b u e⟩
def j5:Γ Str:=["ways_of","turned_order","fairest"]
def cy(K:Φ)(HF:Hp):Prop:=∀ (f:Ψ) (oc:Θ) (od:Δ Ψ) (fd:η) (sl:Array (Δ Θ)) (c P:Ψ),K.lookup f=some ⟨oc,od,.func fd,sl⟩->fd.qualname∈j5->fd.code=.ref c->W.codeHdIn K c P=true->HF P=some (.tab (fd.qualname++".<locals>."++"<lambda>"))
def cy.mono{K:Φ}(h:cy K HF)(e:aB HF Vt):cy K Vt:=λf oc od fd sl c P a b d q=>e _ _ (h f oc od fd sl c P a b d q)
abbrev Env:=Γ (Δ D)
structure cB(K:W.Frag)(HF:Hp)(ρ:Env)(σ:L2.St):Prop where
 get:∀ (i:Nat) (d:D),ρ[i]?=some (some d)->∃v,σ[i]?=some (some v)/\Rep K HF d v
 len:ρ.length<=σ.length
 tb:cy K HF
def cB.mono{K:Φ}(h:cB K HF ρ σ)(e:aB HF Vt):cB K Vt ρ σ:=⟨λi d q=>let ⟨v,a,b⟩:=h.get i d q;⟨v,a,b.mono e⟩,h.len,h.tb.mono e⟩
def tD(K:Φ)(f:Env->Δ D):TE:=λσ H Q=>∃HF ρ d,aB HF H/\cB K HF ρ σ/\f ρ=some d/\∀v H' Vt,bA HF H Vt H'->Rep K Vt d v->Q v H'
def DE(X:Cx)(e:γ)(f:Env->Δ D):Prop:=PE X e (tD X.K f)
def tF(K:Φ)(f:Env->Δ (Γ D)):TE:=λσ H Q=>∃HF ρ ds,aB HF H/\cB K HF ρ σ/\f ρ=some ds /\
 ∀a vs H' Vt,bA HF H Vt H'->H a=none->Vt a=none->H' a=some (.lst vs)->au K Vt ds vs->Q (.ref a) H'
def DF(X:Cx)(e:γ)(f:Env->Δ (Γ D)):Prop:=PE X e (tF X.K f)
def Je(K:Φ)(f:Env->Δ θ):TT:=λσ H Q=>∃HF ρ b,aB HF H/\cB K HF ρ σ/\f ρ=some b/\∀H' Vt,bA HF H Vt H'->Q b H'
def DT(X:Cx)(e:γ)(f:Env->Δ θ):Prop:=PT X e (Je X.K f)
def SV(K:Φ)(f:Env->Δ (Γ D)):TA:=λσ H Q=>∃HF ρ ds,aB HF H/\cB K HF ρ σ/\f ρ=some ds/\∀vs H' Vt,bA HF H Vt H'->au K Vt ds vs->Q vs H'
def DA(X:Cx)(es:Γ γ)(f:Env->Δ (Γ D)):Prop:=PA X es (SV X.K f)
def aM(h:PE X e t)(i:∀σ H Q,t' σ H Q->t σ H Q):PE X e t':=λpins s σ H Q I q=>h pins s σ H Q I (i σ H Q q)
def j8(h:PT X e t)(i:∀σ H Q,t' σ H Q->t σ H Q):PT X e t':=λpins s σ H Q I q=>h pins s σ H Q I (i σ H Q q)
def iO(h:PA X e t)(i:∀σ H Q,t' σ H Q->t σ H Q):PA X e t':=λpos pins s σ H Q I q=>h pos pins s σ H Q I (i σ H Q q)
def bs(h:x.bind f=some b):∃a,x=some a/\f a=some b:=by
 cases x with
 | none=>cases h
 | some a=>exact⟨a,rfl,h⟩
def DF.de(h:DF X e f):DE X e (λρ=>(f ρ).map PyData.list):=aM h λσ H Q z=>by
 sleep 2;have hf:(f ρ).map PyData.list=some d:=hf;cases e1:f ρ with
 | none=>rw[e1] at hf;cases hf
 | some ds =>
  rw[e1] at hf;obtain rfl:PyData.list ds=d:=xC hf;refine⟨HF,ρ,ds,sm,eo,e1,λa vs H' Vt g ha YD h' r=>q _ _ (upd Vt a (.lst vs)) (g.freeze ha h' YD) ?_⟩;simp?[Rep];exact⟨a,vs,rfl,.inl (.inl aw),r.mono (bV YD)⟩
def ab(i:Nat):Env->Δ D:=λρ=>(ρ[i]?).getD none
def PM(i:Nat)(hN:X.N[i]?=some x)(hv:oo X.env.scope x)(hd:(x == ("__debug__":Str))=false:=by decide)(VF:(x == ("__classdict__":Str))=false:=by decide):DE X (.Name x pos) (ab i) :=
 aM (bb hN hv hd VF) λσ H Q z=>by
  sleep 2;have hf:(ρ[i]?).getD none=some d:=hf;cases e:ρ[i]? with
  | none=>rw[e] at hf;cases hf
  | some o =>
   rw[e] at hf;have hf:o=some d:=hf;subst hf;let⟨v,a,b⟩:=eo.get i d e;exact⟨v,a,q v H HF (.refl sm) b⟩
def fC(d:D):Env->Δ D:=λ_=>some d
def M8{i j pos}:DE X (.Constant (.int i) j pos) (fC (.int i)):=aM Pq λσ H Q z=>by let⟨HF,ρ,d,sm,eo,hf,q⟩:=z;cases hf;exact q _ H HF (.refl sm) (by simp[Rep])
def Rc{b j pos}:DE X (.Constant (.bool b) j pos) (fC (.bool b)):=aM Rq λσ H Q z=>by let⟨HF,ρ,d,sm,eo,hf,q⟩:=z;cases hf;exact q _ H HF (.refl sm) (by simp[Rep])
def MH{j pos}:DE X (.Constant .none j pos) (fC .none):=aM Os λσ H Q z=>by let⟨HF,ρ,d,sm,eo,hf,q⟩:=z;cases hf;exact q _ H HF (.refl sm) (by simp[Rep])
def O8{x j pos}:DE X (.Constant (.str x) j pos) (fC (.str x)):=aM NZ λσ H Q z=>by let⟨HF,ρ,d,sm,eo,hf,q⟩:=z;cases hf;exact q _ H HF (.refl sm) (by simp[Rep])
def K8(hg:Gl X x)(hm:X.mg x=some (.int i t))(hd:(x == ("__debug__":Str))=false:=by decide):DE X (.Name x pos) (fC (.int i)) :=
 aM (Ky (v:=.int i) hg hm ⟨t,rfl⟩ hd) λσ H Q z=>by let⟨HF,ρ,d,sm,eo,hf,q⟩:=z;cases hf;exact q _ H HF (.refl sm) (by simp[Rep])
def eA(K:Φ)(r:R2)(g:D->D->Δ D):Prop:=∀HF H x y v1 v2 d Q,aB HF H->Rep K HF x v1->Rep K HF y v2->g x y=some d->(∀v H' Vt,bA HF H Vt H'->Rep K Vt d v->Q v H')->r v1 v2 H Q
def f2(g:D->D->Δ D)(f1 f2:Env->Δ D):Env->Δ D:=λρ=>(f1 ρ).bind λx=>(f2 ρ).bind λy=>g x y
def Km{X:Cx}{fa fb:Env->Δ D}(hr:eA X.K r g):∀σ H Q,tD X.K (f2 g fa fb) σ H Q->PY r (tD X.K fa) (tD X.K fb) σ H Q:=λσ H Q z=>by
 sleep 2;sleep 5;let⟨y,hy,hg⟩:=bs hf;exact⟨HF,ρ,x,sm,eo,hx,λv1 H1 Vu g1 r1=>⟨Vu,ρ,y,g1.fh,eo.mono g1.ff,hy,λv2 H2 VG g2 r2=>hr VG H2 x y v1 v2 d Q g2.fh (r1.mono g2.ff) r2 hg λv H' Vt g3 r3=>q v H' Vt ((g1.trans g2).trans g3) r3⟩⟩
def za(ho:gH X (binaryOp op) r)(hr:eA X.K r g)(ha:DE X a fa)(hb:DE X b fb):DE X (.BinOp a op b pos) (f2 g fa fb):=aM (Qf ho ha hb) (Km hr)
def kn(ho:gH X (compareOp op) r)(hr:eA X.K r g)(ha:DE X a fa)(hb:DE X b fb)(hm:behindInMarks op b=false):DE X (.Compare a [op] [b] pos) (f2 g fa fb):=aM (CV ho ha hb hm) (Km hr)
def xb(C:Int->Int->Prop)[∀i j,Decidable (C i j)](g:Int->Int->D):D->D->Δ D
 | .int i,.int j=>if C i j then some (g i j) else none
 | _,_=>none
def Gy{K:Φ}{C:Int->Int->Prop}[∀i j,Decidable (C i j)]{gi:Int->Int->Int}:eA K (rI C λi j=>.int (gi i j)) (xb C λi j=>.int (gi i j)):=by
 sleep 7;cases x<;>cases y<;>simp?[xb] at hg<;>try cases hg
 rename_i i j;simp?[Rep] at r1 r2;by_cases hc:C i j
 ·rw[yK hc] at hg;cases hg;exact⟨i,j,r1,r2,hc,q _ H HF (.refl sm) (by simp[Rep])⟩
 ·rw[yM hc] at hg;cases hg
def E9{K:Φ}{gi:Int->Int->Int}:eA K (I0 λi j=>.int (gi i j)) (xb (λ_ _=>True) λi j=>.int (gi i j)):=by
 sleep 7;cases x<;>cases y<;>simp?[xb] at hg<;>try cases hg
 rename_i i j;simp?[Rep] at r1 r2;exact⟨i,j,r1,r2,q _ H HF (.refl sm) (by simp[Rep])⟩
def kr{K:Φ}{gi:Int->Int->θ}:eA K (I0 λi j=>.bl (gi i j)) (xb (λ_ _=>True) λi j=>.bool (gi i j)):=by
 sleep 7;cases x<;>cases y<;>simp?[xb] at hg<;>try cases hg
 rename_i i j;simp?[Rep] at r1 r2;exact⟨i,j,r1,r2,q _ H HF (.refl sm) (by simp[Rep])⟩
noncomputable instance (i j:Int):Decidable (tx i j):=by unfold tx;infer_instance
noncomputable instance (i j:Int):Decidable (Jy i j):=by unfold Jy;infer_instance
section
variable {X:Cx}{a b c:γ}{fa fb fc:Env->Δ D}{pos:Pos}{rest:Γ γ}
def lV(fa fb:Env->Δ D):Env->Δ D:=λρ=>(fa ρ).bind fun|.bool true=>fb ρ|.bool false=>some (.bool false)|_=>none
def Vc(fa fb:Env->Δ D):Env->Δ D:=λρ=>(fa ρ).bind fun|.bool true=>some (.bool true)|.bool false=>fb ρ|_=>none
def Rr:D->Δ D|.bool b=>some (.bool (!b))|_=>none
def Tv(fa:Env->Δ D):Env->Δ D:=λρ=>(fa ρ).bind Rr
def MC{op}(h:DE X a fa):DE X (.BoolOp op [a] pos) fa:=F2 h
def OI(ha:DE X a fa)(hb:DE X (.BoolOp .And (b::rest) pos) fb):DE X (.BoolOp .And (a::b::rest) pos) (lV fa fb):=aM (E6 ha hb) λσ H Q z=>by
 sleep 2;sleep 5;refine⟨HF,ρ,x,sm,eo,hx,λv1 H1 Vu g1 r1=>?_⟩;cases x<;>try cases hf
 rename_i k;simp?[Rep] at r1;refine⟨k,r1,?_⟩;cases k with
 | true=>exact sj ⟨Vu,ρ,d,g1.fh,eo.mono g1.ff,hf,λv H' Vt g r=>q v H' Vt (g1.trans g) r⟩
 | false=>cases hf;exact pR (q _ H1 Vu g1 (by simp[Rep]))
def gB:D->Δ θ|.bool b=>some b|_=>none
def fB(f:Env->Δ D):Env->Δ θ:=λρ=>(f ρ).bind gB
def AZ:∀σ H (Q:θ->Hp->Prop),Je X.K (fB f) σ H Q->tD X.K f σ H λx H1=>∃c,x=.bl c/\Q c H1:=λσ H Q z=>by
 let⟨HF,ρ,k,sm,eo,hf,q⟩:=z;sleep 5;refine⟨HF,ρ,x,sm,eo,hx,λv1 H1 Vu g1 r1=>?_⟩;cases x<;>try cases hf
 simp?[Rep] at r1;exact⟨_,r1,q H1 Vu g1⟩
def BJ(h:DE X a f)(he:∀whole,isTrue a X.env whole=(do let v <- whole;standAt a.pos;holding [v] (truthy v)):=by intro _;rfl):DT X a (fB f):=j8 (Hw h he) AZ
def jz(ho:gH X (compareOp op) r)(hr:eA X.K r g)(ha:DE X a fa)(hb:DE X b fb)(hm:behindInMarks op b=false):DT X (.Compare a [op] [b] pos) (fB (f2 g fa fb)) :=
 j8 (vo ho ha hb hm) λσ H Q h=>Km hr σ H _ (AZ σ H Q h)
def fy(fa fb:Env->Δ θ):Env->Δ θ:=λρ=>(fa ρ).bind fun|true=>fb ρ|false=>some false
def Au(fa fb:Env->Δ θ):Env->Δ θ:=λρ=>(fa ρ).bind fun|true=>some true|false=>fb ρ
def cL(fa:Env->Δ θ):Env->Δ θ:=λρ=>(fa ρ).map (!·)
variable {ta tb:Env->Δ θ}
def DW(X:Cx)(e:γ)(f:Env->Δ θ):Prop:=PW X e (Je X.K f)
def Ar(h:PW X e t)(i:∀σ H Q,t' σ H Q->t σ H Q):PW X e t':=λwh pins s σ H Q I q=>h wh pins s σ H Q I (i σ H Q q)
def DW.dt(h:DW X a ta):DT X a ta:=PW.pt h
def IP(ha:DT X a ta):DW X (.BoolOp .And [a] pos) ta:=Kt ha
def MU(ha:DT X a ta):DW X (.BoolOp .Or [a] pos) ta:=Gp ha
def NF(ha:DT X a ta)(hb:DW X (.BoolOp .And (b::rest) pos) tb):DW X (.BoolOp .And (a::b::rest) pos) (fy ta tb):=Ar (NL ha hb) λσ H Q z=>by
 sleep 2;sleep 5;refine⟨HF,ρ,x,sm,eo,hx,λH1 Vu g1=>?_⟩;cases x with
 | true=>exact sj ⟨Vu,ρ,d,g1.fh,eo.mono g1.ff,hf,λH' Vt g=>q H' Vt (g1.trans g)⟩
 | false=>cases hf;exact pR (q H1 Vu g1)
def QG(ha:DT X a ta)(hb:DW X (.BoolOp .Or (b::rest) pos) tb):DW X (.BoolOp .Or (a::b::rest) pos) (Au ta tb):=Ar (Mf ha hb) λσ H Q z=>by
 sleep 2;sleep 5;refine⟨HF,ρ,x,sm,eo,hx,λH1 Vu g1=>?_⟩;cases x with
 | false=>exact pR ⟨Vu,ρ,d,g1.fh,eo.mono g1.ff,hf,λH' Vt g=>q H' Vt (g1.trans g)⟩
 | true=>cases hf;exact sj (q H1 Vu g1)
def M9(ha:DT X a ta):DT X (.UnaryOp .Not a pos) (cL ta):=j8 (FF ha) λσ H Q z=>by
 sleep 2;have hf:(ta ρ).map (!·)=some d:=hf;cases e:ta ρ with
 | none=>rw[e] at hf;cases hf
 | some k=>rw[e] at hf;cases hf;exact⟨HF,ρ,k,sm,eo,e,λH1 Vu g1=>q H1 Vu g1⟩
def IZ(tc:Env->Δ θ)(fa fb:Env->Δ D):Env->Δ D:=λρ=>(tc ρ).bind fun|true=>fa ρ|false=>fb ρ
def RZ(hc:DT X c ta)(ha:DE X a fa)(hb:DE X b fb):DE X (.IfExp c a b pos) (IZ ta fa fb):=aM (Gn hc ha hb) λσ H Q z=>by
 sleep 2;sleep 5;refine⟨HF,ρ,x,sm,eo,hx,λH1 Vu g1=>?_⟩;cases x with
 | true=>exact sj ⟨Vu,ρ,d,g1.fh,eo.mono g1.ff,hf,λv H' Vt g r=>q v H' Vt (g1.trans g) r⟩
 | false=>exact pR ⟨Vu,ρ,d,g1.fh,eo.mono g1.ff,hf,λv H' Vt g r=>q v H' Vt (g1.trans g) r⟩
def kj(g g':D->D->Δ D)(fa fb fc:Env->Δ D):Env->Δ D:=λρ=>(fa ρ).bind λx=>(fb ρ).bind λy=>(g x y).bind fun|.bool true=>(fc ρ).bind λz=>g' y z|.bool false=>some (.bool false)|_=>none
def CG(hr:eA X.K r g)(WY:eA X.K r' g'):∀σ H Q,tD X.K (kj g g' fa fb fc) σ H Q->AD r r' (tD X.K fa) (tD X.K fb) (tD X.K fc) σ H Q:=λσ H Q z=>by
 sleep 2;sleep 5;let⟨y,hy,hf⟩:=bs hf;let⟨z,hz,hf⟩:=bs hf;refine⟨HF,ρ,x,sm,eo,hx,λv1 H1 Vu g1 r1=>⟨Vu,ρ,y,g1.fh,eo.mono g1.ff,hy,λv2 H2 VG g2 r2=>hr VG H2 x y v1 v2 z _ g2.fh (r1.mono g2.ff) r2 hz λv3 H3 VW g3 r3=>?_⟩⟩;cases z<;>try cases hf
 rename_i k;simp?[Rep] at r3;refine⟨k,r3,?_⟩;have G:=(g1.trans g2).trans g3;cases k with
 | false=>cases hf;exact pR (q _ H3 VW G (by simp[Rep]))
 | true =>
  let⟨w,hw,hg⟩:=bs hf;exact sj ⟨VW,ρ,w,G.fh,eo.mono G.ff,hw,λv4 H4 WK g4 r4=>WY WK H4 y w v2 v4 d Q g4.fh (r2.mono (g3.ff.trans g4.ff)) r4 hg λv H' Vt g5 r5=>q v H' Vt ((G.trans g4).trans g5) r5⟩
def Ie(ho:gH X (compareOp op) r)(hr:eA X.K r g)(W3:gH X (compareOp Yc) r')(WY:eA X.K r' g')(ha:DE X a fa)(hb:DE X b fb)(hc:DE X c fc)
  (hm:lastMarks [op,Yc] [b,c]=false:=by with_unfolding_all rfl):DE X (.Compare a [op,Yc] [b,c] pos) (kj g g' fa fb fc):=aM (GY ho W3 ha hb hc hm) (CG hr WY)
def FA(ho:gH X (compareOp op) r)(hr:eA X.K r g)(W3:gH X (compareOp Yc) r')(WY:eA X.K r' g')(ha:DE X a fa)(hb:DE X b fb)(hc:DE X c fc)
  (hm:lastMarks [op,Yc] [b,c]=false:=by with_unfolding_all rfl):DT X (.Compare a [op,Yc] [b,c] pos) (fB (kj g g' fa fb fc)) :=
 j8 (Hc ho W3 ha hb hc hm) λσ H Q h=>CG hr WY σ H _ (AZ σ H Q h)
def ag:Env->Δ (Γ D):=λ_=>some []
def aa(f:Env->Δ D)(g:Env->Δ (Γ D)):Env->Δ (Γ D):=λρ=>(f ρ).bind λx=>(g ρ).map (x::·)
def GK:DA X [] ag:=iO cF λσ H Q z=>by let⟨HF,ρ,d,sm,eo,hf,q⟩:=z;cases hf;exact q [] H HF (.refl sm) au.nil
def CC(he:DE X e f)(hs:DA X es g)(WQ:starEach (e::es) X.env=(false,eval e X.env)::starEach es X.env:=by rfl):DA X (e::es) (aa f g) :=
 iO (ba he hs WQ) λσ H Q z=>by
  sleep 2;sleep 5;have hf:(g ρ).map (x::·)=some d:=hf;cases e1:g ρ with
  | none=>rw[e1] at hf;cases hf
  | some xs =>
   rw[e1] at hf;cases hf;exact⟨HF,ρ,x,sm,eo,hx,λv1 H1 Vu g1 r1=>⟨Vu,ρ,xs,g1.fh,eo.mono g1.ff,e1,λvs H2 VG g2 r2=>q (v1::vs) H2 VG (g1.trans g2) (au.cons (r1.mono g2.ff) r2)⟩⟩
variable {es:Γ γ}{fs:Env->Δ (Γ D)}
def small(ds:Γ D):Δ (Γ D):=if ds.length<=sizeLine then some ds else none
def cS{ds es:Γ D}(h:small ds=some es):es=ds/\ds.length<=sizeLine:=by
 unfold small at h;split at h
 ·cases h;exact⟨rfl,‹_›⟩
 ·cases h
def aR(g:Env->Δ (Γ D)):Env->Δ D:=λρ=>(g ρ).bind λds=>(small ds).map PyData.tuple
def gZ(g:Env->Δ (Γ D)):Env->Δ (Γ D):=λρ=>(g ρ).bind small
def Nf{x1}(h:DA X es fs):DE X (.Tuple es x1 pos) (aR fs):=aM (u4 h) λσ H Q z=>by
 sleep 2;let⟨ds,hx,hf⟩:=bs hf;have hf:(small ds).map PyData.tuple=some d:=hf;cases e:small ds with
 | none=>rw[e] at hf;cases hf
 | some ZJ =>
  rw[e] at hf;cases hf;let⟨rfl,hz⟩:=cS e;refine⟨HF,ρ,_,sm,eo,hx,λvs H1 Vu g1 r1=>⟨by rw[r1.length];exact hz,λp hp=>q _ _ (upd Vu p (.tup vs)) (g1.trans (.new g1.fh hp)) ?_⟩⟩;simp?[Rep];exact⟨p,vs,rfl,.inl (.inl aw),r1.mono (bV (g1.fh.free hp))⟩
def Nj(h:DA X es fs):DF X (.List es pos) (gZ fs):=aM (HS h) λσ H Q z=>by
 sleep 2;let⟨ds,hx,hf⟩:=bs hf;let⟨rfl,hz⟩:=cS hf;exact⟨HF,ρ,_,sm,eo,hx,λvs H1 Vu g1 r1=>⟨by rw[r1.length];exact hz,λp hp=>q p vs _ Vu (g1.trans (.own g1.fh hp)) (g1.hh.free hp) (g1.fh.free hp) aw r1⟩⟩
def aL:D->D->Δ D
 | .tuple ds,.int i=>sV ds i
 | .list ds,.int i=>sV ds i
 | _,_=>none
def Ae{K:Φ}(r:au K HF ds vs)(h:sV ds i=some d):∃v,sV vs i=some v/\Rep K HF d v:=by
 unfold sV at h ⊢;rw[r.length];let⟨j,hj,h⟩:=bs h;let⟨v,a,b⟩:=r.getD h;exact⟨v,by rw[hj];exact a,b⟩
def PD{K:Φ}:eA K (UE K) aL:=by
 sleep 7;cases x<;>cases y<;>simp?[aL] at hg<;>try cases hg
 ·simp?[Rep] at r1 r2;let⟨a,vs,rfl,hs,r⟩:=r1;let⟨v,hv,rv⟩:=Ae r hg;exact .inl ⟨a,vs,_,v,rfl,r2,sm.seq hs,hv,q v H HF (.refl sm) rv⟩
 ·simp?[Rep] at r1 r2;let⟨a,vs,rfl,hs,r⟩:=r1;let⟨v,hv,rv⟩:=Ae r hg;exact .inr (.inl ⟨a,vs,_,v,rfl,r2,aE sm hs,hv,q v H HF (.refl sm) rv⟩)
def Qs(ha:DE X a fa)(hb:DE X b fb)(hs:wk b:=by intro _ _;rfl):DE X (.Subscript a b pos) (f2 aL fa fb):=aM (Q4 Pa ha hb hs) (Km PD)
mutual
theorem gq{pins:Γ (Ψ×Obj)}{σ:L2.St}{H HF:Hp}{s:Ξ}(I:Inv X pins σ H s)(sm:aB HF H):∀ {d:D}{v:V}{u:Θ},Rep X.K HF d v->RelV v u->∃as,Reads s.heap u d as
 | .none,_,_,h,r=>by simp?[Rep] at h;subst h;cases r;exact⟨_,.none⟩
 | .bool b,_,_,h,r=>by simp?[Rep] at h;subst h;cases r;exact⟨_,.bool b⟩
 | .int i,_,_,h,r=>by simp?[Rep] at h;subst h;let⟨t,rfl⟩:=r;exact⟨_,.int i t⟩
 | .str i,_,_,h,r=>by simp?[Rep] at h;subst h;let⟨t,rfl⟩:=r;exact⟨_,.str i t⟩
 | .tuple ds,_,_,h,r=>by
  simp?[Rep] at h;let⟨a,vs,rfl,hs,rr⟩:=h;cases r;let⟨its,rv,⟨o,ho,hc,n,hd⟩,_⟩:=I.tuple (aE sm hs);let⟨as,q⟩:=o9 I sm rr rv;exact⟨as,.tuple ho hc hd (by simpa using q)⟩
 | .list ds,_,_,h,r=>by
  simp?[Rep] at h;let⟨a,vs,rfl,hs,rr⟩:=h;cases r;let⟨its,rv,pl,_⟩:=I.list (sm.seq hs);let⟨o,ho,hc,n,hd⟩:=pl.isList;let⟨as,q⟩:=o9 I sm rr rv;exact⟨_,.list ho hc hd (by simpa using q)⟩
 | .dict _,_,_,h,r=>by simp?[Rep] at h
theorem o9{pins:Γ (Ψ×Obj)}{σ:L2.St}{H HF:Hp}{s:Ξ}(I:Inv X pins σ H s)(sm:aB HF H):∀ {ds:Γ D}{vs:Γ V}{us:Γ Θ},au X.K HF ds vs->aI vs us->∃as,ReadsAll s.heap us ds as
 | [],_,_,h,r=>by rw[h.nil_inv] at r;cases r;exact⟨_,.nil⟩
 | d::ds,_,_,h,r=>by
  let⟨v,vr,rfl,a,b⟩:=h.cons_inv;cases r with
  | cons r rr =>
   let⟨as,q⟩:=gq I sm a r;let⟨bs,p⟩:=o9 I sm b rr;exact⟨_,.cons q p⟩
end
def So(K:Φ)(g:D->D->Δ θ):R2:=λv1 v2 H Q=>∃HF x y k,aB HF H/\Rep K HF x v1/\Rep K HF y v2/\g x y=some k/\Q (.bl k) H
def lq{K:Φ}:eA K (So K g) (λx y=>(g x y).map PyData.bool):=by
 sleep 7;have hg:(g x y).map PyData.bool=some d:=hg;cases e:g x y with
 | none=>rw[e] at hg;cases hg
 | some k=>rw[e] at hg;cases hg;exact⟨HF,x,y,k,sm,r1,r2,e,q _ H HF (.refl sm) (by simp[Rep])⟩
def L9(x y:D):Δ θ:=if SeqAt.shaped x=true/\SeqAt.shaped y=true then some (PyData.eqv x y) else none
def PX(x y:D):Δ θ:=if SeqAt.shaped x=true/\SeqAt.shaped y=true then some (!PyData.eqv x y) else none
def Bb(hu:X.A.units+64 < cLine):gH X (compareOp .Eq) (So X.K L9):=by
 intro pins s σ H v1 v2 u1 u2 Q I rx ry h;let⟨HF,x,y,k,sm,r1,r2,hg,q⟩:=h;unfold L9 at hg;split at hg<;>cases hg;rename_i hh;let⟨as,ra⟩:=gq I sm r1 rx;let⟨bs,rb⟩:=gq I sm r2 ry;exact eq_dataH ra rb hh.1 hh.2 hu ⟨.bl _,H,I,rfl,q⟩
def BF(hu:X.A.units+64 < cLine):gH X (compareOp .NotEq) (So X.K PX):=by
 intro pins s σ H v1 v2 u1 u2 Q I rx ry h;let⟨HF,x,y,k,sm,r1,r2,hg,q⟩:=h;unfold PX at hg;split at hg<;>cases hg;rename_i hh;let⟨as,ra⟩:=gq I sm r1 rx;let⟨bs,rb⟩:=gq I sm r2 ry;exact ne_dataH ra rb hh.1 hh.2 hu ⟨.bl _,H,I,rfl,q⟩
def items:D->Δ (Γ D)|.tuple ds=>some ds|.list ds=>some ds|_=>none
end
def Qc(K:Φ)(n:Nat)(m:Γ D->Δ D):Sp:=λvs H Q _=>∃HF ds d,aB HF H/\cy K HF/\au K HF ds vs/\ds.length=n/\m ds=some d/\∀v H' Vt,bA HF H Vt H'->Rep K Vt d v->Q v H'
structure EW(P:Program)(w:World)(K:W.Frag)(mg:Str->Option Value)(base:Heap)(k:Nat)(x:Str)(n:Nat)(m:List D->Option D):Prop where
 ex:∃ (f:Ψ) (fd:η) (ps:Γ Str),cY P w K mg base nX k f fd ps (Qc K n m)/\mg x=some (.ref f)/\W.keepIn K (.ref f)=true/\Binds K fd ps []
def EW.mono{K:Φ}(F:EW P w K mg base k x n m)(h:k<=j):EW P w K mg base j x n m:=by
 let⟨f,fd,ps,a,b,c,d⟩:=F.ex;exact⟨f,fd,ps,a.mono h,b,c,d⟩
def ai(n:Nat)(m:Γ D->Δ D)(fs:Env->Δ (Γ D)):Env->Δ D:=λρ=>(fs ρ).bind λds=>if ds.length=n then m ds else none
def K5(F:EW X.prog X.w X.K X.mg X.base k x n m)(hr:cJ k X.A)(hg:Gl X x)(ha:DA X (e::es) fs)(Wz:(x == ("__debug__":Str))=false:=by decide)
  (he:starEach (e::es) X.env=(false,eval e X.env)::starEach es X.env:=by rfl) (V1:(backTo pos (starEach es X.env)).any (·.1)=false:=by rfl):DE X (.Call (.Name x p) (e::es) [] pos) (ai n m fs):=by
 let⟨f,fd,ps,ok,hm,hk,hb⟩:=F.ex;refine aM (vf (E:=E0) ok hr hg hm hk hb .nil pw ha Wz he V1) λσ H Q z=>?_;sleep 2;let⟨ds,hx,hf⟩:=bs hf;split at hf
 ·rename_i hl;exact⟨HF,ρ,ds,sm,eo,hx,λvs H1 Vu g1 r1=>⟨Vu,ds,d,g1.fh,eo.tb.mono g1.ff,by rw[qE];exact r1,hl,hf,λv H' Vt g r=>q v H' Vt (g1.trans g) r⟩⟩
 ·cases hf
def Fn(K:Φ)(r:Γ V->Hp->VK->Prop)(g:Γ D->Δ D):Prop:=∀HF H ds vs d Q,aB HF H->au K HF ds vs->g ds=some d->(∀v H' Vt,bA HF H Vt H'->Rep K Vt d v->Q v H')->r vs H Q
def cq(g:Γ D->Δ D)(fs:Env->Δ (Γ D)):Env->Δ D:=λρ=>(fs ρ).bind g
def QX{X:Cx}{fs:Env->Δ (Γ D)}(hs:Fn X.K r g):∀σ H Q,tD X.K (cq g fs) σ H Q->Sx r (SV X.K fs) σ H Q:=λσ H Q z=>by
 sleep 2;let⟨ds,hx,hf⟩:=bs hf;exact⟨HF,ρ,ds,sm,eo,hx,λvs H1 Vu g1 r1=>hs Vu H1 ds vs d Q g1.fh r1 hf λv H' Vt g2 r2=>q v H' Vt (g1.trans g2) r2⟩
def Mi(K:Φ)(r:Γ V->Hp->VK->Prop)(g:Γ D->Δ (Γ D)):Prop:=∀HF H ds vs es Q,aB HF H->au K HF ds vs->g ds=some es ->
 (∀a us H' Vt,bA HF H Vt H'->H a=none->Vt a=none->H' a=some (.lst us)->au K Vt es us->Q (.ref a) H')->r vs H Q
def tq(g:Γ D->Δ (Γ D))(fs:Env->Δ (Γ D)):Env->Δ (Γ D):=λρ=>(fs ρ).bind g
def RA{X:Cx}{fs:Env->Δ (Γ D)}(hs:Mi X.K r g):∀σ H Q,tF X.K (tq g fs) σ H Q->Sx r (SV X.K fs) σ H Q:=λσ H Q z=>by
 sleep 2;let⟨ds,hx,hf⟩:=bs hf;exact⟨HF,ρ,ds,sm,eo,hx,λvs H1 Vu g1 r1=>hs Vu H1 ds vs d Q g1.fh r1 hf λa us H' Vt g2 ha YD h' r2=>q a us H' Vt (g1.trans g2) (g1.hh.free ha) YD h' r2⟩
structure pW(X:Cx)(x:Str)(v:Value):Prop where
 gl:Gl X x
 mg:X.mg x=none
 bt:bootBuiltins x=some v
def kh{id:String}(hc:fN X (.builtin id) r)(hs:Fn X.K r g)(B:pW X x (.builtin id))(ha:DA X (e::es) fs)(hn:x≠"__name__":=by decide)(Wz:(x == ("__debug__":Str))=false:=by decide)
  (he:starEach (e::es) X.env=(false,eval e X.env)::starEach es X.env:=by rfl) (V1:(backTo pos (starEach es X.env)).any (·.1)=false:=by rfl):DE X (.Call (.Name x p) (e::es) [] pos) (cq g fs) :=
 aM (lg hc B.gl B.mg B.bt ha hn Wz he V1) (QX hs)
def HG{id:String}(hc:fN X (.builtin id) r)(hs:Mi X.K r g)(B:pW X x (.builtin id))(ha:DA X (e::es) fs)(hn:x≠"__name__":=by decide)(Wz:(x == ("__debug__":Str))=false:=by decide)
  (he:starEach (e::es) X.env=(false,eval e X.env)::starEach es X.env:=by rfl) (V1:(backTo pos (starEach es X.env)).any (·.1)=false:=by rfl):DF X (.Call (.Name x p) (e::es) [] pos) (tq g fs) :=
 aM (lg hc B.gl B.mg B.bt ha hn Wz he V1) (RA hs)
def DQ(hc:fN X (.type T) r)(hs:Fn X.K r g)(B:pW X x (.type T))(ha:DA X (e::es) fs)(hn:x≠"__name__":=by decide)(Wz:(x == ("__debug__":Str))=false:=by decide)
  (he:starEach (e::es) X.env=(false,eval e X.env)::starEach es X.env:=by rfl) (V1:(backTo pos (starEach es X.env)).any (·.1)=false:=by rfl):DE X (.Call (.Name x p) (e::es) [] pos) (cq g fs) :=
 aM (oU hc B.gl B.mg B.bt ha hn Wz he V1) (QX hs)
def gO:D->Δ (Γ D)|.tuple ds=>some ds|.list ds=>some ds|_=>none
def oneOf:Γ D->Δ D|[d]=>some d|_=>none
def gD(h:oneOf ds=some d):ds=[d]:=by
 cases ds with
 | nil=>cases h
 | cons x r=>cases r with
  | nil=>cases h;rfl
  | cons _ _=>cases h
def mn(h:gO d=some ds):d=.tuple ds\/d=.list ds:=by
 cases d<;>cases h
 ·exact .inr rfl
 ·exact .inl rfl
def eD:Γ D->Δ (Γ D):=λds=>(oneOf ds).bind gO
def k7{ds es:Γ D}(h:eD ds=some es):ds=[.tuple es]\/ds=[.list es]:=by
 let⟨d,h1,h2⟩:=bs h;rw[gD h1];rcases mn h2 with rfl|rfl
 ·exact .inl rfl
 ·exact .inr rfl
def cf:Γ D->Δ D:=λds=>(eD ds).map λes=>.int es.length
def ae{α β:Type}{x:Δ α}{f:α->β}{b:β}(h:x.map f=some b):∃a,x=some a/\f a=b:=by
 cases x with
 | none=>cases h
 | some a=>exact⟨a,rfl,xC h⟩
def Lq{K:Φ}:Fn K (λxs H Q=>∃p ys,xs=[.ref p]/\(gc K H p ys\/gG K H p ys)/\Q (.int ys.length) H) cf:=by
 intro HF H ds vs d Q sm r hg q;let⟨es,h1,rfl⟩:=ae hg;rcases k7 h1 with rfl|rfl
 all_goals
  let⟨v,r',rfl,a,b⟩:=r.cons_inv;rw[b.nil_inv];simp?[Rep] at a;let⟨p,us,rfl,h,rr⟩:=a
 ·exact⟨p,us,rfl,.inr (aE sm h),q _ H HF (.refl sm) (by simp[Rep,rr.length])⟩
 ·exact⟨p,us,rfl,.inl (sm.seq h),q _ H HF (.refl sm) (by simp[Rep,rr.length])⟩
def Om(B:pW X "len" (.builtin "len"))(ha:DA X [e] fs)(he:starEach [e] X.env=(false,eval e X.env)::starEach [] X.env:=by rfl):DE X (.Call (.Name "len" p) [e] [] pos) (cq cf fs) :=
 kh ni Lq B ha (by decide) (by decide) he rfl
def eK{K:Φ}(h:HF l=none)(r:au K HF ds vs):Rep K (upd HF l (.tup vs)) (.tuple ds) (.ref l):=by
 simp?[Rep];exact⟨l,vs,rfl,.inl (.inl aw),r.mono (bV h)⟩
def DP{K:Φ}:Fn K (λxs H Q=>∃p ys,xs=[.ref p]/\((gc K H p ys/\∀l,H l=none->Q (.ref l) (upd H l (.tup ys)))\/(gG K H p ys/\Q (.ref p) H))) (λds=>(eD ds).map PyData.tuple):=by
 intro HF H ds vs d Q sm r hg q;let⟨es,h1,rfl⟩:=ae hg;rcases k7 h1 with rfl|rfl
 all_goals
  let⟨v,r',rfl,a,b⟩:=r.cons_inv;rw[b.nil_inv];have a':=a;simp?[Rep] at a;let⟨p,us,rfl,h,rr⟩:=a
 ·exact⟨p,us,rfl,.inr ⟨aE sm h,q _ H HF (.refl sm) a'⟩⟩
 ·exact⟨p,us,rfl,.inl ⟨sm.seq h,λl hl=>q _ _ _ (.new sm hl) (eK (sm.free hl) rr)⟩⟩
def FS(B:pW X "tuple" (.type "tuple"))(ha:DA X [e] fs)(he:starEach [e] X.env=(false,eval e X.env)::starEach [] X.env:=by rfl):DE X (.Call (.Name "tuple" p) [e] [] pos) (cq (λds=>(eD ds).map PyData.tuple) fs) :=
 DQ tG DP B ha (by decide) (by decide) he rfl
def gX:D->String|.none=>"NoneType" | .bool _=>"bool" | .int _=>"int" | .str _=>"str" | .tuple _=>"tuple" | .list _=>"list" | .dict _=>"dict"
def vg(a b:String):Δ θ:=if ((Value.type a) == (Value.type b))=true then some true else if W.kitMeta b=true then (fastBuiltinMro a).map (·.contains (Value.type b)) else none
def Lj:∀a∈["NoneType","bool","int","str","tuple","list"],vg a "int"=some (a == "int"||a == "bool"):=by decide +kernel
def Ij:∀a∈["NoneType","bool","int","str","tuple","list"],vg a "bool"=some (a == "bool"):=by decide +kernel
def kit_tuple:∀a∈["NoneType","bool","int","str","tuple","list"],vg a "tuple"=some (a == "tuple"):=by decide +kernel
def F0{A:ξ}{E:Θ->Ξ->Prop}(I:Inv X pins σ H s)(sm:aB HF H)(r:Rep X.K HF d v)(rv:RelV v u)
  (e:vg (gX d) T=some k) (h:∀tk,Q (.bool k) { s with toks:=tk }):wpAny (model X.prog X.w) A (call (.builtin "isinstance") [u,.type T]) Q E s:=by
 have e':W.kitOne X.K (.type (gX d)) (.type T)=some k:=e;cases d<;>simp?[Rep] at r
 ·subst r;cases rv;exact W.kia_one W.kitx_none I.WN True.intro e' (λz=>nomatch z) h
 ·subst r;cases rv;exact W.kia_one W.kitx_bool I.WN True.intro e' (λz=>nomatch z) h
 ·subst r;let⟨t,rfl⟩:=rv;exact W.kia_one W.kitx_int I.WN True.intro e' (λz=>nomatch z) h
 ·subst r;let⟨t,rfl⟩:=rv;exact W.kia_one W.kitx_str I.WN True.intro e' (λz=>nomatch z) h
 ·let⟨a,vs,rfl,hs,rr⟩:=r;cases rv;let⟨its,rv,pl,_⟩:=I.list (sm.seq hs);let⟨o,ho,hc,n,hd⟩:=pl.isList;exact W.kia_one W.kitx_list I.WN ⟨o,ho,hc⟩ e' (λz=>nomatch z) h
 ·let⟨a,vs,rfl,hs,rr⟩:=r;cases rv;let⟨its,rv,⟨o,ho,hc,n,hd⟩,_⟩:=I.tuple (aE sm hs);exact W.kia_one W.kitx_tuple I.WN ⟨o,ho,hc⟩ e' (λz=>nomatch z) h
def Me(T:String)(f:Env->Δ D):Env->Δ D:=λρ=>(f ρ).bind λd=>(vg (gX d) T).map PyData.bool
def Qi(B:pW X "isinstance" (.builtin "isinstance"))(C:pW X xT (.type T))(h:DE X e f)(hn:xT≠"__name__":=by decide)(hd:(xT == ("__debug__":Str))=false:=by decide)
  (he:starEach [e,.Name xT pT] X.env=(false,eval e X.env)::starEach [.Name xT pT] X.env:=by rfl):DE X (.Call (.Name "isinstance" p) [e,.Name xT pT] [] pos) (Me T f):=by
 have hc:fN X (.builtin "isinstance") (λxs H Q=>∃HF d v k,xs=[v,.ty T]/\aB HF H/\Rep X.K HF d v/\vg (gX d) T=some k/\Q (.bl k) H):=by
  sleep 18;let⟨HF,d,v,k,rfl,sm,rp,hk,q⟩:=h;cases r with
  | cons ra rr =>
   cases rr with
   | cons rb rn =>
    cases rn;cases rb;exact F0 I sm rp ra hk λtk=>⟨.bl k,H,I.tok _,rfl,q⟩
 refine aM (lg hc B.gl B.mg B.bt (ba h (ba (J7 (v:=.ty T) C.gl C.mg C.bt rfl hn hd) cF) he) (by decide) (by decide) he rfl) λσ H Q z=>?_;sleep 2;sleep 5;let⟨k,hk,rfl⟩:=ae hf;exact⟨HF,ρ,x,sm,eo,hx,λv1 H1 Vu g1 r1=>⟨Vu,x,v1,k,rfl,g1.fh,r1,hk,q _ H1 Vu g1 (by simp[Rep])⟩⟩
def Lf:D->D->Δ D
 | .tuple xs,.tuple ys=>(small (xs++ys)).map PyData.tuple
 | _,_=>none
def Ca(K:Φ):R2:=λx y H Q=>∃a b xs ys,x=.ref a/\y=.ref b/\gG K H a xs/\gG K H b ys/\xs.length+ys.length<=sizeLine /\
 (xs=[]->Q (.ref b) H)/\(ys=[]->Q (.ref a) H)/\(∀p,H p=none->Q (.ref p) (upd H p (.tup (xs++ys))))
def D8:gH X (binaryOp .Add) (Ca X.K):=by
 sleep 14;let⟨a,b,xs,ys,rfl,rfl,ha,hb,hz,q0,q1,q2⟩:=h;by_cases hx:xs=[]
 ·cases rx;cases ry;let⟨its,r1,p1,_⟩:=I.tuple ha;let⟨Wn,r2,p2,_⟩:=I.tuple hb;let⟨⟨cls,dd,data,sl⟩,ho,hc,n,hd⟩:=id p1;let⟨⟨aaQ,dd2,data2,sl2⟩,X4,XH,n2,hd2⟩:=id p2;simp only at hc hd XH hd2;subst hc hd XH hd2;have e:its=[]:=(L2.aI.Wu r1).mpr hx;exact wA ⟨_,ho,rfl⟩ ⟨_,X4,rfl⟩ noFill_tuple_add seq_tuple_add vF vA (kY _ _)
   (tuple_addW0 a b its.toArray Wn.toArray n n2 dd dd2 sl sl2 (by simp[e])) ⟨ho,X4,⟨.ref b,H,I,rfl,q0 hx⟩⟩
 ·exact JR pins s σ H _ _ v u Q I rx ry ⟨a,b,xs,ys,rfl,rfl,ha,hb,hx,hz,q1,λ_ p hp=>q2 p hp⟩
def Ld{K:Φ}:eA K (Ca K) Lf:=by
 sleep 7;cases x<;>cases y<;>simp?[Lf] at hg<;>try cases hg
 rename_i xs ys;let⟨es,h1,rfl⟩:=ae hg;let⟨rfl,hz⟩:=cS h1;have r1':=r1;have r2':=r2;simp?[Rep] at r1 r2;let⟨a,vs,rfl,ha,ra⟩:=r1;let⟨b,us,rfl,hb,rb⟩:=r2;refine⟨a,b,vs,us,rfl,rfl,aE sm ha,aE sm hb,by rw[ra.length,rb.length,<- zN];exact hz,λe=>?_,λe=>?_,λp hp=>q _ _ _ (.new sm hp) (eK (sm.free hp) (ra.append rb))⟩
 ·have:xs=[]:=by have:=ra.length;rw[e] at this;exact List.length_eq_zero_iff.mp this.symm
  subst this;exact q _ H HF (.refl sm) r2'
 ·have:ys=[]:=by have:=rb.length;rw[e] at this;exact List.length_eq_zero_iff.mp this.symm
  subst this;rw[qE] at q;exact q _ H HF (.refl sm) r1'
structure rg(K:W.Frag)(J:It)(HF:Hp)(ds:List D):Prop where
 go:∀i d VX VE,ds[i]?=some d->aB HF VE->aB VE VX->J.go i VX/\∀x Xa,J.YA i VX x Xa->∃Zb,bA VE VX Zb Xa/\Rep K Zb d x
 stop:∀VX VE,aB HF VE->aB VE VX->J.stop ds.length VX
def UH(K:Φ)(f:Env->Δ (Γ D)):TI:=λσ H R=>∃HF ρ ds,aB HF H/\cB K HF ρ σ/\f ρ=some ds/\∀J H' Vt,bA HF H Vt H'->rg K J Vt ds->R J H'
def DI(X:Cx)(tg iter:γ)(f:Env->Δ (Γ D)):Prop:=PI X tg iter (UH X.K f)
def Dr{K:Φ}(h:gc K HF a vs)(r:au K HF ds vs):rg K (SU K a) HF ds where
 go:=λi d VX VE e s1 s2=>by
  let⟨v,hv,rv⟩:=r.getD e;have q:=s2.seq (s1.seq h);refine⟨⟨vs,v,q,hv⟩,λx Xa ⟨e2,hy⟩=>⟨VE,by rw[e2];exact .refl s2,?_⟩⟩;have:=hy vs q;rw[hv] at this;cases this;exact rv.mono s1
 stop:=λVX VE s1 s2=>⟨vs,s2.seq (s1.seq h),by rw[r.length];exact yL _⟩
def Gs{K:Φ}(h:gG K HF a vs)(r:au K HF ds vs):rg K (TF K a) HF ds where
 go:=λi d VX VE e s1 s2=>by
  let⟨v,hv,rv⟩:=r.getD e;have q:=aE s2 (aE s1 h);refine⟨⟨vs,v,q,hv⟩,λx Xa ⟨e2,hy⟩=>⟨VE,by rw[e2];exact .refl s2,?_⟩⟩;have:=hy vs q;rw[hv] at this;cases this;exact rv.mono s1
 stop:=λVX VE s1 s2=>⟨vs,aE s2 (aE s1 h),by rw[r.length];exact yL _⟩
def si{K:Φ}{lo:Int}:rg K (Rl lo n) HF ((List.range n).map λi=>PyData.int (lo+(i:Nat))) where
 go:=λi d VX VE e s1 s2=>by
  rw[zO] at e;let⟨j,hj,rfl⟩:=ae e;let⟨hi,YE⟩:=List.getElem?_eq_some_iff.mp hj;have Wv:i < n:=by simpa using hi
  have:j=i:=by rw[<- YE];simp
  subst this;exact⟨Wv,λx Xa z=>by let⟨e2,hx⟩:=z;exact ⟨VE,by rw[e2];exact .refl s2,by simp[Rep,hx]⟩⟩
 stop:=λVX VE s1 s2=>by
  show n<=_;simp
section
variable {X:Cx}{tg l e:γ}{f:Env->Δ D}{fs:Env->Δ (Γ D)}{pos p:Pos}
def oC(h:PI X tg l t)(i:∀σ H R,t' σ H R->t σ H R):PI X tg l t':=λpins s σ H R I q=>h pins s σ H R I (i σ H R q)
def ON(hl:PE X l tl):PI X tg l (λσ H R=>tl σ H λx H1=>∃a,x=.ref a/\((∃xs,gc X.K H1 a xs/\R (SU X.K a) H1)\/∃xs,gG X.K H1 a xs/\R (TF X.K a) H1)):=by
 intro pins s σ H R I h;refine bR (hl pins s σ H _ I h) λv s1 z=>?_;let⟨x,H1,I1,r1,q1⟩:=z;let⟨a,e,q⟩:=q1;subst e;cases r1;rcases q with ⟨xs,hq,q⟩|⟨xs,hq,q⟩
 ·let⟨its,rv,pl,hz⟩:=I1.list hq;refine qJ pl.isList ⟨s1.heap.objs.size,[s1.heap.objs.size],_,_,H1,rfl,I1.kept (t':=s1.toks) λb o e=>zU _ e,Ec a _,⟨_,zX _ rfl,rfl,rfl⟩,λb hb=>?_,q⟩;cases List.mem_singleton.mp hb;exact I1.Wr (yL _) I1.fresh
 ·let⟨its,rv,pl,hz⟩:=I1.tuple hq;refine xQ (show s1.heap.IsTuple a its.toArray from pl) ⟨s1.heap.objs.size,[s1.heap.objs.size],_,_,H1,rfl,I1.kept (t':=s1.toks) λb o e=>zU _ e,Bq a _,⟨_,zX _ rfl,rfl,rfl⟩,λb hb=>?_,q⟩;cases List.mem_singleton.mp hb;exact I1.Wr (yL _) I1.fresh
def cH(f:Env->Δ D):Env->Δ (Γ D):=λρ=>(f ρ).bind gO
def Ii(h:DE X l f):DI X tg l (cH f):=oC (ON h) λσ H R z=>by
 let⟨HF,ρ,ds,sm,eo,hf,q⟩:=z;sleep 5;refine⟨HF,ρ,x,sm,eo,hx,λv1 H1 Vu g1 r1=>?_⟩;rcases mn hf with rfl|rfl
 ·simp?[Rep] at r1;let⟨a,vs,rfl,hs,rr⟩:=r1;exact⟨a,rfl,.inr ⟨vs,aE g1.fh hs,q _ H1 Vu g1 (Gs hs rr)⟩⟩
 ·simp?[Rep] at r1;let⟨a,vs,rfl,hs,rr⟩:=r1;exact⟨a,rfl,.inl ⟨vs,g1.fh.seq hs,q _ H1 Vu g1 (Dr hs rr)⟩⟩
def pU(i:Int):θ:=decide (-(2 ^ 62)<=i)&&decide (i < 2 ^ 62)
def me:Γ D->Δ (Γ D)
 | [.int j]=>if pU j then some ((List.range j.toNat).map λi=>PyData.int ((i:Nat):Int)) else none
 | _=>none
def yj(h:me ds=some es):∃j,ds=[.int j]/\pU j=true/\es=(List.range j.toNat).map λi=>PyData.int ((i:Nat):Int):=by
 unfold me at h;split at h
 ·split at h
  ·cases h;exact⟨_,rfl,‹_›,rfl⟩
  ·cases h
 ·cases h
def bL(fs:Env->Δ (Γ D)):Env->Δ (Γ D):=λρ=>(fs ρ).bind me
def Gc(B:pW X "range" (.type "range"))(h:DA X [e] fs)(hs:starEach [e] X.env=[(false,eval e X.env)]:=by rfl):DI X tg (.Call (.Name "range" p) [e] [] pos) (bL fs) :=
 oC (EJ B.gl B.mg h hs) λσ H R z=>by
  let⟨HF,ρ,ds,sm,eo,hf,q⟩:=z;sleep 5;let⟨j,rfl,hj,rfl⟩:=yj hf;refine⟨HF,ρ,_,sm,eo,hx,λvs H1 Vu g1 r1=>?_⟩;let⟨v,r,rfl,a,b⟩:=r1.cons_inv;rw[b.nil_inv];simp?[Rep] at a;subst a;unfold pU at hj;rw[zF] at hj;refine⟨j,rfl,yP hj.1,yP hj.2,q _ H1 Vu g1 ?_⟩;have:=si (K:=X.K) (HF:=Vu) (lo:=0) (n:=j.toNat);simpa using this
def SD(K:Φ)(f:Env->D->Δ Env):TG:=λv σ H Q=>∃HF ρ d ρ',aB HF H/\cB K HF ρ σ/\Rep K HF d v/\f ρ d=some ρ'/\∀σ',cB K HF ρ' σ'->cB K HF ρ σ'->Q σ' H
def DG(X:Cx)(tg:γ)(f:Env->D->Δ Env):Prop:=PG X tg (SD X.K f)
def rF(h:PG X tg t)(i:∀v σ H Q,t' v σ H Q->t v σ H Q):PG X tg t':=λpins s σ H v u Q I r q=>h pins s σ H v u Q I r (i v σ H Q q)
def isFree(ρ:Env)(i:Nat):θ:=((ρ[i]?).getD none).isNone
def iR{K:Φ}(eo:cB K HF ρ σ)(r:Rep K HF d v):cB K HF (ρ.set i (some d)) (σ.set i (some v)):=by
 refine⟨λj e h=>?_,by rw[yC,yC];exact eo.len,eo.tb⟩;rw[xH] at h ⊢;by_cases Vy:i=j
 ·rw[yK Vy] at h ⊢;by_cases hl:i < ρ.length
  ·rw[yK hl] at h;cases h;rw[yK (zP hl eo.len)];exact⟨v,rfl,r⟩
  ·rw[yM hl] at h;cases h
 ·rw[yM Vy] at h ⊢;exact eo.get j e h
def lS{K:Φ}(eo:cB K HF ρ σ)(hf:isFree ρ i=true):cB K HF ρ (σ.set i (some v)):=by
 refine⟨λj e h=>?_,by rw[yC];exact eo.len,eo.tb⟩;have Vy:i≠j:=by
  intro z;subst z;unfold isFree at hf;rw[h] at hf;cases hf
 rw[xH,yM Vy];exact eo.get j e h
def fG(i:Nat):Env->D->Δ Env:=λρ d=>if isFree ρ i=true then some (ρ.set i (some d)) else none
def KC(i:Nat)(hN:X.N.Nodup)(hi:X.N[i]?=some x)(hx:Loc X.env.scope x)(hf:X.fn x=true\/X.env.scope.names.lookup x=some .local:=by first|exact .inl rfl|exact .inr rfl|assumption):DG X (.Name x pos) (fG i) :=
 rF (dv hN hi hx hf) λv σ H Q z=>by
  let⟨HF,ρ,d,ρ',sm,eo,r,hf,q⟩:=z;unfold fG at hf;split at hf
  ·cases hf;exact q _ (iR eo r) (lS eo ‹_›)
  ·cases hf
def jd(i j:Nat):Env->D->Δ Env:=λρ d=>match d with
 | .tuple [x,y]=>if isFree ρ i=true/\isFree ρ j=true then some ((ρ.set i (some x)).set j (some y)) else none
 | _=>none
def O4(i j:Nat){px py:Pos}{k:Nat}(hc:X.calm=true)(hN:X.N.Nodup)(hi:X.N[i]?=some x)(hx:Loc X.env.scope x)(hj:X.N[j]?=some y)(hy:Loc X.env.scope y)
  (hf:X.fn x=true\/X.env.scope.names.lookup x=some .local:=by first|exact .inl rfl|exact .inr rfl|assumption) (YD:X.fn y=true\/X.env.scope.names.lookup y=some .local:=by first|exact .inl rfl|exact .inr rfl|assumption) :
  DG X (.Tuple [.Name x px,.Name y py] k pos) (jd i j) :=
 rF (wz hc (dh (dv hN hi hx hf) (dh (dv hN hj hy YD) p8))) λv σ H Q z=>by
  let⟨HF,ρ,d,ρ',sm,eo,r,hf,q⟩:=z;unfold jd at hf;split at hf
  ·rename_i x' y';split at hf
   ·rename_i hh;cases hf;simp?[Rep] at r;let⟨a,vs,rfl,hs,rr⟩:=r;let⟨v1,r1,rfl,a1,b1⟩:=rr.cons_inv;let⟨v2,r2,rfl,a2,b2⟩:=b1.cons_inv;rw[b2.nil_inv] at hs;exact⟨a,_,rfl,aE sm hs,rfl,v1,_,rfl,v2,_,rfl,rfl,q _ (iR (iR eo a1) a2) (lS (lS eo hh.1) hh.2)⟩
   ·cases hf
  ·cases hf
def di(tgt:Env->D->Δ Env)(tt:Env->Δ θ)(te:Env->Δ D)(ρ:Env):Γ D->Δ (Γ D)
 | []=>some []
 | d::ds=>(tgt ρ d).bind λρ'=>(tt ρ').bind λb=>if b=true then (te ρ').bind λx=>(di tgt tt te ρ ds).map (x::·) else di tgt tt te ρ ds
def Rk(X:Cx)(ifs:Γ γ)(f:Env->Δ θ):Prop:=P7 X ifs (Je X.K f)
def KG:Rk X [] (λ_=>some true):=λpins s σ H Q I z=>by let⟨HF,ρ,b,sm,eo,hf,q⟩:=z;exact JV pins s σ H Q I (by cases hf;exact q H HF (.refl sm))
def KZ(h:DT X c t):Rk X [c] t:=IT h
def ke(t:Nat)(cs:Γ Nat)(σ:L2.St):L2.St:=List.replicate t none++cs.map λj=>(σ[j]?).getD none
def fE(t:Nat)(cs:Γ Nat)(ρ:Env):Env:=List.replicate t none++cs.map λj=>(ρ[j]?).getD none
def CH{K:Φ}{cs:Γ Nat}(eo:cB K HF ρ σ):cB K HF (fE t cs ρ) (ke t cs σ):=by
 refine⟨λi d h=>?_,by simp[fE,ke],eo.tb⟩;unfold fE at h;unfold ke;by_cases hi:i < t
 ·rw[yR (by simpa using hi),yW,yK hi] at h;cases h
 ·rw[yS (by simpa using hi),zO,xK] at h;rw[yS (by simpa using hi),zO,xK];let⟨j,hj,h⟩:=ae h;rw[hj];cases e:ρ[j]? with
  | none=>rw[e] at h;cases h
  | some o =>
   rw[e] at h;have h:o=some d:=h;subst h;let⟨v,a,b⟩:=eo.get j d e;exact⟨v,by show some ((σ[j]?).getD none)=_;rw[a];rfl,b⟩
def ay(t:Nat)(cs:Γ Nat)(fi:Env->Δ (Γ D))(tgt:Env->D->Δ Env)(tt:Env->Δ θ)(te:Env->Δ D):Env->Δ (Γ D):=λρ=>(fi ρ).bind λds=>(di tgt tt te (fE t cs ρ) ds).bind small
variable {elt iter:γ}{ifs:Γ γ}{scope:ζ}{N:Γ Str}{t:Nat}{cs:Γ Nat}{fi:Env->Δ (Γ D)}{tgt:Env->D->Δ Env}{tt:Env->Δ θ}{te:Env->Δ D}
def Hz:∀σ H Q,tF X.K (ay t cs fi tgt tt te) σ H Q->Il (UH X.K fi) (SD X.K tgt) (Je X.K tt) (tD X.K te) (ke t cs) σ H Q:=λσ H Q z=>by
 let⟨HF,ρ,out,sm,eo,hf,q⟩:=z;let⟨ds,hx,hf⟩:=bs hf;let⟨ag1,ho,hf⟩:=bs hf;let⟨rfl,hz⟩:=cS hf;refine⟨HF,ρ,ds,sm,eo,hx,λJ H1 Vu g1 it Dn hD=>?_⟩;have eo1:=CH (t:=t) (cs:=cs) (eo.mono g1.ff);have hFD:Vu Dn=none:=g1.fh.free hD;refine⟨λi m σ' H'=>m+i=ds.length/\∃Vt xs ys rest,bA Vu H1 Vt H'/\Vt Dn=none/\H' Dn=some (.lst ys)/\au X.K Vt xs ys/\cB X.K Vt (fE t cs ρ) σ'/\di tgt tt te (fE t cs ρ) (ds.drop i)=some rest/\xs++rest=out,
  ⟨ds.length,rfl,Vu,[],[],out,.own g1.fh hD,hFD,aw,au.nil,eo1,ho,rfl⟩,?_⟩
 rintro i m σ' H' ⟨hm,Vt,xs,ys,rest,G,aa4,hHD,rr,eo',hc,Yk⟩;by_cases hi:i < ds.length
 ·refine .inr ?_;have hd:ds.drop i=ds[i]::ds.drop (i+1):=kR hi;have he:ds[i]?=some ds[i]:=List.getElem?_eq_some_iff.mpr ⟨hi,rfl⟩;generalize ds[i]=d at hd he;rw[hd] at hc;unfold di at hc;let⟨ρ',h1,hc⟩:=bs hc;let⟨b,h2,hc⟩:=bs hc;let⟨go,YA⟩:=it.go i d H' Vt he G.ff G.fh;refine⟨go,λx H2 y=>?_⟩;let⟨VG,G2,rx⟩:=YA x H2 y;refine⟨VG,_,d,ρ',G2.fh,eo'.mono G2.ff,rx,h1,λWW eo2 aa5=>?_⟩;refine⟨VG,ρ',b,G2.fh,eo2,h2,λH3 VW G3=>?_⟩;have nof:∀WK H4,bA Vt H' WK H4->WK Dn=none:=λWK H4 G4=>by
   cases e4:WK Dn with
   | none=>rfl
   | some o =>
    rcases G4.nw Dn o e4 with z|z
    ·rw[aa4] at z;cases z
    ·rw[hHD] at z;cases z
  cases b with
  | false =>
   refine pR ⟨m - 1,by lia,by lia,VW,xs,ys,rest,(G.trans G2).trans G3,nof _ _ (G2.trans G3),(G2.trans G3).hh _ _ hHD,rr.mono (G2.trans G3).ff,aa5.mono G3.ff,by simpa using hc,Yk⟩
  | true =>
   rw[yK rfl] at hc;let⟨z,h3,hc⟩:=bs hc;let⟨Zc,h4,rfl⟩:=ae hc;refine sj ⟨VW,ρ',z,G3.fh,eo2.mono G3.ff,h3,λv H4 WK G4 rv=>?_⟩;have GG:=(G2.trans G3).trans G4;have n4:=nof _ _ GG;have h4D:=GG.hh _ _ hHD;have hlen:ys.length < sizeLine:=by
    have e1:=rr.length;have e2:out.length=xs.length+(Zc.length+1):=by rw[<- Yk];simp
    lia
   refine⟨ys,h4D,hlen,m - 1,by lia,by lia,WK,xs++[z],ys++[v],Zc,?_,n4,aw,(rr.mono GG.ff).append (au.cons rv au.nil),aa5.mono (G3.ff.trans G4.ff),h4,by simp[<- Yk]⟩;have G5:=G.trans GG;refine⟨λb o e=>?_,G5.ff,λb o e=>?_,G5.nw⟩
   ·rw[ak (aG e hD)];exact G5.hh b o e
   ·rw[ak (aG e n4)];exact G5.fh b o e
 ·have Wv:i=ds.length:=by lia
  subst Wv;rw[List.drop_length] at hc;cases hc;rw[qE] at Yk;subst Yk;exact .inl ⟨it.stop H' Vt G.ff G.fh,q Dn ys H' Vt (g1.trans G) (g1.hh.free hD) aa4 hHD rr⟩
def Le(hc:X.calm=true)(S:iP X scope N (ke t cs))(hi:DI X tg iter fi)
  (hY:∀fp s H,DG (aY X scope N fp s H) tg tgt/\Rk (aY X scope N fp s H) ifs tt/\DE (aY X scope N fp s H) elt te)
  (hs:∀x,foldedSetIterable iter X.env x=pure x:=by intro _;rfl):DF X (.ListComp elt [⟨tg,iter,ifs,0⟩] scope pos) (ay t cs fi tgt tt te):=aM (Kc (g:=SD X.K tgt) (tt:=Je X.K tt) (te:=tD X.K te) hc S hi hY hs) Hz
end
inductive Slot where
 | Vs|val (d:D)|own (ds:Γ D)|tab (ks:Γ (Γ Int))|obj (k:Nat)
abbrev ao:=Γ Slot
def Slot.all:Slot->Δ D|.Vs=>none|.val d=>some d|.own ds=>some (.list ds)|.tab _=>none|.obj _=>none
def Slot.V5:Slot->Δ D|.val d=>some d|_=>none
def Slot.aa6:Slot->Slot|.own ds=>.val (.list ds)|s=>s
def aQ(ρ:ao):Env:=ρ.map Slot.all
def bp(ρ:ao):Env:=ρ.map Slot.V5
def hand(fz:Γ Nat):Nat->ao->ao
 | _,[]=>[]
 | k,s::r=>(if fz.contains k=true then s.aa6 else s)::hand fz (k+1) r
def fj(fz:Γ Nat):∀ (ρ:ao) (k i:Nat),(hand fz k ρ)[i]?=(ρ[i]?).map λs=>if fz.contains (k+i)=true then s.aa6 else s
 | [],k,i=>by simp[hand]
 | s::r,k,0=>by simp[hand]
 | s::r,k,i+1=>by
  simp?[hand,yX];rw[fj fz r (k+1) i,Nat.add_assoc,Nat.add_comm 1 i]
def Ab(fz:Γ Nat):∀ (ρ:ao) (k:Nat),(hand fz k ρ).length=ρ.length
 | [],k=>rfl
 | s::r,k=>by simp[hand,Ab fz r (k+1)]
def ET(K:Φ)(HF:Hp)(xs:Γ (Γ oQ×Ψ×Θ)):Prop:=∀x∈xs,∃ns:Γ Int,x.1=ns.map Sum.inl/\gG K HF x.2.1 (ns.map V.int)
def ET.mono{K:Φ}{xs:Γ (Γ oQ×Ψ×Θ)}(h:ET K HF xs)(s:aB HF Vt):ET K Vt xs:=λx hx=>let ⟨ns,a,b⟩:=h x hx;⟨ns,a,aE s b⟩
structure Hq where
 h:Hp
 ad:Nat->Ψ
instance:CoeFun Hq λ_=>Ψ->Δ HO:=⟨Hq.h⟩
instance:Coe Hq Hp:=⟨Hq.h⟩
structure fF(K:W.Frag)(Vr:Hp)(H₀:Hq)(HF H:Hp)(ρ:ao)(σ:L2.St):Prop where
 gr:bA Vr H₀ HF H
 val:∀ (i:Nat) (d:D),ρ[i]?=some (.val d)->∃v,σ[i]?=some (some v)/\Rep K HF d v
 own:∀ (i:Nat) (ds:Γ D),ρ[i]?=some (.own ds)->∃a vs,σ[i]?=some (some (.ref a))/\H a=some (.lst vs)/\HF a=none/\H₀ a=none/\au K HF ds vs
 inj:∀ (i j:Nat) (ds es:Γ D) (a:Ψ),ρ[i]?=some (.own ds)->ρ[j]?=some (.own es)->σ[i]?=some (some (.ref a))->σ[j]?=some (some (.ref a))->i=j
 len:ρ.length<=σ.length
 tb:cy K HF
 tab:∀ (i:Nat) (ks:Γ (Γ Int)),ρ[i]?=some (.tab ks)->∃a VP,σ[i]?=some (some (.ref a))/\H a=some (.dT VP)/\HF a=none/\H₀ a=none/\VP.map (·.1)=ks.map (·.map Sum.inl)/\ET K HF VP
 one:∀ (i j:Nat) (ks ls:Γ (Γ Int)),ρ[i]?=some (.tab ks)->ρ[j]?=some (.tab ls)->i=j
 ob:∀ (i k:Nat),ρ[i]?=some (.obj k)->σ[i]?=some (some (.ref (H₀.ad k)))
section
variable {K:Φ}
def fF.all(S:fF K Vr H₀ HF H ρ σ):cB K H (aQ ρ) σ:=by
 refine⟨λi d h=>?_,by simpa [aQ] using S.len,S.tb.mono S.gr.fh⟩;unfold aQ at h;rw[zO] at h;let⟨s,hs,h⟩:=ae h;cases s with
 | Vs=>cases h
 | val e=>cases h;let⟨v,a,b⟩:=S.val i _ hs;exact⟨v,a,b.mono S.gr.fh⟩
 | own ds =>
  cases h;let⟨a,vs,e1,e2,e3,_,e4⟩:=S.own i ds hs;exact⟨.ref a,e1,by simp?[Rep];exact⟨a,vs,rfl,gc.of e2,e4.mono S.gr.fh⟩⟩
 | tab ks=>cases h
 | obj ks=>cases h
def fF.V5(S:fF K Vr H₀ HF H ρ σ):cB K HF (bp ρ) σ:=by
 refine⟨λi d h=>?_,by simpa [bp] using S.len,S.tb⟩;unfold bp at h;rw[zO] at h;let⟨s,hs,h⟩:=ae h;cases s with
 | Vs=>cases h
 | val e=>cases h;exact S.val i _ hs
 | own ds=>cases h
 | tab ks=>cases h
 | obj ks=>cases h
def bA.V6(g:bA HF H Vt H')(e3:HF a=none)(e2:H a=some u):Vt a=none:=by
 cases e:Vt a with
 | none=>rfl
 | some o =>
  rcases g.nw a o e with z|z
  ·rw[e3] at z;cases z
  ·rw[e2] at z;cases z
def fF.grow(S:fF K Vr H₀ HF H ρ σ)(g:bA HF H Vt H'):fF K Vr H₀ Vt H' ρ σ where
 gr:=S.gr.trans g
 val:=λi d h=>let ⟨v,a,b⟩:=S.val i d h;⟨v,a,b.mono g.ff⟩
 own:=λi ds h=>by
  let⟨a,vs,e1,e2,e3,e5,e4⟩:=S.own i ds h;exact⟨a,vs,e1,g.hh _ _ e2,g.V6 e3 e2,e5,e4.mono g.ff⟩
 inj:=S.inj
 len:=S.len
 tb:=S.tb.mono g.ff
 tab:=λi ks h=>by
  let⟨a,VP,e1,e2,e3,e5,e4⟩:=S.tab i ks h;exact⟨a,VP,e1,g.hh _ _ e2,g.V6 e3 e2,e5,e4.1,e4.2.mono g.ff⟩
 one:=S.one
 ob:=S.ob
def fF.step(S:fF K Vr H₀ HF H ρ σ)(g:aB H H'):fF K Vr H₀ HF H' ρ σ:=S.grow ⟨g,.refl _,S.gr.fh.trans g,λ_ _ e=>.inl e⟩
def rN{ρ:ao}{fz:Γ Nat}{i:Nat}{ks:Γ (Γ Int)}(h:(Dl.hand fz 0 ρ)[i]?=some (Slot.tab ks)):ρ[i]?=some (Slot.tab ks):=by
 rw[fj] at h;let⟨s,hs,h⟩:=ae h;cases s<;>(split at h<;>cases h)<;>exact hs
def GP{ρ:ao}{fz:Γ Nat}{i k:Nat}(h:(Dl.hand fz 0 ρ)[i]?=some (Slot.obj k)):ρ[i]?=some (Slot.obj k):=by
 rw[fj] at h;let⟨s,hs,h⟩:=ae h;cases s<;>(split at h<;>cases h)<;>exact hs
def fF.hand(S:fF K Vr H₀ HF H ρ σ)(fz:Γ Nat):∃Vu,aB HF Vu/\fF K Vr H₀ Vu H (hand fz 0 ρ) σ:=by
 let P:Ψ->Prop:=λa=>∃i ds,fz.contains i=true/\ρ[i]?=some (.own ds)/\σ[i]?=some (some (.ref a));have cl:=Classical.propDecidable;let Vu:Hp:=λa=>if P a then H a else HF a
 have hP:∀a,P a->HF a=none/\H₀ a=none:=λa z=>by
  let⟨i,ds,_,h1,h2⟩:=z;let⟨a',vs,e1,e2,e3,e5,e4⟩:=S.own i ds h1;rw[h2] at e1;cases e1;exact⟨e3,e5⟩
 have s1:aB HF Vu:=λb o e=>by
  show (if P b then H b else HF b)=some o;by_cases h:P b
  ·rw[(hP b h).1] at e;cases e
  ·rw[yM h];exact e
 have s2:aB Vu H:=λb o e=>by
  have e:(if P b then H b else HF b)=some o:=e;by_cases h:P b
  ·rw[yK h] at e;exact e
  ·rw[yM h] at e;exact S.gr.fh b o e
 refine⟨Vu,s1,⟨S.gr.hh,S.gr.ff.trans s1,s2,λb o e=>?_⟩,λi d h=>?_,λi ds h=>?_,λi j ds es a h1 h2=>?_,by rw[Ab];exact S.len,S.tb.mono s1,λi ks h=>?_,λi j ks ls h1 h2=>S.one i j ks ls (rN h1) (rN h2),λi k h=>S.ob i k (GP h)⟩
 ·have e:(if P b then H b else HF b)=some o:=e;by_cases h:P b
  ·exact .inr (hP b h).2
  ·rw[yM h] at e;exact S.gr.nw b o e
 ·rw[fj] at h;let⟨s,hs,h⟩:=ae h;rw[jC] at h;cases s with
  | Vs=>split at h<;>cases h
  | tab ks=>split at h<;>cases h
  | obj ks=>split at h<;>cases h
  | val e =>
   have:Slot.val e=Slot.val d:=by split at h<;>exact h
   cases this;let⟨v,a,b⟩:=S.val i _ hs;exact⟨v,a,b.mono s1⟩
  | own ds =>
   split at h
   ·rename_i hc;cases h;let⟨a,vs,e1,e2,e3,e5,e4⟩:=S.own i ds hs;refine⟨.ref a,e1,?_⟩;simp?[Rep];refine⟨a,vs,rfl,.inl (.inl ?_),e4.mono s1⟩;show (if P a then H a else HF a)=_;rw[yK ⟨i,ds,hc,hs,e1⟩];exact e2
   ·cases h
 ·rw[fj] at h;let⟨s,hs,h⟩:=ae h;rw[jC] at h;cases s with
  | Vs=>split at h<;>cases h
  | tab ks=>split at h<;>cases h
  | obj ks=>split at h<;>cases h
  | val e=>split at h<;>cases h
  | own es =>
   split at h
   ·cases h
   ·rename_i hc;cases h;let⟨a,vs,e1,e2,e3,e5,e4⟩:=S.own i ds hs;refine⟨a,vs,e1,e2,?_,e5,e4.mono s1⟩;show (if P a then H a else HF a)=none;rw[yM ?_]
    ·exact e3
    ·rintro⟨j,es,hj,h1,h2⟩;have:=S.inj i j ds es a hs h1 e1 h2;subst this;exact hc hj
 ·rw[fj] at h1 h2;let⟨s,hs,h1⟩:=ae h1;let⟨s',WZ,h2⟩:=ae h2;rw[jC] at h1 h2;cases s with
  | Vs=>split at h1<;>cases h1
  | tab ks=>split at h1<;>cases h1
  | obj ks=>split at h1<;>cases h1
  | val e=>split at h1<;>cases h1
  | own xs =>
   cases s' with
   | Vs=>split at h2<;>cases h2
   | tab ks=>split at h2<;>cases h2
   | obj ks=>split at h2<;>cases h2
   | val e=>split at h2<;>cases h2
   | own ys=>exact S.inj i j _ _ a hs WZ
 ·let⟨a,VP,e1,e2,e3,e5,e4⟩:=S.tab i ks (rN h);refine⟨a,VP,e1,e2,?_,e5,e4.1,e4.2.mono s1⟩;show (if P a then H a else HF a)=none;rw[yM ?_]
  ·exact e3
  ·rintro⟨j,es,hj,h1,h2⟩;let⟨a',vs,f1,f2,_⟩:=S.own j es h1;rw[h2] at f1;cases f1;rw[e2] at f2;cases f2
def fF.Wc(S:fF K Vr H₀ HF H ρ σ)(r:Rep K HF d v):fF K Vr H₀ HF H (ρ.set i (.val d)) (σ.set i (some v)):=by
 have ne:∀ {j:Nat}{s:Slot},(ρ.set i (.val d))[j]?=some s->(∀e,s≠.val e)->i≠j/\ρ[j]?=some s:=λ{j s} h hn=>by
  rw[xH] at h;by_cases Vy:i=j
  ·rw[yK Vy] at h;split at h
   ·cases h;exact absurd rfl (hn _)
   ·cases h
  ·rw[yM Vy] at h;exact⟨Vy,h⟩
 refine⟨S.gr,λj e h=>?_,λj ds h=>?_,λj k ds es a h1 h2 h3 h4=>?_,by rw[yC,yC];exact S.len,S.tb,λj ks h=>?_,λj k ks ls h1 h2=>S.one j k ks ls (ne h1 λe z=>by cases z).2 (ne h2 λe z=>by cases z).2,λj k h=>by rw[xH,yM (ne h λe z=>by cases z).1];exact S.ob j k (ne h λe z=>by cases z).2⟩
 ·rw[xH] at h ⊢;by_cases Vy:i=j
  ·rw[yK Vy] at h ⊢;split at h
   ·rename_i hl;cases h;rw[yK (zP hl S.len)];exact⟨v,rfl,r⟩
   ·cases h
  ·rw[yM Vy] at h ⊢;exact S.val j e h
 ·let⟨Vy,h⟩:=ne h λe z=>by cases z
  rw[xH,yM Vy];exact S.own j ds h
 ·let⟨n1,h1⟩:=ne h1 λe z=>by cases z
  let⟨n2,h2⟩:=ne h2 λe z=>by cases z
  rw[xH,yM n1] at h3;rw[xH,yM n2] at h4;exact S.inj j k ds es a h1 h2 h3 h4
 ·let⟨Vy,h⟩:=ne h λe z=>by cases z
  rw[xH,yM Vy];exact S.tab j ks h
def fF.aa7(S:fF K Vr H₀ HF H ρ σ)(hs:aB H H')(h1:H' a=some (.lst vs))(h2:HF a=none)(h3:H₀ a=none)(r:au K HF ds vs)
  (fr:∀j es,i≠j->ρ[j]?=some (.own es)->σ[j]?≠some (some (.ref a))):fF K Vr H₀ HF H' (ρ.set i (.own ds)) (σ.set i (some (.ref a))):=by
 have S:=S.step hs;have no:∀ {j k:Nat},(ρ.set i (.own ds))[j]?=some (.obj k)->i≠j/\ρ[j]?=some (.obj k):=λ{j k} h=>by
  rw[xH] at h;by_cases Vy:i=j
  ·rw[yK Vy] at h;split at h<;>cases h
  ·rw[yM Vy] at h;exact⟨Vy,h⟩
 have nt:∀ {j:Nat}{ks:Γ (Γ Int)},(ρ.set i (.own ds))[j]?=some (.tab ks)->i≠j/\ρ[j]?=some (.tab ks):=λ{j ks} h=>by
  rw[xH] at h;by_cases Vy:i=j
  ·rw[yK Vy] at h;split at h<;>cases h
  ·rw[yM Vy] at h;exact⟨Vy,h⟩
 refine⟨S.gr,λj e h=>?_,λj es h=>?_,λj k xs ys b e1 e2 e3 e4=>?_,by rw[yC,yC];exact S.len,S.tb,λj ks h=>by rw[xH,yM (nt h).1];exact S.tab j ks (nt h).2,λj k ks ls h1 h2=>S.one j k ks ls (nt h1).2 (nt h2).2,λj k h=>by rw[xH,yM (no h).1];exact S.ob j k (no h).2⟩
 ·rw[xH] at h ⊢;by_cases Vy:i=j
  ·rw[yK Vy] at h;split at h<;>cases h
  ·rw[yM Vy] at h ⊢;exact S.val j e h
 ·rw[xH] at h ⊢;by_cases Vy:i=j
  ·rw[yK Vy] at h ⊢;split at h
   ·rename_i hl;cases h;rw[yK (zP hl S.len)];exact⟨a,vs,rfl,h1,h2,h3,r⟩
   ·cases h
  ·rw[yM Vy] at h ⊢;exact S.own j es h
 ·rw[xH] at e1 e2 e3 e4;by_cases Vy:i=j
  ·by_cases W5:i=k
   ·exact Vy.symm.trans W5
   ·rw[yK Vy] at e1 e3;rw[yM W5] at e2 e4;split at e3
    ·cases e3;exact absurd e4 (fr k ys W5 e2)
    ·cases e3
  ·by_cases W5:i=k
   ·rw[yM Vy] at e1 e3;rw[yK W5] at e2 e4;split at e4
    ·cases e4;exact absurd e3 (fr j xs Vy e1)
    ·cases e4
   ·rw[yM Vy] at e1 e3;rw[yM W5] at e2 e4;exact S.inj j k xs ys b e1 e2 e3 e4
end
inductive Out where
 | nx (ρ:ao)|rt (d:D)
def C6(K:Φ)(Vr:Hp)(H₀:Hq)(HF:Hp)(E:Ends):Out->Prop
 | .nx ρ'=>∀σ' H' Vt,fF K Vr H₀ Vt H' ρ' σ'->aB HF Vt->E.nx σ' H'
 | .rt d=>∀v H' Vt,bA Vr H₀ Vt H'->Rep K Vt d v->E.rt v H'
def tS(K:Φ)(Vr:Hp)(H₀:Hq)(g:ao->Δ Out):TS:=λE σ H=>∃HF ρ o,fF K Vr H₀ HF H ρ σ/\g ρ=some o/\C6 K Vr H₀ HF E o
def DS(X:Cx)(Vr:Hp)(H₀:Hq)(st:Ω)(g:ao->Δ Out):Prop:=PS X st (tS X.K Vr H₀ g)
def BQ(X:Cx)(Vr:Hp)(H₀:Hq)(st:Γ Ω)(g:ao->Δ Out):Prop:=uC X st (tS X.K Vr H₀ g)
section
variable {X:Cx}{Vr:Hp}{H₀:Hq}{st:Ω}{rest:Γ Ω}{g g1 g2:ao->Δ Out}{e:γ}{pos:Pos}
def aW(h:PS X st t)(i:∀E σ H,t' E σ H->t E σ H):PS X st t':=λpins s σ H E I q=>h pins s σ H E I (i E σ H q)
def p9(h:uC X rest t)(i:∀E σ H,t' E σ H->t E σ H):uC X rest t':=λpins s σ H E I q=>h pins s σ H E I (i E σ H q)
def gV:ao->Δ Out:=λρ=>some (.nx ρ)
def aD(g1 g2:ao->Δ Out):ao->Δ Out:=λρ=>(g1 ρ).bind fun|.nx ρ'=>g2 ρ'|.rt d=>some (.rt d)
def C6.mono{K:Φ}(s:aB HF Vt)(h:C6 K Vr H₀ HF E o):C6 K Vr H₀ Vt E o:=by
 cases o with
 | nx ρ'=>exactλσ' H' VG S s2=>h σ' H' VG S (s.trans s2)
 | rt d=>exact h
def Jz:BQ X Vr H₀ [] gV:=p9 uZ λE σ H z=>by let⟨HF,ρ,o,S,hg,q⟩:=z;cases hg;exact q σ H HF S (.refl _)
def Hx(h1:DS X Vr H₀ st g1)(h2:BQ X Vr H₀ rest g2):BQ X Vr H₀ (st::rest) (aD g1 g2):=p9 (dM h1 h2) λE σ H z=>by
 sleep 12;let⟨o1,h,hg⟩:=bs hg;refine⟨HF,ρ,o1,S,h,?_⟩;cases o1 with
 | nx ρ'=>exactλσ' H' Vt S' s=>⟨Vt,ρ',o,S',hg,q.mono s⟩
 | rt d=>cases hg;exact q
def JX(h1:DS X Vr H₀ st g1):BQ X Vr H₀ [st] g1:=pX h1
def JK:DS X Vr H₀ (.Pass pos) gV:=aW Jt λE σ H z=>by let⟨HF,ρ,o,S,hg,q⟩:=z;cases hg;exact q σ H HF S (.refl _)
def MQ{x j pos pos'}:DS X Vr H₀ (.Expr (.Constant (.str x) j pos) pos') gV:=aW Pb λE σ H z=>by let⟨HF,ρ,o,S,hg,q⟩:=z;cases hg;exact q σ H HF S (.refl _)
def iH(t:Env->Δ θ)(g1 g2:ao->Δ Out):ao->Δ Out:=λρ=>(t (aQ ρ)).bind λb=>if b=true then g1 ρ else g2 ρ
def Rp(hc:DT X c t)(ha:BQ X Vr H₀ a g1)(hb:BQ X Vr H₀ b g2):DS X Vr H₀ (.If c a b pos) (iH t g1 g2):=aW (Dh hc ha hb) λE σ H z=>by
 sleep 12;let⟨b,h,hg⟩:=bs hg;refine⟨H,aQ ρ,b,.refl _,S.all,h,λH' Vt G=>?_⟩;cases b with
 | true=>exact sj ⟨HF,ρ,o,S.step G.hh,hg,q⟩
 | false=>exact pR ⟨HF,ρ,o,S.step G.hh,hg,q⟩
def yp:∀ (ρ:ao) (k n:Nat),k+ρ.length<=n->bp (hand (List.range n) k ρ)=aQ ρ
 | [],k,n,h=>rfl
 | s::r,k,n,h=>by
  have hk:(List.range n).contains k=true:=by simp at h ⊢;lia
  have ih:=yp r (k+1) n (by simp at h;lia);unfold bp aQ at ih ⊢;rw[hand,yK hk,zI,zI,ih];cases s<;>rfl
def bc(f:Env->Δ D):ao->Δ Out:=λρ=>(f (aQ ρ)).map Out.rt
def O0(h:DE X e f):DS X Vr H₀ (.Return (some e) pos) (bc f):=aW (u9 h) λE σ H z=>by
 sleep 12;let⟨d,h,rfl⟩:=ae hg;let⟨Vu,s1,S1⟩:=S.hand (List.range ρ.length);refine⟨Vu,aQ ρ,d,S1.gr.fh,?_,h,λv H' Vt G r=>q v H' Vt (S1.gr.trans G) r⟩;have:=S1.V5;rw[yp ρ 0 ρ.length (by lia)] at this;exact this
def jq:D->θ|.none=>true|.bool _=>true|.int _=>true|.str _=>true|_=>false
def rq{K:Φ}(h:jq d=true)(r:Rep K HF d v):Rep K Vt d v:=by
 cases d<;>cases h<;>(simp?[Rep] at r ⊢;exact r)
mutual
def gJ:D->θ
 | .tuple ds=>ox ds
 | .list _=>false
 | .dict _=>false
 | _=>true
def ox:Γ D->θ
 | []=>true
 | d::ds=>gJ d&&ox ds
end
mutual
theorem xl{K:Φ}{H1 H2:Hp}(ht:∀a xs,gG K H1 a xs->gG K H2 a xs):∀ {d:D}{v:V},gJ d=true->Rep K H1 d v->Rep K H2 d v
 | .none,_,_,r=>by simp?[Rep] at r ⊢;exact r
 | .bool _,_,_,r=>by simp?[Rep] at r ⊢;exact r
 | .int _,_,_,r=>by simp?[Rep] at r ⊢;exact r
 | .str _,_,_,r=>by simp?[Rep] at r ⊢;exact r
 | .tuple ds,v,h,r=>by
  simp?[gJ] at h;simp?[Rep] at r ⊢;let⟨a,vs,e,q,rr⟩:=r;exact⟨a,vs,e,ht _ _ q,uo ht h rr⟩
 | .list _,_,h,_=>by simp[gJ] at h
 | .dict _,_,h,_=>by simp[gJ] at h
theorem uo{K:Φ}{H1 H2:Hp}(ht:∀a xs,gG K H1 a xs->gG K H2 a xs):∀ {ds:Γ D}{vs:Γ V},ox ds=true->au K H1 ds vs->au K H2 ds vs
 | [],_,_,r=>by simp?[au] at r ⊢;exact r
 | d::ds,vs,h,r=>by
  simp?[ox,zF] at h;simp?[au] at r ⊢;let⟨v,r',e,a,b⟩:=r;exact⟨v,r',e,xl ht h.1 a,uo ht h.2 b⟩
end
def fF.back{K:Φ}(S:fF K Vr H₀ HF H ρ σ)(S1:fF K Vr H₀ Vu H ρ1 σ)(s1:aB HF Vu)(G:bA Vu H Vt H'):∃VG,aB HF VG/\fF K Vr H₀ VG H' ρ σ/\(∀d v,gJ d=true->Rep K Vt d v->Rep K VG d v)/\∀b o,VG b=some o->Vt b=some o:=by
 have cl:=Classical.propDecidable;let O:Ψ->Prop:=λa=>(∃ (i:Nat) (ds:Γ D),ρ[i]?=some (Slot.own ds)/\σ[i]?=some (some (V.ref a)))\/∃ (i:Nat) (ks:Γ (Γ Int)),ρ[i]?=some (Slot.tab ks)/\σ[i]?=some (some (V.ref a));let VG:Hp:=λa=>if O a then none else Vt a
 have hO:∀a,O a->HF a=none/\((∃vs,H a=some (.lst vs))\/∃VP,H a=some (.dT VP)):=λa z=>by
  rcases z with ⟨i,ds,h1,h2⟩|⟨i,ks,h1,h2⟩
  ·let⟨a',vs,e1,e2,e3,_,_⟩:=S.own i ds h1;rw[h2] at e1;cases e1;exact⟨e3,.inl ⟨vs,e2⟩⟩
  ·let⟨a',VP,e1,e2,e3,_,_⟩:=S.tab i ks h1;rw[h2] at e1;cases e1;exact⟨e3,.inr ⟨VP,e2⟩⟩
 have h2:∀a,¬ O a->VG a=Vt a:=λa n=>yM n;have h3:∀a,O a->VG a=none:=λa n=>yK n;have sa:aB HF VG:=λb o e=>by
  have nb:¬ O b:=λz=>by rw[(hO b z).1] at e;cases e
  rw[h2 b nb];exact G.ff b o (s1 b o e)
 have sb:∀b o,VG b=some o->Vt b=some o:=λb o e=>by
  by_cases z:O b
  ·rw[h3 b z] at e;cases e
  ·rwa [h2 b z] at e
 have g2:=S1.gr.trans G;refine⟨VG,sa,⟨⟨g2.hh,S.gr.ff.trans sa,λb o e=>G.fh b o (sb b o e),λb o e=>g2.nw b o (sb b o e)⟩,λi d h=>?_,λi ds h=>?_,S.inj,S.len,S.tb.mono sa,λi ks h=>?_,S.one,S.ob⟩,λd v hn r=>xl (λa xs q=>?_) hn r,sb⟩
 ·let⟨v,e1,r⟩:=S.val i d h;exact⟨v,e1,r.mono sa⟩
 ·let⟨a,vs,e1,e2,e3,e5,e4⟩:=S.own i ds h;exact⟨a,vs,e1,G.hh _ _ e2,h3 a (.inl ⟨i,ds,h,e1⟩),e5,e4.mono sa⟩
 ·let⟨a,VP,e1,e2,e3,e5,e4⟩:=S.tab i ks h;exact⟨a,VP,e1,G.hh _ _ e2,h3 a (.inr ⟨i,ks,h,e1⟩),e5,e4.1,e4.2.mono sa⟩
 ·have nt:∀o,Vt a=some o->(∀vs,o≠.lst vs)->(∀VP,o≠.dT VP)->VG a=some o:=λo e Wi Am=>by
   by_cases z:O a
   ·rcases (hO a z).2 with ⟨vs,e2⟩|⟨vs,e2⟩
    ·have:=G.hh _ _ e2;rw[G.fh a o e] at this;cases this;exact absurd rfl (Wi vs)
    ·have:=G.hh _ _ e2;rw[G.fh a o e] at this;cases this;exact absurd rfl (Am vs)
   ·rw[h2 a z];exact e
  rcases q with (q|⟨o,q⟩)|q
  ·exact .inl (.inl (nt _ q (λvs z=>by cases z) λvs z=>by cases z))
  ·exact .inl (.inr ⟨o,nt _ q (λvs z=>by cases z) λvs z=>by cases z⟩)
  ·exact .inr q
def aS(i:Nat)(fz:Γ Nat)(f:Env->Δ D):ao->Δ Out:=λρ=>(f (aQ ρ)).bind λd=>if jq d=true then some (.nx (ρ.set i (.val d))) else (f (bp (hand fz 0 ρ))).map λd'=>.nx ((if gJ d'=true then ρ else hand fz 0 ρ).set i (.val d'))
def Qh:∀E σ H,tS X.K Vr H₀ (aS i fz f) E σ H->AC (tD X.K f) (qu i) E σ H:=λE σ H z=>by
 sleep 12;let⟨d,h,hg⟩:=bs hg;split at hg
 ·rename_i hs;cases hg;exact⟨H,aQ ρ,d,.refl _,S.all,h,λv H' Vt G r=>q _ H' HF ((S.step G.hh).Wc (rq hs r)) (.refl _)⟩
 ·let⟨d',h',rfl⟩:=ae hg;let⟨Vu,s1,S1⟩:=S.hand fz;refine⟨Vu,_,d',S1.gr.fh,S1.V5,h',λv H' Vt G r=>?_⟩;by_cases hn:gJ d'=true
  ·rw[yK hn] at q;let⟨VG,s2,S2,hb,_⟩:=S.back S1 s1 G;exact q _ H' VG (S2.Wc (hb d' v hn r)) s2
  ·rw[yM hn] at q;exact q _ H' Vt ((S1.grow G).Wc r) (s1.trans G.ff)
def Nb(i:Nat)(fz:Γ Nat)(hN:X.N.Nodup)(hi:X.N[i]?=some x)(hx:Loc X.env.scope x)(he:DE X e f)(hs:swapsWith e (some (.Name x pos')) pos.line X.env=pure false:=by rfl)
  (hf:X.fn x=true\/X.env.scope.names.lookup x=some .local:=by first|exact .inl rfl|exact .inr rfl|assumption):DS X Vr H₀ (.Assign [.Name x pos'] e pos) (aS i fz f):=aW (lb hN hi hx he hs hf) Qh
def bw(i:Nat)(fz:Γ Nat)(f:Env->Δ (Γ D)):ao->Δ Out:=λρ=>(f (bp (hand fz 0 ρ))).map λds=>.nx ((hand fz 0 ρ).set i (.own ds))
def HU:∀E σ H,tS X.K Vr H₀ (bw i fz f) E σ H->AC (tF X.K f) (qu i) E σ H:=λE σ H z=>by
 sleep 12;let⟨ds,h,rfl⟩:=ae hg;let⟨Vu,s1,S1⟩:=S.hand fz;refine⟨Vu,_,ds,S1.gr.fh,S1.V5,h,λa vs H' Vt G ha hf h' r=>q _ H' Vt ?_ (s1.trans G.ff)⟩;have S2:=S1.grow G;refine S2.aa7 (.refl _) h' hf (S1.gr.hh.free ha) r λj es _ hj z=>?_;let⟨b,us,e1,e2,_⟩:=S1.own j es hj;rw[e1] at z;cases z;rw[ha] at e2;cases e2
def wW(i:Nat)(fz:Γ Nat)(hN:X.N.Nodup)(hi:X.N[i]?=some x)(hx:Loc X.env.scope x)(he:DF X e f)(hs:swapsWith e (some (.Name x pos')) pos.line X.env=pure false:=by rfl)
  (hf:X.fn x=true\/X.env.scope.names.lookup x=some .local:=by first|exact .inl rfl|exact .inr rfl|assumption):DS X Vr H₀ (.Assign [.Name x pos'] e pos) (bw i fz f):=aW (lb hN hi hx he hs hf) HU
def IR(i:Nat)(fz:Γ Nat){cs:Γ Nat}
  (hc:X.calm=true) (S:iP X scope N (ke t cs)) (hi:DI X tg iter fi)
  (hY:∀fp s H,DG (aY X scope N fp s H) tg tgt/\Rk (aY X scope N fp s H) ifs tt/\DE (aY X scope N fp s H) elt te)
  (hN:X.N.Nodup) (hiy:X.N[i]?=some y) (hy:X.env.scope.names.lookup y=some .local)
  (hsw:swapsWith (.ListComp elt [⟨tg,iter,ifs,0⟩] scope pos) (some (.Name y py)) V0.line X.env=pure true)
  (hs:∀x,foldedSetIterable iter X.env x=pure x:=by intro _;rfl):DS X Vr H₀ (.Assign [.Name y py] (.ListComp elt [⟨tg,iter,ifs,0⟩] scope pos) V0) (bw i fz (ay t cs fi tgt tt te)) :=
 aW (Jx (g:=SD X.K tgt) (tt:=Je X.K tt) (te:=tD X.K te) hc S hi hY hN hiy hy hsw hs) λE σ H q=>by
  have:=HU E σ H q;exact Hz σ H _ this
def UW(K:Φ)(Vr:Hp)(H₀:Hq)(f:ao->D->Δ ao):TG:=λv σ H Q=>∃HF ρ d ρ',fF K Vr H₀ HF H ρ σ/\Rep K HF d v/\f ρ d=some ρ'/\∀σ',fF K Vr H₀ HF H ρ' σ'->Q σ' H
def P6(X:Cx)(Vr:Hp)(H₀:Hq)(tg:γ)(f:ao->D->Δ ao):Prop:=PG X tg (UW X.K Vr H₀ f)
def oW(i:Nat):ao->D->Δ ao:=λρ d=>some (ρ.set i (.val d))
def E8(i:Nat)(hN:X.N.Nodup)(hi:X.N[i]?=some x)(hx:Loc X.env.scope x)(hf:X.fn x=true\/X.env.scope.names.lookup x=some .local:=by first|exact .inl rfl|exact .inr rfl|assumption):P6 X Vr H₀ (.Name x pos) (oW i) :=
 rF (dv hN hi hx hf) λv σ H Q z=>by let⟨HF,ρ,d,ρ',S,r,hf,q⟩:=z;cases hf;exact q _ (S.Wc r)
def gU(i j:Nat):ao->D->Δ ao:=λρ d=>match d with
 | .tuple [x,y]=>some ((ρ.set i (.val x)).set j (.val y))
 | _=>none
def KQ(i j:Nat){px py:Pos}{k:Nat}(hc:X.calm=true)(hN:X.N.Nodup)(hi:X.N[i]?=some x)(hx:Loc X.env.scope x)(hj:X.N[j]?=some y)(hy:Loc X.env.scope y)
  (hf:X.fn x=true\/X.env.scope.names.lookup x=some .local:=by first|exact .inl rfl|exact .inr rfl|assumption) (YD:X.fn y=true\/X.env.scope.names.lookup y=some .local:=by first|exact .inl rfl|exact .inr rfl|assumption) :
  P6 X Vr H₀ (.Tuple [.Name x px,.Name y py] k pos) (gU i j) :=
 rF (wz hc (dh (dv hN hi hx hf) (dh (dv hN hj hy YD) p8))) λv σ H Q z=>by
  let⟨HF,ρ,d,ρ',S,r,hf,q⟩:=z;unfold gU at hf;split at hf
  ·cases hf;simp?[Rep] at r;let⟨a,vs,rfl,hs,rr⟩:=r;let⟨v1,r1,rfl,a1,b1⟩:=rr.cons_inv;let⟨v2,r2,rfl,a2,b2⟩:=b1.cons_inv;rw[b2.nil_inv] at hs;exact⟨a,_,rfl,aE S.gr.fh hs,rfl,v1,_,rfl,v2,_,rfl,rfl,q _ ((S.Wc a1).Wc a2)⟩
  ·cases hf
def fq(tgt:ao->D->Δ ao)(gb:ao->Δ Out):Γ D->ao->Δ Out
 | [],ρ=>some (.nx ρ)
 | d::ds,ρ=>(tgt ρ d).bind λρ1=>(gb ρ1).bind fun|.nx Wb=>fq tgt gb ds Wb|.rt v=>some (.rt v)
def gw(fz:Γ Nat)(fi:Env->Δ (Γ D))(tgt:ao->D->Δ ao)(gb:ao->Δ Out):ao->Δ Out:=λρ=>(fi (bp (hand fz 0 ρ))).bind λds=>fq tgt gb ds (hand fz 0 ρ)
def NC(fz:Γ Nat)(hp:PassesOwn (model X.prog X.w) X.A X.env X.xe)(hc:X.calm=true)(hi:DI X tg iter fi)(hg:P6 X Vr H₀ tg tgt)(hb:BQ X Vr H₀ body gb)
  (hs:∀x,foldedSetIterable iter X.env x=pure x:=by intro _;rfl):DS X Vr H₀ (.For tg iter body [] pos) (gw fz fi tgt gb):=aW (GD hp hc hi hg hb hs) λE σ H z=>by
 sleep 12;let⟨ds,h,hg⟩:=bs hg;let⟨Vu,s1,S1⟩:=S.hand fz;refine⟨Vu,_,ds,S1.gr.fh,S1.V5,h,λJ H2 VG G it=>?_⟩;refine⟨λi m σ' H'=>m+i=ds.length/\∃Vt ρ',fF X.K Vr H₀ Vt H' ρ' σ'/\aB VG Vt/\fq tgt gb (ds.drop i) ρ'=some o,⟨ds.length,rfl,VG,_,S1.grow G,.refl _,hg⟩,?_⟩;rintro i m σ' H' ⟨hm,Vt,ρ',S',s',hf⟩;by_cases hi:i < ds.length
 ·refine .inr ?_;have hd:ds.drop i=ds[i]::ds.drop (i+1):=kR hi;have he:ds[i]?=some ds[i]:=List.getElem?_eq_some_iff.mpr ⟨hi,rfl⟩;generalize ds[i]=d at hd he;rw[hd] at hf;unfold fq at hf;let⟨ρ1,h1,hf⟩:=bs hf;let⟨o1,h2,hf⟩:=bs hf;let⟨go,YA⟩:=it.go i d H' Vt he s' S'.gr.fh;refine⟨go,λWW H3=>∃VW WS,fF X.K Vr H₀ VW H3 WS WW/\aB VG VW/\fq tgt gb (ds.drop (i+1)) WS=some o,λWW H3 z=>by let⟨VW,WS,a1,a2,a3⟩:=z;exact ⟨m - 1,by lia,by lia,VW,WS,a1,a2,a3⟩,λx H3 y=>?_⟩;let⟨VW,G3,rx⟩:=YA x H3 y;refine⟨VW,ρ',d,ρ1,S'.grow G3,rx,h1,λWW S2=>⟨VW,ρ1,o1,S2,h2,?_⟩⟩;cases o1 with
  | nx Wb=>exactλσ4 H4 WK S4 s4=>⟨WK,Wb,S4,(s'.trans G3.ff).trans s4,hf⟩
  | rt d=>cases hf;exact q
 ·have Wv:i=ds.length:=by lia
  subst Wv;rw[List.drop_length] at hf;cases hf;exact .inl ⟨it.stop H' Vt s' S'.gr.fh,q σ' H' Vt S' ((s1.trans G.ff).trans s')⟩
end
def To(X:Cx)(sc:ζ):Prop:=∀x k,sc.names.lookup x=some k->X.env.kindOf x=some k\/(k=.free/\X.env.kindOf x=some .cell)
structure Bk(X:Cx)(N:List Str)(sc:Scope)(k:Nat):Prop where
 n:X.N=N
 nd:N.Nodup
 tb:To X sc
 calm:X.calm=true
 fn:∀x,sc.names.lookup x=some .cell->X.fn x=true
 room:cJ k X.A
 xe:X.xe=λ_ _=>False
 kd:X.env.scope.kind=.function
def d4:Γ Str:=["len","isinstance","int","bool","tuple","list","range","all","any","set","sorted","enumerate","zip","sum","min","max","reversed","abs","dict","str","type","iter","next"]
def Bn(X:Cx):Prop:=∀x∈d4,X.mg x=none
def Ad(sc:ζ)(x:Str):θ:=decide (sc.names.lookup x=some .globalImplicit)
def lT(N:Γ Str)(sc:ζ)(i:Nat)(x:Str):θ:=decide (N[i]?=some x)&&(decide (sc.names.lookup x=some .local)||decide (sc.names.lookup x=some .cell)||decide (sc.names.lookup x=some .free))&&!(x == ("__debug__":Str))&&!(x == ("__classdict__":Str))
def lU(N:Γ Str)(sc:ζ)(i:Nat)(x:Str):θ:=decide (N[i]?=some x)&&(decide (sc.names.lookup x=some .local)||decide (sc.names.lookup x=some .cell))
def Bk.gl(C:Bk X N sc k)(h:Ad sc x=true):Gl X x:=by
 rcases C.tb x _ (yP h) with q|⟨q,_⟩
 ·exact q
 ·cases q
def Bk.XN(C:Bk X N sc k)(h:lT N sc i x=true):X.N[i]?=some x/\oo X.env.scope x/\(x == ("__debug__":Str))=false/\(x == ("__classdict__":Str))=false:=by
 unfold lT at h;simp?[zF,jA,zJ,yO] at h;let⟨⟨⟨h1,h2⟩,h3⟩,h4⟩:=h;refine⟨by rw[C.n];exact h1,?_,h3,h4⟩;rcases h2 with (h2|h2)|h2
 ·rcases C.tb x _ h2 with q|⟨q,_⟩
  ·exact .inl q
  ·cases q
 ·rcases C.tb x _ h2 with q|⟨q,_⟩
  ·exact .inr (.inl q)
  ·cases q
 ·rcases C.tb x _ h2 with q|⟨_,q⟩
  ·exact .inr (.inr q)
  ·exact .inr (.inl q)
def Bk.loc(C:Bk X N sc k)(h:lU N sc i x=true):X.N.Nodup/\X.N[i]?=some x/\Loc X.env.scope x/\(X.fn x=true\/X.env.scope.names.lookup x=some .local):=by
 unfold lU at h;simp?[zF,jA,zJ] at h;let⟨h1,h2⟩:=h;refine⟨by rw[C.n];exact C.nd,by rw[C.n];exact h1,?_⟩;rcases h2 with h2|h2
 ·rcases C.tb x _ h2 with q|⟨q,_⟩
  ·exact⟨.inl q,.inr q⟩
  ·cases q
 ·rcases C.tb x _ h2 with q|⟨q,_⟩
  ·exact⟨.inr q,.inl (C.fn x h2)⟩
  ·cases q
def Bk.blt(C:Bk X N sc k)(B:Bn X)(h:Ad sc x=true)(hm:x∈d4)(hv:bootBuiltins x=some v):pW X x v:=⟨C.gl h,B x hm,hv⟩
def Bk.v(C:Bk X N sc k)(i:Nat)(h:lT N sc i x=true):DE X (.Name x pos) (ab i):=let ⟨a,b,c,d⟩:=C.XN h;PM i a b c d
def Bk.pass(C:Bk X N sc k):PassesOwn (model X.prog X.w) X.A X.env X.xe:=by rw[C.xe];exact PassesOwn.never
def oO(sc scope:ζ)(N N':Γ Str)(t:Nat)(cs:Γ Nat):θ :=
 decide (scope.kind=.function)&&scope.names.all (λp=>(!decide (p.2=NameKind.free)||decide (sc.names.lookup p.1=some .cell)||decide (sc.names.lookup p.1=some .free))&&(!decide (p.2=NameKind.local)||decide (scope.names.lookup p.1=some .local)))
  &&scope.names.all (λp=>!decide (p.2=NameKind.cell)||!scope.names.any λq=>decide (q.1=p.1)&&decide (q.2=NameKind.free))
  &&decide (N'.length=t+cs.length)&&decide (N'.drop t=cs.filterMap λj=>N[j]?)&&cs.all (λj=>decide (j < N.length))&&(N'.drop t).all (λx=>decide (scope.names.lookup x=some .free))&&decide N'.Nodup
def filterMap_get(N:Γ α):∀ (cs:Γ Nat),(∀j∈cs,j < N.length)->∀ (i:Nat),(cs.filterMap λj=>N[j]?)[i]?=(cs[i]?).bind λj=>N[j]?
 | [],_,i=>by simp
 | c::cs,h,i=>by
  have hc:=h c zE;rw[jF,zK hc];cases i with
  | zero=>simp[hc]
  | succ i =>
   simp?[yX];exact filterMap_get N cs (λj hj=>h j (zC _ hj)) i
def Bk.comp(C:Bk X N sc k){cs:Γ Nat}(h:oO sc scope N N' t cs=true):iP X scope N' (ke t cs)/\∀fp s H,Bk (aY X scope N' fp s H) N' scope k:=by
 unfold oO at h;simp?[zF,zJ,xF,jA,yO,xA] at h;obtain⟨⟨⟨⟨⟨⟨⟨h1,h2⟩,h3⟩,h4⟩,h5⟩,h6⟩,h7⟩,h8⟩:=h;refine⟨⟨h1,λx hx hk=>?_,λ{x} a b=>?_,λx hx hk=>?_,λσ i x v e1 e2=>?_,λσ=>?_⟩,λfp s H=>⟨rfl,h8,λx k hx=>oG hx,C.calm,λx hx=>yA hx,C.room,rfl,h1⟩⟩
 ·rcases (h2 x hx).1 with (q|q)|q
  ·exact absurd hk q
  ·rcases C.tb _ _ q with z|⟨z,_⟩
   ·exact .inl z
   ·cases z
  ·rcases C.tb _ _ q with z|⟨_,z⟩
   ·exact .inr z
   ·exact .inl z
 ·rcases h3 _ a with q|q
  ·exact q rfl
  ·have:(scope.names.any λq=>decide (q.1=x)&&decide (q.2=NameKind.free))=true:=List.any_eq_true.mpr ⟨_,b,by simp⟩;rw[this] at q;cases q
 ·rcases (h2 x hx).2 with q|q
  ·exact absurd hk q
  ·exact q
 ·unfold ke at e2;by_cases hi:i < t
  ·rw[yR (by simpa using hi),yW,yK hi] at e2;cases e2
  ·rw[yS (by simpa using hi),zO,xK] at e2;let⟨j,hj,e2⟩:=ae e2;have e3:(N'.drop t)[i - t]?=some x:=by rw[List.getElem?_drop];rw[show t+(i - t)=i by lia];exact e1
   refine⟨h7 x (qA e3),j,?_,?_⟩
   ·rw[h5,filterMap_get N cs h6,hj] at e3;rw[C.n];exact e3
   ·cases e:σ[j]? with
    | none=>rw[e] at e2;cases e2
    | some o=>rw[e] at e2;have e2:o=some v:=e2;rw[e2]
 ·unfold ke;rw[zN,xK,zD,h4]
def bN(g:ao->Δ Out)(n:Nat)(args:Γ D):Δ D:=(g (args.map Slot.val++List.replicate (n - args.length) .Vs)).map fun|.rt d=>d|.nx _=>.none
def vn{ds:Γ D}{n i:Nat}{ks:Γ (Γ Int)}:¬ (ds.map Slot.val++List.replicate n .Vs)[i]?=some (.tab ks):=λh=>by
 rcases List.mem_append.mp (qA h) with z|z
 ·let⟨d,_,e⟩:=List.mem_map.mp z;cases e
 ·cases List.eq_of_mem_replicate z
def Hi{ds:Γ D}{n i:Nat}{k:Nat}:¬ (ds.map Slot.val++List.replicate n .Vs)[i]?=some (.obj k):=λh=>by
 rcases List.mem_append.mp (qA h) with z|z
 ·let⟨d,_,e⟩:=List.mem_map.mp z;cases e
 ·cases List.eq_of_mem_replicate z
def Qz{K:Φ}{st:Ω}(F:AI K x qual st f fd)(S:bj N ps (ah st))
  (body:∀X:Cx,X.prog=P->X.w=w->X.K=K->X.mg=mg->X.base=base->Bk X N (ah st) k->X.env.code=fd.code->X.env.qual=qual++".<locals>."->∀Vr H₀,BQ X Vr H₀ (aP st) g):cY P w K mg base nX (k+1) f fd ps (Qc K ps.length (bN g N.length)):=by
 sleep 20;refine xi lk VF S (λvs H Q E z=>by let⟨HF,ds,d,h1,_,h2,h3,_⟩:=z;rw[h2.length,h3]) λA outer s H vs Q E hr z=>?_;let⟨HF,ds,d,sm,tb,rr,hl,hd,q⟩:=z;refine⟨_,(body (tj nX P w K mg base N qual (ah st) f VT A outer s H E).X2 rfl rfl rfl rfl rfl ⟨rfl,S.nd,λy kd hy=>.inl hy,rfl,λ_ _=>rfl,hr,rfl,S.kind⟩ rfl rfl HF ⟨H,λ_=>0⟩).X2,?_⟩;unfold bN at hd;let⟨o,ho,hd⟩:=ae hd;have V1:ps.length<=N.length:=by have:=jB List.length S.pre;rw[jU] at this;lia
 refine⟨HF,_,o,⟨.refl sm,λi e h=>?_,λi es h=>?_,λi j es fs a h=>?_,?_,tb,λi ks h=>absurd h vn,λi j ks ls h=>absurd h vn,λi k h=>absurd h Hi⟩,ho,?_⟩
 ·have hi:i < ds.length:=by
   by_cases hi:i < ds.length
   ·exact hi
   ·rw[yS (by simpa using hi),yW] at h;split at h<;>cases h
  rw[yR (by simpa using hi),zO] at h;let⟨d',Xg,h⟩:=ae h;cases h;let⟨v,hv,rv⟩:=rr.getD Xg;refine⟨v,?_,rv⟩;unfold L2.start;rw[yR (by simpa [rr.length] using hi),zO,hv];rfl
 ·exfalso;by_cases hi:i < ds.length
  ·rw[yR (by simpa using hi),zO] at h;let⟨d',Xg,h⟩:=ae h;cases h
  ·rw[yS (by simpa using hi),yW] at h;split at h<;>cases h
 ·exfalso;by_cases hi:i < ds.length
  ·rw[yR (by simpa using hi),zO] at h;let⟨d',Xg,h⟩:=ae h;cases h
  ·rw[yS (by simpa using hi),yW] at h;split at h<;>cases h
 ·unfold L2.start;rw[zN,zN,zD,zD,xK,xK,rr.length];exact yL _
 ·cases o with
  | rt d'=>cases hd;exactλv H' Vt G r=>q v H' Vt G r
  | nx ρ'=>cases hd;exactλσ' H' Vt S' _=>q .Vs H' Vt S'.gr (by simp[Rep])
def UA{K:Φ}{st:Ω}(F:AI K x qual st f fd)(S:bj N ps (ah st))(hb:Binds K fd ps [])(hm:mg x=some (.ref f))
  (body:∀X:Cx,X.prog=P->X.w=w->X.K=K->X.mg=mg->X.base=base->Bk X N (ah st) k->X.env.code=fd.code->X.env.qual=qual++".<locals>."->∀Vr H₀,BQ X Vr H₀ (aP st) g):EW P w K mg base (k+1) x ps.length (bN g N.length):=⟨f,fd,ps,Qz F S body,hm,F.kp,hb⟩
def ph(fz:Γ Nat)(f:Env->Δ D)(ρ:ao):Δ (D×ao):=(f (aQ ρ)).bind λd=>if jq d=true then some (d,ρ) else (f (bp (hand fz 0 ρ))).map λd'=>(d',hand fz 0 ρ)
def oN{K:Φ}(S:fF K Vr H₀ HF H ρ σ)(h:ph fz f ρ=some (d,ρ'))
  (q:∀v H' Vt,aB HF Vt->fF K Vr H₀ Vt H' ρ' σ->aB H H'->Rep K Vt d v->Q v H'):tD K f σ H Q:=by
 let⟨d1,h1,h⟩:=bs h;split at h
 ·rename_i hs;cases h;exact⟨H,aQ ρ,d,.refl _,S.all,h1,λv H' Vt G r=>q v H' HF (.refl _) (S.step G.hh) G.hh (rq hs r)⟩
 ·let⟨d2,h2,h⟩:=ae h;cases h;let⟨Vu,s1,S1⟩:=S.hand fz;exact⟨Vu,_,d,S1.gr.fh,S1.V5,h2,λv H' Vt G r=>q v H' Vt (s1.trans G.ff) (S1.grow G) G.hh r⟩
def pV(i:Nat)(m:Γ D->Δ (Γ D))(ρ:ao):Δ Out:=match ρ[i]? with
 | some (.own ds)=>(m ds).map λes=>.nx (ρ.set i (.own es))
 | _=>none
def lF(h:pV i m ρ=some o):∃ds es,ρ[i]?=some (.own ds)/\m ds=some es/\o=.nx (ρ.set i (.own es)):=by
 unfold pV at h;split at h
 ·rename_i ds hd;let⟨es,h1,h2⟩:=ae h;exact⟨ds,es,hd,h1,h2.symm⟩
 ·cases h
def fF.mut{K:Φ}(S:fF K Vr H₀ HF H ρ σ)(h:ρ[i]?=some (.own ds))(ha:σ[i]?=some (some (.ref a)))(hH:H a=some (.lst vs))(r:au K HF es us) :
  fF K Vr H₀ HF (upd H a (.lst us)) (ρ.set i (.own es)) σ:=by
 let⟨a',Yl,e1,e2,e3,e5,e4⟩:=S.own i ds h;rw[ha] at e1;cases e1;have hl:i < ρ.length:=(List.getElem?_eq_some_iff.mp h).1;have gr:bA Vr H₀ HF (upd H a (.lst us)):=⟨λb o e=>by rw[ak (aG e e5)];exact S.gr.hh b o e,S.gr.ff,λb o e=>by rw[ak (aG e e3)];exact S.gr.fh b o e,S.gr.nw⟩
 have no:∀ {j k:Nat},(ρ.set i (.own es))[j]?=some (.obj k)->i≠j/\ρ[j]?=some (.obj k):=λ{j k} h=>by
  rw[xH] at h;by_cases Vy:i=j
  ·rw[yK Vy] at h;split at h<;>cases h
  ·rw[yM Vy] at h;exact⟨Vy,h⟩
 have nt:∀ {j:Nat}{ks:Γ (Γ Int)},(ρ.set i (.own es))[j]?=some (.tab ks)->ρ[j]?=some (.tab ks):=λ{j ks} h=>by
  rw[xH] at h;by_cases Vy:i=j
  ·rw[yK Vy] at h;split at h<;>cases h
  ·rw[yM Vy] at h;exact h
 refine⟨gr,λj d hj=>?_,λj xs hj=>?_,λj k xs ys b f1 f2 f3 f4=>?_,by rw[yC];exact S.len,S.tb,λj ks hj=>?_,λj k ks ls h1 h2=>S.one j k ks ls (nt h1) (nt h2),λj k h=>S.ob j k (no h).2⟩
 ·rw[xH] at hj;by_cases Vy:i=j
  ·rw[yK Vy] at hj;split at hj<;>cases hj
  ·rw[yM Vy] at hj;exact S.val j d hj
 ·rw[xH] at hj;by_cases Vy:i=j
  ·subst Vy;rw[yK rfl,yK hl] at hj;cases hj;exact⟨a,us,ha,aw,e3,e5,r⟩
  ·rw[yM Vy] at hj;let⟨b,ws,f1,f2,f3,f5,f4⟩:=S.own j xs hj;refine⟨b,ws,f1,?_,f3,f5,f4⟩;rw[ak]
   ·exact f2
   ·rintro rfl;exact Vy (S.inj i j ds xs b h hj ha f1)
 ·have old:∀ {j:Nat}{xs:Γ D},(ρ.set i (.own es))[j]?=some (.own xs)->∃ys,ρ[j]?=some (.own ys):=λ{j xs} hj=>by
   rw[xH] at hj;by_cases Vy:i=j
   ·subst Vy;exact⟨ds,h⟩
   ·rw[yM Vy] at hj;exact⟨xs,hj⟩
  let⟨xs',g1⟩:=old f1;let⟨ys',g2⟩:=old f2;exact S.inj j k xs' ys' b g1 g2 f3 f4
 ·let⟨b,VP,g1,g2,g3,g5,g4⟩:=S.tab j ks (nt hj);refine⟨b,VP,g1,?_,g3,g5,g4⟩;rw[ak λz=>by rw[z,e2] at g2;cases g2];exact g2
def mV(i:Nat)(fz:Γ Nat)(f:Env->Δ D):ao->Δ Out:=λρ=>(ph fz f ρ).bind λp=>pV i (λds=>if ds.length < sizeLine then some (ds++[p.1]) else none) p.2
def Ed(i:Nat)(fz:Γ Nat)(hN:X.N[i]?=some x)(hv:oo X.env.scope x)(h:DE X e f)(hd:(x == ("__debug__":Str))=false:=by decide)(VF:(x == ("__classdict__":Str))=false:=by decide)
  (V7:((backTo Vv (starEach [e] X.env)).all (λx=>!x.1)&&(backToKw Vv (keywordEach [] X.env)).all (λx=>x.1.isSome)&&decide ([e].length+([]:Γ Keyword).length+(if ([]:Γ Keyword).isEmpty then 0 else 1) < 30))=true:=by rfl)
  (VA:(apos.endLine == Vv.line)=true:=by rfl) (hs:starEach [e] X.env=(false,eval e X.env)::starEach [] X.env:=by rfl) :
  DS X Vr H₀ (.Expr (.Call (.Attribute (.Name x px) "append" apos) [e] [] Vv) pos) (mV i fz f) :=
 aW (gP (pK qM PySem.F.slot_list_append PySem.F.type_list_append iu (bb hN hv hd VF) (ba h cF hs) rfl V7 VA hs rfl)) λE σ H z=>by
  sleep 12;let⟨⟨d,ρ'⟩,h1,hg⟩:=bs hg;let⟨ds,es,h2,h3,rfl⟩:=lF hg;have Xl:∃YS,ρ[i]?=some (.own YS):=by
   let⟨d1,_,h1⟩:=bs h1;split at h1
   ·cases h1;exact⟨ds,h2⟩
   ·let⟨d2,_,h1⟩:=ae h1;cases h1;rw[fj] at h2;let⟨s,hs,h2⟩:=ae h2;cases s with
    | Vs=>split at h2<;>cases h2
    | tab _=>split at h2<;>cases h2
    | obj _=>split at h2<;>cases h2
    | val _=>split at h2<;>cases h2
    | own xs=>exact⟨xs,hs⟩
  let⟨YS,Xl⟩:=Xl;let⟨a,vs,e1,e2,e3,e5,e4⟩:=S.own i YS Xl;refine⟨.ref a,e1,.inl ⟨rfl,vs,gc.of e2⟩,oN S h1 λv H' Vt s1 S' sh r=>?_⟩;let⟨a',Yl,f1,f2,f3,f5,f4⟩:=S'.own i ds h2;rw[e1] at f1;cases f1;split at h3
  ·rename_i hz;cases h3;exact⟨a,Yl,v,rfl,rfl,f2,by rw[f4.length];exact hz,q σ _ Vt (S'.mut h2 e1 f2 (f4.append (au.cons r au.nil))) s1⟩
  ·cases h3
def uV(K:Φ)(o:Obj):Δ (Ψ×Str):=match o.data with
 | .func fd=>if j5.contains fd.qualname=true then (match fd.code with
   | .ref c=>(match K.lookup c with
    | some ⟨_,_,.fields vs,_⟩=>(match (vs[11]?:Δ Θ) with
     | some (.ref P)=>if W.codeHdIn K c P=true then some (P,fd.qualname++".<locals>."++"<lambda>") else none
     | _=>none)
    | _=>none)
   | _=>none) else none
 | _=>none
def g9(K:Φ):Γ (Ψ×Str):=K.filterMap λp=>uV K p.2
def nO(K:Φ)(ts:Γ Ψ):θ:=(g9 K).all λp=>ts.contains p.1&&(K.lookup p.1).isNone&&decide ((g9 K).lookup p.1=some p.2)
def yn{K:Φ}(h:uV K o=some (P,q)):∃c,W.codeHdIn K c P=true:=by
 unfold uV at h;split at h
 ·split at h
  ·split at h
   ·split at h
    ·split at h
     ·split at h
      ·cases h;exact⟨_,‹_›⟩
      ·cases h
     ·cases h
    ·cases h
   ·cases h
  ·cases h
 ·cases h
def yb{K:Φ}(h:(P,q)∈g9 K):∃c,W.codeHdIn K c P=true:=by
 let⟨p,_,e⟩:=List.mem_filterMap.mp h;exact yn e
def Bz{K:Φ}(a:K.lookup f=some ⟨oc,od,.func fd,sl⟩)(b:fd.qualname∈j5)(d:fd.code=.ref c)(e:W.codeHdIn K c P=true) :
  (P,fd.qualname++".<locals>."++"<lambda>")∈g9 K:=by
 refine List.mem_filterMap.mpr ⟨(f,_),W.mem_of_lookupK a,?_⟩;have e':=e;unfold W.codeHdIn at e';unfold uV;simp?[d,List.contains_iff_mem,b,xG];split at e'
 ·rename_i vs sl' hl;simp?[hl];simp?[zF] at e';have e1:=e'.1.1.1.1.1;split at e1
  ·rename_i P' hv;have:P'=P:=by simpa using e1
   subst this;simp?[hv,e,xG]
  ·cases e1
 ·cases e'
def EZ:∀ {l:Γ (Ψ×α)},l.lookup b=some q->(b,q)∈l
 | [],e=>by cases e
 | (c,x)::r,e=>by
  rw[yB] at e;cases h:b == c with
  | true=>rw[h] at e;cases e;rw[eq_of_beq h];exact zE
  | false=>rw[h] at e;exact zC _ (EZ e)
def fR(K:Φ)(h0:Hp):Hp:=λb=>match (g9 K).lookup b with|some q=>some (.tab q)|none=>h0 b
def Dw{K:Φ}(h:nO K ts=true):cy K (fR K h0):=λf oc od fd sl c P a b d e=>by
 have hm:=Bz a b d e;have:=List.all_eq_true.mp h _ hm;simp?[zF,zJ] at this;unfold fR;rw[this.2]
def Dt{w:δ}{K:Φ}{CX:LL}{k:Nat}{fa:Ψ}{fd:η}{sp:Sp}{vs:Γ Θ}{ns:Γ Int}
  (KX:K.In Vw.heap) (YC:Vw.heap.Ns mainGlobals mg) (hb:Vw.heap.Ns builtinsNs mb) (hbb:∀x:Str,x≠"__name__"->mb x=bootBuiltins x) (adD:Vw.heap.NoLimit) (hbm:Sq mg Vw.heap) (hg:Vw.gens=#[])
  (ht:nO K ts=true) (hts:∀P∈ts,Vw.heap.get? P=some (W.tabObj #[]))
  (ha:Vw.heap.get? a=some { cls:=.type "list",data:=.seq vs.toArray }) (hi:IntsAre vs ns) (hl:ns.length<=sizeLine) (hr:cJ k callerA)
  (F:∀base:ι,K.In base->base.Ns mainGlobals mg->cY P w K mg base CX k fa fd [x] sp) (aa8:∀ (s:Ξ) (u:Θ),BindsTo s fd ⟨[u],[]⟩ [(x,u)])
  (hsp:∀H:Hp,cy K H->gc K H a (ns.map V.int)->sp [.ref a] H (λv _=>v=.bl true) λ_ _ _=>False)
  (hCX:∀H e s',CX [] H Vw (λ_ _ _=>False) e s'->False) :
  codeAny (model P w) callerA (.call (.ref fa) ⟨[.ref a],[]⟩) (λr s'=>r=.ok (.ret (.bool true))/\OldK Vw.heap s'.heap/\s'.os=Vw.os/\AllBare s'.gens) Vw:=by
 have rv:=tJ hi;have adH:=hi.length;have tabAt:∀b q,(g9 K).lookup b=some q->Vw.heap.get? b=some (W.tabObj #[])/\K.lookup b=none/\∃c,W.CodeHd Vw.heap c b:=λb q e=>by
  have hm:=EZ e;have:=List.all_eq_true.mp ht _ hm;simp?[zF,zJ,List.contains_iff_mem,Option.isNone_iff_eq_none] at this;let⟨c,hc⟩:=yb hm;exact⟨hts b this.1.1,this.1.2,c,W.codeHd_of_K KX hc⟩
 have aT:(g9 K).lookup a=none:=by
  cases e:(g9 K).lookup a with
  | none=>rfl
  | some q=>have:=(tabAt a q e).1;rw[ha] at this;cases this
 have core:∀h0:Hp,gc K (fR K h0) a (ns.map V.int)->pS P w (fR K h0) Vw.heap->(∀b,h0 b≠none->b=a)->(h0 a≠none->K.lookup a=none)->(∀b,h0 b=none\/∃o xs,h0 b=some (.V5 o (.lst xs))) ->
   codeAny (model P w) callerA (.call (.ref fa) ⟨[.ref a],[]⟩) (λr s'=>r=.ok (.ret (.bool true))/\OldK Vw.heap s'.heap/\s'.os=Vw.os/\AllBare s'.gens) Vw:=by
  intro h0 hS Vx hA hK hO;have look:∀b u,fR K h0 b=some u->(∃q,(g9 K).lookup b=some q/\u=.tab q)\/(b=a/\h0 b=some u):=λb u e=>by
   unfold fR at e;split at e
   ·rename_i q hq;cases e;exact .inl ⟨q,hq,rfl⟩
   ·exact .inr ⟨hA b (by rw[e];simp),e⟩
  have nL:∀ {b:Ψ}{o:Obj},Vw.heap.get? b=some o->fR K h0 b=none->(wa Vw.heap (fR K h0)).get? b=some o:=λe n=>Gu e n;have YB:∀ {b:Ψ}{o:Obj},Vw.heap.get? b=some o->(∀vs n,o.data≠.seq vs n)->(∀vs,o.data≠.fields vs)->fR K h0 b=none:=λ{b o} e d d2=>by
   cases q:fR K h0 b with
   | none=>rfl
   | some u =>
    rcases look b u q with ⟨q',z,_⟩|⟨z,_⟩
    ·rw[(tabAt b q' z).1] at e;cases e;exact absurd rfl (d2 _)
    ·subst z;rw[ha] at e;cases e;exact absurd rfl (d _ _)
  have nsK:∀ {b:Ψ}{m:Str->Δ Θ},Vw.heap.Ns b m->(wa Vw.heap (fR K h0)).Ns b m:=λ{b m} z=>by let⟨o,es,ep,e,d,r⟩:=z;exact ⟨o,es,ep,nL e (YB e (λ_ _ z=>by rw[d] at z;cases z) λ_ z=>by rw[d] at z;cases z),d,r⟩
  have hKb:K.In (wa Vw.heap (fR K h0)):=λb o e=>nL (KX b o e) (by
   cases q:fR K h0 b with
   | none=>rfl
   | some u =>
    rcases look b u q with ⟨q',z,_⟩|⟨z,z2⟩
    ·rw[(tabAt b q' z).2.1] at e;cases e
    ·subst z;rw[hK (by rw[z2];simp)] at e;cases e)
  have hM:Mod K mg (wa Vw.heap (fR K h0)):=⟨hKb,nsK YC,⟨mb,nsK hb,hbb⟩,let ⟨mc,h1,h2⟩:=adD;⟨mc,nsK h1,h2⟩,
   let ⟨bm,o,b1,b2,b3,b4,b5,b6,b7⟩:=hbm;⟨bm,o,b1,b2,b3,nL b4 (YB b4 (λ_ _ z=>by rw[b7] at z;cases z) λ_ z=>by rw[b7] at z;cases z),b5,b6,b7⟩⟩
  have e0:AK P w K mg (wa Vw.heap (fR K h0)) callerA [] Vw (fR K h0):=⟨rfl,hM,λb o e=>LD e,Nat.le_of_eq (Dp _ _),trivial,λb hb=>absurd (show b∈([]:Γ Ψ) from hb) (by simp),Vx,.of_eq hg⟩
  refine jQ ((F _ hKb (nsK YC)).run callerA [] Vw (fR K h0) ⟨[.ref a],[]⟩ [.ref a] [.ref a] _ _ hr e0 (aa8 Vw (.ref a)) (.cons rfl .nil) (hsp _ (Dw ht) hS)) λr s' h=>?_;cases r with
  | error e=>exact (hCX _ e s' h).elim
  | ok fl =>
   cases fl with
   | next=>exact False.elim h
   | brk=>exact False.elim h
   | cont=>exact False.elim h
   | ret u =>
    let⟨v,H',os,bare,un,adI,r',q⟩:=h;have q':v=.bl true:=q;subst q';obtain rfl:u=Value.bool true:=r';have key:∀b o,Vw.heap.get? b=some o->s'.heap.get? b=some o\/(isCodeTable Vw.heap b/\o=W.tabObj #[]/\∃ps,s'.heap.get? b=some (W.tabObj ps)):=λb o e=>by
     cases q:fR K h0 b with
     | none=>exact .inl (un.keep b o e q (by intro z;exact absurd (show b∈([]:Γ Ψ) from z) (by simp)) (by simp))
     | some u =>
      rcases look b u q with ⟨q',z,rfl⟩|⟨z,z2⟩
      ·let⟨t1,_,c,t3⟩:=tabAt b q' z;let⟨more,m1⟩:=un.Wx.gr b q' #[] q t1;rw[e] at t1;cases t1;exact .inr ⟨(t3.tab e).isCodeTable,rfl,_,m1⟩
      ·rcases hO b with z3|⟨ob,xs,z3⟩
       ·rw[z2] at z3;cases z3
       ·rw[z2] at z3;cases z3;have z4:=un.WH b ob _ q;let⟨e1,_⟩:=Vx b _ q;let⟨e2,_⟩:=adI b _ z4;rw[e] at e1;cases e1;exact .inl e2
    refine⟨rfl,⟨λb o e=>?_,λb o e=>?_⟩,os,bare⟩
    ·rcases key b o e with z|⟨t,rfl,ps,z⟩
     ·exact .inl z
     ·exact .inr (.inl ⟨t,rfl,#[],ps,rfl,by rw[Array.empty_append];exact z⟩)
    ·rcases key b o e with z|⟨_,_,ps,z⟩
     ·exact⟨o,z⟩
     ·exact⟨_,z⟩
 have hoT:∀ (h0:Hp) b q,(g9 K).lookup b=some q->dO P w (fR K h0) Vw.heap b (.tab q):=λh0 b q e=>⟨#[],(tabAt b q e).1,trivial,λpos v z=>by cases z⟩
 cases hk:K.lookup a with
 | some o =>
  have e:=KX a o hk;rw[ha] at e;cases e;refine core (λ_=>none) (.inr ⟨_,vs.toArray,_,hk,rfl,rfl,rfl,by rw[zH,adH];exact hl,by simpa using rv⟩) (λb u z=>?_) (λb z=>absurd rfl z) (λz=>absurd rfl z) λ_=>.inl rfl;unfold fR at z;split at z
  ·rename_i q hq;cases z;exact hoT _ b q hq
  ·cases z
 | none =>
  refine core (λb=>if b=a then some (.V5 { cls:=.type "list",data:=.seq vs.toArray } (.lst (ns.map V.int))) else none) (.inl (.inr ⟨{ cls:=.type "list",data:=.seq vs.toArray },?_⟩)) (λb u z=>?_) (λb z=>?_) (λ_=>hk) λb=>?_
  ·unfold fR;rw[aT];exact yK rfl
  ·unfold fR at z;split at z
   ·rename_i q hq;cases z;exact hoT _ b q hq
   ·by_cases hb:b=a
    ·replace z:=(yK hb).symm.trans z;cases z;subst hb;exact⟨ha,by rw[zD];exact hl,vs,_,rv,ha⟩
    ·replace z:=(yM hb).symm.trans z;cases z
  ·by_cases hb:b=a
   ·exact hb
   ·exact absurd (yM hb) z
  ·by_cases hb:b=a
   ·exact .inr ⟨_,_,yK hb⟩
   ·exact .inl (yM hb)
def G9{l:W.OpenLaw}{n k:Nat}{q:ε}{loose:Γ Str}{XP:(Str->Δ Θ)->ι->Prop}{YP:δ->ι->Prop}{d:DefRec}{K:Params->Φ}{CX:δ->LL}{sp:δ->Sp}{x:Str}{ts:Γ Ψ}
  (hn:l.most=some n) (hn2:n<=sizeLine) (hdf:d.params.defaults=[]) (hr:cJ k callerA)
  (hY:∀ (w:δ) (h:ι),YP w h->(K w.params).In h/\∀P∈ts,h.get? P=some (W.tabObj #[])) (ht:∀w:δ,nO (K w.params) ts=true)
  (F:∀ (w:δ) (mg:Str->Δ Θ) (fa:Ψ) (h:ι),(K w.params).In h->h.Ns mainGlobals mg->mg d.name=some (.ref fa) ->
   ∃fd:η,(∀ (s:Ξ) (u:Θ),BindsTo s fd ⟨[u],[]⟩ [(x,u)]) /\
    ∀base:ι,(K w.params).In base->base.Ns mainGlobals mg->cY l.prog w (K w.params) mg base (CX w) k fa fd [x] (sp w))
  (hsp:∀ (w:δ) (H:Hp) (a:Ψ) (ns:Γ Int),ns.length<=n->cy (K w.params) H->gc (K w.params) H a (ns.map V.int)->sp w [.ref a] H (λv _=>v=.bl true) λ_ _ _=>False)
  (hCX:∀ (w:δ) (H:Hp) (s:Ξ) (e:Θ) (s':Ξ),CX w [] H s (λ_ _ _=>False) e s'->False) :
  W.WalkO q loose XP YP l.row.toRowW d [] (λf vs=>PySem.call f vs):=by
 refine Att.W8 hn hdf λw VM Vw mg mb fa o pm cd doc a vs ns G Y ho hd VF hmg ZU hints hlen hg=>?_;let⟨KX,hts⟩:=hY w _ Y;let⟨fd,hb,hF⟩:=F w mg fa _ KX G.T.g hmg;have hbm:Sq mg Vw.heap:=by
  let⟨bm,ob,b1,b2,b3,b4,b5,b6⟩:=G.T.bmain;refine⟨bm,ob,b1,b2,λz=>?_,b3,b4,b5,b6⟩;let⟨o',es,ep,e1,e2,_⟩:=G.T.g;rw[<- z,b3] at e1;cases e1;rw[b6] at e2;cases e2
 exact Dt KX G.T.g G.T.b G.T.builtins G.T.nolimit hbm hg (ht w) hts ZU hints (yD hlen hn2) hr hF hb (λH hT hS=>hsp w H a ns hlen hT hS) λH e s'=>hCX w H Vw e s'
end Dl
namespace SP
open PySem PySem.W PyProof.Rows
def run(lt:Nat->Nat->θ):KasT α->α
 | .ret a=>a
 | .ask i j k=>run lt (k (lt i j))
def hV(lt:Nat->Nat->θ)(f:α->KasT β):∀t:KasT α,run lt (t.bind f)=run lt (f (run lt t))
 | .ret a=>rfl
 | .ask i j k=>by
  show run lt ((k (lt i j)).bind f)=run lt (f (run lt (k (lt i j))));exact hV lt f (k (lt i j))
def P5(n:Nat):KasT α->Prop
 | .ret _=>True
 | .ask i j k=>i < n/\j < n/\∀b,P5 n (k b)
def wp_run(hc:∀i j C,i < n->j < n->C (lt i j) s->cmp i j C s):∀ (t:KasT α) {Q:α->Ξ->Prop},P5 n t->Q (run lt t) s->t.kasWp cmp Q s
 | .ret a,Q,_,h=>h
 | .ask i j k,Q,b,h=>hc i j _ b.1 b.2.1 (wp_run hc (k (lt i j)) (b.2.2 _) h)
def qw(n:Nat)(R:α->Prop):KasT α->Prop
 | .ret a=>R a
 | .ask i j k=>i < n/\j < n/\∀b,qw n R (k b)
def n8:∀ {t:KasT α},qw n R t->(∀a,R a->P5 n (f a))->P5 n (t.bind f)
 | .ret a,b,h=>h a b
 | .ask i j k,b,h=>⟨b.1,b.2.1,λc=>n8 (b.2.2 c) h⟩
def iQ:∀ {t:KasT α},qw n R t->(∀a,R a->qw n S (f a))->qw n S (t.bind f)
 | .ret a,b,h=>h a b
 | .ask i j k,b,h=>⟨b.1,b.2.1,λc=>iQ (b.2.2 c) h⟩
def Bd(n:Nat)(p:Array Nat):Prop:=∀a,p.getD a 0 < n
def Bd.perm(h:Bd n p)(e:q.Perm p):Bd n q:=by
 intro a;rw[qC];cases ha:q[a]? with
 | none=>have:=h p.size;rw[qC] at this;simpa using this
 | some x =>
  have hx:x∈q:=Array.mem_of_getElem? ha;have YF:x∈p:=e.mem_iff.mp hx;let⟨i,hi,rfl⟩:=Array.mem_iff_getElem.mp YF;have:=h i;rw[qC] at this;simpa [hi] using this
def Gg(h:Bd n p):∀f m,qw n (λ_=>True) (kas_asc p f m)
 | 0,m=>trivial
 | f+1,m=>⟨h _,h _,λc=>by
  dsimp only;split
  ·trivial
  ·exact Gg h f (m+1)⟩
def xu(h:Bd n p)(i j:Nat):Bd n (kas_rev p i j):=h.perm (mirror_perm _ _ _ _)
def w6:∀ (f:Nat) {p:Array Nat}(h:Bd n p) (m q:Nat),qw n (λr=>Bd n r.1) (kas_desc f p m q)
 | 0,p,h,m,q=>h
 | f+1,p,h,m,q=>⟨h _,h _,λc=>by
  dsimp only;split
  ·split
   ·exact w6 f (xu h _ _) (m+1) 0
   ·exact w6 f h (m+1) 0
  ·exact⟨h _,h _,λd=>by
    dsimp only;split
    ·exact h
    ·exact w6 f h (m+1) (q+1)⟩⟩
def Dd(h:Bd n p)(m nrem:Nat):qw n (λr=>Bd n r.2) (kas_tail3 m nrem p):=iQ (Gg (xu h 0 m) _ _) λ_ _=>xu h 0 m
def qp(h:Bd n p)(m nrem:Nat):qw n (λr=>Bd n r.2) (kas_descPart m nrem p):=iQ (w6 _ h _ _) λr hr=>by
 split
 ·exact Dd (xu hr _ _) _ _
 ·exact Dd hr _ _
def KY(h:Bd n p)(nrem:Nat):qw n (λr=>Bd n r.2) (kas_count nrem p):=iQ (Gg h _ _) λm _=>by
 split
 ·exact h
 ·split
  ·exact⟨h _,h _,λc=>by
    dsimp only;split
    ·exact h
    ·exact qp (xu h _ _) _ _⟩
  ·exact qp h _ _
def uW(h:Bd n p)(k:Nat):∀f l r,qw n (λ_=>True) (kas_place p k f l r)
 | 0,l,r=>trivial
 | f+1,l,r=>by
  unfold kas_place;split
  ·trivial
  ·exact⟨h _,h _,λc=>by
    dsimp only;split
    ·exact uW h k f _ _
    ·exact uW h k f _ _⟩
def Mg:∀ (f:Nat) {p:Array Nat}(h:Bd n p) (k:Nat),P5 n (kas_bin f p k)
 | 0,p,h,k=>trivial
 | f+1,p,h,k=>n8 (uW h k _ _ _) λl _=>Mg f (h.perm (bubble_perm _ _ _)) (k+1)
def Fy(h1:1<=n):P5 n (kas_sort n):=by
 have h:Bd n (List.toArray (List.range n)):=λa=>by
  rw[qC];by_cases ha:a < n
  ·simp[ha]
  ·simp[ha];lia
 refine n8 (KY h n) λr hr=>?_;split
 ·exact Mg _ hr _
 ·trivial
section
variable (z:Nat->Int)
def Z(p:Array Nat)(a:Nat):Int:=z (p.getD a 0)
def eS:Nat->Nat->θ:=λi j=>decide (z i < z j)
def nE(h:p[a]?=q[b]?):Z z p a=Z z q b:=by
 unfold Z;rw[qC,qC,h]
def F8(hj:j<=p.size)(k:Nat):Z z (kas_rev p i j) k=if i<=k/\k < j then Z z p (i+j - 1 - k) else Z z p k:=by
 have e:=getElem?_mirror_all (xs:=p) (i:=i) hj k;unfold kas_rev;by_cases h1:i<=k/\k < j
 ·rw[yK h1] at e ⊢;exact nE z e
 ·rw[yM h1] at e ⊢;exact nE z e
def FV(hs:src < p.size)(hd:d<=src)(k:Nat):Z z (bubble p src d) k=if k=src - d then Z z p src else if src - d < k/\k<=src then Z z p (k - 1) else Z z p k:=by
 have e:=getElem?_bubble hs d hd k;by_cases h1:k=src - d
 ·rw[yK h1] at e ⊢;exact nE z e
 ·rw[yM h1] at e ⊢;by_cases h2:src - d < k/\k<=src
  ·rw[yK h2] at e ⊢;exact nE z e
  ·rw[yM h2] at e ⊢;exact nE z e
def Up(p:Array Nat)(n:Nat):Prop:=∀a b,a<=b->b < n->Z z p a<=Z z p b
def Dn(p:Array Nat)(n:Nat):Prop:=∀a b,a<=b->b < n->Z z p b<=Z z p a
variable {z}
def IX(h:Up z p n)(hn:1<=n)(h1:Z z p (n - 1)<=Z z p n):Up z p (n+1):=by
 intro a b WA hb;by_cases Z6:b < n
 ·exact h a b WA Z6
 ·have e:b=n:=by lia
  subst e;by_cases ha:a=b
  ·subst ha;exact xY _
  ·exact jS (h a (b - 1) (by lia) (by lia)) h1
def S9:∀ (f n:Nat),1<=n->Up z p n->n<=run (eS z) (kas_asc p f n)/\run (eS z) (kas_asc p f n)<=n+f/\Up z p (run (eS z) (kas_asc p f n))/\(run (eS z) (kas_asc p f n) < n+f->Z z p (run (eS z) (kas_asc p f n)) < Z z p (run (eS z) (kas_asc p f n) - 1))
 | 0,n,hn,h=>⟨yL _,yL _,h,λq=>absurd q (qD _)⟩
 | f+1,n,hn,h=>by
  unfold kas_asc;show n<=run (eS z) (if eS z (p.getD n 0) (p.getD (n - 1) 0)=true then .ret n else kas_asc p f (n+1))/\run (eS z) (if eS z (p.getD n 0) (p.getD (n - 1) 0)=true then .ret n else kas_asc p f (n+1))<=n+(f+1)/\Up z p (run (eS z) (if eS z (p.getD n 0) (p.getD (n - 1) 0)=true then .ret n else kas_asc p f (n+1)))/\(run (eS z) (if eS z (p.getD n 0) (p.getD (n - 1) 0)=true then .ret n else kas_asc p f (n+1)) < n+(f+1)->Z z p (run (eS z) (if eS z (p.getD n 0) (p.getD (n - 1) 0)=true then .ret n else kas_asc p f (n+1))) < Z z p (run (eS z) (if eS z (p.getD n 0) (p.getD (n - 1) 0)=true then .ret n else kas_asc p f (n+1)) - 1))
  by_cases hc:eS z (p.getD n 0) (p.getD (n - 1) 0)=true
  ·rw[yK hc];exact⟨yL _,jT _ _,h,λ_=>yP hc⟩
  ·rw[yM hc];have h1:Z z p (n - 1)<=Z z p n:=by
    have:¬ (Z z p n < Z z p (n - 1)):=λq=>hc (yA q);lia
   let⟨a,b,c,d⟩:=S9 f (n+1) (by lia) (IX h hn h1);exact⟨by lia,by lia,c,λq=>d (by lia)⟩
def AY(hj:j<=p.size)(h:∀a b,i<=a->a < j->i<=b->b < j->Z z p a=Z z p b)(k:Nat):Z z (kas_rev p i j) k=Z z p k:=by
 rw[F8 z hj];split
 ·rename_i hk;exact h _ _ (by lia) (by lia) hk.1 hk.2
 ·rfl
def rY(e:∀k,Z z q k=Z z p k)(h:Dn z p n):Dn z q n:=λa b WA hb=>by rw[e,e];exact h a b WA hb
def OJ(hn:n<=p.size)(h:Dn z p n):Up z (kas_rev p 0 n) n:=by
 intro a b WA hb;rw[F8 z hn,F8 z hn,yK ⟨xU _,by lia⟩,yK ⟨xU _,hb⟩];exact h _ _ (by lia) (by lia)
def nu(p:Array Nat)(i j:Nat):(kas_rev p i j).size=p.size:=mirror_size _ _ _ _
def nV(p:Array Nat)(i j:Nat):(kas_rev p i j).Perm p:=mirror_perm _ _ _ _
structure Nz(z:Nat->Int)(VN p:Array Nat)(n q nrem:Nat):Prop where
 perm:p.Perm VN
 size:p.size=VN.size
 le:n<=nrem
 qn:q+1<=n
 dn:Dn z p n
 eq:∀a b,n - (q+1)<=a->a < n->n - (q+1)<=b->b < n->Z z p a=Z z p b
def Jr(hz:nrem<=VN.size):∀ (f:Nat) (p:Array Nat) (n q:Nat),n+f<=nrem->Nz z VN p n q nrem ->
  let r:=run (eS z) (kas_desc f p n q);Nz z VN r.1 r.2.1 r.2.2 nrem
 | 0,p,n,q,hn,h=>h
 | f+1,p,n,q,hn,h=>by
  intro r;have hr:r=run (eS z) (if eS z (p.getD n 0) (p.getD (n - 1) 0)=true then (if q > 0 then kas_desc f (kas_rev p (n - (q+1)) n) (n+1) 0 else kas_desc f p (n+1) 0)
   else .ask (p.getD (n - 1) 0) (p.getD n 0) λd=>if d=true then .ret (p,n,q) else kas_desc f p (n+1) (q+1)):=rfl
  have hq:=h.qn;by_cases hc:eS z (p.getD n 0) (p.getD (n - 1) 0)=true
  ·rw[yK hc] at hr;have VU:Z z p n < Z z p (n - 1):=yP hc;have step:∀p':Array Nat,p'.Perm VN->p'.size=VN.size->(∀k,Z z p' k=Z z p k)->Nz z VN p' (n+1) 0 nrem:=λp' a1 a2 a3=>by
    refine⟨a1,a2,by lia,by lia,λa b WA hb=>?_,λa b h1 h2 h3 h4=>by rw[show a=b by lia]⟩;rw[a3,a3];by_cases Z6:b < n
    ·exact h.dn a b WA Z6
    ·have e:b=n:=by lia
     subst e;by_cases ha:a=b
     ·subst ha;exact xY _
     ·exact jS (Int.le_of_lt VU) (h.dn a (b - 1) (by lia) (by lia))
   by_cases hq0:q > 0
   ·rw[yK hq0] at hr;rw[hr];exact Jr hz f _ (n+1) 0 (by lia) (step _ ((nV _ _ _).trans h.perm) (by rw[nu,h.size]) (AY (by rw[h.size];lia) h.eq))
   ·rw[yM hq0] at hr;rw[hr];exact Jr hz f p (n+1) 0 (by lia) (step p h.perm h.size λ_=>rfl)
  ·rw[yM hc] at hr;have Zd:Z z p (n - 1)<=Z z p n:=by
    have:¬ (Z z p n < Z z p (n - 1)):=λq=>hc (yA q);lia
   have WY:r=run (eS z) (if eS z (p.getD (n - 1) 0) (p.getD n 0)=true then .ret (p,n,q) else kas_desc f p (n+1) (q+1)):=hr;by_cases hd:eS z (p.getD (n - 1) 0) (p.getD n 0)=true
   ·rw[yK hd] at WY;rw[WY];exact h
   ·rw[yM hd] at WY;rw[WY];have heq:Z z p n=Z z p (n - 1):=by
     have:¬ (Z z p (n - 1) < Z z p n):=λq=>hd (yA q);lia
    refine Jr hz f p (n+1) (q+1) (by lia) ⟨h.perm,h.size,by lia,by lia,λa b WA hb=>?_,λa b h1 h2 h3 h4=>?_⟩
    ·by_cases Z6:b < n
     ·exact h.dn a b WA Z6
     ·have e:b=n:=by lia
      subst e;by_cases ha:a=b
      ·subst ha;exact xY _
      ·rw[heq];exact h.dn a (b - 1) (by lia) (by lia)
    ·have key:∀c,n+1 - (q+1+1)<=c->c < n+1->Z z p c=Z z p (n - 1):=λc c1 c2=>by
      by_cases hcn:c < n
      ·exact h.eq c (n - 1) (by lia) hcn (by lia) (by lia)
      ·have e:c=n:=by lia
       subst e;exact heq
     rw[key a h1 h2,key b h3 h4]
structure R6(z:Nat->Int)(VN:Array Nat)(nrem:Nat)(r:Nat×Array Nat):Prop where
 perm:r.2.Perm VN
 size:r.2.size=VN.size
 ge:1<=r.1
 le:r.1<=nrem
 up:Up z r.2 r.1
def tail3(hz:nrem<=VN.size)(h1:1<=n)(hn:n<=nrem)(hp:p.Perm VN)(hs:p.size=VN.size)(hd:Dn z p n):R6 z VN nrem (run (eS z) (kas_tail3 n nrem p)):=by
 unfold kas_tail3;rw[hV];let⟨a,b,c,_⟩:=S9 (nrem - n) n h1 (OJ (by lia) hd);exact⟨(nV _ _ _).trans hp,by show (kas_rev p 0 n).size=_;rw[nu,hs],by show 1<=run _ (kas_asc _ _ _);lia,by show run _ (kas_asc _ _ _)<=nrem;lia,c⟩
def descPart(hz:nrem<=VN.size)(h1:1<=n)(hn:n < nrem)(hp:p.Perm VN)(hs:p.size=VN.size)(hd:Dn z p n)(VU:Z z p n<=Z z p (n - 1)):R6 z VN nrem (run (eS z) (kas_descPart n nrem p)):=by
 unfold kas_descPart;rw[hV];have D:=Jr (z:=z) hz (nrem - (n+1)) p (n+1) 0 (by lia) ⟨hp,hs,by lia,by lia,λa b WA hb=>by
  by_cases Z6:b < n
  ·exact hd a b WA Z6
  ·have e:b=n:=by lia
   subst e;by_cases ha:a=b
   ·subst ha;exact xY _
   ·exact jS VU (hd a (b - 1) (by lia) (by lia)),λa b h1 h2 h3 h4=>by rw[show a=b by lia]⟩
 dsimp only at D;generalize run (eS z) (kas_desc (nrem - (n+1)) p (n+1) 0)=r at D;have hq:=D.qn;split
 ·exact tail3 hz (by lia) D.le ((nV _ _ _).trans D.perm) (by rw[nu,D.size]) (rY (AY (by have:=D.size;have:=D.le;lia) D.eq) D.dn)
 ·exact tail3 hz (by lia) D.le D.perm D.size D.dn
def count(hz:nrem<=p.size)(h1:1<=nrem):R6 z p nrem (run (eS z) (kas_count nrem p)):=by
 unfold kas_count;rw[hV];let⟨a,b,c,d⟩:=S9 (z:=z) (p:=p) (nrem - 1) 1 (yL _) (λx y hxy hy=>by rw[show x=y by lia];exact xY _);generalize run (eS z) (kas_asc p (nrem - 1) 1)=n at a b c d;split
 ·exact⟨Array.Perm.refl _,rfl,a,by show n<=nrem;lia,c⟩
 ·rename_i Wi;have VU:n < nrem:=by
   have:n≠nrem:=λe=>Wi (by simp[e]);lia
  have hd:=d (by lia);split
  ·rename_i hn1;show R6 z p nrem (run (eS z) (if eS z (p.getD 0 0) (p.getD (n - 1) 0)=true then .ret (n,p) else kas_descPart n nrem (kas_rev p 0 n)));by_cases hc:eS z (p.getD 0 0) (p.getD (n - 1) 0)=true
   ·rw[yK hc];exact⟨Array.Perm.refl _,rfl,a,by show n<=nrem;lia,c⟩
   ·rw[yM hc];have Zd:Z z p (n - 1)<=Z z p 0:=by
     have:¬ (Z z p 0 < Z z p (n - 1)):=λq=>hc (yA q);lia
    have all:∀x,x < n->Z z p x=Z z p 0:=λx hx=>by
     have e1:=c 0 x (xU _) hx;have e2:=c x (n - 1) (by lia) (by lia);lia
    have same:=AY (z:=z) (p:=p) (i:=0) (j:=n) (by lia) λx y _ hx _ hy=>by rw[all x hx,all y hy]
    refine descPart hz (by lia) VU (nV _ _ _) (by rw[nu]) (λx y hxy hy=>?_) ?_
    ·rw[same,same,all x (by lia),all y hy];exact xY _
    ·rw[same,same];lia
  ·exact descPart hz (by lia) VU (Array.Perm.refl _) rfl (λx y hxy hy=>by rw[show x=y by lia];exact xY _) (by lia)
def place(hu:Up z p k):∀ (f l r:Nat),r - l<=f->l<=r->r<=k->(∀a,a < l->Z z p a<=Z z p k)->(∀a,r<=a->a < k->Z z p k<=Z z p a) ->
  let m:=run (eS z) (kas_place p k f l r);m<=k/\(∀a,a < m->Z z p a<=Z z p k)/\(∀a,m<=a->a < k->Z z p k<=Z z p a)
 | 0,l,r,hf,hl,hr,h1,h2=>by
  intro m;have e:l=r:=by lia
  subst e;exact⟨hr,h1,h2⟩
 | f+1,l,r,hf,hl,hr,h1,h2=>by
  intro m;have hm:m=run (eS z) (if l >= r then .ret l else .ask (p.getD k 0) (p.getD ((l+r) / 2) 0) λc=>if c=true then kas_place p k f l ((l+r) / 2) else kas_place p k f ((l+r) / 2+1) r):=rfl;by_cases hlr:l >= r
  ·rw[yK hlr] at hm;rw[hm];have e:l=r:=by lia
   subst e;exact⟨hr,h1,h2⟩
  ·rw[yM hlr] at hm;have Wo:m=run (eS z) (if eS z (p.getD k 0) (p.getD ((l+r) / 2) 0)=true then kas_place p k f l ((l+r) / 2) else kas_place p k f ((l+r) / 2+1) r):=hm;by_cases hc:eS z (p.getD k 0) (p.getD ((l+r) / 2) 0)=true
   ·rw[yK hc] at Wo;rw[Wo];have VU:Z z p k < Z z p ((l+r) / 2):=yP hc;exact place hu f l ((l+r) / 2) (by lia) (by lia) (by lia) h1 λa ha hak=>jS (Int.le_of_lt VU) (hu _ a ha hak)
   ·rw[yM hc] at Wo;rw[Wo];have Zd:Z z p ((l+r) / 2)<=Z z p k:=by
     have:¬ (Z z p k < Z z p ((l+r) / 2)):=λq=>hc (yA q);lia
    exact place hu f ((l+r) / 2+1) r (by lia) (by lia) hr (λa ha=>jS (hu a ((l+r) / 2) (by lia) (by lia)) Zd) h2
def bin:∀ (f:Nat) (p:Array Nat) (k:Nat),p.Perm VN->p.size=VN.size->k+f<=VN.size->Up z p k ->
  (run (eS z) (kas_bin f p k)).Perm VN/\(run (eS z) (kas_bin f p k)).size=VN.size/\Up z (run (eS z) (kas_bin f p k)) (k+f)
 | 0,p,k,hp,hs,hk,hu=>⟨hp,hs,hu⟩
 | f+1,p,k,hp,hs,hk,hu=>by
  unfold kas_bin;rw[hV];have P:=place hu k 0 k (by lia) (by lia) (yL _) (λa ha=>absurd ha (vK _)) λa ha hak=>absurd ha (by lia);dsimp only at P;generalize run (eS z) (kas_place p k k 0 k)=l at P;let⟨p1,p2,p3⟩:=P;have zb:=FV z (p:=p) (src:=k) (d:=k - l) (by lia) (by lia);have e:k - (k - l)=l:=by lia
  rw[e] at zb;let⟨q1,q2,q3⟩:=bin f (bubble p k (k - l)) (k+1) ((bubble_perm _ _ _).trans hp) (by rw[bubble_size,hs]) (by lia) λa b WA hb=>by
   rw[zb,zb];by_cases ha1:a=l
   ·rw[yK ha1];by_cases YG:b=l
    ·rw[yK YG];exact xY _
    ·rw[yM YG];rw[yK (by lia)];exact p3 _ (by lia) (by lia)
   ·rw[yM ha1];by_cases YG:b=l
    ·rw[yK YG,yM (by lia)];exact p2 a (by lia)
    ·rw[yM YG];by_cases ha2:l < a/\a<=k
     ·rw[yK ha2,yK (by lia)];exact hu _ _ (by lia) (by lia)
     ·rw[yM ha2];by_cases hb2:l < b/\b<=k
      ·rw[yK hb2];exact hu _ _ (by lia) (by lia)
      ·rw[yM hb2];exact hu _ _ WA (by lia)
  exact⟨q1,q2,by rw[show k+(f+1)=k+1+f by lia];exact q3⟩
def iX(h1:1<=n):(run (eS z) (kas_sort n)).toList.Perm (List.range n)/\((run (eS z) (kas_sort n)).toList.map z).Pairwise (·<=·):=by
 have hsz:(List.toArray (List.range n)).size=n:=by simp
 have C:=count (z:=z) (p:=List.toArray (List.range n)) (nrem:=n) (by lia) h1;have fin:∀p:Array Nat,p.Perm (List.toArray (List.range n))->p.size=n->Up z p n->p.toList.Perm (List.range n)/\(p.toList.map z).Pairwise (·<=·):=λp a b c=>by
  refine⟨by have:=a.toList;simpa using this,?_⟩;rw[List.pairwise_iff_getElem];intro i j hi hj Vy;have Wv:i < n:=by simpa [b] using hi
  have YE:j < n:=by simpa [b] using hj
  have:=c i j (jR Vy) YE;unfold Z at this;have e1:p.getD i 0=p[i]:=by simp[Array.getD,b,Wv]
  have e2:p.getD j 0=p[j]:=by simp[Array.getD,b,YE]
  rw[e1,e2] at this;simpa using this
 unfold kas_sort;rw[hV];generalize run (eS z) (kas_count n (List.toArray (List.range n)))=r at C;let⟨k,p⟩:=r;have hs:=C.size;rw[hsz] at hs;split
 ·rename_i VU;have Zd:=C.ge;have e:max k 1=k:=by have:1<=k:=Zd;lia
  rw[e];let⟨q1,q2,q3⟩:=bin (z:=z) (n - k) p k C.perm C.size (by rw[hsz];have:k < n:=VU;lia) C.up;refine fin _ q1 (by rw[q2,hsz]) ?_;rw[show k+(n - k)=n by have:k < n:=VU;lia] at q3;exact q3
 ·rename_i adJ;have hle:=C.le;have e:k=n:=by have h3:k<=n:=hle;have h4:¬ k < n:=adJ;lia
  subst e;exact fin p C.perm hs C.up
end
end SP
namespace X6
open PySem PySem.W PySem.Calls PyProof.Rows
def VL(z:Nat->Int)(vs:Γ Θ):Γ Θ:=if vs.length < 2 then vs else (SP.run (SP.eS z) (kas_sort vs.length)).toList.map λi=>vs.getD i Value.none
def Xb(z:Nat->Int)(vs:Γ Θ):(VL z vs).length=vs.length:=by
 unfold VL;split
 ·rfl
 ·rename_i h;have:=(SP.iX (z:=z) (n:=vs.length) (by lia)).1.length_eq;simpa using this
def Xm{P:PySem.Fin->Ξ->Prop}(ho:s.heap.get? a=some (seqObj "list" vs.toArray n))(XO:vs.length < 64)(z:Nat->Int)(κ:SortKind)
  (hk:2<=vs.length->∀h':ι,(∀b o,b≠a->s.heap.get? b=some o->h'.get? b=some o)->∀Q':SortKind->Ξ->Prop,Q' κ { s with heap:=h' }->wpAny (model prog w) A (keyKind' vs.toArray) Q' (λ_ _=>False) { s with heap:=h' })
  (VU:2<=vs.length->∀h':ι,(∀b o,b≠a->s.heap.get? b=some o->h'.get? b=some o)->∀i j C,i < vs.length->j < vs.length->C (SP.eS z i j) { s with heap:=h' }->kas_ask prog w A κ vs i j C { s with heap:=h' })
  (h:∀ (h':ι) (c:Nat),(∀b o,b≠a->s.heap.get? b=some o->h'.get? b=some o)->h'.get? a=some (seqObj "list" (VL z vs).toArray c)->P (.done (.ret .none)) { s with heap:=h' }) :
  wpAny (model prog w) A (Builtin.«list.sort» ⟨[.ref a],[]⟩) P E s:=by
 rw[list_sort_plain];have ha:a < s.heap.objs.size:=zY ho;have X7:vs.length<=sizeLine:=by rw[qT];lia
 refine zV (vE ho rfl (zV (jY ho rfl ?_ (by simpa using X7) (xU _))));obtain⟨e1,YH⟩:∃e,(s.heap.update a (Obj.mapSeq λ_=>(#[]:Array Θ))).get? a=some (seqObj "list" #[] e):=⟨_,jZ ho λ_=>#[]⟩
 have kp1:∀b o,b≠a->s.heap.get? b=some o->(s.heap.update a (Obj.mapSeq λ_=>(#[]:Array Θ))).get? b=some o:=λb o hb e=>(xM _ _ (jL hb)).trans e;refine zV (seqEpoch_at YH rfl (zV (wpAny_newTuple ?_ (by simpa using X7))));refine zV (kK (xW ?_) (xU _));have Ze:(((s.heap.update a (Obj.mapSeq λ_=>(#[]:Array Θ))).push (seqObj "tuple" vs.toArray 0)).push (seqObj "list" #[] 0)).get? a=some (seqObj "list" #[] e1):=zU _ (zU _ YH);have kp3:∀b o,b≠a->s.heap.get? b=some o->(((s.heap.update a (Obj.mapSeq λ_=>(#[]:Array Θ))).push (seqObj "tuple" vs.toArray 0)).push (seqObj "list" #[] 0)).get? b=some o:=λb o hb e=>zU _ (zU _ (kp1 b o hb e));show wpAny _ A _ P E { s with heap:=((s.heap.update a (Obj.mapSeq λ_=>(#[]:Array Θ))).push (seqObj "tuple" vs.toArray 0)).push (seqObj "list" #[] 0) };generalize ((s.heap.update a (Obj.mapSeq λ_=>(#[]:Array Θ))).push (seqObj "tuple" vs.toArray 0)).push (seqObj "list" #[] 0)=h3 at Ze kp3;clear YH kp1;dsimp only;have fin:∀VI:SortSt,(arrOf VI).map (·.2)=(VL z vs).toArray->failedOf VI=none ->
   wpAny (model prog w) A (do
    let sorted:=(arrOf VI).map (·.2);let touched:=(<- seqEpoch a) != e1
    Builtin.List.listUpdate (.ref a) λ_=>sorted
    if let some e:=failedOf VI then rule "list.sort.comparison-raised";throw e
    if touched then rule "list.sort.modified";raiseError "ValueError" "list modified during sort"
    ret .none) P E { s with heap:=h3 }:=λVI h1 h2=>by
  dsimp only;rw[h1,h2];refine zV (seqEpoch_at Ze rfl ?_);refine zV (jY Ze rfl ?_ (xU _) (by show (VL z vs).toArray.size<=_;rw[zH,Xb];lia));obtain⟨c,hc⟩:∃c,(h3.update a (Obj.mapSeq λ_=>(VL z vs).toArray)).get? a=some (seqObj "list" (VL z vs).toArray c):=⟨_,jZ Ze λ_=>(VL z vs).toArray⟩
  have q:=h _ c (λb o hb e=>(xM _ _ (jL hb)).trans (kp3 b o hb e)) hc;simp?[bne_self_eq_false,yN,qN];exact zW q
 by_cases h2:vs.toArray.size < 2
 ·rw[yK h2,yK h2];refine zV (zW ?_);rw[StateT.run_pure];refine zV (zW (fin _ ?_ rfl));have YI:vs.length < 2:=by simpa using h2
  unfold VL;rw[yK YI];show ((vs.toArray.zip vs.toArray).map (·.2))=vs.toArray;apply Array.toList_inj.mp;simp?[Array.toList_map,Array.toList_zip];exact List.map_snd_zip (yL _)
 ·rw[yM h2,yM h2];have YI:2<=vs.length:=by
   have:¬ vs.length < 2:=by simpa using h2
   lia
  refine zV (yZ (hk YI h3 kp3 (λκ' s'=>κ'=κ/\s'={ s with heap:=h3 }) ⟨rfl,rfl⟩) (λκ' s' hs=>?_) λ_ _ x=>x.elim);let⟨rfl,rfl⟩:=hs;refine zV (yZ (kat_run (Q:=λVI s'=>s'={ s with heap:=h3 }/\(arrOf VI).map (·.2)=(VL z vs).toArray/\failedOf VI=none) (G:=λp s'=>s'={ s with heap:=h3 }/\p=SP.run (SP.eS z) (kas_sort vs.length))
   rfl YI XO (λp VI s' a1 a2 a3 a4=>⟨a4.1,?_,a3⟩) (SP.wp_run (VU YI h3 kp3) (kas_sort vs.length) (SP.Fy (by lia)) ⟨rfl,rfl⟩)) ?_ λ_ _ e=>e)
  ·rw[kat_snds rfl a2,a4.2];unfold VL;rw[yM (by lia)]
  ·rintro⟨⟨⟩,VI⟩ s' ⟨hs,h4,h5⟩;subst hs;exact fin VI h4 h5
def YT(h:ι)(l:Ψ)(vs:Γ Θ):Prop:=∃ (o:Obj) (T:String) (n:Nat),(T="list"\/T="tuple")/\h.get? l=some o/\o.cls=.type T/\o.data=.seq vs.toArray n
def Ym(hl:YT s.heap l vs)
  (h:Q vs { s with heap:=(s.heap.push (seqObj "list" #[] 0)).update s.heap.objs.size (Obj.mapSeq (·++vs.toArray)) }) (hsz:vs.length<=sizeLine):wpAny (model prog w) A (collect (.ref l)) Q E s:=by
 let⟨o,T,n,hT,ho,hc,hd⟩:=hl;unfold collect;refine zV (wpAny_runValue (codeAny_builtin entry_proto_collect' ?_));show wpAny _ _ (do again (.builtin "list.__iadd__" ⟨[<- newList [],.ref l],[]⟩)) _ _ s;refine zV (kK (zW ⟨Code.quiet_builtin _ (by decide +kernel),codeAny_builtin entry_list_iadd' ?_⟩));show wpAny _ _ (Builtin.List.listExtendWith (.ref s.heap.objs.size) (.ref l) (.ref s.heap.objs.size)) _ _ { s with heap:=s.heap.push (seqObj "list" #[] 0) };unfold Builtin.List.listExtendWith;have W3:(s.heap.push (seqObj "list" #[] 0)).get? l=some o:=zU _ ho;refine zV (vY (T:=T) ⟨o,W3,hc⟩ ?_);rw[yK (by rcases hT with rfl|rfl<;>simp)];refine zV (vE W3 hd (zV (vE (xs:=#[]) (n:=0) (zX _ rfl) rfl ?_)));rw[yM (by simp)];refine zV (jY (xs:=#[]) (n:=0) (zX _ rfl) rfl ?_ (xU _) (by show (#[]++vs.toArray).size<=sizeLine+1;simp?[Array.size_append,zH,xJ];lia));refine zW ?_;refine zV (wpAny_load (jZ (zX _ rfl) _) ?_);show wpAny _ _ (pure ((#[]:Array Θ)++vs.toArray).toList) Q E _;rw[show ((#[]:Array Θ)++vs.toArray).toList=vs by simp];exact zW h
def YU{s:Ξ}{Q:Θ->Ξ->Prop}(hl:YT s.heap l vs)(XO:vs.length < 64)(z:Nat->Int)(κ:SortKind)
  (hk:2<=vs.length->∀h':ι,(∀b o,s.heap.get? b=some o->h'.get? b=some o)->∀Q':SortKind->Ξ->Prop,Q' κ { s with heap:=h' }->wpAny (model prog w) A.in1.in1 (keyKind' vs.toArray) Q' (λ_ _=>False) { s with heap:=h' })
  (VU:2<=vs.length->∀h':ι,(∀b o,s.heap.get? b=some o->h'.get? b=some o)->∀i j C,i < vs.length->j < vs.length->C (SP.eS z i j) { s with heap:=h' }->kas_ask prog w A.in1.in1 κ vs i j C { s with heap:=h' })
  (h:∀ (h':ι) (D:Ψ) (c:Nat),(∀b o,s.heap.get? b=some o->h'.get? b=some o)->s.heap.objs.size<=D->h'.get? D=some (seqObj "list" (VL z vs).toArray c)->Q (.ref D) { s with heap:=h' }) :
  wpAny (model prog w) A (call (.builtin "sorted") [.ref l]) Q E s:=by
 have X7:vs.length<=sizeLine:=by rw[qT];lia
 refine Calls.call_function_entry kind_sorted plain_sorted entry_sorted (args_sorted1 _) ?_;unfold Builtin.«sorted»;refine zV (m:=checkCount "sorted" 1 1 _) (zW (zV (Ym hl ?_ X7)));refine zV (kK ?_ (by simpa using X7));have hsz:((s.heap.push (seqObj "list" #[] 0)).update s.heap.objs.size (Obj.mapSeq (·++vs.toArray))).objs.size=s.heap.objs.size+1:=by rw[Heap.size_update,size_push']
 have kp:∀b o,s.heap.get? b=some o->(((s.heap.push (seqObj "list" #[] 0)).update s.heap.objs.size (Obj.mapSeq (·++vs.toArray))).push (seqObj "list" vs.toArray 0)).get? b=some o:=λb o e =>
  zU _ ((xM _ _ (jH (zY e))).trans (zU _ e))
 have Y7:(((s.heap.push (seqObj "list" #[] 0)).update s.heap.objs.size (Obj.mapSeq (·++vs.toArray))).push (seqObj "list" vs.toArray 0)).get? (s.heap.objs.size+1)=some (seqObj "list" vs.toArray 0):=by
  rw[<- hsz];exact zX _ rfl
 show wpAny _ _ _ _ _ { s with heap:=((s.heap.push (seqObj "list" #[] 0)).update s.heap.objs.size (Obj.mapSeq (·++vs.toArray))).push (seqObj "list" vs.toArray 0) };rw[hsz];generalize ((s.heap.push (seqObj "list" #[] 0)).update s.heap.objs.size (Obj.mapSeq (·++vs.toArray))).push (seqObj "list" vs.toArray 0)=h1 at kp Y7;have kk:∀h':ι,(∀b o,b≠s.heap.objs.size+1->h1.get? b=some o->h'.get? b=some o)->∀b o,s.heap.get? b=some o->h'.get? b=some o:=λh' q b o e=>q b o (yQ (jM (zY e))) (kp b o e);refine zV (xW (qU slot_list_sort ⟨_,Y7,rfl⟩ entry_list_sort (Xm Y7 XO z κ (λa h' q=>hk a h' (kk h' q)) (λa h' q=>VU a h' (kk h' q)) λh' c q e=>⟨_,rfl,?_⟩) (args_list_sort _)));exact zW ⟨_,rfl,h h' _ c (kk h' q) (by lia) e⟩
end X6
namespace Dl
open PySem L2 PySem.Spec PyProof.Rows
def DJ(i:Nat)(fz:Γ Nat)(f:Env->Δ (Γ D)):ao->Δ Out:=λρ=>(f (bp (hand fz 0 ρ))).bind λus=>pV i (λds=>if ds.length+us.length<=sizeLine then some (ds++us) else none) (hand fz 0 ρ)
def D5(i:Nat)(fz:Γ Nat)(hN:X.N[i]?=some x)(hv:oo X.env.scope x)(h:DF X e f)(hd:(x == ("__debug__":Str))=false:=by decide)(VF:(x == ("__classdict__":Str))=false:=by decide)
  (V7:((backTo Vv (starEach [e] X.env)).all (λx=>!x.1)&&(backToKw Vv (keywordEach [] X.env)).all (λx=>x.1.isSome)&&decide ([e].length+([]:Γ Keyword).length+(if ([]:Γ Keyword).isEmpty then 0 else 1) < 30))=true:=by rfl)
  (VA:(apos.endLine == Vv.line)=true:=by rfl) (hs:starEach [e] X.env=(false,eval e X.env)::starEach [] X.env:=by rfl) :
  DS X Vr H₀ (.Expr (.Call (.Attribute (.Name x px) "extend" apos) [e] [] Vv) pos) (DJ i fz f) :=
 aW (gP (pK qM PySem.F.slot_list_extend PySem.F.type_list_extend DR (bb hN hv hd VF) (ba h cF hs) rfl V7 VA hs rfl)) λE σ H z=>by
  sleep 12;let⟨us,h1,hg⟩:=bs hg;let⟨ds,es,h2,h3,rfl⟩:=lF hg;let⟨Vu,s1,S1⟩:=S.hand fz;let⟨a,vs,e1,e2,e3,e5,e4⟩:=S1.own i ds h2;refine⟨.ref a,e1,.inl ⟨rfl,vs,gc.of e2⟩,Vu,_,us,S1.gr.fh,S1.V5,h1,λb ws H' Vt G hb hf h' r=>?_⟩;have S2:=S1.grow G;let⟨a',Yl,f1,f2,f3,f5,f4⟩:=S2.own i ds h2;rw[e1] at f1;cases f1;split at h3
  ·rename_i hz;cases h3;exact⟨a,b,Yl,ws,rfl,rfl,f2,h',by rw[f4.length,r.length];exact hz,q σ _ Vt (S2.mut h2 e1 f2 (f4.append r)) (s1.trans G.ff)⟩
  ·cases h3
def C7(ds:Γ D)(k:Int)(d:D):Γ D:=let j:=if k < 0 then (k+(ds.length:Int)).toNat else min k.toNat ds.length;ds.take j++d::ds.drop j
def JS:V->Γ V->Hp->VK->Prop:=λx vs H Q=>∃l xs k y,x=.ref l/\vs=[.int k,y]/\H l=some (.lst xs)/\xs.length < sizeLine/\-(2 ^ 62)<=k/\k < 2 ^ 62 /\
 Q .Vs (upd H l (.lst (xs.take (if k < 0 then (k+(xs.length:Int)).toNat else min k.toNat xs.length)++y::xs.drop (if k < 0 then (k+(xs.length:Int)).toNat else min k.toNat xs.length))))
def Ew:Qd X "list.insert" JS:=by
 intro pins s σ H x vs v us Q I rx rv h;let⟨l,xs,k,y,rfl,rfl,hH,hz,k1,k2,q⟩:=h;cases rx;let⟨u1,u2,rfl,⟨t,rfl⟩,ru⟩:=L2.aI.two rv;let⟨z,its,n,r,hl,e⟩:=I.Ye hH;have Z7:¬(!Builtin.List.listFitsIndex k)=true:=by
  have:Builtin.List.listFitsIndex k=true:=by
   unfold Builtin.List.listFitsIndex;simp?[zF,zJ];lia
  rw[this];simp
 refine qV F.slot_list_insert ⟨_,e,rfl⟩ F.entry_list_insert (F.args_list_insert_3 _ _ _) (AutoListH.list_insert_list_int_val_1 l its.toArray n k t u2 Z7 (by rw[zH];lia)) ⟨e,?_⟩;have hlen:its.length=xs.length:=hl.symm;refine⟨.Vs,_,I.YN (its':=its.take (if k < 0 then (k+(xs.length:Int)).toNat else min k.toNat xs.length)++u2::its.drop (if k < 0 then (k+(xs.length:Int)).toNat else min k.toNat xs.length)) hH e ?_ ((r.take _).append (.cons ru (r.drop _))) ?_,rfl,q⟩
 ·dsimp only;rw[zH,hlen];apply Array.toList_inj.mp;simp;exact kE (by rw[qG,hlen];exact yL _)
 ·rw[zN,zL,jU,qG];lia
def E7(i:Nat)(fz:Γ Nat)(fk f:Env->Δ D):ao->Δ Out:=λρ=>(fk (aQ ρ)).bind λkd=>match kd with
 | .int k=>(ph fz f ρ).bind λp=>pV i (λds=>if pU k=true/\ds.length < sizeLine then some (C7 ds k p.1) else none) p.2
 | _=>none
def Em(i:Nat)(fz:Γ Nat)(hN:X.N[i]?=some x)(hv:oo X.env.scope x)(hk:DE X e fk)(h:DE X e2 f)(hd:(x == ("__debug__":Str))=false:=by decide)(VF:(x == ("__classdict__":Str))=false:=by decide)
  (V7:((backTo Vv (starEach [e,e2] X.env)).all (λx=>!x.1)&&(backToKw Vv (keywordEach [] X.env)).all (λx=>x.1.isSome)&&decide ([e,e2].length+([]:Γ Keyword).length+(if ([]:Γ Keyword).isEmpty then 0 else 1) < 30))=true:=by rfl)
  (VA:(apos.endLine == Vv.line)=true:=by rfl) (hs:starEach [e,e2] X.env=(false,eval e X.env)::starEach [e2] X.env:=by rfl) (WV:starEach [e2] X.env=(false,eval e2 X.env)::starEach [] X.env:=by rfl) :
  DS X Vr H₀ (.Expr (.Call (.Attribute (.Name x px) "insert" apos) [e,e2] [] Vv) pos) (E7 i fz fk f) :=
 aW (gP (pK qM PySem.F.slot_list_insert PySem.F.type_list_insert Ew (bb hN hv hd VF) (ba hk (ba h cF WV) hs) rfl V7 VA hs (by rw[WV];rfl))) λE σ H z=>by
  sleep 12;let⟨kd,hkd,hg⟩:=bs hg;cases kd<;>try cases hg
  rename_i k;let⟨⟨d,ρ'⟩,h1,hg⟩:=bs hg;let⟨ds,es,h2,h3,rfl⟩:=lF hg;have Xl:∃YS,ρ[i]?=some (.own YS):=by
   let⟨d1,_,h1⟩:=bs h1;split at h1
   ·cases h1;exact⟨ds,h2⟩
   ·let⟨d2,_,h1⟩:=ae h1;cases h1;rw[fj] at h2;let⟨s,hs,h2⟩:=ae h2;cases s with
    | Vs=>split at h2<;>cases h2
    | tab _=>split at h2<;>cases h2
    | obj _=>split at h2<;>cases h2
    | val _=>split at h2<;>cases h2
    | own xs=>exact⟨xs,hs⟩
  let⟨YS,Xl⟩:=Xl;let⟨a,vs,e1,e2,e3,e5,e4⟩:=S.own i YS Xl;refine⟨.ref a,e1,.inl ⟨rfl,vs,gc.of e2⟩,H,aQ ρ,_,.refl _,S.all,hkd,λvk Hk HFk Gk rk=>?_⟩;simp?[Rep] at rk;subst rk;refine oN (S.step Gk.hh) h1 λv H' Vt s1 S' sh r=>?_;let⟨a',Yl,f1,f2,f3,f5,f4⟩:=S'.own i ds h2;rw[e1] at f1;cases f1;split at h3
  ·rename_i hz;cases h3;have ok:=hz.1;unfold pU at ok;rw[zF] at ok;refine⟨a,Yl,k,v,rfl,rfl,f2,by rw[f4.length];exact hz.2,yP ok.1,yP ok.2,q σ _ Vt (S'.mut h2 e1 f2 ?_) s1⟩;unfold C7;rw[f4.length];exact (f4.take _).append (au.cons r (f4.drop _))
  ·cases h3
def Im:D->D->Δ (Γ D)
 | .list xs,.list ys=>small (xs++ys)
 | _,_=>none
def FX(K:Φ):R2:=λx y H Q=>∃a b xs ys,x=.ref a/\y=.ref b/\gc K H a xs/\gc K H b ys/\xs.length+ys.length<=sizeLine/\∀p,H p=none->Q (.ref p) (upd H p (.lst (xs++ys)))
def Iv:gH X (binaryOp .Add) (FX X.K):=by
 sleep 14;let⟨a,b,xs,ys,rfl,rfl,ha,hb,hz,q⟩:=h;cases rx;cases ry;let⟨its,r1,p1,_⟩:=I.list ha;let⟨Wn,r2,p2,_⟩:=I.list hb;let⟨⟨cls,dd,data,sl⟩,ho,hc,n,hd⟩:=id p1.isList;let⟨⟨aaQ,dd2,data2,sl2⟩,X4,XH,n2,hd2⟩:=id p2.isList;simp only at hc hd XH hd2;subst hc hd XH hd2;refine wA ⟨_,ho,rfl⟩ ⟨_,X4,rfl⟩ noFill_list_add seq_list_add PySem.F.slot_list_add PySem.F.entry_list_add (PySem.F.args_list_add_2 _ _) (list_addW a b its.toArray Wn.toArray n n2 dd dd2 sl sl2 (by rw[zH,zH,<- r1.length,<- r2.length];exact hz)) ⟨ho,X4,?_⟩;have e:its.toArray++Wn.toArray=(its++Wn).toArray:=by simp
 rw[e];exact⟨.ref s.heap.objs.size,_,I.ZT (t':=s.toks) (r1.append r2) (by rw[zN];exact hz),rfl,q _ I.fresh⟩
def boolsOf:Γ D->Δ (Γ θ)
 | []=>some []
 | .bool b::r=>(boolsOf r).map (b::·)
 | _::_=>none
def iN:∀ {ds:Γ D}{bs:Γ θ},boolsOf ds=some bs->ds=bs.map PyData.bool
 | [],bs,h=>by cases h;rfl
 | d::r,bs,h=>by
  cases d<;>simp?[boolsOf] at h<;>try cases h
  let⟨bs',h1,rfl⟩:=ae h;rw[iN h1];rfl
def mI{K:Φ}:∀ {bs:Γ θ}{vs:Γ V},au K H (bs.map PyData.bool) vs->vs=bs.map V.bl
 | [],vs,h=>h.nil_inv
 | b::bs,vs,h=>by
  let⟨v,r,rfl,a,c⟩:=h.cons_inv;simp?[Rep] at a;rw[a,mI c];rfl
def ma:∀ {bs:Γ θ}{us:Γ Θ},aI (bs.map V.bl) us->us=bs.map Value.bool
 | [],us,h=>by cases h;rfl
 | b::bs,us,h=>by
  cases h with
  | cons r rr=>cases r;rw[ma rr];rfl
def range_all(bs:Γ θ):(List.range bs.length).all (λi=>bs.getD i false)=bs.all id:=by
 induction bs with
 | nil=>rfl
 | cons b bs ih=>rw[zL,vG,xR,List.all_map,xR];simpa [wH] using jB (b&&·) ih
def range_any(bs:Γ θ):(List.range bs.length).any (λi=>bs.getD i false)=bs.any id:=by
 induction bs with
 | nil=>rfl
 | cons b bs ih=>rw[zL,vG,kX,wD,kX];simpa [wH] using jB (b||·) ih
def BA(hc:X.calm=true):fN X (.builtin "all") (λxs H Q=>∃ (a:Ψ) (bs:Γ θ),xs=[.ref a]/\gc X.K H a (bs.map V.bl)/\Q (.bl (bs.all id)) H):=by
 sleep 18;let⟨a,bs,rfl,hq,q⟩:=h;let⟨u,rfl,rx⟩:=vals1 r;cases rx;let⟨its,rv,pl,hz⟩:=I.list hq;have hv:=ma rv;subst hv;have hh:X.A.in1.handled=none:=I.ok.hd hc;refine call_all_walk (qJ pl.isList ?_);let⟨o,ho,Xi,n,hd⟩:=pl.isList;have Wi:a≠s.heap.objs.size:=yQ (zY ho);refine⟨_,_,_,_,_,_,λi=>bs.getD i false,rfl,Walks.list hh s.heap.objs.size a Wi (bs.map Value.bool).toArray,⟨⟨_,zX _ rfl,rfl,rfl⟩,pl.isList.push _⟩,λi v s' Q' E' hP hQ=>?_,λh' tk kp=>?_⟩
 ·have e:v=Value.bool (bs.getD i false):=by
   have hP:(bs.map Value.bool).toArray[i]?=some v:=hP;rw[vP,zO] at hP;let⟨b,hb,rfl⟩:=ae hP;rw[zG,hb];rfl
  subst e;exact xV hQ
 ·refine⟨.bl (bs.all id),H,?_,?_,q⟩
  ·exact I.kept (t':=tk) λb o' e=>kp b o' (by simp;exact yQ (zY e)) (zU _ e)
  ·show Value.bool _=Value.bool _;have:=range_all bs;simp?[zH,zD];rw[this]
def nr:Γ D->Δ D:=λds=>(oneOf ds).bind λd=>match d with
 | .list es=>(boolsOf es).map λbs=>.bool (bs.all id)
 | _=>none
def Ow(hc:X.calm=true)(B:pW X "all" (.builtin "all"))(ha:DA X [e] fs)(he:starEach [e] X.env=(false,eval e X.env)::starEach [] X.env:=by rfl):DE X (.Call (.Name "all" p) [e] [] pos) (cq nr fs) :=
 kh (BA hc) (by
  intro HF H ds vs d Q sm r hg q;let⟨x,hx,hg⟩:=bs hg;rw[gD hx] at r;cases x<;>try cases hg
  let⟨bs,hb,rfl⟩:=ae hg;let⟨v,r',rfl,a,b⟩:=r.cons_inv;rw[b.nil_inv];simp?[Rep] at a;let⟨p,us,rfl,h,rr⟩:=a;rw[iN hb] at rr;have:=mI rr;subst this;exact⟨p,bs,rfl,sm.seq h,q _ H HF (.refl sm) (by simp[Rep])⟩) B ha (by decide) (by decide) he rfl
abbrev lexLt:=HT.lexLt
def gx:∀a:Γ Int,lexLt a a=false
 | []=>rfl
 | x::a=>by show HT.lexLt (x::a) (x::a)=false;rw[HT.eH,yK rfl];exact gx a
def eN:∀ {a b c:Γ Int},lexLt a b=true->lexLt b c=true->lexLt a c=true
 | [],[],_,h,_=>by cases h
 | [],_::_,[],_,h=>by cases h
 | [],_::_,_::_,_,_=>rfl
 | _::_,[],_,h,_=>by cases h
 | _::_,_::_,[],_,h=>by cases h
 | x::a,y::b,z::c,h1,h2=>by
  have h1:HT.lexLt (x::a) (y::b)=true:=h1;have h2:HT.lexLt (y::b) (z::c)=true:=h2;show HT.lexLt (x::a) (z::c)=true;rw[HT.eH] at h1 h2 ⊢;by_cases e1:x=y
  ·rw[yK e1] at h1;by_cases e2:y=z
   ·rw[yK e2] at h2;rw[yK (e1.trans e2)];exact eN h1 h2
   ·rw[yM e2] at h2;rw[yM (by lia)];have:=yP h2;exact yA (by lia)
  ·rw[yM e1] at h1;have q1:=yP h1;by_cases e2:y=z
   ·rw[yM (by lia)];exact yA (by lia)
   ·rw[yM e2] at h2;have q2:=yP h2;rw[yM (by lia)];exact yA (by lia)
def lA:∀ {a b:Γ Int},lexLt a b=false->lexLt b a=false->a=b
 | [],[],_,_=>rfl
 | [],_::_,h,_=>by cases h
 | _::_,[],_,h=>by cases h
 | x::a,y::b,h1,h2=>by
  have h1:HT.lexLt (x::a) (y::b)=false:=h1;have h2:HT.lexLt (y::b) (x::a)=false:=h2;rw[HT.eH] at h1 h2;by_cases e:x=y
  ·rw[yK e] at h1;rw[yK e.symm] at h2;rw[e,lA h1 h2]
  ·rw[yM e] at h1;rw[yM (λz=>e z.symm)] at h2;have:=of_decide_eq_false h1;have:=of_decide_eq_false h2;lia
def lexLe(a b:Γ Int):θ:=!lexLt b a
def Ag(a b c:Γ Int)(h1:lexLe a b=true)(h2:lexLe b c=true):lexLe a c=true:=by
 unfold lexLe at *;rw[yO] at *;cases e:lexLt c a with
 | false=>rfl
 | true =>
  cases e1:lexLt a b with
  | true=>rw[eN e e1] at h2;cases h2
  | false =>
   have:=lA e1 h1;subst this;rw[e] at h2;cases h2
def Ah(a b:Γ Int):(lexLe a b||lexLe b a)=true:=by
 unfold lexLe;cases e1:lexLt b a with
 | false=>rfl
 | true =>
  cases e2:lexLt a b with
  | false=>rfl
  | true=>have:=eN e1 e2;rw[gx] at this;cases this
def A9(h1:lexLe a b=true)(h2:lexLe b a=true):a=b:=by
 unfold lexLe at *;rw[yO] at *;exact lA h2 h1
def tL{α:Type}{le:α->α->θ}(aba:∀a b,le a b=true->le b a=true->a=b):∀ {l m:Γ α},l.Perm m->l.Pairwise (λa b=>le a b=true)->m.Pairwise (λa b=>le a b=true)->l=m
 | [],m,p,_,_=>p.nil_eq
 | a::l,[],p,_,_=>by have:=p.length_eq;simp at this
 | a::l,b::m,p,h1,h2=>by
  let⟨h1a,h1b⟩:=List.pairwise_cons.mp h1;let⟨h2a,h2b⟩:=List.pairwise_cons.mp h2;have e:a=b:=by
   have ha:a∈b::m:=p.mem_iff.mp zE;have hb:b∈a::l:=p.mem_iff.mpr zE;rcases List.mem_cons.mp ha with e|ha
   ·exact e
   ·rcases List.mem_cons.mp hb with e|hb
    ·exact e.symm
    ·exact aba a b (h1a b hb) (h2a a ha)
  subst e;rw[tL aba (List.perm_cons a |>.mp p) h1b h2b]
def sQ(l:Γ (Γ Int)):Γ (Γ Int):=l.mergeSort lexLe
def Gx(l:Γ (Γ Int)):(sQ l).Perm l:=List.mergeSort_perm l lexLe
def MP(l:Γ (Γ Int)):(sQ l).Pairwise (λa b=>lexLe a b=true):=List.pairwise_mergeSort Ag Ah l
def GN{l:Γ (Γ Int)}(p:l.Perm m)(h:l.Pairwise (λa b=>lexLe a b=true)):l=sQ m:=tL (λ_ _=>A9) (p.trans (Gx m).symm) h (MP m)
def rk(l:Γ (Γ Int))(a:Γ Int):Int:=((l.countP λb=>lexLt b a:Nat):Int)
def L4(ha:a∈l):lexLt a b=decide (rk l a < rk l b):=by
 unfold rk;have mono:∀ {a b:Γ Int},lexLt a b=true->(l.countP λc=>lexLt c a)<=l.countP λc=>lexLt c b:=λ{a b} h=>List.countP_mono_left λc _ hc=>eN hc h;have strict:∀ {a b:Γ Int}(ha:a∈l),lexLt a b=true->(l.countP λc=>lexLt c a) < l.countP λc=>lexLt c b:=λ{a b} ha h=>by
  have key:∀m:Γ (Γ Int),a∈m->(m.countP λc=>lexLt c a) < m.countP λc=>lexLt c b:=λm hm=>by
   induction m with
   | nil=>cases hm
   | cons x m ih =>
    rw[List.countP_cons,List.countP_cons];have mo:(m.countP λc=>lexLt c a)<=m.countP λc=>lexLt c b:=List.countP_mono_left λc _ hc=>eN hc h;rcases List.mem_cons.mp hm with e|hm
    ·subst e;rw[gx,h];simp?[yN,qN,xG];lia
    ·have:=ih hm;by_cases hx:lexLt x a=true
     ·rw[hx,eN hx h];simp?[xG];lia
     ·have YF:lexLt x a=false:=by simpa using hx
      rw[YF];simp?[yN,qN];split<;>lia
  exact key l ha
 cases e:lexLt a b with
 | true=>exact (yA (by have:=strict ha e;lia)).symm
 | false =>
  refine (zZ ?_).symm;cases e2:lexLt b a with
  | true=>have:=mono e2;lia
  | false=>rw[lA e e2];lia
section
variable {prog:ε}{w:δ}{A:ξ}{E:Θ->Ξ->Prop}{s:Ξ}
def yz:∀ {us ws:Γ Θ}{ns ms:Γ Int}(i:Nat),IntsAre us ns->IntsAre ws ms->Q (lexLt ns ms) s->W.KatLex prog w A true (decide (ns.length < ms.length)) Q (us.zip ws) i s
 | [],[],_,_,i,.nil,.nil,h=>h
 | [],_::_,_,_,i,.nil,.cons _ _ _,h=>by
  show Q (decide (0 < _+1)) s;rw[yA (Nat.succ_pos _)];exact h
 | _::_,[],_,_,i,.cons _ _ _,.nil,h=>by
  show Q (decide (_+1 < 0)) s;rw[zZ (vK _)];exact h
 | _::us,_::ws,_,_,i,.cons n t r1,.cons m u r2,h=>by
  have h:Q (HT.lexLt (n::_) (m::_)) s:=h;rw[HT.eH] at h;refine W.kat_cons (SeqAt.EqAt.int_int n t m u prog w _ _ ?_);cases e:(n == m) with
  | true =>
   have e':n=m:=eq_of_beq e;rw[yK e'] at h;refine W.kat_yes ?_;have:=yz (i+1) r1 r2 h;simp?[zL,Nat.add_lt_add_iff_right];exact this
  | false =>
   have e':¬ n=m:=λq=>by rw[q] at e;simp at e
   rw[yM e'] at h;refine W.kat_no ?_;by_cases hi:(true&&i == 0)=true
   ·rw[hi];exact oneLt_int h
   ·have Wv:(true&&i == 0)=false:=by simpa using hi
    rw[Wv];refine W.kat_one _ _ (lt_int ?_);exact h
end
def af(ns:Γ Int):D:=.tuple (ns.map PyData.int)
def intsOf:Γ D->Δ (Γ Int)
 | []=>some []
 | .int n::r=>(intsOf r).map (n::·)
 | _::_=>none
def dH:∀ {ds:Γ D}{ns:Γ Int},intsOf ds=some ns->ds=ns.map PyData.int
 | [],ns,h=>by cases h;rfl
 | d::r,ns,h=>by
  cases d<;>simp?[intsOf] at h<;>try cases h
  let⟨ns',h1,rfl⟩:=ae h;rw[dH h1];rfl
def bB:∀ns:Γ Int,intsOf (ns.map PyData.int)=some ns
 | []=>rfl
 | n::ns=>by simp[intsOf,bB ns]
def Cn:D->Δ (Γ Int)|.tuple ds=>(intsOf ds).bind λns=>if ns=[] then none else some ns|_=>none
def AG(h:Cn d=some ns):d=af ns/\ns≠[]:=by
 cases d<;>try cases h
 let⟨ms,h1,h2⟩:=bs h;split at h2
 ·cases h2
 ·rename_i hn;cases h2;rw[dH h1];exact⟨rfl,hn⟩
def Eo(h:ns≠[]):Cn (af ns)=some ns:=by
 unfold af Cn;simp?[bB,zA];rw[yM h]
def rowsOf:Γ D->Δ (Γ (Γ Int))
 | []=>some []
 | d::r=>(Cn d).bind λns=>(rowsOf r).map (ns::·)
def pO:∀ {ds:Γ D}{VB:Γ (Γ Int)},rowsOf ds=some VB->ds=VB.map af/\∀ns∈VB,ns≠[]
 | [],VB,h=>by cases h;exact⟨rfl,λ_ z=>by cases z⟩
 | d::r,VB,h=>by
  let⟨ns,h1,h⟩:=bs h;let⟨rest,h2,rfl⟩:=ae h;let⟨e,hn⟩:=AG h1;let⟨e2,hn2⟩:=pO h2;refine⟨by rw[e,e2];rfl,λm hm=>?_⟩;rcases List.mem_cons.mp hm with q|q
  ·subst q;exact hn
  ·exact hn2 m q
def qg:∀ {VB:Γ (Γ Int)},(∀ns∈VB,ns≠[])->rowsOf (VB.map af)=some VB
 | [],_=>rfl
 | ns::r,h=>by
  simp?[zI,rowsOf,Eo (h ns zE),zA,qg λm hm=>h m (zC _ hm),zB]
structure vc(h:Heap)(v:Value)(ns:List Int):Prop where
 ex:∃ (a:Ψ) (o:Obj) (its:Array Θ) (n:Nat),v=.ref a/\h.get? a=some o/\o.cls=.type "tuple"/\o.data=.seq its n/\IntsAre its.toList ns
def vc.keep(r:vc h v ns)(k:∀b o,h.get? b=some o->h'.get? b=some o):vc h' v ns:=let ⟨a,o,its,n,e,e1,e2,e3,e4⟩:=r.ex;⟨a,o,its,n,e,k _ _ e1,e2,e3,e4⟩
def Ac:∀ {vs:Γ Θ}{VB:Γ (Γ Int)},Paired (vc h) vs VB->(∀ns∈VB,ns≠[])->∃fs:Γ Θ,W.KatTups h vs fs/\fs.length=vs.length/\∀f∈fs,∃n t,f=Value.int n t
 | _,_,.nil,_=>⟨[],trivial,rfl,λ_ z=>by cases z⟩
 | _,_,.cons (a:=v) (b:=ns) r p,hn=>by
  let⟨fs,h1,h2,h3⟩:=Ac p λm hm=>hn m (zC _ hm);let⟨a,o,its,n,rfl,e1,e2,e3,e4⟩:=r.ex;cases hits:its.toList with
  | nil =>
   rw[hits] at e4;cases e4;exact absurd rfl (hn [] zE)
  | cons f rest =>
   rw[hits] at e4;cases e4 with
   | cons m t e5 =>
    have h0:its[0]?=some (.int m t):=by
     have:its.toList[0]?=some (Value.int m t):=by rw[hits];rfl
     simpa using this
    exact⟨.int m t::fs,W.KatTups.cons e1 e2 e3 h0 h1,by simp[h2],λg hg=>by
     rcases List.mem_cons.mp hg with q|q
     ·exact⟨m,t,q⟩
     ·exact h3 g q⟩
def mD:∀ {l:Γ α}{m:Γ β}{i:Nat},Paired R l m->i < l.length->R (l.getD i d) (m.getD i d')
 | _,_,i,.nil,h=>by simp at h
 | _,_,0,.cons r _,_=>r
 | _,_,i+1,.cons _ p,h=>by simpa using mD (i:=i) (d:=d) (d':=d') p (by simpa using h)
def zp(hl:X6.YT s.heap l vs)(hp:Paired (vc s.heap) vs VB)(hn:∀ns∈VB,ns≠[])(XO:vs.length < 64)
  (h:∀ (h':ι) (D:Ψ) (c:Nat),(∀b o,s.heap.get? b=some o->h'.get? b=some o)->s.heap.objs.size<=D->h'.get? D=some (seqObj "list" (X6.VL (λi=>rk VB (VB.getD i [])) vs).toArray c)->Q (.ref D) { s with heap:=h' }) :
  wpAny (model prog w) A (call (.builtin "sorted") [.ref l]) Q E s:=by
 refine X6.YU hl XO (λi=>rk VB (VB.getD i [])) (tuples' true) (λh2 h' kp Q' q=>?_) (λh2 h' kp i j C hi hj q=>?_) h
 ·have YV:Paired (vc h') vs VB:=Paired.aaF hp λ_ _ r=>r.keep kp;let⟨fs,t,hlen,hf⟩:=Ac YV hn;refine W.kat_kind (s:={ s with heap:=h' }) (T:=.type "int") t (by lia) (λv hv=>?_) (by decide) q;let⟨n,t,rfl⟩:=hf v hv;exact W.Looks.of_pure rfl
 ·have ri:=(mD (d:=Value.none) (d':=[]) hp hi).keep kp;have rj:=(mD (d:=Value.none) (d':=[]) hp hj).keep kp;have hlen:=hp.length;let⟨a,o,its,n,ea,e1,e2,e3,e4⟩:=ri.ex;let⟨b,o',its',n',eb,f1,f2,f3,f4⟩:=rj.ex;unfold W.kas_ask;rw[ea,eb];have Yn:VB.getD i []∈VB:=by
   rw[zG,zK (by lia)];exact xZ _
  have q':C (lexLt (VB.getD i []) (VB.getD j [])) { s with heap:=h' }:=by
   rw[L4 Yn];exact q
  refine W.kat_lt (s:={ s with heap:=h' }) e1 e3 f1 f3 ?_;have:=yz (prog:=prog) (w:=w) (A:=A.in1.in1) (s:={ s with heap:=h' }) 0 e4 f4 q';have l1:its.size=(VB.getD i []).length:=by have:=IntsAre.length e4;simpa using this
  have l2:its'.size=(VB.getD j []).length:=by have:=IntsAre.length f4;simpa using this
  rw[l1,l2];exact this
def xf(z:Nat->Int)(l:Γ α)(d:α):Γ α:=if l.length < 2 then l else (SP.run (SP.eS z) (W.kas_sort l.length)).toList.map λi=>l.getD i d
def k8(l:Γ α)(d:α):(List.range l.length).map (λi=>l.getD i d)=l:=by
 apply jG
 ·simp
 ·intro i h1 h2;simp[h2]
def mR(z:Nat->Int)(l:Γ α)(d:α):(xf z l d).Perm l:=by
 unfold xf;split
 ·exact List.Perm.refl _
 ·rename_i h;have:=((SP.iX (z:=z) (n:=l.length) (by lia)).1).map λi=>l.getD i d;rw[k8] at this;exact this
def JL(VB:Γ (Γ Int)):xf (λi=>rk VB (VB.getD i [])) VB []=sQ VB:=by
 refine GN (mR _ _ _) ?_;unfold xf;split
 ·rename_i h
  match VB,h with
  | [],_=>exact List.Pairwise.nil
  | [a],_=>exact vB _ _
 ·rename_i h;let⟨hp,hs⟩:=SP.iX (z:=λi=>rk VB (VB.getD i [])) (n:=VB.length) (by lia);rw[jD] at hs ⊢;refine hs.imp_of_mem λ{i j} hi hj Vy=>?_;have YE:j < VB.length:=by have:=hp.mem_iff.mp hj;simpa using this
  unfold lexLe;rw[L4 (l:=VB) (a:=VB.getD j []) (by rw[zG,zK YE];exact xZ _)];simp?[yO,xA];lia
def zk{K:Φ}(z:Nat->Int)(r:au K HF ds vs):au K HF (xf z ds .none) (xf z vs .Vs):=by
 unfold xf;rw[r.length];split
 ·exact r
 ·rename_i h;let⟨hp,_⟩:=SP.iX (z:=z) (n:=ds.length) (by lia);have key:∀l:Γ Nat,(∀i∈l,i < ds.length)->au K HF (l.map λi=>ds.getD i .none) (l.map λi=>vs.getD i .Vs):=λl=>by
   induction l with
   | nil=>exactλ_=>au.nil
   | cons i l ih =>
    intro hl;have hi:=hl i zE;let⟨v,e1,e2⟩:=r.getD (zK hi);refine au.cons ?_ (ih λj hj=>hl j (zC _ hj));dsimp only;rw[zG,zG,e1,zK hi];exact e2
  exact key _ λi hi=>by have:=hp.mem_iff.mp hi;simpa using this
def xo(z:Nat->Int)(r:aI vs us):aI (xf z vs .Vs) (X6.VL z us):=by
 unfold xf X6.VL;rw[r.length];split
 ·exact r
 ·rename_i h;let⟨hp,_⟩:=SP.iX (z:=z) (n:=us.length) (by lia);have key:∀l:Γ Nat,(∀i∈l,i < vs.length)->aI (l.map λi=>vs.getD i .Vs) (l.map λi=>us.getD i Value.none):=λl=>by
   induction l with
   | nil=>exactλ_=>.nil
   | cons i l ih =>
    intro hl;have hi:=hl i zE;let⟨v,e1,e2⟩:=r.get (zK hi);refine .cons ?_ (ih λj hj=>hl j (zC _ hj));dsimp only;rw[zG,zG,e1,zK hi];exact e2
  exact key _ λi hi=>by have:=hp.mem_iff.mp hi;rw[r.length];simpa using this
def J9(z:Nat->Int)(VB:Γ (Γ Int)):xf z (VB.map af) .none=(xf z VB []).map af:=by
 unfold xf;rw[zD];split
 ·rfl
 ·rename_i h;rw[zM];let⟨hp,_⟩:=SP.iX (z:=z) (n:=VB.length) (by lia);refine yH λi hi=>?_;have Wv:i < VB.length:=by have:=hp.mem_iff.mp hi;simpa using this
  simp[Wv]
def Df(I:Inv X pins σ H s)(sm:aB HF H):∀ {VB:Γ (Γ Int)}{vs:Γ V}{us:Γ Θ},au X.K HF (VB.map af) vs->aI vs us->Paired (vc s.heap) us VB
 | [],_,_,h,r=>by rw[h.nil_inv] at r;cases r;exact .nil
 | ns::VB,_,_,h,r=>by
  let⟨v,vr,rfl,a,b⟩:=h.cons_inv;cases r with
  | cons r rr =>
   refine .cons ?_ (Df I sm b rr);unfold af at a;simp?[Rep] at a;let⟨p,ws,rfl,hs,ZP⟩:=a;cases r;let⟨its,rv,⟨o,ho,hc,n,hd⟩,_⟩:=I.tuple (aE sm hs);have:ws=ns.map V.int:=by
    have key:∀ {ns:Γ Int}{ws:Γ V},au X.K HF (ns.map PyData.int) ws->ws=ns.map V.int:=λ{ns}=>by
     induction ns with
     | nil=>exactλh=>h.nil_inv
     | cons n ns ih =>
      intro ws h;let⟨v,r,rfl,a,b⟩:=h.cons_inv;simp?[Rep] at a;rw[a,ih b];rfl
    exact key ZP
   subst this;exact⟨p,o,its.toArray,n,rfl,ho,hc,hd,intsAre_of rv⟩
def og:fN X (.builtin "sorted") (λxs H Q=>∃ (HF:Hp) (a:Ψ) (vs:Γ V) (VB:Γ (Γ Int)),xs=[.ref a]/\aB HF H/\(gc X.K HF a vs\/gG X.K HF a vs)/\au X.K HF (VB.map af) vs/\(∀ns∈VB,ns≠[])/\VB.length < 64 /\
  ∀ (Dn:Ψ) (us:Γ V),H Dn=none->au X.K HF ((sQ VB).map af) us->Q (.ref Dn) (upd H Dn (.lst us))):=by
 sleep 18;let⟨HF,a,vs,VB,rfl,sm,hq,rr,hn,XO,q⟩:=h;let⟨u,rfl,rx⟩:=vals1 r;cases rx;obtain⟨its,rv,pl,hz⟩:∃its:Γ Θ,aI vs its/\X6.YT s.heap a its/\vs.length<=sizeLine:=by
  rcases hq with hq|hq
  ·let⟨its,rv,pl,hz⟩:=I.list (sm.seq hq);let⟨o,ho,hc,n,hd⟩:=pl.isList;exact⟨its,rv,⟨o,"list",n,.inl rfl,ho,hc,hd⟩,hz⟩
  ·let⟨its,rv,pl,hz⟩:=I.tuple (aE sm hq);let⟨o,ho,hc,n,hd⟩:=(show s.heap.IsTuple a its.toArray from pl)
   exact⟨its,rv,⟨o,"tuple",n,.inr rfl,ho,hc,hd⟩,hz⟩
 have hl1:=rr.length;rw[zD] at hl1;refine zp pl (Df I sm rr rv) hn (by have:=rv.length;lia) λh' Dn c kp hD e=>?_;have hv:=xo (λi=>rk VB (VB.getD i [])) rv;have hr:=zk (λi=>rk VB (VB.getD i [])) rr;rw[J9,JL] at hr;refine⟨.ref Dn,_,I.laid (t':=s.toks) (o:=.lst (xf (λi=>rk VB (VB.getD i [])) vs .Vs)) kp hD ⟨?_,_,c,hv,e⟩,rfl,q Dn _ (I.Vx.fresh hD) hr⟩;rw[(mR _ _ _).length_eq];exact hz
def gM:Γ D->Δ (Γ D):=λds=>(oneOf ds).bind λd=>match d with
 | .list es=>(rowsOf es).bind λVB=>if VB.length < 64 then some ((sQ VB).map af) else none
 | .tuple es=>(rowsOf es).bind λVB=>if VB.length < 64 then some ((sQ VB).map af) else none
 | _=>none
def EI(B:pW X "sorted" (.builtin "sorted"))(ha:DA X [e] fs)(he:starEach [e] X.env=(false,eval e X.env)::starEach [] X.env:=by rfl):DF X (.Call (.Name "sorted" p) [e] [] pos) (tq gM fs) :=
 HG og (by
  intro HF H ds vs d Q sm r hg q;let⟨x,hx,hg⟩:=bs hg;rw[gD hx] at r;have key:∀ (b:θ) (es:Γ D),au X.K HF [if b then .tuple es else .list es] vs->((rowsOf es).bind λVB=>if VB.length < 64 then some ((sQ VB).map af) else none)=some d->(∃ (HF:Hp) (a:Ψ) (us:Γ V) (VB:Γ (Γ Int)),vs=[.ref a]/\aB HF H/\(gc X.K HF a us\/gG X.K HF a us)/\au X.K HF (VB.map af) us/\(∀ns∈VB,ns≠[])/\VB.length < 64/\∀ (Dn:Ψ) (ws:Γ V),H Dn=none->au X.K HF ((sQ VB).map af) ws->Q (.ref Dn) (upd H Dn (.lst ws))):=λb es r hg=>by
   let⟨VB,hb,hg⟩:=bs hg;split at hg
   ·rename_i XO;cases hg;let⟨v,r',rfl,a,e0⟩:=r.cons_inv;rw[e0.nil_inv];let⟨e1,e2⟩:=pO hb;obtain⟨p,us,rfl,h,rr⟩:∃p us,v=.ref p/\(gc X.K HF p us\/gG X.K HF p us)/\au X.K HF es us:=by
     cases b
     ·simp?[yN,qN,Rep] at a;let⟨p,us,rfl,h,rr⟩:=a;exact⟨p,us,rfl,.inl h,rr⟩
     ·simp?[xG,Rep] at a;let⟨p,us,rfl,h,rr⟩:=a;exact⟨p,us,rfl,.inr h,rr⟩
    rw[e1] at rr;exact⟨HF,p,us,VB,rfl,sm,h,rr,e2,XO,λDn ws hD hr=>q Dn ws _ HF (.own sm hD) hD (sm.free hD) aw hr⟩
   ·cases hg
  cases x<;>try cases hg
  ·exact key false _ r hg
  ·exact key true _ r hg) B ha (by decide) (by decide) he rfl
end Dl
namespace En
open PySem PyProof.Rows
open AutoSeq1 (wpAny_loadPart')
def Xn(hj:s.heap.IsTupleIter j t k)(ht:s.heap.IsTuple t its)(hv:its[k]?=some v)
  (hQ:∀g,g.IsTupleIter j t (k+1)->Heap.SameBut j s.heap g->Q v { s with heap:=g }):wpAny (model prog w) A (Builtin.SmallTypes.nextOf (.ref j)) Q E s:=by
 let⟨oj,gj,cj,dj⟩:=id hj;let⟨ot,gt,_,nt,dt⟩:=ht;unfold Builtin.SmallTypes.nextOf;refine zV (qB (name:=Str.ofString "__next__") hj.typeIs jP (qU jP hj.typeIs F.entry_tuple_iterator_next ?_ (F.args_tuple_iterator_next_1 _)));refine zV (m:=field (.ref j) 0) (qS gj dj (x:=.ref t) rfl ?_);show wpAny _ _ (if (Value.ref t == Value.none)=true then _ else _) _ _ s;rw[yM (show ¬ ((Value.ref t == Value.none)=true) by exact yY)];refine zV (m:=field (.ref j) 1) (qS gj dj (x:=.int k 0) rfl ?_);refine zV (m:=seqItems? (.ref t)) (kC gt dt ?_);simp?[yG,hv];refine zV (wpAny_setField gj dj (by simp) (zW ⟨v,rfl,zW (hQ _ ⟨_,Heap.get?_update_self _ gj (Obj.isFreed_of_fields (Obj.data_mapFields dj _)),(Obj.cls_mapFields ..).trans cj,?_⟩ (Heap.SameBut.update ..))⟩));rw[Obj.data_mapFields dj];simp[rawInt]
def XQ{Q:Θ->Ξ->Prop}(hh:A.handled=none)(hj:s.heap.IsTupleIter j t k)(ht:s.heap.IsTuple t its)(hv:its[k]?=none)
  (hE:∀g x,Heap.ExtBut j s.heap g->(∃o,g.get? x=some o/\o.cls=.type "StopIteration")->E (.ref x) { s with heap:=g }):wpAny (model prog w) A (Builtin.SmallTypes.nextOf (.ref j)) Q E s:=by
 let⟨oj,gj,cj,dj⟩:=id hj;let⟨ot,gt,_,nt,dt⟩:=ht;unfold Builtin.SmallTypes.nextOf;refine zV (qB (name:=Str.ofString "__next__") hj.typeIs jP (qU jP hj.typeIs F.entry_tuple_iterator_next ?_ (F.args_tuple_iterator_next_1 _)));refine zV (m:=field (.ref j) 0) (qS gj dj (x:=.ref t) rfl ?_);show wpAny _ _ (if (Value.ref t == Value.none)=true then _ else _) _ _ s;rw[yM (show ¬ ((Value.ref t == Value.none)=true) by exact yY)];refine zV (m:=field (.ref j) 1) (qS gj dj (x:=.int k 0) rfl ?_);refine zV (m:=seqItems? (.ref t)) (kC gt dt ?_);simp?[yG,hv];refine zV (vW (zV (wpAny_setField gj dj (by simp) (zV (m:=newExc (.type "StopIteration") []) ?_))));simp?[newExc,newTuple];refine zV (qK (zV (m:=firstArgMember _ _) (wpAny_of_eq (a:=Value.none) (by first|rfl|(simp?[firstArgMember];rfl)) ?_)) (by size_fits));refine qK ?_ (by size_fits);simp?[raiseNew];refine zV (wpAny_handled ?_)
 first|rw[show A.in1.handled=none from hh]|rw[hh]
 exact zV (zW (wpAny_throw (hE _ _ (((Heap.SameBut.update ..).extBut.push _).push _) ⟨_,zX _ rfl,rfl⟩)))
def Xc(t:Ψ)(its:Array Θ)(n:Nat)(dd:Δ Ψ)(sl:Array (Δ Θ)) :
  Meets (Builtin.«enumerate.__new__» ⟨[.type "enumerate",.ref t],[]⟩) (λ_ R s=>s.heap.get? t=some { cls:=.type "tuple",dict:=dd,data:=.seq its n,slots:=sl } /\
   R (.ok (.ret (.ref (s.heap.push { cls:=.type "tuple_iterator",data:=.fields #[.ref t,.int 0 0] }).objs.size)))
    { s with heap:=(s.heap.push { cls:=.type "tuple_iterator",data:=.fields #[.ref t,.int 0 0] }).push { cls:=.type "enumerate",data:=.fields #[.none,.bool false,.ref s.heap.objs.size,rawInt 0,.none,.none] } }) :=
 .of_wp λprog w A R s h=>by
  let⟨hp,g,d,tk,os⟩:=s;let⟨hl,h⟩:=h;have Xo:=sub_enumerate;have hL:Heap.IsTuple (Shared.heap ⟨hp,g,d,tk,os⟩) t its:=⟨_,hl,rfl,n,rfl⟩
  wp_walk using wpAny_loadPart' hl
  refine wpAny_stack_any λst=>zW ?_;split
  ·rename_i c _ _ _ _ _;cases (c == Value.type "enumerate")
   ·wp_walk using wpAny_loadPart' hl,xQ hL
    exact⟨_,rfl,h⟩
   ·wp_walk using wpAny_loadPart' hl,xQ hL
    exact⟨_,rfl,h⟩
  ·wp_walk using wpAny_loadPart' hl,xQ hL
   exact⟨_,rfl,h⟩
def Xp(ht:s.heap.IsTuple t its)
  (h:∀h',IsEnum h' (s.heap.objs.size+1) s.heap.objs.size 0 .none->h'.IsTupleIter s.heap.objs.size t 0->h'.objs.size=s.heap.objs.size+2->(∀b o,s.heap.get? b=some o->h'.get? b=some o)->Q (.ref (s.heap.objs.size+1)) { s with heap:=h' }) :
  wpAny (model prog w) A (call (.type "enumerate") [.ref t]) Q E s:=by
 let⟨⟨c,dct,dt,sl⟩,hl,hc,n,hd⟩:=ht;simp only at hc hd;subst hc hd;refine callType_new F.called_enumerate (by decide) (F.typeCall_enumerate_1 _) (F.newCall_enumerate_1 _) (λobj=>F.args_object_init_2 obj _) F.entry_enumerate_new (Xc t its n dct sl) ⟨hl,?_⟩;have hz:(s.heap.push { cls:=.type "tuple_iterator",data:=.fields #[.ref t,.int 0 0] }).objs.size=s.heap.objs.size+1:=by rw[xI]
 have he:=zX (s.heap.push { cls:=.type "tuple_iterator",data:=.fields #[.ref t,.int 0 0] }) (o:={ cls:=.type "enumerate",data:=.fields #[.none,.bool false,.ref s.heap.objs.size,rawInt 0,.none,.none] }) rfl;show _/\_;rw[hz] at he ⊢;refine⟨⟨_,he,rfl⟩,h _ he ⟨_,zU _ (zX _ rfl),rfl,rfl⟩ ?_ λb o x=>zU _ (zU _ x)⟩;show (Heap.push _ _).objs.size=_;rw[xI,hz]
end En
namespace Dl
open PySem L2 PySem.Spec PyProof.Rows
section
variable {ch:Γ Ψ}
def zc(I:Inv X pins σ H s)(W4:∀b∈ch,cM X pins H b)(k:∀b o,b∉ch->s.heap.get? b=some o->h'.get? b=some o){T:Ψ}{vals:Γ Θ}{xs:Γ V}(hT:s.heap.objs.size<=T)(ht:qo h' T vals.toArray)
  (rv:aI xs vals) (hz:xs.length<=sizeLine):Inv X pins σ (upd H T (.tup xs)) { s with heap:=h',toks:=t' }:=by
 have nT:H T=none:=I.Vx.fresh hT;have ne:∀b o,s.heap.get? b=some o->b≠T:=λb o e=>yQ (zP (zY e) hT);have ne2:∀b o,H b=some o->b≠T:=λb o e=>aG e nT;have XG:∀b o,H b=some o->b∉ch:=λb o e z=>by rw[(W4 b z).1] at e;cases e
 refine I.step (g':=s.gens) (d':=s.drawn) (ch:=ch) (λb hb=>?_) (λb o _ _ hc e _=>k b o hc e) (λb o _ _ hc e _=>⟨o.slots,k b o hc e⟩) (λb o _ e n=>by rw[ak (ne b o e)];exact n)
  (λb o hc e=>⟨o,k b o hc e⟩) (λb ys e=>by rw[ak (ne2 b _ e)];exact e) (λb o u e=>by rw[ak (ne2 b _ e)];exact e) (.kept (λb u ⟨q,z⟩ e=>k b u (XG b _ z) e) λb u e _=>by rw[ak (ne2 b _ e)];exact e) (λm hm=>?_) (λb u e=>?_) I.bare
 ·let⟨f0,f1,f2,f3,f4,f5⟩:=W4 b hb;exact⟨f3,f1,f4,f5⟩
 ·let⟨o,es,ep,ho,r⟩:=hm;exact⟨o,es,ep,k _ o (λz=>(W4 _ z).2.1 rfl) ho,r⟩
 ·by_cases hb:b=T
  ·subst hb;rw[aw] at e;cases e;exact⟨hz,vals,rv,ht⟩
  ·rw[ak hb] at e;refine (I.Vx b u e).V6 (λc v hc q=>k c v ?_ q) (λ_ q=>?_) λc v q _=>?_
   ·rcases hc with z|z
    ·rw[z];exact XG b u e
    ·exact XG c _ z
   all_goals first
    | (rw[ak (ne2 _ _ q)];exact q)
    | exact q
def RU(I:Inv X pins σ H s)(hf:cM X pins H b)(h:X.K.lookup a=some o):a≠b:=by
 rintro rfl;have hb:=I.ok.mod.ZF a o h;rcases hf.2.2.2.1 with z|z
 ·exact I.ok.XF a o hb z
 ·exact absurd (zP (zY (I.ok.bs a o hb).1) z) (qD _)
def NR(I:Inv X pins σ H s)(hf:cM X pins H b)(h:gc X.K H a xs):a≠b:=by
 rcases h with (h|⟨o,h⟩)|⟨o,its,n,h,_⟩
 ·exact aG h hf.1
 ·exact aG h hf.1
 ·exact RU I hf h
def MG(I:Inv X pins σ H s)(hf:cM X pins H b)(h:gG X.K H a xs):a≠b:=by
 rcases h with (h|⟨o,h⟩)|⟨o,its,n,h,_⟩
 ·exact aG h hf.1
 ·exact aG h hf.1
 ·exact RU I hf h
end
def Tz(sq:Hp->Γ V->Prop):It:=⟨λi H=>∃xs x,sq H xs/\xs[i]?=some x,λi H v H'=>∃T y,v=.ref T/\H T=none/\H'=upd H T (.tup [.int (i:Nat),y])/\∀xs,sq H xs->xs[i]?=some y,λi H=>∃xs,sq H xs/\xs.length<=i⟩
def bK(k:Nat):Γ D->Γ D
 | []=>[]
 | d::ds=>.tuple [.int (k:Nat),d]::bK (k+1) ds
def uH:∀ {ds:Γ D}{k i:Nat}{d:D},(bK k ds)[i]?=some d->∃x,ds[i]?=some x/\d=.tuple [.int ((k+i:Nat):Int),x]
 | [],k,i,d,h=>by simp[bK] at h
 | x::ds,k,0,d,h=>by simp[bK] at h;exact⟨x,rfl,h.symm⟩
 | x::ds,k,i+1,d,h=>by
  simp?[bK,yX] at h;let⟨y,h1,h2⟩:=uH h;refine⟨y,by simpa using h1,?_⟩;rw[h2,show k+1+i=k+(i+1) by lia]
def tY:∀ (ds:Γ D) (k:Nat),(bK k ds).length=ds.length
 | [],k=>rfl
 | x::ds,k=>by simp[bK,tY ds (k+1)]
def DD{K:Φ}(h:sq HF vs)(mo:∀H H',aB H H'->sq H vs->sq H' vs)(r:au K HF ds vs):rg K (Tz sq) HF (bK 0 ds) where
 go:=λi d VX VE e s1 s2=>by
  let⟨x,hx,rfl⟩:=uH e;rw[jC];let⟨v,hv,rv⟩:=r.getD hx;have q:=mo _ _ s2 (mo _ _ s1 h);refine⟨⟨vs,v,q,hv⟩,λy Xa ⟨T,z,e1,hT,e2,hy⟩=>?_⟩;have:=hy vs q;rw[hv] at this;cases this;subst e1 e2;exact⟨_,.new s2 hT,eK (s2.free hT) (au.cons (by simp[Rep]) (au.cons (rv.mono s1) au.nil))⟩
 stop:=λVX VE s1 s2=>⟨vs,mo _ _ s2 (mo _ _ s1 h),by rw[tY,r.length];exact yL _⟩
def Ta(Z8 Z9:Hp->Γ V->Prop):It:=⟨λi H=>∃xs ys x y,Z8 H xs/\Z9 H ys/\xs[i]?=some x/\ys[i]?=some y,
 λi H v H'=>∃T x y,v=.ref T/\H T=none/\H'=upd H T (.tup [x,y])/\(∀xs,Z8 H xs->xs[i]?=some x)/\∀ys,Z9 H ys->ys[i]?=some y,
 λi H=>∃xs ys,Z8 H xs/\Z9 H ys/\(xs.length<=i\/ys.length<=i)⟩
section
variable {ch:Γ Ψ}
def DM(I:Inv X pins σ H s)(W4:∀b∈ch,cM X pins H b)(k:∀b o,b∉ch->s.heap.get? b=some o->h'.get? b=some o):Inv X pins σ H { s with heap:=h',toks:=t' }:=by
 have XG:∀b o,H b=some o->b∉ch:=λb o e z=>by rw[(W4 b z).1] at e;cases e
 refine I.step (g':=s.gens) (d':=s.drawn) (ch:=ch) (λb hb=>?_) (λb o _ _ hc e _=>k b o hc e) (λb o _ _ hc e _=>⟨o.slots,k b o hc e⟩) (λb o _ e n=>n)
  (λb o hc e=>⟨o,k b o hc e⟩) (λb ys e=>e) (λb o u e=>e) (.kept (λb u ⟨q,z⟩ e=>k b u (XG b _ z) e) λb u e _=>e) (λm hm=>?_) (λb u e=>?_) I.bare
 ·let⟨f0,f1,f2,f3,f4,f5⟩:=W4 b hb;exact⟨f3,f1,f4,f5⟩
 ·let⟨o,es,ep,ho,r⟩:=hm;exact⟨o,es,ep,k _ o (λz=>(W4 _ z).2.1 rfl) ho,r⟩
 ·refine (I.Vx b u e).V6 (λc v hc q=>k c v ?_ q) (λ_ q=>q) λc v q _=>q;rcases hc with z|z
  ·rw[z];exact XG b u e
  ·exact XG c _ z
end
structure UY(z TI TO i1 i2:Addr):Prop where
 a1:TI≠z
 a2:TO≠z
 a3:i1≠z
 a4:i2≠z
 a5:TI≠TO
 a6:TI≠i1
 a7:TI≠i2
 a8:TO≠i1
 a9:TO≠i2
 a0:i1≠i2
def j9:Γ D->Γ D->Γ D
 | x::xs,y::ys=>.tuple [x,y]::j9 xs ys
 | _,_=>[]
def rG:∀ {xs ys:Γ D}{i:Nat}{d:D},(j9 xs ys)[i]?=some d->∃x y,xs[i]?=some x/\ys[i]?=some y/\d=.tuple [x,y]
 | [],_,i,d,h=>by simp[j9] at h
 | _::_,[],i,d,h=>by simp[j9] at h
 | x::xs,y::ys,0,d,h=>by simp[j9] at h;exact⟨x,y,rfl,rfl,h.symm⟩
 | x::xs,y::ys,i+1,d,h=>by
  simp?[j9,yX] at h;let⟨a,b,h1,h2,h3⟩:=rG h;exact⟨a,b,by simpa using h1,by simpa using h2,h3⟩
def nN:∀ (xs ys:Γ D),(j9 xs ys).length=min xs.length ys.length
 | [],_=>by simp[j9]
 | _::_,[]=>by simp[j9]
 | x::xs,y::ys=>by simp[j9,nN xs ys]
def FC{K:Φ}(h1:Z8 HF vs)(mo1:∀H H',aB H H'->Z8 H vs->Z8 H' vs)(h2:Z9 HF us)(mo2:∀H H',aB H H'->Z9 H us->Z9 H' us)(r1:au K HF xs vs)(r2:au K HF ys us) :
  rg K (Ta Z8 Z9) HF (j9 xs ys) where
 go:=λi d VX VE e s1 s2=>by
  let⟨x,y,hx,hy,rfl⟩:=rG e;let⟨v,hv,rv⟩:=r1.getD hx;let⟨u,hu,ru⟩:=r2.getD hy;have q1:=mo1 _ _ s2 (mo1 _ _ s1 h1);have q2:=mo2 _ _ s2 (mo2 _ _ s1 h2);refine⟨⟨vs,us,v,u,q1,q2,hv,hu⟩,λw Xa z=>?_⟩;let⟨T,a,b,e1,hT,e2,ha,hb⟩:=z;have ea:=ha vs q1;have eb:=hb us q2;rw[hv] at ea;rw[hu] at eb;cases ea;cases eb;subst e1 e2;exact⟨_,.new s2 hT,eK (s2.free hT) (au.cons (rv.mono s1) (au.cons (ru.mono s1) au.nil))⟩
 stop:=λVX VE s1 s2=>⟨vs,us,mo1 _ _ s2 (mo1 _ _ s1 h1),mo2 _ _ s2 (mo2 _ _ s1 h2),by rw[nN,r1.length,r2.length];lia⟩
def cut(xs:Γ α)(lo hi:Δ Int):Γ α:=(xs.drop (HT.dD xs.length 0 lo)).take (HT.dD xs.length xs.length hi - HT.dD xs.length 0 lo)
def JJ(xs:Γ α)(lo hi:Δ Int):(cut xs lo hi).length<=xs.length:=by
 unfold cut;rw[jU,qG];lia
def rO{K:Φ}(r:au K H ds vs)(lo hi:Δ Int):au K H (cut ds lo hi) (cut vs lo hi):=by
 unfold cut;rw[r.length];exact (r.drop _).take _
section
def Ds{vl:Θ}{lo:Δ Int}(ht:IsTup s.heap t its)(hs:s.heap.IsSliceOf sl vl vu .none)(pl:IsPart vl lo)(pu:IsPart vu hi)
  (hw:HT.dD its.size 0 lo=0/\HT.dD its.size its.size hi=its.size) (h:Q (.ref t) s):wpAny (model prog w) A (getItem (.ref t) (.ref sl)) Q E s:=by
 let⟨os,ZO,hcs,Yd⟩:=id hs;have hTs:s.TypeIs (.ref sl) "slice":=⟨os,ZO,hcs⟩
 unfold getItem
 try with_reducible refine xW ?_
 first|refine zV (zW ?_)|skip
 refine zV (wpAny_sequenceKey ht.typeIs (by decide) (zV (qB (name:=Str.ofString "__getitem__") ht.typeIs jE (qU jE ht.typeIs entry_tuple_getitem ?_ (args_tuple_getitem _ _)))));refine zV (m:=Builtin.Tuple.tupleItemsOf (.ref t)) (tupleItemsOf_ ht (zV (vY hTs ?_)));rw[yK (by decide)];refine zV (HT.iA hs pl pu ?_);show wpAny _ _ (if (((HT.dD its.size 0 lo:Nat):Int) == 0&&(1:Int) == 1&&(HT.dD its.size its.size hi - HT.dD its.size 0 lo) == its.size)=true then _ else _) _ _ s;rw[hw.1,hw.2,yK (by simp)];unfold Builtin.Tuple.tupleIsExact;refine zV (zV (vY ht.typeIs (zW ?_)));rw[yK (by decide)]
 first
  | exact zV (vW (zW ⟨_,rfl,zW h⟩))
  | exact zV (vW (zV (zW (zW ⟨_,rfl,zW h⟩))))
def Tf(K:Φ):V->Δ Int->Δ Int->Hp->VK->Prop:=λx lo hi H Q=>∃a xs,x=.ref a/\gG K H a xs/\(cut xs lo hi=xs->Q (.ref a) H)/\∀p,H p=none->Q (.ref p) (upd H p (.tup (cut xs lo hi)))
def Pt:L3 X (Tf X.K):=by
 intro pins s σ H x v vl vu lo hi sl Q I rx hs pl pu h;let⟨a,xs,rfl,hx,q1,q2⟩:=h;by_cases hw:HT.dD xs.length 0 lo=0/\HT.dD xs.length xs.length hi=xs.length
 ·cases rx;let⟨its,r,ht,hz⟩:=I.tuple hx;have hlen:its.toArray.size=xs.length:=by rw[zH];exact r.length.symm
  refine⟨"tuple",_,PyProof.Rows.slot_tuple_getitem.lookup,ht.typeIs,Ds ht hs pl pu (by rw[hlen];exact hw) ⟨.ref a,H,I,rfl,q1 ?_⟩⟩;unfold cut;rw[hw.1,hw.2,List.drop_zero,Nat.sub_zero,List.take_length]
 ·exact Nw pins s σ H (.ref a) v vl vu lo hi sl Q I rx hs pl pu ⟨a,xs,rfl,hx,hw,q2⟩
def Td(K:Φ):V->Δ Int->Δ Int->Hp->VK->Prop:=λx lo hi H Q=>∃a xs,x=.ref a/\gc K H a xs/\∀p,H p=none->Q (.ref p) (upd H p (.lst (cut xs lo hi)))
def AB(lo hi:Δ Int)(n:Nat):sliceBounds lo hi none n=(((HT.dD n 0 lo:Nat):Int),((HT.dD n n hi:Nat):Int),1):=by
 have h1:(1:Int) > 0:=by lia
 refine Prod.ext ?_ (Prod.ext ?_ rfl)
 ·cases lo with
  | none=>simp[sliceBounds,HT.dD]
  | some x =>
   by_cases h:x < 0
   ·simp?[sliceBounds,HT.dD,kH,h1,xG,yK h];lia
   ·simp?[sliceBounds,HT.dD,kH,h1,xG,yM h];lia
 ·cases hi with
  | none=>simp[sliceBounds,HT.dD]
  | some x =>
   by_cases h:x < 0
   ·simp?[sliceBounds,HT.dD,kH,h1,xG,yK h];lia
   ·simp?[sliceBounds,HT.dD,kH,h1,xG,yM h];lia
def Jc:L3 X (Td X.K):=by
 intro pins s σ H x v vl vu lo hi sl Q I rx hs pl pu h;let⟨a,xs,rfl,hx,q⟩:=h;cases rx;let⟨its,r,p,hz⟩:=I.list hx;have hlen:=r.length;refine⟨"list",_,slot_list_getitem.lookup,p.isList.typeIs,wpAny_getItem_list_slice p.isList hs pl pu .none (by simp) ?_ (by rw[zH];lia)⟩;rw[W.kmk_pick_nat its.toArray (AB lo hi its.toArray.size)];have e:((its.toArray.toList.drop (HT.dD its.toArray.size 0 lo)).take (HT.dD its.toArray.size its.toArray.size hi - HT.dD its.toArray.size 0 lo))=cut its lo hi:=by unfold cut;simp
 rw[e];have rc:aI (cut xs lo hi) (cut its lo hi):=by unfold cut;rw[hlen];exact (r.drop _).take _
 exact⟨.ref s.heap.objs.size,_,I.ZT (t':=s.toks) rc (yD (JJ xs lo hi) hz),rfl,q _ I.fresh⟩
def U8(K:Φ)(f:Env->Δ (Δ Int)):TO:=λσ H Q=>∃HF ρ o,aB HF H/\cB K HF ρ σ/\f ρ=some o/\∀H' Vt,bA HF H Vt H'->Q o H'
def DO(X:Cx)(e:Δ γ)(f:Env->Δ (Δ Int)):Prop:=PO X e (U8 X.K f)
def oF:Env->Δ (Δ Int):=λ_=>some none
def gI:D->Δ Int|.int i=>some i|_=>none
def DY(f:Env->Δ D):Env->Δ (Δ Int):=λρ=>(f ρ).bind λd=>(gI d).map some
def Kg:DO X none oF:=λpins s σ H Q I z=>by let⟨HF,ρ,o,sm,eo,hf,q⟩:=z;exact JZ pins s σ H Q I (by cases hf;exact q H HF (.refl sm))
def IV(h:DE X e f):DO X (some e) (DY f):=λpins s σ H Q I ⟨HF,ρ,o,sm,eo,hf,q⟩=>Kr h pins s σ H Q I (by
 let⟨d,hd,hf⟩:=bs hf;let⟨i,hi,rfl⟩:=ae hf;cases d<;>try cases hi
 exact⟨HF,ρ,_,sm,eo,hd,λv H1 Vu g1 r1=>⟨_,by simpa only[Rep] using r1,q H1 Vu g1⟩⟩)
variable {lo hi:Δ γ}{fl fh:Env->Δ (Δ Int)}
def oH(g:D->Δ Int->Δ Int->Δ β)(fa:Env->Δ D)(fl fh:Env->Δ (Δ Int)):Env->Δ β:=λρ=>(fa ρ).bind λx=>(fl ρ).bind λl=>(fh ρ).bind λh=>g x l h
end
def f1(g:D->Δ D)(f:Env->Δ D):Env->Δ D:=λρ=>(f ρ).bind g
end Dl
namespace HT
open PySem PyProof.Rows
section
open PySem.SeqAt
open PySem.AutoSeq1 (wpAny_loadPart')
open PySem.MeetsSeq PySem.MeetsSeq2 PySem.MeetsSeq3
end
end HT
namespace Dl
open PySem L2 PySem.Spec PyProof.Rows
def lN:D->Δ (Γ Int)|.tuple ds=>intsOf ds|_=>none
def mY(h:lN x=some ns):x=.tuple (ns.map PyData.int):=by
 cases x<;>try cases h
 rename_i xs;have h:intsOf xs=some ns:=h;rw[dH h]
end Dl
namespace En
open PySem PyProof.Rows
open AutoSeq1 (wpAny_loadPart')
def Xq:fillsNumberSlot (.type "tuple") "mul"=pure false:=PySem.fillsNumberSlot_seq (id:="tuple.__mul__") (r:=some (.builtin "tuple.__rmul__")) F.slot_tuple_mul.lookup (by decide +kernel) F.slot_tuple_rmul.lookup (by decide +kernel)
def Xr:seqRepeat? (.type "tuple")=pure (some (.builtin "tuple.__mul__")):=by
 unfold seqRepeat?;rw[PySem.seqSlot_of (T:="tuple") (name:="__mul__") (id:="tuple.__mul__") F.slot_tuple_mul.lookup (by decide +kernel),PySem.seqSlot_of (T:="tuple") (name:="__rmul__") (id:="tuple.__rmul__") F.slot_tuple_rmul.lookup (by decide +kernel)];rfl
def Yo(a:Int)(t:Tok)(l:Ψ)(its:Array Θ)(n:Nat)(dd:Δ Ψ)(sl:Array (Δ Θ)) :
  Meets (Builtin.«int.__rmul__» ⟨[.int a t,.ref l],[]⟩) (λ_ R s=>s.heap.get? l=some { cls:=.type "tuple",dict:=dd,data:=.seq its n,slots:=sl }/\R (.ok (.ret Value.notImplemented)) s) :=
 .of_wp λprog w A R s h=>by
  let⟨hp,g,d,tk,os⟩:=s;let⟨hl,h⟩:=h
  wp_walk
  exact⟨_,rfl,h⟩
def XR(l:Ψ)(its:Array Θ)(n:Nat)(dd:Δ Ψ)(sl:Array (Δ Θ))(k:Int)(t:Tok)(h1:¬ (decide (k < -(2 ^ 63))||decide (k >= 2 ^ 63))=true)(h2:(its.isEmpty||k == 1)=true) :
  Meets (Builtin.«tuple.__mul__» ⟨[.ref l,.int k t],[]⟩) (λ_ R s=>s.heap.get? l=some { cls:=.type "tuple",dict:=dd,data:=.seq its n,slots:=sl }/\R (.ok (.ret (.ref l))) s) :=
 .of_wp λprog w A R s h=>by
  let⟨hp,g,d,tk,os⟩:=s;let⟨hl,h⟩:=h;have f1:=AutoSeq1.idx_int
  wp_walk using wpAny_loadPart' hl
  rw[yM h1]
  wp_walk using wpAny_loadPart' hl
  exact⟨_,rfl,h⟩
def XU(l:Ψ)(its:Array Θ)(n:Nat)(dd:Δ Ψ)(sl:Array (Δ Θ))(k:Int)(t:Tok)(h1:¬ (decide (k < -(2 ^ 63))||decide (k >= 2 ^ 63))=true)(h2:¬ (its.isEmpty||k == 1)=true)(h3:(decide (k<=0)||its.isEmpty)=true) :
  Meets (Builtin.«tuple.__mul__» ⟨[.ref l,.int k t],[]⟩) (λ_ R s=>s.heap.get? l=some { cls:=.type "tuple",dict:=dd,data:=.seq its n,slots:=sl }/\R (.ok (.ret (.ref s.heap.objs.size))) { s with heap:=s.heap.push { cls:=.type "tuple",data:=.seq #[] } }) :=
 .of_wp λprog w A R s h=>by
  let⟨hp,g,d,tk,os⟩:=s;let⟨hl,h⟩:=h;have f1:=AutoSeq1.idx_int
  wp_walk using wpAny_loadPart' hl
  rw[yM h1]
  wp_walk using wpAny_loadPart' hl
  exact⟨_,rfl,h⟩
def XW(l:Ψ)(its:Array Θ)(n:Nat)(dd:Δ Ψ)(sl:Array (Δ Θ))(k:Int)(t:Tok)(h1:¬ (decide (k < -(2 ^ 63))||decide (k >= 2 ^ 63))=true)(h2:¬ (its.isEmpty||k == 1)=true)(h3:¬ (decide (k<=0)||its.isEmpty)=true)
  (h4:¬ ((its.size:Nat):Int) * k > (2 ^ 63 - 1) / 8) (h5:¬ Builtin.Tuple.tupleTooMany (((its.size:Nat):Int) * k)=true) (hz:((List.replicate k.toNat its).foldl (·++·) #[]).size<=sizeLine) :
  Meets (Builtin.«tuple.__mul__» ⟨[.ref l,.int k t],[]⟩) (λ_ R s=>s.heap.get? l=some { cls:=.type "tuple",dict:=dd,data:=.seq its n,slots:=sl }/\R (.ok (.ret (.ref s.heap.objs.size))) { s with heap:=s.heap.push { cls:=.type "tuple",data:=.seq ((List.replicate k.toNat its).foldl (·++·) #[]) } }) :=
 .of_wp λprog w A R s h=>by
  let⟨hp,g,d,tk,os⟩:=s;let⟨hl,h⟩:=h;have f1:=AutoSeq1.idx_int
  wp_walk using wpAny_loadPart' hl
  rw[yM h1]
  wp_walk using wpAny_loadPart' hl
  rw[yM h4]
  wp_walk using wpAny_loadPart' hl
  exact⟨_,rfl,h⟩
end En
namespace Dl
open PySem L2 PySem.Spec PyProof.Rows
def Mn(K:Φ):R2:=λx y H Q=>∃a k xs,x=.ref a/\y=.int k/\gG K H a xs/\-(2 ^ 62)<=k/\k < 2 ^ 62/\xs.length * k.toNat<=sizeLine/\((List.replicate k.toNat xs).flatten=xs->Q (.ref a) H) /\
 ∀p,H p=none->Q (.ref p) (upd H p (.tup (List.replicate k.toNat xs).flatten))
def LA:gH X (binaryOp .Mult) (Mn X.K):=by
 sleep 14;let⟨a,k,xs,rfl,rfl,hq,k1,k2,hz,q1,q2⟩:=h;cases rx;let⟨t,rfl⟩:=ry;let⟨its,r,pl,hzx⟩:=I.tuple hq;have hl:=r.length;let⟨⟨cls,dd,data,sl⟩,ho,hc,n,hd⟩:=id pl;simp only at hc hd;subst hc hd;have b1:¬ (decide (k < -(2 ^ 63))||decide (k >= 2 ^ 63))=true:=by
  simp?[jA,zJ];lia
 refine wpAny_binaryOp_repeat_ref (T:="tuple") (U:="int") (by decide) ⟨_,ho,rfl⟩ (λs'=>typeIs_int s' k t) En.Xq F.fills_int_mul F.slot_int_rmul En.Xr F.slot_int_index.lookup
  (qV F.slot_int_rmul (typeIs_int s k t) F.entry_int_rmul (F.args_int_rmul_2 _ _) (En.Yo k t a its.toArray n dd sl) ⟨ho,rfl,⟨_,ho,rfl⟩,?_⟩)
 have Xx:∀m:Nat,List.foldl (λx1 x2=>x1++x2) #[] (List.replicate m its.toArray)=(List.replicate m its).flatten.toArray:=λm=>by
  have:=foldl_rep its m [];rw[xN] at this;exact this
 by_cases h2:(its.toArray.isEmpty||k == 1)=true
 ·refine qV F.slot_tuple_mul ⟨_,ho,rfl⟩ wI (vX _ _) (En.XR a its.toArray n dd sl k t b1 h2) ⟨ho,⟨.ref a,H,I,rfl,q1 ?_⟩⟩;rw[jA] at h2;rcases h2 with h2|h2
  ·have:xs=[]:=by
    have e:its=[]:=by simpa using h2
    rw[e] at hl;exact List.length_eq_zero_iff.mp hl
   rw[this];simp
  ·have:k=1:=eq_of_beq h2;subst this;simp
 ·by_cases h3:(decide (k<=0)||its.toArray.isEmpty)=true
  ·refine qV F.slot_tuple_mul ⟨_,ho,rfl⟩ wI (vX _ _) (En.XU a its.toArray n dd sl k t b1 h2 h3) ⟨ho,?_⟩;have hk0:k.toNat=0:=by
    simp?[jA,zJ] at h3 h2;rcases h3 with h3|h3
    ·lia
    ·exact absurd (.inl h3) h2
   have q3:=q2 s.heap.objs.size I.fresh;rw[hk0] at q3;exact⟨.ref s.heap.objs.size,_,I.laid (t':=s.toks) (o:=.tup []) (λb ob q=>zU _ q) (yL _) ⟨xU _,[],.nil,qo.new _ _⟩,rfl,q3⟩
  ·have hm:its.length * k.toNat<=sizeLine:=by rw[<- hl];exact hz
   have hkn:(k.toNat:Int)=k:=by
    simp?[jA,zJ,not_or] at h3;lia
   have hmi:((its.toArray.size:Nat):Int) * k=((its.length * k.toNat:Nat):Int):=by rw[zH,Int.natCast_mul,hkn]
   have hv:=L2.aI.rep r k.toNat;have Zf:(List.replicate k.toNat xs).flatten.length<=sizeLine:=by rw[len_rep,Nat.mul_comm];exact hz
   have hs8:(sizeLine:Nat)<=(2 ^ 63 - 1) / 8:=by decide
   have h4:¬ ((its.toArray.size:Nat):Int) * k > (2 ^ 63 - 1) / 8:=by rw[hmi];lia
   have h5:¬ Builtin.Tuple.tupleTooMany (((its.toArray.size:Nat):Int) * k)=true:=by
    unfold Builtin.Tuple.tupleTooMany;rw[hmi];simp?[zJ];lia
   refine qV F.slot_tuple_mul ⟨_,ho,rfl⟩ wI (vX _ _) (En.XW a its.toArray n dd sl k t b1 h2 h3 h4 h5 (by rw[Xx,zH,<- hv.length];exact Zf)) ⟨ho,?_⟩;rw[Xx];exact⟨.ref s.heap.objs.size,_,I.laid (t':=s.toks) (o:=.tup (List.replicate k.toNat xs).flatten) (λb ob q=>zU _ q) (yL _) ⟨Zf,_,hv,qo.new _ _⟩,rfl,q2 _ I.fresh⟩
def zi:D->D->Δ D
 | .tuple ds,.int k=>if pU k=true/\ds.length * k.toNat<=sizeLine then some (.tuple (List.replicate k.toNat ds).flatten) else none
 | _,_=>none
def sC{K:Φ}(r:au K HF ds vs):∀k:Nat,au K HF (List.replicate k ds).flatten (List.replicate k vs).flatten
 | 0=>au.nil
 | k+1=>by rw[xD,xD,qL,qL];exact r.append (sC r k)
def F7{K:Φ}:eA K (Mn K) zi:=by
 sleep 7;cases x<;>cases y<;>simp?[zi] at hg<;>try cases hg
 split at hg
 ·rename_i xs k hh;cases hg;simp?[Rep] at r1 r2;let⟨a,vs,rfl,ha,ra⟩:=r1;have ok:=hh.1;unfold pU at ok;rw[zF] at ok;refine⟨a,k,vs,rfl,r2,aE sm ha,yP ok.1,yP ok.2,by rw[ra.length];exact hh.2,λe=>q _ H HF (.refl sm) ?_,λp hp=>q _ _ _ (.new sm hp) (eK (sm.free hp) (sC ra _))⟩;simp?[Rep];refine⟨a,vs,rfl,ha,?_⟩;have:=sC ra k.toNat;rw[e] at this;exact this
 ·cases hg
end Dl
namespace En
open PySem PyProof.Rows
def XX(hh:A.handled=none)(hl:s.heap.IsTuple l its)(hi:IntsAre its.toList ns)(hb:its.size+1 < scanBound)
  (h:∀ (h':ι) (tk:Nat),h'.SetOf (intKind prog w) s.heap.objs.size (λk'=>(firstMet (λi=>ns.getD i 0) its.size).any (· == k')) (firstMet (λi=>ns.getD i 0) its.size).length->(∀b o,b < s.heap.objs.size->s.heap.get? b=some o->h'.get? b=some o)->Q (.ref s.heap.objs.size) { s with heap:=h',toks:=tk }) :
  wpAny (model prog w) A (call (.type "set") [.ref l]) Q E s:=by
 let⟨c,tl,ahh⟩:=F.called_set.mro;have afY:=F.called_set.made;have Xo:=F.called_set.sub;refine wpAny_call (codeAny_of_tree ?_);show wpAny _ _ (callAny (.type "set") _) _ _ _;refine zW ⟨Code.quiet_builtin _ (by decide +kernel),codeAny_builtin F.entry_type_call ?_⟩;rw[Around.under_plain (weight_type_call_type "set" [.ref l] []) rfl];have h1:=F.called_set.notType;have h2:=F.called_set.canCreate;have hct:=F.typeCall_set_1 (.ref l)
 repeat (any_goals (first|assumption|wp_step))
 refine jQ (code_set_new_1 (.ref l) (E:=E) (Q₁:=λobj s1=>∃led:θ,obj=.ref s.heap.objs.size/\s1={ s with heap:=s.heap.push { cls:=.type "set",dict:=none,data:=.set #[] 0 (.fresh 0 0 led) } }) λled=>⟨led,rfl,rfl⟩) λr s1 hr=>?_;cases r with
 | error e=>exact hr
 | ok fl =>
  cases fl with
  | ret obj =>
   let⟨led,rfl,rfl⟩:=hr;have hS:(s.heap.push { cls:=.type "set",dict:=none,data:=.set #[] 0 (.fresh 0 0 led) }).get? s.heap.objs.size=some { cls:=.type "set",dict:=none,data:=.set #[] 0 (.fresh 0 0 led) }:=by exact zX _ rfl
   have hT:Shared.TypeIs { s with heap:=s.heap.push { cls:=.type "set",dict:=none,data:=.set #[] 0 (.fresh 0 0 led) } } (.ref s.heap.objs.size) "set":=⟨_,hS,rfl⟩
   have hli:=F.called_set.init.lookup;have hbi:=F.called_set.init.bind (.ref s.heap.objs.size)
   repeat (any_goals (first|assumption|wp_step))
   refine jQ (codeAny_call_builtin (R:=wants (λr s2=>r=.none/\∃h' tk,s2={ s with heap:=h',toks:=tk }/\h'.SetOf (intKind prog w) s.heap.objs.size (λk'=>(firstMet (λi=>ns.getD i 0) its.size).any (· == k')) (firstMet (λi=>ns.getD i 0) its.size).length /\
     (∀b o,b < s.heap.objs.size->s.heap.get? b=some o->h'.get? b=some o)) E) F.called_set.init.plain F.entry_set_init (check_set_init_1 hT ?_)) λr2 s2 hr2=>?_
   ·let⟨ol,hol,Xi,nl,hdl⟩:=hl;let⟨ahi,abb,af1,aaa⟩:=ol;simp only at Xi hdl;subst Xi hdl;have abc:(s.heap.push { cls:=.type "set",dict:=none,data:=.set #[] 0 (.fresh 0 0 led) }).get? l=some { cls:=.type "tuple",dict:=abb,data:=.seq its nl,slots:=aaa }:=zU _ hol;have ahj:=F.sub_tuple_set;have ahk:=F.sub_tuple_frozenset;have Wi:(Value.type "tuple" == Value.type "dict")=false:=by decide
    have hl1:(s.heap.push { cls:=.type "set",dict:=none,data:=.set #[] 0 (.fresh 0 0 led) }).IsTuple l its:=⟨_,abc,rfl,nl,rfl⟩
    unfold Builtin.«set.__init__» noKeywords Builtin.Frozenset.updateFrom;generalize hPI:pyIter=PI
    wp_walk
    subst hPI;refine xQ hl1 (zV (wpAny_runValue ?_));have hlS:l < s.heap.objs.size:=zY hol;have hh3:A.in1.in1.in1.handled=none:=by simp[hh]
    have adO:l≠(s.heap.push { cls:=.type "set",dict:=none,data:=.set #[] 0 (.fresh 0 0 led) }).objs.size:=by rw[xI];exact yQ (jM hlS)
    have hSf:s.heap.objs.size∉[(s.heap.push { cls:=.type "set",dict:=none,data:=.set #[] 0 (.fresh 0 0 led) }).objs.size,l]:=by
     rw[xI];simp?[zQ,yF,xS,not_or];exact⟨yQ (kJ _),jH hlS⟩
    have adP:∀ (i:Nat) (v:Θ),its[i]?=some v->∃t,v=.int ((λi=>ns.getD i 0) i) t:=λi v hv=>IntsAre.int_at hi i v (by rw[Array.getElem?_toList];exact hv);refine codeAny_set_update_loopS ((Walks.tuple hh3 _ l adO its).toS) s.heap.objs.size hSf (λi=>ns.getD i 0) adP hb (its.size - 0) 0 _ (by lia) (xU _) ⟨⟨_,zX _ rfl,rfl,rfl⟩,?ht⟩ ?hS0 ?hR
    case ht=>exact⟨_,zU _ abc,rfl,nl,rfl⟩
    case hS0 =>
     have adQ:((s.heap.push { cls:=.type "set",dict:=none,data:=.set #[] 0 (.fresh 0 0 led) }).push { cls:=.type "tuple_iterator",data:=.fields #[.ref l,.int 0 0] }).get? s.heap.objs.size=some { cls:=.type "set",dict:=none,data:=.set #[] 0 (.fresh 0 0 led) }:=by exact zU _ hS
     exact SetOf_congr ((setObjOf_fresh (knd:=intKind prog w) led).setOf adQ (by unfold scanBound;lia)) (λ_=>rfl) rfl
    case hR =>
     intro s' hm hS';let⟨h',g',d',tk',Vz⟩:=s';have eg:g'=s.gens:=hm.gens;have ed:d'=s.drawn:=hm.drawn;have eo:Vz=s.os:=hm.os;subst eg ed eo;show wpAny _ _ _ _ _ _;refine zW ?_;show wpAny _ _ (ret Value.none) _ _ _;refine zW ⟨rfl,h',tk',rfl,hS',λb o WB e=>?_⟩;refine hm.heap b o ?_ (zU _ (zU _ e));simp?[zQ,yF,xS,not_or];exact⟨yQ WB,by rw[xI];exact yQ (jM WB)⟩
   ·cases r2 with
    | error e=>exact hr2
    | ok fl2 =>
     cases fl2 with
     | ret r =>
      let⟨rfl,h',tk,rfl,hS',Yh⟩:=hr2
      repeat (any_goals (first|assumption|wp_step))
      exact h _ _ hS' Yh
     | _=>exact hr2.elim
  | _=>exact hr.elim
end En
namespace Dl
open PySem L2 PySem.Spec PyProof.Rows
variable {env:PySem.Env}
def many(ns:Γ Int):Nat:=(firstMet (λi=>ns.getD i 0) ns.length).length
def Et(hc:X.calm=true):fN X (.type "set") (λxs H Q=>∃ (a:Ψ) (ns:Γ Int),xs=[.ref a]/\gG X.K H a (ns.map V.int)/\ns.length+1 < scanBound/\∀q S,H q=none->Q (.ref q) (upd H q (.set S (many ns)))):=by
 sleep 18;let⟨a,ns,rfl,hq,hb,q⟩:=h;let⟨u,rfl,rx⟩:=vals1 r;cases rx;let⟨its,rv,pl,hz⟩:=I.tuple hq;have hi:IntsAre its.toArray.toList ns:=intsAre_of rv;have hlen:its.toArray.size=ns.length:=by have:=rv.length;simpa using this.symm
 refine En.XX (I.ok.hd hc) (show s.heap.IsTuple a its.toArray from pl) hi (by rw[hlen];exact hb) λh' tk hS hk=>?_;rw[hlen] at hS;exact⟨.ref s.heap.objs.size,_,I.laid (t':=tk) (λb o e=>hk b o (zY e) e) (yL _) (show dO X.prog X.w _ h' _ (.set _ (many ns)) from hS),rfl,q _ _ I.fresh⟩
def Er:fN X (.builtin "len") (λxs H Q=>∃ (a:Ψ) (S:Int->θ) (n:Nat),xs=[.ref a]/\H a=some (.set S n)/\Q (.int n) H):=by
 sleep 18;let⟨a,S,n,rfl,hq,q⟩:=h;let⟨u,rfl,rx⟩:=vals1 r;cases rx;let⟨o,es,ep,t,ho,hex,hd,hel,Yn,VU,hf,hn⟩:=(show s.heap.SetOf (intKind X.prog X.w) a S n from I.Vx a _ hq)
 have Z7:((es.size:Nat):Int) < 2 ^ 63:=by unfold scanBound at VU;lia
 refine call_len_set ho hex hd hf Z7 ⟨.int n,H,I.tok _,⟨s.toks+1,by rw[hn]⟩,q⟩
def lI:D->Δ D:=λd=>(lN d).bind λns=>if ns.length+1 < scanBound then some (.int (many ns)) else none
def Eu(hc:X.calm=true)(B:pW X "len" (.builtin "len"))(C:pW X "set" (.type "set"))(h:DE X e f)(he:starEach [e] X.env=(false,eval e X.env)::starEach [] X.env:=by rfl) :
  DE X (.Call (.Name "len" p) [.Call (.Name "set" p') [e] [] pos'] [] pos) (f1 lI f) :=
 aM (lg Er B.gl B.mg B.bt (ba (oU (Et hc) C.gl C.mg C.bt (ba h cF he) (by decide) (by decide) he rfl) cF) (by decide) (by decide) rfl rfl) λσ H Q z=>by
  sleep 2;sleep 5;let⟨ns,h1,hf⟩:=bs hf;split at hf
  ·rename_i hb;cases hf;refine⟨HF,ρ,x,sm,eo,hx,λv1 H1 Vu g1 r1=>?_⟩;rw[mY h1] at r1;simp?[Rep] at r1;let⟨a,vs,rfl,hs,rr⟩:=r1;have key:∀ {ns:Γ Int}{ws:Γ V},au X.K Vu (ns.map PyData.int) ws->ws=ns.map V.int:=λ{ns}=>by
    induction ns with
    | nil=>exactλh=>h.nil_inv
    | cons n ns ih =>
     intro ws h;let⟨v,r,rfl,a,b⟩:=h.cons_inv;simp?[Rep] at a;rw[a,ih b];rfl
   have:=key rr;subst this;refine⟨a,ns,rfl,aE g1.fh hs,hb,λb S WB=>⟨b,S,_,rfl,aw,q _ _ Vu (g1.trans (.own g1.fh WB)) (by simp[Rep])⟩⟩
  ·cases hf
def ll(val:Nat->Int):∀i,(firstMet val i).length=i↔((List.range i).map val).Nodup
 | 0=>by simp[firstMet]
 | i+1=>by
  have hle:=firstMet_length_le val i;rw[firstMet_succ,step_length,vL,qZ,wG];have ha:=firstMet_any val i (val i);have ih:=ll val i;constructor
  ·intro h;by_cases YW:(firstMet val i).any (· == val i)=true
   ·rw[yK YW] at h;lia
   ·rw[yM YW] at h;refine⟨ih.mp (by lia),by simp,λa hm b hb z=>?_⟩;have WB:b=val i:=by simpa using hb
    subst z WB;rw[ha] at YW;exact YW (List.any_eq_true.mpr ⟨_,hm,by simp⟩)
  ·rintro⟨h1,_,h3⟩;rw[yM ?_]
   ·rw[ih.mpr h1]
   ·rw[ha];intro YW;let⟨x,hx,he⟩:=List.any_eq_true.mp YW;have he':x=val i:=by simpa using he
    exact h3 x hx (val i) (by simp) he'
def BI(ns:Γ Int):many ns=ns.length↔ns.Nodup:=by
 unfold many;rw[ll];have:(List.range ns.length).map (λi=>ns.getD i 0)=ns:=k8 ns 0;rw[this]
def Aq{K:Φ}(h:eA K r g)(h':eA K r' g'):eA K (λx y H Q=>r x y H Q\/r' x y H Q) (λx y=>(g x y).or (g' x y)):=by
 sleep 7;cases e:g x y with
 | some d' =>
  have hg:(g x y).or (g' x y)=some d:=hg;rw[e] at hg;cases hg;exact .inl (h HF H x y v1 v2 d Q sm r1 r2 e q)
 | none =>
  have hg:(g x y).or (g' x y)=some d:=hg;rw[e] at hg;exact .inr (h' HF H x y v1 v2 d Q sm r1 r2 hg q)
def DU{K:Φ}:eA K (FX K) (λx y=>(Im x y).map PyData.list):=by
 sleep 7;let⟨zs,hg',rfl⟩:=ae hg;clear hg;cases x<;>cases y<;>simp?[Im] at hg'<;>try cases hg'
 let⟨rfl,hz⟩:=cS hg';simp?[Rep] at r1 r2;let⟨a,vs,rfl,ha,ra⟩:=r1;let⟨b,us,rfl,hb,rb⟩:=r2;refine⟨a,b,vs,us,rfl,rfl,sm.seq ha,sm.seq hb,by rw[ra.length,rb.length,<- zN];exact hz,λp hp=>q _ _ _ (.new sm hp) ?_⟩;simp?[Rep];exact⟨p,_,rfl,.inl (.inl aw),(ra.append rb).mono (bV (sm.free hp))⟩
def aH:D->D->Δ D:=λx y=>((xb (λ_ _=>True) λi j=>.int (i+j)) x y).or ((Lf x y).or ((Im x y).map PyData.list))
def Bk.add(C:Bk X N sc k)(ha:DE X a fa)(hb:DE X b fb):DE X (.BinOp a .Add b pos) (f2 aH fa fb):=za (N2.or (D8.or Iv)) (Aq E9 (Aq Ld DU)) ha hb
def fx:D->D->Δ D:=xb (λ_ _=>True) λi j=>.int (i - j)
def Bk.sub(C:Bk X N sc k)(ha:DE X a fa)(hb:DE X b fb):DE X (.BinOp a .Sub b pos) (f2 fx fa fb):=za MK E9 ha hb
def dX:D->D->Δ D:=λx y=>((xb tx λi j=>.int (i * j)) x y).or (zi x y)
def Bk.mul(C:Bk X N sc k)(ha:DE X a fa)(hb:DE X b fb):DE X (.BinOp a .Mult b pos) (f2 dX fa fb):=za (MD.or LA) (Aq Gy F7) ha hb
def mX:D->D->Δ D:=xb Jy λi j=>.int (i / j)
def Bk.div(C:Bk X N sc k)(ha:DE X a fa)(hb:DE X b fb):DE X (.BinOp a .FloorDiv b pos) (f2 mX fa fb):=za Lk Gy ha hb
def lW:D->D->Δ D:=xb (λ_ j=>0 < j) λi j=>.int (i % j)
def Bk.mod(C:Bk X N sc k)(ha:DE X a fa)(hb:DE X b fb):DE X (.BinOp a .Mod b pos) (f2 lW fa fb):=za MY Gy ha hb
def FD:D->D->Δ D:=xb (λ_ _=>True) λi j=>.bool (decide (i < j))
def Dj:D->D->Δ D:=xb (λ_ _=>True) λi j=>.bool (decide (i<=j))
def A4:D->D->Δ D:=xb (λ_ _=>True) λi j=>.bool (decide (j < i))
def bu:D->D->Δ D:=λx y=>(L9 x y).map PyData.bool
def e9:D->D->Δ D:=λx y=>(PX x y).map PyData.bool
def Bk.u64(C:Bk X N sc k):X.A.units+64 < cLine:=C.room.units
def Bk.u66(C:Bk X N sc k):X.A.units+66 < cLine:=by have:=C.room.un;lia
def Bk.lt(C:Bk X N sc k)(ha:DE X a fa)(hb:DE X b fb):DE X (.Compare a [.Lt] [b] pos) (f2 FD fa fb):=kn HC kr ha hb (d9 _)
def Bk.le(C:Bk X N sc k)(ha:DE X a fa)(hb:DE X b fb):DE X (.Compare a [.LtE] [b] pos) (f2 Dj fa fb):=kn E3 kr ha hb (d9 _)
def Bk.gt(C:Bk X N sc k)(ha:DE X a fa)(hb:DE X b fb):DE X (.Compare a [.Gt] [b] pos) (f2 A4 fa fb):=kn LX kr ha hb (d9 _)
def Bk.eq(C:Bk X N sc k)(ha:DE X a fa)(hb:DE X b fb):DE X (.Compare a [.Eq] [b] pos) (f2 bu fa fb):=kn (Bb C.u64) lq ha hb (d9 _)
def Bk.ne(C:Bk X N sc k)(ha:DE X a fa)(hb:DE X b fb):DE X (.Compare a [.NotEq] [b] pos) (f2 e9 fa fb):=kn (BF C.u64) lq ha hb (d9 _)
def Bk.tlt(C:Bk X N sc k)(ha:DE X a fa)(hb:DE X b fb):DT X (.Compare a [.Lt] [b] pos) (fB (f2 FD fa fb)):=jz HC kr ha hb (d9 _)
def Bk.tle(C:Bk X N sc k)(ha:DE X a fa)(hb:DE X b fb):DT X (.Compare a [.LtE] [b] pos) (fB (f2 Dj fa fb)):=jz E3 kr ha hb (d9 _)
def Bk.tgt(C:Bk X N sc k)(ha:DE X a fa)(hb:DE X b fb):DT X (.Compare a [.Gt] [b] pos) (fB (f2 A4 fa fb)):=jz LX kr ha hb (d9 _)
def Bk.teq(C:Bk X N sc k)(ha:DE X a fa)(hb:DE X b fb):DT X (.Compare a [.Eq] [b] pos) (fB (f2 bu fa fb)):=jz (Bb C.u64) lq ha hb (d9 _)
def Bk.tne(C:Bk X N sc k)(ha:DE X a fa)(hb:DE X b fb):DT X (.Compare a [.NotEq] [b] pos) (fB (f2 e9 fa fb)):=jz (BF C.u64) lq ha hb (d9 _)
def ij:D->Δ Int->Δ Int->Δ D|.tuple ds,lo,hi=>some (.tuple (cut ds lo hi))|.list ds,lo,hi=>some (.list (cut ds lo hi))|_,_,_=>none
def Bk.cut(C:Bk X N sc k){lo:Δ γ}{fl:Env->Δ (Δ Int)}(ha:DE X a fa)(hl:DO X lo fl)(hh:DO X hi fh):DE X (.Subscript a (.Slice lo hi none p2) pos) (oH ij fa fl fh):=aM (GC (Pt.or Jc) ha hl hh) λσ H Q z=>by
 sleep 2;sleep 5;let⟨l,hl,hf⟩:=bs hf;let⟨u,hu,hf⟩:=bs hf;refine⟨HF,ρ,x,sm,eo,hx,λv1 H1 Vu g1 r1=>⟨Vu,ρ,l,g1.fh,eo.mono g1.ff,hl,λH2 VG g2=>⟨VG,ρ,u,g2.fh,eo.mono (g1.ff.trans g2.ff),hu,λH3 VW g3=>?_⟩⟩⟩;have G:=(g1.trans g2).trans g3;have r3:=r1.mono (g2.ff.trans g3.ff);cases x<;>try cases hf
 ·simp?[Rep] at r3;let⟨b,vs,rfl,hs,rr⟩:=r3;refine .inr ⟨b,vs,rfl,G.fh.seq hs,λp hp=>q _ _ _ (G.trans (.new G.fh hp)) ?_⟩;simp?[Rep];exact⟨p,_,rfl,.inl (.inl aw),(rO rr l u).mono (bV (G.fh.free hp))⟩
 ·simp?[Rep] at r3;let⟨b,vs,rfl,hs,rr⟩:=r3;refine .inl ⟨b,vs,rfl,aE G.fh hs,λe=>q _ H3 VW G ?_,λp hp=>q _ _ _ (G.trans (.new G.fh hp)) (eK (G.fh.free hp) (rO rr l u))⟩;simp?[Rep];refine⟨b,vs,rfl,hs,?_⟩;have:=rO rr l u;rw[e] at this;exact this
def ME:D->Δ D|.int i=>some (.int (-i))|_=>none
def Bk.neg(C:Bk X N sc k)(ha:DE X a fa):DE X (.UnaryOp .USub a pos) (f1 ME fa):=aM (RM Nu ha) λσ H Q z=>by
 sleep 2;sleep 5;refine⟨HF,ρ,x,sm,eo,hx,λv1 H1 Vu g1 r1=>?_⟩;cases x<;>try cases hf
 exact⟨_,by simpa only[Rep] using r1,q _ H1 Vu g1 (by simp[Rep])⟩
def HX:bootBuiltins "len"=some (.builtin "len"):=by decide +kernel
def td:bootBuiltins "isinstance"=some (.builtin "isinstance"):=by decide +kernel
def Iu:bootBuiltins "tuple"=some (.type "tuple"):=by decide +kernel
def JC:bootBuiltins "list"=some (.type "list"):=by decide +kernel
def sD:bootBuiltins "range"=some (.type "range"):=by decide +kernel
def OC:bootBuiltins "all"=some (.builtin "all"):=by decide +kernel
def Nl:bootBuiltins "set"=some (.type "set"):=by decide +kernel
def uw:bootBuiltins "sorted"=some (.builtin "sorted"):=by decide +kernel
def wX:bootBuiltins "enumerate"=some (.type "enumerate"):=by decide +kernel
def Nc:bootBuiltins "zip"=some (.type "zip"):=by decide +kernel
abbrev da(f:Env->Δ (Γ D)):Env->Δ D:=λρ=>(f ρ).map PyData.list
abbrev fJ:Γ D->Δ D:=λds=>(eD ds).map PyData.tuple
def Bk.abf(C:Bk X N sc k)(h:decide (sc.names.lookup x=some .local)=true):X.env.scope.names.lookup x=some .local:=by
 rcases C.tb x _ (yP h) with q|⟨q,_⟩
 ·exact q
 ·cases q
def isStar(e:γ):θ:=e.ctorIdx == 22
def aN(h:isStar e=false):starEach (e::es) env=(false,eval e env)::starEach es env:=by
 cases e<;>first|rfl|cases h
def N0(he:DE X e f)(hs:DA X es g)(h:isStar e=false:=by rfl):DA X (e::es) (aa f g):=CC he hs (aN h)
def sH:swapsWith (.ListComp elt gens scope pos) (some (.Name x py)) line env=pure (env.blockKind == .function&&env.kindOf x == some .local && py.line == pos.line
     &&!(scope.names.any λ(n,k)=>n == x&&(k == .local || k == .cell))):=rfl
def LK(h:env.scope.kind=.function):env.blockKind=.function:=by unfold PySem.Env.blockKind;rw[h];rfl
def Bk.swap(C:Bk X N sc k)(h:decide (sc.names.lookup x=some .local)=true)(h2:(py.line == pos.line&&!(scope.names.any λ(n,k)=>n == x&&(k == .local || k == .cell)))=true) :
  swapsWith (.ListComp elt gens scope pos) (some (.Name x py)) line X.env=pure true:=by
 rw[sH,LK C.kd,show X.env.kindOf x=some .local from C.abf h];rw[Bool.and_assoc,h2];rfl
def Bk.aab(C:Bk X N sc k)(h:decide (sc.names.lookup x=some .cell)=true) :
  swapsWith (.ListComp elt gens scope pos) (some (.Name x py)) line X.env=pure false:=by
 have q:X.env.kindOf x=some .cell:=by
  rcases C.tb x _ (yP h) with q|⟨q,_⟩
  ·exact q
  ·cases q
 rw[sH,q,LK C.kd];rfl
section
variable {K:Φ}
structure ie(K:W.Frag)(x:Str)(st:Stmt)(ps:List Str):Prop where
 ex:∃ (f:Ψ) (fd:η),W.nsIn K mainGlobals x=some (some (.ref f))/\AI K x x st f fd/\Binds K fd ps []
structure Jm(K:W.Frag)(mg:Str->Option Value)(x:Str)(st:Stmt)(ps:List Str):Prop where
 ex:∃ (f:Ψ) (fd:η),mg x=some (.ref f)/\AI K x x st f fd/\Binds K fd ps []
def ie.mg{h:ι}{mg:Str->Δ Θ}{st:Ω}(D:ie K x st ps)(X:K.In h)(G:h.Ns mainGlobals mg):Jm K mg x st ps:=by
 let⟨f,fd,a,b,c⟩:=D.ex;exact⟨f,fd,W.mg_of X G a,b,c⟩
def d0(st:Ω)(ps:Γ Str):Prop:=∀ (x qual:Str) (kV doc pm:Θ) (an:Δ Ψ) (VT ct:Θ) (us:Γ Θ),us.length=ps.length->bindArgs (W.fnOf x qual (dY st) (aP st) (ah st) .none kV doc pm an VT ct) ⟨us,[]⟩=pure (ps.zip us)
def Ru{st:Ω}{kV:Θ}(hb:d0 st ps)(a:W.nsIn K mainGlobals x=some (some (.ref f)))(l:K.lookup f=some ⟨oc,od,.func (W.fnOf x x (dY st) (aP st) (ah st) .none kV doc pm an VT ct),W7⟩)
  (c:W.codeIn K VT x=true) (k:W.keepIn K (.ref f)=true):ie K x st ps:=⟨f,_,a,oS (st:=st) l c k,(oS (st:=st) l c k).binds λkV doc pm an VT ct us h=>hb _ _ kV doc pm an VT ct us h⟩
structure r6(K:W.Frag)(x:Str)(st:Stmt)(ps:List Str):Prop where
 ex:∃ (f:Ψ) (fd:η) (c P:Ψ),W.nsIn K mainGlobals x=some (some (.ref f))/\AI K x x st f fd/\Binds K fd ps []/\fd.code=.ref c/\W.codeHdIn K c P=true
structure OO(K:W.Frag)(mg:Str->Option Value)(x:Str)(st:Stmt)(ps:List Str):Prop where
 ex:∃ (f:Ψ) (fd:η) (c P:Ψ),mg x=some (.ref f)/\AI K x x st f fd/\Binds K fd ps []/\fd.code=.ref c/\W.codeHdIn K c P=true
def r6.mg{h:ι}{mg:Str->Δ Θ}{st:Ω}(D:r6 K x st ps)(X:K.In h)(G:h.Ns mainGlobals mg):OO K mg x st ps:=by
 let⟨f,fd,c,P,a,b⟩:=D.ex;exact⟨f,fd,c,P,W.mg_of X G a,b⟩
def JY(K:Φ)(c:Ψ):Ψ:=match K.lookup c with
 | some ⟨_,_,.fields vs,_⟩=>(match (vs[11]?:Δ Θ) with|some (.ref P)=>P|_=>0)
 | _=>0
def QM{st:Ω}{kV:Θ}(hb:d0 st ps)(a:W.nsIn K mainGlobals x=some (some (.ref f)))(l:K.lookup f=some ⟨oc,od,.func (W.fnOf x x (dY st) (aP st) (ah st) .none kV doc pm an (.ref c) ct),W7⟩)
  (cd:W.codeIn K (.ref c) x=true) (k:W.keepIn K (.ref f)=true) (hh:W.codeHdIn K c (JY K c)=true):r6 K x st ps:=⟨f,_,c,JY K c,a,oS (st:=st) l cd k,(oS (st:=st) l cd k).binds λkV doc pm an VT ct us h=>hb _ _ kV doc pm an VT ct us h,rfl,hh⟩
def Np{K:Φ}(h:(d4.all λx=>match W.nsIn K mainGlobals x with|some none=>true|_=>false)=true):∀x∈d4,W.nsIn K mainGlobals x=some none:=by
 intro x hx;have:=List.all_eq_true.mp h x hx;split at this
 ·assumption
 ·cases this
def AM{K:Φ}{H:Hp}{a:Ψ}{ns:Γ Int}{m:Γ D->Δ D}(hS:gc K H a (ns.map V.int))(hT:cy K H)(h:m [.list (ns.map PyData.int)]=some (.bool true)){X:_}:Qc K 1 m [.ref a] H (λv _=>v=.bl true) X:=by
 refine⟨H,[.list (ns.map PyData.int)],.bool true,.refl _,hT,au.cons ?_ au.nil,rfl,h,λv H' Vt G r=>by simpa only[Rep] using r⟩;simp?[Rep];refine⟨a,_,rfl,hS,?_⟩;clear h hS hT
 induction ns with
 | nil=>exact au.nil
 | cons n ns ih=>exact au.cons (by simp[Rep]) ih
end
def SF(h:isStar e=false)(he:DE X e f)(hs:DA X es g):DA X (e::es) (aa f g):=N0 he hs h
def PV:ao->Δ Out:=λ_=>none
def Qr{st:Ω}:DS X Vr H₀ st PV:=λpins s σ H E I z=>by let⟨HF,ρ,o,S,hg,q⟩:=z;cases hg
def uR(f:Env->Δ D):ao->Δ Out:=λρ=>(f (aQ ρ)).map λ_=>.nx ρ
def IY(hs:swapsWith e none pos.line X.env=pure false)(h:DE X e f):DS X Vr H₀ (.Expr e pos) (uR f):=aW (gP h hs) λE σ H z=>by
 sleep 12;let⟨d,h,rfl⟩:=ae hg;exact⟨H,aQ ρ,d,.refl _,S.all,h,λv H' Vt G r=>q σ H' HF (S.step G.hh) (.refl _)⟩
def EU(t:Env->Δ θ)(gb:ao->Δ Out):Nat->ao->Δ Out
 | 0,_=>none
 | n+1,ρ=>(t (aQ ρ)).bind λb=>if b=true then (gb ρ).bind fun|.nx ρ'=>EU t gb n ρ'|.rt d=>some (.rt d) else some (.nx ρ)
def Gz(n:Nat)(hp:PassesOwn (model X.prog X.w) X.A X.env X.xe)(hc:DT X c t)(hb:BQ X Vr H₀ body gb):DS X Vr H₀ (.While c body [] pos) (EU t gb n) :=
 aW (HM hp hc hb) λE σ H z=>by
  sleep 12;refine⟨λm σ' H'=>∃Vt ρ',fF X.K Vr H₀ Vt H' ρ' σ'/\aB HF Vt/\EU t gb m ρ'=some o,⟨n,HF,ρ,S,.refl _,hg⟩,?_⟩;rintro m σ' H' ⟨Vt,ρ',S',s',hf⟩;cases m with
  | zero=>cases hf
  | succ m =>
   unfold EU at hf;let⟨b,hb,hf⟩:=bs hf;refine⟨H',aQ ρ',b,.refl _,S'.all,hb,λH1 Vu G=>?_⟩;cases b with
   | false =>
    rw[yM yY] at hf ⊢;cases hf;exact q σ' H1 Vt (S'.step G.hh) s'
   | true =>
    rw[yK rfl] at hf ⊢;let⟨o1,h2,hf⟩:=bs hf;refine⟨λWW H3=>∃VW WS,fF X.K Vr H₀ VW H3 WS WW/\aB HF VW/\EU t gb m WS=some o,λWW H3 z=>by let⟨VW,WS,a1,a2,a3⟩:=z;exact ⟨m,kJ _,VW,WS,a1,a2,a3⟩,Vt,ρ',o1,S'.step G.hh,h2,?_⟩;cases o1 with
    | nx Wb=>exactλσ4 H4 WK S4 s4=>⟨WK,Wb,S4,s'.trans s4,hf⟩
    | rt d=>cases hf;exact q
def OM:Γ D->Δ D
 | [.int a,.int b]=>some (.int (min a b))
 | [.int a,.int b,.int c]=>some (.int (min (min a b) c))
 | _=>none
def Fx(hc:X.calm=true):fN X (.builtin "min") (λxs H Q=>(∃a b:Int,xs=[.int a,.int b]/\Q (.int (min a b)) H)\/(∃a b c:Int,xs=[.int a,.int b,.int c]/\Q (.int (min (min a b) c)) H)):=by
 sleep 18;have hh:X.A.handled=none:=I.ok.hd hc;rcases h with ⟨a,b,rfl,q⟩|⟨a,b,c,rfl,q⟩
 ·cases r with
  | cons r1 r =>
   cases r with
   | cons r2 r =>
    cases r;let⟨t,rfl⟩:=r1;let⟨u,rfl⟩:=r2;refine min_two_ints hh λh' tk kp=>⟨.int (min a b),H,I.kept (t':=tk) kp,?_,q⟩
    by_cases h:b < a
    ·rw[yK h,show min a b=b by lia];exact⟨_,rfl⟩
    ·rw[yM h,show min a b=a by lia];exact⟨_,rfl⟩
 ·cases r with
  | cons r1 r =>
   cases r with
   | cons r2 r =>
    cases r with
    | cons r3 r =>
     cases r;let⟨t,rfl⟩:=r1;let⟨u,rfl⟩:=r2;let⟨x,rfl⟩:=r3;refine min_three_ints hh λh' tk kp=>⟨.int (min (min a b) c),H,I.kept (t':=tk) kp,?_,q⟩
     by_cases h:b < a
     ·rw[yK h];by_cases h2:c < b
      ·rw[yK h2,show min (min a b) c=c by lia];exact⟨_,rfl⟩
      ·rw[yM h2,show min (min a b) c=b by lia];exact⟨_,rfl⟩
     ·rw[yM h];by_cases h2:c < a
      ·rw[yK h2,show min (min a b) c=c by lia];exact⟨_,rfl⟩
      ·rw[yM h2,show min (min a b) c=a by lia];exact⟨_,rfl⟩
def ye{K:Φ}(r:Rep K H d v):∀ {ds:Γ D}{vs:Γ V}(j:Nat),au K H ds vs->au K H (ds.set j d) (vs.set j v)
 | [],vs,j,h=>by rw[h.nil_inv];exact au.nil
 | x::ds,vs,j,h=>by
  let⟨u,us,rfl,a,b⟩:=h.cons_inv;cases j with
  | zero=>exact au.cons r b
  | succ j=>exact au.cons a (ye r j b)
def RE(i:Nat)(fz:Γ Nat)(fk f:Env->Δ D):ao->Δ Out:=λρ=>(ph fz f ρ).bind λp=>(fk (aQ p.2)).bind λkd=>match kd with
 | .int k=>pV i (λds=>(J5 ds.length k).map λj=>ds.set j p.1) p.2
 | _=>none
def Ir(i:Nat)(fz:Γ Nat)(hN:X.N[i]?=some x)(hv:oo X.env.scope x)(hk:DE X e fk)(h:DE X e2 f)(hd:(x == ("__debug__":Str))=false:=by decide)(VF:(x == ("__classdict__":Str))=false:=by decide)
  (ha:∀v,assign (.Subscript (.Name x px) e V0) X.env v=(do
   let ov <- holding [v] (eval (.Name x px) X.env)
   let iv <- holding [v,ov] (eval e X.env)
   standAt V0
   holding [v,ov,iv] (setItem ov iv v)
   release [v,ov,iv] []):=by intro _;rfl)
  (hs:swapsWithSole [.Subscript (.Name x px) e V0] e2 pos.line X.env=pure false:=by rfl) (hw:swappedStores [.Subscript (.Name x px) e V0] e2 X.env=pure none:=by rfl)
  (h1:(assignEach [.Subscript (.Name x px) e V0] X.env).map (·.2)=[assign (.Subscript (.Name x px) e V0) X.env]:=by rfl):DS X Vr H₀ (.Assign [.Subscript (.Name x px) e V0] e2 pos) (RE i fz fk f) :=
 aW (AR h (EY (bb hN hv hd VF) hk set_list ha) hs hw h1) λE σ H z=>by
  sleep 12;let⟨⟨d,ρ'⟩,h1,hg⟩:=bs hg;let⟨kd,h2,hg⟩:=bs hg;cases kd<;>try cases hg
  rename_i k;let⟨ds,es,h3,h4,rfl⟩:=lF hg;let⟨j,hj,rfl⟩:=ae h4;refine oN S h1 λv H1 Vu s1 S1 s2 r=>?_;let⟨a,vs,e1,e2,e3,e5,e4⟩:=S1.own i ds h3;refine⟨.ref a,e1,H1,aQ ρ',.int k,.refl _,S1.all,h2,λkv H2 VG G rk=>?_⟩;simp?[Rep] at rk;have S2:=S1.step G.hh;let⟨a',Yl,f1,f2,f3,f5,f4⟩:=S2.own i ds h3;rw[e1] at f1;cases f1;exact⟨a,Yl,k,j,rfl,rk,f2,by rw[f4.length];exact hj,q σ _ Vu (S2.mut h3 e1 f2 (ye r j f4)) s1⟩
def RW:D->θ|.none=>true|_=>false
def pZ{K:Φ}(r:Rep K HF d v):decide (v=.Vs)=RW d:=by
 cases d<;>simp?[Rep] at r<;>first
  | (subst r;rfl)
  | (let⟨a,vs,rfl,_⟩:=r;rfl)
  | exact r.elim
def wt:D->D->Δ D:=λx y=>if RW y=true then some (.bool (RW x)) else match x,y with
 | .bool a,.bool b=>some (.bool (a == b))
 | _,_=>none
def qk:D->D->Δ D:=λx y=>if RW y=true then some (.bool (!RW x)) else match x,y with
 | .bool a,.bool b=>some (.bool (!(a == b)))
 | _,_=>none
def HE{X:Cx}:gH X (compareOp .Is) (λx y H Q=>∃a b,x=.bl a/\y=.bl b/\Q (.bl (a == b)) H):=by
 intro pins s σ H x y v u Q I rx ry q;let⟨a,b,rfl,rfl,q⟩:=q;cases rx;cases ry;exact wpAny_is_plain rfl ⟨.bl _,H,I,rfl,by cases a<;>cases b<;>exact q⟩
def Do{X:Cx}:gH X (compareOp .IsNot) (λx y H Q=>∃a b,x=.bl a/\y=.bl b/\Q (.bl (!(a == b))) H):=by
 intro pins s σ H x y v u Q I rx ry q;let⟨a,b,rfl,rfl,q⟩:=q;cases rx;cases ry;exact wpAny_isNot_plain rfl ⟨.bl _,H,I,rfl,by cases a<;>cases b<;>exact q⟩
def CA{K:Φ}:eA K (λx y H Q=>(y=.Vs/\Q (.bl (decide (x=.Vs))) H)\/∃a b,x=.bl a/\y=.bl b/\Q (.bl (a == b)) H) wt:=by
 sleep 7;unfold wt at hg;split at hg
 ·rename_i h;cases hg;have h2:=pZ r2;rw[h,zJ] at h2;refine .inl ⟨h2,?_⟩;rw[pZ r1];exact q _ H HF (.refl sm) (by simp[Rep])
 ·split at hg
  ·cases hg;simp?[Rep] at r1 r2;exact .inr ⟨_,_,r1,r2,q _ H HF (.refl sm) (by simp[Rep])⟩
  ·cases hg
def Ai{K:Φ}:eA K (λx y H Q=>(y=.Vs/\Q (.bl (!decide (x=.Vs))) H)\/∃a b,x=.bl a/\y=.bl b/\Q (.bl (!(a == b))) H) qk:=by
 sleep 7;unfold qk at hg;split at hg
 ·rename_i h;cases hg;have h2:=pZ r2;rw[h,zJ] at h2;refine .inl ⟨h2,?_⟩;rw[pZ r1];exact q _ H HF (.refl sm) (by simp[Rep])
 ·split at hg
  ·cases hg;simp?[Rep] at r1 r2;exact .inr ⟨_,_,r1,r2,q _ H HF (.refl sm) (by simp[Rep])⟩
  ·cases hg
def Bk.is0(C:Bk X N sc k)(ha:DE X a fa)(hb:DE X b fb):DE X (.Compare a [.Is] [b] pos) (f2 wt fa fb):=kn (E2.or HE) CA ha hb (d9 _)
def Bk.adS(C:Bk X N sc k)(ha:DE X a fa)(hb:DE X b fb):DE X (.Compare a [.IsNot] [b] pos) (f2 qk fa fb):=kn (Cp.or Do) Ai ha hb (d9 _)
def Bk.adT(C:Bk X N sc k)(ha:DE X a fa)(hb:DE X b fb):DT X (.Compare a [.Is] [b] pos) (fB (f2 wt fa fb)):=jz (E2.or HE) CA ha hb (d9 _)
def Bk.abg(C:Bk X N sc k)(ha:DE X a fa)(hb:DE X b fb):DT X (.Compare a [.IsNot] [b] pos) (fB (f2 qk fa fb)):=jz (Cp.or Do) Ai ha hb (d9 _)
def Od(hc:X.calm=true)(B:pW X "min" (.builtin "min"))(he:starEach (e::es) X.env=(false,eval e X.env)::starEach es X.env)(V1:(backTo pos (starEach es X.env)).any (·.1)=false)(ha:DA X (e::es) fs):DE X (.Call (.Name "min" p) (e::es) [] pos) (cq OM fs) :=
 kh (Fx hc) (by
  intro HF H ds vs d Q sm r hg q;unfold OM at hg;split at hg
  ·cases hg;let⟨v1,r1,rfl,a1,b1⟩:=r.cons_inv;let⟨v2,r2,rfl,a2,b2⟩:=b1.cons_inv;rw[b2.nil_inv];simp?[Rep] at a1 a2;exact .inl ⟨_,_,by rw[a1,a2],q _ H HF (.refl sm) (by simp[Rep])⟩
  ·cases hg;let⟨v1,r1,rfl,a1,b1⟩:=r.cons_inv;let⟨v2,r2,rfl,a2,b2⟩:=b1.cons_inv;let⟨v3,r3,rfl,a3,b3⟩:=b2.cons_inv;rw[b3.nil_inv];simp?[Rep] at a1 a2 a3;exact .inr ⟨_,_,_,by rw[a1,a2,a3],q _ H HF (.refl sm) (by simp[Rep])⟩
  ·cases hg) B ha (by decide) (by decide) he V1
section
variable {fl fs:Env->Δ (Γ D)}
def A7(hc:X.calm=true):fN X (.builtin "any") (λxs H Q=>∃ (a:Ψ) (bs:Γ θ),xs=[.ref a]/\gc X.K H a (bs.map V.bl)/\Q (.bl (bs.any id)) H):=by
 sleep 18;let⟨a,bs,rfl,hq,q⟩:=h;let⟨u,rfl,rx⟩:=vals1 r;cases rx;let⟨its,rv,pl,hz⟩:=I.list hq;have hv:=ma rv;subst hv;have hh:X.A.in1.handled=none:=I.ok.hd hc;refine call_any_walk (qJ pl.isList ?_);let⟨o,ho,Xi,n,hd⟩:=pl.isList;have Wi:a≠s.heap.objs.size:=yQ (zY ho);refine⟨_,_,_,_,_,_,λi=>bs.getD i false,rfl,Walks.list hh s.heap.objs.size a Wi (bs.map Value.bool).toArray,⟨⟨_,zX _ rfl,rfl,rfl⟩,pl.isList.push _⟩,λi v s' Q' E' hP hQ=>?_,λh' tk kp=>?_⟩
 ·have e:v=Value.bool (bs.getD i false):=by
   have hP:(bs.map Value.bool).toArray[i]?=some v:=hP;rw[vP,zO] at hP;let⟨b,hb,rfl⟩:=ae hP;rw[zG,hb];rfl
  subst e;exact xV hQ
 ·refine⟨.bl (bs.any id),H,?_,?_,q⟩
  ·exact I.kept (t':=tk) λb o' e=>kp b o' (by simp;exact yQ (zY e)) (zU _ e)
  ·show Value.bool _=Value.bool _;have:=range_any bs;simp?[zH,zD];rw[this]
end
def Po(hc:X.calm=true)(B:pW X "any" (.builtin "any"))(he:starEach [e] X.env=(false,eval e X.env)::starEach [] X.env)(ha:DA X [e] fs):DE X (.Call (.Name "any" p) [e] [] pos) (cq (λds=>(oneOf ds).bind λd=>match d with
 | .list es=>(boolsOf es).map λbs=>.bool (bs.any id)
 | _=>none) fs) :=
 kh (A7 hc) (by
  intro HF H ds vs d Q sm r hg q;let⟨x,hx,hg⟩:=bs hg;rw[gD hx] at r;cases x<;>try cases hg
  let⟨bs,hb,rfl⟩:=ae hg;let⟨v,r',rfl,a,b⟩:=r.cons_inv;rw[b.nil_inv];simp?[Rep] at a;let⟨p,us,rfl,h,rr⟩:=a;rw[iN hb] at rr;have:=mI rr;subst this;exact⟨p,bs,rfl,sm.seq h,q _ H HF (.refl sm) (by simp[Rep])⟩) B ha (by decide) (by decide) he rfl
def pj(ns:Γ Int):∀j:Nat,preSum (λi=>ns.getD i 0) j=(ns.take j).sum
 | 0=>by simp[preSum]
 | j+1=>by
  rw[preSum,pj ns j,List.take_add_one,List.sum_append]
  congr 1
  rw[zG];cases ns[j]?<;>simp
def uc(val:Nat->Int)(B:Int)(h:∀i,-B<=val i/\val i<=B):∀j:Nat,-(B * j)<=preSum val j/\preSum val j<=B * j
 | 0=>by simp[preSum]
 | j+1=>by
  have ih:=uc val B h j;have:=h j;rw[preSum];have e:B * ((j+1:Nat):Int)=B * (j:Int)+B:=by rw[Int.natCast_add,Int.mul_add];simp
  rw[e];lia
def N8(ns:Γ Int):θ:=decide (ns.length<=1000)&&ns.all λn=>decide (-1000000<=n)&&decide (n<=1000000)
def MB(h:N8 ns=true):ns.length<=1000/\∀i,-1000000<=ns.getD i 0/\ns.getD i 0<=1000000:=by
 unfold N8 at h;rw[zF,zJ,xF] at h;refine⟨h.1,λi=>?_⟩;rw[zG];cases e:ns[i]? with
 | none=>simp
 | some n =>
  have:=h.2 n (qA e);simpa using this
def qd{ns:Γ Int}{its:Γ Θ}(r:aI (ns.map V.int) its){i:Nat}(h:its.toArray[i]?=some v):∃t,v=.int (ns.getD i 0) t:=by
 rw[vP] at h
 induction ns generalizing its i with
 | nil=>cases r;simp at h
 | cons n ns ih =>
  cases r with
  | cons r1 rr =>
   cases i with
   | zero =>
    simp?[xP,yJ] at h;subst h;let⟨t,rfl⟩:=r1;exact⟨t,rfl⟩
   | succ i =>
    simp?[yX] at h;exact ih rr h
def BB(hc:X.calm=true):fN X (.builtin "sum") (λxs H Q=>∃ (a:Ψ) (ns:Γ Int),xs=[.ref a]/\(gc X.K H a (ns.map V.int)\/gG X.K H a (ns.map V.int))/\N8 ns=true/\Q (.int ns.sum) H):=by
 sleep 18;let⟨a,ns,rfl,hq,Vx,q⟩:=h;let⟨u,rfl,rx⟩:=vals1 r;cases rx;have hh:X.A.in1.handled=none:=I.ok.hd hc;let⟨hlen,hbd⟩:=MB Vx;have YW:∀n:Nat,n<=1000->∀j,j < n->InLong ((λi=>ns.getD i 0) j)/\InLong (preSum (λi=>ns.getD i 0) (j+1)):=λn hn j hj=>by
  have h1:=hbd j;have h2:=uc (λi=>ns.getD i 0) 1000000 hbd (j+1);refine⟨⟨?_,?_⟩,?_,?_⟩
  ·show -(2 ^ 63)<=ns.getD j 0;lia
  ·show ns.getD j 0 < 2 ^ 63;lia
  ·lia
  ·lia
 have abh:preSum (λi=>ns.getD i 0) ns.length=ns.sum:=by rw[pj,List.take_length]
 rcases hq with hq|hq
 ·let⟨its,rv,pl,hz⟩:=I.list hq;have hl:its.length=ns.length:=by rw[<- rv.length,zD]
  refine call_sum_walk (qJ pl.isList ?_);let⟨o,ho,Xi,n,hd⟩:=pl.isList;have VU:=zY ho;have Wi:a≠s.heap.objs.size:=yQ VU;refine⟨_,_,_,_,_,_,λi=>ns.getD i 0,rfl,Walks.list hh s.heap.objs.size a Wi its.toArray,⟨⟨_,zX _ rfl,rfl,rfl⟩,pl.isList.push _⟩,λb hb=>?_,λi v hP=>qd rv hP,by rw[zH,hl];exact YW _ hlen,λh' tk t' kp=>?_⟩
  ·show b < (s.heap.push _).objs.size;rw[xI];simp?[zQ,yF,xS] at hb;rcases hb with rfl|rfl
   ·exact kJ _
   ·exact jM VU
  ·refine⟨.int ns.sum,H,I.kept (t':=tk) λb o' e=>kp b o' (by simp;exact yQ (zY e)) (zU _ e),⟨t',?_⟩,q⟩;rw[zH,hl,abh]
 ·let⟨its,rv,pl,hz⟩:=I.tuple hq;have pl:s.heap.IsTuple a its.toArray:=pl;have hl:its.length=ns.length:=by rw[<- rv.length,zD]
  refine call_sum_walk (xQ pl ?_);let⟨o,ho,Xi,n,hd⟩:=id pl;have VU:=zY ho;have Wi:a≠s.heap.objs.size:=yQ VU;refine⟨_,_,_,_,_,_,λi=>ns.getD i 0,rfl,Walks.tuple hh s.heap.objs.size a Wi its.toArray,⟨⟨_,zX _ rfl,rfl,rfl⟩,pl.push _⟩,λb hb=>?_,λi v hP=>qd rv hP,by rw[zH,hl];exact YW _ hlen,λh' tk t' kp=>?_⟩
  ·show b < (s.heap.push _).objs.size;rw[xI];simp?[zQ,yF,xS] at hb;rcases hb with rfl|rfl
   ·exact kJ _
   ·exact jM VU
  ·refine⟨.int ns.sum,H,I.kept (t':=tk) λb o' e=>kp b o' (by simp;exact yQ (zY e)) (zU _ e),⟨t',?_⟩,q⟩;rw[zH,hl,abh]
def sU:Γ D->Δ D:=λds=>(eD ds).bind λes=>(intsOf es).bind λns=>if N8 ns=true then some (.int ns.sum) else none
def iC{K:Φ}:∀ {ns:Γ Int}{vs:Γ V},au K H (ns.map PyData.int) vs->vs=ns.map V.int
 | [],vs,h=>h.nil_inv
 | b::bs,vs,h=>by
  let⟨v,r,rfl,a,c⟩:=h.cons_inv;simp?[Rep] at a;rw[a,iC c];rfl
def NU(hc:X.calm=true)(B:pW X "sum" (.builtin "sum"))(he:starEach [e] X.env=(false,eval e X.env)::starEach [] X.env)(ha:DA X [e] fs):DE X (.Call (.Name "sum" p) [e] [] pos) (cq sU fs) :=
 kh (BB hc) (by
  intro HF H ds vs d Q sm r hg q;let⟨es,h1,hg⟩:=bs hg;let⟨ns,h2,hg⟩:=bs hg;have hg:(if N8 ns=true then some (PyData.int ns.sum) else none)=some d:=hg;split at hg
  ·rename_i Vx;cases hg;have e2:=dH h2;subst e2;rcases k7 h1 with rfl|rfl
   all_goals
    let⟨v,r',rfl,a,b⟩:=r.cons_inv;rw[b.nil_inv];simp?[Rep] at a;let⟨p,us,rfl,h,rr⟩:=a;have:=iC rr;subst this
   ·exact⟨p,ns,rfl,.inr (aE sm h),Vx,q _ H HF (.refl sm) (by simp[Rep])⟩
   ·exact⟨p,ns,rfl,.inl (sm.seq h),Vx,q _ H HF (.refl sm) (by simp[Rep])⟩
  ·cases hg) B ha (by decide) (by decide) he rfl
def P3(i:Int):Θ->θ|.int a _=>a == i|_=>false
def DL:Qd X "list.index" (λx vs H Q=>∃ (l:Ψ) (ns:Γ Int) (i:Int) (j:Nat),x=.ref l/\vs=[.int i]/\gc X.K H l (ns.map V.int)/\ns[j]?=some i/\(∀m,m < j->ns[m]?≠some i)/\Q (.int j) H):=by
 intro pins s σ H x vs v us Q I rx rv h;let⟨l,ns,i,j,rfl,rfl,hq,hj,hno,q⟩:=h;cases rx;let⟨u,rfl,ru⟩:=rv.one;let⟨t,rfl⟩:=ru;let⟨its,r,pl,hz⟩:=I.list hq;let⟨⟨cls,dd,data,sl⟩,ho,hc,n,hd⟩:=id pl.isList;simp only at hc hd;subst hc hd;have hl:its.length=ns.length:=by rw[<- r.length,zD]
 have hj1:j < ns.length:=(List.getElem?_eq_some_iff.mp hj).1;have hz':ns.length<=sizeLine:=by rw[zD] at hz;exact hz
 have ahu:(sizeLine:Nat) < 2 ^ 62:=by decide
 have at_:∀m (hm:m < its.toArray.size),∃t',its.toArray[m]=.int (ns.getD m 0) t':=λm hm=>qd r (jW hm);refine qV F.slot_list_index ⟨_,ho,rfl⟩ F.entry_list_index (F.args_list_index_2 _ _) (PySem.SeqAt.list_indexAt l its.toArray n dd sl (.int i t) (P3 i) j (by rw[zH,hl];exact hj1) (by lia) ?_ ?_) ⟨ho,?_,?_⟩
 ·let⟨t',e⟩:=at_ j (by rw[zH,hl];exact hj1);rw[e,P3,zG,hj];simp
 ·intro m hm hmj;let⟨t',e⟩:=at_ m hm;have Wo:m < ns.length:=by lia
  have:=hno m hmj;rw[e,P3,zG];rw[zK Wo] at this ⊢;simp?[qF,beq_eq_false_iff_ne];exactλh=>this (by rw[h])
 ·intro y hy;let⟨m,hm,rfl⟩:=Array.getElem_of_mem hy;let⟨t',e⟩:=at_ m hm;rw[e];exact PySem.SeqAt.EqAt.int_int _ _ _ _
 ·exact⟨.int j,H,I.tok _,⟨_,rfl⟩,q⟩
def yf(i:Int):Γ Int->Δ Nat
 | []=>none
 | n::ns=>if n=i then some 0 else (yf i ns).map (·+1)
def oh:∀ {ns:Γ Int}{j:Nat},yf i ns=some j->ns[j]?=some i/\∀m,m < j->ns[m]?≠some i
 | [],j,h=>by cases h
 | n::ns,j,h=>by
  unfold yf at h;split at h
  ·cases h;rename_i e;exact⟨by rw[e];rfl,λm hm=>absurd hm (vK _)⟩
  ·rename_i e;let⟨k,hk,rfl⟩:=ae h;let⟨a,b⟩:=oh hk;refine⟨by simpa using a,λm hm=>?_⟩;cases m with
   | zero=>simpa using e
   | succ m=>simpa using b m (by lia)
def Tb:D->D->Δ D
 | .list es,.int i=>(intsOf es).bind λns=>(yf i ns).map λj=>.int ((j:Nat):Int)
 | _,_=>none
def FQ{fo:Env->Δ D}(Wa:attributeBase o "index" X.env (eval o X.env)=eval o X.env)
  (V7:((backTo Vv (starEach [e] X.env)).all (λx=>!x.1)&&(backToKw Vv (keywordEach [] X.env)).all (λx=>x.1.isSome)&&decide ([e].length+([]:Γ Keyword).length+(if ([]:Γ Keyword).isEmpty then 0 else 1) < 30))=true)
  (VA:(apos.endLine == Vv.line)=true) (hs:starEach [e] X.env=(false,eval e X.env)::starEach [] X.env) (ho:DE X o fo) (he:DE X e fe):DE X (.Call (.Attribute o "index" apos) [e] [] Vv) (f2 Tb fo fe) :=
 aM (pK qM PySem.F.slot_list_index PySem.F.type_list_index DL ho (ba he cF hs) Wa V7 VA hs rfl) λσ H Q z=>by
  sleep 2;sleep 5;let⟨y,hy,hg⟩:=bs hf;refine⟨HF,ρ,x,sm,eo,hx,λv1 H1 Vu g1 r1=>?_⟩;cases x<;>try cases hg
  cases y<;>try cases hg
  rename_i es i;let⟨ns,h1,hg⟩:=bs hg;let⟨j,h2,rfl⟩:=ae hg;have e1:=dH h1;subst e1;simp?[Rep] at r1;let⟨l,us,rfl,hq,rr⟩:=r1;have:=iC rr;subst this;refine⟨.inl ⟨rfl,_,g1.fh.seq hq⟩,Vu,ρ,.int i,g1.fh,eo.mono g1.ff,hy,λv2 H2 VG g2 r2=>?_⟩;simp?[Rep] at r2;let⟨a,b⟩:=oh h2;exact⟨l,ns,i,j,rfl,by rw[r2],g2.fh.seq (g2.ff.seq hq),a,b,q _ H2 VG (g1.trans g2) (by simp[Rep])⟩
abbrev S5(X:Cx):=tupleKind (nF X.prog X.w)
def qy{P:ε}{w:δ}:∀ {ns:Γ Int}{us:Γ Θ},aI (ns.map V.int) us->ItemsAre (nF P w) (ns.map Sum.inl) us
 | [],_,r=>by cases r;exact .nil
 | n::ns,_,r=>by
  rw[zI] at r ⊢;cases r with
  | cons h t=>let⟨t',rfl⟩:=h;exact .cons (xj P w n t') (qy t)
def wV{X:Cx}{ns:Γ Int}(I:Inv X pins σ H s)(h:gG X.K H b (ns.map V.int)):(S5 X).is s.heap (ns.map Sum.inl) b:=by
 let⟨its,rv,⟨o,h1,h2,n,h3⟩,_⟩:=I.tuple h;exact⟨o,its.toArray,n,h1,h2,h3,by simpa using qy rv⟩
def Ig{X:Cx}{xs:Γ (Γ oQ×Ψ×Θ)}(I:Inv X pins σ H s)(e:H a=some (.dT xs))(k:ET X.K H xs):xs.length<=sizeLine/\(a == sysModules)=false/\s.heap.DictOfH (S5 X) a xs:=by
 let⟨z,y,o,es,ep,h1,h2,h3,h4,h5⟩:=(show dO X.prog X.w H s.heap a (.dT xs) from I.Vx a _ e)
 refine⟨z,y,o,es,ep,h1,h2,h3,h4,λx hx=>?_,h5⟩;let⟨ns,q1,q2⟩:=k x hx;rw[q1];exact wV I q2
def Tw(K:Φ):R2:=λx y H Q=>∃ (b:Ψ) (ns:Γ Int) (a:Ψ) (xs:Γ (Γ oQ×Ψ×Θ)),x=.ref b/\gG K H b (ns.map V.int)/\y=.ref a/\H a=some (.dT xs)/\ET K H xs/\Q (.bl (atKey xs (ns.map Sum.inl)).isSome) H
def O6{X:Cx}(hu:X.A.units+1 < cLine):gH X (compareOp .In) (Tw X.K):=by
 sleep 14;let⟨b,ns,a,xs,rfl,hb,rfl,ha,hk,q⟩:=h;cases rx;cases ry;let⟨z,hd,dd⟩:=Ig I ha hk;exact wpAny_in_heap (tupleKind_room_in1 hu) (wV I hb) hd dd ⟨.bl _,H,I.tok _,rfl,q⟩
def RY(K:Φ):V->V->V->Hp->(Hp->Prop)->Prop:=λo i v H Q=>∃ (a:Ψ) (xs:Γ (Γ oQ×Ψ×Θ)) (b:Ψ) (ns:Γ Int),o=.ref a/\i=.ref b/\H a=some (.dT xs)/\gG K H b (ns.map V.int)/\ET K H xs/\xs.length < sizeLine/\∀u:Θ,Q (upd H a (.dT (storedH xs (ns.map Sum.inl) b u)))
def AX{xs:Γ (Γ oQ×Ψ×Θ)}{k:Γ oQ}{b:Ψ}{u:Θ}(h:xs.length < sizeLine):(storedH xs k b u).length<=sizeLine:=by
 unfold storedH;split
 ·rw[zD];lia
 ·rw[zN,zL,xJ];lia
def LF{X:Cx}(hu:X.A.units+1 < cLine):OD X (RY X.K):=by
 intro pins s σ H o i v ov iv u Q I ro ri rv h;let⟨a,xs,b,ns,rfl,rfl,ha,hb,hk,hl,q⟩:=h;cases ro;cases ri;let⟨z,hd,dd⟩:=Ig I ha hk;refine wpAny_setItem_heap (hsz:=z) (tupleKind_room_in1 hu) (wV I hb) dd λh' dd' hs=>?_;let⟨q',es,ep,hq,h2,h3,h4,_,h5⟩:=dd';exact⟨_,I.write (o:=.dT (storedH xs (ns.map Sum.inl) b u)) (x:=a) (e:=a) (by rw[ha];exact True.intro) (.inl rfl) (λc w' hc z=>(hs.2 c hc).trans z) ⟨q',hq⟩ ⟨AX hl,hd,q',es,ep,hq,h2,h3,h4,h5⟩,q u⟩
def Qq(K:Φ)(tk tv:TE):TE:=λσ H Q=>∀p,H p=none->tk σ (upd H p (.dT [])) λx H1=>tv σ H1 λ_ H2=>∃ (b:Ψ) (ns:Γ Int),x=.ref b/\gG K H2 b (ns.map V.int)/\H2 p=some (.dT [])/\∀u:Θ,Q (.ref p) (upd H2 p (.dT [(ns.map Sum.inl,b,u)]))
def Js{X:Cx}{k v:γ}(hu:X.A.units+1 < cLine)(hk:PE X k tk)(hv:PE X v tv):PE X (.Dict [some k] [v] pos) (Qq X.K tk tv):=by
 intro pins s σ H Q I q;have hn:=I.Vx.fresh (yL s.heap.objs.size);have big:sysModules < s.heap.objs.size:=wC (by decide) (show mainGlobals < s.heap.objs.size from (I.mod.glob.keeps I.bk).lt);have I1:=I.laid (a:=s.heap.objs.size) (o:=.dT []) (h':=s.heap.push { cls:=.type "dict",data:=.dict #[] }) (t':=s.toks) (λ_ _ q=>zU _ q) (yL _)
  ⟨xU _,beq_eq_false_iff_ne.mpr (jL (yQ big)),_,#[],0,zX _ rfl,⟨rfl,rfl,rfl⟩,rfl,rfl,List.nodup_nil⟩
 rw[arm_eval_Dict,zip_pairTrees _ _ _ _ rfl rfl,dictDisplay_pairs _ (by simp[pairTrees]) (by simp[pairTrees])];refine zV (kW (zV ?_));unfold subDict;refine zV (wpAny_alloc ?_);refine zV (xW ?_);rw[yK (by simp[pairTrees])];refine zV (pairTrees_cons_walk (bR (hk pins _ σ _ _ I1 (q _ hn)) λu s1 ⟨x,H1,J1,rx,q1⟩=>bR (hv pins s1 σ H1 _ J1 q1) λw2 s2 ⟨y,H2,J2,ry,b,ns,e,hb,hp,q2⟩=>pairTrees_nil_walk ?_));subst e;cases rx;refine xW ?_;let⟨z,hd,dd⟩:=Ig J2 hp (λx hx=>by cases hx);show wpAny _ _ (forIn [(Value.ref b,w2)] _ _ >>= _) _ _ _;rw[List.forIn_cons];refine zV (zV (zV (wpAny_dictSet_heap (hsz:=z) (show (S5 X).room X.A from Nat.lt_of_succ_lt hu) (wV J2 hb) dd λh' dd' hs=>?_)));let⟨q',es,ep,hq,h2,h3,h4,_,h5⟩:=dd';refine zW (zW (zW (zW (zW ⟨.ref _,_,?_,rfl,q2 w2⟩))));exact J2.write (o:=.dT [(ns.map Sum.inl,b,w2)]) (x:=s.heap.objs.size) (e:=s.heap.objs.size) (by rw[hp];exact True.intro) (.inl rfl) (λc w' hc z=>(hs.2 c hc).trans z) ⟨q',hq⟩ ⟨by rw[qT];simp,hd,q',es,ep,hq,h2,h3,h4,h5⟩
def uN:Slot->θ|.tab _=>false|_=>true
def fF.adX{K:Φ}{xs:Γ (Γ oQ×Ψ×Θ)}{ks:Γ (Γ Int)}(S:fF K Vr H₀ HF H ρ σ)(h1:H a=some (.dT xs))(h2:HF a=none)(h3:H₀ a=none)(h4:xs.map (·.1)=ks.map (·.map Sum.inl))(h5:ET K HF xs)(nt:ρ.all uN=true) :
  fF K Vr H₀ HF H (ρ.set i (.tab ks)) (σ.set i (some (.ref a))):=by
 have old:∀ {j:Nat}{t:Slot},(ρ.set i (.tab ks))[j]?=some t->uN t=true->i≠j/\ρ[j]?=some t:=λ{j t} h hn=>by
  rw[xH] at h;by_cases Vy:i=j
  ·rw[yK Vy] at h;split at h
   ·cases h;cases hn
   ·cases h
  ·rw[yM Vy] at h;exact⟨Vy,h⟩
 have new:∀ {j:Nat}{ls:Γ (Γ Int)},(ρ.set i (.tab ks))[j]?=some (.tab ls)->i=j/\ls=ks/\i < ρ.length:=λ{j ls} h=>by
  rw[xH] at h;by_cases Vy:i=j
  ·rw[yK Vy] at h;split at h
   ·rename_i hl;cases h;exact⟨Vy,rfl,Vy ▸ hl⟩
   ·cases h
  ·rw[yM Vy] at h;have:=List.all_eq_true.mp nt _ (qA h);cases this
 refine⟨S.gr,λj e h=>?_,λj es h=>?_,λj k xs ys b e1 e2 e3 e4=>?_,by rw[yC,yC];exact S.len,S.tb,λj ls h=>?_,λj k ls ms g1 g2=>(new g1).1.symm.trans (new g2).1,λj k h=>by rw[xH,yM (old h rfl).1];exact S.ob j k (old h rfl).2⟩
 ·let⟨Vy,h⟩:=old h rfl;rw[xH,yM Vy];exact S.val j e h
 ·let⟨Vy,h⟩:=old h rfl;rw[xH,yM Vy];exact S.own j es h
 ·let⟨n1,e1⟩:=old e1 rfl;let⟨n2,e2⟩:=old e2 rfl;rw[xH,yM n1] at e3;rw[xH,yM n2] at e4;exact S.inj j k xs ys b e1 e2 e3 e4
 ·let⟨rfl,rfl,hl⟩:=new h;rw[xH,yK rfl,yK (zP hl S.len)];exact⟨a,xs,rfl,h1,h2,h3,h4,h5⟩
def fF.adY{K:Φ}{xs:Γ (Γ oQ×Ψ×Θ)}{ks:Γ (Γ Int)}(S:fF K Vr H₀ HF H ρ σ)(h:ρ[i]?=some (.tab ls))(ha:σ[i]?=some (some (.ref a)))(h4:xs.map (·.1)=ks.map (·.map Sum.inl))(h5:ET K HF xs) :
  fF K Vr H₀ HF (upd H a (.dT xs)) (ρ.set i (.tab ks)) σ:=by
 let⟨a',ys,e1,e2,e3,e5,_⟩:=S.tab i ls h;rw[ha] at e1;cases e1;have hl:i < ρ.length:=(List.getElem?_eq_some_iff.mp h).1;have gr:bA Vr H₀ HF (upd H a (.dT xs)):=⟨λb o e=>by rw[ak (aG e e5)];exact S.gr.hh b o e,S.gr.ff,λb o e=>by rw[ak (aG e e3)];exact S.gr.fh b o e,S.gr.nw⟩
 have old:∀ {j:Nat}{t:Slot},(ρ.set i (.tab ks))[j]?=some t->uN t=true->ρ[j]?=some t:=λ{j t} h hn=>by
  rw[xH] at h;by_cases Vy:i=j
  ·rw[yK Vy,yK hl] at h;cases h;cases hn
  ·rw[yM Vy] at h;exact h
 have new:∀ {j:Nat}{ms:Γ (Γ Int)},(ρ.set i (.tab ks))[j]?=some (.tab ms)->i=j/\ms=ks:=λ{j ms} g=>by
  rw[xH] at g;by_cases Vy:i=j
  ·rw[yK Vy,yK hl] at g;cases g;exact⟨Vy,rfl⟩
  ·rw[yM Vy] at g;exact absurd (S.one i j ls ms h g) Vy
 refine⟨gr,λj e g=>S.val j e (old g rfl),λj es g=>?_,λj k xs ys b f1 f2=>S.inj j k xs ys b (old f1 rfl) (old f2 rfl),by rw[yC];exact S.len,S.tb,λj ms g=>?_,λj k ms qs g1 g2=>(new g1).1.symm.trans (new g2).1,λj k h=>S.ob j k (old h rfl)⟩
 ·let⟨b,vs,f1,f2,f3,f5,f4⟩:=S.own j es (old g rfl);refine⟨b,vs,f1,?_,f3,f5,f4⟩;rw[ak λz=>by rw[z,e2] at f2;cases f2];exact f2
 ·let⟨rfl,rfl⟩:=new g;exact⟨a,xs,ha,aw,e3,e5,h4,h5⟩
def AL:Δ Slot->Δ (Γ Int)
 | some (.val d)=>lN d
 | _=>none
def o5{K:Φ}{ρ:ao}{σ:L2.St}{i:Nat}(S:fF K Vr H₀ HF H ρ σ)(h:AL ρ[i]?=some ns):∃b,σ[i]?=some (some (V.ref b))/\gG K HF b (ns.map V.int):=by
 cases hd:ρ[i]? with
 | none=>rw[hd] at h;cases h
 | some t =>
  rw[hd] at h;cases t with
  | val d =>
   have h:lN d=some ns:=h;let⟨v,e1,r⟩:=S.val i d hd;rw[mY h] at r;simp?[Rep] at r;let⟨b,vs,rfl,hs,rr⟩:=r;rw[iC rr] at hs;exact⟨b,e1,hs⟩
  | _=>cases h
def tabS:Δ Slot->Δ (Γ (Γ Int))
 | some (.tab ks)=>some ks
 | _=>none
def oI{ρ:ao}{i:Nat}(h:tabS ρ[i]?=some ks):ρ[i]?=some (.tab ks):=by
 cases hd:ρ[i]? with
 | none=>rw[hd] at h;cases h
 | some t =>
  rw[hd] at h;cases t with
  | tab ls=>cases h;rfl
  | obj ls=>cases h
  | _=>cases h
def Fe:∀ {a b:Γ Int},(a.map Sum.inl:Γ oQ)=b.map Sum.inl->a=b
 | [],[],_=>rfl
 | [],_::_,h=>by simp at h
 | _::_,[],h=>by simp at h
 | x::a,y::b,h=>by
  rw[zI,zI] at h;injection h with h1 h2
  injection h1 with h1
  rw[h1,Fe h2]
def Mu{xs:Γ (Γ oQ×Ψ×Θ)}{ks:Γ (Γ Int)}{ns:Γ Int}(h:xs.map (·.1)=ks.map (·.map Sum.inl)):(atKey xs (ns.map Sum.inl)).isSome=ks.contains ns:=by
 rw[Bool.eq_iff_iff,List.contains_iff_mem];unfold atKey;rw[Option.isSome_map,List.find?_isSome];constructor
 ·rintro⟨x,h1,h2⟩;have:x.1∈ks.map (·.map Sum.inl):=h ▸ List.mem_map_of_mem h1;rw[yP h2] at this;let⟨k,h3,h4⟩:=List.mem_map.mp this;exact Fe h4 ▸ h3
 ·intro z;have:(ns.map Sum.inl:Γ oQ)∈xs.map (·.1):=h ▸ List.mem_map.mpr ⟨ns,z,rfl⟩;let⟨x,h1,h2⟩:=List.mem_map.mp this;exact⟨x,h1,yA h2⟩
def tT(i j:Nat)(g1 g2:ao->Δ Out):ao->Δ Out:=λρ=>(AL ρ[i]?).bind λns=>(tabS ρ[j]?).bind λks=>if ks.contains ns=true then g1 ρ else g2 ρ
def Lo{X:Cx}(i j:Nat)(hu:X.A.units+1 < cLine)(hN:X.N[i]?=some x)(hv:oo X.env.scope x)(hN':X.N[j]?=some y)(ZM:oo X.env.scope y)(ha:BQ X Vr H₀ a g1)(hb:BQ X Vr H₀ b g2)
  (hd:(x == ("__debug__":Str))=false) (VF:(x == ("__classdict__":Str))=false) (Xg:(y == ("__debug__":Str))=false) (aac:(y == ("__classdict__":Str))=false) :
  DS X Vr H₀ (.If (.Compare (.Name x px) [.In] [.Name y py] cp) a b pos) (tT i j g1 g2) :=
 aW (Dh (vo (O6 hu) (bb hN hv hd VF) (bb hN' ZM Xg aac) rfl) ha hb) λE σ H z=>by
  sleep 12;let⟨ns,h1,hg⟩:=bs hg;let⟨ks,h2,hg⟩:=bs hg;let⟨b,e1,hs⟩:=o5 S h1;let⟨a,xs,f1,f2,f3,f5,f4,fk⟩:=S.tab j ks (oI h2);refine⟨_,e1,_,f1,b,ns,a,xs,rfl,aE S.gr.fh hs,rfl,f2,fk.mono S.gr.fh,_,rfl,?_⟩;rw[Mu f4];cases hc:ks.contains ns with
  | true=>rw[hc] at hg;exact sj ⟨HF,ρ,o,S,hg,q⟩
  | false=>rw[hc] at hg;exact pR ⟨HF,ρ,o,S,hg,q⟩
def rf(j i:Nat)(f:Env->Δ D):ao->Δ Out:=λρ=>(AL ρ[i]?).bind λns=>(tabS ρ[j]?).bind λks=>(f (aQ ρ)).bind λd=>if (jq d&&decide (ks.length < sizeLine))=true then some (.nx (ρ.set j (.tab (if ks.contains ns=true then ks else ks++[ns])))) else none
def xh{xs:Γ (Γ oQ×Ψ×Θ)}{ks:Γ (Γ Int)}{ns:Γ Int}(h:xs.map (·.1)=ks.map (·.map Sum.inl)):(storedH xs (ns.map Sum.inl) b u).map (·.1)=(if ks.contains ns=true then ks else ks++[ns]).map (·.map Sum.inl):=by
 unfold storedH;rw[Mu h];split
 ·rw[<- h,zM];refine yH λx _=>?_;show (putAt _ _ x).1=x.1;unfold putAt;split<;>rfl
 ·rw[qZ,qZ,h];rfl
def ET.stored{K:Φ}{xs:Γ (Γ oQ×Ψ×Θ)}{ns:Γ Int}(h:ET K HF xs)(hb:gG K HF b (ns.map V.int)):ET K HF (storedH xs (ns.map Sum.inl) b u):=λx hx=>by
 unfold storedH at hx;split at hx
 ·let⟨y,hy,rfl⟩:=List.mem_map.mp hx;let⟨ms,e1,e2⟩:=h y hy;refine⟨ms,?_,?_⟩<;>(unfold putAt;split<;>assumption)
 ·rcases List.mem_append.mp hx with hx|hx
  ·exact h x hx
  ·rw[yI] at hx;subst hx;exact⟨ns,rfl,hb⟩
def Lg{X:Cx}(j i:Nat)(hu:X.A.units+1 < cLine)(hN:X.N[i]?=some x)(hv:oo X.env.scope x)(hN':X.N[j]?=some y)(ZM:oo X.env.scope y)(h:DE X e2 f)
  (hd:(x == ("__debug__":Str))=false) (VF:(x == ("__classdict__":Str))=false) (Xg:(y == ("__debug__":Str))=false) (aac:(y == ("__classdict__":Str))=false)
  (ha:∀v,assign (.Subscript (.Name y py) (.Name x px) V0) X.env v=(do
   let ov <- holding [v] (eval (.Name y py) X.env)
   let iv <- holding [v,ov] (eval (.Name x px) X.env)
   standAt V0
   holding [v,ov,iv] (setItem ov iv v)
   release [v,ov,iv] []):=by intro _;rfl)
  (hs:swapsWithSole [.Subscript (.Name y py) (.Name x px) V0] e2 pos.line X.env=pure false:=by rfl) (hw:swappedStores [.Subscript (.Name y py) (.Name x px) V0] e2 X.env=pure none:=by rfl)
  (h1:(assignEach [.Subscript (.Name y py) (.Name x px) V0] X.env).map (·.2)=[assign (.Subscript (.Name y py) (.Name x px) V0) X.env]:=by rfl) :
  DS X Vr H₀ (.Assign [.Subscript (.Name y py) (.Name x px) V0] e2 pos) (rf j i f) :=
 aW (AR h (EY (bb hN' ZM Xg aac) (bb hN hv hd VF) (LF hu) ha) hs hw h1) λE σ H z=>by
  sleep 12;let⟨ns,h1,hg⟩:=bs hg;let⟨ks,h2,hg⟩:=bs hg;let⟨d,h3,hg⟩:=bs hg;split at hg
  ·rename_i hc;rw[zF,zJ] at hc;cases hg;refine⟨H,aQ ρ,d,.refl _,S.all,h3,λv H' Vt G r=>?_⟩;have S':=S.step G.hh;let⟨b,e1,hs⟩:=o5 S' h1;let⟨a,xs,f1,f2,f3,f5,f4,fk⟩:=S'.tab j ks (oI h2);refine⟨_,f1,_,e1,a,xs,b,ns,rfl,rfl,f2,aE S'.gr.fh hs,fk.mono S'.gr.fh,?_,λu=>q σ _ HF (S'.adY (oI h2) f1 (xh f4) (fk.stored hs)) (.refl _)⟩;have:=jB List.length f4;rw[zD,zD] at this;lia
  ·cases hg
def uB(j i:Nat)(f:Env->Δ D):ao->Δ Out:=λρ=>(AL ρ[i]?).bind λns=>(f (aQ ρ)).bind λd=>if (jq d&&ρ.all uN)=true then some (.nx (ρ.set j (.tab [ns]))) else none
def K3{X:Cx}(j i:Nat)(hu:X.A.units+1 < cLine)(hN:X.N[i]?=some x)(hv:oo X.env.scope x)(hd:(x == ("__debug__":Str))=false)(VF:(x == ("__classdict__":Str))=false)(h:DE X e2 f)(hN':X.N.Nodup)(hi:X.N[j]?=some y)(hy:Loc X.env.scope y)
  (hs:swapsWith (.Dict [some (.Name x px)] [e2] dp) (some (.Name y pos')) pos.line X.env=pure false:=by rfl)
  (hf:X.fn y=true\/X.env.scope.names.lookup y=some .local:=by first|exact .inl rfl|exact .inr rfl|assumption):DS X Vr H₀ (.Assign [.Name y pos'] (.Dict [some (.Name x px)] [e2] dp) pos) (uB j i f) :=
 aW (lb hN' hi hy (Js hu (bb hN hv hd VF) h) hs hf) λE σ H z=>by
  sleep 12;let⟨ns,h1,hg⟩:=bs hg;let⟨d,h3,hg⟩:=bs hg;split at hg
  ·rename_i hc;rw[zF] at hc;cases hg;let⟨b,e1,hs⟩:=o5 S h1;refineλp hp=>⟨_,e1,upd H p (.dT []),aQ ρ,d,.refl _,?_,h3,λv H' Vt G r=>?_⟩
   ·exact (S.step (bV hp)).all
   ·have S':=(S.step (bV hp)).step G.hh;have YV:H' p=some (.dT []):=G.hh _ _ aw;refine⟨b,ns,rfl,aE S'.gr.fh hs,YV,λu=>?_⟩;have S2:fF X.K Vr H₀ HF (upd H' p (.dT [(ns.map Sum.inl,b,u)])) ρ σ:=S.step λc w' e=>by rw[ak (aG e hp)];exact G.hh c w' (bV hp c w' e)
    exact q _ _ HF (S2.adX (i:=j) aw (S.gr.fh.free hp) (S.gr.hh.free hp) rfl (λx hx=>by rw[yI] at hx;subst hx;exact⟨ns,rfl,hs⟩) hc.2) (.refl _)
  ·cases hg
end Dl
namespace Tx
open PySem PySem.SeqAt PyProof.Rows
open PySem.AutoSeq1 (wpAny_loadPart')
open PySem.MeetsSeq PySem.MeetsSeq2 PySem.MeetsSeq3
def wpR(f:Nat->β->Sem (ForInStep β))(I:Γ Nat->β->Ξ->Prop)(Q:β->Ξ->Prop)
  (turn:∀x rest b s,I (x::rest) b s->wpAny M A (f x b) (λr s'=>match r with|.yield b'=>I rest b' s'|.done b'=>Q b' s') E s)
  (fin:∀b s,I [] b s->Q b s) (n:Nat) (b:β) (h:I (List.range' 0 n 1) b s):wpAny M A (forIn [:n] b f) Q E s:=by
 have e:forIn [:n] b f=forIn (List.range' 0 n 1) b f:=by
  rw[Std.Legacy.Range.forIn_eq_forIn_range'];simp[Std.Legacy.Range.size]
 rw[e];exact wpAny_forIn_list f I Q turn fin _ b h
def WL(l:Ψ)(items:Array Θ)(n:Nat)(dd:Δ Ψ)(sl:Array (Δ Θ))(x:Θ)(e:Θ->θ)(j:Nat)(hj:j < items.size)(h1:e items[j]=true)(h2:∀m (hm:m < items.size),m < j->e items[m]=false) :
  Meets (Builtin.«tuple.index» ⟨[.ref l,x],[]⟩)
   (λA R s=>s.heap.get? l=some { cls:=.type "tuple",dict:=dd,data:=.seq items n,slots:=sl }/\(∀y,y∈items->EqAt A.in1 s y x (e y))/\R (.ok (.ret (.int (j:Nat) s.toks))) { s with toks:=s.toks+1 }) :=
 .of_wp λprog w A R s h=>by
  let⟨hp,g,d,tk,os⟩:=s;let⟨hl,he,h⟩:=h
  wp_walk using wpAny_loadPart' hl,wpR _ (λrest b s'=>s'=⟨hp,g,d,tk,os⟩/\b.1=none/\∃i,i<=j/\rest=List.range' i (items.size - i) 1) _
  case turn =>
   rintro i rest b s' ⟨rfl,hb,i',hi,e1⟩;have VU:i' < items.size:=by lia
   rw[show items.size - i'=(items.size - (i'+1))+1 by lia,kZ] at e1;injection e1 with e2 e3
   subst e2;subst e3;simp?[jW VU];refine zV (he _ (Array.getElem_mem VU) prog w _ _ ?_);by_cases Vy:i=j
   ·subst Vy;rw[h1]
    wp_walk
    exact⟨_,rfl,h⟩
   ·rw[h2 i VU (by lia)]
    wp_walk
    exact⟨rfl,rfl,i+1,by lia,rfl⟩
  case fin =>
   rintro b s' ⟨rfl,hb,i,hi,e1⟩;have:=jB List.length e1;simp at this;lia
  case h =>
   exact⟨rfl,rfl,0,xU _,by simp⟩
end Tx
namespace Dl
open PySem L2 PySem.Spec PyProof.Rows
def Es:Qd X "tuple.index" (λx vs H Q=>∃ (l:Ψ) (ns:Γ Int) (i:Int) (j:Nat),x=.ref l/\vs=[.int i]/\gG X.K H l (ns.map V.int)/\ns[j]?=some i/\(∀m,m < j->ns[m]?≠some i)/\Q (.int j) H):=by
 intro pins s σ H x vs v us Q I rx rv h;let⟨l,ns,i,j,rfl,rfl,hq,hj,hno,q⟩:=h;cases rx;let⟨u,rfl,ru⟩:=rv.one;let⟨t,rfl⟩:=ru;let⟨its,r,pl,hz⟩:=I.tuple hq;let⟨⟨cls,dd,data,sl⟩,ho,hc,n,hd⟩:=id pl;simp only at hc hd;subst hc hd;have hl:its.length=ns.length:=by rw[<- r.length,zD]
 have hj1:j < ns.length:=(List.getElem?_eq_some_iff.mp hj).1;have at_:∀m (hm:m < its.toArray.size),∃t',its.toArray[m]=.int (ns.getD m 0) t':=λm hm=>qd r (jW hm);refine qV F.slot_tuple_index ⟨_,ho,rfl⟩ F.entry_tuple_index (F.args_tuple_index_2 _ _) (Tx.WL l its.toArray n dd sl (.int i t) (P3 i) j (by rw[zH,hl];exact hj1) ?_ ?_) ⟨ho,?_,?_⟩
 ·let⟨t',e⟩:=at_ j (by rw[zH,hl];exact hj1);rw[e,P3,zG,hj];simp
 ·intro m hm hmj;let⟨t',e⟩:=at_ m hm;have Wo:m < ns.length:=by
   rw[zH] at hm;lia
  have:=hno m hmj;rw[e,P3,zG];rw[zK Wo] at this ⊢;simp?[qF,beq_eq_false_iff_ne];exactλh=>this (by rw[h])
 ·intro y hy;let⟨m,hm,rfl⟩:=Array.getElem_of_mem hy;let⟨t',e⟩:=at_ m hm;rw[e];exact PySem.SeqAt.EqAt.int_int _ _ _ _
 ·exact⟨.int j,H,I.tok _,⟨_,rfl⟩,q⟩
def Mh(h:PE X e t)(g:PE X e u):PE X e (λσ H Q=>t σ H Q\/u σ H Q):=λpins s σ H Q I q=>q.elim (h pins s σ H Q I) (g pins s σ H Q I)
def mF:D->D->Δ D
 | .list es,.int i=>(intsOf es).bind λns=>(yf i ns).map λj=>.int ((j:Nat):Int)
 | .tuple es,.int i=>(intsOf es).bind λns=>(yf i ns).map λj=>.int ((j:Nat):Int)
 | _,_=>none
def Dq{fo:Env->Δ D}(Wa:attributeBase o "index" X.env (eval o X.env)=eval o X.env)
  (V7:((backTo Vv (starEach [e] X.env)).all (λx=>!x.1)&&(backToKw Vv (keywordEach [] X.env)).all (λx=>x.1.isSome)&&decide ([e].length+([]:Γ Keyword).length+(if ([]:Γ Keyword).isEmpty then 0 else 1) < 30))=true)
  (VA:(apos.endLine == Vv.line)=true) (hs:starEach [e] X.env=(false,eval e X.env)::starEach [] X.env) (ho:DE X o fo) (he:DE X e fe):DE X (.Call (.Attribute o "index" apos) [e] [] Vv) (f2 mF fo fe) :=
 aM (Mh (FQ Wa V7 VA hs ho he) (pK PySem.F.plainAttrs_tuple PySem.F.slot_tuple_index PySem.F.type_tuple_index Es ho (ba he cF hs) Wa V7 VA hs rfl)) λσ H Q z=>by
  sleep 2;sleep 5;let⟨y,hy,hg⟩:=bs hf;cases x<;>try cases hg
  ·cases y<;>try cases hg
   rename_i es i;exact .inl ⟨HF,ρ,d,sm,eo,by simp?[f2,hx,hy,zA];exact hg,q⟩
  ·cases y<;>try cases hg
   rename_i es i;let⟨ns,h1,hg⟩:=bs hg;let⟨j,h2,rfl⟩:=ae hg;have e1:=dH h1;subst e1;refine .inr ⟨HF,ρ,_,sm,eo,hx,λv1 H1 Vu g1 r1=>?_⟩;simp?[Rep] at r1;let⟨l,us,rfl,hq,rr⟩:=r1;have:=iC rr;subst this;refine⟨?_,Vu,ρ,.int i,g1.fh,eo.mono g1.ff,hy,λv2 H2 VG g2 r2=>?_⟩
   ·first|exact .inr (.inl ⟨rfl,_,aE g1.fh hq⟩)|exact .inl ⟨rfl,_,aE g1.fh hq⟩|exact .inr ⟨rfl,_,aE g1.fh hq⟩
   ·simp?[Rep] at r2;let⟨a,b⟩:=oh h2;exact⟨l,ns,i,j,rfl,by rw[r2],aE g2.fh (aE g2.ff hq),a,b,q _ H2 VG (g1.trans g2) (by simp[Rep])⟩
end Dl
namespace Zp
open PySem PyProof.Rows
def V9(b:θ)(h:ι)(it l:Ψ)(k:Nat):Prop:=match b with|true=>h.IsTupleIter it l k|false=>h.IsListIter it l k
def We(b:θ)(h:ι)(l:Ψ)(xs:Array Θ):Prop:=match b with|true=>h.IsTuple l xs|false=>h.IsList l xs
def V9.obj(x:V9 b h it l k):∃o,h.get? it=some o/\∀v,o.data≠.cell v:=by
 cases b
 ·let⟨o,e,_,d⟩:=(show h.IsListIter it l k from x);exact⟨o,e,λv q=>by rw[d] at q;cases q⟩
 ·let⟨o,e,_,d⟩:=(show h.IsTupleIter it l k from x);exact⟨o,e,λv q=>by rw[d] at q;cases q⟩
def V9.at(x:V9 b h it l k)(e:∀o,h.get? it=some o->h'.get? it=some o):V9 b h' it l k:=by
 cases b
 ·exact Heap.IsListIter.at x e
 ·exact Heap.IsTupleIter.at x e
def V9.extBut(x:V9 b h it l k)(e:Heap.ExtBut a h h')(n:it≠a):V9 b h' it l k:=x.at λo q=>e it o n q
def We.at(x:We b h l xs)(e:∀o,h.get? l=some o->h'.get? l=some o):We b h' l xs:=by
 cases b
 ·let⟨o,q,r⟩:=(show h.IsList l xs from x);exact⟨o,e o q,r⟩
 ·let⟨o,q,r⟩:=(show h.IsTuple l xs from x);exact⟨o,e o q,r⟩
def We.extBut(x:We b h l xs)(e:Heap.ExtBut a h h')(n:l≠a):We b h' l xs:=x.at λo q=>e l o n q
section
def nxt(hj:V9 b s.heap j t k)(ht:We b s.heap t its)(hv:its[k]?=some v)
  (hQ:∀g,V9 b g j t (k+1)->Heap.SameBut j s.heap g->Q v { s with heap:=g }):wpAny (model prog w) A (Builtin.SmallTypes.nextOf (.ref j)) Q E s:=by
 cases b
 ·exact wpAny_nextOf_list_item hj ht hv hQ
 ·exact En.Xn hj ht hv hQ
def YX{Q:Θ->Ξ->Prop}(hh:A.handled=none)(hj:V9 b s.heap j t k)(ht:We b s.heap t its)(hv:its[k]?=none)
  (hE:∀g x,Heap.ExtBut j s.heap g->(∃o,g.get? x=some o/\o.cls=.type "StopIteration")->E (.ref x) { s with heap:=g }):wpAny (model prog w) A (Builtin.SmallTypes.nextOf (.ref j)) Q E s:=by
 cases b
 ·exact wpAny_nextOf_list_end hh hj ht hv hE
 ·exact En.XQ hh hj ht hv hE
structure ZS(VH VQ:Bool)(h₀ h:Heap)(z TI TO i j l m:Addr)(xs ys:Array Value)(f:Value)(p q:Nat)(a b:Value):Prop where
 zo:IsZip h z TI TO f
 ti:IsPair h TI (.ref i) (.ref j)
 to:IsPair h TO a b
 wi:V9 VH h i l p
 wj:V9 VQ h j m q
 sl:We VH h l xs
 sm:We VQ h m ys
 kp:∀c o,c≠z->c≠TO->c≠i->c≠j->h₀.get? c=some o->h.get? c=some o
 sz:h.objs.size=h₀.objs.size
section
variable {z TI TO i j l m:Ψ}
def ZS.fl(Z:ZS VH VQ h₀ h z TI TO i j l m xs ys f p q a b)(D:ZipApart z TI TO i j l m)(e:IsZip g z TI TO f')(t:Heap.SameBut z h g):ZS VH VQ h₀ g z TI TO i j l m xs ys f' p q a b :=
 ⟨e,t.extBut _ _ D.TIz Z.ti,t.extBut _ _ D.TOz Z.to,Z.wi.extBut t.extBut D.i1z,Z.wj.extBut t.extBut D.i2z,Z.sl.extBut t.extBut D.l1z,Z.sm.extBut t.extBut D.l2z,λc o n1 n2 n3 n4 r=>t.extBut _ _ n1 (Z.kp c o n1 n2 n3 n4 r),t.1.trans Z.sz⟩
def ZS.fst(Z:ZS VH VQ h₀ h z TI TO i j l m xs ys f p q a b)(D:ZipApart z TI TO i j l m)(e:V9 VH g i l (p+1))(t:Heap.SameBut i h g):ZS VH VQ h₀ g z TI TO i j l m xs ys f (p+1) q a b :=
 ⟨t.extBut _ _ D.i1z.symm Z.zo,t.extBut _ _ D.TIi1 Z.ti,t.extBut _ _ D.TOi1 Z.to,e,Z.wj.extBut t.extBut D.i12.symm,Z.sl.extBut t.extBut D.l1i1,Z.sm.extBut t.extBut D.l2i1,λc o n1 n2 n3 n4 r=>t.extBut _ _ n3 (Z.kp c o n1 n2 n3 n4 r),t.1.trans Z.sz⟩
def ZS.snd(Z:ZS VH VQ h₀ h z TI TO i j l m xs ys f p q a b)(D:ZipApart z TI TO i j l m)(e:V9 VQ g j m (q+1))(t:Heap.SameBut j h g):ZS VH VQ h₀ g z TI TO i j l m xs ys f p (q+1) a b :=
 ⟨t.extBut _ _ D.i2z.symm Z.zo,t.extBut _ _ D.TIi2 Z.ti,t.extBut _ _ D.TOi2 Z.to,Z.wi.extBut t.extBut D.i12,e,Z.sl.extBut t.extBut D.l1i2,Z.sm.extBut t.extBut D.l2i2,λc o n1 n2 n3 n4 r=>t.extBut _ _ n4 (Z.kp c o n1 n2 n3 n4 r),t.1.trans Z.sz⟩
def ZS.put(Z:ZS VH VQ h₀ h z TI TO i j l m xs ys f p q a b)(D:ZipApart z TI TO i j l m)(e:IsPair g TO x y)(t:Heap.SameBut TO h g):ZS VH VQ h₀ g z TI TO i j l m xs ys f p q x y :=
 ⟨t.extBut _ _ D.TOz.symm Z.zo,t.extBut _ _ D.TITO Z.ti,e,Z.wi.extBut t.extBut D.TOi1.symm,Z.wj.extBut t.extBut D.TOi2.symm,Z.sl.extBut t.extBut D.l1TO,Z.sm.extBut t.extBut D.l2TO,λc o n1 n2 n3 n4 r=>t.extBut _ _ n2 (Z.kp c o n1 n2 n3 n4 r),t.1.trans Z.sz⟩
end
variable {z TI TO i j l m:Ψ}
def abk{Q:Θ->Ξ->Prop}(hn:A.handled=none)(D:ZipApart z TI TO i j l m)(Z:ZS VH VQ s.heap s.heap z TI TO i j l m xs ys .none p q a b)
  (item:∀x y g g',xs[p]?=some x->ys[q]?=some y->ZS VH VQ s.heap g z TI TO i j l m xs ys .ellipsis (p+1) (q+1) x y->IsZip g' z TI TO (rawInt g.objs.size) ->
   Heap.SameBut z (g.push { cls:=.type "tuple",data:=.seq #[x,y] }) g'->Q (.ref g.objs.size) { s with heap:=g' })
  (over:(xs[p]?=none\/ys[q]?=none)->∀g e,(∀c o,c≠z->c≠TO->c≠i->c≠j->s.heap.get? c=some o->g.get? c=some o)->(∃o,g.get? e=some o/\o.cls=.type "StopIteration")->E (.ref e) { s with heap:=g }) :
  wpAny (model prog w) A (Builtin.«zip.__next__» ⟨[.ref z],[]⟩) (λr s'=>∃v,r=.done (.ret v)/\Q v s') E s:=by
 have stop:∀ {g1 g2:ι}{e:Ψ}{c:Ψ}{p' q':Nat}{a' b':Θ},ZS VH VQ s.heap g1 z TI TO i j l m xs ys .ellipsis p' q' a' b'->(c=i\/c=j)->(xs[p]?=none\/ys[q]?=none)->Heap.ExtBut c g1 g2 ->
   (∃o,g2.get? e=some o/\o.cls=.type "StopIteration")->wpAny (model prog w) A (setField (.ref z) 0 Value.none) (λ_ t=>E (.ref e) t) E { s with heap:=g2 }:=by
  intro g1 g2 e c p' q' a' b' Y hc hv k ⟨o,ho,ht⟩;have cz:z≠c:=hc.elim (λe=>e ▸ D.i1z.symm) λe=>e ▸ D.i2z.symm;have Yz:IsZip g2 z TI TO .ellipsis:=k _ _ cz Y.zo;refine kO Yz (by simp) λg3 _ t=>over hv g3 e (λd u n1 n2 n3 n4 r=>t.extBut _ _ n1 (k _ _ ?_ (Y.kp d u n1 n2 n3 n4 r))) ⟨o,t.extBut _ _ ?_ ho,ht⟩
  ·exact hc.elim (λe=>e ▸ n3) λe=>e ▸ n4
  ·rintro rfl;rw[Yz] at ho;cases ho;simp at ht
 show wpAny _ _ (field (.ref z) 2 >>= _) _ _ _;refine zV (qS Z.zo rfl (x:=.bool false) rfl (zV (qS Z.zo rfl (x:=.ref TI) rfl (zV (kC Z.ti rfl (zV (m:=Builtin.SmallTypes.ownedTupleIsFree _) ?_))))));refine zV (qS Z.zo rfl (x:=.none) rfl (zW ?_));rw[yK rfl];refine zV (vW (zV (qS Z.zo rfl (x:=.ref TO) rfl (zV (kO Z.zo (by simp) λg1 e1 t1=>?_)))));have Z1:=Z.fl D (f':=.ellipsis) e1 t1;refine zV ?_;simp?[List.zipIdx_cons,List.zipIdx_nil,List.forIn_cons,List.forIn_nil];refine zV (zV (wpAny_onRaise (zV (m:=Builtin.SmallTypes.nextOf _) ?_)));cases hx:xs[p]? with
 | none=>exact YX hn Z1.wi Z1.sl hx λg2 e k o=>stop Z1 (.inl rfl) (.inl hx) k o
 | some x =>
 refine nxt Z1.wi Z1.sl hx λg2 e2 t2=>zW ?_;have Z2:=Z1.fst D e2 t2;refine zV (kC Z2.to rfl (zV (wpAny_updateSeq_pair Z2.to λg3 e3 t3=>zV (wpAny_letGo (zW ?_)))));have Z3:=Z2.put D (x:=x) (y:=b) e3 t3;refine zV (zV (wpAny_onRaise (zV (m:=Builtin.SmallTypes.nextOf _) ?_)));cases hy:ys[q]? with
 | none=>exact YX hn Z3.wj Z3.sm hy λg4 e k o=>stop Z3 (.inr rfl) (.inr hy) k o
 | some y =>
 refine nxt Z3.wj Z3.sm hy λg4 e4 t4=>zW ?_;have Z4:=Z3.snd D e4 t4;refine zV (kC Z4.to rfl (zV (wpAny_updateSeq_pair Z4.to λg5 e5 t5=>zV (wpAny_letGo (zW (zW ?_))))));have Z5:=Z4.put D (x:=x) (y:=y) e5 t5;refine zV (kC Z5.to rfl (zV (wpAny_newTuple (zV (m:=Builtin.SmallTypes.ownedTupleHandOut _ _) ?_))));refine zV (kO (zU _ Z5.zo) (by simp) λg6 e6 t6=>kO e6 (by simp) λg7 e7 t7=>zW ⟨_,rfl,?_⟩);exact item x y g5 g7 hx hy Z5 e7 (t6.trans t7)
def abl(hn:A.handled=none)(D:ZipApart z TI TO i j l m)
  (qz:IsZip s.heap z TI TO .none) (qI:IsPair s.heap TI (.ref i) (.ref j)) (qO:IsPair s.heap TO a b)
  (p1:V9 VH s.heap i l p) (p2:V9 VQ s.heap j m q) (r1:We VH s.heap l xs) (r2:We VQ s.heap m ys) (ex:xs[p]?=some x) (ey:ys[q]?=some y)
  (kQ:∀g,IsZip g z TI TO (rawInt s.heap.objs.size)->IsPair g TO x y->V9 VH g i l (p+1)->V9 VQ g j m (q+1)->IsPair g s.heap.objs.size x y->g.objs.size=s.heap.objs.size+1 ->
   (∀c o,c≠z->c≠TO->c≠i->c≠j->s.heap.get? c=some o->g.get? c=some o)->Q (some (.ref s.heap.objs.size)) { s with heap:=g }) :
  wpAny (model prog w) A (pyNext (.ref z)) Q E s:=by
 have ty:s.TypeIs (.ref z) "zip":=⟨_,qz,rfl⟩
 have Z:ZS VH VQ s.heap s.heap z TI TO i j l m xs ys .none p q a b:=⟨qz,qI,qO,p1,p2,r1,r2,λ_ _ _ _ _ _ e=>e,rfl⟩
 refine zV (kL (qB (name:=Str.ofString "__next__") ty vO (qU vO ty F.entry_zip_next (abk hn D Z ?_ ?_) (F.args_zip_next_1 _))))
 ·intro x' y' g g' hx hy Y ez t;rw[ex] at hx;rw[ey] at hy;cases hx;cases hy;rw[Y.sz] at ez ⊢;have lt:=zY Y.zo;have up:∀c o,c≠z->g.get? c=some o->g'.get? c=some o:=λc o n e=>t.extBut _ _ n (zU _ e);refine zW (kQ g' ez (up _ _ D.TOz Y.to) (Y.wi.at λo e=>up _ _ D.i1z e) (Y.wj.at λo e=>up _ _ D.i2z e) ?_ (by rw[t.1,xI,Y.sz]) λc o n1 n2 n3 n4 e=>up c o n1 (Y.kp c o n1 n2 n3 n4 e));rw[<- Y.sz];exact t.extBut _ _ (jH lt) (zX _ rfl)
 ·intro no;rw[ex,ey] at no;rcases no with no|no<;>cases no
def aad(hn:A.handled=none)(D:ZipApart z TI TO i j l m)
  (qz:IsZip s.heap z TI TO .none) (qI:IsPair s.heap TI (.ref i) (.ref j)) (qO:IsPair s.heap TO a b)
  (p1:V9 VH s.heap i l p) (p2:V9 VQ s.heap j m q) (r1:We VH s.heap l xs) (r2:We VQ s.heap m ys) (ends:xs[p]?=none\/ys[q]?=none)
  (kQ:∀g,(∀c o,c≠z->c≠TO->c≠i->c≠j->s.heap.get? c=some o->g.get? c=some o)->Q none { s with heap:=g }):wpAny (model prog w) A (pyNext (.ref z)) Q E s:=by
 have ty:s.TypeIs (.ref z) "zip":=⟨_,qz,rfl⟩
 have Z:ZS VH VQ s.heap s.heap z TI TO i j l m xs ys .none p q a b:=⟨qz,qI,qO,p1,p2,r1,r2,λ_ _ _ _ _ _ e=>e,rfl⟩
 refine zV (kL (qB (name:=Str.ofString "__next__") ty vO (qU vO ty F.entry_zip_next (abk hn D Z ?_ ?_) (F.args_zip_next_1 _))))
 ·intro x y g g' hx hy;rw[hx,hy] at ends;rcases ends with no|no<;>cases no
 ·rintro _ g e kp ⟨o,ho,ht⟩;exact zV (wpAny_isInstance (T:="StopIteration") (b:=true) ⟨o,ho,ht⟩ isSubtype_stop (zW (kQ _ kp)))
end
abbrev itO(b:θ)(l:Ψ):Obj:={ cls:=.type (if b then "tuple_iterator" else "list_iterator"),data:=.fields #[.ref l,.int 0 0] }
abbrev z1(b:θ)(h:ι)(l:Ψ):ι:=h.push (itO b l)
abbrev z2(b c:θ)(h:ι)(l m:Ψ):ι:=(z1 b h l).push (itO c m)
abbrev z3(b c:θ)(h:ι)(l m:Ψ):ι:=(z2 b c h l m).push { cls:=.type "tuple",data:=.seq #[.ref h.objs.size,.ref (z1 b h l).objs.size] }
abbrev z4(b c:θ)(h:ι)(l m:Ψ):ι:=(z3 b c h l m).push { cls:=.type "tuple",data:=.seq #[.none,.none] }
abbrev z5(b c:θ)(h:ι)(l m:Ψ):ι:=(z4 b c h l m).push { cls:=.type "zip",data:=.fields #[.none,.bool false,.bool false,.ref (z2 b c h l m).objs.size,.ref (z3 b c h l m).objs.size] }
def We.push(x:We b h l xs)(o:Obj):We b (h.push o) l xs:=x.at λo' e=>zU _ e
def YY(b c:θ)(l m:Ψ)(xs ys:Array Θ):Meets (Builtin.«zip.__new__» ⟨[.type "zip",.ref l,.ref m],[]⟩) (λ_ R s=>We b s.heap l xs/\We c s.heap m ys/\R (.ok (.ret (.ref (z4 b c s.heap l m).objs.size))) { s with heap:=z5 b c s.heap l m }) :=
 .of_wp λprog w A R s h=>by
  let⟨hp,g,d,tk,os⟩:=s;let⟨q1,q2,h⟩:=h;have Xo:=sub_zip;cases b<;>cases c
  ·have L1:Heap.IsList (Shared.heap ⟨hp,g,d,tk,os⟩) l xs:=q1;have L2:Heap.IsList (Shared.heap ⟨hp.push { cls:=.type "list_iterator",data:=.fields #[.ref l,.int 0 0] },g,d,tk,os⟩) m ys:=We.push (b:=false) q2 _
   wp_walk using qJ L1,qJ L2
   exact⟨_,rfl,h⟩
  ·have L1:Heap.IsList (Shared.heap ⟨hp,g,d,tk,os⟩) l xs:=q1;have L2:Heap.IsTuple (Shared.heap ⟨hp.push { cls:=.type "list_iterator",data:=.fields #[.ref l,.int 0 0] },g,d,tk,os⟩) m ys:=We.push (b:=true) q2 _
   wp_walk using qJ L1,xQ L2
   exact⟨_,rfl,h⟩
  ·have L1:Heap.IsTuple (Shared.heap ⟨hp,g,d,tk,os⟩) l xs:=q1;have L2:Heap.IsList (Shared.heap ⟨hp.push { cls:=.type "tuple_iterator",data:=.fields #[.ref l,.int 0 0] },g,d,tk,os⟩) m ys:=We.push (b:=false) q2 _
   wp_walk using xQ L1,qJ L2
   exact⟨_,rfl,h⟩
  ·have L1:Heap.IsTuple (Shared.heap ⟨hp,g,d,tk,os⟩) l xs:=q1;have L2:Heap.IsTuple (Shared.heap ⟨hp.push { cls:=.type "tuple_iterator",data:=.fields #[.ref l,.int 0 0] },g,d,tk,os⟩) m ys:=We.push (b:=true) q2 _
   wp_walk using xQ L1,xQ L2
   exact⟨_,rfl,h⟩
def Xz(e:h.get? it=some (itO b l)):V9 b h it l 0:=by
 cases b
 ·exact⟨_,e,rfl,rfl⟩
 ·exact⟨_,e,rfl,rfl⟩
def Yp(q1:We b s.heap l xs)(q2:We c s.heap m ys)
  (h:∀g,IsZip g (s.heap.objs.size+4) (s.heap.objs.size+2) (s.heap.objs.size+3) .none->IsPair g (s.heap.objs.size+2) (.ref s.heap.objs.size) (.ref (s.heap.objs.size+1))->IsPair g (s.heap.objs.size+3) .none .none ->
   V9 b g s.heap.objs.size l 0->V9 c g (s.heap.objs.size+1) m 0->(∀a o,s.heap.get? a=some o->g.get? a=some o)->Q (.ref (s.heap.objs.size+4)) { s with heap:=g }) :
  wpAny (model prog w) A (call (.type "zip") [.ref l,.ref m]) Q E s:=by
 refine callType_new F.called_zip (by decide) (F.typeCall_zip_2 _ _) (F.newCall_zip_2 _ _) (λobj=>F.args_object_init_3 obj _ _) F.entry_zip_new (YY b c l m xs ys) ⟨q1,q2,?_⟩;have n1:(z1 b s.heap l).objs.size=s.heap.objs.size+1:=xI ..;have n2:(z2 b c s.heap l m).objs.size=s.heap.objs.size+2:=by rw[xI,n1]
 have n3:(z3 b c s.heap l m).objs.size=s.heap.objs.size+3:=by rw[xI,n2]
 have n4:(z4 b c s.heap l m).objs.size=s.heap.objs.size+4:=by rw[xI,n3]
 have g5:(z5 b c s.heap l m).get? (z4 b c s.heap l m).objs.size=some _:=zX _ rfl;have g4:(z5 b c s.heap l m).get? (z3 b c s.heap l m).objs.size=some _:=zU _ (zX _ rfl);have g3:(z5 b c s.heap l m).get? (z2 b c s.heap l m).objs.size=some _:=zU _ (zU _ (zX _ rfl));have g2:(z5 b c s.heap l m).get? (z1 b s.heap l).objs.size=some (itO c m):=zU _ (zU _ (zU _ (zX _ rfl)));have g1:(z5 b c s.heap l m).get? s.heap.objs.size=some (itO b l):=zU _ (zU _ (zU _ (zU _ (zX _ rfl))));show _/\_;rw[n2,n3,n4] at g5;rw[n1,n2] at g3;rw[n3] at g4;rw[n1] at g2;rw[n4];exact⟨⟨_,g5,rfl⟩,h _ g5 g3 g4 (Xz g1) (Xz g2) λa o x=>zU _ (zU _ (zU _ (zU _ (zU _ x))))⟩
end Zp
namespace Dl
open PySem L2 PySem.Spec PyProof.Rows Zp
def uy(K:Φ)(b:θ)(a:Ψ)(H:Hp)(xs:Γ V):Prop:=match b with|true=>gG K H a xs|false=>gc K H a xs
def uy.src(I:Inv X pins σ H s)(h:uy X.K b a H xs):∃its:Γ Θ,aI xs its/\We b s.heap a its.toArray/\xs.length<=sizeLine:=by
 cases b
 ·let⟨its,rv,pl,hz⟩:=I.list (show gc X.K H a xs from h);exact⟨its,rv,pl.isList,hz⟩
 ·let⟨its,rv,pl,hz⟩:=I.tuple (show gG X.K H a xs from h);exact⟨its,rv,pl,hz⟩
def uy.ne(I:Inv X pins σ H s)(hf:cM X pins H c)(h:uy X.K b a H xs):a≠c:=by
 cases b
 ·exact NR I hf h
 ·exact MG I hf h
def uy.inj(I:Inv X pins σ H s)(h:uy X.K b a H xs)(h':uy X.K b a H ys):xs=ys:=by
 cases b
 ·exact I.W6 h h'
 ·exact I.WO h h'
def uy.mono{K:Φ}(e:aB H H')(h:uy K b a H xs):uy K b a H' xs:=by
 cases b
 ·exact e.seq h
 ·exact aE e h
def Ee{K:Φ}(b c:θ)(l1 l2 z TI TO i1 i2:Ψ)(Z:UY z TI TO i1 i2) :
  Turn P w K (.Tuple elts k pos) (Ta (uy K b l1) (uy K c l2)) [z,TI,TO,i1,i2] z (λi h=>IsZip h z TI TO .none/\IsPair h TI (.ref i1) (.ref i2)/\(∃a b,IsPair h TO a b)/\V9 b h i1 l1 i/\V9 c h i2 l2 i) where
 mem:=by simp
 obj:=λi h st d hd=>by
  let⟨hz,YZ,⟨a,b',Zg⟩,p1,p2⟩:=st;simp?[zQ,yF,xS] at hd;rcases hd with rfl|rfl|rfl|rfl|rfl
  ·exact⟨_,hz,λv q=>by have q:Data.fields _=Data.cell v:=q;cases q⟩
  ·exact⟨_,YZ,λv q=>by have q:Data.seq _ _=Data.cell v:=q;cases q⟩
  ·exact⟨_,Zg,λv q=>by have q:Data.seq _ _=Data.cell v:=q;cases q⟩
  ·exact p1.obj
  ·exact p2.obj
 keep:=λi h h' st kk=>by
  let⟨hz,YZ,⟨a,b',Zg⟩,h1,h2⟩:=st;exact⟨kk z (by simp) _ hz,kk TI (by simp) _ YZ,⟨a,b',kk TO (by simp) _ Zg⟩,h1.at λo q=>kk i1 (by simp) o q,h2.at λo q=>kk i2 (by simp) o q⟩
 item:=by
  sleep 3;subst hP hw hK;let⟨xs,ys,x,y,XA,Xd,hx,hy⟩:=hg;let⟨ad0,rv1,p1,hz1⟩:=XA.src I;let⟨Wn,rv2,p2,hz2⟩:=Xd.src I;let⟨u1,hu1,ru1⟩:=rv1.get hx;let⟨u2,hu2,ru2⟩:=rv2.get hy;sleep 8
  let⟨hz,YZ,⟨a,b',Zg⟩,h1,h2⟩:=st;refine abl (I.ok.hd hc) D hz YZ Zg h1 h2 p1 p2 (x:=u1) (y:=u2) (by simpa using hu1) (by simpa using hu2) λg b1 b2 b3 b4 b5 b6 hk=>⟨.ref s.heap.objs.size,rfl,?_⟩
  have lt:∀ {c:Ψ}{o:Obj},s.heap.get? c=some o->s.heap.objs.size≠c:=λe=>jH (zY e);refine wpAny_letOwnedTupleGo_zip (s:={ s with heap:=g }) b1 λg' hz' WZ=>?_;have b5':g'.get? s.heap.objs.size=some { cls:=.type "tuple",data:=.seq #[u1,u2] }:=WZ.extBut _ _ (lt hz) b5;have ht:qo g' s.heap.objs.size (List.toArray [u1,u2]):=⟨⟨_,b5',rfl,_,rfl⟩,_,b5',rfl⟩
  refine⟨.ref s.heap.objs.size,_,zc (ch:=[z,TI,TO,i1,i2]) (xs:=[x,y]) (t':=s.toks) I hf (λb o hb q=>?_) (yL _) ht (.cons ru1 (.cons ru2 .nil)) (by show 2<=sizeLine;decide),rfl,
   ⟨s.heap.objs.size,x,y,rfl,I.fresh,rfl,λzs hzs=>by rw[hzs.inj I XA];exact hx,λzs hzs=>by rw[hzs.inj I Xd];exact hy⟩,
   ⟨hz',WZ.extBut _ _ Z.a1 (hk _ _ D.TIz D.TITO D.TIi1 D.TIi2 YZ),⟨_,_,WZ.extBut _ _ Z.a2 b2⟩,b3.extBut WZ.extBut Z.a3,b4.extBut WZ.extBut Z.a4⟩,λb hb=>?_⟩
  ·simp?[zQ,yF,xS,not_or] at hb;exact WZ.extBut _ _ hb.1 (hk b o hb.1 hb.2.2.1 hb.2.2.2.1 hb.2.2.2.2 q)
  ·have:s.heap.objs.size≠b:=by
    simp?[zQ,yF,xS] at hb;let⟨o1,g1,_⟩:=h1.obj;let⟨o2,g2,_⟩:=h2.obj;rcases hb with rfl|rfl|rfl|rfl|rfl
    ·exact lt hz
    ·exact lt YZ
    ·exact lt Zg
    ·exact lt g1
    ·exact lt g2
   rw[ak (jL this)];exact (hf b hb).1
 done:=by
  sleep 3;subst hP hw hK;let⟨xs,ys,XA,Xd,hx⟩:=hg;let⟨ad0,rv1,p1,hz1⟩:=XA.src I;let⟨Wn,rv2,p2,hz2⟩:=Xd.src I;sleep 8
  let⟨hz,YZ,⟨a,b',Zg⟩,h1,h2⟩:=st;have e1:=rv1.length;have e2:=rv2.length;refine aad (I.ok.hd hc) D hz YZ Zg h1 h2 p1 p2 (hx.elim (λq=>.inl (by simp;lia)) λq=>.inr (by simp;lia)) λg hk=>⟨rfl,?_⟩
  refine DM (ch:=[z,TI,TO,i1,i2]) (t':=s.toks) I hf λb o hb q=>?_;simp?[zQ,yF,xS,not_or] at hb;exact hk b o hb.1 hb.2.2.1 hb.2.2.2.1 hb.2.2.2.2 q
 self:=λ_ _ _ _ _ st h=>wpAny_pyIter_zip st.1 h
def KI(B:pW X "zip" (.type "zip"))(ha:PA X [l,l'] tl)(hs:starEach [l,l'] X.env=(false,eval l X.env)::starEach [l'] X.env)(WV:(backTo pos (starEach [l'] X.env)).any (·.1)=false) :
  PI X (.Tuple elts k tp) (.Call (.Name "zip" p) [l,l'] [] pos) (λσ H R=>tl σ H λvs H1=>∃a b,vs=[.ref a,.ref b]/\∃c d xs ys,uy X.K c a H1 xs/\uy X.K d b H1 ys/\R (Ta (uy X.K c a) (uy X.K d b)) H1):=by
 intro pins s σ H R I h;refine Call_ (i6 I B.gl B.mg B.bt (qQ (bR (ha pos pins s σ H _ I h) λus s1 z=>?_) hs WV));let⟨vs,H1,I1,r1,q1⟩:=z;let⟨a,b,e,c,d,xs,ys,XA,Xd,q⟩:=q1;subst e;let⟨u,u',rfl,rx,ry⟩:=vals2 r1;cases rx;cases ry;let⟨its,rv,pl,hz⟩:=XA.src I1;let⟨its',rv',pl',hz'⟩:=Xd.src I1;refine Yp pl pl' λg b1 b2 b3 b4 b5 kp=>wpAny_pyIter_zip (s:={ s1 with heap:=g }) b1 ?_;refine⟨_,_,_,_,H1,rfl,I1.kept (t':=s1.toks) kp,Ee c d a b (s1.heap.objs.size+4) (s1.heap.objs.size+2) (s1.heap.objs.size+3) s1.heap.objs.size (s1.heap.objs.size+1) ?_,⟨b1,b2,⟨_,_,b3⟩,b4,b5⟩,λc hc=>?_,q⟩
 ·constructor<;>(intro z;have z:(_:Nat)=_:=z;lia)
 ·have Zd:s1.heap.objs.size<=c:=by
   simp?[zQ,yF,xS] at hc;rcases hc with rfl|rfl|rfl|rfl|rfl
   ·exact jT _ _
   ·exact jT _ _
   ·exact jT _ _
   ·exact yL _
   ·exact jT _ _
  exact I1.Wr Zd (I1.Vx.fresh Zd)
def QJ:Γ D->Δ (Γ D):=λds=>match ds with
 | [x,y]=>(gO x).bind λxs=>(gO y).map λys=>j9 xs ys
 | _=>none
def Bo{K:Φ}(h:gO d=some xs)(r:Rep K HF d v):∃b a vs,v=.ref a/\uy K b a HF vs/\au K HF xs vs:=by
 rcases mn h with rfl|rfl
 ·simp?[Rep] at r;let⟨a,vs,rfl,q,rr⟩:=r;exact⟨true,a,vs,rfl,q,rr⟩
 ·simp?[Rep] at r;let⟨a,vs,rfl,q,rr⟩:=r;exact⟨false,a,vs,rfl,q,rr⟩
def gz(fs:Env->Δ (Γ D)):Env->Δ (Γ D):=λρ=>(fs ρ).bind QJ
def Lz(B:pW X "zip" (.type "zip"))(hs:starEach [l,l'] X.env=(false,eval l X.env)::starEach [l'] X.env)(WV:(backTo pos (starEach [l'] X.env)).any (·.1)=false)(h:DA X [l,l'] fs) :
  DI X (.Tuple elts k tp) (.Call (.Name "zip" p) [l,l'] [] pos) (gz fs) :=
 oC (KI B h hs WV) λσ H R z=>by
  let⟨HF,ρ,ds,sm,eo,hf,q⟩:=z;sleep 5;refine⟨HF,ρ,_,sm,eo,hx,λvs H1 Vu g1 r1=>?_⟩;unfold QJ at hf;split at hf
  ·let⟨xs,h1,hf⟩:=bs hf;let⟨ys,h2,rfl⟩:=ae hf;let⟨v,r',rfl,a,b⟩:=r1.cons_inv;let⟨v',r'',rfl,a',b'⟩:=b.cons_inv;rw[b'.nil_inv];let⟨c,ad,us,rfl,hq,rr⟩:=Bo h1 a;let⟨c',ad',us',rfl,Y8,rr'⟩:=Bo h2 a';exact⟨ad,ad',rfl,c,c',us,us',hq.mono g1.fh,Y8.mono g1.fh,q _ H1 Vu g1 (FC hq (λ_ _ s h=>h.mono s) Y8 (λ_ _ s h=>h.mono s) rr rr')⟩
  ·cases hf
end Dl
namespace Zp
open PySem PyProof.Rows
def V9.ne(x:V9 b h it l k)(y:We b h l xs):l≠it:=by
 rintro rfl;cases b
 ·let⟨o,e,c,d⟩:=(show h.IsListIter l l k from x)
  let⟨o',e',r⟩:=(show h.IsList l xs from y)
  rw[e] at e';cases e';simp_all
 ·let⟨o,e,c,d⟩:=(show h.IsTupleIter l l k from x)
  let⟨o',e',r⟩:=(show h.IsTuple l xs from y)
  rw[e] at e';cases e';simp_all
def aaf(hn:A.handled=none)(b:θ)(it l:Ψ)(xs:Array Θ):Draws prog w A it [it,l] xs.size (λi x=>xs[i]?=some x) (λi h=>V9 b h it l i/\We b h l xs) where
 live:=λi h st=>let ⟨o,e,_⟩:=st.1.obj;⟨o,e⟩
 frame:=λi h h' st k=>⟨st.1.at (k it (by simp)),st.2.at (k l (by simp))⟩
 item:=λi s Q E hi st hQ=>nxt st.1 st.2 (v:=xs[i]) (by simp[hi]) λg e t=>hQ _ g s.toks (by simp[hi]) ⟨e,st.2.extBut t.extBut (st.1.ne st.2)⟩ t
 done:=λs Q E st hE=>YX hn st.1 st.2 (by simp) hE
def abo{VH:θ}{e it l:Ψ}{i:Nat}{items:Array Θ}{x old:Θ}{Q:Δ Θ->Ξ->Prop}(hn:A.handled=none)
  (qe:IsEnum s.heap e it i old) (qi:V9 VH s.heap it l i) (ql:We VH s.heap l items) (ex:items[i]?=some x) (nei:e≠it)
  (kQ:∀g tk,IsEnumOut g e it ((i:Int)+1) x s.heap.objs.size->V9 VH g it l (i+1)->g.get? s.heap.objs.size=some { cls:=.type "tuple",data:=.seq #[.int i tk,x] } ->
   g.objs.size=s.heap.objs.size+1->(∀c o,c≠e->c≠it->s.heap.get? c=some o->g.get? c=some o)->Q (some (.ref s.heap.objs.size)) { s with heap:=g,toks:=tk+1 }) :
  wpAny (model prog w) A (pyNext (.ref e)) Q E s:=by
 have nel:e≠l:=by
  rintro rfl;cases VH
  ·let⟨o,e1,r⟩:=(show s.heap.IsList e items from ql)
   rw[qe] at e1;cases e1;simp at r
  ·let⟨o,e1,r⟩:=(show s.heap.IsTuple e items from ql)
   rw[qe] at e1;cases e1;simp at r
 have D:Draws prog w A.in1 it [it,l] items.size (λi x=>items[i]?=some x) (λi h=>V9 VH h it l i/\We VH h l items):=aaf (A:=A.in1) hn VH it l items;refine wpAny_pyNext_enum_itemD D qe ⟨qi,ql⟩ (Array.getElem?_eq_some_iff.mp ex).1 nei (by simp[nei,nel]) λy g tk hy a b c d k=>?_;rw[ex] at hy;cases hy;exact kQ g tk a b.1 c d k
end Zp
namespace Dl
open PySem L2 PySem.Spec PyProof.Rows Zp
def rJ{K:Φ}(b:θ)(a it e:Ψ)(hei:e≠it):Turn P w K (.Tuple elts k pos) (Tz (uy K b a)) [e,it] e (λi h=>(∃old,IsEnum h e it i old)/\V9 b h it a i) where
 mem:=by simp
 obj:=λi h st c hc=>by
  let⟨⟨old,he⟩,hi⟩:=st;rcases List.mem_cons.mp hc with z|z
  ·subst z;exact⟨_,he,λv q=>by have q:Data.fields _=Data.cell v:=q;cases q⟩
  ·rw[List.mem_singleton.mp z];exact hi.obj
 keep:=λi h h' st kk=>⟨let ⟨old,he⟩:=st.1;⟨old,kk e (by simp) _ he⟩,st.2.at λo q=>kk it (by simp) o q⟩
 item:=by
  sleep 3;subst hP hw hK;let⟨xs,x,hq,hx⟩:=hg;let⟨its,rv,p,hz⟩:=hq.src I;let⟨u,hu,ru⟩:=rv.get hx;let⟨⟨old,he⟩,hi⟩:=st;refine abo (I.ok.hd hc) he hi p (x:=u) (by simpa using hu) hei λg tk b1 b2 b3 b4 hk=>⟨.ref s.heap.objs.size,rfl,?_⟩
  have lt:∀ {c:Ψ}{o:Obj},s.heap.get? c=some o->s.heap.objs.size≠c:=λe=>jH (zY e);have YR:s.heap.objs.size≠e:=lt he;refine wpAny_letOwnedTupleGo_enum (s:={ s with heap:=g,toks:=tk+1 }) b1 λg' he' WZ=>?_;have b3':g'.get? s.heap.objs.size=some { cls:=.type "tuple",data:=.seq #[.int i tk,u] }:=WZ.extBut _ _ YR b3;have ht:qo g' s.heap.objs.size (List.toArray [Value.int (i:Nat) tk,u]):=⟨⟨_,b3',rfl,_,rfl⟩,_,b3',rfl⟩
  refine⟨.ref s.heap.objs.size,_,zc (ch:=[e,it]) (xs:=[.int (i:Nat),x]) (t':=tk+1) I hf (λc o hb q=>?_) (yL _) ht (.cons ⟨_,rfl⟩ (.cons ru .nil)) (by show 2<=sizeLine;decide),rfl,
   ⟨s.heap.objs.size,x,rfl,I.fresh,rfl,λzs hzs=>by rw[hzs.inj I hq];exact hx⟩,⟨⟨_,he'⟩,b2.extBut WZ.extBut (jL hei)⟩,λc WI=>?_⟩
  ·simp?[zQ,yF,xS,not_or] at hb;exact WZ.extBut _ _ hb.1 (hk c o hb.1 hb.2 q)
  ·have:s.heap.objs.size≠c:=by
    simp?[zQ,yF,xS] at WI;let⟨o1,g1,_⟩:=hi.obj;rcases WI with rfl|rfl
    ·exact lt he
    ·exact lt g1
   rw[ak (jL this)];exact (hf c WI).1
 done:=by
  sleep 3;subst hP hw hK;let⟨xs,hq,hx⟩:=hg;let⟨its,rv,p,hz⟩:=hq.src I;have hh:X.A.in1.handled=none:=I.ok.hd hc;have hl:=rv.length;let⟨⟨old,he⟩,hi⟩:=st;have hT:s.TypeIs (.ref e) "enumerate":=⟨_,he,rfl⟩
  unfold pyNext;refine zV (kL (qB (name:=Str.ofString "__next__") hT F.slot_enumerate_next (qU F.slot_enumerate_next hT F.entry_enumerate_next ?_ (F.args_enumerate_next_1 _))));refine zV (m:=field (.ref e) 2) (qS he rfl (x:=.ref it) rfl ?_);refine zV (YX hh hi p (by simp;lia) λh1 x k1 hx1=>?_);let⟨o,ho,hc1⟩:=hx1;refine zV (wpAny_isInstance (T:="StopIteration") (b:=true) ⟨o,ho,hc1⟩ isSubtype_stop (zW ⟨rfl,?_⟩));sleep 10;exact I.turned (t':=s.toks) (λb o hb q=>k1 b o hb q) f0 f1 f3 f4 f5
 self:=λ_ _ _ _ _ st h=>let ⟨_,he⟩:=st.1;wF he h
def JU(B:pW X "enumerate" (.type "enumerate"))(ha:PA X [l] tl)(hs:starEach [l] X.env=[(false,eval l X.env)]):PI X (.Tuple elts k tp) (.Call (.Name "enumerate" p) [l] [] pos) (λσ H R=>tl σ H λvs H1=>∃a,vs=[.ref a]/\∃b xs,uy X.K b a H1 xs/\R (Tz (uy X.K b a)) H1):=by
 intro pins s σ H R I h;refine Call_ (i6 I B.gl B.mg B.bt (qQ (bR (ha pos pins s σ H _ I h) λus s1 z=>?_) hs rfl));let⟨vs,H1,I1,r1,q1⟩:=z;let⟨a,e,b,xs,hq,q⟩:=q1;subst e;let⟨u,rfl,rx⟩:=vals1 r1;cases rx;have fresh:∀b∈[s1.heap.objs.size+1,s1.heap.objs.size],cM X pins H1 b:=λb hb=>by
  rcases List.mem_cons.mp hb with z|z
  ·subst z;exact I1.Wr (Nat.le_succ _) (I1.Vx.fresh (Nat.le_succ _))
  ·cases List.mem_singleton.mp z;exact I1.Wr (yL _) I1.fresh
 let⟨its,rv,pl,hz⟩:=hq.src I1;cases b with
 | false =>
  refine call_enumerate_list pl λh' he hit hsz kp=>wF (s:={ s1 with heap:=h' }) he ?_;exact⟨_,_,_,_,H1,rfl,I1.kept (t':=s1.toks) kp,rJ false a s1.heap.objs.size (s1.heap.objs.size+1) (Nat.succ_ne_self _),⟨⟨_,he⟩,hit⟩,fresh,q⟩
 | true =>
  refine En.Xp (show s1.heap.IsTuple a its.toArray from pl) λh' he hit hsz kp=>wF (s:={ s1 with heap:=h' }) he ?_;exact⟨_,_,_,_,H1,rfl,I1.kept (t':=s1.toks) kp,rJ true a s1.heap.objs.size (s1.heap.objs.size+1) (Nat.succ_ne_self _),⟨⟨_,he⟩,hit⟩,fresh,q⟩
def bI(fs:Env->Δ (Γ D)):Env->Δ (Γ D):=λρ=>(fs ρ).bind λds=>(eD ds).map (bK 0)
def KU(B:pW X "enumerate" (.type "enumerate"))(h:DA X [l] fs)(hs:starEach [l] X.env=[(false,eval l X.env)]):DI X (.Tuple elts k tp) (.Call (.Name "enumerate" p) [l] [] pos) (bI fs) :=
 oC (JU B h hs) λσ H R z=>by
  let⟨HF,ρ,ds,sm,eo,hf,q⟩:=z;sleep 5;let⟨es,h1,rfl⟩:=ae hf;let⟨d,h0,h1⟩:=bs h1;rw[gD h0] at hx;refine⟨HF,ρ,_,sm,eo,hx,λvs H1 Vu g1 r1=>?_⟩;let⟨v,r',rfl,a,b⟩:=r1.cons_inv;rw[b.nil_inv];let⟨c,ad,us,rfl,hq,rr⟩:=Bo h1 a;exact⟨ad,rfl,c,us,hq.mono g1.fh,q _ H1 Vu g1 (DD hq (λ_ _ s h=>h.mono s) rr)⟩
end Dl
namespace X6
open PySem PySem.W PySem.Calls PyProof.Rows L2
def cM.at(h:cM X pins H b)(e:H' b=none):cM X pins H' b:=⟨e,h.2⟩
def Ww{g:Array Θ->Array Θ}(I:Inv X pins σ H s)(f:cM X pins H b):Inv X pins σ H { s with heap:=s.heap.update b (Obj.mapSeq g) }:=by
 let⟨f0,f1,f2,f3,f4,f5⟩:=f;exact I.turned (t':=s.toks) (h':=s.heap.update b (Obj.mapSeq g)) (λc o hc e=>(xM _ _ (jL hc)).trans e) f0 f1 f3 f4 f5
def XB(I:Inv X (pins++oV fp h) σ H' s')(hb:b∈fp)(e:h.get? b=some o):s'.heap.get? b=some o/\H' b=none :=
 let q:=I.pin (b,o) (yE _ (yE _ (eJ hb e)));⟨q.1,q.2.1⟩
def Xs(I:Inv X pins σ H s)(ho:s.heap.get? a=some (seqObj "list" vs.toArray n))(fa:cM X pins H a)(XO:vs.length < 64)
  (J:Γ Θ->Hp->Prop) (j0:J [] H)
  (step:∀us v,vs[us.length]?=some v->∀pl s' H',Inv X (pins++pl) σ H' s'->J us H'->wpAny (model X.prog X.w) A (call f [v]) (λu Xv=>∃H'',Inv X (pins++pl) σ H'' Xv/\J (us++[u]) H'') (λ_ _=>False) s')
  (fin:∀us H',us.length=vs.length->J us H'->∃ (z:Nat->Int) (κ:SortKind),(2<=vs.length->∀s',Inv X pins σ H' s'->(∀Q':SortKind->Ξ->Prop,Q' κ s'->wpAny (model X.prog X.w) A (keyKind' us.toArray) Q' (λ_ _=>False) s') /\
    ∀i j C,i < vs.length->j < vs.length->C (SP.eS z i j) s'->kas_ask X.prog X.w A κ us i j C s') /\
   ∀s' c,Inv X pins σ H' s'->cM X pins H' a->s'.heap.get? a=some (seqObj "list" (VL z vs).toArray c)->P (.done (.ret .none)) s') :
  wpAny (model X.prog X.w) A (ksk_tree a f false) P E s:=by
 have X7:vs.length<=sizeLine:=by rw[qT];lia
 unfold ksk_tree;refine zV (vE ho rfl ?_);refine zV (jY ho rfl ?_ (by simpa using X7) (xU _));obtain⟨e1,YH⟩:∃e,(s.heap.update a (Obj.mapSeq λ_=>(#[]:Array Θ))).get? a=some (seqObj "list" #[] e):=⟨_,jZ ho λ_=>#[]⟩
 have I1:=Ww (g:=λ_=>(#[]:Array Θ)) I fa;refine zV (seqEpoch_at YH rfl ?_);refine zV (wpAny_newTuple ?_ (by simpa using X7));refine zV (kK ?_ (xU _));refine xW ?_;have Ze:(((s.heap.update a (Obj.mapSeq λ_=>(#[]:Array Θ))).push (seqObj "tuple" vs.toArray 0)).push (seqObj "list" #[] 0)).get? a=some (seqObj "list" #[] e1):=zU _ (zU _ YH);have hk3:(((s.heap.update a (Obj.mapSeq λ_=>(#[]:Array Θ))).push (seqObj "tuple" vs.toArray 0)).push (seqObj "list" #[] 0)).get? ((s.heap.update a (Obj.mapSeq λ_=>(#[]:Array Θ))).push (seqObj "tuple" vs.toArray 0)).objs.size=some (seqObj "list" #[] 0):=zX _ rfl;have I3:=(I1.kept (t':=s.toks) (h':=((s.heap.update a (Obj.mapSeq λ_=>(#[]:Array Θ))).push (seqObj "tuple" vs.toArray 0)).push (seqObj "list" #[] 0)) λb o e=>zU _ (zU _ e))
 have I2:=(I1.kept (t':=s.toks) (h':=(s.heap.update a (Obj.mapSeq λ_=>(#[]:Array Θ))).push (seqObj "tuple" vs.toArray 0)) λb o e=>zU _ e)
 have fk:cM X pins H ((s.heap.update a (Obj.mapSeq λ_=>(#[]:Array Θ))).push (seqObj "tuple" vs.toArray 0)).objs.size:=I2.Wr (yL _) (I2.Vx.fresh (yL _));have hka:((s.heap.update a (Obj.mapSeq λ_=>(#[]:Array Θ))).push (seqObj "tuple" vs.toArray 0)).objs.size≠a:=by
  have VU:=zY YH;rw[xI];exact jH (jM VU)
 show wpAny _ A _ P E { s with heap:=((s.heap.update a (Obj.mapSeq λ_=>(#[]:Array Θ))).push (seqObj "tuple" vs.toArray 0)).push (seqObj "list" #[] 0) };generalize ((s.heap.update a (Obj.mapSeq λ_=>(#[]:Array Θ))).push (seqObj "tuple" vs.toArray 0)).objs.size=kS at hk3 fk hka;generalize e3:({ s with heap:=((s.heap.update a (Obj.mapSeq λ_=>(#[]:Array Θ))).push (seqObj "tuple" vs.toArray 0)).push (seqObj "list" #[] 0) }:Ξ)=s3 at I3;have Ze:s3.heap.get? a=some (seqObj "list" #[] e1):=by rw[<- e3];exact Ze
 have hk3:s3.heap.get? kS=some (seqObj "list" #[] 0):=by rw[<- e3];exact hk3
 clear e3 I2 I1 YH ho;unfold ksk_rest;refine zV (vW ?_)
 first
  | rw[List.forIn_toArray]
  | (rw[<- Array.forIn_toList];simp?[List.toList_toArray])
  | rw[<- Array.forIn_toList]
 refine zV (ksk_fold (λi s'=>∃us H' e,us.length=i/\Inv X pins σ H' s'/\H' a=none/\H' kS=none/\s'.heap.get? a=some (seqObj "list" #[] e1)/\s'.heap.get? kS=some (seqObj "list" us.toArray e)/\J us H') vs 0 s3
  ⟨[],H,0,rfl,I3,fa.1,fk.1,Ze,hk3,j0⟩ ?step ?done)
 case step =>
  rintro j x s' hx ⟨us,H',e,hu,I',ha',Yh,hoa,Vx,j'⟩;have hu:us.length=j:=by lia
  have hj:j < vs.length:=(List.getElem?_eq_some_iff.mp hx).1;have Ip:=I'.pinned (fp:=[a,kS]) (λb hb=>by
   rcases List.mem_cons.mp hb with rfl|hb
   ·exact cM.at fa ha'
   ·rw[List.mem_singleton.mp hb];exact cM.at fk Yh) (λb hb=>by
   rcases List.mem_cons.mp hb with rfl|hb
   ·exact⟨_,hoa,λv z=>by cases z⟩
   ·rw[List.mem_singleton.mp hb];exact⟨_,Vx,λv z=>by cases z⟩)
  refine zV (kL (yZ (step us x (by rw[hu];exact hx) _ s' H' Ip j') (λu Xv he=>?_) λ_ _ hF=>hF.elim));let⟨H'',I'',j''⟩:=he
  try dsimp only
  let⟨ga,na⟩:=XB I'' (b:=a) zE hoa;let⟨gk,nk⟩:=XB I'' (b:=kS) (zC _ zE) Vx;have I4:=I''.VS;obtain⟨c2,XH⟩:∃c2,(Xv.heap.update kS (Obj.mapSeq (·.push u))).get? kS=some (seqObj "list" (us.toArray.push u) c2):=⟨_,jZ gk (·.push u)⟩
  refine zV (jY gk rfl ?_ (by rw[zH,qT];lia) (yD (Nat.le_of_eq (Array.size_push ..)) (by rw[zH,qT];lia)));refine zW ⟨rfl,us++[u],H'',c2,by rw[zN,hu];simp,Ww I4 (cM.at fk nk),na,nk,(xM _ _ hka).trans ga,?_,j''⟩;rw[XH];simp
 case done =>
  rintro s' ⟨us,H',e,hu,I',ha',Yh,hoa,Vx,j'⟩;have hu:us.length=vs.length:=by lia
  try dsimp only
  refine zV (vE Vx rfl ?_);let⟨z,κ,hz,hP⟩:=fin us H' hu j';have last:∀VI:SortSt,(arrOf VI).map (·.2)=(VL z vs).toArray->failedOf VI=none->wpAny (model X.prog X.w) A (ksk_tail a false e1 (.ref kS) VI) P E s':=λVI h1 h2=>by
   unfold ksk_tail
   try dsimp only
   rw[h1,h2];have na1:(s'.heap.update kS (Obj.mapSeq λ_=>(#[]:Array Θ))).get? a=some (seqObj "list" #[] e1):=(xM _ _ hka).trans hoa;have I5:=Ww (g:=λ_=>(#[]:Array Θ)) I' (cM.at fk Yh);have I6:=Ww (s:={ s' with heap:=s'.heap.update kS (Obj.mapSeq λ_=>(#[]:Array Θ)) }) (g:=λ_=>(VL z vs).toArray) I5 (cM.at fa ha');refine zV (jY Vx rfl ?_ (by rw[zH,qT];lia) (xU _));refine zV (wpAny_letGo ?_);refine zV (seqEpoch_at na1 rfl ?_);refine zV (jY na1 rfl ?_ (xU _) (by
    simp?[yN,qN];show (VL z vs).toArray.size<=_;rw[zH,Xb];lia))
   obtain⟨c,hc⟩:∃c,((s'.heap.update kS (Obj.mapSeq λ_=>(#[]:Array Θ))).update a (Obj.mapSeq λ_=>(VL z vs).toArray)).get? a=some (seqObj "list" (VL z vs).toArray c):=⟨_,jZ na1 λ_=>(VL z vs).toArray⟩
   simp?[bne_self_eq_false,yN,qN];exact zW (hP _ c I6 (cM.at fa ha') hc)
  unfold ksk_end
  try dsimp only
  simp?[yN,qN];by_cases h2:vs.toArray.size < 2
  ·rw[yK h2,yK h2];refine zV (zW ?_);rw[StateT.run_pure];refine zV (zW (last _ ?_ rfl));have YI:vs.length < 2:=by simpa using h2
   unfold VL;rw[yK YI];show ((us.toArray.zip vs.toArray).map (·.2))=vs.toArray;apply Array.toList_inj.mp;simp?[Array.toList_map,Array.toList_zip];exact List.map_snd_zip (by rw[hu];exact yL _)
  ·rw[yM h2,yM h2];have YI:2<=vs.length:=by
    have:¬ vs.length < 2:=by simpa using h2
    lia
   let⟨hk,VU⟩:=hz YI s' I';refine zV (yZ (hk (λκ' Xv=>κ'=κ/\Xv=s') ⟨rfl,rfl⟩) (λκ' Xv hs=>?_) λ_ _ x=>x.elim);let⟨rfl,rfl⟩:=hs;refine zV (yZ (kat_run (Q:=λVI s2=>s2=Xv/\(arrOf VI).map (·.2)=(VL z vs).toArray/\failedOf VI=none) (G:=λp s2=>s2=Xv/\p=SP.run (SP.eS z) (kas_sort vs.length))
    hu YI XO (λp VI s2 a1 a2 a3 a4=>⟨a4.1,?_,a3⟩) (SP.wp_run VU (kas_sort vs.length) (SP.Fy (by lia)) ⟨rfl,rfl⟩)) ?_ λ_ _ e=>e)
   ·rw[kat_snds hu a2,a4.2];unfold VL;rw[yM (by lia)]
   ·rintro⟨⟨⟩,VI⟩ s2 ⟨hs,h4,h5⟩;subst hs;exact last VI h4 h5
def sortedK{l:Θ}{f:Ψ}{Q:Θ->Ξ->Prop}(I:Inv X pins σ H s)(XO:vs.length < 64)
  (ad8:∀ {Q':Γ Θ->Ξ->Prop},(∀h':ι,(∀b o,s.heap.get? b=some o->h'.get? b=some o)->Q' vs { s with heap:=h' })->wpAny (model X.prog X.w) A.in1 (collect l) Q' E s)
  (J:Γ Θ->Hp->Prop) (j0:J [] H)
  (step:∀us v,vs[us.length]?=some v->∀pl s' H',Inv X (pins++pl) σ H' s'->J us H'->wpAny (model X.prog X.w) A.in1.in1 (call (.ref f) [v]) (λu Xv=>∃H'',Inv X (pins++pl) σ H'' Xv/\J (us++[u]) H'') (λ_ _=>False) s')
  (fin:∀us H',us.length=vs.length->J us H'->∃ (z:Nat->Int) (κ:SortKind),(2<=vs.length->∀s',Inv X pins σ H' s'->(∀Q':SortKind->Ξ->Prop,Q' κ s'->wpAny (model X.prog X.w) A.in1.in1 (keyKind' us.toArray) Q' (λ_ _=>False) s') /\
    ∀i j C,i < vs.length->j < vs.length->C (SP.eS z i j) s'->kas_ask X.prog X.w A.in1.in1 κ us i j C s') /\
   ∀s' D c,Inv X pins σ H' s'->cM X pins H' D->s'.heap.get? D=some (seqObj "list" (VL z vs).toArray c)->Q (.ref D) s') :
  wpAny (model X.prog X.w) A (call (.builtin "sorted") [l] [(Str.ofString "key",.ref f)]) Q E s:=by
 have X7:vs.length<=sizeLine:=by rw[qT];lia
 refine call_function_entry_kw kind_sorted plain_sorted entry_sorted (ksk_s1 _ _) ?_;unfold Builtin.«sorted»;refine zV (m:=checkCount "sorted" 1 1 _) (zW (zV (ad8 λh1 kp=>?_)));refine zV (kK ?_ (by simpa using X7));have I1:=I.kept (t':=s.toks) kp;have fD:cM X pins H h1.objs.size:=I1.Wr (yL _) (I1.Vx.fresh (yL _));have Y7:(h1.push (seqObj "list" vs.toArray 0)).get? h1.objs.size=some (seqObj "list" vs.toArray 0):=zX _ rfl;have I2:=I1.kept (t':=s.toks) (h':=h1.push (seqObj "list" vs.toArray 0)) λb o e=>zU _ e;show wpAny _ _ _ _ _ { s with heap:=h1.push (seqObj "list" vs.toArray 0) };refine zV (xW (wpAny_call_entry_kw slot_list_sort ⟨_,Y7,rfl⟩ entry_list_sort ?body (ksk_l1 _ _)))
 case body =>
  show wpAny (model X.prog X.w) A.in1.in1 (Builtin.«list.sort» ⟨[.ref h1.objs.size],[(Str.ofString "key",.ref f)]⟩) _ _ _;rw[ksk_t1];refine Xs I2 Y7 fD XO J j0 step λus H' hu j'=>?_;let⟨z,κ,hz,hP⟩:=fin us H' hu j';exact⟨z,κ,hz,λs' c I' f' e=>⟨_,rfl,zW ⟨_,rfl,hP s' _ c I' f' e⟩⟩⟩
end X6
namespace Dl
open PySem L2 PySem.Spec PyProof.Rows
def _root_.L2.Inv.abq(I:Inv X pins σ H s)(f:cM X pins H b)(ho:dO X.prog X.w (upd H b o) s.heap b o):Inv X pins σ (upd H b o) s:=by
 let⟨f0,f1,f2,f3,f4,f5⟩:=f;have up:∀c u,H c=some u->upd H b o c=some u:=λc u e=>by rw[ak (aG e f0)];exact e
 refine⟨I.ok,I.os,I.bare,⟨I.base.keep,I.base.slot,λc oc e n hx=>?_,I.base.there,λc xs e=>up c _ (I.base.WT c xs e),λc oc u e=>up c _ (I.base.WH c oc u e),⟨λc u e t=>up c u (I.base.Wx.st c u e t),I.base.Wx.gr⟩⟩,I.loc,I.cell,?_,λx c e=>?_,λp hp=>?_,λc u e=>?_,I.len⟩
 ·have Wi:c≠b:=λz=>by
   rcases f3 with g|g
   ·exact hx (z ▸ g)
   ·exact absurd (zP (zY e) (z ▸ g)) (qD _)
  rw[ak Wi];exact I.base.free c oc e n hx
 ·rw[ak (jL f1)];exact I.free
 ·rw[ak (f4 x c e)];exact I.VR x c e
 ·let⟨e,n,r⟩:=I.pin p hp;exact⟨e,by rw[ak (f5 p hp)];exact n,r⟩
 ·by_cases hc:c=b
  ·subst hc;rw[aw] at e;cases e;exact ho
  ·rw[ak hc] at e;exact (I.Vx c u e).V6 (λd w _ q=>q) (λd q=>up d _ q) λd w q _=>up d _ q
def xy(scope:ζ)(N':Γ Str)(p:Str):θ:=scope.names.all (λq=>!decide (q.2=NameKind.cell))&&decide (N'[0]?=some p)&&decide (scope.names.lookup p=some .local)&&decide (scope.isCoroutine=false)&&decide (scope.isGenerator=false)
section
def OQ(C:Bk X N sc (k+3))(hA:cJ (k+1) A)(hk:scope.kind=.function)(Am:N'.Nodup)(hl:xy scope N' p=true):Bk (jm X A qual scope N' f c s H) N' scope k where
 n:=rfl
 nd:=Am
 tb:=λx kd hx=>.inl hx
 calm:=rfl
 fn:=λx hx=>by
  unfold xy at hl;simp?[zF,xF,yO,xA] at hl;exact absurd rfl (hl.1.1.1.1 _ (mem_of_lookup hx))
 room:=hA.deeper _
 xe:=rfl
 kd:=hk
structure ug(X:Cx)(qual:Str):Prop where
 ex:∃c P,X.env.code=.ref c/\X.env.qual++"<lambda>"=qual/\W.codeHdIn X.K c P=true/\∀HF,cy X.K HF->HF P=some (.tab qual)
def l9(te:Env->Δ D)(ρ:Env):Γ D->Δ (Γ D)
 | []=>some []
 | d::ds=>(te (ρ.set 0 (some d))).bind λx=>(l9 te ρ ds).map (x::·)
def uu:∀ {ds ks:Γ D},l9 te ρ ds=some ks->ks.length=ds.length
 | [],ks,h=>by cases h;rfl
 | d'::ds,ks,h=>by
  unfold l9 at h;let⟨y,h1,h⟩:=bs h;let⟨ys,h2,rfl⟩:=ae h;simp[uu h2]
def y0:∀ {ds ks:Γ D}{i:Nat}{d:D},l9 te ρ ds=some ks->ds[i]?=some d->∃x,te (ρ.set 0 (some d))=some x/\ks[i]?=some x
 | [],ks,i,d,h,e=>by simp at e
 | d'::ds,ks,i,d,h,e=>by
  unfold l9 at h;let⟨y,h1,h⟩:=bs h;let⟨ys,h2,rfl⟩:=ae h;cases i with
  | zero=>simp at e;subst e;exact⟨y,h1,rfl⟩
  | succ i=>let⟨x,a,b⟩:=y0 h2 (by simpa using e);exact⟨x,a,by simpa using b⟩
def oP(cs:Γ Nat)(fl te:Env->Δ D):Env->Δ (Γ D):=λρ=>(fl ρ).bind λl=>match l with
 | .list ds=>(l9 te (fE 1 cs ρ) ds).bind λks=>(intsOf ks).bind λzs=>if ds.length < 64 then some (xf (λi=>zs.getD i 0) ds .none) else none
 | _=>none
def HJ{K:Φ}{cs:Γ Nat}(eo:cB K HF ρ σ)(r:Rep K HF d v):cB K HF ((fE 1 cs ρ).set 0 (some d)) ((ke 1 cs σ).set 0 (some v)):=iR (CH eo) r
def nj{K:Φ}:∀ {ks:Γ D}{zs:Γ Int}{VP:Γ V}{us:Γ Θ},intsOf ks=some zs->au K HF ks VP->aI VP us->IntsAre us zs
 | [],zs,VP,us,h,r,v=>by
  cases h;rw[r.nil_inv] at v;cases v;exact .nil
 | d::ks,zs,VP,us,h,r,v=>by
  cases d<;>simp?[intsOf] at h<;>try cases h
  rename_i i;let⟨ys,h2,rfl⟩:=ae h;let⟨w,ws,rfl,a,b⟩:=r.cons_inv;simp?[Rep] at a;subst a;cases v with
  | cons r1 r2 =>
   let⟨t,rfl⟩:=r1;exact .cons i t (nj h2 b r2)
def jc:∀ {us:Γ Θ}{zs:Γ Int}{i:Nat},IntsAre us zs->i < us.length->∃t,us.getD i Value.none=.int (zs.getD i 0) t
 | _,_,i,.nil,h=>by simp at h
 | _,_,0,.cons n t r,h=>⟨t,rfl⟩
 | _,_,i+1,.cons n t r,h=>by
  let⟨t',e⟩:=jc (i:=i) r (by simpa using h);exact⟨t',by simpa using e⟩
variable {fl te:Env->Δ D}{cs:Γ Nat}
def Bk.abr(C:Bk X N sc (k+3))(B:pW X "sorted" (.builtin "sorted"))(L:ug X qual)(ok:oO sc scope N N' 1 cs=true)(hl:xy scope N' p=true)
  (hb:∀ (cl:Γ (Str×Ψ)) (pm W9 u:Θ) (c:Ψ),bindArgs (W.kla_fn "<lambda>" qual params body scope cl pm (.ref c) W9) ⟨[u],[]⟩=pure [(p,u)]) (Z0:defaultsOf params X.env=([],[])) (h:DE X l fl)
  (hY:∀A f c s H,Bk (jm X A qual scope N' f c s H) N' scope k->DE (jm X A qual scope N' f c s H) body te)
  (WQ:starEach [l] X.env=(false,eval l X.env)::starEach [] X.env) (he:backTo pos (starEach [l] X.env)=(false,eval l X.env)::backTo pos (starEach [] X.env)) (V1:(backTo pos (starEach [l] X.env)).any (·.1)=false) :
  DF X (.Call (.Name "sorted" p0) [l] [⟨some "key",.Lambda params body scope WX,aah⟩] pos) (oP cs fl te):=by
 let⟨S,_⟩:=C.comp ok;have Am:N'.Nodup:=by
  unfold oO at ok;simp?[zF,zJ] at ok;exact ok.2
 have hl':=hl;unfold xy at hl';simp?[zF,xF,yO,xA,zJ] at hl';obtain⟨⟨⟨⟨hnc,hN0⟩,hp⟩,X5⟩,ZY⟩:=hl';let⟨cc,P,Xy,abt,hhd,fR⟩:=L.ex;intro pins s σ H Q I ⟨HF,ρ,out,sm,eo,hf,q⟩;let⟨ld,hld,hf⟩:=bs hf;cases ld<;>try cases hf
 rename_i ds;let⟨ks,hks,hf⟩:=bs hf;let⟨zs,hzs,hf⟩:=bs hf;split at hf<;>cases hf;rename_i XO;refine qX (i6 I B.gl B.mg B.bt ?_ (by decide) (by decide));refine PyProof.Rows.callWith_kw (e:=l) (rest:=[]) (kws:=[⟨some "key",.Lambda params body scope WX,aah⟩]) ?_ he V1 rfl rfl;refine bR (CC h GK WQ pos pins s σ H _ I ⟨HF,ρ,[.list ds],sm,eo,by simp[aa,ag,hld],λvs H1 Vu g1 r1=>(⟨Vu,g1,r1⟩:∃Vu,bA HF H Vu H1/\au X.K Vu [.list ds] vs)⟩) λus s1 z=>?_;let⟨vs,H1,I1,rv,Vu,g1,r1⟩:=z;let⟨v,vr,rfl,a1,b1⟩:=r1.cons_inv;rw[b1.nil_inv] at rv;let⟨u,rfl,rx⟩:=vals1 rv;simp?[Rep] at a1;let⟨la,ws,rfl,hq,rr⟩:=a1;cases rx;have hT1:H1 P=some (.tab qual):=g1.fh _ _ (fR Vu (eo.tb.mono g1.ff));show wpAny _ _ (evalAll ((do let v <- eval (.Lambda params body scope WX) X.env;standAt pos;pure v)::[])) _ _ s1;refine wpAny_evalAll_cons (zV ?_);refine HN (P:=P) I1 S abt Xy (W.codeHd_of_K I1.ok.mod.ZF hhd) hT1 I1.ok.mod.bmd Z0 λf c' pm W9 s2 H2 I2 hfo Yy ZZ s12 Y0 _=>?_;refine zV (kW (zW (wpAny_evalAll_nil ?_)));show wpAny _ _ (call (.builtin "sorted") [.ref la] [(Str.ofString "key",.ref f)]) _ _ s2;have Ip:=I2.pinned (fp:=[f]) (λb hb=>by rw[List.mem_singleton.mp hb];exact Y0) (λb hb=>by rw[List.mem_singleton.mp hb];exact⟨_,hfo,λv z=>by cases z⟩);have g2:bA Vu H1 Vu H2:=⟨s12,.refl _,g1.fh.trans s12,λ_ _ e=>.inl e⟩
 let⟨its,rvi,pl,hz⟩:=Ip.list (s12.seq (g1.fh.seq hq));have hlen:its.length=ds.length:=by rw[<- rvi.length,rr.length]
 have hkl:=uu hks;have hR:cJ (k+1) X.A.in1.in1:=C.room.in1.in1;refine X6.sortedK (vs:=its) Ip (by lia) (λ{Q'} hQ=>?_) (λus H'=>∃Vt VP,bA Vu H2 Vt H'/\au X.K Vt (ks.take us.length) VP/\aI VP us) ⟨Vu,[],.refl g2.fh,by simpa using au.nil,.nil⟩ (λus x hx pl' s3 H3 I3 ⟨VW,VP,g3,rk,rvk⟩=>?_) λus H3 hu ⟨VW,VP,g3,rk,rvk⟩=>?_
 ·refine collect_list pl.isList (hQ _ λb o e=>?_) (by rw[qT];lia);exact (xM _ _ (jH (zY e))).trans (zU _ e)
 ·have hi:us.length < its.length:=(List.getElem?_eq_some_iff.mp hx).1;obtain⟨w,hw⟩:∃w,ws[us.length]?=some w:=⟨_,zK (by rw[rvi.length];exact hi)⟩
  let⟨x',YF,ZP⟩:=rvi.get hw;rw[hx] at YF;cases YF;let⟨d,hd,rd⟩:=rr.get hw;let⟨kd,hkd,hki⟩:=y0 hks hd;have aec:s3.heap.get? f=some (W.kla_obj "<lambda>" qual params body scope (fg X.env scope.names []) pm c' W9) :=
   (I3.pin (f,_) (yE _ (qH _ (yE _ (eJ zE hfo))))).1
  refine yZ (HV (Q:=λv H4=>∃WK,bA VW H3 WK H4/\Rep X.K WK kd v) (te:=tD X.K te) I3 hR I3.ok.frames S hnc hN0 hp Am X5 ZY aec (g3.hh _ _ ZZ) (hb _ _ _ _ _) ZP (hY _ _ _ _ _ (OQ C hR S.kind Am hl))
   ⟨VW,_,kd,g3.fh,HJ (eo.mono (g1.ff.trans g3.ff)) (rd.mono g3.ff),hkd,λv H4 WK g4 r4=>⟨WK,g4,r4⟩⟩) (λu s4 ⟨v4,H4,I4,r4,WK,g4,rp⟩=>⟨H4,I4,WK,VP++[v4],g3.trans g4,?_,rvk.append (.cons r4 .nil)⟩) λ_ _ e=>e
  rw[zN,xB,List.take_add_one,hki];exact (rk.mono g4.ff).append (au.cons rp au.nil)
 ·have Yh:ks.take us.length=ks:=kE (by lia);rw[Yh] at rk;have ia:=nj hzs rk rvk;refine⟨λi=>zs.getD i 0,oneType',λh2 s3 I3=>⟨λQ' q'=>?_,λi j Cc hi hj q'=>?_⟩,λs3 Dn c I3 fD e=>?_⟩
  ·rw[PyProof.Rows.ksk_kind (keys:=us.toArray) (kz:=zs) (by simpa using ia) (by simpa [hu] using h2)];exact zW q'
  ·let⟨t1,e1⟩:=jc ia (i:=i) (by lia);let⟨t2,e2⟩:=jc ia (i:=j) (by lia);unfold W.kas_ask;rw[e1,e2];exact W.kat_lt_int q'
  ·have hv:=xo (λi=>zs.getD i 0) rvi;have hr:=zk (λi=>zs.getD i 0) rr;have hnD:H3 Dn=none:=fD.1;have I4:=Inv.abq (o:=.lst (xf (λi=>zs.getD i 0) ws .Vs)) I3 fD ⟨by rw[(mR _ _ _).length_eq];exact hz,_,c,hv,e⟩;have G:=(g1.trans g2).trans g3;refine⟨.ref Dn,_,I4.VS,rfl,q Dn _ _ VW (G.trans (.own G.fh hnD)) (G.hh.free hnD) (G.fh.free hnD) aw (hr.mono g3.ff)⟩
end
end Dl
namespace X6
open PySem PySem.W PySem.Calls PyProof.Rows L2
end X6
namespace Dl
open PySem L2 PySem.Spec PyProof.Rows
section
variable {cs:Γ Nat}
end
def T1(i j l:Nat):Env->D->Δ Env:=λρ d=>match d with
 | .tuple [x,y,z]=>if isFree ρ i=true/\isFree ρ j=true/\isFree ρ l=true then some (((ρ.set i (some x)).set j (some y)).set l (some z)) else none
 | _=>none
def Hj(i j l:Nat)(hc:X.calm=true)(hN:X.N.Nodup)(hi:X.N[i]?=some x)(hx:Loc X.env.scope x)(hj:X.N[j]?=some y)(hy:Loc X.env.scope y)(hl:X.N[l]?=some z)(hz:Loc X.env.scope z)
  (hf:X.fn x=true\/X.env.scope.names.lookup x=some .local) (YD:X.fn y=true\/X.env.scope.names.lookup y=some .local) (aee:X.fn z=true\/X.env.scope.names.lookup z=some .local) :
  DG X (.Tuple [.Name x px,.Name y py,.Name z pz] k pos) (T1 i j l) :=
 rF (wz hc (dh (dv hN hi hx hf) (dh (dv hN hj hy YD) (dh (dv hN hl hz aee) p8)))) λv σ H Q z=>by
  let⟨HF,ρ,d,ρ',sm,eo,r,hf,q⟩:=z;unfold T1 at hf;split at hf
  ·rename_i x' y' z';split at hf
   ·rename_i hh;cases hf;simp?[Rep] at r;let⟨a,vs,rfl,hs,rr⟩:=r;let⟨v1,r1,rfl,a1,b1⟩:=rr.cons_inv;let⟨v2,r2,rfl,a2,b2⟩:=b1.cons_inv;let⟨v3,r3,rfl,a3,b3⟩:=b2.cons_inv;rw[b3.nil_inv] at hs;exact⟨a,_,rfl,aE sm hs,rfl,v1,_,rfl,v2,_,rfl,v3,_,rfl,rfl,q _ (iR (iR (iR eo a1) a2) a3) (lS (lS (lS eo hh.1) hh.2.1) hh.2.2)⟩
   ·cases hf
  ·cases hf
def R9(x y:D):Δ θ:=match y with
 | .tuple ds=>if SeqAt.shaped x=true/\SeqAt.shaped y=true then some (!ds.any λz=>PyData.eqv z x) else none
 | .list ds=>if SeqAt.shaped x=true/\SeqAt.shaped y=true then some (!ds.any λz=>PyData.eqv z x) else none
 | _=>none
def Ft(hu:X.A.units+66 < cLine):gH X (compareOp .NotIn) (So X.K R9):=by
 intro pins s σ H v1 v2 u1 u2 Q I rx ry h;let⟨HF,x,y,k,sm,r1,r2,hg,q⟩:=h;let⟨as,ra⟩:=gq I sm r1 rx;let⟨bs,rb⟩:=gq I sm r2 ry;cases y<;>simp?[R9] at hg<;>try cases hg
 all_goals
  split at hg<;>cases hg;rename_i ds hh;have c1:=SeqAt.canLay_of_shaped hh.1;have c2:=SeqAt.canLay_of_shaped hh.2;have d1:=SeqAt.depth_of_shaped hh.1;simp?[PyData.canLay0] at c2;have m:=Nat.min_le_right (PyData.depthAll ds) x.depth
  first
   | exact SeqAt.notIn_list_reads rb ra c2 c1 (by lia) ⟨.bl _,H,I,rfl,q⟩
   | exact SeqAt.notIn_tuple_reads rb ra c2 c1 (by lia) ⟨.bl _,H,I,rfl,q⟩
def zl:D->D->Δ D:=λx y=>(R9 x y).map PyData.bool
def Bk.abv(C:Bk X N sc k)(ha:DE X a fa)(hb:DE X b fb)(hm:behindInMarks .NotIn b=false:=by rfl):DE X (.Compare a [.NotIn] [b] pos) (f2 zl fa fb):=kn (Ft C.u66) lq ha hb hm
def Bk.aef(C:Bk X N sc k)(ha:DE X a fa)(hb:DE X b fb)(hm:behindInMarks .NotIn b=false:=by rfl):DT X (.Compare a [.NotIn] [b] pos) (fB (f2 zl fa fb)):=jz (Ft C.u66) lq ha hb hm
structure Ul(h:Heap)(v:Value)(r:List Int):Prop where
 ex:∃ (a:Ψ) (o:Obj) (n:Nat) (p:Θ) (x y m:Int) (t:Tok),v=.ref a/\r=[x,y,m]/\h.get? a=some o/\o.cls=.type "tuple"/\o.data=.seq #[p,.int m t] n/\vc h p [x,y]
end Dl
namespace HT
open PySem PyProof.Rows
section
open PySem.SeqAt
open PySem.AutoSeq1 (wpAny_loadPart')
open PySem.MeetsSeq PySem.MeetsSeq2 PySem.MeetsSeq3
end
end HT
namespace Dl
open PySem L2 PySem.Spec PyProof.Rows
def jf:Γ D->Δ (Γ (Γ Int))
 | []=>some []
 | d::r=>(lN d).bind λns=>(jf r).map (ns::·)
section
variable {fl te:Env->Δ D}{cs:Γ Nat}
end
def C8:γ->θ
 | .Call ..=>true
 | .Subscript ..=>true
 | .Name ..=>true
 | _=>false
def oX(i j l:Nat)(fz:Γ Nat)(f:Env->Δ D):ao->Δ Out:=λρ=>(f (bp (hand fz 0 ρ))).bind λd=>match d with
 | .tuple [x,y,z]=>some (.nx ((((if gJ (.tuple [x,y,z])=true then ρ else hand fz 0 ρ).set i (.val x)).set j (.val y)).set l (.val z)))
 | _=>none
def FI(i j l:Nat)(fz:Γ Nat)(hc:X.calm=true)(hN:X.N.Nodup)(hi:X.N[i]?=some x)(hx:Loc X.env.scope x)(hj:X.N[j]?=some y)(hy:Loc X.env.scope y)(hl:X.N[l]?=some z)(hz:Loc X.env.scope z)(hp:C8 e=true)(he:DE X e f)
  (h1:X.fn x=true\/X.env.scope.names.lookup x=some .local) (h2:X.fn y=true\/X.env.scope.names.lookup y=some .local) (h3:X.fn z=true\/X.env.scope.names.lookup z=some .local):DS X Vr H₀ (.Assign [.Tuple [.Name x px,.Name y py,.Name z pz] m pt] e pos) (oX i j l fz f) :=
 aW (AR he (wz hc (dh (dv hN hi hx h1) (dh (dv hN hj hy h2) (dh (dv hN hl hz h3) p8)))) (by cases e<;>first|rfl|cases hp) (by cases e<;>first|rfl|cases hp)) λE σ H z=>by
  sleep 12;unfold oX at hg;let⟨d,h,hg⟩:=bs hg;split at hg
  ·rename_i u v t;cases hg;let⟨Vu,s1,S1⟩:=S.hand fz;refine⟨Vu,_,.tuple [u,v,t],S1.gr.fh,S1.V5,h,λw H' Vt G r=>?_⟩;simp?[Rep] at r;let⟨a,vs,rfl,hs,rr⟩:=r;let⟨v1,r1,rfl,a1,b1⟩:=rr.cons_inv;let⟨v2,r2,rfl,a2,b2⟩:=b1.cons_inv;let⟨v3,r3,rfl,a3,b3⟩:=b2.cons_inv;rw[b3.nil_inv] at hs;refine⟨a,_,rfl,aE G.fh hs,rfl,v1,_,rfl,v2,_,rfl,v3,_,rfl,rfl,?_⟩;by_cases hn:gJ (.tuple [u,v,t])=true
   ·rw[yK hn] at q;let⟨VG,s2,S2,hb,_⟩:=S.back S1 s1 G;simp?[gJ,ox,zF,Bool.and_true] at hn;exact q _ H' VG (((S2.Wc (hb u v1 hn.1 a1)).Wc (hb v v2 hn.2.1 a2)).Wc (hb t v3 hn.2.2 a3)) s2
   ·rw[yM hn] at q;exact q _ H' Vt ((((S1.grow G).Wc a1).Wc a2).Wc a3) (s1.trans G.ff)
  ·cases hg
end Dl
namespace HT
open PySem PyProof.Rows
section
open PySem.SeqAt
open PySem.AutoSeq1 (wpAny_loadPart')
open PySem.MeetsSeq PySem.MeetsSeq2 PySem.MeetsSeq3
end
end HT
namespace Dl
open PySem L2 PySem.Spec PyProof.Rows
structure Vo(h:Heap)(v:Value)(r:List Int):Prop where
 ex:∃ (a:Ψ) (o:Obj) (n:Nat) (p:Θ) (x y:Int) (t u:Tok) (ns:Γ Int),v=.ref a/\r=x::y::ns/\h.get? a=some o/\o.cls=.type "tuple"/\o.data=.seq #[.int x t,.int y u,p] n/\vc h p ns
inductive Tp{α:Type}(X:Cx)(R:Addr->α->Prop):List Expr->List α->List V->Prop
 | nil:Tp X R [] [] []
 | cons {x:Str}{p:Pos}{m:α}{f:Ψ}{es:Γ γ}{ms:Γ α}{vs:Γ V}(hg:Gl X x) (hm:X.mg x=some (.ref f)) (hd:(x == ("__debug__":Str))=false) (r:R f m) (t:Tp X R es ms vs):Tp X R (.Name x p::es) (m::ms) (.ref f::vs)
end Dl
namespace Rf
open PySem L2 Dl PySem.Spec PyProof.Rows
variable {env:PySem.Env}
def fQ{c:Prop}[Decidable c]{f:c->Δ α}(h:(if q:c then f q else none)=some z):c:=by
 by_cases q:c
 ·exact q
 ·rw[dif_neg q] at h;cases h
def ax{c:Prop}[Decidable c]{a:Δ α}(h:(if c then a else none)=some z):c/\a=some z:=by
 by_cases q:c
 ·rw[yK q] at h;exact⟨q,h⟩
 ·rw[yM q] at h;cases h
def cI{c:Prop}[Decidable c]{a b:Δ α}(h:(if c then a else b)=some z):(c/\a=some z)\/(¬ c/\b=some z):=by
 by_cases q:c
 ·rw[yK q] at h;exact .inl ⟨q,h⟩
 ·rw[yM q] at h;exact .inr ⟨q,h⟩
def bC{o:Δ α}{a:Δ β}{f:α->Δ β}(h:o.elim a f=some g):(o=none/\a=some g)\/∃z,o=some z/\f z=some g:=by
 cases o with
 | none=>exact .inl ⟨rfl,h⟩
 | some z=>exact .inr ⟨z,rfl,h⟩
def dN(e:γ):Δ (Str×Pos):=if h:e.ctorIdx=23 then Expr.Name.elim e h λx p=>some (x,p) else none
def dc{e:γ}(h:dN e=some z):e=.Name z.1 z.2:=Expr.Name.elim (motive_1:=λe=>dN e=some z->e=.Name z.1 z.2) e (fQ h) (λa b h=>by cases h;rfl) h
def dA(e:γ):Δ (γ×Str×Pos):=if h:e.ctorIdx=20 then Expr.Attribute.elim e h λx y p=>some (x,y,p) else none
def GO{e:γ}(h:dA e=some z):e=.Attribute z.1 z.2.1 z.2.2:=Expr.Attribute.elim (motive_1:=λe=>dA e=some z->e=.Attribute z.1 z.2.1 z.2.2) e (fQ h) (λa b d h=>by cases h;rfl) h
def dC(e:γ):Δ (γ×Γ γ×Γ Keyword×Pos):=if h:e.ctorIdx=16 then Expr.Call.elim e h λx y u p=>some (x,y,u,p) else none
def BL{e:γ}(h:dC e=some z):e=.Call z.1 z.2.1 z.2.2.1 z.2.2.2:=Expr.Call.elim (motive_1:=λe=>dC e=some z->e=.Call z.1 z.2.1 z.2.2.1 z.2.2.2) e (fQ h) (λa b d f h=>by cases h;rfl) h
def dT(e:γ):Δ (Γ γ×Nat×Pos):=if h:e.ctorIdx=25 then Expr.Tuple.elim e h λx y p=>some (x,y,p) else none
def zm{e:γ}(h:dT e=some z):e=.Tuple z.1 z.2.1 z.2.2:=Expr.Tuple.elim (motive_1:=λe=>dT e=some z->e=.Tuple z.1 z.2.1 z.2.2) e (fQ h) (λa b d h=>by cases h;rfl) h
def l1:Γ α->Δ α
 | [a]=>some a
 | _=>none
def l2:Γ α->Δ (α×α)
 | [a,b]=>some (a,b)
 | _=>none
def bY{l:Γ α}(h:l1 l=some a):l=[a]:=by
 rcases l with _|⟨b,_|_⟩<;>cases h;rfl
def pJ{l:Γ α}(h:l2 l=some a):l=[a.1,a.2]:=by
 rcases l with _|⟨b,_|⟨d,_|_⟩⟩<;>cases h;rfl
def FJ(e:γ):Δ ((γ×Str×Pos)×Str×Pos):=(dA e).bind λy=>(dN y.1).map λz=>(y,z)
def gY{e:γ}(h:FJ e=some z):e=.Attribute (.Name z.2.1 z.2.2) z.1.2.1 z.1.2.2:=by
 let⟨y,h1,h⟩:=bs h;let⟨w,h2,rfl⟩:=ae h;rw[GO h1,dc h2]
def Mm(e:γ):Δ ((γ×Γ γ×Γ Keyword×Pos)×Str×Pos):=(dC e).bind λy=>if y.2.2.1.isEmpty=true then (dN y.1).map λz=>(y,z) else none
def iY{e:γ}(h:Mm e=some z):e=.Call (.Name z.2.1 z.2.2) z.1.2.1 [] z.1.2.2.2:=by
 let⟨y,h1,h⟩:=bs h;let⟨h3,h⟩:=ax h;let⟨w,h2,rfl⟩:=ae h;rw[BL h1,dc h2,List.isEmpty_iff.mp h3]
structure Tr where
 e:γ->Δ (Dl.Env->Δ D)
 f:γ->Δ (Dl.Env->Δ (Γ D))
 t:γ->Δ (Dl.Env->Δ θ)
structure Sg where
 fn:Γ (Str×Nat×(Γ D->Δ D))
 int:Γ (Str×Int)
abbrev FE:=Dl.Env->Δ D
def A5(G:Sg)(sc:ζ)(N:Γ Str)(x:Str):Δ FE:=match N.idxOf? x with
 | some i=>if lT N sc i x=true then some (ab i) else none
 | none=>if (Ad sc x&&!(x == ("__debug__":Str)))=true then (G.int.lookup x).map λn=>fC (.int n) else none
def CF:Const->Δ FE
 | .int i=>some (fC (.int i))
 | .bool b=>some (fC (.bool b))
 | .none=>some (fC .none)
 | .str x=>some (fC (.str x))
 | _=>none
def Rg(T:Tr)(op:UnaryOp)(a:γ):Δ FE:=match op with
 | .USub=>(T.e a).map (f1 ME)
 | _=>none
def TQ:Operator->Δ (D->D->Δ D)
 | .Add=>some aH
 | .Sub=>some Dl.fx
 | .Mult=>some dX
 | .FloorDiv=>some mX
 | .Mod=>some lW
 | _=>none
def QY(e:γ):θ:=e.ctorIdx == 24||e.ctorIdx == 8||(((dC e).bind λy=>dN y.1).any λz=>z.1 == ("sorted":Str)||z.1 == ("list":Str))
def LO(T:Tr)(a:γ)(op:Operator)(b:γ):Δ FE:=(TQ op).bind λg=>(T.e a).bind λx=>(T.e b).map λy=>f2 g x y
def v7(T:Tr):Γ γ->Δ FE
 | []=>none
 | [a]=>T.e a
 | a::b::r=>(T.e a).bind λx=>(v7 T (b::r)).map λy=>lV x y
def Q3:CmpOp->Δ (D->D->Δ D)
 | .Lt=>some FD
 | .LtE=>some Dj
 | .Gt=>some A4
 | .GtE=>none
 | .Eq=>some bu
 | .NotEq=>some e9
 | .In=>none
 | .NotIn=>some zl
 | .Is=>some wt
 | .IsNot=>some qk
def SN:CmpOp->Δ (D->D->Δ D)
 | .Lt=>some FD
 | .LtE=>some Dj
 | _=>none
def GW(T:Tr)(a:γ)(ops:Γ CmpOp)(cs:Γ γ):Δ FE:=(l1 ops).elim
 ((l2 ops).bind λo=>(l2 cs).bind λb=>if lastMarks [o.1,o.2] [b.1,b.2]=false then (SN o.1).bind λg=>(SN o.2).bind λg'=>(T.e a).bind λx=>(T.e b.1).bind λy=>(T.e b.2).map λz=>kj g g' x y z else none) λop =>
 (l1 cs).bind λb=>if behindInMarks op b=false then (Q3 op).bind λg=>(T.e a).bind λx=>(T.e b).map λy=>f2 g x y else none
def An(T:Tr):Γ γ->Δ (Dl.Env->Δ (Γ D))
 | []=>some ag
 | e::es=>if isStar e=false then (T.e e).bind λx=>(An T es).map λr=>aa x r else none
def T5(T:Tr):Δ γ->Δ (Dl.Env->Δ (Δ Int))
 | none=>some oF
 | some e=>(T.e e).map DY
def HY(e:γ):θ:=e.ctorIdx == 26||e.ctorIdx == 25||e.ctorIdx == 22
def SI(e:γ):Δ (Δ γ×Δ γ×Δ γ×Pos):=if h:e.ctorIdx=26 then Expr.Slice.elim e h λx y u p=>some (x,y,u,p) else none
def Nx{e:γ}(h:SI e=some z):e=.Slice z.1 z.2.1 z.2.2.1 z.2.2.2:=Expr.Slice.elim (motive_1:=λe=>SI e=some z->e=.Slice z.1 z.2.1 z.2.2.1 z.2.2.2) e (fQ h) (λa b d f h=>by cases h;rfl) h
def Mo(T:Tr)(a b:γ):Δ FE:=(SI b).elim (if HY b=false then (T.e a).bind λx=>(T.e b).map λy=>f2 aL x y else none) λz=>if z.2.2.1.isNone=true then (T.e a).bind λx=>(T5 T z.1).bind λl=>(T5 T z.2.1).map λh=>oH ij x l h else none
def Ik:Γ D->Δ D:=λds=>(oneOf ds).bind λd=>match d with
 | .list es=>(boolsOf es).map λbs=>.bool (bs.any id)
 | _=>none
def ur(e:γ):Δ γ:=(Mm e).bind λz=>if z.2.1="set" then l1 z.1.2.1 else none
def Qv(x:Str):Δ String:=if x="int" then some "int" else if x="bool" then some "bool" else if x="tuple" then some "tuple" else if x="list" then some "list" else none
def Ga(G:Sg)(sc:ζ)(T:Tr)(whole:γ)(x:Str)(args:Γ γ):Δ FE :=
 if (Ad sc x&&args.all λe=>!isStar e)=true then
  (G.fn.lookup x).elim (
   if x="len" then (l1 args).bind λe=>(ur e).elim ((An T args).map λfs=>cq cf fs) λe'=>if (Ad sc "set"&&!isStar e')=true then (T.e e').map λy=>f1 lI y else none
   else if x="isinstance" then (l2 args).bind λa=>(dN a.2).bind λy=>if Ad sc y.1=true then (Qv y.1).bind λty=>(T.e a.1).map λz=>Me ty z else none
   else if x="tuple" then (if args.length=1 then (An T args).map λfs=>cq fJ fs else none)
   else if x="all" then (if args.length=1 then (An T args).map λfs=>cq nr fs else none)
   else if x="any" then (if args.length=1 then (An T args).map λfs=>cq Ik fs else none)
   else if x="sum" then (if args.length=1 then (An T args).map λfs=>cq sU fs else none)
   else if x="min" then (if args.isEmpty=true then none else (An T args).map λfs=>cq OM fs)
   else if (x == ("list":Str)||x == ("sorted":Str))=true then (T.f whole).map da
   else none) λz=>if (args.isEmpty||x == ("__debug__":Str))=true then none else (An T args).map λfs=>ai z.1 z.2 fs
 else none
def C0(e:γ):θ:=e.ctorIdx == 16
def GR(T:Tr)(o:γ)(m:Str)(apos:Pos)(args:Γ γ)(Vv:Pos):Δ FE :=
 if (m == ("index":Str)&&apos.endLine == Vv.line&&!C0 o)=true then (l1 args).bind λe=>if isStar e=false then (T.e o).bind λx=>(T.e e).map λy=>f2 mF x y else none
 else none
def R1(G:Sg)(sc:ζ)(T:Tr)(whole f:γ)(args:Γ γ)(ks:Γ Keyword)(p:Pos):Δ FE :=
 (dN f).elim (if ks.isEmpty=true then (dA f).bind λy=>GR T y.1 y.2.1 y.2.2 args p else none) λz=>if ks.isEmpty=true then Ga G sc T whole z.1 args else (T.f whole).map da
def LY(G:Sg)(sc:ζ)(N:Γ Str)(T:Tr)(whole:γ):Δ FE:=match whole with
 | .Name x _=>A5 G sc N x
 | .Constant c _ _=>CF c
 | .UnaryOp op a _=>Rg T op a
 | .BinOp a op b _=>LO T a op b
 | .BoolOp .And es _=>v7 T es
 | .Compare a ops cs _=>GW T a ops cs
 | .IfExp c a b _=>(T.t c).bind λz=>(T.e a).bind λx=>(T.e b).map λy=>IZ z x y
 | .Tuple es _ _=>(An T es).map aR
 | .Subscript a b _=>Mo T a b
 | .List ..=>(T.f whole).map da
 | .ListComp ..=>(T.f whole).map da
 | .Call f args ks p=>R1 G sc T whole f args ks p
 | _=>none
def R7(T:Tr)(op:BoolOp):Γ γ->Δ (Dl.Env->Δ θ)
 | []=>none
 | [a]=>T.t a
 | a::b::r=>(T.t a).bind λx=>(R7 T op (b::r)).map λy=>match op with|.And=>fy x y|.Or=>Au x y
def stepT(T:Tr)(whole:γ):Δ (Dl.Env->Δ θ):=match whole with
 | .Compare a ops cs _=>(GW T a ops cs).map fB
 | .UnaryOp .Not a _=>(T.t a).map cL
 | .BoolOp op es _=>R7 T op es
 | .Name ..=>(T.e whole).map fB
 | .Call ..=>(T.e whole).map fB
 | .Subscript ..=>(T.e whole).map fB
 | _=>none
def Be(e:γ):θ:=e.ctorIdx == 25
def Si(sc:ζ)(T:Tr)(tg iter:γ):Δ (Dl.Env->Δ (Γ D)):=if iter.ctorIdx=7 then none else (Mm iter).elim ((T.e iter).map cH) λz =>
 if z.2.1="range" then (l1 z.1.2.1).bind λe=>if (Ad sc "range"&&!isStar e)=true then (An T [e]).map bL else none
 else if z.2.1="enumerate" then (l1 z.1.2.1).bind λe=>if (Ad sc "enumerate"&&!isStar e&&Be tg)=true then (An T [e]).map bI else none
 else if z.2.1="zip" then (l2 z.1.2.1).bind λe=>if (Ad sc "zip"&&!isStar e.1&&!isStar e.2&&Be tg)=true then (An T [e.1,e.2]).map gz else none
 else (T.e iter).map cH
def Kk:Γ γ->Δ (Γ Str)
 | []=>some []
 | e::es=>(dN e).bind λz=>(Kk es).map λr=>z.1::r
def Uo(e:γ):Δ (Γ Str):=(dN e).elim ((dT e).bind λz=>if z.1.length=2\/z.1.length=3 then Kk z.1 else none) λz=>some [z.1]
def y9(N:Γ Str)(scope:ζ):Γ Nat:=(List.range N.length).filter λj=>match N[j]? with|some x=>decide (scope.names.lookup x=some .free)|none=>false
def Ql(B:Tr)(ifs:Γ γ):Δ (Dl.Env->Δ θ):=if ifs.isEmpty=true then some λ_=>some true else (l1 ifs).bind B.t
def O3(N:Γ Str)(scope:ζ)(xs:Γ Str):Γ Str:=xs++(y9 N scope).filterMap λj=>N[j]?
def Ia(sc:ζ)(N:Γ Str)(T:Tr)(Zh:ζ->Γ Str->Tr)(elt:γ)(gens:Γ Comprehension)(scope:ζ):Δ (Dl.Env->Δ (Γ D)):=(l1 gens).bind λc =>
  if c.is_async=0 then (Uo c.target).bind λxs =>
   if (oO sc scope N (O3 N scope xs) xs.length (y9 N scope)&&(List.range xs.length).all λi=>lU (O3 N scope xs) scope i (xs.getD i ""))=true then
    (Si sc T c.target c.iter).bind λfi=>(Ql (Zh scope (O3 N scope xs)) c.ifs).bind λtt =>
     ((Zh scope (O3 N scope xs)).e elt).map λte=>ay xs.length (y9 N scope) fi (if xs.length=1 then fG 0 else if xs.length=2 then jd 0 1 else T1 0 1 2) tt te
   else none
  else none
def Mc(a:Arguments):Δ Str:=(l1 a.args).bind λx=>if ((a.posonlyargs.isEmpty&&a.vararg.isNone&&a.kwonlyargs.isEmpty&&a.kw_defaults.isEmpty&&a.kwarg.isNone&&a.defaults.isEmpty&&x.annotation.isNone)&&(x.arg == ("number":Str)||x.arg == ("plan":Str)))=true then some x.arg else none
def Ti(e:γ):Δ (Arguments×γ×ζ×Pos):=if h:e.ctorIdx=4 then Expr.Lambda.elim e h λx y u p=>some (x,y,u,p) else none
def OY{e:γ}(h:Ti e=some z):e=.Lambda z.1 z.2.1 z.2.2.1 z.2.2.2:=Expr.Lambda.elim (motive_1:=λe=>Ti e=some z->e=.Lambda z.1 z.2.1 z.2.2.1 z.2.2.2) e (fQ h) (λa b d f h=>by cases h;rfl) h
def BR(lam:Δ Str)(sc:ζ)(N:Γ Str)(T:Tr)(XY:ζ->Γ Str->Tr)(l:γ)(w:Arguments×γ×ζ×Pos):Δ (Dl.Env->Δ (Γ D)) :=
 if (lam.isSome&&Ad sc "sorted"&&!isStar l)=true then
  (Mc w.1).bind λp =>
   if (oO sc w.2.2.1 N (O3 N w.2.2.1 [p]) 1 (y9 N w.2.2.1)&&xy w.2.2.1 (O3 N w.2.2.1 [p]) p)=true then
    (T.e l).bind λfl=>((XY w.2.2.1 (O3 N w.2.2.1 [p])).e w.2.1).map λte=>oP (y9 N w.2.2.1) fl te
   else none
 else none
def QD(lam:Δ Str)(sc:ζ)(N:Γ Str)(T:Tr)(XY:ζ->Γ Str->Tr)(f:γ)(args:Γ γ)(ks:Γ Keyword):Δ (Dl.Env->Δ (Γ D)):=(dN f).bind λz=>(l1 args).bind λl =>
 if z.1="sorted" then (if ks.isEmpty=true then (if (Ad sc "sorted"&&!isStar l)=true then (An T [l]).map λfs=>tq gM fs else none)
 else (l1 ks).bind λk=>(Ti k.value).bind λw=>if k.arg=some "key" then BR lam sc N T XY l w else none) else none
def L7(lam:Δ Str)(sc:ζ)(N:Γ Str)(T:Tr)(Zh XY:ζ->Γ Str->Tr)(whole:γ):Δ (Dl.Env->Δ (Γ D)):=match whole with
 | .List es _=>(An T es).map gZ
 | .ListComp elt gens scope _=>Ia sc N T Zh elt gens scope
 | .Call f args ks _=>QD lam sc N T XY f args ks
 | _=>none
def tr(G:Sg):Nat->Δ Str->ζ->Γ Str->Tr
 | 0,_,_,_=>⟨λ_=>none,λ_=>none,λ_=>none⟩
 | n+1,lam,sc,N=>⟨LY G sc N (tr G n lam sc N),L7 lam sc N (tr G n lam sc N) (tr G n none) (tr G n none),stepT (tr G n lam sc N)⟩
structure Ao(G:Sg)(X:Cx)(j:Nat):Prop where
 fn:∀x n m,G.fn.lookup x=some (n,m)->EW X.prog X.w X.K X.mg X.base j x n m
 int:∀x i,G.int.lookup x=some i->∃t,X.mg x=some (.int i t)
 bn:Bn X
structure uS(X:Cx)(tg iter:Expr)(ifs:List Expr)(elt:Expr)(scope:Scope)(f:Dl.Env->Option (List D)):Prop where
 ex:∃ (N':Γ Str) (t:Nat) (cs:Γ Nat) (fi:Dl.Env->Δ (Γ D)) (tgt:Dl.Env->D->Δ Dl.Env) (tt:Dl.Env->Δ θ) (te:FE),f=ay t cs fi tgt tt te/\iP X scope N' (ke t cs)/\DI X tg iter fi/\(∀x,foldedSetIterable iter X.env x=pure x) /\
  ∀fp s H,DG (aY X scope N' fp s H) tg tgt/\Rk (aY X scope N' fp s H) ifs tt/\DE (aY X scope N' fp s H) elt te
structure bD(X:Cx)(T:Tr):Prop where
 c:∀elt gens scope p f,T.f (.ListComp elt gens scope p)=some f->∃tg iter ifs,gens=[⟨tg,iter,ifs,0⟩]/\uS X tg iter ifs elt scope f
 e:∀e f,T.e e=some f->DE X e f
 f:∀e f,T.f e=some f->DF X e f
 t:∀e f,T.t e=some f->DT X e f
section
variable {G:Sg}{X:Cx}{N:Γ Str}{sc:ζ}{k j:Nat}{T:Tr}{pos p:Pos}
def Ez(C:Bk X N sc k)(g:Ao G X j)(h:A5 G sc N x=some f):DE X (.Name x pos) f:=by
 unfold A5 at h;split at h
 ·split at h
  ·cases h;exact C.v _ ‹_›
  ·cases h
 ·split at h
  ·rename_i hg;let⟨n,hn,rfl⟩:=ae h;let⟨t,ht⟩:=g.int x n hn;simp?[zF,yO] at hg;exact K8 (C.gl hg.1) ht hg.2
  ·cases h
def A3(h:CF c=some f):DE X (.Constant c i pos) f:=by
 cases c<;>cases h<;>first|exact M8|exact Rc|exact MH|exact O8
def IM(C:Bk X N sc k)(O:bD X T)(h:Rg T op a=some f):DE X (.UnaryOp op a pos) f:=by
 cases op<;>try cases h
 ·let⟨x,hx,rfl⟩:=ae h;exact C.neg (O.e _ _ hx)
def Ha(C:Bk X N sc k)(O:bD X T)(h:LO T a op b=some f):DE X (.BinOp a op b pos) f:=by
 let⟨g,hg,h⟩:=bs h;sleep 15;sleep 21;cases op<;>cases hg
 ·exact C.add (O.e _ _ hx) (O.e _ _ hy)
 ·exact C.sub (O.e _ _ hx) (O.e _ _ hy)
 ·exact C.mul (O.e _ _ hx) (O.e _ _ hy)
 ·exact C.mod (O.e _ _ hx) (O.e _ _ hy)
 ·exact C.div (O.e _ _ hx) (O.e _ _ hy)
def ui(O:bD X T):∀ {es:Γ γ}{f:FE},v7 T es=some f->DE X (.BoolOp .And es pos) f
 | [],f,h=>by cases h
 | [a],f,h=>MC (O.e _ _ h)
 | a::b::r,f,h=>by
  unfold v7 at h;sleep 15;sleep 21;exact OI (O.e _ _ hx) (ui O hy)
def MX(C:Bk X N sc k)(hg:Q3 op=some g)(hm:behindInMarks op b=false)(ha:DE X a x)(hb:DE X b y):DE X (.Compare a [op] [b] pos) (f2 g x y)/\DT X (.Compare a [op] [b] pos) (fB (f2 g x y)):=by
 cases op<;>cases hg
 ·exact⟨C.eq ha hb,C.teq ha hb⟩
 ·exact⟨C.ne ha hb,C.tne ha hb⟩
 ·exact⟨C.lt ha hb,C.tlt ha hb⟩
 ·exact⟨C.le ha hb,C.tle ha hb⟩
 ·exact⟨C.gt ha hb,C.tgt ha hb⟩
 ·exact⟨C.is0 ha hb,C.adT ha hb⟩
 ·exact⟨C.adS ha hb,C.abg ha hb⟩
 ·exact⟨C.abv ha hb hm,C.aef ha hb hm⟩
def Ms(h:SN op=some g):∃r,gH X (compareOp op) r/\eA X.K r g:=by
 cases op<;>cases h
 ·exact⟨_,HC,kr⟩
 ·exact⟨_,E3,kr⟩
def yw(C:Bk X N sc k)(O:bD X T){cs:Γ γ}(h:GW T a ops cs=some f):DE X (.Compare a ops cs pos) f/\DT X (.Compare a ops cs pos) (fB f):=by
 rcases bC h with ⟨_,h⟩|⟨op,ho,h⟩
 ·let⟨o,ho,h⟩:=bs h;let⟨b,hb,h⟩:=bs h;obtain rfl:=pJ ho;obtain rfl:=pJ hb;let⟨hm,h⟩:=ax h;let⟨g,hg,h⟩:=bs h;let⟨g',hg',h⟩:=bs h;sleep 15;let⟨y,hy,h⟩:=bs h;let⟨z,hz,rfl⟩:=ae h;let⟨r,r1,r2⟩:=Ms (X:=X) hg;let⟨r',r1',r2'⟩:=Ms (X:=X) hg';exact⟨Ie r1 r2 r1' r2' (O.e _ _ hx) (O.e _ _ hy) (O.e _ _ hz) hm,FA r1 r2 r1' r2' (O.e _ _ hx) (O.e _ _ hy) (O.e _ _ hz) hm⟩
 ·let⟨b,hb,h⟩:=bs h;obtain rfl:=bY ho;obtain rfl:=bY hb;let⟨hm,h⟩:=ax h;let⟨g,hg,h⟩:=bs h;sleep 15;sleep 21;exact MX C hg hm (O.e _ _ hx) (O.e _ _ hy)
def cZ(O:bD X T):∀ {es:Γ γ}{fs:Dl.Env->Δ (Γ D)},An T es=some fs->DA X es fs
 | [],fs,h=>by cases h;exact GK
 | e::es,fs,h=>by
  let⟨hs,h⟩:=ax h;sleep 15;let⟨r,hr,rfl⟩:=ae h;exact SF hs (O.e _ _ hx) (cZ O hr)
def Io(O:bD X T)(h:T5 T o=some f):DO X o f:=by
 cases o with
 | none=>cases h;exact Kg
 | some e=>let⟨x,hx,rfl⟩:=ae h;exact IV (O.e _ _ hx)
def Bf(h:HY b=false):wk b:=by
 cases b<;>first|(intro _ _;rfl)|cases h
def Ff(C:Bk X N sc k)(O:bD X T)(h:Mo T a b=some f):DE X (.Subscript a b pos) f:=by
 sleep 1
 ·sleep 16;sleep 15;sleep 21;exact Qs (O.e _ _ hx) (O.e _ _ hy) (Bf hc)
 ·let⟨hn,h⟩:=ax h;sleep 15;let⟨l,hl,h⟩:=bs h;let⟨u,hu,rfl⟩:=ae h;rw[Nx hz,Option.isNone_iff_eq_none.mp hn];exact C.cut (O.e _ _ hx) (Io O hl) (Io O hu)
def cG{env:PySem.Env}:∀ {es:Γ γ},(es.all λe=>!isStar e)=true->(backTo pos (starEach es env)).any (·.1)=false
 | [],_=>rfl
 | e::es,h=>by
  rw[xR,zF,yO] at h;rw[aN h.1];show (false||(backTo pos (starEach es env)).any (·.1))=false;rw[cG h.2];rfl
def Gw(h:ur e=some e'):∃p q,e=.Call (.Name "set" p) [e'] [] q:=by
 sleep 17;let⟨hx,h⟩:=ax h;exact⟨_,_,by rw[iY hz,hx,bY h]⟩
def JP(h:Qv y=some ty):y∈d4/\bootBuiltins y=some (.type ty)/\y≠"__name__"/\(y == ("__debug__":Str))=false:=by
 rcases cI h with ⟨rfl,h⟩|⟨_,h⟩
 ·cases h;exact⟨by decide +kernel,by decide +kernel,by decide,by decide⟩
 ·rcases cI h with ⟨rfl,h⟩|⟨_,h⟩
  ·cases h;exact⟨by decide +kernel,by decide +kernel,by decide,by decide⟩
  ·rcases cI h with ⟨rfl,h⟩|⟨_,h⟩
   ·cases h;exact⟨by decide +kernel,by decide +kernel,by decide,by decide⟩
   ·let⟨rfl,h⟩:=ax h;cases h;exact⟨by decide +kernel,by decide +kernel,by decide,by decide⟩
def NT:bootBuiltins "any"=some (.builtin "any"):=by decide +kernel
def Nt:bootBuiltins "sum"=some (.builtin "sum"):=by decide +kernel
def Nd:bootBuiltins "min"=some (.builtin "min"):=by decide +kernel
def yu(h:l.length=1):∃a,l=[a]:=by
 match l,h with
 | [a],_=>exact⟨a,rfl⟩
def Dy(C:Bk X N sc k)(g:Ao G X j)(VD:j<=k)(O:bD X T)(h:Ga G sc T (.Call (.Name x p) args [] pos) x args=some f):DE X (.Call (.Name x p) args [] pos) f:=by
 let⟨hg,h⟩:=ax h;rw[zF] at hg;let⟨hg,hs⟩:=hg;have st1:∀ {e:γ}{es:Γ γ},args=e::es->starEach (e::es) X.env=(false,eval e X.env)::starEach es X.env:=λ{e es} q=>by
  subst q;rw[xR,zF,yO] at hs;exact aN hs.1
 have VZ:∀ {e:γ}{es:Γ γ},args=e::es->(backTo pos (starEach es X.env)).any (·.1)=false:=λ{e es} q=>by
  subst q;rw[xR,zF] at hs;exact cG hs.2
 rcases bC h with ⟨_,h⟩|⟨z,Yy,h⟩
 ·sleep 13
  ·let⟨e,he,h⟩:=bs h;have he:=bY he;rcases bC h with ⟨_,h⟩|⟨e',he',h⟩
   ·let⟨fs,XZ,rfl⟩:=ae h;subst hx he;exact Om (C.blt g.bn hg (by decide +kernel) HX) (cZ O XZ) (st1 rfl)
   ·let⟨hg2,h⟩:=ax h;rw[zF,yO] at hg2;sleep 21;let⟨p1,p2,rfl⟩:=Gw he';subst hx he;exact Eu C.calm (C.blt g.bn hg (by decide +kernel) HX) (C.blt g.bn hg2.1 (by decide +kernel) Nl) (O.e _ _ hy) (aN hg2.2)
  sleep 13
  ·let⟨a,ha,h⟩:=bs h;let⟨y,hy,h⟩:=bs h;have e2:=pJ ha;rw[dc hy] at e2;let⟨hgy,h⟩:=ax h;let⟨ty,hty,h⟩:=bs h;let⟨z,hz,rfl⟩:=ae h;let⟨t1,t2,t3,t4⟩:=JP hty;subst hx e2;exact Qi (C.blt g.bn hg (by decide +kernel) td) (C.blt g.bn hgy t1 t2) (O.e _ _ hz) t3 t4 (st1 rfl)
  sleep 13
  ·let⟨hl,h⟩:=ax h;let⟨fs,XZ,rfl⟩:=ae h;let⟨e,he⟩:=yu hl;subst hx he;exact FS (C.blt g.bn hg (by decide +kernel) Iu) (cZ O XZ) (st1 rfl)
  sleep 13
  ·let⟨hl,h⟩:=ax h;let⟨fs,XZ,rfl⟩:=ae h;let⟨e,he⟩:=yu hl;subst hx he;exact Ow C.calm (C.blt g.bn hg (by decide +kernel) OC) (cZ O XZ) (st1 rfl)
  sleep 13
  ·let⟨hl,h⟩:=ax h;let⟨fs,XZ,rfl⟩:=ae h;let⟨e,he⟩:=yu hl;subst hx he;exact Po C.calm (C.blt g.bn hg (by decide +kernel) NT) (st1 rfl) (cZ O XZ)
  sleep 13
  ·let⟨hl,h⟩:=ax h;let⟨fs,XZ,rfl⟩:=ae h;let⟨e,he⟩:=yu hl;subst hx he;exact NU C.calm (C.blt g.bn hg (by decide +kernel) Nt) (st1 rfl) (cZ O XZ)
  sleep 13
  ·rcases cI h with ⟨_,h⟩|⟨hl,h⟩
   ·cases h
   let⟨fs,XZ,rfl⟩:=ae h;subst hx;cases args with
   | nil=>exact absurd rfl hl
   | cons e es=>exact Od C.calm (C.blt g.bn hg (by decide +kernel) Nd) (st1 rfl) (VZ rfl) (cZ O XZ)
  let⟨_,h⟩:=ax h;sleep 21;exact DF.de (O.f _ _ hy)
 ·rcases cI h with ⟨_,h⟩|⟨Wi,h⟩
  ·cases h
  let⟨fs,XZ,rfl⟩:=ae h;cases args with
  | nil=>exact absurd (by simp) Wi
  | cons e es =>
   have hd:(x == ("__debug__":Str))=false:=by simpa using Wi
   exact K5 (g.fn x z.1 z.2 Yy) (C.room.mono VD) (C.gl hg) (cZ O XZ) hd (st1 rfl) (VZ rfl)
end
section
variable {G:Sg}{X:Cx}{N:Γ Str}{sc:ζ}{k j:Nat}{T:Tr}{pos p:Pos}
def K0(h:isStar e=false):((backTo Vv (starEach [e] env)).all (λx=>!x.1)&&(backToKw Vv (keywordEach [] env)).all (λx=>x.1.isSome)&&decide ([e].length+([]:Γ Keyword).length+(if ([]:Γ Keyword).isEmpty then 0 else 1) < 30))=true:=by
 rw[aN h];rfl
def nL(h:C0 o=false):attributeBase o a env w=w:=by
 cases o<;>first|rfl|cases h
def EK(C:Bk X N sc k)(O:bD X T)(h:GR T o m apos args Vv=some f):DE X (.Call (.Attribute o m apos) args [] Vv) f:=by
 let⟨hm,h⟩:=ax h;rw[zF,zF,yO] at hm;let⟨⟨hm1,hm⟩,Xi⟩:=hm;let⟨e,he,h⟩:=bs h;let⟨hs,h⟩:=ax h;sleep 15;sleep 21;rw[bY he,eq_of_beq hm1];exact Dq (nL Xi) (K0 hs) hm (aN hs) (O.e _ _ hx) (O.e _ _ hy)
def JE(C:Bk X N sc k)(g:Ao G X j)(VD:j<=k)(O:bD X T){a:γ}{args:Γ γ}{ks:Γ Keyword}(h:R1 G sc T (.Call a args ks p) a args ks p=some f):DE X (.Call a args ks p) f:=by
 sleep 1
 ·let⟨hk,h⟩:=ax h;obtain rfl:=List.isEmpty_iff.mp hk;let⟨y,hy,h⟩:=bs h;obtain rfl:=GO hy;exact EK C O h
 ·obtain rfl:=dc hz;rcases cI h with ⟨hk,h⟩|⟨_,h⟩
  ·obtain rfl:=List.isEmpty_iff.mp hk;exact Dy C g VD O h
  ·let⟨x,hx,rfl⟩:=ae h;exact DF.de (O.f _ _ hx)
def F1(C:Bk X N sc k)(g:Ao G X j)(VD:j<=k)(O:bD X T)(h:LY G sc N T e=some f):DE X e f:=by
 cases e with
 | Name x p=>exact Ez C g h
 | Constant c a b=>exact A3 h
 | UnaryOp op a p=>exact IM C O h
 | BinOp a op b p=>exact Ha C O h
 | BoolOp op es p =>
  cases op with
  | And=>exact ui O h
  | Or=>cases h
 | Compare a ops cs p=>exact (yw C O h).1
 | IfExp c a b p =>
  sleep 17;sleep 15;sleep 21;exact RZ (O.t _ _ hz) (O.e _ _ hx) (O.e _ _ hy)
 | Tuple es a p=>let⟨x,hx,rfl⟩:=ae h;exact Nf (cZ O hx)
 | Subscript a b p=>exact Ff C O h
 | List es p=>let⟨x,hx,rfl⟩:=ae h;exact DF.de (O.f _ _ hx)
 | ListComp a b c p=>let⟨x,hx,rfl⟩:=ae h;exact DF.de (O.f _ _ hx)
 | Call a args ks p=>exact JE C g VD O h
 | _=>cases h
def HH(O:bD X T):∀ {es:Γ γ}{f:Dl.Env->Δ θ},R7 T op es=some f->DW X (.BoolOp op es pos) f
 | [],f,h=>by cases h
 | [a],f,h=>by
  cases op with
  | And=>exact IP (O.t _ _ h)
  | Or=>exact MU (O.t _ _ h)
 | a::b::r,f,h=>by
  unfold R7 at h;sleep 15;sleep 21;have ih:=HH O hy;cases op with
  | And=>exact NF (O.t _ _ hx) ih
  | Or=>exact QG (O.t _ _ hx) ih
def Ho(C:Bk X N sc k)(O:bD X T)(h:stepT T e=some f):DT X e f:=by
 cases e with
 | Compare a ops cs p=>let⟨x,hx,rfl⟩:=ae h;exact (yw C O hx).2
 | UnaryOp op a p =>
  cases op with
  | Not=>let⟨x,hx,rfl⟩:=ae h;exact M9 (O.t _ _ hx)
  | _=>cases h
 | BoolOp op es p=>exact DW.dt (HH O h)
 | Name x p=>let⟨x,hx,rfl⟩:=ae h;exact BJ (O.e _ _ hx) λ_=>rfl
 | Call a b d p=>let⟨x,hx,rfl⟩:=ae h;exact BJ (O.e _ _ hx) λ_=>rfl
 | Subscript a b p=>let⟨x,hx,rfl⟩:=ae h;exact BJ (O.e _ _ hx) λ_=>rfl
 | _=>cases h
def Di{e:γ}(h:Be e=true):∃a b d,e=.Tuple a b d:=Expr.Tuple.elim (motive_1:=λe=>∃a b d,e=.Tuple a b d) e (eq_of_beq h) λa b d=>⟨a,b,d,rfl⟩
def PF(h:¬ e.ctorIdx=7):∀x,foldedSetIterable e env x=pure x:=by
 cases e<;>first|(intro _;rfl)|exact absurd rfl h
def AU(C:Bk X N sc k)(B:Bn X)(O:bD X T)(h:Si sc T tg iter=some fi):DI X tg iter fi/\∀x,foldedSetIterable iter X.env x=pure x:=by
 rcases cI h with ⟨_,h⟩|⟨hn,h⟩
 ·cases h
 refine⟨?_,PF hn⟩;sleep 1
 ·let⟨x,hx,rfl⟩:=ae h;exact Ii (O.e _ _ hx)
 sleep 13
 ·let⟨e,he,h⟩:=bs h;let⟨hg,h⟩:=ax h;rw[iY hz,hx,bY he];rw[zF,yO] at hg;let⟨x,hx,rfl⟩:=ae h;exact Gc (C.blt B hg.1 (by decide +kernel) sD) (cZ O hx) (aN hg.2)
 sleep 13
 ·let⟨e,he,h⟩:=bs h;let⟨hg,h⟩:=ax h;rw[iY hz,hx,bY he];simp?[zF,yO] at hg;let⟨x,hx,rfl⟩:=ae h;let⟨a,b,d,rfl⟩:=Di hg.2;exact KU (C.blt B hg.1.1 (by decide +kernel) wX) (cZ O hx) (aN hg.1.2)
 sleep 13
 ·let⟨e,he,h⟩:=bs h;let⟨hg,h⟩:=ax h;rw[iY hz,hx,pJ he];simp?[zF,yO] at hg;let⟨x,hx,rfl⟩:=ae h;let⟨a,b,d,rfl⟩:=Di hg.2;exact Lz (C.blt B hg.1.1.1 (by decide +kernel) Nc) (aN hg.1.1.2) (cG (by simp[hg.1.2])) (cZ O hx)
 let⟨x,hx,rfl⟩:=ae h;exact Ii (O.e _ _ hx)
def Bc{l:Γ α}(h:l.length=2):∃a b,l=[a,b]:=by
 match l,h with
 | [a,b],_=>exact⟨a,b,rfl⟩
def w8{l:Γ α}(h:l.length=3):∃a b c,l=[a,b,c]:=by
 match l,h with
 | [a,b,c],_=>exact⟨a,b,c,rfl⟩
def vx:∀ {es:Γ γ}{xs:Γ Str},Kk es=some xs->∃ps:Γ Pos,ps.length=xs.length/\es=List.zipWith Expr.Name xs ps
 | [],xs,h=>by cases h;exact⟨[],rfl,rfl⟩
 | e::es,xs,h=>by
  sleep 17;let⟨r,hr,rfl⟩:=ae h;let⟨ps,h1,h2⟩:=vx hr;exact⟨z.2::ps,by rw[zL,zL,h1],by rw[dc hz,h2];rfl⟩
def Oy(h:Uo tg=some xs):(∃x px,tg=.Name x px/\xs=[x])\/(∃x px y py m pt,tg=.Tuple [.Name x px,.Name y py] m pt/\xs=[x,y])\/∃x px y py z pz m pt,tg=.Tuple [.Name x px,.Name y py,.Name z pz] m pt/\xs=[x,y,z]:=by
 sleep 1
 ·sleep 17;let⟨hl,h⟩:=ax h;let⟨ps,h1,h2⟩:=vx h;rw[zm hz];rw[h2] at hl ⊢;rw[List.length_zipWith,h1,Nat.min_self] at hl;refine .inr (hl.imp (λq=>?_) λq=>?_)
  ·let⟨x,y,rfl⟩:=Bc q;let⟨p,q,rfl⟩:=Bc h1;exact⟨x,p,y,q,_,_,rfl,rfl⟩
  ·let⟨x,y,z,rfl⟩:=w8 q;let⟨p,q,r,rfl⟩:=w8 h1;exact⟨x,p,y,q,z,r,_,_,rfl,rfl⟩
 ·cases h;exact .inl ⟨_,_,dc hz,rfl⟩
def uE(C:Bk X N sc k)(B:Bn X)(O:bD X T)(OB:∀scope N' fp s H,Bk (aY X scope N' fp s H) N' scope k->bD (aY X scope N' fp s H) (Zh scope N'))
  (h:Ia sc N T Zh elt gens scope=some f):∃tg iter ifs,gens=[⟨tg,iter,ifs,0⟩]/\uS X tg iter ifs elt scope f:=by
 let⟨⟨tg,iter,ifs,as⟩,hg,h⟩:=bs h;let⟨rfl,h⟩:=ax h;refine⟨tg,iter,ifs,bY hg,?_⟩;let⟨xs,hxs,h⟩:=bs h;let⟨Vx,h⟩:=ax h;rw[zF] at Vx;let⟨fi,WG,h⟩:=bs h;let⟨tt,htt,h⟩:=bs h;let⟨te,YR,rfl⟩:=ae h;let⟨S,CB⟩:=C.comp Vx.1;let⟨hd,Wj⟩:=AU C B O WG;refine⟨_,_,_,_,_,_,_,rfl,S,hd,Wj,λfp s H=>?_⟩;have C1:=CB fp s H;have O1:=OB scope _ fp s H C1;refine⟨?_,?_,O1.e _ _ YR⟩
 ·have hl:∀i,i < xs.length->_:=λi hi=>C1.loc (List.all_eq_true.mp Vx.2 i (List.mem_range.mpr hi));rcases Oy hxs with ⟨x,px,rfl,rfl⟩|⟨x,px,y,py,m,pt,rfl,rfl⟩|⟨x,px,y,py,z,pz,m,pt,rfl,rfl⟩
  ·have z:=hl 0 (by simp);exact KC 0 z.1 z.2.1 z.2.2.1 z.2.2.2
  ·have z:=hl 0 (by simp);have w:=hl 1 (by simp);exact O4 0 1 C1.calm z.1 z.2.1 z.2.2.1 w.2.1 w.2.2.1 z.2.2.2 w.2.2.2
  ·have z:=hl 0 (by simp);have w:=hl 1 (by simp);have u:=hl 2 (by simp);exact Hj 0 1 2 C1.calm z.1 z.2.1 z.2.2.1 w.2.1 w.2.2.1 u.2.1 u.2.2.1 z.2.2.2 w.2.2.2 u.2.2.2
 ·rcases cI htt with ⟨hi,h⟩|⟨_,h⟩
  ·cases h;have hi:ifs=[]:=List.isEmpty_iff.mp hi;rw[hi];exact KG
  ·let⟨c,hc,h⟩:=bs h;have hc:ifs=[c]:=bY hc;rw[hc];exact KZ (O1.t _ _ h)
def uS.df(hc:X.calm=true)(h:uS X tg iter ifs elt scope f):DF X (.ListComp elt [⟨tg,iter,ifs,0⟩] scope pos) f:=by
 let⟨N',t,cs,fi,tgt,tt,te,rfl,S,hd,Wj,hY⟩:=h.ex;exact Le hc S hd hY Wj
def GB(h:Mc a=some x):∃px,a=⟨[],[⟨x,none,px⟩],none,[],[],none,[]⟩/\(x="number"\/x="plan"):=by
 let⟨⟨y,an,p⟩,h1,h⟩:=bs h;sleep 16;cases h;let⟨a1,a2,a3,a4,a5,a6,a7⟩:=a;simp?[zF,jA,vD,List.isEmpty_iff,Option.isNone_iff_eq_none] at hc;obtain⟨⟨⟨⟨⟨⟨⟨rfl,rfl⟩,rfl⟩,rfl⟩,rfl⟩,rfl⟩,rfl⟩,hy⟩:=hc;have h1:a2=_:=bY h1;exact⟨p,by rw[h1],hy⟩
def bind1{x q:Str}{px:Pos}{body:γ}{scope:ζ}{cl:Γ (Str×Ψ)}{pm W9 u:Θ}{c:Ψ}(h:x="number"\/x="plan") :
  bindArgs (W.kla_fn "<lambda>" q ⟨[],[⟨x,none,px⟩],none,[],[],none,[]⟩ body scope cl pm (.ref c) W9) ⟨[u],[]⟩=pure [(x,u)]:=by
 rcases h with rfl|rfl<;>rfl
def Bv{lam:Δ Str}(C:Bk X N sc k)(B:Bn X)(W0:∀q,lam=some q->ug X q/\j+3<=k)(O:bD X T){XY:ζ->Γ Str->Tr}
  (OL:∀scope N' qual A f c s H,Bk (jm X A qual scope N' f c s H) N' scope (k - 3)->j<=k - 3->bD (jm X A qual scope N' f c s H) (XY scope N')) {l:γ}{p0 aah:Pos}{f:Dl.Env->Δ (Γ D)}
  (h:BR lam sc N T XY l w=some f):DF X (.Call (.Name "sorted" p0) [l] [⟨some "key",.Lambda w.1 w.2.1 w.2.2.1 w.2.2.2,aah⟩] pos) f:=by
 let⟨hg,h⟩:=ax h;simp?[zF,yO] at hg;let⟨⟨hl,hg⟩,hs⟩:=hg;let⟨q,hq⟩:=Option.isSome_iff_exists.mp hl;let⟨L,hk⟩:=W0 q hq;sleep 15;let⟨px,ep,hpx⟩:=GB hx;rw[ep];let⟨Vx,h⟩:=ax h;rw[zF] at Vx;let⟨fl,Xx,h⟩:=bs h;let⟨te,YR,rfl⟩:=ae h;obtain⟨k',rfl⟩:∃k',k=k'+3:=⟨k - 3,by lia⟩
 exact Bk.abr (p:=x) C (C.blt B hg (by decide +kernel) uw) L Vx.1 Vx.2 (λ_ _ _ _ _=>bind1 hpx) rfl (O.e _ _ Xx) (λA f c s H C'=>(OL w.2.2.1 _ q A f c s H C' (by lia)).e _ _ YR) (aN hs) (by rw[aN hs];rfl) (cG (by simp[hs]))
def Jf{lam:Δ Str}(C:Bk X N sc k)(B:Bn X)(W0:∀q,lam=some q->ug X q/\j+3<=k)(O:bD X T){XY:ζ->Γ Str->Tr}
  (OL:∀scope N' qual A f c s H,Bk (jm X A qual scope N' f c s H) N' scope (k - 3)->j<=k - 3->bD (jm X A qual scope N' f c s H) (XY scope N')) {a:γ}{args:Γ γ}{ks:Γ Keyword}(h:QD lam sc N T XY a args ks=some f):DF X (.Call a args ks p) f:=by
 sleep 17;let⟨l,hl,h⟩:=bs h;let⟨hx,h⟩:=ax h;rw[dc hz,bY hl,hx];rcases cI h with ⟨hk,h⟩|⟨_,h⟩
 ·rw[List.isEmpty_iff.mp hk];let⟨hg,h⟩:=ax h;rw[zF,yO] at hg;let⟨x,hx,rfl⟩:=ae h;exact EI (C.blt B hg.1 (by decide +kernel) uw) (cZ O hx) (aN hg.2)
 ·let⟨⟨ky,v,kp⟩,hk,h⟩:=bs h;let⟨w,hw,h⟩:=bs h;let⟨hy,h⟩:=ax h;have hy:ky=some "key":=hy;have hw:=OY (e:=v) hw;rw[bY hk,hy,hw];exact Bv C B W0 O OL h
def Gf(C:Bk X N sc k)(B:Bn X)(W0:∀q,lam=some q->ug X q/\j+3<=k)(O:bD X T)
  (OB:∀scope N' fp s H,Bk (aY X scope N' fp s H) N' scope k->bD (aY X scope N' fp s H) (Zh scope N'))
  (OL:∀scope N' qual A f c s H,Bk (jm X A qual scope N' f c s H) N' scope (k - 3)->j<=k - 3->bD (jm X A qual scope N' f c s H) (XY scope N')) {e:γ}{f:Dl.Env->Δ (Γ D)}(h:L7 lam sc N T Zh XY e=some f):DF X e f:=by
 cases e with
 | List es p=>let⟨x,hx,rfl⟩:=ae h;exact Nj (cZ O hx)
 | ListComp elt gens scope ps =>
  let⟨tg,iter,ifs,rfl,q⟩:=uE C B O OB h;exact q.df C.calm
 | Call a args ks p=>exact Jf C B W0 O OL h
 | _=>cases h
def yk(n:Nat):∀ {lam:Δ Str}{X:Cx}{N:Γ Str}{sc:ζ}{k:Nat},Bk X N sc k->Ao G X j->j<=k->(∀q,lam=some q->ug X q/\j+3<=k)->bD X (tr G n lam sc N):=by
 induction n with
 | zero=>intro lam X N sc k C g VD W0;exact⟨λ_ _ _ _ _ h=>(by cases h),λ_ _ h=>(by cases h),λ_ _ h=>(by cases h),λ_ _ h=>(by cases h)⟩
 | succ n ih =>
  intro lam X N sc k C g VD W0;have O:=ih C g VD W0;exact⟨λelt gens scope p f h=>uE C g.bn O (λscope N' fp s H C'=>ih C' ⟨g.fn,g.int,g.bn⟩ VD λq z=>by cases z) h,λe f h=>F1 C g VD O h,
   λe f h=>Gf C g.bn W0 O (λscope N' fp s H C'=>ih C' ⟨g.fn,g.int,g.bn⟩ VD λq z=>by cases z) (λscope N' qual A f c s H C' hk=>ih C' ⟨g.fn,g.int,g.bn⟩ hk λq z=>by cases z) h,
   λe f h=>Ho C O h⟩
end
def qx:Nat->γ->Γ Str
 | 0,_=>[]
 | n+1,e=>match e with
  | .Name x _=>[x]
  | .UnaryOp _ a _=>qx n a
  | .BinOp a _ b _=>qx n a++qx n b
  | .BoolOp _ es _=>es.flatMap (qx n)
  | .Compare a _ cs _=>qx n a++cs.flatMap (qx n)
  | .IfExp c a b _=>qx n c++(qx n a++qx n b)
  | .Tuple es _ _=>es.flatMap (qx n)
  | .List es _=>es.flatMap (qx n)
  | .Subscript a b _=>qx n a++qx n b
  | .Slice lo hi st _=>(lo.toList++(hi.toList++st.toList)).flatMap (qx n)
  | .Call f args kws _=>qx n f++(args.flatMap (qx n)++kws.flatMap λk=>qx n k.value)
  | .Attribute o _ _=>qx n o
  | .ListComp elt gens _ _=>qx n elt++gens.flatMap λg=>qx n g.iter++g.ifs.flatMap (qx n)
  | .Lambda _ b _ _=>qx n b
  | _=>[]
def va(N:Γ Str)(e:γ):Γ Nat:=let ns:=qx 60 e;(List.range N.length).filter λj=>match N[j]? with|some x=>ns.contains x|none=>false
abbrev GS:=ao->Δ Out
def turns:Nat:=1000000
def kf(e:γ):θ:=e.ctorIdx == 8||e.ctorIdx == 9||e.ctorIdx == 10
def PU(e:γ):Δ (γ×Γ Comprehension×ζ×Pos):=if h:e.ctorIdx=8 then Expr.ListComp.elim e h λx y u p=>some (x,y,u,p) else none
def NB{e:γ}(h:PU e=some z):e=.ListComp z.1 z.2.1 z.2.2.1 z.2.2.2:=Expr.ListComp.elim (motive_1:=λe=>PU e=some z->e=.ListComp z.1 z.2.1 z.2.2.1 z.2.2.2) e (fQ h) (λa b d f h=>by cases h;rfl) h
def O5{e:γ}(h:PU e=none)(hc:(e.ctorIdx == 9||e.ctorIdx == 10)=false):kf e=false:=by
 unfold kf;cases q:e.ctorIdx == 8 with
 | false=>rwa [Bool.or_assoc,Bool.false_or]
 | true=>exact absurd (Expr.ListComp.elim (motive_1:=λe=>PU e=none->False) e (eq_of_beq q) (λa b d f h=>by cases h) h) id
def Md(sc:ζ)(N:Γ Str)(T:Tr)(x:Str)(px:Pos)(e:γ):Δ GS :=
 (N.idxOf? x).bind λi=>if (lU N sc i x&&!(e.ctorIdx == 9||e.ctorIdx == 10))=true then
  (if QY e=true then (if (PU e).all (λz=>(decide (sc.names.lookup x=some .local)&&(px.line == z.2.2.2.line&&!(z.2.2.1.names.any λ(n,k)=>n == x&&(k == .local || k == .cell))))||decide (sc.names.lookup x=some .cell)||!(px.line == z.2.2.2.line))=true then (T.f e).map λf=>bw i (va N e) f else none)
  else if kf e=false then (T.e e).map λf=>aS i (va N e) f else none) else none
def MO(e:γ):Δ (((γ×Str×Pos)×Str×Pos)×Γ γ×Pos):=(dC e).bind λy=>if y.2.2.1.isEmpty=true then (FJ y.1).map λz=>(z,y.2.1,y.2.2.2) else none
def oK{e:γ}(h:MO e=some z):e=.Call (.Attribute (.Name z.1.2.1 z.1.2.2) z.1.1.2.1 z.1.1.2.2) z.2.1 [] z.2.2:=by
 let⟨y,h1,h⟩:=bs h;let⟨h3,h⟩:=ax h;let⟨w,h2,rfl⟩:=ae h;rw[BL h1,gY h2,List.isEmpty_iff.mp h3]
def dK(e:γ):Δ (Const×Nat×Pos):=if h:e.ctorIdx=19 then Expr.Constant.elim e h λx y p=>some (x,y,p) else none
def Qy{e:γ}(h:dK e=some z):e=.Constant z.1 z.2.1 z.2.2:=Expr.Constant.elim (motive_1:=λe=>dK e=some z->e=.Constant z.1 z.2.1 z.2.2) e (fQ h) (λa b d h=>by cases h;rfl) h
def NH:Const->θ
 | .str _=>true
 | _=>false
def Tt(N:Γ Str)(sc:ζ)(T:Tr)(z:((γ×Str×Pos)×Str×Pos)×Γ γ×Pos):Δ GS :=
 (N.idxOf? z.1.2.1).bind λi=>if (lT N sc i z.1.2.1&&z.1.1.2.2.endLine == z.2.2.line&&z.2.1.all λe=>!isStar e)=true then
   (if z.1.1.2.1="append" then (l1 z.2.1).bind λa=>(T.e a).map λf=>mV i (va N a) f
   else if z.1.1.2.1="extend" then (l1 z.2.1).bind λa=>(T.f a).map λf=>DJ i (va N a) f
   else if z.1.1.2.1="insert" then (l2 z.2.1).bind λa=>(T.e a.1).bind λfk=>(T.e a.2).map λf=>E7 i (va N a.2) fk f
   else none) else none
def L8(N:Γ Str)(sc:ζ)(T:Tr)(e:γ):Δ GS:=(MO e).elim ((dK e).elim ((dC e).bind λy=>(dN y.1).bind λ_=>(T.e e).map uR) λz=>if NH z.1=true then some gV else none) λz=>Tt N sc T z
def Ts(sc:ζ)(N:Γ Str)(tg:γ):Δ (ao->D->Δ ao):=(dN tg).elim
 ((dT tg).bind λz=>(l2 z.1).bind λy=>(dN y.1).bind λa=>(dN y.2).bind λb=>(N.idxOf? a.1).bind λi=>(N.idxOf? b.1).bind λj=>if (lU N sc i a.1&&lU N sc j b.1)=true then some (gU i j) else none) λz =>
 (N.idxOf? z.1).bind λi=>if lU N sc i z.1=true then some (oW i) else none
def LZ(sc:ζ)(N:Γ Str)(T:Tr)(x:Str)(kx e:γ):Δ GS :=
 (N.idxOf? x).bind λi=>if (lT N sc i x&&!HY kx)=true then (T.e kx).bind λfk=>(T.e e).map λf=>RE i (va N e) fk f else none
def sf(f:Ω->Δ GS):Γ Ω->Δ GS
 | []=>some gV
 | [s]=>f s
 | s::r=>(f s).bind λg=>(sf f r).map λh=>aD g h
def T4(e:γ):Δ (γ×Γ CmpOp×Γ γ×Pos):=if h:e.ctorIdx=15 then Expr.Compare.elim e h λx y u p=>some (x,y,u,p) else none
def Oz{e:γ}(h:T4 e=some z):e=.Compare z.1 z.2.1 z.2.2.1 z.2.2.2:=Expr.Compare.elim (motive_1:=λe=>T4 e=some z->e=.Compare z.1 z.2.1 z.2.2.1 z.2.2.2) e (fQ h) (λa b d f h=>by cases h;rfl) h
def Rz(e:γ):Δ (Str×Str):=(T4 e).bind λy=>(dN y.1).bind λa=>(l1 y.2.1).bind λo=>(l1 y.2.2.1).bind λu=>(dN u).bind λb=>if (o.ctorIdx == 8&&b.1 == ("seen":Str))=true then some (a.1,b.1) else none
def Tq(e:γ):Δ (Γ (Δ γ)×Γ γ×Pos):=if h:e.ctorIdx=6 then Expr.Dict.elim e h λx y p=>some (x,y,p) else none
def NG{e:γ}(h:Tq e=some z):e=.Dict z.1 z.2.1 z.2.2:=Expr.Dict.elim (motive_1:=λe=>Tq e=some z->e=.Dict z.1 z.2.1 z.2.2) e (fQ h) (λa b d h=>by cases h;rfl) h
def Gd(e:γ):Δ (Str×γ):=(Tq e).bind λy=>(l1 y.1).bind λa=>a.bind λa=>(dN a).bind λz=>(l1 y.2.1).map λv=>(z.1,v)
def G0(x:Str)(e:γ):Δ Str:=(dN e).bind λz=>if x="seen" then some z.1 else none
def Gb(sc:ζ)(N:Γ Str)(T:Tr)(x z:Str)(v:γ):Δ GS :=
 (N.idxOf? x).bind λj=>(N.idxOf? z).bind λi=>if (lU N sc j x&&lT N sc i z)=true then (T.e v).map λf=>uB j i f else none
def F9(sc:ζ)(N:Γ Str)(T:Tr)(x z:Str)(v:γ):Δ GS :=
 (N.idxOf? x).bind λj=>(N.idxOf? z).bind λi=>if ((lT N sc j x&&lT N sc i z)&&v.ctorIdx == 19)=true then (T.e v).map λf=>rf j i f else none
def RB(sc:ζ)(N:Γ Str)(T:Tr)(f:Ω->Δ GS)(c:γ)(a b:Γ Ω):Δ GS:=(sf f a).bind λg=>(sf f b).bind λh=>(Rz c).elim ((T.t c).map λt=>iH t g h) λz=>(N.idxOf? z.1).bind λi=>(N.idxOf? z.2).bind λj=>if (lT N sc i z.1&&lT N sc j z.2)=true then some (tT i j g h) else none
def SZ(e:γ):Δ (γ×γ×Pos):=if h:e.ctorIdx=21 then Expr.Subscript.elim e h λx y p=>some (x,y,p) else none
def PH{e:γ}(h:SZ e=some z):e=.Subscript z.1 z.2.1 z.2.2:=Expr.Subscript.elim (motive_1:=λe=>SZ e=some z->e=.Subscript z.1 z.2.1 z.2.2) e (fQ h) (λa b d h=>by cases h;rfl) h
def Hh(sc:ζ)(N:Γ Str)(T:Tr)(e:γ)(x y z:Str):Δ GS :=
 (N.idxOf? x).bind λi=>(N.idxOf? y).bind λj=>(N.idxOf? z).bind λl=>if (((lU N sc i x&&lU N sc j y)&&lU N sc l z)&&C8 e)=true then (T.e e).map λf=>oX i j l (va N e) f else none
def l3:Γ Str->Δ (Str×Str×Str)
 | [a,b,d]=>some (a,b,d)
 | _=>none
def Mp(sc:ζ)(N:Γ Str)(T:Tr)(e t:γ):Δ GS:=(dN t).elim ((SZ t).elim ((dT t).bind λy=>(Kk y.1).bind λr=>(l3 r).bind λz=>Hh sc N T e z.1 z.2.1 z.2.2) λy=>(dN y.1).bind λz=>(G0 z.1 y.2.1).elim (LZ sc N T z.1 y.2.1 e) λk=>F9 sc N T z.1 k e) λz=>(Gd e).elim (Md sc N T z.1 z.2 e) λy=>Gb sc N T z.1 y.1 y.2
def IB(sc:ζ)(N:Γ Str)(T:Tr):Nat->Ω->Δ GS
 | 0,_=>none
 | n+1,st=>match st with
  | .Return (some e) _=>(T.e e).map bc
  | .If c a b _=>RB sc N T (IB sc N T n) c a b
  | .Assign ts e _=>(l1 ts).bind λt=>Mp sc N T e t
  | .For tg iter body es _=>if es.isEmpty=true then (Si sc T tg iter).bind λfi=>(Ts sc N tg).bind λt=>(sf (IB sc N T n) body).map λg=>gw (va N iter) fi t g else none
  | .While c body es _=>if es.isEmpty=true then (T.t c).bind λt=>(sf (IB sc N T n) body).map λg=>EU t g turns else none
  | .Expr e _=>L8 N sc T e
  | .Raise ..=>some PV
  | .Pass _=>some gV
  | _=>none
section
variable {X:Cx}{N:Γ Str}{sc:ζ}{k:Nat}{T:Tr}{Vr:Hp}{H₀:Hq}{pos:Pos}
def fS(H:∀s g,f s=some g->DS X Vr H₀ s g):∀ {l:Γ Ω}{g:GS},sf f l=some g->BQ X Vr H₀ l g
 | [],g,h=>by cases h;exact Jz
 | [s],g,h=>JX (H _ _ h)
 | s::t::r,g,h=>by
  unfold sf at h;sleep 15;sleep 21;exact Hx (H _ _ hx) (fS H hy)
def eO(h:kf e=false):swapsWith e t line env=pure false:=by
 cases e<;>first|rfl|cases h
def Gr(C:Bk X N sc k)(O:bD X T)(h:Md sc N T x px e=some g):DS X Vr H₀ (.Assign [.Name x px] e pos) g:=by
 let⟨i,hi,h⟩:=bs h;let⟨hl,h⟩:=ax h;rw[zF,yO] at hl;let⟨z1,z2,z3,z4⟩:=C.loc hl.1;rcases cI h with ⟨_,h⟩|⟨_,h⟩
 ·sleep 16;sleep 19;cases q:PU e with
  | none=>exact wW i _ z1 z2 z3 (O.f _ _ hf) (eO (O5 q hl.2)) z4
  | some z =>
   have q2:=NB q;rw[q] at hc;simp?[Option.all_some,jA] at hc;rw[q2] at hf ⊢;rcases hc with (hc|hc)|hc
   ·rw[zF] at hc;let⟨tg,iter,ifs,eg,q⟩:=O.c _ _ _ _ _ hf;let⟨N',t,cs,fi,tgt,tt,te,rfl,S,hd,Wj,hY⟩:=q.ex;rw[eg];exact IR i _ C.calm S hd hY z1 z2 (C.abf hc.1) (C.swap hc.1 hc.2) Wj
   ·exact wW i _ z1 z2 z3 (O.f _ _ hf) (C.aab hc) z4
   ·refine wW i _ z1 z2 z3 (O.f _ _ hf) ?_ z4;rw[yO] at hc;rw[sH,hc];simp
 ·sleep 16;sleep 19;exact Nb i _ z1 z2 z3 (O.e _ _ hf) (eO hc) z4
def we(h:(es.all λe=>!isStar e)=true)(hl:es.length < 20):((backTo Vv (starEach es env)).all (λx=>!x.1)&&(backToKw Vv (keywordEach [] env)).all (λx=>x.1.isSome)&&decide (es.length+([]:Γ Keyword).length+(if ([]:Γ Keyword).isEmpty then 0 else 1) < 30))=true:=by
 have h1:(backTo Vv (starEach es env)).all (λx=>!x.1)=true:=by
  have:=cG (pos:=Vv) (env:=env) h;rw[List.all_eq_not_any_not];simpa using this
 rw[h1];simp[backToKw,keywordEach];lia
def HW(C:Bk X N sc k)(O:bD X T)(h:L8 N sc T e=some g):DS X Vr H₀ (.Expr e pos) g:=by
 sleep 1
 ·sleep 1
  ·let⟨y,hy,h⟩:=bs h;let⟨w,hw,h⟩:=bs h;sleep 19;exact IY (by rw[BL hy];rfl) (O.e _ _ hf)
  ·let⟨hs,h⟩:=ax h;cases h;rw[Qy hz];let⟨c,_⟩:=z;cases c with
   | str x=>exact MQ
   | _=>cases hs
 let⟨i,hi,h⟩:=bs h;let⟨hv,h⟩:=ax h;simp?[zF] at hv;let⟨⟨hv,VA⟩,hs⟩:=hv;let⟨z1,z2,z3,z4⟩:=C.XN hv;rw[oK hz];rcases cI h with ⟨hm,h⟩|⟨_,h⟩
 ·let⟨a,ha,h⟩:=bs h;sleep 19;rw[bY ha] at hs ⊢;rw[hm];exact Ed i _ z1 z2 (O.e _ _ hf) z3 z4 (we hs (by simp)) VA (aN (by simpa using hs))
 rcases cI h with ⟨hm,h⟩|⟨_,h⟩
 ·let⟨a,ha,h⟩:=bs h;sleep 19;rw[bY ha] at hs ⊢;rw[hm];exact D5 i _ z1 z2 (O.f _ _ hf) z3 z4 (we hs (by simp)) VA (aN (by simpa using hs))
 let⟨hm,h⟩:=ax h;let⟨a,ha,h⟩:=bs h;let⟨fk,hfk,h⟩:=bs h;sleep 19;rw[pJ ha] at hs ⊢;rw[hm];have WZ:=hs;simp?[xR,List.all_nil,Bool.and_true,zF,yO] at WZ;exact Em i _ z1 z2 (O.e _ _ hfk) (O.e _ _ hf) z3 z4 (we hs (by simp)) VA (aN WZ.1) (aN WZ.2)
def GX(C:Bk X N sc k)(h:Ts sc N tg=some t):P6 X Vr H₀ tg t:=by
 sleep 1
 ·sleep 17;let⟨y,hy,h⟩:=bs h;let⟨a,ha,h⟩:=bs h;let⟨b,hb,h⟩:=bs h;let⟨i,hi,h⟩:=bs h;let⟨j,hj,h⟩:=bs h;let⟨hl,h⟩:=ax h;cases h;rw[zF] at hl;have u:=C.loc hl.1;have w:=C.loc hl.2;rw[zm hz,pJ hy,dc ha,dc hb];exact KQ i j C.calm u.1 u.2.1 u.2.2.1 w.2.1 w.2.2.1 u.2.2.2 w.2.2.2
 ·let⟨i,hi,h⟩:=bs h;let⟨hl,h⟩:=ax h;cases h;have u:=C.loc hl;rw[dc hz];exact E8 i u.1 u.2.1 u.2.2.1 u.2.2.2
def E4(C:Bk X N sc k)(O:bD X T)(h:LZ sc N T x kx e=some g):DS X Vr H₀ (.Assign [.Subscript (.Name x px) kx V0] e pos) g:=by
 let⟨i,hi,h⟩:=bs h;let⟨hv,h⟩:=ax h;simp?[zF,yO] at hv;let⟨hv,hc⟩:=hv;let⟨z1,z2,z3,z4⟩:=C.XN hv;let⟨fk,hfk,h⟩:=bs h;sleep 19;refine Ir i _ z1 z2 (O.e _ _ hfk) (O.e _ _ hf) z3 z4 (λv=>?_) ?_ ?_ rfl
 ·cases kx<;>first|rfl|cases hc
 ·cases e<;>rfl
 ·rfl
def Bk.u1(C:Bk X N sc k):X.A.units+1 < cLine:=by have:=C.room.un;lia
def yd(h:Gd e=some y):∃pz p,e=.Dict [some (.Name y.1 pz)] [y.2] p:=by
 sleep 17;let⟨a,ha,h⟩:=bs h;let⟨b,hb,h⟩:=bs h;let⟨w,hw,h⟩:=bs h;let⟨v,hv,rfl⟩:=ae h;exact⟨_,_,by rw[NG hz,bY ha,bY hv,hb,dc hw]⟩
def yi(h:G0 x e=some z):∃pz,e=.Name z pz:=by
 let⟨w,hw,h⟩:=bs h;let⟨_,h⟩:=ax h;cases h;exact⟨_,dc hw⟩
def El(C:Bk X N sc k)(O:bD X T)(h:Gb sc N T x z v=some g):DS X Vr H₀ (.Assign [.Name x px] (.Dict [some (.Name z pz)] [v] p) pos) g:=by
 let⟨j,hj,h⟩:=bs h;let⟨i,hi,h⟩:=bs h;sleep 16;rw[zF] at hc;sleep 19;let⟨z1,z2,z3,z4⟩:=C.loc hc.1;let⟨w1,w2,w3,w4⟩:=C.XN hc.2;exact K3 j i (Bk.u1 C) w1 w2 w3 w4 (O.e _ _ hf) z1 z2 z3 rfl z4
def Ei(C:Bk X N sc k)(O:bD X T){v:γ}(h:F9 sc N T x z v=some g):DS X Vr H₀ (.Assign [.Subscript (.Name x px) (.Name z pz) sp] v pos) g:=by
 let⟨j,hj,h⟩:=bs h;let⟨i,hi,h⟩:=bs h;sleep 16;rw[zF,zF] at hc;sleep 19;let⟨z1,z2,z3,z4⟩:=C.XN hc.1.1;let⟨w1,w2,w3,w4⟩:=C.XN hc.1.2;exact Expr.Constant.elim (motive_1:=λv=>DE X v f->DS X Vr H₀ (.Assign [.Subscript (.Name x px) (.Name z pz) sp] v pos) (rf j i f)) v (eq_of_beq hc.2) (λa b d h=>Lg j i (Bk.u1 C) w1 w2 z1 z2 h w3 w4 z3 z4) (O.e _ _ hf)
def IQ{f:Ω->Δ GS}{c:γ}{a b:Γ Ω}{g:GS}{p:Pos}(C:Bk X N sc k)(O:bD X T)(ih:∀s g,f s=some g->DS X Vr H₀ s g)(h:RB sc N T f c a b=some g):DS X Vr H₀ (.If c a b p) g:=by
 let⟨a,ha,h⟩:=bs h;let⟨b,hb,h⟩:=bs h;sleep 1
 ·let⟨t,ht,rfl⟩:=ae h;exact Rp (O.t _ _ ht) (fS ih ha) (fS ih hb)
 ·let⟨i,hi,h⟩:=bs h;let⟨j,hj,h⟩:=bs h;let⟨hv,h⟩:=ax h;cases h;rw[zF] at hv;let⟨z1,z2,z3,z4⟩:=C.XN hv.1;let⟨w1,w2,w3,w4⟩:=C.XN hv.2;let⟨y,hy,h⟩:=bs hz;let⟨u,hu,h⟩:=bs h;let⟨o,ho,h⟩:=bs h;let⟨v,hx,h⟩:=bs h;let⟨w,hw,h⟩:=bs h;sleep 16;cases h;rw[zF] at hc;rw[Oz hy,dc hu,bY ho,bY hx,dc hw];obtain rfl:o=.In:=by cases o<;>first|rfl|exact absurd hc.1 (by decide)
  exact Lo i j (Bk.u1 C) z1 z2 w1 w2 (fS ih ha) (fS ih hb) z3 z4 w3 w4
def DC(C:Bk X N sc k)(O:bD X T)(h:Hh sc N T e x y z=some g):DS X Vr H₀ (.Assign [.Tuple [.Name x px,.Name y py,.Name z pz] m pt] e pos) g:=by
 let⟨i,hi,h⟩:=bs h;let⟨j,hj,h⟩:=bs h;let⟨l,_,h⟩:=bs h;let⟨hl,h⟩:=ax h;rw[zF,zF,zF] at hl;sleep 19;have z:=C.loc hl.1.1.1;have w:=C.loc hl.1.1.2;have u:=C.loc hl.1.2;exact FI i j l _ C.calm z.1 z.2.1 z.2.2.1 w.2.1 w.2.2.1 u.2.1 u.2.2.1 hl.2 (O.e _ _ hf) z.2.2.2 w.2.2.2 u.2.2.2
def RO{r:Γ Str}(h:l3 r=some z):r=[z.1,z.2.1,z.2.2]:=by
 rcases r with _|⟨a,_|⟨b,_|⟨d,_|_⟩⟩⟩<;>cases h;rfl
def Gm{t e:γ}{g:GS}{p:Pos}(C:Bk X N sc k)(O:bD X T)(h:Mp sc N T e t=some g):DS X Vr H₀ (.Assign [t] e p) g:=by
 sleep 1
 ·rcases bC h with ⟨_,h⟩|⟨y,hy,h⟩
  ·let⟨y,hy,h⟩:=bs h;let⟨r,hr,h⟩:=bs h;sleep 17;rw[RO hz] at hr;let⟨ps,h1,h2⟩:=vx hr;let⟨a,b,d,rfl⟩:=w8 h1;rw[zm hy,h2];exact DC C O h
  sleep 17;rw[PH hy,dc hz];rcases bC h with ⟨_,h⟩|⟨k,hk,h⟩
  ·exact E4 C O h
  ·let⟨pz,e⟩:=yi hk;rw[e];exact Ei C O h
 ·rw[dc hz];rcases bC h with ⟨_,h⟩|⟨y,hy,h⟩
  ·exact Gr C O h
  ·let⟨pz,p,e⟩:=yd hy;rw[e];exact El C O h
def rL(C:Bk X N sc k)(B:Bn X)(O:bD X T):∀ (n:Nat) {st:Ω}{g:GS},IB sc N T n st=some g->DS X Vr H₀ st g
 | 0,st,g,h=>by cases h
 | n+1,st,g,h=>by
  have ih:=λs g h=>rL C B O n (st:=s) (g:=g) h;cases st with
  | Return e p =>
   cases e<;>try cases h
   sleep 19;exact O0 (O.e _ _ hf)
  | If c a b p=>exact IQ C O ih h
  | Assign ts e p =>
   let⟨t,ht,h⟩:=bs h;rw[bY ht];exact Gm C O h
  | For tg iter body els p =>
   let⟨he,h⟩:=ax h;rw[List.isEmpty_iff.mp he];let⟨fi,WG,h⟩:=bs h;let⟨t,ht,h⟩:=bs h;let⟨b,hb,rfl⟩:=ae h;let⟨hd,Wj⟩:=AU C B O WG;exact NC _ C.pass C.calm hd (GX C ht) (fS ih hb) Wj
  | While c body els p =>
   let⟨he,h⟩:=ax h;rw[List.isEmpty_iff.mp he];let⟨t,ht,h⟩:=bs h;let⟨b,hb,rfl⟩:=ae h;exact Gz _ C.pass (O.t _ _ ht) (fS ih hb)
  | Expr e p=>exact HW C O h
  | Raise=>cases h;exact Qr
  | Pass p=>cases h;exact JK
  | _=>cases h
end
section
variable {K:Φ}
def m6(P:ε)(w:δ)(K:Φ)(mg:Str->Δ Θ)(base:ι)(j:Nat)(l:Γ (Str×Nat×(Γ D->Δ D))):Prop:=∀x n m,l.lookup x=some (n,m)->EW P w K mg base j x n m
def i4(mg:Str->Δ Θ)(l:Γ (Str×Int)):Prop:=∀x i,l.lookup x=some i->∃t,mg x=some (.int i t)
def SY:m6 P w K mg base j []:=λ_ _ _ h=>by cases h
def Rv(F:EW P w K mg base j x n m)(h:m6 P w K mg base j l):m6 P w K mg base j ((x,n,m)::l):=λy n' m' e=>by
 rw[yB] at e;cases q:y == x with
 | true=>rw[q] at e;cases e;rw[eq_of_beq q];exact F
 | false=>rw[q] at e;exact h y n' m' e
def TC:i4 mg []:=λ_ _ h=>by cases h
def LR(F:∃t,mg x=some (.int i t))(h:i4 mg l):i4 mg ((x,i)::l):=λy i' e=>by
 rw[yB] at e;cases q:y == x with
 | true=>rw[q] at e;cases e;rw[eq_of_beq q];exact F
 | false=>rw[q] at e;exact h y i' e
def QF{st:Ω}(C:Bk X N (ah st) j)(B:Bn X)(hf:m6 X.prog X.w X.K X.mg X.base j fs)(hi:i4 X.mg is)
  (t:sf (IB (ah st) N (tr ⟨fs,is⟩ 40 none (ah st) N) 40) (aP st)=some g):BQ X Vr H₀ (aP st) g :=
 fS (λs g h=>rL C B (yk (G:=⟨fs,is⟩) 40 C ⟨hf,hi,B⟩ (yL j) λq z=>by cases z) 40 h) t
def Va{st:Ω}(D:Jm K mg x st ps)(S:bj N ps (ah st))(B:∀x∈d4,mg x=none)(hf:m6 P w K mg base j fs)(hi:i4 mg is)
  (t:sf (IB (ah st) N (tr ⟨fs,is⟩ 40 none (ah st) N) 40) (aP st)=some g):EW P w K mg base (j+1) x ps.length (bN g N.length):=by
 let⟨f,fd,hm,F,hb⟩:=D.ex;exact UA F S hb hm λX hP hw hK Wo WB C _ _ HF H=>by subst hP;subst hw;subst hK;subst Wo;subst WB;exact QF C B hf hi t
def UO{st:Ω}(D:OO K mg x st ps)(S:bj N ps (ah st))(B:∀x∈d4,mg x=none)(hf:m6 P w K mg base j fs)(hi:i4 mg is)
  (hq:x∈j5/\x++".<locals>."++"<lambda>"=q) (t:sf (IB (ah st) N (tr ⟨fs,is⟩ 40 (some q) (ah st) N) 40) (aP st)=some g):EW P w K mg base (j+4) x ps.length (bN g N.length):=by
 let⟨f,fd,c,P',hm,F,hb,hc,hh⟩:=D.ex;refine UA (k:=j+3) F S hb hm λX hP hw hK Wo WB C h1 h2 HF H=>?_;subst hP;subst hw;subst hK;subst Wo;subst WB;have L:ug X q:=by
  refine⟨c,P',by rw[h1,hc],by rw[h2];exact hq.2,hh,λHF tb=>?_⟩;let⟨oc,od,kV,doc,pm,an,VT,ct,W7,rfl,lk,_⟩:=F.ex;have:=tb f oc od _ W7 c P' lk hq.1 hc hh;rw[<- hq.2];exact this
 exact fS (λs g h=>rL C B (yk (G:=⟨fs,is⟩) (j:=j) 40 C ⟨hf,hi,B⟩ (jT _ _) λq' z=>by cases z;exact⟨L,yL _⟩) 40 h) t
end
abbrev tW(s:Ω)(N:Γ Str)(S:Sg)(l:Δ Str):Δ GS:=sf (IB (ah s) N (tr S 40 l (ah s) N) 40) (aP s)
def Vk(a:sc.kind=.function:=by rfl)(b:sc.isCoroutine=false:=by rfl)(c:sc.isGenerator=false:=by rfl)(d:N.Nodup:=by decide +kernel)(e:N.take P.length=P:=by rfl)(f:∀x∈P,sc.names.lookup x=some .local \/ sc.names.lookup x=some .cell:=by decide +kernel)(g:∀y∈sc.names,y.2≠.free:=by decide +kernel):bj N P sc:=⟨a,b,c,d,e,f,g⟩
section
variable {K:Φ}
end
end Rf
namespace Ex
open PySem L2 PySem.Spec PyProof.Rows
section
variable {X:Cx}{pins:Γ (Ψ×Obj)}{σ:L2.St}{H H':Hp}{s s':Ξ}{cls:Θ}{ea:Ψ}
end
open PySem L2 Dl PySem.Spec PyProof.Rows
def F6{K:Φ}(sm:aB HF H)(tb:cy K HF)(rr:au K HF ds vs):fF K HF ⟨H,λ_=>0⟩ HF H (ds.map Slot.val++List.replicate (N.length - ds.length) .Vs) (L2.start N vs):=by
 refine⟨.refl sm,λi e h=>?_,λi es h=>?_,λi j es fs a h=>?_,?_,tb,λi ks h=>absurd h vn,λi j ks ls h=>absurd h vn,λi k h=>absurd h Hi⟩
 ·have hi:i < ds.length:=by
   by_cases hi:i < ds.length
   ·exact hi
   ·rw[yS (by simpa using hi),yW] at h;split at h<;>cases h
  rw[yR (by simpa using hi),zO] at h;let⟨d',Xg,h⟩:=ae h;cases h;let⟨v,hv,rv⟩:=rr.getD Xg;refine⟨v,?_,rv⟩;unfold L2.start;rw[yR (by simpa [rr.length] using hi),zO,hv];rfl
 ·exfalso;by_cases hi:i < ds.length
  ·rw[yR (by simpa using hi),zO] at h;let⟨d',Xg,h⟩:=ae h;cases h
  ·rw[yS (by simpa using hi),yW] at h;split at h<;>cases h
 ·exfalso;by_cases hi:i < ds.length
  ·rw[yR (by simpa using hi),zO] at h;let⟨d',Xg,h⟩:=ae h;cases h
  ·rw[yS (by simpa using hi),yW] at h;split at h<;>cases h
 ·unfold L2.start;rw[zN,zN,zD,zD,xK,xK,rr.length];exact yL _
end Ex
namespace Hd
open PySem L2 Dl PySem.Spec PyProof.Rows
section
variable {K:Φ}
def RX{st:Ω}(hb:d0 st ps)(a:W.nsIn K mainGlobals x=some (some (.ref f)))(l:K.lookup f=some (fo x st pm c))(d:W.codeIn K (.ref c) x=true)(k:W.keepIn K (.ref f)=true):ie K x st ps:=Ru hb a l d k
def UU{st:Ω}(hb:d0 st ps)(a:W.nsIn K mainGlobals x=some (some (.ref f)))(l:K.lookup f=some (fo x st pm c))(d:W.codeIn K (.ref c) x=true)(k:W.keepIn K (.ref f)=true)(hh:W.codeHdIn K c (JY K c)=true):r6 K x st ps:=QM hb a l d k hh
end
section
variable {α:Type}{R:Γ α->Prop}
def yu(h:∀a,R [a])(us:Γ α)(e:us.length=1):R us:=by
 let⟨a,rfl⟩:=List.length_eq_one_iff.mp e;exact h a
def Lv(us:Γ α)(e:us.length=n+1):∃a r,us=a::r/\r.length=n:=by
 cases us with
 | nil=>cases e
 | cons a r=>exact⟨a,r,rfl,by simpa using e⟩
def Bc(h:∀a b,R [a,b])(us:Γ α)(e:us.length=2):R us:=by
 let⟨a,r,rfl,e'⟩:=Lv us e;exact yu (R:=λr=>R (a::r)) (h a) r e'
def w8(h:∀a b c,R [a,b,c])(us:Γ α)(e:us.length=3):R us:=by
 let⟨a,r,rfl,e'⟩:=Lv us e;exact Bc (R:=λr=>R (a::r)) (h a) r e'
def RH(h:∀a b c d,R [a,b,c,d])(us:Γ α)(e:us.length=4):R us:=by
 let⟨a,r,rfl,e'⟩:=Lv us e;exact w8 (R:=λr=>R (a::r)) (h a) r e'
def Tu(h:∀a b c d f,R [a,b,c,d,f])(us:Γ α)(e:us.length=5):R us:=by
 let⟨a,r,rfl,e'⟩:=Lv us e;exact RH (R:=λr=>R (a::r)) (h a) r e'
end
section
variable {K:Φ}
def f1(f c:Ψ)(pm:Θ){st:Ω}(hb:d0 st ps:=by exactλ_ _ _ _ _ _ _ _ us hl=>yu (R:=λus=>bindArgs _ ⟨us,[]⟩=pure (List.zip _ us)) (λ_=>rfl) us hl)(a:W.nsIn K mainGlobals x=some (some (.ref f)):=by kernel_rfl)(l:K.lookup f=some (fo x st pm c):=by kernel_rfl)(d:W.codeIn K (.ref c) x=true:=by kernel_rfl)(k:W.keepIn K (.ref f)=true:=by kernel_rfl):ie K x st ps:=RX hb a l d k
def f2(f c:Ψ)(pm:Θ){st:Ω}(hb:d0 st ps:=by exactλ_ _ _ _ _ _ _ _ us hl=>Bc (R:=λus=>bindArgs _ ⟨us,[]⟩=pure (List.zip _ us)) (λ_ _=>rfl) us hl)(a:W.nsIn K mainGlobals x=some (some (.ref f)):=by kernel_rfl)(l:K.lookup f=some (fo x st pm c):=by kernel_rfl)(d:W.codeIn K (.ref c) x=true:=by kernel_rfl)(k:W.keepIn K (.ref f)=true:=by kernel_rfl):ie K x st ps:=RX hb a l d k
def f3(f c:Ψ)(pm:Θ){st:Ω}(hb:d0 st ps:=by exactλ_ _ _ _ _ _ _ _ us hl=>w8 (R:=λus=>bindArgs _ ⟨us,[]⟩=pure (List.zip _ us)) (λ_ _ _=>rfl) us hl)(a:W.nsIn K mainGlobals x=some (some (.ref f)):=by kernel_rfl)(l:K.lookup f=some (fo x st pm c):=by kernel_rfl)(d:W.codeIn K (.ref c) x=true:=by kernel_rfl)(k:W.keepIn K (.ref f)=true:=by kernel_rfl):ie K x st ps:=RX hb a l d k
def l3(f c:Ψ)(pm:Θ){st:Ω}(hb:d0 st ps:=by exactλ_ _ _ _ _ _ _ _ us hl=>w8 (R:=λus=>bindArgs _ ⟨us,[]⟩=pure (List.zip _ us)) (λ_ _ _=>rfl) us hl)(a:W.nsIn K mainGlobals x=some (some (.ref f)):=by kernel_rfl)(l:K.lookup f=some (fo x st pm c):=by kernel_rfl)(d:W.codeIn K (.ref c) x=true:=by kernel_rfl)(k:W.keepIn K (.ref f)=true:=by kernel_rfl)(hh:W.codeHdIn K c (JY K c)=true:=by kernel_rfl):r6 K x st ps:=UU hb a l d k hh
def f4(f c:Ψ)(pm:Θ){st:Ω}(hb:d0 st ps:=by exactλ_ _ _ _ _ _ _ _ us hl=>RH (R:=λus=>bindArgs _ ⟨us,[]⟩=pure (List.zip _ us)) (λ_ _ _ _=>rfl) us hl)(a:W.nsIn K mainGlobals x=some (some (.ref f)):=by kernel_rfl)(l:K.lookup f=some (fo x st pm c):=by kernel_rfl)(d:W.codeIn K (.ref c) x=true:=by kernel_rfl)(k:W.keepIn K (.ref f)=true:=by kernel_rfl):ie K x st ps:=RX hb a l d k
def f5(f c:Ψ)(pm:Θ){st:Ω}(hb:d0 st ps:=by exactλ_ _ _ _ _ _ _ _ us hl=>Tu (R:=λus=>bindArgs _ ⟨us,[]⟩=pure (List.zip _ us)) (λ_ _ _ _ _=>rfl) us hl)(a:W.nsIn K mainGlobals x=some (some (.ref f)):=by kernel_rfl)(l:K.lookup f=some (fo x st pm c):=by kernel_rfl)(d:W.codeIn K (.ref c) x=true:=by kernel_rfl)(k:W.keepIn K (.ref f)=true:=by kernel_rfl):ie K x st ps:=RX hb a l d k
end
end Hd
namespace VC
open PySem L2 Dl Rf PySem.Spec PyProof.Rows
abbrev FT:=Γ (Str×Nat×(Γ D->Δ D))
def mG(st:Ω):Γ Str:=((ah st).names.filter λy=>y.2 == .local || y.2 == .cell).map (·.1)
structure Ok(P:Program)(w:World)(K:W.Frag)(mg:Str->Option Value)(base:Heap)(is:List (Str×Int))(j:Nat)(l:FT):Prop where
 of:m6 P w K mg base j l
 oi:i4 mg is
 ob:∀x∈d4,mg x=none
 os:∃h:ι,K.In h/\h.Ns mainGlobals mg
section
variable {K:Φ}{st:Ω}{l:FT}
def up(h:Ok P w K mg base is j l)(e:j<=k):Ok P w K mg base is k l:=⟨λx n m z=>(h.of x n m z).mono e,h.oi,h.ob,h.os⟩
def Ro(h:Ok P w K mg base is j l)(F:EW P w K mg base j x n m):Ok P w K mg base is j ((x,n,m)::l):=⟨Rv F h.of,h.oi,h.ob,h.os⟩
def Us(h:Ok P w K mg base is j l)(D:ie K x st ps):Jm K mg x st ps:=let ⟨_,a,b⟩:=h.os;D.mg a b
def Vb(h:Ok P w K mg base is j l)(D:r6 K x st ps):OO K mg x st ps:=let ⟨_,a,b⟩:=h.os;D.mg a b
def fst(a:sc.kind=.function:=by kernel_rfl)(b:sc.isCoroutine=false:=by kernel_rfl)(c:sc.isGenerator=false:=by kernel_rfl)(d:N.Nodup:=by decide +kernel)(e:N.take P.length=P:=by kernel_rfl)(f:∀x∈P,sc.names.lookup x=some .local \/ sc.names.lookup x=some .cell:=by decide +kernel)(g:∀y∈sc.names,y.2≠.free:=by decide +kernel):bj N P sc:=⟨a,b,c,d,e,f,g⟩
abbrev mP(st:Ω)(n:Nat):Γ Str:=(mG st).take n
def on(st:Ω)(D:ie K x st (mP st n))(h:Ok P w K mg base is j l)(t:tW st (mG st) ⟨l,is⟩ none=some g:=by kernel_rfl)(F:bj (mG st) (mP st n) (ah st):=by exact fst)(e:(mP st n).length=n:=by kernel_rfl)(e':(mG st).length=k:=by kernel_rfl):Ok P w K mg base is (j+1) ((x,n,bN g k)::l):=by
 have:=Ro (up h (Nat.le_succ j)) (Va (Us h D) F h.ob h.of h.oi t);rw[e,e'] at this;exact this
def ol(st:Ω)(N:Γ Str)(q:Str)(D:r6 K x st (N.take n))(h:Ok P w K mg base is j l)(t:tW st N ⟨l,is⟩ (some q)=some g:=by kernel_rfl)(F:bj N (N.take n) (ah st):=by exact fst)(hq:x∈j5/\x++".<locals>."++"<lambda>"=q:=by decide +kernel)(e:(N.take n).length=n:=by kernel_rfl)(e':N.length=k:=by kernel_rfl):Ok P w K mg base is (j+4) ((x,n,bN g k)::l):=by
 have:=Ro (up h (jT j 4)) (UO (Vb h D) F h.ob h.of h.oi hq t);rw[e,e'] at this;exact this
end
end VC
namespace Ob
open PySem L2 PySem.Spec PyProof.Rows Dl
def cut(H B:Hp):Hp:=λb=>match B b with|none=>H b|some _=>none
def cx(h:cut H B b=some o):H b=some o/\B b=none:=by
 unfold cut at h;split at h
 ·rename_i e;exact⟨h,e⟩
 ·cases h
def eL(h:H b=some o)(e:B b=none):cut H B b=some o:=by
 unfold cut;rw[e];exact h
def ml(e:B b=some u):cut H B b=none:=by
 unfold cut;rw[e]
def GL(H B B':Hp):Hp:=λb=>match cut H B b with|some o=>some o|none=>B' b
def FZ(h:GL H B B' b=some o):cut H B b=some o\/B' b=some o:=by
 unfold GL at h;split at h
 ·rename_i e;cases h;exact .inl e
 ·exact .inr h
def LS(h:cut H B b=some o):GL H B B' b=some o:=by
 unfold GL;rw[h]
def Ic(h:cut H B b=none):GL H B B' b=B' b:=by
 unfold GL;rw[h]
inductive Fd where|val (d:D)|lst (ds:List D)
abbrev Fs:=Γ (Str×Fd)
inductive fZ(K:W.Frag)(HF B:Hp):Fs->List (Str×V)->List Addr->Prop
 | nil:fZ K HF B [] [] []
 | val {f:Str}{d:D}{v:V}{st:Fs}{fs:Γ (Str×V)}{as:Γ Ψ}(r:Rep K HF d v) (h:fZ K HF B st fs as):fZ K HF B ((f,.val d)::st) ((f,v)::fs) as
 | lst {f:Str}{ds:Γ D}{b:Ψ}{us:Γ V}{st:Fs}{fs:Γ (Str×V)}{as:Γ Ψ}(e:B b=some (.lst us)) (r:au K HF ds us) (h:fZ K HF B st fs as):fZ K HF B ((f,.lst ds)::st) ((f,.ref b)::fs) (b::as)
def fZ.imp{K:Φ}{st:Fs}{fs:Γ (Str×V)}(s:aB HF Vt)(e:∀b∈as,∀us,B b=some (.lst us)->B' b=some (.lst us))(h:fZ K HF B st fs as):fZ K Vt B' st fs as:=by
 induction h with
 | nil=>exact .nil
 | val r h ih=>exact .val (r.mono s) (ih e)
 | lst e1 r h ih=>exact .lst (e _ zE _ e1) (r.mono s) (ih λb hb=>e b (zC _ hb))
structure wb(K:W.Frag)(HF B:Hp)(C a:Addr)(st:Fs):Prop where
 ex:∃dx fs as,B a=some (.ins C dx fs)/\B dx=some (.own a)/\fZ K HF B st fs as/\as.Nodup
def wb.mono{K:Φ}{st:Fs}(h:wb K HF B C a st)(s:aB HF Vt):wb K Vt B C a st :=
 let ⟨dx,fs,as,e1,e2,e3,e4⟩:=h.ex
 ⟨dx,fs,as,e1,e2,e3.imp s λ_ _ _ z=>z,e4⟩
structure Oj where
 C:Ψ
 st:Fs
structure n5(K:W.Frag)(Vr H₀:Hp)(pa:List Addr)(HF H:Hp)(ρ:ao)(os:List Oj)(σ:L2.St)(HB:Hp)(ad:Nat->Addr)(Bs:Nat->Hp):Prop where
 S:fF K Vr ⟨HB,ad⟩ HF H ρ σ
 h0:aB H₀ HB
 at_:∀k o,os[k]?=some o->wb K HF (Bs k) o.C (ad k) o.st
 sb:∀k,k < os.length->aB (Bs k) HB
 fr:∀k,k < os.length->∀b o,Bs k b=some o->H₀ b=none/\Vr b=none
 dj:∀j k,j < os.length->k < os.length->j≠k->∀b o,Bs j b=some o->Bs k b=none
 pl:pa.length<=os.length
 pa:∀k a,pa[k]?=some a->ad k=a
def fO(K:Φ)(Vr H₀:Hp)(pa:Γ Ψ)(HF H:Hp)(ρ:ao)(os:Γ Oj)(σ:L2.St):Prop:=∃HB ad Bs,n5 K Vr H₀ pa HF H ρ os σ HB ad Bs
section
variable {K:Φ}{Vr H₀ HF H:Hp}{pa:Γ Ψ}{ρ:ao}{os:Γ Oj}{σ:L2.St}{HB:Hp}{ad:Nat->Ψ}{Bs:Nat->Hp}
def n5.pure(h:n5 K Vr H₀ pa HF H ρ os σ HB ad Bs)(S':fF K Vr ⟨HB,ad⟩ Vt H' ρ' σ')(s:aB HF Vt):n5 K Vr H₀ pa Vt H' ρ' os σ' HB ad Bs :=
 ⟨S',h.h0,λk o e=>(h.at_ k o e).mono s,h.sb,h.fr,h.dj,h.pl,h.pa⟩
def n5.nf(h:n5 K Vr H₀ pa HF H ρ os σ HB ad Bs)(hk:k < os.length)(e:Bs k b=some o):HF b=none:=by
 cases z:HF b with
 | none=>rfl
 | some u =>
  rcases h.S.gr.nw b u z with q|q
  ·rw[(h.fr k hk b o e).2] at q;cases q
  ·have:=h.sb k hk b o e;rw[show HB b=none from q] at this;cases this
def zj(S:fF K Vr ⟨HB,ad⟩ HF H ρ σ)(gr:bA Vr HB' Vt H')(ff:aB HF Vt)(e:∀b o,HB b=none->H b=some o->H' b=some o/\HB' b=none/\(HF b=none->Vt b=none))
  (ha:∀ (i k:Nat),ρ[i]?=some (Slot.obj k)->ad' k=ad k):fF K Vr ⟨HB',ad'⟩ Vt H' ρ σ where
 gr:=gr
 val:=λi d h=>let ⟨v,a,b⟩:=S.val i d h;⟨v,a,b.mono ff⟩
 own:=λi ds h=>by
  let⟨a,vs,e1,e2,e3,e5,e4⟩:=S.own i ds h;let⟨z1,z2,z3⟩:=e a _ e5 e2;exact⟨a,vs,e1,z1,z3 e3,z2,e4.mono ff⟩
 inj:=S.inj
 len:=S.len
 tb:=S.tb.mono ff
 tab:=λi ks h=>by
  let⟨a,VP,e1,e2,e3,e5,e4⟩:=S.tab i ks h;let⟨z1,z2,z3⟩:=e a _ e5 e2;exact⟨a,VP,e1,z1,z3 e3,z2,e4.1,e4.2.mono ff⟩
 one:=S.one
 ob:=λi k h=>by
  show σ[i]?=some (some (.ref (ad' k)));rw[ha i k h];exact S.ob i k h
structure p6(HF H B Vt H' B':Hp):Prop where
 gr:bA HF (cut H B) Vt H'
 sb:aB B' H'
 nw:∀b o,B' b=some o->Vt b=none/\cut H B b=none
def n5.turn(h:n5 K Vr H₀ pa HF H ρ os σ HB ad Bs)(hk:os[k]?=some ob)(t:p6 HF H (Bs k) Vt H' B')(q:wb K Vt B' ob.C (ad k) VI) :
  n5 K Vr H₀ pa Vt H' ρ (os.set k ⟨ob.C,VI⟩) σ (GL HB (Bs k) B') ad (λj=>if j=k then B' else Bs j):=by
 have kl:k < os.length:=(List.getElem?_eq_some_iff.mp hk).1;have g:=h.S.gr;have hh:aB HB H:=g.hh;have up:∀b o,cut HB (Bs k) b=some o->cut H (Bs k) b=some o:=λb o e=>let ⟨e1,e2⟩:=cx e;eL (hh b o e1) e2;have g':bA Vr (GL HB (Bs k) B') Vt H':=by
  refine⟨λb o e=>?_,g.ff.trans t.gr.ff,t.gr.fh,λb o e=>?_⟩
  ·rcases FZ e with z|z
   ·exact t.gr.hh b o (up b o z)
   ·exact t.sb b o z
  ·have nb:B' b=none:=by
    cases z:B' b with
    | none=>rfl
    | some u=>rw[(t.nw b u z).1] at e;cases e
   have fin:HB b=none\/cut H (Bs k) b=none->GL HB (Bs k) B' b=none:=λz=>by
    have:cut HB (Bs k) b=none:=by
     cases c:cut HB (Bs k) b with
     | none=>rfl
     | some u =>
      rcases z with z|z
      ·have:=(cx c).1;rw[z] at this;cases this
      ·rw[up b u c] at z;cases z
    rw[Ic this];exact nb
   rcases t.gr.nw b o e with z|z
   ·rcases g.nw b o z with y|y
    ·exact .inl y
    ·exact .inr (fin (.inl y))
   ·exact .inr (fin (.inr z))
 refine⟨zj h.S g' t.gr.ff (λb o e1 e2=>?_) λ_ _ _=>rfl,λb o e=>?_,λj o e=>?_,λj hj b o e=>?_,λj hj b o e=>?_,λi j hi hj ne b o e=>?_,by rw[yC];exact h.pl,h.pa⟩
 ·have bk:Bs k b=none:=by
   cases z:Bs k b with
   | none=>rfl
   | some u=>have:=h.sb k kl b u z;rw[e1] at this;cases this
  have ch:=eL e2 bk;refine⟨t.gr.hh b o ch,?_,λe3=>t.gr.V6 e3 ch⟩;have:cut HB (Bs k) b=none:=by
   cases c:cut HB (Bs k) b with
   | none=>rfl
   | some u=>have:=(cx c).1;rw[e1] at this;cases this
  rw[Ic this];cases z:B' b with
  | none=>rfl
  | some u=>have:=(t.nw b u z).2;rw[ch] at this;cases this
 ·refine LS (eL (h.h0 b o e) ?_);cases z:Bs k b with
  | none=>rfl
  | some u=>have:=(h.fr k kl b u z).1;rw[e] at this;cases this
 ·show wb K Vt (if j=k then B' else Bs j) o.C (ad j) o.st;rw[xH] at e;by_cases hj:k=j
  ·rw[yK hj,yK (hj ▸ kl)] at e;cases e;rw[yK hj.symm,<- hj];exact q
  ·rw[yM hj] at e;rw[yM λz=>hj z.symm];exact (h.at_ j o e).mono t.gr.ff
 ·rw[yC] at hj;have e:(if j=k then B' else Bs j) b=some o:=e;by_cases VD:j=k
  ·rw[yK VD] at e;have c:=(t.nw b o e).2;have:cut HB (Bs k) b=none:=by
    cases z:cut HB (Bs k) b with
    | none=>rfl
    | some u=>rw[up b u z] at c;cases c
   rw[Ic this];exact e
  ·rw[yM VD] at e;exact LS (eL (h.sb j hj b o e) (h.dj j k hj kl VD b o e))
 ·rw[yC] at hj;have e:(if j=k then B' else Bs j) b=some o:=e;by_cases VD:j=k
  ·rw[yK VD] at e;let⟨n1,n2⟩:=t.nw b o e;have z1:H₀ b=none:=by
    cases z:H₀ b with
    | none=>rfl
    | some u =>
     have e1:=h.h0 b u z;cases y:Bs k b with
     | none=>rw[eL (hh b u e1) y] at n2;cases n2
     | some w=>rw[(h.fr k kl b w y).1] at z;cases z
   refine⟨z1,?_⟩;cases z:Vr b with
   | none=>rfl
   | some u=>rw[t.gr.ff b u (g.ff b u z)] at n1;cases n1
  ·rw[yM VD] at e;exact h.fr j hj b o e
 ·rw[yC] at hi hj;have e:(if i=k then B' else Bs i) b=some o:=e;show (if j=k then B' else Bs j) b=none;by_cases W5:i=k
  ·rw[yK W5] at e;rw[yM λz=>ne (W5.trans z.symm)];cases z:Bs j b with
   | none=>rfl
   | some u =>
    have jk:j≠k:=λz=>ne (W5.trans z.symm);have:=(t.nw b o e).2;rw[eL (hh b u (h.sb j hj b u z)) (h.dj j k hj kl jk b u z)] at this;cases this
  ·rw[yM W5] at e;by_cases VD:j=k
   ·rw[yK VD];cases z:B' b with
    | none=>rfl
    | some u =>
     have:=(t.nw b u z).2;rw[eL (hh b o (h.sb i hi b o e)) (h.dj i k hi kl W5 b o e)] at this;cases this
   ·rw[yM VD];exact h.dj i j hi hj ne b o e
end
inductive Dv where
 | nx (ρ:ao) (os:Γ Oj)|rt (d:D) (os:Γ Oj)
def SC(K:Φ)(Vr H₀:Hp)(pa:Γ Ψ)(HF:Hp)(E:Ends):Dv->Prop
 | .nx ρ' Vz=>∀σ' H' Vt,fO K Vr H₀ pa Vt H' ρ' Vz σ'->aB HF Vt->E.nx σ' H'
 | .rt d Vz=>∀v H' Vt,fO K Vr H₀ pa Vt H' [] Vz []->Rep K Vt d v->E.rt v H'
abbrev OG:=ao->Γ Oj->Δ Dv
def tO(K:Φ)(Vr H₀:Hp)(pa:Γ Ψ)(g:OG):TS:=λE σ H=>∃HF ρ os o,fO K Vr H₀ pa HF H ρ os σ/\g ρ os=some o/\SC K Vr H₀ pa HF E o
def OS(X:Cx)(Vr H₀:Hp)(pa:Γ Ψ)(st:Ω)(g:OG):Prop:=PS X st (tO X.K Vr H₀ pa g)
def ER(X:Cx)(Vr H₀:Hp)(pa:Γ Ψ)(st:Γ Ω)(g:OG):Prop:=uC X st (tO X.K Vr H₀ pa g)
abbrev OF:=ao->Γ Oj->Δ (D×Γ Oj)
def Qa(K:Φ)(Vr H₀:Hp)(pa:Γ Ψ)(f:OF):TE:=λσ H Q=>∃HF ρ os d Vz,fO K Vr H₀ pa HF H ρ os σ/\f ρ os=some (d,Vz)/\∀v H' Vt,fO K Vr H₀ pa Vt H' ρ Vz σ->aB HF Vt->Rep K Vt d v->Q v H'
def OE(X:Cx)(Vr H₀:Hp)(pa:Γ Ψ)(e:γ)(f:OF):Prop:=PE X e (Qa X.K Vr H₀ pa f)
abbrev tH:=ao->Γ Oj->Δ (θ×Γ Oj)
def SJ(K:Φ)(Vr H₀:Hp)(pa:Γ Ψ)(f:tH):TT:=λσ H Q=>∃HF ρ os b Vz,fO K Vr H₀ pa HF H ρ os σ/\f ρ os=some (b,Vz)/\∀H' Vt,fO K Vr H₀ pa Vt H' ρ Vz σ->aB HF Vt->Q b H'
def OT(X:Cx)(Vr H₀:Hp)(pa:Γ Ψ)(e:γ)(f:tH):Prop:=PT X e (SJ X.K Vr H₀ pa f)
def OW(X:Cx)(Vr H₀:Hp)(pa:Γ Ψ)(e:γ)(f:tH):Prop:=PW X e (SJ X.K Vr H₀ pa f)
abbrev sP:=ao->Γ Oj->Δ (Γ D×Γ Oj)
def Uu(K:Φ)(Vr H₀:Hp)(pa:Γ Ψ)(f:sP):TA:=λσ H Q=>∃HF ρ os ds Vz,fO K Vr H₀ pa HF H ρ os σ/\f ρ os=some (ds,Vz)/\∀vs H' Vt,fO K Vr H₀ pa Vt H' ρ Vz σ->aB HF Vt->au K Vt ds vs->Q vs H'
def OA(X:Cx)(Vr H₀:Hp)(pa:Γ Ψ)(es:Γ γ)(f:sP):Prop:=PA X es (Uu X.K Vr H₀ pa f)
section
variable {X:Cx}{Vr H₀ HF H Vt H':Hp}{pa:Γ Ψ}{ρ ρ':ao}{os Vz:Γ Oj}{σ σ':L2.St}{st:Ω}{rest:Γ Ω}{e a b c:γ}{es:Γ γ}{pos:Pos}{g1 g2:OG}
def SC.mono{K:Φ}(s:aB HF Vt)(h:SC K Vr H₀ pa HF E o):SC K Vr H₀ pa Vt E o:=by
 cases o with
 | nx ρ' Vz=>exactλσ' H' VG S s2=>h σ' H' VG S (s.trans s2)
 | rt d Vz=>exact h
def fO.ends{K:Φ}(h:fO K Vr H₀ pa HF H ρ os σ):fO K Vr H₀ pa HF H [] os [] :=
 let ⟨HB,ad,Bs,o⟩:=h
 ⟨HB,ad,Bs,o.pure ⟨o.S.gr,λi d z=>by simp at z,λi d z=>by simp at z,λi j d e a z=>by simp at z,yL _,o.S.tb,λi d z=>by simp at z,λi j d e z=>by simp at z,λi k z=>by simp at z⟩ (.refl _)⟩
def fO.grow{K:Φ}(h:fO K Vr H₀ pa HF H ρ os σ)(g:bA HF H Vt H'):fO K Vr H₀ pa Vt H' ρ os σ :=
 let ⟨HB,ad,Bs,o⟩:=h
 ⟨HB,ad,Bs,o.pure (o.S.grow g) g.ff⟩
def fO.step{K:Φ}(h:fO K Vr H₀ pa HF H ρ os σ)(g:aB H H'):fO K Vr H₀ pa HF H' ρ os σ :=
 let ⟨HB,ad,Bs,o⟩:=h
 ⟨HB,ad,Bs,o.pure (o.S.step g) (.refl _)⟩
def fO.all{K:Φ}(h:fO K Vr H₀ pa HF H ρ os σ):cB K H (aQ ρ) σ:=let ⟨_,_,_,o⟩:=h;o.S.all
def fO.V5{K:Φ}(h:fO K Vr H₀ pa HF H ρ os σ):cB K HF (bp ρ) σ:=let ⟨_,_,_,o⟩:=h;o.S.V5
def fO.fh{K:Φ}(h:fO K Vr H₀ pa HF H ρ os σ):aB HF H:=let ⟨_,_,_,o⟩:=h;o.S.gr.fh
def fO.hand{K:Φ}(h:fO K Vr H₀ pa HF H ρ os σ)(fz:Γ Nat):∃Vu,aB HF Vu/\fO K Vr H₀ pa Vu H (hand fz 0 ρ) os σ :=
 let ⟨HB,ad,Bs,o⟩:=h;let ⟨Vu,s1,S1⟩:=o.S.hand fz
 ⟨Vu,s1,HB,ad,Bs,o.pure S1 s1⟩
def fO.Wc{K:Φ}(h:fO K Vr H₀ pa HF H ρ os σ)(r:Rep K HF d v):fO K Vr H₀ pa HF H (ρ.set i (.val d)) os (σ.set i (some v)) :=
 let ⟨HB,ad,Bs,o⟩:=h
 ⟨HB,ad,Bs,o.pure (o.S.Wc r) (.refl _)⟩
def gL(g:ao->Δ Out):OG:=λρ os=>(g ρ).bind fun|.nx ρ'=>some (.nx ρ' os)|.rt _=>none
def Py{K:Φ}(h:tO K Vr H₀ pa (gL g) E σ H):∃V3,tS K Vr V3 g E σ H:=by
 let⟨HF,ρ,os,o,⟨HB,ad,Bs,ok⟩,hg,q⟩:=h;let⟨o1,h1,hg⟩:=bs hg;refine⟨⟨HB,ad⟩,HF,ρ,o1,ok.S,h1,?_⟩;cases o1 with
 | nx ρ'=>cases hg;exactλσ' H' Vt S' s=>q σ' H' Vt ⟨HB,ad,Bs,ok.pure S' s⟩ s
 | rt d=>cases hg
def Cd(h:∀V3,DS X Vr V3 st g):OS X Vr H₀ pa st (gL g):=λpins s σ H E I q=>let ⟨V3,z⟩:=Py q;h V3 pins s σ H E I z
def EV:OG:=λρ os=>some (.nx ρ os)
def bg(g1 g2:OG):OG:=λρ os=>(g1 ρ os).bind fun|.nx ρ' Vz=>g2 ρ' Vz|.rt d Vz=>some (.rt d Vz)
def Kp:ER X Vr H₀ pa [] EV:=p9 uZ λE σ H z=>by let⟨HF,ρ,os,o,S,hg,q⟩:=z;cases hg;exact q σ H HF S (.refl _)
def Gv(h1:OS X Vr H₀ pa st g1)(h2:ER X Vr H₀ pa rest g2):ER X Vr H₀ pa (st::rest) (bg g1 g2):=p9 (dM h1 h2) λE σ H z=>by
 sleep 11;let⟨o1,h,hg⟩:=bs hg;refine⟨HF,ρ,os,o1,S,h,?_⟩;cases o1 with
 | nx ρ' Vz=>exactλσ' H' Vt S' s=>⟨Vt,ρ',Vz,o,S',hg,q.mono s⟩
 | rt d Vz=>cases hg;exact q
def Kh(h1:OS X Vr H₀ pa st g1):ER X Vr H₀ pa [st] g1:=pX h1
def cm(fz:Γ Nat)(g:OG):OG:=λρ os=>g (hand fz 0 ρ) os
def Cw(fz:Γ Nat)(h:OS X Vr H₀ pa st g1):OS X Vr H₀ pa st (cm fz g1):=aW h λE σ H z=>by
 sleep 11;let⟨Vu,s1,S1⟩:=S.hand fz;exact⟨Vu,_,os,o,S1,hg,q.mono s1⟩
def oD(f:Dl.Env->Δ D):OF:=λρ os=>match f (bp ρ) with
 | some d=>some (d,os)
 | none=>(f (aQ ρ)).bind λd=>if jq d=true then some (d,os) else none
def KD(h:DE X e f):OE X Vr H₀ pa e (oD f):=aM h λσ H Q z=>by
 sleep 9;unfold oD at hf;split at hf
 ·rename_i d1 e1;cases hf;exact⟨HF,bp ρ,d,S.fh,S.V5,e1,λv H' Vt G r=>q v H' Vt (S.grow G) G.ff r⟩
 ·let⟨d1,e1,hf⟩:=bs hf;split at hf
  ·rename_i hs;cases hf;exact⟨H,aQ ρ,d,.refl _,S.all,e1,λv H' Vt G r=>q v H' HF (S.step G.hh) (.refl _) (rq hs r)⟩
  ·cases hf
def tM(g:D->D->Δ D)(fa fb:OF):OF:=λρ os=>(fa ρ os).bind λx=>(fb ρ x.2).bind λy=>(g x.1 y.1).map (·,y.2)
def LH(hr:eA X.K r g):∀σ H Q,Qa X.K Vr H₀ pa (tM g fa fb) σ H Q->PY r (Qa X.K Vr H₀ pa fa) (Qa X.K Vr H₀ pa fb) σ H Q:=λσ H Q z=>by
 sleep 9;let⟨⟨x,o1⟩,hx,hf⟩:=bs hf;let⟨⟨y,o2⟩,hy,hf⟩:=bs hf;let⟨z,hz,e⟩:=ae hf;cases e;exact⟨HF,ρ,os,x,o1,S,hx,λv1 H1 Vu S1 s1 r1=>⟨Vu,ρ,o1,y,_,S1,hy,λv2 H2 VG S2 s2 r2=>hr VG H2 x y v1 v2 _ Q S2.fh (r1.mono s2) r2 hz λv H' Vt g3 r3=>q v H' Vt (S2.grow g3) ((s1.trans s2).trans g3.ff) r3⟩⟩
def NQ(ho:gH X (compareOp op) r)(hr:eA X.K r g)(ha:OE X Vr H₀ pa a fa)(hb:OE X Vr H₀ pa b fb)(hm:behindInMarks op b=false):OE X Vr H₀ pa (.Compare a [op] [b] pos) (tM g fa fb):=aM (CV ho ha hb hm) (LH hr)
end
section
variable {X:Cx}{Vr H₀ HF H Vt H':Hp}{pa:Γ Ψ}{ρ ρ':ao}{os Vz:Γ Oj}{σ σ':L2.St}{st:Ω}{rest:Γ Ω}{e a b c:γ}{es:Γ γ}{pos:Pos}{g1 g2:OG}{fa fb:OF}{ta tb:tH}
def Eg(fa fb:OF):OF:=λρ os=>(fa ρ os).bind λx=>match x.1 with|.bool true=>fb ρ x.2|.bool false=>some (.bool false,x.2)|_=>none
def OH(h:OE X Vr H₀ pa a fa):OE X Vr H₀ pa (.BoolOp op [a] pos) fa:=F2 h
def Oh(ha:OE X Vr H₀ pa a fa)(hb:OE X Vr H₀ pa (.BoolOp .And (b::es) pos) fb):OE X Vr H₀ pa (.BoolOp .And (a::b::es) pos) (Eg fa fb):=aM (E6 ha hb) λσ H Q z=>by
 sleep 9;let⟨⟨x,o1⟩,hx,hf⟩:=bs hf;refine⟨HF,ρ,os,x,o1,S,hx,λv1 H1 Vu S1 s1 r1=>?_⟩;cases x<;>try cases hf
 rename_i k;simp?[Rep] at r1;refine⟨k,r1,?_⟩;cases k with
 | true=>exact sj ⟨Vu,ρ,o1,d,Vz,S1,hf,λv H' Vt S' s r=>q v H' Vt S' (s1.trans s) r⟩
 | false=>cases hf;exact pR (q _ H1 Vu S1 s1 (by simp[Rep]))
def oB(f:OF):tH:=λρ os=>(f ρ os).bind λx=>(gB x.1).map (·,x.2)
def CZ:∀σ H (Q:θ->Hp->Prop),SJ X.K Vr H₀ pa (oB f) σ H Q->Qa X.K Vr H₀ pa f σ H λx H1=>∃c,x=.bl c/\Q c H1:=λσ H Q z=>by
 let⟨HF,ρ,os,k,Vz,S,hf,q⟩:=z;let⟨⟨x,o1⟩,hx,hf⟩:=bs hf;refine⟨HF,ρ,os,x,o1,S,hx,λv1 H1 Vu S1 s1 r1=>?_⟩;cases x<;>try cases hf
 simp?[Rep] at r1;exact⟨_,r1,q H1 Vu S1 s1⟩
def PB(h:OE X Vr H₀ pa a f)(he:∀whole,isTrue a X.env whole=(do let v <- whole;standAt a.pos;holding [v] (truthy v)):=by intro _;rfl):OT X Vr H₀ pa a (oB f):=j8 (Hw h he) CZ
def Na(ho:gH X (compareOp op) r)(hr:eA X.K r g)(ha:OE X Vr H₀ pa a fa)(hb:OE X Vr H₀ pa b fb)(hm:behindInMarks op b=false):OT X Vr H₀ pa (.Compare a [op] [b] pos) (oB (tM g fa fb)) :=
 j8 (vo ho ha hb hm) λσ H Q h=>LH hr σ H _ (CZ σ H Q h)
def oT(f:Dl.Env->Δ θ):tH:=λρ os=>(f (aQ ρ)).map (·,os)
def KF(h:DT X e f):OT X Vr H₀ pa e (oT f):=j8 h λσ H Q z=>by
 let⟨HF,ρ,os,b,Vz,S,hf,q⟩:=z;let⟨b1,e1,z⟩:=ae hf;cases z;exact⟨H,aQ ρ,b,.refl _,S.all,e1,λH' Vt G=>q H' HF (S.step G.hh) (.refl _)⟩
def vt(fa fb:tH):tH:=λρ os=>(fa ρ os).bind λx=>match x.1 with|true=>some (true,x.2)|false=>fb ρ x.2
def zx(fa:tH):tH:=λρ os=>(fa ρ os).map λx=>(!x.1,x.2)
def OW.ot(h:OW X Vr H₀ pa a ta):OT X Vr H₀ pa a ta:=PW.pt h
def ML(ha:OT X Vr H₀ pa a ta):OW X Vr H₀ pa (.BoolOp .Or [a] pos) ta:=Gp ha
def Q9(ha:OT X Vr H₀ pa a ta)(hb:OW X Vr H₀ pa (.BoolOp .Or (b::es) pos) tb):OW X Vr H₀ pa (.BoolOp .Or (a::b::es) pos) (vt ta tb):=Ar (Mf ha hb) λσ H Q z=>by
 sleep 9;let⟨⟨x,o1⟩,hx,hf⟩:=bs hf;refine⟨HF,ρ,os,x,o1,S,hx,λH1 Vu S1 s1=>?_⟩;cases x with
 | false=>exact pR ⟨Vu,ρ,o1,d,Vz,S1,hf,λH' Vt S' s=>q H' Vt S' (s1.trans s)⟩
 | true=>cases hf;exact sj (q H1 Vu S1 s1)
def M7(ha:OT X Vr H₀ pa a ta):OT X Vr H₀ pa (.UnaryOp .Not a pos) (zx ta):=j8 (FF ha) λσ H Q z=>by
 sleep 9;let⟨⟨k,o1⟩,hx,z⟩:=ae hf;cases z;exact⟨HF,ρ,os,k,o1,S,hx,λH1 Vu S1 s1=>q H1 Vu S1 s1⟩
def bq:sP:=λ_ os=>some ([],os)
def aV(f:OF)(g:sP):sP:=λρ os=>(f ρ os).bind λx=>(g ρ x.2).map λy=>(x.1::y.1,y.2)
def Pz:OA X Vr H₀ pa [] bq:=iO cF λσ H Q z=>by let⟨HF,ρ,os,d,Vz,S,hf,q⟩:=z;cases hf;exact q [] H HF S (.refl _) au.nil
def Lx(he:OE X Vr H₀ pa e fa)(hs:OA X Vr H₀ pa es g)(WQ:starEach (e::es) X.env=(false,eval e X.env)::starEach es X.env:=by rfl):OA X Vr H₀ pa (e::es) (aV fa g) :=
 iO (ba he hs WQ) λσ H Q z=>by
  sleep 9;let⟨⟨x,o1⟩,hx,hf⟩:=bs hf;let⟨⟨xs,o2⟩,hy,z⟩:=ae hf;cases z;exact⟨HF,ρ,os,x,o1,S,hx,λv1 H1 Vu S1 s1 r1=>⟨Vu,ρ,o1,xs,_,S1,hy,λvs H2 VG S2 s2 r2=>q (v1::vs) H2 VG S2 (s1.trans s2) (au.cons (r1.mono s2) r2)⟩⟩
def xc(t:tH)(g1 g2:OG):OG:=λρ os=>(t ρ os).bind λx=>if x.1=true then g1 ρ x.2 else g2 ρ x.2
def QN(hc:OT X Vr H₀ pa c ta)(ha:ER X Vr H₀ pa ss g1)(hb:ER X Vr H₀ pa us g2):OS X Vr H₀ pa (.If c ss us pos) (xc ta g1 g2):=aW (Dh hc ha hb) λE σ H z=>by
 sleep 11;let⟨⟨b,o1⟩,h,hg⟩:=bs hg;refine⟨HF,ρ,os,b,o1,S,h,λH' Vt S' s=>?_⟩;cases b with
 | true=>exact sj ⟨Vt,ρ,o1,o,S',hg,q.mono s⟩
 | false=>exact pR ⟨Vt,ρ,o1,o,S',hg,q.mono s⟩
def f9(f:OF):OG:=λρ os=>(f ρ os).map λx=>.rt x.1 x.2
def MT(h:OE X Vr H₀ pa e fa):OS X Vr H₀ pa (.Return (some e) pos) (f9 fa):=aW (u9 h) λE σ H z=>by
 sleep 11;let⟨⟨d,o1⟩,h,z⟩:=ae hg;cases z;exact⟨HF,ρ,os,d,o1,S,h,λv H' Vt S' s r=>q v H' Vt S'.ends r⟩
def vj(i:Nat)(f:OF):OG:=λρ os=>(f ρ os).map λx=>.nx (ρ.set i (.val x.1)) x.2
def PL(i:Nat)(hN:X.N.Nodup)(hi:X.N[i]?=some x)(hx:Loc X.env.scope x)(he:OE X Vr H₀ pa e fa)(hs:swapsWith e (some (.Name x pos')) pos.line X.env=pure false:=by rfl)
  (hf:X.fn x=true\/X.env.scope.names.lookup x=some .local:=by first|exact .inl rfl|exact .inr rfl|assumption):OS X Vr H₀ pa (.Assign [.Name x pos'] e pos) (vj i fa):=aW (lb hN hi hx he hs hf) λE σ H z=>by
 sleep 11;let⟨⟨d,o1⟩,h,z⟩:=ae hg;cases z;exact⟨HF,ρ,os,d,o1,S,h,λv H' Vt S' s r=>q _ H' Vt (S'.Wc r) s⟩
def mf(f:OF):OG:=λρ os=>(f ρ os).map λx=>.nx ρ x.2
def O7(he:OE X Vr H₀ pa e fa)(hs:swapsWith e none pos.line X.env=pure false:=by rfl):OS X Vr H₀ pa (.Expr e pos) (mf fa):=aW (gP he hs) λE σ H z=>by
 sleep 11;let⟨⟨d,o1⟩,h,z⟩:=ae hg;cases z;exact⟨HF,ρ,os,d,o1,S,h,λv H' Vt S' s r=>q σ H' Vt S' s⟩
end
section
variable {os Vz:Γ Oj}{st:Ω}{rest:Γ Ω}
def fO.tbs{K:Φ}(h:fO K Vr H₀ pa HF H ρ os σ):cy K HF:=let ⟨_,_,_,o⟩:=h;o.S.tb
def lu(n:Nat)(m:Γ D->Δ D)(fs:sP):OF:=λρ os=>(fs ρ os).bind λx=>if x.1.length=n then (m x.1).map (·,x.2) else none
def K2{fs:sP}(F:EW X.prog X.w X.K X.mg X.base k x n m)(hr:cJ k X.A)(hg:Gl X x)(ha:OA X Vr H₀ pa (e::es) fs)(Wz:(x == ("__debug__":Str))=false:=by decide)
  (he:starEach (e::es) X.env=(false,eval e X.env)::starEach es X.env:=by rfl) (V1:(backTo pos (starEach es X.env)).any (·.1)=false:=by rfl):OE X Vr H₀ pa (.Call (.Name x p) (e::es) [] pos) (lu n m fs):=by
 let⟨f,fd,ps,ok,hm,hk,hb⟩:=F.ex;refine aM (vf (E:=E0) ok hr hg hm hk hb .nil pw ha Wz he V1) λσ H Q z=>?_;sleep 9;let⟨⟨ds,o1⟩,hx,hf⟩:=bs hf;split at hf
 ·rename_i hl;let⟨d1,hd,z⟩:=ae hf;cases z;exact⟨HF,ρ,os,ds,o1,S,hx,λvs H1 Vu S1 s1 r1=>⟨Vu,ds,d,S1.fh,S1.tbs,by rw[qE];exact r1,hl,hd,λv H' Vt g r=>q v H' Vt (S1.grow g) (s1.trans g.ff) r⟩⟩
 ·cases hf
def gN(tgt:ao->D->Δ ao)(gb:OG):Γ D->OG
 | [],ρ,os=>some (.nx ρ os)
 | d::ds,ρ,os=>(tgt ρ d).bind λρ1=>(gb ρ1 os).bind fun|.nx Wb Wl=>gN tgt gb ds Wb Wl|.rt v Wl=>some (.rt v Wl)
def r9(fz:Γ Nat)(fi:Dl.Env->Δ (Γ D))(tgt:ao->D->Δ ao)(gb:OG):OG:=λρ os=>(fi (bp (hand fz 0 ρ))).bind λds=>gN tgt gb ds (hand fz 0 ρ) os
def U9(K:Φ)(Vr H₀:Hp)(pa:Γ Ψ)(f:ao->D->Δ ao):TG:=λv σ H Q=>∃HF ρ os d ρ',fO K Vr H₀ pa HF H ρ os σ/\Rep K HF d v/\f ρ d=some ρ'/\∀σ',fO K Vr H₀ pa HF H ρ' os σ'->Q σ' H
def RT(h:∀V3,P6 X Vr V3 tg tgt):PG X tg (U9 X.K Vr H₀ pa tgt):=λpins s σ H v u Q I r ⟨HF,ρ,os,d,ρ',⟨HB,ad,Bs,o⟩,rd,hf,q⟩ =>
 h ⟨HB,ad⟩ pins s σ H v u Q I r ⟨HF,ρ,d,ρ',o.S,rd,hf,λσ' S'=>q σ' ⟨HB,ad,Bs,o.pure S' (.refl _)⟩⟩
def MN(fz:Γ Nat)(hp:PassesOwn (model X.prog X.w) X.A X.env X.xe)(hc:X.calm=true)(hi:DI X tg iter fi)(hg:∀V3,P6 X Vr V3 tg tgt)(hb:ER X Vr H₀ pa body gb)
  (hs:∀x,foldedSetIterable iter X.env x=pure x:=by intro _;rfl):OS X Vr H₀ pa (.For tg iter body [] pos) (r9 fz fi tgt gb):=aW (GD hp hc hi (RT (H₀:=H₀) (pa:=pa) hg) hb hs) λE σ H z=>by
 sleep 11;let⟨ds,h,hg⟩:=bs hg;let⟨Vu,s1,S1⟩:=S.hand fz;refine⟨Vu,_,ds,S1.fh,S1.V5,h,λJ H2 VG G it=>?_⟩;refine⟨λi m σ' H'=>m+i=ds.length/\∃Vt ρ' Vz,fO X.K Vr H₀ pa Vt H' ρ' Vz σ'/\aB VG Vt/\gN tgt gb (ds.drop i) ρ' Vz=some o,⟨ds.length,rfl,VG,_,os,S1.grow G,.refl _,hg⟩,?_⟩;rintro i m σ' H' ⟨hm,Vt,ρ',Vz,S',s',hf⟩;by_cases hi:i < ds.length
 ·refine .inr ?_;have hd:ds.drop i=ds[i]::ds.drop (i+1):=kR hi;have he:ds[i]?=some ds[i]:=List.getElem?_eq_some_iff.mpr ⟨hi,rfl⟩;generalize ds[i]=d at hd he;rw[hd] at hf;unfold gN at hf;let⟨ρ1,h1,hf⟩:=bs hf;let⟨o1,h2,hf⟩:=bs hf;let⟨go,YA⟩:=it.go i d H' Vt he s' S'.fh;refine⟨go,λWW H3=>∃VW WS Y1,fO X.K Vr H₀ pa VW H3 WS Y1 WW/\aB VG VW/\gN tgt gb (ds.drop (i+1)) WS Y1=some o,λWW H3 z=>by let⟨VW,WS,Y1,a1,a2,a3⟩:=z;exact ⟨m - 1,by lia,by lia,VW,WS,Y1,a1,a2,a3⟩,λx H3 y=>?_⟩;let⟨VW,G3,rx⟩:=YA x H3 y;refine⟨VW,ρ',Vz,d,ρ1,S'.grow G3,rx,h1,λWW S2=>⟨VW,ρ1,Vz,o1,S2,h2,?_⟩⟩;cases o1 with
  | nx Wb Wl=>exactλσ4 H4 WK S4 s4=>⟨WK,Wb,Wl,S4,(s'.trans G3.ff).trans s4,hf⟩
  | rt d Wl=>cases hf;exact q
 ·have Wv:i=ds.length:=by lia
  subst Wv;rw[List.drop_length] at hf;cases hf;exact .inl ⟨it.stop H' Vt s' S'.fh,q σ' H' Vt S' ((s1.trans G.ff).trans s')⟩
end
inductive ix(K:W.Frag)(HF:Hp)(a:Addr):List Slot->List V->Prop
 | nil:ix K HF a [] []
 | val {d:D}{v:V}{r:Γ Slot}{vs:Γ V}(h:Rep K HF d v) (t:ix K HF a r vs):ix K HF a (.val d::r) (v::vs)
 | obj {r:Γ Slot}{vs:Γ V}(t:ix K HF a r vs):ix K HF a (.obj 0::r) (.ref a::vs)
def ix.length{K:Φ}(h:ix K HF a as vs):vs.length=as.length:=by
 induction h with
 | nil=>rfl
 | val _ _ ih=>exact jB (·+1) ih
 | obj _ ih=>exact jB (·+1) ih
def ix.get{K:Φ}(h:ix K HF a as vs):∀ {i:Nat},as[i]?=some s->∃v,vs[i]?=some v/\((∃d,s=.val d/\Rep K HF d v)\/(s=.obj 0/\v=.ref a)):=by
 induction h with
 | nil=>intro i e;cases e
 | val r _ ih =>
  intro i e;cases i with
  | zero=>cases e;exact⟨_,rfl,.inl ⟨_,rfl,r⟩⟩
  | succ i=>exact ih e
 | obj _ ih =>
  intro i e;cases i with
  | zero=>cases e;exact⟨_,rfl,.inr ⟨rfl,rfl⟩⟩
  | succ i=>exact ih e
def KO(K:Φ)(C:Ψ)(n:Nat)(m:Γ Slot->Fs->Δ (D×Fs)):Sp:=λvs H Q _=>∃HF B a as st d VI,aB HF H/\cy K HF/\aB B H/\(∀b o,B b=some o->HF b=none)/\wb K HF B C a st/\ix K HF a as vs/\as.length=n/\m as st=some (d,VI) /\
 ∀v H' Vt B',p6 HF H B Vt H' B'->wb K Vt B' C a VI->Rep K Vt d v->Q v H'
def SR(C:Ψ)(d:D):Γ Oj->Δ (D×Fs)|o::_=>if o.C=C then some (d,o.st) else none|[]=>none
def d6(g:OG)(C:Ψ)(n:Nat):Γ Slot->Fs->Δ (D×Fs):=λas st=>(g (as++List.replicate (n - as.length) .Vs) [⟨C,st⟩]).bind fun|.rt d os=>SR C d os|.nx _ os=>SR C .none os
def C3{K:Φ}{st:Fs}(sm:aB HF H)(tb:cy K HF)(sb:aB B H)(hn:∀b o,B b=some o->HF b=none)(q:wb K HF B C a st)(rr:ix K HF a as vs) :
  fO K HF (cut H B) [a] HF H (as++List.replicate (N.length - as.length) .Vs) [⟨C,st⟩] (L2.start N vs):=by
 have look:∀ (i:Nat) (s:Slot),(as++List.replicate (N.length - as.length) .Vs)[i]?=some s->s=.Vs\/∃v,(L2.start N vs)[i]?=some (some v)/\((∃d,s=.val d/\Rep K HF d v)\/(s=.obj 0/\v=.ref a)):=λi s h=>by
  by_cases hi:i < as.length
  ·rw[yR hi] at h;let⟨v,hv,z⟩:=rr.get h;refine .inr ⟨v,?_,z⟩;unfold L2.start;rw[yR (by simpa [rr.length] using hi),zO,hv];rfl
  ·rw[yS (by lia),yW] at h;split at h
   ·cases h;exact .inl rfl
   ·cases h
 have bad:∀ (i:Nat) (s:Slot),(as++List.replicate (N.length - as.length) .Vs)[i]?=some s->(∀d,s≠.val d)->s≠.Vs->s=.obj 0:=λi s h h1 h2=>by
  rcases look i s h with z|⟨v,_,⟨d,z,_⟩|⟨z,_⟩⟩
  ·exact absurd z h2
  ·exact absurd z (h1 d)
  ·exact z
 refine⟨H,λ_=>a,λ_=>B,⟨⟨.refl sm,λi d h=>?_,λi ds h=>?_,λi j ds es b h=>?_,?_,tb,λi ks h=>?_,λi j ks ls h=>?_,λi k h=>?_⟩,λb o e=>(cx e).1,λk o e=>?_,λk hk=>sb,λk hk b o e=>⟨ml e,hn b o e⟩,λj k hj hk ne=>?_,yL _,λk c e=>?_⟩⟩
 ·rcases look i _ h with z|⟨v,hv,⟨d',z,r⟩|⟨z,_⟩⟩
  ·cases z
  ·cases z;exact⟨v,hv,r⟩
  ·cases z
 ·cases bad i _ h (λd z=>by cases z) (λz=>by cases z)
 ·cases bad i _ h (λd z=>by cases z) (λz=>by cases z)
 ·unfold L2.start;rw[zN,zN,zD,xK,xK,rr.length];exact yL _
 ·cases bad i _ h (λd z=>by cases z) (λz=>by cases z)
 ·cases bad i _ h (λd z=>by cases z) (λz=>by cases z)
 ·rcases look i _ h with z|⟨v,hv,⟨d',z,r⟩|⟨_,z⟩⟩
  ·cases z
  ·cases z
  ·rw[hv,z]
 ·cases k with
  | zero=>simp?[xP] at e;cases e;exact q
  | succ k=>simp at e
 ·simp at hj hk;lia
 ·cases k with
  | zero=>simp?[xP] at e;cases e;rfl
  | succ k=>simp at e
def fO.left{K:Φ}{os:Γ Oj}(h:fO K HF (cut H B) [a] Vt H' [] os [])(e:SR C d os=some (d',VI)):d'=d/\∃B',p6 HF H B Vt H' B'/\wb K Vt B' C a VI:=by
 let⟨HB,ad,Bs,o⟩:=h;cases os with
 | nil=>cases e
 | cons ob os =>
  have e:(if ob.C=C then some (d,ob.st) else none)=some (d',VI):=e;by_cases hC:ob.C=C
  ·rw[yK hC] at e;cases e;have h0:0 < (ob::os).length:=by simp
   have pa:=o.pa 0 a rfl;have at0:=o.at_ 0 ob rfl;rw[pa,hC] at at0;refine⟨rfl,Bs 0,⟨⟨λb u z=>o.S.gr.hh b u (o.h0 b u z),o.S.gr.ff,o.S.gr.fh,λb u z=>?_⟩,λb u z=>o.S.gr.hh b u (o.sb 0 h0 b u z),λb u z=>⟨o.nf h0 z,(o.fr 0 h0 b u z).1⟩⟩,at0⟩;rcases o.S.gr.nw b u z with y|y
   ·exact .inl y
   ·refine .inr ?_;cases c:cut H B b with
    | none=>rfl
    | some w=>have:=o.h0 b w c;rw[show HB b=none from y] at this;cases this
  ·rw[yM hC] at e;cases e
def GI{K:Φ}{st:Ω}(F:AI K x qual st f fd)(S:bj N ps (ah st))
  (body:∀X:Cx,X.prog=P->X.w=w->X.K=K->X.mg=mg->X.base=base->Bk X N (ah st) k->X.env.code=fd.code->X.env.qual=qual++".<locals>."->∀Vr H₀ pa,ER X Vr H₀ pa (aP st) g):cY P w K mg base nX (k+1) f fd ps (KO K C ps.length (d6 g C N.length)):=by
 sleep 20;refine xi lk VF S (λvs H Q E z=>by let⟨HF,B,a,as,st,d,VI,h1,_,_,_,_,h2,h3,_⟩:=z;rw[h2.length,h3]) λA outer s H vs Q E hr z=>?_;let⟨HF,B,a,as,st,d,VI,sm,tb,sb,hn,oa,rr,hl,hd,q⟩:=z;refine⟨_,(body (tj nX P w K mg base N qual (ah _) f VT A outer s H E).X2 rfl rfl rfl rfl rfl ⟨rfl,S.nd,λy kd hy=>.inl hy,rfl,λ_ _=>rfl,hr,rfl,S.kind⟩ rfl rfl HF (cut H B) [a]).X2,?_⟩;unfold d6 at hd;let⟨o,ho,hd⟩:=bs hd;refine⟨HF,_,_,o,C3 sm tb sb hn oa rr,ho,?_⟩;cases o with
 | rt d' os =>
  exactλv H' Vt I r=>by
   let⟨rfl,B',t,z⟩:=fO.left I hd;exact q v H' Vt B' t z r
 | nx ρ' os =>
  exactλσ' H' Vt I _=>by
   let⟨rfl,B',t,z⟩:=fO.left I.ends hd;exact q .Vs H' Vt B' t z (by simp[Rep])
section
variable {K:Φ}{HF B:Hp}
def oE{f:Str}{st:Fs}{fs:Γ (Str×V)}{as:Γ Ψ}(h:fZ K HF B st fs as)(e:st.lookup f=none):fs.lookup f=none:=by
 induction h with
 | nil=>rfl
 | @val g _ _ _ _ _ r h ih =>
  rw[yB] at e ⊢;cases z:f == g with
  | true=>rw[z] at e;cases e
  | false=>rw[z] at e;exact ih e
 | @lst g _ _ _ _ _ _ e1 r h ih =>
  rw[yB] at e ⊢;cases z:f == g with
  | true=>rw[z] at e;cases e
  | false=>rw[z] at e;exact ih e
def rQ{f:Str}{d:D}{st:Fs}{fs:Γ (Str×V)}{as:Γ Ψ}(h:fZ K HF B st fs as)(e:st.lookup f=some (.val d)):∃v,fs.lookup f=some v/\Rep K HF d v:=by
 induction h with
 | nil=>cases e
 | @val g _ _ _ _ _ r h ih =>
  rw[yB] at e ⊢;cases z:f == g with
  | true=>rw[z] at e;cases e;exact⟨_,rfl,r⟩
  | false=>rw[z] at e;exact ih e
 | @lst g _ _ _ _ _ _ e1 r h ih =>
  rw[yB] at e ⊢;cases z:f == g with
  | true=>rw[z] at e;cases e
  | false=>rw[z] at e;exact ih e
def iE{f:Str}{ds:Γ D}{st:Fs}{fs:Γ (Str×V)}{as:Γ Ψ}(h:fZ K HF B st fs as)(e:st.lookup f=some (.lst ds)):∃b us,fs.lookup f=some (.ref b)/\b∈as/\B b=some (.lst us)/\au K HF ds us:=by
 induction h with
 | nil=>cases e
 | @val g _ _ _ _ _ r h ih =>
  rw[yB] at e ⊢;cases z:f == g with
  | true=>rw[z] at e;cases e
  | false=>rw[z] at e;exact ih e
 | @lst g _ _ _ _ _ _ e1 r h ih =>
  rw[yB] at e ⊢;cases z:f == g with
  | true=>rw[z] at e;cases e;exact⟨_,_,rfl,zE,e1,r⟩
  | false =>
   rw[z] at e;let⟨b',us',e1,e2,e3⟩:=ih e;exact⟨b',us',e1,zC _ e2,e3⟩
def cP(f:Str)(x:Fd):Fs->Fs
 | []=>[(f,x)]
 | (g,y)::r=>if g=f then (g,x)::r else (g,y)::cP f x r
def ya{f:Str}{d:D}{v:V}{st:Fs}{fs:Γ (Str×V)}{as:Γ Ψ}(r:Rep K HF d v)(h:fZ K HF B st fs as)(n:as.Nodup):∃WM,fZ K HF B (cP f (.val d) st) (eu f v fs) WM/\WM.Nodup/\∀b∈WM,b∈as:=by
 induction h with
 | nil=>exact⟨[],.val r .nil,n,λb hb=>hb⟩
 | @val g _ _ _ _ as r' h ih =>
  unfold cP eu;by_cases z:g=f
  ·rw[yK z,yK z];exact⟨as,.val r h,n,λb hb=>hb⟩
  ·rw[yM z,yM z];let⟨WM,h1,h2,h3⟩:=ih n;exact⟨WM,.val r' h1,h2,h3⟩
 | @lst g _ b _ _ _ as e1 e2 h ih =>
  unfold cP eu;by_cases z:g=f
  ·rw[yK z,yK z];exact⟨as,.val r h,(List.nodup_cons.mp n).2,λb hb=>zC _ hb⟩
  ·rw[yM z,yM z];let⟨WM,h1,h2,h3⟩:=ih (List.nodup_cons.mp n).2;refine⟨b::WM,.lst e1 e2 h1,List.nodup_cons.mpr ⟨λq=>(List.nodup_cons.mp n).1 (h3 b q),h2⟩,λc hc=>?_⟩;rcases List.mem_cons.mp hc with q|q
   ·rw[q];exact zE
   ·exact zC _ (h3 c q)
end
section
variable {X:Cx}{Vr H₀ HF H Vt H':Hp}{pa:Γ Ψ}{ρ ρ':ao}{os Vz:Γ Oj}{σ σ':L2.St}{st:Ω}{rest:Γ Ω}{e a b c:γ}{es:Γ γ}{pos p px apos:Pos}{g1 g2:OG}{fa fb:OF}{ta tb:tH}
def oM{K:Φ}{HF:Hp}{a:Ψ}:∀ {ds:Γ D}{vs:Γ V},au K HF ds vs->ix K HF a (ds.map Slot.val) vs
 | [],vs,r=>by rw[r.nil_inv];exact .nil
 | d::ds,vs,r=>by
  let⟨v,us,rfl,r1,r2⟩:=r.cons_inv;exact .val r1 (oM r2)
def obj(i:Nat)(C:Ψ)(ρ:ao)(os:Γ Oj):Δ (Nat×Fs):=match ρ[i]? with
 | some (.obj k)=>match os[k]? with
  | some o=>if o.C=C then some (k,o.st) else none
  | none=>none
 | _=>none
def obj_some{i k:Nat}{C:Ψ}{st:Fs}(h:obj i C ρ os=some (k,st)):ρ[i]?=some (.obj k)/\os[k]?=some ⟨C,st⟩:=by
 unfold obj at h;split at h
 ·rename_i k' e1;split at h
  ·rename_i o e2;split at h
   ·rename_i e3;cases h;refine⟨e1,?_⟩;rw[e2,<- e3]
   ·cases h
  ·cases h
 ·cases h
def jo(i:Nat)(C:Ψ)(f:Str):OF:=λρ os=>(obj i C ρ os).bind λx=>match x.2.lookup f with|some (.val d)=>some (d,os)|_=>none
def OP{i:Nat}{C:Ψ}{x f:Str}(hN:X.N[i]?=some x)(hv:oo X.env.scope x)(cl:pA X.K C)(nf:bH X.K C f)(hb:attributeBase (.Name x px) f X.env (eval (.Name x px) X.env)=eval (.Name x px) X.env:=by rfl)(hd:(x == ("__debug__":Str))=false:=by decide)(VF:(x == ("__classdict__":Str))=false:=by decide) :
  OE X Vr H₀ pa (.Attribute (.Name x px) f pos) (jo i C f):=aM (kb (bb hN hv hd VF) hb) λσ H Q z=>by
 sleep 9;let⟨⟨k,fs⟩,h1,hf⟩:=bs hf;let⟨e1,e2⟩:=obj_some h1;split at hf
 ·rename_i d' e3;cases hf;let⟨HB,ad,Bs,o⟩:=S;let⟨dx,ls,as,f1,f2,f3,f4⟩:=(o.at_ k _ e2).ex;let⟨v,f5,f6⟩:=rQ f3 e3;sleep 4;exact⟨_,o.S.ob i k e1,ad k,C,dx,ls,v,rfl,o.S.gr.hh _ _ (o.sb k kl _ _ f1),cl,nf,f5,q v H HF ⟨HB,ad,Bs,o⟩ (.refl _) f6⟩
 ·cases hf
def aZ(i:Nat)(C:Ψ)(m:Str)(n:Nat)(mm:Γ Slot->Fs->Δ (D×Fs))(fs:sP):OF:=λρ os=>(obj i C ρ os).bind λx=>if (x.2.lookup m).isNone=true then (fs ρ os).bind λy=>(obj i C ρ y.2).bind λz=>if y.1.length+1=n then (mm (.obj 0::y.1.map Slot.val) z.2).map λw=>(w.1,y.2.set z.1 ⟨C,w.2⟩) else none else none
def Hg{k n i:Nat}{C:Ψ}{m:Str}{mm:Γ Slot->Fs->Δ (D×Fs)}{fs:sP}{E:XK}:∀σ H Q,Qa X.K Vr H₀ pa (aZ i C m n mm fs) σ H Q->F3 C m (KO X.K C n mm) [] E (mL i) (Uu X.K Vr H₀ pa fs) σ H Q:=λσ H Q z=>by
 sleep 9;let⟨⟨k,st⟩,h1,hf⟩:=bs hf;split at hf
 ·rename_i hl;let⟨⟨ds,o1⟩,h2,hf⟩:=bs hf;let⟨⟨k2,VZ⟩,h3,hf⟩:=bs hf;split at hf
  ·rename_i hn;let⟨⟨d2,X9⟩,h4,hf⟩:=ae hf;cases hf;let⟨e1,e2⟩:=obj_some h1;let⟨e3,e4⟩:=obj_some h3;rw[e1] at e3;cases e3;have S0:=S;let⟨HB,ad,Bs,o⟩:=S;let⟨dx,ls,as,f1,f2,f3,f4⟩:=(o.at_ k _ e2).ex;sleep 4;refine⟨_,o.S.ob i k e1,ad k,dx,ls,rfl,o.S.gr.hh _ _ (o.sb k kl _ _ f1),oE f3 (by cases z:st.lookup m with|none=>rfl|some _=>rw[z] at hl;cases hl),HF,ρ,os,ds,o1,S0,h2,λvs H1 Vu S1 s1 r1=>?_⟩;let⟨HB1,ad1,Bs1,Wt⟩:=S1;have kl1:k < o1.length:=(List.getElem?_eq_some_iff.mp e4).1;have ea:ad1 k=ad k:=by
    have z1:=Wt.S.ob i k e1;have z2:=o.S.ob i k e1;rw[z2] at z1;injection z1 with z1
    injection z1 with z1
    injection z1 with z1
    exact z1.symm
   rw[qE];refine⟨Vu,Bs1 k,ad k,Slot.obj 0::ds.map Slot.val,VZ,d2,X9,Wt.S.gr.fh,Wt.S.tb,λb u z=>Wt.S.gr.hh b u (Wt.sb k kl1 b u z),λb u z=>Wt.nf kl1 z,ea ▸ Wt.at_ k _ e4,.obj (oM r1),by simpa using hn,h4,λv H' Vt B' t z r=>?_⟩;exact q v H' Vt ⟨_,_,_,Wt.turn e4 t (ea ▸ z)⟩ (s1.trans t.gr.ff) r
  ·cases hf
 ·cases hf
end
structure Lm(P:Program)(w:World)(K:W.Frag)(mg:Str->Option Value)(base:Heap)(k:Nat)(C:Addr)(m:Str)(n:Nat)(mm:List Slot->Fs->Option (D×Fs)):Prop where
 ex:∃ (f:Ψ) (fd:η) (ps:Γ Str),cY P w K mg base nX k f fd ps (KO K C n mm)/\pP K C m f/\Binds K fd ps []
def Lm.mono{K:Φ}{mm:Γ Slot->Fs->Δ (D×Fs)}(F:Lm P w K mg base k C m n mm)(h:k<=j):Lm P w K mg base j C m n mm:=by
 let⟨f,fd,ps,a,b,c⟩:=F.ex;exact⟨f,fd,ps,a.mono h,b,c⟩
section
variable {os Vz:Γ Oj}{st:Ω}{rest:Γ Ω}
def KS{mm:Γ Slot->Fs->Δ (D×Fs)}{fs:sP}{pl:Sem θ}(F:Lm X.prog X.w X.K X.mg X.base k C m n mm)(hr:cJ k X.A)(hN:X.N[i]?=some x)(hv:oo X.env.scope x)(cl:pA X.K C)(ha:OA X Vr H₀ pa (e::es) fs)
  (hd:(x == ("__debug__":Str))=false:=by decide) (VF:(x == ("__classdict__":Str))=false:=by decide)
  (WQ:starEach (e::es) X.env=(false,eval e X.env)::starEach es X.env:=by rfl) (V1:(backTo pos (starEach es X.env)).any (·.1)=false:=by rfl)
  (ht:eval (.Call (.Attribute (.Name x px) m apos) (e::es) [] pos) X.env=(do
   let ov <- eval (.Name x px) X.env
   standAt apos.atName
   let (f,first) <- holding [ov] (getMethod ov m pl)
   callWith pos f first (backTo pos (starEach (e::es) X.env)) (backToKw pos (keywordEach [] X.env))):=by rfl) :
  OE X Vr H₀ pa (.Call (.Attribute (.Name x px) m apos) (e::es) [] pos) (aZ i C m n mm fs):=by
 let⟨f,fd,ps,ok,hm,hb⟩:=F.ex;exact aM (Ce (E:=E0) (bb hN hv hd VF) cl hm ok hr hb .nil pw ha WQ V1 ht) (Hg (k:=k))
def FM{mm:Γ Slot->Fs->Δ (D×Fs)}{pl:Sem θ}(F:Lm X.prog X.w X.K X.mg X.base k C m n mm)(hr:cJ k X.A)(hN:X.N[i]?=some x)(hv:oo X.env.scope x)(cl:pA X.K C)
  (hd:(x == ("__debug__":Str))=false:=by decide) (VF:(x == ("__classdict__":Str))=false:=by decide)
  (ht:eval (.Call (.Attribute (.Name x px) m apos) [] [] pos) X.env=(do
   let ov <- eval (.Name x px) X.env
   standAt apos.atName
   let (f,first) <- holding [ov] (getMethod ov m pl)
   callWith pos f first (backTo pos (starEach [] X.env)) (backToKw pos (keywordEach [] X.env))):=by rfl) :
  OE X Vr H₀ pa (.Call (.Attribute (.Name x px) m apos) [] [] pos) (aZ i C m n mm bq):=by
 let⟨f,fd,ps,ok,hm,hb⟩:=F.ex;refine aM (xx (E:=E0) (bb hN hv hd VF) cl hm ok hr hb .nil pw ht) λσ H Q h=>?_;let⟨v,e1,a,dx,fs,e2,e3,e4,HF,ρ,os,ds,Vz,S,hf,q⟩:=Hg (k:=k) (E:=E0) σ H Q h;cases hf;exact⟨v,e1,a,dx,fs,e2,e3,e4,q [] H HF S (.refl _) au.nil⟩
def lH{HF H B:Hp}{a:Ψ}{o u:HO}(sb:aB B H)(hn:∀b o,B b=some o->HF b=none)(fh:aB HF H)(e:B a=some o):p6 HF H B HF (upd H a u) (upd B a u) where
 gr:=by
  have ne:∀b w,cut H B b=some w->b≠a:=λb w z q=>by rw[q] at z;rw[ml e] at z;cases z
  refine⟨λb w z=>?_,.refl _,λb w z=>?_,λb w z=>.inl z⟩
  ·rw[ak (ne b w z)];exact (cx z).1
  ·rw[ak λq=>by rw[q,hn a o e] at z;cases z];exact fh b w z
 sb:=λb w z=>by
  by_cases q:b=a
  ·rw[q] at z ⊢;rw[aw] at z ⊢;exact z
  ·rw[ak q] at z ⊢;exact sb b w z
 nw:=λb w z=>by
  by_cases q:b=a
  ·rw[q];exact⟨hn a o e,ml e⟩
  ·rw[ak q] at z;exact⟨hn b w z,ml z⟩
def Jk(sb:aB B H)(hn:∀b o,B b=some o->HF b=none)(G:bA HF H Vt H')(h1:H l=none)(h2:Vt l=none)(h3:H' l=some (.lst us)):p6 HF H B Vt H' (upd B l (.lst us)) where
 gr:=⟨λb w z=>G.hh b w (cx z).1,G.ff,G.fh,λb w z=>(G.nw b w z).imp id λq=>by
  cases c:cut H B b with
  | none=>rfl
  | some y=>have:=(cx c).1;rw[q] at this;cases this⟩
 sb:=λb w z=>by
  by_cases q:b=l
  ·rw[q] at z ⊢;rw[aw] at z;cases z;exact h3
  ·rw[ak q] at z;exact G.hh b w (sb b w z)
 nw:=λb w z=>by
  by_cases q:b=l
  ·rw[q];refine⟨h2,?_⟩;cases c:cut H B l with
   | none=>rfl
   | some y=>have:=(cx c).1;rw[h1] at this;cases this
  ·rw[ak q] at z;exact⟨G.V6 (hn b w z) (sb b w z),ml z⟩
def qr(i:Nat)(C:Ψ)(f:Str)(fe:OF):OG:=λρ os=>(fe ρ os).bind λx=>(obj i C ρ x.2).bind λy=>if y.2.length < 1000 then some (.nx ρ (x.2.set y.1 ⟨C,cP f (.val x.1) y.2⟩)) else none
def rT{K:Φ}{st:Fs}{fs:Γ (Str×V)}(h:fZ K HF B st fs as):fs.length=st.length:=by
 induction h with
 | nil=>rfl
 | val _ _ ih=>exact jB (·+1) ih
 | lst _ _ _ ih=>exact jB (·+1) ih
def N7{K:Φ}{st:Fs}{fs:Γ (Str×V)}(h:fZ K HF B st fs as):∀b∈as,∃us,B b=some (.lst us):=by
 induction h with
 | nil=>intro b hb;cases hb
 | val _ _ ih=>exact ih
 | lst e _ _ ih =>
  intro b hb;rcases List.mem_cons.mp hb with q|q
  ·rw[q];exact⟨_,e⟩
  ·exact ih b q
def Lc(he:OE X Vr H₀ pa e fa)(hN:X.N[i]?=some x)(hv:oo X.env.scope x)(cl:pA X.K C)(nf:bH X.K C f)
  (hs:swapsWith e (some (.Attribute (.Name x px) f pos')) pos.line X.env=pure false:=by rfl) (hd:(x == ("__debug__":Str))=false:=by decide) (VF:(x == ("__classdict__":Str))=false:=by decide) :
  OS X Vr H₀ pa (.Assign [.Attribute (.Name x px) f pos'] e pos) (qr i C f fa):=aW (Ay (bb hN hv hd VF) he hs) λE σ H z=>by
 sleep 11;let⟨⟨d,o1⟩,h1,hg⟩:=bs hg;let⟨⟨k,st⟩,h2,hg⟩:=bs hg;split at hg
 ·rename_i hl;cases hg;let⟨e1,e2⟩:=obj_some h2;refine⟨HF,ρ,os,d,o1,S,h1,λv H1 Vu z s1 r1=>?_⟩;let⟨HB,ad,Bs,ok⟩:=z;have kl:k < o1.length:=(List.getElem?_eq_some_iff.mp e2).1;let⟨dx,fs,as,f1,f2,f3,f4⟩:=(ok.at_ k _ e2).ex;refine⟨_,ok.S.ob i k e1,ad k,C,dx,fs,rfl,ok.S.gr.hh _ _ (ok.sb k kl _ _ f1),cl,nf,by rw[rT f3];exact hl,?_⟩;let⟨WM,f5,f6,f7⟩:=ya (f:=f) r1 f3 f4;have t:=lH (u:=.ins C dx (eu f v fs)) (λb u z=>ok.S.gr.hh b u (ok.sb k kl b u z)) (λb u z=>ok.nf kl z) ok.S.gr.fh f1;refine q σ _ Vu ⟨_,_,_,ok.turn e2 t ⟨dx,eu f v fs,WM,aw,?_,f5.imp (.refl _) λb hb us z=>?_,f6⟩⟩ s1
  ·rw[ak λz=>by rw[z,f1] at f2;cases f2];exact f2
  ·rw[ak λz'=>by rw[z',f1] at z;cases z];exact z
 ·cases hg
end
section
variable {K:Φ}
def EL{st:Fs}{fs:Γ (Str×V)}(r:au K HF ds us)(hl:B l=some (.lst us))(h:fZ K HF B st fs as)(n:as.Nodup)(nl:l∉as):∃WM,fZ K HF B (cP f (.lst ds) st) (eu f (.ref l) fs) WM/\WM.Nodup/\∀b∈WM,b=l\/b∈as:=by
 induction h with
 | nil=>exact⟨[l],.lst hl r .nil,by simp,λb hb=>.inl (by simpa using hb)⟩
 | @val g _ _ _ _ as r' h ih =>
  unfold cP eu;by_cases z:g=f
  ·rw[yK z,yK z];exact⟨l::as,.lst hl r h,List.nodup_cons.mpr ⟨nl,n⟩,λb hb=>List.mem_cons.mp hb⟩
  ·rw[yM z,yM z];let⟨WM,h1,h2,h3⟩:=ih n nl;exact⟨WM,.val r' h1,h2,h3⟩
 | @lst g _ b _ _ _ as e1 e2 h ih =>
  have nl':l∉as:=λq=>nl (zC _ q);unfold cP eu;by_cases z:g=f
  ·rw[yK z,yK z];exact⟨l::as,.lst hl r h,List.nodup_cons.mpr ⟨nl',(List.nodup_cons.mp n).2⟩,λc hc=>(List.mem_cons.mp hc).imp id (zC _)⟩
  ·rw[yM z,yM z];let⟨WM,h1,h2,h3⟩:=ih (List.nodup_cons.mp n).2 nl';refine⟨b::WM,.lst e1 e2 h1,List.nodup_cons.mpr ⟨λq=>?_,h2⟩,λc hc=>?_⟩
   ·rcases h3 b q with y|y
    ·exact nl (by rw[<- y];exact zE)
    ·exact (List.nodup_cons.mp n).1 y
   ·rcases List.mem_cons.mp hc with q|q
    ·exact .inr (by rw[q];exact zE)
    ·exact (h3 c q).imp id (zC _)
def rK{st:Fs}{fs:Γ (Str×V)}(r:au K HF YS us')(h:fZ K HF B st fs as)(n:as.Nodup)(e:st.lookup f=some (.lst ds))(e':fs.lookup f=some (.ref b)):fZ K HF (upd B b (.lst us')) (cP f (.lst YS) st) fs as:=by
 induction h with
 | nil=>cases e
 | @val g _ _ _ _ _ r' h ih =>
  rw[yB] at e e';cases z:f == g with
  | true=>rw[z] at e;cases e
  | false =>
   rw[z] at e e';unfold cP;rw[yM λq=>by rw[q] at z;simp at z];exact .val r' (ih n e e')
 | @lst g _ c us _ fs as h1 h2 h ih =>
  rw[yB] at e e';unfold cP;cases z:f == g with
  | true =>
   rw[z] at e e';cases e';rw[yK (by simpa using (beq_iff_eq.mp z).symm)];refine .lst aw r (h.imp (.refl _) λq hq ws z'=>?_);rw[ak λy=>(List.nodup_cons.mp n).1 (by rw[<- y];exact hq)];exact z'
  | false =>
   rw[z] at e e';rw[yM λq=>by rw[q] at z;simp at z];let⟨b',ws,g1,g2,g3,_⟩:=iE h e;have eb:fs.lookup f=some (.ref b):=e';rw[eb] at g1;cases g1;refine .lst ?_ h2 (ih (List.nodup_cons.mp n).2 e eb);rw[ak λy=>(List.nodup_cons.mp n).1 (by rw[y];exact g2)];exact h1
end
section
variable {os Vz:Γ Oj}{st:Ω}{rest:Γ Ω}
def p6.up{HF H B Vu H1 B1:Hp}(t:p6 HF H B Vu H1 B1){b:Ψ}{o:HO}(z:cut H B b=some o):cut H1 B1 b=some o:=by
 refine eL (t.gr.hh b o z) ?_;cases y:B1 b with
 | none=>rfl
 | some u=>rw[(t.nw b u y).2] at z;cases z
def p6.down{HF H B Vu H1 B1:Hp}(t:p6 HF H B Vu H1 B1){b:Ψ}(z:cut H1 B1 b=none):cut H B b=none:=by
 cases y:cut H B b with
 | none=>rfl
 | some u=>rw[t.up y] at z;cases z
def p6.trans(t:p6 HF H B Vu H1 B1)(t':p6 Vu H1 B1 VG H2 B2):p6 HF H B VG H2 B2 where
 gr:=⟨λb o z=>t'.gr.hh b o (t.up z),t.gr.ff.trans t'.gr.ff,t'.gr.fh,λb o z=>by
  rcases t'.gr.nw b o z with y|y
  ·exact t.gr.nw b o y
  ·exact .inr (t.down y)⟩
 sb:=t'.sb
 nw:=λb o z=>⟨(t'.nw b o z).1,t.down (t'.nw b o z).2⟩
abbrev RF:=ao->Γ Oj->Δ D
abbrev II:=ao->Γ Oj->Δ (Γ D)
def Vj(K:Φ)(Vr H₀:Hp)(pa:Γ Ψ)(f:RF):TE:=λσ H Q=>∃HF ρ os d,fO K Vr H₀ pa HF H ρ os σ/\f ρ os=some d/\∀v H' Vt,bA HF H Vt H'->Rep K Vt d v->Q v H'
def OR(X:Cx)(Vr H₀:Hp)(pa:Γ Ψ)(e:γ)(f:RF):Prop:=PE X e (Vj X.K Vr H₀ pa f)
def Tj(K:Φ)(Vr H₀:Hp)(pa:Γ Ψ)(f:II):TA:=λσ H Q=>∃HF ρ os ds,fO K Vr H₀ pa HF H ρ os σ/\f ρ os=some ds/\∀vs H' Vt,bA HF H Vt H'->au K Vt ds vs->Q vs H'
def RQ(X:Cx)(Vr H₀:Hp)(pa:Γ Ψ)(es:Γ γ)(f:II):Prop:=PA X es (Tj X.K Vr H₀ pa f)
def oR(f:RF):OF:=λρ os=>(f ρ os).map (·,os)
def OR.oe(h:OR X Vr H₀ pa e f):OE X Vr H₀ pa e (oR f):=aM h λσ H Q z=>by
 sleep 9;let⟨d1,e1,z⟩:=ae hf;cases z;exact⟨HF,ρ,os,d,S,e1,λv H' Vt G r=>q v H' Vt (S.grow G) G.ff r⟩
def rD(f:Dl.Env->Δ D):RF:=λρ _=>f (bp ρ)
def JG(h:DE X e f):OR X Vr H₀ pa e (rD f):=aM h λσ H Q z=>by let⟨HF,ρ,os,d,S,hf,q⟩:=z;exact ⟨HF,bp ρ,d,S.fh,S.V5,hf,λv H' Vt G r=>q v H' Vt G r⟩
def Gh(i:Nat)(C:Ψ)(f:Str):RF:=λρ os=>(obj i C ρ os).bind λx=>match x.2.lookup f with|some (.val d)=>some d|_=>none
def M0(hN:X.N[i]?=some x)(hv:oo X.env.scope x)(cl:pA X.K C)(nf:bH X.K C f)(hb:attributeBase (.Name x px) f X.env (eval (.Name x px) X.env)=eval (.Name x px) X.env:=by rfl)(hd:(x == ("__debug__":Str))=false:=by decide)(VF:(x == ("__classdict__":Str))=false:=by decide) :
  OR X Vr H₀ pa (.Attribute (.Name x px) f pos) (Gh i C f):=aM (kb (bb hN hv hd VF) hb) λσ H Q z=>by
 let⟨HF,ρ,os,d,S,hf,q⟩:=z;let⟨⟨k,fs⟩,h1,hf⟩:=bs hf;let⟨e1,e2⟩:=obj_some h1;split at hf
 ·rename_i d' e3;cases hf;let⟨HB,ad,Bs,o⟩:=S;let⟨dx,ls,as,f1,f2,f3,f4⟩:=(o.at_ k _ e2).ex;let⟨v,f5,f6⟩:=rQ f3 e3;sleep 4;exact⟨_,o.S.ob i k e1,ad k,C,dx,ls,v,rfl,o.S.gr.hh _ _ (o.sb k kl _ _ f1),cl,nf,f5,q v H HF (.refl o.S.gr.fh) f6⟩
 ·cases hf
def JM:II:=λ_ _=>some []
def pq(f:RF)(g:II):II:=λρ os=>(f ρ os).bind λx=>(g ρ os).map (x::·)
def IL:RQ X Vr H₀ pa [] JM:=iO cF λσ H Q z=>by let⟨HF,ρ,os,d,S,hf,q⟩:=z;cases hf;exact q [] H HF (.refl S.fh) au.nil
def Hb(he:OR X Vr H₀ pa e f)(hs:RQ X Vr H₀ pa es g)(WQ:starEach (e::es) X.env=(false,eval e X.env)::starEach es X.env:=by rfl):RQ X Vr H₀ pa (e::es) (pq f g) :=
 iO (ba he hs WQ) λσ H Q z=>by
  let⟨HF,ρ,os,d,S,hf,q⟩:=z;sleep 5;let⟨xs,hy,z⟩:=ae hf;cases z;exact⟨HF,ρ,os,x,S,hx,λv1 H1 Vu g1 r1=>⟨Vu,ρ,os,xs,S.grow g1,hy,λvs H2 VG g2 r2=>q (v1::vs) H2 VG (g1.trans g2) (au.cons (r1.mono g2.ff) r2)⟩⟩
end
section
variable {X:Cx}{Vr H₀ HF H Vt H':Hp}{pa:Γ Ψ}{ρ ρ':ao}{os Vz:Γ Oj}{σ σ':L2.St}{st:Ω}{rest:Γ Ω}{e a b c:γ}{es:Γ γ}{pos p px apos Vv WC:Pos}{g1 g2:OG}{fa fb:OF}{ta tb:tH}
def EE(fs:II):RF:=λρ os=>(fs ρ os).bind λds=>(small ds).map PyData.tuple
def Pr{x1}{fs:II}(h:RQ X Vr H₀ pa es fs):OR X Vr H₀ pa (.Tuple es x1 pos) (EE fs):=aM (u4 h) λσ H Q z=>by
 let⟨HF,ρ,os,d,S,hf,q⟩:=z;let⟨ds,hx,hf⟩:=bs hf;let⟨ZJ,e,z⟩:=ae hf;cases z;let⟨rfl,hz⟩:=cS e;refine⟨HF,ρ,os,_,S,hx,λvs H1 Vu g1 r1=>⟨by rw[r1.length];exact hz,λp hp=>q _ _ (upd Vu p (.tup vs)) (g1.trans (.new g1.fh hp)) ?_⟩⟩;simp?[Rep];exact⟨p,vs,rfl,.inl (.inl aw),r1.mono (bV (g1.fh.free hp))⟩
def oTup(fs:sP):OF:=λρ os=>(fs ρ os).bind λx=>(small x.1).map λds=>(PyData.tuple ds,x.2)
def M6{x1}{fs:sP}(h:OA X Vr H₀ pa es fs):OE X Vr H₀ pa (.Tuple es x1 pos) (oTup fs):=aM (u4 h) λσ H Q z=>by
 sleep 9;let⟨⟨ds,o1⟩,hx,hf⟩:=bs hf;let⟨ZJ,e,z⟩:=ae hf;cases z;let⟨rfl,hz⟩:=cS e;refine⟨HF,ρ,os,_,o1,S,hx,λvs H1 Vu S1 s1 r1=>⟨by rw[r1.length];exact hz,λp hp=>?_⟩⟩;have G:bA Vu H1 (upd Vu p (.tup vs)) (upd H1 p (.tup vs)):=.new S1.fh hp;refine q _ _ _ (S1.grow G) (s1.trans G.ff) ?_;simp?[Rep];exact⟨p,vs,rfl,.inl (.inl aw),r1.mono G.ff⟩
def vm{st:Fs}{ad:Nat->Ψ}(ok:n5 X.K Vr H₀ pa HF H ρ os σ HB ad Bs)(e1:ρ[i]?=some (Slot.obj k))(e2:os[k]?=some ⟨C,st⟩)(e3:st.lookup f=some (.lst ds))(cl:pA X.K C)(nf:bH X.K C f)
  (q:∀dx fs as b us,Bs k (ad k)=some (.ins C dx fs)->Bs k dx=some (.own (ad k))->fZ X.K HF (Bs k) st fs as->as.Nodup->fs.lookup f=some (.ref b)->Bs k b=some (.lst us)->au X.K HF ds us->Q (.ref b) H):Du X.K (mL i) f σ H Q:=by
 sleep 4;let⟨dx,fs,as,f1,f2,f3,f4⟩:=(ok.at_ k _ e2).ex;let⟨b,us,g1,g2,g3,g4⟩:=iE f3 e3;exact⟨_,ok.S.ob i k e1,ad k,C,dx,fs,.ref b,rfl,ok.S.gr.hh _ _ (ok.sb k kl _ _ f1),cl,nf,g1,q dx fs as b us f1 f2 f3 f4 g1 g3 g4⟩
def yg(i:Nat)(C:Ψ)(f:Str)(fe:RF):OG:=λρ os=>(obj i C ρ os).bind λy=>match y.2.lookup f with
 | some (.lst ds)=>(fe ρ os).bind λd=>if ds.length < sizeLine then some (.nx ρ (os.set y.1 ⟨C,cP f (.lst (ds++[d])) y.2⟩)) else none
 | _=>none
def IS(he:OR X Vr H₀ pa e fe)(hN:X.N[i]?=some x)(hv:oo X.env.scope x)(cl:pA X.K C)(nf:bH X.K C f)
  (hb:attributeBase (.Name x px) f X.env (eval (.Name x px) X.env)=eval (.Name x px) X.env:=by rfl) (hd:(x == ("__debug__":Str))=false:=by decide) (VF:(x == ("__classdict__":Str))=false:=by decide)
  (Wa:attributeBase (.Attribute (.Name x px) f WC) "append" X.env (eval (.Attribute (.Name x px) f WC) X.env)=eval (.Attribute (.Name x px) f WC) X.env:=by rfl)
  (V7:((backTo Vv (starEach [e] X.env)).all (λx=>!x.1)&&(backToKw Vv (keywordEach [] X.env)).all (λx=>x.1.isSome)&&decide ([e].length+([]:Γ Keyword).length+(if ([]:Γ Keyword).isEmpty then 0 else 1) < 30))=true:=by rfl)
  (VA:(apos.endLine == Vv.line)=true:=by rfl) (hs:starEach [e] X.env=(false,eval e X.env)::starEach [] X.env:=by rfl) (hsw:swapsWith (.Call (.Attribute (.Attribute (.Name x px) f WC) "append" apos) [e] [] Vv) none pos.line X.env=pure false:=by rfl) :
  OS X Vr H₀ pa (.Expr (.Call (.Attribute (.Attribute (.Name x px) f WC) "append" apos) [e] [] Vv) pos) (yg i C f fe) :=
 aW (gP (pK qM PySem.F.slot_list_append PySem.F.type_list_append iu (kb (bb hN hv hd VF) hb) (ba he cF hs) Wa V7 VA hs rfl) hsw) λE σ H z=>by
  sleep 11;let⟨⟨k,st⟩,h1,hg⟩:=bs hg;let⟨e1,e2⟩:=obj_some h1;split at hg
  ·rename_i ds e3;let⟨d,h2,hg⟩:=bs hg;split at hg
   ·rename_i hz;cases hg;have S0:=S;let⟨HB,ad,Bs,ok⟩:=S;sleep 4;unfold CK Sh;refine vm ok e1 e2 e3 cl nf λdx fs as b us f1 f2 f3 f4 g1 g3 g4=>?_;have hHb:H b=some (.lst us):=ok.S.gr.hh _ _ (ok.sb k kl _ _ g3);refine⟨.inl ⟨rfl,us,gc.of hHb⟩,HF,ρ,os,d,S0,h2,λv H1 Vu G r=>?_⟩;refine⟨b,us,v,rfl,rfl,G.hh _ _ hHb,by rw[g4.length];exact hz,?_⟩;have Wt:=ok.pure (ok.S.grow G) G.ff;have t:=lH (u:=.lst (us++[v])) (λb u z=>Wt.S.gr.hh b u (Wt.sb k kl b u z)) (λb u z=>Wt.nf kl z) Wt.S.gr.fh g3;refine q σ _ Vu ⟨_,_,_,Wt.turn e2 t ⟨dx,fs,as,?_,?_,?_,f4⟩⟩ G.ff
    ·rw[ak λz=>by rw[z,g3] at f1;cases f1];exact f1
    ·rw[ak λz=>by rw[z,g3] at f2;cases f2];exact f2
    ·exact rK ((g4.mono G.ff).append (au.cons r au.nil)) (f3.imp G.ff λ_ _ _ z=>z) f4 e3 g1
   ·cases hg
  ·cases hg
def uv(i:Nat)(C:Ψ)(f:Str):RF:=λρ os=>(obj i C ρ os).bind λy=>match y.2.lookup f with
 | some (.lst ds)=>some (.int ds.length)
 | _=>none
def Kn(B:pW X "len" (.builtin "len"))(hN:X.N[i]?=some x)(hv:oo X.env.scope x)(cl:pA X.K C)(nf:bH X.K C f)
  (hb:attributeBase (.Name x px) f X.env (eval (.Name x px) X.env)=eval (.Name x px) X.env:=by rfl) (hd:(x == ("__debug__":Str))=false:=by decide) (VF:(x == ("__classdict__":Str))=false:=by decide)
  (he:starEach [.Attribute (.Name x px) f WC] X.env=(false,eval (.Attribute (.Name x px) f WC) X.env)::starEach [] X.env:=by rfl) :
  OR X Vr H₀ pa (.Call (.Name "len" p) [.Attribute (.Name x px) f WC] [] pos) (uv i C f) :=
 aM (lg ni B.gl B.mg B.bt (ba (kb (bb hN hv hd VF) hb) cF he) (by decide) (by decide) he rfl) λσ H Q z=>by
  let⟨HF,ρ,os,d,S,hf,q⟩:=z;let⟨⟨k,st⟩,h1,hf⟩:=bs hf;let⟨e1,e2⟩:=obj_some h1;split at hf
  ·rename_i ds e3;cases hf;let⟨HB,ad,Bs,ok⟩:=S;sleep 4;show Du X.K (mL i) f σ H _;refine vm ok e1 e2 e3 cl nf λdx fs as b us f1 f2 f3 f4 g1 g3 g4=>?_;exact⟨b,us,rfl,.inl (gc.of (ok.S.gr.hh _ _ (ok.sb k kl _ _ g3))),q _ H HF (.refl ok.S.gr.fh) (by simp[Rep,g4.length])⟩
  ·cases hf
end
section
variable {K:Φ}{os Vz:Γ Oj}{ad:Nat->Ψ}
def EO(H B:Hp):Hp:=λb=>match H b with|some o=>some o|none=>B b
def LQ(h:H b=some o):EO H B b=some o:=by unfold EO;rw[h]
def Hm(h:H b=none):EO H B b=B b:=by unfold EO;rw[h]
def FY(h:EO H B b=some o):H b=some o\/(H b=none/\B b=some o):=by
 unfold EO at h;split at h
 ·rename_i e;cases h;exact .inl e
 ·rename_i e;exact .inr ⟨e,h⟩
def n5.make{Vr H₀ HF H Vt H':Hp}{pa:Γ Ψ}{ρ:ao}{σ:L2.St}{HB:Hp}{Bs:Nat->Hp}(h:n5 K Vr H₀ pa HF H ρ os σ HB ad Bs)(t:p6 HF Hn B0 Vt H' B')(hB:∀b o,H b=some o->cut Hn B0 b=some o)(q:wb K Vt B' C x VI)(nb:∀ (i k:Nat),ρ[i]?=some (Slot.obj k)->k < os.length) :
  n5 K Vr H₀ pa Vt H' ρ (os++[⟨C,VI⟩]) σ (EO HB B') (λj=>if j=os.length then x else ad j) (λj=>if j=os.length then B' else Bs j):=by
 have g:=h.S.gr;have hh:aB HB H:=g.hh;have fr':∀b o,B' b=some o->H b=none:=λb o e=>by
  cases z:H b with
  | none=>rfl
  | some u=>have:=(t.nw b o e).2;rw[hB b u z] at this;cases this
 have nHB:∀b o,B' b=some o->HB b=none:=λb o e=>by
  cases z:HB b with
  | none=>rfl
  | some u=>have:=fr' b o e;rw[hh b u z] at this;cases this
 have g':bA Vr (EO HB B') Vt H':=by
  refine⟨λb o e=>?_,g.ff.trans t.gr.ff,t.gr.fh,λb o e=>?_⟩
  ·rcases FY e with z|⟨_,z⟩
   ·exact t.gr.hh b o (hB b o (hh b o z))
   ·exact t.sb b o z
  ·have nb:B' b=none:=by
    cases z:B' b with
    | none=>rfl
    | some u=>rw[(t.nw b u z).1] at e;cases e
   have fin:HB b=none->EO HB B' b=none:=λz=>by rw[Hm z];exact nb
   rcases t.gr.nw b o e with z|z
   ·rcases g.nw b o z with y|y
    ·exact .inl y
    ·exact .inr (fin y)
   ·refine .inr (fin ?_);cases y:HB b with
    | none=>rfl
    | some u=>rw[hB b u (hh b u y)] at z;cases z
 have lt:∀ {j:Nat},j < (os++[⟨C,VI⟩]:Γ Oj).length->j≠os.length->j < os.length:=λ{j} h1 h2=>by
  rw[zN] at h1;simp at h1;lia
 refine⟨zj h.S g' t.gr.ff (λb o e1 e2=>?_) λi k e=>yM (yQ (nb i k e)),λb o e=>LQ (h.h0 b o e),λj o e=>?_,λj hj b o e=>?_,λj hj b o e=>?_,λi j hi hj ne b o e=>?_,by rw[zN];exact yD h.pl (jT _ _),λk a e=>?_⟩
 ·have ch:=hB b o e2;refine⟨t.gr.hh b o ch,?_,λe3=>t.gr.V6 e3 ch⟩;show EO HB B' b=none;rw[Hm e1];cases z:B' b with
  | none=>rfl
  | some u=>have:=(t.nw b u z).2;rw[ch] at this;cases this
 ·show wb K Vt (if j=os.length then B' else Bs j) o.C (if j=os.length then x else ad j) o.st;by_cases hj:j=os.length
  ·rw[yK hj,yK hj];rw[hj,yS (yL _),Nat.sub_self] at e;cases e;exact q
  ·rw[yM hj,yM hj];have jl:j < os.length:=lt (List.getElem?_eq_some_iff.mp e).1 hj;rw[yR jl] at e;exact (h.at_ j o e).mono t.gr.ff
 ·have e:(if j=os.length then B' else Bs j) b=some o:=e;by_cases VD:j=os.length
  ·rw[yK VD] at e;rw[Hm (nHB b o e)];exact e
  ·rw[yM VD] at e;exact LQ (h.sb j (lt hj VD) b o e)
 ·have e:(if j=os.length then B' else Bs j) b=some o:=e;by_cases VD:j=os.length
  ·rw[yK VD] at e;have n1:=nHB b o e;refine⟨?_,?_⟩
   ·cases z:H₀ b with
    | none=>rfl
    | some u=>rw[h.h0 b u z] at n1;cases n1
   ·cases z:Vr b with
    | none=>rfl
    | some u=>have:=(t.nw b o e).1;rw[t.gr.ff b u (g.ff b u z)] at this;cases this
  ·rw[yM VD] at e;exact h.fr j (lt hj VD) b o e
 ·have e:(if i=os.length then B' else Bs i) b=some o:=e;show (if j=os.length then B' else Bs j) b=none;by_cases W5:i=os.length
  ·rw[yK W5] at e;have jk:j≠os.length:=λz=>ne (W5.trans z.symm);rw[yM jk];cases z:Bs j b with
   | none=>rfl
   | some u=>have:=h.sb j (lt hj jk) b u z;rw[nHB b o e] at this;cases this
  ·rw[yM W5] at e;by_cases VD:j=os.length
   ·rw[yK VD];cases z:B' b with
    | none=>rfl
    | some u=>have:=h.sb i (lt hi W5) b o e;rw[nHB b u z] at this;cases this
   ·rw[yM VD];exact h.dj i j (lt hi W5) (lt hj VD) ne b o e
 ·have kl:k < os.length:=zP (List.getElem?_eq_some_iff.mp e).1 h.pl;show (if k=os.length then x else ad k)=a;rw[yM (yQ kl)];exact h.pa k a e
def C4{H₀:Hq}(S:fF K Vr H₀ HF H ρ σ):fF K Vr H₀ HF H (ρ.set i (.obj k)) (σ.set i (some (.ref (H₀.ad k)))):=by
 have ne:∀ {j:Nat}{s:Slot},(ρ.set i (.obj k))[j]?=some s->s≠.obj k->i≠j/\ρ[j]?=some s:=λ{j s} h hn=>by
  rw[xH] at h;by_cases Vy:i=j
  ·rw[yK Vy] at h;split at h
   ·cases h;exact absurd rfl hn
   ·cases h
  ·rw[yM Vy] at h;exact⟨Vy,h⟩
 refine⟨S.gr,λj e h=>?_,λj ds h=>?_,λj k ds es a h1 h2 h3 h4=>?_,by rw[yC,yC];exact S.len,S.tb,λj ks h=>?_,λj k ks ls h1 h2=>S.one j k ks ls (ne h1 λz=>by cases z).2 (ne h2 λz=>by cases z).2,λj n h=>?_⟩
 ·let⟨Vy,h⟩:=ne h λz=>by cases z
  rw[xH,yM Vy];exact S.val j e h
 ·let⟨Vy,h⟩:=ne h λz=>by cases z
  rw[xH,yM Vy];exact S.own j ds h
 ·let⟨n1,h1⟩:=ne h1 λz=>by cases z
  let⟨n2,h2⟩:=ne h2 λz=>by cases z
  rw[xH,yM n1] at h3;rw[xH,yM n2] at h4;exact S.inj j k ds es a h1 h2 h3 h4
 ·let⟨Vy,h⟩:=ne h λz=>by cases z
  rw[xH,yM Vy];exact S.tab j ks h
 ·rw[xH] at h ⊢;by_cases Vy:i=j
  ·rw[yK Vy] at h ⊢;split at h
   ·rename_i hl;cases h;rw[yK (zP hl S.len)]
   ·cases h
  ·rw[yM Vy] at h ⊢;exact S.ob j n h
end
section
variable {os Vz:Γ Oj}{st:Ω}{rest:Γ Ω}
def below(n:Nat):Slot->θ|.obj k=>decide (k < n)|_=>true
def se(i:Nat)(C:Ψ)(n:Nat)(mi:Γ Slot->Fs->Δ (D×Fs))(fs:sP):OG:=λρ os=>(fs ρ os).bind λy=>if ρ.all (below y.2.length)=true/\y.1.length+1=n then (mi (.obj 0::y.1.map Slot.val) []).bind λw=>match w.1 with
 | .none=>some (.nx (ρ.set i (.obj y.2.length)) (y.2++[⟨C,w.2⟩]))
 | _=>none else none
def Ll{fs:sP}{pos':Pos}(M:Mk X.K C f)(F:cY X.prog X.w X.K X.mg X.base nX k f fd ps (KO X.K C n mi))(hr:cJ (k+1) X.A)(hg:Gl X cn)(hm:X.mg cn=some (.ref C))(hb:Binds X.K fd ps [])(ha:OA X Vr H₀ pa (e::es) fs)
  (hN:X.N.Nodup) (hi:X.N[i]?=some x) (hx:Loc X.env.scope x)
  (Wz:(cn == ("__debug__":Str))=false:=by decide) (he:starEach (e::es) X.env=(false,eval e X.env)::starEach es X.env:=by rfl) (V1:(backTo Vv (starEach es X.env)).any (·.1)=false:=by rfl)
  (hs:swapsWith (.Call (.Name cn p) (e::es) [] Vv) (some (.Name x pos')) pos.line X.env=pure false:=by rfl)
  (hf:X.fn x=true\/X.env.scope.names.lookup x=some .local:=by first|exact .inl rfl|exact .inr rfl|assumption):OS X Vr H₀ pa (.Assign [.Name x pos'] (.Call (.Name cn p) (e::es) [] Vv) pos) (se i C n mi fs) :=
 aW (lb hN hi hx (Kd (E:=E0) M F hr hg hm hb .nil pw ha Wz he V1) hs hf) λE σ H z=>by
  sleep 11;let⟨⟨ds,o1⟩,h1,hg⟩:=bs hg;split at hg
  ·rename_i hc;let⟨⟨d,VI⟩,h2,hg⟩:=bs hg;split at hg
   ·rename_i hd;cases hg;have hd:d=.none:=hd;subst hd;refine⟨HF,ρ,os,ds,o1,S,h1,λvs H1 Vu z s1 r1 x dx nx ndx nex=>?_⟩;let⟨HB,ad,Bs,ok⟩:=z;rw[qE];let B0:Hp:=upd (upd (λ_=>none) dx (.own x)) x (.ins C dx []);let Hn:Hp:=upd (upd H1 dx (.own x)) x (.ins C dx []);have bx:B0 x=some (.ins C dx []):=aw;have bd:B0 dx=some (.own x):=by show upd _ x _ dx=_;rw[ak nex,aw]
    have old:∀b u,H1 b=some u->b≠x/\b≠dx:=λb u z=>⟨aG z nx,aG z ndx⟩
    have hB:∀b u,H1 b=some u->cut Hn B0 b=some u:=λb u z=>by
     let⟨z1,z2⟩:=old b u z;refine eL ?_ ?_
     ·show upd _ x _ b=_;rw[ak z1,ak z2];exact z
     ·show upd _ x _ b=_;rw[ak z1,ak z2]
    have hn:∀b u,B0 b=some u->Vu b=none/\Hn b=some u:=λb u z=>by
     have z:upd (upd (λ_=>none) dx (.own x)) x (.ins C dx []) b=some u:=z;by_cases y:b=x
     ·rw[y] at z ⊢;rw[aw] at z;cases z;exact⟨ok.S.gr.fh.free nx,aw⟩
     ·rw[ak y] at z;by_cases y':b=dx
      ·rw[y'] at z ⊢;rw[aw] at z;cases z;refine⟨ok.S.gr.fh.free ndx,?_⟩;show upd _ x _ dx=_;rw[ak nex,aw]
      ·rw[ak y'] at z;cases z
    have sm:aB Vu Hn:=λb u z=>by
     let⟨z1,z2⟩:=old b u (ok.S.gr.fh b u z);show upd _ x _ b=_;rw[ak z1,ak z2];exact ok.S.gr.fh b u z
    refine⟨Vu,B0,x,Slot.obj 0::ds.map Slot.val,[],.none,VI,sm,ok.S.tb,λb u z=>(hn b u z).2,λb u z=>(hn b u z).1,⟨dx,[],[],bx,bd,.nil,.nil⟩,.obj (oM r1),by simpa using hc.2,h2,λv H' Vt B' t z r=>?_⟩;simp?[Rep] at r;refine⟨r,?_⟩;have nb:∀ (i k:Nat),ρ[i]?=some (Slot.obj k)->k < o1.length:=λi k y=>by
     have:=List.all_eq_true.mp hc.1 _ (qA y);exact yP this
    have ok2:=ok.make t hB z nb;refine q _ H' Vt ⟨_,_,_,ok2.pure (σ':=σ.set i (some (.ref x))) ?_ (.refl _)⟩ (s1.trans t.gr.ff);have:=C4 (i:=i) (k:=o1.length) ok2.S;rw[show (Hq.mk (EO HB B') λj=>if j=o1.length then x else ad j).ad o1.length=x from yK rfl] at this;exact this
   ·cases hg
  ·cases hg
end
def ku(sb:aB B H)(hn:∀b o,B b=some o->HF b=none)(G:bA HF H Vt H'):p6 HF H B Vt H' B where
 gr:=⟨λb w z=>G.hh b w (cx z).1,G.ff,G.fh,λb w z=>(G.nw b w z).imp id λq=>by
  cases c:cut H B b with
  | none=>rfl
  | some y=>have:=(cx c).1;rw[q] at this;cases this⟩
 sb:=sb.trans G.hh
 nw:=λb w z=>⟨G.V6 (hn b w z) (sb b w z),ml z⟩
def p6.hn(t:p6 HF H B Vt H' B'):∀b o,B' b=some o->Vt b=none:=λb o z=>(t.nw b o z).1
def jw(f g:Str)(x:Fd):∀st:Fs,g≠f->(cP f x st).lookup g=st.lookup g
 | [],h=>by
  show List.lookup g [(f,x)]=none;rw[yB];cases z:g == f with
  | true=>exact absurd (beq_iff_eq.mp z) h
  | false=>rfl
 | (k,y)::r,h=>by
  unfold cP;by_cases q:k=f
  ·rw[yK q,yB,yB];cases z:g == k with
   | true=>exact absurd ((beq_iff_eq.mp z).trans q) h
   | false=>rfl
  ·rw[yM q,yB,yB,jw f g x r h]
def dZ:Str:="present"
def MV(f g:Str)(st:Fs):Δ (D×Fs):=match st.lookup f with
 | some (.lst ds)=>match st.lookup g with
  | some (.lst es)=>match st.lookup dZ with
   | some (.val q)=>match ds[ds.length - 1]? with
    | some (.tuple [w,p])=>if es.length < sizeLine/\st.length < 1000 then some (w,cP dZ (.val p) (cP g (.lst (es++[.tuple [w,q]])) (cP f (.lst ds.dropLast) st))) else none
    | _=>none
   | _=>none
  | _=>none
 | _=>none
def ze{st:Fs}(h:MV f g st=some (d,VI)):∃ds es q p,st.lookup f=some (.lst ds)/\st.lookup g=some (.lst es)/\st.lookup dZ=some (.val q)/\ds[ds.length - 1]?=some (.tuple [d,p])/\es.length < sizeLine/\st.length < 1000/\VI=cP dZ (.val p) (cP g (.lst (es++[.tuple [d,q]])) (cP f (.lst ds.dropLast) st)):=by
 unfold MV at h;split at h
 ·rename_i ds e1;split at h
  ·rename_i es e2;split at h
   ·rename_i q e3;split at h
    ·rename_i w p e4;split at h
     ·rename_i e5;cases h;exact⟨ds,es,q,p,e1,e2,e3,e4,e5.1,e5.2,rfl⟩
     ·cases h
    ·cases h
   ·cases h
  ·cases h
 ·cases h
def Jh(K:Φ)(C:Ψ)(f g:Str):Sp:=λvs H Q _=>∃HF B a st dx fs as b1 b2 d VI,vs=[.ref a,.ref b1,.ref b2]/\aB HF H/\cy K HF/\aB B H/\(∀b o,B b=some o->HF b=none)/\B a=some (.ins C dx fs)/\B dx=some (.own a)/\fZ K HF B st fs as/\as.Nodup /\
 fs.lookup f=some (.ref b1)/\fs.lookup g=some (.ref b2)/\MV f g st=some (d,VI)/\∀v H' Vt B',p6 HF H B Vt H' B'->wb K Vt B' C a VI->Rep K Vt d v->Q v H'
section
variable {K:Φ}
def EB(r:au K HF ds us)(h:ds[ds.length - 1]?=some d):∃v,us[us.length - 1]?=some v/\Rep K HF d v:=by
 let⟨v,hv,rv⟩:=r.getD h;exact⟨v,by rw[r.length];exact hv,rv⟩
def uF:∀ {ds:Γ D}{us:Γ V},au K HF ds us->au K HF ds.dropLast us.dropLast
 | [],us,r=>by rw[r.nil_inv];exact au.nil
 | [d],us,r=>by
  let⟨v,vs,rfl,_,r2⟩:=r.cons_inv;rw[r2.nil_inv];exact au.nil
 | d::d'::ds,us,r=>by
  let⟨v,vs,rfl,r1,r2⟩:=r.cons_inv;have ih:=uF r2;let⟨v',Yl,rfl,r3,r4⟩:=r2.cons_inv;exact au.cons r1 ih
def UC:TS:=λ_ _ _=>False
def Px(K:Φ)(ft:Dl.Env->Δ θ)(f0 f1 f2:Dl.Env->Δ D):TS :=
 rA (Pu (Je K ft) UC yt) (rA (AC (OV K "list" Oq (mL 1)) (qu 3)) (rA (CK (Sh K "list" wg (mL 2) (rR (N5 (rR (tD K f0) (rR (Du K (mL 0) dZ) DZ))) DZ)))
  (rA (M4 K (mL 0) (tD K f1) dZ) (GE (tD K f2)))))
def MR{t:D}(tb:cy K HF)(r:Rep K HF t y):cB K HF [none,none,none,some t] [a,b,c,some y]:=⟨λi d' h=>by
 match i,h with
 | 3,h=>cases h;exact⟨y,rfl,r⟩,by simp,tb⟩
def Tg{t:D}(tb:cy K HF)(r:Rep K HF t y):cB K HF [none,some t,none,none] [a,some y,b,c]:=⟨λi d' h=>by
 match i,h with
 | 1,h=>cases h;exact⟨y,rfl,r⟩
 | n+2,h=>rcases n with _|_|_<;>(cases h),by simp,tb⟩
def Lr{st:Fs}{fs:Γ (Str×V)}{f0 f1 f2:Dl.Env->Δ D}
  (hft:∀ds:Γ D,ds≠[]->ft [none,some (.list ds),none,none]=some false) (hf0:∀w p:D,f0 [none,none,none,some (.tuple [w,p])]=some w) (hf1:∀w p:D,f1 [none,none,none,some (.tuple [w,p])]=some p) (hf2:∀w p:D,f2 [none,none,none,some (.tuple [w,p])]=some w)
  (cl:pA K C) (nf:bH K C dZ) (ne:g≠f) (nfp:dZ≠f) (ngp:dZ≠g)
  (sm:aB HF H) (tb:cy K HF) (sb:aB B H) (hn:∀b o,B b=some o->HF b=none) (h1:B a=some (.ins C dx fs)) (h2:B dx=some (.own a)) (h3:fZ K HF B st fs as) (h4:as.Nodup) (h5:fs.lookup f=some (.ref b1)) (h6:fs.lookup g=some (.ref b2)) (h7:MV f g st=some (d,VI))
  (q:∀v H' Vt B',p6 HF H B Vt H' B'->wb K Vt B' C a VI->Rep K Vt d v->E.rt v H') :
  Px K ft f0 f1 f2 E [some (.ref a),some (.ref b1),some (.ref b2),none] H:=by
 let⟨ds,es,q0,p,e1,e2,e3,e4,e5,e6,rfl⟩:=ze h7;let⟨b1',Yq,g1,g2',g3,g4⟩:=iE h3 e1;rw[h5] at g1;cases g1;have Yd:ds≠[]:=λz=>by rw[z] at e4;simp at e4
 refine⟨H,[none,some (.list ds),none,none],false,.refl _,Tg (tb.mono sm) (by simp?[Rep];exact⟨b1,Yq,rfl,gc.of (sb _ _ g3),g4.mono sm⟩),hft ds Yd,λH1 HFx G1=>pR ?_⟩;have t1:p6 HF H B HF H1 B:=ku sb hn ⟨G1.hh,.refl _,sm.trans G1.hh,λ_ _ z=>.inl z⟩;let⟨y,hy,ry⟩:=EB g4 e4;have YG:H1 b1=some (.lst Yq):=t1.sb _ _ g3;refine⟨.ref b1,rfl,.inl ⟨rfl,Yq,gc.of YG⟩,b1,Yq,y,rfl,rfl,YG,hy,?_⟩;have t2:=t1.trans (lH (u:=.lst Yq.dropLast) t1.sb t1.hn t1.gr.fh g3);have k1:upd B b1 (.lst Yq.dropLast) a=some (.ins C dx fs):=by rw[ak λz=>by rw[z,g3] at h1;cases h1];exact h1
 have k2:upd B b1 (.lst Yq.dropLast) dx=some (.own a):=by rw[ak λz=>by rw[z,g3] at h2;cases h2];exact h2
 have k3:=rK (uF g4) h3 h4 e1 h5;have e2':(cP f (.lst ds.dropLast) st).lookup g=some (.lst es):=by rw[jw f g _ st ne];exact e2
 have e3':(cP f (.lst ds.dropLast) st).lookup dZ=some (.val q0):=by rw[jw f dZ _ st nfp];exact e3
 let⟨b2',us2,m1,m2,m3,m4⟩:=iE k3 e2';rw[h6] at m1;cases m1;let⟨vq,n1,n2⟩:=rQ k3 e3';have hb2:=t2.sb _ _ m3;refine⟨.ref b2,rfl,.inl ⟨rfl,us2,gc.of hb2⟩,?_⟩;refine⟨HF,[none,none,none,some (.tuple [d,p])],d,t2.gr.fh,MR tb ry,hf0 d p,λv0 H3 VW G3 r0=>?_⟩;have t3:=t2.trans (ku t2.sb t2.hn G3);refine⟨.ref a,rfl,a,C,dx,fs,vq,rfl,t3.sb _ _ k1,cl,nf,n1,by show 2<=sizeLine;decide,λpn hpn=>?_⟩;have G4:bA VW H3 (upd VW pn (.tup [v0,vq])) (upd H3 pn (.tup [v0,vq])):=.new G3.fh hpn;have t4:=t3.trans (ku t3.sb t3.hn G4);refine⟨b2,us2,.ref pn,rfl,rfl,t4.sb _ _ m3,by rw[m4.length];exact e5,?_⟩;have t5:=t4.trans (lH (u:=.lst (us2++[.ref pn])) t4.sb t4.hn t4.gr.fh m3);have rt:Rep K (upd VW pn (.tup [v0,vq])) (.tuple [d,q0]) (.ref pn):=by
  simp?[Rep];exact⟨pn,[v0,vq],rfl,.inl (.inl aw),au.cons (r0.mono G4.ff) (au.cons (n2.mono (G3.ff.trans G4.ff)) au.nil)⟩
 have k1':upd (upd B b1 (.lst Yq.dropLast)) b2 (.lst (us2++[.ref pn])) a=some (.ins C dx fs):=by rw[ak λz=>by rw[z,m3] at k1;cases k1];exact k1
 have k2':upd (upd B b1 (.lst Yq.dropLast)) b2 (.lst (us2++[.ref pn])) dx=some (.own a):=by rw[ak λz=>by rw[z,m3] at k2;cases k2];exact k2
 have k3':=rK (B:=upd B b1 (.lst Yq.dropLast)) ((m4.mono (G3.ff.trans G4.ff)).append (au.cons rt au.nil)) (k3.imp (G3.ff.trans G4.ff) λ_ _ _ z=>z) h4 e2' h6;refine⟨upd VW pn (.tup [v0,vq]),[none,none,none,some (.tuple [d,p])],p,t5.gr.fh,MR (tb.mono (G3.ff.trans G4.ff)) (ry.mono (G3.ff.trans G4.ff)),hf1 d p,λv1 H6 HF6 G6 r1=>?_⟩;have t6:=t5.trans (ku t5.sb t5.hn G6);have hl:fs.length < 1000:=by rw[rT h3];exact e6
 refine⟨.ref a,rfl,a,C,dx,fs,rfl,t6.sb _ _ k1',cl,nf,hl,?_⟩;have t7:=t6.trans (lH (u:=.ins C dx (eu dZ v1 fs)) t6.sb t6.hn t6.gr.fh k1');let⟨WM,w1,w2,w3⟩:=ya (f:=dZ) r1 (k3'.imp G6.ff λ_ _ _ z=>z) h4;refine⟨HF6,[none,none,none,some (.tuple [d,p])],d,t7.gr.fh,MR (tb.mono ((G3.ff.trans G4.ff).trans G6.ff)) (ry.mono ((G3.ff.trans G4.ff).trans G6.ff)),hf2 d p,λv2 H8 HF8 G8 r2=>?_⟩;refine q v2 H8 HF8 _ (t7.trans (ku t7.sb t7.hn G8)) ⟨dx,eu dZ v1 fs,WM,aw,?_,w1.imp G8.ff λb hb ws z=>?_,w2⟩ r2
 ·rw[ak λz=>by rw[z,k1'] at k2';cases k2'];exact k2'
 ·rw[ak λz'=>by rw[z',k1'] at z;cases z];exact z
end
def PN{K:Φ}{st:Ω}{f0 f1 f2:Dl.Env->Δ D}(F:AI K x qual st fa fd)(S:bj N ps (ah st))(hN:N.length=4)(hp:ps.length=3)
  (hft:∀ds:Γ D,ds≠[]->ft [none,some (.list ds),none,none]=some false) (hf0:∀w p:D,f0 [none,none,none,some (.tuple [w,p])]=some w) (hf1:∀w p:D,f1 [none,none,none,some (.tuple [w,p])]=some p) (hf2:∀w p:D,f2 [none,none,none,some (.tuple [w,p])]=some w)
  (cl:pA K C) (nf:bH K C dZ) (ne:g≠f) (nfp:dZ≠f) (ngp:dZ≠g)
  (body:∀X:Cx,X.prog=P->X.w=w->X.K=K->X.mg=mg->X.base=base->Bk X N (ah st) k->X.env.code=fd.code->X.env.qual=qual++".<locals>."->uC X (aP st) (Px K ft f0 f1 f2)):cY P w K mg base nX (k+1) fa fd ps (Jh K C f g):=by
 sleep 20;refine xi lk VF S (λvs H Q E z=>by let⟨HF,B,a,st,dx,fs,as,b1,b2,d,VI,h0,_⟩:=z;rw[h0,hp];rfl) λA outer s H vs Q E hr z=>?_;let⟨HF,B,a,st,dx,fs,as,b1,b2,d,VI,h0,sm,tb,sb,hn,h1,h2,h3,h4,h5,h6,h7,q⟩:=z;refine⟨_,(body (tj nX P w K mg base N qual (ah _) fa VT A outer s H E).X2 rfl rfl rfl rfl rfl ⟨rfl,S.nd,λy kd hy=>.inl hy,rfl,λ_ _=>rfl,hr,rfl,S.kind⟩ rfl rfl).X2,?_⟩;subst h0;have e:L2.start N [V.ref a,V.ref b1,V.ref b2]=[some (.ref a),some (.ref b1),some (.ref b2),none]:=by
  unfold L2.start;rw[hN];rfl
 rw[e];exact Lr hft hf0 hf1 hf2 cl nf ne nfp ngp sm tb sb hn h1 h2 h3 h4 h5 h6 h7 q
section
variable {os Vz:Γ Oj}{st:Ω}{rest:Γ Ω}
def P4(i:Nat)(C:Ψ)(m f g:Str):OF:=λρ os=>(obj i C ρ os).bind λy=>if (y.2.lookup m).isNone=true then (MV f g y.2).map λw=>(w.1,os.set y.1 ⟨C,w.2⟩) else none
def Qw{pl:Sem θ}(F:cY X.prog X.w X.K X.mg X.base nX k fa fd ps (Jh X.K C f g))(hm:pP X.K C m fa)(hb:Binds X.K fd ps [])(hr:cJ k X.A)(hN:X.N[i]?=some x)(hv:oo X.env.scope x)(cl:pA X.K C)(n1:bH X.K C f)(n2:bH X.K C g)
  (YG:attributeBase (.Name x px1) f X.env (eval (.Name x px1) X.env)=eval (.Name x px1) X.env:=by rfl) (hb2:attributeBase (.Name x YJ) g X.env (eval (.Name x YJ) X.env)=eval (.Name x YJ) X.env:=by rfl)
  (hd:(x == ("__debug__":Str))=false:=by decide) (VF:(x == ("__classdict__":Str))=false:=by decide)
  (WQ:starEach [.Attribute (.Name x px1) f fp1,.Attribute (.Name x YJ) g Y0] X.env=(false,eval (.Attribute (.Name x px1) f fp1) X.env)::starEach [.Attribute (.Name x YJ) g Y0] X.env:=by rfl)
  (aen:starEach [.Attribute (.Name x YJ) g Y0] X.env=(false,eval (.Attribute (.Name x YJ) g Y0) X.env)::starEach [] X.env:=by rfl)
  (V1:(backTo pos (starEach [.Attribute (.Name x YJ) g Y0] X.env)).any (·.1)=false:=by rfl)
  (ht:eval (.Call (.Attribute (.Name x px) m apos) [.Attribute (.Name x px1) f fp1,.Attribute (.Name x YJ) g Y0] [] pos) X.env=(do
   let ov <- eval (.Name x px) X.env
   standAt apos.atName
   let (f',first) <- holding [ov] (getMethod ov m pl)
   callWith pos f' first (backTo pos (starEach [.Attribute (.Name x px1) f fp1,.Attribute (.Name x YJ) g Y0] X.env)) (backToKw pos (keywordEach [] X.env))):=by rfl) :
  OE X Vr H₀ pa (.Call (.Attribute (.Name x px) m apos) [.Attribute (.Name x px1) f fp1,.Attribute (.Name x YJ) g Y0] [] pos) (P4 i C m f g) :=
 aM (Ce (E:=E0) (bb hN hv hd VF) cl hm F hr hb .nil pw (ba (kb (bb hN hv hd VF) YG) (ba (kb (bb hN hv hd VF) hb2) cF aen) WQ) WQ V1 ht) λσ H Q z=>by
  sleep 9;let⟨⟨k',st⟩,h1,hf⟩:=bs hf;let⟨e1,e2⟩:=obj_some h1;split at hf
  ·rename_i hl;let⟨⟨d2,VZ⟩,h2,hf⟩:=ae hf;cases hf;let⟨ds,es,q0,p,l1,l2,l3,_⟩:=ze h2;let⟨HB,ad,Bs,ok⟩:=S;have kl:k' < os.length:=(List.getElem?_eq_some_iff.mp e2).1;let⟨dx,fs,as,f1,f2,f3,f4⟩:=(ok.at_ k' _ e2).ex;let⟨b1,Yq,g1,_⟩:=iE f3 l1;let⟨b2,us2,g2,_⟩:=iE f3 l2;have hH:=ok.S.gr.hh _ _ (ok.sb k' kl _ _ f1);refine⟨_,ok.S.ob i k' e1,ad k',dx,fs,rfl,hH,oE f3 (by cases z:st.lookup m with|none=>rfl|some _=>rw[z] at hl;cases hl),?_⟩;refine⟨_,ok.S.ob i k' e1,ad k',C,dx,fs,.ref b1,rfl,hH,cl,n1,g1,?_⟩;refine⟨_,ok.S.ob i k' e1,ad k',C,dx,fs,.ref b2,rfl,hH,cl,n2,g2,?_⟩;refine⟨HF,Bs k',ad k',st,dx,fs,as,b1,b2,d2,VZ,rfl,ok.S.gr.fh,ok.S.tb,λb u z=>ok.S.gr.hh b u (ok.sb k' kl b u z),λb u z=>ok.nf kl z,f1,f2,f3,f4,g1,g2,h2,λv H' Vt B' t z r=>?_⟩;exact q v H' Vt ⟨_,_,_,ok.turn e2 t z⟩ t.gr.ff r
  ·cases hf
end
def Fq(g:OG)(n:Nat)(args:Γ D):Δ D:=(g (args.map Slot.val++List.replicate (n - args.length) .Vs) []).map fun|.rt d _=>d|.nx _ _=>.none
def QP{K:Φ}{st:Ω}(F:AI K x qual st f fd)(S:bj N ps (ah st))
  (body:∀X:Cx,X.prog=P->X.w=w->X.K=K->X.mg=mg->X.base=base->Bk X N (ah st) k->X.env.code=fd.code->X.env.qual=qual++".<locals>."->∀Vr H₀ pa,ER X Vr H₀ pa (aP st) g):cY P w K mg base nX (k+1) f fd ps (Qc K ps.length (Fq g N.length)):=by
 let⟨oc,od,kV,doc,pm,an,VT,ct,W7,rfl,lk,VF⟩:=F.ex;refine xi lk VF S (λvs H Q E z=>by let⟨HF,ds,d,h1,_,h2,h3,_⟩:=z;rw[h2.length,h3]) λA outer s H vs Q E hr z=>?_;let⟨HF,ds,d,sm,tb,rr,hl,hd,q⟩:=z;refine⟨_,(body (tj nX P w K mg base N qual (ah _) f VT A outer s H E).X2 rfl rfl rfl rfl rfl ⟨rfl,S.nd,λy kd hy=>.inl hy,rfl,λ_ _=>rfl,hr,rfl,S.kind⟩ rfl rfl HF H []).X2,?_⟩;unfold Fq at hd;let⟨o,ho,hd⟩:=ae hd;have go:∀ {Vt H':Hp}{os:Γ Oj},fO K HF H [] Vt H' [] os []->bA HF H Vt H':=λ{Vt H' os} ⟨HB,ad,Bs,ok⟩=>⟨λb u z=>ok.S.gr.hh b u (ok.h0 b u z),ok.S.gr.ff,ok.S.gr.fh,λb u z=>by
  rcases ok.S.gr.nw b u z with y|y
  ·exact .inl y
  ·refine .inr ?_;cases c:H b with
   | none=>rfl
   | some w=>have:=ok.h0 b w c;rw[show HB b=none from y] at this;cases this⟩
 refine⟨HF,_,_,o,⟨H,λ_=>0,λ_ _=>none,⟨Ex.F6 sm tb rr,.refl _,λk o e=>by simp at e,λk hk=>by simp at hk,λk hk=>by simp at hk,λj k hj=>by simp at hj,yL _,λk a e=>by simp at e⟩⟩,ho,?_⟩;cases o with
 | rt d' os=>cases hd;exactλv H' Vt I r=>q v H' Vt (go I) r
 | nx ρ' os=>cases hd;exactλσ' H' Vt I _=>q .Vs H' Vt (go I.ends) (by simp[Rep])
def SM{K:Φ}{st:Ω}(F:AI K x qual st f fd)(S:bj N ps (ah st))(hb:Binds K fd ps [])(hm:pP K C m f)
  (body:∀X:Cx,X.prog=P->X.w=w->X.K=K->X.mg=mg->X.base=base->Bk X N (ah st) k->X.env.code=fd.code->X.env.qual=qual++".<locals>."->∀Vr H₀ pa,ER X Vr H₀ pa (aP st) g):Lm P w K mg base (k+1) C m ps.length (d6 g C N.length):=⟨f,fd,ps,GI F S body,hm,hb⟩
end Ob
namespace L2
open PySem PySem.Spec PyProof.Rows
def Sa(hi:Int)(n:Nat):It:=⟨λi _=>i < n,λi H x H'=>H'=H/\x=.int (hi - i),λi _=>n<=i⟩
def D6{K:Φ}(it:Ψ)(hi:Int)(n:Nat):Turn P w K tg (Sa hi n) [it] it (λi h=>IsRangeIter h it (hi+(i:Nat) * (-1)) ((n:Int) - (i:Nat)) (-1)) where
 mem:=by simp
 obj:=λi h st b hb=>by
  have e:b=it:=by simpa using hb
  subst e;exact⟨_,st,λv z=>by
   have z':Data.fields _=Data.cell v:=z;cases z'⟩
 keep:=λi h h' st k=>k it (by simp) _ st
 item:=by
  sleep 3;subst hP hw hK;sleep 10;have W:=Walks.range (prog:=X.prog) (w:=X.w) (I.ok.hd hc) it hi (-1) n;refine W.item i s _ _ hg st λv h' tk hv VI kk=>?_;let⟨t,rfl⟩:=hv;have I1:Inv X pins σ H { s with heap:=h',toks:=tk }:=I.turned (λb o hb e=>kk b o (by simpa using hb) e) f0 f1 f3 f4 f5;refine⟨_,rfl,BY (s:={ s with heap:=h',toks:=tk }) (n:="range_iterator") VI rfl rfl (by decide) ⟨.int (hi - i),H,I1,⟨t,?_⟩,⟨rfl,rfl⟩,VI,λb hb=>(hf b hb).1⟩⟩;rw[show hi+((i:Nat):Int) * (-1)=hi - i by lia]
 done:=by
  sleep 3;subst hP hw hK;sleep 10;exact wpAny_pyNext_range_end (I.ok.hd hc) st (by have:n<=i:=hg;lia) λh' eb=>⟨rfl,I.turned (t':=s.toks) (λb o hb e=>eb b o hb e) f0 f1 f3 f4 f5⟩
 self:=λ_ _ _ _ _ st h=>wpAny_pyIter_rangeiter st h
def uK(a b:Int):Builtin.Range.rangeSize a b (-1)=if b < a then a - b else 0:=by
 unfold Builtin.Range.rangeSize;rw[yM (by decide),show -(-1:Int)=1 from rfl,Int.ediv_one];split<;>lia
def small_down(ha:-(2 ^ 62)<=a)(ha':a < 2 ^ 62)(hb:-(2 ^ 62)<=b)(WB:b < 2 ^ 62):Builtin.Range.small a b (-1)=true:=by
 unfold Builtin.Range.small;rw[uK];simp?[Builtin.Range.rangeFitsLong,zF,jA,zJ,vD,show ¬ (-1:Int) > 0 by decide,qN];split<;>lia
section
variable {lo hi:Int}
def Br{t u v:Tok}{tk:Nat}(I:Inv X pins σ H s)(h1:-(2 ^ 62)<=hi)(h2:hi < 2 ^ 62)(h3:-(2 ^ 62)<=lo)(h4:lo < 2 ^ 62)
  (q:R (Sa hi (hi - lo).toNat) H):wpAny (model X.prog X.w) X.A (pyIter (.ref s.heap.objs.size)) (SS X pins σ tg R) E { s with heap:=s.heap.push { cls:=.type "range",data:=.fields #[.int hi t,.int lo u,.int (-1) v] },toks:=tk }:=by
 refine wpAny_pyIter_range (IsRange.new ..) (small_down h1 h2 h3 h4) ?_;have I1:Inv X pins σ H { s with heap:=s.heap.push { cls:=.type "range",data:=.fields #[.int hi t,.int lo u,.int (-1) v] },toks:=tk }:=I.kept λb o e=>zU _ e;refine⟨(s.heap.push { cls:=.type "range",data:=.fields #[.int hi t,.int lo u,.int (-1) v] }).objs.size,[(s.heap.push { cls:=.type "range",data:=.fields #[.int hi t,.int lo u,.int (-1) v] }).objs.size],_,_,H,rfl,
  I1.kept (t':=tk) λb o e=>zU _ e,D6 _ hi (hi - lo).toNat,?_,λb hb=>?_,q⟩
 ·have e1:hi+((0:Nat):Int) * (-1)=hi:=by simp
  have e2:(((hi - lo).toNat:Nat):Int) - ((0:Nat):Int)=Builtin.Range.rangeSize hi lo (-1):=by rw[uK];split<;>lia
  show IsRangeIter _ _ (hi+((0:Nat):Int) * (-1)) ((((hi - lo).toNat:Nat):Int) - ((0:Nat):Int)) (-1);rw[e1,e2];exact zX _ rfl
 ·have e:b=(s.heap.push { cls:=.type "range",data:=.fields #[.int hi t,.int lo u,.int (-1) v] }).objs.size:=by simpa using hb
  subst e;exact I1.Wr (yL _) (I1.Vx.fresh (yL _))
def Rj(ta:TA):TI:=λσ H R=>ta σ H λvs H1=>∃i j:Int,vs=[.int i,.int j,.int (-1)]/\(-(2 ^ 62)<=i/\i < 2 ^ 62/\-(2 ^ 62)<=j/\j < 2 ^ 62)/\R (Sa i (i - j).toNat) H1
def Eh(hg:Gl X "range")(hm:X.mg "range"=none)(ha:PA X [a,b,c] ta)(hs:starEach [a,b,c] X.env=[(false,eval a X.env),(false,eval b X.env),(false,eval c X.env)])(WV:starEach [b,c] X.env=[(false,eval b X.env),(false,eval c X.env)]) :
  PI X tg (.Call (.Name "range" p) [a,b,c] [] pos) (Rj ta):=by
 intro pins s σ H R I h;refine Call_ (i6 I hg hm boot_range (qQ (bR (ha pos pins s σ H _ I h) λus s1 z=>?_) (by rw[hs,WV]) (by rw[WV];rfl)));let⟨vs,H1,I1,r1,q1⟩:=z;let⟨i,j,e,⟨q1,q2,q3,q4⟩,q⟩:=q1;subst e;cases r1 with
 | cons r rr =>
  cases rr with
  | cons r' rr =>
   cases rr with
   | cons r'' rr =>
    cases rr;let⟨t,rfl⟩:=r;let⟨t',rfl⟩:=r';let⟨t'',rfl⟩:=r'';exact call_range_3 (by decide) (Br I1 q1 q2 q3 q4 q) (Or.inl (PyProof.noPylong_small (by lia)))
end
end L2
namespace Dl
open PySem L2 PySem.Spec PyProof.Rows
def D3{K:Φ}:rg K (Sa hi n) HF ((List.range n).map λi=>PyData.int (hi - (i:Nat))) where
 go:=λi d VX VE e s1 s2=>by
  rw[zO] at e;let⟨j,hj,rfl⟩:=ae e;let⟨hi,YE⟩:=List.getElem?_eq_some_iff.mp hj;have Wv:i < n:=by simpa using hi
  have:j=i:=by rw[<- YE];simp
  subst this;exact⟨Wv,λx Xa z=>by let⟨e2,hx⟩:=z;exact ⟨VE,by rw[e2];exact .refl s2,by simp[Rep,hx]⟩⟩
 stop:=λVX VE s1 s2=>by
  show n<=_;simp
section
variable {fs:Env->Δ (Γ D)}
def m8:Γ D->Δ (Γ D)
 | [.int i,.int j]=>if (pU i&&pU j)=true then some ((List.range (j - i).toNat).map λk=>PyData.int (i+((k:Nat):Int))) else none
 | [.int i,.int j,.int k]=>if (pU i&&pU j&&k == -1)=true then some ((List.range (i - j).toNat).map λk=>PyData.int (i - ((k:Nat):Int))) else none
 | _=>none
def Ea(B:pW X "range" (.type "range"))(h:DA X [a,b] fs)(hs:starEach [a,b] X.env=[(false,eval a X.env),(false,eval b X.env)])(WV:starEach [b] X.env=[(false,eval b X.env)]):DI X tg (.Call (.Name "range" p) [a,b] [] pos) (λρ=>(fs ρ).bind λds=>if ds.length=2 then m8 ds else none) :=
 oC (D0 B.gl B.mg h hs WV) λσ H R z=>by
  let⟨HF,ρ,ds,sm,eo,hf,q⟩:=z;sleep 5;split at hf
  ·rename_i hl;unfold m8 at hf;split at hf
   ·rename_i i j;split at hf
    ·rename_i hz;cases hf;refine⟨HF,ρ,_,sm,eo,hx,λvs H1 Vu g1 r1=>?_⟩;let⟨v,r,rfl,a1,b1⟩:=r1.cons_inv;let⟨v2,r2,rfl,a2,b2⟩:=b1.cons_inv;rw[b2.nil_inv];simp?[Rep] at a1 a2;subst a1 a2;unfold pU at hz;simp?[zF,zJ] at hz;exact⟨i,j,rfl,⟨hz.1.1,hz.1.2,hz.2.1,hz.2.2⟩,q _ H1 Vu g1 si⟩
    ·cases hf
   ·simp at hl
   ·cases hf
  ·cases hf
def DB(B:pW X "range" (.type "range"))(h:DA X [a,b,c] fs)(hs:starEach [a,b,c] X.env=[(false,eval a X.env),(false,eval b X.env),(false,eval c X.env)])(WV:starEach [b,c] X.env=[(false,eval b X.env),(false,eval c X.env)]):DI X tg (.Call (.Name "range" p) [a,b,c] [] pos) (λρ=>(fs ρ).bind λds=>if ds.length=3 then m8 ds else none) :=
 oC (Eh B.gl B.mg h hs WV) λσ H R z=>by
  let⟨HF,ρ,ds,sm,eo,hf,q⟩:=z;sleep 5;split at hf
  ·rename_i hl;unfold m8 at hf;split at hf
   ·simp at hl
   ·rename_i i j k;split at hf
    ·rename_i hz;cases hf;refine⟨HF,ρ,_,sm,eo,hx,λvs H1 Vu g1 r1=>?_⟩;let⟨v,r,rfl,a1,b1⟩:=r1.cons_inv;let⟨v2,r2,rfl,a2,b2⟩:=b1.cons_inv;let⟨v3,r3,rfl,a3,b3⟩:=b2.cons_inv;rw[b3.nil_inv];simp?[Rep] at a1 a2 a3;subst a1 a2 a3;unfold pU at hz;simp?[zF,zJ,vD] at hz;let⟨⟨⟨z1,z2⟩,z3,z4⟩,rfl⟩:=hz;exact⟨i,j,rfl,⟨z1,z2,z3,z4⟩,q _ H1 Vu g1 D3⟩
    ·cases hf
   ·cases hf
  ·cases hf
def Pi(n:Nat)(fs:Env->Δ (Γ D)):Env->Δ (Γ D):=λρ=>(fs ρ).bind λds=>if ds.length=n then m8 ds else none
end
end Dl
namespace Ob
open PySem L2 PySem.Spec PyProof.Rows Dl
abbrev Cb:=ao->Γ Oj->Δ (Γ Slot×Γ Oj)
def SL(K:Φ)(Vr H₀:Hp)(pa:Γ Ψ)(i:Nat)(f:Cb):TA:=λσ H Q=>∃HF ρ os sl Vz a,fO K Vr H₀ pa HF H ρ os σ/\σ[i]?=some (some (.ref a))/\f ρ os=some (sl,Vz)/\∀vs H' Vt,fO K Vr H₀ pa Vt H' ρ Vz σ->aB HF Vt->ix K Vt a sl vs->Q vs H'
def NV(X:Cx)(Vr H₀:Hp)(pa:Γ Ψ)(i:Nat)(es:Γ γ)(f:Cb):Prop:=PA X es (SL X.K Vr H₀ pa i f)
structure P1(P:Program)(w:World)(K:W.Frag)(mg:Str->Option Value)(base:Heap)(k:Nat)(C:Addr)(x:Str)(n:Nat)(mm:List Slot->Fs->Option (D×Fs)):Prop where
 ex:∃ (f:Ψ) (fd:η) (ps:Γ Str),cY P w K mg base nX k f fd ps (KO K C n mm)/\mg x=some (.ref f)/\W.keepIn K (.ref f)=true/\Binds K fd ps []
def P1.mono{K:Φ}{mm:Γ Slot->Fs->Δ (D×Fs)}(F:P1 P w K mg base k C m n mm)(h:k<=j):P1 P w K mg base j C m n mm:=by
 let⟨f,fd,ps,a,b,c⟩:=F.ex;exact⟨f,fd,ps,a.mono h,b,c⟩
section
variable {os Vz:Γ Oj}{st:Ω}{rest:Γ Ω}
def zu:Cb:=λ_ os=>some ([],os)
def md(f:OF)(g:Cb):Cb:=λρ os=>(f ρ os).bind λx=>(g ρ x.2).map λy=>(.val x.1::y.1,y.2)
def uO(g:Cb):Cb:=λρ os=>(g ρ os).map λy=>(.obj 0::y.1,y.2)
def J3:NV X Vr H₀ pa i [] zu:=iO cF λσ H Q z=>by
 let⟨HF,ρ,os,sl,Vz,a,S,ha,hf,q⟩:=z;cases hf;exact q [] H HF S (.refl _) .nil
def IW(he:OE X Vr H₀ pa e fa)(hs:NV X Vr H₀ pa i es g)(WQ:starEach (e::es) X.env=(false,eval e X.env)::starEach es X.env:=by rfl):NV X Vr H₀ pa i (e::es) (md fa g) :=
 iO (ba he hs WQ) λσ H Q z=>by
  let⟨HF,ρ,os,sl,Vz,a,S,ha,hf,q⟩:=z;let⟨⟨x,o1⟩,hx,hf⟩:=bs hf;let⟨⟨xs,o2⟩,hy,z⟩:=ae hf;cases z;exact⟨HF,ρ,os,x,o1,S,hx,λv1 H1 Vu S1 s1 r1=>⟨Vu,ρ,o1,xs,_,a,S1,ha,hy,λvs H2 VG S2 s2 r2=>q (v1::vs) H2 VG S2 (s1.trans s2) (.val (r1.mono s2) r2)⟩⟩
def JW(hN:X.N[i]?=some x)(hv:oo X.env.scope x)(hs:NV X Vr H₀ pa i es g)(hd:(x == ("__debug__":Str))=false:=by decide)(VF:(x == ("__classdict__":Str))=false:=by decide)
  (WQ:starEach (.Name x px::es) X.env=(false,eval (.Name x px) X.env)::starEach es X.env:=by rfl):NV X Vr H₀ pa i (.Name x px::es) (uO g) :=
 iO (ba (bb hN hv hd VF) hs WQ) λσ H Q z=>by
  let⟨HF,ρ,os,sl,Vz,a,S,ha,hf,q⟩:=z;let⟨⟨xs,o2⟩,hy,z⟩:=ae hf;cases z;exact⟨_,ha,HF,ρ,os,xs,_,a,S,ha,hy,λvs H2 VG S2 s2 r2=>q (.ref a::vs) H2 VG S2 s2 (.obj r2)⟩
def iK(i:Nat)(C:Ψ)(n:Nat)(mm:Γ Slot->Fs->Δ (D×Fs))(fs:Cb):OF:=λρ os=>(obj i C ρ os).bind λ_=>(fs ρ os).bind λy=>(obj i C ρ y.2).bind λz=>if y.1.length=n then (mm y.1 z.2).map λw=>(w.1,y.2.set z.1 ⟨C,w.2⟩) else none
def Fi{mm:Γ Slot->Fs->Δ (D×Fs)}{fs:Cb}(F:P1 X.prog X.w X.K X.mg X.base k C x n mm)(hr:cJ k X.A)(hg:Gl X x)(ha:NV X Vr H₀ pa i (e::es) fs)(Wz:(x == ("__debug__":Str))=false:=by decide)
  (he:starEach (e::es) X.env=(false,eval e X.env)::starEach es X.env:=by rfl) (V1:(backTo pos (starEach es X.env)).any (·.1)=false:=by rfl):OE X Vr H₀ pa (.Call (.Name x p) (e::es) [] pos) (iK i C n mm fs):=by
 let⟨f,fd,ps,ok,hm,hk,hb⟩:=F.ex;refine aM (vf (E:=E0) ok hr hg hm hk hb .nil pw ha Wz he V1) λσ H Q z=>?_;sleep 9;let⟨⟨k0,st0⟩,h0,hf⟩:=bs hf;let⟨⟨sl,o1⟩,h1,hf⟩:=bs hf;let⟨⟨k,st⟩,h2,hf⟩:=bs hf;split at hf
 ·rename_i hl;let⟨⟨d2,X9⟩,h4,hf⟩:=ae hf;cases hf;let⟨e1,e2⟩:=obj_some h0;let⟨e3,e4⟩:=obj_some h2;rw[e1] at e3;cases e3;have S0:=S;let⟨HB,ad,Bs,o⟩:=S;refine⟨HF,ρ,os,sl,o1,ad k0,S0,o.S.ob i k0 e1,h1,λvs H1 Vu S1 s1 r1=>?_⟩;let⟨HB1,ad1,Bs1,Wt⟩:=S1;have kl1:k0 < o1.length:=(List.getElem?_eq_some_iff.mp e4).1;have ea:ad1 k0=ad k0:=by
   have z1:=Wt.S.ob i k0 e1;have z2:=o.S.ob i k0 e1;rw[z2] at z1;injection z1 with z1
   injection z1 with z1
   injection z1 with z1
   exact z1.symm
  rw[qE];refine⟨Vu,Bs1 k0,ad k0,sl,st,d2,X9,Wt.S.gr.fh,Wt.S.tb,λb u z=>Wt.S.gr.hh b u (Wt.sb k0 kl1 b u z),λb u z=>Wt.nf kl1 z,ea ▸ Wt.at_ k0 _ e4,r1,hl,h4,λv H' Vt B' t z r=>?_⟩;exact q v H' Vt ⟨_,_,_,Wt.turn e4 t (ea ▸ z)⟩ (s1.trans t.gr.ff) r
 ·cases hf
end
section
variable {os Vz:Γ Oj}{fs:sP}
def Aj(i:Nat)(fs:sP):OG:=λρ os=>(fs ρ os).bind λx=>(small x.1).map λds=>.nx (ρ.set i (.own ds)) x.2
def JO(i:Nat){pos':Pos}(hN:X.N.Nodup)(hi:X.N[i]?=some x)(hx:Loc X.env.scope x)(h:OA X Vr H₀ pa es fs)
  (hf:X.fn x=true\/X.env.scope.names.lookup x=some .local:=by first|exact .inl rfl|exact .inr rfl|assumption):OS X Vr H₀ pa (.Assign [.Name x pos'] (.List es p) pos) (Aj i fs):=aW (lb hN hi hx (HS h) rfl hf) λE σ H z=>by
 sleep 11;let⟨⟨ds,o1⟩,h1,hg⟩:=bs hg;let⟨ZJ,e,z⟩:=ae hg;cases z;let⟨rfl,hz⟩:=cS e;refine⟨HF,ρ,os,_,o1,S,h1,λvs H1 Vu S1 s1 r1=>⟨by rw[r1.length];exact hz,λl hl=>?_⟩⟩;let⟨HB,ad,Bs,ok⟩:=S1;refine q _ _ Vu ⟨HB,ad,Bs,ok.pure (ok.S.aa7 (bV hl) aw (ok.S.gr.fh.free hl) (ok.S.gr.hh.free hl) r1 λj es _ hj z=>?_) (.refl _)⟩ s1;let⟨b,us,e1,e2,_⟩:=ok.S.own j es hj;rw[e1] at z;cases z;rw[hl] at e2;cases e2
def tK(i:Nat)(f:OF):OG:=λρ os=>(f ρ os).bind λx=>match ρ[i]? with
 | some (.own ds)=>if ds.length < sizeLine then some (.nx (ρ.set i (.own (ds++[x.1]))) x.2) else none
 | _=>none
def Lu(hN:X.N[i]?=some x)(hv:oo X.env.scope x)(h:OE X Vr H₀ pa e fa)(hd:(x == ("__debug__":Str))=false:=by decide)(VF:(x == ("__classdict__":Str))=false:=by decide)
  (V7:((backTo Vv (starEach [e] X.env)).all (λx=>!x.1)&&(backToKw Vv (keywordEach [] X.env)).all (λx=>x.1.isSome)&&decide ([e].length+([]:Γ Keyword).length+(if ([]:Γ Keyword).isEmpty then 0 else 1) < 30))=true:=by rfl)
  (VA:(apos.endLine == Vv.line)=true:=by rfl) (hs:starEach [e] X.env=(false,eval e X.env)::starEach [] X.env:=by rfl) :
  OS X Vr H₀ pa (.Expr (.Call (.Attribute (.Name x px) "append" apos) [e] [] Vv) pos) (tK i fa) :=
 aW (gP (pK qM PySem.F.slot_list_append PySem.F.type_list_append iu (bb hN hv hd VF) (ba h cF hs) rfl V7 VA hs rfl)) λE σ H z=>by
  sleep 11;let⟨⟨d,o1⟩,h1,hg⟩:=bs hg;split at hg
  ·rename_i ds Yd;split at hg
   ·rename_i hz;cases hg;have S0:=S;let⟨HB,ad,Bs,ok⟩:=S;let⟨a,vs,e1,e2,e3,e5,e4⟩:=ok.S.own i ds Yd;refine⟨.ref a,e1,.inl ⟨rfl,vs,gc.of e2⟩,HF,ρ,os,d,o1,S0,h1,λv H' Vt S' s1 r=>?_⟩;let⟨HB',ad',Bs',ok'⟩:=S';let⟨a',Yl,f1,f2,f3,f5,f4⟩:=ok'.S.own i ds Yd;rw[e1] at f1;cases f1;exact⟨a,Yl,v,rfl,rfl,f2,by rw[f4.length];exact hz,q σ _ Vt ⟨HB',ad',Bs',ok'.pure (ok'.S.mut Yd e1 f2 (f4.append (au.cons r au.nil))) (.refl _)⟩ s1⟩
   ·cases hg
  ·cases hg
end
abbrev PR:=ao->Γ Oj->Δ (Γ D)
def SH(K:Φ)(Vr H₀:Hp)(pa:Γ Ψ)(f:PR):TE:=λσ H Q=>∃HF ρ os ds,fO K Vr H₀ pa HF H ρ os σ/\f ρ os=some ds/\∀l us H1 Vu,bA HF H Vu H1->H l=none->Vu l=none->H1 l=some (.lst us)->au K Vu ds us->Q (.ref l) H1
def Sy(X:Cx)(Vr H₀:Hp)(pa:Γ Ψ)(e:γ)(f:PR):Prop:=PE X e (SH X.K Vr H₀ pa f)
section
variable {os Vz:Γ Oj}{fs:sP}
def yx(fl:Dl.Env->Δ (Γ D)):PR:=λρ _=>fl (bp ρ)
def GZ(h:DF X e fl):Sy X Vr H₀ pa e (yx fl):=aM h λσ H Q z=>by let⟨HF,ρ,os,ds,S,hf,q⟩:=z;exact ⟨HF,bp ρ,ds,S.fh,S.V5,hf,λl us H1 Vu G n1 n2 n3 r1=>q l us H1 Vu G n1 n2 n3 r1⟩
def zz(i:Nat)(C:Ψ)(f:Str):PR:=λρ os=>(obj i C ρ os).bind λy=>match y.2.lookup f with
 | some (.lst ds)=>some ds
 | _=>none
def Fk(B:pW X "list" (.type "list"))(hN:X.N[i]?=some x)(hv:oo X.env.scope x)(cl:pA X.K C)(nf:bH X.K C f)
  (hb:attributeBase (.Name x px) f X.env (eval (.Name x px) X.env)=eval (.Name x px) X.env:=by rfl) (hd:(x == ("__debug__":Str))=false:=by decide) (VF:(x == ("__classdict__":Str))=false:=by decide)
  (he:starEach [.Attribute (.Name x px) f WC] X.env=(false,eval (.Attribute (.Name x px) f WC) X.env)::starEach [] X.env:=by rfl) :
  Sy X Vr H₀ pa (.Call (.Name "list" p) [.Attribute (.Name x px) f WC] [] pos) (zz i C f) :=
 aM (oU wY B.gl B.mg B.bt (ba (kb (bb hN hv hd VF) hb) cF he) (by decide) (by decide) he rfl) λσ H Q z=>by
  let⟨HF,ρ,os,d,S,hf,q⟩:=z;let⟨⟨k,st⟩,h1,hf⟩:=bs hf;let⟨e1,e2⟩:=obj_some h1;split at hf
  ·rename_i ds e3;cases hf;let⟨HB,ad,Bs,ok⟩:=S;sleep 4;show Du X.K (mL i) f σ H _;refine vm ok e1 e2 e3 cl nf λdx fs as b us f1 f2 f3 f4 g1 g3 g4=>?_;exact⟨b,us,rfl,.inl (gc.of (ok.S.gr.hh _ _ (ok.sb k kl _ _ g3))),λl hl=>q l us _ HF (.own ok.S.gr.fh hl) hl (ok.S.gr.fh.free hl) aw g4⟩
  ·cases hf
def jt(i:Nat)(C:Ψ)(f:Str)(fl:PR):OG:=λρ os=>(fl ρ os).bind λds=>(obj i C ρ os).bind λy=>if y.2.length < 1000 then some (.nx ρ (os.set y.1 ⟨C,cP f (.lst ds) y.2⟩)) else none
def Ja(he:Sy X Vr H₀ pa e fl)(hN:X.N[i]?=some x)(hv:oo X.env.scope x)(cl:pA X.K C)(nf:bH X.K C f)
  (hs:swapsWith e (some (.Attribute (.Name x px) f pos')) pos.line X.env=pure false:=by rfl) (hd:(x == ("__debug__":Str))=false:=by decide) (VF:(x == ("__classdict__":Str))=false:=by decide) :
  OS X Vr H₀ pa (.Assign [.Attribute (.Name x px) f pos'] e pos) (jt i C f fl):=aW (Ay (bb hN hv hd VF) he hs) λE σ H z=>by
 sleep 11;let⟨ds,h1,hg⟩:=bs hg;let⟨⟨k,st⟩,h2,hg⟩:=bs hg;split at hg
 ·rename_i hl;cases hg;let⟨e1,e2⟩:=obj_some h2;refine⟨HF,ρ,os,ds,S,h1,λl us H1 Vu G n1 n2 n3 r1=>?_⟩;let⟨HB,ad,Bs,ok⟩:=S;sleep 4;let⟨dx,fs,as,f1,f2,f3,f4⟩:=(ok.at_ k _ e2).ex;have sb:aB (Bs k) H:=λb u z=>ok.S.gr.hh b u (ok.sb k kl b u z);have nB:Bs k l=none:=by
   cases z:Bs k l with
   | none=>rfl
   | some u=>rw[sb l u z] at n1;cases n1
  have t1:=Jk sb (λb u z=>ok.nf kl z) G n1 n2 n3;have ne:∀b u,Bs k b=some u->b≠l:=λb u z y=>by rw[y,nB] at z;cases z
  refine⟨_,ok.S.ob i k e1,ad k,C,dx,fs,rfl,G.hh _ _ (sb _ _ f1),cl,nf,by rw[rT f3];exact hl,?_⟩;have lns:l∉as:=λhq=>by
   let⟨ws,z⟩:=N7 f3 l hq;rw[nB] at z;cases z
  have f1':upd (Bs k) l (.lst us) (ad k)=some (.ins C dx fs):=by rw[ak (ne _ _ f1)];exact f1
  have f3':fZ X.K Vu (upd (Bs k) l (.lst us)) st fs as:=f3.imp G.ff λb hb ws z=>by rw[ak (ne _ _ z)];exact z
  let⟨WM,f5,f6,f7⟩:=EL (f:=f) (l:=l) r1 aw f3' f4 lns;have t2:=lH (u:=.ins C dx (eu f (.ref l) fs)) t1.sb (λb u z=>(t1.nw b u z).1) t1.gr.fh f1';refine q σ _ Vu ⟨_,_,_,ok.turn e2 (t1.trans t2) ⟨dx,eu f (.ref l) fs,WM,aw,?_,f5.imp (.refl _) λb hb ws z=>?_,f6⟩⟩ G.ff
  ·have nd:dx≠ad k:=λz=>by rw[z,f1] at f2;cases f2
   rw[ak nd,ak (ne _ _ f2)];exact f2
  ·rw[ak λz'=>by rw[z',f1'] at z;cases z];exact z
 ·cases hg
end
def Ge(K:Φ)(C:Ψ)(tw:Fs->Δ (Fs×Fs)):Sp:=λvs H Q _=>∃HF B a st st1 VZ,vs=[.ref a]/\aB HF H/\cy K HF/\aB B H/\(∀b o,B b=some o->HF b=none)/\wb K HF B C a st/\tw st=some (st1,VZ) /\
 ∀a2 H1 H' Vt B' B2,p6 HF H B Vt H1 B'->wb K Vt B' C a st1->p6 Vt H1 (λ_=>none) Vt H' B2->wb K Vt B2 C a2 VZ->Q (.ref a2) H'
def TY(C:Ψ):Dv->Δ (Fs×Fs)
 | .nx ρ [o0,o1]=>match ρ[1]? with
  | some (Slot.obj 1)=>if o0.C=C/\o1.C=C then some (o0.st,o1.st) else none
  | _=>none
 | _=>none
def sy(g:OG)(C:Ψ)(n:Nat):Fs->Δ (Fs×Fs):=λst=>(g (.obj 0::List.replicate (n - 1) .Vs) [⟨C,st⟩]).bind (TY C)
def FL(h:TY C o=some (st1,VZ)):∃ρ,o=.nx ρ [⟨C,st1⟩,⟨C,VZ⟩]/\ρ[1]?=some (.obj 1):=by
 unfold TY at h;split at h
 ·rename_i ρ o0 o1;split at h
  ·rename_i e;split at h
   ·rename_i hc;cases h;refine⟨ρ,?_,e⟩;rw[<- hc.1]
    congr 2
    let⟨c1,s1⟩:=o1;show [Oj.mk c1 s1]=[⟨o0.C,s1⟩]
    rw[show c1=o0.C from hc.2.trans hc.1.symm]
   ·cases h
  ·cases h
 ·cases h
def fO.two{K:Φ}(h:fO K HF (cut H B) [a] Vt H' ρ [⟨C,st1⟩,⟨C,VZ⟩] σ)(e:ρ[1]?=some (.obj 1)) :
  ∃a2 H1 B' B2,σ[1]?=some (some (.ref a2))/\p6 HF H B Vt H1 B'/\wb K Vt B' C a st1/\p6 Vt H1 (λ_=>none) Vt H' B2/\wb K Vt B2 C a2 VZ:=by
 let⟨HB,ad,Bs,o⟩:=h;have h0:0 < [(⟨C,st1⟩:Oj),⟨C,VZ⟩].length:=by simp
 have h1:1 < [(⟨C,st1⟩:Oj),⟨C,VZ⟩].length:=by simp
 have pa:=o.pa 0 a rfl;have at0:=o.at_ 0 _ rfl;rw[pa] at at0;have hh:∀b u,HB b=some u->H' b=some u:=o.S.gr.hh;have no1:∀b u,Vt b=some u->Bs 1 b=none:=λb u z=>by
  cases y:Bs 1 b with
  | none=>rfl
  | some w=>rw[o.nf h1 y] at z;cases z
 refine⟨ad 1,cut H' (Bs 1),Bs 0,Bs 1,o.S.ob 1 1 e,⟨⟨λb u z=>eL (hh b u (o.h0 b u z)) ?_,o.S.gr.ff,λb u z=>eL (o.S.gr.fh b u z) (no1 b u z),λb u z=>?_⟩,λb u z=>eL (hh b u (o.sb 0 h0 b u z)) (o.dj 0 1 h0 h1 (by decide) b u z),λb u z=>⟨o.nf h0 z,(o.fr 0 h0 b u z).1⟩⟩,at0,
  ⟨⟨λb u z=>(cx (cx z).1).1,.refl _,o.S.gr.fh,λb u z=>.inl z⟩,λb u z=>hh b u (o.sb 1 h1 b u z),λb u z=>⟨o.nf h1 z,?_⟩⟩,o.at_ 1 _ rfl⟩
 ·cases y:Bs 1 b with
  | none=>rfl
  | some w=>rw[(o.fr 1 h1 b w y).1] at z;cases z
 ·rcases o.S.gr.nw b u z with y|y
  ·exact .inl y
  ·refine .inr ?_;cases c:cut H B b with
   | none=>rfl
   | some w=>have:=o.h0 b w c;rw[show HB b=none from y] at this;cases this
 ·cases c:cut (cut H' (Bs 1)) (λ_=>none) b with
  | none=>rfl
  | some w=>have:=(cx c).1;rw[ml z] at this;cases this
def Ol{K:Φ}{st:Ω}(F:AI K x qual st f fd)(S:bj N ps (ah st))(hp:ps.length=1)
  (body:∀X:Cx,X.prog=P->X.w=w->X.K=K->X.mg=mg->X.base=base->Bk X N (ah st) k->∀Vr H₀ pa,uC X (aP st) (rA (tO K Vr H₀ pa g1) (rA (tO K Vr H₀ pa g2) (rA (tO K Vr H₀ pa g3) (GE (mL 1)))))):cY P w K mg base nX (k+1) f fd ps (Ge K C (sy (bg g1 (bg g2 g3)) C N.length)):=by
 sleep 20;refine xi lk VF S (λvs H Q E z=>by let⟨HF,B,a,st,st1,VZ,h1,_⟩:=z;rw[h1,hp];rfl) λA outer s H vs Q E hr z=>?_;let⟨HF,B,a,st,st1,VZ,h1,sm,tb,sb,hn,oa,hd,q⟩:=z;subst h1;refine⟨_,(body (tj nX P w K mg base N qual (ah _) f VT A outer s H E).X2 rfl rfl rfl rfl rfl ⟨rfl,S.nd,λy kd hy=>.inl hy,rfl,λ_ _=>rfl,hr,rfl,S.kind⟩ HF (cut H B) [a]).X2,?_⟩;unfold sy at hd;let⟨o,ho,hd⟩:=bs hd;let⟨WS,rfl,e3⟩:=FL hd;unfold bg at ho;let⟨o1,YH,ho⟩:=bs ho;cases o1 with
 | rt d os=>cases ho
 | nx ρ1 VO =>
  let⟨o2,X4,ho⟩:=bs ho;cases o2 with
  | rt d os=>cases ho
  | nx Wb Wl =>
   have st0:=C3 (N:=N) (as:=[.obj 0]) (vs:=[.ref a]) sm tb sb hn oa (.obj .nil);refine⟨HF,_,_,_,st0,YH,λZK H1 Vu S1 s1=>⟨Vu,_,_,_,S1,X4,λWW H2 VG S2 s2=>⟨VG,_,_,_,S2,ho,λX3 H3 VW S3 s3=>?_⟩⟩⟩;let⟨a2,H1',B',B2,z1,z2,z3,z4,z5⟩:=fO.two S3 e3;exact⟨_,z1,q a2 H1' H3 VW B' B2 z2 z3 z4 z5⟩
section
variable {os Vz:Γ Oj}
def P9(j i:Nat)(C:Ψ)(m:Str)(tw:Fs->Δ (Fs×Fs)):OG:=λρ os=>(obj i C ρ os).bind λy=>if (y.2.lookup m).isNone=true/\ρ.all (below os.length)=true then (tw y.2).map λw=>.nx (ρ.set j (.obj os.length)) (os.set y.1 ⟨C,w.1⟩++[⟨C,w.2⟩]) else none
def RR{pl:Sem θ}{pos':Pos}(F:cY X.prog X.w X.K X.mg X.base nX k f fd ps (Ge X.K C tw))(hm:pP X.K C m f)(hb:Binds X.K fd ps [])(hr:cJ k X.A)(hNy:X.N[i]?=some y)(hv:oo X.env.scope y)(cl:pA X.K C)
  (hN:X.N.Nodup) (hi:X.N[j]?=some x) (hx:Loc X.env.scope x) (hd:(y == ("__debug__":Str))=false:=by decide) (VF:(y == ("__classdict__":Str))=false:=by decide)
  (ht:eval (.Call (.Attribute (.Name y px) m apos) [] [] Vv) X.env=(do
   let ov <- eval (.Name y px) X.env
   standAt apos.atName
   let (f,first) <- holding [ov] (getMethod ov m pl)
   callWith Vv f first (backTo Vv (starEach [] X.env)) (backToKw Vv (keywordEach [] X.env))):=by rfl)
  (hs:swapsWith (.Call (.Attribute (.Name y px) m apos) [] [] Vv) (some (.Name x pos')) pos.line X.env=pure false:=by rfl)
  (hf:X.fn x=true\/X.env.scope.names.lookup x=some .local:=by first|exact .inl rfl|exact .inr rfl|assumption):OS X Vr H₀ pa (.Assign [.Name x pos'] (.Call (.Attribute (.Name y px) m apos) [] [] Vv) pos) (P9 j i C m tw) :=
 aW (lb hN hi hx (xx (E:=E0) (bb hNy hv hd VF) cl hm F hr hb .nil pw ht) hs hf) λE σ H z=>by
  sleep 11;let⟨⟨n,st⟩,h1,hg⟩:=bs hg;split at hg
  ·rename_i hc;let⟨⟨st1,VZ⟩,h2,hg⟩:=ae hg;cases hg;let⟨e1,e2⟩:=obj_some h1;let⟨HB,ad,Bs,ok⟩:=S;have kl:n < os.length:=(List.getElem?_eq_some_iff.mp e2).1;let⟨dx,ls,as,f1,f2,f3,f4⟩:=(ok.at_ n _ e2).ex;refine⟨_,ok.S.ob i n e1,ad n,dx,ls,rfl,ok.S.gr.hh _ _ (ok.sb n kl _ _ f1),oE f3 (by cases z:st.lookup m with|none=>rfl|some _=>have:=hc.1;rw[z] at this;cases this),?_⟩;refine⟨HF,Bs n,ad n,st,st1,VZ,rfl,ok.S.gr.fh,ok.S.tb,λb u z=>ok.S.gr.hh b u (ok.sb n kl b u z),λb u z=>ok.nf kl z,ok.at_ n _ e2,h2,λa2 H1 H' Vt B' B2 t1 z1 t2 z2=>?_⟩;have Wt:=ok.turn e2 t1 z1;have nb:∀ (i k:Nat),ρ[i]?=some (Slot.obj k)->k < (os.set n ⟨C,st1⟩).length:=λi k y=>by
    have:=List.all_eq_true.mp hc.2 _ (qA y);rw[yC];exact yP this
   have ok2:=Wt.make t2 (λb u z=>eL z rfl) z2 nb;refine q _ H' Vt ⟨_,_,_,ok2.pure (σ':=σ.set j (some (.ref a2))) ?_ (.refl _)⟩ t1.gr.ff;have:=C4 (i:=j) (k:=os.length) ok2.S;rw[show (Hq.mk (EO (GL HB (Bs n) B') B2) λj=>if j=(os.set n ⟨C,st1⟩).length then a2 else ad j).ad os.length=a2 from yK (by rw[yC])] at this;exact this
  ·cases hg
end
end Ob
namespace Og
open PySem L2 Dl Rf Ob PySem.Spec PyProof.Rows
abbrev MF:=Γ Dl.Slot->Fs->Δ (D×Fs)
structure Cg where
 cn:Str
 C:Ψ
 fl:Γ Str
 ms:Γ (Str×Nat×MF)
 Xf:Δ (Nat×MF)
 mv:Δ Str
 mp:Γ (Str×Str)
 fs:Γ (Str×Nat×MF):=[]
 tw:Δ (Str×(Fs->Δ (Fs×Fs))):=none
 on:Γ Str:=[]
structure iq(c:Cg)(X:Cx)(j:Nat):Prop where
 cl:pA X.K c.C
 na:∀f,c.fl.contains f=true->bH X.K c.C f
 ms:∀m n mm,c.ms.lookup m=some (n,mm)->Lm X.prog X.w X.K X.mg X.base j c.C m n mm
 Xf:∀n mi,c.Xf=some (n,mi)->∃f fd ps,Mk X.K c.C f/\cY X.prog X.w X.K X.mg X.base nX j f fd ps (KO X.K c.C n mi)/\Binds X.K fd ps []/\X.mg c.cn=some (.ref c.C)
 mv:∀m,c.mv=some m->∀f g,c.mp.contains (f,g)=true->∃fa fd ps,cY X.prog X.w X.K X.mg X.base nX j fa fd ps (Jh X.K c.C f g)/\pP X.K c.C m fa/\Binds X.K fd ps []
 fs:∀x n mm,c.fs.lookup x=some (n,mm)->P1 X.prog X.w X.K X.mg X.base j c.C x n mm
 tw:∀m t,c.tw=some (m,t)->∃f fd ps,cY X.prog X.w X.K X.mg X.base nX j f fd ps (Ge X.K c.C t)/\pP X.K c.C m f/\Binds X.K fd ps []
def MS(f:γ->Δ OF):Γ γ->Δ sP
 | []=>some bq
 | e::es=>if isStar e=false then (f e).bind λx=>(MS f es).map λy=>aV x y else none
def Se(f:γ->Δ OF):Γ γ->Δ OF
 | []=>none
 | [a]=>f a
 | a::b::r=>(f a).bind λx=>(Se f (b::r)).map λy=>Eg x y
def Ui:CmpOp->Δ (D->D->Δ D)
 | .Eq=>some bu
 | .NotEq=>some e9
 | _=>none
def eh(sc:ζ)(N:Γ Str)(x:Str):Δ Nat:=(N.idxOf? x).bind λi=>if lT N sc i x=true then some i else none
def QI(c:Cg)(sc:ζ)(N:Γ Str)(x m:Str)(args:Γ γ):Δ OF:=(l2 args).bind λu=>(FJ u.1).bind λy=>(FJ u.2).bind λz=>if (y.2.1 == x&&z.2.1 == x&&c.fl.contains y.1.2.1&&c.fl.contains z.1.2.1&&c.mp.contains (y.1.2.1,z.1.2.1))=true then (eh sc N x).map λi=>P4 i c.C m y.1.2.1 z.1.2.1 else none
def Uy(c:Cg)(sc:ζ)(N:Γ Str)(f:γ->Δ OF)(x m:Str)(args:Γ γ)(apos pos:Pos):Δ OF :=
 if (apos.endLine == pos.line&&decide (args.length < 20))=true then (if c.mv=some m then QI c sc N x m args else (c.ms.lookup m).bind λz=>(eh sc N x).bind λi=>(MS f args).map λfs=>aZ i c.C m z.1 z.2 fs) else none
def Ur(G:Sg)(sc:ζ)(f:γ->Δ OF)(x:Str)(args:Γ γ):Δ OF :=
 if (Ad sc x&&!(x == ("__debug__":Str))&&!args.isEmpty)=true then (G.fn.lookup x).bind λz=>(MS f args).map λfs=>lu z.1 z.2 fs else none
def Rm(c:Cg)(e:γ):Δ Str:=(dN e).bind λz=>if c.on.contains z.1=true then some z.1 else none
def Kv(c:Cg)(f:γ->Δ OF)(y:Str):Γ γ->Δ Cb
 | []=>some zu
 | e::es=>if isStar e=false then (Rm c e).elim ((f e).bind λx=>(Kv c f y es).map λg=>md x g) λy'=>if (y' == y)=true then (Kv c f y es).map uO else none else none
def Rh(c:Cg)(sc:ζ)(N:Γ Str)(f:γ->Δ OF)(x:Str)(args:Γ γ):Δ OF :=
 if (Ad sc x&&!(x == ("__debug__":Str))&&!args.isEmpty)=true then (c.fs.lookup x).bind λz=>(args.findSome? (Rm c)).bind λy=>(eh sc N y).bind λi=>(Kv c f y args).map λfs=>iK i c.C z.1 z.2 fs else none
def Pm(f0:γ->Δ OF)(a:γ)(ops:Γ CmpOp)(cs:Γ γ):Δ OF:=(l1 ops).bind λop=>(l1 cs).bind λb=>if behindInMarks op b=false then (Ui op).bind λg=>(f0 a).bind λfa=>(f0 b).map λfb=>tM g fa fb else none
def Rt(c:Cg)(G:Sg)(sc:ζ)(N:Γ Str)(f0:γ->Δ OF)(e:γ):Δ OF:=match e with
 | .Compare a ops cs _=>Pm f0 a ops cs
 | .BoolOp .And es _=>Se f0 es
 | .Tuple es _ _=>(MS f0 es).map oTup
 | .Attribute o f _=>(dN o).bind λx=>if c.fl.contains f=true then (eh sc N x.1).map λi=>jo i c.C f else none
 | .Call ..=>(Mm e).elim ((MO e).bind λz=>Uy c sc N f0 z.1.2.1 z.1.1.2.1 z.2.1 z.1.1.2.2 z.2.2) λz=>if (c.fs.lookup z.2.1).isSome=true then Rh c sc N f0 z.2.1 z.1.2.1 else Ur G sc f0 z.2.1 z.1.2.1
 | _=>none
def Ni(c:Cg)(G:Sg)(sc:ζ)(N:Γ Str)(T:Tr):Nat->γ->Δ OF
 | 0,_=>none
 | n+1,e=>(T.e e).elim (Rt c G sc N (Ni c G sc N T n) e) λf=>some (oD f)
section
variable {c:Cg}{G:Sg}{X:Cx}{N:Γ Str}{sc:ζ}{k j:Nat}{T:Tr}{pos p:Pos}{Vr H₀:Hp}{pa:Γ Ψ}
def dq(C:Bk X N sc k)(h:eh sc N x=some i):X.N[i]?=some x/\oo X.env.scope x/\(x == ("__debug__":Str))=false/\(x == ("__classdict__":Str))=false:=by
 let⟨i',_,h⟩:=bs h;let⟨hv,h⟩:=ax h;cases h;exact C.XN hv
def oJ(hf:∀e g,f e=some g->OE X Vr H₀ pa e g):∀ {es:Γ γ}{fs:sP},MS f es=some fs->OA X Vr H₀ pa es fs/\(es.all λe=>!isStar e)=true
 | [],fs,h=>by cases h;exact⟨Pz,rfl⟩
 | e::es,fs,h=>by
  let⟨hs,h⟩:=ax h;sleep 15;sleep 21;have ih:=oJ hf hy;exact⟨Lx (hf _ _ hx) ih.1 (aN hs),by rw[xR,hs,ih.2];rfl⟩
def FH(hf:∀e g,f e=some g->OE X Vr H₀ pa e g):∀ {es:Γ γ}{g:OF},Se f es=some g->OE X Vr H₀ pa (.BoolOp .And es pos) g
 | [],g,h=>by cases h
 | [a],g,h=>OH (hf _ _ h)
 | a::b::r,g,h=>by
  unfold Se at h;sleep 15;sleep 21;have ih:=FH hf hy;exact Oh (hf _ _ hx) ih
def N3(C:Bk X N sc k)(h:Ui op=some g):∃r,gH X (compareOp op) r/\eA X.K r g:=by
 cases op<;>cases h
 ·exact⟨_,Bb C.u64,lq⟩
 ·exact⟨_,BF C.u64,lq⟩
def M1(C:Bk X N sc k)(gk:Ao G X j)(VD:j<=k)(hf:∀e g,f e=some g->OE X Vr H₀ pa e g)(h:Ur G sc f x args=some g):OE X Vr H₀ pa (.Call (.Name x p) args [] pos) g:=by
 let⟨hg,h⟩:=ax h;simp?[zF,yO] at hg;let⟨⟨n,m⟩,h1,h⟩:=bs h;let⟨fs,h2,rfl⟩:=ae h;let⟨h3,h4⟩:=oJ hf h2;cases args with
 | nil=>cases hg.2
 | cons e es =>
  rw[xR,zF,yO] at h4;exact K2 (gk.fn x n m h1) (C.room.mono VD) (C.gl hg.1.1) h3 hg.1.2 (aN h4.1) (cG h4.2)
def wM(C:Bk X N sc k)(hi:eh sc N y=some i)(hf:∀e g,f e=some g->OE X Vr H₀ pa e g):∀ {es:Γ γ}{fs:Cb},Kv c f y es=some fs->NV X Vr H₀ pa i es fs/\(es.all λe=>!isStar e)=true
 | [],fs,h=>by cases h;exact⟨J3,rfl⟩
 | e::es,fs,h=>by
  let⟨hs,h⟩:=ax h;sleep 1
  ·sleep 15;let⟨g,hg,rfl⟩:=ae h;have ih:=wM C hi hf hg;exact⟨IW (hf _ _ hx) ih.1 (aN hs),by rw[xR,hs,ih.2];rfl⟩
  ·let⟨hy,h⟩:=ax h;let⟨g,hg,rfl⟩:=ae h;have ih:=wM C hi hf hg;let⟨w,hw,hz⟩:=bs hz;let⟨_,hz⟩:=ax hz;cases hz;sleep 22;rw[dc hw,eq_of_beq hy];exact⟨JW v1 v2 ih.1 v3 v4 (aN rfl),by rw[xR,ih.2];rfl⟩
def La(C:Bk X N sc k)(ck:iq c X j)(VD:j<=k)(hf:∀e g,f e=some g->OE X Vr H₀ pa e g)(h:Rh c sc N f x args=some g):OE X Vr H₀ pa (.Call (.Name x p) args [] pos) g:=by
 let⟨hg,h⟩:=ax h;simp?[zF,yO] at hg;let⟨⟨n,m⟩,h1,h⟩:=bs h;let⟨y,h2,h⟩:=bs h;let⟨i,h3,h⟩:=bs h;let⟨fs,h4,rfl⟩:=ae h;let⟨h5,h6⟩:=wM C h3 hf h4;cases args with
 | nil=>cases hg.2
 | cons e es =>
  rw[xR,zF,yO] at h6;exact Fi (ck.fs x n m h1) (C.room.mono VD) (C.gl hg.1.1) h5 hg.1.2 (aN h6.1) (cG h6.2)
end
def Hs(hs:(args.all λe=>!isStar e)=true)(hl:args.length < 20)(VA:(apos.endLine == pos.line)=true):∃pl:Sem θ,eval (.Call (.Attribute (.Name x px) m apos) args [] pos) env=(do
   let ov <- eval (.Name x px) env
   standAt apos.atName
   let (f,first) <- holding [ov] (getMethod ov m pl)
   callWith pos f first (backTo pos (starEach args env)) (backToKw pos (keywordEach [] env))):=by
 have abD:methodCallForm (args.length+([]:Γ Keyword).length) (backTo pos (starEach args env)) (backToKw pos (keywordEach [] env))=true:=we hs hl;have W2:methodCallPos true (.Name x px) env apos pos=pure pos:=by unfold methodCallPos;simp[VA]
 refine⟨(do return (<- importBound (.Name x px) env).getD true),?_⟩;rw[arm_eval_Call];unfold methodCall;rw[abD,W2];rfl
def KL(VA:(apos.endLine == pos.line)=true)(C:Bk X N sc k)(ck:iq c X j)(VD:j<=k)(hm:c.mv=some m)(h:QI c sc N x m args=some g):OE X Vr H₀ pa (.Call (.Attribute (.Name x px) m apos) args [] pos) g:=by
 let⟨u,hu,h⟩:=bs h;let⟨y,hy,h⟩:=bs h;sleep 17;sleep 16;simp?[zF] at hc;obtain⟨⟨⟨⟨h4,h5⟩,h1⟩,h2⟩,h3⟩:=hc;let⟨i,hi,rfl⟩:=ae h;sleep 22;let⟨fa,fd,ps,F,M,B⟩:=ck.mv m hm _ _ h3;rw[pJ hu,gY hy,gY hz,eq_of_beq h4,eq_of_beq h5];let⟨pl,ht⟩:=Hs (x:=x) (m:=m) (px:=px) (apos:=apos) (pos:=pos) (env:=X.env) (args:=[.Attribute (.Name x y.2.2) y.1.2.1 y.1.2.2,.Attribute (.Name x z.2.2) z.1.2.1 z.1.2.2]) rfl (by simp) VA;exact Qw (pl:=pl) F M B (C.room.mono VD) v1 v2 ck.cl (ck.na _ h1) (ck.na _ h2) rfl rfl v3 v4 rfl rfl rfl ht
def Nv(C:Bk X N sc k)(ck:iq c X j)(VD:j<=k)(hf:∀e g,f e=some g->OE X Vr H₀ pa e g)(h:Uy c sc N f x m args apos pos=some g):OE X Vr H₀ pa (.Call (.Attribute (.Name x px) m apos) args [] pos) g:=by
 sleep 16;rw[zF] at hc;have hlen:args.length < 20:=yP hc.2;rcases cI h with ⟨hm,h⟩|⟨_,h⟩
 ·exact KL hc.1 C ck VD hm h
 ·let⟨⟨n,mm⟩,h1,h⟩:=bs h;let⟨i,hi,h⟩:=bs h;let⟨fs,h2,rfl⟩:=ae h;sleep 22;let⟨h3,h4⟩:=oJ hf h2;let⟨pl,ht⟩:=Hs (x:=x) (m:=m) (px:=px) (env:=X.env) h4 hlen hc.1;cases args with
  | nil =>
   cases h2;exact FM (ck.ms m n mm h1) (C.room.mono VD) v1 v2 ck.cl v3 v4 (pl:=pl) ht
  | cons e es =>
   rw[xR,zF,yO] at h4;exact KS (ck.ms m n mm h1) (C.room.mono VD) v1 v2 ck.cl h3 v3 v4 (aN h4.1) (cG h4.2) (pl:=pl) ht
def CQ(C:Bk X N sc k)(ih:∀e g,f0 e=some g->OE X Vr H₀ pa e g)(h:Pm f0 a ops cs=some g):OE X Vr H₀ pa (.Compare a ops cs q) g/\OT X Vr H₀ pa (.Compare a ops cs q) (oB g):=by
 let⟨op,ho,h⟩:=bs h;let⟨b,hb,h⟩:=bs h;let⟨hm,h⟩:=ax h;let⟨g',h1,h⟩:=bs h;let⟨fa,h2,h⟩:=bs h;let⟨fb,h3,rfl⟩:=ae h;let⟨r,o1,o2⟩:=N3 C h1;rw[bY ho,bY hb];exact⟨NQ o1 o2 (ih _ _ h2) (ih _ _ h3) hm,Na o1 o2 (ih _ _ h2) (ih _ _ h3) hm⟩
def KN(C:Bk X N sc k)(gk:Ao G X j)(ck:iq c X j)(VD:j<=k)(ih:∀e g,f0 e=some g->OE X Vr H₀ pa e g)(h:Rt c G sc N f0 e=some g):OE X Vr H₀ pa e g:=by
 cases e with
 | Compare a ops cs q=>exact (CQ C ih h).1
 | BoolOp op es q =>
  cases op with
  | And=>exact FH ih h
  | Or=>cases h
 | Tuple es a q =>
  let⟨fs,h1,rfl⟩:=ae h;exact M6 (oJ ih h1).1
 | Attribute o f q =>
  sleep 15;sleep 16;let⟨i,hi,rfl⟩:=ae h;sleep 22;rw[dc hx];exact OP v1 v2 ck.cl (ck.na _ hc) rfl v3 v4
 | Call f args ks q =>
  sleep 1
  ·sleep 17;rw[oK hz];exact Nv C ck VD ih h
  ·rw[iY hz];rcases cI h with ⟨_,h⟩|⟨_,h⟩
   ·exact La C ck VD ih h
   ·exact M1 C gk VD ih h
 | _=>cases h
def oA(C:Bk X N sc k)(gk:Ao G X j)(ck:iq c X j)(VD:j<=k)(O:bD X T):∀ (n:Nat) {e:γ}{g:OF},Ni c G sc N T n e=some g->OE X Vr H₀ pa e g
 | 0,e,g,h=>by cases h
 | n+1,e,g,h=>by
  rcases bC h with ⟨_,h⟩|⟨f,hf,h⟩
  ·exact KN C gk ck VD (λe g z=>oA C gk ck VD O n z) h
  ·cases h;exact KD (O.e _ _ hf)
def N6(f:γ->Δ RF):Γ γ->Δ II
 | []=>some JM
 | e::es=>if isStar e=false then (f e).bind λx=>(N6 f es).map λy=>pq x y else none
def Q0(c:Cg)(sc:ζ)(N:Γ Str)(f0:γ->Δ RF)(e:γ):Δ RF:=(dT e).elim
 ((Mm e).elim ((FJ e).bind λz=>if c.fl.contains z.1.2.1=true then (eh sc N z.2.1).map λi=>Gh i c.C z.1.2.1 else none) λy =>
  (l1 y.1.2.1).bind λa=>(FJ a).bind λz=>if (y.2.1 == ("len":Str)&&Ad sc y.2.1&&c.fl.contains z.1.2.1)=true then (eh sc N z.2.1).map λi=>uv i c.C z.1.2.1 else none)
 λz=>(N6 f0 z.1).map EE
def Sj(c:Cg)(sc:ζ)(N:Γ Str)(T:Tr):Nat->γ->Δ RF
 | 0,_=>none
 | n+1,e=>(T.e e).elim (Q0 c sc N (Sj c sc N T n) e) λf=>some (rD f)
def Ra(c:Cg)(G:Sg)(sc:ζ)(N:Γ Str)(T:Tr)(e:γ):Δ OF:=(Ni c G sc N T 20 e).elim ((Sj c sc N T 20 e).map oR) some
def Sn(f:γ->Δ tH):Γ γ->Δ tH
 | []=>none
 | [a]=>f a
 | a::b::r=>(f a).bind λx=>(Sn f (b::r)).map λy=>vt x y
def Qt(f0:γ->Δ OF)(f1:γ->Δ tH)(e:γ):Δ tH:=match e with
 | .Compare a ops cs _=>(Pm f0 a ops cs).map oB
 | .BoolOp .Or es _=>Sn f1 es
 | .UnaryOp .Not a _=>(f1 a).map zx
 | .Call ..=>(f0 e).map oB
 | _=>none
def TU(c:Cg)(G:Sg)(sc:ζ)(N:Γ Str)(T:Tr):Nat->γ->Δ tH
 | 0,_=>none
 | n+1,e=>(T.t e).elim (Qt (Ni c G sc N T 20) (TU c G sc N T n) e) λf=>some (oT f)
section
variable {c:Cg}{G:Sg}{X:Cx}{N:Γ Str}{sc:ζ}{k j:Nat}{T:Tr}{pos p px apos:Pos}{Vr H₀:Hp}{pa:Γ Ψ}
def Da(hf:∀e g,f e=some g->OR X Vr H₀ pa e g):∀ {es:Γ γ}{fs:II},N6 f es=some fs->RQ X Vr H₀ pa es fs
 | [],fs,h=>by cases h;exact IL
 | e::es,fs,h=>by
  let⟨hs,h⟩:=ax h;sleep 15;sleep 21;exact Hb (hf _ _ hx) (Da hf hy) (aN hs)
def IH{f0:γ->Δ RF}(C:Bk X N sc k)(B:Bn X)(ck:iq c X j)(ih:∀e g,f0 e=some g->OR X Vr H₀ pa e g)(h:Q0 c sc N f0 e=some g):OR X Vr H₀ pa e g:=by
 sleep 1
 ·rcases bC h with ⟨_,h⟩|⟨y,hy,h⟩
  ·sleep 17;sleep 16;let⟨i,hi,rfl⟩:=ae h;sleep 22;rw[gY hz];exact M0 v1 v2 ck.cl (ck.na _ hc) rfl v3 v4
  ·let⟨a,ha,h⟩:=bs h;sleep 17;sleep 16;simp?[zF] at hc;let⟨⟨hl,hg⟩,hc⟩:=hc;rw[eq_of_beq hl] at hg;let⟨i,hi,rfl⟩:=ae h;sleep 22;rw[iY hy,bY ha,gY hz,eq_of_beq hl];exact Kn ⟨C.gl hg,B _ (by decide),PySem.boot_len⟩ v1 v2 ck.cl (ck.na _ hc) rfl v3 v4
 ·let⟨fs,h1,rfl⟩:=ae h;rw[zm hz];exact Pr (Da ih h1)
def Bw(C:Bk X N sc k)(B:Bn X)(ck:iq c X j)(O:bD X T):∀ (n:Nat) {e:γ}{g:RF},Sj c sc N T n e=some g->OR X Vr H₀ pa e g
 | 0,e,g,h=>by cases h
 | n+1,e,g,h=>by
  rcases bC h with ⟨_,h⟩|⟨f,hf,h⟩
  ·exact IH C B ck (λe g z=>Bw C B ck O n z) h
  ·cases h;exact JG (O.e _ _ hf)
def v8(C:Bk X N sc k)(gk:Ao G X j)(ck:iq c X j)(VD:j<=k)(O:bD X T)(h:Ra c G sc N T e=some g):OE X Vr H₀ pa e g:=by
 rcases bC h with ⟨_,h⟩|⟨f,hf,h⟩
 ·sleep 19;exact (Bw C gk.bn ck O 20 hf).oe
 ·cases h;exact oA C gk ck VD O 20 hf
def Gi(hf:∀e g,f e=some g->OT X Vr H₀ pa e g):∀ {es:Γ γ}{g:tH},Sn f es=some g->OW X Vr H₀ pa (.BoolOp .Or es pos) g
 | [],g,h=>by cases h
 | [a],g,h=>ML (hf _ _ h)
 | a::b::r,g,h=>by
  unfold Sn at h;sleep 15;sleep 21;have ih:=Gi hf hy;exact Q9 (hf _ _ hx) ih
def IK{f0:γ->Δ OF}{f1:γ->Δ tH}(C:Bk X N sc k)(ih:∀e g,f0 e=some g->OE X Vr H₀ pa e g)(it:∀e g,f1 e=some g->OT X Vr H₀ pa e g)(h:Qt f0 f1 e=some g):OT X Vr H₀ pa e g:=by
 cases e with
 | Compare a ops cs q=>let⟨f,h1,rfl⟩:=ae h;exact (CQ C ih h1).2
 | BoolOp op es q =>
  cases op with
  | And=>cases h
  | Or=>exact (Gi it h).ot
 | UnaryOp op a q =>
  cases op with
  | Not=>let⟨t,h1,rfl⟩:=ae h;exact M7 (it _ _ h1)
  | _=>cases h
 | Call a b d q=>let⟨f,h1,rfl⟩:=ae h;exact PB (ih _ _ h1)
 | _=>cases h
def Hy(C:Bk X N sc k)(gk:Ao G X j)(ck:iq c X j)(VD:j<=k)(O:bD X T):∀ (n:Nat) {e:γ}{g:tH},TU c G sc N T n e=some g->OT X Vr H₀ pa e g
 | 0,e,g,h=>by cases h
 | n+1,e,g,h=>by
  rcases bC h with ⟨_,h⟩|⟨f,hf,h⟩
  ·exact IK C (λe g z=>oA C gk ck VD O 20 z) (λe g z=>Hy C gk ck VD O n z) h
  ·cases h;exact KF (O.t _ _ hf)
end
def Uk:OG:=λ_ _=>none
def Az(f:Ω->Δ OG):Γ Ω->Δ OG
 | []=>some EV
 | [s]=>f s
 | s::t::r=>(f s).bind λx=>(Az f (t::r)).map λy=>bg x y
def SK(c:Cg)(e:γ):Δ (Γ γ×Pos×Pos):=(Mm e).bind λz=>if (z.2.1 == c.cn)=true then some (z.1.2.1,z.2.2,z.1.2.2.2) else none
def RJ(c:Cg)(G:Sg)(sc:ζ)(N:Γ Str)(T:Tr)(x:Str)(args:Γ γ):Δ OG:=(N.idxOf? x).bind λi=>if (lU N sc i x&&Ad sc c.cn&&!(c.cn == ("__debug__":Str))&&!args.isEmpty)=true then c.Xf.bind λz=>(MS (Ni c G sc N T 20) args).map λfs=>se i c.C z.1 z.2 fs else none
def QZ(c:Cg)(G:Sg)(sc:ζ)(N:Γ Str)(T:Tr)(x:Str)(e:γ):Δ OG:=(N.idxOf? x).bind λi=>if (lU N sc i x&&!kf e)=true then (Ra c G sc N T e).map λf=>vj i f else none
def Qe(e:γ):θ:=if h:e.ctorIdx=24 then Expr.List.elim e h λl _=>l.isEmpty else false
def Ou(e:γ):Δ ((γ×Str×Pos)×Str×Pos):=(Mm e).bind λz=>(l1 z.1.2.1).bind λa=>if (z.2.1 == ("list":Str))=true then FJ a else none
def Kq{e:γ}(h:Ou e=some z):∃p t,e=.Call (.Name "list" p) [.Attribute (.Name z.2.1 z.2.2) z.1.2.1 z.1.2.2] [] t:=by
 let⟨y,hy,h⟩:=bs h;let⟨a,ha,h⟩:=bs h;let⟨hx,h⟩:=ax h;exact⟨_,_,by rw[iY hy,bY ha,gY h,eq_of_beq hx]⟩
def Uq(c:Cg)(sc:ζ)(N:Γ Str)(T:Tr)(e:γ):Δ PR:=(Ou e).elim ((T.f e).map yx) λz=>if (Ad sc "list"&&c.fl.contains z.1.2.1)=true then (eh sc N z.2.1).map λi=>zz i c.C z.1.2.1 else none
def LI(c:Cg)(G:Sg)(sc:ζ)(N:Γ Str)(T:Tr)(x f:Str)(e:γ):Δ OG:=if (c.fl.contains f&&!kf e)=true then (eh sc N x).bind λi=>if (Qe e||(Ou e).isSome)=true then (Uq c sc N T e).map λfl=>jt i c.C f fl else (Ra c G sc N T e).map λfe=>qr i c.C f fe else none
def Qk(c:Cg)(sc:ζ)(N:Γ Str)(T:Tr)(x f:Str)(e:γ)(apos pos:Pos):Δ OG:=if (c.fl.contains f&&!isStar e&&apos.endLine == pos.line)=true then (eh sc N x).bind λi=>(Sj c sc N T 20 e).map λfe=>yg i c.C f fe else none
def QU(e:γ):Δ ((((γ×Str×Pos)×Str×Pos)×Str×Pos)×γ×Pos):=(dC e).bind λy=>(dA y.1).bind λu=>(FJ u.1).bind λz=>(l1 y.2.1).bind λa=>if (y.2.2.1.isEmpty&&u.2.1 == ("append":Str))=true then some ((z,u.2),a,y.2.2.2) else none
def Q8(c:Cg)(e:γ):Δ (((γ×Str×Pos)×Str×Pos)×Γ γ×Pos):=(MO e).bind λz=>if (z.2.1.isEmpty&&c.tw.any λt=>z.1.1.2.1 == t.1)=true then some z else none
def Mr(c:Cg)(sc:ζ)(N:Γ Str)(x y:Str)(apos Vv:Pos):Δ OG:=(N.idxOf? x).bind λj=>if (lU N sc j x&&apos.endLine == Vv.line)=true then (eh sc N y).bind λi=>c.tw.map λz=>P9 j i c.C z.1 z.2 else none
def R5(e:γ):Δ ((((γ×Str×Pos)×Str×Pos)×Γ γ×Pos)×γ):=(MO e).bind λz=>if (z.1.1.2.1 == ("append":Str))=true then (l1 z.2.1).map λa=>(z,a) else none
def RI(c:Cg)(G:Sg)(sc:ζ)(N:Γ Str)(T:Tr)(x:Str)(e:γ)(apos pos:Pos):Δ OG:=if (!isStar e&&apos.endLine == pos.line)=true then (eh sc N x).bind λi=>(Ni c G sc N T 20 e).map λfe=>tK i fe else none
def Ub(e:γ):Δ (Γ γ×Pos):=if h:e.ctorIdx=24 then Expr.List.elim e h λx p=>some (x,p) else none
def M5{e:γ}(h:Ub e=some z):e=.List z.1 z.2:=Expr.List.elim (motive_1:=λe=>Ub e=some z->e=.List z.1 z.2) e (fQ h) (λa b h=>by cases h;rfl) h
def My(c:Cg)(G:Sg)(sc:ζ)(N:Γ Str)(T:Tr)(x:Str)(e:γ):Δ OG:=(Ub e).elim (QZ c G sc N T x e) λz=>(N.idxOf? x).bind λi=>if lU N sc i x=true then (MS (Ni c G sc N T 20) z.1).map λfs=>Aj i fs else none
def UB(sc:ζ)(T:Tr)(tg iter:γ):Δ (Dl.Env->Δ (Γ D)):=((Mm iter).bind λz=>if (z.2.1 == ("range":Str)&&(z.1.2.1.length == 2||z.1.2.1.length == 3))=true then some z else none).elim (Si sc T tg iter) λz=>if (Ad sc "range"&&z.1.2.1.all λe=>!isStar e)=true then (An T z.1.2.1).map (Pi z.1.2.1.length) else none
def Te(c:Cg)(N:Γ Str)(es:Γ γ):Γ Nat:=es.flatMap λe=>(dN e).elim [] λz=>if c.on.contains z.1=true then [] else (N.idxOf? z.1).toList
def Am(c:Cg)(N:Γ Str):Nat->γ->Γ Nat
 | 0,_=>[]
 | n+1,e=>match e with
  | .BoolOp _ es _=>es.flatMap (Am c N n)
  | .UnaryOp _ a _=>Am c N n a
  | .Call f args _ _=>(dN f).elim [] λx=>if (c.fs.lookup x.1).isSome=true then Te c N args else []
  | _=>[]
def NA(l:Γ Nat)(g:OG):OG:=if l.isEmpty=true then g else cm l g
def Mq(c:Cg)(G:Sg)(sc:ζ)(N:Γ Str)(T:Tr)(x:Str)(px:Pos)(e:γ)(p:Pos):Δ OG:=(SK c e).elim ((Q8 c e).elim ((IB sc N T 40 (.Assign [.Name x px] e p)).elim (My c G sc N T x e) λg=>some (gL g)) λz=>Mr c sc N x z.1.2.1 z.1.1.2.2 z.2.2) λz=>RJ c G sc N T x z.1
def Q2(c:Cg)(G:Sg)(sc:ζ)(N:Γ Str)(T:Tr)(e:γ)(p:Pos):Δ OG:=(QU e).elim ((IB sc N T 40 (.Expr e p)).elim ((R5 e).elim (if kf e=false then (Ra c G sc N T e).map mf else none) λz=>RI c G sc N T z.1.1.2.1 z.2 z.1.1.1.2.2 z.1.2.2) λg=>some (gL g)) λz=>Qk c sc N T z.1.1.2.1 z.1.1.1.2.1 z.2.1 z.1.2.2 z.2.2
def SW(c:Cg)(G:Sg)(sc:ζ)(N:Γ Str)(T:Tr)(t e:γ)(p:Pos):Δ OG:=(dN t).elim ((FJ t).bind λz=>LI c G sc N T z.2.1 z.1.2.1 e) λz=>Mq c G sc N T z.1 z.2 e p
def Iz(c:Cg)(G:Sg)(sc:ζ)(N:Γ Str)(T:Tr):Nat->Ω->Δ OG
 | 0,_=>none
 | n+1,st=>match st with
  | .Return (some e) _=>(Ra c G sc N T e).map λf=>cm (List.range N.length) (f9 f)
  | .If t a b _=>(TU c G sc N T 20 t).bind λf=>(Az (Iz c G sc N T n) a).bind λx=>(Az (Iz c G sc N T n) b).map λy=>NA (Am c N 5 t) (xc f x y)
  | .Assign ts e p=>(l1 ts).bind λt=>SW c G sc N T t e p
  | .For tg iter body es _=>if es.isEmpty=true then (UB sc T tg iter).bind λfi=>(Ts sc N tg).bind λt=>(Az (Iz c G sc N T n) body).map λg=>r9 (va N iter) fi t g else none
  | .Expr e p=>Q2 c G sc N T e p
  | .Raise ..=>some Uk
  | _=>none
def RK{st:Ω}:OS X Vr H₀ pa st Uk:=λpins s σ H E I z=>by let⟨HF,ρ,os,o,S,hg,q⟩:=z;cases hg
def nQ(H:∀s g,f s=some g->OS X Vr H₀ pa s g):∀ {l:Γ Ω}{g:OG},Az f l=some g->ER X Vr H₀ pa l g
 | [],g,h=>by cases h;exact Kp
 | [s],g,h=>Kh (H _ _ h)
 | s::t::r,g,h=>by
  unfold Az at h;sleep 15;sleep 21;exact Gv (H _ _ hx) (nQ H hy)
def Jd(C:Bk X N sc k)(gk:Ao G X j)(ck:iq c X j)(VD:j < k)(O:bD X T)(h:RJ c G sc N T x args=some g):OS X Vr H₀ pa (.Assign [.Name x px] (.Call (.Name c.cn p') args [] cp) p) g:=by
 let⟨i,_,h⟩:=bs h;sleep 16;simp?[zF,yO] at hc;let⟨⟨⟨h1,h2⟩,h3⟩,h4⟩:=hc;let⟨⟨n,mi⟩,h5,h⟩:=bs h;let⟨fs,h6,rfl⟩:=ae h;let⟨h7,h8⟩:=oJ (λe g z=>oA C gk ck (jR VD) O 20 z) h6;let⟨f,fd,ps,M,F,B,hm⟩:=ck.Xf n mi h5;let⟨z1,z2,z3,z4⟩:=C.loc h1;cases args with
 | nil=>cases h4
 | cons e es =>
  rw[xR,zF,yO] at h8;exact Ll M F (C.room.mono VD) (C.gl h2) hm B h7 z1 z2 z3 h3 (aN h8.1) (cG h8.2) rfl z4
def NS{st:Ω}(h:OS X Vr H₀ pa st g):OS X Vr H₀ pa st (NA l g):=by
 unfold NA;split
 ·exact h
 ·exact Cw _ h
def N4(C:Bk X N sc k)(B:Bn X)(ck:iq c X j)(O:bD X T)(h:Uq c sc N T e=some fl):Sy X Vr H₀ pa e fl:=by
 sleep 1
 ·sleep 19;exact GZ (O.f _ _ hf)
 ·let⟨_,_,he⟩:=Kq hz;sleep 16;rw[zF] at hc;let⟨i,hi,rfl⟩:=ae h;sleep 22;rw[he];exact Fk (C.blt B hc.1 (by decide +kernel) JC) v1 v2 ck.cl (ck.na _ hc.2) rfl v3 v4
def GV(C:Bk X N sc k)(ck:iq c X j)(VD:j<=k)(hz:Q8 c e=some z)(h:Mr c sc N x z.1.2.1 z.1.1.2.2 z.2.2=some g):OS X Vr H₀ pa (.Assign [.Name x px] e p) g:=by
 let⟨w,hw,hz⟩:=bs hz;let⟨hc,hz⟩:=ax hz;cases hz;rw[zF] at hc;let⟨jx,_,h⟩:=bs h;let⟨hl,h⟩:=ax h;rw[zF] at hl;let⟨i,hi,h⟩:=bs h;let⟨⟨m',tw⟩,ht,rfl⟩:=ae h;have h2:=hc.2;rw[ht] at h2;have h2:z.1.1.2.1=m':=eq_of_beq h2;let⟨f,fd,ps,F,M,B⟩:=ck.tw _ _ ht;sleep 22;let⟨z1,z2,z3,z4⟩:=C.loc hl.1;let⟨pl,YR⟩:=Hs (x:=z.1.2.1) (m:=m') (px:=z.1.2.2) (apos:=z.1.1.2.2) (pos:=z.2.2) (env:=X.env) (args:=[]) rfl (by simp) hl.2;rw[oK hw,List.isEmpty_iff.mp hc.1,h2];exact RR (pl:=pl) F M B (C.room.mono VD) v1 v2 ck.cl z1 z2 z3 v3 v4 YR rfl z4
def Iq(C:Bk X N sc k)(gk:Ao G X j)(ck:iq c X j)(VD:j<=k)(O:bD X T)(h:My c G sc N T x e=some g):OS X Vr H₀ pa (.Assign [.Name x px] e p) g:=by
 sleep 1
 ·let⟨i,_,h⟩:=bs h;sleep 16;simp?[zF,yO] at hc;sleep 19;let⟨z1,z2,z3,z4⟩:=C.loc hc.1;exact PL i z1 z2 z3 (v8 C gk ck VD O hf) (eO hc.2) z4
 ·let⟨i,_,h⟩:=bs h;sleep 16;let⟨fs,hf,rfl⟩:=ae h;let⟨z1,z2,z3,z4⟩:=C.loc hc;rw[M5 hz];exact JO i z1 z2 z3 (oJ (λe g z=>oA C gk ck VD O 20 z) hf).1 z4
def Mz(C:Bk X N sc k)(B:Bn X)(O:bD X T)(h:UB sc T tg iter=some fi):DI X tg iter fi/\∀x,foldedSetIterable iter X.env x=pure x:=by
 sleep 1
 ·exact AU C B O h
 ·let⟨y,hy,hz⟩:=bs hz;let⟨hx,hz⟩:=ax hz;cases hz;rw[zF,jA,vD,vD,vD] at hx;let⟨hg,h⟩:=ax h;rw[zF] at hg;let⟨fs,hf,rfl⟩:=ae h;rw[iY hy,hx.1];refine⟨?_,λ_=>rfl⟩;let⟨⟨_,es,_⟩,_⟩:=z;have hs:=hg.2;rcases hx.2 with hl|hl
  ·let⟨a,b,rfl⟩:=Bc hl;simp?[xR,List.all_nil,Bool.and_true,zF,yO] at hs;exact Ea (C.blt B hg.1 (by decide +kernel) sD) (cZ O hf) ((aN hs.1).trans (jB _ (aN hs.2))) (aN hs.2)
  ·let⟨a,b,d,rfl⟩:=w8 hl;simp?[xR,List.all_nil,Bool.and_true,zF,yO] at hs;have s3:=aN (env:=X.env) (es:=[]) hs.2.2;have s2:=(aN (env:=X.env) hs.2.1).trans (jB _ s3);exact DB (C.blt B hg.1 (by decide +kernel) sD) (cZ O hf) ((aN hs.1).trans (jB _ s2)) s2
def F5(C:Bk X N sc k)(gk:Ao G X j)(ck:iq c X j)(VD:j < k)(O:bD X T)(h:Mq c G sc N T x px e p=some g):OS X Vr H₀ pa (.Assign [.Name x px] e p) g:=by
 have hle:=jR VD;sleep 1
 ·sleep 1
  ·rcases bC h with ⟨_,h⟩|⟨g',hg,h⟩
   ·exact Iq C gk ck hle O h
   ·cases h;exact Cd λV3=>rL C gk.bn O 40 hg
  ·exact GV C ck hle hz h
 ·let⟨y,hy,hz⟩:=bs hz;let⟨hx,hz⟩:=ax hz;cases hz;rw[iY hy,eq_of_beq hx];exact Jd C gk ck VD O h
def HK(C:Bk X N sc k)(gk:Ao G X j)(ck:iq c X j)(hle:j<=k)(O:bD X T)(h:LI c G sc N T x f e=some g):OS X Vr H₀ pa (.Assign [.Attribute (.Name x px) f q] e p) g:=by
 sleep 16;simp?[zF,yO] at hc;let⟨i,hi,h⟩:=bs h;sleep 22;rcases cI h with ⟨_,h⟩|⟨_,h⟩
 ·let⟨fl,hf,rfl⟩:=ae h;exact Ja (N4 C gk.bn ck O hf) v1 v2 ck.cl (ck.na _ hc.1) (eO hc.2) v3 v4
 ·let⟨fe,hf,rfl⟩:=ae h;exact Lc (v8 C gk ck hle O hf) v1 v2 ck.cl (ck.na _ hc.1) (eO hc.2) v3 v4
def K4(C:Bk X N sc k)(gk:Ao G X j)(ck:iq c X j)(hle:j<=k)(O:bD X T)(h:Q2 c G sc N T e p=some g):OS X Vr H₀ pa (.Expr e p) g:=by
 sleep 1
 ·rcases bC h with ⟨_,h⟩|⟨g',hg,h⟩
  ·sleep 1
   ·sleep 16;sleep 19;exact O7 (v8 C gk ck hle O hf) (eO hc)
   ·let⟨y,hy,hz⟩:=bs hz;let⟨hx,hz⟩:=ax hz;let⟨a,ha,rfl⟩:=ae hz;rw[oK hy,bY ha,eq_of_beq hx];sleep 16;simp?[zF,yO] at hc;let⟨i,hi,h⟩:=bs h;let⟨fe,hf,rfl⟩:=ae h;sleep 22;exact Lu v1 v2 (oA C gk ck hle O 20 hf) v3 v4 (K0 hc.1) hc.2 (aN hc.1)
  ·cases h;exact Cd λV3=>rL C gk.bn O 40 hg
 ·let⟨y,hy,hz⟩:=bs hz;let⟨u,hu,hz⟩:=bs hz;let⟨w,hw,hz⟩:=bs hz;let⟨a,ha,hz⟩:=bs hz;let⟨hx,hz⟩:=ax hz;cases hz;rw[zF] at hx;rw[BL hy,GO hu,gY hw,bY ha,List.isEmpty_iff.mp hx.1,eq_of_beq hx.2];sleep 16;simp?[zF,yO] at hc;let⟨⟨h1,h2⟩,h3⟩:=hc;let⟨i,hi,h⟩:=bs h;let⟨fe,hf,rfl⟩:=ae h;sleep 22;exact IS (Bw C gk.bn ck O 20 hf) v1 v2 ck.cl (ck.na _ h1) rfl v3 v4 rfl (K0 h2) h3 (aN h2) rfl
def As(C:Bk X N sc k)(gk:Ao G X j)(ck:iq c X j)(VD:j < k)(O:bD X T):∀ (n:Nat) {st:Ω}{g:OG},Iz c G sc N T n st=some g->OS X Vr H₀ pa st g
 | 0,st,g,h=>by cases h
 | n+1,st,g,h=>by
  have ih:∀s g,Iz c G sc N T n s=some g->OS X Vr H₀ pa s g:=λs g z=>As C gk ck VD O n z;have hle:=jR VD;cases st with
  | Return e q =>
   cases e<;>try cases h
   sleep 19;exact Cw _ (MT (v8 C gk ck hle O hf))
  | If t a b q =>
   let⟨f,h1,h⟩:=bs h;let⟨x,h2,h⟩:=bs h;let⟨y,h3,rfl⟩:=ae h;exact NS (QN (Hy C gk ck hle O 20 h1) (nQ ih h2) (nQ ih h3))
  | Assign ts e q =>
   let⟨t,ht,h⟩:=bs h;rw[bY ht];sleep 1
   ·sleep 17;rw[gY hz];exact HK C gk ck hle O h
   ·rw[dc hz];exact F5 C gk ck VD O h
  | For tg iter body els q =>
   let⟨he,h⟩:=ax h;rw[List.isEmpty_iff.mp he];let⟨fi,WG,h⟩:=bs h;let⟨t,ht,h⟩:=bs h;let⟨b,hb,rfl⟩:=ae h;let⟨hd,Wj⟩:=Mz C gk.bn O WG;exact MN _ C.pass C.calm hd (λ_=>GX C ht) (nQ ih hb) Wj
  | Expr e q=>exact K4 C gk ck hle O h
  | Raise=>cases h;exact RK
  | _=>cases h
end Og
namespace Wf
open PySem L2 Dl Rf Ob Og PySem.Spec PyProof.Rows
structure l8(K:W.Frag)(C:Addr)(m:Str)(st:Stmt)(ps:List Str):Prop where
 ex:∃ (f:Ψ) (fd:η) (qual:Str),AI K m qual st f fd/\pP K C m f/\Binds K fd ps []
def GF{K:Φ}{st:Ω}{kV:Θ}{od:Δ Ψ}(hb:d0 st ps)(a:W.findIn K (.ref C) m=some (some (.ref f)))(n:W.isFn K (.ref f)=true)(l:K.lookup f=some ⟨oc,od,.func (W.fnOf m qual (dY st) (aP st) (ah st) .none kV doc pm an VT ct),W7⟩)
  (c:W.codeIn K VT qual=true) (k:W.keepIn K (.ref f)=true):l8 K C m st ps:=⟨f,_,qual,oS (st:=st) l c k,⟨a,n,k⟩,(oS (st:=st) l c k).binds λkV doc pm an VT ct us h=>hb _ _ kV doc pm an VT ct us h⟩
structure Qb(P:Program)(w:World)(K:W.Frag)(mg:Str->Option Value)(base:Heap)(j:Nat)(c:Cg):Prop where
 cl:pA K c.C
 na:∀f,c.fl.contains f=true->bH K c.C f
 ms:∀m n mm,c.ms.lookup m=some (n,mm)->Lm P w K mg base j c.C m n mm
 Xf:∀n mi,c.Xf=some (n,mi)->∃f fd ps,Mk K c.C f/\cY P w K mg base nX j f fd ps (KO K c.C n mi)/\Binds K fd ps []/\mg c.cn=some (.ref c.C)
 mv:∀m,c.mv=some m->∀f g,c.mp.contains (f,g)=true->∃fa fd ps,cY P w K mg base nX j fa fd ps (Jh K c.C f g)/\pP K c.C m fa/\Binds K fd ps []
 fs:∀x n mm,c.fs.lookup x=some (n,mm)->P1 P w K mg base j c.C x n mm
 tw:∀m t,c.tw=some (m,t)->∃f fd ps,cY P w K mg base nX j f fd ps (Ge K c.C t)/\pP K c.C m f/\Binds K fd ps []
section
variable {K:Φ}{st:Ω}
def Qb.ok(h:Qb X.prog X.w X.K X.mg X.base j c):iq c X j:=⟨h.cl,h.na,h.ms,h.Xf,h.mv,h.fs,h.tw⟩
def Qb.mono(h:Qb P w K mg base i c)(e:i<=j):Qb P w K mg base j c:=⟨h.cl,h.na,λm n mm z=>(h.ms m n mm z).mono e,λn mi z=>let ⟨f,fd,ps,a,b,d⟩:=h.Xf n mi z;⟨f,fd,ps,a,b.mono e,d⟩,λm z f g y=>let ⟨fa,fd,ps,a,b⟩:=h.mv m z f g y;⟨fa,fd,ps,a.mono e,b⟩,λx n mm z=>(h.fs x n mm z).mono e,λm t z=>let ⟨f,fd,ps,a,b⟩:=h.tw m t z;⟨f,fd,ps,a.mono e,b⟩⟩
structure Al(P:Program)(w:World)(K:W.Frag)(mg:Str->Option Value)(base:Heap)(is:List (Str×Int))(j:Nat)(l:VC.FT)(c:Cg):Prop where
 ok:VC.Ok P w K mg base is j l
 ck:Qb P w K mg base j c
abbrev P2(s:Ω)(N:Γ Str)(c:Cg)(S:Sg):Δ OG:=Az (Iz c S (ah s) N (tr S 40 none (ah s) N) 40) (aP s)
def C2(C:Bk X N (ah st) (j+1))(B:Bn X)(hf:m6 X.prog X.w X.K X.mg X.base j l)(hi:i4 X.mg is)(ck:iq c X j)(t:P2 st N c ⟨l,is⟩=some g):ER X Vr H₀ pa (aP st) g :=
 nQ (λs g h=>As C (G:=⟨l,is⟩) (j:=j) ⟨hf,hi,B⟩ ck (kJ j) (yk (G:=⟨l,is⟩) 40 C ⟨hf,hi,B⟩ (Nat.le_succ j) λq z=>by cases z) 40 h) t
def om(st:Ω)(D:l8 K c.C m st (VC.mP st n))(h:Al P w K mg base is j l c)(t:P2 st (VC.mG st) c ⟨l,is⟩=some g:=by kernel_rfl)(F:bj (VC.mG st) (VC.mP st n) (ah st):=by exact VC.fst)(e:(VC.mP st n).length=n:=by kernel_rfl)(e':(VC.mG st).length=k:=by kernel_rfl) :
  Al P w K mg base is (j+2) l { c with ms:=(m,n,d6 g c.C k)::c.ms }:=by
 let⟨f,fd,qual,Fu,M,B⟩:=D.ex;have fm:Lm P w K mg base (j+2) c.C m (VC.mP st n).length (d6 g c.C (VC.mG st).length):=SM (k:=j+1) Fu F B M λX hP hw hK Wo WB C _ _ HF H pa=>by
  subst hP;subst hw;subst hK;subst Wo;subst WB;exact C2 C h.ok.ob h.ok.of h.ok.oi h.ck.ok t
 rw[e,e'] at fm;have ck:=h.ck.mono (jT j 2);refine⟨VC.up h.ok (jT j 2),ck.cl,ck.na,λm' n' mm z=>?_,ck.Xf,ck.mv,ck.fs,ck.tw⟩;have z:List.lookup m' ((m,n,d6 g c.C k)::c.ms)=some (n',mm):=z;rw[yB] at z;cases q:m' == m with
 | true=>rw[q] at z;cases z;rw[eq_of_beq q];exact fm
 | false=>rw[q] at z;exact ck.ms m' n' mm z
def oi(st:Ω)(D:l8 K c.C "__init__" st (VC.mP st n))(hM:∀f,W.findIn K (.ref c.C) "__init__"=some (some (.ref f))->Mk K c.C f)(hc:mg c.cn=some (.ref c.C))(h:Al P w K mg base is j l c)(t:P2 st (VC.mG st) c ⟨l,is⟩=some g:=by kernel_rfl)(F:bj (VC.mG st) (VC.mP st n) (ah st):=by exact VC.fst)(e:(VC.mP st n).length=n:=by kernel_rfl)(e':(VC.mG st).length=k:=by kernel_rfl) :
  Al P w K mg base is (j+2) l { c with Xf:=some (n,d6 g c.C k) }:=by
 let⟨f,fd,qual,Fu,M,B⟩:=D.ex;have fm:cY P w K mg base nX (j+2) f fd (VC.mP st n) (KO K c.C (VC.mP st n).length (d6 g c.C (VC.mG st).length)):=GI (k:=j+1) Fu F λX hP hw hK Wo WB C _ _ HF H pa=>by
  subst hP;subst hw;subst hK;subst Wo;subst WB;exact C2 C h.ok.ob h.ok.of h.ok.oi h.ck.ok t
 rw[e,e'] at fm;have ck:=h.ck.mono (jT j 2);refine⟨VC.up h.ok (jT j 2),ck.cl,ck.na,ck.ms,λn' mi z=>?_,ck.mv,ck.fs,ck.tw⟩;have z:some (n,d6 g c.C k)=some (n',mi):=z;cases z;exact⟨f,fd,_,hM f M.at_,fm,B,hc⟩
def od(st:Ω)(D:ie K x st (VC.mP st n))(h:Al P w K mg base is j l c)(t:P2 st (VC.mG st) c ⟨l,is⟩=some g:=by kernel_rfl)(F:bj (VC.mG st) (VC.mP st n) (ah st):=by exact VC.fst)(e:(VC.mP st n).length=n:=by kernel_rfl)(e':(VC.mG st).length=k:=by kernel_rfl) :
  Al P w K mg base is (j+2) l { c with fs:=(x,n,d6 g c.C k)::c.fs }:=by
 let⟨f,fd,hm,Fu,B⟩:=(VC.Us h.ok D).ex;have fm:cY P w K mg base nX (j+2) f fd (VC.mP st n) (KO K c.C (VC.mP st n).length (d6 g c.C (VC.mG st).length)):=GI (k:=j+1) Fu F λX hP hw hK Wo WB C _ _ HF H pa=>by
  subst hP;subst hw;subst hK;subst Wo;subst WB;exact C2 C h.ok.ob h.ok.of h.ok.oi h.ck.ok t
 rw[e,e'] at fm;have ck:=h.ck.mono (jT j 2);refine⟨VC.up h.ok (jT j 2),ck.cl,ck.na,ck.ms,ck.Xf,ck.mv,λx' n' mm z=>?_,ck.tw⟩;have z:List.lookup x' ((x,n,d6 g c.C k)::c.fs)=some (n',mm):=z;rw[yB] at z;cases q:x' == x with
 | true=>rw[q] at z;cases z;rw[eq_of_beq q];exact⟨f,fd,_,fm,hm,Fu.kp,B⟩
 | false=>rw[q] at z;exact ck.fs x' n' mm z
def sR(e:Ω):Δ (Δ γ×Pos):=if h:e.ctorIdx=3 then Stmt.Return.elim e h λx p=>some (x,p) else none
def LG{e:Ω}(h:sR e=some z):e=.Return z.1 z.2:=Stmt.Return.elim (motive_2:=λe=>sR e=some z->e=.Return z.1 z.2) e (fQ h) (λa b h=>by cases h;rfl) h
def Tn(c:Cg)(S:Sg)(s:Ω)(N:Γ Str):Δ (OG×OG×OG):=match aP s with
 | [a,b,d,r]=>(sR r).bind λz=>z.1.bind λe=>(dN e).bind λx=>if eh (ah s) N x.1=some 1 then (Iz c S (ah s) N (tr S 40 none (ah s) N) 40 a).bind λf=>(Iz c S (ah s) N (tr S 40 none (ah s) N) 40 b).bind λg=>(Iz c S (ah s) N (tr S 40 none (ah s) N) 40 d).map λh=>(f,g,h) else none
 | _=>none
def Pv(C:Bk X N (ah st) (j+1))(B:Bn X)(hf:m6 X.prog X.w X.K X.mg X.base j l)(hi:i4 X.mg is)(ck:iq c X j)(t:Tn c ⟨l,is⟩ st N=some (g1,g2,g3)):uC X (aP st) (rA (tO X.K Vr H₀ pa g1) (rA (tO X.K Vr H₀ pa g2) (rA (tO X.K Vr H₀ pa g3) (GE (mL 1))))):=by
 unfold Tn at t;have rd:∀s g,Iz c ⟨l,is⟩ (ah st) N (tr ⟨l,is⟩ 40 none (ah st) N) 40 s=some g->OS X Vr H₀ pa s g:=λs g h=>As C (G:=⟨l,is⟩) (j:=j) ⟨hf,hi,B⟩ ck (kJ j) (yk (G:=⟨l,is⟩) 40 C ⟨hf,hi,B⟩ (Nat.le_succ j) λq z=>by cases z) 40 h;revert t;rcases aP st with _|⟨a,_|⟨b,_|⟨d,_|⟨r,_|_⟩⟩⟩⟩<;>intro t<;>try cases t
 let⟨z,hz,t⟩:=bs t;let⟨e,he,t⟩:=bs t;let⟨x,hx,t⟩:=bs t;let⟨hs,t⟩:=ax t;let⟨f1,h1,t⟩:=bs t;let⟨f2,h2,t⟩:=bs t;let⟨f3,h3,t⟩:=ae t;cases t;let⟨v1,v2,v3,v4⟩:=dq C hs;rw[LG hz,he,dc hx];exact dM (rd _ _ h1) (dM (rd _ _ h2) (dM (rd _ _ h3) (pX (u9 (bb v1 v2 v3 v4)))))
def ow(st:Ω)(D:l8 K c.C m st (VC.mP st 1))(h:Al P w K mg base is j l c)(t:Tn c ⟨l,is⟩ st (VC.mG st)=some (g1,g2,g3):=by kernel_rfl)(F:bj (VC.mG st) (VC.mP st 1) (ah st):=by exact VC.fst)(e:(VC.mP st 1).length=1:=by kernel_rfl)(e':(VC.mG st).length=k:=by kernel_rfl) :
  Al P w K mg base is (j+2) l { c with tw:=some (m,sy (bg g1 (bg g2 g3)) c.C k) }:=by
 let⟨f,fd,qual,Fu,M,B⟩:=D.ex;have fm:cY P w K mg base nX (j+2) f fd (VC.mP st 1) (Ge K c.C (sy (bg g1 (bg g2 g3)) c.C (VC.mG st).length)):=Ol (k:=j+1) Fu F e λX hP hw hK Wo WB C HF H pa=>by
  subst hP;subst hw;subst hK;subst Wo;subst WB;exact Pv C h.ok.ob h.ok.of h.ok.oi h.ck.ok t
 rw[e'] at fm;have ck:=h.ck.mono (jT j 2);refine⟨VC.up h.ok (jT j 2),ck.cl,ck.na,ck.ms,ck.Xf,ck.mv,ck.fs,λm' t' z=>?_⟩;have z:some (m,sy (bg g1 (bg g2 g3)) c.C k)=some (m',t'):=z;cases z;exact⟨f,fd,_,fm,M,B⟩
end
def sA(e:Ω):Δ (Γ γ×γ×Pos):=if h:e.ctorIdx=5 then Stmt.Assign.elim e h λx y p=>some (x,y,p) else none
def L0{e:Ω}(h:sA e=some z):e=.Assign z.1 z.2.1 z.2.2:=Stmt.Assign.elim (motive_2:=λe=>sA e=some z->e=.Assign z.1 z.2.1 z.2.2) e (fQ h) (λa b d h=>by cases h;rfl) h
def sI(e:Ω):Δ (γ×Γ Ω×Γ Ω×Pos):=if h:e.ctorIdx=12 then Stmt.If.elim e h λx y u p=>some (x,y,u,p) else none
def Qu{e:Ω}(h:sI e=some z):e=.If z.1 z.2.1 z.2.2.1 z.2.2.2:=Stmt.If.elim (motive_2:=λe=>sI e=some z->e=.If z.1 z.2.1 z.2.2.1 z.2.2.2) e (fQ h) (λa b d f h=>by cases h;rfl) h
def sE(e:Ω):Δ (γ×Pos):=if h:e.ctorIdx=24 then Stmt.Expr.elim e h λx p=>some (x,p) else none
def QW{e:Ω}(h:sE e=some z):e=.Expr z.1 z.2:=Stmt.Expr.elim (motive_2:=λe=>sE e=some z->e=.Expr z.1 z.2) e (fQ h) (λa b h=>by cases h;rfl) h
def Um(T:Tr)(s:Ω):Δ (Dl.Env->Δ θ):=(sI s).bind λz=>if z.2.2.1.isEmpty=true then T.t z.1 else none
def MM(O:bD X T)(h:Um T s=some ft):PS X s (Pu (Je X.K ft) UC yt):=by
 sleep 17;let⟨he,h⟩:=ax h;rw[Qu hz,List.isEmpty_iff.mp he];exact Dh (O.t _ _ h) (λpins s σ H E I z=>False.elim z) uZ
def RV(sc:ζ)(N:Γ Str)(s:Ω):Δ Unit:=(sA s).bind λz=>(l1 z.1).bind λt=>(dN t).bind λx=>(MO z.2.1).bind λy=>if (lU N sc 3 x.1&&lT N sc 1 y.1.2.1&&y.1.1.2.1 == ("pop":Str)&&y.2.1.isEmpty&&y.1.1.2.2.endLine == y.2.2.line)=true then some () else none
def KR(C:Bk X N sc k)(h:RV sc N s=some u):PS X s (AC (OV X.K "list" Oq (mL 1)) (qu 3)):=by
 sleep 17;let⟨t,ht,h⟩:=bs h;sleep 15;let⟨y,hy,h⟩:=bs h;sleep 16;simp?[zF] at hc;obtain⟨⟨⟨⟨h1,h2⟩,h6⟩,h7⟩,h8⟩:=hc;let⟨z1,z2,z3,z4⟩:=C.loc h1;let⟨v1,v2,v3,v4⟩:=C.XN h2;rw[L0 hz,bY ht,dc hx,oK hy,List.isEmpty_iff.mp h7,eq_of_beq h6];exact lb z1 z2 z3 (Nh qM PySem.F.slot_list_pop PySem.F.type_list_pop ND (bb v1 v2 v3 v4) rfl h8) rfl z4
def QT(T:Tr)(sc:ζ)(N:Γ Str)(s:Ω):Δ FE:=(sE s).bind λz=>(MO z.1).bind λy=>(l1 y.2.1).bind λa=>(dT a).bind λt=>(l2 t.1).bind λu=>(FJ u.2).bind λw =>
 if (lT N sc 2 y.1.2.1&&lT N sc 0 w.2.1&&y.1.1.2.1 == ("append":Str)&&w.1.2.1 == dZ&&y.1.1.2.2.endLine == y.2.2.line&&!isStar u.1)=true then T.e u.1 else none
def J0(C:Bk X N sc k)(O:bD X T)(h:QT T sc N s=some f):PS X s (CK (Sh X.K "list" wg (mL 2) (rR (N5 (rR (tD X.K f) (rR (Du X.K (mL 0) dZ) DZ))) DZ))):=by
 sleep 17;let⟨y,hy,h⟩:=bs h;let⟨a,ha,h⟩:=bs h;let⟨t,ht,h⟩:=bs h;let⟨u,hu,h⟩:=bs h;let⟨w,hw,h⟩:=bs h;sleep 16;simp?[zF,yO] at hc;obtain⟨⟨⟨⟨⟨h1,h2⟩,h6⟩,h7⟩,h8⟩,h9⟩:=hc;let⟨w1,w2,w3,w4⟩:=C.XN h1;let⟨x1,x2,x3,x4⟩:=C.XN h2;rw[QW hz,oK hy,bY ha,zm ht,pJ hu,gY hw,eq_of_beq h6,eq_of_beq h7];exact gP (pK qM PySem.F.slot_list_append PySem.F.type_list_append iu (bb w1 w2 w3 w4) (ba (u4 (ba (O.e _ _ h) (ba (kb (bb x1 x2 x3 x4) rfl) cF rfl) (aN h9))) cF rfl) rfl (K0 rfl) h8 rfl rfl) rfl
def QL(T:Tr)(sc:ζ)(N:Γ Str)(s:Ω):Δ FE:=(sA s).bind λz=>(l1 z.1).bind λt=>(FJ t).bind λw=>if (lT N sc 0 w.2.1&&w.1.2.1 == dZ&&!kf z.2.1)=true then T.e z.2.1 else none
def Ju(C:Bk X N sc k)(O:bD X T)(h:QL T sc N s=some f):PS X s (M4 X.K (mL 0) (tD X.K f) dZ):=by
 sleep 17;let⟨t,ht,h⟩:=bs h;let⟨w,hw,h⟩:=bs h;sleep 16;simp?[zF,yO] at hc;let⟨y1,y2,y3,y4⟩:=C.XN hc.1.1;rw[L0 hz,bY ht,gY hw,eq_of_beq hc.1.2];exact Ay (bb y1 y2 y3 y4) (O.e _ _ h) (eO hc.2)
def Uz(T:Tr)(s:Ω):Δ FE:=(sR s).bind λz=>z.1.bind T.e
def NO(O:bD X T)(h:Uz T s=some f):PS X s (GE (tD X.K f)):=by
 sleep 17;let⟨e,he,h⟩:=bs h;rw[LG hz,he];exact u9 (O.e _ _ h)
def TB(T:Tr)(sc:ζ)(N:Γ Str):Γ Ω->Δ ((Dl.Env->Δ θ)×FE×FE×FE)
 | [a,b,d,e,f]=>(Um T a).bind λft=>(RV sc N b).bind λ_=>(QT T sc N d).bind λf0=>(QL T sc N e).bind λf1=>(Uz T f).map λf2=>(ft,f0,f1,f2)
 | _=>none
def Ox{f0 f1 f2:FE}(C:Bk X N sc k)(O:bD X T)(h:TB T sc N body=some (ft,f0,f1,f2)):uC X body (Px X.K ft f0 f1 f2):=by
 rcases body with _|⟨a,_|⟨b,_|⟨d,_|⟨e,_|⟨f,_|_⟩⟩⟩⟩⟩<;>try cases h
 let⟨_,k1,h⟩:=bs h;let⟨_,k2,h⟩:=bs h;let⟨_,k3,h⟩:=bs h;let⟨_,k4,h⟩:=bs h;let⟨_,k5,h⟩:=ae h;cases h;exact dM (MM O k1) (dM (KR C k2) (dM (J0 C O k3) (dM (Ju C O k4) (pX (NO O k5)))))
section
variable {K:Φ}{st:Ω}{f0 f1 f2:FE}
def ov(st:Ω)(Dm:l8 K c.C m st (VC.mP st 3))(h:Al P w K mg base is j l c)(t:TB (tr ⟨l,is⟩ 40 none (ah st) (VC.mG st)) (ah st) (VC.mG st) (aP st)=some (ft,f0,f1,f2))
  (hft:∀ds:Γ D,ds≠[]->ft [none,some (.list ds),none,none]=some false) (hf0:∀w p:D,f0 [none,none,none,some (.tuple [w,p])]=some w) (hf1:∀w p:D,f1 [none,none,none,some (.tuple [w,p])]=some p) (hf2:∀w p:D,f2 [none,none,none,some (.tuple [w,p])]=some w)
  (np:bH K c.C dZ) (hp:∀f g,c.mp.contains (f,g)=true->g≠f/\dZ≠f/\dZ≠g)
  (F:bj (VC.mG st) (VC.mP st 3) (ah st):=by exact VC.fst) (e:(VC.mP st 3).length=3:=by kernel_rfl) (e':(VC.mG st).length=4:=by kernel_rfl):Al P w K mg base is (j+1) l { c with mv:=some m }:=by
 let⟨f,fd,qual,Fu,M,B⟩:=Dm.ex;have ck:=h.ck.mono (Nat.le_succ j);refine⟨VC.up h.ok (Nat.le_succ j),ck.cl,ck.na,ck.ms,ck.Xf,λm' z f' g' y=>?_,ck.fs,ck.tw⟩;have z:some m=some m':=z;cases z;let⟨n1,n2,n3⟩:=hp f' g' y;refine⟨f,fd,_,PN (k:=j) Fu F e' e hft hf0 hf1 hf2 ck.cl np n1 n2 n3 λX hP hw hK Wo WB C _ _=>?_,M,B⟩;subst hP;subst hw;subst hK;subst Wo;subst WB;exact Ox C (yk (G:=⟨l,is⟩) 40 C ⟨h.ok.of,h.ok.oi,h.ok.ob⟩ (yL j) λq z=>by cases z) t
end
section
variable {K:Φ}{C:Ψ}{m:Str}{ps:Γ Str}
def m1(q:Str)(f c:Ψ)(pm:Θ){st:Ω}(hb:d0 st ps:=by exactλ_ _ _ _ _ _ _ _ us hl=>Hd.yu (R:=λus=>bindArgs _ ⟨us,[]⟩=pure (List.zip _ us)) (λ_=>rfl) us hl)(a:W.findIn K (.ref C) m=some (some (.ref f)):=by kernel_rfl)(n:W.isFn K (.ref f)=true:=by kernel_rfl)(l:K.lookup f=some (Hd.Sw m q st pm c):=by kernel_rfl)(d:W.codeIn K (.ref c) q=true:=by kernel_rfl)(k:W.keepIn K (.ref f)=true:=by kernel_rfl):l8 K C m st ps:=GF hb a n l d k
def m2(q:Str)(f c:Ψ)(pm:Θ){st:Ω}(hb:d0 st ps:=by exactλ_ _ _ _ _ _ _ _ us hl=>Hd.Bc (R:=λus=>bindArgs _ ⟨us,[]⟩=pure (List.zip _ us)) (λ_ _=>rfl) us hl)(a:W.findIn K (.ref C) m=some (some (.ref f)):=by kernel_rfl)(n:W.isFn K (.ref f)=true:=by kernel_rfl)(l:K.lookup f=some (Hd.Sw m q st pm c):=by kernel_rfl)(d:W.codeIn K (.ref c) q=true:=by kernel_rfl)(k:W.keepIn K (.ref f)=true:=by kernel_rfl):l8 K C m st ps:=GF hb a n l d k
def m3(q:Str)(f c:Ψ)(pm:Θ){st:Ω}(hb:d0 st ps:=by exactλ_ _ _ _ _ _ _ _ us hl=>Hd.w8 (R:=λus=>bindArgs _ ⟨us,[]⟩=pure (List.zip _ us)) (λ_ _ _=>rfl) us hl)(a:W.findIn K (.ref C) m=some (some (.ref f)):=by kernel_rfl)(n:W.isFn K (.ref f)=true:=by kernel_rfl)(l:K.lookup f=some (Hd.Sw m q st pm c):=by kernel_rfl)(d:W.codeIn K (.ref c) q=true:=by kernel_rfl)(k:W.keepIn K (.ref f)=true:=by kernel_rfl):l8 K C m st ps:=GF hb a n l d k
end
section
variable {P:ε}{w:δ}{K:Φ}{mg:Str->Δ Θ}{base:ι}{is:Γ (Str×Int)}{i j k n:Nat}{l:VC.FT}{c:Cg}{st:Ω}{g:OG}{x m:Str}
def Rn{fl:Γ Str}(na:(fl.all λf=>match W.findIn K (.ref C) f with|some none=>true|_=>false)=true)(hf:fl.contains f=true):bH K C f:=by
 have:=List.all_eq_true.mp na f (List.contains_iff_mem.mp hf);show W.findIn K (.ref C) f=some none;split at this
 ·assumption
 ·cases this
def UT{on:Γ Str}(cl:pA K C)(na:(fl.all λf=>match W.findIn K (.ref C) f with|some none=>true|_=>false)=true)(h:VC.Ok P w K mg base is j l):Al P w K mg base is j l ⟨cn,C,fl,[],none,none,mp,[],none,on⟩ :=
 { ok:=h,ck:={ cl:=cl,na:=λf hf=>Rn na hf,ms:=λm n mm z=>(nomatch z),Xf:=λn mi z=>(nomatch z),mv:=λm z=>(nomatch z),fs:=λx n mm z=>(nomatch z),tw:=λm t z=>(nomatch z) } }
def US(f:Ψ)(st:Ω)(D:l8 K c.C "__init__" st (VC.mP st n))(hM:Mk K c.C f)(hc:mg c.cn=some (.ref c.C))(h:Al P w K mg base is j l c)(t:P2 st (VC.mG st) c ⟨l,is⟩=some g:=by kernel_rfl)(F:bj (VC.mG st) (VC.mP st n) (ah st):=by exact VC.fst)(e:(VC.mP st n).length=n:=by kernel_rfl)(e':(VC.mG st).length=k:=by kernel_rfl) :
  Al P w K mg base is (j+2) l { c with Xf:=some (n,d6 g c.C k) }:=oi st D (λf' z=>by rw[hM.init] at z;cases z;exact hM) hc h t F e e'
abbrev _root_.zq0:=(aa (ab 1) ag)
abbrev _root_.zq1:=(cq cf zq0)
def mT:Dl.Env->Δ θ:=fB (f2 bu zq1 (fC (.int 0)))
def mE(k:Int):FE:=f2 aL (ab 3) (fC (.int k))
def RS(ds:Γ D)(h:ds≠[]):mT [none,some (.list ds),none,none]=some false:=by
 cases ds with
 | nil=>exact absurd rfl h
 | cons d ds=>rfl
def Vn(st:Ω)(Dm:l8 K c.C m st (VC.mP st 3))(np:bH K c.C dZ)(hp:∀z∈c.mp,z.2≠z.1/\dZ≠z.1/\dZ≠z.2)(h:Al P w K mg base is j l c)(t:TB (tr ⟨l,is⟩ 40 none (ah st) (VC.mG st)) (ah st) (VC.mG st) (aP st)=some (mT,mE 0,mE 1,mE 0):=by kernel_rfl)
  (F:bj (VC.mG st) (VC.mP st 3) (ah st):=by exact VC.fst) (e:(VC.mP st 3).length=3:=by kernel_rfl) (e':(VC.mG st).length=4:=by kernel_rfl):Al P w K mg base is (j+1) l { c with mv:=some m } :=
 ov st Dm h t RS (λw p=>rfl) (λw p=>rfl) (λw p=>rfl) np (λf g z=>hp _ (List.contains_iff_mem.mp z)) F e e'
end
end Wf
namespace Pg
open PySem L2 Dl PySem.Spec PyProof.Rows
def rS:ao->Δ Out:=(aD (iH (Au (cL (fB (Me "int" (ab 0)))) (fB (Me "bool" (ab 0)))) (bc (fC (.bool false))) gV) (bc (kj Dj Dj (ab 1) (ab 0) (ab 2))))
def bM:Γ D->Δ D:=bN rS 3
def pM:ao->Δ Out:=(bc (ai 3 bM (aa (ab 0) (aa (fC (.int 0)) (aa (f2 Dl.fx (ab 1) (fC (.int 1))) ag)))))
def cR:Γ D->Δ D:=bN pM 2
def uf:ao->Δ Out:=(bc (lV (Me "tuple" (ab 0)) (kj Dj Dj (ab 1) (cq cf (aa (ab 0) ag)) (ab 2))))
def bP:Γ D->Δ D:=bN uf 3
def pf:ao->Δ Out:=(aD (iH (cL (fB (Me "tuple" (ab 0)))) (bc (fC (.bool false))) gV) (aD (iH (cL (fB (cq nr (aa (da (ay 1 [1] (cH (ab 0)) (fG 0) (λ_=>some true) (ai 2 cR (aa (ab 0) (aa (ab 1) ag))))) ag)))) (bc (fC (.bool false))) gV) (bc (f2 bu (f1 lI (ab 0)) (cq cf (aa (ab 0) ag))))))
def gQ:Γ D->Δ D:=bN pf 2
def yr:ao->Δ Out:=(bc (lV (ai 3 bP (aa (ab 0) (aa (fC (.int 2)) (aa (fC (.int 2)) ag)))) (lV (ai 3 bM (aa (f2 aL (ab 0) (fC (.int 0))) (aa (fC (.int 0)) (aa (fC (.int 9)) ag)))) (ai 2 gQ (aa (f2 aL (ab 0) (fC (.int 1))) (aa (ab 1) ag))))))
def gn:Γ D->Δ D:=bN yr 2
def zd:ao->Δ Out:=(aD (iH (cL (fB (ai 3 bP (aa (ab 0) (aa (fC (.int 3)) (aa (fC (.int 3)) ag)))))) (bc (fC (.bool false))) gV) (bc (lV (ai 2 cR (aa (f2 aL (ab 0) (fC (.int 0))) (aa (ab 1) ag))) (lV (ai 2 cR (aa (f2 aL (ab 0) (fC (.int 1))) (aa (ab 2) ag))) (ai 3 bM (aa (f2 aL (ab 0) (fC (.int 2))) (aa (fC (.int 1)) (aa (fC (.int 9)) ag))))))))
def lh:Γ D->Δ D:=bN zd 3
def pF:ao->Δ Out:=(aD (iH (Au (cL (fB (ai 3 bP (aa (ab 0) (aa (fC (.int 1)) (aa (fC (.int 4)) ag)))))) (cL (fB (ai 3 bP (aa (ab 1) (aa (fC (.int 1)) (aa (fC (.int 4)) ag))))))) (bc (fC (.bool false))) gV) (aD (iH (cL (fB (cq nr (aa (da (ay 1 [1] (cH (ab 0)) (fG 0) (λ_=>some true) (ai 2 gn (aa (ab 0) (aa (cq cf (aa (ab 1) ag)) ag))))) ag)))) (bc (fC (.bool false))) gV) (aD (iH (cL (fB (cq nr (aa (da (ay 1 [0] (cH (ab 1)) (fG 0) (λ_=>some true) (ai 2 gn (aa (ab 0) (aa (cq cf (aa (ab 1) ag)) ag))))) ag)))) (bc (fC (.bool false))) gV) (bc (lV (Me "tuple" (ab 2)) (cq nr (aa (da (ay 1 [0,1] (cH (ab 2)) (fG 0) (λ_=>some true) (ai 3 lh (aa (ab 0) (aa (cq cf (aa (ab 1) ag)) (aa (cq cf (aa (ab 2) ag)) ag)))))) ag)))))))
def gS:Γ D->Δ D:=bN pF 3
def l7:ao->Δ Out:=(aD (bw 1 [] (gZ ag)) (aD (gw [0] (bI (aa (ab 0) ag)) (gU 2 3) (DJ 1 [2,3] (ay 1 [2] (cH (f2 aL (ab 3) (fC (.int 1)))) (fG 0) (λ_=>some true) (aR (aa (ab 1) (aa (ab 0) ag)))))) (bc (ab 1))))
def bJ:Γ D->Δ D:=bN l7 4
def i3:ao->Δ Out:=(aD (iH (Au (cL (fB (ai 3 bP (aa (ab 0) (aa (fC (.int 3)) (aa (fC (.int 3)) ag)))))) (cL (fB (ai 3 gS (aa (f2 aL (ab 0) (fC (.int 0))) (aa (f2 aL (ab 0) (fC (.int 1))) (aa (f2 aL (ab 0) (fC (.int 2))) ag))))))) (bc (fC (.bool false))) gV) (aD (bw 1 [0] (ay 1 [] (cH (f2 aL (ab 0) (fC (.int 2)))) (fG 0) (λ_=>some true) (aR (aa (f2 aL (ab 0) (fC (.int 0))) (aa (f2 aL (ab 0) (fC (.int 1))) ag))))) (aD (bw 2 [0] (tq gM (aa (ai 1 bJ (aa (f2 aL (ab 0) (fC (.int 0))) ag)) ag))) (aD (bw 3 [0] (tq gM (aa (da (ay 2 [] (cH (ai 1 bJ (aa (f2 aL (ab 0) (fC (.int 1))) ag))) (jd 0 1) (λ_=>some true) (aR (aa (ab 1) (aa (ab 0) ag))))) ag))) (bc (lV (f2 bu (ab 1) (ab 2)) (f2 bu (ab 1) (ab 3))))))))
def dy:Γ D->Δ D:=bN i3 4
abbrev zq2:=(aa (ab 0) ag)
abbrev zq3:=(cL (fB (ai 1 dy zq2)))
def eW:ao->Δ Out:=(iH zq3 PV gV)
def g8:Γ D->Δ D:=bN eW 1
abbrev zq4:=(aa (ab 2) ag)
abbrev zq5:=(aa (ab 0) (aa (ab 1) zq4))
abbrev zq6:=(cL (fB (ai 3 bM zq5)))
def eU:ao->Δ Out:=(iH zq6 PV gV)
def hJ:Γ D->Δ D:=bN eU 3
def ej:ao->Δ Out:=(uR (ai 3 hJ (aa (ab 0) (aa (fC (.int 0)) (aa (f2 Dl.fx (ab 1) (fC (.int 1))) ag)))))
def gu:Γ D->Δ D:=bN ej 2
def r8:ao->Δ Out:=(bc (f2 aH (f2 aH (oH ij (ab 0) oF (DY (ab 1))) (aR zq4)) (oH ij (ab 0) (DY (f2 aH (ab 1) (fC (.int 1)))) oF)))
def eM:Γ D->Δ D:=bN r8 3
abbrev Dx:Γ Str:=["world","side","place","ways","likes","own"]
def n6:ao->Δ Out:=(aD (aS 3 [0] (f2 aL (ab 0) (fC (.int 2)))) (aD (aS 4 [0,1,2] (f2 aL (f2 aL (f2 aL (ab 0) (ab 1)) (ab 2)) (fC (.int 1)))) (aD (bw 5 [1,2,3] (ay 2 [1,2] (bI (aa (ab 3) ag)) (jd 0 1) (fB (f2 bu (f2 aL (ab 1) (ab 2)) (ab 3))) (ab 0))) (bc (da (oP [1,3,4] (ab 5) (f2 mF (ab 3) (f2 aL (f2 aL (ab 2) (ab 0)) (f2 Dl.fx (fC (.int 1)) (ab 1))))))))))
def iB:Γ D->Δ D:=bN n6 6
def j6:ao->Δ Out:=(aD (iH (fB (f2 bu (ab 0) (da (gZ ag)))) (bc (f2 dX (fC (.int 7)) (ab 1))) gV) (bc (f2 aH (f2 aL (ab 0) (f2 lW (ab 1) (cq cf (aa (ab 0) ag)))) (f2 dX (fC (.int 6553)) (f2 mX (ab 1) (cq cf (aa (ab 0) ag)))))))
def eZ:Γ D->Δ D:=bN j6 2
def m5:ao->Δ Out:=(aD (aS 3 [0,1] (f2 lW (f2 aH (f2 dX (f2 lW (ai 2 eZ (aa (ab 0) (aa (ab 1) ag))) (fC (.int 2147483563))) (fC (.int 69069))) (f2 dX (fC (.int 104723)) (f2 aH (ab 1) (fC (.int 1))))) (fC (.int 2147483563)))) (aD (aS 3 [3] (f2 lW (f2 aH (f2 dX (ab 3) (ab 3)) (f2 mX (ab 3) (fC (.int 3)))) (fC (.int 2147483399)))) (bc (f2 lW (f2 mX (f2 lW (f2 aH (f2 dX (ab 3) (ab 3)) (f2 mX (ab 3) (fC (.int 7)))) (fC (.int 2147483647))) (fC (.int 11))) (ab 2)))))
def aj:Γ D->Δ D:=bN m5 4
def l6:ao->Δ Out:=(aD (bw 3 [] (gZ ag)) (aD (gw [2] (bI (aa (ab 2) ag)) (gU 4 5) (aD (bw 6 [] (gZ ag)) (aD (gw [5] (bI (aa (ab 5) ag)) (gU 7 8) (E7 6 [8] (ai 3 aj (aa (ab 0) (aa (f2 aH (f2 aH (ab 1) (f2 dX (fC (.int 4)) (ab 4))) (ab 7)) (aa (f2 aH (cq cf (aa (ab 6) ag)) (fC (.int 1))) ag)))) (ab 8))) (mV 3 [6] (cq fJ (aa (ab 6) ag)))))) (bc (ab 3))))
def b8:Γ D->Δ D:=bN l6 9
def fV:ao->Δ Out:=(aD (iH (fy (fB (f2 A4 (ab 2) (fC (.int 3)))) (fB (f2 bu (ai 3 aj (aa (ab 0) (aa (f2 aH (ab 1) (fC (.int 64))) (aa (fC (.int 4)) ag)))) (fC (.int 0))))) (aD (aS 3 [0,1] (f2 aH (fC (.int 1)) (ai 3 aj (aa (ab 0) (aa (f2 aH (ab 1) (fC (.int 65))) (aa (fC (.int 2)) ag)))))) (aD (aS 4 [3] (aR (aa (aR (aa (ab 3) (aa (aR (aa (fC (.int 1)) (aa (fC (.int 0)) ag))) ag))) (aa (aR (aa (ab 3) (aa (aR (aa (fC (.int 0)) (aa (fC (.int 1)) ag))) ag))) ag)))) (bc (aR (aa (aR (aa (aR (aa (ab 3) (aa (aR (aa (fC (.int 0)) (aa (fC (.int 1)) ag))) ag))) (aa (aR (aa (ab 3) (aa (aR (aa (fC (.int 1)) (aa (fC (.int 0)) ag))) ag))) ag))) (aa (ab 4) (aa (aR (aa (aR (aa (fC (.int 0)) (aa (fC (.int 0)) (aa (fC (.int 2)) ag)))) (aa (aR (aa (fC (.int 0)) (aa (fC (.int 1)) (aa (fC (.int 2)) ag)))) (aa (aR (aa (fC (.int 1)) (aa (fC (.int 0)) (aa (fC (.int 2)) ag)))) (aa (aR (aa (fC (.int 1)) (aa (fC (.int 1)) (aa (fC (.int 2)) ag)))) ag))))) ag))))))) gV) (aD (aS 5 [0,1] (f2 aH (fC (.int 1)) (ai 3 aj (aa (ab 0) (aa (ab 1) (aa (fC (.int 3)) ag)))))) (aD (aS 6 [0,1] (f2 aH (fC (.int 1)) (ai 3 aj (aa (ab 0) (aa (f2 aH (ab 1) (fC (.int 1))) (aa (fC (.int 3)) ag)))))) (aD (bw 7 [] (gZ ag)) (aD (gw [5,6] (bL (aa (f2 dX (ab 5) (ab 6)) ag)) (oW 8) (iH (fy (fB (f2 FD (cq cf (aa (ab 7) ag)) (ab 2))) (fB (f2 A4 (ai 3 aj (aa (ab 0) (aa (f2 aH (f2 aH (ab 1) (fC (.int 2))) (ab 8)) (aa (fC (.int 4)) ag)))) (fC (.int 0))))) (mV 7 [0,1,6,8] (aR (aa (f2 mX (ab 8) (ab 6)) (aa (f2 lW (ab 8) (ab 6)) (aa (f2 aH (fC (.int 1)) (ai 3 aj (aa (ab 0) (aa (f2 aH (f2 aH (ab 1) (fC (.int 12))) (ab 8)) (aa (fC (.int 2)) ag))))) ag))))) gV)) (aD (aS 9 [0,1,5,7] (ai 3 b8 (aa (ab 0) (aa (f2 aH (ab 1) (fC (.int 24))) (aa (da (ay 1 [7] (bL (aa (ab 5) ag)) (fG 0) (λ_=>some true) (da (ay 1 [0] (cH (ab 1)) (fG 0) (fB (f2 bu (f2 aL (ab 0) (fC (.int 0))) (ab 1))) (f2 aL (ab 0) (fC (.int 1))))))) ag))))) (aD (aS 10 [0,1,6,7] (ai 3 b8 (aa (ab 0) (aa (f2 aH (ab 1) (fC (.int 40))) (aa (da (ay 1 [7] (bL (aa (ab 6) ag)) (fG 0) (λ_=>some true) (da (ay 1 [0] (cH (ab 1)) (fG 0) (fB (f2 bu (f2 aL (ab 0) (fC (.int 1))) (ab 1))) (f2 aL (ab 0) (fC (.int 0))))))) ag))))) (aD (aS 11 [0,1,8,9] (cq fJ (aa (da (ay 2 [0,1] (bI (aa (ab 9) ag)) (jd 0 1) (λ_=>some true) (aR (aa (ai 3 aj (aa (ab 2) (aa (f2 aH (f2 aH (ab 3) (fC (.int 56))) (ab 0)) (aa (fC (.int 4)) ag)))) (aa (ab 1) ag))))) ag))) (aD (aS 4 [0,1,8,10] (cq fJ (aa (da (ay 2 [0,1] (bI (aa (ab 10) ag)) (jd 0 1) (λ_=>some true) (aR (aa (ai 3 aj (aa (ab 2) (aa (f2 aH (f2 aH (ab 3) (fC (.int 60))) (ab 0)) (aa (fC (.int 4)) ag)))) (aa (ab 1) ag))))) ag))) (bc (aR (aa (ab 11) (aa (ab 4) (aa (cq fJ (aa (ab 7) ag)) ag))))))))))))))
def cW:Γ D->Δ D:=bN fV 12
def uA:ao->Δ Out:=(bc (cq sU (aa (da (ay 2 [2,3] (gz (aa (f2 aL (ab 0) (fC (.int 2))) (aa (ab 1) ag))) (jd 0 1) (fB (f2 bu (f2 aL (ab 0) (ab 2)) (ab 3))) (ab 1))) ag)))
def dG:Γ D->Δ D:=bN uA 4
def jj:ao->Δ Out:=(bc (cq nr (aa (da (ay 2 [0,1,2] (bI (aa (f2 aL (ab 0) (ab 2)) ag)) (jd 0 1) (λ_=>some true) (f2 Dj (ai 4 dG (aa (ab 2) (aa (ab 3) (aa (ab 4) (aa (ab 0) ag))))) (f2 aL (ab 1) (fC (.int 0)))))) ag)))
def du:Γ D->Δ D:=bN jj 3
def o7:ao->Δ Out:=(aD (aS 2 [0] (f2 aL (ab 0) (fC (.int 2)))) (aD (iH (cL (fB (ai 3 bP (aa (ab 1) (aa (cq cf (aa (ab 2) ag)) (aa (cq cf (aa (ab 2) ag)) ag)))))) (bc (fC (.bool false))) gV) (aD (iH (cL (fB (cq nr (aa (da (ay 2 [] (gz (aa (ab 2) (aa (ab 1) ag))) (jd 0 1) (λ_=>some true) (ai 3 bM (aa (ab 1) (aa (fC (.int 0)) (aa (f2 aL (ab 0) (fC (.int 2))) ag)))))) ag)))) (bc (fC (.bool false))) gV) (bc (lV (ai 3 du (aa (ab 0) (aa (ab 1) (aa (fC (.int 0)) ag)))) (ai 3 du (aa (ab 0) (aa (ab 1) (aa (fC (.int 1)) ag)))))))))
def lz:Γ D->Δ D:=bN o7 3
abbrev zq7:=(aa (ab 0) zq0)
def fW:ao->Δ Out:=(aD (uR (ai 1 g8 zq2)) (iH (cL (fB (ai 2 lz zq7))) PV gV))
def bS:Γ D->Δ D:=bN fW 2
def iJ:ao->Δ Out:=(aD (aS 4 [0,2,3] (f2 aL (f2 aL (f2 aL (ab 0) (fC (.int 2))) (ab 3)) (ab 2))) (aD (iH (fB (f2 FD (ai 4 dG (aa (ab 0) (aa (ab 1) (aa (ab 2) (aa (ab 4) ag))))) (f2 aL (f2 aL (f2 aL (ab 0) (ab 2)) (ab 4)) (fC (.int 0))))) (bc (fC (.bool true))) gV) (aD (aS 5 [0,2,4] (ai 3 iB (aa (ab 0) (aa (ab 2) (aa (ab 4) ag))))) (aD (aS 6 [3,5] (oH ij (ab 5) (DY (f2 aH (f2 mF (ab 5) (ab 3)) (fC (.int 1)))) oF)) (bc (cq Rf.Ik (aa (da (ay 1 [1] (cH (ab 6)) (fG 0) (λ_=>some true) (f2 A4 (f2 aL (ab 1) (ab 0)) (fC (.int 0))))) ag)))))))
def fY:Γ D->Δ D:=bN iJ 7
abbrev zq8:=(f2 aL (ab 1) (ab 2))
abbrev zq9:=(f2 aL (ab 0) (fC (.int 2)))
abbrev Yr:=(f2 aL zq9 (ab 2))
abbrev aer:=(f2 bu zq8 (f2 aL Yr (fC (.int 2))))
abbrev abF:=(fB aer)
abbrev aes:=(aa (ab 1) (aa (fC (.int 0)) zq4))
abbrev aet:=(aa (ab 0) aes)
abbrev aeu:=(ai 4 fY aet)
abbrev aev:=(fB aeu)
abbrev abG:=(cL aev)
abbrev aew:=(aa (ab 1) (aa (fC (.int 1)) zq4))
abbrev aex:=(aa (ab 0) aew)
abbrev aey:=(ai 4 fY aex)
abbrev aez:=(fB aey)
abbrev abH:=(cL aez)
def mJ:ao->Δ Out:=(aD (iH abF (bc (fC (.str "full"))) gV) (aD (iH abG (bc (fC (.str "giver"))) gV) (aD (iH abH (bc (fC (.str "taker"))) gV) (bc (fC .none)))))
def iM:Γ D->Δ D:=bN mJ 3
abbrev aaj:=(aa zq1 ag)
abbrev Ys:=(bL aaj)
abbrev aeA:=(ai 3 iM zq5)
abbrev aeB:=(f2 wt aeA (fC .none))
abbrev aak:=(fB aeB)
abbrev X0:=(bc (ab 2))
def fM:ao->Δ Out:=(aD (gw [1] Ys (oW 2) (iH aak X0 gV)) (bc (fC .none)))
def bO:Γ D->Δ D:=bN fM 3
abbrev aeC:=(ai 2 bS zq7)
abbrev Y2:=(uR aeC)
abbrev aeD:=(aa (ab 2) zq2)
abbrev abI:=(aa (ab 1) aeD)
abbrev aeE:=(ai 3 iM abI)
abbrev aeF:=(f2 wt aeE (fC .none))
abbrev abJ:=(fB aeF)
def oZ:ao->Δ Out:=(aD Y2 (bc (da (ay 1 [0,1] Ys (fG 0) abJ (ab 0)))))
def eQ:Γ D->Δ D:=bN oZ 2
def pG:ao->Δ Out:=(bc (cq sU (aa (da (ay 2 [2,3] (gz (aa (ab 1) (aa (f2 aL (ab 0) (fC (.int 2))) ag))) (jd 0 1) (fB (f2 bu (f2 aL (ab 1) (ab 2)) (ab 3))) (ab 0))) ag)))
def j7:Γ D->Δ D:=bN pG 4
abbrev abK:=(f2 aL (ab 0) (ab 2))
abbrev abL:=(aa abK ag)
abbrev aeG:=(bI abL)
abbrev aal:=(aa (ab 3) ag)
abbrev abM:=(aa (ab 2) aal)
abbrev aeH:=(aa (ab 1) abM)
abbrev aeI:=(aa (ab 0) aeH)
abbrev abN:=(ai 4 j7 aeI)
abbrev aeJ:=(f2 aL (ab 4) (fC (.int 0)))
abbrev aeK:=(f2 A4 abN aeJ)
abbrev aam:=(fB aeK)
abbrev aan:=(bc (fC (.bool false)))
abbrev aeL:=(iH aam aan gV)
abbrev abO:=(gw [0,2] aeG (gU 3 4) aeL)
abbrev aao:=(bc (fC (.bool true)))
def lx:ao->Δ Out:=(aD (gw [] (bL (aa (fC (.int 2)) ag)) (oW 2) abO) aao)
def dI:Γ D->Δ D:=bN lx 5
abbrev aeM:=(f2 aL (ab 2) (fC (.int 2)))
abbrev aap:=(aa aeM ag)
abbrev Yt:=(aa (fC (.int 0)) ag)
abbrev Y3:=(aa (ab 6) ag)
def jv:ao->Δ Out:=(aD (aS 3 [] (aR ag)) (aD (gw [2] (bI aap) (gU 4 5) (aD (aS 6 [0,1,3,4,5] (f2 aH (ab 3) (aR (aa (ai 3 aj (aa (ab 0) (aa (f2 aH (ab 1) (ab 4)) (aa (f2 aH (f2 aL (ab 5) (fC (.int 2))) (fC (.int 1))) ag)))) ag)))) (aD (aS 7 [2,6] (ai 2 dI (aa (ab 2) (aa (f2 aH (ab 6) (f2 dX (aR Yt) (f2 Dl.fx (cq cf aap) (cq cf Y3)))) ag)))) (aS 3 [3,6,7] (IZ (fB (ab 7)) (ab 6) (f2 aH (ab 3) (aR Yt))))))) (bc (ab 3))))
def fu:Γ D->Δ D:=bN jv 8
open PySem L2 Dl PySem.Spec PyProof.Rows Ex
abbrev abP:=(f2 aL abK (ab 3))
abbrev aeN:=(f2 aL abP (fC (.int 0)))
abbrev aeO:=(f2 FD abN aeN)
abbrev abQ:=(fB aeO)
abbrev abR:=(f2 aL abP (fC (.int 1)))
abbrev aeP:=(aa zq9 ag)
abbrev abS:=(aa (ab 1) aeP)
abbrev aeQ:=(f2 aL (ab 7) (ab 2))
abbrev aeR:=(f2 bu aeQ (ab 3))
abbrev abT:=(fB aeR)
abbrev aeS:=(f2 A4 (ab 6) (fC (.int 0)))
abbrev abU:=(fB aeS)
abbrev aeT:=(f2 Dl.fx (fC (.int 1)) (ab 2))
abbrev aeU:=(f2 aL (ab 7) aeT)
abbrev aeV:=(f2 mF (ab 5) aeU)
abbrev aeW:=(f2 mF (ab 5) (ab 4))
abbrev aeX:=(f2 A4 aeV aeW)
abbrev aeY:=(fB aeX)
abbrev aeZ:=(fy abU aeY)
abbrev abV:=(fy abT aeZ)
abbrev abW:=(iH abV aao gV)
def ja:ao->Δ Out:=(aD (iH abQ aao gV) (aD (aS 5 [0,2,3] abR) (aD (gw [0,1] (gz abS) (gU 6 7) abW) aan)))
def fT:Γ D->Δ D:=bN ja 8
abbrev abX:=(aa (ab 4) ag)
abbrev ae0:=(aa (ab 3) abX)
abbrev ae1:=(aa (fC (.int 0)) ae0)
abbrev ae2:=(aa (ab 1) ae1)
abbrev ae3:=(aa (ab 0) ae2)
abbrev ae4:=(ai 5 fT ae3)
abbrev ae5:=(fB ae4)
abbrev abY:=(cL ae5)
abbrev ae6:=(aa (fC (.int 1)) (aa (ab 4) aal))
abbrev ae7:=(aa (ab 1) ae6)
abbrev ae8:=(aa (ab 0) ae7)
abbrev ae9:=(ai 5 fT ae8)
abbrev abZ:=(fB ae9)
def mr:ao->Δ Out:=(aD (oX 3 4 5 [0,2] Yr) (aD (iH (fB (f2 bu zq8 (ab 5))) (bc (fC (.str "full"))) gV) (aD (iH abY (bc (fC (.str "giver"))) gV) (bc (IZ abZ (fC .none) (fC (.str "taker")))))))
def mq:Γ D->Δ D:=bN mr 6
abbrev afa:=(aa (ab 0) abM)
abbrev afb:=(ai 3 iB afa)
abbrev ab0:=(cH afb)
abbrev afc:=(f2 A4 (f2 aL (ab 1) (ab 0)) (fC (.int 0)))
abbrev ab1:=(fB afc)
abbrev X1:=(f1 ME (fC (.int 1)))
def dw:ao->Δ Out:=(bc (f2 aL (da (ay 1 [1] ab0 (fG 0) ab1 (ab 0))) X1))
def dB:Γ D->Δ D:=bN dw 4
abbrev afd:=(f2 aH zq8 (fC (.int 1)))
abbrev afe:=(aa afd ag)
abbrev aff:=(aa (ab 2) afe)
abbrev ab2:=(aa (ab 1) aff)
abbrev afg:=(ai 3 eM ab2)
abbrev Zi:=(aS 3 [1,2] afg)
abbrev ab3:=(aa (fC (.int 0)) (aa (fC (.int 1)) ag))
abbrev ab4:=(aR ab3)
abbrev Zj:=(cH ab4)
abbrev ab5:=(aS 5 [0,2,4] (f2 aL Yr (ab 4)))
abbrev XC:=(aa (ab 5) ag)
abbrev ab6:=(aa (ab 4) XC)
abbrev ab7:=(aa (ab 1) ab6)
abbrev Zk:=(aa (ab 0) ab7)
abbrev ab8:=(ai 4 dG Zk)
abbrev ab9:=(f2 aL (ab 0) (ab 4))
abbrev aca:=(f2 aL ab9 (ab 5))
abbrev acb:=(f2 aL aca (fC (.int 0)))
abbrev Zl:=(f2 bu ab8 acb)
abbrev acd:=(fB Zl)
abbrev ace:=(ai 4 dB Zk)
abbrev acf:=(aS 6 [0,1,4,5] ace)
abbrev acg:=(f2 aL (ab 3) (ab 6))
abbrev ach:=(f2 Dl.fx acg (fC (.int 1)))
abbrev aci:=(aa ach ag)
abbrev acj:=(aa (ab 6) aci)
abbrev Zm:=(aa (ab 3) acj)
abbrev ack:=(ai 3 eM Zm)
abbrev acm:=(aS 3 [3,6] ack)
abbrev acn:=(aD acf acm)
abbrev aco:=(iH acd acn gV)
abbrev Zn:=(aD ab5 aco)
def xg:ao->Δ Out:=(aD Zi (aD (gw [] Zj (oW 4) Zn) (bc (ab 3))))
def e8:Γ D->Δ D:=bN xg 7
def rX:ao->Δ Out:=(aD Y2 (aD (uR (ai 2 gu (aa (ab 2) aaj))) (aD (iH (fB (f2 zl (ab 2) (ai 2 eQ zq7))) PV gV) (bc (ai 3 e8 zq5)))))
def nS:Γ D->Δ D:=bN rX 3
abbrev Zo:=(aS 4 [0,1] (ai 2 bO zq7))
abbrev acp:=(f2 qk (ab 4) (fC .none))
abbrev Yu:=(fB acp)
abbrev acq:=(f2 aL (ab 2) X1)
abbrev acr:=(aa acq abX)
abbrev Zq:=(aa (ab 0) acr)
abbrev Zr:=(ai 3 e8 Zq)
abbrev Zs:=(aS 5 [0,2,4] Zr)
abbrev acs:=(ai 2 bO (aa (ab 0) XC))
abbrev Zt:=(aS 4 [0,5] acs)
def M3:ao->Δ Out:=(aD Y2 (aD (bw 2 [1] (gZ zq0)) (aD (uB 3 1 (fC (.bool true))) (aD Zo (aD (EU Yu (aD Zs (aD (tT 5 3 X0 gV) (aD (mV 2 [5] (ab 5)) (aD (rf 3 5 (fC (.bool true))) Zt)))) Rf.turns) X0)))))
def uU:Γ D->Δ D:=bN M3 6
abbrev acu:=(ai 3 mq abI)
abbrev acv:=(f2 wt acu (fC .none))
abbrev Zu:=(fB acv)
def lr:ao->Δ Out:=(bc (da (ay 1 [0,1] Ys (fG 0) Zu (ab 0))))
def gK:Γ D->Δ D:=bN lr 2
open PySem L2 Dl PySem.Spec PyProof.Rows Ob Og
abbrev WD:=(gZ ag)
def k6(C:Ψ):Og.MF:=d6 (bg (gL (uR (ai 2 bS (aa (ab 1) zq4)))) (bg (qr 0 C "ground" (oD (ab 1))) (bg (qr 0 C "present" (oD (ab 2))) (bg (jt 0 C "done" (yx WD)) (jt 0 C "undone" (yx WD)))))) C 3
def cw(C:Ψ):Og.MF:=d6 (bg (yg 0 C "done" (EE (pq (rD (ab 1)) (pq (Gh 0 C "present") JM)))) (bg (jt 0 C "undone" (yx WD)) (qr 0 C "present" (oD (ab 2))))) C 3
def gT(C:Ψ):Og.MF:=d6 (bg (mf (aZ 0 C "step_to" 3 (cw C) (aV (oD (fC (.str "push"))) (aV (lu 3 nS (aV (jo 0 C "ground") (aV (jo 0 C "present") (aV (oD (ab 1)) bq)))) bq)))) (cm (List.range 2) (f9 (lu 2 eQ (aV (jo 0 C "ground") (aV (jo 0 C "present") bq)))))) C 2
def iV(C:Ψ):Og.MF:=d6 (bg (mf (lu 2 bS (aV (jo 0 C "ground") (aV (oD (ab 1)) bq)))) (bg (mf (aZ 0 C "step_to" 3 (cw C) (aV (oD (fC (.str "lay"))) (aV (oD (ab 1)) bq)))) (cm (List.range 2) (f9 (lu 2 eQ (aV (jo 0 C "ground") (aV (jo 0 C "present") bq))))))) C 2
abbrev Zv:=(f2 Dl.fx zq1 (fC (.int 1)))
def fH(C:Ψ):Og.MF:=d6 (bg (vj 1 (lu 2 uU (aV (jo 0 C "ground") (aV (jo 0 C "present") bq)))) (bg (mf (aZ 0 C "step_to" 3 (cw C) (aV (oD (fC (.str "settle"))) (aV (oD (f2 aL (ab 1) X1)) bq)))) (cm (List.range 2) (f9 (oD Zv))))) C 2
def aF(C:Ψ):Og.MF:=d6 (cm (List.range 1) (f9 (jo 0 C "present"))) C 1
def cg(C:Ψ):Og.MF:=d6 (cm (List.range 1) (f9 (P4 0 C "move" "done" "undone"))) C 1
def cN(C:Ψ):Og.MF:=d6 (cm (List.range 1) (f9 (P4 0 C "move" "undone" "done"))) C 1
def aO(C:Ψ):Og.MF:=d6 (cm (List.range 1) (f9 (oR (EE (pq (uv 0 C "done") (pq (uv 0 C "undone") JM)))))) C 1
def js(C:Ψ):Fs->Δ (Fs×Fs):=sy (bg (se 1 C 3 (k6 C) (aV (jo 0 C "ground") (aV (jo 0 C "present") bq))) (bg (jt 1 C "done" (zz 0 C "done")) (jt 1 C "undone" (zz 0 C "undone")))) C 2
abbrev acw:=(aa (ab 1) (aa (fC (.int 4)) ag))
abbrev acx:=(aa (ab 0) acw)
abbrev acy:=(ai 3 aj acx)
abbrev Zw:=(aS 4 [0,1] acy)
abbrev Zx:=(fB (f2 FD (ab 4) (fC (.int 2))))
abbrev Zy:=(fB (f2 e9 (ab 5) (da WD)))
def cX(C:Ψ):Og.MF:=d6 (bg (gL Zw) (bg (vj 5 (lu 2 gK (aV (oD (ab 2)) (aV (aZ 3 C "plan" 1 (aF C) bq) bq)))) (xc (oT (fy Zx Zy)) (mf (aZ 3 C "push" 2 (gT C) (aV (oD (f2 aL (ab 5) (ai 3 aj (aa (ab 0) (aa (f2 aH (ab 1) (fC (.int 1))) (aa (cq cf XC) ag)))))) bq))) (xc (oT (fB (f2 bu (ab 4) (fC (.int 2))))) (mf (aZ 3 C "settle" 1 (fH C) bq)) (mf (aZ 3 C "lay" 2 (iV C) (aV (oD (ai 3 fu (aa (ab 0) (aa (f2 aH (ab 1) (fC (.int 2))) zq4)))) bq))))))) C 6
def dQ(C:Ψ):OG:=(mf (iK 2 C 4 (cX C) (md (oD (ab 0)) (md (oD (f2 aH (fC (.int 260)) (f2 dX (fC (.int 14)) (ab 3)))) (md (oD (ab 1)) (uO zu))))))
def eY(C:Ψ):Og.MF:=d6 (bg (r9 [] (bL (aa (fC (.int 3)) ag)) (oW 3) (dQ C)) (cm (List.range 4) (f9 (oTup (aV (aZ 2 C "plan" 1 (aF C) bq) (aV (aZ 2 C "counts" 1 (aO C) bq) bq)))))) C 4
abbrev Zz:=(f2 Dl.fx (ab 2) (ab 4))
abbrev acz:=(aa Zz ag)
abbrev acA:=(aa (ab 4) acz)
abbrev ZA:=(aR acA)
def dP(C:Ψ):OG:=(bg (tK 3 (aZ 0 C "back" 1 (cg C) bq)) (xc (vt (oB (tM e9 (aZ 0 C "plan" 1 (aF C) bq) (oD (f2 aL (ab 1) (ab 4))))) (oB (tM e9 (aZ 0 C "counts" 1 (aO C) bq) (oD ZA)))) (cm (List.range 5) (f9 (oD (fC (.bool false))))) EV))
def dR(C:Ψ):OG:=(bg (xc (vt (oB (tM e9 (aZ 0 C "forth" 1 (cN C) bq) (oD (f2 aL (ab 3) Zz)))) (oB (tM e9 (aZ 0 C "plan" 1 (aF C) bq) (oD (f2 aL (ab 1) (ab 4)))))) (cm (List.range 5) (f9 (oD (fC (.bool false))))) EV) (xc (oB (tM e9 (aZ 0 C "counts" 1 (aO C) bq) (oD ZA))) (cm (List.range 5) (f9 (oD (fC (.bool false))))) EV))
abbrev acB:=(f2 Dl.fx (ab 2) (fC (.int 1)))
abbrev acC:=(aa X1 (aa X1 ag))
abbrev Yv:=(aa acB acC)
abbrev Yw:=(aa (fC (.int 1)) (aa (f2 aH (ab 2) (fC (.int 1))) ag))
def eC(C:Ψ):Og.MF:=d6 (bg (gL (aS 2 [1] Zv)) (bg (gL (bw 3 [] WD)) (bg (r9 [2] (Pi 3 Yv) (oW 4) (dP C)) (bg (r9 [2] (Pi 2 Yw) (oW 4) (dR C)) (cm (List.range 5) (f9 (oD (f2 bu (da (ay 1 [] (cH (ab 3)) (fG 0) (fB (f2 zl (ab 0) (aR (aa (fC (.str "push")) (aa (fC (.str "lay")) (aa (fC (.str "settle")) ag)))))) (ab 0))) (da WD))))))))) C 5
abbrev tN:Γ Str:=["_law_script","_law_world_here","_law_floor","_law_rows","_law_k","_law_many","_law_back","_law_turn","_law_before","_law_twin","_law_third","_law_there"]
def ju(C:Ψ):OG:=(bg (mf (iK 2 C 4 (cX C) (md (oD (ab 0)) (md (oD (f2 aH (fC (.int 100)) (f2 dX (fC (.int 14)) (ab 4)))) (md (oD (ab 1)) (uO zu)))))) (tK 3 (aZ 2 C "plan" 1 (aF C) bq)))
def kg(C:Ψ):OG:=(mf (aZ 2 C "back" 1 (cg C) bq))
def j1(C:Ψ):OG:=(mf (aZ 10 C "forth" 1 (cN C) bq))
def kc(C:Ψ):OG:=(xc (vt (oB (tM e9 (aZ 9 C "back" 1 (cg C) bq) (aZ 2 C "back" 1 (cg C) bq))) (oB (tM e9 (aZ 9 C "plan" 1 (aF C) bq) (aZ 2 C "plan" 1 (aF C) bq)))) (cm (List.range 12) (f9 (oD (fC (.bool false))))) EV)
abbrev Yx:=(ai 3 aj (aa (ab 0) (aa (fC (.int 80)) (aa (fC (.int 7)) ag))))
abbrev Xe:=(f2 Dl.fx (ab 5) (ab 6))
def lK(C:Ψ):OG:=(bg (gL (aS 1 [0] (ai 3 cW (aa (ab 0) (aa (fC (.int 0)) (aa (fC (.int 9)) ag)))))) (bg (se 2 C 3 (k6 C) (aV (oD (ab 1)) (aV (oD (ai 3 fu (aa (ab 0) (aa (fC (.int 70)) zq0)))) bq))) (bg (Aj 3 (aV (aZ 2 C "plan" 1 (aF C) bq) bq)) (bg (r9 [0] (bL (aa (f2 aH (fC (.int 2)) Yx) ag)) (oW 4) (ju C)) (bg (gL (aS 5 [3] (f2 Dl.fx (cq cf aal) (fC (.int 1))))) (bg (cm [3] (xc (vt (oB (tM e9 (aZ 2 C "counts" 1 (aO C) bq) (oD (aR (aa (ab 5) Yt))))) (zx (oB (iK 2 C 2 (eC C) (uO (md (oD (ab 3)) zu)))))) (cm (List.range 12) (f9 (oD (fC (.bool false))))) EV)) (bg (gL (aS 6 [0,5] (f2 aH (fC (.int 1)) (ai 3 aj (aa (ab 0) (aa (fC (.int 81)) XC)))))) (bg (r9 [6] (bL Y3) (oW 7) (kg C)) (bg (vj 8 (oTup (aV (aZ 2 C "plan" 1 (aF C) bq) (aV (aZ 2 C "counts" 1 (aO C) bq) bq)))) (bg (P9 9 2 C "twin" (js C)) (bg (P9 10 9 C "twin" (js C)) (bg (xc (oT (fB (f2 e9 (ab 8) (aR (aa (f2 aL (ab 3) Xe) (aa (aR (aa Xe Y3)) ag)))))) (cm (List.range 12) (f9 (oD (fC (.bool false))))) EV) (bg (vj 11 (iK 2 C 3 (eY C) (md (oD (ab 0)) (md (oD (ab 1)) (uO zu))))) (bg (xc (vt (oT (fB (f2 e9 (f2 aL (ab 11) (fC (.int 1))) (aR (aa (f2 aH Xe (fC (.int 3))) Yt))))) (oB (tM e9 (oTup (aV (aZ 9 C "plan" 1 (aF C) bq) (aV (aZ 9 C "counts" 1 (aO C) bq) bq))) (oD (ab 8))))) (cm (List.range 12) (f9 (oD (fC (.bool false))))) EV) (bg (xc (oB (tM e9 (iK 9 C 3 (eY C) (md (oD (ab 0)) (md (oD (ab 1)) (uO zu)))) (oD (ab 11)))) (cm (List.range 12) (f9 (oD (fC (.bool false))))) EV) (bg (xc (oB (tM e9 (oTup (aV (aZ 10 C "plan" 1 (aF C) bq) (aV (aZ 10 C "counts" 1 (aO C) bq) bq))) (oD (ab 8)))) (cm (List.range 12) (f9 (oD (fC (.bool false))))) EV) (bg (r9 [6] (bL Y3) (oW 7) (j1 C)) (bg (r9 [5,6] (bL (aa (f2 aH Xe (fC (.int 3))) ag)) (oW 7) (kc C)) (cm (List.range 12) (f9 (Eg (tM bu (aZ 10 C "plan" 1 (aF C) bq) (oD (f2 aL (ab 3) X1))) (Eg (tM bu (aZ 9 C "plan" 1 (aF C) bq) (oD (f2 aL (ab 3) (fC (.int 0))))) (tM bu (aZ 10 C "counts" 1 (aO C) bq) (oD (aR (aa (ab 5) Yt))))))))))))))))))))))))))
def ub(C:Ψ):Γ D->Δ D:=Fq (lK C) 12
end Pg
namespace K74
open PySem L2 Dl PySem.Spec PyProof.Rows
open Pg Ob Og VC
abbrev gi:Γ (Str×Int):=[("MOST_PLACES",4),("MOST",9)]
abbrev Ls:FT:=("_law_gone",2,gK)::("_law_why",3,mq)::("_law_wants",5,fT)::("_law_plan",3,fu)::("_law_fits",2,dI)::("_law_used",4,j7)::("_law_world",3,cW)::("_law_orders",3,b8)::("_law_drawn",3,aj)::("_law_cell",2,eZ)::("walk",2,uU)::("pushed",3,nS)::("pushed_on",3,e8)::("least_liked_used",4,dB)::("leaving",2,eQ)::("first_leaving",2,bO)::("why_kept",3,iM)::("wants_more",4,fY)::("ways_of",3,iB)::("replaced",3,eM)::("check_number",2,gu)::("check_whole",3,hJ)::("check_plan",2,bS)::("check_world",1,g8)::("is_plan",2,lz)::("keeps_amounts",3,du)::("through",4,dG)::("is_world",1,dy)::("liked_pairs",1,bJ)::("are_parts",3,gS)::("is_way",3,lh)::("is_end",2,gn)::("are_likes",2,gQ)::("is_long",3,bP)::("is_number",2,cR)::("is_whole",3,bM)::[]
abbrev c0:Cg:=⟨"Floor",bZ,["ground","present","done","undone"],[],none,none,[("done","undone"),("undone","done")],[],none,["_law_floor","_law_twin","_law_third"]⟩
abbrev c1:Cg:={ c0 with mv:=some "move" }
abbrev c2:Cg:={ c1 with Xf:=some (3,k6 bZ) }
abbrev c3:Cg:={ c2 with ms:=("step_to",3,cw bZ)::c2.ms }
abbrev c4:Cg:={ c3 with ms:=("push",2,gT bZ)::c3.ms }
abbrev c5:Cg:={ c4 with ms:=("lay",2,iV bZ)::c4.ms }
abbrev c6:Cg:={ c5 with ms:=("settle",1,fH bZ)::c5.ms }
abbrev c7:Cg:={ c6 with ms:=("plan",1,aF bZ)::c6.ms }
abbrev c8:Cg:={ c7 with ms:=("back",1,cg bZ)::c7.ms }
abbrev c9:Cg:={ c8 with ms:=("forth",1,cN bZ)::c8.ms }
abbrev UG:Cg:={ c9 with ms:=("counts",1,aO bZ)::c9.ms }
abbrev TH:Cg:={ UG with tw:=some ("twin",js bZ) }
abbrev Th:Cg:={ TH with fs:=("_law_step",4,cX bZ)::TH.fs }
abbrev SQ:Cg:={ Th with fs:=("_law_go_on",3,eY bZ)::Th.fs }
abbrev UF:Cg:={ SQ with fs:=("_law_goes",2,eC bZ)::SQ.fs }
abbrev Dc:Γ D->Δ D:=ub bZ
def Qo:Wf.P2 (top 53) tN UF ⟨Ls,gi⟩=some (lK bZ):=by kernel_rfl
structure Oo(K:W.Frag)(mg:Str->Option Value):Prop where
 o:∀P w base,Wf.Al P w K mg base gi 66 Ls UF
 c:Jm K mg "law" (top 53) ["_law_script"]
def PJ{P:ε}{w:δ}{K:Φ}{mg:Str->Δ Θ}{fa:Ψ}(D:Oo K mg)(hfa:mg "law"=some (.ref fa)):∃fd:η,(∀ (s:Ξ) (v:Θ),BindsTo s fd ⟨[v],[]⟩ [("_law_script",v)])/\∀base:ι,K.In base->base.Ns mainGlobals mg->cY P w K mg base nX 68 fa fd ["_law_script"] (Qc K 1 Dc):=by
 let⟨f,fd,hm,F,hb⟩:=D.c.ex;rw[hfa] at hm;cases hm;refine⟨fd,λs v=>?_,λbase _ _=>QP F (Rf.Vk (N:=tN)) λX hP hw hK Wo WB C _ _ HF H pa=>by subst hP;subst hw;subst hK;subst Wo;subst WB;have o:=D.o X.prog X.w X.base;exact Wf.C2 C o.ok.ob o.ok.of o.ok.oi o.ck.ok Qo⟩;sleep 20;exact .of_eq rfl
def walk{l:W.OpenLaw}{q:ε}{loose:Γ Str}{XP:(Str->Δ Θ)->ι->Prop}{YP:δ->ι->Prop}{d:DefRec}{K:Params->Φ}{ts:Γ Ψ}(hn:l.most=some 63)(hdf:d.params.defaults=[])(acD:d.name="law")
  (hY:∀ (w:δ) (h:ι),YP w h->(K w.params).In h/\∀P∈ts,h.get? P=some (W.tabObj #[])) (ht:∀w:δ,nO (K w.params) ts=true) (hI:∀ (w:δ) {h:ι}{mg:Str->Δ Θ},(K w.params).In h->h.Ns mainGlobals mg->Oo (K w.params) mg) (main:∀ns:Γ Int,ns.length<=63->Dc [.list (ns.map PyData.int)]=some (.bool true)) :
  W.WalkO q loose XP YP l.row.toRowW d [] (λf vs=>PySem.call f vs) :=
 G9 (n:=63) (k:=68) (x:="_law_script") (CX:=λ_=>nX) (sp:=λw=>Qc (K w.params) 1 Dc) hn (by decide) hdf ⟨rfl,by decide,by decide⟩ hY ht (λw mg fa h KX G hmg=>PJ (hI w KX G) (by rw[<- acD];exact hmg)) (λ_ _ a ns hl hT hS=>AM hS hT (main ns hl)) λ_ _ _ _ _ z=>z
end K74
namespace Dl
open PySem L2 PySem.Spec PyProof.Rows
def xp:D->Prop|.none=>True|.bool _=>True|.int _=>True|.str x=>PyData.canLay0 (.str x)=true|_=>False
def ib(b:Nat):Nat->D->Prop
 | 0,d=>xp d
 | k+1,d=>xp d\/(∃xs,(d=.list xs\/d=.tuple xs)/\xs.length<=b/\∀x∈xs,ib b k x)
def ib.leaf(h:xp d):ib b k d:=by
 cases k with
 | zero=>exact h
 | succ k=>exact .inl h
def ib.tup(hb:xs.length<=b)(h:∀x∈xs,ib b k x):ib b (k+1) (.tuple xs):=.inr ⟨xs,.inr rfl,hb,h⟩
def ib.lst(hb:xs.length<=b)(h:∀x∈xs,ib b k x):ib b (k+1) (.list xs):=.inr ⟨xs,.inl rfl,hb,h⟩
def ib.V4(h:ib b k (.tuple xs)):∃j,k=j+1/\xs.length<=b/\∀x∈xs,ib b j x:=by
 cases k with
 | zero=>cases h
 | succ k =>
  rcases h with h|⟨ys,h|h,h1,h2⟩
  ·cases h
  ·cases h
  ·cases h;exact⟨k,rfl,h1,h2⟩
def ib.mono(hb:b<=b'):∀ {k k':Nat}{d:D},k<=k'->ib b k d->ib b' k' d
 | 0,k',d,_,h=>.leaf h
 | k+1,0,d,hk,h=>by lia
 | k+1,k'+1,d,hk,h=>by
  rcases h with h|⟨xs,h,h1,h2⟩
  ·exact .inl h
  ·exact .inr ⟨xs,h,yD h1 hb,λx hx=>(h2 x hx).mono hb (by lia)⟩
def CY{b:Nat}:∀ {xs:Γ D},(∀x∈xs,PyData.canLay0 x=true/\x.depth<=k)->PyData.canLayAll0 xs=true/\PyData.depthAll xs<=k
 | [],_=>⟨by simp[PyData.canLayAll0],by simp[PyData.depthAll]⟩
 | x::xs,h=>by
  let⟨a,c⟩:=CY (b:=b) (xs:=xs) λy hy=>h y (zC _ hy);let⟨a',c'⟩:=h x zE;exact⟨by simp[PyData.canLayAll0,a,a'],by simp[PyData.depthAll];lia⟩
def ib.lay:∀ {k:Nat}{d:D},ib b k d->PyData.canLay0 d=true/\d.depth<=k:=by
 have lf:∀ {k:Nat}{d:D},xp d->PyData.canLay0 d=true/\d.depth<=k:=λ{k d} h=>by
  cases d<;>simp?[xp] at h<;>first|exact⟨h,by simp[PyData.depth]⟩|exact⟨by simp[PyData.canLay0],by simp[PyData.depth]⟩
 intro k
 induction k with
 | zero=>exactλh=>lf h
 | succ k ih =>
  intro d h;rcases h with h|⟨xs,h,h1,h2⟩
  ·exact lf h
  ·let⟨a,c⟩:=CY (b:=b) (xs:=xs) λy hy=>ih (h2 y hy);rcases h with rfl|rfl
   ·exact⟨by simp[PyData.canLay0,a],by simp[PyData.depth];lia⟩
   ·exact⟨by simp[PyData.canLay0,a],by simp[PyData.depth];lia⟩
def ib.shaped(h:ib b k d)(hk:k<=64):SeqAt.shaped d=true:=by
 let⟨a,c⟩:=h.lay;simp[SeqAt.shaped,a];lia
def ib.noDict(h:ib b k d):∀kv,d≠.dict kv:=by
 rintro kv rfl;have:=h.lay.1;simp[PyData.canLay0] at this
def pH:D->θ|.dict _=>false|_=>true
def ib.nd(h:ib b k d):pH d=true:=by
 cases d<;>first|rfl|exact absurd rfl (h.noDict _)
def UD:D->θ|.int _=>true|.bool _=>true|_=>false
def Uj:D->θ|.bool _=>true|_=>false
def Mx:D->θ|.tuple _=>true|_=>false
def kI(h:pH d=true):vg (gX d) "int"=some (UD d):=by cases d<;>first|cases h;done|exact Lj _ (by simp[gX])
def kB(h:pH d=true):vg (gX d) "bool"=some (Uj d):=by cases d<;>first|cases h;done|exact Ij _ (by simp[gX])
def kT(h:pH d=true):vg (gX d) "tuple"=some (Mx d):=by cases d<;>first|cases h;done|exact kit_tuple _ (by simp[gX])
def whole(a b:Int):D->θ|.int i=>decide (a<=i)&&decide (i<=b)|_=>false
def uD:∀ {ds:Γ D},(∀d∈ds,∃ρ',tgt ρ d=some ρ'/\te ρ'=some (h d))->di tgt (λ_=>some true) te ρ ds=some (ds.map h)
 | [],_=>rfl
 | d::ds,hh=>by
  let⟨ρ',h1,h2⟩:=hh d zE;have ih:=uD (ds:=ds) λy hy=>hh y (zC _ hy);unfold di;rw[h1];simp[h2,ih]
def mU:∀ {ds:Γ D},(∀d∈ds,∃ρ',tgt ρ d=some ρ'/\tt ρ'=some (p d)/\(p d=true->te ρ'=some (h d)))->di tgt tt te ρ ds=some ((ds.filter p).map h)
 | [],_=>rfl
 | d::ds,hh=>by
  let⟨ρ',h1,h2,h3⟩:=hh d zE;have ih:=mU (ds:=ds) λy hy=>hh y (zC _ hy);unfold di;rw[h1];simp?[zA,h2];cases hp:p d with
  | true=>rw[yK rfl,h3 hp];simp[ih,jV,hp]
  | false=>simp[ih,jV,hp]
def pd:∀ds:Γ D,boolsOf (ds.map λd=>.bool (p d))=some (ds.map p)
 | []=>rfl
 | d::ds=>by simp[boolsOf,pd ds]
def nq(ds:Γ D):nr [.list (ds.map λd=>.bool (p d))]=some (.bool (ds.all p)):=by
 simp?[nr,oneOf,zA,pd,zB,List.all_map];rfl
def bX(h:ds.length<=4000):small ds=some ds:=yK (yD h (by decide))
def nh{ds:Γ D}{i:Nat}(h:i < ds.length):sV ds (i:Nat)=some (ds.getD i .none):=by
 have:=wJ (xs:=ds) (j:=i) (v:=ds[i]) (List.getElem?_eq_some_iff.mpr ⟨h,rfl⟩);rw[this];simp[List.getD,h]
def Cz{ds:Γ D}(h:0 < ds.length):sV ds 0=some (ds.getD 0 .none):=nh (i:=0) h
def ym{ds:Γ D}(h:1 < ds.length):sV ds 1=some (ds.getD 1 .none):=nh (i:=1) h
def LP{ds:Γ D}(h:2 < ds.length):sV ds 2=some (ds.getD 2 .none):=nh (i:=2) h
end Dl
namespace Wm
open PySem L2 Dl PySem.Spec PyProof.Rows Pg
variable {cs:Γ Nat}{mo:Int}{i7 i5:Nat}{x5:Slot}{ks:Γ (Γ Int)}
def zf(ha:fa ρ=some (.int a))(hb:fb ρ=some (.int i))(hc:fc ρ=some (.int b)):kj Dj Dj fa fb fc ρ=some (.bool (decide (a<=i)&&decide (i<=b))):=by
 simp?[kj,ha,hb,hc,zA,Dj,xb,xG];by_cases h:a<=i<;>simp[h]
def cO(i j:Int):Dl.fx (.int i) (.int j)=some (.int (i - j)):=rfl
def cC(i j:Int):Dl.aH (.int i) (.int j)=some (.int (i+j)):=rfl
def vd(d:D):Slot.all (.val d)=some d:=rfl
def xa(ds:Γ D):Slot.all (.own ds)=some (.list ds):=rfl
def CW:Slot.all .Vs=none:=rfl
def BS(d:D):Slot.V5 (.val d)=some d:=rfl
def Ck(ds:Γ D):Slot.V5 (.own ds)=none:=rfl
def C5:Slot.V5 .Vs=none:=rfl
local macro_rules|`(tactic| simp! [$ts,*])=>`(tactic| simp only[bN,aD,iH,bc,gV,Au,fy,cL,fB,gB,Me,ab,fC,lV,Vc,Tv,Rr,f1,f2,cO,cC,aa,ag,ai,cq,tq,cf,eD,oneOf,gO,aQ,vd,xa,CW,BS,Ck,C5,cH,da,fJ,aR,gZ,aL,  zI,yT,xE,xN,zL,xJ,List.replicate,xP,yX,qF,kH,zA,Option.bind_none,zB,Option.map_none,Nat.reduceAdd,Nat.reduceSub,jC,Nat.sub_self,xG,reduceIte,$ts,*])
def gE(h:pH d=true)(a b:Int):bM [d,.int a,.int b]=some (.bool (whole a b d)):=by
 simp! [bM,rS,kI h,kB h];cases d<;>simp[UD,Uj,whole];rw[zf rfl rfl rfl]
def j3(h:pH d=true)(n:Int):cR [d,.int n]=some (.bool (whole 0 (n - 1) d)):=by
 simp! [cR,pM,gE h]
def long(a b:Int):D->θ|.tuple ds=>decide (a<=(ds.length:Int))&&decide ((ds.length:Int)<=b)|_=>false
def eE(h:pH d=true)(a b:Int):bP [d,.int a,.int b]=some (.bool (long a b d)):=by
 simp! [bP,uf,kT h];cases d<;>simp[Mx,long];rw[zf rfl (i:=_) rfl rfl]
def lM:D->Int|.int i=>i|_=>0
def gg(h:whole a b d=true):d=.int (lM d)/\a<=lM d/\lM d<=b:=by
 cases d<;>simp[whole] at h;exact⟨rfl,h⟩
def mw:∀ {ls:Γ D},ls.all (whole a b)=true->ls=(ls.map lM).map PyData.int
 | [],_=>rfl
 | d::ls,h=>by
  rw[xR,zF] at h;rw[zI,zI,<- (gg h.1).1,<- mw h.2]
def iI(n:Int):D->θ|.tuple ls=>ls.all (whole 0 (n - 1))&&decide ((ls.map lM).Nodup)|_=>false
def b0(i j:Int):bu (.int i) (.int j)=some (.bool (decide (i=j))):=by
 simp[bu,L9,SeqAt.shaped,PyData.canLay0,PyData.depth,PyData.eqv];rfl
def EN(h:ls.all (whole a b)=true)(hl:ls.length<=1000):f2 bu (f1 lI (λ_=>some (.tuple ls))) (cq cf (aa (λ_=>some (.tuple ls)) ag)) []=some (.bool (decide ((ls.map lM).Nodup))):=by
 have e:=mw h;have e1:lI (.tuple ls)=some (.int (many (ls.map lM))):=by
  simp?[lI,lN]
  conv=>lhs;rw[e]
  rw[bB,zA,yK];rw[zD];exact qY (Nat.add_le_add_right hl 1) (by decide)
 simp! [e1,b0];have:=BI (ls.map lM);rw[zD] at this;simp?[<- this,Int.ofNat_inj,yJ,PyData.bool.injEq]
def Qj(r:Dl.Env)(d:D):fG 0 (none::r) d=some (some d::r):=by simp[fG,isFree]
def cU(WG:fi ρ=some ds)(hl:ds.length<=4000)(hh:∀d∈ds,te (some d::cs.map λj=>(ρ[j]?).getD none)=some (h d)):ay 1 cs fi (fG 0) (λ_=>some true) te ρ=some (ds.map h):=by
 simp?[ay,WG,zA,fE,List.replicate,xE,xN];rw[uD (h:=h) λd hd=>⟨_,Qj _ d,hh d hd⟩,zA,bX (by rw[zD];exact hl)]
def mS(WG:fi ρ=some ds)(hl:ds.length<=4000)
  (hp:∀d∈ds,tt (some d::cs.map λj=>(ρ[j]?).getD none)=some (p d)) (hh:∀d∈ds,p d=true->te (some d::cs.map λj=>(ρ[j]?).getD none)=some (h d)):ay 1 cs fi (fG 0) tt te ρ=some ((ds.filter p).map h):=by
 simp?[ay,WG,zA,fE,List.replicate,xE,xN];rw[mU (p:=p) (h:=h) λd hd=>⟨_,Qj _ d,hp d hd,hh d hd⟩,zA,bX (by rw[zD];exact yD (xO _ _) hl)]
def zy(h:ib b k d)(hb:b<=1000)(n:Int):gQ [d,.int n]=some (.bool (iI n d)):=by
 simp! [gQ,pf,kT h.nd];cases d<;>try (simp[Mx,iI];done)
 rename_i ls;let⟨j,rfl,hl,hf⟩:=h.V4;have c:=cU (cs:=[1]) (fi:=cH (ab 0)) (te:=(ai 2 cR (aa (ab 0) (aa (ab 1) ag)))) (h:=λx=>.bool (whole 0 (n - 1) x)) (ρ:=[some (.tuple ls),some (.int n)]) rfl (by lia) λx hx=>by simp! [j3 (hf x hx).nd]
 simp! [Mx,xX,yN,c,nq];cases e:ls.all (whole 0 (n - 1)) with
 | false=>simp[iI,e]
 | true =>
  have:=EN e (yD hl hb);simp?[f2,f1,cq,aa,ag,zA,zB] at this;simp! [iI,e,xX,yN,jJ];simp?[cf,eD,oneOf,zA,gO,zB] at this;simp! [this]
def placeOk(n:Int):D->θ|.tuple ds=>decide (ds.length=2)&&(whole 0 9 (ds.getD 0 .none)&&iI n (ds.getD 1 .none))|_=>false
def je(g t:Int):D->θ|.tuple ds=>decide (ds.length=3)&&(whole 0 (g - 1) (ds.getD 0 .none)&&(whole 0 (t - 1) (ds.getD 1 .none)&&whole 1 9 (ds.getD 2 .none)))|_=>false
def uX(n:Nat)(ds:Γ D):long (n:Int) (n:Int) (.tuple ds)=decide (ds.length=n):=by
 simp?[long];by_cases h:ds.length=n
 ·simp[h]
 ·rw[zZ h,Bool.and_eq_false_iff,xA,xA];lia
def getD_mem{ds:Γ D}{i:Nat}(h:i < ds.length):ds.getD i .none∈ds:=by simp[List.getD,h]
def yc{b:Nat}(h:ib b k d)(hb:b<=1000)(n:Int):gn [d,.int n]=some (.bool (placeOk n d)):=by
 simp! [gn,yr,eE h.nd];cases d<;>try (simp[long,placeOk];done)
 rename_i ds;let⟨j,rfl,hl,hf⟩:=h.V4;rw[show long 2 2 (.tuple ds)=decide (ds.length=2) from uX 2 ds];by_cases e:ds.length=2
 ·have f0:=hf _ (getD_mem (i:=0) (by lia));have f1:=hf _ (getD_mem (i:=1) (by lia));simp! [e,jO,Cz (show 0 < ds.length by lia),ym (show 1 < ds.length by lia),gE f0.nd,zy f1 hb,placeOk];cases whole 0 9 (ds.getD 0 .none)<;>simp
 ·simp[e,placeOk]
def Fv{b:Nat}(h:ib b k d)(hb:b<=1000)(g t:Int):lh [d,.int g,.int t]=some (.bool (je g t d)):=by
 simp! [lh,zd,eE h.nd];cases d<;>try (simp[long,je];done)
 rename_i ds;let⟨j,rfl,hl,hf⟩:=h.V4;rw[show long 3 3 (.tuple ds)=decide (ds.length=3) from uX 3 ds];by_cases e:ds.length=3
 ·have f0:=hf _ (getD_mem (i:=0) (by lia));have f1:=hf _ (getD_mem (i:=1) (by lia));have Xj:=hf _ (getD_mem (i:=2) (by lia));simp! [e,jO,xX,yN,Cz (show 0 < ds.length by lia),ym (show 1 < ds.length by lia),LP (show 2 < ds.length by lia),gE Xj.nd,j3 f0.nd,j3 f1.nd,je];cases whole 0 (g - 1) (ds.getD 0 .none)<;>cases whole 0 (t - 1) (ds.getD 1 .none)<;>simp
 ·simp[e,je]
def cQ:D->Γ D|.tuple ds=>ds|_=>[]
def oq(d:D):θ:=long 1 4 d
def i8(g t w:D):θ:=oq g&&(oq t&&((cQ g).all (placeOk (cQ t).length)&&((cQ t).all (placeOk (cQ g).length)&&(Mx w&&(cQ w).all (je (cQ g).length (cQ t).length)))))
def ki(h:long a b d=true):d=.tuple (cQ d):=by cases d<;>first|rfl|cases h
def pD(hg:ib b k g)(ht:ib b k t)(hw:ib b k w)(hb:b<=1000):gS [g,t,w]=some (.bool (i8 g t w)):=by
 simp! [gS,pF,eE hg.nd,eE ht.nd,kT hw.nd];unfold i8 oq;cases e1:long 1 4 g with
 | false=>simp
 | true =>
  cases e2:long 1 4 t with
  | false=>simp
  | true =>
   obtain⟨gs,rfl⟩:∃gs,g=.tuple gs:=⟨_,ki e1⟩
   obtain⟨ts,rfl⟩:∃ts,t=.tuple ts:=⟨_,ki e2⟩
   let⟨j,rfl,hgl,hgf⟩:=hg.V4;let⟨j',hj,htl,htf⟩:=ht.V4;have c1:=cU (cs:=[1]) (fi:=cH (ab 0)) (te:=(ai 2 gn (aa (ab 0) (aa (cq cf (aa (ab 1) ag)) ag)))) (h:=λx=>.bool (placeOk ts.length x)) (ρ:=[some (.tuple gs),some (.tuple ts),some w]) rfl (by lia) λx hx=>by simp! [yc (hgf x hx) hb]
   have c2:=cU (cs:=[0]) (fi:=cH (ab 1)) (te:=(ai 2 gn (aa (ab 0) (aa (cq cf (aa (ab 1) ag)) ag)))) (h:=λx=>.bool (placeOk gs.length x)) (ρ:=[some (.tuple gs),some (.tuple ts),some w]) rfl (by lia) λx hx=>by simp! [yc (htf x hx) hb]
   simp! [xX,yN,c1,nq,cQ,jJ];cases e3:gs.all (placeOk ts.length) with
   | false=>simp
   | true =>
    simp! [xX,yN,c2,nq,jJ];cases e4:ts.all (placeOk gs.length) with
    | false=>simp
    | true =>
     cases hT:Mx w with
     | false=>simp! [xX,yN,kT hw.nd,hT,vR,Bool.and_false]
     | true =>
     obtain⟨ws,rfl⟩:∃ws,w=.tuple ws:=by cases w<;>first|exact⟨_,rfl⟩|cases hT
     let⟨j2,hj2,Yg,hwf⟩:=hw.V4;have c3:=cU (cs:=[0,1]) (fi:=cH (ab 2)) (te:=(ai 3 lh (aa (ab 0) (aa (cq cf (aa (ab 1) ag)) (aa (cq cf (aa (ab 2) ag)) ag))))) (h:=λx=>.bool (je gs.length ts.length x)) (ρ:=[some (.tuple gs),some (.tuple ts),some (.tuple ws)]) rfl (by lia) λx hx=>by simp! [Fv (hwf x hx) hb]
     simp! [xX,yN,c3,nq,jJ,kT hw.nd,Mx]
def sJ:∀ (a b:Γ Int),PyData.eqvAll (a.map PyData.int) (b.map PyData.int)=decide (a=b)
 | [],[]=>by simp[PyData.eqvAll]
 | [],_::_=>by simp[PyData.eqvAll]
 | _::_,[]=>by simp[PyData.eqvAll]
 | i::a,j::b=>by
  rw[zI,zI,PyData.eqvAll,sJ a b];by_cases h:i=j
  ·subst h;simp[PyData.eqv]
  ·simp[PyData.eqv,h]
def sO:∀ (a b:Γ (Γ Int)),PyData.eqvAll (a.map af) (b.map af)=decide (a=b)
 | [],[]=>by simp[PyData.eqvAll]
 | [],_::_=>by simp[PyData.eqvAll]
 | _::_,[]=>by simp[PyData.eqvAll]
 | x::a,y::b=>by
  rw[zI,zI,PyData.eqvAll,sO a b,af,af,PyData.eqv,sJ];by_cases h:x=y
  ·subst h;simp
  ·simp[h]
def iU(i:Int):ib b k (.int i):=.leaf trivial
def u0(h:r.length<=b):ib b (k+1) (af r):=.tup (by rw[zD];exact h) λx hx=>by
 let⟨i,_,rfl⟩:=List.mem_map.mp hx;exact iU i
def Hv{b k:Nat}{a:Γ (Γ Int)}(h:a.length<=b)(hr:∀r∈a,r.length<=b):ib b (k+2) (.list (a.map af)):=.lst (by rw[zD];exact h) λx hx=>by
 let⟨r,WY,rfl⟩:=List.mem_map.mp hx;exact u0 (hr r WY)
def ue(a:Γ (Γ Int)):∃b,a.length<=b/\∀r∈a,r.length<=b:=by
 induction a with
 | nil=>exact⟨0,yL _,λr h=>by cases h⟩
 | cons x a ih =>
  let⟨b,h1,h2⟩:=ih;refine⟨b+1+x.length,by rw[zL];lia,λr hr=>?_⟩;rcases List.mem_cons.mp hr with rfl|hr
  ·lia
  ·have:=h2 r hr;lia
def xt(a:Γ (Γ Int)):SeqAt.shaped (.list (a.map af))=true:=by
 let⟨b,h1,h2⟩:=ue a;exact (Hv (b:=b) (k:=0) h1 h2).shaped (by decide)
def Ej(a b:Γ (Γ Int)):bu (.list (a.map af)) (.list (b.map af))=some (.bool (decide (a=b))):=by
 simp?[bu,L9,xt,jN,xG,PyData.eqv,sO,zB]
def kq(d:D):Γ Int:=(cQ ((cQ d).getD 1 .none)).map lM
def iZ(h:placeOk n d=true):∃a ds,d=.tuple ds/\ds.length=2/\ds.getD 0 .none=.int a/\0<=a/\a<=9/\ds.getD 1 .none=.tuple ((kq d).map PyData.int)/\(kq d).Nodup/\∀j∈kq d,0<=j/\j<=n - 1:=by
 cases d<;>simp?[placeOk] at h<;>try cases h
 rename_i ds;simp?[zF,zJ] at h;let⟨h1,h2,h3⟩:=h;have e:kq (.tuple ds)=(cQ (ds.getD 1 .none)).map lM:=rfl;rw[e];generalize hl:ds.getD 1 .none=l at h3;cases l<;>simp?[iI] at h3<;>try cases h3
 rename_i ls;simp?[zF,zJ] at h3;let⟨w1,w2,w3⟩:=gg h2;refine⟨_,ds,rfl,h1,w1,w2,w3,?_,h3.2,λj hj=>?_⟩
 ·rw[show cQ (.tuple ls)=ls from rfl,<- mw h3.1];exact hl
 ·let⟨x,hx,rfl⟩:=List.mem_map.mp hj;exact (gg (List.all_eq_true.mp h3.1 x hx)).2
def mQ(k:Nat):Γ D->Γ (Γ Int)|[]=>[]|p::ps=>(kq p).map (λj=>[((k:Nat):Int),j])++mQ (k+1) ps
def rV:∀ (n:Nat) {l:Γ Int},l.Nodup->(∀j∈l,0<=j/\j<=(n:Int) - 1)->l.length<=n:=by
 intro n l hn h;have hs:l.map Int.toNat ⊆ List.range n:=λx hx=>by
  let⟨j,hj,rfl⟩:=List.mem_map.mp hx;have:=h j hj;exact List.mem_range.mpr (by lia)
 have Am:(l.map Int.toNat).Nodup:=by
  refine List.pairwise_map.mpr (hn.imp_of_mem λ{x y} hx hy Wi e=>Wi ?_);have:=h x hx;have:=h y hy;lia
 have:=List.Nodup.length_le_of_subset Am hs;simpa using this
def vv{n:Nat}:∀ {ps:Γ D}{k:Nat},(∀p∈ps,placeOk n p=true)->(mQ k ps).length<=ps.length * n
 | [],k,_=>xU _
 | p::ps,k,h=>by
  let⟨_,_,_,_,_,_,_,_,hn,hr⟩:=iZ (h p zE);have h1:=rV n hn hr;have h2:=vv (ps:=ps) (k:=k+1) λq hq=>h q (zC _ hq);rw[mQ,zN,zD,zL,Nat.succ_mul];lia
def pB:ao->Δ Out:=DJ 1 [2,3] (ay 1 [2] (cH (f2 aL (ab 3) (fC (.int 1)))) (fG 0) (λ_=>some true) (aR (aa (ab 1) (aa (ab 0) ag))))
def Oa{n:Nat}{p:D}{acc:Γ D}(hp:placeOk n p=true)(hn:n<=100)(ha:acc.length<=1000):pB [.val x,.own acc,.val (.int (k:Nat)),.val p]=some (.nx [.val x,.own (acc++((kq p).map λj=>af [((k:Nat):Int),j])),.val (.int (k:Nat)),.val p]):=by
 let⟨a,ds,rfl,hl,_,_,_,h1,Am,hr⟩:=iZ hp;have hb:=rV n Am hr;generalize kq (.tuple ds)=ls at *;have c:=cU (cs:=[2]) (fi:=cH (f2 aL (ab 3) (fC (.int 1)))) (te:=aR (aa (ab 1) (aa (ab 0) ag))) (h:=λy=>.tuple [.int (k:Nat),y]) (ρ:=[some x,none,some (.int (k:Nat)),some (.tuple ds)]) (ds:=ls.map PyData.int)
  (by simp! [ym (show 1 < ds.length by lia),h1]) (by rw[zD];lia) λy hy=>by
   simp! [bX (show [PyData.int (k:Nat),y].length<=4000 by simp)]
 have hh:hand [2,3] 0 [Slot.val x,.own acc,.val (.int (k:Nat)),.val (.tuple ds)]=[Slot.val x,.own acc,.val (.int (k:Nat)),.val (.tuple ds)]:=rfl;simp?[pB,DJ,hh,bp,zI,yT,Slot.V5,c,zA,pV,yX,xP];rw[yK]
 ·simp?[zB,yV,yU,zM];rfl
 ·simp?[zD];exact yD (show acc.length+ls.length<=1100 by lia) (by decide)
def uJ{n:Nat}(hn:n<=100):∀ {ps:Γ D}{k:Nat}{acc:Γ D}{s2 s3:Slot},(∀p∈ps,placeOk n p=true)->acc.length+ps.length * n<=1000 ->
  ∃t2 t3,fq (gU 2 3) pB (bK k ps) [.val x,.own acc,s2,s3]=some (.nx [.val x,.own (acc++(mQ k ps).map af),t2,t3])
 | [],k,acc,s2,s3,_,_=>⟨s2,s3,by simp[bK,fq,mQ]⟩
 | p::ps,k,acc,s2,s3,h,hl=>by
  have hp:=h p zE;let⟨_,_,_,_,_,_,_,_,Am,hr⟩:=iZ hp;have hb:=rV n Am hr;rw[zL,Nat.succ_mul] at hl;let⟨t2,t3,e⟩:=uJ hn (x:=x) (ps:=ps) (k:=k+1) (acc:=acc++((kq p).map λj=>af [((k:Nat):Int),j])) (s2:=.val (.int (k:Nat))) (s3:=.val p) (λq hq=>h q (zC _ hq)) (by rw[zN,zD];lia);refine⟨t2,t3,?_⟩;have hs:gU 2 3 [.val x,.own acc,s2,s3] (.tuple [.int (k:Nat),p])=some [.val x,.own acc,.val (.int (k:Nat)),.val p]:=rfl;simp?[bK,fq,hs,zA,Oa hp hn (show acc.length<=1000 by lia)];rw[e];simp[mQ,zM,wH]
def BU{n:Nat}{ps:Γ D}(h:∀p∈ps,placeOk n p=true)(hn:n<=100)(hl:ps.length * n<=1000):bJ [.tuple ps]=some (.list ((mQ 0 ps).map af)):=by
 let⟨t2,t3,e⟩:=uJ hn (x:=.tuple ps) (k:=0) (acc:=[]) (s2:=.Vs) (s3:=.Vs) h (by simpa using hl);have hs:bw 1 [] (gZ ag) [Slot.val (.tuple ps),.Vs,.Vs,.Vs]=some (.nx [.val (.tuple ps),.own [],.Vs,.Vs]):=rfl;have hh:hand [0] 0 [Slot.val (.tuple ps),.own [],.Vs,.Vs]=[Slot.val (.tuple ps),.own [],.Vs,.Vs]:=rfl;have hf:bI (aa (ab 0) ag) (bp [Slot.val (.tuple ps),.own [],.Vs,.Vs])=some (bK 0 ps):=rfl;simp! [bJ,l7,hs,gw,hh,hf];rw[show DJ 1 [2,3] (ay 1 [2] (cH (f2 aL (ab 3) (fC (.int 1)))) (fG 0) (λ_=>some true) (aR (aa (ab 1) (aa (ab 0) ag))))=pB from rfl,e];simp! []
def fP(d:D):Γ Int:=[lM ((cQ d).getD 0 .none),lM ((cQ d).getD 1 .none)]
def AV(h:je g t d=true):∃ds c,d=.tuple ds/\ds.length=3/\ds.getD 0 .none=.int (lM (ds.getD 0 .none))/\ds.getD 1 .none=.int (lM (ds.getD 1 .none))/\ds.getD 2 .none=.int c/\1<=c/\c<=9 /\
  0<=lM (ds.getD 0 .none)/\lM (ds.getD 0 .none)<=g - 1/\0<=lM (ds.getD 1 .none)/\lM (ds.getD 1 .none)<=t - 1:=by
 cases d<;>simp?[je] at h<;>try cases h
 rename_i ds;simp?[zF,zJ] at h;let⟨h1,h2,h3,h4⟩:=h;have a:=gg h2;have b:=gg h3;have c:=gg h4;exact⟨ds,_,rfl,h1,a.1,b.1,c.1,c.2.1,c.2.2,a.2.1,a.2.2,b.2.1,b.2.2⟩
def Av(g t w:D):θ:=decide ((cQ w).map fP=sQ (mQ 0 (cQ g)))&&decide ((cQ w).map fP=sQ ((mQ 0 (cQ t)).map List.reverse))
def SE(d:D):θ:=long 3 3 d&&(i8 ((cQ d).getD 0 .none) ((cQ d).getD 1 .none) ((cQ d).getD 2 .none)&&Av ((cQ d).getD 0 .none) ((cQ d).getD 1 .none) ((cQ d).getD 2 .none))
def lO:∀ {ps:Γ D}{k:Nat},∀r∈mQ k ps,∃i j,r=[i,j]
 | [],k,r,h=>by cases h
 | p::ps,k,r,h=>by
  rcases List.mem_append.mp h with h|h
  ·let⟨j,_,rfl⟩:=List.mem_map.mp h;exact⟨_,_,rfl⟩
  ·exact lO r h
def nv(h:∀r∈a,∃i j,r=[i,j])(hl:a.length < 64):gM [.list (a.map af)]=some ((sQ a).map af):=by
 have:∀ns∈a,ns≠[]:=λns hn=>by let⟨i,j,rfl⟩:=h ns hn;exact List.cons_ne_nil _ _
 simp?[gM,oneOf,zA,qg this,yK hl]
def tZ:∀ {a:Γ (Γ Int)},(∀r∈a,∃i j,r=[i,j])->di (jd 0 1) (λ_=>some true) (aR (aa (ab 1) (aa (ab 0) ag))) [none,none] (a.map af)=some ((a.map List.reverse).map af)
 | [],_=>rfl
 | r::a,h=>by
  let⟨i,j,rfl⟩:=h r zE;have ih:=tZ (a:=a) λq hq=>h q (zC _ hq);have e:jd 0 1 [none,none] (af [i,j])=some [some (.int i),some (.int j)]:=rfl;rw[zI,di,e,zA,zA,yK rfl,ih];simp! [bX (show [PyData.int j,.int i].length<=4000 by simp)];rfl
def EG{a:Γ (Γ Int)}(WG:fi ρ=some (a.map af))(hl:a.length<=4000)(h:∀r∈a,∃i j,r=[i,j]):ay 2 [] fi (jd 0 1) (λ_=>some true) (aR (aa (ab 1) zq2)) ρ=some ((a.map List.reverse).map af):=by
 simp?[ay,WG,zA,fE,List.replicate,xE,xN,yT];rw[tZ h,zA,bX (by rw[zD,zD];exact hl)]
def z8(h:i8 g t w=true):∃gs ts ws,g=.tuple gs/\t=.tuple ts/\w=.tuple ws/\1<=gs.length/\gs.length<=4/\1<=ts.length/\ts.length<=4/\(∀p∈gs,placeOk ts.length p=true)/\(∀p∈ts,placeOk gs.length p=true)/\∀x∈ws,je gs.length ts.length x=true:=by
 simp?[i8,oq,zF] at h;let⟨h1,h2,h3,h4,h5,h6⟩:=h;cases w<;>try cases h5
 rename_i ws;have e1:=ki h1;have e2:=ki h2;generalize cQ g=gs at *;generalize cQ t=ts at *;subst e1 e2;simp?[long,zF,zJ] at h1 h2;exact⟨gs,ts,ws,rfl,rfl,rfl,by lia,by lia,by lia,by lia,List.all_eq_true.mp h3,List.all_eq_true.mp h4,List.all_eq_true.mp h6⟩
def AQ{b:Nat}(h:ib b k d)(hb:b<=1000):dy [d]=some (.bool (SE d)):=by
 unfold SE;cases e1:long 3 3 d with
 | false=>simp! [dy,i3,eE h.nd,e1,Bool.not_false,vR]
 | true =>
  obtain⟨ds,rfl⟩:∃ds,d=.tuple ds:=⟨_,ki e1⟩
  let⟨j,rfl,hl,hf⟩:=h.V4;rw[show long 3 3 (.tuple ds)=decide (ds.length=3) from uX 3 ds,zJ] at e1;have f0:=hf _ (getD_mem (i:=0) (by lia));have f1:=hf _ (getD_mem (i:=1) (by lia));have Xj:=hf _ (getD_mem (i:=2) (by lia));have i0:=Cz (show 0 < ds.length by lia);have i1:=ym (show 1 < ds.length by lia);have i2:=LP (show 2 < ds.length by lia);have el:bP [.tuple ds,.int 3,.int 3]=some (.bool true):=by rw[eE rfl,show long 3 3 (.tuple ds)=decide (ds.length=3) from uX 3 ds,yA e1]
  rw[show cQ (.tuple ds)=ds from rfl,jJ];generalize hg:ds.getD 0 .none=g at *;generalize ht:ds.getD 1 .none=t at *;generalize hw:ds.getD 2 .none=w at *;cases e2:i8 g t w with
  | false=>simp! [dy,i3,el,i0,i1,i2,pD f0 f1 Xj hb,e2,Bool.not_false,xX,vR]
  | true =>
   let⟨gs,ts,ws,rfl,rfl,rfl,g1,g4,t1,t4,hG,hT,hW⟩:=z8 e2;have hfw:=Xj.V4;let⟨j2,_,Yg,_⟩:=hfw;have q1:=vv (k:=0) hG;have q2:=vv (k:=0) hT;have m1:gs.length * ts.length<=16:=vQ g4 t4;have m2:ts.length * gs.length<=16:=vQ t4 g4;have l1:=BU hG (by lia) (by lia);have l2:=BU hT (by lia) (by lia);have s1:=nv (a:=mQ 0 gs) lO (by lia);have s2:=nv (a:=(mQ 0 ts).map List.reverse) (λr hr=>by
    let⟨q,hq,rfl⟩:=List.mem_map.mp hr;let⟨i,j,rfl⟩:=lO q hq;exact⟨j,i,rfl⟩) (by rw[zD];lia)
   have c1:ay 1 [] (cH (f2 aL (ab 0) (fC (.int 2)))) (fG 0) (λ_=>some true) (aR (aa (f2 aL (ab 0) (fC (.int 0))) (aa (f2 aL (ab 0) (fC (.int 1))) ag))) [some (.tuple ds),none,none,none]=some ((ws.map fP).map af):=by
    rw[cU (ds:=ws) (h:=λx=>af (fP x)) (by simp! [i2]) (by lia) λx hx=>?_,zM]
    ·rfl
    ·let⟨vs,c,rfl,v3,v0,v1,_⟩:=AV (hW x hx);simp! [Cz (show 0 < vs.length by lia),ym (show 1 < vs.length by lia),bX (show [vs.getD 0 PyData.none,vs.getD 1 .none].length<=4000 by simp),af,fP,cQ];rw[<- v0,<- v1]
   have c2:∀x y z,ay 2 [] (cH (ai 1 bJ (aa (f2 aL (ab 0) (fC (.int 1))) ag))) (jd 0 1) (λ_=>some true) (aR (aa (ab 1) (aa (ab 0) ag))) [some (.tuple ds),x,y,z]=some (((mQ 0 ts).map List.reverse).map af):=λx y z =>
    EG (by simp! [i1,l2]) (by lia) lO
   have st1:bw 1 [0] (ay 1 [] (cH (f2 aL (ab 0) (fC (.int 2)))) (fG 0) (λ_=>some true) (aR (aa (f2 aL (ab 0) (fC (.int 0))) (aa (f2 aL (ab 0) (fC (.int 1))) ag)))) [Slot.val (.tuple ds),.Vs,.Vs,.Vs]=some (.nx [.val (.tuple ds),.own ((ws.map fP).map af),.Vs,.Vs]):=by
    have hh:hand [0] 0 [Slot.val (.tuple ds),.Vs,.Vs,.Vs]=[Slot.val (.tuple ds),.Vs,.Vs,.Vs]:=rfl;simp?[bw,hh,bp,zI,yT,Slot.V5,c1,zB,yV,yU]
   have VZ:bw 2 [0] (tq gM (aa (ai 1 bJ (aa (f2 aL (ab 0) (fC (.int 0))) ag)) ag)) [Slot.val (.tuple ds),.own ((ws.map fP).map af),.Vs,.Vs]=some (.nx [.val (.tuple ds),.own ((ws.map fP).map af),.own ((sQ (mQ 0 gs)).map af),.Vs]):=by
    have hh:hand [0] 0 [Slot.val (.tuple ds),.own ((ws.map fP).map af),.Vs,.Vs]=[Slot.val (.tuple ds),.own ((ws.map fP).map af),.Vs,.Vs]:=rfl;simp?[bw,hh,bp,zI,yT,Slot.V5];simp! [i0,l1,s1,yV,yU]
   have X9:bw 3 [0] (tq gM (aa (da (ay 2 [] (cH (ai 1 bJ (aa (f2 aL (ab 0) (fC (.int 1))) ag))) (jd 0 1) (λ_=>some true) (aR (aa (ab 1) (aa (ab 0) ag))))) ag)) [Slot.val (.tuple ds),.own ((ws.map fP).map af),.own ((sQ (mQ 0 gs)).map af),.Vs]
      =some (.nx [.val (.tuple ds),.own ((ws.map fP).map af),.own ((sQ (mQ 0 gs)).map af),.own ((sQ ((mQ 0 ts).map List.reverse)).map af)]):=by
    have hh:hand [0] 0 [Slot.val (.tuple ds),.own ((ws.map fP).map af),.own ((sQ (mQ 0 gs)).map af),.Vs]=[Slot.val (.tuple ds),.own ((ws.map fP).map af),.own ((sQ (mQ 0 gs)).map af),.Vs]:=rfl;simp?[bw,hh,bp,zI,yT,Slot.V5];simp! [c2,s2,yV,yU]
   simp! [dy,i3,el,i0,i1,i2,pD f0 f1 Xj hb,e2,xX,yN,st1,VZ,X9,Ej,Av,cQ,jJ];by_cases hq:List.map fP ws=sQ (mQ 0 gs)<;>simp[hq]
def mM(xs:Γ D):PyData.eqvAll xs []=xs.isEmpty:=by cases xs<;>simp[PyData.eqvAll]
def By:SeqAt.shaped (.list [])=true:=by simp[SeqAt.shaped,PyData.canLay0,PyData.canLayAll0,PyData.depth,PyData.depthAll]
def GQ(h:∀x∈xs,ib b k x)(hk:k<=60):bu (.list xs) (.list [])=some (.bool xs.isEmpty):=by
 have hs:SeqAt.shaped (.list xs)=true:=(ib.lst (b:=max b xs.length) (k:=k) (Nat.le_max_right _ _) λx hx=>(h x hx).mono (Nat.le_max_left _ _) (yL _)).shaped (by lia);simp?[bu,L9,hs,By,jN,xG,PyData.eqv,mM,zB]
def iz:small []=some []:=rfl
def E1(xs:Γ α)(k:Nat):cut xs none (some (k:Int))=xs.take k:=by
 simp?[cut,HT.yl,HT.Cy,List.drop_zero,Nat.sub_zero];rw[List.take_eq_take_iff];lia
def zv(xs:Γ α)(k:Nat):cut xs (some (k:Int)) none=xs.drop k:=by
 simp?[cut,HT.yl,HT.Cy];rw[kE (by rw[qG];lia)];by_cases h:k<=xs.length
 ·rw[Nat.min_eq_left h]
 ·rw[Nat.min_eq_right (by lia),List.drop_of_length_le (yL _),List.drop_of_length_le (by lia)]
def gR(b:θ):gB (.bool b)=some b:=rfl
def Bp(a b:D):small [a,b]=some [a,b]:=rfl
def nH:∀ (ρ:ao) (k:Nat),hand [] k ρ=ρ
 | [],k=>rfl
 | s::r,k=>by simp[hand,nH r]
def qf:∀ {ps:Γ D}{k:Nat}{i j:Int},[i,j]∈mQ k ps↔∃m p,ps[m]?=some p/\i=((k+m:Nat):Int)/\j∈kq p
 | [],k,i,j=>by simp[mQ]
 | p::ps,k,i,j=>by
  rw[mQ,List.mem_append,qf (ps:=ps)];constructor
  ·rintro (h|⟨m,q,h1,h2,h3⟩)
   ·let⟨y,hy,e⟩:=List.mem_map.mp h;injection e with e1 e2
    injection e2 with e2 _
    exact⟨0,p,rfl,by simpa using e1.symm,e2 ▸ hy⟩
   ·exact⟨m+1,q,by simpa using h1,by rw[h2];congr 1;lia,h3⟩
  ·rintro⟨m,q,h1,h2,h3⟩;cases m with
   | zero =>
    simp at h1;subst h1;exact .inl (List.mem_map.mpr ⟨j,h3,by rw[h2];rfl⟩)
   | succ m=>exact .inr ⟨m,q,by simpa using h1,by rw[h2];congr 1;lia,h3⟩
def tU:∀ {ps:Γ D}{k:Nat},(∀p∈ps,(kq p).Nodup)->(mQ k ps).Nodup
 | [],k,_=>List.nodup_nil
 | p::ps,k,h=>by
  rw[mQ,wG];refine⟨List.pairwise_map.mpr ((h p zE).imp λWi e=>Wi ?_),tU λq hq=>h q (zC _ hq),?_⟩;rotate_left
  ·injection e with _ e2
   injection e2
  ·rintro a ha b hb rfl;let⟨y,hy,rfl⟩:=List.mem_map.mp ha;let⟨m,q,h1,h2,h3⟩:=qf.mp hb;lia
def Ri(h:Dl.lexLt a b=true):lexLe a b=true:=by
 unfold lexLe;cases e:Dl.lexLt b a with
 | false=>rfl
 | true=>have:=eN h e;rw[gx] at this;cases this
def dg(h:tx i j):Dl.dX (.int i) (.int j)=some (.int (i * j)):=by
 simp?[Dl.dX,xb,yK h,Option.some_or]
def il(h:0 < j):Dl.lW (.int i) (.int j)=some (.int (i % j)):=yK h
def j4(h:0 < j/\j < 1073741824):Dl.mX (.int i) (.int j)=some (.int (i / j)):=yK h
def et(i j:Int):Dl.A4 (.int i) (.int j)=some (.bool (decide (j < i))):=rfl
def lJ(i j:Int):Dl.FD (.int i) (.int j)=some (.bool (decide (i < j))):=rfl
def iL(h:-(2 ^ 64) < i/\i < 2 ^ 64):tx i j:=.inl h
def NW(h:-(2 ^ 64) < j/\j < 2 ^ 64):tx i j:=.inr h
def zw(i:Int):Dl.jq (.int i)=true:=rfl
def Aa(i:Γ D):Dl.jq (.tuple i)=false:=rfl
def bT(ns:Γ Int):D:=.list (ns.map PyData.int)
def Pe(k:Int)(hl:ns.length<=63):∃c,eZ [bT ns,.int k]=some (.int c):=by
 have heq:bu (.list (ns.map PyData.int)) (.list [])=some (.bool ns.isEmpty):=by
  have:=GQ (b:=0) (k:=0) (xs:=ns.map PyData.int) (λx hx=>by let⟨i,_,rfl⟩:=List.mem_map.mp hx;exact iU i) (by decide);rw[this];cases ns<;>rfl
 by_cases hn:ns=[]
 ·subst hn;refine⟨7 * k,?_⟩;rw[yT,List.isEmpty_nil] at heq;simp! [eZ,j6,bT,iz,heq,List.isEmpty_nil,dg (iL (i:=7) (j:=k) (by decide))]
 ·have W2:(0:Int) < (ns.length:Int):=by have:=List.length_pos_iff.mpr hn;lia
  have he:ns.isEmpty=false:=by cases ns<;>first|rfl|exact absurd rfl hn
  let⟨j,hj⟩:=vC (vN k (show (ns.length:Int)≠0 by lia));have VU:=kP k W2;have hx:sV (ns.map PyData.int) (k % (ns.length:Int))=some (.int (ns.getD j 0)):=by
   rw[hj];have:j < (ns.map PyData.int).length:=by rw[zD];lia
   rw[nh this,zG,zO,zG];rw[zK (by lia)];rfl
  refine⟨ns.getD j 0+6553 * (k / (ns.length:Int)),?_⟩;simp! [eZ,j6,bT,iz,heq,he,yN,zD,il W2,hx,j4 (i:=k) (j:=(ns.length:Int)) ⟨W2,by lia⟩,dg (iL (i:=6553) (j:=k / (ns.length:Int)) (by decide))]
def Ji(k many:Int)(hl:ns.length<=63)(hm:0 < many):∃r,aj [bT ns,.int k,.int many]=some (.int r)/\0<=r/\r < many:=by
 let⟨c,hc⟩:=Pe k hl;have m1:∀i:Int,Dl.lW (.int i) (.int 2147483563)=some (.int (i % 2147483563)):=λi=>il (by decide);have m2:∀i:Int,Dl.lW (.int i) (.int 2147483399)=some (.int (i % 2147483399)):=λi=>il (by decide);have m3:∀i:Int,Dl.lW (.int i) (.int 2147483647)=some (.int (i % 2147483647)):=λi=>il (by decide);have d1:∀i:Int,Dl.mX (.int i) (.int 3)=some (.int (i / 3)):=λi=>j4 (by decide);have d2:∀i:Int,Dl.mX (.int i) (.int 7)=some (.int (i / 7)):=λi=>j4 (by decide);have d3:∀i:Int,Dl.mX (.int i) (.int 11)=some (.int (i / 11)):=λi=>j4 (by decide);have u1:∀i:Int,Dl.dX (.int i) (.int 69069)=some (.int (i * 69069)):=λi=>dg (NW (by decide));have u2:∀i:Int,Dl.dX (.int 104723) (.int i)=some (.int (104723 * i)):=λi=>dg (iL (by decide));have b1:∀x:Int,Dl.dX (.int (x % 2147483563)) (.int (x % 2147483563))=some (.int (x % 2147483563 * (x % 2147483563))):=λx=>dg (iL (by
  have:=vN x (show (2147483563:Int)≠0 by decide);have:=kP x (show (0:Int) < 2147483563 by decide);lia))
 have b2:∀x:Int,Dl.dX (.int (x % 2147483399)) (.int (x % 2147483399))=some (.int (x % 2147483399 * (x % 2147483399))):=λx=>dg (iL (by
  have:=vN x (show (2147483399:Int)≠0 by decide);have:=kP x (show (0:Int) < 2147483399 by decide);lia))
 suffices h:∃x,aj [bT ns,.int k,.int many]=some (.int (x % many)) by
  let⟨x,hx⟩:=h;exact⟨_,hx,vN x (show many≠0 by lia),kP x hm⟩
 ·refine⟨(((((c % 2147483563 * 69069+104723 * (k+1)) % 2147483563) * ((c % 2147483563 * 69069+104723 * (k+1)) % 2147483563)+((c % 2147483563 * 69069+104723 * (k+1)) % 2147483563) / 3) % 2147483399) * ((((c % 2147483563 * 69069+104723 * (k+1)) % 2147483563) * ((c % 2147483563 * 69069+104723 * (k+1)) % 2147483563)+((c % 2147483563 * 69069+104723 * (k+1)) % 2147483563) / 3) % 2147483399)+((((c % 2147483563 * 69069+104723 * (k+1)) % 2147483563) * ((c % 2147483563 * 69069+104723 * (k+1)) % 2147483563)+((c % 2147483563 * 69069+104723 * (k+1)) % 2147483563) / 3) % 2147483399) / 7) % 2147483647 / 11,?_⟩;simp! [aj,m5,hc,m1,u1,u2,Dl.aS,zw,yV,yU,b1,d1,m2,b2,d2,m3,d3,il (j:=many) hm]
def dr(ns:Γ Int)(k many:Int):Int:=lM ((aj [bT ns,.int k,.int many]).getD .none)
def dz(k many:Int)(hl:ns.length<=63)(hm:0 < many):aj [bT ns,.int k,.int many]=some (.int (dr ns k many))/\0<=dr ns k many/\dr ns k many < many:=by
 let⟨r,h1,h2⟩:=Ji k many hl hm;have:dr ns k many=r:=by simp?[dr,h1,qF,lM]
 rw[this];exact⟨h1,h2⟩
def uz(k many:Int)(hl:ns.length<=63)(hm:0 < many):aj [bT ns,.int k,.int many]=some (.int (dr ns k many)):=(dz k many hl hm).1
def Mt(k many:Int)(hl:ns.length<=63)(hm:0 < many):0<=dr ns k many:=(dz k many hl hm).2.1
def Mw(k many:Int)(hl:ns.length<=63)(hm:0 < many):dr ns k many < many:=(dz k many hl hm).2.2
def cD(r:Γ Int):D:=.list (r.map PyData.int)
def insI(ds:Γ Int)(k:Int)(d:Int):Γ Int:=let j:=if k < 0 then (k+(ds.length:Int)).toNat else min k.toNat ds.length;ds.take j++d::ds.drop j
def DN(ds:Γ Int)(k d:Int):C7 (ds.map PyData.int) k (.int d)=(insI ds k d).map PyData.int:=by
 simp?[C7,insI,zD,qZ,zI,List.map_take,List.map_drop]
def insI_perm(ds:Γ Int)(k d:Int):(insI ds k d).Perm (d::ds):=by
 simp?[insI];refine List.perm_middle.trans ?_;rw[List.take_append_drop]
def oB:ao->Δ Out:=(E7 6 [8] (ai 3 aj (aa (ab 0) (aa (f2 aH (f2 aH (ab 1) (f2 dX (fC (.int 4)) (ab 4))) (ab 7)) (aa (f2 aH (cq cf (aa (ab 6) ag)) (fC (.int 1))) ag)))) (ab 8))
def NI{s3:Slot}(hl:ns.length<=63)(ho:order.length<=1000) :
  oB [.val (bT ns),.val (.int a),s2,s3,.val (.int k),s5,.own (order.map PyData.int),.val (.int j),.val (.int x)] =
   some (.nx [.val (bT ns),.val (.int a),s2,s3,.val (.int k),s5,.own ((insI order (dr ns (a+4 * k+j) ((order.length:Int)+1)) x).map PyData.int),.val (.int j),.val (.int x)]):=by
 have h4:Dl.dX (.int 4) (.int k)=some (.int (4 * k)):=dg (iL (by decide));have hd:=dz (ns:=ns) (a+4 * k+j) ((order.length:Int)+1) hl (by lia);have hr:pU (dr ns (a+4 * k+j) ((order.length:Int)+1))=true:=by
  simp?[pU,zF,zJ];lia
 have hz:(order.map PyData.int).length < sizeLine:=by rw[zD];exact qY ho (by decide)
 simp! [oB,E7,ph,zw,pV,zD,h4,hd.1];rw[zD] at hz;simp?[hr,hz,jN,xG,zB,DN,yV,yU]
def Fp{s3:Slot}(hl:ns.length<=63):∀ {row order:Γ Int}{j:Nat}{s7 s8:Slot},order.length+row.length<=1000 ->
  ∃ (o:Γ Int) (t7 t8:Slot),fq (gU 7 8) oB (bK j (row.map PyData.int)) [.val (bT ns),.val (.int a),s2,s3,.val (.int k),s5,.own (order.map PyData.int),s7,s8] =
   some (.nx [.val (bT ns),.val (.int a),s2,s3,.val (.int k),s5,.own (o.map PyData.int),t7,t8])/\o.Perm (row++order)
 | [],order,j,s7,s8,_=>⟨order,s7,s8,by simp[bK,fq],by simp⟩
 | x::row,order,j,s7,s8,h=>by
  rw[zL] at h;have hp:=insI_perm order (dr ns (a+4 * k+((j:Nat):Int)) ((order.length:Int)+1)) x;have hlen:=hp.length_eq;rw[zL] at hlen;let⟨o,t7,t8,e,p⟩:=Fp (s2:=s2) (s3:=s3) (s5:=s5) (a:=a) (k:=k) hl (row:=row) (order:=insI order (dr ns (a+4 * k+((j:Nat):Int)) ((order.length:Int)+1)) x) (j:=j+1) (s7:=.val (.int (j:Nat))) (s8:=.val (.int x)) (by lia);refine⟨o,t7,t8,?_,p.trans ?_⟩
  ·have hs:gU 7 8 [.val (bT ns),.val (.int a),s2,s3,.val (.int k),s5,.own (order.map PyData.int),s7,s8] (.tuple [.int (j:Nat),.int x])=some [.val (bT ns),.val (.int a),s2,s3,.val (.int k),s5,.own (order.map PyData.int),.val (.int (j:Nat)),.val (.int x)]:=rfl;simp?[zI,bK,fq,hs,zA,NI hl (show order.length<=1000 by lia),e]
  ·refine (hp.append_left row).trans ?_;rw[xE];exact List.perm_middle
def sN:Γ (Γ Int)->Γ (Γ Int)->Prop|[],[]=>True|a::l,b::m=>a.Perm b/\sN l m|_,_=>False
def rB:ao->Δ Out:=(aD (bw 6 [] (gZ ag)) (aD (gw [5] (bI (aa (ab 5) ag)) (gU 7 8) oB) (mV 3 [6] (cq fJ (aa (ab 6) ag)))))
def O9(hl:ns.length<=63)(hr:row.length<=1000)(hf:found.length<=1000) :
  ∃ (o:Γ Int) (t7 t8:Slot),rB [.val (bT ns),.val (.int a),.val rows,.own found,.val (.int k),.val (cD row),s6,s7,s8]=some (.nx [.val (bT ns),.val (.int a),.val rows,.own (found++[af o]),.val (.int k),.val (cD row),.val (cD o),t7,t8])/\o.Perm row:=by
 let⟨o,t7,t8,e,p⟩:=Fp (s2:=.val rows) (s3:=.own found) (s5:=.val (cD row)) (a:=a) (k:=k) hl (row:=row) (order:=[]) (j:=0) (s7:=s7) (s8:=s8) (by simpa using hr);rw[qE] at p;refine⟨o,t7,t8,?_,p⟩;have h1:bw 6 [] (gZ ag) [.val (bT ns),.val (.int a),.val rows,.own found,.val (.int k),.val (cD row),s6,s7,s8]=some (.nx [.val (bT ns),.val (.int a),.val rows,.own found,.val (.int k),.val (cD row),.own [],s7,s8]):=by
  simp?[bw,nH,gZ,ag,zA,iz,zB,yV,yU]
 have h2:gw [5] (bI (aa (ab 5) ag)) (gU 7 8) oB [.val (bT ns),.val (.int a),.val rows,.own found,.val (.int k),.val (cD row),.own [],s7,s8]=some (.nx [.val (bT ns),.val (.int a),.val rows,.own found,.val (.int k),.val (cD row),.own (o.map PyData.int),t7,t8]):=by
  have hh:hand [5] 0 [Slot.val (bT ns),.val (.int a),.val rows,.own found,.val (.int k),.val (cD row),.own [],s7,s8]=[Slot.val (bT ns),.val (.int a),.val rows,.own found,.val (.int k),.val (cD row),.own [],s7,s8]:=rfl;have hq:bI (aa (ab 5) ag) (bp [Slot.val (bT ns),.val (.int a),.val rows,.own found,.val (.int k),.val (cD row),.own [],s7,s8])=some (bK 0 (row.map PyData.int)):=by
   simp?[bp,zI,yT];simp! [bI,cD]
  simp?[gw,hh,hq,zA];exact e
 have h3:mV 3 [6] (cq fJ (aa (ab 6) ag)) [.val (bT ns),.val (.int a),.val rows,.own found,.val (.int k),.val (cD row),.own (o.map PyData.int),t7,t8]=some (.nx [.val (bT ns),.val (.int a),.val rows,.own (found++[af o]),.val (.int k),.val (cD row),.val (cD o),t7,t8]):=by
  have hz:found.length < sizeLine:=qY hf (by decide);have hh:hand [6] 0 [Slot.val (bT ns),.val (.int a),.val rows,.own found,.val (.int k),.val (cD row),.own (o.map PyData.int),t7,t8]=[Slot.val (bT ns),.val (.int a),.val rows,.own found,.val (.int k),.val (cD row),.val (cD o),t7,t8]:=rfl;simp?[mV,ph,hh,bp,zI,yT];simp! [Aa,yN,pV,hz,yV,yU,cD,af]
 simp?[rB,aD,h1,h2,h3,zA]
def Fw{rws:D}(hl:ns.length<=63):∀ {rows:Γ (Γ Int)}{found:Γ D}{k:Nat}{s4 s5 s6 s7 s8:Slot},(∀r∈rows,r.length<=1000)->found.length+rows.length<=1000 ->
  ∃ (os:Γ (Γ Int)) (t4 t5 t6 t7 t8:Slot),fq (gU 4 5) rB (bK k (rows.map cD)) [.val (bT ns),.val (.int a),.val rws,.own found,s4,s5,s6,s7,s8]=some (.nx [.val (bT ns),.val (.int a),.val rws,.own (found++os.map af),t4,t5,t6,t7,t8])/\sN os rows
 | [],found,k,s4,s5,s6,s7,s8,_,_=>⟨[],s4,s5,s6,s7,s8,by simp[bK,fq],trivial⟩
 | r::rows,found,k,s4,s5,s6,s7,s8,h,hf=>by
  rw[zL] at hf;let⟨o,u7,u8,e1,p1⟩:=O9 (rows:=rws) (a:=a) (k:=((k:Nat):Int)) (s6:=s6) (s7:=s7) (s8:=s8) hl (h r zE) (show found.length<=1000 by lia);let⟨os,t4,t5,t6,t7,t8,e,p⟩:=Fw hl (rws:=rws) (a:=a) (rows:=rows) (found:=found++[af o]) (k:=k+1) (s4:=.val (.int (k:Nat))) (s5:=.val (cD r)) (s6:=.val (cD o)) (s7:=u7) (s8:=u8) (λr' WY=>h r' (zC _ WY)) (by rw[zN,xB];lia);refine⟨o::os,t4,t5,t6,t7,t8,?_,p1,p⟩;have hs:gU 4 5 [.val (bT ns),.val (.int a),.val rws,.own found,s4,s5,s6,s7,s8] (.tuple [.int (k:Nat),cD r])=some [.val (bT ns),.val (.int a),.val rws,.own found,.val (.int (k:Nat)),.val (cD r),s6,s7,s8]:=rfl;simp?[zI,bK,fq,hs,zA,e1];rw[e,List.append_assoc];rfl
def zr(hl:ns.length<=63)(hr:∀r∈rows,r.length<=1000)(hn:rows.length<=1000):∃os:Γ (Γ Int),b8 [bT ns,.int a,.list (rows.map cD)]=some (.list (os.map af))/\sN os rows:=by
 let⟨os,t4,t5,t6,t7,t8,e,p⟩:=Fw hl (rws:=.list (rows.map cD)) (a:=a) (rows:=rows) (found:=[]) (k:=0) (s4:=.Vs) (s5:=.Vs) (s6:=.Vs) (s7:=.Vs) (s8:=.Vs) hr (by simpa using hn);refine⟨os,?_,p⟩;rw[xN] at e;have h1:bw 3 [] (gZ ag) [.val (bT ns),.val (.int a),.val (.list (rows.map cD)),.Vs,.Vs,.Vs,.Vs,.Vs,.Vs]=some (.nx [.val (bT ns),.val (.int a),.val (.list (rows.map cD)),.own [],.Vs,.Vs,.Vs,.Vs,.Vs]):=by
  simp?[bw,nH,gZ,ag,zA,iz,zB,yV,yU]
 have h2:gw [2] (bI (aa (ab 2) ag)) (gU 4 5) rB [.val (bT ns),.val (.int a),.val (.list (rows.map cD)),.own [],.Vs,.Vs,.Vs,.Vs,.Vs]=some (.nx [.val (bT ns),.val (.int a),.val (.list (rows.map cD)),.own (os.map af),t4,t5,t6,t7,t8]):=by
  have hh:hand [2] 0 [Slot.val (bT ns),.val (.int a),.val (.list (rows.map cD)),.own [],.Vs,.Vs,.Vs,.Vs,.Vs]=[Slot.val (bT ns),.val (.int a),.val (.list (rows.map cD)),.own [],.Vs,.Vs,.Vs,.Vs,.Vs]:=rfl;have hq:bI (aa (ab 2) ag) (bp [Slot.val (bT ns),.val (.int a),.val (.list (rows.map cD)),.own [],.Vs,.Vs,.Vs,.Vs,.Vs])=some (bK 0 (rows.map cD)):=by
   simp?[bp,zI,yT];simp! [bI]
  simp?[gw,hh,hq,zA];exact e
 unfold rB oB at h2;simp! [b8,l6,h1,h2]
abbrev Pl:=Int×Γ Int
abbrev Wy:=Int×Int×Int
def bE(p:Pl):D:=.tuple [.int p.1,af p.2]
def az(w:Wy):D:=.tuple [.int w.1,.int w.2.1,.int w.2.2]
def aJ(G T:Γ Pl)(W:Γ Wy):D:=.tuple [.tuple (G.map bE),.tuple (T.map bE),.tuple (W.map az)]
def Cv(W:Γ Wy)(i:Int):Γ Int:=(W.filter λw=>decide (w.1=i)).map λw=>w.2.1
def ofT(W:Γ Wy)(j:Int):Γ Int:=(W.filter λw=>decide (w.2.1=j)).map λw=>w.1
abbrev Fg(W:Γ Wy):Prop:=W.Pairwise λa b=>a.1 < b.1\/(a.1=b.1/\a.2.1 < b.2.1)
structure Wd(G T:List Pl)(W:List Wy):Prop where
 g1:1<=G.length
 g4:G.length<=4
 t1:1<=T.length
 t4:T.length<=4
 ga:∀p∈G,0<=p.1/\p.1<=9
 ta:∀p∈T,0<=p.1/\p.1<=9
 gl:∀ (i:Nat) (p:Pl),G[i]?=some p->p.2.Perm (Cv W i)
 tl:∀ (j:Nat) (p:Pl),T[j]?=some p->p.2.Perm (ofT W j)
 wr:∀w∈W,(0<=w.1/\w.1 < G.length)/\(0<=w.2.1/\w.2.1 < T.length)/\1<=w.2.2/\w.2.2<=9
 wp:Fg W
 wl:W.length<=16
def v5:j∈Cv W i↔[i,j]∈W.map λw=>[w.1,w.2.1]:=by
 simp?[Cv,List.mem_map,List.mem_filter,zJ,kN,and_true];constructor
 ·rintro⟨w,⟨h1,h2⟩,h3⟩;exact⟨w,h1,h2,h3⟩
 ·rintro⟨w,h1,h2,h3⟩;exact⟨w,⟨h1,h2⟩,h3⟩
def wu:i∈ofT W j↔[i,j]∈W.map λw=>[w.1,w.2.1]:=by
 simp?[ofT,List.mem_map,List.mem_filter,zJ,kN,and_true];constructor
 ·rintro⟨w,⟨h1,h2⟩,h3⟩;exact⟨w,h1,h3,h2⟩
 ·rintro⟨w,h1,h2,h3⟩;exact⟨w,⟨h1,h3⟩,h2⟩
def nZ(h:Fg W)(i:Int):(Cv W i).Nodup:=by
 unfold Cv List.Nodup;rw[jD,List.pairwise_filter];refine h.imp λWA ha hb=>?_;rw[zJ] at ha hb;lia
def o6(h:Fg W)(i:Int):(ofT W i).Nodup:=by
 unfold ofT List.Nodup;rw[jD,List.pairwise_filter];refine h.imp λWA ha hb=>?_;rw[zJ] at ha hb;lia
def gf(p:Pl):kq (bE p)=p.2:=by
 show ((p.2.map PyData.int).map lM)=p.2;rw[zM];exact List.map_id _
def pe(ha:0<=p.1/\p.1<=9)(hn:p.2.Nodup)(hr:∀j∈p.2,0<=j/\j < n):placeOk n (bE p)=true:=by
 have e:(p.2.map PyData.int).map lM=p.2:=gf p;have e2:(p.2.map PyData.int).all (whole 0 (n - 1))=true:=by
  rw[xF];intro x hx;let⟨j,hj,rfl⟩:=List.mem_map.mp hx;have:=hr j hj;simp?[whole,zF,zJ];lia
 simp?[placeOk,bE,af,zL,xJ,vT,vU,iI,whole,e,e2,ha.1,ha.2,hn,jO,Bool.and_self]
def DK(h:(0<=w.1/\w.1 < g)/\(0<=w.2.1/\w.2.1 < t)/\1<=w.2.2/\w.2.2<=9):je g t (az w)=true:=by
 let⟨⟨a,b⟩,⟨c,d⟩,e,f⟩:=h;have b':w.1<=g - 1:=by lia
 have d':w.2.1<=t - 1:=by lia
 simp?[je,az,zL,xJ,vT,vU,whole,a,b',c,d',e,f,jO,Bool.and_self]
def T8(h:a < c\/(a=c/\b < d)):Dl.lexLt [a,b] [c,d]=true:=by
 show HT.lexLt [a,b] [c,d]=true;rw[HT.eH];by_cases e:a=c
 ·rw[yK e,HT.eH,yM (by lia)];simp?[zJ];lia
 ·rw[yM e];simp?[zJ];lia
def Wd.ZC(h:Wd G T W)(hp:p∈G):∃i:Nat,i < G.length/\p.2.Perm (Cv W i):=by
 let⟨i,hi,e⟩:=qP hp;exact⟨i,hi,h.gl i p (by rw[zK hi,e])⟩
def Wd.ZD(h:Wd G T W)(hp:p∈T):∃i:Nat,i < T.length/\p.2.Perm (ofT W i):=by
 let⟨i,hi,e⟩:=qP hp;exact⟨i,hi,h.tl i p (by rw[zK hi,e])⟩
def Wd.gok(h:Wd G T W):(G.map bE).all (placeOk T.length)=true:=by
 rw[xF];intro x hx;let⟨p,hp,rfl⟩:=List.mem_map.mp hx;let⟨i,hi,q⟩:=h.ZC hp;refine pe (h.ga p hp) (q.nodup_iff.mpr (nZ h.wp _)) λj hj=>?_;let⟨w,hw,e⟩:=List.mem_map.mp (v5.mp (q.mem_iff.mp hj));injection e with e1 e2
 injection e2 with e2 _
 have:=(h.wr w hw).2.1;rw[e2] at this;exact this
def Wd.tok(h:Wd G T W):(T.map bE).all (placeOk G.length)=true:=by
 rw[xF];intro x hx;let⟨p,hp,rfl⟩:=List.mem_map.mp hx;let⟨i,hi,q⟩:=h.ZD hp;refine pe (h.ta p hp) (q.nodup_iff.mpr (o6 h.wp _)) λj hj=>?_;let⟨w,hw,e⟩:=List.mem_map.mp (wu.mp (q.mem_iff.mp hj));injection e with e1 e2
 have:=(h.wr w hw).1;rw[e1] at this;exact this
def rC{W:Γ Wy}{p:Wy->θ}(h:W.length<=16):(W.filter p).length<=16:=yD (xO _ _) h
def B6(h:p.2.length<=16):ib 16 2 (bE p):=.tup (by simp?[zL,xJ];lia) λx hx=>by
 rcases List.mem_cons.mp hx with rfl|hx
 ·exact iU _
 ·rw[yI] at hx;subst hx;exact u0 h
def Ki(w:Wy):ib 16 1 (az w):=.tup (by simp?[zL,xJ];lia) λx hx=>by
 simp?[zQ,yF,xS] at hx;rcases hx with rfl|rfl|rfl<;>exact iU _
def Wd.fit(h:Wd G T W):ib 16 4 (aJ G T W):=by
 refine .tup (by simp?[zL,xJ];lia) λx hx=>?_;simp?[zQ,yF,xS] at hx;have h4:=h.g4;have h5:=h.t4;have h6:=h.wl;rcases hx with rfl|rfl|rfl
 ·refine .tup (by rw[zD];lia) λx hx=>?_;let⟨p,hp,rfl⟩:=List.mem_map.mp hx;let⟨i,hi,q⟩:=h.ZC hp;exact B6 (by rw[q.length_eq,Cv,zD];exact rC h.wl)
 ·refine .tup (by rw[zD];lia) λx hx=>?_;let⟨p,hp,rfl⟩:=List.mem_map.mp hx;let⟨i,hi,q⟩:=h.ZD hp;exact B6 (by rw[q.length_eq,ofT,zD];exact rC h.wl)
 ·refine .tup (by rw[zD];lia) λx hx=>?_;let⟨p,hp,rfl⟩:=List.mem_map.mp hx;exact (Ki p).mono (yL _) (by decide)
def DH(h0:0<=c)(h9:c<=9):Wd [(c,[0,1]),(c,[1,0])] [(c,[1,0]),(c,[0,1])] [(0,0,2),(0,1,2),(1,0,2),(1,1,2)] where
 g1:=by simp?[zL,xJ];lia
 g4:=by simp?[zL,xJ];lia
 t1:=by simp?[zL,xJ];lia
 t4:=by simp?[zL,xJ];lia
 ga:=by intro p hp;simp?[zQ,yF,xS] at hp;rcases hp with rfl|rfl<;>exact⟨h0,h9⟩
 ta:=by intro p hp;simp?[zQ,yF,xS] at hp;rcases hp with rfl|rfl<;>exact⟨h0,h9⟩
 gl:=by
  intro i p hp
  match i,hp with
  | 0,hp=>injection hp with hp;subst hp;exact (show List.Perm ([0,1]:Γ Int) (Cv [(0,0,2),(0,1,2),(1,0,2),(1,1,2)] ((0:Nat):Int)) by decide)
  | 1,hp=>injection hp with hp;subst hp;exact (show List.Perm ([1,0]:Γ Int) (Cv [(0,0,2),(0,1,2),(1,0,2),(1,1,2)] ((1:Nat):Int)) by decide)
 tl:=by
  intro i p hp
  match i,hp with
  | 0,hp=>injection hp with hp;subst hp;exact (show List.Perm ([1,0]:Γ Int) (ofT [(0,0,2),(0,1,2),(1,0,2),(1,1,2)] ((0:Nat):Int)) by decide)
  | 1,hp=>injection hp with hp;subst hp;exact (show List.Perm ([0,1]:Γ Int) (ofT [(0,0,2),(0,1,2),(1,0,2),(1,1,2)] ((1:Nat):Int)) by decide)
 wr:=show ∀w∈([(0,0,2),(0,1,2),(1,0,2),(1,1,2)]:Γ Wy),(0<=w.1/\w.1 < ((2:Nat):Int))/\(0<=w.2.1/\w.2.1 < ((2:Nat):Int))/\1<=w.2.2/\w.2.2<=9 by decide
 wp:=by decide
 wl:=by decide
def jr(f:Nat->Int):Nat->Γ (Γ Int)->Γ Pl|_,[]=>[]|k,r::rs=>(f k,r)::jr f (k+1) rs
def iw(f:Nat->Int):∀ (rs:Γ (Γ Int)) (k:Nat),(jr f k rs).length=rs.length
 | [],k=>rfl
 | r::rs,k=>by rw[jr,zL,zL,iw f rs]
def hU(f:Nat->Int):∀ {rs:Γ (Γ Int)}{k i:Nat}{p:Pl},(jr f k rs)[i]?=some p->∃r,rs[i]?=some r/\p=(f (k+i),r)
 | [],k,i,p,h=>by simp[jr] at h
 | r::rs,k,0,p,h=>by simp[jr] at h;exact⟨r,rfl,h.symm⟩
 | r::rs,k,i+1,p,h=>by
  simp?[jr,yX] at h;let⟨y,h1,h2⟩:=hU f h;exact⟨y,by simpa using h1,by rw[h2];congr 2;lia⟩
def eI:∀ {a b:Γ (Γ Int)},sN a b->a.length=b.length
 | [],[],_=>rfl
 | x::a,y::b,h=>by rw[zL,zL,eI h.2]
 | [],_::_,h=>h.elim
 | _::_,[],h=>h.elim
def n9:∀ {a b:Γ (Γ Int)}{i:Nat}{r:Γ Int},sN a b->a[i]?=some r->∃s,b[i]?=some s/\r.Perm s
 | [],[],i,r,_,h=>by simp at h
 | x::a,y::b,0,r,h,e=>by
  simp?[xP,yJ] at e;subst e;exact⟨y,rfl,h.1⟩
 | x::a,y::b,i+1,r,h,e=>by
  simp?[yX] at e;let⟨s,h1,h2⟩:=n9 h.2 e;exact⟨s,by simpa using h1,h2⟩
 | [],_::_,i,r,h,_=>h.elim
 | _::_,[],i,r,h,_=>h.elim
def lY(W:Γ Wy)(m:Nat):Γ (Γ Int):=(List.range m).map λi=>Cv W ((i:Nat):Int)
def jf(W:Γ Wy)(m:Nat):Γ (Γ Int):=(List.range m).map λi=>ofT W ((i:Nat):Int)
def JN(m1:1<=m)(m4:m<=4)(s1:1<=s)(s4:s<=4)(hf:∀k,0<=f k/\f k<=9)(hg:∀k,0<=g k/\g k<=9)
  (hm:sN VJ (lY W m)) (hy:sN VV (jf W s)) (wr:∀w∈W,(0<=w.1/\w.1 < m)/\(0<=w.2.1/\w.2.1 < s)/\1<=w.2.2/\w.2.2<=9) (wp:Fg W) (wl:W.length<=16):Wd (jr f 0 VJ) (jr g 0 VV) W:=by
 have lm:(jr f 0 VJ).length=m:=by rw[iw,eI hm,lY,zD,zR]
 have ly:(jr g 0 VV).length=s:=by rw[iw,eI hy,jf,zD,zR]
 have am:∀ {h:Nat->Int}{rs:Γ (Γ Int)},(∀k,0<=h k/\h k<=9)->∀p∈jr h 0 rs,0<=p.1/\p.1<=9:=λ{h rs} hh p hp=>by
  let⟨i,hi⟩:=List.mem_iff_getElem?.mp hp;let⟨r,_,rfl⟩:=hU h hi;exact hh _
 refine⟨by lia,by lia,by lia,by lia,am hf,am hg,λi p hp=>?_,λi p hp=>?_,by rw[lm,ly];exact wr,wp,wl⟩
 ·let⟨r,h1,rfl⟩:=hU f hp;let⟨t,h2,h3⟩:=n9 hm h1;rw[lY,zO] at h2;let⟨k,hk,rfl⟩:=Option.map_eq_some_iff.mp h2;have:k=i:=by
   rw[zT] at hk;let⟨h,e⟩:=hk;rw[List.getElem_range] at e;exact e.symm
  subst this;exact h3
 ·let⟨r,h1,rfl⟩:=hU g hp;let⟨t,h2,h3⟩:=n9 hy h1;rw[jf,zO] at h2;let⟨k,hk,rfl⟩:=Option.map_eq_some_iff.mp h2;have:k=i:=by
   rw[zT] at hk;let⟨h,e⟩:=hk;rw[List.getElem_range] at e;exact e.symm
  subst this;exact h3
def dF{i:Nat}{fz:Γ Nat}{f:Dl.Env->Δ D}{ρ ρ':ao}{d:D}(hf:f (aQ ρ)=some d)(hs:Dl.jq d=false)(hh:hand fz 0 ρ=ρ')(hv:bp ρ'=aQ ρ)(hr:gJ d=false\/ρ'=ρ:=by first|exact .inr rfl|exact .inl rfl):Dl.aS i fz f ρ=some (.nx (ρ'.set i (.val d))):=by
 rcases hr with hr|hr
 ·simp?[Dl.aS,hf,zA,hs,yN,qN,hh,hv,zB,hr]
 ·subst hr;simp?[Dl.aS,hf,zA,hs,yN,qN,hh,hv,zB,ite_self]
def cA{i:Nat}{fz:Γ Nat}{f:Dl.Env->Δ D}{ρ:ao}{d:D}(hf:f (aQ ρ)=some d)(hs:Dl.jq d=true):Dl.aS i fz f ρ=some (.nx (ρ.set i (.val d))):=by
 simp?[Dl.aS,hf,zA,hs,xG]
def Ma(w:Wy):aL (az w) (.int 0)=some (.int w.1):=rfl
def LJ(w:Wy):aL (az w) (.int 1)=some (.int w.2.1):=rfl
def A1(a b c:D):small [a,b,c]=some [a,b,c]:=rfl
def RP{a b s:Int}(hs:s=1\/s=2\/s=3)(h:a < b):a / s < b / s\/(a / s=b / s/\a % s < b % s):=by rcases hs with rfl|rfl|rfl<;>lia
def PQ{k m s:Int}(hs:s=1\/s=2\/s=3)(hm:m=1\/m=2\/m=3)(h0:0<=k)(h:k < m * s):(0<=k / s/\k / s < m)/\0<=k % s/\k % s < s:=by
 rcases hs with rfl|rfl|rfl<;>rcases hm with rfl|rfl|rfl<;>lia
def lB:ao->Δ Out:=(iH (fy (fB (f2 FD (cq cf (aa (ab 7) ag)) (ab 2))) (fB (f2 A4 (ai 3 aj (aa (ab 0) (aa (f2 aH (f2 aH (ab 1) (fC (.int 2))) (ab 8)) (aa (fC (.int 4)) ag)))) (fC (.int 0))))) (mV 7 [0,1,6,8] (aR (aa (f2 mX (ab 8) (ab 6)) (aa (f2 lW (ab 8) (ab 6)) (aa (f2 aH (fC (.int 1)) (ai 3 aj (aa (ab 0) (aa (f2 aH (f2 aH (ab 1) (fC (.int 12))) (ab 8)) (aa (fC (.int 2)) ag))))) ag))))) gV)
abbrev st(ns:Γ Int)(a mo m s:Int)(x4 x7 x8 x9 x10 x11:Slot):ao:=[.val (bT ns),.val (.int a),.val (.int mo),.Vs,x4,.val (.int m),.val (.int s),x7,x8,x9,x10,x11]
def K1(ns:Γ Int)(a mo s k:Int)(W:Γ Wy):Γ Wy:=if (W.length:Int) < mo/\0 < dr ns (a+2+k) 4 then W++[(k / s,k % s,1+dr ns (a+12+k) 2)] else W
def MW{ns:Γ Int}{a mo m s k:Int}{W:Γ Wy}(hl:ns.length<=63)(hs:s=1\/s=2\/s=3)(hw:W.length<=9) :
  lB (st ns a mo m s .Vs (.own (W.map az)) (.val (.int k)) .Vs .Vs .Vs)=some (.nx (st ns a mo m s .Vs (.own ((K1 ns a mo s k W).map az)) (.val (.int k)) .Vs .Vs .Vs)):=by
 have hs0:0 < s:=by lia
 have hz:W.length < sizeLine:=qY hw (by decide);have hd:Dl.mX (.int k) (.int s)=some (.int (k / s)):=j4 ⟨hs0,by lia⟩;have hm:Dl.lW (.int k) (.int s)=some (.int (k % s)):=il hs0;have e4:=uz (ns:=ns) (a+2+k) 4 hl (by decide);have e2:=uz (ns:=ns) (a+12+k) 2 hl (by decide);have hh:hand [0,1,6,8] 0 (st ns a mo m s .Vs (.own (W.map az)) (.val (.int k)) .Vs .Vs .Vs)=st ns a mo m s .Vs (.own (W.map az)) (.val (.int k)) .Vs .Vs .Vs:=rfl;have ha:mV 7 [0,1,6,8] (aR (aa (f2 mX (ab 8) (ab 6)) (aa (f2 lW (ab 8) (ab 6)) (aa (f2 aH (fC (.int 1)) (ai 3 aj (aa (ab 0) (aa (f2 aH (f2 aH (ab 1) (fC (.int 12))) (ab 8)) (aa (fC (.int 2)) ag))))) ag)))) (st ns a mo m s .Vs (.own (W.map az)) (.val (.int k)) .Vs .Vs .Vs)=some (.nx (st ns a mo m s .Vs (.own ((W++[(k / s,k % s,1+dr ns (a+12+k) 2)]).map az)) (.val (.int k)) .Vs .Vs .Vs)):=by
  simp?[mV,ph,hh,bp,zI,yT];simp! [Aa,yN,pV,hd,hm,e2,A1,zD,hz,yV,yU,qZ];rfl
 by_cases c1:(W.length:Int) < mo
 ·by_cases c2:0 < dr ns (a+2+k) 4
  ·rw[show K1 ns a mo s k W=W++[(k / s,k % s,1+dr ns (a+12+k) 2)] from yK ⟨c1,c2⟩,<- ha];simp! [lB,lJ,et,zD,c1,c2,jO,gR,e4]
  ·rw[show K1 ns a mo s k W=W from yM λh=>c2 h.2];simp! [lB,lJ,et,zD,c1,c2,jO,vZ,gR,e4,yN]
 ·rw[show K1 ns a mo s k W=W from yM λh=>c1 h.1];simp! [lB,lJ,et,zD,c1,vZ,gR,yN]
structure Ep(mo s k:Int)(W:List Wy):Prop where
 mem:∀w∈W,∃j:Int,0<=j/\j < k/\w.1=j / s/\w.2.1=j % s/\1<=w.2.2/\w.2.2<=2
 ris:Fg W
 len:(W.length:Int)<=k
 lem:(W.length:Int)<=mo
def Ep.next{ns:Γ Int}{a mo s k:Int}{W:Γ Wy}(hl:ns.length<=63)(hs:s=1\/s=2\/s=3)(hk:0<=k)(h:Ep mo s k W):Ep mo s (k+1) (K1 ns a mo s k W):=by
 have old:∀w∈W,∃j:Int,0<=j/\j < k+1/\w.1=j / s/\w.2.1=j % s/\1<=w.2.2/\w.2.2<=2:=λw hw=>by
  let⟨j,a,b,c⟩:=h.mem w hw;exact⟨j,a,by lia,c⟩
 by_cases c:(W.length:Int) < mo/\0 < dr ns (a+2+k) 4
 ·rw[show K1 ns a mo s k W=W++[(k / s,k % s,1+dr ns (a+12+k) 2)] from yK c];have g1:=Mt (ns:=ns) (a+12+k) 2 hl (by decide);have g2:=Mw (ns:=ns) (a+12+k) 2 hl (by decide);refine⟨λw hw=>?_,?_,?_,?_⟩
  ·rcases List.mem_append.mp hw with hw|hw
   ·exact old w hw
   ·rw[yI] at hw;subst hw;exact⟨k,hk,by lia,rfl,rfl,by simp only;lia,by simp only;lia⟩
  ·refine List.pairwise_append.mpr ⟨h.ris,vB _ _,λa ha b hb=>?_⟩;rw[yI] at hb;subst hb;let⟨j,_,b,c1,c2,_⟩:=h.mem a ha;rw[c1,c2];exact RP hs b
  ·have:=h.len;rw[zN,xB];lia
  ·have:=c.1;rw[zN,xB];lia
 ·rw[show K1 ns a mo s k W=W from yM c];exact⟨old,h.ris,by have:=h.len;lia,h.lem⟩
def FB{ns:Γ Int}{a mo m s:Int}(hl:ns.length<=63)(hs:s=1\/s=2\/s=3):∀ (n k:Nat) {W:Γ Wy}{x8:Slot},k+n<=9->Ep mo s k W ->
  ∃W' t8,fq (oW 8) lB ((List.range' k n).map λi=>PyData.int ((i:Nat):Int)) (st ns a mo m s .Vs (.own (W.map az)) x8 .Vs .Vs .Vs)=some (.nx (st ns a mo m s .Vs (.own (W'.map az)) t8 .Vs .Vs .Vs))/\(n=0/\t8=x8\/∃d,t8=.val d)/\Ep mo s ((k+n:Nat):Int) W'
 | 0,k,W,x8,hk,h=>⟨W,x8,rfl,.inl ⟨rfl,rfl⟩,h⟩
 | n+1,k,W,x8,hk,h=>by
  have h':Ep mo s ((k+1:Nat):Int) (K1 ns a mo s k W):=by
   have:=h.next (ns:=ns) (a:=a) hl hs (by lia)
   rwa [show ((k:Int)+1)=((k+1:Nat):Int) by lia] at this
  let⟨W',t8,e,q,b⟩:=FB hl hs n (k+1) (W:=K1 ns a mo s k W) (x8:=.val (.int (k:Nat))) (by lia) h';refine⟨W',t8,?_,.inr (q.elim (λz=>⟨_,z.2⟩) id),by rw[show k+(n+1)=k+1+n by lia];exact b⟩;have hsg:∀d,oW 8 (st ns a mo m s .Vs (.own (W.map az)) x8 .Vs .Vs .Vs) d=some (st ns a mo m s .Vs (.own (W.map az)) (.val d) .Vs .Vs .Vs):=λd=>rfl;rw[kZ,zI,fq,hsg,zA,MW hl hs (by have:=h.len;lia)];exact e
def UQ(W:Γ Wy)(i:Int)(hw:W.length<=20):ay 1 [0] (cH (ab 1)) (fG 0) (fB (f2 bu (f2 aL (ab 0) (fC (.int 0))) (ab 1))) (f2 aL (ab 0) (fC (.int 1))) [some (.int i),some (.list (W.map az))]=some ((Cv W i).map PyData.int):=by
 rw[mS (ds:=W.map az) (p:=λd=>decide (lM ((cQ d).getD 0 .none)=i)) (h:=λd=>(cQ d).getD 1 .none) rfl (by rw[zD];lia) (λd hd=>?_) λd hd _=>?_]
 ·rw[kA,zM,Cv,zM];rfl
 ·let⟨w,_,rfl⟩:=List.mem_map.mp hd;simp! [Ma,b0,gR];rfl
 ·let⟨w,_,rfl⟩:=List.mem_map.mp hd;simp! [LJ];rfl
def Vf(W:Γ Wy)(i:Int)(hw:W.length<=20):ay 1 [0] (cH (ab 1)) (fG 0) (fB (f2 bu (f2 aL (ab 0) (fC (.int 1))) (ab 1))) (f2 aL (ab 0) (fC (.int 0))) [some (.int i),some (.list (W.map az))]=some ((ofT W i).map PyData.int):=by
 rw[mS (ds:=W.map az) (p:=λd=>decide (lM ((cQ d).getD 1 .none)=i)) (h:=λd=>(cQ d).getD 0 .none) rfl (by rw[zD];lia) (λd hd=>?_) λd hd _=>?_]
 ·rw[kA,zM,ofT,zM];rfl
 ·let⟨w,_,rfl⟩:=List.mem_map.mp hd;simp! [LJ,b0,gR];rfl
 ·let⟨w,_,rfl⟩:=List.mem_map.mp hd;simp! [Ma];rfl
def wy{m:Nat}(hm:m<=1000):pU ((m:Nat):Int)=true:=by
 unfold pU;rw[zF,zJ,zJ];have h1:(0:Int)<=(m:Int):=Int.natCast_nonneg m;have h2:(m:Int)<=1000:=by lia
 exact⟨jS (by decide) h1,Int.lt_of_le_of_lt h2 (by decide)⟩
def xr{j:Int}(h:pU j=true):me [.int j]=some ((List.range j.toNat).map λi=>PyData.int ((i:Nat):Int)):=by
 rw[me,yK h]
def wL{fi:Dl.Env->Δ D}{ρ:Dl.Env}(m:Nat)(hm:m<=1000)(h:fi ρ=some (.int (m:Nat))):bL (aa fi ag) ρ=some ((List.range m).map λi=>PyData.int ((i:Nat):Int)):=by
 have e:aa fi ag ρ=some [.int ((m:Nat):Int)]:=by simp?[aa,ag,h,zA,zB]
 have e2:bL (aa fi ag) ρ=(aa fi ag ρ).bind me:=rfl;rw[e2,e,zA,xr (wy hm),yG]
def Ku{W:Γ Wy}{m:Nat}{ρ:Dl.Env}(hw:W.length<=20)(hm:m<=1000)(h5:ab i5 ρ=some (.int (m:Nat)))(h7:(ρ[i7]?).getD none=some (.list (W.map az))) :
  ay 1 [i7] (bL (aa (ab i5) ag)) (fG 0) (λ_=>some true) (da (ay 1 [0] (cH (ab 1)) (fG 0) (fB (f2 bu (f2 aL (ab 0) (fC (.int 0))) (ab 1))) (f2 aL (ab 0) (fC (.int 1))))) ρ=some ((lY W m).map cD):=by
 rw[cU (h:=λd=>cD (Cv W (lM d))) (wL m hm h5) (by rw[zD,zR];lia) λd hd=>?_]
 ·rw[lY,zM,zM];rfl
 ·let⟨i,_,rfl⟩:=List.mem_map.mp hd;simp?[zI,yT,h7,da,UQ W _ hw,zB,cD,lM]
def KJ{W:Γ Wy}{m:Nat}{ρ:Dl.Env}(hw:W.length<=20)(hm:m<=1000)(h5:ab i5 ρ=some (.int (m:Nat)))(h7:(ρ[i7]?).getD none=some (.list (W.map az))) :
  ay 1 [i7] (bL (aa (ab i5) ag)) (fG 0) (λ_=>some true) (da (ay 1 [0] (cH (ab 1)) (fG 0) (fB (f2 bu (f2 aL (ab 0) (fC (.int 1))) (ab 1))) (f2 aL (ab 0) (fC (.int 0))))) ρ=some ((jf W m).map cD):=by
 rw[cU (h:=λd=>cD (ofT W (lM d))) (wL m hm h5) (by rw[zD,zR];lia) λd hd=>?_]
 ·rw[jf,zM,zM];rfl
 ·let⟨i,_,rfl⟩:=List.mem_map.mp hd;simp?[zI,yT,h7,da,Vf W _ hw,zB,cD,lM]
def Ml(c:Int):Dl.Env->Δ D:=(aR (aa (ai 3 aj (aa (ab 2) (aa (f2 aH (f2 aH (ab 3) (fC (.int c))) (ab 0)) (aa (fC (.int 4)) ag)))) (aa (ab 1) ag)))
def Qm{ns:Γ Int}{a:Int}(c:Int)(hl:ns.length<=63):∀ (VJ:Γ (Γ Int)) (k:Nat),di (jd 0 1) (λ_=>some true) (Ml c) [none,none,some (bT ns),some (.int a)] (bK k (VJ.map af))=some ((jr (λk=>dr ns (a+c+((k:Nat):Int)) 4) k VJ).map bE)
 | [],k=>rfl
 | r::VJ,k=>by
  have hg:jd 0 1 [none,none,some (bT ns),some (.int a)] (.tuple [.int ((k:Nat):Int),af r])=some [some (.int ((k:Nat):Int)),some (af r),some (bT ns),some (.int a)]:=rfl;have he:Ml c [some (.int ((k:Nat):Int)),some (af r),some (bT ns),some (.int a)]=some (bE (dr ns (a+c+((k:Nat):Int)) 4,r)):=by
   simp! [Ml,uz (ns:=ns) (a+c+((k:Nat):Int)) 4 hl (by decide),Bp,bE]
  have ih:=Qm (a:=a) c hl VJ (k+1);rw[zI,bK,di,hg];simp?[zA,xG,he,ih,zB,jr,zI]
def yh{ns:Γ Int}{a c:Int}{i9:Nat}{ρ:Dl.Env}{VJ:Γ (Γ Int)}(hl:ns.length<=63)(hm:VJ.length<=1000)(h9:ab i9 ρ=some (.list (VJ.map af)))(h0:(ρ[0]?).getD none=some (bT ns))(h1:(ρ[1]?).getD none=some (.int a)) :
  cq fJ (aa (da (ay 2 [0,1] (bI (aa (ab i9) ag)) (jd 0 1) (λ_=>some true) (Ml c))) ag) ρ=some (.tuple ((jr (λk=>dr ns (a+c+((k:Nat):Int)) 4) 0 VJ).map bE)):=by
 have hi:bI (aa (ab i9) ag) ρ=some (bK 0 (VJ.map af)):=by
  simp?[bI,aa,ag,h9,zA,zB,eD,oneOf,gO]
 have hc:ay 2 [0,1] (bI (aa (ab i9) ag)) (jd 0 1) (λ_=>some true) (Ml c) ρ=some ((jr (λk=>dr ns (a+c+((k:Nat):Int)) 4) 0 VJ).map bE):=by
  simp?[ay,hi,zA,fE,zI,yT,h0,h1,List.replicate,xE,xN,Qm c hl];exact bX (by rw[zD,iw];lia)
 simp?[cq,aa,ag,da,hc,zB,zA,fJ,eD,oneOf,gO]
def av{g1 g2:ao->Δ Out}{ρ ρ':ao}(h:g1 ρ=some (.nx ρ')):aD g1 g2 ρ=g2 ρ':=by
 simp?[aD,h,zA]
def Ka{g1 g2:ao->Δ Out}{ρ:ao}{d:D}(h:g1 ρ=some (.rt d)):aD g1 g2 ρ=some (.rt d):=by
 simp?[aD,h,zA]
def bz{g:ao->Δ Out}{n:Nat}{args:Γ D}{d:D}(h:g (args.map Slot.val++List.replicate (n - args.length) .Vs)=some (.rt d)):bN g n args=some d:=by
 simp?[bN,h,zB]
def iy{g:D->D->Δ D}{fa fb:Dl.Env->Δ D}{ρ:Dl.Env}{a b:D}(ha:fa ρ=some a)(hb:fb ρ=some b):f2 g fa fb ρ=g a b:=by
 simp?[f2,ha,hb,zA]
def MJ{ns:Γ Int}{a mo:Int}{m s:Nat}(m1:m<=3)(s1:s<=3):f2 dX (ab 5) (ab 6) (bp (st ns a mo m s .Vs (.own []) .Vs .Vs .Vs .Vs))=some (.int ((m * s:Nat):Int)):=by
 have h:Dl.dX (.int (m:Int)) (.int (s:Int))=some (.int ((m:Int) * (s:Int))):=dg (iL (by lia));rw[iy (a:=.int (m:Int)) (b:=.int (s:Int)) rfl rfl,h,Int.natCast_mul]
def Pw{ns:Γ Int}{a mo:Int}{m s:Nat}(m1:m<=3)(s1:s<=3)(hms:m * s<=9){W:Γ Wy}{t8:Slot}(e: fq (oW 8) lB ((List.range' 0 (m * s)).map λi=>PyData.int ((i:Nat):Int)) (st ns a mo m s .Vs (.own (([]:Γ Wy).map az)) .Vs .Vs .Vs .Vs)=some (.nx (st ns a mo m s .Vs (.own (W.map az)) t8 .Vs .Vs .Vs))):gw [5,6] (bL (aa (f2 dX (ab 5) (ab 6)) ag)) (oW 8) lB (st ns a mo m s .Vs (.own []) .Vs .Vs .Vs .Vs)=some (.nx (st ns a mo m s .Vs (.own (W.map az)) t8 .Vs .Vs .Vs)):=by
 have hh:hand [5,6] 0 (st ns a mo m s .Vs (.own []) .Vs .Vs .Vs .Vs)=st ns a mo m s .Vs (.own []) .Vs .Vs .Vs .Vs:=rfl;have hr:=wL (fi:=f2 dX (ab 5) (ab 6)) (ρ:=bp (st ns a mo m s .Vs (.own []) .Vs .Vs .Vs .Vs)) (m * s) (by lia) (MJ m1 s1);rw[List.range_eq_range'] at hr;rw[yT] at e;simp?[gw,hh,hr,zA];exact e
structure Tc(mo:Int)(G T:List Pl)(W:List Wy):Prop where
 g3:G.length<=3
 t3:T.length<=3
 w2:∀w∈W,w.2.2<=2
 ga:∀p∈G,p.1<=3
 ta:∀p∈T,p.1<=3
 wm:(W.length:Int)<=mo
def wQ{ns:Γ Int}{a mo:Int}(hl:ns.length<=63)(hmo:3 < mo)(c:dr ns (a+64) 4=0):∃G T W,cW [bT ns,.int a,.int mo]=some (aJ G T W)/\Wd G T W/\Tc mo G T W:=by
 have e64:=uz (ns:=ns) (a+64) 4 hl (by decide);have e65:=dz (ns:=ns) (a+65) 2 hl (by decide);refine⟨_,_,_,?_,DH (c:=1+dr ns (a+65) 2) (by lia) (by lia),⟨by simp,by simp,by decide,λp hp=>?_,λp hp=>?_,by simp;lia⟩⟩;rotate_left
 ·simp?[zQ,yF,xS] at hp;rcases hp with rfl|rfl<;>(simp only;lia)
 ·simp?[zQ,yF,xS] at hp;rcases hp with rfl|rfl<;>(simp only;lia)
 have s1:Dl.aS 3 [0,1] (f2 aH (fC (.int 1)) (ai 3 aj (aa (ab 0) (aa (f2 aH (ab 1) (fC (.int 65))) (aa (fC (.int 2)) ag))))) [.val (bT ns),.val (.int a),.val (.int mo),.Vs,.Vs,.Vs,.Vs,.Vs,.Vs,.Vs,.Vs,.Vs]=some (.nx [.val (bT ns),.val (.int a),.val (.int mo),.val (.int (1+dr ns (a+65) 2)),.Vs,.Vs,.Vs,.Vs,.Vs,.Vs,.Vs,.Vs]) :=
  cA (d:=.int (1+dr ns (a+65) 2)) (by simp! [e65.1]) rfl
 generalize 1+dr ns (a+65) 2=x at *;have s2:Dl.aS 4 [3] (aR (aa (aR (aa (ab 3) (aa (aR (aa (fC (.int 1)) (aa (fC (.int 0)) ag))) ag))) (aa (aR (aa (ab 3) (aa (aR (aa (fC (.int 0)) (aa (fC (.int 1)) ag))) ag))) ag))) [.val (bT ns),.val (.int a),.val (.int mo),.val (.int x),.Vs,.Vs,.Vs,.Vs,.Vs,.Vs,.Vs,.Vs]=some (.nx [.val (bT ns),.val (.int a),.val (.int mo),.val (.int x),.val (.tuple [bE (x,[1,0]),bE (x,[0,1])]),.Vs,.Vs,.Vs,.Vs,.Vs,.Vs,.Vs]) :=
  dF (d:=.tuple [bE (x,[1,0]),bE (x,[0,1])]) (by simp! [Bp];rfl) rfl rfl rfl
 simp! [cW,fV,et,e64,c,b0,jO,gR,show decide ((3:Int) < mo)=true from yA hmo,s1,s2,Bp,A1,show ∀a b c d:D,small [a,b,c,d]=some [a,b,c,d] fromλ_ _ _ _=>rfl];rfl
def wR{ns:Γ Int}{a mo:Int}(hl:ns.length<=63)(hm0:0<=mo)(c:¬ (3 < mo/\dr ns (a+64) 4=0)):∃G T W,cW [bT ns,.int a,.int mo]=some (aJ G T W)/\Wd G T W/\Tc mo G T W:=by
 have e64:=uz (ns:=ns) (a+64) 4 hl (by decide);have em:=dz (ns:=ns) a 3 hl (by decide);have es:=dz (ns:=ns) (a+1) 3 hl (by decide);let⟨m,hm⟩:=vC (show 0<=1+dr ns a 3 by lia);let⟨s,hs⟩:=vC (show 0<=1+dr ns (a+1) 3 by lia);have m1:1<=m/\m<=3:=by lia
 have s1:1<=s/\s<=3:=by lia
 have WZ:(s:Int)=1\/(s:Int)=2\/(s:Int)=3:=by lia
 have Wo:(m:Int)=1\/(m:Int)=2\/(m:Int)=3:=by lia
 have t5:Dl.aS 5 [0,1] (f2 aH (fC (.int 1)) (ai 3 aj (aa (ab 0) (aa (ab 1) (aa (fC (.int 3)) ag))))) [.val (bT ns),.val (.int a),.val (.int mo),.Vs,.Vs,.Vs,.Vs,.Vs,.Vs,.Vs,.Vs,.Vs]=some (.nx [.val (bT ns),.val (.int a),.val (.int mo),.Vs,.Vs,.val (.int (m:Nat)),.Vs,.Vs,.Vs,.Vs,.Vs,.Vs]) :=
  cA (d:=.int (m:Nat)) (by simp! [em.1,hm]) rfl
 have t6:Dl.aS 6 [0,1] (f2 aH (fC (.int 1)) (ai 3 aj (aa (ab 0) (aa (f2 aH (ab 1) (fC (.int 1))) (aa (fC (.int 3)) ag))))) [.val (bT ns),.val (.int a),.val (.int mo),.Vs,.Vs,.val (.int (m:Nat)),.Vs,.Vs,.Vs,.Vs,.Vs,.Vs]=some (.nx (st ns a mo m s .Vs .Vs .Vs .Vs .Vs .Vs)) :=
  cA (d:=.int (s:Nat)) (by simp! [es.1,hs]) rfl
 have t7:bw 7 [] (gZ ag) (st ns a mo m s .Vs .Vs .Vs .Vs .Vs .Vs)=some (.nx (st ns a mo m s .Vs (.own []) .Vs .Vs .Vs .Vs)):=by
  simp?[bw,nH,gZ,ag,zA,iz,zB,yV,yU]
 have hms:m * s<=9:=vQ m1.2 s1.2;have ah8:1<=m * s:=vQ m1.1 s1.1;let⟨W,t8,e,h8,I⟩:=FB (ns:=ns) (a:=a) (m:=m) (s:=s) hl WZ (m * s) 0 (W:=[]) (x8:=.Vs) (by lia) (mo:=mo) ⟨λw hw=>(by cases hw),List.Pairwise.nil,by decide,hm0⟩;rw[jC] at I;obtain⟨d8,rfl⟩:∃d,t8=.val d:=h8.elim (λz=>by lia) id;have agr:W.length<=9:=by have:=I.len;lia
 have tf:=Pw m1.2 s1.2 hms e;unfold lB at tf;have Yg:W.length<=20:=by lia
 have wr:∀w∈W,(0<=w.1/\w.1 < m)/\(0<=w.2.1/\w.2.1 < s)/\1<=w.2.2/\w.2.2<=9:=λw hw=>by
  let⟨j,j0,jk,ea,b,c1,c2⟩:=I.mem w hw;have:=PQ WZ Wo j0 (by rw[<- Int.natCast_mul];exact jk);rw[ea,b];exact⟨this.1,this.2,c1,by lia⟩
 have afm:∀r∈lY W m,r.length<=1000:=λr hr=>by
  let⟨i,_,rfl⟩:=List.mem_map.mp hr;rw[Cv,zD];exact yD (xO _ _) (by lia)
 have afn:∀r∈jf W s,r.length<=1000:=λr hr=>by
  let⟨i,_,rfl⟩:=List.mem_map.mp hr;rw[ofT,zD];exact yD (xO _ _) (by lia)
 let⟨VJ,om,pm⟩:=zr (ns:=ns) (a:=a+24) (rows:=lY W m) hl afm (by rw[lY,zD,zR];lia);let⟨VV,oy,py⟩:=zr (ns:=ns) (a:=a+40) (rows:=jf W s) hl afn (by rw[jf,zD,zR];lia);have lm:VJ.length<=1000:=by rw[eI pm,lY,zD,zR];lia
 have ly:VV.length<=1000:=by rw[eI py,jf,zD,zR];lia
 have t9:Dl.aS 9 [0,1,5,7] (ai 3 b8 (aa (ab 0) (aa (f2 aH (ab 1) (fC (.int 24))) (aa (da (ay 1 [7] (bL (aa (ab 5) ag)) (fG 0) (λ_=>some true) (da (ay 1 [0] (cH (ab 1)) (fG 0) (fB (f2 bu (f2 aL (ab 0) (fC (.int 0))) (ab 1))) (f2 aL (ab 0) (fC (.int 1))))))) ag)))) (st ns a mo m s .Vs (.own (W.map az)) (.val d8) .Vs .Vs .Vs)=some (.nx (st ns a mo m s .Vs (.val (.list (W.map az))) (.val d8) (.val (.list (VJ.map af))) .Vs .Vs)):=by
  refine (dF (ρ':=st ns a mo m s .Vs (.val (.list (W.map az))) (.val d8) .Vs .Vs .Vs) (d:=.list (VJ.map af)) ?_ rfl rfl ?_).trans rfl
  ·have q:=Ku (ρ:=aQ (st ns a mo m s .Vs (.own (W.map az)) (.val d8) .Vs .Vs .Vs)) (i5:=5) (i7:=7) Yg (show m<=1000 by lia) rfl rfl;simp?[ai,aa,ag,da,q,zB,zA];simp! [om]
  ·simp?[st,bp,aQ,zI,yT];rfl
 have t10:Dl.aS 10 [0,1,6,7] (ai 3 b8 (aa (ab 0) (aa (f2 aH (ab 1) (fC (.int 40))) (aa (da (ay 1 [7] (bL (aa (ab 6) ag)) (fG 0) (λ_=>some true) (da (ay 1 [0] (cH (ab 1)) (fG 0) (fB (f2 bu (f2 aL (ab 0) (fC (.int 1))) (ab 1))) (f2 aL (ab 0) (fC (.int 0))))))) ag)))) (st ns a mo m s .Vs (.val (.list (W.map az))) (.val d8) (.val (.list (VJ.map af))) .Vs .Vs)=some (.nx (st ns a mo m s .Vs (.val (.list (W.map az))) (.val d8) (.val (.list (VJ.map af))) (.val (.list (VV.map af))) .Vs)):=by
  refine (dF (ρ':=st ns a mo m s .Vs (.val (.list (W.map az))) (.val d8) (.val (.list (VJ.map af))) .Vs .Vs) (d:=.list (VV.map af)) ?_ rfl ?_ ?_).trans rfl
  ·have q:=KJ (ρ:=aQ (st ns a mo m s .Vs (.val (.list (W.map az))) (.val d8) (.val (.list (VJ.map af))) .Vs .Vs)) (i5:=6) (i7:=7) Yg (show s<=1000 by lia) rfl rfl;simp?[ai,aa,ag,da,q,zB,zA];simp! [oy]
  ·rfl
  ·simp?[st,bp,aQ,zI,yT];rfl
 have t11:Dl.aS 11 [0,1,8,9] (cq fJ (aa (da (ay 2 [0,1] (bI (aa (ab 9) ag)) (jd 0 1) (λ_=>some true) (Ml 56))) ag)) (st ns a mo m s .Vs (.val (.list (W.map az))) (.val d8) (.val (.list (VJ.map af))) (.val (.list (VV.map af))) .Vs)=some (.nx (st ns a mo m s .Vs (.val (.list (W.map az))) (.val d8) (.val (.list (VJ.map af))) (.val (.list (VV.map af))) (.val (.tuple ((jr (λk=>dr ns (a+56+((k:Nat):Int)) 4) 0 VJ).map bE))))):=by
  refine (dF (ρ':=st ns a mo m s .Vs (.val (.list (W.map az))) (.val d8) (.val (.list (VJ.map af))) (.val (.list (VV.map af))) .Vs) (yh hl lm rfl rfl rfl) rfl rfl ?_).trans rfl;simp?[st,bp,aQ,zI,yT];rfl
 have t4:∀G:D,Dl.aS 4 [0,1,8,10] (cq fJ (aa (da (ay 2 [0,1] (bI (aa (ab 10) ag)) (jd 0 1) (λ_=>some true) (Ml 60))) ag)) (st ns a mo m s .Vs (.val (.list (W.map az))) (.val d8) (.val (.list (VJ.map af))) (.val (.list (VV.map af))) (.val G))=some (.nx (st ns a mo m s (.val (.tuple ((jr (λk=>dr ns (a+60+((k:Nat):Int)) 4) 0 VV).map bE))) (.val (.list (W.map az))) (.val d8) (.val (.list (VJ.map af))) (.val (.list (VV.map af))) (.val G))):=λG=>by
  refine (dF (ρ':=st ns a mo m s .Vs (.val (.list (W.map az))) (.val d8) (.val (.list (VJ.map af))) (.val (.list (VV.map af))) (.val G)) (yh hl ly rfl rfl rfl) rfl rfl ?_).trans rfl;simp?[st,bp,aQ,zI,yT];rfl
 refine⟨_,_,W,?_,JN (f:=λk=>dr ns (a+56+((k:Nat):Int)) 4) (g:=λk=>dr ns (a+60+((k:Nat):Int)) 4) m1.1 (by lia) s1.1 (by lia) (λk=>?_) (λk=>?_) pm py wr I.ris (by lia),⟨by rw[iw,eI pm,lY,zD,zR];lia,by rw[iw,eI py,jf,zD,zR];lia,λw hw=>(by let⟨j,_,_,_,_,_,z⟩:=I.mem w hw;exact z),λp hp=>?_,λp hp=>?_,I.lem⟩⟩
 ·unfold Ml at t11 t4;have tA:∀g,iH (fy (fB (f2 A4 (ab 2) (fC (.int 3)))) (fB (f2 bu (ai 3 aj (aa (ab 0) (aa (f2 aH (ab 1) (fC (.int 64))) (aa (fC (.int 4)) ag)))) (fC (.int 0))))) g gV [.val (bT ns),.val (.int a),.val (.int mo),.Vs,.Vs,.Vs,.Vs,.Vs,.Vs,.Vs,.Vs,.Vs]=some (.nx [.val (bT ns),.val (.int a),.val (.int mo),.Vs,.Vs,.Vs,.Vs,.Vs,.Vs,.Vs,.Vs,.Vs]):=λg=>by
   by_cases c1:3 < mo
   ·have c2:¬ dr ns (a+64) 4=0:=λz=>c ⟨c1,z⟩;simp! [et,e64,c1,c2,b0,vZ,jO,gR,yN]
   ·simp! [et,c1,vZ,gR,yN]
  refine bz ?_;show fV [.val (bT ns),.val (.int a),.val (.int mo),.Vs,.Vs,.Vs,.Vs,.Vs,.Vs,.Vs,.Vs,.Vs]=_;unfold fV;rw[av (tA _),av t5,av t6,av t7,av tf,av t9,av t10,av t11,av (t4 _)];simp! [A1,aJ]
 ·have q:=dz (ns:=ns) (a+56+((k:Nat):Int)) 4 hl (by decide);exact⟨q.2.1,by lia⟩
 ·have q:=dz (ns:=ns) (a+60+((k:Nat):Int)) 4 hl (by decide);exact⟨q.2.1,by lia⟩
 ·let⟨i,hi⟩:=List.getElem?_of_mem hp;let⟨r,_,rfl⟩:=hU _ hi;have q:=dz (ns:=ns) (a+56+((0+i:Nat):Int)) 4 hl (by decide);simp only;lia
 ·let⟨i,hi⟩:=List.getElem?_of_mem hp;let⟨r,_,rfl⟩:=hU _ hi;have q:=dz (ns:=ns) (a+60+((0+i:Nat):Int)) 4 hl (by decide);simp only;lia
def yy{ns:Γ Int}{a mo:Int}(hl:ns.length<=63)(hm0:0<=mo):∃G T W,cW [bT ns,.int a,.int mo]=some (aJ G T W)/\Wd G T W/\Tc mo G T W:=by
 by_cases c:3 < mo/\dr ns (a+64) 4=0
 ·exact wQ hl c.1 c.2
 ·exact wR hl hm0 c
def Mj(h:Fg W):(W.map λw=>[w.1,w.2.1]).Pairwise λa b=>Dl.lexLt a b=true:=List.pairwise_map.mpr (h.imp λWA=>T8 WA)
def He(h:Fg W):(W.map λw=>[w.1,w.2.1]).Nodup:=(Mj h).imp λ{a b} WA e=>by
 rw[e,gx] at WA;cases WA
def Hf(h:Fg W)(hn:m.Nodup)(hm:∀r,r∈W.map (λw=>[w.1,w.2.1])↔r∈m):W.map (λw=>[w.1,w.2.1])=sQ m :=
 GN ((List.perm_ext_iff_of_nodup (He h) hn).mpr hm) ((Mj h).imp λWA=>Ri WA)
def Wd.wok(h:Wd G T W):SE (aJ G T W)=true:=by
 have hP:(W.map az).map fP=W.map λw=>[w.1,w.2.1]:=by rw[zM];rfl
 have hpg:∀i j:Int,[i,j]∈W.map (λw=>[w.1,w.2.1])↔[i,j]∈mQ 0 (G.map bE):=λi j=>by
  rw[qf];constructor
  ·intro hm;let⟨w,hw,e⟩:=List.mem_map.mp hm;simp?[kN,and_true] at e;have hr:=(h.wr w hw).1;obtain⟨p,hp⟩:∃p,G[i.toNat]?=some p:=⟨G[i.toNat]'(by lia),zK (by lia)⟩
   refine⟨i.toNat,bE p,by rw[zO,hp];rfl,by lia,?_⟩;rw[gf,(h.gl _ p hp).mem_iff,v5,show ((i.toNat:Nat):Int)=i by lia];exact hm
  ·rintro⟨m,p,hp,rfl,hj⟩;rw[zO] at hp;let⟨p',YV,rfl⟩:=Option.map_eq_some_iff.mp hp;rw[gf,(h.gl m p' YV).mem_iff,v5] at hj
   rwa [jC]
 have hpt:∀i j:Int,[i,j]∈W.map (λw=>[w.1,w.2.1])↔[j,i]∈mQ 0 (T.map bE):=λi j=>by
  rw[qf];constructor
  ·intro hm;let⟨w,hw,e⟩:=List.mem_map.mp hm;simp?[kN,and_true] at e;have hr:=(h.wr w hw).2.1;obtain⟨p,hp⟩:∃p,T[j.toNat]?=some p:=⟨T[j.toNat]'(by lia),zK (by lia)⟩
   refine⟨j.toNat,bE p,by rw[zO,hp];rfl,by lia,?_⟩;rw[gf,(h.tl _ p hp).mem_iff,wu,show ((j.toNat:Nat):Int)=j by lia];exact hm
  ·rintro⟨m,p,hp,rfl,hj⟩;rw[zO] at hp;let⟨p',YV,rfl⟩:=Option.map_eq_some_iff.mp hp;rw[gf,(h.tl m p' YV).mem_iff,wu] at hj
   rwa [jC]
 have two:∀ {r:Γ Int},r∈W.map (λw=>[w.1,w.2.1])->∃i j,r=[i,j]:=λhr=>by
  let⟨w,_,rfl⟩:=List.mem_map.mp hr;exact⟨_,_,rfl⟩
 have ng:∀ (L:Γ Pl),(∀p∈L,p.2.Nodup)->(mQ 0 (L.map bE)).Nodup:=λL hL=>tU λp hp=>by
  let⟨p',YV,rfl⟩:=List.mem_map.mp hp;rw[gf];exact hL p' YV
 have e1:W.map (λw=>[w.1,w.2.1])=sQ (mQ 0 (G.map bE)):=Hf h.wp (ng G λp hp=>by
   let⟨i,hi,e⟩:=qP hp;exact (h.gl i p (by rw[zK hi,e])).nodup_iff.mpr (nZ h.wp i)) λr=>⟨λhr=>by
   let⟨i,j,rfl⟩:=two hr;exact (hpg i j).mp hr,λhr=>by
   let⟨i,j,rfl⟩:=lO r hr;exact (hpg i j).mpr hr⟩
 have e2:W.map (λw=>[w.1,w.2.1])=sQ ((mQ 0 (T.map bE)).map List.reverse):=Hf h.wp (by
   exact List.pairwise_map.mpr (List.Pairwise.imp (λ{a b} Wi e=>Wi (List.reverse_inj.mp e)) (ng T λp hp=>by
    let⟨i,hi,e⟩:=qP hp;exact (h.tl i p (by rw[zK hi,e])).nodup_iff.mpr (o6 h.wp i)))) λr=>⟨λhr=>by
   let⟨i,j,rfl⟩:=two hr;exact List.mem_map.mpr ⟨[j,i],(hpt i j).mp hr,rfl⟩,λhr=>by
   let⟨r',WY,rfl⟩:=List.mem_map.mp hr;let⟨i,j,rfl⟩:=lO r' WY;exact (hpt j i).mpr WY⟩
 have hw:(W.map az).all (je G.length T.length)=true:=by
  rw[xF];intro x hx;let⟨w,hw,rfl⟩:=List.mem_map.mp hx;exact DK (h.wr w hw)
 have hs:∀ {L:Γ Pl},1<=L.length->L.length<=4->oq (.tuple (L.map bE))=true:=λ{L} a b=>by
  simp?[oq,long,zD,zF,zJ];lia
 have h3:long 3 3 (aJ G T W)=true:=rfl;have hg:=h.gok;have ht:=h.tok;unfold SE Av;rw[h3,jJ];simp?[aJ,cQ,vT,vU,hP,<- e1,<- e2,jO,Bool.and_true,i8,hs h.g1 h.g4,hs h.t1 h.t4,zD,hg,ht,hw,Mx]
def sI(b:θ):Int:=if b then 1 else 0
def aU(b:θ)(w:Wy):Int:=if b then w.2.1 else w.1
def bG(b:θ)(w:Wy):Int:=aU (!b) w
def br(b:θ)(G T:Γ Pl):Γ Pl:=if b then T else G
def mZ(b:θ)(G T:Γ Pl)(W:Γ Wy):aL (aJ G T W) (.int (sI b))=some (.tuple ((br b G T).map bE)):=by cases b<;>rfl
def BN(G T:Γ Pl)(W:Γ Wy):aL (aJ G T W) (.int 2)=some (.tuple (W.map az)):=rfl
def lG(b:θ)(w:Wy):aL (az w) (.int (sI b))=some (.int (aU b w)):=by cases b<;>rfl
def LC(b:θ)(w:Wy):aL (az w) (.int (1 - sI b))=some (.int (bG b w)):=by cases b<;>rfl
def Lp(w:Wy):aL (az w) (.int 2)=some (.int w.2.2):=rfl
def Kl(p:Pl):aL (bE p) (.int 1)=some (af p.2):=rfl
def wq(h:ds[i]?=some d):aL (.tuple ds) (.int ((i:Nat):Int))=some d:=by
 show sV ds (i:Nat)=_;exact wJ h
def Nq(h:ds[i]?=some d):aL (.list ds) (.int ((i:Nat):Int))=some d:=by
 show sV ds (i:Nat)=_;exact wJ h
def ka{l:Γ α}(h:l[i]?=some x):aL (.tuple (l.map f)) (.int ((i:Nat):Int))=some (f x):=wq (by rw[zO,h];rfl)
def uP{l:Γ α}(h:l[i]?=some x):aL (.list (l.map f)) (.int ((i:Nat):Int))=some (f x):=Nq (by rw[zO,h];rfl)
def R8(b:θ)(W:Γ Wy)(p:Int):Γ Int:=(W.filter λw=>decide (aU b w=p)).map (bG b)
def Wd.lik{G T:Γ Pl}{W:Γ Wy}(h:Wd G T W){b:θ}{i:Nat}{p:Pl}(e:(br b G T)[i]?=some p):p.2.Perm (R8 b W i):=by
 cases b
 ·exact h.gl i p e
 ·exact h.tl i p e
def Wd.nod(h:Wd G T W)(b:θ)(i:Int):(R8 b W i).Nodup:=by
 cases b
 ·exact nZ h.wp i
 ·exact o6 h.wp i
def sv{tt:Dl.Env->Δ θ}{te:Dl.Env->Δ D}{r:Γ (Δ D)}{p:Nat->D->θ}{h:Nat->D->D}:∀ {ds:Γ D}{k:Nat},
  (∀i d,ds[i]?=some d->tt (some (.int ((k+i:Nat):Int))::some d::r)=some (p (k+i) d)/\(p (k+i) d=true->te (some (.int ((k+i:Nat):Int))::some d::r)=some (h (k+i) d))) ->
  di (jd 0 1) tt te (none::none::r) (bK k ds)=some (((ds.zipIdx k).filter λq=>p q.2 q.1).map λq=>h q.2 q.1)
 | [],k,_=>rfl
 | d::ds,k,hh=>by
  let⟨h1,h2⟩:=hh 0 d rfl;have ih:=sv (ds:=ds) (k:=k+1) λi x hx=>by
   have:=hh (i+1) x (by simpa using hx);rw[show k+1+i=k+(i+1) by lia];exact this
  have hg:jd 0 1 (none::none::r) (.tuple [.int ((k:Nat):Int),d])=some (some (.int ((k:Nat):Int))::some d::r):=by
   simp?[jd,isFree,xP,yX,qF,Option.isNone_none,jN,xG,yU,yV]
  rw[bK,di,hg,List.zipIdx_cons];simp?[Nat.add_zero] at h1 h2;simp?[zA,h1];cases hp:p k d with
  | true=>simp[h2 hp,ih,hp]
  | false=>simp[ih,hp]
def Ey{fi:Dl.Env->Δ (Γ D)}{tt:Dl.Env->Δ θ}{te:Dl.Env->Δ D}{ρ:Dl.Env}{ds:Γ D}{p:Nat->D->θ}{h:Nat->D->D}(WG:fi ρ=some (bK 0 ds))(hl:ds.length<=1000)
  (hh:∀i d,ds[i]?=some d->tt (some (.int ((i:Nat):Int))::some d::cs.map λj=>(ρ[j]?).getD none)=some (p i d)/\(p i d=true->te (some (.int ((i:Nat):Int))::some d::cs.map λj=>(ρ[j]?).getD none)=some (h i d))) :
  ay 2 cs fi (jd 0 1) tt te ρ=some ((ds.zipIdx.filter λq=>p q.2 q.1).map λq=>h q.2 q.1):=by
 have:=sv (tt:=tt) (te:=te) (r:=cs.map λj=>(ρ[j]?).getD none) (p:=p) (h:=h) (ds:=ds) (k:=0) (by simpa using hh);simp?[ay,WG,zA,fE,List.replicate,xE,xN,this];refine bX ?_;rw[zD];refine yD (xO _ _) ?_;rw[List.length_zipIdx];lia
def l5(f:α->Int):∀ {l m:Γ α},l.Perm m->(l.Pairwise λa b=>f a<=f b)->(m.Pairwise λa b=>f a < f b)->l=m
 | l,[],hp,_,_=>hp.eq_nil
 | [],x::m,hp,_,_=>absurd hp.symm.eq_nil (by simp)
 | y::l,x::m,hp,h1,h2=>by
  rw[List.pairwise_cons] at h1 h2;have e:y=x:=by
   have hx:x∈y::l:=hp.mem_iff.mpr zE;rcases List.mem_cons.mp hx with z|hx
   ·exact z.symm
   ·have hy:y∈x::m:=hp.mem_iff.mp zE;rcases List.mem_cons.mp hy with z|hy
    ·exact z
    ·have:=h1.1 x hx;have:=h2.1 y hy;lia
  subst e;rw[l5 f ((List.perm_cons y).mp hp) h1.2 h2.2]
def Bh(z:Nat->Int)(l:Γ α)(d:α)(f:α->Int)(h:∀i,i < l.length->z i=f (l.getD i d)):(xf z l d).Pairwise λa b=>f a<=f b:=by
 unfold xf;split
 ·rename_i hl
  match l,hl with
  | [],_=>exact List.Pairwise.nil
  | [a],_=>exact vB _ _
 ·rename_i hl;let⟨hp,hs⟩:=SP.iX (z:=z) (n:=l.length) (by lia);rw[jD] at hs ⊢;refine hs.imp_of_mem λ{i j} hi hj Vy=>?_;have Wv:i < l.length:=by have:=hp.mem_iff.mp hi;simpa using this
  have YE:j < l.length:=by have:=hp.mem_iff.mp hj;simpa using this
  rw[<- h i Wv,<- h j YE];exact Vy
def aK(W:Γ Wy)(i:Nat):Wy:=W.getD i (0,0,0)
def my(hk:k < W.length):W[k]=aK W k:=by simp[aK,hk]
def p5(hk:k < W.length):W[k]?=some (aK W k):=by rw[zK hk,my hk]
def own(b:θ)(W:Γ Wy)(p:Int):Γ Nat:=(List.range W.length).filter λi=>decide (aU b (aK W i)=p)
def pI(b:θ)(W:Γ Wy)(p o:Int):Nat:=W.findIdx λw=>decide (aU b w=p)&&decide (bG b w=o)
def jy(b:θ)(W:Γ Wy)(p:Int)(L:Γ Int):Γ Nat:=L.map (pI b W p)
def eX:i∈own b W p↔i < W.length/\aU b (aK W i)=p:=by simp[own]
def map_range(d:α)(f:α->β)(l:Γ α):(List.range l.length).map (λi=>f (l.getD i d))=l.map f:=by
 apply jG
 ·simp
 ·intro i h1 h2;have:i < l.length:=by simpa using h2
  simp[this]
def wK(d:α)(q:α->θ):∀ (l:Γ α),((List.range l.length).filter λi=>q (l.getD i d)).map (λi=>l.getD i d)=l.filter q:=by
 intro l;have e:l=(List.range l.length).map λi=>l.getD i d:=by
  have:=map_range d (λx=>x) l;simp at this;simpa using this.symm
 conv=>rhs;rw[e]
 rw[kA];rfl
def pY(b:θ)(W:Γ Wy)(p:Int):(own b W p).map (λi=>bG b (aK W i))=R8 b W p:=by
 unfold own R8 aK;rw[<- wK (0,0,0) (λw=>decide (aU b w=p)) W,zM];rfl
def BW(h:Fg W)(hi:i < W.length)(hj:j < W.length)(h1:(aK W i).1=(aK W j).1)(h2:(aK W i).2.1=(aK W j).2.1):i=j:=by
 have e:∀k,k < W.length->W[k]?=some (aK W k):=λk hk=>by simp[aK,hk]
 rcases Nat.lt_trichotomy i j with z|z|z
 ·have:=List.pairwise_iff_getElem.mp h i j hi hj z;have a:=e i hi;have b:=e j hj;rw[zK hi] at a;rw[zK hj] at b;rw[xC a,xC b] at this;rcases this with z|z<;>lia
 ·exact z
 ·have:=List.pairwise_iff_getElem.mp h j i hj hi z;have a:=e i hi;have b:=e j hj;rw[zK hi] at a;rw[zK hj] at b;rw[xC a,xC b] at this;rcases this with z|z<;>lia
def z9(h:Fg W)(hi:i < W.length)(hj:j < W.length)(h1:aU b (aK W i)=aU b (aK W j))(h2:bG b (aK W i)=bG b (aK W j)):i=j:=by
 cases b
 ·exact BW h hi hj h1 h2
 ·exact BW h hi hj h2 h1
def uL(h:Fg W)(hi:i∈own b W p):pI b W p (bG b (aK W i))=i:=by
 let⟨hl,he⟩:=eX.mp hi;have hw:W[i]=aK W i:=by simp[aK,hl]
 unfold pI;have VU:W.findIdx (λw=>decide (aU b w=p)&&decide (bG b w=bG b (aK W i))) < W.length:=by
  apply kG;exact⟨W[i],xZ _,by rw[hw];simp[he]⟩
 have hq:=vS (w:=VU);rw[zF,zJ,zJ] at hq;rw[my VU] at hq;exact z9 h VU hl (by rw[hq.1,he]) hq.2
def gy{G T:Γ Pl}{W:Γ Wy}(h:Wd G T W){b:θ}{i:Nat}(e:(br b G T)[i]?=some p):(jy b W i p.2).Perm (own b W i):=by
 have h1:=(h.lik e).map (pI b W i);rw[<- pY b W i,zM] at h1;have e2:(own b W i).map (pI b W i ∘ λj=>bG b (aK W j))=own b W i:=by
  conv=>rhs;rw[<- List.map_id (own b W i)]
  exact yH λj hj=>uL h.wp hj
 rw[e2] at h1;exact h1
def lE{G T:Γ Pl}{W:Γ Wy}(h:Wd G T W){b:θ}{i:Nat}{p:Pl}(e:(br b G T)[i]?=some p){o:Int}(ho:o∈p.2):pI b W i o < W.length/\aU b (aK W (pI b W i o))=i/\bG b (aK W (pI b W i o))=o:=by
 have hm:=(h.lik e).mem_iff.mp ho;rw[<- pY b W i] at hm;let⟨j,hj,rfl⟩:=List.mem_map.mp hm;rw[uL h.wp hj];let⟨h1,h2⟩:=eX.mp hj;exact⟨h1,h2,rfl⟩
def kD(b:θ)(W:Γ Wy)(L:Γ Int)(d:D):Int:=(L.findIdx λo=>decide (o=bG b (aK W (lM d).toNat)):Nat)
def lR:∀ {L:Γ Int}{x:Int},x∈L->yf x L=some (L.findIdx λo=>decide (o=x))
 | [],x,h=>by cases h
 | o::L,x,h=>by
  unfold yf;by_cases e:o=x
  ·simp[e,kU]
  ·rw[yM e];have hx:x∈L:=(List.mem_cons.mp h).resolve_left λz=>e z.symm;rw[lR hx];simp[kU,e]
def Iw{G T:Γ Pl}{W:Γ Wy}(h:Wd G T W){b:θ}{i:Nat}{p:Pl}(e:(br b G T)[i]?=some p)(z:Nat->Int)(hz:∀j,j < (own b W i).length->z j=kD b W p.2 (((own b W i).map λn=>PyData.int ((n:Nat):Int)).getD j .none)) :
  xf z ((own b W i).map λn=>PyData.int ((n:Nat):Int)) .none=(jy b W i p.2).map λn=>PyData.int ((n:Nat):Int):=by
 refine l5 (kD b W p.2) ((mR _ _ _).trans ((gy h e).symm.map _)) (Bh z _ _ _ λj hj=>hz j (by simpa using hj)) ?_;have hn:p.2.Nodup:=(h.lik e).nodup_iff.mpr (h.nod b i);unfold jy;rw[zM,jD];have key:∀k (hk:k < p.2.length),kD b W p.2 (PyData.int ((pI b W i p.2[k]:Nat):Int))=(k:Nat):=λk hk=>by
  let⟨_,_,e3⟩:=lE h e (xZ hk);unfold kD;simp?[lM,yG,e3]
  congr 1
  rw[List.findIdx_eq (by exact hk)];refine⟨by simp,λj hj=>?_⟩;have:=List.pairwise_iff_getElem.mp hn j k (by lia) hk hj;simpa using this
 refine List.pairwise_iff_getElem.mpr λj k hj hk VD=>?_;show kD b W p.2 (PyData.int ((pI b W i p.2[j]:Nat):Int)) < kD b W p.2 (PyData.int ((pI b W i p.2[k]:Nat):Int));rw[key j hj,key k hk];lia
abbrev nD(n:Nat):D:=.int ((n:Nat):Int)
def ua:∀ {ds:Γ D},(∀d∈ds,te (ρ.set 0 (some d))=some (h d))->l9 te ρ ds=some (ds.map h)
 | [],_=>rfl
 | d::ds,hh=>by
  unfold l9;rw[hh d zE,zA,ua λx hx=>hh x (zC _ hx)];rfl
def vb(b:θ)(W:Γ Wy)(p:Int):(own b W p).length<=W.length:=by
 unfold own;refine yD (xO _ _) ?_;rw[zR];exact yL _
def Bl(b:θ)(W:Γ Wy)(p:Int):(((W.map az).zipIdx.filter λq=>decide (aU b (aK W q.2)=p)).map λq=>nD q.2)=(own b W p).map nD:=by
 have e:(W.map az).zipIdx=(List.range W.length).map λi=>(az (aK W i),i):=by
  apply jG
  ·simp
  ·intro i h1 h2;have:i < W.length:=by simpa using h2
   simp[my this]
 rw[e,kA,zM];rfl
def uj(h:Wd G T W)(e:(br b G T)[i]?=some p):iB [aJ G T W,.int (sI b),nD i]=some (.list ((jy b W i p.2).map nD)):=by
 have hw:=h.wl;have ep:aL (.tuple ((br b G T).map bE)) (nD i)=some (bE p):=ka e;have hl:=vb b W i;have t3:Dl.aS 3 [0] (f2 aL (ab 0) (fC (.int 2))) [.val (aJ G T W),.val (.int (sI b)),.val (nD i),.Vs,.Vs,.Vs]=some (.nx [.val (aJ G T W),.val (.int (sI b)),.val (nD i),.val (.tuple (W.map az)),.Vs,.Vs]) :=
  dF (d:=.tuple (W.map az)) rfl rfl rfl rfl
 have t4:Dl.aS 4 [0,1,2] (f2 aL (f2 aL (f2 aL (ab 0) (ab 1)) (ab 2)) (fC (.int 1))) [.val (aJ G T W),.val (.int (sI b)),.val (nD i),.val (.tuple (W.map az)),.Vs,.Vs]=some (.nx [.val (aJ G T W),.val (.int (sI b)),.val (nD i),.val (.tuple (W.map az)),.val (af p.2),.Vs]):=by
  refine dF (d:=af p.2) ?_ rfl rfl rfl;rw[iy (a:=bE p) (b:=.int 1) ?_ rfl,Kl];rw[iy (a:=.tuple ((br b G T).map bE)) (b:=nD i) ?_ rfl,ep];rw[iy (a:=aJ G T W) (b:=.int (sI b)) rfl rfl,mZ]
 have c5:ay 2 [1,2] (bI (aa (ab 3) ag)) (jd 0 1) (fB (f2 bu (f2 aL (ab 1) (ab 2)) (ab 3))) (ab 0) [some (aJ G T W),some (.int (sI b)),some (nD i),some (.tuple (W.map az)),some (af p.2),none]=some ((own b W i).map nD):=by
  rw[Ey (ds:=W.map az) (p:=λj _=>decide (aU b (aK W j)=i)) (h:=λj _=>nD j) rfl (by rw[zD];lia) λj d hd=>?_,Bl];rw[zO] at hd;let⟨w,hw',rfl⟩:=Dl.ae hd;have hj:j < W.length:=(List.getElem?_eq_some_iff.mp hw').1;rw[p5 hj] at hw';cases hw';refine⟨?_,λ_=>rfl⟩;show fB (f2 bu (f2 aL (ab 1) (ab 2)) (ab 3)) [some (nD j),some (az (aK W j)),some (.int (sI b)),some (nD i)]=_;simp?[fB];rw[iy (a:=.int (aU b (aK W j))) (b:=nD i) (by rw[iy (a:=az (aK W j)) (b:=.int (sI b)) rfl rfl,lG]) rfl,b0];rfl
 have t5:bw 5 [1,2,3] (ay 2 [1,2] (bI (aa (ab 3) ag)) (jd 0 1) (fB (f2 bu (f2 aL (ab 1) (ab 2)) (ab 3))) (ab 0)) [.val (aJ G T W),.val (.int (sI b)),.val (nD i),.val (.tuple (W.map az)),.val (af p.2),.Vs]=some (.nx [.val (aJ G T W),.val (.int (sI b)),.val (nD i),.val (.tuple (W.map az)),.val (af p.2),.own ((own b W i).map nD)]):=by
  have hh:hand [1,2,3] 0 [Slot.val (aJ G T W),.val (.int (sI b)),.val (nD i),.val (.tuple (W.map az)),.val (af p.2),.Vs]=[Slot.val (aJ G T W),.val (.int (sI b)),.val (nD i),.val (.tuple (W.map az)),.val (af p.2),.Vs]:=rfl;simp?[bw,hh,bp,zI,yT,Slot.V5,c5,zB,yV,yU]
 have hk:l9 (f2 mF (ab 3) (f2 aL (f2 aL (ab 2) (ab 0)) (f2 Dl.fx (fC (.int 1)) (ab 1)))) [none,some (.int (sI b)),some (.tuple (W.map az)),some (af p.2)] ((own b W i).map nD)=some (((own b W i).map nD).map λd=>.int (kD b W p.2 d)):=by
  refine ua λd hd=>?_;let⟨j,hj,rfl⟩:=List.mem_map.mp hd;let⟨hjl,hje⟩:=eX.mp hj;show f2 mF (ab 3) (f2 aL (f2 aL (ab 2) (ab 0)) (f2 Dl.fx (fC (.int 1)) (ab 1))) [some (nD j),some (.int (sI b)),some (.tuple (W.map az)),some (af p.2)]=_;have ew:aL (.tuple (W.map az)) (nD j)=some (az (aK W j)):=ka (p5 hjl);rw[iy (a:=af p.2) (b:=.int (bG b (aK W j))) rfl ?_]
  ·have hm:bG b (aK W j)∈p.2:=(h.lik e).mem_iff.mpr (by rw[<- pY];exact List.mem_map.mpr ⟨j,hj,rfl⟩);simp?[mF,af,bB,zA,lR hm,zB,kD,lM,yG]
   all_goals first|rfl|(congr 3;funext o;congr)
  ·rw[iy (a:=az (aK W j)) (b:=.int (1 - sI b)) ?_ ?_,LC]
   ·rw[iy (a:=.tuple (W.map az)) (b:=nD j) rfl rfl,ew]
   ·rw[iy (a:=.int 1) (b:=.int (sI b)) rfl rfl,cO]
 have hi:intsOf (((own b W i).map nD).map λd=>PyData.int (kD b W p.2 d))=some (((own b W i).map nD).map (kD b W p.2)):=by
  rw[show (((own b W i).map nD).map λd=>PyData.int (kD b W p.2 d))=(((own b W i).map nD).map (kD b W p.2)).map PyData.int by simp?[zM];rfl,bB]
 have t6:bc (da (oP [1,3,4] (ab 5) (f2 mF (ab 3) (f2 aL (f2 aL (ab 2) (ab 0)) (f2 Dl.fx (fC (.int 1)) (ab 1)))))) [.val (aJ G T W),.val (.int (sI b)),.val (nD i),.val (.tuple (W.map az)),.val (af p.2),.own ((own b W i).map nD)]=some (.rt (.list ((jy b W i p.2).map nD))):=by
  have es:oP [1,3,4] (ab 5) (f2 mF (ab 3) (f2 aL (f2 aL (ab 2) (ab 0)) (f2 Dl.fx (fC (.int 1)) (ab 1)))) [some (aJ G T W),some (.int (sI b)),some (nD i),some (.tuple (W.map az)),some (af p.2),some (.list ((own b W i).map nD))]=some ((jy b W i p.2).map nD):=by
   unfold oP;show (l9 _ [none,some (.int (sI b)),some (.tuple (W.map az)),some (af p.2)] ((own b W i).map nD)).bind _=_;rw[hk,zA,hi,zA,yK (by rw[zD];lia),Iw h e _ λj hj=>?_];simp[hj]
  simp?[bc,aQ,zI,yT,vd,xa,da,es,zB]
 refine bz ?_;show n6 [.val (aJ G T W),.val (.int (sI b)),.val (nD i),.Vs,.Vs,.Vs]=_;unfold n6;rw[av t3,av t4,av t5,t6]
local macro_rules|`(tactic| dsimp! [$ts,*])=>`(tactic| simp only[ab,fC,f1,f2,aa,ag,ai,cq,tq,cH,gO,da,fB,gB,cL,fy,Au,bI,aQ,bp,vd,xa,CW,BS,Ck,C5,zI,yT,xP,yX,zA,zB,qF,zL,xJ,Nat.reduceAdd,jC,reduceIte,yV,yU,$ts,*])
def gp(R:ao->Prop)(f:α->D)(q:α->θ)(out:α->D):∀ {l:Γ α}{ρ:ao},
  (∀ρ x,x∈l->R ρ->∃ρ1,tgt ρ (f x)=some ρ1/\(q x=true->gb ρ1=some (.rt (out x)))/\(q x=false->∃Wb,gb ρ1=some (.nx Wb)/\R Wb))->R ρ ->
  (∀x,l.find? q=some x->fq tgt gb (l.map f) ρ=some (.rt (out x)))/\(l.find? q=none->∃ρ',fq tgt gb (l.map f) ρ=some (.nx ρ')/\R ρ')
 | [],ρ,_,h=>⟨λx hx=>(by cases hx),λ_=>⟨ρ,rfl,h⟩⟩
 | x::l,ρ,hh,h=>by
  let⟨ρ1,e1,e2,e3⟩:=hh ρ x zE h;rw[zI,fq,e1,zA];cases hq:q x with
  | true =>
   rw[vI (by simpa using hq),e2 hq];exact⟨λy hy=>(by cases hy;rfl),λhn=>(by cases hn)⟩
  | false =>
   let⟨Wb,e4,h2⟩:=e3 hq;rw[kF (by simp[hq]),e4];exact gp R f q out (λρ x hx=>hh ρ x (zC _ hx)) h2
def dS(h:fq tgt gb ds ρ1=o)(hi:fi (bp ρ1)=some ds)(hh:hand fz 0 ρ=ρ1):gw fz fi tgt gb ρ=o:=by
 simp?[gw,hh,hi,zA,h]
def Ko(hh:hand fz 0 ρ=ρ')(hf:f (bp ρ')=some ds):bw i fz f ρ=some (.nx (ρ'.set i (.own ds))):=by
 simp?[bw,hh,hf,zB]
def ud(hf:f (bp ρ)=some ds)(hh:hand fz 0 ρ=ρ):bw i fz f ρ=some (.nx (ρ.set i (.own ds))):=Ko hh hf
def AS(hh:hand fz 0 ρ=ρ')(hA:f (aQ ρ)=some d)(hF:f (bp ρ')=some d)(hs:Dl.jq d=false)(hr:gJ d=false\/ρ'=ρ:=by first|exact .inr rfl|exact .inl rfl):Dl.aS i fz f ρ=some (.nx (ρ'.set i (.val d))):=by
 rcases hr with hr|hr
 ·simp?[Dl.aS,hA,zA,hs,yN,qN,hh,hF,zB,hr]
 ·subst hr;simp?[Dl.aS,hA,zA,hs,yN,qN,hh,hF,zB,ite_self]
def call_of(h:m ds=some d)(hf:fs ρ=some ds)(hn:ds.length=n):ai n m fs ρ=some d:=by
 unfold ai;rw[hf,zA,yK hn,h]
def cons_of(h:f ρ=some d)(hs:fs ρ=some ds):aa f fs ρ=some (d::ds):=by
 unfold aa;rw[h,hs];rfl
def aX(hf:f (aQ ρ)=some d):bc f ρ=some (.rt d):=by
 simp?[bc,hf,zB]
def mK(hf:f (aQ ρ)=some d):uR f ρ=some (.nx ρ):=by
 simp?[uR,hf,zB]
def cT(h:t (aQ ρ)=some false):iH t g gV ρ=some (.nx ρ):=by
 simp[iH,h,gV]
def dm(h:t (aQ ρ)=some true):iH t g g2 ρ=g ρ:=by
 simp[iH,h]
def fK(h:g1 ρ=some (.rt d)):aD g1 g2 ρ=some (.rt d):=by
 simp?[aD,h,zA]
def lp(cont:S->θ)(st:S->S):Nat->S->S
 | 0,s=>s
 | n+1,s=>if cont s=true then lp cont st n (st s) else s
def ou{off:Γ Int}(h:i < off.length):aL (af off) (nD i)=some (.int (off.getD i 0)):=ka (f:=PyData.int) (l:=off) (by simp[h])
def AO(h:i < W.length):aL (.tuple (W.map az)) (nD i)=some (az (aK W i)):=ka (p5 h)
def CM(l:Γ Int)(k:Nat)(v:Int):(l.map PyData.int).set k (.int v)=(l.set k v).map PyData.int:=by rw[List.map_set]
def Li(l:Γ D):cf [.tuple l]=some (nD l.length):=rfl
def KM(l:Γ Int):cf [af l]=some (nD l.length):=by
 show some (PyData.int ((l.map PyData.int).length:Nat))=_;rw[zD]
def Eb(h:n<=1000):me [nD n]=some ((List.range n).map nD):=by
 rw[xr (wy h),yG]
def iW(h:fs ρ=some [nD n])(hn:n<=1000):bL fs ρ=some ((List.range n).map nD):=by
 unfold bL;rw[h,zA,Eb hn]
def sub_int(i j:Int):Dl.fx (.int i) (.int j)=some (.int (i - j)):=cO i j
def LU:∀n,(List.replicate n [PyData.int 0]).flatten=(List.replicate n (0:Int)).map PyData.int
 | 0=>rfl
 | n+1=>by rw[xD,qL,LU n,xD];rfl
def cV(W:Γ Wy)(off:Γ Int)(left:Int)(i:Nat):Int:=min (min (off.getD i 0) (aK W i).2.2) left
def UX(W:Γ Wy)(off:Γ Int)(s:Int×Γ Int)(i:Nat):Int×Γ Int:=(s.1 - cV W off s.1 i,s.2.set i (cV W off s.1 i))
def Vm(W:Γ Wy)(off:Γ Int)(WE:Int)(is:Γ Nat):Γ Int:=(is.foldl (UX W off) (WE,List.replicate W.length 0)).2
def eB(b:θ)(G T:Γ Pl)(i:Nat):Pl:=(br b G T).getD i (0,[])
def U1(b:θ)(G T:Γ Pl)(W:Γ Wy)(off s:Γ Int)(i:Nat):Γ Int:=List.zipWith (·+·) s (Vm W off (eB b G T i).1 (jy b W i (eB b G T i).2))
def Oe(b:θ)(G T:Γ Pl)(W:Γ Wy)(off:Γ Int):Γ Int:=(List.range (br b G T).length).foldl (U1 b G T W off) (List.replicate W.length 0)
def uT(h:i < (br b G T).length):(br b G T)[i]?=some (eB b G T i):=by simp[eB,h]
def Wd.pl(h:Wd G T W)(b:θ):(br b G T).length<=4:=by
 cases b
 ·exact h.g4
 ·exact h.t4
def u6(h:(xs++ys).length<=4000):Dl.aH (.tuple xs) (.tuple ys)=some (.tuple (xs++ys)):=by
 simp?[Dl.aH,xb,Lf,bX h,zB,Option.none_or,Option.some_or]
def Ln(h:f ρ=some d):aR (aa f ag) ρ=some (.tuple [d]):=by
 simp?[aR,aa,ag,h,zA,zB];rw[bX (by simp),zB]
def aq(h:g a b=some c)(ha:fa ρ=some a)(hb:fb ρ=some b):f2 g fa fb ρ=some c:=by rw[iy ha hb,h]
def Ny(h:f ρ=some (.tuple ds))(h2:g ρ=some (nD k)):oH ij f oF (DY g) ρ=some (.tuple (ds.take k)):=by
 simp?[oH,h,oF,DY,h2,zA,gI,zB,ij,E1]
def OZ(h:f ρ=some (.tuple ds))(h2:g ρ=some (nD k)):oH ij f (DY g) oF ρ=some (.tuple (ds.drop k)):=by
 simp?[oH,h,oF,DY,h2,zA,gI,zB,ij,zv]
def BM(c:Γ Int)(i:Nat)(v:Int)(h:i < c.length):((c.map PyData.int).take i++[PyData.int v])++(c.map PyData.int).drop (i+1)=(c.set i v).map PyData.int:=by
 rw[List.set_eq_take_append_cons_drop,yK h];simp
def UP(i:Nat):Dl.aH (nD i) (.int 1)=some (nD (i+1)):=by
 rw[cC];rfl
def rz(h:i < c.length)(hl:c.length<=1000):eM [af c,nD i,.int v]=some (af (c.set i v)):=by
 refine bz ?_;show r8 [.val (af c),.val (nD i),.val (.int v)]=_;refine aX ?_;refine aq (a:=.tuple ((c.map PyData.int).take i++[PyData.int v])) (b:=.tuple ((c.map PyData.int).drop (i+1))) ?_ (aq (a:=.tuple ((c.map PyData.int).take i)) (b:=.tuple [.int v]) (u6 ?_) (Ny rfl rfl) (Ln rfl)) (OZ rfl (aq (UP i) rfl rfl))
 ·rw[u6,BM c i v h]
  ·rfl
  ·rw[BM c i v h];simp;lia
 ·simp;lia
def Pc(W:Γ Wy):Γ Int:=W.map λw=>w.2.2
def Ux(G T:Γ Pl)(W:Γ Wy)(c:Γ Int):Γ Int:=Oe true G T W (Oe false G T W c)
def qR(G T:Γ Pl)(W:Γ Wy)(c:Γ Int)(k:Nat):θ:=decide ((Ux G T W c).getD k 0 < (Oe false G T W c).getD k 0)
def Uw(G T:Γ Pl)(W:Γ Wy)(c:Γ Int):Δ (Nat×Int):=((List.range W.length).find? (qR G T W c)).map λk=>(k,(Ux G T W c).getD k 0)
def enum_zip:∀ (ds:Γ D) (k:Nat),bK k ds=(ds.zipIdx k).map λq=>.tuple [nD q.2,q.1]
 | [],k=>rfl
 | d::ds,k=>by rw[bK,enum_zip ds (k+1),List.zipIdx_cons];rfl
def yv(l:Γ Int)(k:Nat)(v:Int)(i:Nat):(l.set k v).getD i 0=if k=i/\i < l.length then v else l.getD i 0:=by
 simp?[zG,xH];by_cases h:k=i
 ·subst h;by_cases h2:k < l.length
  ·simp[h2]
  ·simp[h2]
 ·simp[h]
def Off(off:Γ Int):Prop:=∀i,0<=off.getD i 0
def Ut(W:Γ Wy):Prop:=∀i,0<=(aK W i).2.2
def Wd.lim{G T:Γ Pl}{W:Γ Wy}(h:Wd G T W):Ut W:=λi=>by
 by_cases hi:i < W.length
 ·have:=h.wr (aK W i) (by rw[<- my hi];exact xZ hi);lia
 ·simp?[aK,zG];rw[jK (by lia)];simp
def Wd.WE{G T:Γ Pl}{W:Γ Wy}(h:Wd G T W)(b:θ)(i:Nat):0<=(eB b G T i).1:=by
 unfold eB;rw[zG];cases e:(br b G T)[i]? with
 | none=>simp
 | some p =>
  have hm:=qA e;cases b
  ·exact (h.ga p hm).1
  ·exact (h.ta p hm).1
def HI{l:Γ Int}{i:Nat}(h:l.length<=i):l.getD i 0=0:=by simp[zG,h]
def Uv(c:Γ Int):Nat:=(c.map Int.toNat).sum
def rZ(a:Γ Int):SeqAt.shaped (af a)=true :=
 (ib.tup (b:=a.length) (k:=0) (by simp) λx hx=>by let⟨i,_,rfl⟩:=List.mem_map.mp hx;exact iU _).shaped (by decide)
def sr(a b:Γ Int):PyData.eqv (af a) (af b)=decide (a=b):=by
 rw[af,af,PyData.eqv,sJ]
def bh(h:f ρ=some (.bool b)):fB f ρ=some b:=by
 simp?[fB,h,zA,gB]
def fU(h:t ρ=some b):cL t ρ=some (!b):=by
 simp?[cL,h,zB]
def FN(a b:Γ Int):e9 (af a) (af b)=some (.bool (!decide (a=b))):=by
 simp?[e9,PX,rZ,jN,xG,sr,zB]
def sx(a b:Γ Int):bu (af a) (af b)=some (.bool (decide (a=b))):=by
 simp?[bu,L9,rZ,jN,xG,sr,zB]
def eR(a:Γ Int):e9 (af a) (af a)=some (.bool false):=by rw[FN];simp
def bU(hA:f (aQ ρ)=some d)(hF:f (bp ρ)=some d)(hh:hand fz 0 ρ=ρ):Dl.aS i fz f ρ=some (.nx (ρ.set i (.val d))):=by
 cases hs:Dl.jq d with
 | true=>exact cA hA hs
 | false=>exact AS hh hA hF hs (.inr rfl)
def tE(h:Wd G T W):g8 [aJ G T W]=some .none:=by
 have hw:dy [aJ G T W]=some (.bool true):=by rw[AQ h.fit (by decide),h.wok]
 have hc:zq3 (aQ [.val (aJ G T W)])=some false:=fU (bh (call_of hw rfl rfl));have:eW [.val (aJ G T W)]=some (.nx [.val (aJ G T W)]):=by
  unfold eW;rw[cT hc]
 show (eW [.val (aJ G T W)]).map _=_;rw[this];rfl
def sT(h1:a<=i)(h2:i<=b):hJ [.int i,.int a,.int b]=some .none:=by
 have hw:bM [.int i,.int a,.int b]=some (.bool true):=by rw[gE rfl];simp[whole,h1,h2]
 have hc:zq6 (aQ [.val (.int i),.val (.int a),.val (.int b)])=some false:=fU (bh (call_of hw rfl rfl));have:eU [.val (.int i),.val (.int a),.val (.int b)]=some (.nx [.val (.int i),.val (.int a),.val (.int b)]):=by
  unfold eU;rw[cT hc]
 show (eU [.val (.int i),.val (.int a),.val (.int b)]).map _=_;rw[this];rfl
def rM(h1:0<=i)(h2:i<=n - 1):gu [.int i,.int n]=some .none:=by
 have:ej [.val (.int i),.val (.int n)]=some (.nx [.val (.int i),.val (.int n)]):=by
  unfold ej;exact mK (call_of (sT h1 h2) (cons_of rfl (cons_of rfl (cons_of (aq (sub_int n 1) rfl rfl) rfl))) rfl)
 show (ej [.val (.int i),.val (.int n)]).map _=_;rw[this];rfl
abbrev Sp:=Γ (Nat×Int)×Γ Int
def Vd(G T:Γ Pl)(W:Γ Wy)(s:Sp):θ:=(Uw G T W s.2).isSome
def spS(G T:Γ Pl)(W:Γ Wy)(s:Sp):Sp:=match Uw G T W s.2 with|some p=>(s.1++[p],s.2.set p.1 p.2)|none=>s
def low(c:Γ Int)(p:Nat×Int):Γ Int:=c.set p.1 p.2
structure Vp(W:List Wy)(s:Sp):Prop where
 len:s.2.length=W.length
 off:Off s.2
 eq:s.2=s.1.foldl low (Pc W)
 bd:s.1.length+Uv s.2<=Uv (Pc W)
 mem:∀p∈s.1,p.1 < W.length
def fin(G T:Γ Pl)(W:Γ Wy):Sp:=lp (Vd G T W) (spS G T W) Rf.turns ([],Pc W)
def GL(w:Wy):Wy:=(w.2.1,w.1,w.2.2)
structure Ord(W:List Wy)(π:List Nat):Prop where
 perm:π.Perm (List.range W.length)
 up:π.Pairwise λi j=>(aK W i).2.1 < (aK W j).2.1\/((aK W i).2.1=(aK W j).2.1/\(aK W i).1 < (aK W j).1)
def jn(b:θ)(W:Γ Wy)(P:Γ Int)(p:Int):Int:=((own b W p).map λi=>P.getD i 0).sum
def lX(L:Γ Int)(x:Int):Nat:=L.findIdx λo=>decide (o=x)
def su(b:θ)(G T:Γ Pl)(W:Γ Wy)(P:Γ Int)(k:Nat):θ :=
 decide (jn b W P (aU b (aK W k)) < (eB b G T (aU b (aK W k)).toNat).1) ||
 ((eB b G T (aU b (aK W k)).toNat).2.drop (lX (eB b G T (aU b (aK W k)).toNat).2 (bG b (aK W k))+1)).any λo=>decide (0 < P.getD (pI b W (aU b (aK W k)) o) 0)
def gW(G T:Γ Pl)(W:Γ Wy)(P:Γ Int)(k:Nat):Nat :=
 if P.getD k 0=(aK W k).2.2 then 0 else if su false G T W P k=false then 1 else if su true G T W P k=false then 2 else 3
def iG(G T:Γ Pl)(W:Γ Wy)(P:Γ Int):Γ Nat:=(List.range W.length).filter λk=>decide (gW G T W P k=3)
def Wd.VY(h:Wd G T W)(b:θ)(hk:k < W.length):0<=aU b (aK W k)/\(aU b (aK W k)).toNat < (br b G T).length/\((aU b (aK W k)).toNat:Int)=aU b (aK W k):=by
 have:=h.wr (aK W k) (by rw[<- my hk];exact xZ _);cases b
 ·simp?[aU,br,yN,qN];lia
 ·simp?[aU,br,xG];lia
structure Pn(G T:List Pl)(W:List Wy)(P:List Int):Prop where
 len:P.length=W.length
 bd:∀k,k < W.length->0<=P.getD k 0/\P.getD k 0<=(aK W k).2.2
 am:∀ (b:θ) (i:Nat),i < (br b G T).length->jn b W P i<=(eB b G T i).1
section
variable {off:Γ Int}
def tQ(h:∀k,k < W.length->P.getD k 0=Q.getD k 0):jn b W P p=jn b W Q p:=by
 unfold jn
 congr 1
 exact yH λk hk=>h k (eX.mp hk).1
end
def sX(G T:Γ Pl)(W:Γ Wy)(P:Γ Int):θ :=
 ((List.range G.length).all λi=>decide (jn false W P i<=(eB false G T i).1))&&((List.range T.length).all λi=>decide (jn true W P i<=(eB true G T i).1))
def zs(n:Nat):Γ Int:=List.replicate n 0
def mO(d:Nat->Int)(G T:Γ Pl)(W:Γ Wy):Nat->Γ Int
 | 0=>[]
 | k+1=>if sX G T W ((mO d G T W k++[d k])++zs (W.length - (mO d G T W k++[d k]).length))=true then mO d G T W k++[d k] else mO d G T W k++[0]
section
variable {W:Γ Wy}{G T:Γ Pl}{d:Nat->Int}
def hZ:sX G T W P=true↔∀ (b:θ) (i:Nat),i < (br b G T).length->jn b W P i<=(eB b G T i).1:=by
 unfold sX;rw[zF,xF,xF];constructor
 ·rintro⟨h1,h2⟩ b i hi;cases b
  ·exact yP (h1 i (by simpa [br] using hi))
  ·exact yP (h2 i (by simpa [br] using hi))
 ·intro h;exact⟨λi hi=>yA (h false i (by simpa [br] using hi)),λi hi=>yA (h true i (by simpa [br] using hi))⟩
def nc:∀k,(mO d G T W k).length=k
 | 0=>rfl
 | k+1=>by
  unfold mO;split<;>simp[nc k]
def Gj(h:∀k,P.getD k 0=0):jn b W P p=0:=by
 unfold jn;have:((own b W p).map λi=>P.getD i 0)=(own b W p).map λ_=>(0:Int):=yH λk _=>h k;rw[this];generalize own b W p=l
 induction l with
 | nil=>rfl
 | cons a l ih=>simp[ih]
def LV(n k:Nat):(zs n).getD k 0=0:=by
 simp?[zs,zG,yW];split<;>rfl
def FO(l:Γ Int)(n k:Nat):(l++zs n).getD k 0=l.getD k 0:=by
 by_cases h:k < l.length
 ·simp[zG,yR h]
 ·have h':l.length<=k:=by lia
  have:=LV n (k - l.length);simp?[zG] at this ⊢;rw[yS h',this];simp[h']
def T3(l:Γ Int)(k:Nat):(l++[0]).getD k 0=l.getD k 0:=FO l 1 k
def BV(h:Wd G T W):∀k,sX G T W (mO d G T W k)=true
 | 0=>hZ.mpr λb i hi=>by
  rw[Gj λk=>by simp[mO]];exact h.WE b i
 | k+1=>by
  unfold mO;split
  ·rename_i e;refine hZ.mpr λb i hi=>?_;have:=hZ.mp e b i hi;rw[tQ (Q:=mO d G T W k++[d k]) λj _=>FO _ _ _] at this;exact this
  ·refine hZ.mpr λb i hi=>?_;rw[tQ (Q:=mO d G T W k) λj _=>T3 _ _];exact hZ.mp (BV h k) b i hi
def BG(hd:∀k,k < W.length->0<=d k/\d k<=(aK W k).2.2)(hl:Ut W):∀k,k<=W.length->∀j,j < k->0<=(mO d G T W k).getD j 0/\(mO d G T W k).getD j 0<=(aK W j).2.2
 | 0,_,j,hj=>by lia
 | k+1,hk,j,hj=>by
  have ih:=BG hd hl k (by lia) j;have len:(mO d G T W k).length=k:=nc k;have key:∀x,(0<=x/\x<=(aK W k).2.2)->0<=(mO d G T W k++[x]).getD j 0/\(mO d G T W k++[x]).getD j 0<=(aK W j).2.2:=λx hx=>by
   by_cases VD:j < k
   ·rw[zG,yR (by lia),<- zG];exact ih VD
   ·have:j=k:=by lia
    subst this;rw[zG,yS (by lia),len];simpa using hx
  unfold mO;split
  ·exact key _ (hd k (by lia))
  ·exact key _ ⟨by lia,hl k⟩
def NX(h:Wd G T W)(hd:∀k,k < W.length->0<=d k/\d k<=(aK W k).2.2):Pn G T W (mO d G T W W.length) where
 len:=nc _
 bd:=BG hd h.lim W.length (yL _)
 am:=hZ.mp (BV h _)
end
def tV{tt:Dl.Env->Δ θ}{te:Dl.Env->Δ D}{r:Γ (Δ D)}{x y h:Nat->D}{p:Nat->θ}:∀ (is:Γ Nat),
  (∀i∈is,tt (some (x i)::some (y i)::r)=some (p i)/\(p i=true->te (some (x i)::some (y i)::r)=some (h i))) ->
  di (jd 0 1) tt te (none::none::r) (is.map λi=>.tuple [x i,y i])=some ((is.filter p).map h)
 | [],_=>rfl
 | i::is,hh=>by
  let⟨h1,h2⟩:=hh i zE;have ih:=tV is λj hj=>hh j (zC _ hj);have hg:jd 0 1 (none::none::r) (.tuple [x i,y i])=some (some (x i)::some (y i)::r):=by
   simp?[jd,isFree,xP,yX,qF,Option.isNone_none,jN,xG,yU,yV]
  rw[zI,di,hg];simp?[zA,h1];cases hp:p i with
  | true=>simp[h2 hp,ih,hp]
  | false=>simp[ih,hp]
def nJ{fi:Dl.Env->Δ (Γ D)}{tt:Dl.Env->Δ θ}{te:Dl.Env->Δ D}{ρ:Dl.Env}{n:Nat}{x y h:Nat->D}{p:Nat->θ}(WG:fi ρ=some ((List.range n).map λi=>.tuple [x i,y i]))(hl:n<=1000)
  (hh:∀i,i < n->tt (some (x i)::some (y i)::cs.map λj=>(ρ[j]?).getD none)=some (p i)/\(p i=true->te (some (x i)::some (y i)::cs.map λj=>(ρ[j]?).getD none)=some (h i))) :
  ay 2 cs fi (jd 0 1) tt te ρ=some (((List.range n).filter p).map h):=by
 have:=tV (tt:=tt) (te:=te) (r:=cs.map λj=>(ρ[j]?).getD none) (p:=p) (h:=h) (List.range n) λi hi=>hh i (by simpa using hi);simp?[ay,WG,zA,fE,List.replicate,xE,xN,this];refine bX ?_;rw[zD];refine yD (xO _ _) ?_;rw[zR];lia
def uq{W:Γ Wy}{P:Γ Int}(h:P.length=W.length):j9 (W.map az) (P.map PyData.int)=(List.range W.length).map λi=>.tuple [az (aK W i),.int (P.getD i 0)]:=by
 apply List.ext_getElem?;intro i;by_cases hi:i < W.length
 ·have hz:i < (j9 (W.map az) (P.map PyData.int)).length:=by rw[nN];simp[h];exact hi
  rw[zK hz];let⟨x,y,e1,e2,e3⟩:=rG (zK hz);rw[zO,p5 hi] at e1;rw[zO,zK (by lia)] at e2;cases e1;have e2:PyData.int P[i]=y:=by simpa using e2
  rw[e3,<- e2];have:i < P.length:=by lia
  simp[hi,this,zG]
 ·rw[jK (by rw[nN];simp;lia),jK (by simp;lia)]
def Sm(P:Γ Int):Prop:=∀k,-1000000<=P.getD k 0/\P.getD k 0<=1000000
def CD(hs:Sm P)(hw:W.length<=16)(b:θ)(p:Int):N8 ((own b W p).map λi=>P.getD i 0)=true:=by
 unfold N8;rw[zF,zJ,xF];refine⟨?_,λx hx=>?_⟩
 ·have:=vb b W p;rw[zD];lia
 ·let⟨i,_,rfl⟩:=List.mem_map.mp hx;rw[zF,zJ,zJ];exact hs i
def oY(h:Wd G T W)(hp:P.length=W.length)(hs:Sm P)(b:θ)(p:Int):dG [aJ G T W,af P,.int (sI b),.int p]=some (.int (jn b W P p)):=by
 have hw:=h.wl;refine bz ?_;show uA [.val (aJ G T W),.val (af P),.val (.int (sI b)),.val (.int p)]=_;have hz:gz (aa (f2 aL (ab 0) (fC (.int 2))) (aa (ab 1) ag)) [some (aJ G T W),some (af P),some (.int (sI b)),some (.int p)]=some ((List.range W.length).map λi=>.tuple [az (aK W i),.int (P.getD i 0)]):=by
  rw[<- uq hp];rfl
 have c:ay 2 [2,3] (gz (aa (f2 aL (ab 0) (fC (.int 2))) (aa (ab 1) ag))) (jd 0 1) (fB (f2 bu (f2 aL (ab 0) (ab 2)) (ab 3))) (ab 1) [some (aJ G T W),some (af P),some (.int (sI b)),some (.int p)]=some ((own b W p).map λi=>.int (P.getD i 0)):=by
  rw[nJ (p:=λi=>decide (aU b (aK W i)=p)) (h:=λi=>.int (P.getD i 0)) hz (by lia) λi hi=>⟨?_,λ_=>rfl⟩]
  ·rfl
  ·show fB (f2 bu (f2 aL (ab 0) (ab 2)) (ab 3)) [some (az (aK W i)),some (.int (P.getD i 0)),some (.int (sI b)),some (.int p)]=_;exact bh (by rw[iy (a:=.int (aU b (aK W i))) (b:=.int p) (aq (lG b _) rfl rfl) rfl,b0])
 refine aX ?_;have e:((own b W p).map λi=>PyData.int (P.getD i 0))=((own b W p).map λi=>P.getD i 0).map PyData.int:=by rw[zM];rfl
 show cq sU (aa (da (ay 2 [2,3] (gz (aa (f2 aL (ab 0) (fC (.int 2))) (aa (ab 1) ag))) (jd 0 1) (fB (f2 bu (f2 aL (ab 0) (ab 2)) (ab 3))) (ab 1))) ag) [some (aJ G T W),some (af P),some (.int (sI b)),some (.int p)]=_;rw[e] at c;simp?[cq,aa,ag,da,c,zB,zA];show sU [.list (((own b W p).map λi=>P.getD i 0).map PyData.int)]=_;simp?[sU,eD,oneOf,gO,zA,bB,CD hs hw b p,xG];rfl
def sg(L:Γ Pl):bK 0 (L.map bE)=(List.range L.length).map λi=>.tuple [nD i,bE (L.getD i (0,[]))]:=by
 rw[enum_zip];apply jG
 ·simp
 ·intro i h1 h2;have:i < L.length:=by simpa using h2
  simp[this,zG]
def uk(is:Γ Nat):nr [.list (is.map λi=>.bool (p i))]=some (.bool (is.all p)):=by
 have:∀is:Γ Nat,boolsOf (is.map λi=>PyData.bool (p i))=some (is.map p):=λis=>by
  induction is with
  | nil=>rfl
  | cons i is ih=>simp[boolsOf,ih]
 simp?[nr,oneOf,zA,this,zB,List.all_map];rfl
def CJ(h:Wd G T W)(hp:P.length=W.length)(hs:Sm P)(b:θ):du [aJ G T W,af P,.int (sI b)]=some (.bool ((List.range (br b G T).length).all λi=>decide (jn b W P i<=(eB b G T i).1))):=by
 have hl:=h.pl b;refine bz ?_;show jj [.val (aJ G T W),.val (af P),.val (.int (sI b))]=_;have he:bI (aa (f2 aL (ab 0) (ab 2)) ag) [some (aJ G T W),some (af P),some (.int (sI b))]=some ((List.range (br b G T).length).map λi=>.tuple [nD i,bE (eB b G T i)]):=by
  have:=sg (br b G T);unfold eB;rw[<- this];cases b<;>rfl
 have c:=nJ (cs:=[0,1,2]) (tt:=λ_=>some true) (te:=f2 Dj (ai 4 dG (aa (ab 2) (aa (ab 3) (aa (ab 4) (aa (ab 0) ag))))) (f2 aL (ab 1) (fC (.int 0)))) (p:=λ_=>true) (h:=λi=>.bool (decide (jn b W P i<=(eB b G T i).1))) he (by lia) λi hi=>⟨rfl,λ_=>aq (a:=.int (jn b W P i)) (b:=.int (eB b G T i).1) rfl (call_of (oY h hp hs b i) rfl rfl) rfl⟩
 refine aX ?_;show cq nr (aa (da (ay 2 [0,1,2] (bI (aa (f2 aL (ab 0) (ab 2)) ag)) (jd 0 1) (λ_=>some true) (f2 Dj (ai 4 dG (aa (ab 2) (aa (ab 3) (aa (ab 4) (aa (ab 0) ag))))) (f2 aL (ab 1) (fC (.int 0)))))) ag) [some (aJ G T W),some (af P),some (.int (sI b))]=_;simp?[cq,aa,ag,da,c,zB,zA];rw[show (List.range (br b G T).length).filter (λ_=>true)=List.range (br b G T).length by simp,uk]
def HZ(ha:fa ρ=some (.bool true))(hb:fb ρ=some d):lV fa fb ρ=some d:=by
 simp?[lV,ha,zA,hb]
def Kz(ha:fa ρ=some (.bool false)):lV fa fb ρ=some (.bool false):=by
 simp?[lV,ha,zA]
def JQ(ha:fa ρ=some (.bool a))(hb:fb ρ=some (.bool b)):lV fa fb ρ=some (.bool (a&&b)):=by
 cases a
 ·exact Kz ha
 ·exact HZ ha hb
def Bt(h:f ρ=some d):cq g (aa f ag) ρ=g [d]:=by
 simp?[cq,aa,ag,h,zB,zA]
def AA{l:Γ α}(h:f ρ=some (.tuple (l.map k))):cq cf (aa f ag) ρ=some (nD l.length):=by
 rw[Bt h,Li,zD]
def Sk(W:Γ Wy)(P:Γ Int):θ:=(List.range W.length).all λk=>decide (0<=P.getD k 0)&&decide (P.getD k 0<=(aK W k).2.2)
def BZ(b:θ)(G T:Γ Pl)(W:Γ Wy)(P:Γ Int):θ:=(List.range (br b G T).length).all λi=>decide (jn b W P i<=(eB b G T i).1)
def Ry(G T:Γ Pl)(W:Γ Wy)(P:Γ Int):θ:=Sk W P&&(BZ false G T W P&&BZ true G T W P)
def Jp(hp:P.length=W.length):Ry G T W P=true↔Pn G T W P:=by
 simp?[Ry,Sk,BZ,zF,xF,zS,zJ];constructor
 ·rintro⟨h1,h2,h3⟩;exact⟨hp,h1,λb=>by cases b<;>assumption⟩
 ·intro p;exact⟨p.bd,p.am false,p.am true⟩
def N9(P:Γ Int):pH (af P)=true:=rfl
def EM(h:Wd G T W)(hp:P.length=W.length)(hs:Sm P):lz [aJ G T W,af P]=some (.bool (Ry G T W P)):=by
 have hw:=h.wl;have hlen:(P.map PyData.int).length=W.length:=by rw[zD,hp]
 refine bz ?_;show o7 [.val (aJ G T W),.val (af P),.Vs]=_;unfold o7;have t1:Dl.aS 2 [0] (f2 aL (ab 0) (fC (.int 2))) [.val (aJ G T W),.val (af P),.Vs]=some (.nx [.val (aJ G T W),.val (af P),.val (.tuple (W.map az))]):=dF (d:=.tuple (W.map az)) rfl rfl rfl rfl;rw[av t1];have el:bP [af P,nD W.length,nD W.length]=some (.bool true):=by
  rw[show nD W.length=.int ((W.length:Nat):Int) from rfl,eE (N9 P)];simp[long,af,hp]
 have hl:∀ρ:Dl.Env,ab 2 ρ=some (.tuple (W.map az))->cq cf (aa (ab 2) ag) ρ=some (nD W.length):=λρ hr=>AA hr;have c1:(cL (fB (ai 3 bP (aa (ab 1) (aa (cq cf (aa (ab 2) ag)) (aa (cq cf (aa (ab 2) ag)) ag)))))) (aQ [.val (aJ G T W),.val (af P),.val (.tuple (W.map az))])=some false :=
  fU (bh (call_of el (cons_of rfl (cons_of (hl _ rfl) (cons_of (hl _ rfl) rfl))) rfl))
 rw[av (cT c1)];have hz:gz (aa (ab 2) (aa (ab 1) ag)) [some (aJ G T W),some (af P),some (.tuple (W.map az))]=some ((List.range W.length).map λi=>.tuple [az (aK W i),.int (P.getD i 0)]):=by
  rw[<- uq hp];rfl
 have c2:=nJ (cs:=[]) (tt:=λ_=>some true) (te:=ai 3 bM (aa (ab 1) (aa (fC (.int 0)) (aa (f2 aL (ab 0) (fC (.int 2))) ag)))) (p:=λ_=>true) (h:=λk=>.bool (decide (0<=P.getD k 0)&&decide (P.getD k 0<=(aK W k).2.2))) hz (by lia)
  λi hi=>⟨rfl,λ_=>call_of (gE (d:=.int (P.getD i 0)) rfl 0 (aK W i).2.2) rfl rfl⟩
 have XJ:(fB (cq nr (aa (da (ay 2 [] (gz (aa (ab 2) (aa (ab 1) ag))) (jd 0 1) (λ_=>some true) (ai 3 bM (aa (ab 1) (aa (fC (.int 0)) (aa (f2 aL (ab 0) (fC (.int 2))) ag)))))) ag))) [some (aJ G T W),some (af P),some (.tuple (W.map az))]=some (Sk W P):=by
  refine bh ?_;simp?[cq,aa,ag,da,c2,zB,zA];rw[show (List.range W.length).filter (λ_=>true)=List.range W.length by simp,uk];rfl
 have k0:=CJ h hp hs false;have k1:=CJ h hp hs true;cases hb:Sk W P with
 | false =>
  rw[hb] at XJ;refine fK ((dm (fU XJ)).trans ?_);rw[Ry,hb];exact aX rfl
 | true =>
  rw[hb] at XJ;rw[av (cT (fU XJ)),Ry,hb,jJ];exact aX (JQ (call_of k0 rfl rfl) (call_of k1 rfl rfl))
def sG(hk:k < W.length):aK W k∈W:=my hk ▸ xZ hk
def Pn.smP(h:Wd G T W)(p:Pn G T W P):Sm P:=λk=>by
 by_cases hk:k < W.length
 ·have:=p.bd k hk;have:=(h.wr _ (sG hk)).2.2.2;lia
 ·rw[zG,jK (by rw[p.len];lia)];simp
def sZ(h:Wd G T W)(p:Pn G T W P):lz [aJ G T W,af P]=some (.bool true):=by
 rw[EM h p.len (p.smP h),(Jp p.len).mpr p]
def cE(h:Wd G T W)(p:Pn G T W P):bS [aJ G T W,af P]=some .none:=by
 have:fW [.val (aJ G T W),.val (af P)]=some (.nx [.val (aJ G T W),.val (af P)]):=by
  unfold fW;refine (av (mK (call_of (tE h) rfl rfl))).trans ?_;exact cT (fU (bh (call_of (sZ h p) rfl rfl)))
 show (fW [.val (aJ G T W),.val (af P)]).map _=_;rw[this];rfl
def tup_is(h:fs ρ=some ds)(hl:ds.length<=1000):aR fs ρ=some (.tuple ds):=by
 simp?[aR,h,zA,bX (show ds.length<=4000 by lia),zB]
def EC{fi:Dl.Env->Δ (Γ D)}{te:Dl.Env->Δ D}{ρ:Dl.Env}{is:Γ Nat}{f:Nat->D}(WG:fi ρ=some (is.map nD))(hl:is.length<=1000)(hh:∀i∈is,te (some (nD i)::cs.map λj=>(ρ[j]?).getD none)=some (f i)):ay 1 cs fi (fG 0) (λ_=>some true) te ρ=some (is.map f):=by
 rw[cU (h:=λd=>f (lM d).toNat) WG (by rw[zD];lia) λd hd=>?_]
 ·rw[zM];refine jB some (yH λi _=>?_);simp[lM]
 ·let⟨i,hi,rfl⟩:=List.mem_map.mp hd;rw[hh i hi];simp[lM]
def JI(h:f ρ=some (.list ds))(h2:g ρ=some (nD k)):oH ij f (DY g) oF ρ=some (.list (ds.drop k)):=by
 have:=zv ds k;simp?[oH,h,DY,h2,oF,gI,ij,zA,zB,this]
def Ef(is:Γ Nat):Rf.Ik [.list (is.map λi=>.bool (p i))]=some (.bool (is.any p)):=by
 have:∀is:Γ Nat,boolsOf (is.map λi=>PyData.bool (p i))=some (is.map p):=λis=>by
  induction is with
  | nil=>rfl
  | cons i is ih=>simp[boolsOf,ih]
 simp?[Rf.Ik,oneOf,zA,this,zB,wD];rfl
def mW(f:α->β)(p:β->θ)(q:α->θ):∀ (l:Γ α),(∀x∈l,p (f x)=q x)->(l.map f).findIdx p=l.findIdx q
 | [],_=>rfl
 | x::l,h=>by
  rw[zI,kU,kU,h x zE,mW f p q l λy hy=>h y (zC _ hy)]
def OU(h:Wd G T W){b:θ}{i:Nat}(e:(br b G T)[i]?=some p){k:Nat}(hk:k < W.length)(he:aU b (aK W k)=i):mF (.list ((jy b W i p.2).map nD)) (nD k)=some (nD (lX p.2 (bG b (aK W k)))):=by
 have ko:k∈own b W i:=eX.mpr ⟨hk,he⟩;have km:k∈jy b W i p.2:=(gy h e).mem_iff.mpr ko;have e1:(jy b W i p.2).map nD=((jy b W i p.2).map λj=>((j:Nat):Int)).map PyData.int:=by rw[zM];rfl
 have m1:((k:Nat):Int)∈(jy b W i p.2).map λj=>((j:Nat):Int):=List.mem_map.mpr ⟨k,km,rfl⟩;rw[e1];show (intsOf _).bind _=_;rw[bB,zA,lR m1,zB];have e2:((jy b W i p.2).map λj=>((j:Nat):Int)).findIdx (λo=>decide (o=((k:Nat):Int)))=lX p.2 (bG b (aK W k)):=by
  unfold jy lX;rw[zM];refine mW _ _ _ _ λx hx=>?_;let⟨hl,h1,h2⟩:=lE h e hx;show decide (((pI b W i x:Nat):Int)=(k:Int))=decide (x=bG b (aK W k));rw[decide_eq_decide];constructor
  ·intro z;have z:pI b W i x=k:=by lia
   rw[<- z,h2]
  ·intro z;rw[z,uL h.wp ko]
 rw[e2]
def nR(h:Wd G T W)(hp:P.length=W.length)(hs:Sm P)(b:θ){k:Nat}(hk:k < W.length):fY [aJ G T W,af P,.int (sI b),nD k]=some (.bool (su b G T W P k)):=by
 have hw:=h.wl;let⟨z1,z2,z3⟩:=h.VY b hk;have hx:(br b G T)[(aU b (aK W k)).toNat]?=some (eB b G T (aU b (aK W k)).toNat):=by
  rw[zK z2];simp[eB,z2]
 have hL:∀x∈(eB b G T (aU b (aK W k)).toNat).2,_:=λx YF=>lE h hx YF;have hb:(eB b G T (aU b (aK W k)).toNat).2.length<=16:=by
  have:=(gy h hx).length_eq;have h2:=vb b W ((aU b (aK W k)).toNat:Int);unfold jy at this;rw[zD] at this;lia
 have ei:=OU h hx hk z3.symm;have ew:=uj h hx;generalize V1:eB b G T (aU b (aK W k)).toNat=pl at *;generalize hj:(aU b (aK W k)).toNat=j at *;have ez:PyData.int (aU b (aK W k))=nD j:=by rw[<- z3]
 refine bz ?_;show iJ [.val (aJ G T W),.val (af P),.val (.int (sI b)),.val (nD k),.Vs,.Vs,.Vs]=_;unfold iJ;have t4:Dl.aS 4 [0,2,3] (f2 aL (f2 aL (f2 aL (ab 0) (fC (.int 2))) (ab 3)) (ab 2)) [.val (aJ G T W),.val (af P),.val (.int (sI b)),.val (nD k),.Vs,.Vs,.Vs]=some (.nx [.val (aJ G T W),.val (af P),.val (.int (sI b)),.val (nD k),.val (nD j),.Vs,.Vs]):=by
  rw[<- ez];exact cA (d:=.int (aU b (aK W k))) (aq (lG b _) (aq (AO hk) rfl rfl) rfl) rfl
 rw[av t4];have ep:aL (.tuple ((br b G T).map bE)) (nD j)=some (bE pl):=ka hx;have ct:(fB (f2 FD (ai 4 dG (aa (ab 0) (aa (ab 1) (aa (ab 2) (aa (ab 4) ag))))) (f2 aL (f2 aL (f2 aL (ab 0) (ab 2)) (ab 4)) (fC (.int 0))))) (aQ [.val (aJ G T W),.val (af P),.val (.int (sI b)),.val (nD k),.val (nD j),.Vs,.Vs])=some (decide (jn b W P j < pl.1)):=by
  refine bh (aq (lJ _ _) (call_of (oY h hp hs b j) rfl rfl) ?_);refine aq (a:=bE pl) (b:=.int 0) rfl (aq ep (aq (mZ b G T W) rfl rfl) rfl) rfl
 have hm:su b G T W P k=(decide (jn b W P j < pl.1)||(pl.2.drop (lX pl.2 (bG b (aK W k))+1)).any λo=>decide (0 < P.getD (pI b W j o) 0)):=by
  unfold su;rw[hj,V1,z3]
 rw[hm];cases hc:decide (jn b W P j < pl.1) with
 | true =>
  rw[hc] at ct;exact fK ((dm ct).trans (aX rfl))
 | false =>
  rw[hc] at ct;rw[av (cT ct),Bool.false_or];have t5:Dl.aS 5 [0,2,4] (ai 3 iB (aa (ab 0) (aa (ab 2) (aa (ab 4) ag)))) [.val (aJ G T W),.val (af P),.val (.int (sI b)),.val (nD k),.val (nD j),.Vs,.Vs]=some (.nx [.val (aJ G T W),.val (af P),.val (.int (sI b)),.val (nD k),.val (nD j),.val (.list ((jy b W j pl.2).map nD)),.Vs]) :=
   bU (call_of ew rfl rfl) (call_of ew rfl rfl) rfl
  rw[av t5];have cu:∀ρ:Dl.Env,ab 5 ρ=some (.list ((jy b W j pl.2).map nD))->ab 3 ρ=some (nD k)->(oH ij (ab 5) (DY (f2 aH (f2 mF (ab 5) (ab 3)) (fC (.int 1)))) oF) ρ=some (.list (((jy b W j pl.2).map nD).drop (lX pl.2 (bG b (aK W k))+1))):=λρ a c =>
   JI a (aq (cC _ _) (aq ei a c) rfl)
  have t6:Dl.aS 6 [3,5] (oH ij (ab 5) (DY (f2 aH (f2 mF (ab 5) (ab 3)) (fC (.int 1)))) oF) [.val (aJ G T W),.val (af P),.val (.int (sI b)),.val (nD k),.val (nD j),.val (.list ((jy b W j pl.2).map nD)),.Vs]=some (.nx [.val (aJ G T W),.val (af P),.val (.int (sI b)),.val (nD k),.val (nD j),.val (.list ((jy b W j pl.2).map nD)),.val (.list (((jy b W j pl.2).drop (lX pl.2 (bG b (aK W k))+1)).map nD))]):=by
   rw[List.map_drop];exact bU (cu _ rfl rfl) (cu _ rfl rfl) rfl
  rw[av t6];have c:ay 1 [1] (cH (ab 6)) (fG 0) (λ_=>some true) (f2 A4 (f2 aL (ab 1) (ab 0)) (fC (.int 0))) [some (aJ G T W),some (af P),some (.int (sI b)),some (nD k),some (nD j),some (.list ((jy b W j pl.2).map nD)),some (.list (((jy b W j pl.2).drop (lX pl.2 (bG b (aK W k))+1)).map nD))]=some (((jy b W j pl.2).drop (lX pl.2 (bG b (aK W k))+1)).map λi=>.bool (decide (0 < P.getD i 0))):=by
   refine EC rfl ?_ λi hi=>?_
   ·rw[qG,jy,zD];lia
   ·have Wv:=List.mem_of_mem_drop hi;unfold jy at Wv;let⟨x,YF,rfl⟩:=List.mem_map.mp Wv;exact aq (et _ _) (aq (ou (by rw[hp];exact (hL x YF).1)) rfl rfl) rfl
  refine aX ?_;show cq Rf.Ik (aa (da (ay 1 [1] (cH (ab 6)) (fG 0) (λ_=>some true) (f2 A4 (f2 aL (ab 1) (ab 0)) (fC (.int 0))))) ag) [some (aJ G T W),some (af P),some (.int (sI b)),some (nD k),some (nD j),some (.list ((jy b W j pl.2).map nD)),some (.list (((jy b W j pl.2).drop (lX pl.2 (bG b (aK W k))+1)).map nD))]=_;simp?[cq,aa,ag,da,c,zB,zA,Ef];unfold jy;rw[<- List.map_drop,wD];rfl
def MI:Nat->D|0=>.str "full" | 1=>.str "giver" | 2=>.str "taker" | _=>.none
def qm(h:Wd G T W)(hp:P.length=W.length)(hs:Sm P)(hk:k < W.length):iM [aJ G T W,af P,nD k]=some (MI (gW G T W P k)):=by
 refine bz ?_;show mJ [.val (aJ G T W),.val (af P),.val (nD k)]=_;unfold mJ gW;have c1:abF (aQ [.val (aJ G T W),.val (af P),.val (nD k)])=some (decide (P.getD k 0=(aK W k).2.2)) :=
  bh (aq (b0 _ _) (aq (ou (by rw[hp];exact hk)) rfl rfl) (aq (a:=az (aK W k)) (b:=.int 2) rfl (aq (AO hk) rfl rfl) rfl))
 have w0:=nR h hp hs false hk;have w1:=nR h hp hs true hk;have c2:abG (aQ [.val (aJ G T W),.val (af P),.val (nD k)])=some (!(su false G T W P k)):=fU (bh (call_of w0 rfl rfl));have c3:abH (aQ [.val (aJ G T W),.val (af P),.val (nD k)])=some (!(su true G T W P k)):=fU (bh (call_of w1 rfl rfl));by_cases e1:P.getD k 0=(aK W k).2.2
 ·rw[yA e1] at c1;rw[yK e1];exact fK ((dm c1).trans (aX rfl))
 ·rw[zZ e1] at c1;rw[yM e1,av (cT c1)];cases e2:su false G T W P k with
  | false =>
   rw[e2] at c2;rw[yK rfl];exact fK ((dm c2).trans (aX rfl))
  | true =>
   rw[e2] at c2;rw[yM (by simp),av (cT c2)];cases e3:su true G T W P k with
   | false =>
    rw[e3] at c3;rw[yK rfl];exact fK ((dm c3).trans (aX rfl))
   | true =>
    rw[e3] at c3;rw[yM (by simp),av (cT c3)];exact aX rfl
def Bj(G T:Γ Pl)(W:Γ Wy)(P:Γ Int)(k:Nat):gW G T W P k<=3:=by
 unfold gW;split
 ·lia
 ·split
  ·lia
  ·split<;>lia
def uM(n:Nat)(h:n<=3):wt (MI n) .none=some (.bool (decide (n=3))):=by
 match n,h with
 | 0,_=>rfl
 | 1,_=>rfl
 | 2,_=>rfl
 | 3,_=>rfl
def nG{W:Γ Wy}{P:Γ Int}(hp:P.length=W.length)(hf:f ρ=some (af P)):(aa (cq cf (aa f ag)) ag) ρ=some [nD W.length]:=by
 have:=KM P;rw[hp] at this;refine cons_of ?_ rfl;rw[Bt hf,this]
def pQ(h:Wd G T W)(hp:P.length=W.length)(hs:Sm P):bO [aJ G T W,af P]=some (match (List.range W.length).find? λk=>decide (gW G T W P k=3) with|some k=>nD k|none=>.none):=by
 have hw:=h.wl;refine bz ?_;show fM [.val (aJ G T W),.val (af P),.Vs]=_;unfold fM;let⟨f1,Xj⟩:=gp (tgt:=oW 2) (gb:=iH aak X0 gV) (λρ=>∃x,ρ=[.val (aJ G T W),.val (af P),x]) nD (λk=>decide (gW G T W P k=3)) nD
  (l:=List.range W.length) (ρ:=[.val (aJ G T W),.val (af P),.Vs])
  (λρ k hk Y4=>by
   let⟨x,rfl⟩:=Y4;have Yh:k < W.length:=by simpa using hk
   have c:aak (aQ [.val (aJ G T W),.val (af P),.val (nD k)])=some (decide (gW G T W P k=3)) :=
    bh (aq (uM _ (Bj G T W P k)) (call_of (qm h hp hs Yh) rfl rfl) rfl)
   refine⟨_,rfl,λhq=>?_,λhq=>?_⟩
   ·show iH _ _ _ [.val (aJ G T W),.val (af P),.val (nD k)]=_;rw[hq] at c;exact (dm c).trans (aX rfl)
   ·rw[hq] at c;exact⟨_,cT c,_,rfl⟩) ⟨_,rfl⟩
 have hr:bL aaj [some (aJ G T W),some (af P),none]=some ((List.range W.length).map nD):=iW (nG hp rfl) (by lia);cases e:(List.range W.length).find? λk=>decide (gW G T W P k=3) with
 | some k=>exact fK (dS (f1 k e) hr rfl)
 | none =>
  let⟨ρ',e',x,rfl⟩:=Xj e;exact (av (dS e' hr rfl)).trans (aX rfl)
def pN:∀ (is:Γ Nat),(∀i∈is,tt (some (nD i)::r)=some (q i)/\(q i=true->te (some (nD i)::r)=some (f i)))->di (fG 0) tt te (none::r) (is.map nD)=some ((is.filter q).map f)
 | [],_=>rfl
 | i::is,h=>by
  have ih:=pN (tt:=tt) (te:=te) (r:=r) (f:=f) (q:=q) is λj hj=>h j (zC _ hj);let⟨h1,h2⟩:=h i zE;have hg:fG 0 (none::r) (nD i)=some (some (nD i)::r):=rfl;rw[zI,di,hg,zA,h1,zA,jV];cases e:q i with
  | true =>
   rw[yK rfl,yK rfl,h2 e,zA,ih];rfl
  | false =>
   rw[yM (by simp),yM (by simp),ih]
def mz{fi:Dl.Env->Δ (Γ D)}{tt:Dl.Env->Δ θ}{te:Dl.Env->Δ D}{ρ:Dl.Env}{is:Γ Nat}{f:Nat->D}{q:Nat->θ}(WG:fi ρ=some (is.map nD))(hl:is.length<=1000)(hh:∀i∈is,tt (some (nD i)::cs.map λj=>(ρ[j]?).getD none)=some (q i)/\(q i=true->te (some (nD i)::cs.map λj=>(ρ[j]?).getD none)=some (f i))):ay 1 cs fi (fG 0) tt te ρ=some ((is.filter q).map f):=by
 have:=pN is hh;simp?[ay,WG,zA,fE,List.replicate,xE,xN,this];refine bX ?_;rw[zD];refine yD (xO _ _) ?_;lia
def o8(h:Wd G T W)(p:Pn G T W P):eQ [aJ G T W,af P]=some (.list ((iG G T W P).map nD)):=by
 have hw:=h.wl;have hp:=p.len;refine bz ?_;show oZ [.val (aJ G T W),.val (af P)]=_;unfold oZ;refine (av (mK (call_of (cE h p) rfl rfl))).trans ?_;have c:ay 1 [0,1] Ys (fG 0) abJ (ab 0) [some (aJ G T W),some (af P)]=some ((iG G T W P).map nD) :=
  mz (iW (nG hp rfl) (by lia)) (by rw[zR];lia) λk hk=>⟨bh (aq (uM _ (Bj G T W P k)) (call_of (qm h hp (p.smP h) (by simpa using hk)) rfl rfl) rfl),λ_=>rfl⟩
 refine aX ?_;show da _ [some (aJ G T W),some (af P)]=_;simp?[da,c,zB]
def BX(f:Nat->D)(R:Nat->ao->Prop):∀ (n k:Nat) (ρ:ao),
  (∀j ρ,k<=j->j < k+n->R j ρ->∃ρ1 Wb,tgt ρ (f j)=some ρ1/\gb ρ1=some (.nx Wb)/\R (j+1) Wb)->R k ρ->∃ρ',fq tgt gb ((List.range' k n).map f) ρ=some (.nx ρ')/\R (k+n) ρ'
 | 0,k,ρ,_,h=>⟨ρ,rfl,h⟩
 | n+1,k,ρ,hh,h=>by
  let⟨ρ1,Wb,e1,e2,h2⟩:=hh k ρ (yL _) (by lia) h;let⟨ρ',e3,h3⟩:=BX f R n (k+1) Wb (λj ρ a b=>hh j ρ (by lia) (by lia)) h2;refine⟨ρ',?_,by rw[show k+(n+1)=k+1+n by lia];exact h3⟩;rw[kZ,zI,fq,e1,zA,e2];exact e3
def Rx(hl:n<=1000):Dl.dX (.tuple [.int 0]) (nD n)=some (af (zs n)):=by
 have e:zi (.tuple [.int 0]) (nD n)=some (af (zs n)):=by
  show (if pU ((n:Nat):Int)=true/\[PyData.int 0].length * ((n:Nat):Int).toNat<=sizeLine then some (PyData.tuple (List.replicate ((n:Nat):Int).toNat [PyData.int 0]).flatten) else none)=_;have hz:[PyData.int 0].length * n<=sizeLine:=by
   rw[xB,Nat.one_mul];exact yD hl (by decide)
  rw[yG,yK ⟨wy hl,hz⟩,LU];rfl
 show ((xb tx λi j=>PyData.int (i * j)) (.tuple [.int 0]) (nD n)).or (zi (.tuple [.int 0]) (nD n))=_;rw[e];rfl
def qv{W:Γ Wy}{P:Γ Int}(h:P.length=W.length):j9 (P.map PyData.int) (W.map az)=(List.range W.length).map λi=>.tuple [.int (P.getD i 0),az (aK W i)]:=by
 have:∀ (a:Γ Int) (l:Γ Wy),a.length=l.length->j9 (a.map PyData.int) (l.map az)=(List.range l.length).map λi=>.tuple [.int (a.getD i 0),az (aK l i)]:=by
  intro a
  induction a with
  | nil=>intro l e;cases l with|nil=>rfl|cons _ _=>simp at e
  | cons x a ih =>
   intro l e;cases l with
   | nil=>simp at e
   | cons w l =>
    rw[zI,zI,j9,ih l (by simpa using e),zL,vG,zI,zM];rfl
 exact this P W h
def qq(h:Wd G T W)(hp:P.length=W.length)(hs:Sm P)(b:θ)(p:Int):j7 [aJ G T W,af P,.int (sI b),.int p]=some (.int (jn b W P p)):=by
 have hw:=h.wl;refine bz ?_;show pG [.val (aJ G T W),.val (af P),.val (.int (sI b)),.val (.int p)]=_;have hz:gz (aa (ab 1) (aa (f2 aL (ab 0) (fC (.int 2))) ag)) [some (aJ G T W),some (af P),some (.int (sI b)),some (.int p)]=some ((List.range W.length).map λi=>.tuple [.int (P.getD i 0),az (aK W i)]):=by
  rw[<- qv hp];rfl
 have c:ay 2 [2,3] (gz (aa (ab 1) (aa (f2 aL (ab 0) (fC (.int 2))) ag))) (jd 0 1) (fB (f2 bu (f2 aL (ab 1) (ab 2)) (ab 3))) (ab 0) [some (aJ G T W),some (af P),some (.int (sI b)),some (.int p)]=some ((own b W p).map λi=>.int (P.getD i 0)):=by
  rw[nJ (p:=λi=>decide (aU b (aK W i)=p)) (h:=λi=>.int (P.getD i 0)) hz (by lia) λi hi=>⟨?_,λ_=>rfl⟩]
  ·rfl
  ·show fB (f2 bu (f2 aL (ab 1) (ab 2)) (ab 3)) [some (.int (P.getD i 0)),some (az (aK W i)),some (.int (sI b)),some (.int p)]=_;exact bh (by rw[iy (a:=.int (aU b (aK W i))) (b:=.int p) (aq (lG b _) rfl rfl) rfl,b0])
 refine aX ?_;have e:((own b W p).map λi=>PyData.int (P.getD i 0))=((own b W p).map λi=>P.getD i 0).map PyData.int:=by rw[zM];rfl
 show cq sU (aa (da (ay 2 [2,3] (gz (aa (ab 1) (aa (f2 aL (ab 0) (fC (.int 2))) ag))) (jd 0 1) (fB (f2 bu (f2 aL (ab 1) (ab 2)) (ab 3))) (ab 0))) ag) [some (aJ G T W),some (af P),some (.int (sI b)),some (.int p)]=_;rw[e] at c;simp?[cq,aa,ag,da,c,zB,zA];show sU [.list (((own b W p).map λi=>P.getD i 0).map PyData.int)]=_;simp?[sU,eD,oneOf,gO,zA,bB,CD hs hw b p,xG];rfl
def TV:ao->Δ Out:=abO
def KP(h:Wd G T W)(hp:P.length=W.length)(hs:Sm P)(b:θ)(x y:Slot):(BZ b G T W P=false->TV [.val (aJ G T W),.val (af P),.val (.int (sI b)),x,y]=some (.rt (.bool false)))/\(BZ b G T W P=true->∃x' y',TV [.val (aJ G T W),.val (af P),.val (.int (sI b)),x,y]=some (.nx [.val (aJ G T W),.val (af P),.val (.int (sI b)),x',y'])):=by
 have hl:=h.pl b;let⟨f1,Xj⟩:=gp (tgt:=gU 3 4) (gb:=iH aam aan gV)
  (λρ=>∃x y,ρ=[.val (aJ G T W),.val (af P),.val (.int (sI b)),x,y]) (λi:Nat=>.tuple [nD i,bE (eB b G T i)]) (λi=>decide ((eB b G T i).1 < jn b W P i)) (λ_=>.bool false)
  (l:=List.range (br b G T).length) (ρ:=[.val (aJ G T W),.val (af P),.val (.int (sI b)),x,y])
  (λρ i hi Y4=>by
   let⟨x,y,rfl⟩:=Y4;have c:aam (aQ [.val (aJ G T W),.val (af P),.val (.int (sI b)),.val (nD i),.val (bE (eB b G T i))])=some (decide ((eB b G T i).1 < jn b W P i)) :=
    bh (aq (et _ _) (call_of (qq h hp hs b i) rfl rfl) (aq (a:=bE (eB b G T i)) (b:=.int 0) rfl rfl rfl))
   refine⟨_,rfl,λhq=>?_,λhq=>?_⟩
   ·rw[hq] at c;exact (dm c).trans (aX rfl)
   ·rw[hq] at c;exact⟨_,cT c,_,_,rfl⟩) ⟨_,_,rfl⟩
 have he:bI abL (bp [.val (aJ G T W),.val (af P),.val (.int (sI b)),x,y])=some ((List.range (br b G T).length).map λi=>.tuple [nD i,bE (eB b G T i)]):=by
  have:=sg (br b G T);unfold eB;rw[<- this];cases b<;>rfl
 have hh:hand [0,2] 0 [Slot.val (aJ G T W),.val (af P),.val (.int (sI b)),x,y]=[Slot.val (aJ G T W),.val (af P),.val (.int (sI b)),x,y]:=rfl;unfold BZ;constructor
 ·intro hk;cases e:(List.range (br b G T).length).find? λi=>decide ((eB b G T i).1 < jn b W P i) with
  | some i=>exact dS (f1 i e) he hh
  | none =>
   rw[List.find?_eq_none] at e;rw[List.all_eq_false] at hk;let⟨i,hi,hn⟩:=hk;have:=e i hi;simp?[zJ] at this hn;lia
 ·intro hk;have e:(List.range (br b G T).length).find? (λi=>decide ((eB b G T i).1 < jn b W P i))=none:=by
   rw[List.find?_eq_none];intro i hi;have:=List.all_eq_true.mp hk i hi;simp?[zJ] at this ⊢;lia
  let⟨ρ',e',x',y',rfl⟩:=Xj e;exact⟨x',y',dS e' he hh⟩
def On:sX G T W P=(BZ false G T W P&&BZ true G T W P):=rfl
def Ax(h:Wd G T W)(hp:P.length=W.length)(hs:Sm P):dI [aJ G T W,af P]=some (.bool (sX G T W P)):=by
 let⟨f1,Xj⟩:=gp (tgt:=oW 2) (gb:=TV)
  (λρ=>∃x y z,ρ=[.val (aJ G T W),.val (af P),x,y,z]) (λb:θ=>.int (sI b)) (λb=>!(BZ b G T W P)) (λ_=>.bool false)
  (l:=[false,true]) (ρ:=[.val (aJ G T W),.val (af P),.Vs,.Vs,.Vs])
  (λρ b _ Y4=>by
   let⟨x,y,z,rfl⟩:=Y4;let⟨r1,r2⟩:=KP h hp hs b y z;refine⟨_,rfl,λhq=>?_,λhq=>?_⟩
   ·exact r1 (by simpa using hq)
   ·let⟨x',y',e⟩:=r2 (by simpa using hq);exact⟨_,e,_,_,_,rfl⟩) ⟨_,_,_,rfl⟩
 have hr:bL (aa (fC (.int 2)) ag) (bp [.val (aJ G T W),.val (af P),.Vs,.Vs,.Vs])=some ([false,true].map λb=>.int (sI b)):=iW (n:=2) rfl (by lia);refine bz ?_;show lx [.val (aJ G T W),.val (af P),.Vs,.Vs,.Vs]=_;unfold lx;rw[On];cases e0:BZ false G T W P with
 | false =>
  have e:[false,true].find? (λb=>!(BZ b G T W P))=some false:=by rw[vI (by simp[e0])]
  exact fK (dS (f1 _ e) hr rfl)
 | true =>
  cases e1:BZ true G T W P with
  | false =>
   have e:[false,true].find? (λb=>!(BZ b G T W P))=some true:=by rw[kF (by simp[e0]),vI (by simp[e1])]
   exact fK (dS (f1 _ e) hr rfl)
  | true =>
   have e:[false,true].find? (λb=>!(BZ b G T W P))=none:=by rw[kF (by simp[e0]),kF (by simp[e1])];rfl
   let⟨ρ',e',x,y,z,rfl⟩:=Xj e;exact (av (dS e' hr rfl)).trans (aX rfl)
def Sm.app(ha:Sm a)(hb:Sm b):Sm (a++b):=λk=>by
 by_cases hk:k < a.length
 ·have:=ha k
  rwa [show (a++b).getD k 0=a.getD k 0 by simp[yR hk]]
 ·have:=hb (k - a.length)
  rwa [show (a++b).getD k 0=b.getD (k - a.length) 0 by simp[yS (by lia:a.length<=k)]]
def Pd(h1:-1000000<=x)(h2:x<=1000000):Sm [x]:=λk=>by
 cases k with
 | zero=>exact⟨h1,h2⟩
 | succ k=>simp
def Q5(n:Nat):Sm (zs n):=λk=>by rw[LV];lia
def tm(ns:Γ Int)(at':Int)(W:Γ Wy)(k:Nat):Int:=dr ns (at'+(k:Nat)) ((aK W k).2.2+1)
def BE(hl:ns.length<=63)(h:Wd G T W)(hk:k < W.length):0<=tm ns at' W k/\tm ns at' W k<=(aK W k).2.2:=by
 have:=(h.wr _ (sG hk)).2.2;have h1:=Mt (ns:=ns) (at'+(k:Nat)) ((aK W k).2.2+1) hl (by lia);have h2:=Mw (ns:=ns) (at'+(k:Nat)) ((aK W k).2.2+1) hl (by lia);unfold tm;lia
def Uc:ao->Δ Out:=(aD (aS 6 [0,1,3,4,5] (f2 aH (ab 3) (aR (aa (ai 3 aj (aa (ab 0) (aa (f2 aH (ab 1) (ab 4)) (aa (f2 aH (f2 aL (ab 5) (fC (.int 2))) (fC (.int 1))) ag)))) ag)))) (aD (aS 7 [2,6] (ai 2 dI (aa (ab 2) (aa (f2 aH (ab 6) (f2 dX (aR (aa (fC (.int 0)) ag)) (f2 Dl.fx (cq cf (aa (f2 aL (ab 2) (fC (.int 2))) ag)) (cq cf (aa (ab 6) ag))))) ag)))) (aS 3 [3,6,7] (IZ (fB (ab 7)) (ab 6) (f2 aH (ab 3) (aR (aa (fC (.int 0)) ag)))))))
def vz(h:a.length+b.length<=1000):Dl.aH (af a) (af b)=some (af (a++b)):=by
 unfold af;rw[u6 (by simp;lia),qZ]
def wo(h:tc ρ=some true)(ha:fa ρ=some d):IZ tc fa fb ρ=some d:=by
 simp?[IZ,h,zA,ha]
def BC(h:tc ρ=some false)(ha:fb ρ=some d):IZ tc fa fb ρ=some d:=by
 simp?[IZ,h,zA,ha]
def Oi(hl:ns.length<=63)(h:Wd G T W)(hk:k<=W.length):Sm (mO (tm ns at' W) G T W k):=λj=>by
 by_cases hj:j < k
 ·have:=BG (d:=tm ns at' W) (G:=G) (T:=T) (W:=W) (λk hk=>BE hl h hk) h.lim k hk j hj;have:=(h.wr _ (sG (show j < W.length by lia))).2.2;lia
 ·rw[zG,jK (by rw[nc];lia)];simp
def Jj(hl:ns.length<=63)(h:Wd G T W)(hk:k < W.length)(x y:Slot):∃x' y',Uc [.val (bT ns),.val (.int at'),.val (aJ G T W),.val (af (mO (tm ns at' W) G T W k)),.val (nD k),.val (az (aK W k)),x,y]=some (.nx [.val (bT ns),.val (.int at'),.val (aJ G T W),.val (af (mO (tm ns at' W) G T W (k+1))),.val (nD k),.val (az (aK W k)),x',y']):=by
 have hw:=h.wl;have hr:=(h.wr _ (sG hk)).2.2;have hsm:=Oi (at':=at') hl h (jR hk);have Xx:=nc (d:=tm ns at' W) (G:=G) (T:=T) (W:=W) k;have Wz:=BE (at':=at') hl h hk;have e2:mO (tm ns at' W) G T W (k+1)=if sX G T W ((mO (tm ns at' W) G T W k++[tm ns at' W k])++zs (W.length - (mO (tm ns at' W) G T W k++[tm ns at' W k]).length))=true then mO (tm ns at' W) G T W k++[tm ns at' W k] else mO (tm ns at' W) G T W k++[0]:=rfl
 rw[e2];clear e2;generalize hf:mO (tm ns at' W) G T W k=f at hsm Xx ⊢;generalize hd:tm ns at' W k=d at Wz ⊢;have ed:∀ρ:Dl.Env,ab 0 ρ=some (bT ns)->ab 1 ρ=some (.int at')->ab 4 ρ=some (nD k)->ab 5 ρ=some (az (aK W k))->(ai 3 aj (aa (ab 0) (aa (f2 aH (ab 1) (ab 4)) (aa (f2 aH (f2 aL (ab 5) (fC (.int 2))) (fC (.int 1))) ag)))) ρ=some (.int d):=λρ a b c e=>by
  rw[<- hd];exact call_of (uz (at'+((k:Nat):Int)) ((aK W k).2.2+1) hl (by lia)) (cons_of a (cons_of (aq (cC at' k) b c) (cons_of (aq (cC (aK W k).2.2 1) (aq (Lp _) e rfl) rfl) rfl))) rfl
 have em:∀ρ:Dl.Env,ab 0 ρ=some (bT ns)->ab 1 ρ=some (.int at')->ab 3 ρ=some (af f)->ab 4 ρ=some (nD k)->ab 5 ρ=some (az (aK W k))->(f2 aH (ab 3) (aR (aa (ai 3 aj (aa (ab 0) (aa (f2 aH (ab 1) (ab 4)) (aa (f2 aH (f2 aL (ab 5) (fC (.int 2))) (fC (.int 1))) ag)))) ag))) ρ=some (af (f++[d])):=λρ a b z c e =>
  aq (vz (a:=f) (b:=[d]) (by simp;lia)) z (Ln (ed ρ a b c e))
 have t6:Dl.aS 6 [0,1,3,4,5] (f2 aH (ab 3) (aR (aa (ai 3 aj (aa (ab 0) (aa (f2 aH (ab 1) (ab 4)) (aa (f2 aH (f2 aL (ab 5) (fC (.int 2))) (fC (.int 1))) ag)))) ag))) [.val (bT ns),.val (.int at'),.val (aJ G T W),.val (af f),.val (nD k),.val (az (aK W k)),x,y]=some (.nx [.val (bT ns),.val (.int at'),.val (aJ G T W),.val (af f),.val (nD k),.val (az (aK W k)),.val (af (f++[d])),y]) :=
  bU (em _ rfl rfl rfl rfl rfl) (em _ rfl rfl rfl rfl rfl) rfl
 have hlen:(f++[d]).length=k+1:=by simp[Xx]
 have Xo:((W.length:Nat):Int) - (((f++[d]).length:Nat):Int)=((W.length - (f++[d]).length:Nat):Int):=by lia
 have Yg:((f++[d])++zs (W.length - (f++[d]).length)).length=W.length:=by simp[zs,Xx];lia
 have X7:Sm ((f++[d])++zs (W.length - (f++[d]).length)):=(hsm.app (Pd (by lia) (by lia))).app (Q5 _);have ef:∀ρ:Dl.Env,ab 2 ρ=some (aJ G T W)->ab 6 ρ=some (af (f++[d]))->(ai 2 dI (aa (ab 2) (aa (f2 aH (ab 6) (f2 dX (aR (aa (fC (.int 0)) ag)) (f2 Dl.fx (cq cf (aa (f2 aL (ab 2) (fC (.int 2))) ag)) (cq cf (aa (ab 6) ag))))) ag))) ρ=some (.bool (sX G T W ((f++[d])++zs (W.length - (f++[d]).length)))):=λρ a b=>by
  refine call_of (Ax h Yg X7) (cons_of a (cons_of (aq (vz ?_) b (aq (Rx (n:=W.length - (f++[d]).length) (by lia)) (Ln rfl) ?_)) rfl)) rfl
  ·rw[<- zN,Yg];lia
  ·rw[show nD (W.length - (f++[d]).length)=.int (((W.length:Nat):Int) - (((f++[d]).length:Nat):Int)) by rw[Xo]];exact aq (sub_int _ _) (AA (l:=W) (k:=az) (aq (BN G T W) a rfl)) (AA (l:=f++[d]) (k:=PyData.int) b)
 have t7:Dl.aS 7 [2,6] (ai 2 dI (aa (ab 2) (aa (f2 aH (ab 6) (f2 dX (aR (aa (fC (.int 0)) ag)) (f2 Dl.fx (cq cf (aa (f2 aL (ab 2) (fC (.int 2))) ag)) (cq cf (aa (ab 6) ag))))) ag))) [.val (bT ns),.val (.int at'),.val (aJ G T W),.val (af f),.val (nD k),.val (az (aK W k)),.val (af (f++[d])),y]=some (.nx [.val (bT ns),.val (.int at'),.val (aJ G T W),.val (af f),.val (nD k),.val (az (aK W k)),.val (af (f++[d])),.val (.bool (sX G T W ((f++[d])++zs (W.length - (f++[d]).length))))]) :=
  bU (ef _ rfl rfl) (ef _ rfl rfl) rfl
 unfold Uc;rw[av t6,av t7];have h0:∀ρ:Dl.Env,ab 3 ρ=some (af f)->(f2 aH (ab 3) (aR (aa (fC (.int 0)) ag))) ρ=some (af (f++[0])):=λρ z=>aq (vz (a:=f) (b:=[0]) (by simp;lia)) z (Ln rfl);generalize sX G T W ((f++[d])++zs (W.length - (f++[d]).length))=fb;cases fb with
 | true =>
  rw[yK rfl];exact⟨_,_,bU (wo (bh rfl) rfl) (wo (bh rfl) rfl) rfl⟩
 | false =>
  rw[yM (by simp)];exact⟨_,_,bU (BC (bh rfl) (h0 _ rfl)) (BC (bh rfl) (h0 _ rfl)) rfl⟩
def EA(W:Γ Wy):bK 0 (W.map az)=(List.range' 0 W.length).map λi=>.tuple [nD i,az (aK W i)]:=by
 rw[<- List.range_eq_range',enum_zip];apply jG
 ·simp
 ·intro i h1 h2;have:i < W.length:=by simpa using h2
  simp[my this]
def qt(hl:ns.length<=63)(h:Wd G T W):fu [bT ns,.int at',aJ G T W]=some (af (mO (tm ns at' W) G T W W.length)):=by
 have hw:=h.wl;let⟨ρ',e,x4,x5,x6,x7,rfl⟩:=BX (tgt:=gU 4 5) (gb:=Uc) (λi=>.tuple [nD i,az (aK W i)]) (λk ρ=>∃x4 x5 x6 x7,ρ=[.val (bT ns),.val (.int at'),.val (aJ G T W),.val (af (mO (tm ns at' W) G T W k)),x4,x5,x6,x7]) W.length 0 [.val (bT ns),.val (.int at'),.val (aJ G T W),.val (af []),.Vs,.Vs,.Vs,.Vs]
  (λj ρ _ hj Y4=>by
   let⟨x4,x5,x6,x7,rfl⟩:=Y4;let⟨x',y',e⟩:=Jj (at':=at') hl h (show j < W.length by lia) x6 x7;exact⟨_,_,rfl,e,_,_,_,_,rfl⟩) ⟨_,_,_,_,rfl⟩
 refine bz ?_;show jv [.val (bT ns),.val (.int at'),.val (aJ G T W),.Vs,.Vs,.Vs,.Vs,.Vs]=_;unfold jv;have t3:Dl.aS 3 [] (aR ag) [.val (bT ns),.val (.int at'),.val (aJ G T W),.Vs,.Vs,.Vs,.Vs,.Vs]=some (.nx [.val (bT ns),.val (.int at'),.val (aJ G T W),.val (af []),.Vs,.Vs,.Vs,.Vs]) :=
  bU (tup_is (ds:=[]) rfl (by simp)) (tup_is (ds:=[]) rfl (by simp)) rfl
 rw[av t3];have he:bI aap (bp [.val (bT ns),.val (.int at'),.val (aJ G T W),.val (af []),.Vs,.Vs,.Vs,.Vs])=some ((List.range' 0 W.length).map λi=>.tuple [nD i,az (aK W i)]):=by
  rw[<- EA];rfl
 rw[jC] at e;exact (av (dS e he rfl)).trans (aX rfl)
def BO(hl:ns.length<=63)(h:Wd G T W):Pn G T W (mO (tm ns at' W) G T W W.length):=NX h λk hk=>BE hl h hk
section
variable {P off:Γ Int}
def Ib:∀ (xs:Γ Nat),(∀i∈xs,0<=off.getD i 0)->0<=(xs.map λi=>off.getD i 0).sum
 | [],_=>by simp
 | i::xs,h=>by
  have:=Ib xs λj hj=>h j (zC _ hj);have:=h i zE;rw[zI,List.sum_cons];lia
def Cr:∀ (xs:Γ Nat),(∀i∈xs,0<=P.getD i 0)->(0 < (xs.map λi=>P.getD i 0).sum↔(xs.any λi=>decide (0 < P.getD i 0))=true)
 | [],_=>by simp
 | i::xs,h=>by
  have ih:=Cr xs λj hj=>h j (zC _ hj);have h0:=Ib (off:=P) xs λj hj=>h j (zC _ hj);have hi:=h i zE;rw[zI,List.sum_cons,kX,jA,zJ,<- ih];lia
def J4(h:Wd G T W){b:θ}(hk:k < W.length) :
  let i:=(aU b (aK W k)).toNat;let L:=(eB b G T i).2
  jy b W i L=(L.take (lX L (bG b (aK W k)))).map (pI b W i)++k::(L.drop (lX L (bG b (aK W k))+1)).map (pI b W i):=by
 intro i L;let⟨h1,h2,h3⟩:=h.VY b hk;have e:=uT h2;have hm:bG b (aK W k)∈L:=by
  rw[(h.lik e).mem_iff,<- pY];exact List.mem_map.mpr ⟨k,eX.mpr ⟨hk,h3.symm⟩,rfl⟩
 have VU:lX L (bG b (aK W k)) < L.length:=by
  unfold lX;exact kG ⟨_,hm,by simp⟩
 have hg:L[lX L (bG b (aK W k))]=bG b (aK W k):=by
  have:=vS (w:=VU);exact yP this
 have hx:pI b W i (bG b (aK W k))=k:=uL h.wp (eX.mpr ⟨hk,h3.symm⟩);unfold jy
 conv=>lhs;rw[<- List.take_append_drop (lX L (bG b (aK W k))) L,kR VU,hg,qZ,zI,hx]
end
def sm(l:Γ Nat)(f:Nat->Int):Int:=(l.map f).sum
def bQ(q:Nat)(l:Γ Nat)(f:Nat->Int):sm (q::l) f=f q+sm l f:=by simp[sm]
def HP(l r:Γ Nat)(f:Nat->Int):sm (l++r) f=sm l f+sm r f:=by simp[sm]
def Cm:∀ {l:Γ Nat}{f g:Nat->Int},(∀q∈l,f q<=g q)->sm l f<=sm l g
 | [],_,_,_=>xY _
 | q::l,f,g,h=>by
  have h1:=h q zE;have h2:=Cm (l:=l) λx hx=>h x (zC _ hx);rw[bQ,bQ];lia
def LM(h:∀q∈l,0<=f q):0<=sm l f:=by
 have:sm l (λ_=>0)=0:=by induction l with
  | nil=>rfl
  | cons q l ih=>rw[bQ,ih λx hx=>h x (zC _ hx)];rfl
 rw[<- this];exact Cm h
def Ly(p:l.Perm r)(f:Nat->Int):sm l f=sm r f:=by
 induction p with
 | nil=>rfl
 | cons x _ ih=>rw[bQ,bQ,ih]
 | swap x y l=>rw[bQ,bQ,bQ,bQ];lia
 | trans _ _ h1 h2=>rw[h1,h2]
def ch(m:Nat->Int):Int->Γ Nat->Nat->Int
 | _,[],_=>0
 | a,q::r,k=>if k=q then min (m q) a else ch m (a - min (m q) a) r k
def up:Γ Nat->Nat->Γ Nat
 | [],_=>[]
 | q::r,k=>if k=q then [q] else q::up r k
def Co(q:Nat)(r:Γ Nat):up (q::r) q=[q]:=by simp[up]
def Ct(h:k≠q):up (q::r) k=q::up r k:=by simp[up,h]
def Dk:∀ {l:Γ Nat}{k:Nat},k∈l->k∈up l k
 | x::l,k,h=>by
  by_cases e:k=x
  ·subst e;rw[Co];exact zE
  ·rw[Ct e];rcases List.mem_cons.mp h with z|z
   ·exact absurd z e
   ·exact zC _ (Dk z)
def vy:∀ {xs ys:Γ Nat}{k:Nat},k∉xs->up (xs++k::ys) k=xs++[k]
 | [],ys,k,_=>Co _ _
 | x::xs,ys,k,h=>by
  rw[zQ,not_or] at h;rw[xE,Ct h.1,vy h.2];rfl
def CN(hn:l.Nodup)(hk:k∈l):∃ys,l=up l k++ys/\(∀q∈ys,q∉up l k):=by
 let⟨xs,ys,rfl⟩:=List.append_of_mem hk;have hx:k∉xs:=λz=>by
  rw[wG] at hn;exact hn.2.2 k z k zE rfl
 refine⟨ys,by rw[vy hx];simp,λq hq Xd=>?_⟩;rw[vy hx] at Xd;rw[show xs++k::ys=(xs++[k])++ys by simp,wG] at hn;exact hn.2.2 q Xd q hq rfl
def cK(b:θ)(W:Γ Wy)(k:Nat):Nat:=(aU b (aK W k)).toNat
def lst(b:θ)(G T:Γ Pl)(W:Γ Wy)(i:Nat):Γ Nat:=jy b W i (eB b G T i).2
def WE(b:θ)(G T:Γ Pl)(i:Nat):Int:=(eB b G T i).1
def mm(W:Γ Wy)(off:Γ Int)(q:Nat):Int:=min (off.getD q 0) (aK W q).2.2
def vl(P:Γ Int)(q:Nat):Int:=P.getD q 0
section
variable {G T:Γ Pl}{W:Γ Wy}{P X c off:Γ Int}{b:θ}{i k q:Nat}
def wN(h:Wd G T W)(b:θ)(hk:k < W.length):cK b W k < (br b G T).length:=(h.VY b hk).2.1
def nC(h:Wd G T W)(hi:i < (br b G T).length):(lst b G T W i).Perm (own b W i):=gy h (uT hi)
def lL(h:Wd G T W)(hi:i < (br b G T).length):(lst b G T W i).Nodup:=(nC h hi).nodup_iff.mpr (List.nodup_range.filter _)
def lP(h:Wd G T W)(hi:i < (br b G T).length):q∈lst b G T W i↔q < W.length/\cK b W q=i:=by
 rw[(nC h hi).mem_iff,eX];constructor
 ·rintro⟨h1,h2⟩;exact⟨h1,by unfold cK;rw[h2];simp⟩
 ·rintro⟨h1,h2⟩;have:=(h.VY b h1).2.2;unfold cK at h2;rw[h2] at this;exact⟨h1,this.symm⟩
def xn(h:Wd G T W)(b:θ)(hk:k < W.length):k∈lst b G T W (cK b W k):=(lP h (wN h b hk)).mpr ⟨hk,rfl⟩
def mj(h:Wd G T W)(hi:i < (br b G T).length):jn b W P i=sm (lst b G T W i) (vl P):=by
 unfold jn;rw[Ly (nC h hi)];rfl
def Fl(b:θ)(G T:Γ Pl)(W:Γ Wy)(P:Γ Int)(k:Nat):Prop:=sm (up (lst b G T W (cK b W k)) k) (vl P)=WE b G T (cK b W k)
def Pn.nn(p:Pn G T W P)(q:Nat):0<=vl P q:=by
 by_cases hq:q < W.length
 ·exact (p.bd q hq).1
 ·unfold vl;rw[HI (by rw[p.len];lia)];lia
def Pn.acF(h:Wd G T W)(p:Pn G T W P)(hi:i < (br b G T).length):sm (lst b G T W i) (vl P)<=WE b G T i:=by
 rw[<- mj h hi];exact p.am b i hi
def QB(h:Wd G T W)(p:Pn G T W P)(b:θ)(hk:k < W.length):su b G T W P k=false↔Fl b G T W P k:=by
 let⟨z1,z2,z3⟩:=h.VY b hk;have hc:lst b G T W (cK b W k)=((eB b G T (cK b W k)).2.take (lX (eB b G T (cK b W k)).2 (bG b (aK W k)))).map (pI b W (cK b W k))++k::((eB b G T (cK b W k)).2.drop (lX (eB b G T (cK b W k)).2 (bG b (aK W k))+1)).map (pI b W (cK b W k)):=J4 h hk;have hn:=lL (b:=b) h z2;change (lst b G T W (cK b W k)).Nodup at hn;have hle:=p.acF h z2;change sm (lst b G T W (cK b W k)) (vl P)<=WE b G T (cK b W k) at hle;have hth:=mj (P:=P) h z2;have hy:su b G T W P k=(decide (jn b W P ((cK b W k:Nat):Int) < WE b G T (cK b W k))||(((eB b G T (cK b W k)).2.drop (lX (eB b G T (cK b W k)).2 (bG b (aK W k))+1)).map (pI b W (cK b W k))).any λq=>decide (0 < vl P q)):=by
  unfold su;rw[wD];unfold cK WE;rw[z3];rfl
 change jn b W P ((cK b W k:Nat):Int)=sm (lst b G T W (cK b W k)) (vl P) at hth;unfold Fl;rw[hy,hth];revert hc;generalize ((eB b G T (cK b W k)).2.take (lX (eB b G T (cK b W k)).2 (bG b (aK W k)))).map (pI b W (cK b W k))=xs;generalize ((eB b G T (cK b W k)).2.drop (lX (eB b G T (cK b W k)).2 (bG b (aK W k))+1)).map (pI b W (cK b W k))=ys;intro hc;have hx:k∉xs:=λz=>by
  rw[hc,wG] at hn;exact hn.2.2 k z k zE rfl
 rw[hc,vy hx];rw[hc] at hle;have e:sm (xs++k::ys) (vl P)=sm (xs++[k]) (vl P)+sm ys (vl P):=by
  rw[<- HP];simp
 have hnn:=LM (l:=ys) λq _=>p.nn q;have W2:=Cr (P:=P) ys λq _=>p.nn q;change (0 < sm ys (vl P)↔(ys.any λq=>decide (0 < vl P q))=true) at W2;rw[e] at hle ⊢;rw[Bool.or_eq_false_iff,xA];constructor
 ·rintro⟨h1,h2⟩;have:¬ 0 < sm ys (vl P):=λz=>by rw[W2.mp z] at h2;cases h2
  lia
 ·intro h1;refine⟨by lia,?_⟩;cases hh:(ys.any λq=>decide (0 < vl P q)) with
  | false=>rfl
  | true=>have:=W2.mpr hh;lia
end
section
variable {P X c off:Γ Int}
end
section
variable {P X c off:Γ Int}
end
section
variable {P X c off:Γ Int}
end
def HQ(h:f ρ=some ds):da f ρ=some (.list ds):=by
 simp?[da,h,zB]
def B3(h:f ρ=some (.list ds)):cH f ρ=some ds:=by
 simp?[cH,h,zA,gO]
def Oc(h:fs ρ=some ds)(hl:ds.length<=1000):gZ fs ρ=some ds:=by
 simp?[gZ,h,zA,bX (show ds.length<=4000 by lia)]
def nil_of(ρ:Dl.Env):da WD ρ=some (.list []):=HQ (Oc (ds:=[]) rfl (by simp))
def vp(h:t ρ=some false):fy t u ρ=some false:=by
 simp?[fy,h,zA]
def sd(h:t ρ=some true)(h2:u ρ=some b):fy t u ρ=some b:=by
 simp?[fy,h,zA,h2]
def fv{l:Γ Nat}:SeqAt.shaped (.list (l.map nD))=true :=
 (ib.lst (b:=l.length) (k:=0) (by simp) λx hx=>by let⟨i,_,rfl⟩:=List.mem_map.mp hx;exact iU _).shaped (by decide)
def EH(l:Γ Nat):bu (.list (l.map nD)) (.list [])=some (.bool (decide (l=[]))):=by
 have h0:SeqAt.shaped (.list [])=true:=fv (l:=[]);have e:(l.map nD).isEmpty=decide (l=[]):=by cases l<;>rfl
 simp?[bu,L9,fv,h0,jN,xG,PyData.eqv,mM,e,zB]
structure Wk(G T G' T':List Pl):Prop where
 len:∀b,(br b G' T').length=(br b G T).length
 lik:∀b i,(eB b G' T' i).2=(eB b G T i).2
 gv:∀i,WE false G' T' i<=WE false G T i
 tk:∀i,WE true G T i<=WE true G' T' i
def sA(L:Γ Pl)(i:Nat)(a:Int):Γ Pl:=L.set i (a,(L.getD i (0,[])).2)
section
variable {P X off:Γ Int}
end
def ext(l:Int)(r:Γ Int):Γ (Γ Int):=(List.range (l+1).toNat).map λm=>r++[((m:Nat):Int)]
def Fz(l:Γ Nat)(k:Int):((l.map nD).any λz=>PyData.eqv z (.int k))=decide (∃i∈l,((i:Nat):Int)=k):=by
 induction l with
 | nil=>simp
 | cons i l ih =>
  have e:PyData.eqv (nD i) (.int k)=decide (((i:Nat):Int)=k):=by
   have:=sr [((i:Nat):Int)] [k];rw[af,af,PyData.eqv] at this;simpa [PyData.eqvAll] using this
  rw[zI,kX,ih,e];simp
def D1(l:Γ Nat)(k:Int):zl (.int k) (.list (l.map nD))=some (.bool (!decide (∃i∈l,((i:Nat):Int)=k))):=by
 have hs:SeqAt.shaped (.int k)=true:=(iU (b:=1) (k:=0) k).shaped (by decide);simp?[zl,R9,hs,fv,jN,xG,Fz,zB]
def CO(h:x∈L):mF (af L) (.int x)=some (nD (lX L x)):=by
 show (intsOf (L.map PyData.int)).bind _=_;rw[bB,zA,lR h];rfl
def GH(h:x∈L):lX L x < L.length:=kG ⟨x,h,by simp⟩
def Fb(h:x∈L):L[lX L x]?=some x:=by
 have hl:=GH h;have:=vS (xs:=L) (p:=λo=>decide (o=x)) (w:=hl);rw[zK hl];exact jB some (yP this)
def B9(hn:L.Nodup):x∈L.drop n↔x∈L/\n<=lX L x:=by
 constructor
 ·intro h;have hm:=List.mem_of_mem_drop h;refine⟨hm,?_⟩;let⟨m,hm1,hm2⟩:=qP h;rw[List.getElem_drop] at hm2;have h1:L[n+m]?=some x:=by rw[zK (by rw[qG] at hm1;lia),hm2]
  have h2:=Fb hm;have:n+m=lX L x:=by
   have hl:=GH hm;exact (List.getElem?_inj (by rw[qG] at hm1;lia) hn).mp (h1.trans h2.symm)
  lia
 ·rintro⟨hm,hle⟩;have h2:=Fb hm;have:(L.drop n)[lX L x - n]?=some x:=by rw[List.getElem?_drop,show n+(lX L x - n)=lX L x by lia];exact h2
  exact qA this
def KE(b:θ)(W:Γ Wy)(P L:Γ Int)(j:Int)(o:Int)(i:Nat):θ:=decide (aU b (aK W i)=j)&&(decide (0 < P.getD i 0)&&decide (lX L o < lX L (bG b (aK W i))))
def NN(h:Wd G T W){b:θ}{j:Nat}{pl:Pl}(e:(br b G T)[j]?=some pl)(o:Int):(List.range W.length).any (KE b W P pl.2 j o)=(pl.2.drop (lX pl.2 o+1)).any λo=>decide (0 < P.getD (pI b W j o) 0):=by
 have hn:pl.2.Nodup:=by
  have:=(gy h e).nodup_iff.mpr (List.nodup_range.filter _);unfold jy at this;exact List.Pairwise.of_map _ (λa b WA e=>WA (jB _ e)) this
 rw[Bool.eq_iff_iff,List.any_eq_true,List.any_eq_true];constructor
 ·rintro⟨i,hi,hq⟩;unfold KE at hq;simp?[zF,zJ] at hq;let⟨h1,h2,h3⟩:=hq;have Wv:i < W.length:=by simpa using hi
  have io:i∈own b W j:=eX.mpr ⟨Wv,h1⟩;have ip:=(gy h e).mem_iff.mpr io;unfold jy at ip;let⟨y,hy,hyi⟩:=List.mem_map.mp ip;have hyo:=(lE h e hy).2.2;rw[hyi] at hyo;refine⟨y,(B9 hn).mpr ⟨hy,by rw[<- hyo];lia⟩,?_⟩;rw[hyi];simpa using h2
 ·rintro⟨y,hy,hq⟩;let⟨hm,hle⟩:=(B9 hn).mp hy;let⟨h1,h2,h3⟩:=lE h e hm;refine⟨pI b W j y,by simpa using h1,?_⟩;unfold KE;rw[h3];simp?[zF,zJ] at hq ⊢;exact⟨h2,hq,by lia⟩
abbrev sW(G T:Γ Pl)(W:Γ Wy)(P:Γ Int)(b:θ)(j:Nat)(o:Int)(x y z:Slot):ao:=[.val (aJ G T W),.val (af P),.val (.int (sI b)),.val (nD j),.val (.int o),x,y,z]
abbrev sY(G T:Γ Pl)(W:Γ Wy)(P:Γ Int)(k:Nat):ao:=[.val (aJ G T W),.val (af P),.val (nD k),.val (.int (aK W k).1),.val (.int (aK W k).2.1),.val (.int (aK W k).2.2)]
def Vh:ao->Δ Out:=abW
def pk(h:Wd G T W)(hp:P.length=W.length)(hs:Sm P)(b:θ){k:Nat}(hk:k < W.length):fT [aJ G T W,af P,.int (sI b),.int (aU b (aK W k)),.int (bG b (aK W k))]=some (.bool (su b G T W P k)):=by
 have hw:=h.wl;let⟨z1,z2,z3⟩:=h.VY b hk;have hx:(br b G T)[(aU b (aK W k)).toNat]?=some (eB b G T (aU b (aK W k)).toNat):=by
  rw[zK z2];simp[eB,z2]
 have Yn:∀i,i < W.length->aU b (aK W i)=((aU b (aK W k)).toNat:Int)->bG b (aK W i)∈(eB b G T (aU b (aK W k)).toNat).2:=λi hi he=>by
  have io:i∈own b W ((aU b (aK W k)).toNat:Int):=eX.mpr ⟨hi,he⟩;have ip:=(gy h hx).mem_iff.mpr io;unfold jy at ip;let⟨y,hy,hyi⟩:=List.mem_map.mp ip;have hyo:=(lE h hx hy).2.2;rw[hyi] at hyo;rw[hyo];exact hy
 have hko:=Yn k hk z3.symm;have acH:=NN (P:=P) h hx (bG b (aK W k));have hm:su b G T W P k=(decide (jn b W P ((aU b (aK W k)).toNat:Int) < (eB b G T (aU b (aK W k)).toNat).1)||((eB b G T (aU b (aK W k)).toNat).2.drop (lX (eB b G T (aU b (aK W k)).toNat).2 (bG b (aK W k))+1)).any λo=>decide (0 < P.getD (pI b W ((aU b (aK W k)).toNat:Int) o) 0)):=by
  unfold su;rw[z3]
 rw[hm,<- acH];have ez:PyData.int (aU b (aK W k))=nD (aU b (aK W k)).toNat:=by show _=PyData.int _;rw[z3]
 rw[ez];generalize V1:eB b G T (aU b (aK W k)).toNat=pl at *;generalize hj:(aU b (aK W k)).toNat=j at *;generalize ho:bG b (aK W k)=o at *;clear hm acH ez;have ep:aL (.tuple ((br b G T).map bE)) (nD j)=some (bE pl):=ka hx;refine bz ?_;show ja (sW G T W P b j o .Vs .Vs .Vs)=_;unfold ja;have ct:abQ (aQ (sW G T W P b j o .Vs .Vs .Vs))=some (decide (jn b W P j < pl.1)):=by
  refine bh (aq (lJ _ _) (call_of (qq h hp hs b j) rfl rfl) ?_);exact aq (a:=bE pl) (b:=.int 0) rfl (aq ep (aq (mZ b G T W) rfl rfl) rfl) rfl
 cases hc:decide (jn b W P j < pl.1) with
 | true =>
  rw[hc] at ct;exact fK ((dm ct).trans (aX rfl))
 | false =>
  rw[hc] at ct;rw[av (cT ct),Bool.false_or];have er:∀ρ:Dl.Env,ab 0 ρ=some (aJ G T W)->ab 2 ρ=some (.int (sI b))->ab 3 ρ=some (nD j)->abR ρ=some (af pl.2):=λρ h0 h2 h3=>aq (a:=bE pl) (b:=.int 1) rfl (aq ep (aq (mZ b G T W) h0 h2) h3) rfl;rw[av (bU (er _ rfl rfl rfl) (er _ rfl rfl rfl) rfl)];let⟨f1,Xj⟩:=gp (tgt:=gU 6 7) (gb:=Vh) (λρ=>∃x y,ρ=(sW G T W P b j o (.val (af pl.2)) x y)) (λi:Nat=>.tuple [.int (P.getD i 0),az (aK W i)]) (KE b W P pl.2 j o) (λ_=>.bool true)
   (l:=List.range W.length) (ρ:=(sW G T W P b j o (.val (af pl.2)) .Vs .Vs))
   (λρ i hi Y4=>by
    let⟨x,y,rfl⟩:=Y4;have Wv:i < W.length:=by simpa using hi
    have c:abV (aQ (sW G T W P b j o (.val (af pl.2)) (.val (.int (P.getD i 0))) (.val (az (aK W i)))))=some (KE b W P pl.2 j o i):=by
     have c1:abT (aQ (sW G T W P b j o (.val (af pl.2)) (.val (.int (P.getD i 0))) (.val (az (aK W i)))))=some (decide (aU b (aK W i)=((j:Nat):Int))):=bh (aq (b0 _ _) (aq (lG b _) rfl rfl) rfl);unfold KE;cases e1:decide (aU b (aK W i)=((j:Nat):Int)) with
     | false=>rw[e1] at c1;exact vp c1
     | true =>
      rw[e1] at c1;refine sd c1 ?_;have c2:abU (aQ (sW G T W P b j o (.val (af pl.2)) (.val (.int (P.getD i 0))) (.val (az (aK W i)))))=some (decide (0 < P.getD i 0)):=bh (aq (et _ _) rfl rfl);cases e2:decide (0 < P.getD i 0) with
      | false=>rw[e2] at c2;exact vp c2
      | true =>
       rw[e2] at c2;refine sd c2 ?_;have hio:=Yn i Wv (by simpa using e1);have afr:aL (az (aK W i)) (.int (1 - sI b))=some (.int (bG b (aK W i))):=by cases b<;>rfl
       refine (bh (aq (et _ _) (aq (CO hio) rfl (aq afr rfl (aq (sub_int 1 (sI b)) rfl rfl))) (aq (CO hko) rfl rfl))).trans ?_
       congr 1
       exact decide_eq_decide.mpr (by lia)
    refine⟨_,rfl,λhq=>?_,λhq=>?_⟩
    ·rw[hq] at c;exact (dm c).trans (aX rfl)
    ·rw[hq] at c;exact⟨_,cT c,_,_,rfl⟩) ⟨_,_,rfl⟩
  have hz:gz abS (bp (sW G T W P b j o (.val (af pl.2)) .Vs .Vs))=some ((List.range W.length).map λi=>.tuple [.int (P.getD i 0),az (aK W i)]):=by
   rw[<- qv hp];rfl
  cases ef:(List.range W.length).find? (KE b W P pl.2 j o) with
  | some i =>
   have:(List.range W.length).any (KE b W P pl.2 j o)=true:=List.any_eq_true.mpr ⟨i,List.mem_of_find?_eq_some ef,List.find?_some ef⟩;rw[this];exact fK (dS (f1 i ef) hz rfl)
  | none =>
   have:(List.range W.length).any (KE b W P pl.2 j o)=false:=by
    rw[List.any_eq_false];exact List.find?_eq_none.mp ef
   rw[this];let⟨ρ',e',x',y',rfl⟩:=Xj ef;exact (av (dS e' hz rfl)).trans (aX rfl)
def HL(hf:f (bp ρ)=some (.tuple [x,y,z]))(hh:hand fz 0 ρ=ρ):oX i j l fz f ρ=some (.nx (((ρ.set i (.val x)).set j (.val y)).set l (.val z))):=by
 unfold oX;rw[hh,hf,zA];show some (Out.nx ((((if _ then ρ else ρ).set i _).set j _).set l _))=_;rw[ite_self]
def D4(h:Wd G T W)(hp:P.length=W.length)(hs:Sm P)(hk:k < W.length):mq [aJ G T W,af P,nD k]=some (MI (gW G T W P k)):=by
 refine bz ?_;show mr [.val (aJ G T W),.val (af P),.val (nD k),.Vs,.Vs,.Vs]=_;unfold mr gW;have hw:Yr (bp [.val (aJ G T W),.val (af P),.val (nD k),.Vs,.Vs,.Vs])=some (.tuple [.int (aK W k).1,.int (aK W k).2.1,.int (aK W k).2.2]):=aq (AO hk) rfl rfl;refine (av (HL hw rfl)).trans ?_;have c1:(fB (f2 bu zq8 (ab 5))) (aQ (sY G T W P k))=some (decide (P.getD k 0=(aK W k).2.2)):=bh (aq (b0 _ _) (aq (ou (by rw[hp];exact hk)) rfl rfl) rfl);have w0:=pk h hp hs false hk;have w1:=pk h hp hs true hk;have c2:abY (aQ (sY G T W P k))=some (!(su false G T W P k)):=fU (bh (call_of w0 rfl rfl));have c3:abZ (aQ (sY G T W P k))=some (su true G T W P k):=bh (call_of w1 rfl rfl);by_cases e1:P.getD k 0=(aK W k).2.2
 ·rw[yA e1] at c1;rw[yK e1];exact fK ((dm c1).trans (aX rfl))
 ·rw[zZ e1] at c1;rw[yM e1];refine (av (cT c1)).trans ?_;cases e2:su false G T W P k with
  | false =>
   rw[e2] at c2;rw[yK rfl];exact fK ((dm c2).trans (aX rfl))
  | true =>
   rw[e2] at c2;rw[yM (by simp)];refine (av (cT c2)).trans ?_;cases e3:su true G T W P k with
   | false =>
    rw[e3] at c3;rw[yK rfl];exact aX (BC c3 rfl)
   | true =>
    rw[e3] at c3;rw[yM (by simp)];exact aX (wo c3 rfl)
def sh(k q:Nat):Nat:=if q < k then q else q+1
def nk(k:Nat):Nat->θ:=λq=>!decide (q=k)
section
variable {G T:Γ Pl}{W:Γ Wy}{P X:Γ Int}{b:θ}{i k q:Nat}
def of_map(b:θ)(i:Int):∀ {W V:Γ Wy},W.map (λw=>(w.1,w.2.1))=V.map (λw=>(w.1,w.2.1))->(W.filter λw=>decide (aU b w=i)).map (bG b)=(V.filter λw=>decide (aU b w=i)).map (bG b)
 | [],[],_=>rfl
 | [],_::_,e=>by cases e
 | _::_,[],e=>by cases e
 | w::W,v::V,e=>by
  simp?[zI,kN,Prod.mk.injEq] at e;have e1:aU b w=aU b v:=by cases b<;>simp[aU,e.1]
  have e2:bG b w=bG b v:=by cases b<;>simp[bG,aU,e.1]
  have ih:=of_map b i (W:=W) (V:=V) e.2;rw[jV,jV,e1];split
  ·rw[zI,zI,ih,e2]
  ·exact ih
end
section
open Ex
structure Vq(m:List D->Option D)(x:List D->Option Str)(ds:List D):Prop where
 n:m ds=some .none
 x:x ds=none
section
variable {m:Γ D->Δ D}{x:Γ D->Δ Str}{ds:Γ D}{c:Str}{n:Nat}{fs:Dl.Env->Δ (Γ D)}{ρ:ao}
end
section
variable {G T:Γ Pl}{W:Γ Wy}{P X:Γ Int}{b:θ}{i:Nat}
end
end
section
variable {G T:Γ Pl}{W:Γ Wy}{P X:Γ Int}{b k n:Nat}{d:D}{c:Str}
end
section
variable {G T:Γ Pl}{W:Γ Wy}{P X:Γ Int}{b:θ}{i j k:Nat}{w d:D}{c:Str}
def uh{tgt:ao->D->Δ ao}{gb:ao->Δ Out}{ρ ρ1 Wb:ao}{d:D}{ds:Γ D}(h1:tgt ρ d=some ρ1)(h2:gb ρ1=some (.nx Wb)):fq tgt gb (d::ds) ρ=fq tgt gb ds Wb:=by
 rw[fq,h1,zA,h2];rfl
end
section
variable {G T:Γ Pl}{W:Γ Wy}{P X c:Γ Int}
def m9{f:Dl.Env->Δ D}{ρ:Dl.Env}{α:Type}{g:α->D}{r:Γ α}(h:f ρ=some (.list (r.map g))):cq cf (aa f ag) ρ=some (nD r.length):=by
 rw[Bt h];show some (PyData.int ((r.map g).length:Nat))=_;rw[zD]
end
def IE(b:θ)(G T:Γ Pl)(W:Γ Wy)(P:Γ Int)(i:Nat):Δ Nat:=((lst b G T W i).filter λq=>decide (0 < vl P q)).getLast?
def ES(b:θ)(G T:Γ Pl)(W:Γ Wy)(P:Γ Int)(i:Nat):Δ Nat:=if jn b W P i < WE b G T i then none else IE b G T W P i
def dec(o:Δ Nat)(P:Γ Int):Γ Int:=match o with
 | none=>P
 | some g=>P.set g (P.getD g 0 - 1)
def mN(G T:Γ Pl)(W:Γ Wy)(P:Γ Int)(k:Nat):Γ Int:=dec (ES true G T W P (cK true W k)) (dec (ES false G T W P (cK false W k)) (P.set k (P.getD k 0+1)))
section
variable {G T:Γ Pl}{W:Γ Wy}{P:Γ Int}{b:θ}{i k q g:Nat}{o:Δ Nat}
def QE:∀l:Γ Nat,sm l (λ_=>0)=0
 | []=>rfl
 | q::l=>by rw[bQ,QE l];rfl
def p4:(dec o P).length=P.length:=by cases o<;>simp[dec]
def FW:(dec o P).getD q 0=P.getD q 0 - (if o=some q/\q < P.length then 1 else 0):=by
 cases o with
 | none=>simp[dec]
 | some g =>
  show (P.set g _).getD q 0=_;rw[yv];by_cases e:g=q
  ·subst e;by_cases hl:g < P.length
   ·rw[yK ⟨rfl,hl⟩,yK ⟨rfl,hl⟩]
   ·rw[yM (λz=>hl z.2),yM (λz=>hl z.2)];lia
  ·rw[yM (λz=>e z.1),yM (λz=>e (xC z.1))];lia
def NY:(P.set k (P.getD k 0+1)).getD q 0=P.getD q 0+(if k=q/\q < P.length then 1 else 0):=by
 rw[yv];by_cases e:k=q/\q < P.length
 ·rw[yK e,yK e,e.1]
 ·rw[yM e,yM e];lia
def yo(h:IE b G T W P i=some g):g∈lst b G T W i/\0 < vl P g:=by
 have:=List.mem_of_getLast? h;rw[List.mem_filter,zJ] at this;exact this
def HD(h:IE b G T W P i=none):∀q∈lst b G T W i,vl P q<=0:=λq hq=>by
 unfold IE at h;rw[List.getLast?_eq_none_iff,List.filter_eq_nil_iff] at h;have:=h q hq;rw[zJ] at this;lia
def GM(h:Wd G T W)(hi:i < (br b G T).length)(e:IE b G T W P i=some g)(hq:q∈lst b G T W i)(hp:0 < vl P q):q∈up (lst b G T W i) g:=by
 have hn:=lL (b:=b) h hi;unfold IE at e;let⟨ys,hys⟩:=List.getLast?_eq_some_iff.mp e;refine Classical.byContradiction λz=>?_;have hg:=(yo (b:=b) (G:=G) (T:=T) (W:=W) (P:=P) (i:=i) e).1;let⟨zs,e1,e2⟩:=CN hn hg;have hqz:q∈zs:=by
  rw[e1] at hq;rcases List.mem_append.mp hq with w|w
  ·exact absurd w z
  ·exact w
 have Xo:(up (lst b G T W i) g).filter (λq=>decide (0 < vl P q))++zs.filter (λq=>decide (0 < vl P q))=ys++[g]:=by
  rw[<- List.filter_append,<- e1];exact hys
 have Wi:zs.filter (λq=>decide (0 < vl P q))≠[]:=λw=>by
  have:q∈zs.filter (λq=>decide (0 < vl P q)):=List.mem_filter.mpr ⟨hqz,yA hp⟩;rw[w] at this;cases this
 let⟨us,u,hu⟩:=List.eq_nil_or_concat (zs.filter λq=>decide (0 < vl P q)) |>.resolve_left Wi |> λ⟨a,c,e⟩=>(⟨a,c,by simpa using e⟩:∃us u,zs.filter (λq=>decide (0 < vl P q))=us++[u])
 rw[hu,<- List.append_assoc] at Xo;have hug:u=g:=by
  have:=jB List.getLast? Xo;simpa using this
 subst hug;have:u∈zs:=(List.mem_filter.mp (show u∈zs.filter (λq=>decide (0 < vl P q)) by rw[hu];simp)).1;exact e2 u this (Dk hg)
def Aw(h:Wd G T W)(p:Pn G T W P)(hk:k < W.length)(e:su b G T W P k=true) :
  (jn b W P (cK b W k) < WE b G T (cK b W k)/\ES b G T W P (cK b W k)=none)\/(jn b W P (cK b W k)=WE b G T (cK b W k)/\∃g,ES b G T W P (cK b W k)=some g/\g∈lst b G T W (cK b W k)/\0 < vl P g/\g≠k):=by
 have hi:=wN h b hk;have hle:=p.am b _ hi;by_cases c:jn b W P (cK b W k) < WE b G T (cK b W k)
 ·exact .inl ⟨c,by unfold ES;rw[yK c]⟩
 ·refine .inr ⟨?_,?_⟩
  ·have:jn b W P (cK b W k)<=WE b G T (cK b W k):=hle;lia
  ·have nf:¬ Fl b G T W P k:=λz=>by rw[(QB h p b hk).mpr z] at e;cases e
   have heq:sm (lst b G T W (cK b W k)) (vl P)=WE b G T (cK b W k):=by
    rw[<- mj h hi];have:jn b W P (cK b W k)<=WE b G T (cK b W k):=hle;lia
   have hn:=lL (b:=b) h hi;let⟨ys,e1,e2⟩:=CN hn (xn h b hk);have hs:sm (lst b G T W (cK b W k)) (vl P)=sm (up (lst b G T W (cK b W k)) k) (vl P)+sm ys (vl P):=by
    rw[<- HP,<- e1]
   have hy:0 < sm ys (vl P):=by
    have h1:=LM (l:=ys) λq _=>p.nn q;refine Classical.byContradiction λz=>nf ?_;unfold Fl;lia
   obtain⟨q,hq,hp⟩:∃q∈ys,0 < vl P q:=Classical.byContradiction λz=>by
    have:=Cm (l:=ys) (f:=vl P) (g:=λ_=>0) λq hq=>Classical.byContradiction λw=>z ⟨q,hq,by lia⟩;have e0:=QE ys;lia
   have hql:q∈lst b G T W (cK b W k):=by rw[e1];exact yE _ hq
   cases hg:IE b G T W P (cK b W k) with
   | none=>have:=HD hg q hql;lia
   | some g =>
    let⟨g1,g2⟩:=yo hg;refine⟨g,by unfold ES;rw[yM c,hg],g1,g2,λz=>?_⟩;subst z;exact e2 q hq (GM h hi hg hql hp)
def rP(h:Wd G T W)(p:Pn G T W P)(hk:k < W.length)(e:gW G T W P k=3):P.getD k 0 < (aK W k).2.2/\∀b,su b G T W P k=true:=by
 have hb:=(p.bd k hk).2;unfold gW at e;by_cases e1:P.getD k 0=(aK W k).2.2
 ·rw[yK e1] at e;cases e
 ·rw[yM e1] at e;by_cases e2:su false G T W P k=false
  ·rw[yK e2] at e;cases e
  ·rw[yM e2] at e;by_cases e3:su true G T W P k=false
   ·rw[yK e3] at e;cases e
   ·exact⟨by lia,λb=>by
    cases b
    ·exact Bool.not_eq_false _ |>.mp e2
    ·exact Bool.not_eq_false _ |>.mp e3⟩
def qh(o:Δ Nat)(q:Nat):Int:=if o=some q then 1 else 0
def G7(hn:l.Nodup):sm l (qh o)=match o with|some g=>if g∈l then 1 else 0|none=>0:=by
 induction l with
 | nil=>cases o<;>rfl
 | cons x l ih =>
  rw[List.nodup_cons] at hn;rw[bQ,ih hn.2];cases o with
  | none=>rfl
  | some g =>
   show (if some g=some x then (1:Int) else 0)+(if g∈l then 1 else 0)=if g∈x::l then 1 else 0
   by_cases e:g=x
   ·subst e;rw[yK rfl,yM hn.1,yK zE];rfl
   ·rw[yM (λz=>e (xC z))];by_cases e2:g∈l
    ·rw[yK e2,yK (zC _ e2)];rfl
    ·rw[yM e2,yM (by rw[zQ,not_or];exact⟨e,e2⟩)];rfl
def OK(l:Γ Nat)(f g:Nat->Int):sm l (λq=>f q+g q)=sm l f+sm l g:=by
 induction l with
 | nil=>rfl
 | cons x l ih=>rw[bQ,bQ,bQ,ih];lia
def Ot(l:Γ Nat)(f g:Nat->Int):sm l (λq=>f q - g q)=sm l f - sm l g:=by
 induction l with
 | nil=>rfl
 | cons x l ih=>rw[bQ,bQ,bQ,ih];lia
abbrev g0(b:θ)(G T:Γ Pl)(W:Γ Wy)(P:Γ Int)(k:Nat):Δ Nat:=ES b G T W P (cK b W k)
def Jw:(mN G T W P k).length=P.length:=by unfold mN;rw[p4,p4,yC]
def OX(hq:q < P.length):(mN G T W P k).getD q 0=P.getD q 0+qh (some k) q - qh (g0 false G T W P k) q - qh (g0 true G T W P k) q:=by
 unfold mN qh;rw[FW,FW,NY,p4,yC];simp?[hq,and_true,yJ]
def so:0<=qh o q:=by unfold qh;split<;>lia
def MZ:qh o q<=1:=by unfold qh;split<;>lia
def nW(h:Wd G T W)(p:Pn G T W P)(hk:k < W.length)(e:gW G T W P k=3)(b:θ){g:Nat}(hg:g0 b G T W P k=some g):g < W.length/\cK b W g=cK b W k/\0 < vl P g/\g≠k:=by
 rcases Aw h p hk ((rP h p hk e).2 b) with ⟨_,z⟩|⟨_,g',z,h1,h2,h3⟩
 ·rw[show ES b G T W P (cK b W k)=some g from hg] at z;cases z
 ·rw[show ES b G T W P (cK b W k)=some g from hg] at z;cases z;let⟨a1,a2⟩:=(lP h (wN h b hk)).mp h1;exact⟨a1,a2,h2,h3⟩
def K9(h:Wd G T W)(hk:k < W.length)(hg:g < W.length)(b:θ)(e1:cK b W g=cK b W k)(e2:cK (!b) W g=cK (!b) W k):g=k:=by
 have z:∀c,aU c (aK W g)=aU c (aK W k)↔cK c W g=cK c W k:=λc=>by
  have h1:=(h.VY c hg).2.2;have h2:=(h.VY c hk).2.2;unfold cK;lia
 refine z9 (b:=b) h.wp hg hk ((z b).mpr e1) ?_;have:=(z (!b)).mpr e2;cases b<;>exact this
def R4(h:Wd G T W)(p:Pn G T W P)(hk:k < W.length)(e:gW G T W P k=3)(hg:g0 b G T W P k=some g):cK (!b) W g≠cK (!b) W k:=λz=>by
 let⟨a1,a2,_,a4⟩:=nW h p hk e b hg;exact a4 (K9 h hk a1 b a2 z)
def Bg(h:Wd G T W)(p:Pn G T W P)(hk:k < W.length)(e:gW G T W P k=3):Pn G T W (mN G T W P k):=by
 let⟨f1,f2⟩:=rP h p hk e;have at':∀q,q < W.length->(mN G T W P k).getD q 0=P.getD q 0+qh (some k) q - qh (g0 false G T W P k) q - qh (g0 true G T W P k) q:=λq hq=>OX (by rw[p.len];exact hq);refine⟨by rw[Jw,p.len],λq hq=>?_,λb i hi=>?_⟩
 ·rw[at' q hq];have hb:=p.bd q hq;have n0:=so (o:=g0 false G T W P k) (q:=q);have n1:=so (o:=g0 true G T W P k) (q:=q);have n2:=so (o:=some k) (q:=q);constructor
  ·have one:∀b,g0 b G T W P k=some q->g0 (!b) G T W P k≠some q:=λb z1 z2=>by
    have:=R4 h p hk e z1;exact this (nW h p hk e (!b) z2).2.1
   unfold qh at n0 n1 ⊢;by_cases c0:g0 false G T W P k=some q
   ·have:=(nW h p hk e false c0).2.2.1;rw[yK c0,yM (show ¬ g0 true G T W P k=some q from one false c0)];have:0 < P.getD q 0:=this;split<;>lia
   ·rw[yM c0];by_cases c1:g0 true G T W P k=some q
    ·have:=(nW h p hk e true c1).2.2.1;have:0 < P.getD q 0:=this;rw[yK c1];split<;>lia
    ·rw[yM c1];split<;>lia
  ·by_cases c:k=q
   ·subst c;have:=MZ (o:=some k) (q:=k);lia
   ·have:qh (some k) q=0:=by unfold qh;rw[yM (λz=>c (xC z))]
    lia
 ·have hn:=lL (b:=b) h hi;rw[mj h hi];have hle:sm (lst b G T W i) (vl (mN G T W P k))<=sm (lst b G T W i) (λq=>vl P q+qh (some k) q - qh (g0 b G T W P k) q):=Cm λq hq=>by
   have hqW:=((lP h hi).mp hq).1;show (mN G T W P k).getD q 0<=_;rw[at' q hqW];have n0:=so (o:=g0 false G T W P k) (q:=q);have n1:=so (o:=g0 true G T W P k) (q:=q);show _<=P.getD q 0+qh (some k) q - qh (g0 b G T W P k) q;cases b<;>lia
  have e1:sm (lst b G T W i) (λq=>vl P q+qh (some k) q - qh (g0 b G T W P k) q)=sm (lst b G T W i) (vl P)+sm (lst b G T W i) (qh (some k)) - sm (lst b G T W i) (qh (g0 b G T W P k)):=by
   rw[Ot,OK]
  rw[e1,G7 hn,G7 hn] at hle;have ha:=p.am b i hi;rw[mj h hi] at ha;have hA:(eB b G T i).1=WE b G T i:=rfl;by_cases c:cK b W k=i
  ·subst c;have hkl:=xn h b hk;rcases Aw h p hk (f2 b) with ⟨z1,z2⟩|⟨z1,g,z2,z3,_,_⟩
   ·rw[show g0 b G T W P k=none from z2] at hle;rw[mj h hi] at z1;simp?[hkl,xG] at hle;lia
   ·rw[show g0 b G T W P k=some g from z2] at hle;rw[mj h hi] at z1;simp?[hkl,z3,xG] at hle;lia
  ·have hkl:¬ k∈lst b G T W i:=λz=>c ((lP h hi).mp z).2;simp?[hkl,qN] at hle;have:0<=(match g0 b G T W P k with|some g=>if g∈lst b G T W i then (1:Int) else 0|none=>0):=by
    split
    ·split<;>lia
    ·lia
   lia
end
section
variable {G T:Γ Pl}{W:Γ Wy}{P c:Γ Int}{b:θ}{i k g:Nat}
def T7{l:Γ D}{x:D}(h:l.getLast?=some x):aL (.list l) (.int (-1))=some x:=by
 have hn:0 < l.length:=by
  cases l with
  | nil=>cases h
  | cons _ _=>simp
 show sV l (-1)=_;unfold sV J5;rw[yM (by lia),yK (by lia),zA,show ((-1:Int)+(l.length:Int)).toNat=l.length - 1 by lia,<- List.getLast?_eq_getElem?];exact h
def IJ(h:Wd G T W)(hi:i < (br b G T).length):(lst b G T W i).length<=16:=by
 have hw:=h.wl;rw[(nC h hi).length_eq];refine yD (xO _ _) ?_;rw[zR];exact hw
def Lh(h:Wd G T W)(hp:P.length=W.length)(hi:i < (br b G T).length)(hg:IE b G T W P i=some g):dB [aJ G T W,af P,.int (sI b),nD i]=some (nD g):=by
 have hll:=IJ h hi;refine bz ?_;show dw [.val (aJ G T W),.val (af P),.val (.int (sI b)),.val (nD i)]=_;unfold dw;have c:ay 1 [1] ab0 (fG 0) ab1 (ab 0) [some (aJ G T W),some (af P),some (.int (sI b)),some (nD i)]=some (((lst b G T W i).filter λq=>decide (0 < vl P q)).map nD) :=
  mz (B3 (call_of (uj h (uT hi)) rfl rfl)) (by show (lst b G T W i).length<=1000;lia) λq hq=>⟨bh (aq (et _ _) (aq (ou (by rw[hp];exact ((lP h hi).mp hq).1)) rfl rfl) rfl),λ_=>rfl⟩
 refine aX (aq (a:=.list (((lst b G T W i).filter λq=>decide (0 < vl P q)).map nD)) (b:=.int (-1)) (T7 ?_) ?_ rfl)
 ·rw[List.getLast?_map];unfold IE at hg;rw[hg];rfl
 ·show da _ [some (aJ G T W),some (af P),some (.int (sI b)),some (nD i)]=_;simp?[da,c,zB]
def JH(h:Wd G T W)(hk:k < W.length)(b:θ):aL (az (aK W k)) (.int (sI b))=some (nD (cK b W k)):=by
 rw[lG,<- (h.VY b hk).2.2];rfl
def NP(h:Wd G T W)(hi:i < (br b G T).length){fw fb fi:Dl.Env->Δ D}{ρ:Dl.Env}(hw:fw ρ=some (aJ G T W))(hb:fb ρ=some (.int (sI b)))(hf:fi ρ=some (nD i)):f2 aL (f2 aL (f2 aL fw fb) fi) (fC (.int 0)) ρ=some (.int (WE b G T i)) :=
 aq (a:=bE (eB b G T i)) (b:=.int 0) rfl (aq (ka (f:=bE) (l:=br b G T) (uT hi)) (aq (mZ b G T W) hw hb) hf) rfl
def T9:ao->Δ Out:=Zn
abbrev Ph(G T:Γ Pl)(W:Γ Wy)(P:Γ Int)(k:Nat)(c:Γ Int)(x4 x5 x6:Slot):ao:=[.val (aJ G T W),.val (af P),.val (nD k),.val (af c),x4,x5,x6]
def Cq(h:Wd G T W)(p:Pn G T W P)(hk:k < W.length)(e:gW G T W P k=3)(b:θ)(hc:c.length=W.length){x5 x6:Slot}:∃y5 y6,T9 (Ph G T W P k c (.val (.int (sI b))) x5 x6)=some (.nx (Ph G T W P k (dec (g0 b G T W P k) c) (.val (.int (sI b))) y5 y6)):=by
 have hw:=h.wl;have hi:=wN h b hk;have hs:=p.smP h;unfold T9;have s1:∀ρ:Dl.Env,ab 0 ρ=some (aJ G T W)->ab 2 ρ=some (nD k)->ab 4 ρ=some (.int (sI b))->f2 aL Yr (ab 4) ρ=some (nD (cK b W k)):=λρ a0 a2 a4 =>
  aq (JH h hk b) (aq (ka (f:=az) (l:=W) (by simp[aK,hk])) (aq (BN G T W) a0 rfl) a2) a4
 have t:∀ρ:Dl.Env,ab 0 ρ=some (aJ G T W)->ab 1 ρ=some (af P)->ab 4 ρ=some (.int (sI b))->ab 5 ρ=some (nD (cK b W k))->fB Zl ρ=some (decide (jn b W P (cK b W k)=WE b G T (cK b W k))):=λρ a0 a1 a4 a5 =>
  bh (aq (b0 _ _) (call_of (oY h p.len hs b _) (cons_of a0 (cons_of a1 (cons_of a4 (cons_of a5 rfl)))) rfl) (NP h hi a0 a4 a5))
 rcases Aw h p hk ((rP h p hk e).2 b) with ⟨z1,z2⟩|⟨z1,g,z2,z3,_,_⟩
 ·refine⟨.val (nD (cK b W k)),x6,(av (bU (s1 _ rfl rfl rfl) (s1 _ rfl rfl rfl) rfl)).trans ?_⟩;refine (cT ((t _ rfl rfl rfl rfl).trans (by rw[zZ (by lia)]))).trans ?_;show _=some (Out.nx (Ph G T W P k (dec (ES b G T W P (cK b W k)) c) _ _ x6));rw[z2];rfl
 ·refine⟨.val (nD (cK b W k)),.val (nD g),(av (bU (s1 _ rfl rfl rfl) (s1 _ rfl rfl rfl) rfl)).trans ?_⟩;refine (dm ((t _ rfl rfl rfl rfl).trans (by rw[yA z1]))).trans ?_;have hg:IE b G T W P (cK b W k)=some g:=by
   unfold ES at z2;rw[yM (by lia)] at z2;exact z2
  have hgW:=((lP h hi).mp z3).1;have e6:=Lh h p.len hi hg;refine (av (bU (call_of e6 rfl rfl) (call_of e6 rfl rfl) rfl)).trans ?_;have e3:∀ρ:Dl.Env,ab 3 ρ=some (af c)->ab 6 ρ=some (nD g)->ai 3 eM Zm ρ=some (af (c.set g (c.getD g 0 - 1))):=λρ a3 a6 =>
   call_of (rz (by lia) (by lia)) (cons_of a3 (cons_of a6 (cons_of (aq (sub_int _ _) (aq (ou (by lia)) a3 a6) rfl) rfl))) rfl
  refine (bU (e3 _ rfl rfl) (e3 _ rfl rfl) rfl).trans ?_;show _=some (Out.nx (Ph G T W P k (dec (ES b G T W P (cK b W k)) c) _ _ (.val (nD g))));rw[z2];rfl
def pE(h:Wd G T W)(p:Pn G T W P)(hk:k < W.length)(e:gW G T W P k=3):e8 [aJ G T W,af P,nD k]=some (af (mN G T W P k)):=by
 have hw:=h.wl;have hp:=p.len;refine bz ?_;show (aD Zi (aD (gw [] Zj (oW 4) T9) (bc (ab 3)))) (Ph G T W P k P .Vs .Vs .Vs |>.set 3 .Vs)=_;have e0:∀ρ:Dl.Env,ab 1 ρ=some (af P)->ab 2 ρ=some (nD k)->ai 3 eM ab2 ρ=some (af (P.set k (P.getD k 0+1))):=λρ a1 a2 =>
  call_of (rz (by lia) (by lia)) (cons_of a1 (cons_of a2 (cons_of (aq (a:=.int (P.getD k 0)) (b:=.int 1) rfl (aq (ou (by lia)) a1 a2) rfl) rfl))) rfl
 refine (av (bU (e0 _ rfl rfl) (e0 _ rfl rfl) rfl)).trans ?_;let⟨y5,y6,q1⟩:=Cq (c:=P.set k (P.getD k 0+1)) (x5:=.Vs) (x6:=.Vs) h p hk e false (by rw[yC];exact hp);let⟨z5,z6,q2⟩:=Cq (c:=dec (g0 false G T W P k) (P.set k (P.getD k 0+1))) (x5:=y5) (x6:=y6) h p hk e true (by rw[p4,yC];exact hp);refine (av (dS (ds:=[.int 0,.int 1]) ((uh (ρ1:=Ph G T W P k (P.set k (P.getD k 0+1)) (.val (.int (sI false))) .Vs .Vs) rfl q1).trans ((uh (ρ1:=Ph G T W P k (dec (g0 false G T W P k) (P.set k (P.getD k 0+1))) (.val (.int (sI true))) y5 y6) rfl q2).trans rfl)) rfl rfl)).trans ?_;exact aX rfl
def Nn(h:Wd G T W)(hp:P.length=W.length)(hs:Sm P):gK [aJ G T W,af P]=some (.list ((iG G T W P).map nD)):=by
 have hw:=h.wl;refine bz ?_;show lr [.val (aJ G T W),.val (af P)]=_;unfold lr;have c:ay 1 [0,1] Ys (fG 0) Zu (ab 0) [some (aJ G T W),some (af P)]=some ((iG G T W P).map nD) :=
  mz (iW (nG hp rfl) (by lia)) (by rw[zR];lia) λk hk=>⟨bh (aq (uM _ (Bj G T W P k)) (call_of (D4 h hp hs (by simpa using hk)) rfl rfl) rfl),λ_=>rfl⟩
 refine aX ?_;show da _ [some (aJ G T W),some (af P)]=_;simp?[da,c,zB]
def JB{t u:Dl.Env->Δ θ}{ρ:Dl.Env}{x y:θ}(h:t ρ=some x)(h2:u ρ=some y):fy t u ρ=some (x&&y):=by
 cases x
 ·exact vp h
 ·rw[jJ];exact sd h h2
end
section
variable {G T:Γ Pl}{W:Γ Wy}{P c:Γ Int}{b:θ}{i k g:Nat}
def J8(G T:Γ Pl)(W:Γ Wy)(s:Γ (Γ Int)):Δ (Γ (Γ Int)):=match s.getLast? with
 | none=>none
 | some P=>match (iG G T W P).head? with
  | none=>none
  | some k=>if mN G T W P k∈s then none else some (s++[mN G T W P k])
def Kb(G T:Γ Pl)(W:Γ Wy):Nat->Γ (Γ Int)->Γ (Γ Int)
 | 0,s=>s
 | n+1,s=>match J8 G T W s with
  | none=>s
  | some s'=>Kb G T W n s'
abbrev xq(G T:Γ Pl)(W:Γ Wy)(P:Γ Int):Γ (Γ Int):=Kb G T W Rf.turns [P]
def rH{S:Type}{t:Dl.Env->Δ θ}{gb:ao->Δ Out}{f:Dl.Env->Δ D}(Rel:S->ao->Prop)(nx:S->Δ S)(wl:Nat->S->S)(fin:S->D)(μ:S->Nat)(w0:∀s n,nx s=none->wl (n+1) s=s)(w1:∀s n s',nx s=some s'->wl (n+1) s=wl n s')
  (hA:∀s ρ,Rel s ρ->nx s=none->(t (aQ ρ)=some false/\f (aQ ρ)=some (fin s))\/(t (aQ ρ)=some true/\gb ρ=some (.rt (fin s))))
  (hB:∀s ρ s',Rel s ρ->nx s=some s'->t (aQ ρ)=some true/\(∃ρ',gb ρ=some (.nx ρ')/\Rel s' ρ')/\μ s' < μ s) :
  ∀ (n:Nat) (s:S) (ρ:ao),Rel s ρ->μ s < n->aD (EU t gb n) (bc f) ρ=some (.rt (fin (wl n s)))
 | 0,_,_,_,h=>absurd h (vK _)
 | n+1,s,ρ,hr,hm=>by
  cases e:nx s with
  | none =>
   rw[w0 s n e];rcases hA s ρ hr e with ⟨h1,h2⟩|⟨h1,h2⟩
   ·unfold aD;rw[EU,h1,zA,yM (by simp),zA];exact aX h2
   ·unfold aD;rw[EU,h1,zA,yK rfl,h2];rfl
  | some s' =>
   let⟨h1,⟨ρ',h2,h3⟩,h4⟩:=hB s ρ s' hr e;rw[w1 s n s' e,<- rH Rel nx wl fin μ w0 w1 hA hB n s' ρ' h3 (by lia)];unfold aD;rw[EU,h1,zA,yK rfl,h2];rfl
def Mv{s:Γ (Γ Int)}{n:Nat}(h:J8 G T W s=none):Kb G T W (n+1) s=s:=by rw[Kb,h]
def LN{s s':Γ (Γ Int)}{n:Nat}(h:J8 G T W s=some s'):Kb G T W (n+1) s=Kb G T W n s':=by rw[Kb,h]
def zq:∀ {L l:Γ (Γ Int)},l.Nodup->(∀x∈l,x∈L)->l.length<=L.length
 | _,[],_,_=>xU _
 | L,x::l,hn,h=>by
  rw[List.nodup_cons] at hn;have hx:=h x zE;have:=zq (L:=L.erase x) (l:=l) hn.2 λy hy=>(List.mem_erase_of_ne (show y≠x fromλz=>hn.1 (z ▸ hy))).mpr (h y (zC _ hy));rw[List.length_erase_of_mem hx] at this;have:0 < L.length:=List.length_pos_of_mem hx;rw[zL];lia
def P8:Nat->Γ (Γ Int)
 | 0=>[[]]
 | n+1=>(P8 n).flatMap λr=>[0::r,1::r,2::r]
def Cf:∀n,(P8 n).length=3 ^ n
 | 0=>rfl
 | n+1=>by
  rw[P8,List.length_flatMap];simp?[zL,xJ];rw[List.map_const',List.sum_replicate_nat,Cf n,Nat.pow_succ]
def CU:∀ {r:Γ Int},(∀x∈r,0<=x/\x<=2)->r∈P8 r.length
 | [],_=>List.mem_singleton.mpr rfl
 | x::r,h=>by
  have ih:=CU (r:=r) λy hy=>h y (zC _ hy);have hx:=h x zE;rw[zL,P8,List.mem_flatMap];refine⟨r,ih,?_⟩;simp?[zQ,kN,and_true,yF,xS];lia
structure IF(G T:List Pl)(W:List Wy)(s:List (List Int)):Prop where
 ne:s≠[]
 pn:∀P∈s,Pn G T W P
 nd:s.Nodup
def IF.few(f:IF G T W s)(h2:∀w∈W,w.2.2<=2)(hw:W.length<=9):s.length<=19683:=by
 have:=zq (L:=P8 W.length) f.nd λP hP=>by
  have p:=f.pn P hP;rw[<- p.len];refine CU λx hx=>?_;let⟨q,hq,rfl⟩:=qP hx;have hqW:q < W.length:=by rw[<- p.len];exact hq
  have hb:=p.bd q hqW;have hl:=h2 _ (sG hqW);rw[zG,zK hq,qF] at hb;lia
 rw[Cf] at this;refine yD this ?_;exact Nat.pow_le_pow_right (by lia) hw
def u3(e:(iG G T W P).head?=some k):k < W.length/\gW G T W P k=3:=by
 have:=List.mem_of_mem_head? e;unfold iG at this;rw[List.mem_filter,zS,zJ] at this;exact this
def B4(h:Wd G T W)(f:IF G T W s)(e:J8 G T W s=some s'):∃P k,s.getLast?=some P/\Pn G T W P/\(iG G T W P).head?=some k/\¬ mN G T W P k∈s/\s'=s++[mN G T W P k]/\IF G T W s':=by
 unfold J8 at e;cases e1:s.getLast? with
 | none=>rw[e1] at e;cases e
 | some P =>
  rw[e1] at e;have p:=f.pn P (List.mem_of_getLast? e1);simp only at e;cases e2:(iG G T W P).head? with
  | none=>rw[e2] at e;cases e
  | some k =>
   rw[e2] at e;simp only at e;by_cases c:mN G T W P k∈s
   ·rw[yK c] at e;cases e
   ·rw[yM c] at e;cases e;let⟨hk,hy⟩:=u3 e2;refine⟨P,k,rfl,p,e2,c,rfl,by simp,λX hX=>?_,?_⟩
    ·rcases List.mem_append.mp hX with z|z
     ·exact f.pn X z
     ·rw[List.mem_singleton.mp z];exact Bg h p hk hy
    ·rw[wG];exact⟨f.nd,by simp,λa ha b hb z=>c (by rw[List.mem_singleton.mp hb] at z;exact z ▸ ha)⟩
def Jg(f:IF G T W s)(e:J8 G T W s=none):∃P,s.getLast?=some P/\Pn G T W P/\((iG G T W P).head?=none\/∃k,(iG G T W P).head?=some k/\mN G T W P k∈s):=by
 unfold J8 at e;cases e1:s.getLast? with
 | none=>exact absurd (List.getLast?_eq_none_iff.mp e1) f.ne
 | some P =>
  rw[e1] at e;have p:=f.pn P (List.mem_of_getLast? e1);refine⟨P,rfl,p,?_⟩;simp only at e;cases e2:(iG G T W P).head? with
  | none=>exact .inl rfl
  | some k =>
   rw[e2] at e;simp only at e;by_cases c:mN G T W P k∈s
   ·exact .inr ⟨k,rfl,c⟩
   ·rw[yM c] at e;cases e
def Fm(h:Wd G T W):∀ (n:Nat) {s:Γ (Γ Int)},IF G T W s->IF G T W (Kb G T W n s)
 | 0,s,f=>f
 | n+1,s,f=>by
  cases e:J8 G T W s with
  | none=>rw[Mv e];exact f
  | some s' =>
   let⟨_,_,_,_,_,_,_,f'⟩:=B4 h f e;rw[LN e];exact Fm h n f'
def NM(o:Δ Nat):D:=match o with
 | some k=>nD k
 | none=>.none
def Ke(h:Wd G T W)(p:Pn G T W P):bO [aJ G T W,af P]=some (NM (iG G T W P).head?):=by
 rw[pQ h p.len (p.smP h)];unfold iG;rw[List.head?_filter];rfl
def C9(o:Δ Nat):qk (NM o) .none=some (.bool o.isSome):=by cases o<;>rfl
def zt{l:Γ (Γ Int)}{P:Γ Int}(h:l.getLast?=some P):aL (.list (l.map af)) (.int (-1))=some (af P):=T7 (by rw[List.getLast?_map,h];rfl)
def Fo{i:Nat}{fz:Γ Nat}{f:Dl.Env->Δ D}{ρ:ao}{l:Γ Int}(hA:f (aQ ρ)=some (af l))(hF:f (bp (hand fz 0 ρ))=some (af l)):Dl.aS i fz f ρ=some (.nx (ρ.set i (.val (af l)))):=by
 have hn:gJ (af l)=true:=by
  show ox (l.map PyData.int)=true;clear hA hF
  induction l with
  | nil=>rfl
  | cons x l ih=>exact ih
 simp?[Dl.aS,hA,zA,show Dl.jq (af l)=false from rfl,yN,qN,hF,zB,hn,xG]
end
section
variable {G T:Γ Pl}{W:Γ Wy}{P c:Γ Int}{b:θ}{i k g:Nat}{s:Γ (Γ Int)}
def JD{i:Nat}{fz:Γ Nat}{f:Dl.Env->Δ D}{ρ:ao}{d:D}{ds:Γ D}(hA:f (aQ ρ)=some d)(hF:f (bp (hand fz 0 ρ))=some d)(hh:hand fz 0 ρ=ρ)(ho:ρ[i]?=some (.own ds))(hl:ds.length < sizeLine):mV i fz f ρ=some (.nx (ρ.set i (.own (ds++[d])))):=by
 rw[hh] at hF;unfold mV ph;rw[hA,zA];split
 ·simp?[zA,pV,ho,yK hl,zB]
 ·simp?[hh,hF,zB,zA,pV,ho,yK hl]
def Dg{i j:Nat}{g1 g2:ao->Δ Out}{ρ:ao}{r:Γ Int}(h1:ρ[i]?=some (.val (af r)))(h2:ρ[j]?=some (.tab ks)):tT i j g1 g2 ρ=if ks.contains r=true then g1 ρ else g2 ρ:=by
 unfold tT;rw[h1,h2,show AL (some (.val (af r)))=some r from bB r,show tabS (some (.tab ks))=some ks from rfl];rfl
def KB{j i:Nat}{f:Dl.Env->Δ D}{ρ:ao}{r:Γ Int}{d:D}(h1:ρ[i]?=some (.val (af r)))(h2:ρ[j]?=some (.tab ks))(hf:f (aQ ρ)=some d)(hs:Dl.jq d=true)(hl:ks.length < sizeLine)(hn:ks.contains r=false):rf j i f ρ=some (.nx (ρ.set j (.tab (ks++[r])))):=by
 unfold rf;rw[h1,h2,show AL (some (.val (af r)))=some r from bB r,show tabS (some (.tab ks))=some ks from rfl,zA,zA,hf,zA,hs,yA hl,hn];rfl
def Cs(o:Δ Nat):Dl.jq (NM o)=true:=by cases o<;>rfl
def ir{l:Γ (Γ Int)}{r:Γ Int}(h:¬ r∈l):l.contains r=false:=by
 rw[Bool.eq_false_iff];exactλz=>h (List.contains_iff_mem.mp z)
def IA(G T:Γ Pl)(W:Γ Wy)(s:Γ (Γ Int)):Δ Nat:=s.getLast?.bind λP=>(iG G T W P).head?
def TL:ao->Δ Out:=(aD Zs (aD (tT 5 3 X0 gV) (aD (mV 2 [5] (ab 5)) (aD (rf 3 5 (fC (.bool true))) Zt))))
abbrev RN(G T:Γ Pl)(W:Γ Wy)(P:Γ Int)(s:Γ (Γ Int))(x4 x5:Slot):ao:=[.val (aJ G T W),.val (af P),.own (s.map af),.tab s,x4,x5]
def FK:19683 < sizeLine:=by rw[qT];decide
def B7(h:Wd G T W){X:Γ Int}(p:Pn G T W X)(e1:s.getLast?=some X)(e2:(iG G T W X).head?=some k):Dl.aS 5 [0,2,4] Zr (RN G T W P s (.val (nD k)) x5)=some (.nx (RN G T W P s (.val (nD k)) (.val (af (mN G T W X k))))):=by
 let⟨hk,hy⟩:=u3 e2;have hc:∀ρ:Dl.Env,ab 0 ρ=some (aJ G T W)->ab 2 ρ=some (.list (s.map af))->ab 4 ρ=some (nD k)->ai 3 e8 Zq ρ=some (af (mN G T W X k)):=λρ a0 a2 a4 =>
  call_of (pE h p hk hy) (cons_of a0 (cons_of (aq (b:=.int (-1)) (zt e1) a2 rfl) (cons_of a4 rfl))) rfl
 exact Fo (hc _ rfl rfl rfl) (hc _ rfl rfl rfl)
def Nr(h:Wd G T W)(p:Pn G T W P)(h2:∀w∈W,w.2.2<=2)(hw:W.length<=9):uU [aJ G T W,af P]=some (.list ((xq G T W P).map af)):=by
 refine bz ?_;show (aD Y2 (aD (bw 2 [1] (gZ zq0)) (aD (uB 3 1 (fC (.bool true))) (aD Zo (aD (EU Yu TL Rf.turns) X0))))) [.val (aJ G T W),.val (af P),.Vs,.Vs,.Vs,.Vs]=_;refine (av (mK (call_of (cE h p) rfl rfl))).trans ?_;refine (av (ud (ds:=[af P]) rfl rfl)).trans ?_;have e3:uB 3 1 (fC (.bool true)) [.val (aJ G T W),.val (af P),.own [af P],.Vs,.Vs,.Vs]=some (.nx [.val (aJ G T W),.val (af P),.own [af P],.tab [P],.Vs,.Vs]):=by
  unfold uB;rw[show AL ([Slot.val (aJ G T W),Slot.val (af P),Slot.own [af P],Slot.Vs,Slot.Vs,Slot.Vs][1]?)=some P from bB P];rfl
 refine (av e3).trans ?_;have e4:∀X,Pn G T W X->∀ρ:Dl.Env,∀f:Dl.Env->Δ D,ab 0 ρ=some (aJ G T W)->f ρ=some (af X)->ai 2 bO (aa (ab 0) (aa f ag)) ρ=some (NM (iG G T W X).head?):=λX hX ρ f a0 a1=>call_of (Ke h hX) (cons_of a0 (cons_of a1 rfl)) rfl;refine (av (cA (e4 P p _ _ rfl rfl) (Cs _))).trans ?_;have f0:IF G T W [P]:=⟨by simp,λX hX=>by rw[List.mem_singleton.mp hX];exact p,by simp⟩
 refine rH (S:=Γ (Γ Int)) (λs ρ=>IF G T W s/\∃x5,ρ=RN G T W P s (.val (NM (IA G T W s))) x5) (J8 G T W) (Kb G T W) (λs=>.list (s.map af)) (λs=>19684 - s.length) (λs n=>Mv) (λs n s'=>LN) ?_ ?_ Rf.turns [P] _ ⟨f0,.Vs,rfl⟩ (by show 19684 - 1 < 1000000;lia)
 ·rintro s ρ ⟨f,x5,rfl⟩ e;let⟨X,e1,hX,e2⟩:=Jg f e;have hd:IA G T W s=(iG G T W X).head?:=by unfold IA;rw[e1];rfl
  have t:∀x5,Yu (aQ (RN G T W P s (.val (NM (IA G T W s))) x5))=some (IA G T W s).isSome:=λx5=>bh (aq (C9 _) rfl rfl);rcases e2 with e2|⟨k,e2,hm⟩
  ·exact .inl ⟨(t x5).trans (by rw[hd,e2];rfl),rfl⟩
  ·refine .inr ⟨(t x5).trans (by rw[hd,e2];rfl),?_⟩;rw[hd,e2];unfold TL;refine (av (B7 h hX e1 e2)).trans (Ka ?_);rw[Dg (r:=mN G T W X k) (ks:=s) rfl rfl,yK (List.contains_iff_mem.mpr hm)];exact aX rfl
 ·rintro s ρ s' ⟨f,x5,rfl⟩ e;let⟨X,k,e1,hX,e2,hm,rfl,f'⟩:=B4 h f e;have hd:IA G T W s=some k:=by unfold IA;rw[e1];exact e2
  have hl:=f'.few h2 hw;rw[zN,xB] at hl;have hb:=FK;let⟨hk,hy⟩:=u3 e2;refine⟨(bh (aq (C9 _) rfl rfl)).trans (by rw[hd];rfl),⟨RN G T W P (s++[mN G T W X k]) (.val (NM (IA G T W (s++[mN G T W X k])))) (.val (af (mN G T W X k))),?_,f',_,rfl⟩,by rw[zN,xB];lia⟩;rw[hd];unfold TL;refine (av (B7 h hX e1 e2)).trans ?_;refine (av ((Dg (r:=mN G T W X k) (ks:=s) rfl rfl).trans (by rw[yM (by rw[ir hm];simp)];rfl))).trans ?_;refine (av (JD (ds:=s.map af) (d:=af (mN G T W X k)) rfl rfl rfl rfl (by rw[zD];lia))).trans ?_;refine (av (KB (r:=mN G T W X k) (ks:=s) (d:=.bool true) rfl rfl rfl rfl (by lia) (ir hm))).trans ?_;refine (cA (e4 _ (Bg h hX hk hy) _ _ rfl rfl) (Cs _)).trans ?_;have e5:IA G T W (s++[mN G T W X k])=(iG G T W (mN G T W X k)).head?:=by unfold IA;rw[List.getLast?_concat];rfl
  rw[e5];show some (Out.nx [_,_,Slot.own (s.map af++[af (mN G T W X k)]),_,_,_])=some (Out.nx [_,_,Slot.own ((s++[mN G T W X k]).map af),_,_,_]);rw[qZ];rfl
def R3(l:Γ Nat):e9 (.list (l.map nD)) (.list [])=some (.bool (!decide (l=[]))):=by
 have h0:SeqAt.shaped (.list [])=true:=fv (l:=[]);have e:(l.map nD).isEmpty=decide (l=[]):=by cases l<;>rfl
 simp?[e9,PX,fv,h0,jN,xG,PyData.eqv,mM,e,zB]
def Hl(G T:Γ Pl)(W:Γ Wy)(P:Γ Int):Γ Int:=(xq G T W P).getLast?.getD []
def O2(h:Wd G T W)(p:Pn G T W P):(xq G T W P).getLast?=some (Hl G T W P)/\Pn G T W (Hl G T W P):=by
 have f:IF G T W (xq G T W P):=Fm h _ ⟨by simp,λX hX=>by rw[List.mem_singleton.mp hX];exact p,by simp⟩;unfold Hl;cases e:(xq G T W P).getLast? with
 | none=>exact absurd (List.getLast?_eq_none_iff.mp e) f.ne
 | some X=>exact⟨rfl,f.pn X (List.mem_of_getLast? e)⟩
end
open Ob Og
section
variable {os Vz VO Wl:Γ Oj}{fs:sP}{st st1 VZ:Fs}
def aA(h:g1 ρ os=some (.nx ρ' Vz)):bg g1 g2 ρ os=g2 ρ' Vz:=by unfold bg;rw[h];rfl
def gm{g:ao->Δ Out}(h:g ρ=some (.nx ρ')):gL g ρ os=some (.nx ρ' os):=by unfold gL;rw[h];rfl
def dU(h:f ρ os=some (d,Vz)):mf f ρ os=some (.nx ρ Vz):=by unfold mf;rw[h];rfl
def qa(h:f ρ os=some (d,Vz)):vj i f ρ os=some (.nx (ρ.set i (.val d)) Vz):=by unfold vj;rw[h];rfl
def eV(h:f (hand fz 0 ρ) os=some (d,Vz)):cm fz (f9 f) ρ os=some (.rt d Vz):=by unfold cm f9;rw[h];rfl
def B8(h:ta ρ os=some (true,Vz)):xc ta g1 g2 ρ os=g1 ρ Vz:=by unfold xc;rw[h];rfl
def fI(h:ta ρ os=some (false,Vz)):xc ta g1 g2 ρ os=g2 ρ Vz:=by unfold xc;rw[h];rfl
def P0:EV ρ os=some (.nx ρ os):=rfl
def bf{f:Dl.Env->Δ D}(h:f (bp ρ)=some d):oD f ρ os=some (d,os):=by unfold oD;rw[h]
def sk{f:Dl.Env->Δ θ}{c:θ}(h:f (aQ ρ)=some c):oT f ρ os=some (c,os):=by unfold oT;rw[h];rfl
def dJ{g:D->D->Δ D}(hg:g a b=some d)(h1:fa ρ os=some (a,VO))(h2:fb ρ VO=some (b,Wl)):tM g fa fb ρ os=some (d,Wl):=by
 unfold tM;rw[h1,zA];show ((fb ρ VO).bind λy=>(g a y.1).map (·,y.2))=_;rw[h2,zA];show (g a b).map _=_;rw[hg];rfl
def ji(h:f ρ os=some (.bool c,Vz)):Ob.oB f ρ os=some (c,Vz):=by unfold Ob.oB;rw[h];rfl
def sM(h1:ta ρ os=some (false,VO))(h2:tb ρ VO=some (c,Wl)):vt ta tb ρ os=some (c,Wl):=by unfold vt;rw[h1];exact h2
def GU(h1:fa ρ os=some (.bool true,VO))(h2:fb ρ VO=some (d,Wl)):Eg fa fb ρ os=some (d,Wl):=by unfold Eg;rw[h1];exact h2
def aC{gs:sP}(h1:f ρ os=some (d,VO))(h2:gs ρ VO=some (ds,Wl)):aV f gs ρ os=some (d::ds,Wl):=by
 unfold aV;rw[h1,zA];show (gs ρ VO).map _=_;rw[h2];rfl
def bF:bq ρ os=some ([],os):=rfl
def iF{m:Γ D->Δ D}(hm:m ds=some d)(h:fs ρ os=some (ds,Vz))(hn:ds.length=n):lu n m fs ρ os=some (d,Vz):=by
 unfold lu;rw[h,zA];show (if ds.length=n then (m ds).map (·,Vz) else none)=_;rw[yK hn,hm];rfl
def ar(h1:ρ[i]?=some (.obj k))(h2:os[k]?=some ⟨C,st⟩):obj i C ρ os=some (k,st):=by
 unfold obj;rw[h1];show (match os[k]? with|some o=>if o.C=C then some (k,o.st) else none|none=>none)=_;rw[h2];exact yK rfl
def dk(h:obj i C ρ os=some (k,st))(hf:st.lookup x=some (.val d)):jo i C x ρ os=some (d,os):=by
 unfold jo;rw[h,zA];show (match st.lookup x with|some (.val d)=>some (d,os)|_=>none)=_;rw[hf]
def K6(h:obj i C ρ os=some (k,st))(hf:st.lookup x=some (.val d)):Gh i C x ρ os=some d:=by
 unfold Gh;rw[h,zA];show (match st.lookup x with|some (.val d)=>some d|_=>none)=_;rw[hf]
def BP(h:obj i C ρ os=some (k,st))(hf:st.lookup x=some (.lst ds)):uv i C x ρ os=some (.int ds.length):=by
 unfold uv;rw[h,zA];show (match st.lookup x with|some (.lst ds)=>some (PyData.int ds.length)|_=>none)=_;rw[hf]
def ny(h1:r ρ os=some d)(h2:rs ρ os=some ds):pq r rs ρ os=some (d::ds):=by unfold pq;rw[h1,h2];rfl
def CL(h:rs ρ os=some ds)(hl:ds.length<=1000):EE rs ρ os=some (.tuple ds):=by
 unfold EE small;rw[h,zA,yK (yD hl (by rw[qT];decide))];rfl
def Q6(h:r ρ os=some d):oR r ρ os=some (d,os):=by unfold oR;rw[h];rfl
def ig{mm:Γ Slot->Fs->Δ (D×Fs)}(h:obj i C ρ os=some (k,st))(hn:(st.lookup m).isNone=true)(ha:fs ρ os=some (ds,VO))(h1:obj i C ρ VO=some (k,st1))(hl:ds.length+1=n)(hm:mm (.obj 0::ds.map Slot.val) st1=some (d,VZ)):aZ i C m n mm fs ρ os=some (d,VO.set k ⟨C,VZ⟩):=by
 unfold aZ;rw[h,zA];show (if (st.lookup m).isNone=true then (fs ρ os).bind _ else none)=_;rw[yK hn,ha,zA];show ((obj i C ρ VO).bind _)=_;rw[h1,zA];show (if ds.length+1=n then (mm (.obj 0::ds.map Slot.val) st1).map _ else none)=_;rw[yK hl,hm];rfl
def qj(h:f ρ os=some (d,VO))(h1:obj i C ρ VO=some (k,st))(hl:st.length < 1000):qr i C x f ρ os=some (.nx ρ (VO.set k ⟨C,cP x (.val d) st⟩)):=by
 unfold qr;rw[h,zA];show ((obj i C ρ VO).bind _)=_;rw[h1,zA];exact yK hl
def HA(h:obj i C ρ os=some (k,st))(hf:st.lookup x=some (.lst ds))(hr:r ρ os=some d)(hl:ds.length < sizeLine):yg i C x r ρ os=some (.nx ρ (os.set k ⟨C,cP x (.lst (ds++[d])) st⟩)):=by
 unfold yg;rw[h,zA];show (match st.lookup x with|some (.lst ds)=>(r ρ os).bind λd=>if ds.length < sizeLine then some (Dv.nx ρ (os.set k ⟨C,cP x (.lst (ds++[d])) st⟩)) else none|_=>none)=_;rw[hf];show ((r ρ os).bind _)=_;rw[hr,zA];exact yK hl
def y8(ha:fs ρ os=some (ds,VO))(hb:ρ.all (below VO.length)=true)(hl:ds.length+1=n)(hm:mi (.obj 0::ds.map Slot.val) []=some (.none,st)):se i C n mi fs ρ os=some (.nx (ρ.set i (.obj VO.length)) (VO++[⟨C,st⟩])):=by
 unfold se;rw[ha,zA];show (if ρ.all (below VO.length)=true/\ds.length+1=n then (mi (.obj 0::ds.map Slot.val) []).bind _ else none)=_;rw[yK ⟨hb,hl⟩,hm];rfl
def GJ(h:obj i C ρ os=some (k,st))(hn:(st.lookup m).isNone=true)(hm:MV y z st=some (d,st1)):P4 i C m y z ρ os=some (d,os.set k ⟨C,st1⟩):=by
 unfold P4;rw[h,zA];show (if (st.lookup m).isNone=true then (MV y z st).map _ else none)=_;rw[yK hn,hm];rfl
def fX(h:g (ρ++List.replicate (n - ρ.length) .Vs) [⟨C,st⟩]=some (.rt d [⟨C,st1⟩])):d6 g C n ρ st=some (d,st1):=by
 unfold d6;rw[h];exact yK rfl
def nI(h:g (ρ++List.replicate (n - ρ.length) .Vs) [⟨C,st⟩]=some (.nx ρ' [⟨C,st1⟩])):d6 g C n ρ st=some (.none,st1):=by
 unfold d6;rw[h];exact yK rfl
def KA(h:g (ds.map Slot.val++List.replicate (n - ds.length) .Vs) []=some (.rt d os)):Fq g n ds=some d:=by
 unfold Fq;rw[h];rfl
def jb(h1:fi (bp (hand fz 0 ρ))=some ds)(h2:gN tgt g ds (hand fz 0 ρ) os=some o):r9 fz fi tgt g ρ os=some o:=by
 unfold r9;rw[h1,zA];exact h2
end
section
variable {os Vz VO Wl:Γ Oj}{fs:sP}{st st1 VZ:Fs}
def lj(h:fl ρ os=some ds)(h1:obj i C ρ os=some (k,st))(hl:st.length < 1000):jt i C x fl ρ os=some (.nx ρ (os.set k ⟨C,cP x (.lst ds) st⟩)):=by
 unfold jt;rw[h,zA,h1,zA];exact yK hl
def CS(h:obj i C ρ os=some (k,st))(hf:st.lookup x=some (.lst ds)):zz i C x ρ os=some ds:=by
 unfold zz;rw[h,zA];show (match st.lookup x with|some (.lst ds)=>some ds|_=>none)=_;rw[hf]
def zg(h:f ρ os=some (d,VO))(ho:ρ[i]?=some (.own ds))(hl:ds.length < sizeLine):tK i f ρ os=some (.nx (ρ.set i (.own (ds++[d]))) VO):=by
 unfold tK;rw[h,zA];show (match ρ[i]? with|some (.own ds)=>if ds.length < sizeLine then some (Dv.nx (ρ.set i (.own (ds++[d]))) VO) else none|_=>none)=_;rw[ho];exact yK hl
def Hr(h:fs ρ os=some (ds,VO))(hl:ds.length<=1000):Aj i fs ρ os=some (.nx (ρ.set i (.own ds)) VO):=by
 unfold Aj small;rw[h,zA,yK (yD hl (by rw[qT];decide))];rfl
def iD{mm:Γ Slot->Fs->Δ (D×Fs)}{fs:Cb}(h0:obj i C ρ os=some (k,st))(h:fs ρ os=some (sl,VO))(h1:obj i C ρ VO=some (k,st1))(hl:sl.length=n)(hm:mm sl st1=some (d,VZ)):iK i C n mm fs ρ os=some (d,VO.set k ⟨C,VZ⟩):=by
 unfold iK;rw[h0,zA,h,zA];show ((obj i C ρ VO).bind _)=_;rw[h1,zA];show (if sl.length=n then (mm sl st1).map _ else none)=_;rw[yK hl,hm];rfl
def dW{sl:Γ Slot}{g:Cb}(h1:f ρ os=some (d,VO))(h2:g ρ VO=some (sl,Wl)):md f g ρ os=some (.val d::sl,Wl):=by
 unfold md;rw[h1,zA];show (g ρ VO).map _=_;rw[h2];rfl
def nK{sl:Γ Slot}{g:Cb}(h2:g ρ os=some (sl,Wl)):uO g ρ os=some (.obj 0::sl,Wl):=by unfold uO;rw[h2];rfl
def nM:zu ρ os=some ([],os):=rfl
def Ht(h:obj i C ρ os=some (k,st))(hn:(st.lookup m).isNone=true)(hb:ρ.all (below os.length)=true)(ht:tw st=some (st1,VZ)):P9 j i C m tw ρ os=some (.nx (ρ.set j (.obj os.length)) (os.set k ⟨C,st1⟩++[⟨C,VZ⟩])):=by
 unfold P9;rw[h,zA];show (if (st.lookup m).isNone=true/\ρ.all (below os.length)=true then (tw st).map _ else none)=_;rw[yK ⟨hn,hb⟩,ht];rfl
def qb(h:fs ρ os=some (ds,VO))(hl:ds.length<=1000):oTup fs ρ os=some (.tuple ds,VO):=by
 unfold oTup small;rw[h,zA,yK (yD hl (by rw[qT];decide))];rfl
def GA(h:ta ρ os=some (c,VO)):zx ta ρ os=some (!c,VO):=by unfold zx;rw[h];rfl
def Ih(h:hand fz 0 ρ=ρ'):cm fz g ρ os=g ρ' os:=by unfold cm;rw[h]
def ask{mm:Γ Slot->Fs->Δ (D×Fs)}(h:obj i C ρ os=some (k,st1))(hm:mm [.obj 0] st1=some (d,VZ))(hn:(st1.lookup m).isNone=true:=by rfl):aZ i C m 1 mm bq ρ os=some (d,os.set k ⟨C,VZ⟩):=ig h hn bF h rfl hm
def gC(h1:tgt ρ d=some ρ1)(h2:gb ρ1 os=some (.nx Wb Wl)):gN tgt gb (d::ds) ρ os=gN tgt gb ds Wb Wl:=by
 rw[gN,h1,zA,h2];rfl
def Jb(hh:hand fz 0 ρ=ρ)(h:f ρ os=some (d,Vz)):cm fz (f9 f) ρ os=some (.rt d Vz):=eV (by rw[hh];exact h)
def QV:20000 < sizeLine:=by rw[qT];decide
end
def Of(hk:k < W.length):(∃i∈iG G T W P,((i:Nat):Int)=((k:Nat):Int))↔gW G T W P k=3:=by
 constructor
 ·rintro⟨i,hi,e⟩;obtain rfl:i=k:=by lia
  unfold iG at hi;rw[List.mem_filter,zJ] at hi;exact hi.2
 ·exactλe=>⟨k,by unfold iG;rw[List.mem_filter,zS,zJ];exact⟨hk,e⟩,rfl⟩
def FP(h:Wd G T W)(q:Pn G T W P)(hk:k < W.length)(e:gW G T W P k=3):nS [aJ G T W,af P,nD k]=some (af (mN G T W P k)):=by
 refine bz ?_;show rX [.val (aJ G T W),.val (af P),.val (nD k)]=_;unfold rX;refine (av (mK (call_of (cE h q) rfl rfl))).trans ?_;refine (av (mK (call_of (rM (i:=((k:Nat):Int)) (n:=((W.length:Nat):Int)) (by lia) (by lia)) (cons_of rfl (nG q.len rfl)) rfl))).trans ?_;refine (av (cT (bh (aq (a:=nD k) (b:=.list ((iG G T W P).map nD)) ((D1 _ _).trans (by rw[decide_eq_decide.mpr (Of (G:=G) (T:=T) (P:=P) hk),yA e];rfl)) rfl (call_of (o8 h q) rfl rfl))))).trans ?_;exact aX (call_of (pE h q hk e) rfl rfl)
abbrev iT(w p:D)(ds us:Γ D):Fs:=[("ground",.val w),("present",.val p),("done",.lst ds),("undone",.lst us)]
def Cu(h:bS [w,p]=some .none):k6 C [.obj 0,.val w,.val p] []=some (.none,iT w p [] []):=by
 refine nI (ρ':=[.obj 0,.val w,.val p]) ?_;refine (aA (gm (mK (call_of h rfl rfl)))).trans ?_;refine (aA (qj (bf rfl) (ar rfl rfl) (Nat.le_of_ble_eq_true rfl))).trans ?_;refine (aA (qj (bf rfl) (ar rfl rfl) (Nat.le_of_ble_eq_true rfl))).trans ?_;refine (aA (lj (ds:=[]) rfl (ar rfl rfl) (Nat.le_of_ble_eq_true rfl))).trans ?_;exact (lj (ds:=[]) rfl (ar rfl rfl) (Nat.le_of_ble_eq_true rfl)).trans rfl
def vh(hl:ds.length < sizeLine):cw C [.obj 0,.val v,.val q] (iT w p ds us)=some (.none,iT w q (ds++[.tuple [v,p]]) []):=by
 refine nI (ρ':=[.obj 0,.val v,.val q]) ?_;refine (aA (HA (ar rfl rfl) rfl (CL (ny rfl (ny (K6 (ar rfl rfl) rfl) rfl)) (by simp)) hl)).trans ?_;refine (aA (lj (ds:=[]) rfl (ar rfl rfl) (Nat.le_of_ble_eq_true rfl))).trans ?_;exact (qj (bf rfl) (ar rfl rfl) (Nat.le_of_ble_eq_true rfl)).trans rfl
def Jv(hl:ds.length < sizeLine)(h1:nS [w,p,d]=some q)(h2:eQ [w,q]=some v):gT C [.obj 0,.val d] (iT w p ds us)=some (v,iT w q (ds++[.tuple [.str "push",p]]) []):=by
 refine fX ?_;refine (aA (dU (ig (ar rfl rfl) rfl (aC (bf rfl) (aC (iF h1 (aC (dk (ar rfl rfl) rfl) (aC (dk (ar rfl rfl) rfl) (aC (bf rfl) bF))) rfl) bF)) (ar rfl rfl) rfl (vh hl)))).trans ?_;exact eV (iF h2 (aC (dk (ar rfl rfl) rfl) (aC (dk (ar rfl rfl) rfl) bF)) rfl)
def NJ(hl:ds.length < sizeLine)(h1:bS [w,q]=some .none)(h2:eQ [w,q]=some v):iV C [.obj 0,.val q] (iT w p ds us)=some (v,iT w q (ds++[.tuple [.str "lay",p]]) []):=by
 refine fX ?_;refine (aA (dU (iF h1 (aC (dk (ar rfl rfl) rfl) (aC (bf rfl) bF)) rfl))).trans ?_;refine (aA (dU (ig (ar rfl rfl) rfl (aC (bf rfl) (aC (bf rfl) bF)) (ar rfl rfl) rfl (vh hl)))).trans ?_;exact eV (iF h2 (aC (dk (ar rfl rfl) rfl) (aC (dk (ar rfl rfl) rfl) bF)) rfl)
def D2{rs:Γ (Γ Int)}(hl:ds.length < sizeLine)(h1:uU [w,p]=some (.list (rs.map af)))(h2:rs.getLast?=some X):fH C [.obj 0] (iT w p ds us)=some (.int ((rs.length:Nat) - 1:Int),iT w (af X) (ds++[.tuple [.str "settle",p]]) []):=by
 refine fX ?_;refine (aA (qa (iF h1 (aC (dk (ar rfl rfl) rfl) (aC (dk (ar rfl rfl) rfl) bF)) rfl))).trans ?_;refine (aA (dU (ig (ar rfl rfl) rfl (aC (bf rfl) (aC (bf (aq (b:=.int (-1)) (zt h2) rfl rfl)) bF)) (ar rfl rfl) rfl (vh hl)))).trans ?_;exact eV (bf (aq (cO ((rs.length:Nat):Int) 1) (m9 (r:=rs) (g:=af) rfl) rfl))
def uQ:aF C [.obj 0] (iT w p ds us)=some (p,iT w p ds us):=fX (eV (dk (ar rfl rfl) rfl))
def DV:aO C [.obj 0] (iT w p ds us)=some (.tuple [.int ds.length,.int us.length],iT w p ds us):=fX (eV (Q6 (CL (ny (BP (ar rfl rfl) rfl) (ny (BP (ar rfl rfl) rfl) rfl)) (by simp))))
def KW(hl:us.length < sizeLine):cg C [.obj 0] (iT w p (ds++[.tuple [v,q]]) us)=some (v,iT w q ds (us++[.tuple [v,p]])):=by
 refine fX (eV ((GJ (d:=v) (st1:=iT w q ds (us++[.tuple [v,p]])) (ar rfl rfl) rfl ?_).trans rfl));have e:(ds++[PyData.tuple [v,q]])[(ds++[PyData.tuple [v,q]]).length - 1]?=some (.tuple [v,q]):=by simp
 have e2:(ds++[PyData.tuple [v,q]]).dropLast=ds:=by simp
 show (match (ds++[PyData.tuple [v,q]])[(ds++[PyData.tuple [v,q]]).length - 1]? with
    | some (.tuple [w',p'])=>if us.length < sizeLine/\(iT w p (ds++[PyData.tuple [v,q]]) us).length < 1000 then some (w',cP dZ (.val p') (cP "undone" (.lst (us++[PyData.tuple [w',p]])) (cP "done" (.lst (ds++[PyData.tuple [v,q]]).dropLast) (iT w p (ds++[PyData.tuple [v,q]]) us)))) else none
    | _=>none)=_
 rw[e,e2];show (if us.length < sizeLine/\4 < 1000 then _ else _)=_;rw[yK ⟨hl,by decide⟩];rfl
def Fj(hl:us.length < sizeLine):cN C [.obj 0] (iT w p us (ds++[.tuple [v,q]]))=some (v,iT w q (us++[.tuple [v,p]]) ds):=by
 refine fX (eV ((GJ (d:=v) (st1:=iT w q (us++[.tuple [v,p]]) ds) (ar rfl rfl) rfl ?_).trans rfl));have e:(ds++[PyData.tuple [v,q]])[(ds++[PyData.tuple [v,q]]).length - 1]?=some (.tuple [v,q]):=by simp
 have e2:(ds++[PyData.tuple [v,q]]).dropLast=ds:=by simp
 show (match (ds++[PyData.tuple [v,q]])[(ds++[PyData.tuple [v,q]]).length - 1]? with
    | some (.tuple [w',p'])=>if us.length < sizeLine/\(iT w p us (ds++[PyData.tuple [v,q]])).length < 1000 then some (w',cP dZ (.val p') (cP "done" (.lst (us++[PyData.tuple [w',p]])) (cP "undone" (.lst (ds++[PyData.tuple [v,q]]).dropLast) (iT w p us (ds++[PyData.tuple [v,q]]))))) else none
    | _=>none)=_
 rw[e,e2];show (if us.length < sizeLine/\4 < 1000 then _ else _)=_;rw[yK ⟨hl,by decide⟩];rfl
def CI(h:bS [w,p]=some .none):js C (iT w p ds us)=some (iT w p ds us,iT w p ds us):=by
 have e:(bg (se 1 C 3 (k6 C) (aV (jo 0 C "ground") (aV (jo 0 C "present") bq))) (bg (jt 1 C "done" (zz 0 C "done")) (jt 1 C "undone" (zz 0 C "undone")))) [.obj 0,.Vs] [⟨C,iT w p ds us⟩]=some (.nx [.obj 0,.obj 1] [⟨C,iT w p ds us⟩,⟨C,iT w p ds us⟩]):=by
  refine (aA (y8 (aC (dk (ar rfl rfl) rfl) (aC (dk (ar rfl rfl) rfl) bF)) rfl rfl (Cu h))).trans ?_;refine (aA (lj (CS (ar rfl rfl) rfl) (ar rfl rfl) (Nat.le_of_ble_eq_true rfl))).trans ?_;exact (lj (CS (ar rfl rfl) rfl) (ar rfl rfl) (Nat.le_of_ble_eq_true rfl)).trans rfl
 unfold js sy;show ((bg _ _) [.obj 0,.Vs] _).bind _=_;rw[e];show (if C=C/\C=C then some (iT w p ds us,iT w p ds us) else none)=_;rw[yK ⟨rfl,rfl⟩]
def word(v:D):Prop:=v=.str "push"\/v=.str "lay"\/v=.str "settle"
def QC(C:Ψ)(hl:ns.length<=63)(h:Wd G T W)(h2:∀w∈W,w.2.2<=2)(hw:W.length<=9)(q:Pn G T W P)(a:Int):∃v P',word v/\Pn G T W P'/\∀ds us:Γ D,ds.length < sizeLine->cX C [.val (bT ns),.val (.int a),.val (aJ G T W),.obj 0] (iT (aJ G T W) (af P) ds us)=some (.none,iT (aJ G T W) (af P') (ds++[.tuple [v,af P]]) []):=by
 let⟨d1,d2,d3⟩:=dz (ns:=ns) a 4 hl (by decide);have eg:=Nn h q.len (q.smP h);have t:∀ρ:Dl.Env,ab 4 ρ=some (.int (dr ns a 4))->ab 5 ρ=some (.list ((iG G T W P).map nD))->fy Zx Zy ρ=some (decide (dr ns a 4 < 2)&&!decide (iG G T W P=[])):=λρ a4 a5=>JB (bh (aq (lJ _ 2) a4 rfl)) (bh (aq (R3 _) a5 rfl));have pre:∀ {ds us:Γ D}{g:OG},bg (gL Zw) (bg (vj 5 (lu 2 gK (aV (oD (ab 2)) (aV (aZ 3 C "plan" 1 (aF C) bq) bq)))) g) [.val (bT ns),.val (.int a),.val (aJ G T W),.obj 0,.Vs,.Vs] [⟨C,iT (aJ G T W) (af P) ds us⟩]=g [.val (bT ns),.val (.int a),.val (aJ G T W),.obj 0,.val (.int (dr ns a 4)),.val (.list ((iG G T W P).map nD))] [⟨C,iT (aJ G T W) (af P) ds us⟩]:=λ{ds us g}=>by
  refine (aA (gm (cA (call_of d1 rfl rfl) rfl))).trans ?_;exact (aA (qa (iF eg (aC (bf rfl) (aC (ask (ar rfl rfl) uQ) bF)) rfl))).trans rfl
 by_cases c1:dr ns a 4 < 2/\iG G T W P≠[]
 ·have hn:0 < (iG G T W P).length:=List.length_pos_iff.mpr c1.2;let⟨e1,e2,e3⟩:=dz (ns:=ns) (a+1) (((iG G T W P).length:Nat):Int) hl (by lia);obtain⟨j,hj⟩:∃j:Nat,dr ns (a+1) (((iG G T W P).length:Nat):Int)=((j:Nat):Int):=⟨_,(Int.toNat_of_nonneg e2).symm⟩
  rw[hj] at e1 e3;have hjl:j < (iG G T W P).length:=by lia
  obtain⟨x,hx⟩:∃x,(iG G T W P)[j]?=some x:=⟨_,zK hjl⟩
  have hm:=qA hx;unfold iG at hm;rw[List.mem_filter,zS,zJ] at hm;have pn:=Bg h q hm.1 hm.2;refine⟨_,_,.inl rfl,pn,λds us hd=>nI (ρ':=[.val (bT ns),.val (.int a),.val (aJ G T W),.obj 0,.val (.int (dr ns a 4)),.val (.list ((iG G T W P).map nD))]) ?_⟩;refine pre.trans ?_;refine (B8 (sk ((t _ rfl rfl).trans (by rw[yA c1.1,zZ c1.2];rfl)))).trans ?_;exact (dU (ig (ar rfl rfl) rfl (aC (bf (aq (a:=.list ((iG G T W P).map nD)) (b:=nD j) (uP (i:=j) hx) rfl (call_of e1 (cons_of rfl (cons_of (aq (cC a 1) rfl rfl) (cons_of (m9 (r:=iG G T W P) (g:=nD) rfl) rfl))) rfl))) bF) (ar rfl rfl) rfl (Jv hd (FP h q hm.1 hm.2) (o8 h pn)))).trans rfl
 ·have tf:(decide (dr ns a 4 < 2)&&!decide (iG G T W P=[]))=false:=by
   by_cases x1:dr ns a 4 < 2
   ·by_cases x2:iG G T W P=[]
    ·rw[yA x2];simp
    ·exact absurd ⟨x1,x2⟩ c1
   ·rw[zZ x1];rfl
  by_cases c2:dr ns a 4=2
  ·let⟨w1,wp⟩:=O2 h q;refine⟨_,_,.inr (.inr rfl),wp,λds us hd=>nI (ρ':=[.val (bT ns),.val (.int a),.val (aJ G T W),.obj 0,.val (.int (dr ns a 4)),.val (.list ((iG G T W P).map nD))]) ?_⟩;refine pre.trans ?_;refine (fI (sk ((t _ rfl rfl).trans (by rw[tf])))).trans ?_;refine (B8 (sk (bh (aq ((b0 _ 2).trans (by rw[yA c2])) rfl rfl)))).trans ?_;exact (dU (ask (ar rfl rfl) (D2 hd (Nr h q h2 hw) w1))).trans rfl
  ·have pn:=BO (ns:=ns) (at':=a+2) hl h;refine⟨_,_,.inr (.inl rfl),pn,λds us hd=>nI (ρ':=[.val (bT ns),.val (.int a),.val (aJ G T W),.obj 0,.val (.int (dr ns a 4)),.val (.list ((iG G T W P).map nD))]) ?_⟩;refine pre.trans ?_;refine (fI (sk ((t _ rfl rfl).trans (by rw[tf])))).trans ?_;refine (fI (sk (bh (aq ((b0 _ 2).trans (by rw[zZ c2])) rfl rfl)))).trans ?_;exact (dU (ig (ar rfl rfl) rfl (aC (bf (call_of (qt hl h) (cons_of rfl (cons_of (aq (cC a 2) rfl rfl) (cons_of rfl rfl))) rfl)) bF) (ar rfl rfl) rfl (NJ hd (cE h pn) (o8 h pn)))).trans rfl
abbrev Ss(v:D)(P:Γ Int):D:=.tuple [v,af P]
def A6(v:Nat->D)(p:Nat->Γ Int)(k:Nat):Γ D:=(List.range k).map λi=>Ss (v i) (p i)
def LW(v:Nat->D)(p:Nat->Γ Int):Nat->Nat->Γ D
 | _,0=>[]
 | k,m+1=>LW v p (k+1) m++[Ss (v k) (p (k+1))]
abbrev atK(w:D)(v:Nat->D)(p:Nat->Γ Int)(k m:Nat):Fs:=iT w (af (p k)) (A6 v p k) (LW v p k m)
def Bu(v:Nat->D)(p:Nat->Γ Int)(k:Nat):(A6 v p k).length=k:=by unfold A6;rw[zD,zR]
def Bi(v:Nat->D)(p:Nat->Γ Int):∀k m:Nat,(LW v p k m).length=m
 | _,0=>rfl
 | k,m+1=>by rw[LW,zN,Bi v p (k+1) m];rfl
def u5(v:Nat->D)(p:Nat->Γ Int)(k:Nat):A6 v p (k+1)=A6 v p k++[Ss (v k) (p k)]:=by unfold A6;rw[vL,qZ];rfl
def rY(h:∀i,i < k->v' i=v i/\p' i=p i):A6 v' p' k=A6 v p k:=by
 unfold A6;exact yH λi hi=>by
  let⟨a,b⟩:=h i (List.mem_range.mp hi);rw[a,b]
def p7(hm:m < sizeLine):cg C [.obj 0] (atK w v p (k+1) m)=some (v k,atK w v p k (m+1)):=by
 have:=KW (C:=C) (w:=w) (p:=af (p (k+1))) (ds:=A6 v p k) (us:=LW v p (k+1) m) (v:=v k) (q:=af (p k)) (by rw[Bi];exact hm);rw[<- u5] at this;exact this
def Af(hk:k < sizeLine):cN C [.obj 0] (atK w v p k (m+1))=some (v k,atK w v p (k+1) m):=by
 have:=Fj (C:=C) (w:=w) (p:=af (p k)) (ds:=LW v p (k+1) m) (us:=A6 v p k) (v:=v k) (q:=af (p (k+1))) (by rw[Bu];exact hk);rw[<- u5] at this;exact this
def dE:aO C [.obj 0] (atK w v p k m)=some (.tuple [.int ((k:Nat):Int),.int ((m:Nat):Int)],atK w v p k m):=by
 have:=DV (C:=C) (w:=w) (p:=af (p k)) (ds:=A6 v p k) (us:=LW v p k m);rw[Bu,Bi] at this;exact this
def v9(f:Nat->α)(k:Nat)(x:α):Nat->α:=λi=>if i=k then x else f i
def lQ:v9 f k x k=x:=yK rfl
def nU(h:i≠k):v9 f k x i=f i:=yM h
def IU:iT w (af P') (A6 v p k++[Ss v' (p k)]) []=atK w (v9 v k v') (v9 p (k+1) P') (k+1) 0:=by
 show _=iT w (af (v9 p (k+1) P' (k+1))) (A6 (v9 v k v') (v9 p (k+1) P') (k+1)) [];rw[u5,lQ,lQ,nU (show k≠k+1 by lia),rY λi hi=>⟨nU (show i≠k by lia),nU (show i≠k+1 by lia)⟩]
def Cj{v:D}(h:word v):e9 v v=some (.bool false):=by
 rcases h with rfl|rfl|rfl
 ·kernel_rfl
 ·kernel_rfl
 ·kernel_rfl
def KH{v:D}(h:word v):jq v=true:=by rcases h with rfl|rfl|rfl<;>rfl
def Kw{v:D}(h:word v):zl v (.tuple [.str "push",.str "lay",.str "settle"])=some (.bool false):=by
 rcases h with rfl|rfl|rfl
 ·kernel_rfl
 ·kernel_rfl
 ·kernel_rfl
def MA{d:D}{os:Γ Oj}(hF:f (bp ρ)=none)(hA:f (aQ ρ)=some d)(hs:jq d=true):oD f ρ os=some (d,os):=by
 unfold oD;rw[hF];show ((f (aQ ρ)).bind λd=>if jq d=true then some (d,os) else none)=_;rw[hA,zA,yK hs]
def rE(h1:tgt ρ1 d=some Wb)(h2:gb Wb VO=some (.nx WS Y1)):∀ {l:Γ D}{ρ:ao}{os:Γ Oj},gN tgt gb l ρ os=some (.nx ρ1 VO)->gN tgt gb (l++[d]) ρ os=some (.nx WS Y1)
 | [],ρ,os,h=>by cases h;exact (gC h1 h2).trans rfl
 | e::l,ρ,os,h=>by
  rw[gN] at h;let⟨ρ',e1,h⟩:=bs h;let⟨o,e2,h⟩:=bs h;cases o with
  | nx aij aik=>exact (gC e1 e2).trans (rE h1 h2 h)
  | rt d os=>cases h
def eF(f:Nat->D)(R:Nat->ao->Γ Oj->Prop):∀ (n:Nat) {ρ:ao}{os:Γ Oj},(∀j ρ os,j < n->R j ρ os->∃ρ1 Wb Wl,tgt ρ (f j)=some ρ1/\gb ρ1 os=some (.nx Wb Wl)/\R (j+1) Wb Wl)->R 0 ρ os->∃ρ' Vz,gN tgt gb ((List.range n).map f) ρ os=some (.nx ρ' Vz)/\R n ρ' Vz
 | 0,ρ,os,_,h=>⟨ρ,os,rfl,h⟩
 | n+1,ρ,os,hh,h=>by
  let⟨ρ1,VO,e1,r1⟩:=eF f R n (λj ρ os hj=>hh j ρ os (by lia)) h;let⟨Wb,WS,Y1,e2,e3,r2⟩:=hh n ρ1 VO (by lia) r1;refine⟨WS,Y1,?_,r2⟩;rw[vL,qZ];exact rE e2 e3 e1
def step_at(C:Ψ)(hl:ns.length<=63)(h:Wd G T W)(h2:∀w∈W,w.2.2<=2)(hw:W.length<=9)(q:Pn G T W (p k))(hk:k < sizeLine)(a:Int):∃v' p',(∀i,i<=k->p' i=p i)/\(∀i,i < k->v' i=v i)/\word (v' k)/\Pn G T W (p' (k+1))/\cX C [.val (bT ns),.val (.int a),.val (aJ G T W),.obj 0] (atK (aJ G T W) v p k m)=some (.none,atK (aJ G T W) v' p' (k+1) 0):=by
 let⟨x,P',hx,hP,e⟩:=QC C hl h h2 hw q a;refine⟨v9 v k x,v9 p (k+1) P',λi hi=>nU (by lia),λi hi=>nU (by lia),by rw[lQ];exact hx,by rw[lQ];exact hP,?_⟩;rw[e (A6 v p k) (LW v p k m) (by rw[Bu];exact hk),IU]
abbrev IC(P:Γ Int)(k m:Nat):D:=.tuple [af P,af [((k:Nat):Int),((m:Nat):Int)]]
def ee:aF C [.obj 0] (atK w v p k m)=some (af (p k),atK w v p k m):=uQ
def RL(C:Ψ)(hl:ns.length<=63)(h:Wd G T W)(h2:∀w∈W,w.2.2<=2)(hw:W.length<=9)(q:Pn G T W (p k))(hk:k+3 < sizeLine):∃v' p',(∀i,i<=k->p' i=p i)/\(∀i,i < k->v' i=v i)/\(∀i,k<=i->i < k+3->word (v' i))/\eY C [.val (bT ns),.val (aJ G T W),.obj 0] (atK (aJ G T W) v p k m)=some (IC (p' (k+3)) (k+3) 0,atK (aJ G T W) v' p' (k+3) 0):=by
 let⟨v1,p1,a1,b1,c1,q1,e1⟩:=step_at (v:=v) (p:=p) (k:=k) (m:=m) C hl h h2 hw q (by lia) (260+14 * ((0:Nat):Int));let⟨v2,p2,a2,b2,c2,q2,e2⟩:=step_at (v:=v1) (p:=p1) (k:=k+1) (m:=0) C hl h h2 hw q1 (by lia) (260+14 * ((1:Nat):Int));let⟨v3,p3,a3,b3,c3,q3,e3⟩:=step_at (v:=v2) (p:=p2) (k:=k+1+1) (m:=0) C hl h h2 hw q2 (by lia) (260+14 * ((2:Nat):Int));refine⟨v3,p3,λi hi=>by rw[a3 i (by lia),a2 i (by lia),a1 i hi],λi hi=>by rw[b3 i (by lia),b2 i (by lia),b1 i hi],λi h1 h2=>?_,?_⟩
 ·rcases (by lia:i=k\/i=k+1\/i=k+1+1) with rfl|rfl|rfl
  ·rw[b3 _ (by lia),b2 _ (by lia)];exact c1
  ·rw[b3 _ (by lia)];exact c2
  ·exact c3
 refine fX ?_;have one:∀ {j:Nat}{x3:Slot}{s s':Fs},cX C [.val (bT ns),.val (.int (260+14 * ((j:Nat):Int))),.val (aJ G T W),.obj 0] s=some (.none,s')->dQ C [.val (bT ns),.val (aJ G T W),.obj 0,.val (nD j)] [⟨C,s⟩]=some (.nx [.val (bT ns),.val (aJ G T W),.obj 0,.val (nD j)] [⟨C,s'⟩]):=λ{j x3 s s'} e=>by
  unfold dQ;exact (dU (iD (ar rfl rfl) (dW (bf rfl) (dW (bf (aq (cC 260 (14 * ((j:Nat):Int))) rfl (aq (dg (iL (by decide))) rfl rfl))) (dW (bf rfl) (nK nM)))) (ar rfl rfl) rfl e)).trans rfl
 have fo:gN (oW 3) (dQ C) ((List.range 3).map nD) [.val (bT ns),.val (aJ G T W),.obj 0,.Vs] [⟨C,atK (aJ G T W) v p k m⟩]=some (.nx [.val (bT ns),.val (aJ G T W),.obj 0,.val (nD 2)] [⟨C,atK (aJ G T W) v3 p3 (k+3) 0⟩]) :=
  (gC rfl (one (x3:=.Vs) e1)).trans ((gC rfl (one (x3:=.Vs) e2)).trans ((gC rfl (one (x3:=.Vs) e3)).trans rfl))
 refine (aA (jb (iW (n:=3) rfl (by lia)) fo)).trans ?_;exact eV (qb (aC (ask (ar rfl rfl) ee) (aC (ask (ar rfl rfl) dE) bF)) (by simp))
def ED(P:Γ Int)(k m:Nat):SeqAt.shaped (IC P k m)=true:=by
 show SeqAt.shaped (.tuple ([P,[((k:Nat):Int),((m:Nat):Int)]].map af))=true;let⟨b,h1,h2⟩:=ue [P,[((k:Nat):Int),((m:Nat):Int)]];exact (ib.tup (b:=b) (k:=1) (by rw[zD];exact h1) λx hx=>by
  let⟨r,WY,rfl⟩:=List.mem_map.mp hx;exact u0 (h2 r WY)).shaped (by decide)
def qc(P:Γ Int)(k m:Nat):e9 (IC P k m) (IC P k m)=some (.bool false):=by
 have e:PyData.eqv (IC P k m) (IC P k m)=true:=by
  show PyData.eqv (.tuple ([P,[((k:Nat):Int),((m:Nat):Int)]].map af)) (.tuple ([P,[((k:Nat):Int),((m:Nat):Int)]].map af))=true;simp?[PyData.eqv,sO,jO]
 simp?[e9,PX,ED,jN,xG,e,zB,xX]
def JF(WG:fi ρ=some ds)(hh:∀d∈ds,tt (some d::cs.map λj=>(ρ[j]?).getD none)=some false):ay 1 cs fi (fG 0) tt te ρ=some []:=by
 unfold ay;rw[WG,zA];have:di (fG 0) tt te (fE 1 cs ρ) ds=some []:=by
  clear WG
  induction ds with
  | nil=>rfl
  | cons d ds ih =>
   rw[di,show fG 0 (fE 1 cs ρ) d=some (some d::cs.map λj=>(ρ[j]?).getD none) from rfl,zA,hh d zE,zA,yM (by simp)];exact ih λd hd=>hh d (zC _ hd)
 rw[this];rfl
namespace K74M
def plain(x:Slot):Prop:=x=.Vs\/∃d,x=.val d
abbrev rws(p:Nat->Γ Int)(n:Nat):Γ D:=(List.range (n+1)).map λi=>af (p i)
def wU(h:k<=n):aL (.list (rws p n)) (nD k)=some (af (p k)):=uP (f:=λi=>af (p i)) (i:=k) (x:=k) (by rw[List.getElem?_range (by lia)])
abbrev CT(v:Nat->D)(n j:Nat):Γ D:=(List.range j).map λi=>v (n - 1 - i)
def wx(h1:-100<=i)(h2:i<=100):pU i=true:=by
 unfold pU;rw[yA (by lia),yA (by lia)];rfl
abbrev gs(p:Nat->Γ Int)(n:Nat)(x3 x4:Slot):ao:=[.obj 0,.val (.list (rws p n)),.val (.int ((n:Nat):Int)),x3,x4]
def TZ(hn:n<=8)(hv:∀i,i < n->word (v i)):eC C [.obj 0,.val (.list (rws p n))] (atK w v p n 0)=some (.bool true,atK w v p n 0):=by
 have hb:=QV;have e2:(((List.range (n+1)).length:Nat):Int) - 1=((n:Nat):Int):=by rw[zR];lia
 let⟨ρ1,VO,l1,k1,x1,hk1,hx1,r1,o1⟩:=eF (tgt:=oW 4) (gb:=dP C) (λj=>PyData.int (((n:Nat):Int) - 1 - ((j:Nat):Int))) (λj ρ os=>∃k x4,k+j=n/\plain x4/\ρ=gs p n (.own (CT v n j)) x4/\os=[⟨C,atK w v p k j⟩]) n (ρ:=gs p n (.own []) .Vs) (os:=[⟨C,atK w v p n 0⟩])
  (λj ρ os hj hR=>by
   let⟨k,x4,hk,_,rfl,rfl⟩:=hR;obtain⟨k',rfl⟩:∃k',k=k'+1:=⟨k - 1,by lia⟩
   have e:((n:Nat):Int) - 1 - ((j:Nat):Int)=((k':Nat):Int):=by lia
   refine⟨gs p n (.own (CT v n j)) (.val (nD k')),gs p n (.own (CT v n (j+1))) (.val (nD k')),[⟨C,atK w v p k' (j+1)⟩],by rw[e];rfl,?_,k',_,by lia,.inr ⟨_,rfl⟩,rfl,rfl⟩;unfold dP;refine (aA (zg (ds:=CT v n j) (ask (ar rfl rfl) (p7 (by lia))) rfl (by rw[zD,zR];lia))).trans ?_;have ew:CT v n j++[v k']=CT v n (j+1):=by
    show _=(List.range (j+1)).map _;rw[vL,qZ,List.map_singleton,show n - 1 - j=k' by lia]
   show xc _ _ _ (gs p n (.own (CT v n j++[v k'])) (.val (nD k'))) [⟨C,atK w v p k' (j+1)⟩]=_;rw[ew];exact (fI (sM (ji (dJ (eR (p k')) (ask (ar rfl rfl) ee) (bf (aq (wU (by lia)) rfl rfl)))) (ji (dJ (eR [((k':Nat):Int),((j+1:Nat):Int)]) (ask (ar rfl rfl) dE) (bf (tup_is (cons_of rfl (cons_of (aq ((cO ((n:Nat):Int) ((k':Nat):Int)).trans (by rw[show ((n:Nat):Int) - ((k':Nat):Int)=((j+1:Nat):Int) by lia])) rfl rfl) rfl)) (by simp))))))).trans rfl)
  ⟨n,.Vs,rfl,.inl rfl,rfl,rfl⟩
 obtain rfl:k1=0:=by lia
 let⟨Wb,Wl,l2,m2,x2,hm2,hx2,r2,o2⟩:=eF (tgt:=oW 4) (gb:=dR C) (λj=>PyData.int (1+((j:Nat):Int))) (λj ρ os=>∃m x4,j+m=n/\plain x4/\ρ=gs p n (.own (CT v n n)) x4/\os=[⟨C,atK w v p j m⟩]) n (ρ:=ρ1) (os:=VO)
  (λj ρ os hj hR=>by
   let⟨m,x4,hm,_,rfl,rfl⟩:=hR;obtain⟨m',rfl⟩:∃m',m=m'+1:=⟨m - 1,by lia⟩
   refine⟨gs p n (.own (CT v n n)) (.val (nD (j+1))),gs p n (.own (CT v n n)) (.val (nD (j+1))),[⟨C,atK w v p (j+1) m'⟩],by rw[show (1:Int)+((j:Nat):Int)=((j+1:Nat):Int) by lia];rfl,?_,m',_,by lia,.inr ⟨_,rfl⟩,rfl,rfl⟩;unfold dR;have hw:=hv j hj;have ei:aL (.list (CT v n n)) (nD (n - 1 - j))=some (v j):=by
    rw[uP (f:=λi=>v (n - 1 - i)) (l:=List.range n) (i:=n - 1 - j) (x:=n - 1 - j) (by rw[List.getElem?_range (by lia)]),show n - 1 - (n - 1 - j)=j by lia]
   have es:∀ρ:Dl.Env,ab 2 ρ=some (.int ((n:Nat):Int))->ab 4 ρ=some (nD (j+1))->f2 Dl.fx (ab 2) (ab 4) ρ=some (nD (n - 1 - j)):=λρ a b=>aq ((cO ((n:Nat):Int) ((j+1:Nat):Int)).trans (by rw[show ((n:Nat):Int) - ((j+1:Nat):Int)=((n - 1 - j:Nat):Int) by lia])) a b;refine (aA ((fI (sM (ji (dJ (Cj hw) (ask (ar rfl rfl) (Af (by lia))) (MA rfl (aq ei rfl (es _ rfl rfl)) (KH hw)))) (ji (dJ (eR (p (j+1))) (ask (ar rfl rfl) ee) (bf (aq (wU (by lia)) rfl rfl)))))).trans P0)).trans ?_;exact (fI (ji (dJ (eR [((j+1:Nat):Int),((m':Nat):Int)]) (ask (ar rfl rfl) dE) (bf (tup_is (cons_of rfl (cons_of (aq ((cO ((n:Nat):Int) ((j+1:Nat):Int)).trans (by rw[show ((n:Nat):Int) - ((j+1:Nat):Int)=((m':Nat):Int) by lia])) rfl rfl) rfl)) (by simp)))))).trans rfl)
  ⟨n,x1,by lia,hx1,r1,o1⟩
 obtain rfl:m2=0:=by lia
 refine fX ?_;refine (aA (gm (cA (d:=.int ((n:Nat):Int)) (aq ((cO (((List.range (n+1)).length:Nat):Int) 1).trans (by rw[e2])) (m9 (r:=List.range (n+1)) (g:=λi=>af (p i)) rfl) rfl) rfl))).trans ?_;refine (aA (gm (ud (ds:=[]) rfl rfl))).trans ?_;have g3:∀ρ:Dl.Env,ab 2 ρ=some (.int ((n:Nat):Int))->Pi 3 Yv ρ=some ((List.range n).map λj=>PyData.int (((n:Nat):Int) - 1 - ((j:Nat):Int))):=λρ a=>by
  unfold Pi;rw[show Yv ρ=some [.int (((n:Nat):Int) - 1),.int (-1),.int (-1)] from cons_of (aq (cO _ 1) a rfl) rfl,zA];refine (yK rfl).trans ?_;show (if (pU (((n:Nat):Int) - 1)&&pU (-1)&&(-1:Int) == -1)=true then some ((List.range (((n:Nat):Int) - 1 - (-1)).toNat).map λk=>PyData.int (((n:Nat):Int) - 1 - ((k:Nat):Int))) else none)=_;rw[wx (by lia) (by lia),wx (by lia) (by lia),show (((n:Nat):Int) - 1 - (-1)).toNat=n by lia];exact yK rfl
 have g2:∀ρ:Dl.Env,ab 2 ρ=some (.int ((n:Nat):Int))->Pi 2 Yw ρ=some ((List.range n).map λj=>PyData.int (1+((j:Nat):Int))):=λρ a=>by
  unfold Pi;rw[show Yw ρ=some [.int 1,.int (((n:Nat):Int)+1)] from cons_of rfl (cons_of (aq (cC _ 1) a rfl) rfl),zA];refine (yK rfl).trans ?_;show (if (pU 1&&pU (((n:Nat):Int)+1))=true then some ((List.range (((n:Nat):Int)+1 - 1).toNat).map λk=>PyData.int (1+((k:Nat):Int))) else none)=_;rw[wx (by lia) (by lia),wx (by lia) (by lia),show (((n:Nat):Int)+1 - 1).toNat=n by lia];exact yK rfl
 subst r1 o1 r2 o2;refine (aA (jb (g3 _ rfl) l1)).trans ?_;refine (aA (jb (g2 _ rfl) l2)).trans ?_;have hh:hand (List.range 5) 0 (gs p n (.own (CT v n n)) x2)=gs p n (.val (.list (CT v n n))) x2:=by
  rcases hx2 with rfl|⟨d,rfl⟩<;>rfl
 refine eV ?_;rw[hh];refine bf (aq (EH []) (HQ (JF (B3 (ds:=CT v n n) rfl) λd hd=>?_)) (nil_of _));let⟨i,hi,rfl⟩:=List.mem_map.mp hd;exact bh (aq (Kw (hv _ (by have:=List.mem_range.mp hi;lia))) rfl (tup_is rfl (by simp)))
abbrev st(ns:Γ Int)(w:D)(x3 x4 x5 x6 x7 x8 x9 x10 x11:Slot):ao:=[.val (bT ns),.val w,.obj 0,x3,x4,x5,x6,x7,x8,x9,x10,x11]
abbrev iS(n:Nat):Slot:=.val (.int ((n:Nat):Int))
def main(C:Ψ)(ns:Γ Int)(hl:ns.length<=63):ub C [.list (ns.map PyData.int)]=some (.bool true):=by
 let⟨G,T,W,ew,h,f⟩:=yy (ns:=ns) (a:=0) (mo:=9) hl (by decide);have hw:W.length<=9:=by have:=f.wm;lia
 have h2:=f.w2;have hb:=QV;obtain⟨P,eP,q⟩:∃P,fu [bT ns,.int 70,aJ G T W]=some (af P)/\Pn G T W P:=⟨_,qt hl h,BO hl h⟩
 let⟨a1,a2,a3⟩:=dz (ns:=ns) 80 7 hl (by decide);obtain⟨n,hn⟩:∃n:Nat,2+dr ns 80 7=((n:Nat):Int):=⟨(2+dr ns 80 7).toNat,by lia⟩
 let⟨ρ1,VO,l1,v,p,x4,hp0,hpn,hv,hx4,r1,o1⟩:=eF (tgt:=oW 4) (gb:=ju C) nD (λj ρ os=>∃v p x4,p 0=P/\(∀i,i<=j->Pn G T W (p i))/\(∀i,i < j->word (v i))/\plain x4/\ρ=st ns (aJ G T W) (.own (rws p j)) x4 .Vs .Vs .Vs .Vs .Vs .Vs .Vs/\os=[⟨C,atK (aJ G T W) v p j 0⟩]) n (ρ:=st ns (aJ G T W) (.own [af P]) .Vs .Vs .Vs .Vs .Vs .Vs .Vs .Vs) (os:=[⟨C,iT (aJ G T W) (af P) [] []⟩])
  (λj ρ os hj hR=>by
   let⟨v,p,x4,z0,z1,z2,z3,rfl,rfl⟩:=hR;let⟨v',p',b1,b2,b3,b4,e⟩:=step_at (v:=v) (p:=p) (k:=j) (m:=0) C hl h h2 hw (z1 j (yL j)) (by lia) (100+14 * ((j:Nat):Int));have er:rws p j++[af (p' (j+1))]=rws p' (j+1):=by
    show _=(List.range (j+1+1)).map _;rw[vL,qZ,List.map_singleton]
    congr 1
    exact yH λi hi=>by rw[b1 i (by have:=List.mem_range.mp hi;lia)]
   refine⟨st ns (aJ G T W) (.own (rws p j)) (.val (nD j)) .Vs .Vs .Vs .Vs .Vs .Vs .Vs,st ns (aJ G T W) (.own (rws p' (j+1))) (.val (nD j)) .Vs .Vs .Vs .Vs .Vs .Vs .Vs,[⟨C,atK (aJ G T W) v' p' (j+1) 0⟩],rfl,?_,v',p',_,by rw[b1 0 (by lia)];exact z0,λi hi=>?_,λi hi=>?_,.inr ⟨_,rfl⟩,rfl,rfl⟩
   ·unfold ju;refine (aA (dU (iD (ar rfl rfl) (dW (bf rfl) (dW (bf (aq (cC 100 (14 * ((j:Nat):Int))) rfl (aq (dg (iL (by decide))) rfl rfl))) (dW (bf rfl) (nK nM)))) (ar rfl rfl) rfl e))).trans ?_;refine (zg (ds:=rws p j) (ask (ar rfl rfl) ee) rfl (by rw[zD,zR];lia)).trans ?_;show some (Dv.nx (st ns (aJ G T W) (.own (rws p j++[af (p' (j+1))])) (.val (nD j)) .Vs .Vs .Vs .Vs .Vs .Vs .Vs) [⟨C,atK (aJ G T W) v' p' (j+1) 0⟩])=_;rw[er]
   ·rcases (by lia:i<=j\/i=j+1) with hi|rfl
    ·rw[b1 i hi];exact z1 i hi
    ·exact b4
   ·rcases (by lia:i < j\/i=j) with hi|rfl
    ·rw[b2 i hi];exact z2 i hi
    ·exact b3)
  ⟨λ_=>.none,λ_=>P,.Vs,rfl,λi hi=>q,λi hi=>by lia,.inl rfl,rfl,rfl⟩
 let⟨c1,c2,c3⟩:=dz (ns:=ns) 81 ((n:Nat):Int) hl (by lia);obtain⟨b,hbk⟩:∃b:Nat,1+dr ns 81 ((n:Nat):Int)=((b:Nat):Int):=⟨(1+dr ns 81 ((n:Nat):Int)).toNat,by lia⟩
 obtain⟨m,hm⟩:∃m:Nat,m+b=n:=⟨n - b,by lia⟩
 subst r1 o1;let⟨Wb,Wl,l2,k2,x7,hk2,hx7,r2,o2⟩:=eF (tgt:=oW 7) (gb:=kg C) nD (λj ρ os=>∃k x7,k+j=n/\plain x7/\ρ=st ns (aJ G T W) (.val (.list (rws p n))) x4 (iS n) (iS b) x7 .Vs .Vs .Vs .Vs/\os=[⟨C,atK (aJ G T W) v p k j⟩]) b (ρ:=st ns (aJ G T W) (.val (.list (rws p n))) x4 (iS n) (iS b) .Vs .Vs .Vs .Vs .Vs) (os:=[⟨C,atK (aJ G T W) v p n 0⟩])
  (λj ρ os hj hR=>by
   let⟨k,x7,hk,_,rfl,rfl⟩:=hR;obtain⟨k',rfl⟩:∃k',k=k'+1:=⟨k - 1,by lia⟩
   refine⟨_,st ns (aJ G T W) (.val (.list (rws p n))) x4 (iS n) (iS b) (.val (nD j)) .Vs .Vs .Vs .Vs,[⟨C,atK (aJ G T W) v p k' (j+1)⟩],rfl,?_,k',_,by lia,.inr ⟨_,rfl⟩,rfl,rfl⟩;unfold kg;exact (dU (ask (ar rfl rfl) (p7 (by lia)))).trans rfl)
  ⟨n,.Vs,rfl,.inl rfl,rfl,rfl⟩
 obtain rfl:k2=m:=by lia
 subst r2 o2;have pm:=hpn k2 (by lia);let⟨v',p',g1,g2,g3,eg⟩:=RL (v:=v) (p:=p) (k:=k2) (m:=b) C hl h h2 hw pm (by lia);let w:=aJ G T W;let S3:=λx7=>st ns w (.val (.list (rws p n))) x4 (iS n) (iS b) x7 (.val (IC (p k2) k2 b)) (.obj 1) (.obj 2) (.val (IC (p' (k2+3)) (k2+3) 0));let⟨WS,Y1,l3,m3,y7,hm3,hy7,r3,o3⟩:=eF (tgt:=oW 7) (gb:=j1 C) nD (λj ρ os=>∃m3 x7,j+m3=b/\plain x7/\ρ=S3 x7/\os=[⟨C,atK w v' p' (k2+3) 0⟩,⟨C,atK w v' p' (k2+3) 0⟩,⟨C,atK w v p (k2+j) m3⟩]) b (ρ:=S3 x7) (os:=[⟨C,atK w v' p' (k2+3) 0⟩,⟨C,atK w v' p' (k2+3) 0⟩,⟨C,atK w v p k2 b⟩])
  (λj ρ os hj hR=>by
   let⟨m3,x7,hk,_,rfl,rfl⟩:=hR;obtain⟨m',rfl⟩:∃m',m3=m'+1:=⟨m3 - 1,by lia⟩
   refine⟨_,S3 (.val (nD j)),[⟨C,atK w v' p' (k2+3) 0⟩,⟨C,atK w v' p' (k2+3) 0⟩,⟨C,atK w v p (k2+(j+1)) m'⟩],rfl,?_,m',_,by lia,.inr ⟨_,rfl⟩,rfl,rfl⟩;unfold j1;exact (dU (ask (ar rfl rfl) (Af (by lia)))).trans rfl)
  ⟨b,x7,by lia,hx7,rfl,rfl⟩
 obtain rfl:m3=0:=by lia
 subst r3 o3;let⟨ρ4,os4,l4,k4,z7,hk4,hz7,r4,o4⟩:=eF (tgt:=oW 7) (gb:=kc C) nD (λj ρ os=>∃k x7,k+j=k2+3/\plain x7/\ρ=S3 x7/\os=[⟨C,atK w v' p' k j⟩,⟨C,atK w v' p' k j⟩,⟨C,atK w v p (k2+b) 0⟩]) (k2+3) (ρ:=S3 y7) (os:=[⟨C,atK w v' p' (k2+3) 0⟩,⟨C,atK w v' p' (k2+3) 0⟩,⟨C,atK w v p (k2+b) 0⟩])
  (λj ρ os hj hR=>by
   let⟨k,x7,hk,_,rfl,rfl⟩:=hR;obtain⟨k',rfl⟩:∃k',k=k'+1:=⟨k - 1,by lia⟩
   have hwd:word (v' k'):=by
    rcases (by lia:k' < k2\/k2<=k') with c|c
    ·rw[g2 k' c];exact hv k' (by lia)
    ·exact g3 k' c (by lia)
   refine⟨_,S3 (.val (nD j)),[⟨C,atK w v' p' k' (j+1)⟩,⟨C,atK w v' p' k' (j+1)⟩,⟨C,atK w v p (k2+b) 0⟩],rfl,?_,k',_,by lia,.inr ⟨_,rfl⟩,rfl,rfl⟩;unfold kc;exact (fI (sM (ji (dJ (Cj hwd) (ask (ar rfl rfl) (p7 (by lia))) (ask (ar rfl rfl) (p7 (by lia))))) (ji (dJ (eR (p' k')) (ask (ar rfl rfl) ee) (ask (ar rfl rfl) ee))))).trans rfl)
  ⟨k2+3,y7,rfl,hy7,rfl,rfl⟩
 obtain rfl:k4=0:=by lia
 subst r4 o4;have n1:f2 Dl.aH (fC (.int 2)) Yx=λρ=>f2 Dl.aH (fC (.int 2)) Yx ρ:=rfl;have e5:(((List.range (n+1)).length:Nat):Int) - 1=((n:Nat):Int):=by rw[zR];lia
 have e56:((n:Nat):Int) - ((b:Nat):Int)=((k2:Nat):Int):=by lia
 have s56:∀ρ:Dl.Env,ab 5 ρ=some (.int ((n:Nat):Int))->ab 6 ρ=some (.int ((b:Nat):Int))->f2 Dl.fx (ab 5) (ab 6) ρ=some (nD k2):=λρ a c=>aq ((cO _ _).trans (by rw[e56])) a c;have acI:∀ρ:Dl.Env,ab 5 ρ=some (.int ((n:Nat):Int))->ab 6 ρ=some (.int ((b:Nat):Int))->f2 Dl.aH Xe (fC (.int 3)) ρ=some (nD (k2+3)):=λρ a c=>aq (cC ((k2:Nat):Int) 3) (s56 ρ a c) rfl;apply KA;show lK C [.val (bT ns),.Vs,.Vs,.Vs,.Vs,.Vs,.Vs,.Vs,.Vs,.Vs,.Vs,.Vs] []=_;unfold lK;refine (aA (gm (bU (call_of ew rfl rfl) (call_of ew rfl rfl) rfl))).trans ?_;refine (aA (y8 (aC (bf rfl) (aC (bf (call_of eP rfl rfl)) bF)) rfl rfl (Cu (cE h q)))).trans ?_;refine (aA (Hr (aC (ask (ar rfl rfl) uQ) bF) (by simp))).trans ?_;refine (aA (jb (iW (n:=n) (cons_of (aq ((cC 2 (dr ns 80 7)).trans (by rw[hn])) rfl (call_of a1 rfl rfl)) rfl) (by lia)) l1)).trans ?_;refine (aA (gm (cA (d:=.int ((n:Nat):Int)) (aq ((cO (((List.range (n+1)).length:Nat):Int) 1).trans (by rw[e5])) (m9 (r:=List.range (n+1)) (g:=λi=>af (p i)) rfl) rfl) rfl))).trans ?_;have hh3:hand [3] 0 (st ns w (.own (rws p n)) x4 (iS n) .Vs .Vs .Vs .Vs .Vs .Vs)=st ns w (.val (.list (rws p n))) x4 (iS n) .Vs .Vs .Vs .Vs .Vs .Vs:=rfl;refine (aA ((Ih hh3).trans ((fI (sM (ji (dJ (eR [((n:Nat):Int),0]) (ask (ar rfl rfl) dE) (bf rfl))) (GA (c:=true) (ji (iD (ar rfl rfl) (nK (dW (bf rfl) nM)) (ar rfl rfl) rfl (TZ (by lia) hv)))))).trans P0))).trans ?_;refine (aA (gm (cA (d:=.int ((b:Nat):Int)) (aq ((cC 1 (dr ns 81 ((n:Nat):Int))).trans (by rw[hbk])) rfl (call_of c1 rfl rfl)) rfl))).trans ?_;refine (aA (jb (iW (n:=b) rfl (by lia)) l2)).trans ?_;refine (aA (qa (qb (aC (ask (ar rfl rfl) ee) (aC (ask (ar rfl rfl) dE) bF)) (by simp)))).trans ?_;have hB1:(st ns w (.val (.list (rws p n))) x4 (iS n) (iS b) x7 (.val (IC (p k2) k2 b)) .Vs .Vs .Vs).all (below 1)=true:=by
  rcases hx4 with rfl|⟨d,rfl⟩<;>rcases hx7 with rfl|⟨d,rfl⟩<;>rfl
 have hB2:(st ns w (.val (.list (rws p n))) x4 (iS n) (iS b) x7 (.val (IC (p k2) k2 b)) (.obj 1) .Vs .Vs).all (below 2)=true:=by
  rcases hx4 with rfl|⟨d,rfl⟩<;>rcases hx7 with rfl|⟨d,rfl⟩<;>rfl
 refine (aA (Ht (ar rfl rfl) rfl hB1 (CI (cE h pm)))).trans ?_;refine (aA (Ht (ar rfl rfl) rfl hB2 (CI (cE h pm)))).trans ?_;refine (aA ((fI (sk (bh (aq (qc (p k2) k2 b) rfl (tup_is (cons_of (aq (wU (by lia)) rfl (s56 _ rfl rfl)) (cons_of (tup_is (cons_of (s56 _ rfl rfl) (cons_of rfl rfl)) (by simp)) rfl)) (by simp)))))).trans P0)).trans ?_;refine (aA (qa (iD (ar rfl rfl) (dW (bf rfl) (dW (bf rfl) (nK nM))) (ar rfl rfl) rfl eg))).trans ?_;refine (aA ((fI (sM (sk (bh (aq (eR [((k2+3:Nat):Int),0]) (aq (b:=.int 1) (wq (i:=1) rfl) rfl rfl) (tup_is (cons_of (acI _ rfl rfl) rfl) (by simp))))) (ji (dJ (qc (p k2) k2 b) (qb (aC (ask (ar rfl rfl) ee) (aC (ask (ar rfl rfl) dE) bF)) (by simp)) (bf rfl))))).trans P0)).trans ?_;refine (aA ((fI (ji (dJ (qc (p' (k2+3)) (k2+3) 0) (iD (ar rfl rfl) (dW (bf rfl) (dW (bf rfl) (nK nM))) (ar rfl rfl) rfl eg) (bf rfl)))).trans P0)).trans ?_;refine (aA ((fI (ji (dJ (qc (p k2) k2 b) (qb (aC (ask (ar rfl rfl) ee) (aC (ask (ar rfl rfl) dE) bF)) (by simp)) (bf rfl)))).trans P0)).trans ?_;refine (aA (jb (iW (n:=b) rfl (by lia)) l3)).trans ?_;refine (aA (jb (iW (n:=k2+3) (cons_of (acI _ rfl rfl) rfl) (by lia)) l4)).trans ?_;have hh:hand (List.range 12) 0 (S3 z7)=S3 z7:=by
  rcases hx4 with rfl|⟨d,rfl⟩<;>rcases hz7 with rfl|⟨d,rfl⟩<;>rfl
 have el:((List.range (n+1)).map λi=>af (p i)).getLast?=some (af (p n)):=by rw[vL,qZ];simp
 have en:k2+b=n:=hm;rw[en] at *;have ep0:p' 0=p 0:=g1 0 (by lia);exact Jb hh (GU (dJ ((sx (p n) (p n)).trans (by rw[yA rfl])) (ask (ar rfl rfl) ee) (bf (aq (b:=.int (-1)) (T7 el) rfl rfl))) (GU (dJ ((sx (p' 0) (p 0)).trans (by rw[yA ep0])) (ask (ar rfl rfl) ee) (bf (aq (wU (k:=0) (by lia)) rfl rfl))) (dJ ((sx [((n:Nat):Int),0] [((n:Nat):Int),0]).trans (by rw[yA rfl])) (ask (ar rfl rfl) dE) (bf rfl))))
end K74M
end Wm
namespace K74
open PySem L2 Dl PySem.Spec PyProof.Rows Pg Hd PySem.W VC
def main(ns:Γ Int)(h:ns.length<=63):Dc [.list (ns.map PyData.int)]=some (.bool true):=Wm.K74M.main bZ ns h
def ins(P:Params){h:ι}{mg:Str->Δ Θ}(X:(Kf P).In h)(G:h.Ns mainGlobals mg):Oo (Kf P) mg:=⟨λ_ _ _=>by
 have B:∀x∈d4,mg x=none:=λx hx=>mg_none_of X G (Dl.Np (by kernel_rfl) x hx);refine Wf.od (c:=SQ) (top 52) (f2 409 408 nY) ?_;refine Wf.od (c:=Th) (top 51) (f3 404 403 nY) ?_;refine Wf.od (c:=TH) (top 50) (f4 397 396 nY) ?_;refine Wf.ow (c:=UG) (bo 10) (Wf.m1 "Floor.twin" 319 318 sS) ?_;refine Wf.om (c:=c9) (bo 9) (Wf.m1 "Floor.counts" 312 311 sS) ?_;refine Wf.om (c:=c8) (bo 8) (Wf.m1 "Floor.forth" 305 304 sS) ?_;refine Wf.om (c:=c7) (bo 7) (Wf.m1 "Floor.back" 298 297 sS) ?_;refine Wf.om (c:=c6) (bo 5) (Wf.m1 "Floor.plan" 284 283 sS) ?_;refine Wf.om (c:=c5) (bo 4) (Wf.m1 "Floor.settle" 277 276 sS) ?_;refine Wf.om (c:=c4) (bo 3) (Wf.m2 "Floor.lay" 270 269 sS) ?_;refine Wf.om (c:=c3) (bo 2) (Wf.m2 "Floor.push" 263 262 sS) ?_;refine Wf.om (c:=c2) (bo 1) (Wf.m3 "Floor.step_to" 256 255 sS) ?_;refine Wf.US (c:=c1) 249 (bo 0) (Wf.m3 "Floor.__init__" 249 248 sS) ⟨by kernel_rfl,by kernel_rfl,by kernel_rfl,by kernel_rfl⟩ (mg_of X G (by kernel_rfl)) ?_;refine Wf.Vn (c:=c0) (bo 6) (Wf.m3 "Floor.move" 291 290 sS) (by unfold bH;kernel_rfl) (by decide +kernel) ?_;refine Wf.UT ⟨by kernel_rfl,by kernel_rfl,by kernel_rfl,by kernel_rfl⟩ (by kernel_rfl) ?_;refine on (top 49) (f2 390 389 nY) ?_;refine on (top 48) (f3 385 384 nY) ?_;refine on (top 47) (f5 378 377 nY) ?_;refine on (top 46) (f3 371 370 nY) ?_;refine on (top 45) (f2 364 363 nY) ?_;refine on (top 44) (f4 357 356 nY) ?_;refine on (top 43) (f3 352 351 nY) ?_;refine on (top 42) (f3 347 346 nY) ?_;refine on (top 41) (f3 340 339 nY) ?_;refine on (top 40) (f2 333 332 nY) ?_;refine on (top 36) (f2 235 234 L6) ?_;refine on (top 35) (f3 228 227 L6) ?_;refine on (top 34) (f3 221 220 L6) ?_;refine on (top 33) (f4 214 213 L6) ?_;refine on (top 31) (f2 209 208 ID) ?_;refine on (top 30) (f2 204 203 ID) ?_;refine on (top 29) (f3 197 196 ID) ?_;refine on (top 28) (f4 190 189 ID) ?_;refine ol (top 27) Dx "ways_of.<locals>.<lambda>" (l3 185 184 ID) ?_;refine on (top 25) (f3 180 179 lC) ?_;refine on (top 24) (f2 173 172 lC) ?_;refine on (top 23) (f3 166 165 lC) ?_;refine on (top 22) (f2 159 158 lC) ?_;refine on (top 21) (f1 152 151 lC) ?_;refine on (top 20) (f2 145 144 lC) ?_;refine on (top 19) (f3 140 139 lC) ?_;refine on (top 18) (f4 135 134 lC) ?_;refine on (top 17) (f1 130 129 lC) ?_;refine on (top 16) (f1 125 124 lC) ?_;refine on (top 15) (f3 120 119 lC) ?_;refine on (top 14) (f3 115 114 lC) ?_;refine on (top 13) (f2 108 107 lC) ?_;refine on (top 12) (f2 101 100 lC) ?_;refine on (top 11) (f3 96 95 lC) ?_;refine on (top 10) (f2 89 88 lC) ?_;refine on (top 9) (f3 82 81 lC) ?_;exact⟨Rf.SY,(Rf.LR ⟨273,mg_of X G (by kernel_rfl)⟩ (Rf.LR ⟨275,mg_of X G (by kernel_rfl)⟩ Rf.TC)),B,⟨_,X,G⟩⟩,ie.mg (f1 416 415 nY) X G⟩
def U6(w:δ):nO (Kf w.params) [182]=true:=by kernel_rfl
end K74
open PySem PySem.W PyProof.Rows
theorem PySem.Challenge.cw_stillflow_k74_whole_back_and_twins_holds : PySem.Challenge.rw_stillflow_k74_whole_back_and_twins.Holds := by
 refine holds_law K74.SX λk1=>?_
 refine holds_open (XP:=XL K74.vw []) (YP:=K74.hk.says) K74.left K74.hk.of K74.hk.keeps (λs e=>xl_of s (Bool.and_eq_true_iff.mp e).1) XL.keeps (by rfl) (by rfl) (by rfl) (λs e=>recFacts_of (Bool.and_eq_true_iff.mp e).2) (by rfl) k1 (by decide +kernel) ⟨rfl,rfl,rfl,rfl,rfl,by decide +kernel⟩ ?hw ?hc
 case hw=>w_witness2
 case hc=>exact K74.walk (l:=PySem.Challenge.rw_stillflow_k74_whole_back_and_twins) (K:=K74.Kf) (ts:=[182]) rfl rfl rfl (λw h Y=>⟨Y.1,Y.2⟩) K74.U6 (λw=>K74.ins w.params) K74.main
