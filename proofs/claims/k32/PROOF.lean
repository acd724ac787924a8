import PyProof.Rows.All
import Wide.All
import OpenK.AllK
import Wide.FinOn
import PyProof.EqAt
import PyProof.EqKinds
import PyProof.TupleCall
import Lean
import PyProof.Draws
import PyProof.ListRange
import KE.KIsAll
import PySem.Challenge.RW_stillflow_k32_whole_put_together
set_option Elab.async false
set_option linter.all false
set_option maxRecDepth 100000
set_option maxHeartbeats 4000000
abbrev _root_.zA:=@Option.bind_some
abbrev _root_.zB:=@Option.map_some
abbrev _root_.zC:=@List.mem_cons_of_mem
abbrev _root_.zD:=@List.length_map
abbrev _root_.zE:=@List.mem_cons_self
abbrev _root_.zF:=@Bool.and_eq_true
abbrev _root_.zG:=@List.getD_eq_getElem?_getD
abbrev _root_.zH:=@List.size_toArray
abbrev _root_.zI:=@List.map_cons
abbrev _root_.zJ:=@decide_eq_true_eq
abbrev _root_.zK:=@List.getElem?_eq_getElem
abbrev _root_.zL:=@List.length_cons
abbrev _root_.zM:=@List.map_map
abbrev _root_.zN:=@List.length_append
abbrev _root_.zO:=@List.getElem?_map
abbrev _root_.zP:=@Nat.lt_of_lt_of_le
abbrev _root_.zQ:=@List.mem_cons
abbrev _root_.zR:=@List.length_range
abbrev _root_.zS:=@List.mem_range
abbrev _root_.zT:=@List.getElem?_eq_some_iff
abbrev _root_.zU:=@PySem.Heap.get?_push_of_some
abbrev _root_.zV:=@PySem.wpAny_bind
abbrev _root_.zW:=@PySem.wpAny_pure
abbrev _root_.zX:=@PySem.Heap.get?_push_size
abbrev _root_.zY:=@PySem.Heap.lt_size
abbrev _root_.zZ:=@decide_eq_false
abbrev _root_.yA:=@decide_eq_true
abbrev _root_.yB:=@List.lookup_cons
abbrev _root_.yC:=@List.length_set
abbrev _root_.yD:=@Nat.le_trans
abbrev _root_.yE:=@List.mem_append_right
abbrev _root_.yF:=@List.not_mem_nil
abbrev _root_.yG:=@Int.toNat_natCast
abbrev _root_.yH:=@List.map_congr_left
abbrev _root_.yI:=@List.foldl_cons
abbrev _root_.yJ:=@List.mem_singleton
abbrev _root_.yK:=@Option.some.injEq
abbrev _root_.yL:=@if_pos
abbrev _root_.yM:=@Nat.le_refl
abbrev _root_.yN:=@if_neg
abbrev _root_.yO:=@Bool.false_eq_true
abbrev _root_.yP:=@Bool.not_eq_true'
abbrev _root_.yQ:=@of_decide_eq_true
abbrev _root_.yR:=@Nat.ne_of_lt
abbrev _root_.yS:=@List.getElem?_append_left
abbrev _root_.yT:=@List.getElem?_append_right
abbrev _root_.yU:=@List.map_nil
abbrev _root_.yV:=@List.set_cons_zero
abbrev _root_.yW:=@List.set_cons_succ
abbrev _root_.yX:=@List.getElem?_replicate
abbrev _root_.yY:=@List.getElem?_cons_succ
abbrev _root_.yZ:=@Bool.false_ne_true
abbrev _root_.xA:=@PySem.wpAny_mono
abbrev _root_.xB:=@decide_eq_false_iff_not
abbrev _root_.xC:=@List.length_singleton
abbrev _root_.xD:=@Option.some.inj
abbrev _root_.xE:=@List.replicate_succ
abbrev _root_.xF:=@List.cons_append
abbrev _root_.xG:=@List.all_eq_true
abbrev _root_.xH:=@if_true
abbrev _root_.xI:=@List.getElem?_set
abbrev _root_.xJ:=@PySem.Heap.size_push
abbrev _root_.xK:=@List.length_nil
abbrev _root_.xM:=@List.length_replicate
abbrev _root_.xN:=@PySem.Heap.get?_update_other
abbrev _root_.xO:=@List.nil_append
abbrev _root_.xP:=@List.length_filter_le
abbrev _root_.xQ:=@List.getElem?_cons_zero
abbrev _root_.xR:=@PySem.wpAny_pyIter_tuple
abbrev _root_.xS:=@List.all_cons
abbrev _root_.xU:=@or_false
abbrev _root_.xV:=@Nat.zero_le
abbrev _root_.xW:=@PySem.wpAny_truthy_bool
abbrev _root_.xX:=@PySem.wpAny_holding
abbrev _root_.xY:=@Bool.not_true
abbrev _root_.xZ:=@Int.le_refl
abbrev _root_.qA:=@List.getElem_mem
abbrev _root_.qB:=@List.mem_of_getElem?
abbrev _root_.qC:=@PySem.wpAny_callSpecial?_slot
abbrev _root_.qD:=@Array.getD_eq_getD_getElem?
abbrev _root_.qE:=@Nat.lt_irrefl
abbrev _root_.qF:=@List.append_nil
abbrev _root_.qG:=@Option.getD_some
abbrev _root_.qH:=@List.length_drop
abbrev _root_.qJ:=@List.mem_append_left
abbrev _root_.qK:=@PySem.wpAny_pyIter_list
abbrev _root_.qL:=@PySem.wpAny_newObj_type
abbrev _root_.qM:=@List.flatten_cons
abbrev _root_.qN:=@PySem.F.plainAttrs_list
abbrev _root_.qP:=@if_false
abbrev _root_.qQ:=@List.getElem_of_mem
abbrev _root_.qS:=@PyProof.Rows.callWith_type1
abbrev _root_.qT:=@PySem.wpAny_field
abbrev _root_.qU:=@PySem.sizeLine_eq
abbrev _root_.qV:=@PySem.wpAny_call_entry
abbrev _root_.qX:=@PySem.call_meets
abbrev _root_.qY:=@PySem.wpAny_Call_Name_kw
abbrev _root_.qZ:=@Nat.lt_of_le_of_lt
abbrev _root_.jA:=@List.map_append
abbrev _root_.jB:=@Bool.or_eq_true
abbrev _root_.jC:=@congrArg
abbrev _root_.jD:=@Nat.zero_add
abbrev _root_.jE:=@List.pairwise_map
abbrev _root_.jF:=@PyProof.Rows.slot_tuple_getitem
abbrev _root_.jG:=@List.filterMap_cons
abbrev _root_.jH:=@List.ext_getElem
abbrev _root_.jI:=@Nat.ne_of_gt
abbrev _root_.jJ:=@PySem.wpAny_passesOwn
abbrev _root_.jK:=@Bool.true_and
abbrev _root_.jL:=@List.getElem?_eq_none
abbrev _root_.jM:=@Ne.symm
abbrev _root_.jN:=@Nat.lt_succ_of_lt
abbrev _root_.jO:=@and_self
abbrev _root_.jP:=@decide_true
abbrev _root_.jQ:=@PySem.F.slot_tuple_iterator_next
abbrev _root_.jR:=@PySem.codeAny_mono
abbrev _root_.jS:=@Nat.le_of_lt
abbrev _root_.jT:=@Int.le_trans
abbrev _root_.jU:=@Nat.le_add_right
abbrev _root_.jV:=@List.length_take
abbrev _root_.jW:=@List.filter_cons
abbrev _root_.jX:=@List.mem_of_find?_eq_some
abbrev _root_.jY:=@Array.getElem?_eq_getElem
abbrev _root_.jZ:=@PySem.mem_of_lookup
abbrev _root_.kA:=@PyProof.Rows.listUpdate_at
abbrev _root_.kC:=@List.sum_cons
abbrev _root_.kE:=@PyProof.Rows.get?_update_seq
abbrev _root_.kF:=@PySem.codeAny_builtin
abbrev _root_.kG:=@List.filter_map
abbrev _root_.kH:=@PySem.wpAny_seqItems
abbrev _root_.kJ:=@List.take_of_length_le
abbrev _root_.kK:=@List.findIdx_lt_length_of_exists
abbrev _root_.kL:=@Option.getD_none
abbrev _root_.kM:=@Nat.lt_succ_self
abbrev _root_.kN:=@PySem.wpAny_newList
abbrev _root_.kO:=@PySem.wpAny_attempt
abbrev _root_.kP:=@List.getElem?_set_ne
abbrev _root_.kR:=@List.nodup_cons
abbrev _root_.kU:=@List.cons.injEq
abbrev _root_.kW:=@Bool.and_false
abbrev _root_.kX:=@PySem.wpAny_setField_rec
abbrev _root_.kY:=@Int.emod_lt_of_pos
abbrev _root_.kZ:=@List.drop_eq_getElem_cons
abbrev _root_.vA:=@List.foldl_append
abbrev _root_.vB:=@List.findIdx_cons
abbrev _root_.vC:=@PySem.wpAny_standAt
abbrev _root_.vD:=@List.any_cons
abbrev _root_.vE:=@PySem.F.args_tuple_add_2
abbrev _root_.vF:=@List.range'_succ
abbrev _root_.vG:=@PySem.F.entry_tuple_add
abbrev _root_.vH:=@List.pairwise_singleton
abbrev _root_.vI:=@Int.eq_ofNat_of_zero_le
abbrev _root_.vJ:=@beq_iff_eq
abbrev _root_.vK:=@PyProof.Rows.listItems_at
abbrev _root_.vL:=@PySem.F.slot_tuple_add
abbrev _root_.vM:=@List.range_succ_eq_map
abbrev _root_.vN:=@List.getElem?_set_self
abbrev _root_.vO:=@PySem.wpAny_execs_nil
abbrev _root_.vP:=@Nat.not_lt_zero
abbrev _root_.vQ:=@List.range_succ
abbrev _root_.vR:=@List.of_mem_zip
abbrev _root_.vS:=@List.find?_some
abbrev _root_.vT:=@Int.emod_nonneg
abbrev _root_.vU:=@PySem.F.slot_zip_next
abbrev _root_.vV:=@List.getElem?_toArray
abbrev _root_.vW:=@Nat.mul_le_mul
abbrev _root_.vX:=@PyProof.Rows.IntsAre.length
abbrev _root_.vY:=@Bool.false_and
abbrev _root_.vZ:=@List.getD_cons_zero
abbrev _root_.wA:=@List.getD_cons_succ
abbrev _root_.wC:=@Array.length_toList
abbrev _root_.wD:=@PySem.wpAny_rule
abbrev _root_.wF:=@of_decide_eq_false
abbrev _root_.wG:=@Option.isNone_none
abbrev _root_.wH:=@PySem.F.args_tuple_mul_2
abbrev _root_.wI:=@PySem.Code.quiet_builtin
abbrev _root_.wJ:=@PySem.wpAny_typeOf
abbrev _root_.wK:=@decide_false
abbrev _root_.wL:=@PySem.concat_meets
abbrev _root_.wM:=@Nat.lt_trans
abbrev _root_.wN:=@List.any_map
abbrev _root_.wQ:=@PySem.wpAny_pyIter_enum
abbrev _root_.wR:=@List.take_add_one
abbrev _root_.wU:=@List.nodup_append
abbrev _root_.wV:=@Function.comp_def
abbrev _root_.wW:=@PySem.F.entry_tuple_mul
local macro_rules|`(tactic|simp?[$t,*] $[$l:location]?)=>`(tactic|simp only[$t,*] $[$l]?)
local macro_rules|`(tactic|let ⟨$a,*⟩:=$e)=>do
 let rec f(n:Nat)(t:Lean.Syntax):Lean.MacroM (Lean.TSyntax `rcasesPat):=match n with
 |0=>Lean.Macro.throwUnsupported
 |n+1=>match t with
  |`(⟨$b,*⟩)=>do
    let c<-b.getElems.mapM fun x=>do `(Lean.Parser.Tactic.rcasesPatLo|$(<-f n x):rcasesPat)
    `(rcasesPat|⟨$c,*⟩)
  |`($x:ident)=>`(rcasesPat|$x:ident)
  |_=>`(rcasesPat|_)
 `(tactic|obtain $(<-f 9 (<-`(⟨$a,*⟩))):rcasesPat:=$e)
local macro_rules|`(tactic|lia)=>`(tactic|omega)
local macro_rules|`(def $i:declId $s:optDeclSig $v:declVal)=>`(noncomputable def $i:declId $s:optDeclSig $v:declVal)
local macro_rules|`(abbrev $i:declId $s:optDeclSig $v:declVal)=>`(noncomputable abbrev $i:declId $s:optDeclSig $v:declVal)
namespace L2
open PySem
def fg(s:Stmt):Arguments:=match s with
 | .FunctionDef _ a _ _ _ _ _ _ _ _=>a
 | _=>{ posonlyargs:=[],args:=[],vararg:=none,kwonlyargs:=[],kw_defaults:=[],kwarg:=none,defaults:=[] }
def bV(s:Stmt):List Stmt:=match s with
 | .FunctionDef _ _ b _ _ _ _ _ _ _=>b
 | _=>[]
def aG(s:Stmt):Scope:=match s with
 | .FunctionDef _ _ _ _ _ _ sc _ _ _=>sc
 | _=>{ kind:=.function,names:=[],isGenerator:=false,isCoroutine:=false }
end L2
namespace Hd
open PySem L2 PySem.Spec PyProof.Rows
variable {N:Nat}
def en(P:Params)(x:String)(t:Nat)(v:Value):DictEntry:=⟨PyData.keyHash P (Str.ofString x),.str (Str.ofString x) t,v⟩
def fo(x:Str)(st:Stmt)(pm:Value)(c:Addr):Obj:=⟨.type "function",none,.func (W.fnOf x x (fg st) (bV st) (aG st) .none .none .none pm none (.ref c) .none),#[]⟩
def co(vs:List Value):Obj:=⟨.type "code",none,.fields vs.toArray,#[]⟩
def LX(n:Nat):Value:=if n=0 then .none else .ref n
def eH(x:Str)(t l n a b c d e f u:Nat):Obj:=co [.str x t,.str x (t+1),.str "/claim/cut.py" (t+2),.int l 0,.int n 0,.int 0 0,.int 0 0,.int 3 0,LX a,.bool true,.int 181 0,LX b,LX c,LX d,LX e,LX f,.int u 0,.int l 0,.str "/claim/cut.py" (u+1)]
open PySem PySem.W L2
structure Acc where
 a:Nat
 t:Nat
 nm:Value
 es:List DictEntry
 ts:List Value
 os:List Obj
def IK(q:NameKind)(sc:Scope):List Str:=sc.names.filterMap λ(x,k)=>if k=q then some x else none
def Ly:Nat->List Str->List Value
 | _,[]=>[]
 | t,x::l=>.str x t::Ly (t+1) l
def GM(vs:List Value):Obj:=⟨.type "tuple",none,.seq vs.toArray,#[]⟩
def Mn:Obj:=⟨.none,none,.fields #[],#[]⟩
def Mr(x:Str)(st:Stmt):Obj:=⟨.none,none,.func { name:=x,qualname:=x,params:=fg st,body:=.stmts (bV st),scope:=aG st,globals:=0,closure:=[],defaults:=.none,kwdefaults:=.none },#[]⟩
def Pq(P:Params)(k:Nat)(st:Stmt):Acc->Acc
 | ⟨a,t,nm,es,ts,os⟩=>match st with
  | .FunctionDef x args _ _ _ _ sc _ _ pos =>
   if k=0 then ⟨a+5,t+6,nm,⟨PyData.keyHash P x,.str x (t+5),.ref (a+4)⟩::es,.ref (a+3)::.int 0 0::.int pos.line 0::ts,
    fo x st nm (a+3)::eH x t pos.line args.args.length a (a+1) 0 0 0 (a+2) (t+3)::Mr x st::Mn::GM []::os⟩
   else
    let m:=(IK .local sc).length;let n:=m+(IK .cell sc).length
    ⟨a+7,t+6+n,nm,⟨PyData.keyHash P x,.str x (t+5+n),.ref (a+6)⟩::es,.ref (a+5)::.int 0 0::.int pos.line 0::ts,
    fo x st nm (a+5)::eH x t pos.line args.args.length a (a+1) 0 (a+2) (a+3) (a+4) (t+3+n)::Mr x st::GM (Ly (t+3+m) (IK .cell sc))::GM (Ly (t+3) (IK .local sc))::Mn::GM []::os⟩
  | .Assign [.Name x _] (.Constant c _ _) _ =>
   let v:=match c with|.int i=>Value.int i t|.str y=>.str y t|_=>.none
   if k=2 then ⟨a,t+2,v,es,ts,os⟩ else ⟨a,t+2,nm,⟨PyData.keyHash P x,.str x (t+1),v⟩::es,ts,os⟩
  | _=>⟨a,t,nm,es,ts,os⟩
def Nl(P:Params):List Nat->List Stmt->Acc->Acc
 | k::ks,st::r,A=>Nl P ks r (Pq P k st A)
 | _,_,A=>A
def Ov:Heap->Acc->Heap
 | ⟨⟨o0::o1::o2::⟨c3,d3,.dict ⟨e0::es⟩ n,s3⟩::r⟩,lf⟩,A=>⟨⟨o0::o1::o2::⟨c3,d3,.dict ⟨{ e0 with val:=A.nm }::(es++A.es.reverse)⟩ (n+A.es.length),s3⟩ ::
   (r.modify 8 (fun|⟨c,d,.fields ⟨vs⟩,s⟩=>⟨c,d,.fields ⟨vs++A.ts.reverse⟩,s⟩|o=>o)++A.os.reverse)⟩,lf⟩
 | h,_=>h
def NL(s:Shared)(A:Acc):Shared:={ s with heap:=Ov s.heap A,toks:=A.t }
section
variable (p:Program) (w:World)
abbrev yo:=behindTheImports p
abbrev Gi:PySem.Env:={ scope:=p.main.scope,locals:=3,globals:=3,cells:=[],code:=.ref 13,frame:=some 14 }
abbrev zd:Code:=.body (yo p) (Gi p)
def F4(i:Nat):Pos:=if i=0 then default else ((yo p).getD (i - 1) (.Pass default)).pos
abbrev G0:List Frame:=[topFrame default]
def S0:Shared:=(fencedOpening treeTable p w 6000).getD {}
def Sb:Shared:=((topGo treeTable p w 11 (some (.ref 6)) 12 (S0 p w) (topStub p)).map (·.1)).getD {}
abbrev Mq(n i j:Nat)(s:Shared):=segRun treeTable p w 11 (some (.ref 6)) 1 n s (piecesOf (((yo p).drop i).take (j - i)) (Gi p) (zd p) (F4 p i) G0)
def Sc(n j:Nat):Shared:=((Mq p w n 0 j (Sb p w)).map (·.2.1)).getD {}
def SA(n j:Nat)(A:Acc)(ks:List Nat)(m:Nat):Shared:=NL (Sc p w n j) (Nl w.params (ks.take m) ((yo p).drop j) A)
end
def HQ{p q:Program}{loose:List Str}{Xt:Shared->Bool}{α:Type}{Yf:Shared->α}{Ya:World->α}{g0:Bool}{s1:World->Shared}{M:Nat}
  (ho:∀w,fencedOpening treeTable p w 6000=some (S0 p w)) (hs:∀w,((S0 p w).heap.isNs mainGlobals&&(S0 p w).gens.size == 0,(S0 p w).heap.objs.size,(S0 p w).heap.nsMap mainGlobals "__annotations__")=(true,11,some (.ref 6)))
  (hr:∀w,topRun treeTable p w 11 (some (.ref 6)) M (S0 p w) (topStub p)=some (s1 w)) (hM:M<=6000)
  (hl:∀w,(staticsOk (importedModules p.main.body) (S0 p w).heap (s1 w).heap&&namesBound p (s1 w).heap&&gensDone (s1 w)&&laidKept (S0 p w).heap (s1 w).heap)=true)
  (hk:∀w,openSeen q loose (importedModules p.main.body) Xt g0 (s1 w)=openGood q loose) (hy:∀w,Yf (s1 w)=Ya w):LeftO p q loose Xt Yf Ya 6000 g0:=λw=>by
 have r:=topRun_mono (6000 - M) _ _ _ _ (hr w);rw[show M+(6000 - M)=6000 by lia] at r;have e:=hs w;simp?[Prod.mk.injEq] at e;have t:openEnds treeTable p w 6000=some (s1 w):=by
  unfold openEnds;rw[ho w,zA];unfold topFrom;rw[e.1,e.2.1,e.2.2];dsimp only;rw[r,zA,hl w]
 rw[t,zB,hk w,hy w]
def K8{p:Program}{w:World}{r:Shared}(a:topGo treeTable p w 11 (some (.ref 6)) 12 (S0 p w) (topStub p)=some (Sb p w,⟨denote treeTable (.body (yo p) (Gi p)),zd p,default,G0⟩))
  (b:segRun treeTable p w 11 (some (.ref 6)) 1 1 (Sb p w) (blockOf (yo p) (Gi p) (zd p) default G0)=some (.next,Sb p w,zd p,F4 p 0))
  (k:topRun treeTable p w 11 (some (.ref 6)) N (Sb p w) (restOf (yo p) (Gi p) (zd p) (F4 p 0) G0)=some r):topRun treeTable p w 11 (some (.ref 6)) (12+(1+N)) (S0 p w) (topStub p)=some r:=go_top a (piece_block b k)
def On{p:Program}{w:World}{n N i j:Nat}{s s' r:Shared}(h:Mq p w n i j s=some (.next,s',zd p,F4 p j))(hij:i<=j)(k:topRun treeTable p w 11 (some (.ref 6)) N s' (restOf ((yo p).drop j) (Gi p) (zd p) (F4 p j) G0)=some r) :
  topRun treeTable p w 11 (some (.ref 6)) (n+N) s (restOf ((yo p).drop i) (Gi p) (zd p) (F4 p i) G0)=some r:=by
 have e:(yo p).drop i=((yo p).drop i).take (j - i)++(yo p).drop j:=by
  have:=List.take_append_drop (j - i) ((yo p).drop i);rw[List.drop_drop,show i+(j - i)=j by lia] at this;exact this.symm
 rw[e];exact piece_app h k
end Hd
namespace K32
open PySem L2 PySem.Spec PyProof.Rows Hd PySem.W
abbrev top(i:Nat):Stmt:=PySem.Challenge.pw_stillflow_k32_whole_put_together.main.body.getD i (.Pass ⟨0,0,0,0⟩)
def vw:Program:=W.view PySem.Challenge.pw_stillflow_k32_whole_put_together [1,2,3,4,5,7,8,9,10,11,12,13,14,15,16,17,18,19,20,21,22,23,24,25,26,27,28,29,31,32,33,34,35,36,38,39,40,41,42,43,44,45,47,48,49,50,51,52,54,55,56,57,58,60,61,62,63,64]
def gH:Value:=(.str "stillflow.worlds" 271)
def Dh:Value:=(.str "stillflow.flows" 430)
def yn:Value:=(.str "stillflow.finding" 476)
def Dj:Value:=(.str "stillflow.comparing" 547)
def Jo:Value:=(.str "stillflow.listing" 598)
def Gn:Value:=(.str "law_stillflow_k32_whole_put_together" 629)
def Kf(P:Params):W.Frag:=[(3,⟨.type "dict",none,.dict #[en P "__name__" 165 (.str "law_stillflow_k32_whole_put_together" 629),en P "__doc__" 166 .none,en P "__package__" 167 .none,en P "__loader__" 168 (.builtin "__main__.__loader__#opaque"),en P "__spec__" 169 .none,en P "__annotations__" 170 (.ref 6),en P "__builtins__" 171 (.ref 4),en P "__file__" 173 (.str "/claim/cut.py" 172),en P "__cached__" 174 .none,en P "FlowError" 206 (.ref 24),en P "NoWorld" 222 (.ref 37),en P "NoPlan" 238 (.ref 49),en P "NoPlace" 254 (.ref 61),en P "TooMany" 270 (.ref 73),en P "MOST_PLACES" 274 (.int 4 273),en P "MOST" 276 (.int 9 275),en P "is_whole" 285 (.ref 82),en P "is_number" 293 (.ref 89),en P "is_long" 302 (.ref 96),en P "are_likes" 308 (.ref 101),en P "is_end" 316 (.ref 108),en P "is_way" 325 (.ref 115),en P "are_parts" 331 (.ref 120),en P "liked_pairs" 337 (.ref 125),en P "is_world" 343 (.ref 130),en P "through" 349 (.ref 135),en P "keeps_amounts" 355 (.ref 140),en P "is_plan" 361 (.ref 145),en P "check_world" 368 (.ref 152),en P "check_plan" 376 (.ref 159),en P "check_whole" 385 (.ref 166),en P "check_number" 393 (.ref 173),en P "check_side" 400 (.ref 180),en P "replaced" 409 (.ref 187),en P "turned_order" 417 (.ref 194),en P "turned" 423 (.ref 199),en P "turned_plan" 429 (.ref 204),en P "ways_of" 437 (.ref 209),en P "chosen_by" 443 (.ref 214),en P "wants_more" 449 (.ref 219),en P "why_kept" 458 (.ref 226),en P "first_leaving" 467 (.ref 233),en P "is_still" 475 (.ref 240),en P "chosen_by_all" 483 (.ref 245),en P "limits" 489 (.ref 250),en P "lowered" 498 (.ref 257),en P "refused" 510 (.ref 264),en P "steps" 520 (.ref 271),en P "capped" 531 (.ref 278),en P "givers_best" 538 (.ref 285),en P "takers_best" 546 (.ref 292),en P "greater" 554 (.ref 297),en P "on_ways_of" 560 (.ref 302),en P "would_keep" 572 (.ref 309),en P "check_both" 581 (.ref 316),en P "all_like" 587 (.ref 321),en P "together" 597 (.ref 328),en P "MOST_LISTED" 601 (.int 3000 600),en P "check_many" 610 (.ref 335),en P "within_limits" 616 (.ref 340),en P "all_plans" 622 (.ref 345),en P "all_rests" 628 (.ref 350),en P "_law_cell" 638 (.ref 357),en P "_law_drawn" 648 (.ref 364),en P "_law_orders" 663 (.ref 371),en P "_law_world" 669 (.ref 376),en P "law" 675 (.ref 381)] 67,#[]⟩),
 (81,eH "is_whole" 277 15 3 76 77 0 78 79 80 283),
 (82,fo "is_whole" (top 9) gH 81),
 (88,eH "is_number" 286 19 2 83 84 0 85 86 87 291),
 (89,fo "is_number" (top 10) gH 88),
 (95,eH "is_long" 294 21 3 90 91 0 92 93 94 300),
 (96,fo "is_long" (top 11) gH 95),
 (100,eH "are_likes" 303 23 2 97 98 0 0 0 99 306),
 (101,fo "are_likes" (top 12) gH 100),
 (107,eH "is_end" 309 29 2 102 103 0 104 105 106 314),
 (108,fo "is_end" (top 13) gH 107),
 (114,eH "is_way" 317 31 3 109 110 0 111 112 113 323),
 (115,fo "is_way" (top 14) gH 114),
 (119,eH "are_parts" 326 35 3 116 117 0 0 0 118 329),
 (120,fo "are_parts" (top 15) gH 119),
 (124,eH "liked_pairs" 332 43 1 121 122 0 0 0 123 335),
 (125,fo "liked_pairs" (top 16) gH 124),
 (129,eH "is_world" 338 48 1 126 127 0 0 0 128 341),
 (130,fo "is_world" (top 17) gH 129),
 (134,eH "through" 344 55 4 131 132 0 0 0 133 347),
 (135,fo "through" (top 18) gH 134),
 (139,eH "keeps_amounts" 350 57 3 136 137 0 0 0 138 353),
 (140,fo "keeps_amounts" (top 19) gH 139),
 (144,eH "is_plan" 356 59 2 141 142 0 0 0 143 359),
 (145,fo "is_plan" (top 20) gH 144),
 (151,eH "check_world" 362 66 1 146 147 0 148 149 150 366),
 (152,fo "check_world" (top 21) gH 151),
 (158,eH "check_plan" 369 69 2 153 154 0 155 156 157 374),
 (159,fo "check_plan" (top 22) gH 158),
 (165,eH "check_whole" 377 73 3 160 161 0 162 163 164 383),
 (166,fo "check_whole" (top 23) gH 165),
 (172,eH "check_number" 386 76 2 167 168 0 169 170 171 391),
 (173,fo "check_number" (top 24) gH 172),
 (179,eH "check_side" 394 78 1 174 175 0 176 177 178 398),
 (180,fo "check_side" (top 25) gH 179),
 (186,eH "replaced" 401 80 3 181 182 0 183 184 185 407),
 (187,fo "replaced" (top 26) gH 186),
 (193,eH "turned_order" 410 82 1 188 189 0 190 191 192 415),
 (194,fo "turned_order" (top 27) gH 193),
 (198,eH "turned" 418 85 1 195 196 0 0 0 197 421),
 (199,fo "turned" (top 28) gH 198),
 (203,eH "turned_plan" 424 89 2 200 201 0 0 0 202 427),
 (204,fo "turned_plan" (top 29) gH 203),
 (208,eH "ways_of" 432 93 3 205 206 0 0 0 207 435),
 (209,fo "ways_of" (top 31) Dh 208),
 (213,eH "chosen_by" 438 98 4 210 211 0 0 0 212 441),
 (214,fo "chosen_by" (top 32) Dh 213),
 (218,eH "wants_more" 444 105 4 215 216 0 0 0 217 447),
 (219,fo "wants_more" (top 33) Dh 218),
 (225,eH "why_kept" 450 112 3 220 221 0 222 223 224 456),
 (226,fo "why_kept" (top 34) Dh 225),
 (232,eH "first_leaving" 459 120 2 227 228 0 229 230 231 465),
 (233,fo "first_leaving" (top 35) Dh 232),
 (239,eH "is_still" 468 125 2 234 235 0 236 237 238 473),
 (240,fo "is_still" (top 36) Dh 239),
 (244,eH "chosen_by_all" 478 128 3 241 242 0 0 0 243 481),
 (245,fo "chosen_by_all" (top 38) yn 244),
 (249,eH "limits" 484 134 1 246 247 0 0 0 248 487),
 (250,fo "limits" (top 39) yn 249),
 (256,eH "lowered" 490 136 3 251 252 0 253 254 255 496),
 (257,fo "lowered" (top 40) yn 256),
 (263,eH "refused" 499 138 2 258 259 0 260 261 262 508),
 (264,fo "refused" (top 41) yn 263),
 (270,eH "steps" 511 145 1 265 266 0 267 268 269 518),
 (271,fo "steps" (top 42) yn 270),
 (277,eH "capped" 521 154 2 272 273 0 274 275 276 529),
 (278,fo "capped" (top 43) yn 277),
 (284,eH "givers_best" 532 159 1 279 280 0 281 282 283 536),
 (285,fo "givers_best" (top 44) yn 284),
 (291,eH "takers_best" 539 162 1 286 287 0 288 289 290 544),
 (292,fo "takers_best" (top 45) yn 291),
 (296,eH "greater" 549 166 2 293 294 0 0 0 295 552),
 (297,fo "greater" (top 47) Dj 296),
 (301,eH "on_ways_of" 555 168 4 298 299 0 0 0 300 558),
 (302,fo "on_ways_of" (top 48) Dj 301),
 (308,eH "would_keep" 561 170 5 303 304 0 305 306 307 570),
 (309,fo "would_keep" (top 49) Dj 308),
 (315,eH "check_both" 573 173 3 310 311 0 312 313 314 579),
 (316,fo "check_both" (top 50) Dj 315),
 (320,eH "all_like" 582 176 4 317 318 0 0 0 319 585),
 (321,fo "all_like" (top 51) Dj 320),
 (327,eH "together" 588 180 4 322 323 0 324 325 326 595),
 (328,fo "together" (top 52) Dj 327),
 (334,eH "check_many" 602 186 1 329 330 0 331 332 333 608),
 (335,fo "check_many" (top 55) Jo 334),
 (339,eH "within_limits" 611 192 1 336 337 0 0 0 338 614),
 (340,fo "within_limits" (top 56) Jo 339),
 (344,eH "all_plans" 617 200 1 341 342 0 0 0 343 620),
 (345,fo "all_plans" (top 57) Jo 344),
 (349,eH "all_rests" 623 204 1 346 347 0 0 0 348 626),
 (350,fo "all_rests" (top 58) Jo 349),
 (356,eH "_law_cell" 631 207 2 351 352 0 353 354 355 636),
 (357,fo "_law_cell" (top 60) Gn 356),
 (363,eH "_law_drawn" 639 211 3 358 359 0 360 361 362 646),
 (364,fo "_law_drawn" (top 61) Gn 363),
 (370,eH "_law_orders" 649 215 3 365 366 0 367 368 369 661),
 (371,fo "_law_orders" (top 62) Gn 370),
 (375,eH "_law_world" 664 223 3 372 373 0 0 0 374 667),
 (376,fo "_law_world" (top 63) Gn 375),
 (380,eH "law" 670 239 1 377 378 0 0 0 379 673),
 (381,fo "law" (top 64) Gn 380)]
def hk:W.Hook:=W.kmHook Kf [3,81,82,88,89,95,96,100,101,107,108,114,115,119,120,124,125,129,130,134,135,139,140,144,145,151,152,158,159,165,166,172,173,179,180,186,187,193,194,198,199,203,204,208,209,213,214,218,219,225,226,232,233,239,240,244,245,249,250,256,257,263,264,270,271,277,278,284,285,291,292,296,297,301,302,308,309,315,316,320,321,327,328,334,335,339,340,344,345,349,350,356,357,363,364,370,371,375,376,380,381] (λ_=>rfl) [189,206]
abbrev pp:=PySem.Challenge.pw_stillflow_k32_whole_put_together
abbrev A0:Acc:=⟨76,271,.str "stillflow.errors" 187,[],[],[]⟩
abbrev ks:List Nat:=[2,3,3,1,1,1,0,1,1,0,0,0,0,0,0,1,1,1,1,1,1,1,0,0,2,0,0,0,1,1,1,2,0,0,1,1,1,1,1,1,2,0,0,1,1,0,1,2,3,1,0,0,0,2,1,1,1,0,0]
abbrev cs(w:World):Shared:=Sc pp w 1048 6
abbrev sa(w:World)(m:Nat):Shared:=SA pp w 1048 6 A0 ks m
def o0(w:World):fencedOpening treeTable pp w 6000=some (S0 pp w):=by kernel_rfl
def o1(w:World):((S0 pp w).heap.isNs mainGlobals&&(S0 pp w).gens.size == 0,(S0 pp w).heap.objs.size,(S0 pp w).heap.nsMap mainGlobals "__annotations__")=(true,11,some (.ref 6)):=by kernel_rfl
def o2(w:World):topGo treeTable pp w 11 (some (.ref 6)) 12 (S0 pp w) (topStub pp)=some (Sb pp w,⟨denote treeTable (.body (yo pp) (Gi pp)),zd pp,default,G0⟩):=by kernel_rfl
def o3(w:World):segRun treeTable pp w 11 (some (.ref 6)) 1 1 (Sb pp w) (blockOf (yo pp) (Gi pp) (zd pp) default G0)=some (.next,Sb pp w,zd pp,F4 pp 0):=by kernel_rfl
def q0(w:World):Mq pp w 1048 0 6 (Sb pp w)=some (.next,cs w,zd pp,F4 pp 6):=by kernel_rfl
def q1(w:World):cs w=sa w 0:=by kernel_rfl
def r0(w:World):Mq pp w 839 6 39 (sa w 0)=some (.next,sa w 33,zd pp,F4 pp 39):=by kernel_rfl
def r1(w:World):Mq pp w 687 39 65 (sa w 33)=some (.next,sa w 59,zd pp,F4 pp 65):=by kernel_rfl
abbrev fs(w:World):Shared:=sa w 59
def q2(w:World):topRun treeTable pp w 11 (some (.ref 6)) 3 (fs w) (restOf ((yo pp).drop 65) (Gi pp) (zd pp) (F4 pp 65) G0)=some (fs w):=by kernel_rfl
def rl(w:World):topRun treeTable pp w 11 (some (.ref 6)) (12+(1+(1048+(839+(687+3))))) (S0 pp w) (topStub pp)=some (fs w):=K8 (o2 w) (o3 w) (On (i:=0) (q0 w) (by decide) (by rw[q1 w];exact (On (r0 w) (by decide) (On (r1 w) (by decide) (q2 w)))))
abbrev sn(w:World):=openSeen vw [] (importedModules pp.main.body) (λs=>xlAt vw [] s&&recOk [] s) true (fs w)
abbrev gd:=openGood vw []
def l0(w:World):(staticsOk (importedModules pp.main.body) (S0 pp w).heap (fs w).heap&&namesBound pp (fs w).heap&&gensDone (fs w)&&laidKept (S0 pp w).heap (fs w).heap)=true:=by kernel_rfl
def OV(w:World):(sn w).1=gd.1:=by kernel_rfl
def O3(w:World):(sn w).2.1=gd.2.1:=by kernel_rfl
def O9(w:World):(sn w).2.2.1=gd.2.2.1:=by kernel_rfl
def Pb(w:World):(sn w).2.2.2.1=gd.2.2.2.1:=by kernel_rfl
def OX(w:World):(sn w).2.2.2.2.1=gd.2.2.2.2.1:=by kernel_rfl
def Pc(w:World):(sn w).2.2.2.2.2.1=gd.2.2.2.2.2.1:=by kernel_rfl
def Po(w:World):(sn w).2.2.2.2.2.2=gd.2.2.2.2.2.2:=by kernel_rfl
def O6(w:World):hk.obs (fs w)=hk.val w:=by kernel_rfl
def left:LeftO pp vw [] (λs=>xlAt vw [] s&&recOk [] s) hk.obs hk.val 6000:=HQ o0 o1 rl (by decide) l0 (λw=>Prod.ext (OV w) (Prod.ext (O3 w) (Prod.ext (O9 w) (Prod.ext (Pb w) (Prod.ext (OX w) (Prod.ext (Pc w) (Po w))))))) O6
def NU:PySem.Challenge.rw_stillflow_k32_whole_put_together.wellSaid=true:=by kernel_rfl
end K32
namespace L2
open PySem PySem.Spec PyProof.Rows
abbrev ym:=Sum Int Str
def Js:ym->Value->Bool
 | .inl k,v=>Value.isInt k v
 | .inr x,v=>Value.isStrOf x v
def OE(w:World):ym->Int
 | .inl k=>hashInt k
 | .inr x=>hashStr w x
def bN:∀ {k:ym}{v:Value},Js k v=true->(∃i t,k=Sum.inl i/\v=Value.int i t)\/(∃x t,k=Sum.inr x/\v=Value.str x t)
 | .inl i,v,h=>by
  let⟨t,e⟩:=Value.isInt_shape (k:=i) (v:=v) h;exact .inl ⟨i,t,rfl,e⟩
 | .inr x,v,h=>by
  let⟨t,e⟩:=Value.isStrOf_shape (x:=x) (v:=v) h;exact .inr ⟨x,t,rfl,e⟩
def Lz(a b:Int):decide ((Sum.inl a:ym)=Sum.inl b)=(a == b):=by
 by_cases e:a=b
 ·subst e;simp
 ·have h:¬ (Sum.inl a:ym)=Sum.inl b:=λq=>e (Sum.inl.inj q);rw[zZ h];exact (beq_eq_false_iff_ne.mpr e).symm
def LD(a b:Str):decide ((Sum.inr a:ym)=Sum.inr b)=decide (a=b):=by
 by_cases e:a=b
 ·subst e;simp
 ·have h:¬ (Sum.inr a:ym)=Sum.inr b:=λq=>e (Sum.inr.inj q);rw[zZ h,zZ e]
def Kg(a:Int)(b:Str):decide ((Sum.inl a:ym)=Sum.inr b)=false:=zZ (λq=>nomatch q)
def Kl(a:Str)(b:Int):decide ((Sum.inr a:ym)=Sum.inl b)=false:=zZ (λq=>nomatch q)
def Br(prog:Program)(w:World):PySem.KeyKind prog w ym where
 is:=Js
 hash:=OE w
 inj:=λv a b ha hb=>by
  rcases bN ha with ⟨i,t,rfl,rfl⟩|⟨x,t,rfl,rfl⟩
  ·rcases bN hb with ⟨j,u,rfl,e⟩|⟨y,u,rfl,e⟩
   ·injection e with e1 _;rw[e1]
   ·exact nomatch e
  ·rcases bN hb with ⟨j,u,rfl,e⟩|⟨y,u,rfl,e⟩
   ·exact nomatch e
   ·injection e with e1 _;rw[e1]
 byValue:=λk v h=>by
  rcases bN h with ⟨i,t,rfl,rfl⟩|⟨x,t,rfl,rfl⟩<;>rfl
 pyHash:=λhv h=>by
  rcases bN hv with ⟨i,t,rfl,rfl⟩|⟨x,t,rfl,rfl⟩
  ·exact wpAny_pyHash_int h
  ·exact wpAny_pyHash_str h
 eqBool:=λhu hv h=>by
  rcases bN hu with ⟨i,t,rfl,rfl⟩|⟨x,t,rfl,rfl⟩
  ·rcases bN hv with ⟨j,u,rfl,rfl⟩|⟨y,u,rfl,rfl⟩
   ·rw[Lz] at h;exact wpAny_eqBool_int h
   ·rw[Kg] at h;exact SeqAt.EqAt.int_str i t y u _ _ _ _ h
  ·rcases bN hv with ⟨j,u,rfl,rfl⟩|⟨y,u,rfl,rfl⟩
   ·rw[Kl] at h;exact SeqAt.EqAt.str_int x t j u _ _ _ _ h
   ·rw[LD] at h;exact wpAny_eqBool_str h
 «strs»:=λk x t v h=>by
  rcases bN h with ⟨i,u,rfl,e⟩|⟨y,u,rfl,e⟩
  ·exact nomatch e
  ·injection e with e1 _
   subst e1;cases v<;>rfl
inductive V where
 | non|bl (b:Bool)|int (i:Int)|str (x:Str)|byt (b:Array UInt8)|flt (b:UInt64)|ref (a:Addr)|ty (n:String)
 deriving DecidableEq
def RelV:V->Value->Prop
 | .non,u=>u=Value.none
 | .bl b,u=>u=Value.bool b
 | .int i,u=>∃t,u=Value.int i t
 | .str x,u=>∃t,u=Value.str x t
 | .byt b,u=>∃t,u=Value.bytes b t
 | .flt b,u=>∃t,u=Value.float b t
 | .ref a,u=>u=Value.ref a
 | .ty n,u=>u=Value.type n
abbrev aJ:List V->List Value->Prop:=Paired RelV
def aJ.length(r:aJ xs us):xs.length=us.length:=Paired.length r
def aJ.get:∀ {xs:List V}{us:List Value}{i:Nat}{x:V},aJ xs us->xs[i]?=some x->∃u,us[i]?=some u/\RelV x u
 | _,_,_,_,.nil,e=>by simp at e
 | _,_,0,_,.cons r _,e=>by simp at e;subst e;exact⟨_,rfl,r⟩
 | _,_,i+1,x,.cons _ t,e=>by
  let⟨u,h1,h2⟩:=aJ.get (i:=i) (x:=x) t (by simpa using e);exact⟨u,by simpa using h1,h2⟩
def aJ.set(r:RelV x u):∀ {xs:List V}{us:List Value}(i:Nat),aJ xs us->aJ (xs.set i x) (us.set i u)
 | _,_,_,.nil=>.nil
 | _,_,0,.cons _ t=>.cons r t
 | _,_,i+1,.cons q t=>.cons q (aJ.set r i t)
def aJ.append:∀ {xs ys:List V}{us ws:List Value},aJ xs us->aJ ys ws->aJ (xs++ys) (us++ws)
 | _,_,_,_,.nil,s=>s
 | _,_,_,_,.cons r t,s=>.cons r (aJ.append t s)
def aJ.take:∀ {xs:List V}{us:List Value}(n:Nat),aJ xs us->aJ (xs.take n) (us.take n)
 | _,_,0,_=>.nil
 | _,_,_+1,.nil=>.nil
 | _,_,n+1,.cons r t=>.cons r (aJ.take n t)
def aJ.drop:∀ {xs:List V}{us:List Value}(n:Nat),aJ xs us->aJ (xs.drop n) (us.drop n)
 | _,_,0,r=>r
 | _,_,_+1,.nil=>.nil
 | _,_,n+1,.cons _ t=>aJ.drop n t
def Nn:Option V->Option Value->Prop
 | some v,some u=>RelV v u
 | none,none=>True
 | _,_=>False
def KV:List (κ×V)->List (κ×Value)->Prop:=Paired λ(p:κ×V) (q:κ×Value)=>p.1=q.1/\RelV p.2 q.2
def kV:ym->V
 | .inl i=>.int i
 | .inr x=>.str x
inductive HO where
  | lst (xs:List V)
  | tup (xs:List V)
  | dK (kvs:List (ym×V))|dT (kvs:List (List ym×V))
  | set (S:Int->Bool) (n:Nat)
  | ins (C dx:Addr) (fs:List (Str×V))
  | own (x:Addr)
  | xd (fs:List (Str×V))
  | met (f x:Addr)
  | rng (lo hi:Int)
  | frz (o:Obj) (u:HO)
  | tab (q:Str)
 | cod (q:Str)
  | ext (φ:Heap->Prop)
abbrev Hp:=Addr->Option HO
def upd(H:Hp)(a:Addr)(o:HO):Hp:=λb=>if b=a then some o else H b
def aI:upd H a o a=some o:=by unfold upd;rw[yL rfl]
def aA(h:b≠a):upd H a o b=H b:=by unfold upd;rw[yN h]
def aP{H:Hp}{a b:Addr}{o:HO}(h:H a=some o)(h':H b=none):a≠b:=by
 intro e;subst e;rw[h] at h';cases h'
def o4(h:Heap)(a:Addr)(its:Array Value):Prop:=IsTup h a its/\∃o,h.get? a=some o/\o.dict=none
def o4.new(h:Heap)(its:Array Value):o4 (h.push { cls:=.type "tuple",data:=.seq its }) h.objs.size its:=⟨IsTup.new _ _,_,zX _ rfl,rfl⟩
section
variable (P:Program) (w:World)
def di(H:Hp)(h:Heap)(a:Addr):HO->Prop
 | .lst xs=>xs.length<=sizeLine/\∃ (its:List Value) (n:Nat),aJ xs its/\h.get? a=some { cls:=.type "list",data:=.seq its.toArray n }
 | .tup xs=>xs.length<=sizeLine/\∃its:List Value,aJ xs its/\o4 h a its.toArray
 | .dK kvs=>kvs.length<=sizeLine/\(a == sysModules)=false/\∃vs,KV kvs vs/\h.DictOf (Br P w) a vs
 | .dT kvs=>kvs.length<=sizeLine/\(a == sysModules)=false/\∃xs:List (List ym×Addr×Value),
   Paired (λ(p:List ym×V) (q:List ym×Addr×Value)=>p.1=q.1/\H q.2.1=some (.tup (p.1.map kV))/\RelV p.2 q.2.2) kvs xs /\
   ∃o es ep,h.get? a=some o/\o.ExactDict/\o.data=.dict es ep/\es.toList=xs.map (entryOfKey (tupleKind (Br P w)))/\(xs.map (·.1)).Nodup
 | .set S n=>h.SetOf (intKind P w) a S n
 | .ins C dx fs=>H dx=some (.own a)/\fs.length<=1000/\dx≠a/\h.get? a=some (W.instObj C dx) /\
   ∃mA,h.Ns1 dx mA/\(∀f,Nn (fs.lookup f) (mA f))/\PySem.Within mA (fs.map (·.1))
 | .own _=>∃o,h.get? a=some o
 | .xd fs=>∃mA,h.Ns1 a mA/\∀f,Nn (fs.lookup f) (mA f)
 | .rng lo hi=>∃t u v,h.get? a=some { cls:=.type "range",data:=.fields #[.int lo t,.int hi u,.int 1 v] }
 | .frz o u=>h.get? a=some o/\di H h a u
 | .tab q=>∃ps:Array Value,h.get? a=some { cls:=.none,data:=.fields ps }/\TriplesOk ps.toList/\∀pos v,codeAmong pos ps.toList=some v->∃c,v=.ref c/\H c=some (.cod q)
 | .cod q=>h.CodeRec (.ref a) q
 | .met f x=>h.get? a=some (W.methodObj (.ref f) (.ref x))
 | .ext φ=>φ h/\(∃o,h.get? a=some o)/\∀h1 h2:Heap,φ h1->(∀o,h1.get? a=some o->h2.get? a=some o)->φ h2
def oM(H:Hp)(h:Heap):Prop:=∀a o,H a=some o->di P w H h a o
end
def di.lt(x:di P w H h a o):a < h.objs.size:=by
 cases o with
 | lst xs=>let⟨_,_,_,_,e⟩:=x;exact zY e
 | tup xs=>let⟨_,_,_,p⟩:=x;exact p.1.lt
 | dK kvs=>let⟨_,_,_,_,o,_,_,e,_⟩:=x;exact zY e
 | dT kvs=>let⟨_,_,_,_,o,_,_,e,_⟩:=x;exact zY e
 | set S n=>let⟨o,_,_,_,e,_⟩:=x;exact zY e
 | ins C dx fs=>let⟨_,_,_,e,_⟩:=x;exact zY e
 | own y=>let⟨_,e⟩:=x;exact zY e
 | xd fs=>let⟨_,⟨_,_,_,e,_⟩,_⟩:=x;exact zY e
 | rng lo hi=>let⟨_,_,_,e⟩:=x;exact zY e
 | frz ob u=>let⟨e,_⟩:=x;exact zY e
 | tab q=>let⟨_,e,_⟩:=x;exact zY e
 | cod q=>let⟨_,_,_,_,e0,e,_⟩:=x;cases e0;exact zY e
 | met f y=>exact zY (show h.get? a=some _ from x)
 | ext φ=>let⟨_,⟨_,e⟩,_⟩:=x;exact zY e
def Paired.mapP:∀ {l₁:List α}{l₂:List β},Paired F l₁ l₂->(∀a b,F a b->G a b)->Paired G l₁ l₂
 | _,_,.nil,_=>.nil
 | _,_,.cons r t,f=>.cons (f _ _ r) (Paired.mapP t f)
def OS:HO->Prop
 | .tup _=>True
 | .cod _=>True
 | _=>False
def di.stay(x:di P w H h a o)(k:∀b u,(b=a\/H b=some (.own a))->h.get? b=some u->h'.get? b=some u)
  (ho:∀b,H b=some (.own a)->H' b=some (.own a)) (ht:∀b u,H b=some u->OS u->H' b=some u):di P w H' h' a o:=by
 induction o with
 | lst xs=>let⟨z,its,n,r,e⟩:=x;exact⟨z,its,n,r,k _ _ (.inl rfl) e⟩
 | tup xs=>let⟨z,its,r,⟨ob,e,c⟩,o2,e2,d2⟩:=x;exact⟨z,its,r,⟨ob,k _ _ (.inl rfl) e,c⟩,o2,k _ _ (.inl rfl) e2,d2⟩
 | dK kvs=>let⟨z,y,vs,r,ob,es,ep,e,c⟩:=x;exact⟨z,y,vs,r,ob,es,ep,k _ _ (.inl rfl) e,c⟩
 | dT kvs =>
  let⟨z,y,xs,r,ob,es,ep,e,c⟩:=x;exact⟨z,y,xs,Paired.mapP r λp q z=>⟨z.1,ht _ _ z.2.1 trivial,z.2.2⟩,ob,es,ep,k _ _ (.inl rfl) e,c⟩
 | set S n=>let⟨ob,es,ep,t,e,c⟩:=x;exact⟨ob,es,ep,t,k _ _ (.inl rfl) e,c⟩
 | ins C dx fs =>
  let⟨d,z,ne,e,mA,⟨od,es,ep,e2,c⟩,r⟩:=x;exact⟨ho _ d,z,ne,k _ _ (.inl rfl) e,mA,⟨od,es,ep,k _ _ (.inr d) e2,c⟩,r⟩
 | own y=>let⟨ob,e⟩:=x;exact⟨ob,k _ _ (.inl rfl) e⟩
 | xd fs=>let⟨mA,⟨od,es,ep,e,c⟩,r⟩:=x;exact⟨mA,⟨od,es,ep,k _ _ (.inl rfl) e,c⟩,r⟩
 | rng lo hi=>let⟨t,u,v,e⟩:=x;exact⟨t,u,v,k _ _ (.inl rfl) e⟩
 | frz ob u ih=>let⟨e,q⟩:=x;exact⟨k _ _ (.inl rfl) e,ih q⟩
 | tab q=>let⟨ps,e,t,c⟩:=x;exact⟨ps,k a _ (.inl rfl) e,t,λpos v z=>let ⟨c0,z1,z2⟩:=c pos v z;⟨c0,z1,ht _ _ z2 trivial⟩⟩
 | cod q=>let⟨c,oc,vs,t,e0,e,r⟩:=x;cases e0;exact⟨_,oc,vs,t,rfl,k _ _ (.inl rfl) e,r⟩
 | met f y =>
  have e:h.get? a=some (W.methodObj (.ref f) (.ref y)):=x;show h'.get? a=some (W.methodObj (.ref f) (.ref y));exact k a _ (.inl rfl) e
 | ext φ=>let⟨p,⟨o,e⟩,st⟩:=x;exact⟨st _ _ p λo q=>k _ _ (.inl rfl) q,⟨o,k _ _ (.inl rfl) e⟩,st⟩
def oM.lt(x:oM P w H h)(e:H a=some o):a < h.objs.size:=(x a o e).lt
def oM.fresh(x:oM P w H h)(e:h.objs.size<=a):H a=none:=by
 cases q:H a with
 | none=>rfl
 | some u=>exact absurd (zP (x.lt q) e) (qE _)
def oM.kept(x:oM P w H h)(k:∀b u,h.get? b=some u->h'.get? b=some u):oM P w H h':=λa o e =>
 (x a o e).stay (λb u _ q=>k b u q) (λ_ q=>q) λ_ _ q _=>q
def oM.laid(x:oM P w H h)(k:∀b u,h.get? b=some u->h'.get? b=some u)(hp:h.objs.size<=a)(new:di P w (upd H a o) h' a o):oM P w (upd H a o) h':=λb u e=>by
 have hn:=x.fresh hp;by_cases hb:b=a
 ·subst hb;rw[aI] at e;cases e;exact new
 ·rw[aA hb] at e;exact (x b u e).stay (λc v _ q=>k c v q) (λc q=>by rw[aA (aP q hn)];exact q) λc xs q _=>by rw[aA (aP q hn)];exact q
def Rd(H:Hp)(a:Addr)(u:HO):Prop:=H a=some u\/∃o,H a=some (.frz o u)
def Rd.ok(r:Rd H a u)(x:oM P w H h):di P w H h a u:=by
 rcases r with r|⟨o,r⟩
 ·exact x a u r
 ·let⟨_,q⟩:=x a _ r;exact q
def MD:Option HO->Prop
 | some (.lst _)=>True
 | some (.dK _)=>True
 | some (.dT _)=>True
 | some (.set _ _)=>True
 | some (.ins _ _ _)=>True
 | some (.ext _)=>True
 | _=>False
def oM.write(ok:oM P w H h)(mu:MD (H x))(he:e=x\/H e=some (.own x))(k:∀b u,b≠e->h.get? b=some u->h'.get? b=some u)(heo:∃u,h'.get? e=some u)
  (new:di P w (upd H x o') h' x o'):oM P w (upd H x o') h':=λb u q=>by
 have nown:∀c y,H c=some (.own y)->c≠x:=λc y r z=>by subst z;rw[r] at mu;exact mu
 have ntup:∀c u,H c=some u->OS u->c≠x:=λc u r hr z=>by subst z;rw[r] at mu;cases u<;>first|exact mu|exact hr
 by_cases hb:b=x
 ·subst hb;rw[aI] at q;cases q;exact new
 ·rw[aA hb] at q;by_cases hbe:b=e
  ·have q':H b=some (.own x):=by
    rcases he with z|z
    ·exact absurd (hbe.trans z) hb
    ·rw[hbe];exact z
   rw[q] at q';cases q';let⟨v,hv⟩:=heo;exact⟨v,by rw[hbe];exact hv⟩
  ·refine (ok b u q).stay (λc v hc r=>k c v ?_ r) (λc r=>by rw[aA (nown c b r)];exact r) λc xs r hr=>by rw[aA (ntup c xs r hr)];exact r
   rcases hc with rfl|hc
   ·exact hbe
   ·rintro rfl;rcases he with z|z
    ·exact nown c b hc z
    ·rw[hc] at z;cases z;exact hb rfl
def NA:HO->Prop
 | .tab _=>True
 | .cod _=>True
 | _=>False
def NA.not_mut(h:NA u):¬ MD (some u):=by cases u<;>first|exactλz=>z|exact h.elim
structure Jm(H H':Hp)(h h':Heap):Prop where
 st:∀b u,H b=some u->NA u->H' b=some u
 gr:∀b q ps,H b=some (.tab q)->h.get? b=some { cls:=.none,data:=.fields ps }->∃more:Array Value,h'.get? b=some { cls:=.none,data:=.fields (ps++more) }
def Jm.kept(k:∀b u,(∃q,H b=some (.tab q))->h.get? b=some u->h'.get? b=some u)(st:∀b u,H b=some u->NA u->H' b=some u):Jm H H' h h' :=
 ⟨st,λb q ps e z=>⟨#[],by rw[Array.append_empty];exact k b _ ⟨q,e⟩ z⟩⟩
def Jm.trans(a:Jm H H1 h h1)(b:Jm H1 H2 h1 h2):Jm H H2 h h2 :=
 ⟨λc u q t=>b.st c u (a.st c u q t) t,λc q ps e z=>by
  let⟨m1,z1⟩:=a.gr c q ps e z;let⟨m2,z2⟩:=b.gr c q _ (a.st c _ e trivial) z1;exact⟨m1++m2,by rw[z2,Array.append_assoc]⟩⟩
structure Un(fs ex:List Addr)(H H':Hp)(h h':Heap):Prop where
 keep:∀b o,h.get? b=some o->H b=none->b∉fs->b∉ex->h'.get? b=some o
 slot:∀b o,h.get? b=some o->H b=none->b∈fs->b∉ex->∃sl,h'.get? b=some { o with slots:=sl }
 free:∀b o,h.get? b=some o->H b=none->b∉ex->H' b=none
 there:∀b o,h.get? b=some o->b∉ex->∃o',h'.get? b=some o'
 tups:∀b xs,H b=some (.tup xs)->H' b=some (.tup xs)
 frzs:∀b o u,H b=some (.frz o u)->H' b=some (.frz o u)
 tbls:Jm H H' h h'
def Un.any(u:Un fs ex H H1 h h1)(q:h.get? b=some ob)(n:H b=none)(hx:b∉ex):∃sl,h1.get? b=some { ob with slots:=sl }:=by
 by_cases hb:b∈fs
 ·exact u.slot b ob q n hb hx
 ·exact⟨ob.slots,u.keep b ob q n hb hx⟩
def Un.kept(k:∀b u,h.get? b=some u->h'.get? b=some u):Un fs ex H H h h' :=
 ⟨λb ob q _ _ _=>k b ob q,λb ob q _ _ _=>⟨ob.slots,k b ob q⟩,λ_ _ _ n _=>n,λb ob q _=>⟨ob,k b ob q⟩,λ_ _ q=>q,λ_ _ _ q=>q,.kept (λb u _ e=>k b u e) λ_ _ e _=>e⟩
def Un.refl:Un fs ex H H h h:=Un.kept λ_ _ q=>q
def Un.laid(k:∀b u,h.get? b=some u->h'.get? b=some u)(hp:h.objs.size<=a)(hn:H a=none):Un fs ex H (upd H a o) h h' where
 keep:=λb u q _ _ _=>k b u q
 slot:=λb u q _ _ _=>⟨u.slots,k b u q⟩
 free:=λb u q n _=>by rw[aA (yR (zP (zY q) hp))];exact n
 there:=λb u q _=>⟨u,k b u q⟩
 tups:=λb xs q=>by rw[aA (aP q hn)];exact q
 frzs:=λb u xs q=>by rw[aA (aP q hn)];exact q
 tbls:=.kept (λb u _ e=>k b u e) λb u q _=>by rw[aA (aP q hn)];exact q
def Un.write(mu:MD (H x))(he:e=x\/H e=some (.own x))(k:∀b u,b≠e->h.get? b=some u->h'.get? b=some u)(heo:∃u,h'.get? e=some u):Un fs ex H (upd H x o) h h':=by
 have hx:∀b,H b=none->b≠x:=λb n z=>by subst z;rw[n] at mu;exact mu
 have hb:∀b,H b=none->b≠e:=λb n z=>by
  subst z;rcases he with r|r
  ·exact hx b n r
  ·rw[n] at r;cases r
 have hm:∀b u,H b=some u->¬ MD (some u)->b≠x:=λb u q nm z=>by subst z;rw[q] at mu;exact nm mu
 refine⟨λb u q n _ _=>k b u (hb b n) q,λb u q n _ _=>⟨u.slots,k b u (hb b n) q⟩,λb u q n _=>by rw[aA (hx b n)];exact n,λb u q _=>?_,
  λb xs q=>by rw[aA (hm b _ q λz=>z)];exact q,λb u xs q=>by rw[aA (hm b _ q λz=>z)];exact q,.kept (λb u z e=>k b u (λr=>by subst r;rcases he with r|r<;>first|(subst r;rcases z with ⟨q,z⟩;rw[z] at mu;exact mu)|(rcases z with ⟨q,z⟩;rw[z] at r;cases r)) e) λb u q nm=>by rw[aA (hm b _ q (nm.not_mut))];exact q⟩
 by_cases hbe:b=e
 ·subst hbe;exact heo
 ·exact⟨u,k b u hbe q⟩
def NB(h:Heap)(H:Hp):List Addr:=(List.range h.objs.size).filter λa=>(H a).isSome
def ud(h:Heap)(H:Hp):Heap:=W.hideAll h (NB h H)
def B9(h:Heap)(H:Hp):(ud h H).objs.size=h.objs.size:=W.hideAll_size _ _
def ER(e:h.get? b=some o)(n:H b=none):(ud h H).get? b=some o :=
 W.hideAll_get _ e λhm=>by
  have q:(H b).isSome=true:=(List.mem_filter.mp hm).2;rw[n] at q;simp at q
def IV(e:(ud h H).get? b=some o):h.get? b=some o/\H b=none:=by
 have e':h.get? b=some o:=W.of_hideAll (NB h H) e;refine⟨e',?_⟩;cases q:H b with
 | none=>rfl
 | some x =>
  have hm:b∈NB h H:=List.mem_filter.mpr ⟨List.mem_range.mpr (zY e'),by simp[q]⟩;have z:(ud h H).get? b=none:=W.hideAll_none (NB h H) hm;rw[z] at e;cases e
def Nz(mg:Str->Option Value)(base:Heap):Prop:=∃bm o,mg "__builtins__"=some (.ref bm)/\bm≠builtinsNs/\bm≠mainGlobals/\base.get? bm=some o/\o.cls=.type "module"/\o.dict=some builtinsNs/\o.data=.plain
structure Mod(K:W.Frag)(mg:Str->Option Value)(base:Heap):Prop where
 kin:K.In base
 glob:base.Ns mainGlobals mg
 blt:∃mb,base.Ns builtinsNs mb/\∀x:Str,x≠"__name__"->mb x=bootBuiltins x
 nolimit:base.NoLimit
 bmd:Nz mg base
structure Cx where
 prog:Program
 w:World
 K:W.Frag
 mg:Str->Option Value
 base:Heap
 A:Around
 N:List Str
 s₀:Shared
 H₀:Hp
 env:Env
 outer:List Env
 stack:List Env
 ex:List Addr
 fn:Str->Bool
 calm:Bool
 pn:List (Addr×Obj)
 xe:Value->Shared->Prop
def Eb(l:List Env):List Addr:=l.filterMap (·.frame)
abbrev Cx.fs(X:Cx):List Addr:=Eb X.outer
def Jb(sc:Scope)(x:Str):Prop:=sc.names.lookup x=some .local \/ sc.names.lookup x=some .cell\/sc.names.lookup x=some .free
def Loc(sc:Scope)(x:Str):Prop:=sc.names.lookup x=some .local \/ sc.names.lookup x=some .cell
def Look(env:Env)(h:Heap)(m:Str->Option Value)(x:Str)(u:Value):Prop :=
 (env.kindOf x=some .local /\ m x=some u)\/((env.kindOf x=some .cell\/env.kindOf x=some .free)/\∃c,env.cells.lookup x=some c/\h.IsCell c (some u))
structure Cx.Ok(X:Cx):Prop where
 mod:Mod X.K X.mg X.base
 kind:X.env.scope.kind=.function
 glob:X.env.globals=mainGlobals
 blt:X.env.builtins=builtinsNs
 above:X.s₀.heap.objs.size<=X.env.locals
 inj:∀x y c,X.env.cells.lookup x=some c->X.env.cells.lookup y=some c->x=y
 has:∀x,(X.env.kindOf x=some .cell\/X.env.kindOf x=some .free)->∃c,X.env.cells.lookup x=some c
 cab:∀x c,X.fn x=true->X.env.cells.lookup x=some c->X.s₀.heap.objs.size<=c
 hd:X.calm=true->X.A.handled=none
 frames:X.A.frames=some X.stack
 stk:X.stack=X.outer\/(X.stack=X.env::X.outer/\X.env.frame=some X.env.locals)
 exf:∀b∈X.ex,b≠X.env.locals/\∀x c,X.env.cells.lookup x=some c->c≠b
 bs:∀b o,X.base.get? b=some o->X.s₀.heap.get? b=some o/\X.H₀ b=none
 bsz:X.base.objs.size<=X.s₀.heap.objs.size
 noex:∀b o,X.base.get? b=some o->b∉X.ex
 exfs:∀b∈X.ex,b∉X.fs
 funs:X.s₀.heap.FunFrames X.base X.outer
 frf:∀b∈X.fs,X.H₀ b=none
structure Inv(X:Cx)(pins:List (Addr×Obj))(σ:List (Option V))(H:Hp)(s:Shared):Prop where
 ok:X.Ok
 os:s.os=X.s₀.os
 bare:AllBare s.gens
 base:Un X.fs X.ex X.H₀ H X.s₀.heap s.heap
 loc:∃m,s.heap.Ns X.env.locals m/\∀ (i:Nat) (x:Str) (v:V),X.N[i]?=some x->σ[i]?=some (some v)->Jb X.env.scope x->∃u,RelV v u/\Look X.env s.heap m x u
 cell:∀x c,X.env.cells.lookup x=some c->∃v,s.heap.IsCell c v
 free:H X.env.locals=none
 freeC:∀x c,X.env.cells.lookup x=some c->H c=none
 pin:∀p∈X.pn++pins,s.heap.get? p.1=some p.2/\H p.1=none/\p.1≠X.env.locals/\p.1∉X.fs/\∀v,p.2.data≠.cell v
 hok:oM X.prog X.w H s.heap
 len:σ.length=X.N.length
def Cx.Ok.nofr{X:Cx}(ok:X.Ok)(e:X.base.get? b=some o):b∉X.fs:=λhb=>by
 have:=(ok.funs.mem hb).1;rw[e] at this;cases this
def Inv.bs{X:Cx}{s:Shared}(I:Inv X pins σ H s):∀b o,X.base.get? b=some o->s.heap.get? b=some o/\H b=none:=λb o e =>
 ⟨I.base.keep b o (I.ok.bs b o e).1 (I.ok.bs b o e).2 (I.ok.nofr e) (I.ok.noex b o e),I.base.free b o (I.ok.bs b o e).1 (I.ok.bs b o e).2 (I.ok.noex b o e)⟩
def Inv.bk(I:Inv X pins σ H s):∀b o,X.base.get? b=some o->s.heap.get? b=some o:=λb o e=>(I.bs b o e).1
def Inv.mod(I:Inv X pins σ H s):Mod X.K X.mg X.base:=I.ok.mod
def Inv.kIn(I:Inv X pins σ H s):X.K.In s.heap:=I.ok.mod.kin.keeps I.bk
def Inv.nolimit(I:Inv X pins σ H s):s.heap.NoLimit:=I.ok.mod.nolimit.keeps I.bk
def Inv.lt(I:Inv X pins σ H s):X.env.locals < s.heap.objs.size:=let ⟨_,hn,_⟩:=I.loc;hn.lt
def Inv.sz(I:Inv X pins σ H s):X.s₀.heap.objs.size<=s.heap.objs.size:=yD I.ok.above (jS I.lt)
def Inv.nofs(I:Inv X pins σ H s)(h:s.heap.objs.size<=a):a∉X.fs:=λhb=>by
 let⟨_,o,ho,_⟩:=I.ok.funs.mem hb;exact absurd (zP (zY ho) (yD I.sz h)) (qE _)
def Inv.cne(I:Inv X pins σ H s):∀x c,X.env.cells.lookup x=some c->c≠X.env.locals:=λx c e z=>by
 let⟨v,o,ho,hd⟩:=I.cell x c e;let⟨m,⟨o',es,ep,ho',hd',_⟩,_⟩:=I.loc;rw[z,ho'] at ho;cases ho;rw[hd'] at hd;cases hd
def Inv.funs(I:Inv X pins σ H s):s.heap.FunFrames X.base X.outer:=by
 have all:∀ (l:List Env),(∀b∈Eb l,b∈X.fs)->X.s₀.heap.FunFrames X.base l->s.heap.FunFrames X.base l:=by
  intro l
  induction l with
  | nil=>intro _ _;trivial
  | cons env r ih =>
   intro hs hl;let⟨hk,⟨L,o,hf,hn,ho,hd⟩,hr⟩:=hl;have hL:L∈X.fs:=hs L (by unfold Eb;rw[jG,hf];exact zE);let⟨sl,e⟩:=I.base.slot L o ho (I.ok.frf L hL) hL λz=>I.ok.exfs L z hL;exact⟨hk,⟨L,_,hf,hn,e,hd⟩,ih (λb hb=>hs b (by unfold Eb;rw[jG,hf];exact zC _ hb)) hr⟩
 exact all X.outer (λ_ hb=>hb) I.ok.funs
def Inv.stack(I:Inv X pins σ H s):s.heap.FunFrames X.base X.stack:=by
 rcases I.ok.stk with e|⟨e,hf⟩
 ·rw[e];exact I.funs
 ·rw[e];let⟨m,hn,_⟩:=I.loc;refine .cons (by rw[I.ok.kind];decide) hf hn ?_ I.funs;exact Heap.get?_none_of_le (yD I.ok.bsz I.ok.above)
def Inv.stkSub(I:Inv X pins σ H s):∀b∈Eb X.stack,b∈X.env.locals::X.fs:=λb hb=>by
 rcases I.ok.stk with e|⟨e,hf⟩
 ·rw[e] at hb;exact zC _ hb
 ·rw[e] at hb;unfold Eb at hb;rw[jG,hf] at hb;exact hb
def Inv.stkFree(I:Inv X pins σ H s):∀b∈Eb X.stack,H b=none:=λb hb=>by
 rcases List.mem_cons.mp (I.stkSub b hb) with e|hb
 ·rw[e];exact I.free
 ·let⟨_,o,ho,_⟩:=I.ok.funs.mem hb;exact I.base.free b o ho (I.ok.frf b hb) λz=>I.ok.exfs b z hb
def Inv.step{g':Array GenState}{t':Nat}{d':Drawn}{ch:List Addr}(I:Inv X pins σ H s)
  (hch:∀b∈ch,(b∈X.ex\/X.s₀.heap.objs.size<=b)/\b≠X.env.locals/\(∀x c,X.env.cells.lookup x=some c->c≠b)/\∀p∈X.pn++pins,p.1≠b)
  (keep:∀b o,b≠X.env.locals->b∉X.fs->b∉ch->s.heap.get? b=some o->H b=none->h'.get? b=some o)
  (slot:∀b o,b≠X.env.locals->b∈X.fs->b∉ch->s.heap.get? b=some o->H b=none->∃sl,h'.get? b=some { o with slots:=sl }) (free:∀b o,b∉ch->s.heap.get? b=some o->H b=none->H' b=none)
  (there:∀b o,b∉ch->s.heap.get? b=some o->∃o',h'.get? b=some o')
  (tups:∀b xs,H b=some (.tup xs)->H' b=some (.tup xs)) (frzs:∀b o u,H b=some (.frz o u)->H' b=some (.frz o u)) (tbls:Jm H H' s.heap h')
  (ns:∀m,s.heap.Ns X.env.locals m->h'.Ns X.env.locals m) (hok:oM X.prog X.w H' h') (hg:AllBare g') :
  Inv X pins σ H' { s with heap:=h',gens:=g',drawn:=d',toks:=t' }:=by
 have neL:∀b o,X.s₀.heap.get? b=some o->b≠X.env.locals:=λb o e=>yR (zP (zY e) I.ok.above);have neC:∀b o,X.s₀.heap.get? b=some o->b∉X.ex->b∉ch:=λb o e hx hb=>by
  rcases (hch b hb).1 with z|z
  ·exact hx z
  ·exact absurd (zP (zY e) z) (qE _)
 have cellK:∀x c,X.env.cells.lookup x=some c->∀v,s.heap.IsCell c v->h'.IsCell c v:=λx c e v ⟨o,ho,hd⟩=>by
  have nch:c∉ch:=λz=>(hch c z).2.2.1 x c e rfl;by_cases hc:c∈X.fs
  ·let⟨sl,q⟩:=slot c o (I.cne x c e) hc nch ho (I.freeC x c e);exact⟨_,q,hd⟩
  ·exact⟨o,keep c o (I.cne x c e) hc nch ho (I.freeC x c e),hd⟩
 refine⟨I.ok,I.os,hg,⟨λb o e n hb hx=>?_,λb o e n hb hx=>?_,λb o e n hx=>?_,λb o e hx=>?_,λb xs e=>tups b xs (I.base.tups b xs e),λb o xs e=>frzs b o xs (I.base.frzs b o xs e),I.base.tbls.trans tbls⟩,?_,λx c e=>?_,?_,λx c e=>?_,λp hp=>?_,hok,I.len⟩
 ·exact keep b o (neL b o e) hb (neC b o e hx) (I.base.keep b o e n hb hx) (I.base.free b o e n hx)
 ·let⟨sl,e1⟩:=I.base.slot b o e n hb hx;let⟨sl',e2⟩:=slot b _ (neL b o e) hb (neC b o e hx) e1 (I.base.free b o e n hx);exact⟨sl',e2⟩
 ·let⟨o',e1⟩:=I.base.there b o e hx;exact free b o' (neC b o e hx) e1 (I.base.free b o e n hx)
 ·let⟨o',e1⟩:=I.base.there b o e hx;exact there b o' (neC b o e hx) e1
 ·let⟨m,hn,hl⟩:=I.loc;refine⟨m,ns m hn,λi x v e1 e2 e3=>?_⟩;let⟨u,r,l⟩:=hl i x v e1 e2 e3;refine⟨u,r,?_⟩;rcases l with l|⟨k,c,e,z⟩
  ·exact .inl l
  ·exact .inr ⟨k,c,e,cellK x c e _ z⟩
 ·let⟨v,z⟩:=I.cell x c e;exact⟨v,cellK x c e v z⟩
 ·let⟨m,⟨o,_,_,ho,_⟩,_⟩:=I.loc;exact free _ o (λz=>(hch _ z).2.1 rfl) ho I.free
 ·let⟨v,o,ho,hd⟩:=I.cell x c e;exact free c o (λz=>(hch c z).2.2.1 x c e rfl) ho (I.freeC x c e)
 ·let⟨e,n,ne,nf,d⟩:=I.pin p hp;have nch:p.1∉ch:=λz=>(hch p.1 z).2.2.2 p hp rfl;exact⟨keep p.1 p.2 ne nf nch e n,free p.1 p.2 nch e n,ne,nf,d⟩
def Inv.un{t':Nat}(I:Inv X pins σ H s)(u:Un X.fs [] H H' s.heap h')(hok:oM X.prog X.w H' h'):Inv X pins σ H' { s with heap:=h',toks:=t' }:=by
 let⟨m,⟨o,es,ep,ho,r⟩,_⟩:=id I.loc;let⟨sl,hL⟩:=u.any ho I.free (by simp);exact I.step (g':=s.gens) (d':=s.drawn) (ch:=[]) (λ_ z=>nomatch z) (λb o _ hb _ e n=>u.keep b o e n hb (by simp)) (λb o _ hb _ e n=>u.slot b o e n hb (by simp)) (λb o _ e n=>u.free b o e n (by simp)) (λb o _ e=>u.there b o e (by simp)) u.tups u.frzs u.tbls (λm' hm=>by
  let⟨o',es',ep',ho',r'⟩:=hm;rw[ho] at ho';cases ho';exact⟨_,es',ep',hL,r'⟩) hok I.bare
def Inv.call{t':Nat}{d':Drawn}{ch:List Addr}(I:Inv X pins σ H s)(u:Un (Eb X.stack) ch H H' s.heap h')(hok:oM X.prog X.w H' h')(hg:AllBare g')
  (hch:∀b∈ch,(b∈X.ex\/X.s₀.heap.objs.size<=b)/\b≠X.env.locals/\(∀x c,X.env.cells.lookup x=some c->c≠b)/\∀p∈X.pn++pins,p.1≠b) :
  Inv X pins σ H' { s with heap:=h',gens:=g',drawn:=d',toks:=t' }:=by
 let⟨m,⟨o,es,ep,ho,r⟩,_⟩:=id I.loc;let⟨sl,hL⟩:=u.any ho I.free λz=>(hch _ z).2.1 rfl;exact I.step (ch:=ch) hch (λb o hL hb hc e n=>u.keep b o e n (λz=>(List.mem_cons.mp (I.stkSub b z)).elim hL hb) hc) (λb o _ _ hc e n=>u.any e n hc) (λb o hc e n=>u.free b o e n hc) (λb o hc e=>u.there b o e hc) u.tups u.frzs u.tbls (λm' hm=>by
  let⟨o',es',ep',ho',r'⟩:=hm;rw[ho] at ho';cases ho';exact⟨_,es',ep',hL,r'⟩) hok hg
def Inv.turned{t':Nat}(I:Inv X pins σ H s)(k:∀b o,b≠it->s.heap.get? b=some o->h'.get? b=some o)(hn:H it=none)(hL:it≠X.env.locals)
  (h1:it∈X.ex\/X.s₀.heap.objs.size<=it) (h2:∀x c,X.env.cells.lookup x=some c->c≠it) (h3:∀p∈X.pn++pins,p.1≠it):Inv X pins σ H { s with heap:=h',toks:=t' }:=by
 have nit:∀b u,H b=some u->b≠it:=λb u e z=>by rw[z,hn] at e;cases e
 refine I.step (g':=s.gens) (d':=s.drawn) (ch:=[it]) (λb hb=>?_) (λb o _ _ hc e _=>k b o (λz=>hc (by simp[z])) e) (λb o _ _ hc e _=>⟨o.slots,k b o (λz=>hc (by simp[z])) e⟩) (λ_ _ _ _ n=>n)
  (λb o hc e=>⟨o,k b o (λz=>hc (by simp[z])) e⟩) (λ_ _ e=>e) (λ_ _ _ e=>e) (.kept (λb u z e=>k b u (λr=>by subst r;rcases z with ⟨q,z⟩;rw[hn] at z;cases z) e) λ_ _ e _=>e) (λm hm=>?_) (λb u e=>?_) I.bare
 ·have e:b=it:=by simpa using hb
  subst e;exact⟨h1,hL,h2,h3⟩
 ·let⟨o,es,ep,ho,r⟩:=hm;exact⟨o,es,ep,k _ o (jM hL) ho,r⟩
 ·refine (I.hok b u e).stay (λc v hc q=>k c v ?_ q) (λ_ q=>q) λ_ _ q _=>q;rcases hc with z|z
  ·rw[z];exact nit b u e
  ·exact nit c _ z
def Inv.tok(I:Inv X pins σ H s)(t:Nat):Inv X pins σ H { s with toks:=t }:=I.un (h':=s.heap) (t':=t) Un.refl I.hok
def Inv.kept{t':Nat}(I:Inv X pins σ H s)(k:∀b u,s.heap.get? b=some u->h'.get? b=some u):Inv X pins σ H { s with heap:=h',toks:=t' }:=I.un (Un.kept k) (I.hok.kept k)
def Inv.laid{t':Nat}(I:Inv X pins σ H s)(k:∀b u,s.heap.get? b=some u->h'.get? b=some u)(hp:s.heap.objs.size<=a)(new:di X.prog X.w (upd H a o) h' a o) :
  Inv X pins σ (upd H a o) { s with heap:=h',toks:=t' }:=I.un (Un.laid k hp (I.hok.fresh hp)) (I.hok.laid k hp new)
def Inv.write{t':Nat}(I:Inv X pins σ H s)(mu:MD (H x))(he:e=x\/H e=some (.own x))(k:∀b u,b≠e->s.heap.get? b=some u->h'.get? b=some u)(heo:∃u,h'.get? e=some u)
  (new:di X.prog X.w (upd H x o) h' x o):Inv X pins σ (upd H x o) { s with heap:=h',toks:=t' }:=I.un (Un.write mu he k heo) (I.hok.write mu he k heo new)
def Inv.pins_of(I:Inv X pins σ H s)(h:∀p∈pins',s.heap.get? p.1=some p.2/\H p.1=none/\p.1≠X.env.locals/\p.1∉X.fs/\∀v,p.2.data≠.cell v):Inv X pins' σ H s :=
 ⟨I.ok,I.os,I.bare,I.base,I.loc,I.cell,I.free,I.freeC,λp hp=>(List.mem_append.mp hp).elim (λz=>I.pin p (qJ _ z)) (h p),I.hok,I.len⟩
def u4{N:List Str}(hN:N.Nodup){i j:Nat}(a:N[i]?=some x)(b:N[j]?=some x):i=j:=by
 let⟨h1,e1⟩:=List.getElem?_eq_some_iff.mp a;let⟨h2,e2⟩:=List.getElem?_eq_some_iff.mp b;exact (List.getElem_inj hN).mp (e1.trans e2.symm)
def su{M:Model}{A:Around}{E:Value->Shared->Prop}{i:Nat}{Q:Unit->Shared->Prop}(I:Inv X pins σ H s)(hN:X.N.Nodup)(hi:X.N[i]?=some x)(hx:Loc X.env.scope x)(r:RelV v u)
  (h:∀s',Inv X pins (σ.set i (some v)) H s'->(∃a,Heap.SameBut a s.heap s'.heap/\(a=X.env.locals\/X.env.cells.lookup x=some a))->Q () s') (hf:X.fn x=true\/X.env.scope.names.lookup x=some .local:=by first|exact .inl rfl|exact .inr rfl|assumption):wpAny M A (storeName X.env x u) Q E s:=by
 let⟨m,hn,hl⟩:=id I.loc;have hcls:(X.env.scope.kind == .class||(X.env.scope.kind == .module&&X.env.locals != X.env.globals))=false:=by rw[I.ok.kind];rfl
 have hiσ:i < σ.length:=by rw[I.len];exact (List.getElem?_eq_some_iff.mp hi).1
 have cne:=I.cne;have tracked:∀ {a:Addr}{h':Heap},(∃o,s.heap.get? a=some o/\H a=none)->Heap.SameBut a s.heap h'->oM X.prog X.w H h':=λ{a h'} ha hs b ob e=>by
  let⟨_,_,hfree⟩:=ha;refine (I.hok b ob e).stay (λc w' hc q=>(hs.2 c ?_).trans q) (λ_ q=>q) λ_ _ q _=>q;rintro rfl;rcases hc with rfl|hc
  ·rw[hfree] at e;cases e
  ·rw[hfree] at hc;cases hc
 rcases hx with hk|hk
 ·refine wpAny_storeName_local hk hn (λh' hn' hs=>?_) hcls;let⟨oL,_,_,hoL,_⟩:=id hn;refine h _ ⟨I.ok,I.os,I.bare,⟨λb o e n hb hx=>?_,λb o e n hb hx=>?_,I.base.free,λb o e hx=>?_,I.base.tups,I.base.frzs,I.base.tbls.trans (.kept (λb u z e=>(hs.2 b (λr=>by rcases z with ⟨q,z⟩;rw[r,I.free] at z;cases z)).trans e) λ_ _ e _=>e)⟩,⟨_,hn',λj y v' e1 e2 e3=>?_⟩,λy c e=>?_,I.free,I.freeC,λp hp=>?_,tracked ⟨oL,hoL,I.free⟩ hs,by simpa using I.len⟩ ⟨_,hs,.inl rfl⟩
  ·exact (hs.2 b (yR (zP (zY e) I.ok.above))).trans (I.base.keep b o e n hb hx)
  ·let⟨sl,e1⟩:=I.base.slot b o e n hb hx;exact⟨sl,(hs.2 b (yR (zP (zY e) I.ok.above))).trans e1⟩
  ·let⟨o',e1⟩:=I.base.there b o e hx;exact⟨o',(hs.2 b (yR (zP (zY e) I.ok.above))).trans e1⟩
  ·by_cases hj:j=i
   ·subst hj;rw[hi] at e1;cases e1;rw[vN hiσ] at e2;cases e2;exact⟨u,r,.inl ⟨hk,by simp⟩⟩
   ·rw[kP (jM hj)] at e2;let⟨u',r',q⟩:=hl j y v' e1 e2 e3;refine⟨u',r',?_⟩;rcases q with ⟨k,e⟩|⟨k,c,e,z⟩
    ·refine .inl ⟨k,?_⟩;have:y≠x:=λe=>hj (u4 hN e1 (e ▸ hi));simp[this,e]
    ·exact .inr ⟨k,c,e,z.sameBut hs (cne y c e)⟩
  ·let⟨w',z⟩:=I.cell y c e;exact⟨w',z.sameBut hs (cne y c e)⟩
  ·let⟨e,n,ne,nf,d⟩:=I.pin p hp;exact⟨(hs.2 p.1 ne).trans e,n,ne,nf,d⟩
 ·have hfn:X.fn x=true:=by
   rcases hf with z|z
   ·exact z
   ·rw[z] at hk;cases hk
  let⟨c,hc⟩:=I.ok.has x (.inl hk);let⟨w',z⟩:=I.cell x c hc;refine wpAny_storeName_cell I.ok.kind hk hc z (λh' hc' hs=>?_);let⟨oc,hoc,hocd⟩:=id z;refine h { s with heap:=h' } ⟨I.ok,I.os,I.bare,⟨λb o e n hb hx=>?_,λb o e n hb hx=>?_,I.base.free,λb o e hx=>?_,I.base.tups,I.base.frzs,I.base.tbls.trans (.kept (λb u z e=>(hs.2 b (λr=>by rcases z with ⟨q,z⟩;rw[r,I.freeC x c hc] at z;cases z)).trans e) λ_ _ e _=>e)⟩,⟨m,hn.sameBut hs (jM (cne x c hc)),λj y v' e1 e2 e3=>?_⟩,λy c' e=>?_,I.free,I.freeC,λp hp=>?_,tracked ⟨oc,hoc,I.freeC x c hc⟩ hs,by simpa using I.len⟩ ⟨c,hs,.inr hc⟩
  ·exact (hs.2 b (yR (zP (zY e) (I.ok.cab x c hfn hc)))).trans (I.base.keep b o e n hb hx)
  ·let⟨sl,e1⟩:=I.base.slot b o e n hb hx;exact⟨sl,(hs.2 b (yR (zP (zY e) (I.ok.cab x c hfn hc)))).trans e1⟩
  ·let⟨o',e1⟩:=I.base.there b o e hx;exact⟨o',(hs.2 b (yR (zP (zY e) (I.ok.cab x c hfn hc)))).trans e1⟩
  ·by_cases hj:j=i
   ·subst hj;rw[hi] at e1;cases e1;rw[vN hiσ] at e2;cases e2;exact⟨u,r,.inr ⟨.inl hk,c,hc,hc'⟩⟩
   ·rw[kP (jM hj)] at e2;let⟨u',r',q⟩:=hl j y v' e1 e2 e3;refine⟨u',r',?_⟩;rcases q with q|⟨k,c',e,z'⟩
    ·exact .inl q
    ·refine .inr ⟨k,c',e,z'.sameBut hs ?_⟩;rintro rfl;exact hj (u4 hN e1 (I.ok.inj _ _ _ e hc ▸ hi))
  ·by_cases hcc:c'=c
   ·subst hcc;exact⟨_,hc'⟩
   ·let⟨w2,z2⟩:=I.cell y c' e;exact⟨w2,z2.sameBut hs hcc⟩
  ·let⟨e,n,ne,nf,d⟩:=I.pin p hp;refine⟨(hs.2 p.1 ?_).trans e,n,ne,nf,d⟩;intro q;rw[q,hoc] at e;have q':oc=p.2:=xD e;exact d w' (by rw[<- q'];exact hocd)
def w8{M:Model}{A:Around}{E:Value->Shared->Prop}(I:Inv X pins σ H s)(hN:X.N.Nodup)(hi:X.N[i]?=some x)(hx:Loc X.env.scope x)(r:RelV v u)
  (h:∀s',Inv X pins (σ.set i (some v)) H s'->Q () s') (hf:X.fn x=true\/X.env.scope.names.lookup x=some .local:=by first|exact .inl rfl|exact .inr rfl|assumption):wpAny M A (storeName X.env x u) Q E s :=
 su I hN hi hx r (λs' I' _=>h s' I') hf
def Inv.call'{ch:List Addr}(I:Inv X pins σ H s)(ho:s'.os=s.os)(u:Un (Eb X.stack) ch H H' s.heap s'.heap)(hok:oM X.prog X.w H' s'.heap)(hg:AllBare s'.gens)
  (hch:∀b∈ch,(b∈X.ex\/X.s₀.heap.objs.size<=b)/\b≠X.env.locals/\(∀x c,X.env.cells.lookup x=some c->c≠b)/\∀p∈X.pn++pins,p.1≠b):Inv X pins σ H' s':=by
 let⟨h',g',d',t',o'⟩:=s';have e:o'=s.os:=ho;subst e;exact I.call (g':=g') (t':=t') (d':=d') u hok hg hch
abbrev XK:=Value->Option Addr->Hp->Prop
abbrev St:=List (Option V)
abbrev VK:=V->Hp->Prop
abbrev TE:=St->Hp->VK->Prop
abbrev TT:=St->Hp->(Bool->Hp->Prop)->Prop
abbrev TA:=St->Hp->(List V->Hp->Prop)->Prop
structure Ends where
 nx:St->Hp->Prop
 rt:VK
 bk:St->Hp->Prop:=λ_ _=>False
 ct:St->Hp->Prop:=λ_ _=>False
abbrev TS:=Ends->St->Hp->Prop
def EP(X:Cx)(pins:List (Addr×Obj))(σ:St)(Q:VK)(u:Value)(s':Shared):Prop:=∃v H',Inv X pins σ H' s'/\RelV v u/\Q v H'
def TP(X:Cx)(pins:List (Addr×Obj))(σ:St)(Q:Bool->Hp->Prop)(b:Bool)(s':Shared):Prop:=∃H',Inv X pins σ H' s'/\Q b H'
def AP(X:Cx)(pins:List (Addr×Obj))(σ:St)(Q:List V->Hp->Prop)(us:List Value)(s':Shared):Prop:=∃vs H',Inv X pins σ H' s'/\aJ vs us/\Q vs H'
def SP(X:Cx)(pins:List (Addr×Obj))(D:Ends)(f:Flow)(s':Shared):Prop :=
 match f with
 | .next=>∃σ' H',Inv X pins σ' H' s'/\D.nx σ' H'
 | .brk=>∃σ' H',Inv X pins σ' H' s'/\D.bk σ' H'
 | .cont=>∃σ' H',Inv X pins σ' H' s'/\D.ct σ' H'
 | .ret u=>∃v σ' H',Inv X pins σ' H' s'/\RelV v u/\D.rt v H'
def PE(X:Cx)(e:Expr)(t:TE):Prop :=
 ∀ (pins:List (Addr×Obj)) (s:Shared) (σ:St) (H:Hp) (Q:VK),Inv X pins σ H s->t σ H Q->wpAny (model X.prog X.w) X.A (eval e X.env) (EP X pins σ Q) X.xe s
def PT(X:Cx)(e:Expr)(t:TT):Prop :=
 ∀ (pins:List (Addr×Obj)) (s:Shared) (σ:St) (H:Hp) (Q:Bool->Hp->Prop),Inv X pins σ H s->t σ H Q->wpAny (model X.prog X.w) X.A (isTrue e X.env (eval e X.env)) (TP X pins σ Q) X.xe s
def PW(X:Cx)(e:Expr)(t:TT):Prop :=
 ∀ (whole:Sem Value) (pins:List (Addr×Obj)) (s:Shared) (σ:St) (H:Hp) (Q:Bool->Hp->Prop),Inv X pins σ H s->t σ H Q->wpAny (model X.prog X.w) X.A (isTrue e X.env whole) (TP X pins σ Q) X.xe s
def PW.pt(h:PW X e t):PT X e t:=h _
def PA(X:Cx)(es:List Expr)(t:TA):Prop :=
 ∀ (pos:Pos) (pins:List (Addr×Obj)) (s:Shared) (σ:St) (H:Hp) (Q:List V->Hp->Prop),Inv X pins σ H s->t σ H Q->wpAny (model X.prog X.w) X.A (spliced (backTo pos (starEach es X.env))) (AP X pins σ Q) X.xe s
def PS(X:Cx)(st:Stmt)(t:TS):Prop :=
 ∀ (pins:List (Addr×Obj)) (s:Shared) (σ:St) (H:Hp) (D:Ends),Inv X pins σ H s->t D σ H->wpAny (model X.prog X.w) X.A (exec st X.env) (SP X pins D) X.xe s
def Av(X:Cx)(st:List Stmt)(t:TS):Prop :=
 ∀ (pins:List (Addr×Obj)) (s:Shared) (σ:St) (H:Hp) (D:Ends),Inv X pins σ H s->t D σ H->wpAny (model X.prog X.w) X.A (execs st X.env) (SP X pins D) X.xe s
def cx(h:wpAny M A t Q E s)(hQ:∀a s,Q a s->Q' a s):wpAny M A t Q' E s:=xA h hQ λ_ _ x=>x
section
def Ox(i:Nat):TE:=λσ H Q=>∃v,σ[i]?=some (some v)/\Q v H
def tC(v:V):TE:=λ_ H Q=>Q v H
def pH(hN:X.N[i]?=some x)(hv:Jb X.env.scope x)(hd:(x == ("__debug__":Str))=false:=by decide)(hcd:(x == ("__classdict__":Str))=false:=by decide):PE X (.Name x pos) (Ox i):=by
 intro pins s σ H Q I h;let⟨v,e,h⟩:=h;let⟨m,hn,hl⟩:=I.loc;let⟨u,r,l⟩:=hl i x v hN e hv;have fin:EP X pins σ Q u s:=⟨v,H,I,r,h⟩
 rcases l with ⟨hk,hm⟩|⟨hk,c,hc,hcell⟩
 ·exact wpAny_Name (wpAny_loadName_local I.ok.kind hk hn hm fin) hd
 ·rcases hk with hk|hk
  ·exact wpAny_Name (wpAny_loadName_cell I.ok.kind hk hc hcell fin) hd
  ·exact wpAny_Name (wpAny_loadName_free I.ok.kind hk hc hcell fin hcd) hd
def LF{i j pos}:PE X (.Constant (.int i) j pos) (tC (.int i)):=λ_ _ _ H _ I h=>wpAny_Constant_int ⟨.int i,H,I.tok _,⟨_,rfl⟩,h⟩
def MS{b j pos}:PE X (.Constant (.bool b) j pos) (tC (.bl b)):=λ_ _ _ H _ I h=>Constant_bool ⟨.bl b,H,I,rfl,h⟩
def K5{j pos}:PE X (.Constant .none j pos) (tC .non):=λ_ _ _ H _ I h=>Constant_none ⟨.non,H,I,rfl,h⟩
def KL{x j pos}:PE X (.Constant (.str x) j pos) (tC (.str x)):=λ_ _ _ H _ I h=>Calls.Constant_str ⟨.str x,H,I.tok _,⟨_,rfl⟩,h⟩
def Gl(X:Cx)(x:Str):Prop:=X.env.kindOf x=some .globalImplicit
def B6{E:Value->Shared->Prop}{pos:Pos}(I:Inv X pins σ H s)(hg:Gl X x)(hm:X.mg x=some u)(h:Q u s)
  (hd:(x == ("__debug__":Str))=false:=by decide):wpAny (model X.prog X.w) X.A (eval (.Name x pos) X.env) Q E s :=
 Calls.Name_function_global I.ok.kind hg (Calls.loadGlobal_global (by rw[I.ok.glob];exact I.mod.glob.keeps I.bk) hm h) hd
def iI{E:Value->Shared->Prop}{pos:Pos}(I:Inv X pins σ H s)(hg:Gl X x)(hm:X.mg x=none)(hv:bootBuiltins x=some u)(h:Q u s)
  (hn:x≠"__name__":=by decide) (hd:(x == ("__debug__":Str))=false:=by decide):wpAny (model X.prog X.w) X.A (eval (.Name x pos) X.env) Q E s:=by
 let⟨mb,h1,h2⟩:=I.mod.blt;exact Calls.Name_function_global I.ok.kind hg (Calls.loadGlobal_builtin (by rw[I.ok.glob];exact I.mod.glob.keeps I.bk) hm (by rw[I.ok.blt];exact h1.keeps I.bk) ((h2 x hn).trans hv) h) hd
def HU(hg:Gl X x)(hm:X.mg x=some u)(r:RelV v u)(hd:(x == ("__debug__":Str))=false:=by decide):PE X (.Name x pos) (tC v) :=
 λ_ _ _ H _ I h=>B6 I hg hm ⟨v,H,I,r,h⟩ hd
def Hv(hg:Gl X x)(hm:X.mg x=none)(hv:bootBuiltins x=some u)(r:RelV v u)(hn:x≠"__name__":=by decide)(hd:(x == ("__debug__":Str))=false:=by decide):PE X (.Name x pos) (tC v) :=
 λ_ _ _ H _ I h=>iI I hg hm hv ⟨v,H,I,r,h⟩ hn hd
def tB(t:TE):TT:=λσ H Q=>t σ H λx H1=>∃c,x=.bl c/\Q c H1
def Lm(h:PE X e t)(he:∀whole,isTrue e X.env whole=(do let v <- whole;standAt e.pos;holding [v] (truthy v)):=by intro _;rfl):PT X e (tB t):=by
 intro pins s σ H Q I hw;refine isTrue_plain (cx (h pins s σ H _ I hw) λv s1 ⟨x,H1,I1,r1,q1⟩=>?_) (he _);let⟨d,rfl,q⟩:=q1;cases r1;exact xW ⟨H1,I1,q⟩
variable {rest:List Expr}
def NH(t u:TT):TT:=λσ H Q=>t σ H λc H1=>if c=true then u σ H1 Q else Q false H1
def OY(t u:TT):TT:=λσ H Q=>t σ H λc H1=>if c=true then Q true H1 else u σ H1 Q
def Oy(t:TT):TT:=λσ H Q=>t σ H λc H1=>Q (!c) H1
def HN(ha:PT X a tA):PW X (.BoolOp .And [a] pos) tA:=by
 intro wh pins s σ H Q I h;refine isTrue_and (cx (ha pins s σ H Q I h) λc s1 e=>?_);cases c with
 | true=>exact isTrue_and_nil e
 | false=>exact e
def KF(ha:PT X a tA):PW X (.BoolOp .Or [a] pos) tA:=by
 intro wh pins s σ H Q I h;refine isTrue_or (cx (ha pins s σ H Q I h) λc s1 e=>?_);cases c with
 | false=>exact isTrue_or_nil e
 | true=>exact e
def KC(ha:PT X a tA)(hb:PW X (.BoolOp .And (b::rest) pos) tB'):PW X (.BoolOp .And (a::b::rest) pos) (NH tA tB'):=by
 intro wh pins s σ H Q I h;refine isTrue_and (cx (ha pins s σ H _ I h) λc s1 ⟨H1,I1,q1⟩=>?_);cases c with
 | true=>exact hb wh pins s1 σ H1 Q I1 q1
 | false=>exact⟨H1,I1,q1⟩
def MT(ha:PT X a tA)(hb:PW X (.BoolOp .Or (b::rest) pos) tB'):PW X (.BoolOp .Or (a::b::rest) pos) (OY tA tB'):=by
 intro wh pins s σ H Q I h;refine isTrue_or (cx (ha pins s σ H _ I h) λc s1 ⟨H1,I1,q1⟩=>?_);cases c with
 | true=>exact⟨H1,I1,q1⟩
 | false=>exact hb wh pins s1 σ H1 Q I1 q1
def Ka(ha:PT X a tA):PT X (.UnaryOp .Not a pos) (Oy tA):=by
 intro pins s σ H Q I h;exact isTrue_not (ha pins s σ H (λc H1=>Q (!c) H1) I h)
def Mt(ta tb:TE):TE:=λσ H Q=>ta σ H λx H1=>∃c,x=.bl c/\if c=true then tb σ H1 Q else Q (.bl false) H1
def Om(ta tb:TE):TE:=λσ H Q=>ta σ H λx H1=>∃c,x=.bl c/\if c=true then Q (.bl true) H1 else tb σ H1 Q
def Kp{op}(h:PE X a t):PE X (.BoolOp op [a] pos) t:=λpins s σ H Q I hw=>BoolOp_one (h pins s σ H Q I hw)
def JI(ha:PE X a ta)(hb:PE X (.BoolOp .And (b::rest) pos) tb):PE X (.BoolOp .And (a::b::rest) pos) (Mt ta tb):=by
 intro pins s σ H Q I h;refine BoolOp_and (cx (ha pins s σ H _ I h) λv s1 ⟨x,H1,I1,r1,q1⟩=>?_);let⟨c,rfl,q1⟩:=q1;cases r1;refine xW ?_;cases c with
 | true=>exact hb pins s1 σ H1 Q I1 q1
 | false=>exact⟨.bl false,H1,I1,rfl,q1⟩
def Fg(ha:PE X a ta)(hb:PE X (.BoolOp .Or (b::rest) pos) tb):PE X (.BoolOp .Or (a::b::rest) pos) (Om ta tb):=by
 intro pins s σ H Q I h;refine BoolOp_or (cx (ha pins s σ H _ I h) λv s1 ⟨x,H1,I1,r1,q1⟩=>?_);let⟨c,rfl,q1⟩:=q1;cases r1;refine xW ?_;cases c with
 | false=>exact hb pins s1 σ H1 Q I1 q1
 | true=>exact⟨.bl true,H1,I1,rfl,q1⟩
def Pd(t:TT)(ta tb:TE):TE:=λσ H Q=>t σ H λc H1=>if c=true then ta σ H1 Q else tb σ H1 Q
def EJ(hc:PT X c tA)(ha:PE X a ta)(hb:PE X b tb):PE X (.IfExp c a b pos) (Pd tA ta tb):=by
 intro pins s σ H Q I h;refine wpAny_IfExp (cx (hc pins s σ H _ I h) λd s1 ⟨H1,I1,q1⟩=>?_);cases d with
 | true=>exact ha pins s1 σ H1 Q I1 q1
 | false=>exact hb pins s1 σ H1 Q I1 q1
end
def gw(K:W.Frag)(H:Hp)(a:Addr)(xs:List V):Prop :=
 Rd H a (.lst xs) \/
  ∃ (o:Obj) (its:Array Value) (n:Nat),K.lookup a=some o/\o.cls=.type "list"/\o.dict=none/\o.data=.seq its n/\its.size<=sizeLine/\aJ xs its.toList
def iL(K:W.Frag)(H:Hp)(a:Addr)(xs:List V):Prop :=
 Rd H a (.tup xs) \/
  ∃ (o:Obj) (its:Array Value) (n:Nat),K.lookup a=some o/\o.cls=.type "tuple"/\o.dict=none/\o.data=.seq its n/\its.size<=sizeLine/\aJ xs its.toList
def OH:Value->Option V
 | .none=>some .non
 | .bool b=>some (.bl b)
 | .int i _=>some (.int i)
 | .str x _=>some (.str x)
 | .bytes b _=>some (.byt b)
 | .float b _=>some (.flt b)
 | .ref a=>some (.ref a)
 | .type n=>some (.ty n)
 | _=>none
def RelV.abs(r:RelV x u):OH u=some x:=by
 cases x with
 | non=>cases r;rfl
 | bl _=>cases r;rfl
 | int _=>let⟨t,rfl⟩:=r;rfl
 | str _=>let⟨t,rfl⟩:=r;rfl
 | byt _=>let⟨t,rfl⟩:=r;rfl
 | flt _=>let⟨t,rfl⟩:=r;rfl
 | ref _=>cases r;rfl
 | ty _=>cases r;rfl
def RelV.inj(r:RelV x u)(q:RelV y u):x=y:=xD (r.abs.symm.trans q.abs)
def aJ.inj:∀ {xs ys:List V}{us:List Value},aJ xs us->aJ ys us->xs=ys
 | _,_,_,.nil,.nil=>rfl
 | _,_,_,.cons r t,.cons r' t'=>by rw[r.inj r',aJ.inj t t']
def gw.of{K:W.Frag}(h:H a=some (.lst xs)):gw K H a xs:=.inl (.inl h)
def Inv.list(I:Inv X pins σ H s)(h:gw X.K H a xs):∃its:List Value,aJ xs its/\PlainL s.heap a its.toArray/\xs.length<=sizeLine:=by
 rcases h with h|⟨o,its,n,hk,hc,hd,hs,hz,r⟩
 ·let⟨z,its,n,r,e⟩:=h.ok I.hok;exact⟨its,r,⟨_,n,e,rfl,rfl,rfl⟩,z⟩
 ·refine⟨its.toList,r,⟨o,n,I.kIn a o hk,hc,hd,by simpa using hs⟩,?_⟩;have e:=r.length;simp?[wC] at e;lia
def Inv.tuple(I:Inv X pins σ H s)(h:iL X.K H a xs):∃its:List Value,aJ xs its/\IsTup s.heap a its.toArray/\xs.length<=sizeLine:=by
 rcases h with h|⟨o,its,n,hk,hc,_,hs,hz,r⟩
 ·let⟨z,its,r,p⟩:=h.ok I.hok;exact⟨its,r,p.1,z⟩
 ·refine⟨its.toList,r,⟨o,I.kIn a o hk,hc,n,by simpa using hs⟩,?_⟩;have e:=r.length;simp?[wC] at e;lia
def Inv.list_inj(I:Inv X pins σ H s)(h:gw X.K H a xs)(h':gw X.K H a ys):xs=ys:=by
 let⟨its,r,⟨o,n,e,_,_,d⟩,_⟩:=I.list h;let⟨its',r',⟨o',n',e',_,_,d'⟩,_⟩:=I.list h';rw[e] at e';cases e';rw[d] at d';injection d' with d1 _
 have:its=its':=by simpa using jC Array.toList d1
 subst this;exact r.inj r'
def Inv.tuple_inj(I:Inv X pins σ H s)(h:iL X.K H a xs)(h':iL X.K H a ys):xs=ys:=by
 let⟨its,r,⟨o,e,_,n,d⟩,_⟩:=I.tuple h;let⟨its',r',⟨o',e',_,n',d'⟩,_⟩:=I.tuple h';rw[e] at e';cases e';rw[d] at d';injection d' with d1 _
 have:its=its':=by simpa using jC Array.toList d1
 subst this;exact r.inj r'
abbrev Cx.wish(X:Cx)(E:Value->Shared->Prop):Cx:={ X with xe:=E }
abbrev Cx.nox(X:Cx):Cx:=X.wish λ_ _=>False
def Cx.Ok.wish{X:Cx}(ok:X.Ok)(E:Value->Shared->Prop):(X.wish E).Ok :=
 ⟨ok.mod,ok.kind,ok.glob,ok.blt,ok.above,ok.inj,ok.has,ok.cab,ok.hd,ok.frames,ok.stk,ok.exf,ok.bs,ok.bsz,ok.noex,ok.exfs,ok.funs,ok.frf⟩
def Cx.Ok.unwish{X:Cx}{E:Value->Shared->Prop}(ok:(X.wish E).Ok):X.Ok :=
 ⟨ok.mod,ok.kind,ok.glob,ok.blt,ok.above,ok.inj,ok.has,ok.cab,ok.hd,ok.frames,ok.stk,ok.exf,ok.bs,ok.bsz,ok.noex,ok.exfs,ok.funs,ok.frf⟩
def Inv.wish(I:Inv X pins σ H s)(E:Value->Shared->Prop):Inv (X.wish E) pins σ H s:=⟨I.ok.wish E,I.os,I.bare,I.base,I.loc,I.cell,I.free,I.freeC,I.pin,I.hok,I.len⟩
def Inv.unwish(I:Inv (X.wish E) pins σ H s):Inv X pins σ H s:=⟨I.ok.unwish,I.os,I.bare,I.base,I.loc,I.cell,I.free,I.freeC,I.pin,I.hok,I.len⟩
def SP.unwish{D:Ends}(h:SP (X.wish E) pins D f s'):SP X pins D f s':=by
 cases f with
 | next=>let⟨σ',H',I,q⟩:=h;exact⟨σ',H',I.unwish,q⟩
 | brk=>let⟨σ',H',I,q⟩:=h;exact⟨σ',H',I.unwish,q⟩
 | cont=>let⟨σ',H',I,q⟩:=h;exact⟨σ',H',I.unwish,q⟩
 | ret u=>let⟨v,σ',H',I,r,q⟩:=h;exact⟨v,σ',H',I.unwish,r,q⟩
def Av.nox{st:List Stmt}(h:Av X.nox st t):Av X st t:=λpins s σ H D I hw =>
 xA (h pins s σ H D (I.wish _) hw) (λ_ _ q=>q.unwish) λ_ _ z=>False.elim z
section
variable {st:Stmt}{rest:List Stmt}
def Ew:TS:=λD σ H=>D.nx σ H
def NT(t u:TS):TS:=λD σ H=>t { D with nx:=u D } σ H
def GO:Av X [] Ew:=λ_ _ σ H _ I h=>vO ⟨σ,H,I,h⟩
def Dx(h1:PS X st t)(h2:Av X rest u):Av X (st::rest) (NT t u):=by
 intro pins s σ H D I h;refine wpAny_execs_cons (cx (h1 pins s σ H { D with nx:=u D } I h) λf s1 q=>?_);cases f with
 | next =>
  let⟨σ',H',I',q⟩:=q;exact h2 pins s1 σ' H' D I' q
 | ret v=>exact q
 | brk=>exact q
 | cont=>exact q
def GN(h1:PS X st t):Av X [st] t:=by
 intro pins s σ H D I h;refine wpAny_execs_cons (cx (h1 pins s σ H D I h) λf s1 q=>?_);cases f with
 | next=>exact vO q
 | ret v=>exact q
 | brk=>exact q
 | cont=>exact q
def GT:PS X (.Pass pos) Ew:=λ_ _ σ H _ I h=>wpAny_Pass ⟨σ,H,I,h⟩
def Inv.quiet(I:Inv X pins σ H s):interactive X.env=false:=by simp[interactive,I.ok.kind]
def Lu{x j pos pos'}:PS X (.Expr (.Constant (.str x) j pos) pos') Ew:=λ_ s σ H _ I h=>wpAny_Expr (Calls.Constant_str (show SP X _ _ .next { s with toks:=s.toks+1 } from ⟨σ,H,I.tok _,h⟩)) I.quiet
def MO(te:TE):TS:=λD σ H=>te σ H λ_ H1=>D.nx σ H1
def oN(he:PE X e te)(hs:swapsWith e none pos.line X.env=pure false:=by rfl):PS X (.Expr e pos) (MO te):=by
 intro pins s σ H D I h;exact wpAny_Expr_any (cx (he pins s σ H _ I h) λv s1 ⟨x,H1,I1,r1,q1⟩=>⟨σ,H1,I1,q1⟩) I.quiet hs
def N8(te:TE):TS:=λD σ H=>te σ H D.rt
def Kc(he:PE X e te):PS X (.Return (some e) pos) (N8 te):=by
 intro pins s σ H D I h;exact wpAny_Return_some (cx (he pins s σ H _ I h) λv s1 ⟨x,H1,I1,r1,q1⟩=>⟨x,σ,H1,I1,r1,q1⟩)
def Oz(c:TT)(t u:TS):TS:=λD σ H=>c σ H λb H1=>if b=true then t D σ H1 else u D σ H1
def Na(hc:PT X c tc)(ha:Av X a t)(hb:Av X b u):PS X (.If c a b pos) (Oz tc t u):=by
 intro pins s σ H D I h;refine wpAny_If (cx (hc pins s σ H _ I h) λd s1 ⟨H1,I1,q1⟩=>?_);cases d with
 | true=>exact ha pins s1 σ H1 D I1 q1
 | false=>exact hb pins s1 σ H1 D I1 q1
end
abbrev TG:=V->St->Hp->(St->Hp->Prop)->Prop
abbrev L0:=List V->St->Hp->(St->Hp->Prop)->Prop
def PG(X:Cx)(target:Expr)(t:TG):Prop :=
 ∀ (pins:List (Addr×Obj)) (s:Shared) (σ:St) (H:Hp) (v:V) (u:Value) (Q:St->Hp->Prop),Inv X pins σ H s->RelV v u->t v σ H Q ->
  wpAny (model X.prog X.w) X.A (assign target X.env u) (λ_ s'=>∃σ' H',Inv X pins σ' H' s'/\Q σ' H') X.xe s
def Ms(X:Cx)(ts:List Expr)(t:L0):Prop :=
 ∀ (pins:List (Addr×Obj)) (s:Shared) (σ:St) (H:Hp) (vs:List V) (us:List Value) (Q:St->Hp->Prop),Inv X pins σ H s->aJ vs us->t vs σ H Q ->
  wpAny (model X.prog X.w) X.A (assignInOrder ((assignEach ts X.env).map (·.2)) us) (λ_ s'=>∃σ' H',Inv X pins σ' H' s'/\Q σ' H') X.xe s
abbrev M0:=V->V->V->Hp->(Hp->Prop)->Prop
def M3(X:Cx)(t:M0):Prop :=
 ∀ (pins:List (Addr×Obj)) (s:Shared) (σ:St) (H:Hp) (o i v:V) (ov iv u:Value) (Q:Hp->Prop),Inv X pins σ H s->RelV o ov->RelV i iv->RelV v u->t o i v H Q ->
  wpAny (model X.prog X.w) X.A (setItem ov iv u) (λ_ s'=>∃H',Inv X pins σ H' s'/\Q H') X.xe s
def uX(i:Nat):TG:=λv σ H Q=>Q (σ.set i (some v)) H
def c6(hN:X.N.Nodup)(hi:X.N[i]?=some x)(hx:Loc X.env.scope x)(hf:X.fn x=true\/X.env.scope.names.lookup x=some .local:=by first|exact .inl rfl|exact .inr rfl|assumption):PG X (.Name x pos) (uX i):=by
 intro pins s σ H v u Q I r h;exact wpAny_assign_Name (w8 I hN hi hx r (λs' I'=>⟨_,H,I',h⟩) hf)
def NY:L0:=λvs σ H Q=>vs=[]/\Q σ H
def MG(t:TG)(u:L0):L0:=λvs σ H Q=>∃v r,vs=v::r/\t v σ H λσ' H'=>u r σ' H' Q
def oS:Ms X [] NY:=by
 intro pins s σ H vs us Q I r h;let⟨e,h⟩:=h;subst e;cases r;exact assignInOrder_nil ⟨σ,H,I,h⟩
def cW(h1:PG X e t)(h2:Ms X es u)
  (hs:(assignEach (e::es) X.env).map (·.2)=assign e X.env::(assignEach es X.env).map (·.2):=by rfl):Ms X (e::es) (MG t u):=by
 intro pins s σ H vs us Q I r h;let⟨v,vr,e1,h⟩:=h;subst e1;cases r with
 | cons r rr =>
  rw[hs];refine assignInOrder_cons (cx (h1 pins s σ H _ _ _ I r h) λ_ s1 ⟨σ1,H1,I1,q1⟩=>?_);exact h2 pins s1 σ1 H1 _ _ Q I1 rr q1
def Oq(K:W.Frag)(n:Nat)(t:L0):TG:=λv σ H Q=>∃a xs,v=.ref a/\iL K H a xs/\xs.length=n/\t xs σ H Q
def uw{k:Nat}(hc:X.calm=true)(h:Ms X es t)
  (hn:(assignEach es X.env).length=n:=by rfl) (hst:(assignEach es X.env).findIdx? (·.1)=none:=by rfl):PG X (.Tuple es k pos) (Oq X.K n t):=by
 intro pins s σ H v u Q I r hw;let⟨a,xs,e1,hq,hl,hw⟩:=hw;subst e1;cases r;let⟨its,rv,ht,hz⟩:=I.tuple hq;refine assign_Tuple_tuple (I.ok.hd hc) ht (by simp[hn,<- hl,rv.length]) hst λh' hx=>?_;have I1:Inv X pins σ H { s with heap:=h' }:=I.kept (t':=s.toks) λb o e=>hx b o (yR (zY e)) e;exact h pins _ σ H xs _ Q I1 (by simpa using rv) hw
def g9(to ti:TE)(t:M0):TG:=λv σ H Q=>to σ H λo H1=>ti σ H1 λi H2=>t o i v H2 λH3=>Q σ H3
def JE(ho:PE X o to)(hi:PE X i ti)(hs:M3 X t)
  (ha:∀v,assign (.Subscript o i pos) X.env v=(do
   let ov <- holding [v] (eval o X.env)
   let iv <- holding [v,ov] (eval i X.env)
   standAt pos
   holding [v,ov,iv] (setItem ov iv v)
   release [v,ov,iv] []):=by intro _;rfl):PG X (.Subscript o i pos) (g9 to ti t):=by
 intro pins s σ H v u Q I r h;rw[ha];refine zV (xX (cx (ho pins s σ H _ I h) λov s1 ⟨x,H1,I1,r1,q1⟩=>?_));refine zV (xX (cx (hi pins s1 σ H1 _ I1 q1) λiv s2 ⟨y,H2,I2,r2,q2⟩=>?_));refine zV (vC (zV (xX (cx (hs pins s2 σ H2 x y v ov iv u _ I2 r1 r2 r q2) λ_ s3 ⟨H3,I3,q3⟩=>?_))));exact wpAny_release ⟨σ,H3,I3,q3⟩
def D5(te:TE)(g:TG):TS:=λD σ H=>te σ H λx H1=>g x σ H1 D.nx
def EI(he:PE X e te)(hg:PG X tg g)(hs:swapsWithSole [tg] e pos.line X.env=pure false:=by rfl)(hw:swappedStores [tg] e X.env=pure none:=by rfl)
  (h1:(assignEach [tg] X.env).map (·.2)=[assign tg X.env]:=by rfl):PS X (.Assign [tg] e pos) (D5 te g):=by
 intro pins s σ H D I h;refine wpAny_Assign_stores (cx (he pins s σ H _ I h) λv s1 ⟨x,H1,I1,r1,q1⟩=>?_) hs hw;rw[h1];exact cx (hg pins s1 σ H1 x v _ I1 r1 q1) λ_ s2 q=>q
def FV(hN:X.N.Nodup)(hi:X.N[i]?=some x)(hx:Loc X.env.scope x)(he:PE X e te)(hs:swapsWith e (some (.Name x pos')) pos.line X.env=pure false:=by rfl)(hf:X.fn x=true\/X.env.scope.names.lookup x=some .local:=by first|exact .inl rfl|exact .inr rfl|assumption) :
  PS X (.Assign [.Name x pos'] e pos) (D5 te (uX i)):=by
 intro pins s σ H D I h;refine wpAny_Assign_Name (cx (he pins s σ H _ I h) λv s1 ⟨y,H1,I1,r1,q1⟩=>?_) hs;exact w8 I1 hN hi hx r1 (λs2 I2=>⟨_,H1,I2,q1⟩) hf
def Kk(c:TT)(tb:TS):TS:=λD σ H=>∃W:Nat->St->Hp->Prop,(∃m,W m σ H)/\∀m σ H,W m σ H ->
 c σ H λb H1=>if b=true then ∃N:St->Hp->Prop,(∀σ' H',N σ' H'->∃m',m' < m/\W m' σ' H')/\tb { D with nx:=N,ct:=N,bk:=D.nx } σ H1 else D.nx σ H1
def FP(hp:PassesOwn (model X.prog X.w) X.A X.env X.xe)(hc:PT X c tc)(hb:Av X body tb):PS X (.While c body [] pos) (Kk tc tb):=by
 intro pins s σ H D I h;let⟨W,⟨m0,w0⟩,turn⟩:=h;refine wpAny_While (codeAny_whileLoop (λn s'=>∃σ' H',Inv X pins σ' H' s'/\W n σ' H') ?_ m0 ⟨σ,H,I,w0⟩);rintro n s1 ⟨σ1,H1,I1,w1⟩;refine jJ hp (cx (hc pins s1 σ1 H1 _ I1 (turn n σ1 H1 w1)) λb s2 ⟨H2,I2,q2⟩=>?_);cases b with
 | true =>
  let⟨N,hN,q2⟩:=q2;rw[yL rfl];refine jJ hp (cx (hb pins s2 σ1 H2 _ I2 q2) λf s3 q3=>?_);cases f with
  | next =>
   let⟨σ3,H3,I3,n3⟩:=q3;let⟨m',hm,w3⟩:=hN σ3 H3 n3;exact⟨m',hm,σ3,H3,I3,w3⟩
  | cont =>
   let⟨σ3,H3,I3,n3⟩:=q3;let⟨m',hm,w3⟩:=hN σ3 H3 n3;exact⟨m',hm,σ3,H3,I3,w3⟩
  | brk=>exact q3
  | ret v=>exact q3
 | false =>
  rw[yN yZ];exact vO ⟨σ1,H2,I2,q2⟩
structure It where
 go:Nat->Hp->Prop
 yld:Nat->Hp->V->Hp->Prop
 stop:Nat->Hp->Prop
def cA(X:Cx)(pins:List (Addr×Obj))(H:Hp)(b:Addr):Prop :=
 H b=none/\b≠X.env.locals/\b∉X.fs/\(b∈X.ex\/X.s₀.heap.objs.size<=b)/\(∀x c,X.env.cells.lookup x=some c->c≠b)/\∀p∈X.pn++pins,p.1≠b
def Inv.fpOk(I:Inv X pins σ H s)(hb:s.heap.objs.size<=b)(hn:H' b=none):cA X pins H' b:=by
 refine⟨hn,jI (zP I.lt hb),I.nofs hb,.inr (yD I.sz hb),λx c e z=>?_,λp hp z=>?_⟩
 ·let⟨v,q⟩:=I.cell x c e;exact absurd (zP q.lt (by rw[z];exact hb)) (qE _)
 ·exact absurd (zP (zY (I.pin p hp).1) (by rw[z];exact hb)) (qE _)
structure Turn(P:Program)(w:World)(K:W.Frag)(tg:Expr)(J:It)(fp:List Addr)(it:Addr)(tn:Nat->Heap->Prop):Prop where
 mem:it∈fp
 obj:∀i h,tn i h->∀b∈fp,∃o,h.get? b=some o/\∀v,o.data≠.cell v
 keep:∀i h h',tn i h->(∀b∈fp,∀o,h.get? b=some o->h'.get? b=some o)->tn i h'
 item:∀ (X:Cx),X.prog=P->X.w=w->X.K=K->X.calm=true->∀ (i:Nat) (pins:List (Addr×Obj)) (s:Shared) (σ:St) (H:Hp) (E:Value->Shared->Prop),Inv X pins σ H s->(∀b∈fp,cA X pins H b)->tn i s.heap->J.go i H ->
  wpAny (model P w) X.A (pyNext (.ref it)) (λr s1=>∃u,r=some u /\
   wpAny (model P w) X.A (letOwnedTupleGo tg (.ref it) u) (λ_ s2=>∃x H',Inv X pins σ H' s2/\RelV x u/\J.yld i H x H'/\tn (i+1) s2.heap/\∀b∈fp,H' b=none) E s1) E s
 done:∀ (X:Cx),X.prog=P->X.w=w->X.K=K->X.calm=true->∀ (i:Nat) (pins:List (Addr×Obj)) (s:Shared) (σ:St) (H:Hp) (E:Value->Shared->Prop),Inv X pins σ H s->(∀b∈fp,cA X pins H b)->tn i s.heap->J.stop i H ->
  wpAny (model P w) X.A (pyNext (.ref it)) (λr s1=>r=none/\Inv X pins σ H s1) E s
 self:∀ (A:Around) (i:Nat) (s:Shared) (Q:Value->Shared->Prop) (E:Value->Shared->Prop),tn i s.heap->Q (.ref it) s->wpAny (model P w) A (pyIter (.ref it)) Q E s
abbrev TI:=St->Hp->(It->Hp->Prop)->Prop
def OK(X:Cx)(pins:List (Addr×Obj))(σ:St)(tg:Expr)(R:It->Hp->Prop)(itv:Value)(s2:Shared):Prop :=
 ∃ (it:Addr) (fp:List Addr) (tn:Nat->Heap->Prop) (J:It) (H':Hp),itv=.ref it/\Inv X pins σ H' s2/\Turn X.prog X.w X.K tg J fp it tn/\tn 0 s2.heap/\(∀b∈fp,cA X pins H' b)/\R J H'
def PI(X:Cx)(tg iter:Expr)(wi:TI):Prop :=
 ∀ (pins:List (Addr×Obj)) (s:Shared) (σ:St) (H:Hp) (R:It->Hp->Prop),Inv X pins σ H s->wi σ H R ->
  wpAny (model X.prog X.w) X.A (eval iter X.env) (λv s1=>wpAny (model X.prog X.w) X.A (pyIter v) (OK X pins σ tg R) X.xe s1) X.xe s
def DJ(ho:s.heap.get? it=some o)(hc:o.cls=.type n)(hd:o.data=.fields vs)
  (hn:["enumerate","zip","dict_itemiterator","dict_reverseitemiterator","odict_iterator","itertools.zip_longest","itertools.pairwise"].contains n=false) (hQ:Q () s):wpAny M A (letOwnedTupleGo tg (.ref it) u) Q E s:=by
 unfold letOwnedTupleGo;cases tg<;>first
  | exact zW hQ
  | (cases u<;>first
    | exact zW hQ
    | (refine zV (wpAny_load ho ?_)
       rw[hc,hd];show wpAny M A (if (["enumerate","zip","dict_itemiterator","dict_reverseitemiterator","odict_iterator","itertools.zip_longest","itertools.pairwise"].contains n&&vs[0]? == some (rawInt _))=true then _ else _) Q E s;rw[yN (by intro h;rw[hn,vY] at h;cases h)];exact zW hQ))
def NQ(K:W.Frag)(a:Addr):It :=
 ⟨λi H=>∃xs x,gw K H a xs/\xs[i]?=some x,λi H x H'=>H'=H/\∀xs,gw K H a xs->xs[i]?=some x,λi H=>∃xs,gw K H a xs/\xs.length<=i⟩
def Oi(K:W.Frag)(a:Addr):It :=
 ⟨λi H=>∃xs x,iL K H a xs/\xs[i]?=some x,λi H x H'=>H'=H/\∀xs,iL K H a xs->xs[i]?=some x,λi H=>∃xs,iL K H a xs/\xs.length<=i⟩
def Nw(lo:Int)(n:Nat):It:=⟨λi _=>i < n,λi H x H'=>H'=H/\x=.int (lo+i),λi _=>n<=i⟩
def CM{K:W.Frag}(a it:Addr):Turn P w K tg (NQ K a) [it] it (λi h=>h.IsListIter it a i) where
 mem:=by simp
 obj:=λi h st b hb=>by
  have e:b=it:=by simpa using hb
  subst e;let⟨o,e,c,d⟩:=st;exact⟨o,e,λv z=>by rw[d] at z;cases z⟩
 keep:=λi h h' st k=>st.at λo e=>k it (by simp) o e
 item:=by
  intro X hP hw hK hc i pins s σ H E I hf st hg;subst hP hw hK;let⟨xs,x,hq,hx⟩:=hg;let⟨its,rv,p,hz⟩:=I.list hq;let⟨u,hu,ru⟩:=rv.get hx;let⟨f0,f1,f2,f3,f4,f5⟩:=hf it (by simp);refine wpAny_pyNext_list_item st p.isList (x:=u) (by simpa using hu) λh' st' sb=>?_;have I1:Inv X pins σ H { s with heap:=h' }:=I.turned (t':=s.toks) (λb o hb e=>(sb.2 b hb).trans e) f0 f1 f3 f4 f5;let⟨o,e,c,d⟩:=id st';exact⟨u,rfl,DJ (s:={ s with heap:=h' }) e c d (by decide) ⟨x,H,I1,ru,⟨rfl,λys hy=>by rw[I.list_inj hy hq];exact hx⟩,st',λb hb=>(hf b hb).1⟩⟩
 done:=by
  intro X hP hw hK hc i pins s σ H E I hf st hg;subst hP hw hK;let⟨xs,hq,hx⟩:=hg;let⟨its,rv,p,hz⟩:=I.list hq;let⟨f0,f1,f2,f3,f4,f5⟩:=hf it (by simp);have hl:=rv.length;exact wpAny_pyNext_list_end (I.ok.hd hc) st p.isList (by simp;lia) λh' eb=>⟨rfl,I.turned (t':=s.toks) (λb o hb e=>eb b o hb e) f0 f1 f3 f4 f5⟩
 self:=λ_ _ _ _ _ st h=>wpAny_pyIter_listiter st h
def Au{K:W.Frag}(a it:Addr):Turn P w K tg (Oi K a) [it] it (λi h=>h.IsTupleIter it a i) where
 mem:=by simp
 obj:=λi h st b hb=>by
  have e:b=it:=by simpa using hb
  subst e;let⟨o,e,c,d⟩:=st;exact⟨o,e,λv z=>by rw[d] at z;cases z⟩
 keep:=λi h h' st k=>st.at λo e=>k it (by simp) o e
 item:=by
  intro X hP hw hK hc i pins s σ H E I hf st hg;subst hP hw hK;let⟨xs,x,hq,hx⟩:=hg;let⟨its,rv,p,hz⟩:=I.tuple hq;let⟨u,hu,ru⟩:=rv.get hx;let⟨f0,f1,f2,f3,f4,f5⟩:=hf it (by simp);refine wpAny_pyNext_tuple_item st (show s.heap.IsTuple a its.toArray from p) (x:=u) (by simpa using hu) λh' st' sb=>?_;have I1:Inv X pins σ H { s with heap:=h' }:=I.turned (t':=s.toks) (λb o hb e=>(sb.2 b hb).trans e) f0 f1 f3 f4 f5;let⟨o,e,c,d⟩:=id st';exact⟨u,rfl,DJ (s:={ s with heap:=h' }) e c d (by decide) ⟨x,H,I1,ru,⟨rfl,λys hy=>by rw[I.tuple_inj hy hq];exact hx⟩,st',λb hb=>(hf b hb).1⟩⟩
 done:=by
  intro X hP hw hK hc i pins s σ H E I hf st hg;subst hP hw hK;let⟨xs,hq,hx⟩:=hg;let⟨its,rv,p,hz⟩:=I.tuple hq;let⟨f0,f1,f2,f3,f4,f5⟩:=hf it (by simp);have hl:=rv.length;exact wpAny_pyNext_tuple_end (I.ok.hd hc) st (show s.heap.IsTuple a its.toArray from p) (by simp;lia) λh' eb=>⟨rfl,I.turned (t':=s.toks) (λb o hb e=>eb b o hb e) f0 f1 f3 f4 f5⟩
 self:=λ_ _ _ _ _ st h=>wpAny_pyIter_tupleiter st h
def zq{K:W.Frag}(it:Addr)(lo:Int)(n:Nat):Turn P w K tg (Nw lo n) [it] it (λi h=>IsRangeIter h it (lo+(i:Nat) * 1) ((n:Int) - (i:Nat)) 1) where
 mem:=by simp
 obj:=λi h st b hb=>by
  have e:b=it:=by simpa using hb
  subst e;exact⟨_,st,λv z=>by
   have z':Data.fields _=Data.cell v:=z;cases z'⟩
 keep:=λi h h' st k=>k it (by simp) _ st
 item:=by
  intro X hP hw hK hc i pins s σ H E I hf st hg;subst hP hw hK;let⟨f0,f1,f2,f3,f4,f5⟩:=hf it (by simp);have W:=Walks.range (prog:=X.prog) (w:=X.w) (I.ok.hd hc) it lo 1 n;refine W.item i s _ _ hg st λv h' tk hv st' kk=>?_;let⟨t,rfl⟩:=hv;have I1:Inv X pins σ H { s with heap:=h',toks:=tk }:=I.turned (λb o hb e=>kk b o (by simpa using hb) e) f0 f1 f3 f4 f5;refine⟨_,rfl,DJ (s:={ s with heap:=h',toks:=tk }) (n:="range_iterator") st' rfl rfl (by decide) ⟨.int (lo+i),H,I1,⟨t,?_⟩,⟨rfl,rfl⟩,st',λb hb=>(hf b hb).1⟩⟩;rw[Int.mul_one]
 done:=by
  intro X hP hw hK hc i pins s σ H E I hf st hg;subst hP hw hK;let⟨f0,f1,f2,f3,f4,f5⟩:=hf it (by simp);exact wpAny_pyNext_range_end (I.ok.hd hc) st (by have:n<=i:=hg;lia) λh' eb=>⟨rfl,I.turned (t':=s.toks) (λb o hb e=>eb b o hb e) f0 f1 f3 f4 f5⟩
 self:=λ_ _ _ _ _ st h=>wpAny_pyIter_rangeiter st h
def Dy{lo:Int}{t u v:Tok}{tk:Nat}(I:Inv X pins σ H s)(h1:-(2 ^ 62)<=lo)(h2:lo < 2 ^ 62)(h3:-(2 ^ 62)<=hi)(h4:hi < 2 ^ 62)
  (q:R (Nw lo (hi - lo).toNat) H):wpAny (model X.prog X.w) X.A (pyIter (.ref s.heap.objs.size)) (OK X pins σ tg R) E { s with heap:=s.heap.push { cls:=.type "range",data:=.fields #[.int lo t,.int hi u,.int 1 v] },toks:=tk }:=by
 refine wpAny_pyIter_range (IsRange.new ..) (small_one h1 h2 h3 h4) ?_;have I1:Inv X pins σ H { s with heap:=s.heap.push { cls:=.type "range",data:=.fields #[.int lo t,.int hi u,.int 1 v] },toks:=tk }:=I.kept λb o e=>zU _ e;refine⟨(s.heap.push { cls:=.type "range",data:=.fields #[.int lo t,.int hi u,.int 1 v] }).objs.size,[(s.heap.push { cls:=.type "range",data:=.fields #[.int lo t,.int hi u,.int 1 v] }).objs.size],_,_,H,rfl,
  I1.kept (t':=tk) λb o e=>zU _ e,zq _ lo (hi - lo).toNat,?_,λb hb=>?_,q⟩
 ·have e1:lo+((0:Nat):Int) * 1=lo:=by simp
  have e2:(((hi - lo).toNat:Nat):Int) - ((0:Nat):Int)=Builtin.Range.rangeSize lo hi 1:=by rw[rangeSize_one];split<;>lia
  show IsRangeIter _ _ (lo+((0:Nat):Int) * 1) ((((hi - lo).toNat:Nat):Int) - ((0:Nat):Int)) 1;rw[e1,e2];exact zX _ rfl
 ·have e:b=(s.heap.push { cls:=.type "range",data:=.fields #[.int lo t,.int hi u,.int 1 v] }).objs.size:=by simpa using hb
  subst e;exact I1.fpOk (yM _) (I1.hok.fresh (yM _))
def Mg(ta:TA):TI:=λσ H R=>ta σ H λvs H1=>∃j:Int,vs=[.int j]/\-(2 ^ 62)<=j/\j < 2 ^ 62/\R (Nw 0 j.toNat) H1
def Dc(hg:Gl X "range")(hm:X.mg "range"=none)(ha:PA X [a] ta)(hs:starEach [a] X.env=[(false,eval a X.env)]:=by rfl):PI X tg (.Call (.Name "range" p) [a] [] pos) (Mg ta):=by
 intro pins s σ H R I h;refine Call_ (iI I hg hm boot_range (qS (cx (ha pos pins s σ H _ I h) λus s1 ⟨vs,H1,I1,r1,q1⟩=>?_) hs rfl));let⟨j,e,q1,q2,q⟩:=q1;subst e;cases r1 with
 | cons r rr =>
  cases rr;let⟨t,rfl⟩:=r;exact call_range_1 (Dy I1 (by lia) (by lia) q1 q2 (by simpa using q))
def Ou(wi:TI)(g:TG)(tb:TS):TS:=λD σ H=>wi σ H λJ H1=>∃W:Nat->Nat->St->Hp->Prop,(∃m,W 0 m σ H1)/\∀i m σ H,W i m σ H ->
 (J.stop i H/\D.nx σ H)\/(J.go i H/\∃N:St->Hp->Prop,(∀σ' H',N σ' H'->∃m',m' < m/\W (i+1) m' σ' H')/\∀x H',J.yld i H x H'->g x σ H' λσ2 H2=>tb { D with nx:=N,ct:=N,bk:=D.nx } σ2 H2)
def nL(fp:List Addr)(h:Heap):List (Addr×Obj):=fp.filterMap λb=>(h.get? b).map λo=>(b,o)
def dg(hb:b∈fp)(e:h.get? b=some o):(b,o)∈nL fp h:=List.mem_filterMap.mpr ⟨b,hb,by rw[e];rfl⟩
def CF(hp:p∈nL fp h):p.1∈fp/\h.get? p.1=some p.2:=by
 let⟨b,hb,e⟩:=List.mem_filterMap.mp hp;cases q:h.get? b with
 | none=>rw[q] at e;cases e
 | some o =>
  rw[q] at e;have e':(b,o)=p:=xD e;subst e';exact⟨hb,q⟩
def Inv.pinned(I:Inv X pins σ H s)(hf:∀b∈fp,cA X pins H b)(ho:∀b∈fp,∃o,s.heap.get? b=some o/\∀v,o.data≠.cell v):Inv X (pins++nL fp s.heap) σ H s :=
 I.pins_of λp hp=>(List.mem_append.mp hp).elim (λz=>I.pin p (yE _ z)) λz=>by
  let⟨hb,e⟩:=CF z;let⟨f0,f1,f2,_⟩:=hf p.1 hb;let⟨o,e',d⟩:=ho p.1 hb;rw[e] at e';cases e';exact⟨e,f0,f1,f2,d⟩
def Inv.unpinned(I:Inv X (pins++pl) σ H s):Inv X pins σ H s:=I.pins_of λp hp=>I.pin p (yE _ (qJ _ hp))
def KP{pos:Pos}(hp:PassesOwn (model X.prog X.w) X.A X.env X.xe)(hc:X.calm=true)(hi:PI X tg iter wi)(hg:PG X tg g)(hb:Av X body tb)
  (hs:∀x,foldedSetIterable iter X.env x=pure x:=by intro _;rfl):PS X (.For tg iter body [] pos) (Ou wi g tb):=by
 intro pins s σ H D I h;refine wpAny_For (cx (hi pins s σ H _ I h) λv s1 h1=>cx h1 λitv s2 h2=>?_) hs;let⟨it,fp,tn,J,H2,e,I2,T,st2,f2,W,⟨m0,w0⟩,turn⟩:=h2;subst e;have stat:∀ {H':Hp},(∀b∈fp,H' b=none)->∀b∈fp,cA X pins H' b:=λhn b hb=>⟨hn b hb,(f2 b hb).2⟩
 refine codeAny_forLoop_any (λn s'=>∃i σ' H',Inv X pins σ' H' s'/\tn i s'.heap/\(∀b∈fp,H' b=none)/\W i n σ' H') ?_ m0 ⟨0,σ,H2,I2,st2,λb hb=>(f2 b hb).1,w0⟩;rintro n s3 ⟨i,σ3,H3,I3,st3,fr3,w3⟩;rcases turn i n σ3 H3 w3 with ⟨stop,qn⟩|⟨go,N,hN,step⟩
 ·refine jJ hp (cx (T.done X rfl rfl rfl hc i pins s3 σ3 H3 X.xe I3 (stat fr3) st3 stop) λr s4 ⟨hr,I4⟩=>?_);subst hr;exact vO ⟨σ3,H3,I4,qn⟩
 ·refine jJ hp (cx (T.item X rfl rfl rfl hc i pins s3 σ3 H3 X.xe I3 (stat fr3) st3 go) λr s4 ⟨u,hr,h4⟩=>?_);subst hr;refine jJ hp (cx h4 λ_ s5 ⟨x,H5,I5,r5,y5,st5,fr5⟩=>?_);have I5':=I5.pinned (stat fr5) (T.obj _ _ st5);refine jJ hp (cx (hg _ s5 σ3 H5 x u _ I5' r5 (step x H5 y5)) λ_ s6 ⟨σ6,H6,I6,q6⟩=>?_);refine jJ hp (cx (hb _ s6 σ6 H6 _ I6 q6) λf s7 q7=>?_);have again:∀ {σ7:St}{H7:Hp},Inv X (pins++nL fp s5.heap) σ7 H7 s7->N σ7 H7->∃m,m < n/\∃i σ' H',Inv X pins σ' H' s7/\tn i s7.heap/\(∀b∈fp,H' b=none)/\W i m σ' H':=λ{σ7 H7} I7 n7=>by
   let⟨m',hm,w7⟩:=hN σ7 H7 n7;refine⟨m',hm,i+1,σ7,H7,I7.unpinned,T.keep _ _ _ st5 λb hb o e=>(I7.pin (b,o) (yE _ (yE _ (dg hb e)))).1,λb hb=>?_,w7⟩;let⟨o,e,d⟩:=T.obj _ _ st5 b hb;exact (I7.pin (b,o) (yE _ (yE _ (dg hb e)))).2.1
  cases f with
  | next=>let⟨σ7,H7,I7,n7⟩:=q7;exact again I7 n7
  | cont=>let⟨σ7,H7,I7,n7⟩:=q7;exact again I7 n7
  | brk=>let⟨σ7,H7,I7,q7⟩:=q7;exact⟨σ7,H7,I7.unpinned,q7⟩
  | ret v=>let⟨x7,σ7,H7,I7,r7,q7⟩:=q7;exact⟨x7,σ7,H7,I7.unpinned,r7,q7⟩
abbrev R2:=V->V->Hp->VK->Prop
def ie(X:Cx)(f:Value->Value->Sem Value)(r:R2):Prop :=
 ∀ (pins:List (Addr×Obj)) (s:Shared) (σ:St) (H:Hp) (x y:V) (v u:Value) (Q:VK),Inv X pins σ H s->RelV x v->RelV y u->r x y H Q ->
  wpAny (model X.prog X.w) X.A (f v u) (EP X pins σ Q) X.xe s
def OF(X:Cx)(f:Value->Sem Value)(r:V->Hp->VK->Prop):Prop :=
 ∀ (pins:List (Addr×Obj)) (s:Shared) (σ:St) (H:Hp) (x:V) (v:Value) (Q:VK),Inv X pins σ H s->RelV x v->r x H Q ->
  wpAny (model X.prog X.w) X.A (f v) (EP X pins σ Q) X.xe s
def dh(X:Cx)(f:Value)(r:List V->Hp->VK->Prop):Prop :=
 ∀ (pins:List (Addr×Obj)) (s:Shared) (σ:St) (H:Hp) (xs:List V) (us:List Value) (Q:VK),Inv X pins σ H s->aJ xs us->r xs H Q ->
  wpAny (model X.prog X.w) X.A (call f us) (EP X pins σ Q) X.xe s
def Mo(r:R2)(ta tb:TE):TE:=λσ H Q=>ta σ H λx H1=>tb σ H1 λy H2=>r x y H2 Q
def Pm(r:V->Hp->VK->Prop)(ta:TE):TE:=λσ H Q=>ta σ H λx H1=>r x H1 Q
def rI(C:Int->Int->Prop)(g:Int->Int->V):R2:=λx y H Q=>∃i j,x=.int i/\y=.int j/\C i j/\Q (g i j) H
def GE(g:Int->Int->V):R2:=λx y H Q=>∃i j,x=.int i/\y=.int j/\Q (g i j) H
def rU(g:Int->V):V->Hp->VK->Prop:=λx H Q=>∃i,x=.int i/\Q (g i) H
def Lw(ha:PE X a ta)(hb:PE X b tb){pins:List (Addr×Obj)}{σ:St}{R:V->V->Hp->Prop}(I:Inv X pins σ H s)
  (h:ta σ H λx H1=>tb σ H1 λy H2=>R x y H2) {Q:Value->Shared->Prop}{f:Value->Value->Sem Value}
  (hf:∀v u s2 x y H2,Inv X pins σ H2 s2->RelV x v->RelV y u->R x y H2->wpAny (model X.prog X.w) X.A (f v u) Q X.xe s2) :
  wpAny (model X.prog X.w) X.A (eval a X.env) (λv s₁=>wpAny (model X.prog X.w) X.A (eval b X.env) (λu s₂=>wpAny (model X.prog X.w) X.A (f v u) Q X.xe s₂) X.xe s₁) X.xe s:=by
 refine cx (ha pins s σ H _ I h) λv s1 ⟨x,H1,I1,r1,q1⟩=>?_;refine cx (hb pins s1 σ H1 _ I1 q1) λu s2 ⟨y,H2,I2,r2,q2⟩=>?_;exact hf v u s2 x y H2 I2 r1 r2 q2
def IX(ho:ie X (binaryOp op) r)(ha:PE X a ta)(hb:PE X b tb):PE X (.BinOp a op b pos) (Mo r ta tb):=by
 intro pins s σ H Q I h;exact wpAny_BinOp (Lw ha hb I h λv u s2 x y H2 I2 rx ry q=>ho pins s2 σ H2 x y v u Q I2 rx ry q)
def M6(ho:OF X (unaryOp op) r)(ha:PE X a ta):PE X (.UnaryOp op a pos) (Pm r ta):=by
 intro pins s σ H Q I h;exact UnaryOp_ (cx (ha pins s σ H _ I h) λv s1 ⟨x,H1,I1,r1,q1⟩=>ho pins s1 σ H1 x v Q I1 r1 q1)
def Oj{f:Value->Value->Sem Value}{C:Int->Int->Prop}{g:Int->Int->Int}
  (rule:∀ (i j:Int) (t u:Tok) (s:Shared) (Q:Value->Shared->Prop) (E:Value->Shared->Prop),C i j->Q (.int (g i j) s.toks) { s with toks:=s.toks+1 }->wpAny (model X.prog X.w) X.A (f (.int i t) (.int j u)) Q E s) :
  ie X f (rI C λi j=>.int (g i j)):=by
 intro pins s σ H x y v u Q I rx ry h;let⟨i,j,rfl,rfl,hc,q⟩:=h;let⟨t,rfl⟩:=rx;let⟨t',rfl⟩:=ry;exact rule i j t t' s _ _ hc ⟨.int (g i j),H,I.tok _,⟨_,rfl⟩,q⟩
def MI{f:Value->Value->Sem Value}{g:Int->Int->Int}
  (rule:∀ (i j:Int) (t u:Tok) (s:Shared) (Q:Value->Shared->Prop) (E:Value->Shared->Prop),Q (.int (g i j) s.toks) { s with toks:=s.toks+1 }->wpAny (model X.prog X.w) X.A (f (.int i t) (.int j u)) Q E s) :
  ie X f (GE λi j=>.int (g i j)):=by
 intro pins s σ H x y v u Q I rx ry h;let⟨i,j,rfl,rfl,q⟩:=h;let⟨t,rfl⟩:=rx;let⟨t',rfl⟩:=ry;exact rule i j t t' s _ _ ⟨.int (g i j),H,I.tok _,⟨_,rfl⟩,q⟩
def LQ{f:Value->Value->Sem Value}{g:Int->Int->Bool}
  (rule:∀ (i j:Int) (t u:Tok) (s:Shared) (Q:Value->Shared->Prop) (E:Value->Shared->Prop),Q (.bool (g i j)) s->wpAny (model X.prog X.w) X.A (f (.int i t) (.int j u)) Q E s) :
  ie X f (GE λi j=>.bl (g i j)):=by
 intro pins s σ H x y v u Q I rx ry h;let⟨i,j,rfl,rfl,q⟩:=h;let⟨t,rfl⟩:=rx;let⟨t',rfl⟩:=ry;exact rule i j t t' s _ _ ⟨.bl (g i j),H,I,rfl,q⟩
def GW(i j:Int):Prop:=0 < j/\j < 1073741824
def um(i j:Int):Prop:=(-(2 ^ 64) < i/\i < 2 ^ 64)\/(-(2 ^ 64) < j/\j < 2 ^ 64)
def um.ok(h:um i j):IntMulOk i j:=by
 rcases h with ⟨h1,h2⟩|⟨h1,h2⟩
 ·exact .of_left (intBits_le_64 h1 h2)
 ·exact .of_right (intBits_le_64 h1 h2)
def KO:ie X (binaryOp .Add) (GE λi j=>.int (i+j)):=MI λ_ _ _ _ _ _ _ q=>add_int q
def JS:ie X (binaryOp .Sub) (GE λi j=>.int (i - j)):=MI λ_ _ _ _ _ _ _ q=>sub_int q
def JL:ie X (binaryOp .Mult) (rI um λi j=>.int (i * j)):=Oj λ_ _ _ _ _ _ _ hc q=>mul_int q hc.ok
def IG:ie X (binaryOp .FloorDiv) (rI GW λi j=>.int (i / j)):=Oj λi j _ _ _ _ _ hc q=>by
 have h1:(0:Int) < j:=hc.1;have h2:j < 1073741824:=hc.2;exact floordiv_int (by lia) (by rw[Int.fdiv_eq_ediv_of_nonneg i (by lia)];exact q) (.inl (PyProof.noPylong_small (by lia)))
def J1:ie X (binaryOp .Mod) (rI (λ_ j=>0 < j) λi j=>.int (i % j)):=Oj λi j _ _ _ _ _ hc q=>by
 have h1:(0:Int) < j:=hc;exact mod_int' (by lia) (by rw[Int.fmod_eq_emod_of_nonneg i (by lia)];exact q)
def OW{f:Value->Sem Value}{g:Int->Int}
  (rule:∀ (i:Int) (t:Tok) (s:Shared) (Q:Value->Shared->Prop) (E:Value->Shared->Prop),Q (.int (g i) s.toks) { s with toks:=s.toks+1 }->wpAny (model X.prog X.w) X.A (f (.int i t)) Q E s) :
  OF X f (rU λi=>.int (g i)):=by
 intro pins s σ H x v Q I rx h;let⟨i,rfl,q⟩:=h;let⟨t,rfl⟩:=rx;exact rule i t s _ _ ⟨.int (g i),H,I.tok _,⟨_,rfl⟩,q⟩
def Ks:OF X (unaryOp .USub) (rU λi=>.int (-i)):=OW λ_ _ _ _ _ q=>neg_int q
def Ek(I:Inv X pins σ H s)(q:Q (.bl k) H)(e:k=k'):EP X pins σ Q (.bool k') s:=by
 subst e;exact⟨.bl k,H,I,rfl,q⟩
def FL:ie X (compareOp .Lt) (GE λi j=>.bl (decide (i < j))):=LQ λ_ _ _ _ _ _ _ q=>lt_int q
def Dr:ie X (compareOp .LtE) (GE λi j=>.bl (decide (i<=j))):=LQ λ_ _ _ _ _ _ _ q=>le_int q
def Ji:ie X (compareOp .Gt) (GE λi j=>.bl (decide (j < i))):=LQ λ_ _ _ _ _ _ _ q=>gt_int q
def Dp:ie X (compareOp .Is) (λx y H Q=>y=.non/\Q (.bl (decide (x=.non))) H):=by
 intro pins s σ H x y v u Q I rx ry h;let⟨rfl,q⟩:=h;cases ry;refine is_none_gen (Ek I q ?_);cases x<;>first
  | (cases rx;rfl)
  | (let⟨t,rfl⟩:=rx;rfl)
def Bb:ie X (compareOp .IsNot) (λx y H Q=>y=.non/\Q (.bl (!decide (x=.non))) H):=by
 intro pins s σ H x y v u Q I rx ry h;let⟨rfl,q⟩:=h;cases ry;refine isnot_none_gen (Ek I q ?_);cases x<;>first
  | (cases rx;rfl)
  | (let⟨t,rfl⟩:=rx;rfl)
def ie.or(h:ie X f r)(h':ie X f r'):ie X f (λx y H Q=>r x y H Q\/r' x y H Q):=by
 intro pins s σ H x y v u Q I rx ry q;rcases q with q|q
 ·exact h pins s σ H x y v u Q I rx ry q
 ·exact h' pins s σ H x y v u Q I rx ry q
def dE(b:Expr)(h:op≠.In:=by decide)(h2:op≠.NotIn:=by decide):behindInMarks op b=false:=by
 have e1:(op == CmpOp.In)=false:=by cases op<;>first|rfl|exact absurd rfl h
 have e2:(op == CmpOp.NotIn)=false:=by cases op<;>first|rfl|exact absurd rfl h2
 cases b<;>simp[behindInMarks,e1,e2]
def Ij(ho:ie X (compareOp op) r)(ha:PE X a ta)(hb:PE X b tb)(hm:behindInMarks op b=false):PE X (.Compare a [op] [b] pos) (Mo r ta tb):=by
 intro pins s σ H Q I h;exact wpAny_Compare1 (Lw ha hb I h λv u s2 x y H2 I2 rx ry q=>ho pins s2 σ H2 x y v u Q I2 rx ry q) hm
def Jk(t:TE):TT:=λσ H Q=>t σ H λx H'=>∃k,x=.bl k/\Q k H'
def Hj(ho:ie X (compareOp op) r)(ha:PE X a ta)(hb:PE X b tb)(hm:behindInMarks op b=false):PT X (.Compare a [op] [b] pos) (Jk (Mo r ta tb)):=by
 intro pins s σ H Q I h;refine wpAny_isTrue_Compare1 (cx (ha pins s σ H _ I h) λv s1 ⟨x,H1,I1,r1,q1⟩=>cx (hb pins s1 σ H1 _ I1 q1) λu s2 ⟨y,H2,I2,r2,q2⟩ =>
  cx (ho pins s2 σ H2 x y v u _ I2 r1 r2 q2) λc s3 ⟨z,H3,I3,r3,k,e,q3⟩=>?_) hm
 subst e;cases r3;exact xW ⟨H3,I3,q3⟩
def za(r r':R2)(ta tb tc:TE):TE:=λσ H Q=>ta σ H λx H1=>tb σ H1 λy H2=>r x y H2 λz H3=>∃k,z=.bl k /\
 (if k=true then tc σ H3 λw' H4=>r' y w' H4 Q else Q (.bl false) H3)
def Fe(ho:ie X (compareOp op) r)(ho':ie X (compareOp op') r')(ha:PE X a ta)(hb:PE X b tb)(hc:PE X c tc)
  (hm:lastMarks [op,op'] [b,c]=false:=by with_unfolding_all rfl):PE X (.Compare a [op,op'] [b,c] pos) (za r r' ta tb tc):=by
 intro pins s σ H Q I h;refine Compare_chain (cx (ha pins s σ H _ I h) λv s1 ⟨x,H1,I1,r1,q1⟩=>chain_link (cx (hb pins s1 σ H1 _ I1 q1) λu s2 ⟨y,H2,I2,r2,q2⟩ =>
  cx (ho pins s2 σ H2 x y v u _ I2 r1 r2 q2) λd s3 ⟨z,H3,I3,r3,k,e,q3⟩=>?_)) hm
 subst e;cases r3;refine xW ?_;cases k with
 | false=>exact ite_ff ⟨.bl false,H3,I3,rfl,q3⟩
 | true=>exact ite_tt (chain_last (cx (hc pins s3 σ H3 _ I3 q3) λw' s4 ⟨z',H4,I4,r4,q4⟩=>ho' pins s4 σ H4 y z' u w' Q I4 r2 r4 q4))
def Fu(ho:ie X (compareOp op) r)(ho':ie X (compareOp op') r')(ha:PE X a ta)(hb:PE X b tb)(hc:PE X c tc)
  (hm:lastMarks [op,op'] [b,c]=false:=by with_unfolding_all rfl):PT X (.Compare a [op,op'] [b,c] pos) (Jk (za r r' ta tb tc)):=by
 intro pins s σ H Q I h;refine isTrue_chain (cx (ha pins s σ H _ I h) λv s1 ⟨x,H1,I1,r1,q1⟩=>test_link (cx (hb pins s1 σ H1 _ I1 q1) λu s2 ⟨y,H2,I2,r2,q2⟩ =>
  cx (ho pins s2 σ H2 x y v u _ I2 r1 r2 q2) λd s3 ⟨z,H3,I3,r3,k,e,q3⟩=>?_)) hm
 subst e;cases r3;refine xW ?_;cases k with
 | false =>
  let⟨k',e',q'⟩:=q3;cases e';exact ite_ff ⟨H3,I3,q'⟩
 | true =>
  refine ite_tt (test_last (cx (hc pins s3 σ H3 _ I3 q3) λw' s4 ⟨z',H4,I4,r4,q4⟩=>cx (ho' pins s4 σ H4 y z' u w' _ I4 r2 r4 q4) λd' s5 ⟨z2,H5,I5,r5,k2,e2,q5⟩=>?_));subst e2;cases r5;exact xW ⟨H5,I5,q5⟩
def pJ:(sizeLine:Nat) < 2 ^ 63:=by rw[qU];decide
def vals1(r:aJ [x] us):∃u,us=[u]/\RelV x u:=by
 cases r with
 | cons r1 r2=>cases r2;exact⟨_,rfl,r1⟩
def vals2(r:aJ [x,y] us):∃u w',us=[u,w']/\RelV x u/\RelV y w':=by
 cases r with
 | cons r1 r2 =>
  cases r2 with
  | cons r3 r4=>cases r4;exact⟨_,_,rfl,r1,r3⟩
section
variable {K:W.Frag}
end
structure dP(k:Nat)(A:Around):Prop where
 hd:A.handled=none
 dp:A.depth+3 * k+5 < recursionLimit
 un:A.units+16 * k+200 < cLine
def dP.mono(r:dP k A)(h:j<=k):dP j A:=⟨r.hd,by have:=r.dp;lia,by have:=r.un;lia⟩
def dP.deeper(r:dP (k+1) A)(env:Env):dP k (A.deeper env) :=
 ⟨r.hd,by have:=r.dp;show A.depth+1+3 * k+5 < _;lia,by have:=r.un;show A.units+3+16 * k+200 < _;lia⟩
def dP.in1(r:dP (k+1) A):dP k A.in1 :=
 ⟨r.hd,by have:=r.dp;show A.depth+3 * k+5 < _;lia,by have:=r.un;show A.units+1+16 * k+200 < _;lia⟩
def dP.depth(r:dP k A):A.depth < recursionLimit:=by have:=r.dp;lia
def dP.units(r:dP k A):A.units+64 < cLine:=by have:=r.un;lia
def dP.units0(r:dP k A):A.units < cLine:=by have:=r.un;lia
def NX:TA:=λ_ H Q=>Q [] H
def MB(ta:TE)(tr:TA):TA:=λσ H Q=>ta σ H λx H1=>tr σ H1 λxs H2=>Q (x::xs) H2
def dQ:PA X [] NX:=λ_ _ _ _ H Q I h=>Calls.spliced_nil ⟨[],H,I,.nil,h⟩
def cm(ha:PE X e te)(hr:PA X es t)(hs:starEach (e::es) X.env=(false,eval e X.env)::starEach es X.env:=by rfl):PA X (e::es) (MB te t):=by
 intro pos pins s σ H Q I h;rw[hs];show wpAny _ _ (spliced ((false,eval e X.env)::backTo pos (starEach es X.env))) _ _ s;refine Calls.spliced_cons (cx (ha pins s σ H _ I h) λu s1 ⟨x,H1,I1,r1,q1⟩=>?_);exact cx (hr pos pins s1 σ H1 _ I1 q1) λus s2 ⟨xs,H2,I2,r2,q2⟩=>⟨x::xs,H2,I2,.cons r1 r2,q2⟩
def N9(t:TA):TE:=λσ H Q=>t σ H λxs H1=>xs.length<=sizeLine/\∀p,H1 p=none->Q (.ref p) (upd H1 p (.tup xs))
def NN(t:TA):TE:=λσ H Q=>t σ H λxs H1=>xs.length<=sizeLine/\∀p,H1 p=none->Q (.ref p) (upd H1 p (.lst xs))
def J9{x1}(h:PA X es t):PE X (.Tuple es x1 pos) (N9 t):=by
 intro pins s σ H Q I hq;refine wpAny_Tuple_spliced (cx (h pos pins s σ H _ I hq) λus s1 ⟨xs,H1,I1,r,z,q⟩=>⟨by rw[<- r.length];exact z,?_⟩);have hf:H1 s1.heap.objs.size=none:=I1.hok.fresh (yM _);refine⟨.ref s1.heap.objs.size,upd H1 s1.heap.objs.size (.tup xs),I1.laid (t':=s1.toks) (λb u e=>zU _ e) (yM _) ?_,rfl,q _ hf⟩;exact⟨z,us,r,⟨_,zX _ rfl,rfl,_,rfl⟩,_,zX _ rfl,rfl⟩
def LA(h:PA X es t):PE X (.List es pos) (NN t):=by
 intro pins s σ H Q I hq;refine wpAny_List_spliced (cx (h pos pins s σ H _ I hq) λus s1 ⟨xs,H1,I1,r,z,q⟩=>⟨by rw[<- r.length];exact z,?_⟩);have hf:H1 s1.heap.objs.size=none:=I1.hok.fresh (yM _);refine⟨.ref s1.heap.objs.size,upd H1 s1.heap.objs.size (.lst xs),I1.laid (t':=s1.toks) (λb u e=>zU _ e) (yM _) ?_,rfl,q _ hf⟩;exact⟨z,us,0,r,zX _ rfl⟩
abbrev Sp:=List V->Hp->VK->XK->Prop
abbrev Ja:=List Env->Hp->Shared->XK->Value->Shared->Prop
structure Hh(P:Program)(w:World)(K:W.Frag)(mg:Str->Option Value)(base:Heap)(A:Around)(outer:List Env)(s:Shared)(H:Hp):Prop where
 frames:A.frames=some outer
 mod:Mod K mg base
 bs:∀b o,base.get? b=some o->s.heap.get? b=some o/\H b=none
 bsz:base.objs.size<=s.heap.objs.size
 funs:s.heap.FunFrames base outer
 frf:∀b∈Eb outer,H b=none
 hok:oM P w H s.heap
 bare:AllBare s.gens
def CE(outer:List Env)(P:Program)(w:World)(H:Hp)(s:Shared)(Q:VK)(u:Value)(s':Shared):Prop :=
 ∃v H',s'.os=s.os/\AllBare s'.gens/\Un (Eb outer) [] H H' s.heap s'.heap/\oM P w H' s'.heap/\RelV v u/\Q v H'
def CR(CX:Ja)(outer:List Env)(P:Program)(w:World)(H:Hp)(s:Shared)(Q:VK)(E:XK)(r:Result)(s':Shared):Prop :=
 match r with
 | .ok (.ret u)=>CE outer P w H s Q u s'
 | .ok _=>False
 | .error e=>CX outer H s E e s'
structure pD(P:Program)(w:World)(K:W.Frag)(mg:Str->Option Value)(base:Heap)(CX:Ja)(k:Nat)(f:Addr)(fd:FuncData)(ps:List Str)(sp:Sp):Prop where
 len:∀vs H Q E,sp vs H Q E->vs.length=ps.length
 run:∀ (A:Around) (outer:List Env) (s:Shared) (H:Hp) (args:Args) (us:List Value) (vs:List V) (Q:VK) (E:XK),dP k A->Hh P w K mg base A outer s H->BindsTo s fd args (ps.zip us)->aJ vs us->sp vs H Q E ->
  codeAny (model P w) A (.call (.ref f) args) (CR CX outer P w H s Q E) s
def pD.mono{K:W.Frag}(F:pD P w K mg base CX j f fd ps sp)(h:j<=k) :
  pD P w K mg base CX k f fd ps sp:=⟨F.len,λA outer s H args us vs Q E hr=>F.run A outer s H args us vs Q E (hr.mono h)⟩
def Inv.env0(I:Inv X pins σ H s):Hh X.prog X.w X.K X.mg X.base X.A X.stack s H :=
 ⟨I.ok.frames,I.ok.mod,I.bs,yD I.ok.bsz I.sz,I.stack,I.stkFree,I.hok,I.bare⟩
def Inv.after(I:Inv X pins σ H s)(h:CE X.stack X.prog X.w H s Q u s'):EP X pins σ Q u s':=by
 let⟨v,H',os,bare,un,hok,r,q⟩:=h;let⟨hh,g,d,t,os'⟩:=s';obtain rfl:os'=s.os:=os;exact⟨v,H',I.call (h':=hh) (g':=g) (d':=d) (t':=t) (ch:=[]) un hok bare (λb z=>absurd z (by simp)),r,q⟩
def Mw(sp:Sp)(dvs:List V)(E:XK)(t:TA):TE:=λσ H Q=>t σ H λvs H1=>sp (vs++dvs) H1 Q E
def Binds(K:W.Frag)(fd:FuncData)(ps:List Str)(ds:List Value):Prop :=
 ∀ (s:Shared) (us:List Value),K.In s.heap->(us++ds).length=ps.length->BindsTo s fd ⟨us,[]⟩ (ps.zip (us++ds))
def Binds.all{K:W.Frag}(h:∀us:List Value,us.length=ps.length->bindArgs fd ⟨us,[]⟩=pure (ps.zip us)):Binds K fd ps []:=λs us _ hl=>by
 rw[qF] at hl ⊢;exact .of_eq (h us hl)
def Ab(CX:Ja)(X:Cx)(E:XK):Prop:=∀ (pins:List (Addr×Obj)) (σ:St) (H:Hp) (s:Shared) (e:Value) (s':Shared),Inv X pins σ H s->CX X.stack H s E e s'->X.xe e s'
def LP(F:pD X.prog X.w X.K X.mg X.base CX k f fd ps sp)(hr:dP k X.A)(hb:Binds X.K fd ps ds)(hd:aJ dvs ds)(hx:Ab CX X E)
  (I:Inv X pins σ H s) (r:aJ vs us) (h:sp (vs++dvs) H Q E):wpAny (model X.prog X.w) X.A (call (.ref f) us) (EP X pins σ Q) X.xe s:=by
 have r2:aJ (vs++dvs) (us++ds):=r.append hd;have hl:(us++ds).length=ps.length:=by rw[<- r2.length];exact F.len _ _ _ _ h
 refine wpAny_call (jR (F.run X.A X.stack s H ⟨us,[]⟩ (us++ds) (vs++dvs) Q E hr I.env0 (hb s us I.kIn hl) r2 h) λr s' hq=>?_);cases r with
 | error e=>exact hx pins σ H s e s' I hq
 | ok fl =>
  cases fl with
  | ret u=>exact I.after hq
  | next=>exact False.elim hq
  | brk=>exact False.elim hq
  | cont=>exact False.elim hq
def G6(F:pD X.prog X.w X.K X.mg X.base CX k f fd ps sp)(hr:dP k X.A)(hg:Gl X x)(hm:X.mg x=some (.ref f))(hk:W.keepIn X.K (.ref f)=true)(hb:Binds X.K fd ps ds)(hd:aJ dvs ds)(hx:Ab CX X E)
  (ha:PA X (e::es) t) (hdb:(x == ("__debug__":Str))=false:=by decide) (he:starEach (e::es) X.env=(false,eval e X.env)::starEach es X.env:=by rfl) (hpl:(backTo pos (starEach es X.env)).any (·.1)=false:=by rfl) :
  PE X (.Call (.Name x p) (e::es) [] pos) (Mw sp dvs E t):=by
 intro pins s σ H Q I h;refine qY (B6 I hg hm ?_ hdb);refine W.callWith_K (h₀:=X.base) I.ok.mod.kin hk (cx (ha pos pins s σ H _ I h) λus s1 ⟨vs,H1,I1,r,q⟩=>⟨I1.kIn,?_⟩) he hpl;exact LP F hr hb hd hx I1 r q
structure eh(N P:List Str)(sc:Scope):Prop where
 kind:sc.kind=.function
 co:sc.isCoroutine=false
 gen:sc.isGenerator=false
 nd:N.Nodup
 pre:N.take P.length=P
 par:∀x∈P,sc.names.lookup x=some .local \/ sc.names.lookup x=some .cell
 nofree:∀y∈sc.names,y.2≠.free
def si{kindOf:Str->Option NameKind}:∀ {binds:List (Str×Value)}{m:Str->Option Value},(∀v,(x,v)∉binds)->bindL kindOf binds m x=m x
 | [],_,_=>rfl
 | (n,v)::r,m,h=>by
  unfold bindL;rw[si λw hw=>h w (zC _ hw)];split
  ·have:x≠n:=by rintro rfl;exact h v zE
   simp[this]
  ·rfl
def sO{kindOf:Str->Option NameKind}:∀ {binds:List (Str×Value)}{m:Str->Option Value},(∀v,(x,v)∉binds)->bindC kindOf binds m x=m x
 | [],_,_=>rfl
 | (n,v)::r,m,h=>by
  unfold bindC;rw[sO λw hw=>h w (zC _ hw)];split
  ·rfl
  ·have:x≠n:=by rintro rfl;exact h v zE
   simp[this]
def rP{kindOf:Str->Option NameKind}:∀ {P:List Str}{vs:List Value}{i:Nat}{m:Str->Option Value},P.Nodup->P[i]?=some x->vs[i]?=some v->kindOf x=some .local ->
  bindL kindOf (P.zip vs) m x=some v
 | [],_,_,_,_,h,_,_=>by simp at h
 | _::_,[],_,_,_,_,h,_=>by simp at h
 | p::P,w::vs,0,m,nd,h1,h2,hk=>by
  simp at h1 h2;subst h1;subst h2;show bindL kindOf ((p,w)::P.zip vs) m p=_;unfold bindL;rw[si λv hv=>(List.nodup_cons.mp nd).1 (vR hv).1,yL hk];simp
 | p::P,w::vs,i+1,m,nd,h1,h2,hk=>by
  show bindL kindOf ((p,w)::P.zip vs) m x=_;unfold bindL;exact rP (i:=i) (List.nodup_cons.mp nd).2 (by simpa using h1) (by simpa using h2) hk
def sM{kindOf:Str->Option NameKind}:∀ {P:List Str}{vs:List Value}{i:Nat}{m:Str->Option Value},P.Nodup->P[i]?=some x->vs[i]?=some v->kindOf x≠some .local ->
  bindC kindOf (P.zip vs) m x=some v
 | [],_,_,_,_,h,_,_=>by simp at h
 | _::_,[],_,_,_,_,h,_=>by simp at h
 | p::P,w::vs,0,m,nd,h1,h2,hk=>by
  simp at h1 h2;subst h1;subst h2;show bindC kindOf ((p,w)::P.zip vs) m p=_;unfold bindC;rw[sO λv hv=>(List.nodup_cons.mp nd).1 (vR hv).1,yN hk];simp
 | p::P,w::vs,i+1,m,nd,h1,h2,hk=>by
  show bindC kindOf ((p,w)::P.zip vs) m x=_;unfold bindC;exact sM (i:=i) (List.nodup_cons.mp nd).2 (by simpa using h1) (by simpa using h2) hk
def start(N:List Str)(vs:List V):St:=vs.map some++List.replicate (N.length - vs.length) none
def CH(CX:Ja)(P:Program)(w:World)(K:W.Frag)(mg:Str->Option Value)(base:Heap)(N:List Str)(qual:Str)(scope:Scope)(f:Addr)(cd:Value)(A:Around)(outer:List Env)(s:Shared)(H:Hp)(E:XK):Cx where
 prog:=P
 w:=w
 K:=K
 mg:=mg
 base:=base
 A:=A.deeper (envOfC qual scope s.heap.objs.size f cd)
 N:=N
 s₀:=s
 H₀:=H
 env:=envOfC qual scope s.heap.objs.size f cd
 outer:=outer
 stack:=envOfC qual scope s.heap.objs.size f cd::outer
 ex:=[]
 calm:=true
 fn:=λ_=>true
 pn:=[]
 xe:=λe s'=>wpAny (model P w) (A.deeper (envOfC qual scope s.heap.objs.size f cd)) (leaving (envOfC qual scope s.heap.objs.size f cd) e) (λ_ s''=>CX outer H s E e s'') (λe' s''=>CX outer H s E e' s'') s'
def pb{sc:Scope}{n:Nat}(h:sc.names.lookup x=some .cell):∃c,(cellsFrom n sc.names []).lookup x=some c:=by
 have q:=W.cellsFrom_some sc.names n [] (.inl h);exact Option.isSome_iff_exists.mp q
def CI{CX:Ja}{K:W.Frag}{mg:Str->Option Value}{ps:List Str}{scope:Scope}{cd:Value}{A:Around}{outer:List Env}{s:Shared}{E:XK}{us:List Value}{vs:List V}
  (S:eh N ps scope) (hd:A.handled=none) (e0:Hh P w K mg base A outer s H) (hl:vs.length=ps.length) (r:aJ vs us)
  (x:InCallC s s.heap.objs.size (bindL (envOfC qual scope s.heap.objs.size f cd).kindOf (ps.zip us) λ_=>none) (cellsFrom (s.heap.objs.size+1) scope.names []) (bindC (envOfC qual scope s.heap.objs.size f cd).kindOf (ps.zip us) λ_=>none) s1) :
  Inv (CH CX P w K mg base N qual scope f cd A outer s H E) [] (start N vs) H s1:=by
 have hpl:ps.length<=N.length:=by have:=jC List.length S.pre;rw[jV] at this;lia
 let⟨h1,tk,rfl,hk⟩:=x.done;have noA:∀b:Addr,b∉(CH CX P w K mg base N qual scope f cd A outer s H E).ex:=λb z=>absurd (show b∈([]:List Addr) from z) (by simp);refine⟨⟨e0.mod,S.kind,rfl,rfl,yM _,λy z c h1 h2=>?_,λy hy=>?_,λy c _ h=>?_,λ_=>hd,Around.frames_deeper e0.frames,.inr ⟨rfl,rfl⟩,λb z=>absurd z (noA b),e0.bs,e0.bsz,λb _ _=>noA b,λb z=>absurd z (noA b),e0.funs,e0.frf⟩,
  rfl,e0.bare,Un.kept hk,⟨_,x.toInCall.ns,λi y v h1 h2 h3=>?_⟩,λy c h=>⟨_,x.cell y c h⟩,e0.hok.fresh (yM _),λy c h=>?_,λp hp=>absurd (show p∈([]:List (Addr×Obj)) from hp) (by simp),e0.hok.kept hk,?_⟩
 ·exact name_of_addr x.apart (jZ h1) (jZ h2)
 ·have hy:scope.names.lookup y=some .cell\/scope.names.lookup y=some .free:=hy;rcases hy with hy|hy
  ·exact pb hy
  ·exact absurd rfl (S.nofree _ (jZ hy))
 ·exact jS (x.above y c (jZ h))
 ·have hi:i < vs.length:=by
   unfold start at h2;by_cases hi:i < vs.length
   ·exact hi
   ·rw[yT (by simpa using hi)] at h2;rw[yX] at h2;split at h2<;>cases h2
  have ha:vs[i]?=some v:=by
   unfold start at h2;rw[yS (by simpa using hi),zO] at h2;cases e:vs[i]? with
   | none=>rw[e] at h2;cases h2
   | some a=>rw[e] at h2;cases h2;rfl
  let⟨u,hu,rv⟩:=r.get ha;have hp:ps[i]?=some y:=by
   rw[<- S.pre,List.getElem?_take_of_lt (by lia)];exact h1
  have ndP:ps.Nodup:=by rw[<- S.pre];exact S.nd.sublist (List.take_sublist _ _)
  refine⟨u,rv,?_⟩;rcases S.par y (qB hp) with k|k
  ·exact .inl ⟨k,rP ndP hp hu k⟩
  ·let⟨c,e⟩:=pb (n:=s.heap.objs.size+1) k;refine .inr ⟨.inl k,c,e,?_⟩;have q:=x.cell y c e;rw[sM ndP hp hu (by show scope.names.lookup y≠_;rw[k];decide)] at q;exact q
 ·exact e0.hok.fresh (jS (x.above y c (jZ h)))
 ·unfold start;show _=N.length;rw[zN,zD,xM];lia
def L5{K:W.Frag}{kV:Value}
  {osl:Array (Option Value)}{N ps:List Str}{sp:Sp}(lk:K.lookup f=some ⟨oc,od,.func (W.fnOf name qual params body scope dV kV doc pm an cdv ct),osl⟩) (hcd:W.codeIn K cdv qual=true) (S:eh N ps scope)
  (len:∀vs H Q E,sp vs H Q E->vs.length=ps.length)
  (hbody:∀ (A:Around) (outer:List Env) (s:Shared) (H:Hp) (vs:List V) (Q:VK) (E:XK),dP k (A.deeper (envOfC qual scope s.heap.objs.size f cdv))->sp vs H Q E ->
   ∃t,Av (CH CX P w K mg base N qual scope f cdv A outer s H E) body t/\t { nx:=λ_ H'=>Q .non H',rt:=Q } (start N vs) H) :
  pD P w K mg base CX (k+1) f (W.fnOf name qual params body scope dV kV doc pm an cdv ct) ps sp:=by
 refine⟨len,λA outer s H args us vs Q E hr e0 hb r hsp=>?_⟩;have hl:=len _ _ _ _ hsp;have KX:K.In s.heap:=e0.mod.kin.keeps λb o e=>(e0.bs b o e).1;have lim:s.heap.NoLimit:=e0.mod.nolimit.keeps λb o e=>(e0.bs b o e).1;have hkind:∀y∈ps.zip us,scope.names.lookup y.1=some .local \/ (scope.names.lookup y.1=some .cell/\((cellsFrom (s.heap.objs.size+1) scope.names []).lookup y.1).isSome=true):=λ⟨n,v⟩ hy=>by
  rcases S.par n (vR hy).1 with q|q
  ·exact .inl q
  ·exact .inr ⟨q,W.cellsFrom_some _ _ _ (.inl q)⟩
 refine codeAny_call_function hr.depth (KX _ _ lk) rfl S.co S.gen rfl (W.codeRec_of KX hcd) (hb _ _ _ _ ?_);refine wpAny_newFunctionEnv_cells S.kind hkind λenv he s1 x=>?_;subst he;refine⟨lim.keeps x.toInCall.keep,codeAny_func ?_⟩;let⟨t,ht,hq⟩:=hbody A outer s H vs Q E (hr.deeper _) hsp;have I:Inv (CH CX P w K mg base N qual scope f cdv A outer s H E) [] (start N vs) H s1:=CI S hr.hd e0 hl r x;refine xA (ht [] s1 (start N vs) H _ I hq) (λfl s' hs=>?_) λe s' hs=>hs;have fin:∀ {σ':St}{H':Hp}{v:V}{u:Value},Inv (CH CX P w K mg base N qual scope f cdv A outer s H E) [] σ' H' s'->RelV v u->Q v H'->CE outer P w H s Q u s' :=
  λ{σ' H' v u} J rv q=>⟨v,H',J.os,J.bare,J.base,J.hok,rv,q⟩
 cases fl with
 | ret u =>
  let⟨v,σ',H',J,rv,q⟩:=hs;exact fin J rv q
 | next =>
  let⟨σ',H',J,q⟩:=hs;exact fin (v:=V.non) (u:=Value.none) J rfl q
 | brk =>
  let⟨_,_,_,q⟩:=hs;exact False.elim q
 | cont =>
  let⟨_,_,_,q⟩:=hs;exact False.elim q
section
variable {id T:String}
def NC(r:List V->Hp->VK->Prop)(t:TA):TE:=λσ H Q=>t σ H λvs H1=>r vs H1 Q
def hU(hc:dh X (.builtin id) r)(hg:Gl X x)(hm:X.mg x=none)(hv:bootBuiltins x=some (.builtin id))(ha:PA X (e::es) t)(hn:x≠"__name__":=by decide)(hdb:(x == ("__debug__":Str))=false:=by decide)
  (he:starEach (e::es) X.env=(false,eval e X.env)::starEach es X.env:=by rfl) (hpl:(backTo pos (starEach es X.env)).any (·.1)=false:=by rfl):PE X (.Call (.Name x p) (e::es) [] pos) (NC r t):=by
 intro pins s σ H Q I h;refine qY (iI I hg hm hv ?_ hn hdb);exact PyProof.Rows.callWith_builtin1 (cx (ha pos pins s σ H _ I h) λus s1 ⟨vs,H1,I1,r1,q1⟩=>hc pins s1 σ H1 vs us Q I1 r1 q1) he hpl
def kf(hc:dh X (.type T) r)(hg:Gl X x)(hm:X.mg x=none)(hv:bootBuiltins x=some (.type T))(ha:PA X (e::es) t)(hn:x≠"__name__":=by decide)(hdb:(x == ("__debug__":Str))=false:=by decide)
  (he:starEach (e::es) X.env=(false,eval e X.env)::starEach es X.env:=by rfl) (hpl:(backTo pos (starEach es X.env)).any (·.1)=false:=by rfl):PE X (.Call (.Name x p) (e::es) [] pos) (NC r t):=by
 intro pins s σ H Q I h;refine qY (iI I hg hm hv ?_ hn hdb);exact qS (cx (ha pos pins s σ H _ I h) λus s1 ⟨vs,H1,I1,r1,q1⟩=>hc pins s1 σ H1 vs us Q I1 r1 q1) he hpl
end
end L2
namespace HT
open PySem PyProof.Rows
def lexLt:List Int->List Int->Bool
 | [],[]=>false
 | [],_::_=>true
 | _::_,[]=>false
 | x::xs,y::ys=>if x=y then lexLt xs ys else decide (x < y)
def da(x y:Int)(xs ys:List Int):lexLt (x::xs) (y::ys)=if x=y then lexLt xs ys else decide (x < y):=rfl
def qx:lexLt [] []=false:=rfl
def pS(y:Int)(ys:List Int):lexLt [] (y::ys)=true:=rfl
def qf(x:Int)(xs:List Int):lexLt (x::xs) []=false:=rfl
def EW(A:Around)(s:Shared)(a:Int)(t:Tok)(c:Int)(u:Tok):∃e,SeqAt.EqAt A s (.int a t) (.int c u) e/\(e=true↔a=c) :=
 ⟨(a == c),SeqAt.EqAt.int_int a t c u,by simp⟩
def Dq(A:Around)(s:Shared)(a:Int)(t:Tok)(c:Int)(u:Tok)(prog:Program)(w:World)(E:Value->Shared->Prop)(Q:Value->Shared->Prop)(h:Q (.bool (decide (a < c))) s) :
  wpAny (model prog w) A (richCompare .Lt (.int a t) (.int c u)) Q E s :=
 (PyProof.Rows.lt_int h:wpAny (model prog w) A (compareOp .Lt (.int a t) (.int c u)) Q E s)
section
open PySem.SeqAt
open PySem.AutoSeq1 (wpAny_loadPart')
open PySem.MeetsSeq PySem.MeetsSeq2 PySem.MeetsSeq3
def rD(l b:Addr)(items items2:Array Value)(n n2:Nat)(dd dd2:Option Addr)(sl sl2:Array (Option Value))(ns ms:List Int)(hi:IntsAre items.toList ns)(hj:IntsAre items2.toList ms) :
  Meets (Builtin.«tuple.__lt__» ⟨[.ref l,.ref b],[]⟩)
   (λ_ R s=>s.heap.get? l=some { cls:=.type "tuple",dict:=dd,data:=.seq items n,slots:=sl }/\s.heap.get? b=some { cls:=.type "tuple",dict:=dd2,data:=.seq items2 n2,slots:=sl2 } /\
    R (.ok (.ret (.bool (lexLt ns ms)))) s) :=
 .of_wp λprog w A R s h=>by
  let⟨hp,g,d,tk,os⟩:=s;let⟨hl,hb,h⟩:=h;have f2:=AutoSeq1.sub_tuple_tuple;have z1:items.size=ns.length:=by rw[<- hi.length];simp
  have z2:items2.size=ms.length:=by rw[<- hj.length];simp
  wp_walk using wpAny_loadPart' hl,wpAny_loadPart' hb,wpAny_forIn_list _ (λrest b s'=>b.1=none/\s'=⟨hp,g,d,tk,os⟩/\∃ (vs ws:List Value) (ns' ms':List Int),rest=vs.zip ws /\
   IntsAre vs ns'/\IntsAre ws ms'/\ns'.length+items2.size=ms'.length+items.size/\R (.ok (.ret (.bool (lexLt ns' ms')))) ⟨hp,g,d,tk,os⟩) _
  case turn =>
   rintro⟨y,x⟩ rest b s' ⟨hb',rfl,vs,ws,ns',ms',hz,hvi,hwi,hlen,hR⟩;cases hvi with
   | nil=>rw[List.zip_nil_left] at hz;cases hz
   | cons a t hvi' =>
    cases hwi with
    | nil=>rw[List.zip_nil_right] at hz;cases hz
    | cons c u hwi' =>
     rw[List.zip_cons_cons] at hz;injection hz with hyx hrest
     injection hyx with hy hx
     subst hy hx;rw[da] at hR;simp?[zL] at hlen;let⟨e,he,hiff⟩:=EW A.in1 ⟨hp,g,d,tk,os⟩ a t c u;refine zV (he prog w _ _ ?_);cases e with
     | true =>
      rw[yL (hiff.mp rfl)] at hR
      wp_walk
      exact⟨rfl,rfl,_,_,_,_,hrest,hvi',hwi',by lia,hR⟩
     | false =>
      rw[yN (λq=>absurd (hiff.mpr q) yZ)] at hR;have hri:=Dq A.in1 ⟨hp,g,d,tk,os⟩ a t c u prog w
      wp_walk using hri
      exact⟨_,rfl,by simpa using hR⟩
  case fin =>
   rintro⟨b1,b2⟩ s' ⟨hb',rfl,vs,ws,ns',ms',hz,hvi,hwi,hlen,hR⟩;simp only at hb';subst hb';have hv:lexLt ns' ms'=decide (items.size < items2.size):=by
    cases hvi with
    | nil =>
     cases hwi with
     | nil =>
      simp?[xK] at hlen;rw[qx];exact (zZ (by lia)).symm
     | cons c u hw =>
      simp?[xK,zL] at hlen;rw[pS];exact (yA (by lia)).symm
    | cons a t hv =>
     cases hwi with
     | nil =>
      simp?[xK,zL] at hlen;rw[qf];exact (zZ (by lia)).symm
     | cons c u hw =>
      rw[List.zip_cons_cons] at hz;cases hz
   rw[hv] at hR
   wp_walk
   exact⟨_,rfl,by simpa [Builtin.Tuple.tupleCompareSizes] using hR⟩
  case h =>
   exact⟨rfl,rfl,items.toList,items2.toList,ns,ms,rfl,hi,hj,by lia,h⟩
end
def Ap{items:Array Value}(hl:IsTup s.heap l items)(hb:IsTup s.heap b items2)(hi:IntsAre items.toList ns)(hj:IntsAre items2.toList ms)
  (hu:A.units < cLine) (h:Q (.bool (lexLt ns ms)) s):wpAny (model prog w) A (compareOp .Lt (.ref l) (.ref b)) Q E s:=by
 let⟨⟨cls,dd,data,sl⟩,ho,hc,n,hd⟩:=id hl;let⟨⟨cls2,dd2,data2,sl2⟩,ho2,hc2,n2,hd2⟩:=id hb;simp only at hc hd hc2 hd2;subst hc hd hc2 hd2;exact richCompare_meets_room (op:=.Lt) ⟨_,ho,rfl⟩ ⟨_,ho2,rfl⟩ PySem.F.slot_tuple_lt PySem.F.entry_tuple_lt (PySem.F.args_tuple_lt_2 _ _) (rD l b items items2 n n2 dd dd2 sl sl2 ns ms hi hj)
  ⟨ho,ho2,show Value.bool (lexLt ns ms)≠Value.notImplemented/\Q (.bool (lexLt ns ms)) s from ⟨(λx=>nomatch x),h⟩⟩ hu
def HM(ht:IsTup s.heap t vs.toArray)(hb:IsTup s.heap b ws.toArray)(hv:vs≠[])
  (h1:ws=[]->Q (.ref t) s) (h2:ws≠[]->Q (.ref s.heap.objs.size) { s with heap:=s.heap.push { cls:=.type "tuple",data:=.seq (vs++ws).toArray } })
  (hsz:vs.length+ws.length<=sizeLine):wpAny (model prog w) A (binaryOp .Add (.ref t) (.ref b)) Q E s:=by
 let⟨⟨cls,dd,data,sl⟩,ho,hc,n,hd⟩:=id ht;let⟨⟨cls2,dd2,data2,sl2⟩,ho2,hc2,n2,hd2⟩:=id hb;simp only at hc hd hc2 hd2;subst hc hd hc2 hd2;have e:vs.toArray++ws.toArray=(vs++ws).toArray:=by simp
 by_cases hw:ws=[]
 ·exact wL ⟨_,ho,rfl⟩ ⟨_,ho2,rfl⟩ noFill_tuple_add seq_tuple_add vL vG (vE _ _)
   (tuple_addW1 t b vs.toArray ws.toArray n n2 dd dd2 sl sl2 (by simpa using hv) (by simp[hw])) ⟨ho,ho2,h1 hw⟩
 ·refine wL ⟨_,ho,rfl⟩ ⟨_,ho2,rfl⟩ noFill_tuple_add seq_tuple_add vL vG (vE _ _)
   (tuple_addW2 t b vs.toArray ws.toArray n n2 dd dd2 sl sl2 (by simpa using hv) (by simpa using hw) (by rw[zH,zH];exact hsz)) ⟨ho,ho2,?_⟩
  rw[e];exact h2 hw
def dk(n d:Nat):Option Int->Nat
 | none=>d
 | some v=>if v < 0 then (v+(n:Int)).toNat else min v.toNat n
def vp(n d:Nat):dk n d none=d:=rfl
def Bi(n d k:Nat):dk n d (some (k:Int))=min k n:=by
 show (if (k:Int) < 0 then ((k:Int)+(n:Int)).toNat else min (k:Int).toNat n)=min k n;rw[yN (by lia),yG]
def KB(n d:Nat)(hd:d<=n)(o:Option Int):dk n d o<=n:=by
 cases o with
 | none=>exact hd
 | some v =>
  show (if v < 0 then (v+(n:Int)).toNat else min v.toNat n)<=n;by_cases hv:v < 0
  ·rw[yL hv];lia
  ·rw[yN hv];exact Nat.min_le_right _ _
def AR(v:Int)(n d:Nat):(if v < 0 then max (v+(n:Int)) 0 else min v (n:Int))=((dk n d (some v):Nat):Int):=by
 show (if v < 0 then max (v+(n:Int)) 0 else min v (n:Int))=(((if v < 0 then (v+(n:Int)).toNat else min v.toNat n):Nat):Int)
 by_cases hv:v < 0
 ·simp?[yL hv];lia
 ·simp?[yN hv];lia
def zl(lo hi:Option Int)(n:Nat):Builtin.Slice.sliceAdjust lo hi 1 (n:Int)=(((dk n 0 lo:Nat):Int),((dk n n hi:Nat):Int)):=by
 have h1:¬ ((1:Int) < 0):=by lia
 unfold Builtin.Slice.sliceAdjust;simp?[h1,qP];refine Prod.ext ?_ ?_
 ·cases lo with
  | none=>rfl
  | some v=>exact AR v n 0
 ·cases hi with
  | none=>rfl
  | some v=>exact AR v n n
def Ak(i j:Nat):Builtin.Slice.slicePlaces (i:Int) (j:Int) 1=j - i:=by
 unfold Builtin.Slice.slicePlaces;have h1:(1:Int) > 0:=by lia
 simp?[h1,xH,Int.ediv_one];split<;>lia
def qk(p:IsPart v o)(h:Q o s):wpAny (model prog w) A (Builtin.Slice.slicePartIndex v) Q E s:=by
 cases p with
 | none=>exact slicePart_none h
 | int i t=>exact slicePart_int h
def g8{vl:Value}{lo hi:Option Int}{n:Nat}{Q:Int×Int×Nat->Shared->Prop}(hs:s.heap.IsSliceOf sl vl vu .none)(pl:IsPart vl lo)(pu:IsPart vu hi)
  (h:Q (((dk n 0 lo:Nat):Int),1,dk n n hi - dk n 0 lo) s):wpAny (model prog w) A (Builtin.Slice.sliceApplied (.ref sl) (pure (n:Int))) Q E s:=by
 let⟨os,hos,hcs,hds⟩:=id hs;unfold Builtin.Slice.sliceApplied Builtin.Slice.sliceFields;refine zV (zV (qT hos hds (x:=vl) rfl (zV (qT hos hds (x:=vu) rfl (zV (qT hos hds (x:=.none) rfl (zW ?_)))))));refine zV (slicePart_none ?_);show wpAny _ _ (if ((1:Int) == 0)=true then _ else _) _ _ s;rw[yN (by decide)];refine zV (qk pl (zV (qk pu (zV (zW ?_)))));show wpAny _ _ (match Builtin.Slice.sliceAdjust lo hi 1 (n:Int) with|(lo,hi)=>pure (lo,(1:Int),Builtin.Slice.slicePlaces lo hi 1)) _ _ s;rw[zl lo hi n];show wpAny _ _ (pure (((dk n 0 lo:Nat):Int),(1:Int),Builtin.Slice.slicePlaces ((dk n 0 lo:Nat):Int) ((dk n n hi:Nat):Int) 1)) _ _ s;rw[Ak];exact zW h
def E9(xs:Array Value)(i k:Nat):((List.range k).filterMap λ(m:Nat)=>xs[((i:Int)+(m:Int) * 1).toNat]?).toArray=((xs.toList.drop i).take k).toArray:=by
 have e:(λ(m:Nat)=>xs[((i:Int)+(m:Int) * 1).toNat]?)=λm=>xs[i+m]?:=by
  funext m;have:((i:Int)+(m:Int) * 1).toNat=i+m:=by lia
  rw[this]
 rw[e];have:=pick_run xs i k;rw[List.filterMap_map] at this;have e2:((λx=>xs[x]?) ∘ λx=>i+x)=λm=>xs[i+m]?:=rfl;rw[e2] at this;rw[this]
def mz{items:Array Value}{vl:Value}{lo:Option Int}(ht:IsTup s.heap t items)(hs:s.heap.IsSliceOf sl vl vu .none)(pl:IsPart vl lo)(pu:IsPart vu hi)
  (hw:¬ (dk items.size 0 lo=0/\dk items.size items.size hi=items.size))
  (h:Q (.ref s.heap.objs.size) { s with heap:=s.heap.push { cls:=.type "tuple",data:=.seq ((items.toList.drop (dk items.size 0 lo)).take (dk items.size items.size hi - dk items.size 0 lo)).toArray } })
  (hsz:items.size<=sizeLine):wpAny (model prog w) A (getItem (.ref t) (.ref sl)) Q E s:=by
 have htake:sizeOk (.seq ((items.toList.drop (dk items.size 0 lo)).take (dk items.size items.size hi - dk items.size 0 lo)).toArray):=by
  show ((items.toList.drop (dk items.size 0 lo)).take (dk items.size items.size hi - dk items.size 0 lo)).toArray.size<=sizeLine;rw[zH,jV,qH,wC];lia
 have hj:dk items.size items.size hi<=items.size:=KB _ _ (yM _) hi;let⟨os,hos,hcs,hds⟩:=id hs;have hTs:s.TypeIs (.ref sl) "slice":=⟨os,hos,hcs⟩
 unfold getItem
 try with_reducible refine xX ?_
 first|refine zV (zW ?_)|skip
 refine zV (wpAny_sequenceKey ht.typeIs (by decide) ?_);refine zV (qC (name:=Str.ofString "__getitem__") ht.typeIs jF
  (qV jF ht.typeIs entry_tuple_getitem ?_ (args_tuple_getitem _ _)))
 show wpAny _ _ (Builtin.Tuple.tupleItemsOf (.ref t) >>= _) _ _ s;refine zV (tupleItemsOf_ ht ?_);refine zV (wJ hTs ?_);rw[yL (by decide)];refine zV (g8 hs pl pu ?_);have hno:¬ ((((dk items.size 0 lo:Nat):Int) == 0&&(1:Int) == 1&&(dk items.size items.size hi - dk items.size 0 lo) == items.size)=true):=by
  intro q;rw[zF,zF] at q;have q1:((dk items.size 0 lo:Nat):Int)=0:=eq_of_beq q.1.1;have q2:dk items.size items.size hi - dk items.size 0 lo=items.size:=eq_of_beq q.2;exact hw ⟨by lia,by lia⟩
 show wpAny _ _ (if (((dk items.size 0 lo:Nat):Int) == 0&&(1:Int) == 1&&(dk items.size items.size hi - dk items.size 0 lo) == items.size)=true then _ else _) _ _ s;rw[yN hno,E9]
 first
  | exact zV (m:=Builtin.Tuple.tupleExact _) (qL (zW ⟨_,rfl,zW h⟩) htake)
  | exact zV (m:=Builtin.Tuple.tupleExact _) (qL (zV (zW (zW ⟨_,rfl,zW h⟩))) htake)
  | exact zV (zV (m:=Builtin.Tuple.tupleExact _) (qL (zW (zW ⟨_,rfl,zW h⟩)) htake))
  | exact zV (zV (m:=Builtin.Tuple.tupleExact _) (qL (zW ⟨_,rfl,zW h⟩) htake))
end HT
namespace L2
open PySem PySem.Spec PyProof.Rows
abbrev TO:=St->Hp->(Option Int->Hp->Prop)->Prop
def PO(X:Cx)(e:Option Expr)(t:TO):Prop :=
 ∀ (pins:List (Addr×Obj)) (s:Shared) (σ:St) (H:Hp) (Q:Option Int->Hp->Prop),Inv X pins σ H s->t σ H Q ->
  wpAny (model X.prog X.w) X.A (evalPart e X.env) (λu s'=>∃o H',Inv X pins σ H' s'/\IsPart u o/\Q o H') X.xe s
def Iv:TO:=λ_ H Q=>Q none H
def My(t:TE):TO:=λσ H Q=>t σ H λx H1=>∃i,x=.int i/\Q (some i) H1
def intsAre_of:∀ {us:List Value},aJ (ns.map V.int) us->IntsAre us ns:=by
 induction ns with
 | nil=>intro us r;rw[yU] at r;cases r;exact .nil
 | cons n ns ih =>
  intro us r;rw[zI] at r;cases r with
  | cons r1 r2 =>
   let⟨t,e⟩:=r1;subst e;exact .cons n t (ih r2)
section
variable {lo hi:Option Expr}
def Hr:PO X none Iv:=by
 intro pins s σ H Q I h;rw[evalPart_none];exact zW ⟨none,H,I,.none,h⟩
def HK(h:PE X e te):PO X (some e) (My te):=by
 intro pins s σ H Q I hw;rw[evalPart_some];refine cx (h pins s σ H _ I hw) λu s1 ⟨x,H1,I1,r1,q1⟩=>?_;let⟨i,rfl,q⟩:=q1;let⟨t,rfl⟩:=r1;exact⟨some i,H1,I1,.int i t,q⟩
def Jj(X:Cx)(r:V->Option Int->Option Int->Hp->VK->Prop):Prop :=
 ∀ (pins:List (Addr×Obj)) (s:Shared) (σ:St) (H:Hp) (x:V) (v vl vu:Value) (lo hi:Option Int) (sl:Addr) (Q:VK),Inv X pins σ H s->RelV x v->s.heap.IsSliceOf sl vl vu .none->IsPart vl lo->IsPart vu hi->r x lo hi H Q ->
  ∃T id,typeLookup (.type T) "__getitem__"=pure (some (.builtin id))/\s.TypeIs v T/\wpAny (model X.prog X.w) X.A (getItem v (.ref sl)) (EP X pins σ Q) X.xe s
def Jj.or(h:Jj X r)(h':Jj X r'):Jj X (λx lo hi H Q=>r x lo hi H Q\/r' x lo hi H Q):=by
 intro pins s σ H x v vl vu lo hi sl Q I rx hs pl pu q;rcases q with q|q
 ·exact h pins s σ H x v vl vu lo hi sl Q I rx hs pl pu q
 ·exact h' pins s σ H x v vl vu lo hi sl Q I rx hs pl pu q
def Pj(r:V->Option Int->Option Int->Hp->VK->Prop)(te:TE)(tl th:TO):TE:=λσ H Q=>te σ H λx H1=>tl σ H1 λl H2=>th σ H2 λu H3=>r x l u H3 Q
def EY(hr:Jj X r)(he:PE X e te)(hl:PO X lo tl)(hu:PO X hi th):PE X (.Subscript e (.Slice lo hi none p2) pos) (Pj r te tl th):=by
 intro pins s σ H Q I h;refine Subscript_ (cx (he pins s σ H _ I h) λv s1 ⟨x,H1,I1,r1,q1⟩=>?_);refine wpAny_Slice (cx (hl pins s1 σ H1 _ I1 q1) λvl s2 ⟨l,H2,I2,pl,q2⟩=>cx (hu pins s2 σ H2 _ I2 q2) λvu s3 ⟨u,H3,I3,pu,q3⟩=>?_);rw[evalPart_none];refine zW ?_;have I4:Inv X pins σ H3 { s3 with heap:=s3.heap.push { cls:=.type "slice",data:=.fields #[vl,vu,.none] } }:=I3.kept (t':=s3.toks) λb ob q=>zU _ q;let⟨T,id,hT,ht,hg⟩:=hr pins { s3 with heap:=s3.heap.push { cls:=.type "slice",data:=.fields #[vl,vu,.none] } } σ H3 x v vl vu l u s3.heap.objs.size Q I4 r1 (Heap.IsSliceOf.new ..) pl pu q3;show wpAny (model X.prog X.w) X.A (subscriptTail e (.Slice lo hi none p2) v (.ref s3.heap.objs.size)) (EP X pins σ Q) X.xe { s3 with heap:=s3.heap.push { cls:=.type "slice",data:=.fields #[vl,vu,.none] } };exact tail_any (ops:=[.ref s3.heap.objs.size,v]) ht hT hg (by with_unfolding_all rfl)
def GQ(xs:List V)(lo hi:Option Int):List V:=(xs.drop (HT.dk xs.length 0 lo)).take (HT.dk xs.length xs.length hi - HT.dk xs.length 0 lo)
def u5(xs:List V)(lo hi:Option Int):(GQ xs lo hi).length<=xs.length:=by
 unfold GQ;rw[jV,qH];lia
def Oo(K:W.Frag):V->Option Int->Option Int->Hp->VK->Prop:=λx lo hi H Q=>∃a xs,x=.ref a/\iL K H a xs /\
 ¬ (HT.dk xs.length 0 lo=0/\HT.dk xs.length xs.length hi=xs.length)/\∀p,H p=none->Q (.ref p) (upd H p (.tup (GQ xs lo hi)))
def Kv:Jj X (Oo X.K):=by
 intro pins s σ H x v vl vu lo hi sl Q I rx hs pl pu h;let⟨a,xs,rfl,hx,hw,q⟩:=h;cases rx;let⟨its,r,ht,hz⟩:=I.tuple hx;have hlen:its.toArray.size=xs.length:=by rw[zH];exact r.length.symm
 refine⟨"tuple",_,PyProof.Rows.slot_tuple_getitem.lookup,ht.typeIs,?_⟩;refine HT.mz ht hs pl pu (by rw[hlen];exact hw) ?_ (by rw[hlen];exact hz);rw[hlen];refine⟨.ref s.heap.objs.size,_,I.laid (t':=s.toks) (o:=.tup (GQ xs lo hi)) (λb ob q=>zU _ q) (yM _) ?_,rfl,q _ (I.hok.fresh (yM _))⟩;exact⟨yD (u5 xs lo hi) hz,_,(r.drop (HT.dk xs.length 0 lo)).take (HT.dk xs.length xs.length hi - HT.dk xs.length 0 lo),o4.new _ _⟩
def Mz(K:W.Frag):R2:=λx y H Q=>∃a b xs ys,x=.ref a/\y=.ref b/\iL K H a xs/\iL K H b ys/\xs≠[]/\xs.length+ys.length<=sizeLine /\
 (ys=[]->Q (.ref a) H)/\(ys≠[]->∀p,H p=none->Q (.ref p) (upd H p (.tup (xs++ys))))
def aJ.nil_iff(r:aJ xs us):us=[]↔xs=[]:=by
 cases r with
 | nil=>simp
 | cons _ _=>simp
def Hg:ie X (binaryOp .Add) (Mz X.K):=by
 intro pins s σ H x y v u Q I rx ry h;let⟨a,b,xs,ys,rfl,rfl,ha,hb,hx,hz,q1,q2⟩:=h;cases rx;cases ry;let⟨its,r1,p1,_⟩:=I.tuple ha;let⟨its2,r2,p2,_⟩:=I.tuple hb;refine HT.HM p1 p2 (λz=>hx (r1.nil_iff.mp z)) (λz=>⟨.ref a,H,I,rfl,q1 (r2.nil_iff.mp z)⟩) (λz=>?_) (by rw[<- r1.length,<- r2.length];exact hz);refine⟨.ref s.heap.objs.size,_,I.laid (t':=s.toks) (o:=.tup (xs++ys)) (λb ob q=>zU _ q) (yM _) ?_,rfl,q2 (λw=>z (r2.nil_iff.mpr w)) _ (I.hok.fresh (yM _))⟩;exact⟨by rw[zN];exact hz,_,r1.append r2,o4.new _ _⟩
end
def Gm(n:Nat)(i:Int):Option Nat:=if 0<=i then (if i < n then some i.toNat else none) else if -(n:Int)<=i then some (i+n).toNat else none
def tG(xs:List α)(i:Int):Option α:=(Gm xs.length i).bind λj=>xs[j]?
def A5(h:Gm n i=some j):seqIndex? i n=some j/\j < n/\-(n:Int)<=i/\i < n:=by
 unfold Gm at h;by_cases h0:0<=i
 ·rw[yL h0] at h;by_cases h1:i < n
  ·rw[yL h1] at h;have e:i.toNat=j:=xD h;exact⟨by rw[seqIndex_of h0 h1,e],by lia,by lia,h1⟩
  ·rw[yN h1] at h;cases h
 ·rw[yN h0] at h;by_cases h1:-(n:Int)<=i
  ·rw[yL h1] at h;have e:(i+n).toNat=j:=xD h;exact⟨by rw[seqIndex_neg (by lia) h1,e],by lia,h1,by lia⟩
  ·rw[yN h1] at h;cases h
def tj(h:tG xs i=some v):∃j,seqIndex? i xs.length=some j/\xs[j]?=some v/\j < xs.length/\-(xs.length:Int)<=i/\i < xs.length:=by
 unfold tG at h;cases e:Gm xs.length i with
 | none=>rw[e] at h;cases h
 | some j =>
  rw[e] at h;let⟨h1,h2,h3,h4⟩:=A5 e;exact⟨j,h1,h,h2,h3,h4⟩
def uy{α:Type}{xs:List α}{j:Nat}{v:α}(h:xs[j]?=some v):tG xs (j:Int)=some v:=by
 have hj:j < xs.length:=(List.getElem?_eq_some_iff.mp h).1;have e:Gm xs.length (j:Int)=some j:=by
  unfold Gm;rw[yL (by lia),yL (by lia)];simp
 unfold tG;rw[e];exact h
def ui(b:Expr):Prop:=∀o i,subscripted b false o i=operate [o,i] (getItem o i)
def Gq(X:Cx)(r:R2):Prop :=
 ∀ (value slice:Expr) (pins:List (Addr×Obj)) (s:Shared) (σ:St) (H:Hp) (x y:V) (v u:Value) (Q:VK),Inv X pins σ H s->RelV x v->RelV y u->r x y H Q ->
  subscripted slice false v u=operate [v,u] (getItem v u)->wpAny (model X.prog X.w) X.A (subscriptTail value slice v u) (EP X pins σ Q) X.xe s
def OU(X:Cx)(id:String)(r:V->List V->Hp->VK->Prop):Prop :=
 ∀ (pins:List (Addr×Obj)) (s:Shared) (σ:St) (H:Hp) (x:V) (xs:List V) (v:Value) (us:List Value) (Q:VK),Inv X pins σ H s->RelV x v->aJ xs us->r x xs H Q ->
  wpAny (model X.prog X.w) X.A (call (.builtin id) (v::us)) (EP X pins σ Q) X.xe s
section
def Gq.or(h:Gq X r)(h':Gq X r'):Gq X (λx y H Q=>r x y H Q\/r' x y H Q):=by
 intro value slice pins s σ H x y v u Q I rx ry q hs;rcases q with q|q
 ·exact h value slice pins s σ H x y v u Q I rx ry q hs
 ·exact h' value slice pins s σ H x y v u Q I rx ry q hs
def MF(hr:Gq X r)(ha:PE X a ta)(hb:PE X b tb)(hs:ui b):PE X (.Subscript a b pos) (Mo r ta tb):=by
 intro pins s σ H Q I h;exact Subscript_ (Lw ha hb I h λv u s2 x y H2 I2 rx ry q=>hr a b pins s2 σ H2 x y v u Q I2 rx ry q (hs _ _))
def MY(K:W.Frag):R2:=λx y H Q=>∃p xs i v,x=.ref p/\y=.int i/\gw K H p xs/\tG xs i=some v/\Q v H
def L6(K:W.Frag):R2:=λx y H Q=>∃p xs i v,x=.ref p/\y=.int i/\iL K H p xs/\tG xs i=some v/\Q v H
def Me:R2:=λx y H Q=>∃z i c,x=.str z/\y=.int i/\z.length<=sizeLine/\tG z.cps.toList i=some c/\Q (.str ⟨#[c]⟩) H
def Hu:Gq X (MY X.K):=by
 intro value slice pins s σ H x y v u Q I rx ry h hs;let⟨p,xs,i,z,rfl,rfl,hq,he,q⟩:=h;cases rx;let⟨t,rfl⟩:=ry;let⟨its,r,pl,hz⟩:=I.list hq;let⟨j,h1,h2,h3,h4,h5⟩:=tj he;let⟨w,ew,rw'⟩:=r.get h2;have hl:=r.length;have hn:=pJ;have fin:EP X pins σ Q w s:=⟨z,H,I,rw',q⟩
 by_cases h0:0<=i
 ·have hj:i.toNat=j:=by
   rw[seqIndex_of h0 h5] at h1;exact xD h1
  exact item_listR pl.isList h0 (by lia) (by rw[hj];simpa using ew) fin hs
 ·have hj:(i+(its.toArray.size:Int)).toNat=j:=by
   rw[seqIndex_neg (by lia) h4] at h1;rw[zH,<- hl];exact xD h1
  exact subscriptTail_builtinR (x:=w) pl.isList.typeIs slot_list_getitem.lookup
   (wpAny_getItem_list_neg (Q:=λr s'=>r=w/\EP X pins σ Q r s') pl.isList (by lia) (by rw[zH]<;>lia) (by lia) (by rw[hj];simpa using ew) ⟨rfl,fin⟩) hs
def pV:Gq X (L6 X.K):=by
 intro value slice pins s σ H x y v u Q I rx ry h hs;let⟨p,xs,i,z,rfl,rfl,hq,he,q⟩:=h;cases rx;let⟨t,rfl⟩:=ry;let⟨its,r,pl,hz⟩:=I.tuple hq;let⟨j,h1,h2,h3,h4,h5⟩:=tj he;let⟨w,ew,rw'⟩:=r.get h2;have hl:=r.length;have hn:=pJ;have fin:EP X pins σ Q w s:=⟨z,H,I,rw',q⟩
 exact subscriptTail_builtinR (x:=w) pl.typeIs slot_tuple_getitem.lookup
  (getItem_tuple (j:=j) (Q:=λr s'=>r=w/\EP X pins σ Q r s') pl (by lia) (by lia) (by rw[zH,<- hl];exact h1) (by simpa using ew) ⟨rfl,fin⟩) hs
def KN:Gq X Me:=by
 intro value slice pins s σ H x y v u Q I rx ry h hs;let⟨z,i,c,rfl,rfl,hz,he,q⟩:=h;let⟨t,rfl⟩:=rx;let⟨t',rfl⟩:=ry;let⟨j,h1,h2,h3,h4,h5⟩:=tj he;have hl:z.cps.toList.length=z.length:=by simp[Str.length]
 rw[hl] at h1 h4 h5;have hn:=pJ;exact tail_any (typeIs_str s z t) slot_str_getitem.lookup (getItem_str (c:=c) (by
  have e1:decide (i < -(2 ^ 63:Int))=false:=zZ (by lia);have e2:decide (i >= 2 ^ 63)=false:=zZ (by lia);rw[e1,e2,Bool.or_false]) (by rw[h1];simpa using h2) ⟨.str ⟨#[c]⟩,H,I.tok _,⟨_,rfl⟩,q⟩) hs
def OQ(K:W.Frag):R2:=λx y H Q=>MY K x y H Q\/L6 K x y H Q\/Me x y H Q
def Lr:Gq X (OQ X.K):=Hu.or (pV.or KN)
def zc(its:List Value)(n j:Nat)(u:Value):Obj.mapSeq (·.setIfInBounds j u) { cls:=.type "list",data:=.seq its.toArray n }={ cls:=.type "list",data:=.seq (its.set j u).toArray n }:=by
 simp[Obj.mapSeq]
def Inv.lst(I:Inv X pins σ H s)(h:H p=some (.lst xs)) :
  ∃ (its:List Value) (n:Nat),aJ xs its/\s.heap.get? p=some { cls:=.type "list",data:=.seq its.toArray n }/\xs.length<=sizeLine:=by
 let⟨z,its,n,r,e⟩:=I.hok p _ h;exact⟨its,n,r,e,z⟩
def Inv.lstUpd{ys:List V}{its its':List Value}{n n':Nat}{f:Obj->Obj}(I:Inv X pins σ H s)(h:H p=some (.lst xs))
  (ho:s.heap.get? p=some { cls:=.type "list",data:=.seq its.toArray n }) (hf:f { cls:=.type "list",data:=.seq its.toArray n }={ cls:=.type "list",data:=.seq its'.toArray n' }) (r:aJ ys its') (hz:ys.length<=sizeLine) (t:Nat) :
  Inv X pins σ (upd H p (.lst ys)) { s with heap:=s.heap.update p f,toks:=t }:=by
 have e:(s.heap.update p f).get? p=some { cls:=.type "list",data:=.seq its'.toArray n' }:=by
  rw[Heap.get?_update_self f ho (by rw[hf]<;>rfl),hf]
 refine I.write (x:=p) (e:=p) (by rw[h];trivial) (.inl rfl) (λb u hb q=>(xN _ _ (jM hb)).trans q) ⟨_,e⟩ ?_;exact⟨hz,its',n',r,e⟩
def Ml:V->V->V->Hp->(Hp->Prop)->Prop:=λo i v H Q=>∃p xs k j,o=.ref p/\i=.int k/\H p=some (.lst xs)/\Gm xs.length k=some j/\Q (upd H p (.lst (xs.set j v)))
def set_list:M3 X Ml:=by
 intro pins s σ H o i v ov iv u Q I ro ri rv h;let⟨p,xs,k,j,rfl,rfl,hp,hj,q⟩:=h;cases ro;let⟨t,rfl⟩:=ri;let⟨its,n,r,ho,hz⟩:=I.lst hp;let⟨h1,h2,h3,h4⟩:=A5 hj;have hl:=r.length;have hn:=pJ;have I':Inv X pins σ (upd H p (.lst (xs.set j v))) { s with heap:=s.heap.update p (Obj.mapSeq (·.setIfInBounds j u)) } :=
  I.lstUpd hp ho (zc its n j u) (r.set rv j) (by rw[yC];exact hz) s.toks
 by_cases h0:0<=k
 ·have hk:k.toNat=j:=by
   rw[seqIndex_of h0 h4] at h1;exact xD h1
  exact W.ki_setAt ho h0 (by lia) (by rw[zH,<- hl];exact h4) (by rw[hk];exact⟨_,I',q⟩)
 ·have hk:(k+(its.toArray.size:Int)).toNat=j:=by
   rw[seqIndex_neg (by lia) h3] at h1;rw[zH,<- hl];exact xD h1
  exact W.ki_setBack ho (by lia) (by rw[zH,<- hl];exact h3) (by lia) (by rw[hk];exact⟨_,I',q⟩)
def tR:dh X (.builtin "len") (λxs H Q=>∃p ys,xs=[.ref p]/\(gw X.K H p ys\/iL X.K H p ys)/\Q (.int ys.length) H):=by
 intro pins s σ H xs us Q I r h;let⟨p,ys,rfl,hq,q⟩:=h;let⟨u,rfl,rx⟩:=vals1 r;cases rx;have hn:=pJ;rcases hq with hq|hq
 ·let⟨its,r',pl,hz⟩:=I.list hq;have hlen:=r'.length;exact Calls.call_len_list pl.isList (by simp?[zH]<;>lia) ⟨.int ys.length,H,I.tok _,⟨s.toks+1,by rw[zH,hlen]⟩,q⟩
 ·let⟨its,r',pl,hz⟩:=I.tuple hq;have hlen:=r'.length;exact len_tuple pl (by simp?[zH]<;>lia) ⟨.int ys.length,H,I.tok _,⟨s.toks+1,by rw[zH,hlen]⟩,q⟩
def rE:dh X (.type "tuple") (λxs H Q=>∃p ys,xs=[.ref p]/\((gw X.K H p ys/\∀l,H l=none->Q (.ref l) (upd H l (.tup ys)))\/(iL X.K H p ys/\Q (.ref p) H))):=by
 intro pins s σ H xs us Q I r h;let⟨p,ys,rfl,h⟩:=h;let⟨u,rfl,rx⟩:=vals1 r;cases rx;rcases h with ⟨hq,q⟩|⟨hq,q⟩
 ·let⟨its,r',pl,hz⟩:=I.list hq;have hlen:=r'.length;refine call_tuple_list pl.isList (λh' kp=>?_) (by simp?[zH]<;>lia);have I1:Inv X pins σ H { s with heap:=h' }:=I.kept (t':=s.toks) kp;have I2:Inv X pins σ (upd H h'.objs.size (.tup ys)) { s with heap:=h'.push { cls:=.type "tuple",data:=.seq its.toArray } } :=
   I1.laid (t':=s.toks) (λb o e=>zU _ e) (yM _) (show di X.prog X.w _ _ _ (.tup ys) from ⟨hz,its,r',o4.new _ _⟩)
  exact⟨.ref h'.objs.size,_,I2,rfl,q _ (I1.hok.fresh (yM _))⟩
 ·let⟨its,r',pl,hz⟩:=I.tuple hq;exact call_tuple_same pl ⟨.ref p,H,I,rfl,q⟩
def OT(K:W.Frag)(T:String)(x:V)(H:Hp):Prop:=match x with
 | .str _=>T="str"
 | .int _=>T="int"
 | .ref p=>(T="list"/\∃xs,gw K H p xs)\/(T="tuple"/\∃xs,iL K H p xs) \/
   (T="dict"/\((∃kvs,H p=some (.dK kvs))\/∃kvs,H p=some (.dT kvs)))\/(T="set"/\∃S n,H p=some (.set S n))
 | _=>False
def Km(I:Inv X pins σ H s)(r:RelV x v)(ty:OT X.K T x H) :
  s.TypeIs v T/\∀a,v=.ref a->∃ob,s.heap.get? a=some ob/\ob.dict=none:=by
 cases x with
 | str z =>
  let⟨t,rfl⟩:=r;cases (show T="str" from ty);exact⟨typeIs_str s z t,λ_ e=>nomatch e⟩
 | int i =>
  let⟨t,rfl⟩:=r;cases (show T="int" from ty);exact⟨typeIs_int s i t,λ_ e=>nomatch e⟩
 | ref p =>
  cases r;rcases ty with ⟨rfl,xs,hq⟩|⟨rfl,xs,hq⟩|⟨rfl,hk⟩|⟨rfl,S,n,hk⟩
  ·let⟨its,_,pl,_⟩:=I.list hq;refine⟨pl.isList.typeIs,λa e=>?_⟩;cases e;let⟨o,n,e,c,hd,_⟩:=pl;exact⟨o,e,hd⟩
  ·rcases hq with hq|⟨o,its,n,hk,hc,hd,_⟩
   ·let⟨_,_,_,⟨o,e1,e2,_⟩,o2,e3,e4⟩:=hq.ok I.hok;exact⟨⟨o,e1,e2⟩,λa e=>by cases e;exact⟨o2,e3,e4⟩⟩
   ·exact⟨⟨o,I.kIn p o hk,hc⟩,λa e=>by cases e;exact⟨o,I.kIn _ o hk,hd⟩⟩
  ·have z:∃o,s.heap.get? p=some o/\o.ExactDict:=by
    rcases hk with ⟨kvs,hk⟩|⟨kvs,hk⟩
    ·let⟨_,_,_,_,o,_,_,e,ex,_⟩:=I.hok p _ hk;exact⟨o,e,ex⟩
    ·let⟨_,_,_,_,o,_,_,e,ex,_⟩:=I.hok p _ hk;exact⟨o,e,ex⟩
   let⟨o,e,ex⟩:=z;refine⟨⟨o,e,ex.1⟩,λa e2=>?_⟩;cases e2;exact⟨o,e,ex.2.1⟩
  ·let⟨o,_,_,_,e,ex,_⟩:=I.hok p _ hk;refine⟨⟨o,e,ex.1⟩,λa e2=>?_⟩;cases e2;exact⟨o,e,ex.2.1⟩
 | _=>exact False.elim ty
def O4(K:W.Frag)(T:String)(r:V->List V->Hp->VK->Prop)(to:TE)(t:TA):TE:=λσ H Q=>to σ H λx H1=>OT K T x H1/\t σ H1 λxs H2=>r x xs H2 Q
variable {T id:String}
def xo(pa:PlainAttrs T)(slot:Slot T name id)(hty:typeOf (.builtin id)=pure (.type "method_descriptor"))(hm:OU X id r)(ho:PE X o to)(ha:PA X (e::es) t)
  (hbase:attributeBase o name X.env (eval o X.env)=eval o X.env:=by rfl)
  (hfew:((backTo cpos (starEach (e::es) X.env)).all (λx=>!x.1)&&(backToKw cpos (keywordEach [] X.env)).all (λx=>x.1.isSome)
   &&decide ((e::es).length+([]:List Keyword).length+(if ([]:List Keyword).isEmpty then 0 else 1) < 30))=true:=by rfl)
  (hline:(apos.endLine == cpos.line)=true:=by rfl) (hs:starEach (e::es) X.env=(false,eval e X.env)::starEach es X.env:=by rfl) (hplain:(backTo cpos (starEach es X.env)).any (·.1)=false:=by rfl) :
  PE X (.Call (.Attribute o name apos) (e::es) [] cpos) (O4 X.K T r to t):=by
 intro pins s σ H Q I h;refine wpAny_Call_method_late hbase hfew hline rfl (cx (ho pins s σ H _ I h) λv s1 ⟨x,H1,I1,r1,ty,q1⟩=>?_);let⟨h1,h2⟩:=Km I1 r1 ty;refine⟨T,id,pa,slot,hty,h1,h2,?_⟩;have hA:=ha cpos pins s1 σ H1 _ I1 q1;rw[hs] at hA ⊢;refine Calls.callWith_builtin (by show (false||(backTo cpos (starEach es X.env)).any (·.1))=false;rw[hplain]<;>rfl) (Calls.evalArgs_plain ?_);exact cx hA λus s2 ⟨vs,H2,I2,r2,q2⟩=>hm pins s2 σ H2 x vs v us Q I2 r1 r2 q2
/- xs.append(e),list.index on a module's tuple .. are OU facts of 06m -/
end
def Np(X:Cx)(id:String)(r:V->List V->Hp->VK->Prop):Prop :=
 ∀ (pins:List (Addr×Obj)) (s:Shared) (σ:St) (H:Hp) (x:V) (xs:List V) (v:Value) (us:List Value) (Q:VK),Inv X pins σ H s->RelV x v->aJ xs us->r x xs H Q ->
  wpAny (model X.prog X.w) X.A (call (.builtin id) (v::us)) (EP X pins σ Q) X.xe s
def aJ.one:∀ {x:V}{us:List Value},aJ [x] us->∃u,us=[u]/\RelV x u
 | _,_,.cons r .nil=>⟨_,rfl,r⟩
def aJ.two:∀ {x y:V}{us:List Value},aJ [x,y] us->∃u v,us=[u,v]/\RelV x u/\RelV y v
 | _,_,_,.cons r (.cons q .nil)=>⟨_,_,rfl,r,q⟩
def aJ.rep(h:aJ xs us):∀k:Nat,aJ (List.replicate k xs).flatten (List.replicate k us).flatten
 | 0=>.nil
 | k+1=>by
  rw[xE,xE,qM,qM];exact aJ.append h (aJ.rep h k)
def foldl_rep(its:List Value):∀ (k:Nat) (acc:List Value),
  List.foldl (λx1 x2=>x1++x2) acc.toArray (List.replicate k its.toArray)=(acc++(List.replicate k its).flatten).toArray
 | 0,acc=>by simp
 | k+1,acc=>by
  have e:acc.toArray++its.toArray=(acc++its).toArray:=by simp
  have e2:(acc++its)++(List.replicate k its).flatten=acc++(List.replicate (k+1) its).flatten:=by
   rw[xE,qM,List.append_assoc]
  rw[<- e2,<- foldl_rep its k (acc++its),<- e,xE,yI]
section
variable {xs ys zs:List V}
def Inv.lset{its its':List Value}{n:Nat}{f:Array Value->Array Value}{t':Nat}(I:Inv X pins σ H s)(hH:H l=some (.lst xs))
  (e:s.heap.get? l=some { cls:=.type "list",data:=.seq its.toArray n }) (hf:f its.toArray=its'.toArray) (hv:aJ ys its') (hz:ys.length<=sizeLine) :
  Inv X pins σ (upd H l (.lst ys)) { s with heap:=s.heap.update l (Obj.mapSeq f),toks:=t' }:=by
 have q:=PySem.IsL.update e f;rw[hf] at q;refine I.write (x:=l) (e:=l) (by rw[hH];exact trivial) (.inl rfl) (λb' u hb hu=>(xN s.heap (Obj.mapSeq f) (jM hb)).trans hu) ⟨_,q⟩ ?_;exact⟨hz,its',_,hv,q⟩
def Inv.lnew{t':Nat}(I:Inv X pins σ H s)(hv:aJ ys its)(hz:ys.length<=sizeLine) :
  Inv X pins σ (upd H s.heap.objs.size (.lst ys)) { s with heap:=s.heap.push { cls:=.type "list",data:=.seq its.toArray },toks:=t' } :=
 I.laid (λ_ _ q=>zU _ q) (yM _) ⟨hz,its,0,hv,zX _ rfl⟩
def Inv.fresh(I:Inv X pins σ H s):H s.heap.objs.size=none:=I.hok.fresh (yM _)
def Inv.lstM(I:Inv X pins σ H s)(hH:H l=some (.lst xs)):xs.length<=sizeLine/\∃ (its:List Value) (n:Nat),aJ xs its/\xs.length=its.length/\s.heap.get? l=some { cls:=.type "list",data:=.seq its.toArray n }:=by
 let⟨z,its,n,r,e⟩:=I.hok l _ hH;exact⟨z,its,n,r,r.length,e⟩
def FF(h:n<=sizeLine):Builtin.List.listTooLong n=false:=by
 unfold Builtin.List.listTooLong;exact zZ (by lia)
end
def HJ:V->List V->Hp->VK->Prop:=λx vs H Q=>∃l xs y,x=.ref l/\vs=[y]/\H l=some (.lst xs)/\xs.length < sizeLine/\Q .non (upd H l (.lst (xs++[y])))
def sf:Np X "list.append" HJ:=by
 intro pins s σ H x vs v us Q I rx rv h;let⟨l,xs,y,rfl,rfl,hH,hz,q⟩:=h;cases rx;let⟨u,rfl,ru⟩:=rv.one;let⟨z,its,n,r,hl,e⟩:=I.lstM hH;refine qX F.slot_list_append ⟨_,e,rfl⟩ F.entry_list_append (F.args_list_append_2 _ _) (PySem.list_append l its.toArray n u (by rw[zH];lia)) ⟨e,?_⟩;refine⟨.non,_,I.lset (its':=its++[u]) hH e (by simp) (r.append (.cons ru .nil)) ?_,rfl,q⟩;rw[zN,xC];lia
def IS:V->List V->Hp->VK->Prop:=λx vs H Q=>∃l b xs zs,x=.ref l/\vs=[.ref b]/\H l=some (.lst xs)/\H b=some (.lst zs)/\xs.length+zs.length<=sizeLine/\Q .non (upd H l (.lst (xs++zs)))
def Cw:Np X "list.extend" IS:=by
 intro pins s σ H x vs v us Q I rx rv h;let⟨l,b,xs,zs,rfl,rfl,hH,hB,hz,q⟩:=h;cases rx;let⟨u,rfl,ru⟩:=rv.one;cases ru;let⟨z,its,n,r,hl,e⟩:=I.lstM hH;let⟨z2,its2,n2,r2,hl2,e2⟩:=I.lstM hB;have hsz:its.toArray.size+its2.toArray.size<=sizeLine:=by rw[zH,zH];lia
 have hlong:¬ (!its.toArray.isEmpty&&Builtin.List.listTooLong (its.toArray.size+its2.toArray.size))=true:=by
  rw[FF hsz,kW];exact yZ
 refine qX F.slot_list_extend ⟨_,e,rfl⟩ F.entry_list_extend (F.args_list_extend_2 _ _)
  (AutoSeq1.list_extend_list_list_0 l its.toArray n b its2.toArray n2 hlong (by rw[zH];lia) (by lia)) ⟨e,e2,?_⟩
 refine⟨.non,_,I.lset (its':=its++its2) hH e (by simp) (r.append r2) ?_,rfl,q⟩;rw[zN];lia
def len_rep(xs:List α)(k:Nat):(List.replicate k xs).flatten.length=k * xs.length:=by
 induction k with
 | zero=>simp
 | succ k ih=>rw[xE,qM,zN,ih,Nat.succ_mul,Nat.add_comm]
end L2
namespace Att
open PySem PySem.W PySem.Calls PyProof.Rows
variable {n:Nat}
def ints_of_wellAll:∀ (ns:List Int) (vs:List Value),WellAll P h vs (ns.map WData.int)->IntsAre vs ns:=by
 intro ns
 induction ns with
 | nil =>
  intro vs w;rw[yU] at w;cases w;exact .nil
 | cons n ns ih =>
  intro vs w;rw[zI] at w;cases w with
  | cons a b =>
   cases a;exact .cons _ _ (ih _ b)
def script_of{l:OpenLaw}(hn:l.most=some n){P:Params}{h:Heap}{args:List WData}{vals:List Value}
  (hpre:l.row.toRowW.claim.pre args=true) (hwl:WellAll P h vals args) :
  ∃a vs ns,vals=[Value.ref a]/\args=[WData.list (ns.map WData.int)]/\h.get? a=some { cls:=.type "list",data:=.seq vs.toArray }/\IntsAre vs ns/\ns.length<=n:=by
 have hsh:WShape.hasAll [] args [.list .int]=true:=(pre_splitW hpre).1;have hc:l.pre.holds [] { args:=args }=true:=(pre_splitW hpre).2;let⟨d,r,rfl,h1,h2⟩:=hasAllW_cons hsh;obtain rfl:=hasAllW_nil h2;let⟨xs,rfl,h3⟩:=hasW_list h1;let⟨ns,rfl⟩:=items_int h3;have hlen:ns.length<=n:=by
  unfold OpenLaw.pre at hc;have h4:(WTm.not (.lt (.lit (.int (n:Int))) (.len (.arg 0)))).holds [] { args:=[.list (ns.map .int)] }=true:=by
   have h4:=(holds_andW hc).1;rw[hn] at h4;exact h4
  have h5:=condW_of h4 (w_not (w_lt w_lit (w_len_list (w_arg rfl))));rw[zD] at h5;refine Nat.le_of_not_lt λq=>?_;have q':(n:Int) < ((ns.length:Nat):Int):=by lia
  first
   | (rw[yA q'] at h5;exact absurd h5 (by decide))
   | (simp at h5;lia)
 cases hwl with
 | cons w1 w2 =>
  cases w2;cases w1 with
  | list ho hall=>exact⟨_,_,ns,rfl,rfl,ho,ints_of_wellAll ns _ hall,hlen⟩
def post_true(l:OpenLaw)(args:List WData):l.row.toRowW.claim.post args (.bool true) args=true :=
 postW_of (r:=l.row.toRowW) (X:=(true == true))
  (show WShape.has [] (.bool true) .bool=true by first|rfl|decide|simp[WShape.has,WShape.arms,WShape.armsAll])
  (show (WTm.eq .res (.lit (.bool true))).value [] { args:=args,res:=some (.bool true),after:=args }=some (.bool (true == true)) from w_eq_bool (w_res rfl) w_lit) rfl
def attach_call{l:OpenLaw}{q:Program}{loose:List Str}{XP:(Str->Option Value)->Heap->Prop}{YP:World->Heap->Prop}{d:DefRec}
  (hn:l.most=some n) (hdf:d.params.defaults=[])
  (call:∀ (w:World) (s₀ s₁:Shared) (mg mb:Str->Option Value) (fa:Addr) (o:Obj) (pm cd doc:Value) (a:Addr) (vs:List Value) (ns:List Int),
   Ground q loose [] XP w s₀ mg mb s₁.heap->YP w s₁.heap ->
   s₁.heap.get? fa=some o->o.data=.func (docDef d.name d.params d.body d.scope pm cd doc)->s₁.heap.CodeRec cd d.name->mg d.name=some (.ref fa) ->
   s₁.heap.get? a=some { cls:=.type "list",data:=.seq vs.toArray }->IntsAre vs ns->ns.length<=n->s₁.gens=#[] ->
   codeAny (model l.prog w) callerA (.call (.ref fa) ⟨[.ref a],[]⟩) (λr s'=>r=.ok (.ret (.bool true))/\OldK s₁.heap s'.heap/\s'.os=s₁.os/\AllBare s'.gens) s₁) :
  WalkO q loose XP YP l.row.toRowW d [] (λf vs=>PySem.call f vs):=by
 intro w s₀ s₁ mg mb G Y fa o pm cd doc dV kV ho hd hcd hD hmg hg args vals as hpre hlay hrd hwl hlo;obtain rfl:dV=.none:=Dflts.none hD hdf;obtain rfl:kV=.none:=Dflts.noKw hD;let⟨a,vs,ns,rfl,rfl,hobj,hints,hlen⟩:=script_of hn hpre hwl;refine enter_call (jR (call w s₀ s₁ mg mb fa o pm cd doc a vs ns G Y ho (fd_plain hd) hcd hmg hobj hints hlen hg) λr s' hq=>?_);let⟨rfl,h2,h3,h4⟩:=hq;exact⟨.inl ⟨.bool true,.bool true,[],rfl,λ_=>rfl,.bool true,post_true l _,λ_=>⟨List.Pairwise.nil,λ_ hm=>(nomatch hm)⟩⟩,h2,h3,h4⟩
section
variable {K:Frag}
end
end Att
namespace L2
open PySem PySem.Spec PyProof.Rows
variable {B:Prop}
def gK:∀ {vs:List Value}{ns:List Int},IntsAre vs ns->aJ (ns.map V.int) vs
 | _,_,.nil=>.nil
 | _,_,.cons n t h=>.cons ⟨t,rfl⟩ (gK h)
abbrev LW:Ja:=λ_ _ _ _ _ _=>False
abbrev E0:XK:=λ_ _ _=>False
def MN:Ab LW X E0:=λ_ _ _ _ _ _ _ h=>h.elim
structure Hb(K:W.Frag)(x qual:Str)(st:Stmt)(f:Addr)(fd:FuncData):Prop where
 ex:∃ (oc:Value) (od:Option Addr) (kV doc pm:Value) (an:Option Addr) (cdv ct:Value) (osl:Array (Option Value)),
  fd=W.fnOf x qual (fg st) (bV st) (aG st) .none kV doc pm an cdv ct/\K.lookup f=some ⟨oc,od,.func fd,osl⟩/\W.codeIn K cdv qual=true
 kp:W.keepIn K (.ref f)=true
section
variable {K:W.Frag}
def Hb.binds{st:Stmt}(F:Hb K x qual st f fd)
  (h:∀ (kV doc pm:Value) (an:Option Addr) (cdv ct:Value) (us:List Value),us.length=ps.length->bindArgs (W.fnOf x qual (fg st) (bV st) (aG st) .none kV doc pm an cdv ct) ⟨us,[]⟩=pure (ps.zip us)):Binds K fd ps []:=by
 let⟨oc,od,kV,doc,pm,an,cdv,ct,osl,rfl,lk,hcd⟩:=F.ex;exact .all (h kV doc pm an cdv ct)
def uB{st:Stmt}{kV:Value}(l:K.lookup f=some ⟨oc,od,.func (W.fnOf x qual (fg st) (bV st) (aG st) .none kV doc pm an cdv ct),osl⟩)
  (c:W.codeIn K cdv qual=true) (k:W.keepIn K (.ref f)=true):Hb K x qual st f (W.fnOf x qual (fg st) (bV st) (aG st) .none kV doc pm an cdv ct):=⟨⟨oc,od,kV,doc,pm,an,cdv,ct,osl,rfl,l,c⟩,k⟩
end
def vi{A B:Prop}(h:B):if false=true then A else B:=by
 rw[yN yZ];exact h
def wY{A B:Prop}(h:A):if true=true then A else B:=by
 rw[yL rfl];exact h
def aU(H H':Hp):Prop:=∀b o,H b=some o->H' b=some o
def aU.refl(H:Hp):aU H H:=λ_ _ h=>h
def aU.trans(a:aU H H1)(b:aU H1 H2):aU H H2:=λc o h=>b c o (a c o h)
def aU.free(e:aU H H')(h:H' l=Option.none):H l=Option.none:=by
 cases q:H l with
 | none=>rfl
 | some o =>
  rw[e l o q] at h;cases h
def aU.seq{K:W.Frag}(e:aU H H')(h:gw K H a xs):gw K H' a xs:=by
 rcases h with (h|⟨o,h⟩)|h
 ·exact .inl (.inl (e _ _ h))
 ·exact .inl (.inr ⟨o,e _ _ h⟩)
 ·exact .inr h
def bP:∀ (names:List (Str×NameKind)) (n:Nat) (acc:List (Str×Addr)),cellsFrom n names acc=cellsFrom n names []++acc
 | [],_,_=>rfl
 | (name,kind)::r,n,acc=>by
  unfold cellsFrom;split
  ·rw[bP r (n+1) ((name,n)::acc),bP r (n+1) [(name,n)]];simp
  ·exact bP r n acc
def iR:∀ {l m:List (Str×α)},(l++m).lookup x=some c->l.lookup x=some c\/(l.lookup x=none/\m.lookup x=some c)
 | [],_,h=>.inr ⟨rfl,h⟩
 | (k,v)::r,m,h=>by
  have ih:=@iR α x c r m;rw[xF,yB] at h;rw[yB];cases e:x == k with
  | true=>rw[e] at h;exact .inl h
  | false=>rw[e] at h;exact ih h
def iU:∀ {l m:List (Str×α)},l.lookup x=some c->(l++m).lookup x=some c
 | [],_,h=>by cases h
 | (k,v)::r,m,h=>by
  have ih:=@iU α x c r m;rw[yB] at h;rw[xF,yB];cases e:x == k with
  | true=>rw[e] at h;exact h
  | false=>rw[e] at h;exact ih h
def gR:∀ {l m:List (Str×α)},l.lookup x=none->(l++m).lookup x=m.lookup x
 | [],_,_=>rfl
 | (k,v)::r,m,h=>by
  have ih:=@gR α x r m;rw[yB] at h;rw[xF,yB];cases e:x == k with
  | true=>rw[e] at h;cases h
  | false=>rw[e] at h;exact ih h
def fY:∀ (names:List (Str×NameKind)) (n:Nat) (x:Str) (c:Addr),(x,c)∈cellsFrom n names []->(x,NameKind.cell)∈names
 | [],_,_,_,h=>by cases h
 | (name,kind)::r,n,x,c,h=>by
  unfold cellsFrom at h;split at h
  ·rename_i hk;rw[bP] at h;rcases List.mem_append.mp h with h|h
   ·exact zC _ (fY r _ x c h)
   ·have:(x,c)=(name,n):=by simpa using h
    cases this;have:kind=.cell:=by simpa using hk
    subst this;exact zE
  ·exact zC _ (fY r n x c h)
def dN(env:Env):List (Str×NameKind)->List (Str×Addr)->List (Str×Addr)
 | [],acc=>acc
 | (n,k)::r,acc=>if k == .free then dN env r ((n,(env.cells.lookup n).getD 0)::acc) else dN env r acc
def lu(env:Env):∀ (names:List (Str×NameKind)) (acc:List (Str×Addr)),(∀x∈names,x.2=.free->∃c,env.cells.lookup x.1=some c) ->
  (forIn names acc (λ(p:Str×NameKind) (cs:List (Str×Addr))=>(if p.2 == .free then (do let a <- cellOf env p.1;pure (.yield ((p.1,a)::cs))) else pure (.yield cs):Sem (ForInStep (List (Str×Addr))))))=pure (dN env names acc)
 | [],acc,_=>rfl
 | (n,k)::r,acc,h=>by
  rw[List.forIn_cons];have hr:=λx hx=>h x (zC _ hx);unfold dN;by_cases hk:k=.free
  ·let⟨c,hc⟩:=h (n,k) zE hk;subst hk;have e1:cellOf env n=pure c:=by
    have hc':env.cells.lookup n=some c:=hc;unfold cellOf;rw[hc']
   have hc':env.cells.lookup n=some c:=hc;simp?[beq_self_eq_true,xH,e1,pure_bind,hc',qG];exact lu env r _ hr
  ·have hb:(k == NameKind.free)=false:=by simpa using hk
   simp?[hb,yO,qP,pure_bind];exact lu env r _ hr
def lK{env:Env}(h:∀x∈scope.names,x.2=.free->∃c,env.cells.lookup x.1=some c):closureFor scope env=pure (dN env scope.names []):=by
 have:=lu env scope.names [] h;unfold closureFor;exact (bind_pure _).trans this
def j9{env:Env}:∀ {names:List (Str×NameKind)}{acc:List (Str×Addr)},(∀x∈names,x.2=.free->∃c,env.cells.lookup x.1=some c)->(∀x c,(x,c)∈acc->env.cells.lookup x=some c) ->
  ∀x c,(x,c)∈dN env names acc->env.cells.lookup x=some c
 | [],acc,_,ha,x,c,hm=>ha x c hm
 | (n,k)::r,acc,h,ha,x,c,hm=>by
  unfold dN at hm;have hr:=λx hx=>h x (zC _ hx);split at hm
  ·rename_i hk;have hk':k=.free:=by simpa using hk
   let⟨c',hc⟩:=h (n,k) zE hk';have hc:env.cells.lookup n=some c':=hc;refine j9 hr (λy d hy=>?_) x c hm;rcases List.mem_cons.mp hy with e|hy
   ·cases e;rw[hc];rfl
   ·exact ha y d hy
  ·exact j9 hr ha x c hm
def fH{env:Env}:∀ {names:List (Str×NameKind)}{acc:List (Str×Addr)}{x:Str},(names.lookup x=some .free\/∃c,acc.lookup x=some c)->∃c,(dN env names acc).lookup x=some c
 | [],acc,x,h=>by
  rcases h with h|h
  ·cases h
  ·exact h
 | (n,k)::r,acc,x,h=>by
  unfold dN;split
  ·rename_i hk;refine fH ?_;rcases h with h|⟨c,h⟩
   ·rw[yB] at h;cases e:x == n with
    | true=>exact .inr ⟨_,by rw[yB,e]⟩
    | false=>rw[e] at h;exact .inl h
   ·refine .inr ?_;rw[yB];cases e:x == n with
    | true=>exact⟨_,rfl⟩
    | false=>exact⟨c,h⟩
  ·rename_i hk;refine fH ?_;rcases h with h|h
   ·rw[yB] at h;cases e:x == n with
    | true =>
     rw[e] at h;cases h;exact absurd rfl hk
    | false=>rw[e] at h;exact .inl h
   ·exact .inr h
def mC{env:Env}:∀ {names:List (Str×NameKind)}{x:Str}{k:NameKind},names.lookup x=some k ->
  (names.map λ(n,k)=>if (k == NameKind.free&&env.scope.kind == .function&&env.kindOf n == some .cell) then (n,NameKind.cell) else (n,k)).lookup x=some (if (k == NameKind.free&&env.scope.kind == .function&&env.kindOf x == some .cell) then NameKind.cell else k)
 | [],_,_,h=>by cases h
 | (n,k)::r,x,k',h=>by
  have ih:=@mC env r x k';rw[zI];dsimp only;cases hx:x == n with
  | true =>
   have e:x=n:=by simpa using hx
   subst e;rw[yB,hx] at h;cases h;split<;>simp[yB, *]
  | false =>
   rw[yB,hx] at h;have ih:=ih h;split
   ·rw[yB,hx];exact ih
   ·rw[yB,hx];exact ih
def ox{env:Env}:∀ {names:List (Str×NameKind)}{x:Str},names.lookup x=none ->
  (names.map λ(n,k)=>if (k == NameKind.free&&env.scope.kind == .function&&env.kindOf n == some .cell) then (n,NameKind.cell) else (n,k)).lookup x=none
 | [],_,h=>rfl
 | (n,k)::r,x,h=>by
  have ih:=@ox env r x;rw[zI];dsimp only;cases hx:x == n with
  | true=>rw[yB,hx] at h;cases h
  | false =>
   rw[yB,hx] at h;split
   ·rw[yB,hx];exact ih h
   ·rw[yB,hx];exact ih h
def eD(X:Cx)(scope:Scope)(C:Addr):Env :=
 { scope:=relabel scope X.env,locals:=C,globals:=X.env.globals,cells:=cellsFrom (C+1) scope.names (dN X.env scope.names []),qual:=X.env.qual,func:=none,code:=X.env.code,frame:=X.env.frame,builtins:=X.env.builtins }
def aW(X:Cx)(scope:Scope)(N:List Str)(fp:List Addr)(s:Shared)(H:Hp):Cx :=
 { X with N:=N,s₀:=s,H₀:=H,env:=eD X scope s.heap.objs.size,outer:=X.stack,ex:=fp,fn:=λx=>decide (scope.names.lookup x=some .cell),pn:=[],xe:=λ_ _=>False }
def zw{M:Model}{A:Around}{E:Value->Shared->Prop}{globals:Addr}{cl:List (Str×Addr)}{qual:Str}{env:Env}
  (hQ:∀h',h'.Ns s.heap.objs.size (λ_=>none)->(∀b o,s.heap.get? b=some o->h'.get? b=some o)->CellsOk h' (s.heap.objs.size+1) (cellsFrom (s.heap.objs.size+1) scope.names []) ->
   Q { scope:=scope,locals:=s.heap.objs.size,globals:=globals,cells:=cellsFrom (s.heap.objs.size+1) scope.names cl,qual:=qual,func:=none,code:=env.code,frame:=env.frame,builtins:=env.builtins } { s with heap:=h' }) :
  wpAny M A (newFunctionEnv scope globals cl [] qual none .none (some env)) Q E s:=by
 simp?[newFunctionEnv,Option.isSome_some,xH];refine zV (wpAny_alloc ?_);refine zV (wpAny_layCells _ (λname kind cells=>by cases hkc:kind == NameKind.cell<;>simp[hkc]) _ _ _ _ ?_);have ok:=cellsFrom_ok scope.names (s.heap.push { cls:=.type "dict",data:=.dict #[] }) (s.heap.objs.size+1) [] ⟨λ_ _ hm=>(nomatch hm),List.Pairwise.nil⟩ (by rw[xJ];exact yM _);rw[xJ] at ok;rw[show ({ s with heap:=s.heap.push { cls:=.type "dict",data:=.dict #[] } }:Shared).heap.objs.size=s.heap.objs.size+1 from xJ ..];rw[List.forIn_nil];refine zV (zW (zW ?_));exact hQ _ ((Heap.Ns.new s.heap (.type "dict")).keeps (pushCells_keeps _ _)) (λb o e=>pushCells_keeps _ _ b o (zU _ e)) ok
section
variable {X:Cx}{pins:List (Addr×Obj)}{σ σ':St}{H:Hp}{s:Shared}{fp:List Addr}{scope:Scope}{N:List Str}{h4:Heap}
def jw(ok:X.Ok)(hfree:∀x∈scope.names,x.2=.free->X.env.kindOf x.1=some .cell\/X.env.kindOf x.1=some .free):∀x∈scope.names,x.2=.free->∃c,X.env.cells.lookup x.1=some c :=
 λx hx hk=>ok.has x.1 (hfree x hx hk)
def nB(h:scope.names.lookup x=some k):(eD X scope C).kindOf x=some k\/(k=.free/\(eD X scope C).kindOf x=some .cell):=by
 have q:=mC (env:=X.env) h;have q':(eD X scope C).kindOf x=some (if (k == NameKind.free&&X.env.scope.kind == .function&&X.env.kindOf x == some .cell) then NameKind.cell else k):=q;rw[q'];split
 ·rename_i hc;have:k=.free:=by
   simp?[zF,vJ] at hc;exact hc.1.1
  exact .inr ⟨this,rfl⟩
 ·exact .inl rfl
def k6(h:(eD X scope C).kindOf x=some k):scope.names.lookup x=some k\/(k=.cell/\scope.names.lookup x=some .free):=by
 cases e:scope.names.lookup x with
 | none =>
  have q:(eD X scope C).kindOf x=none:=ox (env:=X.env) e;rw[q] at h;cases h
 | some k' =>
  rcases nB (X:=X) (C:=C) e with q|⟨q,q'⟩
  ·rw[q] at h;cases h;exact .inl rfl
  ·rw[q'] at h;cases h;subst q;exact .inr ⟨rfl,rfl⟩
def DK(I:Inv X pins σ H s)(hf:∀b∈fp,cA X pins H b)(hfl:∀b∈fp,b < s.heap.objs.size)(hk:scope.kind=.function)
  (hfree:∀x∈scope.names,x.2=.free->X.env.kindOf x.1=some .cell\/X.env.kindOf x.1=some .free)
  (hns:h4.Ns s.heap.objs.size (λ_=>none)) (hkeep:∀b o,s.heap.get? b=some o->h4.get? b=some o) (hco:CellsOk h4 (s.heap.objs.size+1) (cellsFrom (s.heap.objs.size+1) scope.names []))
  (hdup:∀ {x:Str},(x,NameKind.cell)∈scope.names->(x,NameKind.free)∈scope.names->False) (hcap:∀ (i:Nat) (x:Str) (v:V),N[i]?=some x->σ'[i]?=some (some v)->scope.names.lookup x=some .free/\∃j:Nat,X.N[j]?=some x/\σ[j]?=some (some v)) (hlen:σ'.length=N.length) (t':Nat) :
  Inv (aW X scope N fp s H) [] σ' H { s with heap:=h4,toks:=t' }:=by
 have hcl:=jw I.ok hfree;have clx:∀x c,(dN X.env scope.names []).lookup x=some c->X.env.cells.lookup x=some c:=λx c e=>j9 hcl (λ_ _ z=>by cases z) x c (mem_of_lookup e);have look:∀x c,(eD X scope s.heap.objs.size).cells.lookup x=some c->(x,c)∈cellsFrom (s.heap.objs.size+1) scope.names []\/X.env.cells.lookup x=some c:=λx c e=>by
  have e:(cellsFrom (s.heap.objs.size+1) scope.names (dN X.env scope.names [])).lookup x=some c:=e;rw[bP] at e;rcases iR e with q|⟨_,q⟩
  ·exact .inl (mem_of_lookup q)
  ·exact .inr (clx x c q)
 have old:∀x c,X.env.cells.lookup x=some c->c < s.heap.objs.size:=λx c e=>let ⟨_,q⟩:=I.cell x c e;q.lt;have new:∀x c,(x,c)∈cellsFrom (s.heap.objs.size+1) scope.names []->s.heap.objs.size < c:=λx c e=>(hco.empty x c e).2;refine⟨⟨I.ok.mod,?_,I.ok.glob,I.ok.blt,yM _,?_,?_,?_,I.ok.hd,I.ok.frames,.inl rfl,?_,I.bs,yD I.ok.bsz I.sz,?_,?_,I.stack,I.stkFree⟩,rfl,I.bare,Un.kept hkeep,⟨_,hns,?_⟩,?_,I.hok.fresh (yM _),?_,
  λp hp=>absurd (show p∈([]:List (Addr×Obj)) from hp) (by simp),I.hok.kept hkeep,hlen⟩
 ·show (relabel scope X.env).kind=_;exact hk
 ·intro x y c e1 e2;rcases look x c e1 with a|a<;>rcases look y c e2 with b|b
  ·exact name_of_addr hco.apart a b
  ·exact absurd (wM (new x c a) (old y c b)) (qE _)
  ·exact absurd (wM (new y c b) (old x c a)) (qE _)
  ·exact I.ok.inj x y c a b
 ·intro x hx;show ∃c,(cellsFrom (s.heap.objs.size+1) scope.names (dN X.env scope.names [])).lookup x=some c;refine Option.isSome_iff_exists.mp (W.cellsFrom_some _ _ _ ?_);rcases hx with hx|hx
  ·rcases k6 hx with q|⟨_,q⟩
   ·exact .inl q
   ·exact .inr (Option.isSome_iff_exists.mpr (fH (.inl q)))
  ·rcases k6 hx with q|⟨q,_⟩
   ·exact .inr (Option.isSome_iff_exists.mpr (fH (.inl q)))
   ·cases q
 ·intro x c hfn e;have hfn:scope.names.lookup x=some .cell:=yQ hfn;have e:(cellsFrom (s.heap.objs.size+1) scope.names (dN X.env scope.names [])).lookup x=some c:=e;let⟨c',hc'⟩:=pb (n:=s.heap.objs.size+1) hfn;rw[bP,iU hc'] at e;cases e;exact jS (new x c (mem_of_lookup hc'))
 ·intro b hb;refine⟨yR (hfl b hb),λx c e z=>?_⟩;rcases look x c e with a|a
  ·exact absurd (wM (new x c a) (by rw[z];exact hfl b hb)) (qE _)
  ·exact (hf b hb).2.2.2.2.1 x c a z
 ·intro b o e hb;let⟨f0,f1,f2,f3,f4,f5⟩:=hf b hb;rcases f3 with z|z
  ·exact I.ok.noex b o e z
  ·exact absurd (zP (zY (I.ok.bs b o e).1) z) (qE _)
 ·intro b hb hz;let⟨f0,f1,f2,f3,f4,f5⟩:=hf b hb;rcases List.mem_cons.mp (I.stkSub b hz) with z|z
  ·exact f1 z
  ·exact f2 z
 ·intro i x v e1 e2 e3;let⟨hfr,j,hj,hv⟩:=hcap i x v e1 e2;have hm:(x,NameKind.free)∈scope.names:=mem_of_lookup hfr;let⟨m,hn,hl⟩:=I.loc;have kx:=hfree _ hm rfl;let⟨u,ru,lk⟩:=hl j x v hj hv (kx.elim (λk=>.inr (.inl k)) λk=>.inr (.inr k));refine⟨u,ru,.inr ⟨?_,?_⟩⟩
  ·rcases nB (X:=X) (C:=s.heap.objs.size) hfr with q|⟨_,q⟩
   ·exact .inr q
   ·exact .inl q
  ·rcases lk with ⟨k,_⟩|⟨_,c,ec,ic⟩
   ·have k:X.env.kindOf x=some .local:=k;rcases kx with k'|k'<;>· rw[k] at k';cases k'
   ·let⟨c',hc'⟩:=fH (env:=X.env) (acc:=[]) (.inl hfr);have e':=clx x c' hc';rw[ec] at e';cases e';refine⟨c,?_,ic.keeps hkeep⟩;show (cellsFrom (s.heap.objs.size+1) scope.names (dN X.env scope.names [])).lookup x=some c;rw[bP];cases eo:(cellsFrom (s.heap.objs.size+1) scope.names []).lookup x with
    | none=>rw[gR eo];exact hc'
    | some d =>
     have hcm:=fY _ _ _ _ (mem_of_lookup eo);exact (hdup hcm hm).elim
 ·intro x c e;rcases look x c e with a|a
  ·exact⟨_,(hco.empty x c a).1⟩
  ·let⟨v,q⟩:=I.cell x c a;exact⟨v,q.keeps hkeep⟩
 ·intro x c e;rcases look x c e with a|a
  ·exact I.hok.fresh (jS (new x c a))
  ·exact I.freeC x c a
end
abbrev v9(ifs:List Expr)(env:Env):Sem Bool:=forIn ifs true λc r=>if r=true then do let ok <- isTrue c env (eval c env);pure (ForInStep.yield ok) else pure (ForInStep.yield r)
def L3(X:Cx)(ifs:List Expr)(t:TT):Prop :=
 ∀ (pins:List (Addr×Obj)) (s:Shared) (σ:St) (H:Hp) (Q:Bool->Hp->Prop),Inv X pins σ H s->t σ H Q->wpAny (model X.prog X.w) X.A (v9 ifs X.env) (TP X pins σ Q) X.xe s
def Hn:L3 X [] (λ_ H Q=>Q true H):=λ_ _ _ H _ I h=>wpAny_tests_nil ⟨H,I,h⟩
def Gy(h:PT X c t):L3 X [c] t:=λpins s σ H Q I q=>wpAny_tests_one (h pins s σ H Q I q)
def tP{R:Result->Shared->Prop}{elt target iter:Expr}{ifs:List Expr}{scope:Scope}{pos:Pos}{acc:Value}{env:Env}(I:Nat->Shared->Prop)
  (turn:∀n s,I n s->wpAny (model prog w) A (pyNext it) (λr s₁=>match r with
   | none=>R (.ok .next) s₁
   | some v=>wpAny (model prog w) A (letOwnedTupleGo target it v) (λ_ s₁'=>wpAny (model prog w) A (assign target env v) (λ_ s₂ =>
     wpAny (model prog w) A (v9 ifs env) (λok s₃ =>
      if ok=true then wpAny (model prog w) A (eval elt env) (λx s₄ =>
       wpAny (model prog w) A (call (.builtin "list.append") [acc,x]) (λ_ s₅=>∃m,m < n/\I m s₅) (λ_ _=>False) s₄) (λ_ _=>False) s₃
      else ∃m,m < n/\I m s₃) (λ_ _=>False) s₂) (λ_ _=>False) s₁') (λ_ _=>False) s₁) (λ_ _=>False) s)
  (n:Nat) (h:I n s) :
  codeAny (model prog w) A (.compLoop (.ListComp elt [⟨target,iter,ifs,0⟩] scope pos) 0 it acc env) R s:=by
 refine codeAny_loop rfl I (λn s hI=>?_) n h;show wpAny _ A ((compTurn (.ListComp elt [⟨target,iter,ifs,0⟩] scope pos) 0 it acc env).onRaise (λx=>do noteFrame x env;theTreesLotGoes x)) _ _ s;refine wpAny_noted ?_;rw[compTurn_list];refine zV (vC (zV (xA (turn n s hI) (λr s₁ h₁=>?_) λ_ _ h'=>h'.elim)));cases r with
 | none=>exact zW h₁
 | some v =>
  refine zV (xA h₁ (λ_ s₁' h₁'=>?_) λ_ _ h'=>h'.elim);refine zV (xA h₁' (λ_ s₂ h₂=>zV (xA h₂ (λok s₃ h₃=>?_) λ_ _ h'=>h'.elim)) λ_ _ h'=>h'.elim);cases ok with
  | false=>exact zW ⟨rfl,h₃⟩
  | true =>
   exact zV (zV (xA h₃ (λx s₄ h₄=>zV (xA h₄ (λ_ s₅ h₅=>zW (zW ⟨rfl,h₅⟩)) λ_ _ h'=>h'.elim)) λ_ _ h'=>h'.elim))
def B0(X:Cx)(pins:List (Addr×Obj))(σ:St)(Q:VK)(acc:Value)(C:Addr)(r:Result)(s5:Shared):Prop :=
 ∃ (D:Addr) (H5:Hp) (m:Str->Option Value),acc=.ref D/\r=.ok .next/\Inv X pins σ H5 s5/\s5.heap.Ns C m/\cA X pins H5 C/\Q (.ref D) H5
def Dt(J:It)(g:TG)(tt:TT)(te:TE)(D:Addr)(σ0:St)(H0:Hp)(Q:VK):Prop :=
 ∃W:Nat->Nat->St->Hp->Prop,(∃m,W 0 m σ0 H0)/\∀i m σ H,W i m σ H ->
  (J.stop i H/\Q (.ref D) H)\/(J.go i H/\∀x H',J.yld i H x H'->g x σ H' λσ2 H2=>tt σ2 H2 λb H3 =>
   if b=true then te σ2 H3 λv H4=>∃ys,H4 D=some (.lst ys)/\ys.length < sizeLine/\∃m',m' < m/\W (i+1) m' σ2 (upd H4 D (.lst (ys++[v])))
   else ∃m',m' < m/\W (i+1) m' σ2 H3)
section
variable {X:Cx}{pins:List (Addr×Obj)}{σ σ':St}{H:Hp}{s:Shared}{scope:Scope}{N:List Str}
 {tg iter elt:Expr}{ifs:List Expr}{pos:Pos}{g:TG}{tt:TT}{te:TE}
def rN(hc:X.calm=true)(I:Inv X pins σ H s)(T:Turn X.prog X.w X.K tg J fp it tn)(st:tn 0 s.heap)(hf:∀b∈fp,cA X pins H b)(hk:scope.kind=.function)
  (hfree:∀x∈scope.names,x.2=.free->X.env.kindOf x.1=some .cell\/X.env.kindOf x.1=some .free) (hdup:∀ {x:Str},(x,NameKind.cell)∈scope.names->(x,NameKind.free)∈scope.names->False)
  (hcap:∀ (i:Nat) (x:Str) (v:V),N[i]?=some x->σ'[i]?=some (some v)->scope.names.lookup x=some .free/\∃j:Nat,X.N[j]?=some x/\σ[j]?=some (some v)) (hlen:σ'.length=N.length)
  (hY:∀fp s H,PG (aW X scope N fp s H) tg g/\L3 (aW X scope N fp s H) ifs tt/\PE (aW X scope N fp s H) elt te)
  (hrd:∀D,H D=none->Dt J g tt te D σ' (upd H D (.lst [])) Q) {E:Value->Shared->Prop} :
  wpAny (model X.prog X.w) X.A (newList []) (λacc s₃=>wpAny (model X.prog X.w) X.A (newFunctionEnv scope X.env.globals (dN X.env scope.names []) [] X.env.qual none .none (some X.env)) (λcenv s₄ =>
   codeAny (model X.prog X.w) X.A (.compStart (.ListComp elt [⟨tg,iter,ifs,0⟩] scope pos) 0 (.ref it) acc { cenv with scope:=relabel scope X.env }) (B0 X pins σ Q acc cenv.locals) s₄) E s₃) E s:=by
 refine qL ?_;have hfl:∀b∈fp,b < s.heap.objs.size:=λb hb=>let ⟨o,e,_⟩:=T.obj _ _ st b hb;zY e;have I3:=I.lnew (ys:=[]) (its:=[]) (t':=s.toks) .nil (xV _);have hD:H s.heap.objs.size=none:=I.fresh;let⟨W,⟨m0,w0⟩,turn⟩:=hrd _ hD;generalize e3:({ s with heap:=s.heap.push { cls:=.type "list",data:=.seq ([]:List Value).toArray },toks:=s.toks }:Shared)=s3 at I3;have e3h:s3.heap=s.heap.push { cls:=.type "list",data:=.seq ([]:List Value).toArray }:=by rw[<- e3]
 generalize hH3:upd H s.heap.objs.size (.lst [])=H3 at I3 w0 turn;have hlt:s.heap.objs.size < s3.heap.objs.size:=by rw[e3h,xJ];exact kM _
 have hk3:∀b o,s.heap.get? b=some o->s3.heap.get? b=some o:=λb o e=>by rw[e3h];exact zU _ e
 generalize s.heap.objs.size=D at *;have f3:∀b∈fp,cA X pins H3 b:=λb hb=>by
  let⟨f0,f⟩:=hf b hb;refine⟨?_,f⟩;rw[<- hH3,aA (yR (hfl b hb))];exact f0
 have st3:tn 0 s3.heap:=T.keep _ _ _ st λb _ o e=>hk3 b o e;refine zw λh4 hns hkp hco=>?_;dsimp only;have I4:=DK (N:=N) (σ':=σ') (fp:=fp) I3 f3 (λb hb=>wM (hfl b hb) hlt) hk hfree hns hkp hco hdup hcap hlen s3.toks;have fC:∀H',H' s3.heap.objs.size=none->cA X pins H' s3.heap.objs.size:=λH' hn=>I3.fpOk (yM _) hn;let⟨hg,htt,hte⟩:=hY fp s3 H3;have efp:∀b∈fp,∀H':Hp,H' b=none->cA (aW X scope N fp s3 H3) [] H' b:=λb hb H' hn=>by
  refine⟨hn,(I4.ok.exf b hb).1,I4.ok.exfs b hb,.inl hb,(I4.ok.exf b hb).2,λp hp=>?_⟩;cases hp
 have loop:codeAny (model X.prog X.w) X.A (.compLoop (.ListComp elt [⟨tg,iter,ifs,0⟩] scope pos) 0 (.ref it) (.ref D) (eD X scope s3.heap.objs.size)) (B0 X pins σ Q (.ref D) s3.heap.objs.size) { s3 with heap:=h4 }:=by
  refine tP (λn s'=>∃i σ' H',Inv (aW X scope N fp s3 H3) [] σ' H' s'/\tn i s'.heap/\(∀b∈fp,H' b=none)/\W i n σ' H') ?_ m0
   ⟨0,σ',H3,I4,T.keep _ _ _ st3 λb _ o e=>hkp b o e,λb hb=>(f3 b hb).1,w0⟩
  rintro n s5 ⟨i,σ5,H5,I5,st5,fr5,w5⟩;rcases turn i n σ5 H5 w5 with ⟨stop,q⟩|⟨go,step⟩
  ·refine cx (T.done (aW X scope N fp s3 H3) rfl rfl rfl hc i [] s5 σ5 H5 _ I5 (λb hb=>efp b hb H5 (fr5 b hb)) st5 stop) λr s6 ⟨hr,I6⟩=>?_;subst hr;let⟨m,hn6,_⟩:=I6.loc;refine⟨D,H5,m,rfl,rfl,I3.call' I6.os I6.base I6.hok I6.bare (λb hb=>?_),hn6,fC H5 I6.free,q⟩;let⟨f0,f1,f2,f4,f5,f6⟩:=f3 b hb;exact⟨f4,f1,f5,f6⟩
  ·refine cx (T.item (aW X scope N fp s3 H3) rfl rfl rfl hc i [] s5 σ5 H5 _ I5 (λb hb=>efp b hb H5 (fr5 b hb)) st5 go) λr s6 ⟨u,hr,h6⟩=>?_;subst hr;refine cx h6 λ_ s7 ⟨x,H7,I7,r7,y7,st7,fr7⟩=>?_;have I7':=I7.pinned (λb hb=>efp b hb H7 (fr7 b hb)) (T.obj _ _ st7);have again:∀ {pl:List (Addr×Obj)}{σ9:St}{H9:Hp}{s9:Shared}{n':Nat},Inv (aW X scope N fp s3 H3) ([]++nL fp s7.heap) σ9 H9 s9->W (i+1) n' σ9 H9->∃i σ' H',Inv (aW X scope N fp s3 H3) [] σ' H' s9/\tn i s9.heap/\(∀b∈fp,H' b=none)/\W i n' σ' H':=λ{pl σ9 H9 s9 n'} I9 w9=>by
    refine⟨i+1,σ9,H9,I9.unpinned,T.keep _ _ _ st7 λb hb o e=>(I9.pin (b,o) (yE _ (yE _ (dg hb e)))).1,λb hb=>?_,w9⟩;let⟨o,e,d⟩:=T.obj _ _ st7 b hb;exact (I9.pin (b,o) (yE _ (yE _ (dg hb e)))).2.1
   refine cx (hg _ s7 σ5 H7 x u _ I7' r7 (step x H7 y7)) λ_ s8 ⟨σ8,H8,I8,q8⟩=>?_;refine cx (htt _ s8 σ8 H8 _ I8 q8) λok s9 ⟨H9,I9,q9⟩=>?_;cases ok with
   | false =>
    rw[yN (by decide)] at q9;rw[yN (by decide)];let⟨m',hm,w9⟩:=q9;exact⟨m',hm,again (pl:=[]) I9 w9⟩
   | true =>
    rw[yL rfl] at q9;rw[yL rfl];refine cx (hte _ s9 σ8 H9 _ I9 q9) λy s10 ⟨v,H10,I10,r10,ys,hD10,hz,m',hm,w10⟩=>?_;refine cx (sf (X:=aW X scope N fp s3 H3) _ s10 σ8 H10 (.ref D) [v] (.ref D) [y] (λ_ H'=>W (i+1) m' σ8 H') I10 rfl (.cons r10 .nil) ⟨D,ys,v,rfl,rfl,hD10,hz,w10⟩) λ_ s11 ⟨_,H11,I11,_,w11⟩=>?_;exact⟨m',hm,again (pl:=[]) I11 w11⟩
 exact codeAny_compStart_list loop (T.self _ 0 _ _ _ (T.keep _ _ _ st3 λb _ o e=>hkp b o e) loop)
end
def Gb(wi:TI)(g:TG)(tt:TT)(te:TE)(caps:St->St):TE:=λσ H Q=>wi σ H λJ H1=>∀D,H1 D=none->Dt J g tt te D (caps σ) (upd H1 D (.lst [])) Q
structure ix(X:Cx)(scope:Scope)(N:List Str)(caps:St->St):Prop where
 kind:scope.kind=.function
 free:∀x∈scope.names,x.2=.free->X.env.kindOf x.1=some .cell\/X.env.kindOf x.1=some .free
 dup:∀ {x:Str},(x,NameKind.cell)∈scope.names->(x,NameKind.free)∈scope.names->False
 loc:∀x∈scope.names,x.2=.local -> scope.names.lookup x.1=some .local
 cap:∀ (σ:St) (i:Nat) (x:Str) (v:V),N[i]?=some x->(caps σ)[i]?=some (some v)->scope.names.lookup x=some .free/\∃j:Nat,X.N[j]?=some x/\σ[j]?=some (some v)
 len:∀σ:St,(caps σ).length=N.length
section
variable {X:Cx}{scope:Scope}{N:List Str}{caps:St->St}{tg iter elt:Expr}{ifs:List Expr}{pos:Pos}{wi:TI}{g:TG}{tt:TT}{te:TE}
def Hx(hc:X.calm=true)(S:ix X scope N caps)(hi:PI X tg iter wi)
  (hY:∀fp s H,PG (aW X scope N fp s H) tg g/\L3 (aW X scope N fp s H) ifs tt/\PE (aW X scope N fp s H) elt te)
  (hs:∀x,foldedSetIterable iter X.env x=pure x:=by intro _;rfl):PE X (.ListComp elt [⟨tg,iter,ifs,0⟩] scope pos) (Gb wi g tt te caps):=by
 intro pins s σ H Q I h;rw[eval_ListComp];refine wpAny_comprehension_free (use:=none) rfl hs (lK (jw I.ok S.free)) S.kind S.loc (cx (hi pins s σ H _ I h) λv s1 h1=>cx h1 λitv s2 h2=>?_);let⟨it,fp,tn,J,H2,e,I2,T,st2,f2,rd⟩:=h2;subst e;refine cx (rN (iter:=iter) (pos:=pos) (E:=X.xe) hc I2 T st2 f2 S.kind S.free S.dup (S.cap σ) (S.len σ) hY rd) λacc s3 h3=>cx h3 λcenv s4 h4=>?_;refine jR h4 λr s5 h5=>?_;let⟨D,H5,m,rfl,rfl,I5,hn,fC,q⟩:=h5;refine⟨m,hn,λh' sb=>?_⟩;let⟨f0,f1,f2',f3,f4,f5⟩:=fC;exact⟨.ref D,H5,I5.turned (t':=s5.toks) (λb o hb e=>(sb.2 b hb).trans e) f0 f1 f3 f4 f5,rfl,q⟩
def GV(hc:X.calm=true)(S:ix X scope N caps)(hi:PI X tg iter wi)
  (hY:∀fp s H,PG (aW X scope N fp s H) tg g/\L3 (aW X scope N fp s H) ifs tt/\PE (aW X scope N fp s H) elt te)
  (hN:X.N.Nodup) (hiy:X.N[i]?=some y) (hy:X.env.scope.names.lookup y=some .local)
  (hsw:swapsWith (.ListComp elt [⟨tg,iter,ifs,0⟩] scope pos) (some (.Name y py)) spos.line X.env=pure true)
  (hs:∀x,foldedSetIterable iter X.env x=pure x:=by intro _;rfl):PS X (.Assign [.Name y py] (.ListComp elt [⟨tg,iter,ifs,0⟩] scope pos) spos) (D5 (Gb wi g tt te caps) (uX i)):=by
 intro pins s σ H D I h;rw[exec_Assign_Name_used _ _ _ _ hsw];refine zV (vC (zV ?_));show wpAny _ X.A (do let _ <- comprehension (.ListComp elt [⟨tg,iter,ifs,0⟩] scope pos) scope X.env _ (newList []) false (eval iter X.env) (some (assign (.Name y py) X.env))) _ _ s;refine zV (xA (wpAny_comprehension_free (use:=some (assign (.Name y py) X.env)) (Q:=λ_ s'=>SP X pins D .next s') rfl hs (lK (jw I.ok S.free)) S.kind S.loc
  (cx (hi pins s σ H _ I h) λv s1 h1=>cx h1 λitv s2 h2=>?_)) (λ_ s' hq=>zW (zW hq)) λ_ _ e=>e)
 let⟨it,fp,tn,J,H2,e,I2,T,st2,f2,rd⟩:=h2;subst e;refine cx (rN (iter:=iter) (pos:=pos) (E:=X.xe) hc I2 T st2 f2 S.kind S.free S.dup (S.cap σ) (S.len σ) hY rd) λacc s3 h3=>cx h3 λcenv s4 h4=>?_;refine jR h4 λr s5 h5=>?_;let⟨D',H5,m,rfl,rfl,I5,hn,fC,q⟩:=h5;show wpAny _ X.A (assign (.Name y py) X.env (.ref D')) _ _ _;refine wpAny_assign_Name (su (v:=.ref D') I5 hN hiy (.inl hy) rfl (λs6 I6 ⟨a,sa,ha⟩=>?_) (.inr hy));let⟨f0,f1,f2',f3,f4,f5⟩:=fC;have hne:cenv.locals≠a:=by
  rcases ha with z|z
  ·rw[z];exact f1
  ·exactλw=>f4 y a z w.symm
 refine⟨m,hn.sameBut sa hne,λh' sb=>?_⟩;exact⟨_,H5,I6.turned (t':=s6.toks) (λb o hb e=>(sb.2 b hb).trans e) f0 f1 f3 f4 f5,q⟩
end
abbrev NZ(X:Cx)(qual:Str)(scope:Scope)(f c L:Addr):Env:=W.envX qual scope L f (.ref c) (dN X.env scope.names [])
def gh(X:Cx)(A:Around)(qual:Str)(scope:Scope)(N:List Str)(f c:Addr)(s:Shared)(H:Hp):Cx where
 prog:=X.prog
 w:=X.w
 K:=X.K
 mg:=X.mg
 base:=X.base
 A:=A.deeper (NZ X qual scope f c s.heap.objs.size)
 N:=N
 s₀:=s
 H₀:=H
 env:=NZ X qual scope f c s.heap.objs.size
 outer:=X.stack
 stack:=NZ X qual scope f c s.heap.objs.size::X.stack
 ex:=[]
 fn:=λ_=>false
 calm:=true
 pn:=[]
 xe:=λ_ _=>False
def HB(I:Inv X pins σ H s)(hd:A.handled=none)(hA:A.frames=some X.stack)(S:ix X scope N caps)(hnc:∀x∈scope.names,x.2≠.cell)(hN0:N[0]?=some p)(hp:scope.names.lookup p=some .local)(hNd:N.Nodup)(r:RelV v u)
  (hns:h1.Ns s.heap.objs.size (λx=>[(p,u)].reverse.lookup x)) (hkeep:∀b o,s.heap.get? b=some o->h1.get? b=some o) (t':Nat) :
  Inv (gh X A qual scope N f c s H) [] ((caps σ).set 0 (some v)) H { s with heap:=h1,toks:=t' }:=by
 have hcl:=jw I.ok S.free;have clx:∀x c,(dN X.env scope.names []).lookup x=some c->X.env.cells.lookup x=some c:=λx c e=>j9 hcl (λ_ _ z=>by cases z) x c (mem_of_lookup e);have noA:∀b:Addr,b∉(gh X A qual scope N f c s H).ex:=λb z=>absurd (show b∈([]:List Addr) from z) (by simp);refine⟨⟨I.ok.mod,S.kind,rfl,rfl,yM _,λx y d e1 e2=>I.ok.inj x y d (clx x d e1) (clx y d e2),λx hx=>?_,λx d z=>?_,λ_=>hd,Around.frames_deeper hA,.inr ⟨rfl,rfl⟩,λb z=>absurd z (noA b),I.bs,yD I.ok.bsz I.sz,λb _ _=>noA b,λb z=>absurd z (noA b),I.stack,I.stkFree⟩,
  rfl,I.bare,Un.kept hkeep,⟨_,hns,λi x w e1 e2 e3=>?_⟩,λx d e=>?_,I.hok.fresh (yM _),λx d e=>I.freeC x d (clx x d e),λq hq=>absurd (show q∈([]:List (Addr×Obj)) from hq) (by simp),I.hok.kept hkeep,?_⟩
 ·rcases hx with hx|hx
  ·exact absurd rfl (hnc _ (mem_of_lookup (show scope.names.lookup x=some .cell from hx)))
  ·exact fH (.inl hx)
 ·cases z
 ·cases i with
  | zero =>
   have e1:N[0]?=some x:=e1;rw[hN0] at e1;cases e1;have hl:0 < (caps σ).length:=by rw[S.len];exact (List.getElem?_eq_some_iff.mp hN0).1
   rw[vN hl] at e2;cases e2;exact⟨u,r,.inl ⟨hp,by simp⟩⟩
  | succ i =>
   have e2':(caps σ)[i+1]?=some (some w):=by
    rw[kP (by lia)] at e2;exact e2
   let⟨hfr,j,hj,hv⟩:=S.cap σ (i+1) x w e1 e2';have hm:(x,NameKind.free)∈scope.names:=mem_of_lookup hfr;let⟨m,hn,hl⟩:=I.loc;have kx:=S.free _ hm rfl;let⟨u',ru,lk⟩:=hl j x w hj hv (kx.elim (λk=>.inr (.inl k)) λk=>.inr (.inr k));refine⟨u',ru,.inr ⟨.inr hfr,?_⟩⟩;rcases lk with ⟨k,_⟩|⟨_,c',ec,ic⟩
   ·have k:X.env.kindOf x=some .local:=k;rcases kx with k'|k'<;>· rw[k] at k';cases k'
   ·let⟨c'',hc'⟩:=fH (env:=X.env) (acc:=[]) (.inl hfr);have e':=clx x c'' hc';rw[ec] at e';cases e';exact⟨c',hc',ic.keeps hkeep⟩
 ·let⟨w,q⟩:=I.cell x d (clx x d e);exact⟨w,q.keeps hkeep⟩
 ·rw[yC];exact S.len σ
def xx(I:Inv X pins σ H s)(hr:dP (k+1) A)(hA:A.frames=some X.stack)(S:ix X scope N caps)(hnc:∀x∈scope.names,x.2≠.cell)
  (hN0:N[0]?=some p) (hp:scope.names.lookup p=some .local) (hNd:N.Nodup) (hco:scope.isCoroutine=false) (hgen:scope.isGenerator=false)
  (hf:s.heap.get? f=some (W.kla_obj name qual params body scope (dN X.env scope.names []) pm c ctv)) (hcod:H c=some (.cod qual)) (hb:bindArgs (W.kla_fn name qual params body scope (dN X.env scope.names []) pm (.ref c) ctv) ⟨[u],[]⟩=pure [(p,u)])
  (r:RelV v u) (hY:PE (gh X A qual scope N f c s H) body te) (q:te ((caps σ).set 0 (some v)) H Q) :
  wpAny (model X.prog X.w) A (call (.ref f) [u]) (EP X pins σ Q) (λ_ _=>False) s:=by
 have hcd:s.heap.CodeRec (.ref c) qual:=I.hok c _ hcod;refine wpAny_call (W.kla_callFunE hr.depth hf rfl hco hgen rfl hcd ?_);rw[hb];refine zW (wpAny_newFunctionEnv hnc (λy hy=>?_) (λh1 hns hsb=>⟨?_,?_⟩) S.kind)
 ·rw[List.mem_singleton.mp hy];exact hp
 ·exact I.nolimit.fresh _ hsb
 ·have hk1:∀b o,s.heap.get? b=some o->h1.get? b=some o:=λb o e=>hsb.extBut b o (yR (zY e)) (zU _ e);have I1:=HB (qual:=qual) (f:=f) (c:=c) I hr.hd hA S hnc hN0 hp hNd r hns hk1 (s.toks+[(p,u)].length);refine W.kla_codeExpr (xA (hY [] _ _ H Q I1 q) (λw s' ⟨v',H',I',r',q'⟩=>?_) λe s' h=>False.elim h);exact⟨v',H',I.call' I'.os I'.base I'.hok I'.bare (λb z=>absurd (show b∈([]:List Addr) from z) (by simp)),r',q'⟩
def zi{pos:Pos}(l:List Value)(h:TriplesOk l)(e:codeAmong pos' (l++[rawInt pos.line,rawInt pos.col,c])=some v):codeAmong pos' l=some v\/v=c:=by
 fun_induction TriplesOk l with
 | case1 =>
  simp?[xO,codeAmong,rawInt] at e;split at e
  ·cases e;exact .inr rfl
  ·cases e
 | case2 a t b u x rest ih =>
  simp?[xF,codeAmong] at e ⊢;split at e
  ·rename_i hc;rw[yL hc];exact .inl e
  ·rename_i hc;rw[yN hc];exact ih h e
 | case3 l h1 h2=>exact h.elim
def xu(I:Inv X pins σ H s)(S:ix X scope N caps)(hq:X.env.qual++"<lambda>"=qual)(hcode:X.env.code=.ref c)(C:W.CodeHd X.base c P)(hT:H P=some (.tab qual))(hB:Nz X.mg X.base)
  (hdef:defaultsOf params X.env=([],[]))
  (h:∀ (f c':Addr) (pm ctv:Value) (s':Shared) (H':Hp),Inv X pins σ H' s'->s'.heap.get? f=some (W.kla_obj "<lambda>" qual params body scope (dN X.env scope.names []) pm c' ctv)->H' f=none->H' c'=some (.cod qual)->aU H H'->cA X pins H' f->(∀b,H' b≠none->H b≠none\/H' b=some (.cod qual))->Q (.ref f) s') :
  wpAny (model X.prog X.w) X.A (eval (.Lambda params body scope lpos) X.env) Q X.xe s:=by
 have hcl:=lK (jw I.ok S.free);have hCs:=C.keeps I.bk;have hg:s.heap.Ns mainGlobals X.mg:=by
  let⟨o,es,ep,e,r⟩:=I.ok.mod.glob;exact⟨o,es,ep,I.bk _ _ e,r⟩
 have hPn:X.base.get? P=none:=by
  cases e:X.base.get? P with
  | none=>rfl
  | some o=>rw[(I.bs P o e).2] at hT;cases hT
 let⟨ps,hP,ht,hco⟩:=I.hok P _ hT;have hb:s.heap.BuiltinsAt X.mg P:=by
  let⟨bm,o,b1,b2,b3,b4,b5⟩:=hB;exact⟨bm,o,b1,b2,b3,(λz=>by rw[z,hPn] at b4;cases b4),I.bk _ _ b4,b5⟩
 refine W.kla_eval hdef ?_;rw[hq];cases hf:codeAmong lpos ps.toList with
 | some cv =>
  let⟨c',rfl,hc'⟩:=hco lpos cv hf;refine W.kla_makeFunctionHit hcl I.ok.glob hg hcode hCs hP ht hf hb λctv h' tk kp hz=>?_;have kp2:∀b o,s.heap.get? b=some o->(h'.push (W.kla_obj "<lambda>" qual params body scope (dN X.env scope.names []) ((X.mg "__name__").getD .none) c' ctv)).get? b=some o:=λb o e=>zU _ (kp b o e);have hn:H h'.objs.size=none:=I.hok.fresh hz;exact h _ c' _ ctv _ H (I.kept (t':=tk) kp2) (zX _ rfl) hn hc' (.refl _) (I.fpOk hz hn) λb z=>.inl z
 | none =>
  have hgP:mainGlobals≠P:=λz=>by
   let⟨o,es,ep,e,r⟩:=I.ok.mod.glob;rw[z,hPn] at e;cases e
  refine W.kla_makeFunction hcl I.ok.glob hg hcode hCs hP ht hf hgP hb λc' ctv h' tk hx hc1 hc2 hcr hP'=>?_;have hn:H c'=none:=I.hok.fresh hc1;have hz:s.heap.objs.size<=h'.objs.size:=jS (qZ hc1 hc2);have nP:∀ {b:Addr}{u:HO},H b=some u->(∀q,u≠.tab q)->b≠P:=λ{b u} e hne z=>by subst z;rw[hT] at e;cases e;exact hne _ rfl
  have kp:∀b o,b≠P->s.heap.get? b=some o->(h'.push (W.kla_obj "<lambda>" qual params body scope (dN X.env scope.names []) ((X.mg "__name__").getD .none) c' ctv)).get? b=some o:=λb o hb e=>zU _ (hx b o hb e);have hPc:P≠c':=λz=>by rw[<- z,hT] at hn;cases hn
  have up:∀b u,H b=some u->upd H c' (.cod qual) b=some u:=λb u e=>by rw[aA (aP e hn)];exact e
  have un:Un X.fs [] H (upd H c' (.cod qual)) s.heap (h'.push (W.kla_obj "<lambda>" qual params body scope (dN X.env scope.names []) ((X.mg "__name__").getD .none) c' ctv)):=by
   refine⟨λb o e n _ _=>kp b o (λz=>by rw[z,hT] at n;cases n) e,λb o e n _ _=>⟨o.slots,kp b o (λz=>by rw[z,hT] at n;cases n) e⟩,λb o e n _=>?_,λb o e _=>?_,λb xs e=>up b _ e,λb o u e=>up b _ e,⟨λb u e _=>up b u e,λb q ps' e z=>?_⟩⟩
   ·rw[aA (yR (zP (zY e) hc1))];exact n
   ·by_cases hb:b=P
    ·subst hb;exact⟨_,zU _ hP'⟩
    ·exact⟨o,kp b o hb e⟩
   ·by_cases hb:b=P
    ·subst hb;rw[hP] at z;cases z;exact⟨_,zU _ hP'⟩
    ·exact⟨#[],by rw[Array.append_empty];exact kp b _ hb z⟩
  have hok:oM X.prog X.w (upd H c' (.cod qual)) (h'.push (W.kla_obj "<lambda>" qual params body scope (dN X.env scope.names []) ((X.mg "__name__").getD .none) c' ctv)):=by
   intro b u e;by_cases hbc:b=c'
   ·subst hbc;rw[aI] at e;cases e;let⟨c0,oc,vs,t,e0,e1,r⟩:=hcr;exact⟨c0,oc,vs,t,e0,zU _ e1,r⟩
   ·rw[aA hbc] at e;by_cases hb:b=P
    ·subst hb;rw[hT] at e;cases e;refine⟨_,zU _ hP',?_,λpos v hv=>?_⟩
     ·have:=TriplesOk_snoc lpos.line lpos.col (.ref c') ps.toList ht;simpa using this
     ·have hv':codeAmong pos (ps.toList++[rawInt lpos.line,rawInt lpos.col,.ref c'])=some v:=by simpa using hv
      rcases zi ps.toList ht hv' with z|z
      ·let⟨c0,z1,z2⟩:=hco pos v z;exact⟨c0,z1,up _ _ z2⟩
      ·exact⟨c',z,aI⟩
    ·exact (I.hok b u e).stay (λd o hd eo=>kp d o (by
      rcases hd with rfl|hd
      ·exact hb
      ·exact nP hd λq z=>by cases z) eo) (λd hd=>up d _ hd) λd o hd _=>up d _ hd
  have I':=I.un (t':=tk) un hok;have hnf:upd H c' (.cod qual) h'.objs.size=none:=by
   rw[aA (jI hc2)];exact I.hok.fresh hz
  refine h _ c' _ ctv _ _ I' (zX _ rfl) hnf aI up (I.fpOk hz hnf) λb z=>?_;by_cases hbc:b=c'
  ·subst hbc;exact .inr aI
  ·rw[aA hbc] at z;exact .inl z
end L2
namespace Dl
open PySem L2 PySem.Spec PyProof.Rows
abbrev D:=PyData
mutual
def Rep(K:W.Frag)(H:Hp):D->V->Prop
 | .none,v=>v=.non
 | .bool b,v=>v=.bl b
 | .int i,v=>v=.int i
 | .str x,v=>v=.str x
 | .tuple ds,v=>∃a vs,v=.ref a/\iL K H a vs/\ak K H ds vs
 | .list ds,v=>∃a vs,v=.ref a/\gw K H a vs/\ak K H ds vs
 | .dict _,_=>False
def ak(K:W.Frag)(H:Hp):List D->List V->Prop
 | [],vs=>vs=[]
 | d::ds,vs=>∃v r,vs=v::r/\Rep K H d v/\ak K H ds r
end
def aE{K:W.Frag}(e:aU H H')(h:iL K H a xs):iL K H' a xs:=by
 rcases h with (h|⟨o,h⟩)|h
 ·exact .inl (.inl (e _ _ h))
 ·exact .inl (.inr ⟨o,e _ _ h⟩)
 ·exact .inr h
mutual
theorem Rep.mono{K:W.Frag}{H H':Hp}(e:aU H H'):∀ {d:D}{v:V},Rep K H d v->Rep K H' d v
 | .none,_,h=>h
 | .bool _,_,h=>h
 | .int _,_,h=>h
 | .str _,_,h=>h
 | .tuple ds,_,h=>by
  simp?[Rep] at h ⊢;let⟨a,vs,rfl,q,r⟩:=h;exact⟨a,vs,rfl,aE e q,ak.mono e r⟩
 | .list ds,_,h=>by
  simp?[Rep] at h ⊢;let⟨a,vs,rfl,q,r⟩:=h;exact⟨a,vs,rfl,e.seq q,ak.mono e r⟩
 | .dict _,_,h=>h
theorem ak.mono{K:W.Frag}{H H':Hp}(e:aU H H'):∀ {ds:List D}{vs:List V},ak K H ds vs->ak K H' ds vs
 | [],_,h=>h
 | d::ds,_,h=>by
  simp?[ak] at h ⊢;let⟨v,r,rfl,a,b⟩:=h;exact⟨v,r,rfl,Rep.mono e a,ak.mono e b⟩
end
section
variable {K:W.Frag}
def ak.nil:ak K H [] []:=by simp[ak]
def ak.cons(a:Rep K H d v)(b:ak K H ds vs):ak K H (d::ds) (v::vs):=by
 simp?[ak];exact⟨v,vs,rfl,a,b⟩
def ak.cons_inv(h:ak K H (d::ds) vs):∃v r,vs=v::r/\Rep K H d v/\ak K H ds r:=by simpa only[ak] using h
def ak.nil_inv(h:ak K H [] vs):vs=[]:=by simpa only[ak] using h
def ak.length:∀ {ds:List D}{vs:List V},ak K H ds vs->vs.length=ds.length
 | [],_,h=>by rw[h.nil_inv];rfl
 | d::ds,_,h=>by let⟨v,r,rfl,_,b⟩:=h.cons_inv;simp[ak.length b]
def ak.get:∀ {ds:List D}{vs:List V}{i:Nat}{v:V},ak K H ds vs->vs[i]?=some v->∃d,ds[i]?=some d/\Rep K H d v
 | [],_,i,v,h,e=>by rw[h.nil_inv] at e;simp at e
 | d::ds,_,i,v,h,e=>by
  let⟨v',r,rfl,a,b⟩:=h.cons_inv;cases i with
  | zero=>simp at e;subst e;exact⟨d,rfl,a⟩
  | succ i=>simp at e;let⟨d',h1,h2⟩:=ak.get b e;exact⟨d',by simpa using h1,h2⟩
def ak.getD:∀ {ds:List D}{vs:List V}{i:Nat}{d:D},ak K H ds vs->ds[i]?=some d->∃v,vs[i]?=some v/\Rep K H d v
 | [],_,i,d,h,e=>by simp at e
 | d::ds,_,i,d',h,e=>by
  let⟨v',r,rfl,a,b⟩:=h.cons_inv;cases i with
  | zero=>simp at e;subst e;exact⟨v',rfl,a⟩
  | succ i=>simp at e;let⟨v,h1,h2⟩:=ak.getD b e;exact⟨v,by simpa using h1,h2⟩
def ak.append:∀ {ds es:List D}{vs us:List V},ak K H ds vs->ak K H es us->ak K H (ds++es) (vs++us)
 | [],_,_,_,h,g=>by rw[h.nil_inv];exact g
 | d::ds,_,_,_,h,g=>by let⟨v,r,rfl,a,b⟩:=h.cons_inv;exact ak.cons a (ak.append b g)
def ak.take:∀ {ds:List D}{vs:List V}(n:Nat),ak K H ds vs->ak K H (ds.take n) (vs.take n)
 | [],_,n,h=>by rw[h.nil_inv];simp[ak]
 | d::ds,_,0,h=>by simp[ak]
 | d::ds,_,n+1,h=>by let⟨v,r,rfl,a,b⟩:=h.cons_inv;exact ak.cons a (ak.take n b)
def ak.drop:∀ {ds:List D}{vs:List V}(n:Nat),ak K H ds vs->ak K H (ds.drop n) (vs.drop n)
 | [],_,n,h=>by rw[h.nil_inv];simp[ak]
 | d::ds,_,0,h=>h
 | d::ds,_,n+1,h=>by let⟨v,r,rfl,a,b⟩:=h.cons_inv;exact ak.drop n b
end
structure bY(HF H HF' H':Hp):Prop where
 hh:aU H H'
 ff:aU HF HF'
 fh:aU HF' H'
 nw:∀a o,HF' a=some o->HF a=some o\/H a=none
def bY.refl(s:aU HF H):bY HF H HF H:=⟨.refl _,.refl _,s,λ_ _ e=>.inl e⟩
def bY.trans(a:bY HF H HF1 H1)(b:bY HF1 H1 HF2 H2):bY HF H HF2 H2 :=
 ⟨a.hh.trans b.hh,a.ff.trans b.ff,b.fh,λx o e=>(b.nw x o e).elim (λz=>a.nw x o z) λz=>.inr (a.hh.free z)⟩
def cU(h:H p=none):aU H (upd H p o):=λb u e=>by rw[aA (aP e h)];exact e
def bY.new(s:aU HF H)(h:H p=none):bY HF H (upd HF p o) (upd H p o):=by
 have hf:HF p=none:=s.free h;refine⟨cU h,cU hf,λb u e=>?_,λb u e=>?_⟩
 ·by_cases hb:b=p
  ·subst hb;rw[aI] at e ⊢;exact e
  ·rw[aA hb] at e ⊢;exact s b u e
 ·by_cases hb:b=p
  ·subst hb;exact .inr h
  ·rw[aA hb] at e;exact .inl e
def bY.own(s:aU HF H)(h:H p=none):bY HF H HF (upd H p o) :=
 ⟨cU h,.refl _,λb u e=>by rw[aA (aP (s b u e) h)];exact s b u e,λ_ _ e=>.inl e⟩
def bY.freeze(g:bY HF H HF1 H1)(h:H p=none)(h1:H1 p=some o)(hf:HF1 p=none):bY HF H (upd HF1 p o) H1 :=
 ⟨g.hh,g.ff.trans (cU hf),λb u e=>by
  by_cases hb:b=p
  ·subst hb;rw[aI] at e;rw[h1,<- e]
  ·rw[aA hb] at e;exact g.fh b u e,λb u e=>by
  by_cases hb:b=p
  ·subst hb;exact .inr h
  ·rw[aA hb] at e;exact g.nw b u e⟩
def jc:List Str:=["ways_of","turned_order","fairest"]
def fQ(K:W.Frag)(HF:Hp):Prop:=∀ (f:Addr) (oc:Value) (od:Option Addr) (fd:FuncData) (sl:Array (Option Value)) (c P:Addr),K.lookup f=some ⟨oc,od,.func fd,sl⟩->fd.qualname∈jc->fd.code=.ref c->W.codeHdIn K c P=true->HF P=some (.tab (fd.qualname++".<locals>."++"<lambda>"))
def fQ.mono{K:W.Frag}(h:fQ K HF)(e:aU HF HF'):fQ K HF':=λf oc od fd sl c P a b d q=>e _ _ (h f oc od fd sl c P a b d q)
abbrev Env:=List (Option D)
structure cL(K:W.Frag)(HF:Hp)(ρ:Env)(σ:L2.St):Prop where
 get:∀ (i:Nat) (d:D),ρ[i]?=some (some d)->∃v,σ[i]?=some (some v)/\Rep K HF d v
 len:ρ.length<=σ.length
 tb:fQ K HF
def cL.mono{K:W.Frag}(h:cL K HF ρ σ)(e:aU HF HF'):cL K HF' ρ σ:=⟨λi d q=>let ⟨v,a,b⟩:=h.get i d q;⟨v,a,b.mono e⟩,h.len,h.tb.mono e⟩
def tD(K:W.Frag)(f:Env->Option D):TE:=λσ H Q=>∃HF ρ d,aU HF H/\cL K HF ρ σ/\f ρ=some d/\∀v H' HF',bY HF H HF' H'->Rep K HF' d v->Q v H'
def DE(X:Cx)(e:Expr)(f:Env->Option D):Prop:=PE X e (tD X.K f)
def tF(K:W.Frag)(f:Env->Option (List D)):TE:=λσ H Q=>∃HF ρ ds,aU HF H/\cL K HF ρ σ/\f ρ=some ds /\
 ∀a vs H' HF',bY HF H HF' H'->H a=none->HF' a=none->H' a=some (.lst vs)->ak K HF' ds vs->Q (.ref a) H'
def DF(X:Cx)(e:Expr)(f:Env->Option (List D)):Prop:=PE X e (tF X.K f)
def J2(K:W.Frag)(f:Env->Option Bool):TT:=λσ H Q=>∃HF ρ b,aU HF H/\cL K HF ρ σ/\f ρ=some b/\∀H' HF',bY HF H HF' H'->Q b H'
def DT(X:Cx)(e:Expr)(f:Env->Option Bool):Prop:=PT X e (J2 X.K f)
def NR(K:W.Frag)(f:Env->Option (List D)):TA:=λσ H Q=>∃HF ρ ds,aU HF H/\cL K HF ρ σ/\f ρ=some ds/\∀vs H' HF',bY HF H HF' H'->ak K HF' ds vs->Q vs H'
def DA(X:Cx)(es:List Expr)(f:Env->Option (List D)):Prop:=PA X es (NR X.K f)
def bc(h:PE X e t)(i:∀σ H Q,t' σ H Q->t σ H Q):PE X e t':=λpins s σ H Q I q=>h pins s σ H Q I (i σ H Q q)
def tV(h:PT X e t)(i:∀σ H Q,t' σ H Q->t σ H Q):PT X e t':=λpins s σ H Q I q=>h pins s σ H Q I (i σ H Q q)
def Eg(h:PA X e t)(i:∀σ H Q,t' σ H Q->t σ H Q):PA X e t':=λpos pins s σ H Q I q=>h pos pins s σ H Q I (i σ H Q q)
def bs(h:x.bind f=some b):∃a,x=some a/\f a=some b:=by
 cases x with
 | none=>cases h
 | some a=>exact⟨a,rfl,h⟩
def DF.de(h:DF X e f):DE X e (λρ=>(f ρ).map PyData.list):=bc h λσ H Q ⟨HF,ρ,d,sm,eo,hf,q⟩=>by
 have hf:(f ρ).map PyData.list=some d:=hf;cases e1:f ρ with
 | none=>rw[e1] at hf;cases hf
 | some ds =>
  rw[e1] at hf;obtain rfl:PyData.list ds=d:=xD hf;refine⟨HF,ρ,ds,sm,eo,e1,λa vs H' HF' g ha hf' h' r=>q _ _ (upd HF' a (.lst vs)) (g.freeze ha h' hf') ?_⟩;simp?[Rep];exact⟨a,vs,rfl,.inl (.inl aI),r.mono (cU hf')⟩
def ab(i:Nat):Env->Option D:=λρ=>(ρ[i]?).getD none
def LM(i:Nat)(hN:X.N[i]?=some x)(hv:Jb X.env.scope x)(hd:(x == ("__debug__":Str))=false:=by decide)(hcd:(x == ("__classdict__":Str))=false:=by decide):DE X (.Name x pos) (ab i) :=
 bc (pH hN hv hd hcd) λσ H Q ⟨HF,ρ,d,sm,eo,hf,q⟩=>by
  have hf:(ρ[i]?).getD none=some d:=hf;cases e:ρ[i]? with
  | none=>rw[e] at hf;cases hf
  | some o =>
   rw[e] at hf;have hf:o=some d:=hf;subst hf;let⟨v,a,b⟩:=eo.get i d e;exact⟨v,a,q v H HF (.refl sm) b⟩
def fC(d:D):Env->Option D:=λ_=>some d
def J5{i j pos}:DE X (.Constant (.int i) j pos) (fC (.int i)):=bc LF λσ H Q ⟨HF,ρ,d,sm,eo,hf,q⟩=>by cases hf;exact q _ H HF (.refl sm) (by simp[Rep])
def MH{b j pos}:DE X (.Constant (.bool b) j pos) (fC (.bool b)):=bc MS λσ H Q ⟨HF,ρ,d,sm,eo,hf,q⟩=>by cases hf;exact q _ H HF (.refl sm) (by simp[Rep])
def JO{j pos}:DE X (.Constant .none j pos) (fC .none):=bc K5 λσ H Q ⟨HF,ρ,d,sm,eo,hf,q⟩=>by cases hf;exact q _ H HF (.refl sm) (by simp[Rep])
def Lp{x j pos}:DE X (.Constant (.str x) j pos) (fC (.str x)):=bc KL λσ H Q ⟨HF,ρ,d,sm,eo,hf,q⟩=>by cases hf;exact q _ H HF (.refl sm) (by simp[Rep])
def Iw(hg:Gl X x)(hm:X.mg x=some (.int i t))(hd:(x == ("__debug__":Str))=false:=by decide):DE X (.Name x pos) (fC (.int i)) :=
 bc (HU (v:=.int i) hg hm ⟨t,rfl⟩ hd) λσ H Q ⟨HF,ρ,d,sm,eo,hf,q⟩=>by cases hf;exact q _ H HF (.refl sm) (by simp[Rep])
def ft(K:W.Frag)(r:R2)(g:D->D->Option D):Prop:=∀HF H x y v1 v2 d Q,aU HF H->Rep K HF x v1->Rep K HF y v2->g x y=some d->(∀v H' HF',bY HF H HF' H'->Rep K HF' d v->Q v H')->r v1 v2 H Q
def f2(g:D->D->Option D)(f1 f2:Env->Option D):Env->Option D:=λρ=>(f1 ρ).bind λx=>(f2 ρ).bind λy=>g x y
def HI{X:Cx}{fa fb:Env->Option D}(hr:ft X.K r g):∀σ H Q,tD X.K (f2 g fa fb) σ H Q->Mo r (tD X.K fa) (tD X.K fb) σ H Q:=λσ H Q ⟨HF,ρ,d,sm,eo,hf,q⟩=>by
 let⟨x,hx,hf⟩:=bs hf;let⟨y,hy,hg⟩:=bs hf;exact⟨HF,ρ,x,sm,eo,hx,λv1 H1 HF1 g1 r1=>⟨HF1,ρ,y,g1.fh,eo.mono g1.ff,hy,λv2 H2 HF2 g2 r2=>hr HF2 H2 x y v1 v2 d Q g2.fh (r1.mono g2.ff) r2 hg λv H' HF' g3 r3=>q v H' HF' ((g1.trans g2).trans g3) r3⟩⟩
def wt(ho:ie X (binaryOp op) r)(hr:ft X.K r g)(ha:DE X a fa)(hb:DE X b fb):DE X (.BinOp a op b pos) (f2 g fa fb):=bc (IX ho ha hb) (HI hr)
def js(ho:ie X (compareOp op) r)(hr:ft X.K r g)(ha:DE X a fa)(hb:DE X b fb)(hm:behindInMarks op b=false):DE X (.Compare a [op] [b] pos) (f2 g fa fb):=bc (Ij ho ha hb hm) (HI hr)
def uR(C:Int->Int->Prop)[∀i j,Decidable (C i j)](g:Int->Int->D):D->D->Option D
 | .int i,.int j=>if C i j then some (g i j) else none
 | _,_=>none
def EU{K:W.Frag}{C:Int->Int->Prop}[∀i j,Decidable (C i j)]{gi:Int->Int->Int}:ft K (rI C λi j=>.int (gi i j)) (uR C λi j=>.int (gi i j)):=by
 intro HF H x y v1 v2 d Q sm r1 r2 hg q;cases x<;>cases y<;>simp?[uR] at hg<;>try cases hg
 rename_i i j;simp?[Rep] at r1 r2;by_cases hc:C i j
 ·rw[yL hc] at hg;cases hg;exact⟨i,j,r1,r2,hc,q _ H HF (.refl sm) (by simp[Rep])⟩
 ·rw[yN hc] at hg;cases hg
def DD{K:W.Frag}{gi:Int->Int->Int}:ft K (GE λi j=>.int (gi i j)) (uR (λ_ _=>True) λi j=>.int (gi i j)):=by
 intro HF H x y v1 v2 d Q sm r1 r2 hg q;cases x<;>cases y<;>simp?[uR] at hg<;>try cases hg
 rename_i i j;simp?[Rep] at r1 r2;exact⟨i,j,r1,r2,q _ H HF (.refl sm) (by simp[Rep])⟩
def ju{K:W.Frag}{gi:Int->Int->Bool}:ft K (GE λi j=>.bl (gi i j)) (uR (λ_ _=>True) λi j=>.bool (gi i j)):=by
 intro HF H x y v1 v2 d Q sm r1 r2 hg q;cases x<;>cases y<;>simp?[uR] at hg<;>try cases hg
 rename_i i j;simp?[Rep] at r1 r2;exact⟨i,j,r1,r2,q _ H HF (.refl sm) (by simp[Rep])⟩
noncomputable instance (i j:Int):Decidable (um i j):=by unfold um;infer_instance
noncomputable instance (i j:Int):Decidable (GW i j):=by unfold GW;infer_instance
section
variable {X:Cx}{a b c:Expr}{fa fb fc:Env->Option D}{pos:Pos}{rest:List Expr}
def kn(fa fb:Env->Option D):Env->Option D:=λρ=>(fa ρ).bind fun|.bool true=>fb ρ|.bool false=>some (.bool false)|_=>none
def Ol(fa fb:Env->Option D):Env->Option D:=λρ=>(fa ρ).bind fun|.bool true=>some (.bool true)|.bool false=>fb ρ|_=>none
def MR:D->Option D|.bool b=>some (.bool (!b))|_=>none
def Of(fa:Env->Option D):Env->Option D:=λρ=>(fa ρ).bind MR
def JK{op}(h:DE X a fa):DE X (.BoolOp op [a] pos) fa:=Kp h
def Ld(ha:DE X a fa)(hb:DE X (.BoolOp .And (b::rest) pos) fb):DE X (.BoolOp .And (a::b::rest) pos) (kn fa fb):=bc (JI ha hb) λσ H Q ⟨HF,ρ,d,sm,eo,hf,q⟩=>by
 let⟨x,hx,hf⟩:=bs hf;refine⟨HF,ρ,x,sm,eo,hx,λv1 H1 HF1 g1 r1=>?_⟩;cases x<;>try cases hf
 rename_i k;simp?[Rep] at r1;refine⟨k,r1,?_⟩;cases k with
 | true=>exact wY ⟨HF1,ρ,d,g1.fh,eo.mono g1.ff,hf,λv H' HF' g r=>q v H' HF' (g1.trans g) r⟩
 | false=>cases hf;exact vi (q _ H1 HF1 g1 (by simp[Rep]))
def ML(ha:DE X a fa)(hb:DE X (.BoolOp .Or (b::rest) pos) fb):DE X (.BoolOp .Or (a::b::rest) pos) (Ol fa fb):=bc (Fg ha hb) λσ H Q ⟨HF,ρ,d,sm,eo,hf,q⟩=>by
 let⟨x,hx,hf⟩:=bs hf;refine⟨HF,ρ,x,sm,eo,hx,λv1 H1 HF1 g1 r1=>?_⟩;cases x<;>try cases hf
 rename_i k;simp?[Rep] at r1;refine⟨k,r1,?_⟩;cases k with
 | false=>exact vi ⟨HF1,ρ,d,g1.fh,eo.mono g1.ff,hf,λv H' HF' g r=>q v H' HF' (g1.trans g) r⟩
 | true=>cases hf;exact wY (q _ H1 HF1 g1 (by simp[Rep]))
def gB:D->Option Bool|.bool b=>some b|_=>none
def fB(f:Env->Option D):Env->Option Bool:=λρ=>(f ρ).bind gB
def z9:∀σ H (Q:Bool->Hp->Prop),J2 X.K (fB f) σ H Q->tD X.K f σ H λx H1=>∃c,x=.bl c/\Q c H1:=λσ H Q ⟨HF,ρ,k,sm,eo,hf,q⟩=>by
 let⟨x,hx,hf⟩:=bs hf;refine⟨HF,ρ,x,sm,eo,hx,λv1 H1 HF1 g1 r1=>?_⟩;cases x<;>try cases hf
 simp?[Rep] at r1;exact⟨_,r1,q H1 HF1 g1⟩
def LO(h:DE X a f)(he:∀whole,isTrue a X.env whole=(do let v <- whole;standAt a.pos;holding [v] (truthy v)):=by intro _;rfl):DT X a (fB f):=tV (Lm h he) z9
def i6(ho:ie X (compareOp op) r)(hr:ft X.K r g)(ha:DE X a fa)(hb:DE X b fb)(hm:behindInMarks op b=false):DT X (.Compare a [op] [b] pos) (fB (f2 g fa fb)) :=
 tV (Hj ho ha hb hm) λσ H Q h=>HI hr σ H _ (z9 σ H Q h)
def oz(fa fb:Env->Option Bool):Env->Option Bool:=λρ=>(fa ρ).bind fun|true=>fb ρ|false=>some false
def gp(fa fb:Env->Option Bool):Env->Option Bool:=λρ=>(fa ρ).bind fun|true=>some true|false=>fb ρ
def bF(fa:Env->Option Bool):Env->Option Bool:=λρ=>(fa ρ).map (!·)
variable {ta tb:Env->Option Bool}
def DW(X:Cx)(e:Expr)(f:Env->Option Bool):Prop:=PW X e (J2 X.K f)
def Dv(h:PW X e t)(i:∀σ H Q,t' σ H Q->t σ H Q):PW X e t':=λwh pins s σ H Q I q=>h wh pins s σ H Q I (i σ H Q q)
def DW.dt(h:DW X a ta):DT X a ta:=PW.pt h
def Gv(ha:DT X a ta):DW X (.BoolOp .And [a] pos) ta:=HN ha
def JY(ha:DT X a ta):DW X (.BoolOp .Or [a] pos) ta:=KF ha
def Kz(ha:DT X a ta)(hb:DW X (.BoolOp .And (b::rest) pos) tb):DW X (.BoolOp .And (a::b::rest) pos) (oz ta tb):=Dv (KC ha hb) λσ H Q ⟨HF,ρ,d,sm,eo,hf,q⟩=>by
 let⟨x,hx,hf⟩:=bs hf;refine⟨HF,ρ,x,sm,eo,hx,λH1 HF1 g1=>?_⟩;cases x with
 | true=>exact wY ⟨HF1,ρ,d,g1.fh,eo.mono g1.ff,hf,λH' HF' g=>q H' HF' (g1.trans g)⟩
 | false=>cases hf;exact vi (q H1 HF1 g1)
def Mp(ha:DT X a ta)(hb:DW X (.BoolOp .Or (b::rest) pos) tb):DW X (.BoolOp .Or (a::b::rest) pos) (gp ta tb):=Dv (MT ha hb) λσ H Q ⟨HF,ρ,d,sm,eo,hf,q⟩=>by
 let⟨x,hx,hf⟩:=bs hf;refine⟨HF,ρ,x,sm,eo,hx,λH1 HF1 g1=>?_⟩;cases x with
 | false=>exact vi ⟨HF1,ρ,d,g1.fh,eo.mono g1.ff,hf,λH' HF' g=>q H' HF' (g1.trans g)⟩
 | true=>cases hf;exact wY (q H1 HF1 g1)
def J6(ha:DT X a ta):DT X (.UnaryOp .Not a pos) (bF ta):=tV (Ka ha) λσ H Q ⟨HF,ρ,d,sm,eo,hf,q⟩=>by
 have hf:(ta ρ).map (!·)=some d:=hf;cases e:ta ρ with
 | none=>rw[e] at hf;cases hf
 | some k=>rw[e] at hf;cases hf;exact⟨HF,ρ,k,sm,eo,e,λH1 HF1 g1=>q H1 HF1 g1⟩
def OJ(tc:Env->Option Bool)(fa fb:Env->Option D):Env->Option D:=λρ=>(tc ρ).bind fun|true=>fa ρ|false=>fb ρ
def Nk(hc:DT X c ta)(ha:DE X a fa)(hb:DE X b fb):DE X (.IfExp c a b pos) (OJ ta fa fb):=bc (EJ hc ha hb) λσ H Q ⟨HF,ρ,d,sm,eo,hf,q⟩=>by
 let⟨x,hx,hf⟩:=bs hf;refine⟨HF,ρ,x,sm,eo,hx,λH1 HF1 g1=>?_⟩;cases x with
 | true=>exact wY ⟨HF1,ρ,d,g1.fh,eo.mono g1.ff,hf,λv H' HF' g r=>q v H' HF' (g1.trans g) r⟩
 | false=>exact vi ⟨HF1,ρ,d,g1.fh,eo.mono g1.ff,hf,λv H' HF' g r=>q v H' HF' (g1.trans g) r⟩
def jr(g g':D->D->Option D)(fa fb fc:Env->Option D):Env->Option D:=λρ=>(fa ρ).bind λx=>(fb ρ).bind λy=>(g x y).bind fun|.bool true=>(fc ρ).bind λz=>g' y z|.bool false=>some (.bool false)|_=>none
def Bw(hr:ft X.K r g)(hr':ft X.K r' g'):∀σ H Q,tD X.K (jr g g' fa fb fc) σ H Q->za r r' (tD X.K fa) (tD X.K fb) (tD X.K fc) σ H Q:=λσ H Q ⟨HF,ρ,d,sm,eo,hf,q⟩=>by
 let⟨x,hx,hf⟩:=bs hf;let⟨y,hy,hf⟩:=bs hf;let⟨z,hz,hf⟩:=bs hf;refine⟨HF,ρ,x,sm,eo,hx,λv1 H1 HF1 g1 r1=>⟨HF1,ρ,y,g1.fh,eo.mono g1.ff,hy,λv2 H2 HF2 g2 r2=>hr HF2 H2 x y v1 v2 z _ g2.fh (r1.mono g2.ff) r2 hz λv3 H3 HF3 g3 r3=>?_⟩⟩;cases z<;>try cases hf
 rename_i k;simp?[Rep] at r3;refine⟨k,r3,?_⟩;have G:=(g1.trans g2).trans g3;cases k with
 | false=>cases hf;exact vi (q _ H3 HF3 G (by simp[Rep]))
 | true =>
  let⟨w,hw,hg⟩:=bs hf;exact wY ⟨HF3,ρ,w,G.fh,eo.mono G.ff,hw,λv4 H4 HF4 g4 r4=>hr' HF4 H4 y w v2 v4 d Q g4.fh (r2.mono (g3.ff.trans g4.ff)) r4 hg λv H' HF' g5 r5=>q v H' HF' ((G.trans g4).trans g5) r5⟩
def F2(ho:ie X (compareOp op) r)(hr:ft X.K r g)(ho':ie X (compareOp op') r')(hr':ft X.K r' g')(ha:DE X a fa)(hb:DE X b fb)(hc:DE X c fc)
  (hm:lastMarks [op,op'] [b,c]=false:=by with_unfolding_all rfl):DE X (.Compare a [op,op'] [b,c] pos) (jr g g' fa fb fc):=bc (Fe ho ho' ha hb hc hm) (Bw hr hr')
def D1(ho:ie X (compareOp op) r)(hr:ft X.K r g)(ho':ie X (compareOp op') r')(hr':ft X.K r' g')(ha:DE X a fa)(hb:DE X b fb)(hc:DE X c fc)
  (hm:lastMarks [op,op'] [b,c]=false:=by with_unfolding_all rfl):DT X (.Compare a [op,op'] [b,c] pos) (fB (jr g g' fa fb fc)) :=
 tV (Fu ho ho' ha hb hc hm) λσ H Q h=>Bw hr hr' σ H _ (z9 σ H Q h)
def ae:Env->Option (List D):=λ_=>some []
def aa(f:Env->Option D)(g:Env->Option (List D)):Env->Option (List D):=λρ=>(f ρ).bind λx=>(g ρ).map (x::·)
def E2:DA X [] ae:=Eg dQ λσ H Q ⟨HF,ρ,d,sm,eo,hf,q⟩=>by cases hf;exact q [] H HF (.refl sm) ak.nil
def Bt(he:DE X e f)(hs:DA X es g)(hst:starEach (e::es) X.env=(false,eval e X.env)::starEach es X.env:=by rfl):DA X (e::es) (aa f g) :=
 Eg (cm he hs hst) λσ H Q ⟨HF,ρ,d,sm,eo,hf,q⟩=>by
  let⟨x,hx,hf⟩:=bs hf;have hf:(g ρ).map (x::·)=some d:=hf;cases e1:g ρ with
  | none=>rw[e1] at hf;cases hf
  | some xs =>
   rw[e1] at hf;cases hf;exact⟨HF,ρ,x,sm,eo,hx,λv1 H1 HF1 g1 r1=>⟨HF1,ρ,xs,g1.fh,eo.mono g1.ff,e1,λvs H2 HF2 g2 r2=>q (v1::vs) H2 HF2 (g1.trans g2) (ak.cons (r1.mono g2.ff) r2)⟩⟩
variable {es:List Expr}{fs:Env->Option (List D)}
def small(ds:List D):Option (List D):=if ds.length<=sizeLine then some ds else none
def dW{ds es:List D}(h:small ds=some es):es=ds/\ds.length<=sizeLine:=by
 unfold small at h;split at h
 ·cases h;exact⟨rfl,‹_›⟩
 ·cases h
def aS(g:Env->Option (List D)):Env->Option D:=λρ=>(g ρ).bind λds=>(small ds).map PyData.tuple
def dJ(g:Env->Option (List D)):Env->Option (List D):=λρ=>(g ρ).bind small
def Ke{x1}(h:DA X es fs):DE X (.Tuple es x1 pos) (aS fs):=bc (J9 h) λσ H Q ⟨HF,ρ,d,sm,eo,hf,q⟩=>by
 let⟨ds,hx,hf⟩:=bs hf;have hf:(small ds).map PyData.tuple=some d:=hf;cases e:small ds with
 | none=>rw[e] at hf;cases hf
 | some es' =>
  rw[e] at hf;cases hf;let⟨rfl,hz⟩:=dW e;refine⟨HF,ρ,_,sm,eo,hx,λvs H1 HF1 g1 r1=>⟨by rw[r1.length];exact hz,λp hp=>q _ _ (upd HF1 p (.tup vs)) (g1.trans (.new g1.fh hp)) ?_⟩⟩;simp?[Rep];exact⟨p,vs,rfl,.inl (.inl aI),r1.mono (cU (g1.fh.free hp))⟩
def Kh(h:DA X es fs):DF X (.List es pos) (dJ fs):=bc (LA h) λσ H Q ⟨HF,ρ,d,sm,eo,hf,q⟩=>by
 let⟨ds,hx,hf⟩:=bs hf;let⟨rfl,hz⟩:=dW hf;exact⟨HF,ρ,_,sm,eo,hx,λvs H1 HF1 g1 r1=>⟨by rw[r1.length];exact hz,λp hp=>q p vs _ HF1 (g1.trans (.own g1.fh hp)) (g1.hh.free hp) (g1.fh.free hp) aI r1⟩⟩
def av:D->D->Option D
 | .tuple ds,.int i=>tG ds i
 | .list ds,.int i=>tG ds i
 | _,_=>none
def ye{K:W.Frag}(r:ak K HF ds vs)(h:tG ds i=some d):∃v,tG vs i=some v/\Rep K HF d v:=by
 unfold tG at h ⊢;rw[r.length];let⟨j,hj,h⟩:=bs h;let⟨v,a,b⟩:=r.getD h;exact⟨v,by rw[hj];exact a,b⟩
def LJ{K:W.Frag}:ft K (OQ K) av:=by
 intro HF H x y v1 v2 d Q sm r1 r2 hg q;cases x<;>cases y<;>simp?[av] at hg<;>try cases hg
 ·simp?[Rep] at r1 r2;let⟨a,vs,rfl,hs,r⟩:=r1;let⟨v,hv,rv⟩:=ye r hg;exact .inl ⟨a,vs,_,v,rfl,r2,sm.seq hs,hv,q v H HF (.refl sm) rv⟩
 ·simp?[Rep] at r1 r2;let⟨a,vs,rfl,hs,r⟩:=r1;let⟨v,hv,rv⟩:=ye r hg;exact .inr (.inl ⟨a,vs,_,v,rfl,r2,aE sm hs,hv,q v H HF (.refl sm) rv⟩)
def Mj(ha:DE X a fa)(hb:DE X b fb)(hs:ui b:=by intro _ _;rfl):DE X (.Subscript a b pos) (f2 av fa fb):=bc (MF Lr ha hb hs) (HI LJ)
mutual
theorem fM{pins:List (Addr×Obj)}{σ:L2.St}{H HF:Hp}{s:Shared}(I:Inv X pins σ H s)(sm:aU HF H):∀ {d:D}{v:V}{u:Value},Rep X.K HF d v->RelV v u->∃as,Reads s.heap u d as
 | .none,_,_,h,r=>by simp?[Rep] at h;subst h;cases r;exact⟨_,.none⟩
 | .bool b,_,_,h,r=>by simp?[Rep] at h;subst h;cases r;exact⟨_,.bool b⟩
 | .int i,_,_,h,r=>by simp?[Rep] at h;subst h;let⟨t,rfl⟩:=r;exact⟨_,.int i t⟩
 | .str i,_,_,h,r=>by simp?[Rep] at h;subst h;let⟨t,rfl⟩:=r;exact⟨_,.str i t⟩
 | .tuple ds,_,_,h,r=>by
  simp?[Rep] at h;let⟨a,vs,rfl,hs,rr⟩:=h;cases r;let⟨its,rv,⟨o,ho,hc,n,hd⟩,_⟩:=I.tuple (aE sm hs);let⟨as,q⟩:=nW I sm rr rv;exact⟨as,.tuple ho hc hd (by simpa using q)⟩
 | .list ds,_,_,h,r=>by
  simp?[Rep] at h;let⟨a,vs,rfl,hs,rr⟩:=h;cases r;let⟨its,rv,pl,_⟩:=I.list (sm.seq hs);let⟨o,ho,hc,n,hd⟩:=pl.isList;let⟨as,q⟩:=nW I sm rr rv;exact⟨_,.list ho hc hd (by simpa using q)⟩
 | .dict _,_,_,h,r=>by simp?[Rep] at h
theorem nW{pins:List (Addr×Obj)}{σ:L2.St}{H HF:Hp}{s:Shared}(I:Inv X pins σ H s)(sm:aU HF H):∀ {ds:List D}{vs:List V}{us:List Value},ak X.K HF ds vs->aJ vs us->∃as,ReadsAll s.heap us ds as
 | [],_,_,h,r=>by rw[h.nil_inv] at r;cases r;exact⟨_,.nil⟩
 | d::ds,_,_,h,r=>by
  let⟨v,vr,rfl,a,b⟩:=h.cons_inv;cases r with
  | cons r rr =>
   let⟨as,q⟩:=fM I sm a r;let⟨bs,p⟩:=nW I sm b rr;exact⟨_,.cons q p⟩
end
def MV(K:W.Frag)(g:D->D->Option Bool):R2:=λv1 v2 H Q=>∃HF x y k,aU HF H/\Rep K HF x v1/\Rep K HF y v2/\g x y=some k/\Q (.bl k) H
def iM{K:W.Frag}:ft K (MV K g) (λx y=>(g x y).map PyData.bool):=by
 intro HF H x y v1 v2 d Q sm r1 r2 hg q;have hg:(g x y).map PyData.bool=some d:=hg;cases e:g x y with
 | none=>rw[e] at hg;cases hg
 | some k=>rw[e] at hg;cases hg;exact⟨HF,x,y,k,sm,r1,r2,e,q _ H HF (.refl sm) (by simp[Rep])⟩
def KY(x y:D):Option Bool:=if SeqAt.shaped x=true/\SeqAt.shaped y=true then some (PyData.eqv x y) else none
def LV(x y:D):Option Bool:=if SeqAt.shaped x=true/\SeqAt.shaped y=true then some (!PyData.eqv x y) else none
def Fy(hu:X.A.units+64 < cLine):ie X (compareOp .Eq) (MV X.K KY):=by
 intro pins s σ H v1 v2 u1 u2 Q I rx ry h;let⟨HF,x,y,k,sm,r1,r2,hg,q⟩:=h;unfold KY at hg;split at hg<;>cases hg;rename_i hh;let⟨as,ra⟩:=fM I sm r1 rx;let⟨bs,rb⟩:=fM I sm r2 ry;exact eq_dataH ra rb hh.1 hh.2 hu ⟨.bl _,H,I,rfl,q⟩
def Ga(hu:X.A.units+64 < cLine):ie X (compareOp .NotEq) (MV X.K LV):=by
 intro pins s σ H v1 v2 u1 u2 Q I rx ry h;let⟨HF,x,y,k,sm,r1,r2,hg,q⟩:=h;unfold LV at hg;split at hg<;>cases hg;rename_i hh;let⟨as,ra⟩:=fM I sm r1 rx;let⟨bs,rb⟩:=fM I sm r2 ry;exact ne_dataH ra rb hh.1 hh.2 hu ⟨.bl _,H,I,rfl,q⟩
def items:D->Option (List D)|.tuple ds=>some ds|.list ds=>some ds|_=>none
end
def Nj(K:W.Frag)(n:Nat)(m:List D->Option D):Sp:=λvs H Q _=>∃HF ds d,aU HF H/\fQ K HF/\ak K HF ds vs/\ds.length=n/\m ds=some d/\∀v H' HF',bY HF H HF' H'->Rep K HF' d v->Q v H'
structure F3(P:Program)(w:World)(K:W.Frag)(mg:Str->Option Value)(base:Heap)(k:Nat)(x:Str)(n:Nat)(m:List D->Option D):Prop where
 ex:∃ (f:Addr) (fd:FuncData) (ps:List Str),pD P w K mg base LW k f fd ps (Nj K n m)/\mg x=some (.ref f)/\W.keepIn K (.ref f)=true/\Binds K fd ps []
def F3.mono{K:W.Frag}(F:F3 P w K mg base k x n m)(h:k<=j):F3 P w K mg base j x n m:=by
 let⟨f,fd,ps,a,b,c,d⟩:=F.ex;exact⟨f,fd,ps,a.mono h,b,c,d⟩
def ah(n:Nat)(m:List D->Option D)(fs:Env->Option (List D)):Env->Option D:=λρ=>(fs ρ).bind λds=>if ds.length=n then m ds else none
def Iu(F:F3 X.prog X.w X.K X.mg X.base k x n m)(hr:dP k X.A)(hg:Gl X x)(ha:DA X (e::es) fs)(hdb:(x == ("__debug__":Str))=false:=by decide)
  (he:starEach (e::es) X.env=(false,eval e X.env)::starEach es X.env:=by rfl) (hpl:(backTo pos (starEach es X.env)).any (·.1)=false:=by rfl):DE X (.Call (.Name x p) (e::es) [] pos) (ah n m fs):=by
 let⟨f,fd,ps,ok,hm,hk,hb⟩:=F.ex;refine bc (G6 (E:=E0) ok hr hg hm hk hb .nil MN ha hdb he hpl) λσ H Q ⟨HF,ρ,d,sm,eo,hf,q⟩=>?_;let⟨ds,hx,hf⟩:=bs hf;split at hf
 ·rename_i hl;exact⟨HF,ρ,ds,sm,eo,hx,λvs H1 HF1 g1 r1=>⟨HF1,ds,d,g1.fh,eo.tb.mono g1.ff,by rw[qF];exact r1,hl,hf,λv H' HF' g r=>q v H' HF' (g1.trans g) r⟩⟩
 ·cases hf
def DL(K:W.Frag)(r:List V->Hp->VK->Prop)(g:List D->Option D):Prop:=∀HF H ds vs d Q,aU HF H->ak K HF ds vs->g ds=some d->(∀v H' HF',bY HF H HF' H'->Rep K HF' d v->Q v H')->r vs H Q
def bu(g:List D->Option D)(fs:Env->Option (List D)):Env->Option D:=λρ=>(fs ρ).bind g
def MC{X:Cx}{fs:Env->Option (List D)}(hs:DL X.K r g):∀σ H Q,tD X.K (bu g fs) σ H Q->NC r (NR X.K fs) σ H Q:=λσ H Q ⟨HF,ρ,d,sm,eo,hf,q⟩=>by
 let⟨ds,hx,hf⟩:=bs hf;exact⟨HF,ρ,ds,sm,eo,hx,λvs H1 HF1 g1 r1=>hs HF1 H1 ds vs d Q g1.fh r1 hf λv H' HF' g2 r2=>q v H' HF' (g1.trans g2) r2⟩
def Jw(K:W.Frag)(r:List V->Hp->VK->Prop)(g:List D->Option (List D)):Prop:=∀HF H ds vs es Q,aU HF H->ak K HF ds vs->g ds=some es ->
 (∀a us H' HF',bY HF H HF' H'->H a=none->HF' a=none->H' a=some (.lst us)->ak K HF' es us->Q (.ref a) H')->r vs H Q
def rh(g:List D->Option (List D))(fs:Env->Option (List D)):Env->Option (List D):=λρ=>(fs ρ).bind g
def MZ{X:Cx}{fs:Env->Option (List D)}(hs:Jw X.K r g):∀σ H Q,tF X.K (rh g fs) σ H Q->NC r (NR X.K fs) σ H Q:=λσ H Q ⟨HF,ρ,d,sm,eo,hf,q⟩=>by
 let⟨ds,hx,hf⟩:=bs hf;exact⟨HF,ρ,ds,sm,eo,hx,λvs H1 HF1 g1 r1=>hs HF1 H1 ds vs d Q g1.fh r1 hf λa us H' HF' g2 ha hf' h' r2=>q a us H' HF' (g1.trans g2) (g1.hh.free ha) hf' h' r2⟩
structure mY(X:Cx)(x:Str)(v:Value):Prop where
 gl:Gl X x
 mg:X.mg x=none
 bt:bootBuiltins x=some v
def gZ{id:String}(hc:dh X (.builtin id) r)(hs:DL X.K r g)(B:mY X x (.builtin id))(ha:DA X (e::es) fs)(hn:x≠"__name__":=by decide)(hdb:(x == ("__debug__":Str))=false:=by decide)
  (he:starEach (e::es) X.env=(false,eval e X.env)::starEach es X.env:=by rfl) (hpl:(backTo pos (starEach es X.env)).any (·.1)=false:=by rfl):DE X (.Call (.Name x p) (e::es) [] pos) (bu g fs) :=
 bc (hU hc B.gl B.mg B.bt ha hn hdb he hpl) (MC hs)
def FN{id:String}(hc:dh X (.builtin id) r)(hs:Jw X.K r g)(B:mY X x (.builtin id))(ha:DA X (e::es) fs)(hn:x≠"__name__":=by decide)(hdb:(x == ("__debug__":Str))=false:=by decide)
  (he:starEach (e::es) X.env=(false,eval e X.env)::starEach es X.env:=by rfl) (hpl:(backTo pos (starEach es X.env)).any (·.1)=false:=by rfl):DF X (.Call (.Name x p) (e::es) [] pos) (rh g fs) :=
 bc (hU hc B.gl B.mg B.bt ha hn hdb he hpl) (MZ hs)
def Cu(hc:dh X (.type T) r)(hs:DL X.K r g)(B:mY X x (.type T))(ha:DA X (e::es) fs)(hn:x≠"__name__":=by decide)(hdb:(x == ("__debug__":Str))=false:=by decide)
  (he:starEach (e::es) X.env=(false,eval e X.env)::starEach es X.env:=by rfl) (hpl:(backTo pos (starEach es X.env)).any (·.1)=false:=by rfl):DE X (.Call (.Name x p) (e::es) [] pos) (bu g fs) :=
 bc (kf hc B.gl B.mg B.bt ha hn hdb he hpl) (MC hs)
def gc:D->Option (List D)|.tuple ds=>some ds|.list ds=>some ds|_=>none
def oneOf:List D->Option D|[d]=>some d|_=>none
def fZ(h:oneOf ds=some d):ds=[d]:=by
 cases ds with
 | nil=>cases h
 | cons x r=>cases r with
  | nil=>cases h;rfl
  | cons _ _=>cases h
def lz(h:gc d=some ds):d=.tuple ds\/d=.list ds:=by
 cases d<;>cases h
 ·exact .inr rfl
 ·exact .inl rfl
def eJ:List D->Option (List D):=λds=>(oneOf ds).bind gc
def jv{ds es:List D}(h:eJ ds=some es):ds=[.tuple es]\/ds=[.list es]:=by
 let⟨d,h1,h2⟩:=bs h;rw[fZ h1];rcases lz h2 with rfl|rfl
 ·exact .inl rfl
 ·exact .inr rfl
def bK:List D->Option D:=λds=>(eJ ds).map λes=>.int es.length
def ag{α β:Type}{x:Option α}{f:α->β}{b:β}(h:x.map f=some b):∃a,x=some a/\f a=b:=by
 cases x with
 | none=>cases h
 | some a=>exact⟨a,rfl,xD h⟩
def II{K:W.Frag}:DL K (λxs H Q=>∃p ys,xs=[.ref p]/\(gw K H p ys\/iL K H p ys)/\Q (.int ys.length) H) bK:=by
 intro HF H ds vs d Q sm r hg q;let⟨es,h1,rfl⟩:=ag hg;rcases jv h1 with rfl|rfl
 all_goals
  let⟨v,r',rfl,a,b⟩:=r.cons_inv;rw[b.nil_inv];simp?[Rep] at a;let⟨p,us,rfl,h,rr⟩:=a
 ·exact⟨p,us,rfl,.inr (aE sm h),q _ H HF (.refl sm) (by simp[Rep,rr.length])⟩
 ·exact⟨p,us,rfl,.inl (sm.seq h),q _ H HF (.refl sm) (by simp[Rep,rr.length])⟩
def K1(B:mY X "len" (.builtin "len"))(ha:DA X [e] fs)(he:starEach [e] X.env=(false,eval e X.env)::starEach [] X.env:=by rfl):DE X (.Call (.Name "len" p) [e] [] pos) (bu bK fs) :=
 gZ tR II B ha (by decide) (by decide) he rfl
def dS{K:W.Frag}(h:HF l=none)(r:ak K HF ds vs):Rep K (upd HF l (.tup vs)) (.tuple ds) (.ref l):=by
 simp?[Rep];exact⟨l,vs,rfl,.inl (.inl aI),r.mono (cU h)⟩
def Ct{K:W.Frag}:DL K (λxs H Q=>∃p ys,xs=[.ref p]/\((gw K H p ys/\∀l,H l=none->Q (.ref l) (upd H l (.tup ys)))\/(iL K H p ys/\Q (.ref p) H))) (λds=>(eJ ds).map PyData.tuple):=by
 intro HF H ds vs d Q sm r hg q;let⟨es,h1,rfl⟩:=ag hg;rcases jv h1 with rfl|rfl
 all_goals
  let⟨v,r',rfl,a,b⟩:=r.cons_inv;rw[b.nil_inv];have a':=a;simp?[Rep] at a;let⟨p,us,rfl,h,rr⟩:=a
 ·exact⟨p,us,rfl,.inr ⟨aE sm h,q _ H HF (.refl sm) a'⟩⟩
 ·exact⟨p,us,rfl,.inl ⟨sm.seq h,λl hl=>q _ _ _ (.new sm hl) (dS (sm.free hl) rr)⟩⟩
def Ej(B:mY X "tuple" (.type "tuple"))(ha:DA X [e] fs)(he:starEach [e] X.env=(false,eval e X.env)::starEach [] X.env:=by rfl):DE X (.Call (.Name "tuple" p) [e] [] pos) (bu (λds=>(eJ ds).map PyData.tuple) fs) :=
 Cu rE Ct B ha (by decide) (by decide) he rfl
def gz:D->String|.none=>"NoneType" | .bool _=>"bool" | .int _=>"int" | .str _=>"str" | .tuple _=>"tuple" | .list _=>"list" | .dict _=>"dict"
def tN(a b:String):Option Bool:=if ((Value.type a) == (Value.type b))=true then some true else if W.kitMeta b=true then (fastBuiltinMro a).map (·.contains (Value.type b)) else none
def IF:∀a∈["NoneType","bool","int","str","tuple","list"],tN a "int"=some (a == "int"||a == "bool"):=by decide +kernel
def F8:∀a∈["NoneType","bool","int","str","tuple","list"],tN a "bool"=some (a == "bool"):=by decide +kernel
def kit_tuple:∀a∈["NoneType","bool","int","str","tuple","list"],tN a "tuple"=some (a == "tuple"):=by decide +kernel
def Ep{A:Around}{E:Value->Shared->Prop}(I:Inv X pins σ H s)(sm:aU HF H)(r:Rep X.K HF d v)(rv:RelV v u)
  (e:tN (gz d) T=some k) (h:∀tk,Q (.bool k) { s with toks:=tk }):wpAny (model X.prog X.w) A (call (.builtin "isinstance") [u,.type T]) Q E s:=by
 have e':W.kitOne X.K (.type (gz d)) (.type T)=some k:=e;cases d<;>simp?[Rep] at r
 ·subst r;cases rv;exact W.kia_one W.kitx_none I.kIn True.intro e' (λz=>nomatch z) h
 ·subst r;cases rv;exact W.kia_one W.kitx_bool I.kIn True.intro e' (λz=>nomatch z) h
 ·subst r;let⟨t,rfl⟩:=rv;exact W.kia_one W.kitx_int I.kIn True.intro e' (λz=>nomatch z) h
 ·subst r;let⟨t,rfl⟩:=rv;exact W.kia_one W.kitx_str I.kIn True.intro e' (λz=>nomatch z) h
 ·let⟨a,vs,rfl,hs,rr⟩:=r;cases rv;let⟨its,rv,pl,_⟩:=I.list (sm.seq hs);let⟨o,ho,hc,n,hd⟩:=pl.isList;exact W.kia_one W.kitx_list I.kIn ⟨o,ho,hc⟩ e' (λz=>nomatch z) h
 ·let⟨a,vs,rfl,hs,rr⟩:=r;cases rv;let⟨its,rv,⟨o,ho,hc,n,hd⟩,_⟩:=I.tuple (aE sm hs);exact W.kia_one W.kitx_tuple I.kIn ⟨o,ho,hc⟩ e' (λz=>nomatch z) h
def Jq(T:String)(f:Env->Option D):Env->Option D:=λρ=>(f ρ).bind λd=>(tN (gz d) T).map PyData.bool
def L9(B:mY X "isinstance" (.builtin "isinstance"))(C:mY X xT (.type T))(h:DE X e f)(hn:xT≠"__name__":=by decide)(hd:(xT == ("__debug__":Str))=false:=by decide)
  (he:starEach [e,.Name xT pT] X.env=(false,eval e X.env)::starEach [.Name xT pT] X.env:=by rfl):DE X (.Call (.Name "isinstance" p) [e,.Name xT pT] [] pos) (Jq T f):=by
 have hc:dh X (.builtin "isinstance") (λxs H Q=>∃HF d v k,xs=[v,.ty T]/\aU HF H/\Rep X.K HF d v/\tN (gz d) T=some k/\Q (.bl k) H):=by
  intro pins s σ H xs us Q I r h;let⟨HF,d,v,k,rfl,sm,rp,hk,q⟩:=h;cases r with
  | cons ra rr =>
   cases rr with
   | cons rb rn =>
    cases rn;cases rb;exact Ep I sm rp ra hk λtk=>⟨.bl k,H,I.tok _,rfl,q⟩
 refine bc (hU hc B.gl B.mg B.bt (cm h (cm (Hv (v:=.ty T) C.gl C.mg C.bt rfl hn hd) dQ) he) (by decide) (by decide) he rfl) λσ H Q ⟨HF,ρ,d,sm,eo,hf,q⟩=>?_;let⟨x,hx,hf⟩:=bs hf;let⟨k,hk,rfl⟩:=ag hf;exact⟨HF,ρ,x,sm,eo,hx,λv1 H1 HF1 g1 r1=>⟨HF1,x,v1,k,rfl,g1.fh,r1,hk,q _ H1 HF1 g1 (by simp[Rep])⟩⟩
def IC:D->D->Option D
 | .tuple xs,.tuple ys=>(small (xs++ys)).map PyData.tuple
 | _,_=>none
def AY(K:W.Frag):R2:=λx y H Q=>∃a b xs ys,x=.ref a/\y=.ref b/\iL K H a xs/\iL K H b ys/\xs.length+ys.length<=sizeLine /\
 (xs=[]->Q (.ref b) H)/\(ys=[]->Q (.ref a) H)/\(∀p,H p=none->Q (.ref p) (upd H p (.tup (xs++ys))))
def CG:ie X (binaryOp .Add) (AY X.K):=by
 intro pins s σ H x y v u Q I rx ry h;let⟨a,b,xs,ys,rfl,rfl,ha,hb,hz,q0,q1,q2⟩:=h;by_cases hx:xs=[]
 ·cases rx;cases ry;let⟨its,r1,p1,_⟩:=I.tuple ha;let⟨its2,r2,p2,_⟩:=I.tuple hb;let⟨⟨cls,dd,data,sl⟩,ho,hc,n,hd⟩:=id p1;let⟨⟨cls2,dd2,data2,sl2⟩,ho2,hc2,n2,hd2⟩:=id p2;simp only at hc hd hc2 hd2;subst hc hd hc2 hd2;have e:its=[]:=(L2.aJ.nil_iff r1).mpr hx;exact wL ⟨_,ho,rfl⟩ ⟨_,ho2,rfl⟩ noFill_tuple_add seq_tuple_add vL vG (vE _ _)
   (tuple_addW0 a b its.toArray its2.toArray n n2 dd dd2 sl sl2 (by simp[e])) ⟨ho,ho2,⟨.ref b,H,I,rfl,q0 hx⟩⟩
 ·exact Hg pins s σ H _ _ v u Q I rx ry ⟨a,b,xs,ys,rfl,rfl,ha,hb,hx,hz,q1,λ_ p hp=>q2 p hp⟩
def Iz{K:W.Frag}:ft K (AY K) IC:=by
 intro HF H x y v1 v2 d Q sm r1 r2 hg q;cases x<;>cases y<;>simp?[IC] at hg<;>try cases hg
 rename_i xs ys;let⟨es,h1,rfl⟩:=ag hg;let⟨rfl,hz⟩:=dW h1;have r1':=r1;have r2':=r2;simp?[Rep] at r1 r2;let⟨a,vs,rfl,ha,ra⟩:=r1;let⟨b,us,rfl,hb,rb⟩:=r2;refine⟨a,b,vs,us,rfl,rfl,aE sm ha,aE sm hb,by rw[ra.length,rb.length,<- zN];exact hz,λe=>?_,λe=>?_,λp hp=>q _ _ _ (.new sm hp) (dS (sm.free hp) (ra.append rb))⟩
 ·have:xs=[]:=by have:=ra.length;rw[e] at this;exact List.length_eq_zero_iff.mp this.symm
  subst this;exact q _ H HF (.refl sm) r2'
 ·have:ys=[]:=by have:=rb.length;rw[e] at this;exact List.length_eq_zero_iff.mp this.symm
  subst this;rw[qF] at q;exact q _ H HF (.refl sm) r1'
structure rM(K:W.Frag)(J:It)(HF:Hp)(ds:List D):Prop where
 go:∀i d H₁ HF₁,ds[i]?=some d->aU HF HF₁->aU HF₁ H₁->J.go i H₁/\∀x H₂,J.yld i H₁ x H₂->∃HF₂,bY HF₁ H₁ HF₂ H₂/\Rep K HF₂ d x
 stop:∀H₁ HF₁,aU HF HF₁->aU HF₁ H₁->J.stop ds.length H₁
def OR(K:W.Frag)(f:Env->Option (List D)):TI:=λσ H R=>∃HF ρ ds,aU HF H/\cL K HF ρ σ/\f ρ=some ds/\∀J H' HF',bY HF H HF' H'->rM K J HF' ds->R J H'
def DI(X:Cx)(tg iter:Expr)(f:Env->Option (List D)):Prop:=PI X tg iter (OR X.K f)
def Cb{K:W.Frag}(h:gw K HF a vs)(r:ak K HF ds vs):rM K (NQ K a) HF ds where
 go:=λi d H₁ HF₁ e s1 s2=>by
  let⟨v,hv,rv⟩:=r.getD e;have q:=s2.seq (s1.seq h);refine⟨⟨vs,v,q,hv⟩,λx H₂ ⟨e2,hy⟩=>⟨HF₁,by rw[e2];exact .refl s2,?_⟩⟩;have:=hy vs q;rw[hv] at this;cases this;exact rv.mono s1
 stop:=λH₁ HF₁ s1 s2=>⟨vs,s2.seq (s1.seq h),by rw[r.length];exact yM _⟩
def EN{K:W.Frag}(h:iL K HF a vs)(r:ak K HF ds vs):rM K (Oi K a) HF ds where
 go:=λi d H₁ HF₁ e s1 s2=>by
  let⟨v,hv,rv⟩:=r.getD e;have q:=aE s2 (aE s1 h);refine⟨⟨vs,v,q,hv⟩,λx H₂ ⟨e2,hy⟩=>⟨HF₁,by rw[e2];exact .refl s2,?_⟩⟩;have:=hy vs q;rw[hv] at this;cases this;exact rv.mono s1
 stop:=λH₁ HF₁ s1 s2=>⟨vs,aE s2 (aE s1 h),by rw[r.length];exact yM _⟩
def Ad{K:W.Frag}{lo:Int}:rM K (Nw lo n) HF ((List.range n).map λi=>PyData.int (lo+(i:Nat))) where
 go:=λi d H₁ HF₁ e s1 s2=>by
  rw[zO] at e;let⟨j,hj,rfl⟩:=ag e;let⟨hi,hj'⟩:=List.getElem?_eq_some_iff.mp hj;have hi':i < n:=by simpa using hi
  have:j=i:=by rw[<- hj'];simp
  subst this;exact⟨hi',λx H₂ ⟨e2,hx⟩=>⟨HF₁,by rw[e2];exact .refl s2,by simp[Rep,hx]⟩⟩
 stop:=λH₁ HF₁ s1 s2=>by
  show n<=_;simp
section
variable {X:Cx}{tg l e:Expr}{f:Env->Option D}{fs:Env->Option (List D)}{pos p:Pos}
def ub(h:PI X tg l t)(i:∀σ H R,t' σ H R->t σ H R):PI X tg l t':=λpins s σ H R I q=>h pins s σ H R I (i σ H R q)
def Lf(hl:PE X l tl):PI X tg l (λσ H R=>tl σ H λx H1=>∃a,x=.ref a/\((∃xs,gw X.K H1 a xs/\R (NQ X.K a) H1)\/∃xs,iL X.K H1 a xs/\R (Oi X.K a) H1)):=by
 intro pins s σ H R I h;refine cx (hl pins s σ H _ I h) λv s1 ⟨x,H1,I1,r1,q1⟩=>?_;let⟨a,e,q⟩:=q1;subst e;cases r1;rcases q with ⟨xs,hq,q⟩|⟨xs,hq,q⟩
 ·let⟨its,rv,pl,hz⟩:=I1.list hq;refine qK pl.isList ⟨s1.heap.objs.size,[s1.heap.objs.size],_,_,H1,rfl,I1.kept (t':=s1.toks) λb o e=>zU _ e,CM a _,⟨_,zX _ rfl,rfl,rfl⟩,λb hb=>?_,q⟩;cases List.mem_singleton.mp hb;exact I1.fpOk (yM _) I1.fresh
 ·let⟨its,rv,pl,hz⟩:=I1.tuple hq;refine xR (show s1.heap.IsTuple a its.toArray from pl) ⟨s1.heap.objs.size,[s1.heap.objs.size],_,_,H1,rfl,I1.kept (t':=s1.toks) λb o e=>zU _ e,Au a _,⟨_,zX _ rfl,rfl,rfl⟩,λb hb=>?_,q⟩;cases List.mem_singleton.mp hb;exact I1.fpOk (yM _) I1.fresh
def aO(f:Env->Option D):Env->Option (List D):=λρ=>(f ρ).bind gc
def F6(h:DE X l f):DI X tg l (aO f):=ub (Lf h) λσ H R ⟨HF,ρ,ds,sm,eo,hf,q⟩=>by
 let⟨x,hx,hf⟩:=bs hf;refine⟨HF,ρ,x,sm,eo,hx,λv1 H1 HF1 g1 r1=>?_⟩;rcases lz hf with rfl|rfl
 ·simp?[Rep] at r1;let⟨a,vs,rfl,hs,rr⟩:=r1;exact⟨a,rfl,.inr ⟨vs,aE g1.fh hs,q _ H1 HF1 g1 (EN hs rr)⟩⟩
 ·simp?[Rep] at r1;let⟨a,vs,rfl,hs,rr⟩:=r1;exact⟨a,rfl,.inl ⟨vs,g1.fh.seq hs,q _ H1 HF1 g1 (Cb hs rr)⟩⟩
def CS(i:Int):Bool:=decide (-(2 ^ 62)<=i)&&decide (i < 2 ^ 62)
def i4:List D->Option (List D)
 | [.int j]=>if CS j then some ((List.range j.toNat).map λi=>PyData.int ((i:Nat):Int)) else none
 | _=>none
def vo(h:i4 ds=some es):∃j,ds=[.int j]/\CS j=true/\es=(List.range j.toNat).map λi=>PyData.int ((i:Nat):Int):=by
 unfold i4 at h;split at h
 ·split at h
  ·cases h;exact⟨_,rfl,‹_›,rfl⟩
  ·cases h
 ·cases h
def aX(fs:Env->Option (List D)):Env->Option (List D):=λρ=>(fs ρ).bind i4
def Ey(B:mY X "range" (.type "range"))(h:DA X [e] fs)(hs:starEach [e] X.env=[(false,eval e X.env)]:=by rfl):DI X tg (.Call (.Name "range" p) [e] [] pos) (aX fs) :=
 ub (Dc B.gl B.mg h hs) λσ H R ⟨HF,ρ,ds,sm,eo,hf,q⟩=>by
  let⟨x,hx,hf⟩:=bs hf;let⟨j,rfl,hj,rfl⟩:=vo hf;refine⟨HF,ρ,_,sm,eo,hx,λvs H1 HF1 g1 r1=>?_⟩;let⟨v,r,rfl,a,b⟩:=r1.cons_inv;rw[b.nil_inv];simp?[Rep] at a;subst a;unfold CS at hj;rw[zF] at hj;refine⟨j,rfl,yQ hj.1,yQ hj.2,q _ H1 HF1 g1 ?_⟩;have:=Ad (K:=X.K) (HF:=HF1) (lo:=0) (n:=j.toNat);simpa using this
def ND(K:W.Frag)(f:Env->D->Option Env):TG:=λv σ H Q=>∃HF ρ d ρ',aU HF H/\cL K HF ρ σ/\Rep K HF d v/\f ρ d=some ρ'/\∀σ',cL K HF ρ' σ'->cL K HF ρ σ'->Q σ' H
def DG(X:Cx)(tg:Expr)(f:Env->D->Option Env):Prop:=PG X tg (ND X.K f)
def ph(h:PG X tg t)(i:∀v σ H Q,t' v σ H Q->t v σ H Q):PG X tg t':=λpins s σ H v u Q I r q=>h pins s σ H v u Q I r (i v σ H Q q)
def isFree(ρ:Env)(i:Nat):Bool:=((ρ[i]?).getD none).isNone
def iz{K:W.Frag}(eo:cL K HF ρ σ)(r:Rep K HF d v):cL K HF (ρ.set i (some d)) (σ.set i (some v)):=by
 refine⟨λj e h=>?_,by rw[yC,yC];exact eo.len,eo.tb⟩;rw[xI] at h ⊢;by_cases hij:i=j
 ·rw[yL hij] at h ⊢;by_cases hl:i < ρ.length
  ·rw[yL hl] at h;cases h;rw[yL (zP hl eo.len)];exact⟨v,rfl,r⟩
  ·rw[yN hl] at h;cases h
 ·rw[yN hij] at h ⊢;exact eo.get j e h
def ki{K:W.Frag}(eo:cL K HF ρ σ)(hf:isFree ρ i=true):cL K HF ρ (σ.set i (some v)):=by
 refine⟨λj e h=>?_,by rw[yC];exact eo.len,eo.tb⟩;have hij:i≠j:=by
  intro z;subst z;unfold isFree at hf;rw[h] at hf;cases hf
 rw[xI,yN hij];exact eo.get j e h
def fG(i:Nat):Env->D->Option Env:=λρ d=>if isFree ρ i=true then some (ρ.set i (some d)) else none
def HW(i:Nat)(hN:X.N.Nodup)(hi:X.N[i]?=some x)(hx:Loc X.env.scope x)(hf:X.fn x=true\/X.env.scope.names.lookup x=some .local:=by first|exact .inl rfl|exact .inr rfl|assumption):DG X (.Name x pos) (fG i) :=
 ph (c6 hN hi hx hf) λv σ H Q ⟨HF,ρ,d,ρ',sm,eo,r,hf,q⟩=>by
  unfold fG at hf;split at hf
  ·cases hf;exact q _ (iz eo r) (ki eo ‹_›)
  ·cases hf
def eV(i j:Nat):Env->D->Option Env:=λρ d=>match d with
 | .tuple [x,y]=>if isFree ρ i=true/\isFree ρ j=true then some ((ρ.set i (some x)).set j (some y)) else none
 | _=>none
def Lo(i j:Nat){px py:Pos}{k:Nat}(hc:X.calm=true)(hN:X.N.Nodup)(hi:X.N[i]?=some x)(hx:Loc X.env.scope x)(hj:X.N[j]?=some y)(hy:Loc X.env.scope y)
  (hf:X.fn x=true\/X.env.scope.names.lookup x=some .local:=by first|exact .inl rfl|exact .inr rfl|assumption) (hf':X.fn y=true\/X.env.scope.names.lookup y=some .local:=by first|exact .inl rfl|exact .inr rfl|assumption) :
  DG X (.Tuple [.Name x px,.Name y py] k pos) (eV i j) :=
 ph (uw hc (cW (c6 hN hi hx hf) (cW (c6 hN hj hy hf') oS))) λv σ H Q ⟨HF,ρ,d,ρ',sm,eo,r,hf,q⟩=>by
  unfold eV at hf;split at hf
  ·rename_i x' y';split at hf
   ·rename_i hh;cases hf;simp?[Rep] at r;let⟨a,vs,rfl,hs,rr⟩:=r;let⟨v1,r1,rfl,a1,b1⟩:=rr.cons_inv;let⟨v2,r2,rfl,a2,b2⟩:=b1.cons_inv;rw[b2.nil_inv] at hs;exact⟨a,_,rfl,aE sm hs,rfl,v1,_,rfl,v2,_,rfl,rfl,q _ (iz (iz eo a1) a2) (ki (ki eo hh.1) hh.2)⟩
   ·cases hf
  ·cases hf
def cF(tgt:Env->D->Option Env)(tt:Env->Option Bool)(te:Env->Option D)(ρ:Env):List D->Option (List D)
 | []=>some []
 | d::ds=>(tgt ρ d).bind λρ'=>(tt ρ').bind λb=>if b=true then (te ρ').bind λx=>(cF tgt tt te ρ ds).map (x::·) else cF tgt tt te ρ ds
def MM(X:Cx)(ifs:List Expr)(f:Env->Option Bool):Prop:=L3 X ifs (J2 X.K f)
def HY:MM X [] (λ_=>some true):=λpins s σ H Q I ⟨HF,ρ,b,sm,eo,hf,q⟩=>Hn pins s σ H Q I (by cases hf;exact q H HF (.refl sm))
def Il(h:DT X c t):MM X [c] t:=Gy h
def jo(t:Nat)(cs:List Nat)(σ:L2.St):L2.St:=List.replicate t none++cs.map λj=>(σ[j]?).getD none
def eE(t:Nat)(cs:List Nat)(ρ:Env):Env:=List.replicate t none++cs.map λj=>(ρ[j]?).getD none
def By{K:W.Frag}{cs:List Nat}(eo:cL K HF ρ σ):cL K HF (eE t cs ρ) (jo t cs σ):=by
 refine⟨λi d h=>?_,by simp[eE,jo],eo.tb⟩;unfold eE at h;unfold jo;by_cases hi:i < t
 ·rw[yS (by simpa using hi),yX,yL hi] at h;cases h
 ·rw[yT (by simpa using hi),zO,xM] at h;rw[yT (by simpa using hi),zO,xM];let⟨j,hj,h⟩:=ag h;rw[hj];cases e:ρ[j]? with
  | none=>rw[e] at h;cases h
  | some o =>
   rw[e] at h;have h:o=some d:=h;subst h;let⟨v,a,b⟩:=eo.get j d e;exact⟨v,by show some ((σ[j]?).getD none)=_;rw[a];rfl,b⟩
def aj(t:Nat)(cs:List Nat)(fi:Env->Option (List D))(tgt:Env->D->Option Env)(tt:Env->Option Bool)(te:Env->Option D):Env->Option (List D):=λρ=>(fi ρ).bind λds=>(cF tgt tt te (eE t cs ρ) ds).bind small
variable {elt iter:Expr}{ifs:List Expr}{scope:Scope}{N:List Str}{t:Nat}{cs:List Nat}{fi:Env->Option (List D)}{tgt:Env->D->Option Env}{tt:Env->Option Bool}{te:Env->Option D}
def FJ:∀σ H Q,tF X.K (aj t cs fi tgt tt te) σ H Q->Gb (OR X.K fi) (ND X.K tgt) (J2 X.K tt) (tD X.K te) (jo t cs) σ H Q:=λσ H Q ⟨HF,ρ,out,sm,eo,hf,q⟩=>by
 let⟨ds,hx,hf⟩:=bs hf;let⟨out',ho,hf⟩:=bs hf;let⟨rfl,hz⟩:=dW hf;refine⟨HF,ρ,ds,sm,eo,hx,λJ H1 HF1 g1 it Dn hD=>?_⟩;have eo1:=By (t:=t) (cs:=cs) (eo.mono g1.ff);have hFD:HF1 Dn=none:=g1.fh.free hD;refine⟨λi m σ' H'=>m+i=ds.length/\∃HF' xs ys rest,bY HF1 H1 HF' H'/\HF' Dn=none/\H' Dn=some (.lst ys)/\ak X.K HF' xs ys/\cL X.K HF' (eE t cs ρ) σ'/\cF tgt tt te (eE t cs ρ) (ds.drop i)=some rest/\xs++rest=out,
  ⟨ds.length,rfl,HF1,[],[],out,.own g1.fh hD,hFD,aI,ak.nil,eo1,ho,rfl⟩,?_⟩
 rintro i m σ' H' ⟨hm,HF',xs,ys,rest,G,hFD',hHD,rr,eo',hc,hout⟩;by_cases hi:i < ds.length
 ·refine .inr ?_;have hd:ds.drop i=ds[i]::ds.drop (i+1):=kZ hi;have he:ds[i]?=some ds[i]:=List.getElem?_eq_some_iff.mpr ⟨hi,rfl⟩;generalize ds[i]=d at hd he;rw[hd] at hc;unfold cF at hc;let⟨ρ',h1,hc⟩:=bs hc;let⟨b,h2,hc⟩:=bs hc;let⟨go,yld⟩:=it.go i d H' HF' he G.ff G.fh;refine⟨go,λx H2 y=>?_⟩;let⟨HF2,G2,rx⟩:=yld x H2 y;refine⟨HF2,_,d,ρ',G2.fh,eo'.mono G2.ff,rx,h1,λσ2 eo2 eo2'=>?_⟩;refine⟨HF2,ρ',b,G2.fh,eo2,h2,λH3 HF3 G3=>?_⟩;have nof:∀HF4 H4,bY HF' H' HF4 H4->HF4 Dn=none:=λHF4 H4 G4=>by
   cases e4:HF4 Dn with
   | none=>rfl
   | some o =>
    rcases G4.nw Dn o e4 with z|z
    ·rw[hFD'] at z;cases z
    ·rw[hHD] at z;cases z
  cases b with
  | false =>
   refine vi ⟨m - 1,by lia,by lia,HF3,xs,ys,rest,(G.trans G2).trans G3,nof _ _ (G2.trans G3),(G2.trans G3).hh _ _ hHD,rr.mono (G2.trans G3).ff,eo2'.mono G3.ff,by simpa using hc,hout⟩
  | true =>
   rw[yL rfl] at hc;let⟨z,h3,hc⟩:=bs hc;let⟨rest',h4,rfl⟩:=ag hc;refine wY ⟨HF3,ρ',z,G3.fh,eo2.mono G3.ff,h3,λv H4 HF4 G4 rv=>?_⟩;have GG:=(G2.trans G3).trans G4;have n4:=nof _ _ GG;have h4D:=GG.hh _ _ hHD;have hlen:ys.length < sizeLine:=by
    have e1:=rr.length;have e2:out.length=xs.length+(rest'.length+1):=by rw[<- hout];simp
    lia
   refine⟨ys,h4D,hlen,m - 1,by lia,by lia,HF4,xs++[z],ys++[v],rest',?_,n4,aI,(rr.mono GG.ff).append (ak.cons rv ak.nil),eo2'.mono (G3.ff.trans G4.ff),h4,by simp[<- hout]⟩;have G5:=G.trans GG;refine⟨λb o e=>?_,G5.ff,λb o e=>?_,G5.nw⟩
   ·rw[aA (aP e hD)];exact G5.hh b o e
   ·rw[aA (aP e n4)];exact G5.fh b o e
 ·have hi':i=ds.length:=by lia
  subst hi';rw[List.drop_length] at hc;cases hc;rw[qF] at hout;subst hout;exact .inl ⟨it.stop H' HF' G.ff G.fh,q Dn ys H' HF' (g1.trans G) (g1.hh.free hD) hFD' hHD rr⟩
def IB(hc:X.calm=true)(S:ix X scope N (jo t cs))(hi:DI X tg iter fi)
  (hY:∀fp s H,DG (aW X scope N fp s H) tg tgt/\MM (aW X scope N fp s H) ifs tt/\DE (aW X scope N fp s H) elt te)
  (hs:∀x,foldedSetIterable iter X.env x=pure x:=by intro _;rfl):DF X (.ListComp elt [⟨tg,iter,ifs,0⟩] scope pos) (aj t cs fi tgt tt te):=bc (Hx (g:=ND X.K tgt) (tt:=J2 X.K tt) (te:=tD X.K te) hc S hi hY hs) FJ
end
inductive Slot where
 | non|val (d:D)|own (ds:List D)
abbrev ar:=List Slot
def Slot.all:Slot->Option D|.non=>none|.val d=>some d|.own ds=>some (.list ds)
def Slot.frz:Slot->Option D|.val d=>some d|_=>none
def Slot.thaw:Slot->Slot|.own ds=>.val (.list ds)|s=>s
def bw(ρ:ar):Env:=ρ.map Slot.all
def bS(ρ:ar):Env:=ρ.map Slot.frz
def hand(fz:List Nat):Nat->ar->ar
 | _,[]=>[]
 | k,s::r=>(if fz.contains k=true then s.thaw else s)::hand fz (k+1) r
def gS(fz:List Nat):∀ (ρ:ar) (k i:Nat),(hand fz k ρ)[i]?=(ρ[i]?).map λs=>if fz.contains (k+i)=true then s.thaw else s
 | [],k,i=>by simp[hand]
 | s::r,k,0=>by simp[hand]
 | s::r,k,i+1=>by
  simp?[hand,yY];rw[gS fz r (k+1) i,Nat.add_assoc,Nat.add_comm 1 i]
def yb(fz:List Nat):∀ (ρ:ar) (k:Nat),(hand fz k ρ).length=ρ.length
 | [],k=>rfl
 | s::r,k=>by simp[hand,yb fz r (k+1)]
structure iY(K:W.Frag)(HF₀ H₀ HF H:Hp)(ρ:ar)(σ:L2.St):Prop where
 gr:bY HF₀ H₀ HF H
 val:∀ (i:Nat) (d:D),ρ[i]?=some (.val d)->∃v,σ[i]?=some (some v)/\Rep K HF d v
 own:∀ (i:Nat) (ds:List D),ρ[i]?=some (.own ds)->∃a vs,σ[i]?=some (some (.ref a))/\H a=some (.lst vs)/\HF a=none/\H₀ a=none/\ak K HF ds vs
 inj:∀ (i j:Nat) (ds es:List D) (a:Addr),ρ[i]?=some (.own ds)->ρ[j]?=some (.own es)->σ[i]?=some (some (.ref a))->σ[j]?=some (some (.ref a))->i=j
 len:ρ.length<=σ.length
 tb:fQ K HF
section
variable {K:W.Frag}
def iY.all(S:iY K HF₀ H₀ HF H ρ σ):cL K H (bw ρ) σ:=by
 refine⟨λi d h=>?_,by simpa [bw] using S.len,S.tb.mono S.gr.fh⟩;unfold bw at h;rw[zO] at h;let⟨s,hs,h⟩:=ag h;cases s with
 | non=>cases h
 | val e=>cases h;let⟨v,a,b⟩:=S.val i _ hs;exact⟨v,a,b.mono S.gr.fh⟩
 | own ds =>
  cases h;let⟨a,vs,e1,e2,e3,_,e4⟩:=S.own i ds hs;exact⟨.ref a,e1,by simp?[Rep];exact⟨a,vs,rfl,gw.of e2,e4.mono S.gr.fh⟩⟩
def iY.frz(S:iY K HF₀ H₀ HF H ρ σ):cL K HF (bS ρ) σ:=by
 refine⟨λi d h=>?_,by simpa [bS] using S.len,S.tb⟩;unfold bS at h;rw[zO] at h;let⟨s,hs,h⟩:=ag h;cases s with
 | non=>cases h
 | val e=>cases h;exact S.val i _ hs
 | own ds=>cases h
def iY.grow(S:iY K HF₀ H₀ HF H ρ σ)(g:bY HF H HF' H'):iY K HF₀ H₀ HF' H' ρ σ where
 gr:=S.gr.trans g
 val:=λi d h=>let ⟨v,a,b⟩:=S.val i d h;⟨v,a,b.mono g.ff⟩
 own:=λi ds h=>by
  let⟨a,vs,e1,e2,e3,e5,e4⟩:=S.own i ds h;refine⟨a,vs,e1,g.hh _ _ e2,?_,e5,e4.mono g.ff⟩;cases e:HF' a with
  | none=>rfl
  | some o =>
   rcases g.nw a o e with z|z
   ·rw[e3] at z;cases z
   ·rw[e2] at z;cases z
 inj:=S.inj
 len:=S.len
 tb:=S.tb.mono g.ff
def iY.step(S:iY K HF₀ H₀ HF H ρ σ)(g:aU H H'):iY K HF₀ H₀ HF H' ρ σ:=S.grow ⟨g,.refl _,S.gr.fh.trans g,λ_ _ e=>.inl e⟩
def iY.hand(S:iY K HF₀ H₀ HF H ρ σ)(fz:List Nat):∃HF1,aU HF HF1/\iY K HF₀ H₀ HF1 H (hand fz 0 ρ) σ:=by
 let P:Addr->Prop:=λa=>∃i ds,fz.contains i=true/\ρ[i]?=some (.own ds)/\σ[i]?=some (some (.ref a));have cl:=Classical.propDecidable;let HF1:Hp:=λa=>if P a then H a else HF a
 have hP:∀a,P a->HF a=none/\H₀ a=none:=λa ⟨i,ds,_,h1,h2⟩=>by
  let⟨a',vs,e1,e2,e3,e5,e4⟩:=S.own i ds h1;rw[h2] at e1;cases e1;exact⟨e3,e5⟩
 have s1:aU HF HF1:=λb o e=>by
  show (if P b then H b else HF b)=some o;by_cases h:P b
  ·rw[(hP b h).1] at e;cases e
  ·rw[yN h];exact e
 have s2:aU HF1 H:=λb o e=>by
  have e:(if P b then H b else HF b)=some o:=e;by_cases h:P b
  ·rw[yL h] at e;exact e
  ·rw[yN h] at e;exact S.gr.fh b o e
 refine⟨HF1,s1,⟨S.gr.hh,S.gr.ff.trans s1,s2,λb o e=>?_⟩,λi d h=>?_,λi ds h=>?_,λi j ds es a h1 h2=>?_,by rw[yb];exact S.len,S.tb.mono s1⟩
 ·have e:(if P b then H b else HF b)=some o:=e;by_cases h:P b
  ·exact .inr (hP b h).2
  ·rw[yN h] at e;exact S.gr.nw b o e
 ·rw[gS] at h;let⟨s,hs,h⟩:=ag h;rw[jD] at h;cases s with
  | non=>split at h<;>cases h
  | val e =>
   have:Slot.val e=Slot.val d:=by split at h<;>exact h
   cases this;let⟨v,a,b⟩:=S.val i _ hs;exact⟨v,a,b.mono s1⟩
  | own ds =>
   split at h
   ·rename_i hc;cases h;let⟨a,vs,e1,e2,e3,e5,e4⟩:=S.own i ds hs;refine⟨.ref a,e1,?_⟩;simp?[Rep];refine⟨a,vs,rfl,.inl (.inl ?_),e4.mono s1⟩;show (if P a then H a else HF a)=_;rw[yL ⟨i,ds,hc,hs,e1⟩];exact e2
   ·cases h
 ·rw[gS] at h;let⟨s,hs,h⟩:=ag h;rw[jD] at h;cases s with
  | non=>split at h<;>cases h
  | val e=>split at h<;>cases h
  | own es =>
   split at h
   ·cases h
   ·rename_i hc;cases h;let⟨a,vs,e1,e2,e3,e5,e4⟩:=S.own i ds hs;refine⟨a,vs,e1,e2,?_,e5,e4.mono s1⟩;show (if P a then H a else HF a)=none;rw[yN ?_]
    ·exact e3
    ·rintro⟨j,es,hj,h1,h2⟩;have:=S.inj i j ds es a hs h1 e1 h2;subst this;exact hc hj
 ·rw[gS] at h1 h2;let⟨s,hs,h1⟩:=ag h1;let⟨s',hs',h2⟩:=ag h2;rw[jD] at h1 h2;cases s with
  | non=>split at h1<;>cases h1
  | val e=>split at h1<;>cases h1
  | own xs =>
   cases s' with
   | non=>split at h2<;>cases h2
   | val e=>split at h2<;>cases h2
   | own ys=>exact S.inj i j _ _ a hs hs'
def iY.setV(S:iY K HF₀ H₀ HF H ρ σ)(r:Rep K HF d v):iY K HF₀ H₀ HF H (ρ.set i (.val d)) (σ.set i (some v)):=by
 have ne:∀ {j:Nat}{s:Slot},(ρ.set i (.val d))[j]?=some s->(∀e,s≠.val e)->i≠j/\ρ[j]?=some s:=λ{j s} h hn=>by
  rw[xI] at h;by_cases hij:i=j
  ·rw[yL hij] at h;split at h
   ·cases h;exact absurd rfl (hn _)
   ·cases h
  ·rw[yN hij] at h;exact⟨hij,h⟩
 refine⟨S.gr,λj e h=>?_,λj ds h=>?_,λj k ds es a h1 h2 h3 h4=>?_,by rw[yC,yC];exact S.len,S.tb⟩
 ·rw[xI] at h ⊢;by_cases hij:i=j
  ·rw[yL hij] at h ⊢;split at h
   ·rename_i hl;cases h;rw[yL (zP hl S.len)];exact⟨v,rfl,r⟩
   ·cases h
  ·rw[yN hij] at h ⊢;exact S.val j e h
 ·let⟨hij,h⟩:=ne h λe z=>by cases z
  rw[xI,yN hij];exact S.own j ds h
 ·let⟨n1,h1⟩:=ne h1 λe z=>by cases z
  let⟨n2,h2⟩:=ne h2 λe z=>by cases z
  rw[xI,yN n1] at h3;rw[xI,yN n2] at h4;exact S.inj j k ds es a h1 h2 h3 h4
def iY.setO(S:iY K HF₀ H₀ HF H ρ σ)(hs:aU H H')(h1:H' a=some (.lst vs))(h2:HF a=none)(h3:H₀ a=none)(r:ak K HF ds vs)
  (fr:∀j es,i≠j->ρ[j]?=some (.own es)->σ[j]?≠some (some (.ref a))):iY K HF₀ H₀ HF H' (ρ.set i (.own ds)) (σ.set i (some (.ref a))):=by
 have S:=S.step hs;refine⟨S.gr,λj e h=>?_,λj es h=>?_,λj k xs ys b e1 e2 e3 e4=>?_,by rw[yC,yC];exact S.len,S.tb⟩
 ·rw[xI] at h ⊢;by_cases hij:i=j
  ·rw[yL hij] at h;split at h<;>cases h
  ·rw[yN hij] at h ⊢;exact S.val j e h
 ·rw[xI] at h ⊢;by_cases hij:i=j
  ·rw[yL hij] at h ⊢;split at h
   ·rename_i hl;cases h;rw[yL (zP hl S.len)];exact⟨a,vs,rfl,h1,h2,h3,r⟩
   ·cases h
  ·rw[yN hij] at h ⊢;exact S.own j es h
 ·rw[xI] at e1 e2 e3 e4;by_cases hij:i=j
  ·by_cases hik:i=k
   ·exact hij.symm.trans hik
   ·rw[yL hij] at e1 e3;rw[yN hik] at e2 e4;split at e3
    ·cases e3;exact absurd e4 (fr k ys hik e2)
    ·cases e3
  ·by_cases hik:i=k
   ·rw[yN hij] at e1 e3;rw[yL hik] at e2 e4;split at e4
    ·cases e4;exact absurd e3 (fr j xs hij e1)
    ·cases e4
   ·rw[yN hij] at e1 e3;rw[yN hik] at e2 e4;exact S.inj j k xs ys b e1 e2 e3 e4
end
inductive Out where
 | nx (ρ:ar)|rt (d:D)
def BU(K:W.Frag)(HF₀ H₀ HF:Hp)(E:Ends):Out->Prop
 | .nx ρ'=>∀σ' H' HF',iY K HF₀ H₀ HF' H' ρ' σ'->aU HF HF'->E.nx σ' H'
 | .rt d=>∀v H' HF',bY HF₀ H₀ HF' H'->Rep K HF' d v->E.rt v H'
def tS(K:W.Frag)(HF₀ H₀:Hp)(g:ar->Option Out):TS:=λE σ H=>∃HF ρ o,iY K HF₀ H₀ HF H ρ σ/\g ρ=some o/\BU K HF₀ H₀ HF E o
def DS(X:Cx)(HF₀ H₀:Hp)(st:Stmt)(g:ar->Option Out):Prop:=PS X st (tS X.K HF₀ H₀ g)
def Dg(X:Cx)(HF₀ H₀:Hp)(st:List Stmt)(g:ar->Option Out):Prop:=Av X st (tS X.K HF₀ H₀ g)
section
variable {X:Cx}{HF₀ H₀:Hp}{st:Stmt}{rest:List Stmt}{g g1 g2:ar->Option Out}{e:Expr}{pos:Pos}
def c7(h:PS X st t)(i:∀E σ H,t' E σ H->t E σ H):PS X st t':=λpins s σ H E I q=>h pins s σ H E I (i E σ H q)
def BL(h:Av X rest t)(i:∀E σ H,t' E σ H->t E σ H):Av X rest t':=λpins s σ H E I q=>h pins s σ H E I (i E σ H q)
def eF:ar->Option Out:=λρ=>some (.nx ρ)
def au(g1 g2:ar->Option Out):ar->Option Out:=λρ=>(g1 ρ).bind fun|.nx ρ'=>g2 ρ'|.rt d=>some (.rt d)
def BU.mono{K:W.Frag}(s:aU HF HF')(h:BU K HF₀ H₀ HF E o):BU K HF₀ H₀ HF' E o:=by
 cases o with
 | nx ρ'=>exactλσ' H' HF2 S s2=>h σ' H' HF2 S (s.trans s2)
 | rt d=>exact h
def GX:Dg X HF₀ H₀ [] eF:=BL GO λE σ H ⟨HF,ρ,o,S,hg,q⟩=>by cases hg;exact q σ H HF S (.refl _)
def FH(h1:DS X HF₀ H₀ st g1)(h2:Dg X HF₀ H₀ rest g2):Dg X HF₀ H₀ (st::rest) (au g1 g2):=BL (Dx h1 h2) λE σ H ⟨HF,ρ,o,S,hg,q⟩=>by
 let⟨o1,h,hg⟩:=bs hg;refine⟨HF,ρ,o1,S,h,?_⟩;cases o1 with
 | nx ρ'=>exactλσ' H' HF' S' s=>⟨HF',ρ',o,S',hg,q.mono s⟩
 | rt d=>cases hg;exact q
def Ho(h1:DS X HF₀ H₀ st g1):Dg X HF₀ H₀ [st] g1:=GN h1
def Ha:DS X HF₀ H₀ (.Pass pos) eF:=c7 GT λE σ H ⟨HF,ρ,o,S,hg,q⟩=>by cases hg;exact q σ H HF S (.refl _)
def JV{x j pos pos'}:DS X HF₀ H₀ (.Expr (.Constant (.str x) j pos) pos') eF:=c7 Lu λE σ H ⟨HF,ρ,o,S,hg,q⟩=>by cases hg;exact q σ H HF S (.refl _)
def eP(t:Env->Option Bool)(g1 g2:ar->Option Out):ar->Option Out:=λρ=>(t (bw ρ)).bind λb=>if b=true then g1 ρ else g2 ρ
def MQ(hc:DT X c t)(ha:Dg X HF₀ H₀ a g1)(hb:Dg X HF₀ H₀ b g2):DS X HF₀ H₀ (.If c a b pos) (eP t g1 g2):=c7 (Na hc ha hb) λE σ H ⟨HF,ρ,o,S,hg,q⟩=>by
 let⟨b,h,hg⟩:=bs hg;refine⟨H,bw ρ,b,.refl _,S.all,h,λH' HF' G=>?_⟩;cases b with
 | true=>exact wY ⟨HF,ρ,o,S.step G.hh,hg,q⟩
 | false=>exact vi ⟨HF,ρ,o,S.step G.hh,hg,q⟩
def v7:∀ (ρ:ar) (k n:Nat),k+ρ.length<=n->bS (hand (List.range n) k ρ)=bw ρ
 | [],k,n,h=>rfl
 | s::r,k,n,h=>by
  have hk:(List.range n).contains k=true:=by simp at h ⊢;lia
  have ih:=v7 r (k+1) n (by simp at h;lia);unfold bS bw at ih ⊢;rw[hand,yL hk,zI,zI,ih];cases s<;>rfl
def aF(f:Env->Option D):ar->Option Out:=λρ=>(f (bw ρ)).map Out.rt
def Ln(h:DE X e f):DS X HF₀ H₀ (.Return (some e) pos) (aF f):=c7 (Kc h) λE σ H ⟨HF,ρ,o,S,hg,q⟩=>by
 let⟨d,h,rfl⟩:=ag hg;let⟨HF1,s1,S1⟩:=S.hand (List.range ρ.length);refine⟨HF1,bw ρ,d,S1.gr.fh,?_,h,λv H' HF' G r=>q v H' HF' (S1.gr.trans G) r⟩;have:=S1.frz;rw[v7 ρ 0 ρ.length (by lia)] at this;exact this
def pX:D->Bool|.none=>true|.bool _=>true|.int _=>true|.str _=>true|_=>false
def va{K:W.Frag}(h:pX d=true)(r:Rep K HF d v):Rep K HF' d v:=by
 cases d<;>cases h<;>(simp?[Rep] at r ⊢;exact r)
mutual
def gN:D->Bool
 | .tuple ds=>pd ds
 | .list _=>false
 | .dict _=>false
 | _=>true
def pd:List D->Bool
 | []=>true
 | d::ds=>gN d&&pd ds
end
mutual
theorem uU{K:W.Frag}{H1 H2:Hp}(ht:∀a xs,iL K H1 a xs->iL K H2 a xs):∀ {d:D}{v:V},gN d=true->Rep K H1 d v->Rep K H2 d v
 | .none,_,_,r=>by simp?[Rep] at r ⊢;exact r
 | .bool _,_,_,r=>by simp?[Rep] at r ⊢;exact r
 | .int _,_,_,r=>by simp?[Rep] at r ⊢;exact r
 | .str _,_,_,r=>by simp?[Rep] at r ⊢;exact r
 | .tuple ds,v,h,r=>by
  simp?[gN] at h;simp?[Rep] at r ⊢;let⟨a,vs,e,q,rr⟩:=r;exact⟨a,vs,e,ht _ _ q,sj ht h rr⟩
 | .list _,_,h,_=>by simp[gN] at h
 | .dict _,_,h,_=>by simp[gN] at h
theorem sj{K:W.Frag}{H1 H2:Hp}(ht:∀a xs,iL K H1 a xs->iL K H2 a xs):∀ {ds:List D}{vs:List V},pd ds=true->ak K H1 ds vs->ak K H2 ds vs
 | [],_,_,r=>by simp?[ak] at r ⊢;exact r
 | d::ds,vs,h,r=>by
  simp?[pd,zF] at h;simp?[ak] at r ⊢;let⟨v,r',e,a,b⟩:=r;exact⟨v,r',e,uU ht h.1 a,sj ht h.2 b⟩
end
def iY.back{K:W.Frag}(S:iY K HF₀ H₀ HF H ρ σ)(S1:iY K HF₀ H₀ HF1 H ρ1 σ)(s1:aU HF HF1)(G:bY HF1 H HF' H'):∃HF2,aU HF HF2/\iY K HF₀ H₀ HF2 H' ρ σ/\(∀d v,gN d=true->Rep K HF' d v->Rep K HF2 d v)/\∀b o,HF2 b=some o->HF' b=some o:=by
 have cl:=Classical.propDecidable;let O:Addr->Prop:=λa=>∃ (i:Nat) (ds:List D),ρ[i]?=some (Slot.own ds)/\σ[i]?=some (some (V.ref a));let HF2:Hp:=λa=>if O a then none else HF' a
 have hO:∀a,O a->HF a=none/\∃vs,H a=some (.lst vs):=λa ⟨i,ds,h1,h2⟩=>by
  let⟨a',vs,e1,e2,e3,_,_⟩:=S.own i ds h1;rw[h2] at e1;cases e1;exact⟨e3,vs,e2⟩
 have h2:∀a,¬ O a->HF2 a=HF' a:=λa n=>yN n;have h3:∀a,O a->HF2 a=none:=λa n=>yL n;have sa:aU HF HF2:=λb o e=>by
  have nb:¬ O b:=λz=>by rw[(hO b z).1] at e;cases e
  rw[h2 b nb];exact G.ff b o (s1 b o e)
 have sb:∀b o,HF2 b=some o->HF' b=some o:=λb o e=>by
  by_cases z:O b
  ·rw[h3 b z] at e;cases e
  ·rwa [h2 b z] at e
 have g2:=S1.gr.trans G;refine⟨HF2,sa,⟨⟨g2.hh,S.gr.ff.trans sa,λb o e=>G.fh b o (sb b o e),λb o e=>g2.nw b o (sb b o e)⟩,λi d h=>?_,λi ds h=>?_,S.inj,S.len,S.tb.mono sa⟩,λd v hn r=>uU (λa xs q=>?_) hn r,sb⟩
 ·let⟨v,e1,r⟩:=S.val i d h;exact⟨v,e1,r.mono sa⟩
 ·let⟨a,vs,e1,e2,e3,e5,e4⟩:=S.own i ds h;exact⟨a,vs,e1,G.hh _ _ e2,h3 a ⟨i,ds,h,e1⟩,e5,e4.mono sa⟩
 ·have nt:∀o,HF' a=some o->(∀vs,o≠.lst vs)->HF2 a=some o:=λo e hne=>by
   by_cases z:O a
   ·let⟨_,vs,e2⟩:=hO a z;have:=G.hh _ _ e2;rw[G.fh a o e] at this;cases this;exact absurd rfl (hne vs)
   ·rw[h2 a z];exact e
  rcases q with (q|⟨o,q⟩)|q
  ·exact .inl (.inl (nt _ q λvs z=>by cases z))
  ·exact .inl (.inr ⟨o,nt _ q λvs z=>by cases z⟩)
  ·exact .inr q
def az(i:Nat)(fz:List Nat)(f:Env->Option D):ar->Option Out:=λρ=>(f (bw ρ)).bind λd=>if pX d=true then some (.nx (ρ.set i (.val d))) else (f (bS (hand fz 0 ρ))).map λd'=>.nx ((if gN d'=true then ρ else hand fz 0 ρ).set i (.val d'))
def L8:∀E σ H,tS X.K HF₀ H₀ (az i fz f) E σ H->D5 (tD X.K f) (uX i) E σ H:=λE σ H ⟨HF,ρ,o,S,hg,q⟩=>by
 let⟨d,h,hg⟩:=bs hg;split at hg
 ·rename_i hs;cases hg;exact⟨H,bw ρ,d,.refl _,S.all,h,λv H' HF' G r=>q _ H' HF ((S.step G.hh).setV (va hs r)) (.refl _)⟩
 ·let⟨d',h',rfl⟩:=ag hg;let⟨HF1,s1,S1⟩:=S.hand fz;refine⟨HF1,_,d',S1.gr.fh,S1.frz,h',λv H' HF' G r=>?_⟩;by_cases hn:gN d'=true
  ·rw[yL hn] at q;let⟨HF2,s2,S2,hb,_⟩:=S.back S1 s1 G;exact q _ H' HF2 (S2.setV (hb d' v hn r)) s2
  ·rw[yN hn] at q;exact q _ H' HF' ((S1.grow G).setV r) (s1.trans G.ff)
def J7(i:Nat)(fz:List Nat)(hN:X.N.Nodup)(hi:X.N[i]?=some x)(hx:Loc X.env.scope x)(he:DE X e f)(hs:swapsWith e (some (.Name x pos')) pos.line X.env=pure false:=by rfl)
  (hf:X.fn x=true\/X.env.scope.names.lookup x=some .local:=by first|exact .inl rfl|exact .inr rfl|assumption):DS X HF₀ H₀ (.Assign [.Name x pos'] e pos) (az i fz f):=c7 (FV hN hi hx he hs hf) L8
def aM(i:Nat)(fz:List Nat)(f:Env->Option (List D)):ar->Option Out:=λρ=>(f (bS (hand fz 0 ρ))).map λds=>.nx ((hand fz 0 ρ).set i (.own ds))
def FS:∀E σ H,tS X.K HF₀ H₀ (aM i fz f) E σ H->D5 (tF X.K f) (uX i) E σ H:=λE σ H ⟨HF,ρ,o,S,hg,q⟩=>by
 let⟨ds,h,rfl⟩:=ag hg;let⟨HF1,s1,S1⟩:=S.hand fz;refine⟨HF1,_,ds,S1.gr.fh,S1.frz,h,λa vs H' HF' G ha hf h' r=>q _ H' HF' ?_ (s1.trans G.ff)⟩;have S2:=S1.grow G;refine S2.setO (.refl _) h' hf (S1.gr.hh.free ha) r λj es _ hj z=>?_;let⟨b,us,e1,e2,_⟩:=S1.own j es hj;rw[e1] at z;cases z;rw[ha] at e2;cases e2
def uL(i:Nat)(fz:List Nat)(hN:X.N.Nodup)(hi:X.N[i]?=some x)(hx:Loc X.env.scope x)(he:DF X e f)(hs:swapsWith e (some (.Name x pos')) pos.line X.env=pure false:=by rfl)
  (hf:X.fn x=true\/X.env.scope.names.lookup x=some .local:=by first|exact .inl rfl|exact .inr rfl|assumption):DS X HF₀ H₀ (.Assign [.Name x pos'] e pos) (aM i fz f):=c7 (FV hN hi hx he hs hf) FS
def Gw(i:Nat)(fz:List Nat){cs:List Nat}
  (hc:X.calm=true) (S:ix X scope N (jo t cs)) (hi:DI X tg iter fi)
  (hY:∀fp s H,DG (aW X scope N fp s H) tg tgt/\MM (aW X scope N fp s H) ifs tt/\DE (aW X scope N fp s H) elt te)
  (hN:X.N.Nodup) (hiy:X.N[i]?=some y) (hy:X.env.scope.names.lookup y=some .local)
  (hsw:swapsWith (.ListComp elt [⟨tg,iter,ifs,0⟩] scope pos) (some (.Name y py)) spos.line X.env=pure true)
  (hs:∀x,foldedSetIterable iter X.env x=pure x:=by intro _;rfl):DS X HF₀ H₀ (.Assign [.Name y py] (.ListComp elt [⟨tg,iter,ifs,0⟩] scope pos) spos) (aM i fz (aj t cs fi tgt tt te)) :=
 c7 (GV (g:=ND X.K tgt) (tt:=J2 X.K tt) (te:=tD X.K te) hc S hi hY hN hiy hy hsw hs) λE σ H q=>by
  have:=FS E σ H q;exact FJ σ H _ this
def O7(K:W.Frag)(HF₀ H₀:Hp)(f:ar->D->Option ar):TG:=λv σ H Q=>∃HF ρ d ρ',iY K HF₀ H₀ HF H ρ σ/\Rep K HF d v/\f ρ d=some ρ'/\∀σ',iY K HF₀ H₀ HF H ρ' σ'->Q σ' H
def Nx(X:Cx)(HF₀ H₀:Hp)(tg:Expr)(f:ar->D->Option ar):Prop:=PG X tg (O7 X.K HF₀ H₀ f)
def k3(i:Nat):ar->D->Option ar:=λρ d=>some (ρ.set i (.val d))
def DC(i:Nat)(hN:X.N.Nodup)(hi:X.N[i]?=some x)(hx:Loc X.env.scope x)(hf:X.fn x=true\/X.env.scope.names.lookup x=some .local:=by first|exact .inl rfl|exact .inr rfl|assumption):Nx X HF₀ H₀ (.Name x pos) (k3 i) :=
 ph (c6 hN hi hx hf) λv σ H Q ⟨HF,ρ,d,ρ',S,r,hf,q⟩=>by cases hf;exact q _ (S.setV r)
def iB(i j:Nat):ar->D->Option ar:=λρ d=>match d with
 | .tuple [x,y]=>some ((ρ.set i (.val x)).set j (.val y))
 | _=>none
def Ii(i j:Nat){px py:Pos}{k:Nat}(hc:X.calm=true)(hN:X.N.Nodup)(hi:X.N[i]?=some x)(hx:Loc X.env.scope x)(hj:X.N[j]?=some y)(hy:Loc X.env.scope y)
  (hf:X.fn x=true\/X.env.scope.names.lookup x=some .local:=by first|exact .inl rfl|exact .inr rfl|assumption) (hf':X.fn y=true\/X.env.scope.names.lookup y=some .local:=by first|exact .inl rfl|exact .inr rfl|assumption) :
  Nx X HF₀ H₀ (.Tuple [.Name x px,.Name y py] k pos) (iB i j) :=
 ph (uw hc (cW (c6 hN hi hx hf) (cW (c6 hN hj hy hf') oS))) λv σ H Q ⟨HF,ρ,d,ρ',S,r,hf,q⟩=>by
  unfold iB at hf;split at hf
  ·cases hf;simp?[Rep] at r;let⟨a,vs,rfl,hs,rr⟩:=r;let⟨v1,r1,rfl,a1,b1⟩:=rr.cons_inv;let⟨v2,r2,rfl,a2,b2⟩:=b1.cons_inv;rw[b2.nil_inv] at hs;exact⟨a,_,rfl,aE S.gr.fh hs,rfl,v1,_,rfl,v2,_,rfl,rfl,q _ ((S.setV a1).setV a2)⟩
  ·cases hf
def cH(tgt:ar->D->Option ar)(gb:ar->Option Out):List D->ar->Option Out
 | [],ρ=>some (.nx ρ)
 | d::ds,ρ=>(tgt ρ d).bind λρ1=>(gb ρ1).bind fun|.nx ρ2=>cH tgt gb ds ρ2|.rt v=>some (.rt v)
def c8(fz:List Nat)(fi:Env->Option (List D))(tgt:ar->D->Option ar)(gb:ar->Option Out):ar->Option Out:=λρ=>(fi (bS (hand fz 0 ρ))).bind λds=>cH tgt gb ds (hand fz 0 ρ)
def Ky(fz:List Nat)(hp:PassesOwn (model X.prog X.w) X.A X.env X.xe)(hc:X.calm=true)(hi:DI X tg iter fi)(hg:Nx X HF₀ H₀ tg tgt)(hb:Dg X HF₀ H₀ body gb)
  (hs:∀x,foldedSetIterable iter X.env x=pure x:=by intro _;rfl):DS X HF₀ H₀ (.For tg iter body [] pos) (c8 fz fi tgt gb):=c7 (KP hp hc hi hg hb hs) λE σ H ⟨HF,ρ,o,S,hg,q⟩=>by
 let⟨ds,h,hg⟩:=bs hg;let⟨HF1,s1,S1⟩:=S.hand fz;refine⟨HF1,_,ds,S1.gr.fh,S1.frz,h,λJ H2 HF2 G it=>?_⟩;refine⟨λi m σ' H'=>m+i=ds.length/\∃HF' ρ',iY X.K HF₀ H₀ HF' H' ρ' σ'/\aU HF2 HF'/\cH tgt gb (ds.drop i) ρ'=some o,⟨ds.length,rfl,HF2,_,S1.grow G,.refl _,hg⟩,?_⟩;rintro i m σ' H' ⟨hm,HF',ρ',S',s',hf⟩;by_cases hi:i < ds.length
 ·refine .inr ?_;have hd:ds.drop i=ds[i]::ds.drop (i+1):=kZ hi;have he:ds[i]?=some ds[i]:=List.getElem?_eq_some_iff.mpr ⟨hi,rfl⟩;generalize ds[i]=d at hd he;rw[hd] at hf;unfold cH at hf;let⟨ρ1,h1,hf⟩:=bs hf;let⟨o1,h2,hf⟩:=bs hf;let⟨go,yld⟩:=it.go i d H' HF' he s' S'.gr.fh;refine⟨go,λσ2 H3=>∃HF3 ρ3,iY X.K HF₀ H₀ HF3 H3 ρ3 σ2/\aU HF2 HF3/\cH tgt gb (ds.drop (i+1)) ρ3=some o,λσ2 H3 ⟨HF3,ρ3,a1,a2,a3⟩=>⟨m - 1,by lia,by lia,HF3,ρ3,a1,a2,a3⟩,λx H3 y=>?_⟩;let⟨HF3,G3,rx⟩:=yld x H3 y;refine⟨HF3,ρ',d,ρ1,S'.grow G3,rx,h1,λσ2 S2=>⟨HF3,ρ1,o1,S2,h2,?_⟩⟩;cases o1 with
  | nx ρ2=>exactλσ4 H4 HF4 S4 s4=>⟨HF4,ρ2,S4,(s'.trans G3.ff).trans s4,hf⟩
  | rt d=>cases hf;exact q
 ·have hi':i=ds.length:=by lia
  subst hi';rw[List.drop_length] at hf;cases hf;exact .inl ⟨it.stop H' HF' s' S'.gr.fh,q σ' H' HF' S' ((s1.trans G.ff).trans s')⟩
end
def Oc(X:Cx)(sc:Scope):Prop:=∀x k,sc.names.lookup x=some k->X.env.kindOf x=some k\/(k=.free/\X.env.kindOf x=some .cell)
structure Bk(X:Cx)(N:List Str)(sc:Scope)(k:Nat):Prop where
 n:X.N=N
 nd:N.Nodup
 tb:Oc X sc
 calm:X.calm=true
 fn:∀x,sc.names.lookup x=some .cell->X.fn x=true
 room:dP k X.A
 xe:X.xe=λ_ _=>False
 kd:X.env.scope.kind=.function
def dB:List Str:=["len","isinstance","int","bool","tuple","list","range","all","any","set","sorted","enumerate","zip","sum","min","max","reversed","abs","dict","str","type","iter","next"]
def Bn(X:Cx):Prop:=∀x∈dB,X.mg x=none
def yp(sc:Scope)(x:Str):Bool:=decide (sc.names.lookup x=some .globalImplicit)
def B8(N:List Str)(sc:Scope)(i:Nat)(x:Str):Bool:=decide (N[i]?=some x)&&(decide (sc.names.lookup x=some .local)||decide (sc.names.lookup x=some .cell)||decide (sc.names.lookup x=some .free))&&!(x == ("__debug__":Str))&&!(x == ("__classdict__":Str))
def qu(N:List Str)(sc:Scope)(i:Nat)(x:Str):Bool:=decide (N[i]?=some x)&&(decide (sc.names.lookup x=some .local)||decide (sc.names.lookup x=some .cell))
def Bk.gl(C:Bk X N sc k)(h:yp sc x=true):Gl X x:=by
 rcases C.tb x _ (yQ h) with q|⟨q,_⟩
 ·exact q
 ·cases q
def Bk.vis(C:Bk X N sc k)(h:B8 N sc i x=true):X.N[i]?=some x/\Jb X.env.scope x/\(x == ("__debug__":Str))=false/\(x == ("__classdict__":Str))=false:=by
 unfold B8 at h;simp?[zF,jB,zJ,yP] at h;let⟨⟨⟨h1,h2⟩,h3⟩,h4⟩:=h;refine⟨by rw[C.n];exact h1,?_,h3,h4⟩;rcases h2 with (h2|h2)|h2
 ·rcases C.tb x _ h2 with q|⟨q,_⟩
  ·exact .inl q
  ·cases q
 ·rcases C.tb x _ h2 with q|⟨q,_⟩
  ·exact .inr (.inl q)
  ·cases q
 ·rcases C.tb x _ h2 with q|⟨_,q⟩
  ·exact .inr (.inr q)
  ·exact .inr (.inl q)
def Bk.loc(C:Bk X N sc k)(h:qu N sc i x=true):X.N.Nodup/\X.N[i]?=some x/\Loc X.env.scope x/\(X.fn x=true\/X.env.scope.names.lookup x=some .local):=by
 unfold qu at h;simp?[zF,jB,zJ] at h;let⟨h1,h2⟩:=h;refine⟨by rw[C.n];exact C.nd,by rw[C.n];exact h1,?_⟩;rcases h2 with h2|h2
 ·rcases C.tb x _ h2 with q|⟨q,_⟩
  ·exact⟨.inl q,.inr q⟩
  ·cases q
 ·rcases C.tb x _ h2 with q|⟨q,_⟩
  ·exact⟨.inr q,.inl (C.fn x h2)⟩
  ·cases q
def Bk.blt(C:Bk X N sc k)(B:Bn X)(h:yp sc x=true)(hm:x∈dB)(hv:bootBuiltins x=some v):mY X x v:=⟨C.gl h,B x hm,hv⟩
def Bk.v(C:Bk X N sc k)(i:Nat)(h:B8 N sc i x=true):DE X (.Name x pos) (ab i):=let ⟨a,b,c,d⟩:=C.vis h;LM i a b c d
def Bk.pass(C:Bk X N sc k):PassesOwn (model X.prog X.w) X.A X.env X.xe:=by rw[C.xe];exact PassesOwn.never
def iE(sc scope:Scope)(N N':List Str)(t:Nat)(cs:List Nat):Bool :=
 decide (scope.kind=.function)&&scope.names.all (λp=>(!decide (p.2=NameKind.free)||decide (sc.names.lookup p.1=some .cell)||decide (sc.names.lookup p.1=some .free))&&(!decide (p.2=NameKind.local)||decide (scope.names.lookup p.1=some .local)))
  &&scope.names.all (λp=>!decide (p.2=NameKind.cell)||!scope.names.any λq=>decide (q.1=p.1)&&decide (q.2=NameKind.free))
  &&decide (N'.length=t+cs.length)&&decide (N'.drop t=cs.filterMap λj=>N[j]?)&&cs.all (λj=>decide (j < N.length))&&(N'.drop t).all (λx=>decide (scope.names.lookup x=some .free))&&decide N'.Nodup
def filterMap_get(N:List α):∀ (cs:List Nat),(∀j∈cs,j < N.length)->∀ (i:Nat),(cs.filterMap λj=>N[j]?)[i]?=(cs[i]?).bind λj=>N[j]?
 | [],_,i=>by simp
 | c::cs,h,i=>by
  have hc:=h c zE;rw[jG,zK hc];cases i with
  | zero=>simp[hc]
  | succ i =>
   simp?[yY];exact filterMap_get N cs (λj hj=>h j (zC _ hj)) i
def Bk.comp(C:Bk X N sc k){cs:List Nat}(h:iE sc scope N N' t cs=true):ix X scope N' (jo t cs)/\∀fp s H,Bk (aW X scope N' fp s H) N' scope k:=by
 unfold iE at h;simp?[zF,zJ,xG,jB,yP,xB] at h;obtain⟨⟨⟨⟨⟨⟨⟨h1,h2⟩,h3⟩,h4⟩,h5⟩,h6⟩,h7⟩,h8⟩:=h;refine⟨⟨h1,λx hx hk=>?_,λ{x} a b=>?_,λx hx hk=>?_,λσ i x v e1 e2=>?_,λσ=>?_⟩,λfp s H=>⟨rfl,h8,λx k hx=>nB hx,C.calm,λx hx=>yA hx,C.room,rfl,h1⟩⟩
 ·rcases (h2 x hx).1 with (q|q)|q
  ·exact absurd hk q
  ·rcases C.tb _ _ q with z|⟨z,_⟩
   ·exact .inl z
   ·cases z
  ·rcases C.tb _ _ q with z|⟨_,z⟩
   ·exact .inr z
   ·exact .inl z
 ·rcases h3 _ a with q|q
  ·exact q rfl
  ·have:(scope.names.any λq=>decide (q.1=x)&&decide (q.2=NameKind.free))=true:=List.any_eq_true.mpr ⟨_,b,by simp⟩;rw[this] at q;cases q
 ·rcases (h2 x hx).2 with q|q
  ·exact absurd hk q
  ·exact q
 ·unfold jo at e2;by_cases hi:i < t
  ·rw[yS (by simpa using hi),yX,yL hi] at e2;cases e2
  ·rw[yT (by simpa using hi),zO,xM] at e2;let⟨j,hj,e2⟩:=ag e2;have e3:(N'.drop t)[i - t]?=some x:=by rw[List.getElem?_drop];rw[show t+(i - t)=i by lia];exact e1
   refine⟨h7 x (qB e3),j,?_,?_⟩
   ·rw[h5,filterMap_get N cs h6,hj] at e3;rw[C.n];exact e3
   ·cases e:σ[j]? with
    | none=>rw[e] at e2;cases e2
    | some o=>rw[e] at e2;have e2:o=some v:=e2;rw[e2]
 ·unfold jo;rw[zN,xM,zD,h4]
def bf(g:ar->Option Out)(n:Nat)(args:List D):Option D:=(g (args.map Slot.val++List.replicate (n - args.length) .non)).map fun|.rt d=>d|.nx _=>.none
def Jc{K:W.Frag}{st:Stmt}(F:Hb K x qual st f fd)(S:eh N ps (aG st))
  (body:∀X:Cx,X.prog=P->X.w=w->X.K=K->X.mg=mg->X.base=base->Bk X N (aG st) k->X.env.code=fd.code->X.env.qual=qual++".<locals>."->∀HF₀ H₀,Dg X HF₀ H₀ (bV st) g):pD P w K mg base LW (k+1) f fd ps (Nj K ps.length (bf g N.length)):=by
 let⟨oc,od,kV,doc,pm,an,cdv,ct,osl,rfl,lk,hcd⟩:=F.ex;refine L5 lk hcd S (λvs H Q E ⟨HF,ds,d,h1,_,h2,h3,_⟩=>by rw[h2.length,h3]) λA outer s H vs Q E hr ⟨HF,ds,d,sm,tb,rr,hl,hd,q⟩=>?_;refine⟨_,(body (CH LW P w K mg base N qual (aG st) f cdv A outer s H E).nox rfl rfl rfl rfl rfl ⟨rfl,S.nd,λy kd hy=>.inl hy,rfl,λ_ _=>rfl,hr,rfl,S.kind⟩ rfl rfl HF H).nox,?_⟩;unfold bf at hd;let⟨o,ho,hd⟩:=ag hd;have hpl:ps.length<=N.length:=by have:=jC List.length S.pre;rw[jV] at this;lia
 refine⟨HF,_,o,⟨.refl sm,λi e h=>?_,λi es h=>?_,λi j es fs a h=>?_,?_,tb⟩,ho,?_⟩
 ·have hi:i < ds.length:=by
   by_cases hi:i < ds.length
   ·exact hi
   ·rw[yT (by simpa using hi),yX] at h;split at h<;>cases h
  rw[yS (by simpa using hi),zO] at h;let⟨d',hd',h⟩:=ag h;cases h;let⟨v,hv,rv⟩:=rr.getD hd';refine⟨v,?_,rv⟩;unfold L2.start;rw[yS (by simpa [rr.length] using hi),zO,hv];rfl
 ·exfalso;by_cases hi:i < ds.length
  ·rw[yS (by simpa using hi),zO] at h;let⟨d',hd',h⟩:=ag h;cases h
  ·rw[yT (by simpa using hi),yX] at h;split at h<;>cases h
 ·exfalso;by_cases hi:i < ds.length
  ·rw[yS (by simpa using hi),zO] at h;let⟨d',hd',h⟩:=ag h;cases h
  ·rw[yT (by simpa using hi),yX] at h;split at h<;>cases h
 ·unfold L2.start;rw[zN,zN,zD,zD,xM,xM,rr.length];exact yM _
 ·cases o with
  | rt d'=>cases hd;exactλv H' HF' G r=>q v H' HF' G r
  | nx ρ'=>cases hd;exactλσ' H' HF' S' _=>q .non H' HF' S'.gr (by simp[Rep])
def OO{K:W.Frag}{st:Stmt}(F:Hb K x qual st f fd)(S:eh N ps (aG st))(hb:Binds K fd ps [])(hm:mg x=some (.ref f))
  (body:∀X:Cx,X.prog=P->X.w=w->X.K=K->X.mg=mg->X.base=base->Bk X N (aG st) k->X.env.code=fd.code->X.env.qual=qual++".<locals>."->∀HF₀ H₀,Dg X HF₀ H₀ (bV st) g):F3 P w K mg base (k+1) x ps.length (bf g N.length):=⟨f,fd,ps,Jc F S body,hm,F.kp,hb⟩
def k5(fz:List Nat)(f:Env->Option D)(ρ:ar):Option (D×ar):=(f (bw ρ)).bind λd=>if pX d=true then some (d,ρ) else (f (bS (hand fz 0 ρ))).map λd'=>(d',hand fz 0 ρ)
def nJ{K:W.Frag}(S:iY K HF₀ H₀ HF H ρ σ)(h:k5 fz f ρ=some (d,ρ'))
  (q:∀v H' HF',aU HF HF'->iY K HF₀ H₀ HF' H' ρ' σ->aU H H'->Rep K HF' d v->Q v H'):tD K f σ H Q:=by
 let⟨d1,h1,h⟩:=bs h;split at h
 ·rename_i hs;cases h;exact⟨H,bw ρ,d,.refl _,S.all,h1,λv H' HF' G r=>q v H' HF (.refl _) (S.step G.hh) G.hh (va hs r)⟩
 ·let⟨d2,h2,h⟩:=ag h;cases h;let⟨HF1,s1,S1⟩:=S.hand fz;exact⟨HF1,_,d,S1.gr.fh,S1.frz,h2,λv H' HF' G r=>q v H' HF' (s1.trans G.ff) (S1.grow G) G.hh r⟩
def nR(i:Nat)(m:List D->Option (List D))(ρ:ar):Option Out:=match ρ[i]? with
 | some (.own ds)=>(m ds).map λes=>.nx (ρ.set i (.own es))
 | _=>none
def kc(h:nR i m ρ=some o):∃ds es,ρ[i]?=some (.own ds)/\m ds=some es/\o=.nx (ρ.set i (.own es)):=by
 unfold nR at h;split at h
 ·rename_i ds hd;let⟨es,h1,h2⟩:=ag h;exact⟨ds,es,hd,h1,h2.symm⟩
 ·cases h
def iY.mut{K:W.Frag}(S:iY K HF₀ H₀ HF H ρ σ)(h:ρ[i]?=some (.own ds))(ha:σ[i]?=some (some (.ref a)))(hH:H a=some (.lst vs))(r:ak K HF es us) :
  iY K HF₀ H₀ HF (upd H a (.lst us)) (ρ.set i (.own es)) σ:=by
 let⟨a',vs',e1,e2,e3,e5,e4⟩:=S.own i ds h;rw[ha] at e1;cases e1;have hl:i < ρ.length:=(List.getElem?_eq_some_iff.mp h).1;have gr:bY HF₀ H₀ HF (upd H a (.lst us)):=⟨λb o e=>by rw[aA (aP e e5)];exact S.gr.hh b o e,S.gr.ff,λb o e=>by rw[aA (aP e e3)];exact S.gr.fh b o e,S.gr.nw⟩
 refine⟨gr,λj d hj=>?_,λj xs hj=>?_,λj k xs ys b f1 f2 f3 f4=>?_,by rw[yC];exact S.len,S.tb⟩
 ·rw[xI] at hj;by_cases hij:i=j
  ·rw[yL hij] at hj;split at hj<;>cases hj
  ·rw[yN hij] at hj;exact S.val j d hj
 ·rw[xI] at hj;by_cases hij:i=j
  ·subst hij;rw[yL rfl,yL hl] at hj;cases hj;exact⟨a,us,ha,aI,e3,e5,r⟩
  ·rw[yN hij] at hj;let⟨b,ws,f1,f2,f3,f5,f4⟩:=S.own j xs hj;refine⟨b,ws,f1,?_,f3,f5,f4⟩;rw[aA]
   ·exact f2
   ·rintro rfl;exact hij (S.inj i j ds xs b h hj ha f1)
 ·have old:∀ {j:Nat}{xs:List D},(ρ.set i (.own es))[j]?=some (.own xs)->∃ys,ρ[j]?=some (.own ys):=λ{j xs} hj=>by
   rw[xI] at hj;by_cases hij:i=j
   ·subst hij;exact⟨ds,h⟩
   ·rw[yN hij] at hj;exact⟨xs,hj⟩
  let⟨xs',g1⟩:=old f1;let⟨ys',g2⟩:=old f2;exact S.inj j k xs' ys' b g1 g2 f3 f4
def lj(i:Nat)(fz:List Nat)(f:Env->Option D):ar->Option Out:=λρ=>(k5 fz f ρ).bind λp=>nR i (λds=>if ds.length < sizeLine then some (ds++[p.1]) else none) p.2
def CN(i:Nat)(fz:List Nat)(hN:X.N[i]?=some x)(hv:Jb X.env.scope x)(h:DE X e f)(hd:(x == ("__debug__":Str))=false:=by decide)(hcd:(x == ("__classdict__":Str))=false:=by decide)
  (hfew:((backTo cpos (starEach [e] X.env)).all (λx=>!x.1)&&(backToKw cpos (keywordEach [] X.env)).all (λx=>x.1.isSome)&&decide ([e].length+([]:List Keyword).length+(if ([]:List Keyword).isEmpty then 0 else 1) < 30))=true:=by rfl)
  (hline:(apos.endLine == cpos.line)=true:=by rfl) (hs:starEach [e] X.env=(false,eval e X.env)::starEach [] X.env:=by rfl) :
  DS X HF₀ H₀ (.Expr (.Call (.Attribute (.Name x px) "append" apos) [e] [] cpos) pos) (lj i fz f) :=
 c7 (oN (xo qN PySem.F.slot_list_append PySem.F.type_list_append sf (pH hN hv hd hcd) (cm h dQ hs) rfl hfew hline hs rfl)) λE σ H ⟨HF,ρ,o,S,hg,q⟩=>by
  let⟨⟨d,ρ'⟩,h1,hg⟩:=bs hg;let⟨ds,es,h2,h3,rfl⟩:=kc hg;have hown:∃ds',ρ[i]?=some (.own ds'):=by
   let⟨d1,_,h1⟩:=bs h1;split at h1
   ·cases h1;exact⟨ds,h2⟩
   ·let⟨d2,_,h1⟩:=ag h1;cases h1;rw[gS] at h2;let⟨s,hs,h2⟩:=ag h2;cases s with
    | non=>split at h2<;>cases h2
    | val _=>split at h2<;>cases h2
    | own xs=>exact⟨xs,hs⟩
  let⟨ds',hown⟩:=hown;let⟨a,vs,e1,e2,e3,e5,e4⟩:=S.own i ds' hown;refine⟨.ref a,e1,.inl ⟨rfl,vs,gw.of e2⟩,nJ S h1 λv H' HF' s1 S' sh r=>?_⟩;let⟨a',vs',f1,f2,f3,f5,f4⟩:=S'.own i ds h2;rw[e1] at f1;cases f1;split at h3
  ·rename_i hz;cases h3;exact⟨a,vs',v,rfl,rfl,f2,by rw[f4.length];exact hz,q σ _ HF' (S'.mut h2 e1 f2 (f4.append (ak.cons r ak.nil))) s1⟩
  ·cases h3
def sW(K:W.Frag)(o:Obj):Option (Addr×Str):=match o.data with
 | .func fd=>if jc.contains fd.qualname=true then (match fd.code with
   | .ref c=>(match K.lookup c with
    | some ⟨_,_,.fields vs,_⟩=>(match (vs[11]?:Option Value) with
     | some (.ref P)=>if W.codeHdIn K c P=true then some (P,fd.qualname++".<locals>."++"<lambda>") else none
     | _=>none)
    | _=>none)
   | _=>none) else none
 | _=>none
def gE(K:W.Frag):List (Addr×Str):=K.filterMap λp=>sW K p.2
def mT(K:W.Frag)(ts:List Addr):Bool:=(gE K).all λp=>ts.contains p.1&&(K.lookup p.1).isNone&&decide ((gE K).lookup p.1=some p.2)
def v5{K:W.Frag}(h:sW K o=some (P,q)):∃c,W.codeHdIn K c P=true:=by
 unfold sW at h;split at h
 ·split at h
  ·split at h
   ·split at h
    ·split at h
     ·split at h
      ·cases h;exact⟨_,‹_›⟩
      ·cases h
     ·cases h
    ·cases h
   ·cases h
  ·cases h
 ·cases h
def vb{K:W.Frag}(h:(P,q)∈gE K):∃c,W.codeHdIn K c P=true:=by
 let⟨p,_,e⟩:=List.mem_filterMap.mp h;exact v5 e
def Az{K:W.Frag}(a:K.lookup f=some ⟨oc,od,.func fd,sl⟩)(b:fd.qualname∈jc)(d:fd.code=.ref c)(e:W.codeHdIn K c P=true) :
  (P,fd.qualname++".<locals>."++"<lambda>")∈gE K:=by
 refine List.mem_filterMap.mpr ⟨(f,_),W.mem_of_lookupK a,?_⟩;have e':=e;unfold W.codeHdIn at e';unfold sW;simp?[d,List.contains_iff_mem,b,xH];split at e'
 ·rename_i vs sl' hl;simp?[hl];simp?[zF] at e';have e1:=e'.1.1.1.1.1;split at e1
  ·rename_i P' hv;have:P'=P:=by simpa using e1
   subst this;simp?[hv,e,xH]
  ·cases e1
 ·cases e'
def Dm:∀ {l:List (Addr×α)},l.lookup b=some q->(b,q)∈l
 | [],e=>by cases e
 | (c,x)::r,e=>by
  rw[yB] at e;cases h:b == c with
  | true=>rw[h] at e;cases e;rw[eq_of_beq h];exact zE
  | false=>rw[h] at e;exact zC _ (Dm e)
def ej(K:W.Frag)(h0:Hp):Hp:=λb=>match (gE K).lookup b with|some q=>some (.tab q)|none=>h0 b
def Cf{K:W.Frag}(h:mT K ts=true):fQ K (ej K h0):=λf oc od fd sl c P a b d e=>by
 have hm:=Az a b d e;have:=List.all_eq_true.mp h _ hm;simp?[zF,zJ] at this;unfold ej;rw[this.2]
def Ce{w:World}{K:W.Frag}{CX:Ja}{k:Nat}{fa:Addr}{fd:FuncData}{sp:Sp}{vs:List Value}{ns:List Int}
  (KX:K.In s₁.heap) (hns:s₁.heap.Ns mainGlobals mg) (hb:s₁.heap.Ns builtinsNs mb) (hbb:∀x:Str,x≠"__name__"->mb x=bootBuiltins x) (hlim:s₁.heap.NoLimit) (hbm:Nz mg s₁.heap) (hg:s₁.gens=#[])
  (ht:mT K ts=true) (hts:∀P∈ts,s₁.heap.get? P=some (W.tabObj #[]))
  (ha:s₁.heap.get? a=some { cls:=.type "list",data:=.seq vs.toArray }) (hi:IntsAre vs ns) (hl:ns.length<=sizeLine) (hr:dP k callerA)
  (F:∀base:Heap,K.In base->base.Ns mainGlobals mg->pD P w K mg base CX k fa fd [x] sp) (hbind:∀ (s:Shared) (u:Value),BindsTo s fd ⟨[u],[]⟩ [(x,u)])
  (hsp:∀H:Hp,fQ K H->gw K H a (ns.map V.int)->sp [.ref a] H (λv _=>v=.bl true) λ_ _ _=>False)
  (hCX:∀H e s',CX [] H s₁ (λ_ _ _=>False) e s'->False) :
  codeAny (model P w) callerA (.call (.ref fa) ⟨[.ref a],[]⟩) (λr s'=>r=.ok (.ret (.bool true))/\OldK s₁.heap s'.heap/\s'.os=s₁.os/\AllBare s'.gens) s₁:=by
 have rv:=gK hi;have lenV:=hi.length;have tabAt:∀b q,(gE K).lookup b=some q->s₁.heap.get? b=some (W.tabObj #[])/\K.lookup b=none/\∃c,W.CodeHd s₁.heap c b:=λb q e=>by
  have hm:=Dm e;have:=List.all_eq_true.mp ht _ hm;simp?[zF,zJ,List.contains_iff_mem,Option.isNone_iff_eq_none] at this;let⟨c,hc⟩:=vb hm;exact⟨hts b this.1.1,this.1.2,c,W.codeHd_of_K KX hc⟩
 have aT:(gE K).lookup a=none:=by
  cases e:(gE K).lookup a with
  | none=>rfl
  | some q=>have:=(tabAt a q e).1;rw[ha] at this;cases this
 have core:∀h0:Hp,gw K (ej K h0) a (ns.map V.int)->oM P w (ej K h0) s₁.heap->(∀b,h0 b≠none->b=a)->(h0 a≠none->K.lookup a=none)->(∀b,h0 b=none\/∃o xs,h0 b=some (.frz o (.lst xs))) ->
   codeAny (model P w) callerA (.call (.ref fa) ⟨[.ref a],[]⟩) (λr s'=>r=.ok (.ret (.bool true))/\OldK s₁.heap s'.heap/\s'.os=s₁.os/\AllBare s'.gens) s₁:=by
  intro h0 hS hok hA hK hO;have look:∀b u,ej K h0 b=some u->(∃q,(gE K).lookup b=some q/\u=.tab q)\/(b=a/\h0 b=some u):=λb u e=>by
   unfold ej at e;split at e
   ·rename_i q hq;cases e;exact .inl ⟨q,hq,rfl⟩
   ·exact .inr ⟨hA b (by rw[e];simp),e⟩
  have mP:∀ {b:Addr}{o:Obj},s₁.heap.get? b=some o->ej K h0 b=none->(ud s₁.heap (ej K h0)).get? b=some o:=λe n=>ER e n;have noA:∀ {b:Addr}{o:Obj},s₁.heap.get? b=some o->(∀vs n,o.data≠.seq vs n)->(∀vs,o.data≠.fields vs)->ej K h0 b=none:=λ{b o} e d d2=>by
   cases q:ej K h0 b with
   | none=>rfl
   | some u =>
    rcases look b u q with ⟨q',z,_⟩|⟨z,_⟩
    ·rw[(tabAt b q' z).1] at e;cases e;exact absurd rfl (d2 _)
    ·subst z;rw[ha] at e;cases e;exact absurd rfl (d _ _)
  have nsK:∀ {b:Addr}{m:Str->Option Value},s₁.heap.Ns b m->(ud s₁.heap (ej K h0)).Ns b m:=λ{b m} ⟨o,es,ep,e,d,r⟩=>⟨o,es,ep,mP e (noA e (λ_ _ z=>by rw[d] at z;cases z) λ_ z=>by rw[d] at z;cases z),d,r⟩
  have hKb:K.In (ud s₁.heap (ej K h0)):=λb o e=>mP (KX b o e) (by
   cases q:ej K h0 b with
   | none=>rfl
   | some u =>
    rcases look b u q with ⟨q',z,_⟩|⟨z,z2⟩
    ·rw[(tabAt b q' z).2.1] at e;cases e
    ·subst z;rw[hK (by rw[z2];simp)] at e;cases e)
  have hM:Mod K mg (ud s₁.heap (ej K h0)):=⟨hKb,nsK hns,⟨mb,nsK hb,hbb⟩,let ⟨mc,h1,h2⟩:=hlim;⟨mc,nsK h1,h2⟩,
   let ⟨bm,o,b1,b2,b3,b4,b5,b6,b7⟩:=hbm;⟨bm,o,b1,b2,b3,mP b4 (noA b4 (λ_ _ z=>by rw[b7] at z;cases z) λ_ z=>by rw[b7] at z;cases z),b5,b6,b7⟩⟩
  have e0:Hh P w K mg (ud s₁.heap (ej K h0)) callerA [] s₁ (ej K h0):=⟨rfl,hM,λb o e=>IV e,Nat.le_of_eq (B9 _ _),trivial,λb hb=>absurd (show b∈([]:List Addr) from hb) (by simp),hok,.of_eq hg⟩
  refine jR ((F _ hKb (nsK hns)).run callerA [] s₁ (ej K h0) ⟨[.ref a],[]⟩ [.ref a] [.ref a] _ _ hr e0 (hbind s₁ (.ref a)) (.cons rfl .nil) (hsp _ (Cf ht) hS)) λr s' h=>?_;cases r with
  | error e=>exact (hCX _ e s' h).elim
  | ok fl =>
   cases fl with
   | next=>exact False.elim h
   | brk=>exact False.elim h
   | cont=>exact False.elim h
   | ret u =>
    let⟨v,H',os,bare,un,hok',r',q⟩:=h;have q':v=.bl true:=q;subst q';obtain rfl:u=Value.bool true:=r';have key:∀b o,s₁.heap.get? b=some o->s'.heap.get? b=some o\/(isCodeTable s₁.heap b/\o=W.tabObj #[]/\∃ps,s'.heap.get? b=some (W.tabObj ps)):=λb o e=>by
     cases q:ej K h0 b with
     | none=>exact .inl (un.keep b o e q (by intro z;exact absurd (show b∈([]:List Addr) from z) (by simp)) (by simp))
     | some u =>
      rcases look b u q with ⟨q',z,rfl⟩|⟨z,z2⟩
      ·let⟨t1,_,c,t3⟩:=tabAt b q' z;let⟨more,m1⟩:=un.tbls.gr b q' #[] q t1;rw[e] at t1;cases t1;exact .inr ⟨(t3.tab e).isCodeTable,rfl,_,m1⟩
      ·rcases hO b with z3|⟨ob,xs,z3⟩
       ·rw[z2] at z3;cases z3
       ·rw[z2] at z3;cases z3;have z4:=un.frzs b ob _ q;let⟨e1,_⟩:=hok b _ q;let⟨e2,_⟩:=hok' b _ z4;rw[e] at e1;cases e1;exact .inl e2
    refine⟨rfl,⟨λb o e=>?_,λb o e=>?_⟩,os,bare⟩
    ·rcases key b o e with z|⟨t,rfl,ps,z⟩
     ·exact .inl z
     ·exact .inr (.inl ⟨t,rfl,#[],ps,rfl,by rw[Array.empty_append];exact z⟩)
    ·rcases key b o e with z|⟨_,_,ps,z⟩
     ·exact⟨o,z⟩
     ·exact⟨_,z⟩
 have hoT:∀ (h0:Hp) b q,(gE K).lookup b=some q->di P w (ej K h0) s₁.heap b (.tab q):=λh0 b q e=>⟨#[],(tabAt b q e).1,trivial,λpos v z=>by cases z⟩
 cases hk:K.lookup a with
 | some o =>
  have e:=KX a o hk;rw[ha] at e;cases e;refine core (λ_=>none) (.inr ⟨_,vs.toArray,_,hk,rfl,rfl,rfl,by rw[zH,lenV];exact hl,by simpa using rv⟩) (λb u z=>?_) (λb z=>absurd rfl z) (λz=>absurd rfl z) λ_=>.inl rfl;unfold ej at z;split at z
  ·rename_i q hq;cases z;exact hoT _ b q hq
  ·cases z
 | none =>
  refine core (λb=>if b=a then some (.frz { cls:=.type "list",data:=.seq vs.toArray } (.lst (ns.map V.int))) else none) (.inl (.inr ⟨{ cls:=.type "list",data:=.seq vs.toArray },?_⟩)) (λb u z=>?_) (λb z=>?_) (λ_=>hk) λb=>?_
  ·unfold ej;rw[aT];exact yL rfl
  ·unfold ej at z;split at z
   ·rename_i q hq;cases z;exact hoT _ b q hq
   ·by_cases hb:b=a
    ·replace z:=(yL hb).symm.trans z;cases z;subst hb;exact⟨ha,by rw[zD];exact hl,vs,_,rv,ha⟩
    ·replace z:=(yN hb).symm.trans z;cases z
  ·by_cases hb:b=a
   ·exact hb
   ·exact absurd (yN hb) z
  ·by_cases hb:b=a
   ·exact .inr ⟨_,_,yL hb⟩
   ·exact .inl (yN hb)
def Fn{l:W.OpenLaw}{n k:Nat}{q:Program}{loose:List Str}{XP:(Str->Option Value)->Heap->Prop}{YP:World->Heap->Prop}{d:DefRec}{K:Params->W.Frag}{CX:World->Ja}{sp:World->Sp}{x:Str}{ts:List Addr}
  (hn:l.most=some n) (hn2:n<=sizeLine) (hdf:d.params.defaults=[]) (hr:dP k callerA)
  (hY:∀ (w:World) (h:Heap),YP w h->(K w.params).In h/\∀P∈ts,h.get? P=some (W.tabObj #[])) (ht:∀w:World,mT (K w.params) ts=true)
  (F:∀ (w:World) (mg:Str->Option Value) (fa:Addr) (h:Heap),(K w.params).In h->h.Ns mainGlobals mg->mg d.name=some (.ref fa) ->
   ∃fd:FuncData,(∀ (s:Shared) (u:Value),BindsTo s fd ⟨[u],[]⟩ [(x,u)]) /\
    ∀base:Heap,(K w.params).In base->base.Ns mainGlobals mg->pD l.prog w (K w.params) mg base (CX w) k fa fd [x] (sp w))
  (hsp:∀ (w:World) (H:Hp) (a:Addr) (ns:List Int),ns.length<=n->fQ (K w.params) H->gw (K w.params) H a (ns.map V.int)->sp w [.ref a] H (λv _=>v=.bl true) λ_ _ _=>False)
  (hCX:∀ (w:World) (H:Hp) (s:Shared) (e:Value) (s':Shared),CX w [] H s (λ_ _ _=>False) e s'->False) :
  W.WalkO q loose XP YP l.row.toRowW d [] (λf vs=>PySem.call f vs):=by
 refine Att.attach_call hn hdf λw s₀ s₁ mg mb fa o pm cd doc a vs ns G Y ho hd hcd hmg hobj hints hlen hg=>?_;let⟨KX,hts⟩:=hY w _ Y;let⟨fd,hb,hF⟩:=F w mg fa _ KX G.T.g hmg;have hbm:Nz mg s₁.heap:=by
  let⟨bm,ob,b1,b2,b3,b4,b5,b6⟩:=G.T.bmain;refine⟨bm,ob,b1,b2,λz=>?_,b3,b4,b5,b6⟩;let⟨o',es,ep,e1,e2,_⟩:=G.T.g;rw[<- z,b3] at e1;cases e1;rw[b6] at e2;cases e2
 exact Ce KX G.T.g G.T.b G.T.builtins G.T.nolimit hbm hg (ht w) hts hobj hints (yD hlen hn2) hr hF hb (λH hT hS=>hsp w H a ns hlen hT hS) λH e s'=>hCX w H s₁ e s'
end Dl
namespace SP
open PySem PySem.W PyProof.Rows
def run(lt:Nat->Nat->Bool):KasT α->α
 | .ret a=>a
 | .ask i j k=>run lt (k (lt i j))
def gL(lt:Nat->Nat->Bool)(f:α->KasT β):∀t:KasT α,run lt (t.bind f)=run lt (f (run lt t))
 | .ret a=>rfl
 | .ask i j k=>by
  show run lt ((k (lt i j)).bind f)=run lt (f (run lt (k (lt i j))));exact gL lt f (k (lt i j))
def LZ(n:Nat):KasT α->Prop
 | .ret _=>True
 | .ask i j k=>i < n/\j < n/\∀b,LZ n (k b)
def wp_run(hc:∀i j C,i < n->j < n->C (lt i j) s->cmp i j C s):∀ (t:KasT α) {Q:α->Shared->Prop},LZ n t->Q (run lt t) s->t.kasWp cmp Q s
 | .ret a,Q,_,h=>h
 | .ask i j k,Q,b,h=>hc i j _ b.1 b.2.1 (wp_run hc (k (lt i j)) (b.2.2 _) h)
def o7(n:Nat)(R:α->Prop):KasT α->Prop
 | .ret a=>R a
 | .ask i j k=>i < n/\j < n/\∀b,o7 n R (k b)
def m8:∀ {t:KasT α},o7 n R t->(∀a,R a->LZ n (f a))->LZ n (t.bind f)
 | .ret a,b,h=>h a b
 | .ask i j k,b,h=>⟨b.1,b.2.1,λc=>m8 (b.2.2 c) h⟩
def iy:∀ {t:KasT α},o7 n R t->(∀a,R a->o7 n S (f a))->o7 n S (t.bind f)
 | .ret a,b,h=>h a b
 | .ask i j k,b,h=>⟨b.1,b.2.1,λc=>iy (b.2.2 c) h⟩
def Bd(n:Nat)(p:Array Nat):Prop:=∀a,p.getD a 0 < n
def Bd.perm(h:Bd n p)(e:q.Perm p):Bd n q:=by
 intro a;rw[qD];cases ha:q[a]? with
 | none=>have:=h p.size;rw[qD] at this;simpa using this
 | some x =>
  have hx:x∈q:=Array.mem_of_getElem? ha;have hx':x∈p:=e.mem_iff.mp hx;let⟨i,hi,rfl⟩:=Array.mem_iff_getElem.mp hx';have:=h i;rw[qD] at this;simpa [hi] using this
def EC(h:Bd n p):∀f m,o7 n (λ_=>True) (kas_asc p f m)
 | 0,m=>trivial
 | f+1,m=>⟨h _,h _,λc=>by
  dsimp only;split
  ·trivial
  ·exact EC h f (m+1)⟩
def uZ(h:Bd n p)(i j:Nat):Bd n (kas_rev p i j):=h.perm (mirror_perm _ _ _ _)
def uN:∀ (f:Nat) {p:Array Nat}(h:Bd n p) (m q:Nat),o7 n (λr=>Bd n r.1) (kas_desc f p m q)
 | 0,p,h,m,q=>h
 | f+1,p,h,m,q=>⟨h _,h _,λc=>by
  dsimp only;split
  ·split
   ·exact uN f (uZ h _ _) (m+1) 0
   ·exact uN f h (m+1) 0
  ·exact⟨h _,h _,λd=>by
    dsimp only;split
    ·exact h
    ·exact uN f h (m+1) (q+1)⟩⟩
def BZ(h:Bd n p)(m nrem:Nat):o7 n (λr=>Bd n r.2) (kas_tail3 m nrem p):=iy (EC (uZ h 0 m) _ _) λ_ _=>uZ h 0 m
def o5(h:Bd n p)(m nrem:Nat):o7 n (λr=>Bd n r.2) (kas_descPart m nrem p):=iy (uN _ h _ _) λr hr=>by
 split
 ·exact BZ (uZ hr _ _) _ _
 ·exact BZ hr _ _
def Ik(h:Bd n p)(nrem:Nat):o7 n (λr=>Bd n r.2) (kas_count nrem p):=iy (EC h _ _) λm _=>by
 split
 ·exact h
 ·split
  ·exact⟨h _,h _,λc=>by
    dsimp only;split
    ·exact h
    ·exact o5 (uZ h _ _) _ _⟩
  ·exact o5 h _ _
def sY(h:Bd n p)(k:Nat):∀f l r,o7 n (λ_=>True) (kas_place p k f l r)
 | 0,l,r=>trivial
 | f+1,l,r=>by
  unfold kas_place;split
  ·trivial
  ·exact⟨h _,h _,λc=>by
    dsimp only;split
    ·exact sY h k f _ _
    ·exact sY h k f _ _⟩
def Ju:∀ (f:Nat) {p:Array Nat}(h:Bd n p) (k:Nat),LZ n (kas_bin f p k)
 | 0,p,h,k=>trivial
 | f+1,p,h,k=>m8 (sY h k _ _ _) λl _=>Ju f (h.perm (bubble_perm _ _ _)) (k+1)
def D0(h1:1<=n):LZ n (kas_sort n):=by
 have h:Bd n (List.toArray (List.range n)):=λa=>by
  rw[qD];by_cases ha:a < n
  ·simp[ha]
  ·simp[ha];lia
 refine m8 (Ik h n) λr hr=>?_;split
 ·exact Ju _ hr _
 ·trivial
section
variable (z:Nat->Int)
def Z(p:Array Nat)(a:Nat):Int:=z (p.getD a 0)
def dI:Nat->Nat->Bool:=λi j=>decide (z i < z j)
def mE(h:p[a]?=q[b]?):Z z p a=Z z q b:=by
 unfold Z;rw[qD,qD,h]
def Eu(hj:j<=p.size)(k:Nat):Z z (kas_rev p i j) k=if i<=k/\k < j then Z z p (i+j - 1 - k) else Z z p k:=by
 have e:=getElem?_mirror_all (xs:=p) (i:=i) hj k;unfold kas_rev;by_cases h1:i<=k/\k < j
 ·rw[yL h1] at e ⊢;exact mE z e
 ·rw[yN h1] at e ⊢;exact mE z e
def Em(hs:src < p.size)(hd:d<=src)(k:Nat):Z z (bubble p src d) k=if k=src - d then Z z p src else if src - d < k/\k<=src then Z z p (k - 1) else Z z p k:=by
 have e:=getElem?_bubble hs d hd k;by_cases h1:k=src - d
 ·rw[yL h1] at e ⊢;exact mE z e
 ·rw[yN h1] at e ⊢;by_cases h2:src - d < k/\k<=src
  ·rw[yL h2] at e ⊢;exact mE z e
  ·rw[yN h2] at e ⊢;exact mE z e
def Up(p:Array Nat)(n:Nat):Prop:=∀a b,a<=b->b < n->Z z p a<=Z z p b
def Dn(p:Array Nat)(n:Nat):Prop:=∀a b,a<=b->b < n->Z z p b<=Z z p a
variable {z}
def GB(h:Up z p n)(hn:1<=n)(h1:Z z p (n - 1)<=Z z p n):Up z p (n+1):=by
 intro a b hab hb;by_cases hbn:b < n
 ·exact h a b hab hbn
 ·have e:b=n:=by lia
  subst e;by_cases ha:a=b
  ·subst ha;exact xZ _
  ·exact jT (h a (b - 1) (by lia) (by lia)) h1
def N0:∀ (f n:Nat),1<=n->Up z p n->n<=run (dI z) (kas_asc p f n)/\run (dI z) (kas_asc p f n)<=n+f/\Up z p (run (dI z) (kas_asc p f n))/\(run (dI z) (kas_asc p f n) < n+f->Z z p (run (dI z) (kas_asc p f n)) < Z z p (run (dI z) (kas_asc p f n) - 1))
 | 0,n,hn,h=>⟨yM _,yM _,h,λq=>absurd q (qE _)⟩
 | f+1,n,hn,h=>by
  unfold kas_asc;show n<=run (dI z) (if dI z (p.getD n 0) (p.getD (n - 1) 0)=true then .ret n else kas_asc p f (n+1))/\run (dI z) (if dI z (p.getD n 0) (p.getD (n - 1) 0)=true then .ret n else kas_asc p f (n+1))<=n+(f+1)/\Up z p (run (dI z) (if dI z (p.getD n 0) (p.getD (n - 1) 0)=true then .ret n else kas_asc p f (n+1)))/\(run (dI z) (if dI z (p.getD n 0) (p.getD (n - 1) 0)=true then .ret n else kas_asc p f (n+1)) < n+(f+1)->Z z p (run (dI z) (if dI z (p.getD n 0) (p.getD (n - 1) 0)=true then .ret n else kas_asc p f (n+1))) < Z z p (run (dI z) (if dI z (p.getD n 0) (p.getD (n - 1) 0)=true then .ret n else kas_asc p f (n+1)) - 1))
  by_cases hc:dI z (p.getD n 0) (p.getD (n - 1) 0)=true
  ·rw[yL hc];exact⟨yM _,jU _ _,h,λ_=>yQ hc⟩
  ·rw[yN hc];have h1:Z z p (n - 1)<=Z z p n:=by
    have:¬ (Z z p n < Z z p (n - 1)):=λq=>hc (yA q);lia
   let⟨a,b,c,d⟩:=N0 f (n+1) (by lia) (GB h hn h1);exact⟨by lia,by lia,c,λq=>d (by lia)⟩
def zz(hj:j<=p.size)(h:∀a b,i<=a->a < j->i<=b->b < j->Z z p a=Z z p b)(k:Nat):Z z (kas_rev p i j) k=Z z p k:=by
 rw[Eu z hj];split
 ·rename_i hk;exact h _ _ (by lia) (by lia) hk.1 hk.2
 ·rfl
def ED(e:∀k,Z z q k=Z z p k)(h:Dn z p n):Dn z q n:=λa b hab hb=>by rw[e,e];exact h a b hab hb
def Le(hn:n<=p.size)(h:Dn z p n):Up z (kas_rev p 0 n) n:=by
 intro a b hab hb;rw[Eu z hn,Eu z hn,yL ⟨xV _,by lia⟩,yL ⟨xV _,hb⟩];exact h _ _ (by lia) (by lia)
def mv(p:Array Nat)(i j:Nat):(kas_rev p i j).size=p.size:=mirror_size _ _ _ _
def mX(p:Array Nat)(i j:Nat):(kas_rev p i j).Perm p:=mirror_perm _ _ _ _
structure Kx(z:Nat->Int)(p₀ p:Array Nat)(n q nrem:Nat):Prop where
 perm:p.Perm p₀
 size:p.size=p₀.size
 le:n<=nrem
 qn:q+1<=n
 dn:Dn z p n
 eq:∀a b,n - (q+1)<=a->a < n->n - (q+1)<=b->b < n->Z z p a=Z z p b
def GR(hz:nrem<=p₀.size):∀ (f:Nat) (p:Array Nat) (n q:Nat),n+f<=nrem->Kx z p₀ p n q nrem ->
  let r:=run (dI z) (kas_desc f p n q);Kx z p₀ r.1 r.2.1 r.2.2 nrem
 | 0,p,n,q,hn,h=>h
 | f+1,p,n,q,hn,h=>by
  intro r;have hr:r=run (dI z) (if dI z (p.getD n 0) (p.getD (n - 1) 0)=true then (if q > 0 then kas_desc f (kas_rev p (n - (q+1)) n) (n+1) 0 else kas_desc f p (n+1) 0)
   else .ask (p.getD (n - 1) 0) (p.getD n 0) λd=>if d=true then .ret (p,n,q) else kas_desc f p (n+1) (q+1)):=rfl
  have hq:=h.qn;by_cases hc:dI z (p.getD n 0) (p.getD (n - 1) 0)=true
  ·rw[yL hc] at hr;have hlt:Z z p n < Z z p (n - 1):=yQ hc;have step:∀p':Array Nat,p'.Perm p₀->p'.size=p₀.size->(∀k,Z z p' k=Z z p k)->Kx z p₀ p' (n+1) 0 nrem:=λp' a1 a2 a3=>by
    refine⟨a1,a2,by lia,by lia,λa b hab hb=>?_,λa b h1 h2 h3 h4=>by rw[show a=b by lia]⟩;rw[a3,a3];by_cases hbn:b < n
    ·exact h.dn a b hab hbn
    ·have e:b=n:=by lia
     subst e;by_cases ha:a=b
     ·subst ha;exact xZ _
     ·exact jT (Int.le_of_lt hlt) (h.dn a (b - 1) (by lia) (by lia))
   by_cases hq0:q > 0
   ·rw[yL hq0] at hr;rw[hr];exact GR hz f _ (n+1) 0 (by lia) (step _ ((mX _ _ _).trans h.perm) (by rw[mv,h.size]) (zz (by rw[h.size];lia) h.eq))
   ·rw[yN hq0] at hr;rw[hr];exact GR hz f p (n+1) 0 (by lia) (step p h.perm h.size λ_=>rfl)
  ·rw[yN hc] at hr;have hge:Z z p (n - 1)<=Z z p n:=by
    have:¬ (Z z p n < Z z p (n - 1)):=λq=>hc (yA q);lia
   have hr':r=run (dI z) (if dI z (p.getD (n - 1) 0) (p.getD n 0)=true then .ret (p,n,q) else kas_desc f p (n+1) (q+1)):=hr;by_cases hd:dI z (p.getD (n - 1) 0) (p.getD n 0)=true
   ·rw[yL hd] at hr';rw[hr'];exact h
   ·rw[yN hd] at hr';rw[hr'];have heq:Z z p n=Z z p (n - 1):=by
     have:¬ (Z z p (n - 1) < Z z p n):=λq=>hd (yA q);lia
    refine GR hz f p (n+1) (q+1) (by lia) ⟨h.perm,h.size,by lia,by lia,λa b hab hb=>?_,λa b h1 h2 h3 h4=>?_⟩
    ·by_cases hbn:b < n
     ·exact h.dn a b hab hbn
     ·have e:b=n:=by lia
      subst e;by_cases ha:a=b
      ·subst ha;exact xZ _
      ·rw[heq];exact h.dn a (b - 1) (by lia) (by lia)
    ·have key:∀c,n+1 - (q+1+1)<=c->c < n+1->Z z p c=Z z p (n - 1):=λc c1 c2=>by
      by_cases hcn:c < n
      ·exact h.eq c (n - 1) (by lia) hcn (by lia) (by lia)
      ·have e:c=n:=by lia
       subst e;exact heq
     rw[key a h1 h2,key b h3 h4]
structure Nq(z:Nat->Int)(p₀:Array Nat)(nrem:Nat)(r:Nat×Array Nat):Prop where
 perm:r.2.Perm p₀
 size:r.2.size=p₀.size
 ge:1<=r.1
 le:r.1<=nrem
 up:Up z r.2 r.1
def tail3(hz:nrem<=p₀.size)(h1:1<=n)(hn:n<=nrem)(hp:p.Perm p₀)(hs:p.size=p₀.size)(hd:Dn z p n):Nq z p₀ nrem (run (dI z) (kas_tail3 n nrem p)):=by
 unfold kas_tail3;rw[gL];let⟨a,b,c,_⟩:=N0 (nrem - n) n h1 (Le (by lia) hd);exact⟨(mX _ _ _).trans hp,by show (kas_rev p 0 n).size=_;rw[mv,hs],by show 1<=run _ (kas_asc _ _ _);lia,by show run _ (kas_asc _ _ _)<=nrem;lia,c⟩
def descPart(hz:nrem<=p₀.size)(h1:1<=n)(hn:n < nrem)(hp:p.Perm p₀)(hs:p.size=p₀.size)(hd:Dn z p n)(hlt:Z z p n<=Z z p (n - 1)):Nq z p₀ nrem (run (dI z) (kas_descPart n nrem p)):=by
 unfold kas_descPart;rw[gL];have D:=GR (z:=z) hz (nrem - (n+1)) p (n+1) 0 (by lia) ⟨hp,hs,by lia,by lia,λa b hab hb=>by
  by_cases hbn:b < n
  ·exact hd a b hab hbn
  ·have e:b=n:=by lia
   subst e;by_cases ha:a=b
   ·subst ha;exact xZ _
   ·exact jT hlt (hd a (b - 1) (by lia) (by lia)),λa b h1 h2 h3 h4=>by rw[show a=b by lia]⟩
 dsimp only at D;generalize run (dI z) (kas_desc (nrem - (n+1)) p (n+1) 0)=r at D;have hq:=D.qn;split
 ·exact tail3 hz (by lia) D.le ((mX _ _ _).trans D.perm) (by rw[mv,D.size]) (ED (zz (by have:=D.size;have:=D.le;lia) D.eq) D.dn)
 ·exact tail3 hz (by lia) D.le D.perm D.size D.dn
def count(hz:nrem<=p.size)(h1:1<=nrem):Nq z p nrem (run (dI z) (kas_count nrem p)):=by
 unfold kas_count;rw[gL];let⟨a,b,c,d⟩:=N0 (z:=z) (p:=p) (nrem - 1) 1 (yM _) (λx y hxy hy=>by rw[show x=y by lia];exact xZ _);generalize run (dI z) (kas_asc p (nrem - 1) 1)=n at a b c d;split
 ·exact⟨Array.Perm.refl _,rfl,a,by show n<=nrem;lia,c⟩
 ·rename_i hne;have hlt:n < nrem:=by
   have:n≠nrem:=λe=>hne (by simp[e]);lia
  have hd:=d (by lia);split
  ·rename_i hn1;show Nq z p nrem (run (dI z) (if dI z (p.getD 0 0) (p.getD (n - 1) 0)=true then .ret (n,p) else kas_descPart n nrem (kas_rev p 0 n)));by_cases hc:dI z (p.getD 0 0) (p.getD (n - 1) 0)=true
   ·rw[yL hc];exact⟨Array.Perm.refl _,rfl,a,by show n<=nrem;lia,c⟩
   ·rw[yN hc];have hge:Z z p (n - 1)<=Z z p 0:=by
     have:¬ (Z z p 0 < Z z p (n - 1)):=λq=>hc (yA q);lia
    have all:∀x,x < n->Z z p x=Z z p 0:=λx hx=>by
     have e1:=c 0 x (xV _) hx;have e2:=c x (n - 1) (by lia) (by lia);lia
    have same:=zz (z:=z) (p:=p) (i:=0) (j:=n) (by lia) λx y _ hx _ hy=>by rw[all x hx,all y hy]
    refine descPart hz (by lia) hlt (mX _ _ _) (by rw[mv]) (λx y hxy hy=>?_) ?_
    ·rw[same,same,all x (by lia),all y hy];exact xZ _
    ·rw[same,same];lia
  ·exact descPart hz (by lia) hlt (Array.Perm.refl _) rfl (λx y hxy hy=>by rw[show x=y by lia];exact xZ _) (by lia)
def place(hu:Up z p k):∀ (f l r:Nat),r - l<=f->l<=r->r<=k->(∀a,a < l->Z z p a<=Z z p k)->(∀a,r<=a->a < k->Z z p k<=Z z p a) ->
  let m:=run (dI z) (kas_place p k f l r);m<=k/\(∀a,a < m->Z z p a<=Z z p k)/\(∀a,m<=a->a < k->Z z p k<=Z z p a)
 | 0,l,r,hf,hl,hr,h1,h2=>by
  intro m;have e:l=r:=by lia
  subst e;exact⟨hr,h1,h2⟩
 | f+1,l,r,hf,hl,hr,h1,h2=>by
  intro m;have hm:m=run (dI z) (if l >= r then .ret l else .ask (p.getD k 0) (p.getD ((l+r) / 2) 0) λc=>if c=true then kas_place p k f l ((l+r) / 2) else kas_place p k f ((l+r) / 2+1) r):=rfl;by_cases hlr:l >= r
  ·rw[yL hlr] at hm;rw[hm];have e:l=r:=by lia
   subst e;exact⟨hr,h1,h2⟩
  ·rw[yN hlr] at hm;have hm':m=run (dI z) (if dI z (p.getD k 0) (p.getD ((l+r) / 2) 0)=true then kas_place p k f l ((l+r) / 2) else kas_place p k f ((l+r) / 2+1) r):=hm;by_cases hc:dI z (p.getD k 0) (p.getD ((l+r) / 2) 0)=true
   ·rw[yL hc] at hm';rw[hm'];have hlt:Z z p k < Z z p ((l+r) / 2):=yQ hc;exact place hu f l ((l+r) / 2) (by lia) (by lia) (by lia) h1 λa ha hak=>jT (Int.le_of_lt hlt) (hu _ a ha hak)
   ·rw[yN hc] at hm';rw[hm'];have hge:Z z p ((l+r) / 2)<=Z z p k:=by
     have:¬ (Z z p k < Z z p ((l+r) / 2)):=λq=>hc (yA q);lia
    exact place hu f ((l+r) / 2+1) r (by lia) (by lia) hr (λa ha=>jT (hu a ((l+r) / 2) (by lia) (by lia)) hge) h2
def bin:∀ (f:Nat) (p:Array Nat) (k:Nat),p.Perm p₀->p.size=p₀.size->k+f<=p₀.size->Up z p k ->
  (run (dI z) (kas_bin f p k)).Perm p₀/\(run (dI z) (kas_bin f p k)).size=p₀.size/\Up z (run (dI z) (kas_bin f p k)) (k+f)
 | 0,p,k,hp,hs,hk,hu=>⟨hp,hs,hu⟩
 | f+1,p,k,hp,hs,hk,hu=>by
  unfold kas_bin;rw[gL];have P:=place hu k 0 k (by lia) (by lia) (yM _) (λa ha=>absurd ha (vP _)) λa ha hak=>absurd ha (by lia);dsimp only at P;generalize run (dI z) (kas_place p k k 0 k)=l at P;let⟨p1,p2,p3⟩:=P;have zb:=Em z (p:=p) (src:=k) (d:=k - l) (by lia) (by lia);have e:k - (k - l)=l:=by lia
  rw[e] at zb;let⟨q1,q2,q3⟩:=bin f (bubble p k (k - l)) (k+1) ((bubble_perm _ _ _).trans hp) (by rw[bubble_size,hs]) (by lia) λa b hab hb=>by
   rw[zb,zb];by_cases ha1:a=l
   ·rw[yL ha1];by_cases hb1:b=l
    ·rw[yL hb1];exact xZ _
    ·rw[yN hb1];rw[yL (by lia)];exact p3 _ (by lia) (by lia)
   ·rw[yN ha1];by_cases hb1:b=l
    ·rw[yL hb1,yN (by lia)];exact p2 a (by lia)
    ·rw[yN hb1];by_cases ha2:l < a/\a<=k
     ·rw[yL ha2,yL (by lia)];exact hu _ _ (by lia) (by lia)
     ·rw[yN ha2];by_cases hb2:l < b/\b<=k
      ·rw[yL hb2];exact hu _ _ (by lia) (by lia)
      ·rw[yN hb2];exact hu _ _ hab (by lia)
  exact⟨q1,q2,by rw[show k+(f+1)=k+1+f by lia];exact q3⟩
def d9(h1:1<=n):(run (dI z) (kas_sort n)).toList.Perm (List.range n)/\((run (dI z) (kas_sort n)).toList.map z).Pairwise (·<=·):=by
 have hsz:(List.toArray (List.range n)).size=n:=by simp
 have C:=count (z:=z) (p:=List.toArray (List.range n)) (nrem:=n) (by lia) h1;have fin:∀p:Array Nat,p.Perm (List.toArray (List.range n))->p.size=n->Up z p n->p.toList.Perm (List.range n)/\(p.toList.map z).Pairwise (·<=·):=λp a b c=>by
  refine⟨by have:=a.toList;simpa using this,?_⟩;rw[List.pairwise_iff_getElem];intro i j hi hj hij;have hi':i < n:=by simpa [b] using hi
  have hj':j < n:=by simpa [b] using hj
  have:=c i j (jS hij) hj';unfold Z at this;have e1:p.getD i 0=p[i]:=by simp[Array.getD,b,hi']
  have e2:p.getD j 0=p[j]:=by simp[Array.getD,b,hj']
  rw[e1,e2] at this;simpa using this
 unfold kas_sort;rw[gL];generalize run (dI z) (kas_count n (List.toArray (List.range n)))=r at C;let⟨k,p⟩:=r;have hs:=C.size;rw[hsz] at hs;split
 ·rename_i hlt;have hge:=C.ge;have e:max k 1=k:=by have:1<=k:=hge;lia
  rw[e];let⟨q1,q2,q3⟩:=bin (z:=z) (n - k) p k C.perm C.size (by rw[hsz];have:k < n:=hlt;lia) C.up;refine fin _ q1 (by rw[q2,hsz]) ?_;rw[show k+(n - k)=n by have:k < n:=hlt;lia] at q3;exact q3
 ·rename_i hnlt;have hle:=C.le;have e:k=n:=by have h3:k<=n:=hle;have h4:¬ k < n:=hnlt;lia
  subst e;exact fin p C.perm hs C.up
end
end SP
namespace Srt
open PySem PySem.W PySem.Calls PyProof.Rows
def outV(z:Nat->Int)(vs:List Value):List Value:=if vs.length < 2 then vs else (SP.run (SP.dI z) (kas_sort vs.length)).toList.map λi=>vs.getD i Value.none
def outV_len(z:Nat->Int)(vs:List Value):(outV z vs).length=vs.length:=by
 unfold outV;split
 ·rfl
 ·rename_i h;have:=(SP.d9 (z:=z) (n:=vs.length) (by lia)).1.length_eq;simpa using this
def list_sortG{P:PySem.Fin->Shared->Prop}(ho:s.heap.get? a=some (seqObj "list" vs.toArray n))(h64:vs.length < 64)(z:Nat->Int)(κ:SortKind)
  (hk:2<=vs.length->∀h':Heap,(∀b o,b≠a->s.heap.get? b=some o->h'.get? b=some o)->∀Q':SortKind->Shared->Prop,Q' κ { s with heap:=h' }->wpAny (model prog w) A (keyKind' vs.toArray) Q' (λ_ _=>False) { s with heap:=h' })
  (hlt:2<=vs.length->∀h':Heap,(∀b o,b≠a->s.heap.get? b=some o->h'.get? b=some o)->∀i j C,i < vs.length->j < vs.length->C (SP.dI z i j) { s with heap:=h' }->kas_ask prog w A κ vs i j C { s with heap:=h' })
  (h:∀ (h':Heap) (c:Nat),(∀b o,b≠a->s.heap.get? b=some o->h'.get? b=some o)->h'.get? a=some (seqObj "list" (outV z vs).toArray c)->P (.done (.ret .none)) { s with heap:=h' }) :
  wpAny (model prog w) A (Builtin.«list.sort» ⟨[.ref a],[]⟩) P E s:=by
 rw[list_sort_plain];have ha:a < s.heap.objs.size:=zY ho;have hsl:vs.length<=sizeLine:=by rw[qU];lia
 refine zV (vK ho rfl (zV (kA ho rfl ?_ (by simpa using hsl) (xV _))));obtain⟨e1,ho1⟩:∃e,(s.heap.update a (Obj.mapSeq λ_=>(#[]:Array Value))).get? a=some (seqObj "list" #[] e):=⟨_,kE ho λ_=>#[]⟩
 have kp1:∀b o,b≠a->s.heap.get? b=some o->(s.heap.update a (Obj.mapSeq λ_=>(#[]:Array Value))).get? b=some o:=λb o hb e=>(xN _ _ (jM hb)).trans e;refine zV (seqEpoch_at ho1 rfl (zV (wpAny_newTuple ?_ (by simpa using hsl))));refine zV (kN (xX ?_) (xV _));have ho3:(((s.heap.update a (Obj.mapSeq λ_=>(#[]:Array Value))).push (seqObj "tuple" vs.toArray 0)).push (seqObj "list" #[] 0)).get? a=some (seqObj "list" #[] e1):=zU _ (zU _ ho1);have kp3:∀b o,b≠a->s.heap.get? b=some o->(((s.heap.update a (Obj.mapSeq λ_=>(#[]:Array Value))).push (seqObj "tuple" vs.toArray 0)).push (seqObj "list" #[] 0)).get? b=some o:=λb o hb e=>zU _ (zU _ (kp1 b o hb e));show wpAny _ A _ P E { s with heap:=((s.heap.update a (Obj.mapSeq λ_=>(#[]:Array Value))).push (seqObj "tuple" vs.toArray 0)).push (seqObj "list" #[] 0) };generalize ((s.heap.update a (Obj.mapSeq λ_=>(#[]:Array Value))).push (seqObj "tuple" vs.toArray 0)).push (seqObj "list" #[] 0)=h3 at ho3 kp3;clear ho1 kp1;dsimp only;have fin:∀st':SortSt,(arrOf st').map (·.2)=(outV z vs).toArray->failedOf st'=none ->
   wpAny (model prog w) A (do
    let sorted:=(arrOf st').map (·.2);let touched:=(<- seqEpoch a) != e1
    Builtin.List.listUpdate (.ref a) λ_=>sorted
    if let some e:=failedOf st' then rule "list.sort.comparison-raised";throw e
    if touched then rule "list.sort.modified";raiseError "ValueError" "list modified during sort"
    ret .none) P E { s with heap:=h3 }:=λst' h1 h2=>by
  dsimp only;rw[h1,h2];refine zV (seqEpoch_at ho3 rfl ?_);refine zV (kA ho3 rfl ?_ (xV _) (by show (outV z vs).toArray.size<=_;rw[zH,outV_len];lia));obtain⟨c,hc⟩:∃c,(h3.update a (Obj.mapSeq λ_=>(outV z vs).toArray)).get? a=some (seqObj "list" (outV z vs).toArray c):=⟨_,kE ho3 λ_=>(outV z vs).toArray⟩
  have q:=h _ c (λb o hb e=>(xN _ _ (jM hb)).trans (kp3 b o hb e)) hc;simp?[bne_self_eq_false,yO,qP];exact zW q
 by_cases h2:vs.toArray.size < 2
 ·rw[yL h2,yL h2];refine zV (zW ?_);rw[StateT.run_pure];refine zV (zW (fin _ ?_ rfl));have h2':vs.length < 2:=by simpa using h2
  unfold outV;rw[yL h2'];show ((vs.toArray.zip vs.toArray).map (·.2))=vs.toArray;apply Array.toList_inj.mp;simp?[Array.toList_map,Array.toList_zip];exact List.map_snd_zip (yM _)
 ·rw[yN h2,yN h2];have h2':2<=vs.length:=by
   have:¬ vs.length < 2:=by simpa using h2
   lia
  refine zV (xA (hk h2' h3 kp3 (λκ' s'=>κ'=κ/\s'={ s with heap:=h3 }) ⟨rfl,rfl⟩) (λκ' s' hs=>?_) λ_ _ x=>x.elim);let⟨rfl,rfl⟩:=hs;refine zV (xA (kat_run (Q:=λst' s'=>s'={ s with heap:=h3 }/\(arrOf st').map (·.2)=(outV z vs).toArray/\failedOf st'=none) (G:=λp s'=>s'={ s with heap:=h3 }/\p=SP.run (SP.dI z) (kas_sort vs.length))
   rfl h2' h64 (λp st' s' a1 a2 a3 a4=>⟨a4.1,?_,a3⟩) (SP.wp_run (hlt h2' h3 kp3) (kas_sort vs.length) (SP.D0 (by lia)) ⟨rfl,rfl⟩)) ?_ λ_ _ e=>e)
  ·rw[kat_snds rfl a2,a4.2];unfold outV;rw[yN (by lia)]
  ·rintro⟨⟨⟩,st'⟩ s' ⟨hs,h4,h5⟩;subst hs;exact fin st' h4 h5
def Coll(h:Heap)(l:Addr)(vs:List Value):Prop:=∃ (o:Obj) (T:String) (n:Nat),(T="list"\/T="tuple")/\h.get? l=some o/\o.cls=.type T/\o.data=.seq vs.toArray n
def collectC(hl:Coll s.heap l vs)
  (h:Q vs { s with heap:=(s.heap.push (seqObj "list" #[] 0)).update s.heap.objs.size (Obj.mapSeq (·++vs.toArray)) }) (hsz:vs.length<=sizeLine):wpAny (model prog w) A (collect (.ref l)) Q E s:=by
 let⟨o,T,n,hT,ho,hc,hd⟩:=hl;unfold collect;refine zV (wpAny_runValue (kF entry_proto_collect' ?_));show wpAny _ _ (do again (.builtin "list.__iadd__" ⟨[<- newList [],.ref l],[]⟩)) _ _ s;refine zV (kN (zW ⟨wI _ (by decide +kernel),kF entry_list_iadd' ?_⟩));show wpAny _ _ (Builtin.List.listExtendWith (.ref s.heap.objs.size) (.ref l) (.ref s.heap.objs.size)) _ _ { s with heap:=s.heap.push (seqObj "list" #[] 0) };unfold Builtin.List.listExtendWith;have ho':(s.heap.push (seqObj "list" #[] 0)).get? l=some o:=zU _ ho;refine zV (wJ (T:=T) ⟨o,ho',hc⟩ ?_);rw[yL (by rcases hT with rfl|rfl<;>simp)];refine zV (vK ho' hd (zV (vK (xs:=#[]) (n:=0) (zX _ rfl) rfl ?_)));rw[yN (by simp)];refine zV (kA (xs:=#[]) (n:=0) (zX _ rfl) rfl ?_ (xV _) (by show (#[]++vs.toArray).size<=sizeLine+1;simp?[Array.size_append,zH,xK];lia));refine zW ?_;refine zV (wpAny_load (kE (zX _ rfl) _) ?_);show wpAny _ _ (pure ((#[]:Array Value)++vs.toArray).toList) Q E _;rw[show ((#[]:Array Value)++vs.toArray).toList=vs by simp];exact zW h
def sortedG{s:Shared}{Q:Value->Shared->Prop}(hl:Coll s.heap l vs)(h64:vs.length < 64)(z:Nat->Int)(κ:SortKind)
  (hk:2<=vs.length->∀h':Heap,(∀b o,s.heap.get? b=some o->h'.get? b=some o)->∀Q':SortKind->Shared->Prop,Q' κ { s with heap:=h' }->wpAny (model prog w) A.in1.in1 (keyKind' vs.toArray) Q' (λ_ _=>False) { s with heap:=h' })
  (hlt:2<=vs.length->∀h':Heap,(∀b o,s.heap.get? b=some o->h'.get? b=some o)->∀i j C,i < vs.length->j < vs.length->C (SP.dI z i j) { s with heap:=h' }->kas_ask prog w A.in1.in1 κ vs i j C { s with heap:=h' })
  (h:∀ (h':Heap) (D:Addr) (c:Nat),(∀b o,s.heap.get? b=some o->h'.get? b=some o)->s.heap.objs.size<=D->h'.get? D=some (seqObj "list" (outV z vs).toArray c)->Q (.ref D) { s with heap:=h' }) :
  wpAny (model prog w) A (call (.builtin "sorted") [.ref l]) Q E s:=by
 have hsl:vs.length<=sizeLine:=by rw[qU];lia
 refine Calls.call_function_entry kind_sorted plain_sorted entry_sorted (args_sorted1 _) ?_;unfold Builtin.«sorted»;refine zV (m:=checkCount "sorted" 1 1 _) (zW (zV (collectC hl ?_ hsl)));refine zV (kN ?_ (by simpa using hsl));have hsz:((s.heap.push (seqObj "list" #[] 0)).update s.heap.objs.size (Obj.mapSeq (·++vs.toArray))).objs.size=s.heap.objs.size+1:=by rw[Heap.size_update,size_push']
 have kp:∀b o,s.heap.get? b=some o->(((s.heap.push (seqObj "list" #[] 0)).update s.heap.objs.size (Obj.mapSeq (·++vs.toArray))).push (seqObj "list" vs.toArray 0)).get? b=some o:=λb o e =>
  zU _ ((xN _ _ (jI (zY e))).trans (zU _ e))
 have hoD:(((s.heap.push (seqObj "list" #[] 0)).update s.heap.objs.size (Obj.mapSeq (·++vs.toArray))).push (seqObj "list" vs.toArray 0)).get? (s.heap.objs.size+1)=some (seqObj "list" vs.toArray 0):=by
  rw[<- hsz];exact zX _ rfl
 show wpAny _ _ _ _ _ { s with heap:=((s.heap.push (seqObj "list" #[] 0)).update s.heap.objs.size (Obj.mapSeq (·++vs.toArray))).push (seqObj "list" vs.toArray 0) };rw[hsz];generalize ((s.heap.push (seqObj "list" #[] 0)).update s.heap.objs.size (Obj.mapSeq (·++vs.toArray))).push (seqObj "list" vs.toArray 0)=h1 at kp hoD;have kk:∀h':Heap,(∀b o,b≠s.heap.objs.size+1->h1.get? b=some o->h'.get? b=some o)->∀b o,s.heap.get? b=some o->h'.get? b=some o:=λh' q b o e=>q b o (yR (jN (zY e))) (kp b o e);refine zV (xX (qV slot_list_sort ⟨_,hoD,rfl⟩ entry_list_sort (list_sortG hoD h64 z κ (λa h' q=>hk a h' (kk h' q)) (λa h' q=>hlt a h' (kk h' q)) λh' c q e=>⟨_,rfl,?_⟩) (args_list_sort _)));exact zW ⟨_,rfl,h h' _ c (kk h' q) (by lia) e⟩
end Srt
namespace Dl
open PySem L2 PySem.Spec PyProof.Rows
def tq(i:Nat)(fz:List Nat)(f:Env->Option (List D)):ar->Option Out:=λρ=>(f (bS (hand fz 0 ρ))).bind λus=>nR i (λds=>if ds.length+us.length<=sizeLine then some (ds++us) else none) (hand fz 0 ρ)
def CC(i:Nat)(fz:List Nat)(hN:X.N[i]?=some x)(hv:Jb X.env.scope x)(h:DF X e f)(hd:(x == ("__debug__":Str))=false:=by decide)(hcd:(x == ("__classdict__":Str))=false:=by decide)
  (hfew:((backTo cpos (starEach [e] X.env)).all (λx=>!x.1)&&(backToKw cpos (keywordEach [] X.env)).all (λx=>x.1.isSome)&&decide ([e].length+([]:List Keyword).length+(if ([]:List Keyword).isEmpty then 0 else 1) < 30))=true:=by rfl)
  (hline:(apos.endLine == cpos.line)=true:=by rfl) (hs:starEach [e] X.env=(false,eval e X.env)::starEach [] X.env:=by rfl) :
  DS X HF₀ H₀ (.Expr (.Call (.Attribute (.Name x px) "extend" apos) [e] [] cpos) pos) (tq i fz f) :=
 c7 (oN (xo qN PySem.F.slot_list_extend PySem.F.type_list_extend Cw (pH hN hv hd hcd) (cm h dQ hs) rfl hfew hline hs rfl)) λE σ H ⟨HF,ρ,o,S,hg,q⟩=>by
  let⟨us,h1,hg⟩:=bs hg;let⟨ds,es,h2,h3,rfl⟩:=kc hg;let⟨HF1,s1,S1⟩:=S.hand fz;let⟨a,vs,e1,e2,e3,e5,e4⟩:=S1.own i ds h2;refine⟨.ref a,e1,.inl ⟨rfl,vs,gw.of e2⟩,HF1,_,us,S1.gr.fh,S1.frz,h1,λb ws H' HF' G hb hf h' r=>?_⟩;have S2:=S1.grow G;let⟨a',vs',f1,f2,f3,f5,f4⟩:=S2.own i ds h2;rw[e1] at f1;cases f1;split at h3
  ·rename_i hz;cases h3;exact⟨a,b,vs',ws,rfl,rfl,f2,h',by rw[f4.length,r.length];exact hz,q σ _ HF' (S2.mut h2 e1 f2 (f4.append r)) (s1.trans G.ff)⟩
  ·cases h3
def BV(ds:List D)(k:Int)(d:D):List D:=let j:=if k < 0 then (k+(ds.length:Int)).toNat else min k.toNat ds.length;ds.take j++d::ds.drop j
def Hi:V->List V->Hp->VK->Prop:=λx vs H Q=>∃l xs k y,x=.ref l/\vs=[.int k,y]/\H l=some (.lst xs)/\xs.length < sizeLine/\-(2 ^ 62)<=k/\k < 2 ^ 62 /\
 Q .non (upd H l (.lst (xs.take (if k < 0 then (k+(xs.length:Int)).toNat else min k.toNat xs.length)++y::xs.drop (if k < 0 then (k+(xs.length:Int)).toNat else min k.toNat xs.length))))
def C4:Np X "list.insert" Hi:=by
 intro pins s σ H x vs v us Q I rx rv h;let⟨l,xs,k,y,rfl,rfl,hH,hz,k1,k2,q⟩:=h;cases rx;let⟨u1,u2,rfl,⟨t,rfl⟩,ru⟩:=L2.aJ.two rv;let⟨z,its,n,r,hl,e⟩:=I.lstM hH;have hfit:¬(!Builtin.List.listFitsIndex k)=true:=by
  have:Builtin.List.listFitsIndex k=true:=by
   unfold Builtin.List.listFitsIndex;simp?[zF,zJ];lia
  rw[this];simp
 refine qX F.slot_list_insert ⟨_,e,rfl⟩ F.entry_list_insert (F.args_list_insert_3 _ _ _) (AutoListH.list_insert_list_int_val_1 l its.toArray n k t u2 hfit (by rw[zH];lia)) ⟨e,?_⟩;have hlen:its.length=xs.length:=hl.symm;refine⟨.non,_,I.lset (its':=its.take (if k < 0 then (k+(xs.length:Int)).toNat else min k.toNat xs.length)++u2::its.drop (if k < 0 then (k+(xs.length:Int)).toNat else min k.toNat xs.length)) hH e ?_ ((r.take _).append (.cons ru (r.drop _))) ?_,rfl,q⟩
 ·dsimp only;rw[zH,hlen];apply Array.toList_inj.mp;simp;exact kJ (by rw[qH,hlen];exact yM _)
 ·rw[zN,zL,jV,qH];lia
def Dz(i:Nat)(fz:List Nat)(fk f:Env->Option D):ar->Option Out:=λρ=>(fk (bw ρ)).bind λkd=>match kd with
 | .int k=>(k5 fz f ρ).bind λp=>nR i (λds=>if CS k=true/\ds.length < sizeLine then some (BV ds k p.1) else none) p.2
 | _=>none
def CT(i:Nat)(fz:List Nat)(hN:X.N[i]?=some x)(hv:Jb X.env.scope x)(hk:DE X e fk)(h:DE X e2 f)(hd:(x == ("__debug__":Str))=false:=by decide)(hcd:(x == ("__classdict__":Str))=false:=by decide)
  (hfew:((backTo cpos (starEach [e,e2] X.env)).all (λx=>!x.1)&&(backToKw cpos (keywordEach [] X.env)).all (λx=>x.1.isSome)&&decide ([e,e2].length+([]:List Keyword).length+(if ([]:List Keyword).isEmpty then 0 else 1) < 30))=true:=by rfl)
  (hline:(apos.endLine == cpos.line)=true:=by rfl) (hs:starEach [e,e2] X.env=(false,eval e X.env)::starEach [e2] X.env:=by rfl) (hs2:starEach [e2] X.env=(false,eval e2 X.env)::starEach [] X.env:=by rfl) :
  DS X HF₀ H₀ (.Expr (.Call (.Attribute (.Name x px) "insert" apos) [e,e2] [] cpos) pos) (Dz i fz fk f) :=
 c7 (oN (xo qN PySem.F.slot_list_insert PySem.F.type_list_insert C4 (pH hN hv hd hcd) (cm hk (cm h dQ hs2) hs) rfl hfew hline hs (by rw[hs2];rfl))) λE σ H ⟨HF,ρ,o,S,hg,q⟩=>by
  let⟨kd,hkd,hg⟩:=bs hg;cases kd<;>try cases hg
  rename_i k;let⟨⟨d,ρ'⟩,h1,hg⟩:=bs hg;let⟨ds,es,h2,h3,rfl⟩:=kc hg;have hown:∃ds',ρ[i]?=some (.own ds'):=by
   let⟨d1,_,h1⟩:=bs h1;split at h1
   ·cases h1;exact⟨ds,h2⟩
   ·let⟨d2,_,h1⟩:=ag h1;cases h1;rw[gS] at h2;let⟨s,hs,h2⟩:=ag h2;cases s with
    | non=>split at h2<;>cases h2
    | val _=>split at h2<;>cases h2
    | own xs=>exact⟨xs,hs⟩
  let⟨ds',hown⟩:=hown;let⟨a,vs,e1,e2,e3,e5,e4⟩:=S.own i ds' hown;refine⟨.ref a,e1,.inl ⟨rfl,vs,gw.of e2⟩,H,bw ρ,_,.refl _,S.all,hkd,λvk Hk HFk Gk rk=>?_⟩;simp?[Rep] at rk;subst rk;refine nJ (S.step Gk.hh) h1 λv H' HF' s1 S' sh r=>?_;let⟨a',vs',f1,f2,f3,f5,f4⟩:=S'.own i ds h2;rw[e1] at f1;cases f1;split at h3
  ·rename_i hz;cases h3;have ok:=hz.1;unfold CS at ok;rw[zF] at ok;refine⟨a,vs',k,v,rfl,rfl,f2,by rw[f4.length];exact hz.2,yQ ok.1,yQ ok.2,q σ _ HF' (S'.mut h2 e1 f2 ?_) s1⟩;unfold BV;rw[f4.length];exact (f4.take _).append (ak.cons r (f4.drop _))
  ·cases h3
def j5:D->D->Option (List D)
 | .list xs,.list ys=>small (xs++ys)
 | _,_=>none
def Eo(K:W.Frag):R2:=λx y H Q=>∃a b xs ys,x=.ref a/\y=.ref b/\gw K H a xs/\gw K H b ys/\xs.length+ys.length<=sizeLine/\∀p,H p=none->Q (.ref p) (upd H p (.lst (xs++ys)))
def yi:ie X (binaryOp .Add) (Eo X.K):=by
 intro pins s σ H x y v u Q I rx ry h;let⟨a,b,xs,ys,rfl,rfl,ha,hb,hz,q⟩:=h;cases rx;cases ry;let⟨its,r1,p1,_⟩:=I.list ha;let⟨its2,r2,p2,_⟩:=I.list hb;let⟨⟨cls,dd,data,sl⟩,ho,hc,n,hd⟩:=id p1.isList;let⟨⟨cls2,dd2,data2,sl2⟩,ho2,hc2,n2,hd2⟩:=id p2.isList;simp only at hc hd hc2 hd2;subst hc hd hc2 hd2;refine wL ⟨_,ho,rfl⟩ ⟨_,ho2,rfl⟩ noFill_list_add seq_list_add PySem.F.slot_list_add PySem.F.entry_list_add (PySem.F.args_list_add_2 _ _) (list_addW a b its.toArray its2.toArray n n2 dd dd2 sl sl2 (by rw[zH,zH,<- r1.length,<- r2.length];exact hz)) ⟨ho,ho2,?_⟩;have e:its.toArray++its2.toArray=(its++its2).toArray:=by simp
 rw[e];exact⟨.ref s.heap.objs.size,_,I.lnew (t':=s.toks) (r1.append r2) (by rw[zN];exact hz),rfl,q _ I.fresh⟩
def KW(g:D->D->Option (List D))(f1 f2:Env->Option D):Env->Option (List D):=λρ=>(f1 ρ).bind λx=>(f2 ρ).bind λy=>g x y
def JP(ha:DE X a fa)(hb:DE X b fb):DF X (.BinOp a .Add b pos) (KW j5 fa fb):=bc (IX yi ha hb) λσ H Q ⟨HF,ρ,d,sm,eo,hf,q⟩=>by
 let⟨x,hx,hf⟩:=bs hf;let⟨y,hy,hg⟩:=bs hf;refine⟨HF,ρ,x,sm,eo,hx,λv1 H1 HF1 g1 r1=>⟨HF1,ρ,y,g1.fh,eo.mono g1.ff,hy,λv2 H2 HF2 g2 r2=>?_⟩⟩;have r1:=r1.mono g2.ff;cases x<;>cases y<;>simp?[j5] at hg<;>try cases hg
 rename_i xs ys;let⟨rfl,hz⟩:=dW hg;simp?[Rep] at r1 r2;let⟨a,vs,rfl,ha,ra⟩:=r1;let⟨b,us,rfl,hb,rb⟩:=r2;have G:=g1.trans g2;exact⟨a,b,vs,us,rfl,rfl,g2.fh.seq ha,g2.fh.seq hb,by rw[ra.length,rb.length,<- zN];exact hz,λp hp=>q p _ _ HF2 (G.trans (.own G.fh hp)) (G.hh.free hp) (G.fh.free hp) aI (ra.append rb)⟩
def boolsOf:List D->Option (List Bool)
 | []=>some []
 | .bool b::r=>(boolsOf r).map (b::·)
 | _::_=>none
def iw:∀ {ds:List D}{bs:List Bool},boolsOf ds=some bs->ds=bs.map PyData.bool
 | [],bs,h=>by cases h;rfl
 | d::r,bs,h=>by
  cases d<;>simp?[boolsOf] at h<;>try cases h
  let⟨bs',h1,rfl⟩:=ag h;rw[iw h1];rfl
def lL{K:W.Frag}:∀ {bs:List Bool}{vs:List V},ak K H (bs.map PyData.bool) vs->vs=bs.map V.bl
 | [],vs,h=>h.nil_inv
 | b::bs,vs,h=>by
  let⟨v,r,rfl,a,c⟩:=h.cons_inv;simp?[Rep] at a;rw[a,lL c];rfl
def lh:∀ {bs:List Bool}{us:List Value},aJ (bs.map V.bl) us->us=bs.map Value.bool
 | [],us,h=>by cases h;rfl
 | b::bs,us,h=>by
  cases h with
  | cons r rr=>cases r;rw[lh rr];rfl
def range_all(bs:List Bool):(List.range bs.length).all (λi=>bs.getD i false)=bs.all id:=by
 induction bs with
 | nil=>rfl
 | cons b bs ih=>rw[zL,vM,xS,List.all_map,xS];simpa [wV] using jC (b&&·) ih
def range_any(bs:List Bool):(List.range bs.length).any (λi=>bs.getD i false)=bs.any id:=by
 induction bs with
 | nil=>rfl
 | cons b bs ih=>rw[zL,vM,vD,wN,vD];simpa [wV] using jC (b||·) ih
def AA(hc:X.calm=true):dh X (.builtin "all") (λxs H Q=>∃ (a:Addr) (bs:List Bool),xs=[.ref a]/\gw X.K H a (bs.map V.bl)/\Q (.bl (bs.all id)) H):=by
 intro pins s σ H xs us Q I r h;let⟨a,bs,rfl,hq,q⟩:=h;let⟨u,rfl,rx⟩:=vals1 r;cases rx;let⟨its,rv,pl,hz⟩:=I.list hq;have hv:=lh rv;subst hv;have hh:X.A.in1.handled=none:=I.ok.hd hc;refine call_all_walk (qK pl.isList ?_);let⟨o,ho,hcl,n,hd⟩:=pl.isList;have hne:a≠s.heap.objs.size:=yR (zY ho);refine⟨_,_,_,_,_,_,λi=>bs.getD i false,rfl,Walks.list hh s.heap.objs.size a hne (bs.map Value.bool).toArray,⟨⟨_,zX _ rfl,rfl,rfl⟩,pl.isList.push _⟩,λi v s' Q' E' hP hQ=>?_,λh' tk kp=>?_⟩
 ·have e:v=Value.bool (bs.getD i false):=by
   have hP:(bs.map Value.bool).toArray[i]?=some v:=hP;rw[vV,zO] at hP;let⟨b,hb,rfl⟩:=ag hP;rw[zG,hb];rfl
  subst e;exact xW hQ
 ·refine⟨.bl (bs.all id),H,?_,?_,q⟩
  ·exact I.kept (t':=tk) λb o' e=>kp b o' (by simp;exact yR (zY e)) (zU _ e)
  ·show Value.bool _=Value.bool _;have:=range_all bs;simp?[zH,zD];rw[this]
def kq:List D->Option D:=λds=>(oneOf ds).bind λd=>match d with
 | .list es=>(boolsOf es).map λbs=>.bool (bs.all id)
 | _=>none
def K9(hc:X.calm=true)(B:mY X "all" (.builtin "all"))(ha:DA X [e] fs)(he:starEach [e] X.env=(false,eval e X.env)::starEach [] X.env:=by rfl):DE X (.Call (.Name "all" p) [e] [] pos) (bu kq fs) :=
 gZ (AA hc) (by
  intro HF H ds vs d Q sm r hg q;let⟨x,hx,hg⟩:=bs hg;rw[fZ hx] at r;cases x<;>try cases hg
  let⟨bs,hb,rfl⟩:=ag hg;let⟨v,r',rfl,a,b⟩:=r.cons_inv;rw[b.nil_inv];simp?[Rep] at a;let⟨p,us,rfl,h,rr⟩:=a;rw[iw hb] at rr;have:=lL rr;subst this;exact⟨p,bs,rfl,sm.seq h,q _ H HF (.refl sm) (by simp[Rep])⟩) B ha (by decide) (by decide) he rfl
abbrev lexLt:=HT.lexLt
def fR:∀a:List Int,lexLt a a=false
 | []=>rfl
 | x::a=>by show HT.lexLt (x::a) (x::a)=false;rw[HT.da,yL rfl];exact fR a
def dX:∀ {a b c:List Int},lexLt a b=true->lexLt b c=true->lexLt a c=true
 | [],[],_,h,_=>by cases h
 | [],_::_,[],_,h=>by cases h
 | [],_::_,_::_,_,_=>rfl
 | _::_,[],_,h,_=>by cases h
 | _::_,_::_,[],_,h=>by cases h
 | x::a,y::b,z::c,h1,h2=>by
  have h1:HT.lexLt (x::a) (y::b)=true:=h1;have h2:HT.lexLt (y::b) (z::c)=true:=h2;show HT.lexLt (x::a) (z::c)=true;rw[HT.da] at h1 h2 ⊢;by_cases e1:x=y
  ·rw[yL e1] at h1;by_cases e2:y=z
   ·rw[yL e2] at h2;rw[yL (e1.trans e2)];exact dX h1 h2
   ·rw[yN e2] at h2;rw[yN (by lia)];have:=yQ h2;exact yA (by lia)
  ·rw[yN e1] at h1;have q1:=yQ h1;by_cases e2:y=z
   ·rw[yN (by lia)];exact yA (by lia)
   ·rw[yN e2] at h2;have q2:=yQ h2;rw[yN (by lia)];exact yA (by lia)
def gO:∀ {a b:List Int},lexLt a b=false->lexLt b a=false->a=b
 | [],[],_,_=>rfl
 | [],_::_,h,_=>by cases h
 | _::_,[],_,h=>by cases h
 | x::a,y::b,h1,h2=>by
  have h1:HT.lexLt (x::a) (y::b)=false:=h1;have h2:HT.lexLt (y::b) (x::a)=false:=h2;rw[HT.da] at h1 h2;by_cases e:x=y
  ·rw[yL e] at h1;rw[yL e.symm] at h2;rw[e,gO h1 h2]
  ·rw[yN e] at h1;rw[yN (λz=>e z.symm)] at h2;have:=wF h1;have:=wF h2;lia
def lexLe(a b:List Int):Bool:=!lexLt b a
def yf(a b c:List Int)(h1:lexLe a b=true)(h2:lexLe b c=true):lexLe a c=true:=by
 unfold lexLe at *;rw[yP] at *;cases e:lexLt c a with
 | false=>rfl
 | true =>
  cases e1:lexLt a b with
  | true=>rw[dX e e1] at h2;cases h2
  | false =>
   have:=gO e1 h1;subst this;rw[e] at h2;cases h2
def yg(a b:List Int):(lexLe a b||lexLe b a)=true:=by
 unfold lexLe;cases e1:lexLt b a with
 | false=>rfl
 | true =>
  cases e2:lexLt a b with
  | false=>rfl
  | true=>have:=dX e1 e2;rw[fR] at this;cases this
def pZ(h1:lexLe a b=true)(h2:lexLe b a=true):a=b:=by
 unfold lexLe at *;rw[yP] at *;exact gO h2 h1
def rJ{α:Type}{le:α->α->Bool}(anti:∀a b,le a b=true->le b a=true->a=b):∀ {l m:List α},l.Perm m->l.Pairwise (λa b=>le a b=true)->m.Pairwise (λa b=>le a b=true)->l=m
 | [],m,p,_,_=>p.nil_eq
 | a::l,[],p,_,_=>by have:=p.length_eq;simp at this
 | a::l,b::m,p,h1,h2=>by
  let⟨h1a,h1b⟩:=List.pairwise_cons.mp h1;let⟨h2a,h2b⟩:=List.pairwise_cons.mp h2;have e:a=b:=by
   have ha:a∈b::m:=p.mem_iff.mp zE;have hb:b∈a::l:=p.mem_iff.mpr zE;rcases List.mem_cons.mp ha with e|ha
   ·exact e
   ·rcases List.mem_cons.mp hb with e|hb
    ·exact e.symm
    ·exact anti a b (h1a b hb) (h2a a ha)
  subst e;rw[rJ anti (List.perm_cons a |>.mp p) h1b h2b]
def lF(l:List (List Int)):List (List Int):=l.mergeSort lexLe
def jg(l:List (List Int)):(lF l).Perm l:=List.mergeSort_perm l lexLe
def yu(l:List (List Int)):(lF l).Pairwise (λa b=>lexLe a b=true):=List.pairwise_mergeSort yf yg l
def uf{l:List (List Int)}(p:l.Perm m)(h:l.Pairwise (λa b=>lexLe a b=true)):l=lF m:=rJ (λ_ _=>pZ) (p.trans (jg m).symm) h (yu m)
def rk(l:List (List Int))(a:List Int):Int:=((l.countP λb=>lexLt b a:Nat):Int)
def wg(ha:a∈l):lexLt a b=decide (rk l a < rk l b):=by
 unfold rk;have mono:∀ {a b:List Int},lexLt a b=true->(l.countP λc=>lexLt c a)<=l.countP λc=>lexLt c b:=λ{a b} h=>List.countP_mono_left λc _ hc=>dX hc h;have strict:∀ {a b:List Int}(ha:a∈l),lexLt a b=true->(l.countP λc=>lexLt c a) < l.countP λc=>lexLt c b:=λ{a b} ha h=>by
  have key:∀m:List (List Int),a∈m->(m.countP λc=>lexLt c a) < m.countP λc=>lexLt c b:=λm hm=>by
   induction m with
   | nil=>cases hm
   | cons x m ih =>
    rw[List.countP_cons,List.countP_cons];have mo:(m.countP λc=>lexLt c a)<=m.countP λc=>lexLt c b:=List.countP_mono_left λc _ hc=>dX hc h;rcases List.mem_cons.mp hm with e|hm
    ·subst e;rw[fR,h];simp?[yO,qP,xH];lia
    ·have:=ih hm;by_cases hx:lexLt x a=true
     ·rw[hx,dX hx h];simp?[xH];lia
     ·have hx':lexLt x a=false:=by simpa using hx
      rw[hx'];simp?[yO,qP];split<;>lia
  exact key l ha
 cases e:lexLt a b with
 | true=>exact (yA (by have:=strict ha e;lia)).symm
 | false =>
  refine (zZ ?_).symm;cases e2:lexLt b a with
  | true=>have:=mono e2;lia
  | false=>rw[gO e e2];lia
section
variable {prog:Program}{w:World}{A:Around}{E:Value->Shared->Prop}{s:Shared}
def mG:∀ {us ws:List Value}{ns ms:List Int}(i:Nat),IntsAre us ns->IntsAre ws ms->Q (lexLt ns ms) s->W.KatLex prog w A true (decide (ns.length < ms.length)) Q (us.zip ws) i s
 | [],[],_,_,i,.nil,.nil,h=>h
 | [],_::_,_,_,i,.nil,.cons _ _ _,h=>by
  show Q (decide (0 < _+1)) s;rw[yA (Nat.succ_pos _)];exact h
 | _::_,[],_,_,i,.cons _ _ _,.nil,h=>by
  show Q (decide (_+1 < 0)) s;rw[zZ (vP _)];exact h
 | _::us,_::ws,_,_,i,.cons n t r1,.cons m u r2,h=>by
  have h:Q (HT.lexLt (n::_) (m::_)) s:=h;rw[HT.da] at h;refine W.kat_cons (SeqAt.EqAt.int_int n t m u prog w _ _ ?_);cases e:(n == m) with
  | true =>
   have e':n=m:=eq_of_beq e;rw[yL e'] at h;refine W.kat_yes ?_;have:=mG (i+1) r1 r2 h;simp?[zL,Nat.add_lt_add_iff_right];exact this
  | false =>
   have e':¬ n=m:=λq=>by rw[q] at e;simp at e
   rw[yN e'] at h;refine W.kat_no ?_;by_cases hi:(true&&i == 0)=true
   ·rw[hi];exact oneLt_int h
   ·have hi':(true&&i == 0)=false:=by simpa using hi
    rw[hi'];refine W.kat_one _ _ (lt_int ?_);exact h
end
def af(ns:List Int):D:=.tuple (ns.map PyData.int)
def intsOf:List D->Option (List Int)
 | []=>some []
 | .int n::r=>(intsOf r).map (n::·)
 | _::_=>none
def cf:∀ {ds:List D}{ns:List Int},intsOf ds=some ns->ds=ns.map PyData.int
 | [],ns,h=>by cases h;rfl
 | d::r,ns,h=>by
  cases d<;>simp?[intsOf] at h<;>try cases h
  let⟨ns',h1,rfl⟩:=ag h;rw[cf h1];rfl
def cK:∀ns:List Int,intsOf (ns.map PyData.int)=some ns
 | []=>rfl
 | n::ns=>by simp[intsOf,cK ns]
def Ba:D->Option (List Int)|.tuple ds=>(intsOf ds).bind λns=>if ns=[] then none else some ns|_=>none
def zg(h:Ba d=some ns):d=af ns/\ns≠[]:=by
 cases d<;>try cases h
 let⟨ms,h1,h2⟩:=bs h;split at h2
 ·cases h2
 ·rename_i hn;cases h2;rw[cf h1];exact⟨rfl,hn⟩
def CV(h:ns≠[]):Ba (af ns)=some ns:=by
 unfold af Ba;simp?[cK,zA];rw[yN h]
def rowsOf:List D->Option (List (List Int))
 | []=>some []
 | d::r=>(Ba d).bind λns=>(rowsOf r).map (ns::·)
def j6:∀ {ds:List D}{nss:List (List Int)},rowsOf ds=some nss->ds=nss.map af/\∀ns∈nss,ns≠[]
 | [],nss,h=>by cases h;exact⟨rfl,λ_ z=>by cases z⟩
 | d::r,nss,h=>by
  let⟨ns,h1,h⟩:=bs h;let⟨rest,h2,rfl⟩:=ag h;let⟨e,hn⟩:=zg h1;let⟨e2,hn2⟩:=j6 h2;refine⟨by rw[e,e2];rfl,λm hm=>?_⟩;rcases List.mem_cons.mp hm with q|q
  ·subst q;exact hn
  ·exact hn2 m q
def lb:∀ {nss:List (List Int)},(∀ns∈nss,ns≠[])->rowsOf (nss.map af)=some nss
 | [],_=>rfl
 | ns::r,h=>by
  simp?[zI,rowsOf,CV (h ns zE),zA,lb λm hm=>h m (zC _ hm),zB]
structure kl(h:Heap)(v:Value)(ns:List Int):Prop where
 ex:∃ (a:Addr) (o:Obj) (its:Array Value) (n:Nat),v=.ref a/\h.get? a=some o/\o.cls=.type "tuple"/\o.data=.seq its n/\IntsAre its.toList ns
def kl.keep(r:kl h v ns)(k:∀b o,h.get? b=some o->h'.get? b=some o):kl h' v ns:=let ⟨a,o,its,n,e,e1,e2,e3,e4⟩:=r.ex;⟨a,o,its,n,e,k _ _ e1,e2,e3,e4⟩
def mU:∀ {vs:List Value}{nss:List (List Int)},Paired (kl h) vs nss->(∀ns∈nss,ns≠[])->∃fs:List Value,W.KatTups h vs fs/\fs.length=vs.length/\∀f∈fs,∃n t,f=Value.int n t
 | _,_,.nil,_=>⟨[],trivial,rfl,λ_ z=>by cases z⟩
 | _,_,.cons (a:=v) (b:=ns) r p,hn=>by
  let⟨fs,h1,h2,h3⟩:=mU p λm hm=>hn m (zC _ hm);let⟨a,o,its,n,rfl,e1,e2,e3,e4⟩:=r.ex;cases hits:its.toList with
  | nil =>
   rw[hits] at e4;cases e4;exact absurd rfl (hn [] zE)
  | cons f rest =>
   rw[hits] at e4;cases e4 with
   | cons m t e5 =>
    have h0:its[0]?=some (.int m t):=by
     have:its.toList[0]?=some (Value.int m t):=by rw[hits];rfl
     simpa using this
    exact⟨.int m t::fs,W.KatTups.cons e1 e2 e3 h0 h1,by simp[h2],λg hg=>by
     rcases List.mem_cons.mp hg with q|q
     ·exact⟨m,t,q⟩
     ·exact h3 g q⟩
def cn:∀ {l:List α}{m:List β}{i:Nat},Paired R l m->i < l.length->R (l.getD i d) (m.getD i d')
 | _,_,i,.nil,h=>by simp at h
 | _,_,0,.cons r _,_=>r
 | _,_,i+1,.cons _ p,h=>by simpa using cn (i:=i) (d:=d) (d':=d') p (by simpa using h)
def xh(hl:Srt.Coll s.heap l vs)(hp:Paired (kl s.heap) vs nss)(hn:∀ns∈nss,ns≠[])(h64:vs.length < 64)
  (h:∀ (h':Heap) (D:Addr) (c:Nat),(∀b o,s.heap.get? b=some o->h'.get? b=some o)->s.heap.objs.size<=D->h'.get? D=some (seqObj "list" (Srt.outV (λi=>rk nss (nss.getD i [])) vs).toArray c)->Q (.ref D) { s with heap:=h' }) :
  wpAny (model prog w) A (call (.builtin "sorted") [.ref l]) Q E s:=by
 refine Srt.sortedG hl h64 (λi=>rk nss (nss.getD i [])) (tuples' true) (λh2 h' kp Q' q=>?_) (λh2 h' kp i j C hi hj q=>?_) h
 ·have hp':Paired (kl h') vs nss:=Paired.mapP hp λ_ _ r=>r.keep kp;let⟨fs,t,hlen,hf⟩:=mU hp' hn;refine W.kat_kind (s:={ s with heap:=h' }) (T:=.type "int") t (by lia) (λv hv=>?_) (by decide) q;let⟨n,t,rfl⟩:=hf v hv;exact W.Looks.of_pure rfl
 ·have ri:=(cn (d:=Value.none) (d':=[]) hp hi).keep kp;have rj:=(cn (d:=Value.none) (d':=[]) hp hj).keep kp;have hlen:=hp.length;let⟨a,o,its,n,ea,e1,e2,e3,e4⟩:=ri.ex;let⟨b,o',its',n',eb,f1,f2,f3,f4⟩:=rj.ex;unfold W.kas_ask;rw[ea,eb];have hmem:nss.getD i []∈nss:=by
   rw[zG,zK (by lia)];exact qA _
  have q':C (lexLt (nss.getD i []) (nss.getD j [])) { s with heap:=h' }:=by
   rw[wg hmem];exact q
  refine W.kat_lt (s:={ s with heap:=h' }) e1 e3 f1 f3 ?_;have:=mG (prog:=prog) (w:=w) (A:=A.in1.in1) (s:={ s with heap:=h' }) 0 e4 f4 q';have l1:its.size=(nss.getD i []).length:=by have:=vX e4;simpa using this
  have l2:its'.size=(nss.getD j []).length:=by have:=vX f4;simpa using this
  rw[l1,l2];exact this
def lT(z:Nat->Int)(l:List α)(d:α):List α:=if l.length < 2 then l else (SP.run (SP.dI z) (W.kas_sort l.length)).toList.map λi=>l.getD i d
def fW(l:List α)(d:α):(List.range l.length).map (λi=>l.getD i d)=l:=by
 apply jH
 ·simp
 ·intro i h1 h2;simp[h2]
def dy(z:Nat->Int)(l:List α)(d:α):(lT z l d).Perm l:=by
 unfold lT;split
 ·exact List.Perm.refl _
 ·rename_i h;have:=((SP.d9 (z:=z) (n:=l.length) (by lia)).1).map λi=>l.getD i d;rw[fW] at this;exact this
def A6(nss:List (List Int)):lT (λi=>rk nss (nss.getD i [])) nss []=lF nss:=by
 refine uf (dy _ _ _) ?_;unfold lT;split
 ·rename_i h
  match nss,h with
  | [],_=>exact List.Pairwise.nil
  | [a],_=>exact vH _ _
 ·rename_i h;let⟨hp,hs⟩:=SP.d9 (z:=λi=>rk nss (nss.getD i [])) (n:=nss.length) (by lia);rw[jE] at hs ⊢;refine hs.imp_of_mem λ{i j} hi hj hij=>?_;have hj':j < nss.length:=by have:=hp.mem_iff.mp hj;simpa using this
  unfold lexLe;rw[wg (l:=nss) (a:=nss.getD j []) (by rw[zG,zK hj'];exact qA _)];simp?[yP,xB];lia
def mN{K:W.Frag}(z:Nat->Int)(r:ak K HF ds vs):ak K HF (lT z ds .none) (lT z vs .non):=by
 unfold lT;rw[r.length];split
 ·exact r
 ·rename_i h;let⟨hp,_⟩:=SP.d9 (z:=z) (n:=ds.length) (by lia);have key:∀l:List Nat,(∀i∈l,i < ds.length)->ak K HF (l.map λi=>ds.getD i .none) (l.map λi=>vs.getD i .non):=λl=>by
   induction l with
   | nil=>exactλ_=>ak.nil
   | cons i l ih =>
    intro hl;have hi:=hl i zE;let⟨v,e1,e2⟩:=r.getD (zK hi);refine ak.cons ?_ (ih λj hj=>hl j (zC _ hj));dsimp only;rw[zG,zG,e1,zK hi];exact e2
  exact key _ λi hi=>by have:=hp.mem_iff.mp hi;simpa using this
def i3(z:Nat->Int)(r:aJ vs us):aJ (lT z vs .non) (Srt.outV z us):=by
 unfold lT Srt.outV;rw[r.length];split
 ·exact r
 ·rename_i h;let⟨hp,_⟩:=SP.d9 (z:=z) (n:=us.length) (by lia);have key:∀l:List Nat,(∀i∈l,i < vs.length)->aJ (l.map λi=>vs.getD i .non) (l.map λi=>us.getD i Value.none):=λl=>by
   induction l with
   | nil=>exactλ_=>.nil
   | cons i l ih =>
    intro hl;have hi:=hl i zE;let⟨v,e1,e2⟩:=r.get (zK hi);refine .cons ?_ (ih λj hj=>hl j (zC _ hj));dsimp only;rw[zG,zG,e1,zK hi];exact e2
  exact key _ λi hi=>by have:=hp.mem_iff.mp hi;rw[r.length];simpa using this
def Bm(z:Nat->Int)(nss:List (List Int)):lT z (nss.map af) .none=(lT z nss []).map af:=by
 unfold lT;rw[zD];split
 ·rfl
 ·rename_i h;rw[zM];let⟨hp,_⟩:=SP.d9 (z:=z) (n:=nss.length) (by lia);refine yH λi hi=>?_;have hi':i < nss.length:=by have:=hp.mem_iff.mp hi;simpa using this
  simp[hi']
def iK(I:Inv X pins σ H s)(sm:aU HF H):∀ {nss:List (List Int)}{vs:List V}{us:List Value},ak X.K HF (nss.map af) vs->aJ vs us->Paired (kl s.heap) us nss
 | [],_,_,h,r=>by rw[h.nil_inv] at r;cases r;exact .nil
 | ns::nss,_,_,h,r=>by
  let⟨v,vr,rfl,a,b⟩:=h.cons_inv;cases r with
  | cons r rr =>
   refine .cons ?_ (iK I sm b rr);unfold af at a;simp?[Rep] at a;let⟨p,ws,rfl,hs,rw'⟩:=a;cases r;let⟨its,rv,⟨o,ho,hc,n,hd⟩,_⟩:=I.tuple (aE sm hs);have:ws=ns.map V.int:=by
    have key:∀ {ns:List Int}{ws:List V},ak X.K HF (ns.map PyData.int) ws->ws=ns.map V.int:=λ{ns}=>by
     induction ns with
     | nil=>exactλh=>h.nil_inv
     | cons n ns ih =>
      intro ws h;let⟨v,r,rfl,a,b⟩:=h.cons_inv;simp?[Rep] at a;rw[a,ih b];rfl
    exact key rw'
   subst this;exact⟨p,o,its.toArray,n,rfl,ho,hc,hd,intsAre_of rv⟩
def nc:dh X (.builtin "sorted") (λxs H Q=>∃ (HF:Hp) (a:Addr) (vs:List V) (nss:List (List Int)),xs=[.ref a]/\aU HF H/\(gw X.K HF a vs\/iL X.K HF a vs)/\ak X.K HF (nss.map af) vs/\(∀ns∈nss,ns≠[])/\nss.length < 64 /\
  ∀ (Dn:Addr) (us:List V),H Dn=none->ak X.K HF ((lF nss).map af) us->Q (.ref Dn) (upd H Dn (.lst us))):=by
 intro pins s σ H xs us Q I r h;let⟨HF,a,vs,nss,rfl,sm,hq,rr,hn,h64,q⟩:=h;let⟨u,rfl,rx⟩:=vals1 r;cases rx;obtain⟨its,rv,pl,hz⟩:∃its:List Value,aJ vs its/\Srt.Coll s.heap a its/\vs.length<=sizeLine:=by
  rcases hq with hq|hq
  ·let⟨its,rv,pl,hz⟩:=I.list (sm.seq hq);let⟨o,ho,hc,n,hd⟩:=pl.isList;exact⟨its,rv,⟨o,"list",n,.inl rfl,ho,hc,hd⟩,hz⟩
  ·let⟨its,rv,pl,hz⟩:=I.tuple (aE sm hq);let⟨o,ho,hc,n,hd⟩:=(show s.heap.IsTuple a its.toArray from pl)
   exact⟨its,rv,⟨o,"tuple",n,.inr rfl,ho,hc,hd⟩,hz⟩
 have hl1:=rr.length;rw[zD] at hl1;refine xh pl (iK I sm rr rv) hn (by have:=rv.length;lia) λh' Dn c kp hD e=>?_;have hv:=i3 (λi=>rk nss (nss.getD i [])) rv;have hr:=mN (λi=>rk nss (nss.getD i [])) rr;rw[Bm,A6] at hr;refine⟨.ref Dn,_,I.laid (t':=s.toks) (o:=.lst (lT (λi=>rk nss (nss.getD i [])) vs .non)) kp hD ⟨?_,_,c,hv,e⟩,rfl,q Dn _ (I.hok.fresh hD) hr⟩;rw[(dy _ _ _).length_eq];exact hz
def f9:List D->Option (List D):=λds=>(oneOf ds).bind λd=>match d with
 | .list es=>(rowsOf es).bind λnss=>if nss.length < 64 then some ((lF nss).map af) else none
 | .tuple es=>(rowsOf es).bind λnss=>if nss.length < 64 then some ((lF nss).map af) else none
 | _=>none
def Da(B:mY X "sorted" (.builtin "sorted"))(ha:DA X [e] fs)(he:starEach [e] X.env=(false,eval e X.env)::starEach [] X.env:=by rfl):DF X (.Call (.Name "sorted" p) [e] [] pos) (rh f9 fs) :=
 FN nc (by
  intro HF H ds vs d Q sm r hg q;let⟨x,hx,hg⟩:=bs hg;rw[fZ hx] at r;have key:∀ (b:Bool) (es:List D),ak X.K HF [if b then .tuple es else .list es] vs->((rowsOf es).bind λnss=>if nss.length < 64 then some ((lF nss).map af) else none)=some d->(∃ (HF:Hp) (a:Addr) (us:List V) (nss:List (List Int)),vs=[.ref a]/\aU HF H/\(gw X.K HF a us\/iL X.K HF a us)/\ak X.K HF (nss.map af) us/\(∀ns∈nss,ns≠[])/\nss.length < 64/\∀ (Dn:Addr) (ws:List V),H Dn=none->ak X.K HF ((lF nss).map af) ws->Q (.ref Dn) (upd H Dn (.lst ws))):=λb es r hg=>by
   let⟨nss,hb,hg⟩:=bs hg;split at hg
   ·rename_i h64;cases hg;let⟨v,r',rfl,a,e0⟩:=r.cons_inv;rw[e0.nil_inv];let⟨e1,e2⟩:=j6 hb;obtain⟨p,us,rfl,h,rr⟩:∃p us,v=.ref p/\(gw X.K HF p us\/iL X.K HF p us)/\ak X.K HF es us:=by
     cases b
     ·simp?[yO,qP,Rep] at a;let⟨p,us,rfl,h,rr⟩:=a;exact⟨p,us,rfl,.inl h,rr⟩
     ·simp?[xH,Rep] at a;let⟨p,us,rfl,h,rr⟩:=a;exact⟨p,us,rfl,.inr h,rr⟩
    rw[e1] at rr;exact⟨HF,p,us,nss,rfl,sm,h,rr,e2,h64,λDn ws hD hr=>q Dn ws _ HF (.own sm hD) hD (sm.free hD) aI hr⟩
   ·cases hg
  cases x<;>try cases hg
  ·exact key false _ r hg
  ·exact key true _ r hg) B ha (by decide) (by decide) he rfl
end Dl
namespace En
open PySem PyProof.Rows
open AutoSeq1 (wpAny_loadPart')
def nextT_item(hj:s.heap.IsTupleIter j t k)(ht:s.heap.IsTuple t its)(hv:its[k]?=some v)
  (hQ:∀g,g.IsTupleIter j t (k+1)->Heap.SameBut j s.heap g->Q v { s with heap:=g }):wpAny (model prog w) A (Builtin.SmallTypes.nextOf (.ref j)) Q E s:=by
 let⟨oj,gj,cj,dj⟩:=id hj;let⟨ot,gt,_,nt,dt⟩:=ht;unfold Builtin.SmallTypes.nextOf;refine zV (qC (name:=Str.ofString "__next__") hj.typeIs jQ (qV jQ hj.typeIs F.entry_tuple_iterator_next ?_ (F.args_tuple_iterator_next_1 _)));refine zV (m:=field (.ref j) 0) (qT gj dj (x:=.ref t) rfl ?_);show wpAny _ _ (if (Value.ref t == Value.none)=true then _ else _) _ _ s;rw[yN (show ¬ ((Value.ref t == Value.none)=true) by exact yZ)];refine zV (m:=field (.ref j) 1) (qT gj dj (x:=.int k 0) rfl ?_);refine zV (m:=seqItems? (.ref t)) (kH gt dt ?_);simp?[yG,hv];refine zV (wpAny_setField gj dj (by simp) (zW ⟨v,rfl,zW (hQ _ ⟨_,Heap.get?_update_self _ gj (Obj.isFreed_of_fields (Obj.data_mapFields dj _)),(Obj.cls_mapFields ..).trans cj,?_⟩ (Heap.SameBut.update ..))⟩));rw[Obj.data_mapFields dj];simp[rawInt]
def nextT_end{Q:Value->Shared->Prop}(hh:A.handled=none)(hj:s.heap.IsTupleIter j t k)(ht:s.heap.IsTuple t its)(hv:its[k]?=none)
  (hE:∀g x,Heap.ExtBut j s.heap g->(∃o,g.get? x=some o/\o.cls=.type "StopIteration")->E (.ref x) { s with heap:=g }):wpAny (model prog w) A (Builtin.SmallTypes.nextOf (.ref j)) Q E s:=by
 let⟨oj,gj,cj,dj⟩:=id hj;let⟨ot,gt,_,nt,dt⟩:=ht;unfold Builtin.SmallTypes.nextOf;refine zV (qC (name:=Str.ofString "__next__") hj.typeIs jQ (qV jQ hj.typeIs F.entry_tuple_iterator_next ?_ (F.args_tuple_iterator_next_1 _)));refine zV (m:=field (.ref j) 0) (qT gj dj (x:=.ref t) rfl ?_);show wpAny _ _ (if (Value.ref t == Value.none)=true then _ else _) _ _ s;rw[yN (show ¬ ((Value.ref t == Value.none)=true) by exact yZ)];refine zV (m:=field (.ref j) 1) (qT gj dj (x:=.int k 0) rfl ?_);refine zV (m:=seqItems? (.ref t)) (kH gt dt ?_);simp?[yG,hv];refine zV (wD (zV (wpAny_setField gj dj (by simp) (zV (m:=newExc (.type "StopIteration") []) ?_))));simp?[newExc,newTuple];refine zV (qL (zV (m:=firstArgMember _ _) (wpAny_of_eq (a:=Value.none) (by first|rfl|(simp?[firstArgMember];rfl)) ?_)) (by size_fits));refine qL ?_ (by size_fits);simp?[raiseNew];refine zV (wpAny_handled ?_)
 first|rw[show A.in1.handled=none from hh]|rw[hh]
 exact zV (zW (wpAny_throw (hE _ _ (((Heap.SameBut.update ..).extBut.push _).push _) ⟨_,zX _ rfl,rfl⟩)))
def meets_enumT(t:Addr)(its:Array Value)(n:Nat)(dd:Option Addr)(sl:Array (Option Value)) :
  Meets (Builtin.«enumerate.__new__» ⟨[.type "enumerate",.ref t],[]⟩) (λ_ R s=>s.heap.get? t=some { cls:=.type "tuple",dict:=dd,data:=.seq its n,slots:=sl } /\
   R (.ok (.ret (.ref (s.heap.push { cls:=.type "tuple_iterator",data:=.fields #[.ref t,.int 0 0] }).objs.size)))
    { s with heap:=(s.heap.push { cls:=.type "tuple_iterator",data:=.fields #[.ref t,.int 0 0] }).push { cls:=.type "enumerate",data:=.fields #[.none,.bool false,.ref s.heap.objs.size,rawInt 0,.none,.none] } }) :=
 .of_wp λprog w A R s h=>by
  let⟨hp,g,d,tk,os⟩:=s;let⟨hl,h⟩:=h;have hsub:=sub_enumerate;have hL:Heap.IsTuple (Shared.heap ⟨hp,g,d,tk,os⟩) t its:=⟨_,hl,rfl,n,rfl⟩
  wp_walk using wpAny_loadPart' hl
  refine wpAny_stack_any λst=>zW ?_;split
  ·rename_i c _ _ _ _ _;cases (c == Value.type "enumerate")
   ·wp_walk using wpAny_loadPart' hl,xR hL
    exact⟨_,rfl,h⟩
   ·wp_walk using wpAny_loadPart' hl,xR hL
    exact⟨_,rfl,h⟩
  ·wp_walk using wpAny_loadPart' hl,xR hL
   exact⟨_,rfl,h⟩
def call_enumT(ht:s.heap.IsTuple t its)
  (h:∀h',IsEnum h' (s.heap.objs.size+1) s.heap.objs.size 0 .none->h'.IsTupleIter s.heap.objs.size t 0->h'.objs.size=s.heap.objs.size+2->(∀b o,s.heap.get? b=some o->h'.get? b=some o)->Q (.ref (s.heap.objs.size+1)) { s with heap:=h' }) :
  wpAny (model prog w) A (call (.type "enumerate") [.ref t]) Q E s:=by
 let⟨⟨c,dct,dt,sl⟩,hl,hc,n,hd⟩:=ht;simp only at hc hd;subst hc hd;refine callType_new F.called_enumerate (by decide) (F.typeCall_enumerate_1 _) (F.newCall_enumerate_1 _) (λobj=>F.args_object_init_2 obj _) F.entry_enumerate_new (meets_enumT t its n dct sl) ⟨hl,?_⟩;have hz:(s.heap.push { cls:=.type "tuple_iterator",data:=.fields #[.ref t,.int 0 0] }).objs.size=s.heap.objs.size+1:=by rw[xJ]
 have he:=zX (s.heap.push { cls:=.type "tuple_iterator",data:=.fields #[.ref t,.int 0 0] }) (o:={ cls:=.type "enumerate",data:=.fields #[.none,.bool false,.ref s.heap.objs.size,rawInt 0,.none,.none] }) rfl;show _/\_;rw[hz] at he ⊢;refine⟨⟨_,he,rfl⟩,h _ he ⟨_,zU _ (zX _ rfl),rfl,rfl⟩ ?_ λb o x=>zU _ (zU _ x)⟩;show (Heap.push _ _).objs.size=_;rw[xJ,hz]
end En
namespace Dl
open PySem L2 PySem.Spec PyProof.Rows
section
variable {ch:List Addr}
def wu(I:Inv X pins σ H s)(hch:∀b∈ch,cA X pins H b)(k:∀b o,b∉ch->s.heap.get? b=some o->h'.get? b=some o){T:Addr}{vals:List Value}{xs:List V}(hT:s.heap.objs.size<=T)(ht:o4 h' T vals.toArray)
  (rv:aJ xs vals) (hz:xs.length<=sizeLine):Inv X pins σ (upd H T (.tup xs)) { s with heap:=h',toks:=t' }:=by
 have nT:H T=none:=I.hok.fresh hT;have ne:∀b o,s.heap.get? b=some o->b≠T:=λb o e=>yR (zP (zY e) hT);have ne2:∀b o,H b=some o->b≠T:=λb o e=>aP e nT;have nch:∀b o,H b=some o->b∉ch:=λb o e z=>by rw[(hch b z).1] at e;cases e
 refine I.step (g':=s.gens) (d':=s.drawn) (ch:=ch) (λb hb=>?_) (λb o _ _ hc e _=>k b o hc e) (λb o _ _ hc e _=>⟨o.slots,k b o hc e⟩) (λb o _ e n=>by rw[aA (ne b o e)];exact n)
  (λb o hc e=>⟨o,k b o hc e⟩) (λb ys e=>by rw[aA (ne2 b _ e)];exact e) (λb o u e=>by rw[aA (ne2 b _ e)];exact e) (.kept (λb u ⟨q,z⟩ e=>k b u (nch b _ z) e) λb u e _=>by rw[aA (ne2 b _ e)];exact e) (λm hm=>?_) (λb u e=>?_) I.bare
 ·let⟨f0,f1,f2,f3,f4,f5⟩:=hch b hb;exact⟨f3,f1,f4,f5⟩
 ·let⟨o,es,ep,ho,r⟩:=hm;exact⟨o,es,ep,k _ o (λz=>(hch _ z).2.1 rfl) ho,r⟩
 ·by_cases hb:b=T
  ·subst hb;rw[aI] at e;cases e;exact⟨hz,vals,rv,ht⟩
  ·rw[aA hb] at e;refine (I.hok b u e).stay (λc v hc q=>k c v ?_ q) (λ_ q=>?_) λc v q _=>?_
   ·rcases hc with z|z
    ·rw[z];exact nch b u e
    ·exact nch c _ z
   all_goals first
    | (rw[aA (ne2 _ _ q)];exact q)
    | exact q
def Nc(I:Inv X pins σ H s)(hf:cA X pins H b)(h:X.K.lookup a=some o):a≠b:=by
 rintro rfl;have hb:=I.ok.mod.kin a o h;rcases hf.2.2.2.1 with z|z
 ·exact I.ok.noex a o hb z
 ·exact absurd (zP (zY (I.ok.bs a o hb).1) z) (qE _)
def KG(I:Inv X pins σ H s)(hf:cA X pins H b)(h:gw X.K H a xs):a≠b:=by
 rcases h with (h|⟨o,h⟩)|⟨o,its,n,h,_⟩
 ·exact aP h hf.1
 ·exact aP h hf.1
 ·exact Nc I hf h
def JN(I:Inv X pins σ H s)(hf:cA X pins H b)(h:iL X.K H a xs):a≠b:=by
 rcases h with (h|⟨o,h⟩)|⟨o,its,n,h,_⟩
 ·exact aP h hf.1
 ·exact aP h hf.1
 ·exact Nc I hf h
end
def Og(sq:Hp->List V->Prop):It:=⟨λi H=>∃xs x,sq H xs/\xs[i]?=some x,λi H v H'=>∃T y,v=.ref T/\H T=none/\H'=upd H T (.tup [.int (i:Nat),y])/\∀xs,sq H xs->xs[i]?=some y,λi H=>∃xs,sq H xs/\xs.length<=i⟩
def bB(k:Nat):List D->List D
 | []=>[]
 | d::ds=>.tuple [.int (k:Nat),d]::bB (k+1) ds
def sN:∀ {ds:List D}{k i:Nat}{d:D},(bB k ds)[i]?=some d->∃x,ds[i]?=some x/\d=.tuple [.int ((k+i:Nat):Int),x]
 | [],k,i,d,h=>by simp[bB] at h
 | x::ds,k,0,d,h=>by simp[bB] at h;exact⟨x,rfl,h.symm⟩
 | x::ds,k,i+1,d,h=>by
  simp?[bB,yY] at h;let⟨y,h1,h2⟩:=sN h;refine⟨y,by simpa using h1,?_⟩;rw[h2,show k+1+i=k+(i+1) by lia]
def ka:∀ (ds:List D) (k:Nat),(bB k ds).length=ds.length
 | [],k=>rfl
 | x::ds,k=>by simp[bB,ka ds (k+1)]
def Ck{K:W.Frag}(h:sq HF vs)(mo:∀H H',aU H H'->sq H vs->sq H' vs)(r:ak K HF ds vs):rM K (Og sq) HF (bB 0 ds) where
 go:=λi d H₁ HF₁ e s1 s2=>by
  let⟨x,hx,rfl⟩:=sN e;rw[jD];let⟨v,hv,rv⟩:=r.getD hx;have q:=mo _ _ s2 (mo _ _ s1 h);refine⟨⟨vs,v,q,hv⟩,λy H₂ ⟨T,z,e1,hT,e2,hy⟩=>?_⟩;have:=hy vs q;rw[hv] at this;cases this;subst e1 e2;exact⟨_,.new s2 hT,dS (s2.free hT) (ak.cons (by simp[Rep]) (ak.cons (rv.mono s1) ak.nil))⟩
 stop:=λH₁ HF₁ s1 s2=>⟨vs,mo _ _ s2 (mo _ _ s1 h),by rw[ka,r.length];exact yM _⟩
def N1(sq1 sq2:Hp->List V->Prop):It:=⟨λi H=>∃xs ys x y,sq1 H xs/\sq2 H ys/\xs[i]?=some x/\ys[i]?=some y,
 λi H v H'=>∃T x y,v=.ref T/\H T=none/\H'=upd H T (.tup [x,y])/\(∀xs,sq1 H xs->xs[i]?=some x)/\∀ys,sq2 H ys->ys[i]?=some y,
 λi H=>∃xs ys,sq1 H xs/\sq2 H ys/\(xs.length<=i\/ys.length<=i)⟩
section
variable {ch:List Addr}
def Cq(I:Inv X pins σ H s)(hch:∀b∈ch,cA X pins H b)(k:∀b o,b∉ch->s.heap.get? b=some o->h'.get? b=some o):Inv X pins σ H { s with heap:=h',toks:=t' }:=by
 have nch:∀b o,H b=some o->b∉ch:=λb o e z=>by rw[(hch b z).1] at e;cases e
 refine I.step (g':=s.gens) (d':=s.drawn) (ch:=ch) (λb hb=>?_) (λb o _ _ hc e _=>k b o hc e) (λb o _ _ hc e _=>⟨o.slots,k b o hc e⟩) (λb o _ e n=>n)
  (λb o hc e=>⟨o,k b o hc e⟩) (λb ys e=>e) (λb o u e=>e) (.kept (λb u ⟨q,z⟩ e=>k b u (nch b _ z) e) λb u e _=>e) (λm hm=>?_) (λb u e=>?_) I.bare
 ·let⟨f0,f1,f2,f3,f4,f5⟩:=hch b hb;exact⟨f3,f1,f4,f5⟩
 ·let⟨o,es,ep,ho,r⟩:=hm;exact⟨o,es,ep,k _ o (λz=>(hch _ z).2.1 rfl) ho,r⟩
 ·refine (I.hok b u e).stay (λc v hc q=>k c v ?_ q) (λ_ q=>q) λc v q _=>q;rcases hc with z|z
  ·rw[z];exact nch b u e
  ·exact nch c _ z
end
structure O8(z TI TO i1 i2:Addr):Prop where
 a1:TI≠z
 a2:TO≠z
 a3:i1≠z
 a4:i2≠z
 a5:TI≠TO
 a6:TI≠i1
 a7:TI≠i2
 a8:TO≠i1
 a9:TO≠i2
 a0:i1≠i2
def iC:List D->List D->List D
 | x::xs,y::ys=>.tuple [x,y]::iC xs ys
 | _,_=>[]
def pj:∀ {xs ys:List D}{i:Nat}{d:D},(iC xs ys)[i]?=some d->∃x y,xs[i]?=some x/\ys[i]?=some y/\d=.tuple [x,y]
 | [],_,i,d,h=>by simp[iC] at h
 | _::_,[],i,d,h=>by simp[iC] at h
 | x::xs,y::ys,0,d,h=>by simp[iC] at h;exact⟨x,y,rfl,rfl,h.symm⟩
 | x::xs,y::ys,i+1,d,h=>by
  simp?[iC,yY] at h;let⟨a,b,h1,h2,h3⟩:=pj h;exact⟨a,b,by simpa using h1,by simpa using h2,h3⟩
def mR:∀ (xs ys:List D),(iC xs ys).length=min xs.length ys.length
 | [],_=>by simp[iC]
 | _::_,[]=>by simp[iC]
 | x::xs,y::ys=>by simp[iC,mR xs ys]
def D7{K:W.Frag}(h1:sq1 HF vs)(mo1:∀H H',aU H H'->sq1 H vs->sq1 H' vs)(h2:sq2 HF us)(mo2:∀H H',aU H H'->sq2 H us->sq2 H' us)(r1:ak K HF xs vs)(r2:ak K HF ys us) :
  rM K (N1 sq1 sq2) HF (iC xs ys) where
 go:=λi d H₁ HF₁ e s1 s2=>by
  let⟨x,y,hx,hy,rfl⟩:=pj e;let⟨v,hv,rv⟩:=r1.getD hx;let⟨u,hu,ru⟩:=r2.getD hy;have q1:=mo1 _ _ s2 (mo1 _ _ s1 h1);have q2:=mo2 _ _ s2 (mo2 _ _ s1 h2);refine⟨⟨vs,us,v,u,q1,q2,hv,hu⟩,λw H₂ ⟨T,a,b,e1,hT,e2,ha,hb⟩=>?_⟩;have ea:=ha vs q1;have eb:=hb us q2;rw[hv] at ea;rw[hu] at eb;cases ea;cases eb;subst e1 e2;exact⟨_,.new s2 hT,dS (s2.free hT) (ak.cons (rv.mono s1) (ak.cons (ru.mono s1) ak.nil))⟩
 stop:=λH₁ HF₁ s1 s2=>⟨vs,us,mo1 _ _ s2 (mo1 _ _ s1 h1),mo2 _ _ s2 (mo2 _ _ s1 h2),by rw[mR,r1.length,r2.length];lia⟩
def cut(xs:List α)(lo hi:Option Int):List α:=(xs.drop (HT.dk xs.length 0 lo)).take (HT.dk xs.length xs.length hi - HT.dk xs.length 0 lo)
def G9(xs:List α)(lo hi:Option Int):(cut xs lo hi).length<=xs.length:=by
 unfold cut;rw[jV,qH];lia
def pA{K:W.Frag}(r:ak K H ds vs)(lo hi:Option Int):ak K H (cut ds lo hi) (cut vs lo hi):=by
 unfold cut;rw[r.length];exact (r.drop _).take _
section
def Cd{vl:Value}{lo:Option Int}(ht:IsTup s.heap t its)(hs:s.heap.IsSliceOf sl vl vu .none)(pl:IsPart vl lo)(pu:IsPart vu hi)
  (hw:HT.dk its.size 0 lo=0/\HT.dk its.size its.size hi=its.size) (h:Q (.ref t) s):wpAny (model prog w) A (getItem (.ref t) (.ref sl)) Q E s:=by
 let⟨os,hos,hcs,hds⟩:=id hs;have hTs:s.TypeIs (.ref sl) "slice":=⟨os,hos,hcs⟩
 unfold getItem
 try with_reducible refine xX ?_
 first|refine zV (zW ?_)|skip
 refine zV (wpAny_sequenceKey ht.typeIs (by decide) (zV (qC (name:=Str.ofString "__getitem__") ht.typeIs jF (qV jF ht.typeIs entry_tuple_getitem ?_ (args_tuple_getitem _ _)))));refine zV (m:=Builtin.Tuple.tupleItemsOf (.ref t)) (tupleItemsOf_ ht (zV (wJ hTs ?_)));rw[yL (by decide)];refine zV (HT.g8 hs pl pu ?_);show wpAny _ _ (if (((HT.dk its.size 0 lo:Nat):Int) == 0&&(1:Int) == 1&&(HT.dk its.size its.size hi - HT.dk its.size 0 lo) == its.size)=true then _ else _) _ _ s;rw[hw.1,hw.2,yL (by simp)];unfold Builtin.Tuple.tupleIsExact;refine zV (zV (wJ ht.typeIs (zW ?_)));rw[yL (by decide)]
 first
  | exact zV (wD (zW ⟨_,rfl,zW h⟩))
  | exact zV (wD (zV (zW (zW ⟨_,rfl,zW h⟩))))
def N5(K:W.Frag):V->Option Int->Option Int->Hp->VK->Prop:=λx lo hi H Q=>∃a xs,x=.ref a/\iL K H a xs/\(cut xs lo hi=xs->Q (.ref a) H)/\∀p,H p=none->Q (.ref p) (upd H p (.tup (cut xs lo hi)))
def LG:Jj X (N5 X.K):=by
 intro pins s σ H x v vl vu lo hi sl Q I rx hs pl pu h;let⟨a,xs,rfl,hx,q1,q2⟩:=h;by_cases hw:HT.dk xs.length 0 lo=0/\HT.dk xs.length xs.length hi=xs.length
 ·cases rx;let⟨its,r,ht,hz⟩:=I.tuple hx;have hlen:its.toArray.size=xs.length:=by rw[zH];exact r.length.symm
  refine⟨"tuple",_,PyProof.Rows.slot_tuple_getitem.lookup,ht.typeIs,Cd ht hs pl pu (by rw[hlen];exact hw) ⟨.ref a,H,I,rfl,q1 ?_⟩⟩;unfold cut;rw[hw.1,hw.2,List.drop_zero,Nat.sub_zero,List.take_length]
 ·exact Kv pins s σ H (.ref a) v vl vu lo hi sl Q I rx hs pl pu ⟨a,xs,rfl,hx,hw,q2⟩
def N4(K:W.Frag):V->Option Int->Option Int->Hp->VK->Prop:=λx lo hi H Q=>∃a xs,x=.ref a/\gw K H a xs/\∀p,H p=none->Q (.ref p) (upd H p (.lst (cut xs lo hi)))
def yz(lo hi:Option Int)(n:Nat):sliceBounds lo hi none n=(((HT.dk n 0 lo:Nat):Int),((HT.dk n n hi:Nat):Int),1):=by
 have h1:(1:Int) > 0:=by lia
 refine Prod.ext ?_ (Prod.ext ?_ rfl)
 ·cases lo with
  | none=>simp[sliceBounds,HT.dk]
  | some x =>
   by_cases h:x < 0
   ·simp?[sliceBounds,HT.dk,kL,h1,xH,yL h];lia
   ·simp?[sliceBounds,HT.dk,kL,h1,xH,yN h];lia
 ·cases hi with
  | none=>simp[sliceBounds,HT.dk]
  | some x =>
   by_cases h:x < 0
   ·simp?[sliceBounds,HT.dk,kL,h1,xH,yL h];lia
   ·simp?[sliceBounds,HT.dk,kL,h1,xH,yN h];lia
def GJ:Jj X (N4 X.K):=by
 intro pins s σ H x v vl vu lo hi sl Q I rx hs pl pu h;let⟨a,xs,rfl,hx,q⟩:=h;cases rx;let⟨its,r,p,hz⟩:=I.list hx;have hlen:=r.length;refine⟨"list",_,slot_list_getitem.lookup,p.isList.typeIs,wpAny_getItem_list_slice p.isList hs pl pu .none (by simp) ?_ (by rw[zH];lia)⟩;rw[W.kmk_pick_nat its.toArray (yz lo hi its.toArray.size)];have e:((its.toArray.toList.drop (HT.dk its.toArray.size 0 lo)).take (HT.dk its.toArray.size its.toArray.size hi - HT.dk its.toArray.size 0 lo))=cut its lo hi:=by unfold cut;simp
 rw[e];have rc:aJ (cut xs lo hi) (cut its lo hi):=by unfold cut;rw[hlen];exact (r.drop _).take _
 exact⟨.ref s.heap.objs.size,_,I.lnew (t':=s.toks) rc (yD (G9 xs lo hi) hz),rfl,q _ I.fresh⟩
def Pf(K:W.Frag)(f:Env->Option (Option Int)):TO:=λσ H Q=>∃HF ρ o,aU HF H/\cL K HF ρ σ/\f ρ=some o/\∀H' HF',bY HF H HF' H'->Q o H'
def DO(X:Cx)(e:Option Expr)(f:Env->Option (Option Int)):Prop:=PO X e (Pf X.K f)
def lE:Env->Option (Option Int):=λ_=>some none
def gI:D->Option Int|.int i=>some i|_=>none
def zk(f:Env->Option D):Env->Option (Option Int):=λρ=>(f ρ).bind λd=>(gI d).map some
def Hz:DO X none lE:=λpins s σ H Q I ⟨HF,ρ,o,sm,eo,hf,q⟩=>Hr pins s σ H Q I (by cases hf;exact q H HF (.refl sm))
def Gz(h:DE X e f):DO X (some e) (zk f):=λpins s σ H Q I ⟨HF,ρ,o,sm,eo,hf,q⟩=>HK h pins s σ H Q I (by
 let⟨d,hd,hf⟩:=bs hf;let⟨i,hi,rfl⟩:=ag hf;cases d<;>try cases hi
 exact⟨HF,ρ,_,sm,eo,hd,λv H1 HF1 g1 r1=>⟨_,by simpa only[Rep] using r1,q H1 HF1 g1⟩⟩)
variable {lo hi:Option Expr}{fl fh:Env->Option (Option Int)}
def lH(g:D->Option Int->Option Int->Option β)(fa:Env->Option D)(fl fh:Env->Option (Option Int)):Env->Option β:=λρ=>(fa ρ).bind λx=>(fl ρ).bind λl=>(fh ρ).bind λh=>g x l h
end
def f1(g:D->Option D)(f:Env->Option D):Env->Option D:=λρ=>(f ρ).bind g
end Dl
namespace HT
open PySem PyProof.Rows
section
open PySem.SeqAt
open PySem.AutoSeq1 (wpAny_loadPart')
open PySem.MeetsSeq PySem.MeetsSeq2 PySem.MeetsSeq3
end
end HT
namespace Dl
open PySem L2 PySem.Spec PyProof.Rows
def kg:D->Option (List Int)|.tuple ds=>intsOf ds|_=>none
def iu(h:kg x=some ns):x=.tuple (ns.map PyData.int):=by
 cases x<;>try cases h
 rename_i xs;have h:intsOf xs=some ns:=h;rw[cf h]
def Bv(I:Inv X pins σ H s)(sm:aU HF H)(r:Rep X.K HF (.tuple (ns.map PyData.int)) v)(rv:RelV v u):∃a its,u=.ref a/\IsTup s.heap a its/\IntsAre its.toList ns:=by
 have p:kl s.heap u ns:=by
  cases iK (X:=X) (us:=[u]) (vs:=[v]) (nss:=[ns]) I sm (ak.cons r ak.nil) (.cons rv .nil) with
  | cons p _=>exact p
 let⟨a,o,its,n,rfl,e1,e2,e3,e4⟩:=p.ex;exact⟨a,its,rfl,⟨o,e1,e2,n,e3⟩,e4⟩
def L4:D->D->Option Bool:=λx y=>(kg x).bind λns=>(kg y).map λms=>lexLt ns ms
def AB(hu:X.A.units < cLine):ie X (compareOp .Lt) (MV X.K L4):=by
 intro pins s σ H v1 v2 u1 u2 Q I rx ry h;let⟨HF,x,y,k,sm,r1,r2,hg,q⟩:=h;let⟨ns,h1,hg⟩:=bs hg;let⟨ms,h2,rfl⟩:=ag hg;rw[iu h1] at r1;rw[iu h2] at r2;let⟨a,its,rfl,t1,i1⟩:=Bv I sm r1 rx;let⟨b,its2,rfl,t2,i2⟩:=Bv I sm r2 ry;exact HT.Ap t1 t2 i1 i2 hu ⟨.bl _,H,I,rfl,q⟩
end Dl
namespace En
open PySem PyProof.Rows
open AutoSeq1 (wpAny_loadPart')
def noFill_tup:fillsNumberSlot (.type "tuple") "mul"=pure false:=PySem.fillsNumberSlot_seq (id:="tuple.__mul__") (r:=some (.builtin "tuple.__rmul__")) F.slot_tuple_mul.lookup (by decide +kernel) F.slot_tuple_rmul.lookup (by decide +kernel)
def repeat_tup:seqRepeat? (.type "tuple")=pure (some (.builtin "tuple.__mul__")):=by
 unfold seqRepeat?;rw[PySem.seqSlot_of (T:="tuple") (name:="__mul__") (id:="tuple.__mul__") F.slot_tuple_mul.lookup (by decide +kernel),PySem.seqSlot_of (T:="tuple") (name:="__rmul__") (id:="tuple.__rmul__") F.slot_tuple_rmul.lookup (by decide +kernel)];rfl
def rmul_tup(a:Int)(t:Tok)(l:Addr)(its:Array Value)(n:Nat)(dd:Option Addr)(sl:Array (Option Value)) :
  Meets (Builtin.«int.__rmul__» ⟨[.int a t,.ref l],[]⟩) (λ_ R s=>s.heap.get? l=some { cls:=.type "tuple",dict:=dd,data:=.seq its n,slots:=sl }/\R (.ok (.ret Value.notImplemented)) s) :=
 .of_wp λprog w A R s h=>by
  let⟨hp,g,d,tk,os⟩:=s;let⟨hl,h⟩:=h
  wp_walk
  exact⟨_,rfl,h⟩
def mulT_same(l:Addr)(its:Array Value)(n:Nat)(dd:Option Addr)(sl:Array (Option Value))(k:Int)(t:Tok)(h1:¬ (decide (k < -(2 ^ 63))||decide (k >= 2 ^ 63))=true)(h2:(its.isEmpty||k == 1)=true) :
  Meets (Builtin.«tuple.__mul__» ⟨[.ref l,.int k t],[]⟩) (λ_ R s=>s.heap.get? l=some { cls:=.type "tuple",dict:=dd,data:=.seq its n,slots:=sl }/\R (.ok (.ret (.ref l))) s) :=
 .of_wp λprog w A R s h=>by
  let⟨hp,g,d,tk,os⟩:=s;let⟨hl,h⟩:=h;have f1:=AutoSeq1.idx_int
  wp_walk using wpAny_loadPart' hl
  rw[yN h1]
  wp_walk using wpAny_loadPart' hl
  exact⟨_,rfl,h⟩
def mulT_none(l:Addr)(its:Array Value)(n:Nat)(dd:Option Addr)(sl:Array (Option Value))(k:Int)(t:Tok)(h1:¬ (decide (k < -(2 ^ 63))||decide (k >= 2 ^ 63))=true)(h2:¬ (its.isEmpty||k == 1)=true)(h3:(decide (k<=0)||its.isEmpty)=true) :
  Meets (Builtin.«tuple.__mul__» ⟨[.ref l,.int k t],[]⟩) (λ_ R s=>s.heap.get? l=some { cls:=.type "tuple",dict:=dd,data:=.seq its n,slots:=sl }/\R (.ok (.ret (.ref s.heap.objs.size))) { s with heap:=s.heap.push { cls:=.type "tuple",data:=.seq #[] } }) :=
 .of_wp λprog w A R s h=>by
  let⟨hp,g,d,tk,os⟩:=s;let⟨hl,h⟩:=h;have f1:=AutoSeq1.idx_int
  wp_walk using wpAny_loadPart' hl
  rw[yN h1]
  wp_walk using wpAny_loadPart' hl
  exact⟨_,rfl,h⟩
def mulT_many(l:Addr)(its:Array Value)(n:Nat)(dd:Option Addr)(sl:Array (Option Value))(k:Int)(t:Tok)(h1:¬ (decide (k < -(2 ^ 63))||decide (k >= 2 ^ 63))=true)(h2:¬ (its.isEmpty||k == 1)=true)(h3:¬ (decide (k<=0)||its.isEmpty)=true)
  (h4:¬ ((its.size:Nat):Int) * k > (2 ^ 63 - 1) / 8) (h5:¬ Builtin.Tuple.tupleTooMany (((its.size:Nat):Int) * k)=true) (hz:((List.replicate k.toNat its).foldl (·++·) #[]).size<=sizeLine) :
  Meets (Builtin.«tuple.__mul__» ⟨[.ref l,.int k t],[]⟩) (λ_ R s=>s.heap.get? l=some { cls:=.type "tuple",dict:=dd,data:=.seq its n,slots:=sl }/\R (.ok (.ret (.ref s.heap.objs.size))) { s with heap:=s.heap.push { cls:=.type "tuple",data:=.seq ((List.replicate k.toNat its).foldl (·++·) #[]) } }) :=
 .of_wp λprog w A R s h=>by
  let⟨hp,g,d,tk,os⟩:=s;let⟨hl,h⟩:=h;have f1:=AutoSeq1.idx_int
  wp_walk using wpAny_loadPart' hl
  rw[yN h1]
  wp_walk using wpAny_loadPart' hl
  rw[yN h4]
  wp_walk using wpAny_loadPart' hl
  exact⟨_,rfl,h⟩
end En
namespace Dl
open PySem L2 PySem.Spec PyProof.Rows
def Jz(K:W.Frag):R2:=λx y H Q=>∃a k xs,x=.ref a/\y=.int k/\iL K H a xs/\-(2 ^ 62)<=k/\k < 2 ^ 62/\xs.length * k.toNat<=sizeLine/\((List.replicate k.toNat xs).flatten=xs->Q (.ref a) H) /\
 ∀p,H p=none->Q (.ref p) (upd H p (.tup (List.replicate k.toNat xs).flatten))
def IQ:ie X (binaryOp .Mult) (Jz X.K):=by
 intro pins s σ H x y v u Q I rx ry h;let⟨a,k,xs,rfl,rfl,hq,k1,k2,hz,q1,q2⟩:=h;cases rx;let⟨t,rfl⟩:=ry;let⟨its,r,pl,hzx⟩:=I.tuple hq;have hl:=r.length;let⟨⟨cls,dd,data,sl⟩,ho,hc,n,hd⟩:=id pl;simp only at hc hd;subst hc hd;have b1:¬ (decide (k < -(2 ^ 63))||decide (k >= 2 ^ 63))=true:=by
  simp?[jB,zJ];lia
 refine wpAny_binaryOp_repeat_ref (T:="tuple") (U:="int") (by decide) ⟨_,ho,rfl⟩ (λs'=>typeIs_int s' k t) En.noFill_tup F.fills_int_mul F.slot_int_rmul En.repeat_tup F.slot_int_index.lookup
  (qX F.slot_int_rmul (typeIs_int s k t) F.entry_int_rmul (F.args_int_rmul_2 _ _) (En.rmul_tup k t a its.toArray n dd sl) ⟨ho,rfl,⟨_,ho,rfl⟩,?_⟩)
 have hfl:∀m:Nat,List.foldl (λx1 x2=>x1++x2) #[] (List.replicate m its.toArray)=(List.replicate m its).flatten.toArray:=λm=>by
  have:=foldl_rep its m [];rw[xO] at this;exact this
 by_cases h2:(its.toArray.isEmpty||k == 1)=true
 ·refine qX F.slot_tuple_mul ⟨_,ho,rfl⟩ wW (wH _ _) (En.mulT_same a its.toArray n dd sl k t b1 h2) ⟨ho,⟨.ref a,H,I,rfl,q1 ?_⟩⟩;rw[jB] at h2;rcases h2 with h2|h2
  ·have:xs=[]:=by
    have e:its=[]:=by simpa using h2
    rw[e] at hl;exact List.length_eq_zero_iff.mp hl
   rw[this];simp
  ·have:k=1:=eq_of_beq h2;subst this;simp
 ·by_cases h3:(decide (k<=0)||its.toArray.isEmpty)=true
  ·refine qX F.slot_tuple_mul ⟨_,ho,rfl⟩ wW (wH _ _) (En.mulT_none a its.toArray n dd sl k t b1 h2 h3) ⟨ho,?_⟩;have hk0:k.toNat=0:=by
    simp?[jB,zJ] at h3 h2;rcases h3 with h3|h3
    ·lia
    ·exact absurd (.inl h3) h2
   have q3:=q2 s.heap.objs.size I.fresh;rw[hk0] at q3;exact⟨.ref s.heap.objs.size,_,I.laid (t':=s.toks) (o:=.tup []) (λb ob q=>zU _ q) (yM _) ⟨xV _,[],.nil,o4.new _ _⟩,rfl,q3⟩
  ·have hm:its.length * k.toNat<=sizeLine:=by rw[<- hl];exact hz
   have hkn:(k.toNat:Int)=k:=by
    simp?[jB,zJ,not_or] at h3;lia
   have hmi:((its.toArray.size:Nat):Int) * k=((its.length * k.toNat:Nat):Int):=by rw[zH,Int.natCast_mul,hkn]
   have hv:=L2.aJ.rep r k.toNat;have hlen2:(List.replicate k.toNat xs).flatten.length<=sizeLine:=by rw[len_rep,Nat.mul_comm];exact hz
   have hs8:(sizeLine:Nat)<=(2 ^ 63 - 1) / 8:=by decide
   have h4:¬ ((its.toArray.size:Nat):Int) * k > (2 ^ 63 - 1) / 8:=by rw[hmi];lia
   have h5:¬ Builtin.Tuple.tupleTooMany (((its.toArray.size:Nat):Int) * k)=true:=by
    unfold Builtin.Tuple.tupleTooMany;rw[hmi];simp?[zJ];lia
   refine qX F.slot_tuple_mul ⟨_,ho,rfl⟩ wW (wH _ _) (En.mulT_many a its.toArray n dd sl k t b1 h2 h3 h4 h5 (by rw[hfl,zH,<- hv.length];exact hlen2)) ⟨ho,?_⟩;rw[hfl];exact⟨.ref s.heap.objs.size,_,I.laid (t':=s.toks) (o:=.tup (List.replicate k.toNat xs).flatten) (λb ob q=>zU _ q) (yM _) ⟨hlen2,_,hv,o4.new _ _⟩,rfl,q2 _ I.fresh⟩
def Fo:D->D->Option D
 | .tuple ds,.int k=>if CS k=true/\ds.length * k.toNat<=sizeLine then some (.tuple (List.replicate k.toNat ds).flatten) else none
 | _,_=>none
def qb{K:W.Frag}(r:ak K HF ds vs):∀k:Nat,ak K HF (List.replicate k ds).flatten (List.replicate k vs).flatten
 | 0=>ak.nil
 | k+1=>by rw[xE,xE,qM,qM];exact r.append (qb r k)
def Et{K:W.Frag}:ft K (Jz K) Fo:=by
 intro HF H x y v1 v2 d Q sm r1 r2 hg q;cases x<;>cases y<;>simp?[Fo] at hg<;>try cases hg
 split at hg
 ·rename_i xs k hh;cases hg;simp?[Rep] at r1 r2;let⟨a,vs,rfl,ha,ra⟩:=r1;have ok:=hh.1;unfold CS at ok;rw[zF] at ok;refine⟨a,k,vs,rfl,r2,aE sm ha,yQ ok.1,yQ ok.2,by rw[ra.length];exact hh.2,λe=>q _ H HF (.refl sm) ?_,λp hp=>q _ _ _ (.new sm hp) (dS (sm.free hp) (qb ra _))⟩;simp?[Rep];refine⟨a,vs,rfl,ha,?_⟩;have:=qb ra k.toNat;rw[e] at this;exact this
 ·cases hg
end Dl
namespace En
open PySem PyProof.Rows
def call_setT(hh:A.handled=none)(hl:s.heap.IsTuple l its)(hi:IntsAre its.toList ns)(hb:its.size+1 < scanBound)
  (h:∀ (h':Heap) (tk:Nat),h'.SetOf (intKind prog w) s.heap.objs.size (λk'=>(firstMet (λi=>ns.getD i 0) its.size).any (· == k')) (firstMet (λi=>ns.getD i 0) its.size).length->(∀b o,b < s.heap.objs.size->s.heap.get? b=some o->h'.get? b=some o)->Q (.ref s.heap.objs.size) { s with heap:=h',toks:=tk }) :
  wpAny (model prog w) A (call (.type "set") [.ref l]) Q E s:=by
 let⟨c,tl,hmro⟩:=F.called_set.mro;have hmade:=F.called_set.made;have hsub:=F.called_set.sub;refine wpAny_call (codeAny_of_tree ?_);show wpAny _ _ (callAny (.type "set") _) _ _ _;refine zW ⟨wI _ (by decide +kernel),kF F.entry_type_call ?_⟩;rw[Around.under_plain (weight_type_call_type "set" [.ref l] []) rfl];have h1:=F.called_set.notType;have h2:=F.called_set.canCreate;have hct:=F.typeCall_set_1 (.ref l)
 repeat (any_goals (first|assumption|wp_step))
 refine jR (code_set_new_1 (.ref l) (E:=E) (Q₁:=λobj s1=>∃led:Bool,obj=.ref s.heap.objs.size/\s1={ s with heap:=s.heap.push { cls:=.type "set",dict:=none,data:=.set #[] 0 (.fresh 0 0 led) } }) λled=>⟨led,rfl,rfl⟩) λr s1 hr=>?_;cases r with
 | error e=>exact hr
 | ok fl =>
  cases fl with
  | ret obj =>
   let⟨led,rfl,rfl⟩:=hr;have hS:(s.heap.push { cls:=.type "set",dict:=none,data:=.set #[] 0 (.fresh 0 0 led) }).get? s.heap.objs.size=some { cls:=.type "set",dict:=none,data:=.set #[] 0 (.fresh 0 0 led) }:=by exact zX _ rfl
   have hT:Shared.TypeIs { s with heap:=s.heap.push { cls:=.type "set",dict:=none,data:=.set #[] 0 (.fresh 0 0 led) } } (.ref s.heap.objs.size) "set":=⟨_,hS,rfl⟩
   have hli:=F.called_set.init.lookup;have hbi:=F.called_set.init.bind (.ref s.heap.objs.size)
   repeat (any_goals (first|assumption|wp_step))
   refine jR (codeAny_call_builtin (R:=wants (λr s2=>r=.none/\∃h' tk,s2={ s with heap:=h',toks:=tk }/\h'.SetOf (intKind prog w) s.heap.objs.size (λk'=>(firstMet (λi=>ns.getD i 0) its.size).any (· == k')) (firstMet (λi=>ns.getD i 0) its.size).length /\
     (∀b o,b < s.heap.objs.size->s.heap.get? b=some o->h'.get? b=some o)) E) F.called_set.init.plain F.entry_set_init (check_set_init_1 hT ?_)) λr2 s2 hr2=>?_
   ·let⟨ol,hol,hcl,nl,hdl⟩:=hl;let⟨ocls,odict,odata,oslots⟩:=ol;simp only at hcl hdl;subst hcl hdl;have hol':(s.heap.push { cls:=.type "set",dict:=none,data:=.set #[] 0 (.fresh 0 0 led) }).get? l=some { cls:=.type "tuple",dict:=odict,data:=.seq its nl,slots:=oslots }:=zU _ hol;have hsls:=F.sub_tuple_set;have hslf:=F.sub_tuple_frozenset;have hne:(Value.type "tuple" == Value.type "dict")=false:=by decide
    have hl1:(s.heap.push { cls:=.type "set",dict:=none,data:=.set #[] 0 (.fresh 0 0 led) }).IsTuple l its:=⟨_,hol',rfl,nl,rfl⟩
    unfold Builtin.«set.__init__» noKeywords Builtin.Frozenset.updateFrom;generalize hPI:pyIter=PI
    wp_walk
    subst hPI;refine xR hl1 (zV (wpAny_runValue ?_));have hlS:l < s.heap.objs.size:=zY hol;have hh3:A.in1.in1.in1.handled=none:=by simp[hh]
    have hneI:l≠(s.heap.push { cls:=.type "set",dict:=none,data:=.set #[] 0 (.fresh 0 0 led) }).objs.size:=by rw[xJ];exact yR (jN hlS)
    have hSf:s.heap.objs.size∉[(s.heap.push { cls:=.type "set",dict:=none,data:=.set #[] 0 (.fresh 0 0 led) }).objs.size,l]:=by
     rw[xJ];simp?[zQ,yF,xU,not_or];exact⟨yR (kM _),jI hlS⟩
    have hval:∀ (i:Nat) (v:Value),its[i]?=some v->∃t,v=.int ((λi=>ns.getD i 0) i) t:=λi v hv=>IntsAre.int_at hi i v (by rw[Array.getElem?_toList];exact hv);refine codeAny_set_update_loopS ((Walks.tuple hh3 _ l hneI its).toS) s.heap.objs.size hSf (λi=>ns.getD i 0) hval hb (its.size - 0) 0 _ (by lia) (xV _) ⟨⟨_,zX _ rfl,rfl,rfl⟩,?ht⟩ ?hS0 ?hR
    case ht=>exact⟨_,zU _ hol',rfl,nl,rfl⟩
    case hS0 =>
     have hget:((s.heap.push { cls:=.type "set",dict:=none,data:=.set #[] 0 (.fresh 0 0 led) }).push { cls:=.type "tuple_iterator",data:=.fields #[.ref l,.int 0 0] }).get? s.heap.objs.size=some { cls:=.type "set",dict:=none,data:=.set #[] 0 (.fresh 0 0 led) }:=by exact zU _ hS
     exact SetOf_congr ((setObjOf_fresh (knd:=intKind prog w) led).setOf hget (by unfold scanBound;lia)) (λ_=>rfl) rfl
    case hR =>
     intro s' hm hS';let⟨h',g',d',tk',os'⟩:=s';have eg:g'=s.gens:=hm.gens;have ed:d'=s.drawn:=hm.drawn;have eo:os'=s.os:=hm.os;subst eg ed eo;show wpAny _ _ _ _ _ _;refine zW ?_;show wpAny _ _ (ret Value.none) _ _ _;refine zW ⟨rfl,h',tk',rfl,hS',λb o hb' e=>?_⟩;refine hm.heap b o ?_ (zU _ (zU _ e));simp?[zQ,yF,xU,not_or];exact⟨yR hb',by rw[xJ];exact yR (jN hb')⟩
   ·cases r2 with
    | error e=>exact hr2
    | ok fl2 =>
     cases fl2 with
     | ret r =>
      let⟨rfl,h',tk,rfl,hS',hk'⟩:=hr2
      repeat (any_goals (first|assumption|wp_step))
      exact h _ _ hS' hk'
     | _=>exact hr2.elim
  | _=>exact hr.elim
end En
namespace Dl
open PySem L2 PySem.Spec PyProof.Rows
variable {env:PySem.Env}
def many(ns:List Int):Nat:=(firstMet (λi=>ns.getD i 0) ns.length).length
def C2(hc:X.calm=true):dh X (.type "set") (λxs H Q=>∃ (a:Addr) (ns:List Int),xs=[.ref a]/\iL X.K H a (ns.map V.int)/\ns.length+1 < scanBound/\∀q S,H q=none->Q (.ref q) (upd H q (.set S (many ns)))):=by
 intro pins s σ H xs us Q I r h;let⟨a,ns,rfl,hq,hb,q⟩:=h;let⟨u,rfl,rx⟩:=vals1 r;cases rx;let⟨its,rv,pl,hz⟩:=I.tuple hq;have hi:IntsAre its.toArray.toList ns:=intsAre_of rv;have hlen:its.toArray.size=ns.length:=by have:=rv.length;simpa using this.symm
 refine En.call_setT (I.ok.hd hc) (show s.heap.IsTuple a its.toArray from pl) hi (by rw[hlen];exact hb) λh' tk hS hk=>?_;rw[hlen] at hS;exact⟨.ref s.heap.objs.size,_,I.laid (t':=tk) (λb o e=>hk b o (zY e) e) (yM _) (show di X.prog X.w _ h' _ (.set _ (many ns)) from hS),rfl,q _ _ I.fresh⟩
def CZ:dh X (.builtin "len") (λxs H Q=>∃ (a:Addr) (S:Int->Bool) (n:Nat),xs=[.ref a]/\H a=some (.set S n)/\Q (.int n) H):=by
 intro pins s σ H xs us Q I r h;let⟨a,S,n,rfl,hq,q⟩:=h;let⟨u,rfl,rx⟩:=vals1 r;cases rx;let⟨o,es,ep,t,ho,hex,hd,hel,hmem,hlt,hf,hn⟩:=(show s.heap.SetOf (intKind X.prog X.w) a S n from I.hok a _ hq)
 have hfit:((es.size:Nat):Int) < 2 ^ 63:=by unfold scanBound at hlt;lia
 refine call_len_set ho hex hd hf hfit ⟨.int n,H,I.tok _,⟨s.toks+1,by rw[hn]⟩,q⟩
def ke:D->Option D:=λd=>(kg d).bind λns=>if ns.length+1 < scanBound then some (.int (many ns)) else none
def C3(hc:X.calm=true)(B:mY X "len" (.builtin "len"))(C:mY X "set" (.type "set"))(h:DE X e f)(he:starEach [e] X.env=(false,eval e X.env)::starEach [] X.env:=by rfl) :
  DE X (.Call (.Name "len" p) [.Call (.Name "set" p') [e] [] pos'] [] pos) (f1 ke f) :=
 bc (hU CZ B.gl B.mg B.bt (cm (kf (C2 hc) C.gl C.mg C.bt (cm h dQ he) (by decide) (by decide) he rfl) dQ) (by decide) (by decide) rfl rfl) λσ H Q ⟨HF,ρ,d,sm,eo,hf,q⟩=>by
  let⟨x,hx,hf⟩:=bs hf;let⟨ns,h1,hf⟩:=bs hf;split at hf
  ·rename_i hb;cases hf;refine⟨HF,ρ,x,sm,eo,hx,λv1 H1 HF1 g1 r1=>?_⟩;rw[iu h1] at r1;simp?[Rep] at r1;let⟨a,vs,rfl,hs,rr⟩:=r1;have key:∀ {ns:List Int}{ws:List V},ak X.K HF1 (ns.map PyData.int) ws->ws=ns.map V.int:=λ{ns}=>by
    induction ns with
    | nil=>exactλh=>h.nil_inv
    | cons n ns ih =>
     intro ws h;let⟨v,r,rfl,a,b⟩:=h.cons_inv;simp?[Rep] at a;rw[a,ih b];rfl
   have:=key rr;subst this;refine⟨a,ns,rfl,aE g1.fh hs,hb,λb S hb'=>⟨b,S,_,rfl,aI,q _ _ HF1 (g1.trans (.own g1.fh hb')) (by simp[Rep])⟩⟩
  ·cases hf
def jz(val:Nat->Int):∀i,(firstMet val i).length=i↔((List.range i).map val).Nodup
 | 0=>by simp[firstMet]
 | i+1=>by
  have hle:=firstMet_length_le val i;rw[firstMet_succ,step_length,vQ,jA,wU];have ha:=firstMet_any val i (val i);have ih:=jz val i;constructor
  ·intro h;by_cases hin:(firstMet val i).any (· == val i)=true
   ·rw[yL hin] at h;lia
   ·rw[yN hin] at h;refine⟨ih.mp (by lia),by simp,λa hm b hb z=>?_⟩;have hb':b=val i:=by simpa using hb
    subst z hb';rw[ha] at hin;exact hin (List.any_eq_true.mpr ⟨_,hm,by simp⟩)
  ·rintro⟨h1,_,h3⟩;rw[yN ?_]
   ·rw[ih.mpr h1]
   ·rw[ha];intro hin;let⟨x,hx,he⟩:=List.any_eq_true.mp hin;have he':x=val i:=by simpa using he
    exact h3 x hx (val i) (by simp) he'
def AF(ns:List Int):many ns=ns.length↔ns.Nodup:=by
 unfold many;rw[jz];have:(List.range ns.length).map (λi=>ns.getD i 0)=ns:=fW ns 0;rw[this]
def m6{K:W.Frag}(h:ft K r g)(h':ft K r' g'):ft K (λx y H Q=>r x y H Q\/r' x y H Q) (λx y=>(g x y).or (g' x y)):=by
 intro HF H x y v1 v2 d Q sm r1 r2 hg q;cases e:g x y with
 | some d' =>
  have hg:(g x y).or (g' x y)=some d:=hg;rw[e] at hg;cases hg;exact .inl (h HF H x y v1 v2 d Q sm r1 r2 e q)
 | none =>
  have hg:(g x y).or (g' x y)=some d:=hg;rw[e] at hg;exact .inr (h' HF H x y v1 v2 d Q sm r1 r2 hg q)
def Cy{K:W.Frag}:ft K (Eo K) (λx y=>(j5 x y).map PyData.list):=by
 intro HF H x y v1 v2 d Q sm r1 r2 hg q;let⟨zs,hg',rfl⟩:=ag hg;clear hg;cases x<;>cases y<;>simp?[j5] at hg'<;>try cases hg'
 let⟨rfl,hz⟩:=dW hg';simp?[Rep] at r1 r2;let⟨a,vs,rfl,ha,ra⟩:=r1;let⟨b,us,rfl,hb,rb⟩:=r2;refine⟨a,b,vs,us,rfl,rfl,sm.seq ha,sm.seq hb,by rw[ra.length,rb.length,<- zN];exact hz,λp hp=>q _ _ _ (.new sm hp) ?_⟩;simp?[Rep];exact⟨p,_,rfl,.inl (.inl aI),(ra.append rb).mono (cU (sm.free hp))⟩
def aK:D->D->Option D:=λx y=>((uR (λ_ _=>True) λi j=>.int (i+j)) x y).or ((IC x y).or ((j5 x y).map PyData.list))
def Bk.add(C:Bk X N sc k)(ha:DE X a fa)(hb:DE X b fb):DE X (.BinOp a .Add b pos) (f2 aK fa fb):=wt (KO.or (CG.or yi)) (m6 DD (m6 Iz Cy)) ha hb
def g9:D->D->Option D:=uR (λ_ _=>True) λi j=>.int (i - j)
def Bk.sub(C:Bk X N sc k)(ha:DE X a fa)(hb:DE X b fb):DE X (.BinOp a .Sub b pos) (f2 g9 fa fb):=wt JS DD ha hb
def e8:D->D->Option D:=λx y=>((uR um λi j=>.int (i * j)) x y).or (Fo x y)
def Bk.mul(C:Bk X N sc k)(ha:DE X a fa)(hb:DE X b fb):DE X (.BinOp a .Mult b pos) (f2 e8 fa fb):=wt (JL.or IQ) (m6 EU Et) ha hb
def l4:D->D->Option D:=uR GW λi j=>.int (i / j)
def Bk.div(C:Bk X N sc k)(ha:DE X a fa)(hb:DE X b fb):DE X (.BinOp a .FloorDiv b pos) (f2 l4 fa fb):=wt IG EU ha hb
def ku:D->D->Option D:=uR (λ_ j=>0 < j) λi j=>.int (i % j)
def Bk.mod(C:Bk X N sc k)(ha:DE X a fa)(hb:DE X b fb):DE X (.BinOp a .Mod b pos) (f2 ku fa fb):=wt J1 EU ha hb
def Di:D->D->Option D:=λx y=>((uR (λ_ _=>True) λi j=>.bool (decide (i < j))) x y).or ((L4 x y).map PyData.bool)
def B3:D->D->Option D:=uR (λ_ _=>True) λi j=>.bool (decide (i<=j))
def Dk:D->D->Option D:=uR (λ_ _=>True) λi j=>.bool (decide (j < i))
def bT:D->D->Option D:=λx y=>(KY x y).map PyData.bool
def dv:D->D->Option D:=λx y=>(LV x y).map PyData.bool
def Bk.u64(C:Bk X N sc k):X.A.units+64 < cLine:=C.room.units
def Bk.u66(C:Bk X N sc k):X.A.units+66 < cLine:=by have:=C.room.un;lia
def Bk.lt(C:Bk X N sc k)(ha:DE X a fa)(hb:DE X b fb):DE X (.Compare a [.Lt] [b] pos) (f2 Di fa fb):=js (FL.or (AB C.room.units0)) (m6 ju iM) ha hb (dE _)
def Bk.le(C:Bk X N sc k)(ha:DE X a fa)(hb:DE X b fb):DE X (.Compare a [.LtE] [b] pos) (f2 B3 fa fb):=js Dr ju ha hb (dE _)
def Bk.gt(C:Bk X N sc k)(ha:DE X a fa)(hb:DE X b fb):DE X (.Compare a [.Gt] [b] pos) (f2 Dk fa fb):=js Ji ju ha hb (dE _)
def Bk.eq(C:Bk X N sc k)(ha:DE X a fa)(hb:DE X b fb):DE X (.Compare a [.Eq] [b] pos) (f2 bT fa fb):=js (Fy C.u64) iM ha hb (dE _)
def Bk.ne(C:Bk X N sc k)(ha:DE X a fa)(hb:DE X b fb):DE X (.Compare a [.NotEq] [b] pos) (f2 dv fa fb):=js (Ga C.u64) iM ha hb (dE _)
def Bk.tlt(C:Bk X N sc k)(ha:DE X a fa)(hb:DE X b fb):DT X (.Compare a [.Lt] [b] pos) (fB (f2 Di fa fb)):=i6 (FL.or (AB C.room.units0)) (m6 ju iM) ha hb (dE _)
def Bk.tle(C:Bk X N sc k)(ha:DE X a fa)(hb:DE X b fb):DT X (.Compare a [.LtE] [b] pos) (fB (f2 B3 fa fb)):=i6 Dr ju ha hb (dE _)
def Bk.tgt(C:Bk X N sc k)(ha:DE X a fa)(hb:DE X b fb):DT X (.Compare a [.Gt] [b] pos) (fB (f2 Dk fa fb)):=i6 Ji ju ha hb (dE _)
def Bk.teq(C:Bk X N sc k)(ha:DE X a fa)(hb:DE X b fb):DT X (.Compare a [.Eq] [b] pos) (fB (f2 bT fa fb)):=i6 (Fy C.u64) iM ha hb (dE _)
def Bk.tne(C:Bk X N sc k)(ha:DE X a fa)(hb:DE X b fb):DT X (.Compare a [.NotEq] [b] pos) (fB (f2 dv fa fb)):=i6 (Ga C.u64) iM ha hb (dE _)
def fO:D->Option Int->Option Int->Option D|.tuple ds,lo,hi=>some (.tuple (cut ds lo hi))|.list ds,lo,hi=>some (.list (cut ds lo hi))|_,_,_=>none
def Bk.cut(C:Bk X N sc k){lo:Option Expr}{fl:Env->Option (Option Int)}(ha:DE X a fa)(hl:DO X lo fl)(hh:DO X hi fh):DE X (.Subscript a (.Slice lo hi none p2) pos) (lH fO fa fl fh):=bc (EY (LG.or GJ) ha hl hh) λσ H Q ⟨HF,ρ,d,sm,eo,hf,q⟩=>by
 let⟨x,hx,hf⟩:=bs hf;let⟨l,hl,hf⟩:=bs hf;let⟨u,hu,hf⟩:=bs hf;refine⟨HF,ρ,x,sm,eo,hx,λv1 H1 HF1 g1 r1=>⟨HF1,ρ,l,g1.fh,eo.mono g1.ff,hl,λH2 HF2 g2=>⟨HF2,ρ,u,g2.fh,eo.mono (g1.ff.trans g2.ff),hu,λH3 HF3 g3=>?_⟩⟩⟩;have G:=(g1.trans g2).trans g3;have r3:=r1.mono (g2.ff.trans g3.ff);cases x<;>try cases hf
 ·simp?[Rep] at r3;let⟨b,vs,rfl,hs,rr⟩:=r3;refine .inr ⟨b,vs,rfl,G.fh.seq hs,λp hp=>q _ _ _ (G.trans (.new G.fh hp)) ?_⟩;simp?[Rep];exact⟨p,_,rfl,.inl (.inl aI),(pA rr l u).mono (cU (G.fh.free hp))⟩
 ·simp?[Rep] at r3;let⟨b,vs,rfl,hs,rr⟩:=r3;refine .inl ⟨b,vs,rfl,aE G.fh hs,λe=>q _ H3 HF3 G ?_,λp hp=>q _ _ _ (G.trans (.new G.fh hp)) (dS (G.fh.free hp) (pA rr l u))⟩;simp?[Rep];refine⟨b,vs,rfl,hs,?_⟩;have:=pA rr l u;rw[e] at this;exact this
def L7:D->Option D|.int i=>some (.int (-i))|_=>none
def Bk.neg(C:Bk X N sc k)(ha:DE X a fa):DE X (.UnaryOp .USub a pos) (f1 L7 fa):=bc (M6 Ks ha) λσ H Q ⟨HF,ρ,d,sm,eo,hf,q⟩=>by
 let⟨x,hx,hf⟩:=bs hf;refine⟨HF,ρ,x,sm,eo,hx,λv1 H1 HF1 g1 r1=>?_⟩;cases x<;>try cases hf
 exact⟨_,by simpa only[Rep] using r1,q _ H1 HF1 g1 (by simp[Rep])⟩
def FY:bootBuiltins "len"=some (.builtin "len"):=by decide +kernel
def rg:bootBuiltins "isinstance"=some (.builtin "isinstance"):=by decide +kernel
def Gf:bootBuiltins "tuple"=some (.type "tuple"):=by decide +kernel
def xt:bootBuiltins "range"=some (.type "range"):=by decide +kernel
def Lb:bootBuiltins "all"=some (.builtin "all"):=by decide +kernel
def zf:bootBuiltins "set"=some (.type "set"):=by decide +kernel
def gX:bootBuiltins "sorted"=some (.builtin "sorted"):=by decide +kernel
def uM:bootBuiltins "enumerate"=some (.type "enumerate"):=by decide +kernel
def Kb:bootBuiltins "zip"=some (.type "zip"):=by decide +kernel
abbrev bH(f:Env->Option (List D)):Env->Option D:=λρ=>(f ρ).map PyData.list
abbrev br:List D->Option D:=λds=>(eJ ds).map PyData.tuple
def Bk.locl(C:Bk X N sc k)(h:decide (sc.names.lookup x=some .local)=true):X.env.scope.names.lookup x=some .local:=by
 rcases C.tb x _ (yQ h) with q|⟨q,_⟩
 ·exact q
 ·cases q
def isStar:Expr->Bool|.Starred ..=>true|_=>false
def bp(h:isStar e=false):starEach (e::es) env=(false,eval e env)::starEach es env:=by
 cases e<;>first|rfl|cases h
def KM(he:DE X e f)(hs:DA X es g)(h:isStar e=false:=by rfl):DA X (e::es) (aa f g):=Bt he hs (bp h)
def qp:swapsWith (.ListComp elt gens scope pos) (some (.Name x py)) line env=pure (env.blockKind == .function&&env.kindOf x == some .local && py.line == pos.line
     &&!(scope.names.any λ(n,k)=>n == x&&(k == .local || k == .cell))):=rfl
def I0(h:env.scope.kind=.function):env.blockKind=.function:=by unfold PySem.Env.blockKind;rw[h];rfl
def Bk.swap(C:Bk X N sc k)(h:decide (sc.names.lookup x=some .local)=true)(h2:(py.line == pos.line&&!(scope.names.any λ(n,k)=>n == x&&(k == .local || k == .cell)))=true) :
  swapsWith (.ListComp elt gens scope pos) (some (.Name x py)) line X.env=pure true:=by
 rw[qp,I0 C.kd,show X.env.kindOf x=some .local from C.locl h];rw[Bool.and_assoc,h2];rfl
def Bk.noswap(C:Bk X N sc k)(h:decide (sc.names.lookup x=some .cell)=true) :
  swapsWith (.ListComp elt gens scope pos) (some (.Name x py)) line X.env=pure false:=by
 have q:X.env.kindOf x=some .cell:=by
  rcases C.tb x _ (yQ h) with q|⟨q,_⟩
  ·exact q
  ·cases q
 rw[qp,q,I0 C.kd];rfl
section
variable {K:W.Frag}
structure iQ(K:W.Frag)(x:Str)(st:Stmt)(ps:List Str):Prop where
 ex:∃ (f:Addr) (fd:FuncData),W.nsIn K mainGlobals x=some (some (.ref f))/\Hb K x x st f fd/\Binds K fd ps []
structure GP(K:W.Frag)(mg:Str->Option Value)(x:Str)(st:Stmt)(ps:List Str):Prop where
 ex:∃ (f:Addr) (fd:FuncData),mg x=some (.ref f)/\Hb K x x st f fd/\Binds K fd ps []
def iQ.mg{h:Heap}{mg:Str->Option Value}{st:Stmt}(D:iQ K x st ps)(X:K.In h)(G:h.Ns mainGlobals mg):GP K mg x st ps:=by
 let⟨f,fd,a,b,c⟩:=D.ex;exact⟨f,fd,W.mg_of X G a,b,c⟩
def fT(st:Stmt)(ps:List Str):Prop:=∀ (x qual:Str) (kV doc pm:Value) (an:Option Addr) (cdv ct:Value) (us:List Value),us.length=ps.length->bindArgs (W.fnOf x qual (fg st) (bV st) (aG st) .none kV doc pm an cdv ct) ⟨us,[]⟩=pure (ps.zip us)
def MW{st:Stmt}{kV:Value}(hb:fT st ps)(a:W.nsIn K mainGlobals x=some (some (.ref f)))(l:K.lookup f=some ⟨oc,od,.func (W.fnOf x x (fg st) (bV st) (aG st) .none kV doc pm an cdv ct),osl⟩)
  (c:W.codeIn K cdv x=true) (k:W.keepIn K (.ref f)=true):iQ K x st ps:=⟨f,_,a,uB (st:=st) l c k,(uB (st:=st) l c k).binds λkV doc pm an cdv ct us h=>hb _ _ kV doc pm an cdv ct us h⟩
structure oe(K:W.Frag)(x:Str)(st:Stmt)(ps:List Str):Prop where
 ex:∃ (f:Addr) (fd:FuncData) (c P:Addr),W.nsIn K mainGlobals x=some (some (.ref f))/\Hb K x x st f fd/\Binds K fd ps []/\fd.code=.ref c/\W.codeHdIn K c P=true
structure Lg(K:W.Frag)(mg:Str->Option Value)(x:Str)(st:Stmt)(ps:List Str):Prop where
 ex:∃ (f:Addr) (fd:FuncData) (c P:Addr),mg x=some (.ref f)/\Hb K x x st f fd/\Binds K fd ps []/\fd.code=.ref c/\W.codeHdIn K c P=true
def oe.mg{h:Heap}{mg:Str->Option Value}{st:Stmt}(D:oe K x st ps)(X:K.In h)(G:h.Ns mainGlobals mg):Lg K mg x st ps:=by
 let⟨f,fd,c,P,a,b⟩:=D.ex;exact⟨f,fd,c,P,W.mg_of X G a,b⟩
def Ez(K:W.Frag)(c:Addr):Addr:=match K.lookup c with
 | some ⟨_,_,.fields vs,_⟩=>(match (vs[11]?:Option Value) with|some (.ref P)=>P|_=>0)
 | _=>0
def Mv{st:Stmt}{kV:Value}(hb:fT st ps)(a:W.nsIn K mainGlobals x=some (some (.ref f)))(l:K.lookup f=some ⟨oc,od,.func (W.fnOf x x (fg st) (bV st) (aG st) .none kV doc pm an (.ref c) ct),osl⟩)
  (cd:W.codeIn K (.ref c) x=true) (k:W.keepIn K (.ref f)=true) (hh:W.codeHdIn K c (Ez K c)=true):oe K x st ps:=⟨f,_,c,Ez K c,a,uB (st:=st) l cd k,(uB (st:=st) l cd k).binds λkV doc pm an cdv ct us h=>hb _ _ kV doc pm an cdv ct us h,rfl,hh⟩
def Kn{K:W.Frag}(h:(dB.all λx=>match W.nsIn K mainGlobals x with|some none=>true|_=>false)=true):∀x∈dB,W.nsIn K mainGlobals x=some none:=by
 intro x hx;have:=List.all_eq_true.mp h x hx;split at this
 ·assumption
 ·cases this
def zm{K:W.Frag}{H:Hp}{a:Addr}{ns:List Int}{m:List D->Option D}(hS:gw K H a (ns.map V.int))(hT:fQ K H)(h:m [.list (ns.map PyData.int)]=some (.bool true)){X:_}:Nj K 1 m [.ref a] H (λv _=>v=.bl true) X:=by
 refine⟨H,[.list (ns.map PyData.int)],.bool true,.refl _,hT,ak.cons ?_ ak.nil,rfl,h,λv H' HF' G r=>by simpa only[Rep] using r⟩;simp?[Rep];refine⟨a,_,rfl,hS,?_⟩;clear h hS hT
 induction ns with
 | nil=>exact ak.nil
 | cons n ns ih=>exact ak.cons (by simp[Rep]) ih
end
def NG(h:isStar e=false)(he:DE X e f)(hs:DA X es g):DA X (e::es) (aa f g):=KM he hs h
def LU:ar->Option Out:=λ_=>none
def Mi{st:Stmt}:DS X HF₀ H₀ st LU:=λpins s σ H E I ⟨HF,ρ,o,S,hg,q⟩=>by cases hg
def iW(f:Env->Option D):ar->Option Out:=λρ=>(f (bw ρ)).map λ_=>.nx ρ
def GC(hs:swapsWith e none pos.line X.env=pure false)(h:DE X e f):DS X HF₀ H₀ (.Expr e pos) (iW f):=c7 (oN h hs) λE σ H ⟨HF,ρ,o,S,hg,q⟩=>by
 let⟨d,h,rfl⟩:=ag hg;exact⟨H,bw ρ,d,.refl _,S.all,h,λv H' HF' G r=>q σ H' HF (S.step G.hh) (.refl _)⟩
def HE(t:Env->Option Bool)(gb:ar->Option Out):Nat->ar->Option Out
 | 0,_=>none
 | n+1,ρ=>(t (bw ρ)).bind λb=>if b=true then (gb ρ).bind fun|.nx ρ'=>HE t gb n ρ'|.rt d=>some (.rt d) else some (.nx ρ)
def EV(n:Nat)(hp:PassesOwn (model X.prog X.w) X.A X.env X.xe)(hc:DT X c t)(hb:Dg X HF₀ H₀ body gb):DS X HF₀ H₀ (.While c body [] pos) (HE t gb n) :=
 c7 (FP hp hc hb) λE σ H ⟨HF,ρ,o,S,hg,q⟩=>by
  refine⟨λm σ' H'=>∃HF' ρ',iY X.K HF₀ H₀ HF' H' ρ' σ'/\aU HF HF'/\HE t gb m ρ'=some o,⟨n,HF,ρ,S,.refl _,hg⟩,?_⟩;rintro m σ' H' ⟨HF',ρ',S',s',hf⟩;cases m with
  | zero=>cases hf
  | succ m =>
   unfold HE at hf;let⟨b,hb,hf⟩:=bs hf;refine⟨H',bw ρ',b,.refl _,S'.all,hb,λH1 HF1 G=>?_⟩;cases b with
   | false =>
    rw[yN yZ] at hf ⊢;cases hf;exact q σ' H1 HF' (S'.step G.hh) s'
   | true =>
    rw[yL rfl] at hf ⊢;let⟨o1,h2,hf⟩:=bs hf;refine⟨λσ2 H3=>∃HF3 ρ3,iY X.K HF₀ H₀ HF3 H3 ρ3 σ2/\aU HF HF3/\HE t gb m ρ3=some o,λσ2 H3 ⟨HF3,ρ3,a1,a2,a3⟩=>⟨m,kM _,HF3,ρ3,a1,a2,a3⟩,HF',ρ',o1,S'.step G.hh,h2,?_⟩;cases o1 with
    | nx ρ2=>exactλσ4 H4 HF4 S4 s4=>⟨HF4,ρ2,S4,s'.trans s4,hf⟩
    | rt d=>cases hf;exact q
def xf:List D->Option D
 | [.int a,.int b]=>some (.int (min a b))
 | [.int a,.int b,.int c]=>some (.int (min (min a b) c))
 | _=>none
def DZ(hc:X.calm=true):dh X (.builtin "min") (λxs H Q=>(∃a b:Int,xs=[.int a,.int b]/\Q (.int (min a b)) H)\/(∃a b c:Int,xs=[.int a,.int b,.int c]/\Q (.int (min (min a b) c)) H)):=by
 intro pins s σ H xs us Q I r h;have hh:X.A.handled=none:=I.ok.hd hc;rcases h with ⟨a,b,rfl,q⟩|⟨a,b,c,rfl,q⟩
 ·cases r with
  | cons r1 r =>
   cases r with
   | cons r2 r =>
    cases r;let⟨t,rfl⟩:=r1;let⟨u,rfl⟩:=r2;refine min_two_ints hh λh' tk kp=>⟨.int (min a b),H,I.kept (t':=tk) kp,?_,q⟩
    by_cases h:b < a
    ·rw[yL h,show min a b=b by lia];exact⟨_,rfl⟩
    ·rw[yN h,show min a b=a by lia];exact⟨_,rfl⟩
 ·cases r with
  | cons r1 r =>
   cases r with
   | cons r2 r =>
    cases r with
    | cons r3 r =>
     cases r;let⟨t,rfl⟩:=r1;let⟨u,rfl⟩:=r2;let⟨x,rfl⟩:=r3;refine min_three_ints hh λh' tk kp=>⟨.int (min (min a b) c),H,I.kept (t':=tk) kp,?_,q⟩
     by_cases h:b < a
     ·rw[yL h];by_cases h2:c < b
      ·rw[yL h2,show min (min a b) c=c by lia];exact⟨_,rfl⟩
      ·rw[yN h2,show min (min a b) c=b by lia];exact⟨_,rfl⟩
     ·rw[yN h];by_cases h2:c < a
      ·rw[yL h2,show min (min a b) c=c by lia];exact⟨_,rfl⟩
      ·rw[yN h2,show min (min a b) c=a by lia];exact⟨_,rfl⟩
def vh{K:W.Frag}(r:Rep K H d v):∀ {ds:List D}{vs:List V}(j:Nat),ak K H ds vs->ak K H (ds.set j d) (vs.set j v)
 | [],vs,j,h=>by rw[h.nil_inv];exact ak.nil
 | x::ds,vs,j,h=>by
  let⟨u,us,rfl,a,b⟩:=h.cons_inv;cases j with
  | zero=>exact ak.cons r b
  | succ j=>exact ak.cons a (vh r j b)
def An(i:Nat)(fz:List Nat)(fk f:Env->Option D):ar->Option Out:=λρ=>(k5 fz f ρ).bind λp=>(fk (bw p.2)).bind λkd=>match kd with
 | .int k=>nR i (λds=>(Gm ds.length k).map λj=>ds.set j p.1) p.2
 | _=>none
def Ge(i:Nat)(fz:List Nat)(hN:X.N[i]?=some x)(hv:Jb X.env.scope x)(hk:DE X e fk)(h:DE X e2 f)(hd:(x == ("__debug__":Str))=false:=by decide)(hcd:(x == ("__classdict__":Str))=false:=by decide)
  (ha:∀v,assign (.Subscript (.Name x px) e spos) X.env v=(do
   let ov <- holding [v] (eval (.Name x px) X.env)
   let iv <- holding [v,ov] (eval e X.env)
   standAt spos
   holding [v,ov,iv] (setItem ov iv v)
   release [v,ov,iv] []):=by intro _;rfl)
  (hs:swapsWithSole [.Subscript (.Name x px) e spos] e2 pos.line X.env=pure false:=by rfl) (hw:swappedStores [.Subscript (.Name x px) e spos] e2 X.env=pure none:=by rfl)
  (h1:(assignEach [.Subscript (.Name x px) e spos] X.env).map (·.2)=[assign (.Subscript (.Name x px) e spos) X.env]:=by rfl):DS X HF₀ H₀ (.Assign [.Subscript (.Name x px) e spos] e2 pos) (An i fz fk f) :=
 c7 (EI h (JE (pH hN hv hd hcd) hk set_list ha) hs hw h1) λE σ H ⟨HF,ρ,o,S,hg,q⟩=>by
  let⟨⟨d,ρ'⟩,h1,hg⟩:=bs hg;let⟨kd,h2,hg⟩:=bs hg;cases kd<;>try cases hg
  rename_i k;let⟨ds,es,h3,h4,rfl⟩:=kc hg;let⟨j,hj,rfl⟩:=ag h4;refine nJ S h1 λv H1 HF1 s1 S1 s2 r=>?_;let⟨a,vs,e1,e2,e3,e5,e4⟩:=S1.own i ds h3;refine⟨.ref a,e1,H1,bw ρ',.int k,.refl _,S1.all,h2,λkv H2 HF2 G rk=>?_⟩;simp?[Rep] at rk;have S2:=S1.step G.hh;let⟨a',vs',f1,f2,f3,f5,f4⟩:=S2.own i ds h3;rw[e1] at f1;cases f1;exact⟨a,vs',k,j,rfl,rk,f2,by rw[f4.length];exact hj,q σ _ HF1 (S2.mut h3 e1 f2 (vh r j f4)) s1⟩
def Nh:D->Bool|.none=>true|_=>false
def oJ{K:W.Frag}(r:Rep K HF d v):decide (v=.non)=Nh d:=by
 cases d<;>simp?[Rep] at r<;>first
  | (subst r;rfl)
  | (let⟨a,vs,rfl,_⟩:=r;rfl)
  | exact r.elim
def rz:D->D->Option D:=λx y=>if Nh y=true then some (.bool (Nh x)) else none
def nX:D->D->Option D:=λx y=>if Nh y=true then some (.bool (!Nh x)) else none
def Bq{K:W.Frag}:ft K (λx y H Q=>y=.non/\Q (.bl (decide (x=.non))) H) rz:=by
 intro HF H x y v1 v2 d Q sm r1 r2 hg q;unfold rz at hg;split at hg
 ·rename_i h;cases hg;have h2:=oJ r2;rw[h,zJ] at h2;refine⟨h2,?_⟩;rw[oJ r1];exact q _ H HF (.refl sm) (by simp[Rep])
 ·cases hg
def yh{K:W.Frag}:ft K (λx y H Q=>y=.non/\Q (.bl (!decide (x=.non))) H) nX:=by
 intro HF H x y v1 v2 d Q sm r1 r2 hg q;unfold nX at hg;split at hg
 ·rename_i h;cases hg;have h2:=oJ r2;rw[h,zJ] at h2;refine⟨h2,?_⟩;rw[oJ r1];exact q _ H HF (.refl sm) (by simp[Rep])
 ·cases hg
def Bk.is0(C:Bk X N sc k)(ha:DE X a fa)(hb:DE X b fb):DE X (.Compare a [.Is] [b] pos) (f2 rz fa fb):=js Dp Bq ha hb (dE _)
def Bk.not0(C:Bk X N sc k)(ha:DE X a fa)(hb:DE X b fb):DE X (.Compare a [.IsNot] [b] pos) (f2 nX fa fb):=js Bb yh ha hb (dE _)
def Bk.tis0(C:Bk X N sc k)(ha:DE X a fa)(hb:DE X b fb):DT X (.Compare a [.Is] [b] pos) (fB (f2 rz fa fb)):=i6 Dp Bq ha hb (dE _)
def Bk.tnot0(C:Bk X N sc k)(ha:DE X a fa)(hb:DE X b fb):DT X (.Compare a [.IsNot] [b] pos) (fB (f2 nX fa fb)):=i6 Bb yh ha hb (dE _)
def K0(hc:X.calm=true)(B:mY X "min" (.builtin "min"))(he:starEach (e::es) X.env=(false,eval e X.env)::starEach es X.env)(hpl:(backTo pos (starEach es X.env)).any (·.1)=false)(ha:DA X (e::es) fs):DE X (.Call (.Name "min" p) (e::es) [] pos) (bu xf fs) :=
 gZ (DZ hc) (by
  intro HF H ds vs d Q sm r hg q;unfold xf at hg;split at hg
  ·cases hg;let⟨v1,r1,rfl,a1,b1⟩:=r.cons_inv;let⟨v2,r2,rfl,a2,b2⟩:=b1.cons_inv;rw[b2.nil_inv];simp?[Rep] at a1 a2;exact .inl ⟨_,_,by rw[a1,a2],q _ H HF (.refl sm) (by simp[Rep])⟩
  ·cases hg;let⟨v1,r1,rfl,a1,b1⟩:=r.cons_inv;let⟨v2,r2,rfl,a2,b2⟩:=b1.cons_inv;let⟨v3,r3,rfl,a3,b3⟩:=b2.cons_inv;rw[b3.nil_inv];simp?[Rep] at a1 a2 a3;exact .inr ⟨_,_,_,by rw[a1,a2,a3],q _ H HF (.refl sm) (by simp[Rep])⟩
  ·cases hg) B ha (by decide) (by decide) he hpl
section
variable {fl fs:Env->Option (List D)}
def Ai(hc:X.calm=true):dh X (.builtin "any") (λxs H Q=>∃ (a:Addr) (bs:List Bool),xs=[.ref a]/\gw X.K H a (bs.map V.bl)/\Q (.bl (bs.any id)) H):=by
 intro pins s σ H xs us Q I r h;let⟨a,bs,rfl,hq,q⟩:=h;let⟨u,rfl,rx⟩:=vals1 r;cases rx;let⟨its,rv,pl,hz⟩:=I.list hq;have hv:=lh rv;subst hv;have hh:X.A.in1.handled=none:=I.ok.hd hc;refine call_any_walk (qK pl.isList ?_);let⟨o,ho,hcl,n,hd⟩:=pl.isList;have hne:a≠s.heap.objs.size:=yR (zY ho);refine⟨_,_,_,_,_,_,λi=>bs.getD i false,rfl,Walks.list hh s.heap.objs.size a hne (bs.map Value.bool).toArray,⟨⟨_,zX _ rfl,rfl,rfl⟩,pl.isList.push _⟩,λi v s' Q' E' hP hQ=>?_,λh' tk kp=>?_⟩
 ·have e:v=Value.bool (bs.getD i false):=by
   have hP:(bs.map Value.bool).toArray[i]?=some v:=hP;rw[vV,zO] at hP;let⟨b,hb,rfl⟩:=ag hP;rw[zG,hb];rfl
  subst e;exact xW hQ
 ·refine⟨.bl (bs.any id),H,?_,?_,q⟩
  ·exact I.kept (t':=tk) λb o' e=>kp b o' (by simp;exact yR (zY e)) (zU _ e)
  ·show Value.bool _=Value.bool _;have:=range_any bs;simp?[zH,zD];rw[this]
end
def LC(hc:X.calm=true)(B:mY X "any" (.builtin "any"))(he:starEach [e] X.env=(false,eval e X.env)::starEach [] X.env)(ha:DA X [e] fs):DE X (.Call (.Name "any" p) [e] [] pos) (bu (λds=>(oneOf ds).bind λd=>match d with
 | .list es=>(boolsOf es).map λbs=>.bool (bs.any id)
 | _=>none) fs) :=
 gZ (Ai hc) (by
  intro HF H ds vs d Q sm r hg q;let⟨x,hx,hg⟩:=bs hg;rw[fZ hx] at r;cases x<;>try cases hg
  let⟨bs,hb,rfl⟩:=ag hg;let⟨v,r',rfl,a,b⟩:=r.cons_inv;rw[b.nil_inv];simp?[Rep] at a;let⟨p,us,rfl,h,rr⟩:=a;rw[iw hb] at rr;have:=lL rr;subst this;exact⟨p,bs,rfl,sm.seq h,q _ H HF (.refl sm) (by simp[Rep])⟩) B ha (by decide) (by decide) he rfl
def oa(ns:List Int):∀j:Nat,preSum (λi=>ns.getD i 0) j=(ns.take j).sum
 | 0=>by simp[preSum]
 | j+1=>by
  rw[preSum,oa ns j,wR,List.sum_append]
  congr 1
  rw[zG];cases ns[j]?<;>simp
def rW(val:Nat->Int)(B:Int)(h:∀i,-B<=val i/\val i<=B):∀j:Nat,-(B * j)<=preSum val j/\preSum val j<=B * j
 | 0=>by simp[preSum]
 | j+1=>by
  have ih:=rW val B h j;have:=h j;rw[preSum];have e:B * ((j+1:Nat):Int)=B * (j:Int)+B:=by rw[Int.natCast_add,Int.mul_add];simp
  rw[e];lia
def KR(ns:List Int):Bool:=decide (ns.length<=1000)&&ns.all λn=>decide (-1000000<=n)&&decide (n<=1000000)
def JJ(h:KR ns=true):ns.length<=1000/\∀i,-1000000<=ns.getD i 0/\ns.getD i 0<=1000000:=by
 unfold KR at h;rw[zF,zJ,xG] at h;refine⟨h.1,λi=>?_⟩;rw[zG];cases e:ns[i]? with
 | none=>simp
 | some n =>
  have:=h.2 n (qB e);simpa using this
def oX{ns:List Int}{its:List Value}(r:aJ (ns.map V.int) its){i:Nat}(h:its.toArray[i]?=some v):∃t,v=.int (ns.getD i 0) t:=by
 rw[vV] at h
 induction ns generalizing its i with
 | nil=>cases r;simp at h
 | cons n ns ih =>
  cases r with
  | cons r1 rr =>
   cases i with
   | zero =>
    simp?[xQ,yK] at h;subst h;let⟨t,rfl⟩:=r1;exact⟨t,rfl⟩
   | succ i =>
    simp?[yY] at h;exact ih rr h
def AC(hc:X.calm=true):dh X (.builtin "sum") (λxs H Q=>∃ (a:Addr) (ns:List Int),xs=[.ref a]/\(gw X.K H a (ns.map V.int)\/iL X.K H a (ns.map V.int))/\KR ns=true/\Q (.int ns.sum) H):=by
 intro pins s σ H xs us Q I r h;let⟨a,ns,rfl,hq,hok,q⟩:=h;let⟨u,rfl,rx⟩:=vals1 r;cases rx;have hh:X.A.in1.handled=none:=I.ok.hd hc;let⟨hlen,hbd⟩:=JJ hok;have hin:∀n:Nat,n<=1000->∀j,j < n->InLong ((λi=>ns.getD i 0) j)/\InLong (preSum (λi=>ns.getD i 0) (j+1)):=λn hn j hj=>by
  have h1:=hbd j;have h2:=rW (λi=>ns.getD i 0) 1000000 hbd (j+1);refine⟨⟨?_,?_⟩,?_,?_⟩
  ·show -(2 ^ 63)<=ns.getD j 0;lia
  ·show ns.getD j 0 < 2 ^ 63;lia
  ·lia
  ·lia
 have hsum:preSum (λi=>ns.getD i 0) ns.length=ns.sum:=by rw[oa,List.take_length]
 rcases hq with hq|hq
 ·let⟨its,rv,pl,hz⟩:=I.list hq;have hl:its.length=ns.length:=by rw[<- rv.length,zD]
  refine call_sum_walk (qK pl.isList ?_);let⟨o,ho,hcl,n,hd⟩:=pl.isList;have hlt:=zY ho;have hne:a≠s.heap.objs.size:=yR hlt;refine⟨_,_,_,_,_,_,λi=>ns.getD i 0,rfl,Walks.list hh s.heap.objs.size a hne its.toArray,⟨⟨_,zX _ rfl,rfl,rfl⟩,pl.isList.push _⟩,λb hb=>?_,λi v hP=>oX rv hP,by rw[zH,hl];exact hin _ hlen,λh' tk t' kp=>?_⟩
  ·show b < (s.heap.push _).objs.size;rw[xJ];simp?[zQ,yF,xU] at hb;rcases hb with rfl|rfl
   ·exact kM _
   ·exact jN hlt
  ·refine⟨.int ns.sum,H,I.kept (t':=tk) λb o' e=>kp b o' (by simp;exact yR (zY e)) (zU _ e),⟨t',?_⟩,q⟩;rw[zH,hl,hsum]
 ·let⟨its,rv,pl,hz⟩:=I.tuple hq;have pl:s.heap.IsTuple a its.toArray:=pl;have hl:its.length=ns.length:=by rw[<- rv.length,zD]
  refine call_sum_walk (xR pl ?_);let⟨o,ho,hcl,n,hd⟩:=id pl;have hlt:=zY ho;have hne:a≠s.heap.objs.size:=yR hlt;refine⟨_,_,_,_,_,_,λi=>ns.getD i 0,rfl,Walks.tuple hh s.heap.objs.size a hne its.toArray,⟨⟨_,zX _ rfl,rfl,rfl⟩,pl.push _⟩,λb hb=>?_,λi v hP=>oX rv hP,by rw[zH,hl];exact hin _ hlen,λh' tk t' kp=>?_⟩
  ·show b < (s.heap.push _).objs.size;rw[xJ];simp?[zQ,yF,xU] at hb;rcases hb with rfl|rfl
   ·exact kM _
   ·exact jN hlt
  ·refine⟨.int ns.sum,H,I.kept (t':=tk) λb o' e=>kp b o' (by simp;exact yR (zY e)) (zU _ e),⟨t',?_⟩,q⟩;rw[zH,hl,hsum]
def Cn:List D->Option D:=λds=>(eJ ds).bind λes=>(intsOf es).bind λns=>if KR ns=true then some (.int ns.sum) else none
def hV{K:W.Frag}:∀ {ns:List Int}{vs:List V},ak K H (ns.map PyData.int) vs->vs=ns.map V.int
 | [],vs,h=>h.nil_inv
 | b::bs,vs,h=>by
  let⟨v,r,rfl,a,c⟩:=h.cons_inv;simp?[Rep] at a;rw[a,hV c];rfl
def KI(hc:X.calm=true)(B:mY X "sum" (.builtin "sum"))(he:starEach [e] X.env=(false,eval e X.env)::starEach [] X.env)(ha:DA X [e] fs):DE X (.Call (.Name "sum" p) [e] [] pos) (bu Cn fs) :=
 gZ (AC hc) (by
  intro HF H ds vs d Q sm r hg q;let⟨es,h1,hg⟩:=bs hg;let⟨ns,h2,hg⟩:=bs hg;have hg:(if KR ns=true then some (PyData.int ns.sum) else none)=some d:=hg;split at hg
  ·rename_i hok;cases hg;have e2:=cf h2;subst e2;rcases jv h1 with rfl|rfl
   all_goals
    let⟨v,r',rfl,a,b⟩:=r.cons_inv;rw[b.nil_inv];simp?[Rep] at a;let⟨p,us,rfl,h,rr⟩:=a;have:=hV rr;subst this
   ·exact⟨p,ns,rfl,.inr (aE sm h),hok,q _ H HF (.refl sm) (by simp[Rep])⟩
   ·exact⟨p,ns,rfl,.inl (sm.seq h),hok,q _ H HF (.refl sm) (by simp[Rep])⟩
  ·cases hg) B ha (by decide) (by decide) he rfl
def LY(i:Int):Value->Bool|.int a _=>a == i|_=>false
def Cp:Np X "list.index" (λx vs H Q=>∃ (l:Addr) (ns:List Int) (i:Int) (j:Nat),x=.ref l/\vs=[.int i]/\gw X.K H l (ns.map V.int)/\ns[j]?=some i/\(∀m,m < j->ns[m]?≠some i)/\Q (.int j) H):=by
 intro pins s σ H x vs v us Q I rx rv h;let⟨l,ns,i,j,rfl,rfl,hq,hj,hno,q⟩:=h;cases rx;let⟨u,rfl,ru⟩:=rv.one;let⟨t,rfl⟩:=ru;let⟨its,r,pl,hz⟩:=I.list hq;let⟨⟨cls,dd,data,sl⟩,ho,hc,n,hd⟩:=id pl.isList;simp only at hc hd;subst hc hd;have hl:its.length=ns.length:=by rw[<- r.length,zD]
 have hj1:j < ns.length:=(List.getElem?_eq_some_iff.mp hj).1;have hz':ns.length<=sizeLine:=by rw[zD] at hz;exact hz
 have hs63:(sizeLine:Nat) < 2 ^ 62:=by decide
 have at_:∀m (hm:m < its.toArray.size),∃t',its.toArray[m]=.int (ns.getD m 0) t':=λm hm=>oX r (jY hm);refine qX F.slot_list_index ⟨_,ho,rfl⟩ F.entry_list_index (F.args_list_index_2 _ _) (PySem.SeqAt.list_indexAt l its.toArray n dd sl (.int i t) (LY i) j (by rw[zH,hl];exact hj1) (by lia) ?_ ?_) ⟨ho,?_,?_⟩
 ·let⟨t',e⟩:=at_ j (by rw[zH,hl];exact hj1);rw[e,LY,zG,hj];simp
 ·intro m hm hmj;let⟨t',e⟩:=at_ m hm;have hm':m < ns.length:=by lia
  have:=hno m hmj;rw[e,LY,zG];rw[zK hm'] at this ⊢;simp?[qG,beq_eq_false_iff_ne];exactλh=>this (by rw[h])
 ·intro y hy;let⟨m,hm,rfl⟩:=Array.getElem_of_mem hy;let⟨t',e⟩:=at_ m hm;rw[e];exact PySem.SeqAt.EqAt.int_int _ _ _ _
 ·exact⟨.int j,H,I.tok _,⟨_,rfl⟩,q⟩
def vm(i:Int):List Int->Option Nat
 | []=>none
 | n::ns=>if n=i then some 0 else (vm i ns).map (·+1)
def nh:∀ {ns:List Int}{j:Nat},vm i ns=some j->ns[j]?=some i/\∀m,m < j->ns[m]?≠some i
 | [],j,h=>by cases h
 | n::ns,j,h=>by
  unfold vm at h;split at h
  ·cases h;rename_i e;exact⟨by rw[e];rfl,λm hm=>absurd hm (vP _)⟩
  ·rename_i e;let⟨k,hk,rfl⟩:=ag h;let⟨a,b⟩:=nh hk;refine⟨by simpa using a,λm hm=>?_⟩;cases m with
   | zero=>simpa using e
   | succ m=>simpa using b m (by lia)
def N2:D->D->Option D
 | .list es,.int i=>(intsOf es).bind λns=>(vm i ns).map λj=>.int ((j:Nat):Int)
 | _,_=>none
def Ei{fo:Env->Option D}(hbase:attributeBase o "index" X.env (eval o X.env)=eval o X.env)
  (hfew:((backTo cpos (starEach [e] X.env)).all (λx=>!x.1)&&(backToKw cpos (keywordEach [] X.env)).all (λx=>x.1.isSome)&&decide ([e].length+([]:List Keyword).length+(if ([]:List Keyword).isEmpty then 0 else 1) < 30))=true)
  (hline:(apos.endLine == cpos.line)=true) (hs:starEach [e] X.env=(false,eval e X.env)::starEach [] X.env) (ho:DE X o fo) (he:DE X e fe):DE X (.Call (.Attribute o "index" apos) [e] [] cpos) (f2 N2 fo fe) :=
 bc (xo qN PySem.F.slot_list_index PySem.F.type_list_index Cp ho (cm he dQ hs) hbase hfew hline hs rfl) λσ H Q ⟨HF,ρ,d,sm,eo,hf,q⟩=>by
  let⟨x,hx,hf⟩:=bs hf;let⟨y,hy,hg⟩:=bs hf;refine⟨HF,ρ,x,sm,eo,hx,λv1 H1 HF1 g1 r1=>?_⟩;cases x<;>try cases hg
  cases y<;>try cases hg
  rename_i es i;let⟨ns,h1,hg⟩:=bs hg;let⟨j,h2,rfl⟩:=ag hg;have e1:=cf h1;subst e1;simp?[Rep] at r1;let⟨l,us,rfl,hq,rr⟩:=r1;have:=hV rr;subst this;refine⟨.inl ⟨rfl,_,g1.fh.seq hq⟩,HF1,ρ,.int i,g1.fh,eo.mono g1.ff,hy,λv2 H2 HF2 g2 r2=>?_⟩;simp?[Rep] at r2;let⟨a,b⟩:=nh h2;exact⟨l,ns,i,j,rfl,by rw[r2],g2.fh.seq (g2.ff.seq hq),a,b,q _ H2 HF2 (g1.trans g2) (by simp[Rep])⟩
end Dl
namespace Tx
open PySem PySem.SeqAt PyProof.Rows
open PySem.AutoSeq1 (wpAny_loadPart')
open PySem.MeetsSeq PySem.MeetsSeq2 PySem.MeetsSeq3
def wpR(f:Nat->β->Sem (ForInStep β))(I:List Nat->β->Shared->Prop)(Q:β->Shared->Prop)
  (turn:∀x rest b s,I (x::rest) b s->wpAny M A (f x b) (λr s'=>match r with|.yield b'=>I rest b' s'|.done b'=>Q b' s') E s)
  (fin:∀b s,I [] b s->Q b s) (n:Nat) (b:β) (h:I (List.range' 0 n 1) b s):wpAny M A (forIn [:n] b f) Q E s:=by
 have e:forIn [:n] b f=forIn (List.range' 0 n 1) b f:=by
  rw[Std.Legacy.Range.forIn_eq_forIn_range'];simp[Std.Legacy.Range.size]
 rw[e];exact wpAny_forIn_list f I Q turn fin _ b h
def tuple_indexAt(l:Addr)(items:Array Value)(n:Nat)(dd:Option Addr)(sl:Array (Option Value))(x:Value)(e:Value->Bool)(j:Nat)(hj:j < items.size)(h1:e items[j]=true)(h2:∀m (hm:m < items.size),m < j->e items[m]=false) :
  Meets (Builtin.«tuple.index» ⟨[.ref l,x],[]⟩)
   (λA R s=>s.heap.get? l=some { cls:=.type "tuple",dict:=dd,data:=.seq items n,slots:=sl }/\(∀y,y∈items->EqAt A.in1 s y x (e y))/\R (.ok (.ret (.int (j:Nat) s.toks))) { s with toks:=s.toks+1 }) :=
 .of_wp λprog w A R s h=>by
  let⟨hp,g,d,tk,os⟩:=s;let⟨hl,he,h⟩:=h
  wp_walk using wpAny_loadPart' hl,wpR _ (λrest b s'=>s'=⟨hp,g,d,tk,os⟩/\b.1=none/\∃i,i<=j/\rest=List.range' i (items.size - i) 1) _
  case turn =>
   rintro i rest b s' ⟨rfl,hb,i',hi,e1⟩;have hlt:i' < items.size:=by lia
   rw[show items.size - i'=(items.size - (i'+1))+1 by lia,vF] at e1;injection e1 with e2 e3
   subst e2;subst e3;simp?[jY hlt];refine zV (he _ (Array.getElem_mem hlt) prog w _ _ ?_);by_cases hij:i=j
   ·subst hij;rw[h1]
    wp_walk
    exact⟨_,rfl,h⟩
   ·rw[h2 i hlt (by lia)]
    wp_walk
    exact⟨rfl,rfl,i+1,by lia,rfl⟩
  case fin =>
   rintro b s' ⟨rfl,hb,i,hi,e1⟩;have:=jC List.length e1;simp at this;lia
  case h =>
   exact⟨rfl,rfl,0,xV _,by simp⟩
end Tx
namespace Dl
open PySem L2 PySem.Spec PyProof.Rows
def C0:Np X "tuple.index" (λx vs H Q=>∃ (l:Addr) (ns:List Int) (i:Int) (j:Nat),x=.ref l/\vs=[.int i]/\iL X.K H l (ns.map V.int)/\ns[j]?=some i/\(∀m,m < j->ns[m]?≠some i)/\Q (.int j) H):=by
 intro pins s σ H x vs v us Q I rx rv h;let⟨l,ns,i,j,rfl,rfl,hq,hj,hno,q⟩:=h;cases rx;let⟨u,rfl,ru⟩:=rv.one;let⟨t,rfl⟩:=ru;let⟨its,r,pl,hz⟩:=I.tuple hq;let⟨⟨cls,dd,data,sl⟩,ho,hc,n,hd⟩:=id pl;simp only at hc hd;subst hc hd;have hl:its.length=ns.length:=by rw[<- r.length,zD]
 have hj1:j < ns.length:=(List.getElem?_eq_some_iff.mp hj).1;have at_:∀m (hm:m < its.toArray.size),∃t',its.toArray[m]=.int (ns.getD m 0) t':=λm hm=>oX r (jY hm);refine qX F.slot_tuple_index ⟨_,ho,rfl⟩ F.entry_tuple_index (F.args_tuple_index_2 _ _) (Tx.tuple_indexAt l its.toArray n dd sl (.int i t) (LY i) j (by rw[zH,hl];exact hj1) ?_ ?_) ⟨ho,?_,?_⟩
 ·let⟨t',e⟩:=at_ j (by rw[zH,hl];exact hj1);rw[e,LY,zG,hj];simp
 ·intro m hm hmj;let⟨t',e⟩:=at_ m hm;have hm':m < ns.length:=by
   rw[zH] at hm;lia
  have:=hno m hmj;rw[e,LY,zG];rw[zK hm'] at this ⊢;simp?[qG,beq_eq_false_iff_ne];exactλh=>this (by rw[h])
 ·intro y hy;let⟨m,hm,rfl⟩:=Array.getElem_of_mem hy;let⟨t',e⟩:=at_ m hm;rw[e];exact PySem.SeqAt.EqAt.int_int _ _ _ _
 ·exact⟨.int j,H,I.tok _,⟨_,rfl⟩,q⟩
def Fg(h:PE X e t)(g:PE X e u):PE X e (λσ H Q=>t σ H Q\/u σ H Q):=λpins s σ H Q I q=>q.elim (h pins s σ H Q I) (g pins s σ H Q I)
def oD:D->D->Option D
 | .list es,.int i=>(intsOf es).bind λns=>(vm i ns).map λj=>.int ((j:Nat):Int)
 | .tuple es,.int i=>(intsOf es).bind λns=>(vm i ns).map λj=>.int ((j:Nat):Int)
 | _,_=>none
def Ca{fo:Env->Option D}(hbase:attributeBase o "index" X.env (eval o X.env)=eval o X.env)
  (hfew:((backTo cpos (starEach [e] X.env)).all (λx=>!x.1)&&(backToKw cpos (keywordEach [] X.env)).all (λx=>x.1.isSome)&&decide ([e].length+([]:List Keyword).length+(if ([]:List Keyword).isEmpty then 0 else 1) < 30))=true)
  (hline:(apos.endLine == cpos.line)=true) (hs:starEach [e] X.env=(false,eval e X.env)::starEach [] X.env) (ho:DE X o fo) (he:DE X e fe):DE X (.Call (.Attribute o "index" apos) [e] [] cpos) (f2 oD fo fe) :=
 bc (Fg (Ei hbase hfew hline hs ho he) (xo PySem.F.plainAttrs_tuple PySem.F.slot_tuple_index PySem.F.type_tuple_index C0 ho (cm he dQ hs) hbase hfew hline hs rfl)) λσ H Q ⟨HF,ρ,d,sm,eo,hf,q⟩=>by
  let⟨x,hx,hf⟩:=bs hf;let⟨y,hy,hg⟩:=bs hf;cases x<;>try cases hg
  ·cases y<;>try cases hg
   rename_i es i;exact .inl ⟨HF,ρ,d,sm,eo,by simp?[f2,hx,hy,zA];exact hg,q⟩
  ·cases y<;>try cases hg
   rename_i es i;let⟨ns,h1,hg⟩:=bs hg;let⟨j,h2,rfl⟩:=ag hg;have e1:=cf h1;subst e1;refine .inr ⟨HF,ρ,_,sm,eo,hx,λv1 H1 HF1 g1 r1=>?_⟩;simp?[Rep] at r1;let⟨l,us,rfl,hq,rr⟩:=r1;have:=hV rr;subst this;refine⟨?_,HF1,ρ,.int i,g1.fh,eo.mono g1.ff,hy,λv2 H2 HF2 g2 r2=>?_⟩
   ·first|exact .inr (.inl ⟨rfl,_,aE g1.fh hq⟩)|exact .inl ⟨rfl,_,aE g1.fh hq⟩|exact .inr ⟨rfl,_,aE g1.fh hq⟩
   ·simp?[Rep] at r2;let⟨a,b⟩:=nh h2;exact⟨l,ns,i,j,rfl,by rw[r2],aE g2.fh (aE g2.ff hq),a,b,q _ H2 HF2 (g1.trans g2) (by simp[Rep])⟩
end Dl
namespace Zp
open PySem PyProof.Rows
def IsI(b:Bool)(h:Heap)(it l:Addr)(k:Nat):Prop:=match b with|true=>h.IsTupleIter it l k|false=>h.IsListIter it l k
def IsS(b:Bool)(h:Heap)(l:Addr)(xs:Array Value):Prop:=match b with|true=>h.IsTuple l xs|false=>h.IsList l xs
def IsI.obj(x:IsI b h it l k):∃o,h.get? it=some o/\∀v,o.data≠.cell v:=by
 cases b
 ·let⟨o,e,_,d⟩:=(show h.IsListIter it l k from x);exact⟨o,e,λv q=>by rw[d] at q;cases q⟩
 ·let⟨o,e,_,d⟩:=(show h.IsTupleIter it l k from x);exact⟨o,e,λv q=>by rw[d] at q;cases q⟩
def IsI.at(x:IsI b h it l k)(e:∀o,h.get? it=some o->h'.get? it=some o):IsI b h' it l k:=by
 cases b
 ·exact Heap.IsListIter.at x e
 ·exact Heap.IsTupleIter.at x e
def IsI.extBut(x:IsI b h it l k)(e:Heap.ExtBut a h h')(n:it≠a):IsI b h' it l k:=x.at λo q=>e it o n q
def IsS.at(x:IsS b h l xs)(e:∀o,h.get? l=some o->h'.get? l=some o):IsS b h' l xs:=by
 cases b
 ·let⟨o,q,r⟩:=(show h.IsList l xs from x);exact⟨o,e o q,r⟩
 ·let⟨o,q,r⟩:=(show h.IsTuple l xs from x);exact⟨o,e o q,r⟩
def IsS.extBut(x:IsS b h l xs)(e:Heap.ExtBut a h h')(n:l≠a):IsS b h' l xs:=x.at λo q=>e l o n q
section
def nxt(hj:IsI b s.heap j t k)(ht:IsS b s.heap t its)(hv:its[k]?=some v)
  (hQ:∀g,IsI b g j t (k+1)->Heap.SameBut j s.heap g->Q v { s with heap:=g }):wpAny (model prog w) A (Builtin.SmallTypes.nextOf (.ref j)) Q E s:=by
 cases b
 ·exact wpAny_nextOf_list_item hj ht hv hQ
 ·exact En.nextT_item hj ht hv hQ
def nxtE{Q:Value->Shared->Prop}(hh:A.handled=none)(hj:IsI b s.heap j t k)(ht:IsS b s.heap t its)(hv:its[k]?=none)
  (hE:∀g x,Heap.ExtBut j s.heap g->(∃o,g.get? x=some o/\o.cls=.type "StopIteration")->E (.ref x) { s with heap:=g }):wpAny (model prog w) A (Builtin.SmallTypes.nextOf (.ref j)) Q E s:=by
 cases b
 ·exact wpAny_nextOf_list_end hh hj ht hv hE
 ·exact En.nextT_end hh hj ht hv hE
structure ZS(b₁ b₂:Bool)(h₀ h:Heap)(z TI TO i j l m:Addr)(xs ys:Array Value)(f:Value)(p q:Nat)(a b:Value):Prop where
 zo:IsZip h z TI TO f
 ti:IsPair h TI (.ref i) (.ref j)
 to:IsPair h TO a b
 wi:IsI b₁ h i l p
 wj:IsI b₂ h j m q
 sl:IsS b₁ h l xs
 sm:IsS b₂ h m ys
 kp:∀c o,c≠z->c≠TO->c≠i->c≠j->h₀.get? c=some o->h.get? c=some o
 sz:h.objs.size=h₀.objs.size
section
variable {z TI TO i j l m:Addr}
def ZS.fl(Z:ZS b₁ b₂ h₀ h z TI TO i j l m xs ys f p q a b)(D:ZipApart z TI TO i j l m)(e:IsZip g z TI TO f')(t:Heap.SameBut z h g):ZS b₁ b₂ h₀ g z TI TO i j l m xs ys f' p q a b :=
 ⟨e,t.extBut _ _ D.TIz Z.ti,t.extBut _ _ D.TOz Z.to,Z.wi.extBut t.extBut D.i1z,Z.wj.extBut t.extBut D.i2z,Z.sl.extBut t.extBut D.l1z,Z.sm.extBut t.extBut D.l2z,λc o n1 n2 n3 n4 r=>t.extBut _ _ n1 (Z.kp c o n1 n2 n3 n4 r),t.1.trans Z.sz⟩
def ZS.fst(Z:ZS b₁ b₂ h₀ h z TI TO i j l m xs ys f p q a b)(D:ZipApart z TI TO i j l m)(e:IsI b₁ g i l (p+1))(t:Heap.SameBut i h g):ZS b₁ b₂ h₀ g z TI TO i j l m xs ys f (p+1) q a b :=
 ⟨t.extBut _ _ D.i1z.symm Z.zo,t.extBut _ _ D.TIi1 Z.ti,t.extBut _ _ D.TOi1 Z.to,e,Z.wj.extBut t.extBut D.i12.symm,Z.sl.extBut t.extBut D.l1i1,Z.sm.extBut t.extBut D.l2i1,λc o n1 n2 n3 n4 r=>t.extBut _ _ n3 (Z.kp c o n1 n2 n3 n4 r),t.1.trans Z.sz⟩
def ZS.snd(Z:ZS b₁ b₂ h₀ h z TI TO i j l m xs ys f p q a b)(D:ZipApart z TI TO i j l m)(e:IsI b₂ g j m (q+1))(t:Heap.SameBut j h g):ZS b₁ b₂ h₀ g z TI TO i j l m xs ys f p (q+1) a b :=
 ⟨t.extBut _ _ D.i2z.symm Z.zo,t.extBut _ _ D.TIi2 Z.ti,t.extBut _ _ D.TOi2 Z.to,Z.wi.extBut t.extBut D.i12,e,Z.sl.extBut t.extBut D.l1i2,Z.sm.extBut t.extBut D.l2i2,λc o n1 n2 n3 n4 r=>t.extBut _ _ n4 (Z.kp c o n1 n2 n3 n4 r),t.1.trans Z.sz⟩
def ZS.put(Z:ZS b₁ b₂ h₀ h z TI TO i j l m xs ys f p q a b)(D:ZipApart z TI TO i j l m)(e:IsPair g TO x y)(t:Heap.SameBut TO h g):ZS b₁ b₂ h₀ g z TI TO i j l m xs ys f p q x y :=
 ⟨t.extBut _ _ D.TOz.symm Z.zo,t.extBut _ _ D.TITO Z.ti,e,Z.wi.extBut t.extBut D.TOi1.symm,Z.wj.extBut t.extBut D.TOi2.symm,Z.sl.extBut t.extBut D.l1TO,Z.sm.extBut t.extBut D.l2TO,λc o n1 n2 n3 n4 r=>t.extBut _ _ n2 (Z.kp c o n1 n2 n3 n4 r),t.1.trans Z.sz⟩
end
variable {z TI TO i j l m:Addr}
def zipN{Q:Value->Shared->Prop}(hn:A.handled=none)(D:ZipApart z TI TO i j l m)(Z:ZS b₁ b₂ s.heap s.heap z TI TO i j l m xs ys .none p q a b)
  (item:∀x y g g',xs[p]?=some x->ys[q]?=some y->ZS b₁ b₂ s.heap g z TI TO i j l m xs ys .ellipsis (p+1) (q+1) x y->IsZip g' z TI TO (rawInt g.objs.size) ->
   Heap.SameBut z (g.push { cls:=.type "tuple",data:=.seq #[x,y] }) g'->Q (.ref g.objs.size) { s with heap:=g' })
  (over:(xs[p]?=none\/ys[q]?=none)->∀g e,(∀c o,c≠z->c≠TO->c≠i->c≠j->s.heap.get? c=some o->g.get? c=some o)->(∃o,g.get? e=some o/\o.cls=.type "StopIteration")->E (.ref e) { s with heap:=g }) :
  wpAny (model prog w) A (Builtin.«zip.__next__» ⟨[.ref z],[]⟩) (λr s'=>∃v,r=.done (.ret v)/\Q v s') E s:=by
 have stop:∀ {g1 g2:Heap}{e:Addr}{c:Addr}{p' q':Nat}{a' b':Value},ZS b₁ b₂ s.heap g1 z TI TO i j l m xs ys .ellipsis p' q' a' b'->(c=i\/c=j)->(xs[p]?=none\/ys[q]?=none)->Heap.ExtBut c g1 g2 ->
   (∃o,g2.get? e=some o/\o.cls=.type "StopIteration")->wpAny (model prog w) A (setField (.ref z) 0 Value.none) (λ_ t=>E (.ref e) t) E { s with heap:=g2 }:=by
  intro g1 g2 e c p' q' a' b' Y hc hv k ⟨o,ho,ht⟩;have cz:z≠c:=hc.elim (λe=>e ▸ D.i1z.symm) λe=>e ▸ D.i2z.symm;have Yz:IsZip g2 z TI TO .ellipsis:=k _ _ cz Y.zo;refine kX Yz (by simp) λg3 _ t=>over hv g3 e (λd u n1 n2 n3 n4 r=>t.extBut _ _ n1 (k _ _ ?_ (Y.kp d u n1 n2 n3 n4 r))) ⟨o,t.extBut _ _ ?_ ho,ht⟩
  ·exact hc.elim (λe=>e ▸ n3) λe=>e ▸ n4
  ·rintro rfl;rw[Yz] at ho;cases ho;simp at ht
 show wpAny _ _ (field (.ref z) 2 >>= _) _ _ _;refine zV (qT Z.zo rfl (x:=.bool false) rfl (zV (qT Z.zo rfl (x:=.ref TI) rfl (zV (kH Z.ti rfl (zV (m:=Builtin.SmallTypes.ownedTupleIsFree _) ?_))))));refine zV (qT Z.zo rfl (x:=.none) rfl (zW ?_));rw[yL rfl];refine zV (wD (zV (qT Z.zo rfl (x:=.ref TO) rfl (zV (kX Z.zo (by simp) λg1 e1 t1=>?_)))));have Z1:=Z.fl D (f':=.ellipsis) e1 t1;refine zV ?_;simp?[List.zipIdx_cons,List.zipIdx_nil,List.forIn_cons,List.forIn_nil];refine zV (zV (wpAny_onRaise (zV (m:=Builtin.SmallTypes.nextOf _) ?_)));cases hx:xs[p]? with
 | none=>exact nxtE hn Z1.wi Z1.sl hx λg2 e k o=>stop Z1 (.inl rfl) (.inl hx) k o
 | some x =>
 refine nxt Z1.wi Z1.sl hx λg2 e2 t2=>zW ?_;have Z2:=Z1.fst D e2 t2;refine zV (kH Z2.to rfl (zV (wpAny_updateSeq_pair Z2.to λg3 e3 t3=>zV (wpAny_letGo (zW ?_)))));have Z3:=Z2.put D (x:=x) (y:=b) e3 t3;refine zV (zV (wpAny_onRaise (zV (m:=Builtin.SmallTypes.nextOf _) ?_)));cases hy:ys[q]? with
 | none=>exact nxtE hn Z3.wj Z3.sm hy λg4 e k o=>stop Z3 (.inr rfl) (.inr hy) k o
 | some y =>
 refine nxt Z3.wj Z3.sm hy λg4 e4 t4=>zW ?_;have Z4:=Z3.snd D e4 t4;refine zV (kH Z4.to rfl (zV (wpAny_updateSeq_pair Z4.to λg5 e5 t5=>zV (wpAny_letGo (zW (zW ?_))))));have Z5:=Z4.put D (x:=x) (y:=y) e5 t5;refine zV (kH Z5.to rfl (zV (wpAny_newTuple (zV (m:=Builtin.SmallTypes.ownedTupleHandOut _ _) ?_))));refine zV (kX (zU _ Z5.zo) (by simp) λg6 e6 t6=>kX e6 (by simp) λg7 e7 t7=>zW ⟨_,rfl,?_⟩);exact item x y g5 g7 hx hy Z5 e7 (t6.trans t7)
def nextZ(hn:A.handled=none)(D:ZipApart z TI TO i j l m)
  (qz:IsZip s.heap z TI TO .none) (qI:IsPair s.heap TI (.ref i) (.ref j)) (qO:IsPair s.heap TO a b)
  (p1:IsI b₁ s.heap i l p) (p2:IsI b₂ s.heap j m q) (r1:IsS b₁ s.heap l xs) (r2:IsS b₂ s.heap m ys) (ex:xs[p]?=some x) (ey:ys[q]?=some y)
  (kQ:∀g,IsZip g z TI TO (rawInt s.heap.objs.size)->IsPair g TO x y->IsI b₁ g i l (p+1)->IsI b₂ g j m (q+1)->IsPair g s.heap.objs.size x y->g.objs.size=s.heap.objs.size+1 ->
   (∀c o,c≠z->c≠TO->c≠i->c≠j->s.heap.get? c=some o->g.get? c=some o)->Q (some (.ref s.heap.objs.size)) { s with heap:=g }) :
  wpAny (model prog w) A (pyNext (.ref z)) Q E s:=by
 have ty:s.TypeIs (.ref z) "zip":=⟨_,qz,rfl⟩
 have Z:ZS b₁ b₂ s.heap s.heap z TI TO i j l m xs ys .none p q a b:=⟨qz,qI,qO,p1,p2,r1,r2,λ_ _ _ _ _ _ e=>e,rfl⟩
 refine zV (kO (qC (name:=Str.ofString "__next__") ty vU (qV vU ty F.entry_zip_next (zipN hn D Z ?_ ?_) (F.args_zip_next_1 _))))
 ·intro x' y' g g' hx hy Y ez t;rw[ex] at hx;rw[ey] at hy;cases hx;cases hy;rw[Y.sz] at ez ⊢;have lt:=zY Y.zo;have up:∀c o,c≠z->g.get? c=some o->g'.get? c=some o:=λc o n e=>t.extBut _ _ n (zU _ e);refine zW (kQ g' ez (up _ _ D.TOz Y.to) (Y.wi.at λo e=>up _ _ D.i1z e) (Y.wj.at λo e=>up _ _ D.i2z e) ?_ (by rw[t.1,xJ,Y.sz]) λc o n1 n2 n3 n4 e=>up c o n1 (Y.kp c o n1 n2 n3 n4 e));rw[<- Y.sz];exact t.extBut _ _ (jI lt) (zX _ rfl)
 ·intro no;rw[ex,ey] at no;rcases no with no|no<;>cases no
def nextZE(hn:A.handled=none)(D:ZipApart z TI TO i j l m)
  (qz:IsZip s.heap z TI TO .none) (qI:IsPair s.heap TI (.ref i) (.ref j)) (qO:IsPair s.heap TO a b)
  (p1:IsI b₁ s.heap i l p) (p2:IsI b₂ s.heap j m q) (r1:IsS b₁ s.heap l xs) (r2:IsS b₂ s.heap m ys) (ends:xs[p]?=none\/ys[q]?=none)
  (kQ:∀g,(∀c o,c≠z->c≠TO->c≠i->c≠j->s.heap.get? c=some o->g.get? c=some o)->Q none { s with heap:=g }):wpAny (model prog w) A (pyNext (.ref z)) Q E s:=by
 have ty:s.TypeIs (.ref z) "zip":=⟨_,qz,rfl⟩
 have Z:ZS b₁ b₂ s.heap s.heap z TI TO i j l m xs ys .none p q a b:=⟨qz,qI,qO,p1,p2,r1,r2,λ_ _ _ _ _ _ e=>e,rfl⟩
 refine zV (kO (qC (name:=Str.ofString "__next__") ty vU (qV vU ty F.entry_zip_next (zipN hn D Z ?_ ?_) (F.args_zip_next_1 _))))
 ·intro x y g g' hx hy;rw[hx,hy] at ends;rcases ends with no|no<;>cases no
 ·rintro _ g e kp ⟨o,ho,ht⟩;exact zV (wpAny_isInstance (T:="StopIteration") (b:=true) ⟨o,ho,ht⟩ isSubtype_stop (zW (kQ _ kp)))
end
abbrev itO(b:Bool)(l:Addr):Obj:={ cls:=.type (if b then "tuple_iterator" else "list_iterator"),data:=.fields #[.ref l,.int 0 0] }
abbrev z1(b:Bool)(h:Heap)(l:Addr):Heap:=h.push (itO b l)
abbrev z2(b c:Bool)(h:Heap)(l m:Addr):Heap:=(z1 b h l).push (itO c m)
abbrev z3(b c:Bool)(h:Heap)(l m:Addr):Heap:=(z2 b c h l m).push { cls:=.type "tuple",data:=.seq #[.ref h.objs.size,.ref (z1 b h l).objs.size] }
abbrev z4(b c:Bool)(h:Heap)(l m:Addr):Heap:=(z3 b c h l m).push { cls:=.type "tuple",data:=.seq #[.none,.none] }
abbrev z5(b c:Bool)(h:Heap)(l m:Addr):Heap:=(z4 b c h l m).push { cls:=.type "zip",data:=.fields #[.none,.bool false,.bool false,.ref (z2 b c h l m).objs.size,.ref (z3 b c h l m).objs.size] }
def IsS.push(x:IsS b h l xs)(o:Obj):IsS b (h.push o) l xs:=x.at λo' e=>zU _ e
def new_zip(b c:Bool)(l m:Addr)(xs ys:Array Value):Meets (Builtin.«zip.__new__» ⟨[.type "zip",.ref l,.ref m],[]⟩) (λ_ R s=>IsS b s.heap l xs/\IsS c s.heap m ys/\R (.ok (.ret (.ref (z4 b c s.heap l m).objs.size))) { s with heap:=z5 b c s.heap l m }) :=
 .of_wp λprog w A R s h=>by
  let⟨hp,g,d,tk,os⟩:=s;let⟨q1,q2,h⟩:=h;have hsub:=sub_zip;cases b<;>cases c
  ·have L1:Heap.IsList (Shared.heap ⟨hp,g,d,tk,os⟩) l xs:=q1;have L2:Heap.IsList (Shared.heap ⟨hp.push { cls:=.type "list_iterator",data:=.fields #[.ref l,.int 0 0] },g,d,tk,os⟩) m ys:=IsS.push (b:=false) q2 _
   wp_walk using qK L1,qK L2
   exact⟨_,rfl,h⟩
  ·have L1:Heap.IsList (Shared.heap ⟨hp,g,d,tk,os⟩) l xs:=q1;have L2:Heap.IsTuple (Shared.heap ⟨hp.push { cls:=.type "list_iterator",data:=.fields #[.ref l,.int 0 0] },g,d,tk,os⟩) m ys:=IsS.push (b:=true) q2 _
   wp_walk using qK L1,xR L2
   exact⟨_,rfl,h⟩
  ·have L1:Heap.IsTuple (Shared.heap ⟨hp,g,d,tk,os⟩) l xs:=q1;have L2:Heap.IsList (Shared.heap ⟨hp.push { cls:=.type "tuple_iterator",data:=.fields #[.ref l,.int 0 0] },g,d,tk,os⟩) m ys:=IsS.push (b:=false) q2 _
   wp_walk using xR L1,qK L2
   exact⟨_,rfl,h⟩
  ·have L1:Heap.IsTuple (Shared.heap ⟨hp,g,d,tk,os⟩) l xs:=q1;have L2:Heap.IsTuple (Shared.heap ⟨hp.push { cls:=.type "tuple_iterator",data:=.fields #[.ref l,.int 0 0] },g,d,tk,os⟩) m ys:=IsS.push (b:=true) q2 _
   wp_walk using xR L1,xR L2
   exact⟨_,rfl,h⟩
def isI_new(e:h.get? it=some (itO b l)):IsI b h it l 0:=by
 cases b
 ·exact⟨_,e,rfl,rfl⟩
 ·exact⟨_,e,rfl,rfl⟩
def call_zip(q1:IsS b s.heap l xs)(q2:IsS c s.heap m ys)
  (h:∀g,IsZip g (s.heap.objs.size+4) (s.heap.objs.size+2) (s.heap.objs.size+3) .none->IsPair g (s.heap.objs.size+2) (.ref s.heap.objs.size) (.ref (s.heap.objs.size+1))->IsPair g (s.heap.objs.size+3) .none .none ->
   IsI b g s.heap.objs.size l 0->IsI c g (s.heap.objs.size+1) m 0->(∀a o,s.heap.get? a=some o->g.get? a=some o)->Q (.ref (s.heap.objs.size+4)) { s with heap:=g }) :
  wpAny (model prog w) A (call (.type "zip") [.ref l,.ref m]) Q E s:=by
 refine callType_new F.called_zip (by decide) (F.typeCall_zip_2 _ _) (F.newCall_zip_2 _ _) (λobj=>F.args_object_init_3 obj _ _) F.entry_zip_new (new_zip b c l m xs ys) ⟨q1,q2,?_⟩;have n1:(z1 b s.heap l).objs.size=s.heap.objs.size+1:=xJ ..;have n2:(z2 b c s.heap l m).objs.size=s.heap.objs.size+2:=by rw[xJ,n1]
 have n3:(z3 b c s.heap l m).objs.size=s.heap.objs.size+3:=by rw[xJ,n2]
 have n4:(z4 b c s.heap l m).objs.size=s.heap.objs.size+4:=by rw[xJ,n3]
 have g5:(z5 b c s.heap l m).get? (z4 b c s.heap l m).objs.size=some _:=zX _ rfl;have g4:(z5 b c s.heap l m).get? (z3 b c s.heap l m).objs.size=some _:=zU _ (zX _ rfl);have g3:(z5 b c s.heap l m).get? (z2 b c s.heap l m).objs.size=some _:=zU _ (zU _ (zX _ rfl));have g2:(z5 b c s.heap l m).get? (z1 b s.heap l).objs.size=some (itO c m):=zU _ (zU _ (zU _ (zX _ rfl)));have g1:(z5 b c s.heap l m).get? s.heap.objs.size=some (itO b l):=zU _ (zU _ (zU _ (zU _ (zX _ rfl))));show _/\_;rw[n2,n3,n4] at g5;rw[n1,n2] at g3;rw[n3] at g4;rw[n1] at g2;rw[n4];exact⟨⟨_,g5,rfl⟩,h _ g5 g3 g4 (isI_new g1) (isI_new g2) λa o x=>zU _ (zU _ (zU _ (zU _ (zU _ x))))⟩
end Zp
namespace Dl
open PySem L2 PySem.Spec PyProof.Rows Zp
def sx(K:W.Frag)(b:Bool)(a:Addr)(H:Hp)(xs:List V):Prop:=match b with|true=>iL K H a xs|false=>gw K H a xs
def sx.src(I:Inv X pins σ H s)(h:sx X.K b a H xs):∃its:List Value,aJ xs its/\IsS b s.heap a its.toArray/\xs.length<=sizeLine:=by
 cases b
 ·let⟨its,rv,pl,hz⟩:=I.list (show gw X.K H a xs from h);exact⟨its,rv,pl.isList,hz⟩
 ·let⟨its,rv,pl,hz⟩:=I.tuple (show iL X.K H a xs from h);exact⟨its,rv,pl,hz⟩
def sx.ne(I:Inv X pins σ H s)(hf:cA X pins H c)(h:sx X.K b a H xs):a≠c:=by
 cases b
 ·exact KG I hf h
 ·exact JN I hf h
def sx.inj(I:Inv X pins σ H s)(h:sx X.K b a H xs)(h':sx X.K b a H ys):xs=ys:=by
 cases b
 ·exact I.list_inj h h'
 ·exact I.tuple_inj h h'
def sx.mono{K:W.Frag}(e:aU H H')(h:sx K b a H xs):sx K b a H' xs:=by
 cases b
 ·exact e.seq h
 ·exact aE e h
def CO{K:W.Frag}(b c:Bool)(l1 l2 z TI TO i1 i2:Addr)(Z:O8 z TI TO i1 i2) :
  Turn P w K (.Tuple elts k pos) (N1 (sx K b l1) (sx K c l2)) [z,TI,TO,i1,i2] z (λi h=>IsZip h z TI TO .none/\IsPair h TI (.ref i1) (.ref i2)/\(∃a b,IsPair h TO a b)/\IsI b h i1 l1 i/\IsI c h i2 l2 i) where
 mem:=by simp
 obj:=λi h st d hd=>by
  let⟨hz,hTI,⟨a,b',hTO⟩,p1,p2⟩:=st;simp?[zQ,yF,xU] at hd;rcases hd with rfl|rfl|rfl|rfl|rfl
  ·exact⟨_,hz,λv q=>by have q:Data.fields _=Data.cell v:=q;cases q⟩
  ·exact⟨_,hTI,λv q=>by have q:Data.seq _ _=Data.cell v:=q;cases q⟩
  ·exact⟨_,hTO,λv q=>by have q:Data.seq _ _=Data.cell v:=q;cases q⟩
  ·exact p1.obj
  ·exact p2.obj
 keep:=λi h h' st kk=>by
  let⟨hz,hTI,⟨a,b',hTO⟩,h1,h2⟩:=st;exact⟨kk z (by simp) _ hz,kk TI (by simp) _ hTI,⟨a,b',kk TO (by simp) _ hTO⟩,h1.at λo q=>kk i1 (by simp) o q,h2.at λo q=>kk i2 (by simp) o q⟩
 item:=by
  intro X hP hw hK hc i pins s σ H E I hf st hg;subst hP hw hK;let⟨xs,ys,x,y,hq1,hq2,hx,hy⟩:=hg;let⟨its1,rv1,p1,hz1⟩:=hq1.src I;let⟨its2,rv2,p2,hz2⟩:=hq2.src I;let⟨u1,hu1,ru1⟩:=rv1.get hx;let⟨u2,hu2,ru2⟩:=rv2.get hy;have D:ZipApart z TI TO i1 i2 l1 l2:=⟨Z.a1,Z.a2,Z.a3,Z.a4,Z.a5,Z.a6,Z.a7,Z.a8,Z.a9,Z.a0,hq1.ne I (hf z (by simp)),hq1.ne I (hf TO (by simp)),hq1.ne I (hf i1 (by simp)),hq1.ne I (hf i2 (by simp)),hq2.ne I (hf z (by simp)),hq2.ne I (hf TO (by simp)),hq2.ne I (hf i1 (by simp)),hq2.ne I (hf i2 (by simp))⟩
  let⟨hz,hTI,⟨a,b',hTO⟩,h1,h2⟩:=st;refine nextZ (I.ok.hd hc) D hz hTI hTO h1 h2 p1 p2 (x:=u1) (y:=u2) (by simpa using hu1) (by simpa using hu2) λg b1 b2 b3 b4 b5 b6 hk=>⟨.ref s.heap.objs.size,rfl,?_⟩
  have lt:∀ {c:Addr}{o:Obj},s.heap.get? c=some o->s.heap.objs.size≠c:=λe=>jI (zY e);refine wpAny_letOwnedTupleGo_zip (s:={ s with heap:=g }) b1 λg' hz' hs'=>?_;have b5':g'.get? s.heap.objs.size=some { cls:=.type "tuple",data:=.seq #[u1,u2] }:=hs'.extBut _ _ (lt hz) b5;have ht:o4 g' s.heap.objs.size (List.toArray [u1,u2]):=⟨⟨_,b5',rfl,_,rfl⟩,_,b5',rfl⟩
  refine⟨.ref s.heap.objs.size,_,wu (ch:=[z,TI,TO,i1,i2]) (xs:=[x,y]) (t':=s.toks) I hf (λb o hb q=>?_) (yM _) ht (.cons ru1 (.cons ru2 .nil)) (by show 2<=sizeLine;decide),rfl,
   ⟨s.heap.objs.size,x,y,rfl,I.fresh,rfl,λzs hzs=>by rw[hzs.inj I hq1];exact hx,λzs hzs=>by rw[hzs.inj I hq2];exact hy⟩,
   ⟨hz',hs'.extBut _ _ Z.a1 (hk _ _ D.TIz D.TITO D.TIi1 D.TIi2 hTI),⟨_,_,hs'.extBut _ _ Z.a2 b2⟩,b3.extBut hs'.extBut Z.a3,b4.extBut hs'.extBut Z.a4⟩,λb hb=>?_⟩
  ·simp?[zQ,yF,xU,not_or] at hb;exact hs'.extBut _ _ hb.1 (hk b o hb.1 hb.2.2.1 hb.2.2.2.1 hb.2.2.2.2 q)
  ·have:s.heap.objs.size≠b:=by
    simp?[zQ,yF,xU] at hb;let⟨o1,g1,_⟩:=h1.obj;let⟨o2,g2,_⟩:=h2.obj;rcases hb with rfl|rfl|rfl|rfl|rfl
    ·exact lt hz
    ·exact lt hTI
    ·exact lt hTO
    ·exact lt g1
    ·exact lt g2
   rw[aA (jM this)];exact (hf b hb).1
 done:=by
  intro X hP hw hK hc i pins s σ H E I hf st hg;subst hP hw hK;let⟨xs,ys,hq1,hq2,hx⟩:=hg;let⟨its1,rv1,p1,hz1⟩:=hq1.src I;let⟨its2,rv2,p2,hz2⟩:=hq2.src I;have D:ZipApart z TI TO i1 i2 l1 l2:=⟨Z.a1,Z.a2,Z.a3,Z.a4,Z.a5,Z.a6,Z.a7,Z.a8,Z.a9,Z.a0,hq1.ne I (hf z (by simp)),hq1.ne I (hf TO (by simp)),hq1.ne I (hf i1 (by simp)),hq1.ne I (hf i2 (by simp)),hq2.ne I (hf z (by simp)),hq2.ne I (hf TO (by simp)),hq2.ne I (hf i1 (by simp)),hq2.ne I (hf i2 (by simp))⟩
  let⟨hz,hTI,⟨a,b',hTO⟩,h1,h2⟩:=st;have e1:=rv1.length;have e2:=rv2.length;refine nextZE (I.ok.hd hc) D hz hTI hTO h1 h2 p1 p2 (hx.elim (λq=>.inl (by simp;lia)) λq=>.inr (by simp;lia)) λg hk=>⟨rfl,?_⟩
  refine Cq (ch:=[z,TI,TO,i1,i2]) (t':=s.toks) I hf λb o hb q=>?_;simp?[zQ,yF,xU,not_or] at hb;exact hk b o hb.1 hb.2.2.1 hb.2.2.2.1 hb.2.2.2.2 q
 self:=λ_ _ _ _ _ st h=>wpAny_pyIter_zip st.1 h
def Ib(B:mY X "zip" (.type "zip"))(ha:PA X [l,l'] tl)(hs:starEach [l,l'] X.env=(false,eval l X.env)::starEach [l'] X.env)(hs2:(backTo pos (starEach [l'] X.env)).any (·.1)=false) :
  PI X (.Tuple elts k tp) (.Call (.Name "zip" p) [l,l'] [] pos) (λσ H R=>tl σ H λvs H1=>∃a b,vs=[.ref a,.ref b]/\∃c d xs ys,sx X.K c a H1 xs/\sx X.K d b H1 ys/\R (N1 (sx X.K c a) (sx X.K d b)) H1):=by
 intro pins s σ H R I h;refine Call_ (iI I B.gl B.mg B.bt (qS (cx (ha pos pins s σ H _ I h) λus s1 ⟨vs,H1,I1,r1,q1⟩=>?_) hs hs2));let⟨a,b,e,c,d,xs,ys,hq1,hq2,q⟩:=q1;subst e;let⟨u,u',rfl,rx,ry⟩:=vals2 r1;cases rx;cases ry;let⟨its,rv,pl,hz⟩:=hq1.src I1;let⟨its',rv',pl',hz'⟩:=hq2.src I1;refine call_zip pl pl' λg b1 b2 b3 b4 b5 kp=>wpAny_pyIter_zip (s:={ s1 with heap:=g }) b1 ?_;refine⟨_,_,_,_,H1,rfl,I1.kept (t':=s1.toks) kp,CO c d a b (s1.heap.objs.size+4) (s1.heap.objs.size+2) (s1.heap.objs.size+3) s1.heap.objs.size (s1.heap.objs.size+1) ?_,⟨b1,b2,⟨_,_,b3⟩,b4,b5⟩,λc hc=>?_,q⟩
 ·constructor<;>(intro z;have z:(_:Nat)=_:=z;lia)
 ·have hge:s1.heap.objs.size<=c:=by
   simp?[zQ,yF,xU] at hc;rcases hc with rfl|rfl|rfl|rfl|rfl
   ·exact jU _ _
   ·exact jU _ _
   ·exact jU _ _
   ·exact yM _
   ·exact jU _ _
  exact I1.fpOk hge (I1.hok.fresh hge)
def J8:List D->Option (List D):=λds=>match ds with
 | [x,y]=>(gc x).bind λxs=>(gc y).map λys=>iC xs ys
 | _=>none
def Ar{K:W.Frag}(h:gc d=some xs)(r:Rep K HF d v):∃b a vs,v=.ref a/\sx K b a HF vs/\ak K HF xs vs:=by
 rcases lz h with rfl|rfl
 ·simp?[Rep] at r;let⟨a,vs,rfl,q,rr⟩:=r;exact⟨true,a,vs,rfl,q,rr⟩
 ·simp?[Rep] at r;let⟨a,vs,rfl,q,rr⟩:=r;exact⟨false,a,vs,rfl,q,rr⟩
def du(fs:Env->Option (List D)):Env->Option (List D):=λρ=>(fs ρ).bind J8
def IM(B:mY X "zip" (.type "zip"))(hs:starEach [l,l'] X.env=(false,eval l X.env)::starEach [l'] X.env)(hs2:(backTo pos (starEach [l'] X.env)).any (·.1)=false)(h:DA X [l,l'] fs) :
  DI X (.Tuple elts k tp) (.Call (.Name "zip" p) [l,l'] [] pos) (du fs) :=
 ub (Ib B h hs hs2) λσ H R ⟨HF,ρ,ds,sm,eo,hf,q⟩=>by
  let⟨x,hx,hf⟩:=bs hf;refine⟨HF,ρ,_,sm,eo,hx,λvs H1 HF1 g1 r1=>?_⟩;unfold J8 at hf;split at hf
  ·let⟨xs,h1,hf⟩:=bs hf;let⟨ys,h2,rfl⟩:=ag hf;let⟨v,r',rfl,a,b⟩:=r1.cons_inv;let⟨v',r'',rfl,a',b'⟩:=b.cons_inv;rw[b'.nil_inv];let⟨c,ad,us,rfl,hq,rr⟩:=Ar h1 a;let⟨c',ad',us',rfl,hq',rr'⟩:=Ar h2 a';exact⟨ad,ad',rfl,c,c',us,us',hq.mono g1.fh,hq'.mono g1.fh,q _ H1 HF1 g1 (D7 hq (λ_ _ s h=>h.mono s) hq' (λ_ _ s h=>h.mono s) rr rr')⟩
  ·cases hf
end Dl
namespace Zp
open PySem PyProof.Rows
def IsI.ne(x:IsI b h it l k)(y:IsS b h l xs):l≠it:=by
 rintro rfl;cases b
 ·let⟨o,e,c,d⟩:=(show h.IsListIter l l k from x)
  let⟨o',e',r⟩:=(show h.IsList l xs from y)
  rw[e] at e';cases e';simp_all
 ·let⟨o,e,c,d⟩:=(show h.IsTupleIter l l k from x)
  let⟨o',e',r⟩:=(show h.IsTuple l xs from y)
  rw[e] at e';cases e';simp_all
def drawsI(hn:A.handled=none)(b:Bool)(it l:Addr)(xs:Array Value):Draws prog w A it [it,l] xs.size (λi x=>xs[i]?=some x) (λi h=>IsI b h it l i/\IsS b h l xs) where
 live:=λi h st=>let ⟨o,e,_⟩:=st.1.obj;⟨o,e⟩
 frame:=λi h h' st k=>⟨st.1.at (k it (by simp)),st.2.at (k l (by simp))⟩
 item:=λi s Q E hi st hQ=>nxt st.1 st.2 (v:=xs[i]) (by simp[hi]) λg e t=>hQ _ g s.toks (by simp[hi]) ⟨e,st.2.extBut t.extBut (st.1.ne st.2)⟩ t
 done:=λs Q E st hE=>nxtE hn st.1 st.2 (by simp) hE
def nextE{b₁:Bool}{e it l:Addr}{i:Nat}{items:Array Value}{x old:Value}{Q:Option Value->Shared->Prop}(hn:A.handled=none)
  (qe:IsEnum s.heap e it i old) (qi:IsI b₁ s.heap it l i) (ql:IsS b₁ s.heap l items) (ex:items[i]?=some x) (nei:e≠it)
  (kQ:∀g tk,IsEnumOut g e it ((i:Int)+1) x s.heap.objs.size->IsI b₁ g it l (i+1)->g.get? s.heap.objs.size=some { cls:=.type "tuple",data:=.seq #[.int i tk,x] } ->
   g.objs.size=s.heap.objs.size+1->(∀c o,c≠e->c≠it->s.heap.get? c=some o->g.get? c=some o)->Q (some (.ref s.heap.objs.size)) { s with heap:=g,toks:=tk+1 }) :
  wpAny (model prog w) A (pyNext (.ref e)) Q E s:=by
 have nel:e≠l:=by
  rintro rfl;cases b₁
  ·let⟨o,e1,r⟩:=(show s.heap.IsList e items from ql)
   rw[qe] at e1;cases e1;simp at r
  ·let⟨o,e1,r⟩:=(show s.heap.IsTuple e items from ql)
   rw[qe] at e1;cases e1;simp at r
 have D:Draws prog w A.in1 it [it,l] items.size (λi x=>items[i]?=some x) (λi h=>IsI b₁ h it l i/\IsS b₁ h l items):=drawsI (A:=A.in1) hn b₁ it l items;refine wpAny_pyNext_enum_itemD D qe ⟨qi,ql⟩ (Array.getElem?_eq_some_iff.mp ex).1 nei (by simp[nei,nel]) λy g tk hy a b c d k=>?_;rw[ex] at hy;cases hy;exact kQ g tk a b.1 c d k
end Zp
namespace Dl
open PySem L2 PySem.Spec PyProof.Rows Zp
def pk{K:W.Frag}(b:Bool)(a it e:Addr)(hei:e≠it):Turn P w K (.Tuple elts k pos) (Og (sx K b a)) [e,it] e (λi h=>(∃old,IsEnum h e it i old)/\IsI b h it a i) where
 mem:=by simp
 obj:=λi h st c hc=>by
  let⟨⟨old,he⟩,hi⟩:=st;rcases List.mem_cons.mp hc with z|z
  ·subst z;exact⟨_,he,λv q=>by have q:Data.fields _=Data.cell v:=q;cases q⟩
  ·rw[List.mem_singleton.mp z];exact hi.obj
 keep:=λi h h' st kk=>⟨let ⟨old,he⟩:=st.1;⟨old,kk e (by simp) _ he⟩,st.2.at λo q=>kk it (by simp) o q⟩
 item:=by
  intro X hP hw hK hc i pins s σ H E I hf st hg;subst hP hw hK;let⟨xs,x,hq,hx⟩:=hg;let⟨its,rv,p,hz⟩:=hq.src I;let⟨u,hu,ru⟩:=rv.get hx;let⟨⟨old,he⟩,hi⟩:=st;refine nextE (I.ok.hd hc) he hi p (x:=u) (by simpa using hu) hei λg tk b1 b2 b3 b4 hk=>⟨.ref s.heap.objs.size,rfl,?_⟩
  have lt:∀ {c:Addr}{o:Obj},s.heap.get? c=some o->s.heap.objs.size≠c:=λe=>jI (zY e);have hte:s.heap.objs.size≠e:=lt he;refine wpAny_letOwnedTupleGo_enum (s:={ s with heap:=g,toks:=tk+1 }) b1 λg' he' hs'=>?_;have b3':g'.get? s.heap.objs.size=some { cls:=.type "tuple",data:=.seq #[.int i tk,u] }:=hs'.extBut _ _ hte b3;have ht:o4 g' s.heap.objs.size (List.toArray [Value.int (i:Nat) tk,u]):=⟨⟨_,b3',rfl,_,rfl⟩,_,b3',rfl⟩
  refine⟨.ref s.heap.objs.size,_,wu (ch:=[e,it]) (xs:=[.int (i:Nat),x]) (t':=tk+1) I hf (λc o hb q=>?_) (yM _) ht (.cons ⟨_,rfl⟩ (.cons ru .nil)) (by show 2<=sizeLine;decide),rfl,
   ⟨s.heap.objs.size,x,rfl,I.fresh,rfl,λzs hzs=>by rw[hzs.inj I hq];exact hx⟩,⟨⟨_,he'⟩,b2.extBut hs'.extBut (jM hei)⟩,λc hc'=>?_⟩
  ·simp?[zQ,yF,xU,not_or] at hb;exact hs'.extBut _ _ hb.1 (hk c o hb.1 hb.2 q)
  ·have:s.heap.objs.size≠c:=by
    simp?[zQ,yF,xU] at hc';let⟨o1,g1,_⟩:=hi.obj;rcases hc' with rfl|rfl
    ·exact lt he
    ·exact lt g1
   rw[aA (jM this)];exact (hf c hc').1
 done:=by
  intro X hP hw hK hc i pins s σ H E I hf st hg;subst hP hw hK;let⟨xs,hq,hx⟩:=hg;let⟨its,rv,p,hz⟩:=hq.src I;have hh:X.A.in1.handled=none:=I.ok.hd hc;have hl:=rv.length;let⟨⟨old,he⟩,hi⟩:=st;have hT:s.TypeIs (.ref e) "enumerate":=⟨_,he,rfl⟩
  unfold pyNext;refine zV (kO (qC (name:=Str.ofString "__next__") hT F.slot_enumerate_next (qV F.slot_enumerate_next hT F.entry_enumerate_next ?_ (F.args_enumerate_next_1 _))));refine zV (m:=field (.ref e) 2) (qT he rfl (x:=.ref it) rfl ?_);refine zV (nxtE hh hi p (by simp;lia) λh1 x k1 hx1=>?_);let⟨o,ho,hc1⟩:=hx1;refine zV (wpAny_isInstance (T:="StopIteration") (b:=true) ⟨o,ho,hc1⟩ isSubtype_stop (zW ⟨rfl,?_⟩));let⟨f0,f1,f2,f3,f4,f5⟩:=hf it (by simp);exact I.turned (t':=s.toks) (λb o hb q=>k1 b o hb q) f0 f1 f3 f4 f5
 self:=λ_ _ _ _ _ st h=>let ⟨_,he⟩:=st.1;wQ he h
def Hm(B:mY X "enumerate" (.type "enumerate"))(ha:PA X [l] tl)(hs:starEach [l] X.env=[(false,eval l X.env)]):PI X (.Tuple elts k tp) (.Call (.Name "enumerate" p) [l] [] pos) (λσ H R=>tl σ H λvs H1=>∃a,vs=[.ref a]/\∃b xs,sx X.K b a H1 xs/\R (Og (sx X.K b a)) H1):=by
 intro pins s σ H R I h;refine Call_ (iI I B.gl B.mg B.bt (qS (cx (ha pos pins s σ H _ I h) λus s1 ⟨vs,H1,I1,r1,q1⟩=>?_) hs rfl));let⟨a,e,b,xs,hq,q⟩:=q1;subst e;let⟨u,rfl,rx⟩:=vals1 r1;cases rx;have fresh:∀b∈[s1.heap.objs.size+1,s1.heap.objs.size],cA X pins H1 b:=λb hb=>by
  rcases List.mem_cons.mp hb with z|z
  ·subst z;exact I1.fpOk (Nat.le_succ _) (I1.hok.fresh (Nat.le_succ _))
  ·cases List.mem_singleton.mp z;exact I1.fpOk (yM _) I1.fresh
 let⟨its,rv,pl,hz⟩:=hq.src I1;cases b with
 | false =>
  refine call_enumerate_list pl λh' he hit hsz kp=>wQ (s:={ s1 with heap:=h' }) he ?_;exact⟨_,_,_,_,H1,rfl,I1.kept (t':=s1.toks) kp,pk false a s1.heap.objs.size (s1.heap.objs.size+1) (Nat.succ_ne_self _),⟨⟨_,he⟩,hit⟩,fresh,q⟩
 | true =>
  refine En.call_enumT (show s1.heap.IsTuple a its.toArray from pl) λh' he hit hsz kp=>wQ (s:={ s1 with heap:=h' }) he ?_;exact⟨_,_,_,_,H1,rfl,I1.kept (t':=s1.toks) kp,pk true a s1.heap.objs.size (s1.heap.objs.size+1) (Nat.succ_ne_self _),⟨⟨_,he⟩,hit⟩,fresh,q⟩
def bI(fs:Env->Option (List D)):Env->Option (List D):=λρ=>(fs ρ).bind λds=>(eJ ds).map (bB 0)
def Ia(B:mY X "enumerate" (.type "enumerate"))(h:DA X [l] fs)(hs:starEach [l] X.env=[(false,eval l X.env)]):DI X (.Tuple elts k tp) (.Call (.Name "enumerate" p) [l] [] pos) (bI fs) :=
 ub (Hm B h hs) λσ H R ⟨HF,ρ,ds,sm,eo,hf,q⟩=>by
  let⟨x,hx,hf⟩:=bs hf;let⟨es,h1,rfl⟩:=ag hf;let⟨d,h0,h1⟩:=bs h1;rw[fZ h0] at hx;refine⟨HF,ρ,_,sm,eo,hx,λvs H1 HF1 g1 r1=>?_⟩;let⟨v,r',rfl,a,b⟩:=r1.cons_inv;rw[b.nil_inv];let⟨c,ad,us,rfl,hq,rr⟩:=Ar h1 a;exact⟨ad,rfl,c,us,hq.mono g1.fh,q _ H1 HF1 g1 (Ck hq (λ_ _ s h=>h.mono s) rr)⟩
end Dl
namespace Srt
open PySem PySem.W PySem.Calls PyProof.Rows L2
def cA.at(h:cA X pins H b)(e:H' b=none):cA X pins H' b:=⟨e,h.2⟩
def upd_inv{g:Array Value->Array Value}(I:Inv X pins σ H s)(f:cA X pins H b):Inv X pins σ H { s with heap:=s.heap.update b (Obj.mapSeq g) }:=by
 let⟨f0,f1,f2,f3,f4,f5⟩:=f;exact I.turned (t':=s.toks) (h':=s.heap.update b (Obj.mapSeq g)) (λc o hc e=>(xN _ _ (jM hc)).trans e) f0 f1 f3 f4 f5
def pin_get(I:Inv X (pins++nL fp h) σ H' s')(hb:b∈fp)(e:h.get? b=some o):s'.heap.get? b=some o/\H' b=none :=
 let q:=I.pin (b,o) (yE _ (yE _ (dg hb e)));⟨q.1,q.2.1⟩
def list_sortK(I:Inv X pins σ H s)(ho:s.heap.get? a=some (seqObj "list" vs.toArray n))(fa:cA X pins H a)(h64:vs.length < 64)
  (J:List Value->Hp->Prop) (j0:J [] H)
  (step:∀us v,vs[us.length]?=some v->∀pl s' H',Inv X (pins++pl) σ H' s'->J us H'->wpAny (model X.prog X.w) A (call f [v]) (λu s''=>∃H'',Inv X (pins++pl) σ H'' s''/\J (us++[u]) H'') (λ_ _=>False) s')
  (fin:∀us H',us.length=vs.length->J us H'->∃ (z:Nat->Int) (κ:SortKind),(2<=vs.length->∀s',Inv X pins σ H' s'->(∀Q':SortKind->Shared->Prop,Q' κ s'->wpAny (model X.prog X.w) A (keyKind' us.toArray) Q' (λ_ _=>False) s') /\
    ∀i j C,i < vs.length->j < vs.length->C (SP.dI z i j) s'->kas_ask X.prog X.w A κ us i j C s') /\
   ∀s' c,Inv X pins σ H' s'->cA X pins H' a->s'.heap.get? a=some (seqObj "list" (outV z vs).toArray c)->P (.done (.ret .none)) s') :
  wpAny (model X.prog X.w) A (ksk_tree a f false) P E s:=by
 have hsl:vs.length<=sizeLine:=by rw[qU];lia
 unfold ksk_tree;refine zV (vK ho rfl ?_);refine zV (kA ho rfl ?_ (by simpa using hsl) (xV _));obtain⟨e1,ho1⟩:∃e,(s.heap.update a (Obj.mapSeq λ_=>(#[]:Array Value))).get? a=some (seqObj "list" #[] e):=⟨_,kE ho λ_=>#[]⟩
 have I1:=upd_inv (g:=λ_=>(#[]:Array Value)) I fa;refine zV (seqEpoch_at ho1 rfl ?_);refine zV (wpAny_newTuple ?_ (by simpa using hsl));refine zV (kN ?_ (xV _));refine xX ?_;have ho3:(((s.heap.update a (Obj.mapSeq λ_=>(#[]:Array Value))).push (seqObj "tuple" vs.toArray 0)).push (seqObj "list" #[] 0)).get? a=some (seqObj "list" #[] e1):=zU _ (zU _ ho1);have hk3:(((s.heap.update a (Obj.mapSeq λ_=>(#[]:Array Value))).push (seqObj "tuple" vs.toArray 0)).push (seqObj "list" #[] 0)).get? ((s.heap.update a (Obj.mapSeq λ_=>(#[]:Array Value))).push (seqObj "tuple" vs.toArray 0)).objs.size=some (seqObj "list" #[] 0):=zX _ rfl;have I3:=(I1.kept (t':=s.toks) (h':=((s.heap.update a (Obj.mapSeq λ_=>(#[]:Array Value))).push (seqObj "tuple" vs.toArray 0)).push (seqObj "list" #[] 0)) λb o e=>zU _ (zU _ e))
 have I2:=(I1.kept (t':=s.toks) (h':=(s.heap.update a (Obj.mapSeq λ_=>(#[]:Array Value))).push (seqObj "tuple" vs.toArray 0)) λb o e=>zU _ e)
 have fk:cA X pins H ((s.heap.update a (Obj.mapSeq λ_=>(#[]:Array Value))).push (seqObj "tuple" vs.toArray 0)).objs.size:=I2.fpOk (yM _) (I2.hok.fresh (yM _));have hka:((s.heap.update a (Obj.mapSeq λ_=>(#[]:Array Value))).push (seqObj "tuple" vs.toArray 0)).objs.size≠a:=by
  have hlt:=zY ho1;rw[xJ];exact jI (jN hlt)
 show wpAny _ A _ P E { s with heap:=((s.heap.update a (Obj.mapSeq λ_=>(#[]:Array Value))).push (seqObj "tuple" vs.toArray 0)).push (seqObj "list" #[] 0) };generalize ((s.heap.update a (Obj.mapSeq λ_=>(#[]:Array Value))).push (seqObj "tuple" vs.toArray 0)).objs.size=kS at hk3 fk hka;generalize e3:({ s with heap:=((s.heap.update a (Obj.mapSeq λ_=>(#[]:Array Value))).push (seqObj "tuple" vs.toArray 0)).push (seqObj "list" #[] 0) }:Shared)=s3 at I3;have ho3:s3.heap.get? a=some (seqObj "list" #[] e1):=by rw[<- e3];exact ho3
 have hk3:s3.heap.get? kS=some (seqObj "list" #[] 0):=by rw[<- e3];exact hk3
 clear e3 I2 I1 ho1 ho;unfold ksk_rest;refine zV (wD ?_)
 first
  | rw[List.forIn_toArray]
  | (rw[<- Array.forIn_toList];simp?[List.toList_toArray])
  | rw[<- Array.forIn_toList]
 refine zV (ksk_fold (λi s'=>∃us H' e,us.length=i/\Inv X pins σ H' s'/\H' a=none/\H' kS=none/\s'.heap.get? a=some (seqObj "list" #[] e1)/\s'.heap.get? kS=some (seqObj "list" us.toArray e)/\J us H') vs 0 s3
  ⟨[],H,0,rfl,I3,fa.1,fk.1,ho3,hk3,j0⟩ ?step ?done)
 case step =>
  rintro j x s' hx ⟨us,H',e,hu,I',ha',hk',hoa,hok,j'⟩;have hu:us.length=j:=by lia
  have hj:j < vs.length:=(List.getElem?_eq_some_iff.mp hx).1;have Ip:=I'.pinned (fp:=[a,kS]) (λb hb=>by
   rcases List.mem_cons.mp hb with rfl|hb
   ·exact cA.at fa ha'
   ·rw[List.mem_singleton.mp hb];exact cA.at fk hk') (λb hb=>by
   rcases List.mem_cons.mp hb with rfl|hb
   ·exact⟨_,hoa,λv z=>by cases z⟩
   ·rw[List.mem_singleton.mp hb];exact⟨_,hok,λv z=>by cases z⟩)
  refine zV (kO (xA (step us x (by rw[hu];exact hx) _ s' H' Ip j') (λu s'' he=>?_) λ_ _ hF=>hF.elim));let⟨H'',I'',j''⟩:=he
  try dsimp only
  let⟨ga,na⟩:=pin_get I'' (b:=a) zE hoa;let⟨gk,nk⟩:=pin_get I'' (b:=kS) (zC _ zE) hok;have I4:=I''.unpinned;obtain⟨c2,hc2⟩:∃c2,(s''.heap.update kS (Obj.mapSeq (·.push u))).get? kS=some (seqObj "list" (us.toArray.push u) c2):=⟨_,kE gk (·.push u)⟩
  refine zV (kA gk rfl ?_ (by rw[zH,qU];lia) (yD (Nat.le_of_eq (Array.size_push ..)) (by rw[zH,qU];lia)));refine zW ⟨rfl,us++[u],H'',c2,by rw[zN,hu];simp,upd_inv I4 (cA.at fk nk),na,nk,(xN _ _ hka).trans ga,?_,j''⟩;rw[hc2];simp
 case done =>
  rintro s' ⟨us,H',e,hu,I',ha',hk',hoa,hok,j'⟩;have hu:us.length=vs.length:=by lia
  try dsimp only
  refine zV (vK hok rfl ?_);let⟨z,κ,hz,hP⟩:=fin us H' hu j';have last:∀st':SortSt,(arrOf st').map (·.2)=(outV z vs).toArray->failedOf st'=none->wpAny (model X.prog X.w) A (ksk_tail a false e1 (.ref kS) st') P E s':=λst' h1 h2=>by
   unfold ksk_tail
   try dsimp only
   rw[h1,h2];have na1:(s'.heap.update kS (Obj.mapSeq λ_=>(#[]:Array Value))).get? a=some (seqObj "list" #[] e1):=(xN _ _ hka).trans hoa;have I5:=upd_inv (g:=λ_=>(#[]:Array Value)) I' (cA.at fk hk');have I6:=upd_inv (s:={ s' with heap:=s'.heap.update kS (Obj.mapSeq λ_=>(#[]:Array Value)) }) (g:=λ_=>(outV z vs).toArray) I5 (cA.at fa ha');refine zV (kA hok rfl ?_ (by rw[zH,qU];lia) (xV _));refine zV (wpAny_letGo ?_);refine zV (seqEpoch_at na1 rfl ?_);refine zV (kA na1 rfl ?_ (xV _) (by
    simp?[yO,qP];show (outV z vs).toArray.size<=_;rw[zH,outV_len];lia))
   obtain⟨c,hc⟩:∃c,((s'.heap.update kS (Obj.mapSeq λ_=>(#[]:Array Value))).update a (Obj.mapSeq λ_=>(outV z vs).toArray)).get? a=some (seqObj "list" (outV z vs).toArray c):=⟨_,kE na1 λ_=>(outV z vs).toArray⟩
   simp?[bne_self_eq_false,yO,qP];exact zW (hP _ c I6 (cA.at fa ha') hc)
  unfold ksk_end
  try dsimp only
  simp?[yO,qP];by_cases h2:vs.toArray.size < 2
  ·rw[yL h2,yL h2];refine zV (zW ?_);rw[StateT.run_pure];refine zV (zW (last _ ?_ rfl));have h2':vs.length < 2:=by simpa using h2
   unfold outV;rw[yL h2'];show ((us.toArray.zip vs.toArray).map (·.2))=vs.toArray;apply Array.toList_inj.mp;simp?[Array.toList_map,Array.toList_zip];exact List.map_snd_zip (by rw[hu];exact yM _)
  ·rw[yN h2,yN h2];have h2':2<=vs.length:=by
    have:¬ vs.length < 2:=by simpa using h2
    lia
   let⟨hk,hlt⟩:=hz h2' s' I';refine zV (xA (hk (λκ' s''=>κ'=κ/\s''=s') ⟨rfl,rfl⟩) (λκ' s'' hs=>?_) λ_ _ x=>x.elim);let⟨rfl,rfl⟩:=hs;refine zV (xA (kat_run (Q:=λst' s2=>s2=s''/\(arrOf st').map (·.2)=(outV z vs).toArray/\failedOf st'=none) (G:=λp s2=>s2=s''/\p=SP.run (SP.dI z) (kas_sort vs.length))
    hu h2' h64 (λp st' s2 a1 a2 a3 a4=>⟨a4.1,?_,a3⟩) (SP.wp_run hlt (kas_sort vs.length) (SP.D0 (by lia)) ⟨rfl,rfl⟩)) ?_ λ_ _ e=>e)
   ·rw[kat_snds hu a2,a4.2];unfold outV;rw[yN (by lia)]
   ·rintro⟨⟨⟩,st'⟩ s2 ⟨hs,h4,h5⟩;subst hs;exact last st' h4 h5
def sortedK{l:Value}{f:Addr}{Q:Value->Shared->Prop}(I:Inv X pins σ H s)(h64:vs.length < 64)
  (hcol:∀ {Q':List Value->Shared->Prop},(∀h':Heap,(∀b o,s.heap.get? b=some o->h'.get? b=some o)->Q' vs { s with heap:=h' })->wpAny (model X.prog X.w) A.in1 (collect l) Q' E s)
  (J:List Value->Hp->Prop) (j0:J [] H)
  (step:∀us v,vs[us.length]?=some v->∀pl s' H',Inv X (pins++pl) σ H' s'->J us H'->wpAny (model X.prog X.w) A.in1.in1 (call (.ref f) [v]) (λu s''=>∃H'',Inv X (pins++pl) σ H'' s''/\J (us++[u]) H'') (λ_ _=>False) s')
  (fin:∀us H',us.length=vs.length->J us H'->∃ (z:Nat->Int) (κ:SortKind),(2<=vs.length->∀s',Inv X pins σ H' s'->(∀Q':SortKind->Shared->Prop,Q' κ s'->wpAny (model X.prog X.w) A.in1.in1 (keyKind' us.toArray) Q' (λ_ _=>False) s') /\
    ∀i j C,i < vs.length->j < vs.length->C (SP.dI z i j) s'->kas_ask X.prog X.w A.in1.in1 κ us i j C s') /\
   ∀s' D c,Inv X pins σ H' s'->cA X pins H' D->s'.heap.get? D=some (seqObj "list" (outV z vs).toArray c)->Q (.ref D) s') :
  wpAny (model X.prog X.w) A (call (.builtin "sorted") [l] [(Str.ofString "key",.ref f)]) Q E s:=by
 have hsl:vs.length<=sizeLine:=by rw[qU];lia
 refine call_function_entry_kw kind_sorted plain_sorted entry_sorted (ksk_s1 _ _) ?_;unfold Builtin.«sorted»;refine zV (m:=checkCount "sorted" 1 1 _) (zW (zV (hcol λh1 kp=>?_)));refine zV (kN ?_ (by simpa using hsl));have I1:=I.kept (t':=s.toks) kp;have fD:cA X pins H h1.objs.size:=I1.fpOk (yM _) (I1.hok.fresh (yM _));have hoD:(h1.push (seqObj "list" vs.toArray 0)).get? h1.objs.size=some (seqObj "list" vs.toArray 0):=zX _ rfl;have I2:=I1.kept (t':=s.toks) (h':=h1.push (seqObj "list" vs.toArray 0)) λb o e=>zU _ e;show wpAny _ _ _ _ _ { s with heap:=h1.push (seqObj "list" vs.toArray 0) };refine zV (xX (wpAny_call_entry_kw slot_list_sort ⟨_,hoD,rfl⟩ entry_list_sort ?body (ksk_l1 _ _)))
 case body =>
  show wpAny (model X.prog X.w) A.in1.in1 (Builtin.«list.sort» ⟨[.ref h1.objs.size],[(Str.ofString "key",.ref f)]⟩) _ _ _;rw[ksk_t1];refine list_sortK I2 hoD fD h64 J j0 step λus H' hu j'=>?_;let⟨z,κ,hz,hP⟩:=fin us H' hu j';exact⟨z,κ,hz,λs' c I' f' e=>⟨_,rfl,zW ⟨_,rfl,hP s' _ c I' f' e⟩⟩⟩
end Srt
namespace Dl
open PySem L2 PySem.Spec PyProof.Rows
def _root_.L2.Inv.track(I:Inv X pins σ H s)(f:cA X pins H b)(ho:di X.prog X.w (upd H b o) s.heap b o):Inv X pins σ (upd H b o) s:=by
 let⟨f0,f1,f2,f3,f4,f5⟩:=f;have up:∀c u,H c=some u->upd H b o c=some u:=λc u e=>by rw[aA (aP e f0)];exact e
 refine⟨I.ok,I.os,I.bare,⟨I.base.keep,I.base.slot,λc oc e n hx=>?_,I.base.there,λc xs e=>up c _ (I.base.tups c xs e),λc oc u e=>up c _ (I.base.frzs c oc u e),⟨λc u e t=>up c u (I.base.tbls.st c u e t),I.base.tbls.gr⟩⟩,I.loc,I.cell,?_,λx c e=>?_,λp hp=>?_,λc u e=>?_,I.len⟩
 ·have hne:c≠b:=λz=>by
   rcases f3 with g|g
   ·exact hx (z ▸ g)
   ·exact absurd (zP (zY e) (z ▸ g)) (qE _)
  rw[aA hne];exact I.base.free c oc e n hx
 ·rw[aA (jM f1)];exact I.free
 ·rw[aA (f4 x c e)];exact I.freeC x c e
 ·let⟨e,n,r⟩:=I.pin p hp;exact⟨e,by rw[aA (f5 p hp)];exact n,r⟩
 ·by_cases hc:c=b
  ·subst hc;rw[aI] at e;cases e;exact ho
  ·rw[aA hc] at e;exact (I.hok c u e).stay (λd w _ q=>q) (λd q=>up d _ q) λd w q _=>up d _ q
def n6(scope:Scope)(N':List Str)(p:Str):Bool:=scope.names.all (λq=>!decide (q.2=NameKind.cell))&&decide (N'[0]?=some p)&&decide (scope.names.lookup p=some .local)&&decide (scope.isCoroutine=false)&&decide (scope.isGenerator=false)
section
def FC(C:Bk X N sc (k+3))(hA:dP (k+1) A)(hk:scope.kind=.function)(hnd:N'.Nodup)(hl:n6 scope N' p=true):Bk (gh X A qual scope N' f c s H) N' scope k where
 n:=rfl
 nd:=hnd
 tb:=λx kd hx=>.inl hx
 calm:=rfl
 fn:=λx hx=>by
  unfold n6 at hl;simp?[zF,xG,yP,xB] at hl;exact absurd rfl (hl.1.1.1.1 _ (mem_of_lookup hx))
 room:=hA.deeper _
 xe:=rfl
 kd:=hk
structure pF(X:Cx)(qual:Str):Prop where
 ex:∃c P,X.env.code=.ref c/\X.env.qual++"<lambda>"=qual/\W.codeHdIn X.K c P=true/\∀HF,fQ X.K HF->HF P=some (.tab qual)
def hZ(te:Env->Option D)(ρ:Env):List D->Option (List D)
 | []=>some []
 | d::ds=>(te (ρ.set 0 (some d))).bind λx=>(hZ te ρ ds).map (x::·)
def nI:∀ {ds ks:List D},hZ te ρ ds=some ks->ks.length=ds.length
 | [],ks,h=>by cases h;rfl
 | d'::ds,ks,h=>by
  unfold hZ at h;let⟨y,h1,h⟩:=bs h;let⟨ys,h2,rfl⟩:=ag h;simp[nI h2]
def pP:∀ {ds ks:List D}{i:Nat}{d:D},hZ te ρ ds=some ks->ds[i]?=some d->∃x,te (ρ.set 0 (some d))=some x/\ks[i]?=some x
 | [],ks,i,d,h,e=>by simp at e
 | d'::ds,ks,i,d,h,e=>by
  unfold hZ at h;let⟨y,h1,h⟩:=bs h;let⟨ys,h2,rfl⟩:=ag h;cases i with
  | zero=>simp at e;subst e;exact⟨y,h1,rfl⟩
  | succ i=>let⟨x,a,b⟩:=pP h2 (by simpa using e);exact⟨x,a,by simpa using b⟩
def nK(cs:List Nat)(fl te:Env->Option D):Env->Option (List D):=λρ=>(fl ρ).bind λl=>match l with
 | .list ds=>(hZ te (eE 1 cs ρ) ds).bind λks=>(intsOf ks).bind λzs=>if ds.length < 64 then some (lT (λi=>zs.getD i 0) ds .none) else none
 | _=>none
def xr{K:W.Frag}{cs:List Nat}(eo:cL K HF ρ σ)(r:Rep K HF d v):cL K HF ((eE 1 cs ρ).set 0 (some d)) ((jo 1 cs σ).set 0 (some v)):=iz (By eo) r
def mn{K:W.Frag}:∀ {ks:List D}{zs:List Int}{kvs:List V}{us:List Value},intsOf ks=some zs->ak K HF ks kvs->aJ kvs us->IntsAre us zs
 | [],zs,kvs,us,h,r,v=>by
  cases h;rw[r.nil_inv] at v;cases v;exact .nil
 | d::ks,zs,kvs,us,h,r,v=>by
  cases d<;>simp?[intsOf] at h<;>try cases h
  rename_i i;let⟨ys,h2,rfl⟩:=ag h;let⟨w,ws,rfl,a,b⟩:=r.cons_inv;simp?[Rep] at a;subst a;cases v with
  | cons r1 r2 =>
   let⟨t,rfl⟩:=r1;exact .cons i t (mn h2 b r2)
def dG:∀ {us:List Value}{zs:List Int}{i:Nat},IntsAre us zs->i < us.length->∃t,us.getD i Value.none=.int (zs.getD i 0) t
 | _,_,i,.nil,h=>by simp at h
 | _,_,0,.cons n t r,h=>⟨t,rfl⟩
 | _,_,i+1,.cons n t r,h=>by
  let⟨t',e⟩:=dG (i:=i) r (by simpa using h);exact⟨t',by simpa using e⟩
variable {fl te:Env->Option D}{cs:List Nat}
def Bk.sortK(C:Bk X N sc (k+3))(B:mY X "sorted" (.builtin "sorted"))(L:pF X qual)(ok:iE sc scope N N' 1 cs=true)(hl:n6 scope N' p=true)
  (hb:∀ (cl:List (Str×Addr)) (pm ctv u:Value) (c:Addr),bindArgs (W.kla_fn "<lambda>" qual params body scope cl pm (.ref c) ctv) ⟨[u],[]⟩=pure [(p,u)]) (hdef:defaultsOf params X.env=([],[])) (h:DE X l fl)
  (hY:∀A f c s H,Bk (gh X A qual scope N' f c s H) N' scope k->DE (gh X A qual scope N' f c s H) body te)
  (hst:starEach [l] X.env=(false,eval l X.env)::starEach [] X.env) (he:backTo pos (starEach [l] X.env)=(false,eval l X.env)::backTo pos (starEach [] X.env)) (hpl:(backTo pos (starEach [l] X.env)).any (·.1)=false) :
  DF X (.Call (.Name "sorted" p0) [l] [⟨some "key",.Lambda params body scope lpos,kpos⟩] pos) (nK cs fl te):=by
 let⟨S,_⟩:=C.comp ok;have hnd:N'.Nodup:=by
  unfold iE at ok;simp?[zF,zJ] at ok;exact ok.2
 have hl':=hl;unfold n6 at hl';simp?[zF,xG,yP,xB,zJ] at hl';obtain⟨⟨⟨⟨hnc,hN0⟩,hp⟩,hco⟩,hgen⟩:=hl';let⟨cc,P,hcode,hqual,hhd,ej⟩:=L.ex;intro pins s σ H Q I ⟨HF,ρ,out,sm,eo,hf,q⟩;let⟨ld,hld,hf⟩:=bs hf;cases ld<;>try cases hf
 rename_i ds;let⟨ks,hks,hf⟩:=bs hf;let⟨zs,hzs,hf⟩:=bs hf;split at hf<;>cases hf;rename_i h64;refine qY (iI I B.gl B.mg B.bt ?_ (by decide) (by decide));refine PyProof.Rows.callWith_kw (e:=l) (rest:=[]) (kws:=[⟨some "key",.Lambda params body scope lpos,kpos⟩]) ?_ he hpl rfl rfl;refine cx (Bt h E2 hst pos pins s σ H _ I ⟨HF,ρ,[.list ds],sm,eo,by simp[aa,ae,hld],λvs H1 HF1 g1 r1=>(⟨HF1,g1,r1⟩:∃HF1,bY HF H HF1 H1/\ak X.K HF1 [.list ds] vs)⟩) λus s1 ⟨vs,H1,I1,rv,HF1,g1,r1⟩=>?_;let⟨v,vr,rfl,a1,b1⟩:=r1.cons_inv;rw[b1.nil_inv] at rv;let⟨u,rfl,rx⟩:=vals1 rv;simp?[Rep] at a1;let⟨la,ws,rfl,hq,rr⟩:=a1;cases rx;have hT1:H1 P=some (.tab qual):=g1.fh _ _ (ej HF1 (eo.tb.mono g1.ff));show wpAny _ _ (evalAll ((do let v <- eval (.Lambda params body scope lpos) X.env;standAt pos;pure v)::[])) _ _ s1;refine wpAny_evalAll_cons (zV ?_);refine xu (P:=P) I1 S hqual hcode (W.codeHd_of_K I1.ok.mod.kin hhd) hT1 I1.ok.mod.bmd hdef λf c' pm ctv s2 H2 I2 hfo hfn hcod s12 fp2 _=>?_;refine zV (vC (zW (wpAny_evalAll_nil ?_)));show wpAny _ _ (call (.builtin "sorted") [.ref la] [(Str.ofString "key",.ref f)]) _ _ s2;have Ip:=I2.pinned (fp:=[f]) (λb hb=>by rw[List.mem_singleton.mp hb];exact fp2) (λb hb=>by rw[List.mem_singleton.mp hb];exact⟨_,hfo,λv z=>by cases z⟩);have g2:bY HF1 H1 HF1 H2:=⟨s12,.refl _,g1.fh.trans s12,λ_ _ e=>.inl e⟩
 let⟨its,rvi,pl,hz⟩:=Ip.list (s12.seq (g1.fh.seq hq));have hlen:its.length=ds.length:=by rw[<- rvi.length,rr.length]
 have hkl:=nI hks;have hR:dP (k+1) X.A.in1.in1:=C.room.in1.in1;refine Srt.sortedK (vs:=its) Ip (by lia) (λ{Q'} hQ=>?_) (λus H'=>∃HF' kvs,bY HF1 H2 HF' H'/\ak X.K HF' (ks.take us.length) kvs/\aJ kvs us) ⟨HF1,[],.refl g2.fh,by simpa using ak.nil,.nil⟩ (λus x hx pl' s3 H3 I3 ⟨HF3,kvs,g3,rk,rvk⟩=>?_) λus H3 hu ⟨HF3,kvs,g3,rk,rvk⟩=>?_
 ·refine collect_list pl.isList (hQ _ λb o e=>?_) (by rw[qU];lia);exact (xN _ _ (jI (zY e))).trans (zU _ e)
 ·have hi:us.length < its.length:=(List.getElem?_eq_some_iff.mp hx).1;obtain⟨w,hw⟩:∃w,ws[us.length]?=some w:=⟨_,zK (by rw[rvi.length];exact hi)⟩
  let⟨x',hx',rw'⟩:=rvi.get hw;rw[hx] at hx';cases hx';let⟨d,hd,rd⟩:=rr.get hw;let⟨kd,hkd,hki⟩:=pP hks hd;have hfo3:s3.heap.get? f=some (W.kla_obj "<lambda>" qual params body scope (dN X.env scope.names []) pm c' ctv) :=
   (I3.pin (f,_) (yE _ (qJ _ (yE _ (dg zE hfo))))).1
  refine xA (xx (Q:=λv H4=>∃HF4,bY HF3 H3 HF4 H4/\Rep X.K HF4 kd v) (te:=tD X.K te) I3 hR I3.ok.frames S hnc hN0 hp hnd hco hgen hfo3 (g3.hh _ _ hcod) (hb _ _ _ _ _) rw' (hY _ _ _ _ _ (FC C hR S.kind hnd hl))
   ⟨HF3,_,kd,g3.fh,xr (eo.mono (g1.ff.trans g3.ff)) (rd.mono g3.ff),hkd,λv H4 HF4 g4 r4=>⟨HF4,g4,r4⟩⟩) (λu s4 ⟨v4,H4,I4,r4,HF4,g4,rp⟩=>⟨H4,I4,HF4,kvs++[v4],g3.trans g4,?_,rvk.append (.cons r4 .nil)⟩) λ_ _ e=>e
  rw[zN,xC,wR,hki];exact (rk.mono g4.ff).append (ak.cons rp ak.nil)
 ·have hk':ks.take us.length=ks:=kJ (by lia);rw[hk'] at rk;have ia:=mn hzs rk rvk;refine⟨λi=>zs.getD i 0,oneType',λh2 s3 I3=>⟨λQ' q'=>?_,λi j Cc hi hj q'=>?_⟩,λs3 Dn c I3 fD e=>?_⟩
  ·rw[PyProof.Rows.ksk_kind (keys:=us.toArray) (kz:=zs) (by simpa using ia) (by simpa [hu] using h2)];exact zW q'
  ·let⟨t1,e1⟩:=dG ia (i:=i) (by lia);let⟨t2,e2⟩:=dG ia (i:=j) (by lia);unfold W.kas_ask;rw[e1,e2];exact W.kat_lt_int q'
  ·have hv:=i3 (λi=>zs.getD i 0) rvi;have hr:=mN (λi=>zs.getD i 0) rr;have hnD:H3 Dn=none:=fD.1;have I4:=Inv.track (o:=.lst (lT (λi=>zs.getD i 0) ws .non)) I3 fD ⟨by rw[(dy _ _ _).length_eq];exact hz,_,c,hv,e⟩;have G:=(g1.trans g2).trans g3;refine⟨.ref Dn,_,I4.unpinned,rfl,q Dn _ _ HF3 (G.trans (.own G.fh hnD)) (G.hh.free hnD) (G.fh.free hnD) aI (hr.mono g3.ff)⟩
end
end Dl
namespace Srt
open PySem PySem.W PySem.Calls PyProof.Rows L2
variable {a:Int}{n:Nat}
def iadd_rng{R:Result->Shared->Prop}{a b c:Int}{t u v:Tok}(hh:A.handled=none)(hr:IsRange s.heap r a b c t u v)(hsmall:Builtin.Range.small a b c=true)(hn:Builtin.Range.rangeSize a b c=n)(hlen:n<=2 ^ 24)
  (hS:s.heap.get? S=some { cls:=.type "list",data:=.seq #[] })
  (hR:∀h' tk acc' c',(∀b o,b≠S->s.heap.get? b=some o->h'.get? b=some o)->h'.get? S=some { cls:=.type "list",dict:=none,data:=.seq acc' c',slots:=#[] } ->
   ItemsOf (λi v=>∃t,v=.int (a+i * c) t) acc' n->R (.ok (.ret (.ref S))) { s with heap:=h',toks:=tk }):codeAny (model prog w) A (.builtin "list.__iadd__" ⟨[.ref S,.ref r],[]⟩) R s:=by
 refine kF entry_list_iadd' ?_;rw[Around.under_plainId (by decide +kernel:plainId "list.__iadd__"=true) _];exact wpAny_extend_range (A:=A) hh hr hsmall hn hlen S (.ref S) _ hS hR
def collect_rng(hh:A.handled=none)(hr:IsRange s.heap r a b c t u v)(hsmall:Builtin.Range.small a b c=true)(hn:Builtin.Range.rangeSize a b c=n)(hlen:n<=2 ^ 24)
  (h:∀h' tk acc,(∀b o,s.heap.get? b=some o->h'.get? b=some o)->ItemsOf (λi v=>∃t,v=.int (a+i * c) t) acc n->Q acc.toList { s with heap:=h',toks:=tk }):wpAny (model prog w) A (collect (.ref r)) Q E s:=by
 unfold collect;refine zV (wpAny_runValue (kF entry_proto_collect' ?_));rw[Around.under_plainId (by decide +kernel:plainId "proto.collect"=true) _];show wpAny _ A.in1 (newList [] >>= λl=>again (.builtin "list.__iadd__" ⟨[l,.ref r],[]⟩)) _ _ s;refine zV (qL ?_);have hS:(s.heap.push { cls:=.type "list",data:=.seq #[] }).get? s.heap.objs.size=some { cls:=.type "list",data:=.seq #[] }:=zX _ rfl;refine zW ⟨plainId_quiet (by decide +kernel) _,iadd_rng (s:={ s with heap:=s.heap.push { cls:=.type "list",data:=.seq #[] } }) hh (zU _ hr) hsmall hn hlen hS λh' tk acc' c' hk hS' hacc=>?_⟩;show wpAny _ A (load s.heap.objs.size >>= _) _ _ _;refine zV (wpAny_load hS' ?_);exact zW (h h' tk acc' (λb o e=>hk b o (yR (zY e)) (zU _ e)) hacc)
def sortedR{l:Value}{f:Addr}{PV:List Value->Prop}{Q:Value->Shared->Prop}(I:Inv X pins σ H s)
  (hcol:∀ {Q':List Value->Shared->Prop},(∀ (h':Heap) (tk:Nat) (vs:List Value),PV vs->(∀b o,s.heap.get? b=some o->h'.get? b=some o)->Q' vs { s with heap:=h',toks:=tk })->wpAny (model X.prog X.w) A.in1 (collect l) Q' E s)
  (rest:∀vs,PV vs->vs.length < 64/\∃J:List Value->Hp->Prop,J [] H /\
   (∀us v,vs[us.length]?=some v->∀pl s' H',Inv X (pins++pl) σ H' s'->J us H'->wpAny (model X.prog X.w) A.in1.in1 (call (.ref f) [v]) (λu s''=>∃H'',Inv X (pins++pl) σ H'' s''/\J (us++[u]) H'') (λ_ _=>False) s') /\
   (∀us H',us.length=vs.length->J us H'->∃ (z:Nat->Int) (κ:SortKind),(2<=vs.length->∀s',Inv X pins σ H' s'->(∀Q':SortKind->Shared->Prop,Q' κ s'->wpAny (model X.prog X.w) A.in1.in1 (keyKind' us.toArray) Q' (λ_ _=>False) s') /\
    ∀i j C,i < vs.length->j < vs.length->C (SP.dI z i j) s'->kas_ask X.prog X.w A.in1.in1 κ us i j C s') /\
   ∀s' D c,Inv X pins σ H' s'->cA X pins H' D->s'.heap.get? D=some (seqObj "list" (outV z vs).toArray c)->Q (.ref D) s')) :
  wpAny (model X.prog X.w) A (call (.builtin "sorted") [l] [(Str.ofString "key",.ref f)]) Q E s:=by
 refine call_function_entry_kw kind_sorted plain_sorted entry_sorted (ksk_s1 _ _) ?_;unfold Builtin.«sorted»;refine zV (m:=checkCount "sorted" 1 1 _) (zW (zV (hcol λh1 tk vs hv kp=>?_)));let⟨h64,J,j0,step,fin⟩:=rest vs hv;have hsl:vs.length<=sizeLine:=by rw[qU];lia
 refine zV (kN ?_ (by simpa using hsl));have I1:=I.kept (t':=tk) kp;have fD:cA X pins H h1.objs.size:=I1.fpOk (yM _) (I1.hok.fresh (yM _));have hoD:(h1.push (seqObj "list" vs.toArray 0)).get? h1.objs.size=some (seqObj "list" vs.toArray 0):=zX _ rfl;have I2:=I1.kept (t':=tk) (h':=h1.push (seqObj "list" vs.toArray 0)) λb o e=>zU _ e;show wpAny _ _ _ _ _ { s with heap:=h1.push (seqObj "list" vs.toArray 0),toks:=tk };refine zV (xX (wpAny_call_entry_kw slot_list_sort ⟨_,hoD,rfl⟩ entry_list_sort ?body (ksk_l1 _ _)))
 case body =>
  show wpAny (model X.prog X.w) A.in1.in1 (Builtin.«list.sort» ⟨[.ref h1.objs.size],[(Str.ofString "key",.ref f)]⟩) _ _ _;rw[ksk_t1];refine list_sortK I2 hoD fD h64 J j0 step λus H' hu j'=>?_;let⟨z,κ,hz,hP⟩:=fin us H' hu j';exact⟨z,κ,hz,λs' c I' f' e=>⟨_,rfl,zW ⟨_,rfl,hP s' _ c I' f' e⟩⟩⟩
end Srt
namespace Dl
open PySem L2 PySem.Spec PyProof.Rows
def qd(n:Nat):List D:=(List.range n).map λi=>PyData.int ((i:Nat):Int)
def qh(cs:List Nat)(fs:Env->Option (List D))(te:Env->Option D):Env->Option (List D):=λρ=>(fs ρ).bind λl=>match l with
 | [.int n]=>if 0<=n/\n < 64 then (hZ te (eE 1 cs ρ) (qd n.toNat)).bind λks=>(rowsOf ks).map λnss=>lT (λi=>rk nss (nss.getD i [])) (qd n.toNat) .none else none
 | _=>none
def se:∀ {vs:List Value}{k:Nat},(∀i v,vs[i]?=some v->∃t,v=Value.int ((k+i:Nat):Int) t)->aJ ((List.range' k vs.length).map λi=>V.int ((i:Nat):Int)) vs
 | [],k,_=>.nil
 | v::vs,k,h=>by
  rw[zL,vF,zI];let⟨t,e⟩:=h 0 v rfl;refine .cons ⟨t,by simpa using e⟩ (se λi u hu=>?_);let⟨t',e'⟩:=h (i+1) u (by simpa using hu);exact⟨t',by rw[e'];congr 1;lia⟩
def sv{K:W.Frag}:∀ (l:List Nat),ak K HF (l.map λi=>PyData.int ((i:Nat):Int)) (l.map λi=>V.int ((i:Nat):Int))
 | []=>ak.nil
 | i::l=>ak.cons (by simp[Rep]) (sv l)
section
variable {cs:List Nat}
def Bk.sortR(C:Bk X N sc (k+3))(B:mY X "sorted" (.builtin "sorted"))(BR:mY X "range" (.type "range"))(L:pF X qual)(ok:iE sc scope N N' 1 cs=true)(hl:n6 scope N' p=true)
  (hb:∀ (cl:List (Str×Addr)) (pm ctv u:Value) (c:Addr),bindArgs (W.kla_fn "<lambda>" qual params body scope cl pm (.ref c) ctv) ⟨[u],[]⟩=pure [(p,u)]) (hdef:defaultsOf params X.env=([],[])) (h:DA X [e] fs)
  (hY:∀A f c s H,Bk (gh X A qual scope N' f c s H) N' scope k->DE (gh X A qual scope N' f c s H) body te)
  (hsR:starEach [e] X.env=[(false,eval e X.env)])
  (hst:starEach [.Call (.Name "range" p1) [e] [] rpos] X.env=(false,eval (.Call (.Name "range" p1) [e] [] rpos) X.env)::starEach [] X.env) (he:backTo pos (starEach [.Call (.Name "range" p1) [e] [] rpos] X.env)=(false,eval (.Call (.Name "range" p1) [e] [] rpos) X.env)::backTo pos (starEach [] X.env)) (hpl:(backTo pos (starEach [.Call (.Name "range" p1) [e] [] rpos] X.env)).any (·.1)=false) :
  DF X (.Call (.Name "sorted" p0) [.Call (.Name "range" p1) [e] [] rpos] [⟨some "key",.Lambda params body scope lpos,kpos⟩] pos) (qh cs fs te):=by
 let⟨S,_⟩:=C.comp ok;have hnd:N'.Nodup:=by
  unfold iE at ok;simp?[zF,zJ] at ok;exact ok.2
 have hl':=hl;unfold n6 at hl';simp?[zF,xG,yP,xB,zJ] at hl';obtain⟨⟨⟨⟨hnc,hN0⟩,hp⟩,hco⟩,hgen⟩:=hl';let⟨cc,P,hcode,hqual,hhd,ej⟩:=L.ex;intro pins s σ H Q I ⟨HF,ρ,out,sm,eo,hf,q⟩;let⟨ld,hld,hf⟩:=bs hf;obtain⟨n,rfl⟩:∃n,ld=[.int n]:=by
  split at hf
  ·exact⟨_,rfl⟩
  ·cases hf
 simp only at hf;split at hf;rotate_left
 ·cases hf
 rename_i h64;let⟨ks,hks,hf⟩:=bs hf;let⟨nss,hns,rfl⟩:=ag hf;let⟨hkr,hne⟩:=j6 hns;refine qY (iI I B.gl B.mg B.bt ?_ (by decide) (by decide));refine PyProof.Rows.callWith_kw (e:=.Call (.Name "range" p1) [e] [] rpos) (rest:=[]) (kws:=[⟨some "key",.Lambda params body scope lpos,kpos⟩]) ?_ he hpl rfl rfl;rw[he];refine Calls.spliced_cons ?_;refine Call_ (iI I BR.gl BR.mg boot_range (qS (cx (h rpos pins s σ H _ I ⟨HF,ρ,[.int n],sm,eo,hld,λvs H1 HF1 g1 r1=>(⟨HF1,g1,r1⟩:∃HF1,bY HF H HF1 H1/\ak X.K HF1 [.int n] vs)⟩) λus s1 ⟨vs,H1,I1,rv,HF1,g1,r1⟩=>?_) hsR rfl));let⟨v,vr,rfl,a1,b1⟩:=r1.cons_inv;rw[b1.nil_inv] at rv;let⟨u,rfl,rx⟩:=vals1 rv;simp?[Rep] at a1;subst a1;let⟨t,rfl⟩:=rx;refine call_range_1 ?_;refine Calls.spliced_nil ?_;let⟨hn0,hn64⟩:=h64;have I1':=I1.kept (t':=s1.toks+1+1) (h':=s1.heap.push { cls:=Value.type "range",data:=Data.fields #[Value.int 0 s1.toks,Value.int n t,Value.int 1 (s1.toks+1)] }) λb o e=>zU _ e;have hro:(s1.heap.push { cls:=Value.type "range",data:=Data.fields #[Value.int 0 s1.toks,Value.int n t,Value.int 1 (s1.toks+1)] }).get? s1.heap.objs.size=some { cls:=Value.type "range",data:=Data.fields #[Value.int 0 s1.toks,Value.int n t,Value.int 1 (s1.toks+1)] }:=zX _ rfl;have Ir:=I1'.pinned (fp:=[s1.heap.objs.size]) (λb hb=>by rw[List.mem_singleton.mp hb];exact I1.fpOk (yM _) I1.fresh) (λb hb=>by rw[List.mem_singleton.mp hb];exact⟨_,hro,λv z=>by cases z⟩);have hT1:H1 P=some (.tab qual):=g1.fh _ _ (ej HF1 (eo.tb.mono g1.ff));show wpAny _ _ (evalAll ((do let v <- eval (.Lambda params body scope lpos) X.env;standAt pos;pure v)::[])) _ _ _;refine wpAny_evalAll_cons (zV ?_);refine xu (P:=P) Ir S hqual hcode (W.codeHd_of_K Ir.ok.mod.kin hhd) hT1 Ir.ok.mod.bmd hdef λf c' pm ctv s2 H2 I2 hfo hfn hcod s12 fp2 _=>?_;refine zV (vC (zW (wpAny_evalAll_nil ?_)));show wpAny _ _ (call (.builtin "sorted") [.ref s1.heap.objs.size] [(Str.ofString "key",.ref f)]) _ _ s2;have hr2:IsRange s2.heap s1.heap.objs.size 0 n 1 s1.toks t (s1.toks+1):=(Srt.pin_get I2 zE hro).1;have Ip:=I2.pinned (fp:=[f]) (λb hb=>by rw[List.mem_singleton.mp hb];exact fp2) (λb hb=>by rw[List.mem_singleton.mp hb];exact⟨_,hfo,λv z=>by cases z⟩);have g2:bY HF1 H1 HF1 H2:=⟨s12,.refl _,g1.fh.trans s12,λ_ _ e=>.inl e⟩
 have hkl:=nI hks;have hnl:(qd n.toNat).length=n.toNat:=by simp[qd]
 have hR:dP (k+1) X.A.in1.in1:=C.room.in1.in1;refine Srt.sortedR (PV:=λvs=>vs.length=n.toNat/\∀i v,vs[i]?=some v->∃t,v=Value.int ((i:Nat):Int) t) Ip (λ{Q'} hQ=>?_) λits ⟨hil,hiv⟩=>⟨by lia,λus H'=>∃HF' kvs,bY HF1 H2 HF' H'/\ak X.K HF' (ks.take us.length) kvs/\aJ kvs us,⟨HF1,[],.refl g2.fh,by simpa using ak.nil,.nil⟩,λus x hx pl' s3 H3 I3 ⟨HF3,kvs,g3,rk,rvk⟩=>?_,λus H3 hu ⟨HF3,kvs,g3,rk,rvk⟩=>?_⟩
 ·refine Srt.collect_rng (n:=n.toNat) C.room.in1.hd hr2 (small_one (by lia) (by lia) (by lia) (by lia)) (by rw[rangeSize_one];split<;>lia) (by lia) λh' tk acc kp ha=>?_;refine hQ h' tk acc.toList ⟨by have:=ha.1;simpa using this,λi v hv=>?_⟩ kp;let⟨t',e'⟩:=ha.2 i v (by simpa using hv);exact⟨t',by rw[e'];congr 1;lia⟩
 ·have hi:us.length < n.toNat:=by rw[<- hil];exact (List.getElem?_eq_some_iff.mp hx).1
  let⟨tx,rfl⟩:=hiv _ _ hx;have hd:(qd n.toNat)[us.length]?=some (.int ((us.length:Nat):Int)):=by simp[qd,hi]
  let⟨kd,hkd,hki⟩:=pP hks hd;have hfo3:s3.heap.get? f=some (W.kla_obj "<lambda>" qual params body scope (dN X.env scope.names []) pm c' ctv) :=
   (I3.pin (f,_) (yE _ (qJ _ (yE _ (dg zE hfo))))).1
  refine xA (xx (v:=V.int ((us.length:Nat):Int)) (Q:=λv H4=>∃HF4,bY HF3 H3 HF4 H4/\Rep X.K HF4 kd v) (te:=tD X.K te) I3 hR I3.ok.frames S hnc hN0 hp hnd hco hgen hfo3 (g3.hh _ _ hcod) (hb _ _ _ _ _) ⟨tx,rfl⟩ (hY _ _ _ _ _ (FC C hR S.kind hnd hl))
   ⟨HF3,_,kd,g3.fh,xr (eo.mono (g1.ff.trans g3.ff)) (by simp[Rep]),hkd,λv H4 HF4 g4 r4=>⟨HF4,g4,r4⟩⟩) (λu s4 ⟨v4,H4,I4,r4,HF4,g4,rp⟩=>⟨H4,I4,HF4,kvs++[v4],g3.trans g4,?_,rvk.append (.cons r4 .nil)⟩) λ_ _ e=>e
  rw[zN,xC,wR,hki];exact (rk.mono g4.ff).append (ak.cons rp ak.nil)
 ·have hk':ks.take us.length=ks:=kJ (by lia);rw[hk',hkr] at rk;have hnn:nss.length=n.toNat:=by
   have:=jC List.length hkr;rw[zD] at this;lia
  refine⟨λi=>Dl.rk nss (nss.getD i []),tuples' true,λh2 s3 I3=>⟨λQ' q'=>?_,λi j Cc hi hj q'=>?_⟩,λs3 Dn c I3 fD e=>?_⟩
  ·let⟨fs',tt,hlen,hff⟩:=mU (iK I3 g3.fh rk rvk) hne;refine W.kat_kind (T:=.type "int") tt (by lia) (λv hv=>?_) (by decide) q';let⟨n',t',rfl⟩:=hff v hv;exact W.Looks.of_pure rfl
  ·have hp3:=iK I3 g3.fh rk rvk;have ri:=cn (d:=Value.none) (d':=[]) hp3 (show i < us.length by lia);have rj:=cn (d:=Value.none) (d':=[]) hp3 (show j < us.length by lia);let⟨a,o,its1,n1,ea,e1,e2,e3,e4⟩:=ri.ex;let⟨b,o',its',n',eb,f1,f2,f3,f4⟩:=rj.ex;unfold W.kas_ask;rw[ea,eb];have hmem:nss.getD i []∈nss:=by
    rw[zG,zK (by lia)];exact qA _
   have q2:Cc (lexLt (nss.getD i []) (nss.getD j [])) s3:=by
    rw[wg hmem];exact q'
   refine W.kat_lt e1 e3 f1 f3 ?_;have:=mG (prog:=X.prog) (w:=X.w) (A:=X.A.in1.in1) (s:=s3) 0 e4 f4 q2;have l1:its1.size=(nss.getD i []).length:=by have:=vX e4;simpa using this
   have l2:its'.size=(nss.getD j []).length:=by have:=vX f4;simpa using this
   rw[l1,l2];exact this
  ·have rvi:aJ ((List.range n.toNat).map λi=>V.int ((i:Nat):Int)) its:=by
    have:=se (vs:=its) (k:=0) λi v hv=>by
     let⟨t',e'⟩:=hiv i v hv;exact⟨t',by rw[e'];congr 1;lia⟩
    rw[hil,<- List.range_eq_range'] at this;exact this
   have rr:ak X.K HF1 (qd n.toNat) ((List.range n.toNat).map λi=>V.int ((i:Nat):Int)):=sv _;have hv:=i3 (λi=>Dl.rk nss (nss.getD i [])) rvi;have hr:=mN (λi=>Dl.rk nss (nss.getD i [])) rr;have hnD:H3 Dn=none:=fD.1;have I4:=Inv.track (o:=.lst (lT (λi=>Dl.rk nss (nss.getD i [])) ((List.range n.toNat).map λi=>V.int ((i:Nat):Int)) .non)) I3 fD ⟨by rw[(dy _ _ _).length_eq,zD,zR,PySem.sizeLine_eq];lia,_,c,hv,e⟩;have G:=(g1.trans g2).trans g3;refine⟨.ref Dn,_,I4.unpinned.unpinned,rfl,q Dn _ _ HF3 (G.trans (.own G.fh hnD)) (G.hh.free hnD) (G.fh.free hnD) aI (hr.mono g3.ff)⟩
end
def Gp(i j l:Nat):Env->D->Option Env:=λρ d=>match d with
 | .tuple [x,y,z]=>if isFree ρ i=true/\isFree ρ j=true/\isFree ρ l=true then some (((ρ.set i (some x)).set j (some y)).set l (some z)) else none
 | _=>none
def Fz(i j l:Nat)(hc:X.calm=true)(hN:X.N.Nodup)(hi:X.N[i]?=some x)(hx:Loc X.env.scope x)(hj:X.N[j]?=some y)(hy:Loc X.env.scope y)(hl:X.N[l]?=some z)(hz:Loc X.env.scope z)
  (hf:X.fn x=true\/X.env.scope.names.lookup x=some .local) (hf':X.fn y=true\/X.env.scope.names.lookup y=some .local) (hf'':X.fn z=true\/X.env.scope.names.lookup z=some .local) :
  DG X (.Tuple [.Name x px,.Name y py,.Name z pz] k pos) (Gp i j l) :=
 ph (uw hc (cW (c6 hN hi hx hf) (cW (c6 hN hj hy hf') (cW (c6 hN hl hz hf'') oS)))) λv σ H Q ⟨HF,ρ,d,ρ',sm,eo,r,hf,q⟩=>by
  unfold Gp at hf;split at hf
  ·rename_i x' y' z';split at hf
   ·rename_i hh;cases hf;simp?[Rep] at r;let⟨a,vs,rfl,hs,rr⟩:=r;let⟨v1,r1,rfl,a1,b1⟩:=rr.cons_inv;let⟨v2,r2,rfl,a2,b2⟩:=b1.cons_inv;let⟨v3,r3,rfl,a3,b3⟩:=b2.cons_inv;rw[b3.nil_inv] at hs;exact⟨a,_,rfl,aE sm hs,rfl,v1,_,rfl,v2,_,rfl,v3,_,rfl,rfl,q _ (iz (iz (iz eo a1) a2) a3) (ki (ki (ki eo hh.1) hh.2.1) hh.2.2)⟩
   ·cases hf
  ·cases hf
def CW:List D->Option D
 | [.int a,.int b]=>some (.int (max a b))
 | _=>none
def D8(hc:X.calm=true):dh X (.builtin "max") (λxs H Q=>∃a b:Int,xs=[.int a,.int b]/\Q (.int (max a b)) H):=by
 intro pins s σ H xs us Q I r h;have hh:X.A.handled=none:=I.ok.hd hc;let⟨a,b,rfl,q⟩:=h;cases r with
 | cons r1 r =>
  cases r with
  | cons r2 r =>
   cases r;let⟨t,rfl⟩:=r1;let⟨u,rfl⟩:=r2;refine max_two_ints hh λh' tk kp=>⟨.int (max a b),H,I.kept (t':=tk) kp,?_,q⟩
   by_cases h:b > a
   ·rw[yL h,show max a b=b by lia];exact⟨_,rfl⟩
   ·rw[yN h,show max a b=a by lia];exact⟨_,rfl⟩
def Ki(hc:X.calm=true)(B:mY X "max" (.builtin "max"))(he:starEach (e::es) X.env=(false,eval e X.env)::starEach es X.env)(hpl:(backTo pos (starEach es X.env)).any (·.1)=false)(ha:DA X (e::es) fs):DE X (.Call (.Name "max" p) (e::es) [] pos) (bu CW fs) :=
 gZ (D8 hc) (by
  intro HF H ds vs d Q sm r hg q;unfold CW at hg;split at hg
  ·cases hg;let⟨v1,r1,rfl,a1,b1⟩:=r.cons_inv;let⟨v2,r2,rfl,a2,b2⟩:=b1.cons_inv;rw[b2.nil_inv];simp?[Rep] at a1 a2;exact⟨_,_,by rw[a1,a2],q _ H HF (.refl sm) (by simp[Rep])⟩
  ·cases hg) B ha (by decide) (by decide) he hpl
def Nt(x y:D):Option Bool:=match y with
 | .tuple ds=>if SeqAt.shaped x=true/\SeqAt.shaped y=true then some (!ds.any λz=>PyData.eqv z x) else none
 | .list ds=>if SeqAt.shaped x=true/\SeqAt.shaped y=true then some (!ds.any λz=>PyData.eqv z x) else none
 | _=>none
def DQ(hu:X.A.units+66 < cLine):ie X (compareOp .NotIn) (MV X.K Nt):=by
 intro pins s σ H v1 v2 u1 u2 Q I rx ry h;let⟨HF,x,y,k,sm,r1,r2,hg,q⟩:=h;let⟨as,ra⟩:=fM I sm r1 rx;let⟨bs,rb⟩:=fM I sm r2 ry;cases y<;>simp?[Nt] at hg<;>try cases hg
 all_goals
  split at hg<;>cases hg;rename_i ds hh;have c1:=SeqAt.canLay_of_shaped hh.1;have c2:=SeqAt.canLay_of_shaped hh.2;have d1:=SeqAt.depth_of_shaped hh.1;simp?[PyData.canLay0] at c2;have m:=Nat.min_le_right (PyData.depthAll ds) x.depth
  first
   | exact SeqAt.notIn_list_reads rb ra c2 c1 (by lia) ⟨.bl _,H,I,rfl,q⟩
   | exact SeqAt.notIn_tuple_reads rb ra c2 c1 (by lia) ⟨.bl _,H,I,rfl,q⟩
def rC:D->D->Option D:=λx y=>(Nt x y).map PyData.bool
def Bk.notin(C:Bk X N sc k)(ha:DE X a fa)(hb:DE X b fb)(hm:behindInMarks .NotIn b=false:=by rfl):DE X (.Compare a [.NotIn] [b] pos) (f2 rC fa fb):=js (DQ C.u66) iM ha hb hm
def Bk.tnin(C:Bk X N sc k)(ha:DE X a fa)(hb:DE X b fb)(hm:behindInMarks .NotIn b=false:=by rfl):DT X (.Compare a [.NotIn] [b] pos) (fB (f2 rC fa fb)):=i6 (DQ C.u66) iM ha hb hm
structure OM(h:Heap)(v:Value)(r:List Int):Prop where
 ex:∃ (a:Addr) (o:Obj) (n:Nat) (p:Value) (x y m:Int) (t:Tok),v=.ref a/\r=[x,y,m]/\h.get? a=some o/\o.cls=.type "tuple"/\o.data=.seq #[p,.int m t] n/\kl h p [x,y]
end Dl
namespace HT
open PySem PyProof.Rows
section
open PySem.SeqAt
open PySem.AutoSeq1 (wpAny_loadPart')
open PySem.MeetsSeq PySem.MeetsSeq2 PySem.MeetsSeq3
end
end HT
namespace Dl
open PySem L2 PySem.Spec PyProof.Rows
def iP:List D->Option (List (List Int))
 | []=>some []
 | d::r=>(kg d).bind λns=>(iP r).map (ns::·)
section
variable {fl te:Env->Option D}{cs:List Nat}
end
end Dl
namespace Se
open PySem PySem.W PySem.Calls PyProof.Rows
def draw_walk{P:Nat->Value->Prop}{St:Nat->Heap->Prop}(W:Walks prog w A I fp wr n P St):∀ (m i:Nat) (s:Shared) (Q:List Value->Shared->Prop),i+m=n->St i s.heap ->
  (∀ (h':Heap) (tk:Nat) (vs:List Value),St n h'->vs.length=m->(∀j v,vs[j]?=some v->P (i+j) v)->(∀b o,b∉wr->s.heap.get? b=some o->h'.get? b=some o)->Q vs { s with heap:=h',toks:=tk })->wpAny (model prog w) A (draw (.ref I) m) Q E s
 | 0,i,s,Q,e,hst,hQ=>by
  show wpAny _ _ (pure []) Q E s;rw[Nat.add_zero] at e;subst e;exact zW (hQ s.heap s.toks [] hst rfl (λj v h=>by simp at h) λb o _ x=>x)
 | m+1,i,s,Q,e,hst,hQ=>by
  show wpAny _ _ (pyNext (.ref I) >>= _) Q E s;refine zV (W.item i s _ _ (by lia) hst λv h' tk hP hst' hk=>?_);refine zV (xX (draw_walk W m (i+1) _ _ (by lia) hst' λh2 tk2 vs hn hl hv hk2=>zW ?_));refine hQ h2 tk2 (v::vs) hn (by rw[zL,hl]) (λj u hu=>?_) λb o hb x=>hk2 b o hb (hk b o hb x);cases j with
  | zero=>cases hu;exact hP
  | succ j=>rw[show i+(j+1)=i+1+j by lia];exact hv j u hu
def unpack_list{Q:List Value->Shared->Prop}(hh:A.handled=none)(hl:s.heap.IsList l items)(hQ:∀ (h':Heap) (tk:Nat),(∀b o,s.heap.get? b=some o->h'.get? b=some o)->Q items.toList { s with heap:=h',toks:=tk }):wpAny (model prog w) A (unpackItems (.ref l) items.size none) Q E s:=by
 have hlt:l≠s.heap.objs.size:=by let⟨o,ho,_⟩:=hl;exact yR (zY ho)
 unfold unpackItems;refine zV ?_;unfold notIterableAtAll;refine zV (wpAny_specialOf hl.typeIs PySem.F.slot_list_iter.lookup ?_);refine zW ?_;simp?[yO,qP];refine zV (xX (qK hl ?_));have W:=Walks.list (prog:=prog) (w:=w) hh s.heap.objs.size l hlt items;refine zV (xX (draw_walk W items.size 0 _ _ (by lia) ⟨⟨_,zX _ rfl,rfl,rfl⟩,hl.push _⟩ λh1 tk vs hst hlen hv hk=>?_));have e:vs=items.toList:=by
  refine List.ext_getElem? λj=>?_;rcases Nat.lt_or_ge j items.size with z|z
  ·have z1:j < vs.length:=by lia
   have:=hv j vs[j] (by simp[z1]);rw[jD] at this;have e2:items.toList[j]?=items[j]?:=Array.getElem?_toList;rw[e2,this];simp[z1]
  ·have e2:items.toList[j]?=items[j]?:=Array.getElem?_toList;rw[e2,Array.getElem?_eq_none z,jL (by lia)]
 subst e;rw[yN (by simp)];refine zV (xX (W.done _ _ _ hst λh2 tk2 hk2=>?_));simp?[Option.isSome_none,yO,qP];refine zW (hQ h2 tk2 λb o x=>?_);have hb:b∉[s.heap.objs.size]:=by rw[yJ];exact yR (zY x)
 exact hk2 b o hb (hk b o hb (zU _ x))
def assign_list{env:Env}{elts:List Expr}{Q:Unit->Shared->Prop}(hh:A.handled=none)(hl:s.heap.IsList l items)
  (hn:(assignEach elts env).length=items.size) (hstar:(assignEach elts env).findIdx? (·.1)=none)
  (h:∀ (h':Heap) (tk:Nat),(∀b o,s.heap.get? b=some o->h'.get? b=some o)->wpAny (model prog w) A (assignInOrder ((assignEach elts env).map (·.2)) items.toList) Q E { s with heap:=h',toks:=tk }) :
  wpAny (model prog w) A (assign (.Tuple elts x1 pos) env (.ref l)) Q E s:=by
 rw[PyProof.Rows.assign_Tuple];refine zV (vC ?_);unfold unpack;rw[hn,hstar];exact zV (xX (unpack_list hh hl h))
end Se
namespace L2
open PySem PySem.Spec PyProof.Rows
def Mu(K:W.Frag)(n:Nat)(t:L0):TG:=λv σ H Q=>∃a xs,v=.ref a/\(iL K H a xs\/gw K H a xs)/\xs.length=n/\t xs σ H Q
def Hw{k:Nat}(hc:X.calm=true)(h:Ms X es t)
  (hn:(assignEach es X.env).length=n:=by rfl) (hst:(assignEach es X.env).findIdx? (·.1)=none:=by rfl):PG X (.Tuple es k pos) (Mu X.K n t):=by
 intro pins s σ H v u Q I r hw;let⟨a,xs,e1,hq,hl,hw⟩:=hw;rcases hq with hq|hq
 ·exact uw hc h hn hst pins s σ H v u Q I r ⟨a,xs,e1,hq,hl,hw⟩
 ·subst e1;cases r;let⟨its,rv,pl,hz⟩:=I.list hq;refine Se.assign_list (I.ok.hd hc) pl.isList (by simp[hn,<- hl,rv.length]) hst λh' tk hk=>?_;exact h pins _ σ H xs _ Q (I.kept (t':=tk) hk) (by simpa using rv) hw
end L2
namespace Dl
open PySem L2 PySem.Spec PyProof.Rows
def BX:Expr->Bool
 | .Call ..=>true
 | .Subscript ..=>true
 | .Name ..=>true
 | _=>false
def lM(i j l:Nat)(fz:List Nat)(f:Env->Option D):ar->Option Out:=λρ=>(f (bS (hand fz 0 ρ))).bind λd=>match d with
 | .tuple [x,y,z]=>some (.nx ((((if gN (.tuple [x,y,z])=true then ρ else hand fz 0 ρ).set i (.val x)).set j (.val y)).set l (.val z)))
 | .list [x,y,z]=>some (.nx ((((hand fz 0 ρ).set i (.val x)).set j (.val y)).set l (.val z)))
 | _=>none
def Ed(i j l:Nat)(fz:List Nat)(hc:X.calm=true)(hN:X.N.Nodup)(hi:X.N[i]?=some x)(hx:Loc X.env.scope x)(hj:X.N[j]?=some y)(hy:Loc X.env.scope y)(hl:X.N[l]?=some z)(hz:Loc X.env.scope z)(hp:BX e=true)(he:DE X e f)
  (h1:X.fn x=true\/X.env.scope.names.lookup x=some .local) (h2:X.fn y=true\/X.env.scope.names.lookup y=some .local) (h3:X.fn z=true\/X.env.scope.names.lookup z=some .local):DS X HF₀ H₀ (.Assign [.Tuple [.Name x px,.Name y py,.Name z pz] m pt] e pos) (lM i j l fz f) :=
 c7 (EI he (Hw hc (cW (c6 hN hi hx h1) (cW (c6 hN hj hy h2) (cW (c6 hN hl hz h3) oS)))) (by cases e<;>first|rfl|cases hp) (by cases e<;>first|rfl|cases hp)) λE σ H ⟨HF,ρ,o,S,hg,q⟩=>by
  unfold lM at hg;let⟨d,h,hg⟩:=bs hg;split at hg
  ·rename_i u v t;cases hg;let⟨HF1,s1,S1⟩:=S.hand fz;refine⟨HF1,_,.tuple [u,v,t],S1.gr.fh,S1.frz,h,λw H' HF' G r=>?_⟩;simp?[Rep] at r;let⟨a,vs,rfl,hs,rr⟩:=r;let⟨v1,r1,rfl,a1,b1⟩:=rr.cons_inv;let⟨v2,r2,rfl,a2,b2⟩:=b1.cons_inv;let⟨v3,r3,rfl,a3,b3⟩:=b2.cons_inv;rw[b3.nil_inv] at hs;refine⟨a,_,rfl,.inl (aE G.fh hs),rfl,v1,_,rfl,v2,_,rfl,v3,_,rfl,rfl,?_⟩;by_cases hn:gN (.tuple [u,v,t])=true
   ·rw[yL hn] at q;let⟨HF2,s2,S2,hb,_⟩:=S.back S1 s1 G;simp?[gN,pd,zF,Bool.and_true] at hn;exact q _ H' HF2 (((S2.setV (hb u v1 hn.1 a1)).setV (hb v v2 hn.2.1 a2)).setV (hb t v3 hn.2.2 a3)) s2
   ·rw[yN hn] at q;exact q _ H' HF' ((((S1.grow G).setV a1).setV a2).setV a3) (s1.trans G.ff)
  ·rename_i u v t;cases hg;let⟨HF1,s1,S1⟩:=S.hand fz;refine⟨HF1,_,.list [u,v,t],S1.gr.fh,S1.frz,h,λw H' HF' G r=>?_⟩;simp?[Rep] at r;let⟨a,vs,rfl,hs,rr⟩:=r;let⟨v1,r1,rfl,a1,b1⟩:=rr.cons_inv;let⟨v2,r2,rfl,a2,b2⟩:=b1.cons_inv;let⟨v3,r3,rfl,a3,b3⟩:=b2.cons_inv;rw[b3.nil_inv] at hs;exact⟨a,_,rfl,.inr (G.fh.seq hs),rfl,v1,_,rfl,v2,_,rfl,v3,_,rfl,rfl,q _ H' HF' ((((S1.grow G).setV a1).setV a2).setV a3) (s1.trans G.ff)⟩
  ·cases hg
end Dl
namespace Se
open PySem PySem.W PySem.Calls PyProof.Rows
variable {Q:Option Value->Shared->Prop}
def slot_next:Slot "set_iterator" "__next__" "set_iterator.__next__" :=
 .of (owner:="set_iterator") (n:="__next__") (by rw[typeLookup_type,builtinLookup_eq_fast];kernel_rfl) (by decide +kernel) (by decide +kernel) (by decide +kernel) (by first|exact .inl (by decide +kernel)|exact .inr (by decide +kernel)) (by rw[isSubtype_type];kernel_rfl)
def entry_next:entryFor table "set_iterator.__next__"=some Builtin.«set_iterator.__next__»:=entryFor_of_tree (by kernel_rfl)
def args_next(a:Value):argsOk "set_iterator.__next__" ⟨[a],[]⟩:=by unfold argsOk;kernel_rfl
def entry_iter:entryFor table "set.__iter__"=some Builtin.«frozenset.__iter__»:=entryFor_alias (id':="frozenset.__iter__") (by kernel_rfl) rfl (by decide +kernel) (by kernel_rfl)
def erase_perm:∀ (l:List α) (i:Nat) (h:i < l.length),(l[i]::l.eraseIdx i).Perm l
 | a::l,0,_=>.refl _
 | a::l,i+1,h=>by
  rw[List.getElem_cons_succ,List.eraseIdx_cons_succ];exact (List.Perm.swap a _ _).trans ((erase_perm l i (by simpa using h)).cons a)
def pick_perm{α:Type}(next:Nat->Nat):∀ (n k:Nat) (left:List α) (out:Array α),left.length=n->(pickOrder.go next n k left out).toList.Perm (out.toList++left)
 | 0,_,left,out,h=>by
  rw[List.length_eq_zero_iff.mp h,qF];exact .refl _
 | n+1,k,left,out,h=>by
  have hl:next k % left.length < left.length:=Nat.mod_lt _ (by lia)
  have e:left[next k % left.length]?=some left[next k % left.length]:=by simp[hl]
  rw[pickOrder.go,e];refine (pick_perm next n (k+1) _ _ (by rw[List.length_eraseIdx,yL hl];lia)).trans ?_;rw[Array.toList_push,List.append_assoc];refine List.Perm.append_left _ ?_;exact erase_perm left _ hl
def pick_all{α:Type}(next:Nat->Nat)(xs:Array α):(pickOrder next xs).toList.Perm xs.toList:=by
 unfold pickOrder;exact pick_perm next xs.size 0 xs.toList #[] (by simp)
def ordE(w:World)(a:Addr)(ep:Nat)(es:Array (Int×Value)):Array (Int×Value):=if w.params.followText "set-order"=true then pickOrder (w.params.setOrder a ep) es else es
def ordE_perm:(ordE w a ep es).toList.Perm es.toList:=by
 unfold ordE;split
 ·exact pick_all _ _
 ·exact .refl _
def ordE_size:(ordE w a ep es).size=es.size:=by rw[<- wC,ordE_perm.length_eq,wC]
structure SetAt(w:World)(h:Heap)(a:Addr)(es:Array (Int×Value))(ep:Nat)(t:SetTable):Prop where
 get:∃o,h.get? a=some o/\o.ExactSet/\o.data=.set es ep t
 fits:t.fits es.size=true
 plain:t.plain=true
 led:t.led=!(w.params.followText "set-order")
 ris:∀i j,i < j->j < t.place.size->t.place.getD i 0 < t.place.getD j 0
def IsIt(h:Heap)(I a:Addr)(slot i n ep:Nat):Prop:=∃o,h.get? I=some o/\o.cls=.type "set_iterator"/\o.data=.fields #[.int slot 0,.int i 0,.ref a,.int n 0,.int ep 0]
def below_go(xs:Array Nat)(j:Nat)(hr:∀a b,a < b->b < xs.size->xs.getD a 0 < xs.getD b 0)(k:Nat)(hk:k<=xs.size)(h1:∀a,a < k->xs.getD a 0 < j)(h2:∀a,k<=a->a < xs.size->j<=xs.getD a 0):∀ (f lo hi:Nat),lo<=k->k<=hi->hi<=xs.size->hi - lo<=f->SetTable.below.go xs j f lo hi=k
 | 0,lo,hi,a,b,_,d=>by
  rw[SetTable.below.go];lia
 | f+1,lo,hi,a,b,c,d=>by
  rw[SetTable.below.go];split
  ·rename_i hlt;have hm:(lo+hi) / 2 < xs.size:=by lia
   have e:xs.getD ((lo+hi) / 2) j=xs.getD ((lo+hi) / 2) 0:=by simp[hm]
   dsimp only;rw[e];by_cases hx:xs.getD ((lo+hi) / 2) 0 < j
   ·rw[yL hx];refine below_go xs j hr k hk h1 h2 f ((lo+hi) / 2+1) hi ?_ b c (by lia);rcases Nat.lt_or_ge ((lo+hi) / 2) k with z|z
    ·lia
    ·have:=h2 _ z hm;lia
   ·rw[yN hx];refine below_go xs j hr k hk h1 h2 f lo ((lo+hi) / 2) a ?_ (by lia) (by lia);rcases Nat.lt_or_ge ((lo+hi) / 2) k with z|z
    ·exact absurd (h1 _ z) hx
    ·exact z
  ·lia
def below_is{xs:Array Nat}{j k:Nat}(hr:∀a b,a < b->b < xs.size->xs.getD a 0 < xs.getD b 0)(hk:k<=xs.size)(h1:∀a,a < k->xs.getD a 0 < j)(h2:∀a,k<=a->a < xs.size->j<=xs.getD a 0):SetTable.below xs j=k:=by
 unfold SetTable.below;exact below_go xs j hr k hk h1 h2 _ _ _ (xV _) hk (yM _) (by lia)
def slotOf(w:World)(t:SetTable)(i:Nat):Nat:=if w.params.followText "set-order"=true then 0 else if i=0 then 0 else t.place.getD (i - 1) 0+1
def slot_below(S:SetAt w h a es ep t)(hb:w.params.followText "set-order"=false)(hi:i<=es.size):SetTable.below t.place (slotOf w t i)=i:=by
 have hf:=S.fits;simp?[SetTable.fits,zF,vJ] at hf;have hs:t.place.size=es.size:=hf.1;unfold slotOf;rw[yN (by rw[hb];exact yZ)];refine below_is S.ris (by lia) (λa ha=>?_) (λa ha hb=>?_)
 ·rw[yN (by lia)];rcases Nat.lt_or_ge a (i - 1) with z|z
  ·have:=S.ris a (i - 1) z (by lia);lia
  ·have:a=i - 1:=by lia
   rw[this];lia
 ·by_cases z:i=0
  ·rw[yL z];exact xV _
  ·rw[yN z];exact S.ris (i - 1) a (by lia) hb
def fit2(S:SetAt w h a es ep t):t.place.size=es.size/\t.fill<=t.mask:=by
 have hf:=S.fits;simp?[SetTable.fits,zF,vJ,zJ] at hf;exact hf
def wp_setNext{Q:Option (Value×Nat)->Shared->Prop}(S:SetAt w s.heap a es ep t)(hi:i<=es.size)(h:Q (((ordE w a ep es)[i]?).map λe=>(e.2,slotOf w t (i+1))) s):wpAny (model prog w) A (setNext a (slotOf w t i) i ep) Q E s:=by
 let⟨o,ho,hx,hd⟩:=S.get;let⟨hs,hf⟩:=fit2 S;unfold setNext;refine zV (wpAny_setState_of ho hd S.fits ?_);dsimp only;refine zV (m:=setsByText) ?_;unfold setsByText;refine zV (wpAny_askSetting (zW ?_));show wpAny _ _ (if w.params.followText "set-order"=true then _ else _) _ _ _;cases hb:w.params.followText "set-order" with
 | true =>
  rw[yL rfl];have he:(ep != ep)=false:=by simp
  simp?[he,yO,qP];refine zV ?_;unfold setWalk;refine zV (wpAny_setState_of ho hd S.fits ?_);dsimp only;refine zV (m:=setsByText) ?_;unfold setsByText;refine zV (wpAny_askSetting (zW ?_));show wpAny _ _ (if w.params.followText "set-order"=true then _ else _) _ _ _;rw[yL hb];refine zV (wpAny_askSetting (zW (zW ?_)));have e1:ordE w a ep es=pickOrder (w.params.setOrder a ep) es:=yL hb;have e2:slotOf w t i=slotOf w t (i+1):=by unfold slotOf;rw[yL hb,yL hb]
  rw[e1] at h;rw[e2];exact h
 | false =>
  rw[yN yZ];have e1:ordE w a ep es=es:=yN (by rw[hb];exact yZ);rw[e1] at h;have c1:(!t.plain&&decide (es.size > 1))=false:=by rw[S.plain];rfl
  show wpAny _ _ (if (!t.plain&&decide (es.size > 1))=true then _ else _) _ _ _;rw[yN (by rw[c1];exact yZ)];have hl:t.led=true:=by rw[S.led,hb];rfl
  refine zV (wpAny_of_eq (a:=()) ?_ ?_)
  ·show (if (!t.led&&!es.isEmpty)=true then _ else _)=_;rw[yN (by rw[hl];exact yZ)]
  ·rw[slot_below S hb hi];refine zW ?_;rcases Nat.lt_or_ge i es.size with z|z
   ·have z':i < t.place.size:=by lia
    have e3:slotOf w t (i+1)=t.place[i]+1:=by
     unfold slotOf;rw[yN (by rw[hb];exact yZ),yN (by lia)];simp[z']
    rw[jY z,e3] at h;rw[jY z,jY z'];exact h
   ·rw[Array.getElem?_eq_none z] at h ⊢;exact h
def slot_iter:Slot "set_iterator" "__iter__" "set_iterator.__iter__" :=
 .of (owner:="set_iterator") (n:="__iter__") (by rw[typeLookup_type,builtinLookup_eq_fast];kernel_rfl) (by decide +kernel) (by decide +kernel) (by decide +kernel) (by first|exact .inl (by decide +kernel)|exact .inr (by decide +kernel)) (by rw[isSubtype_type];kernel_rfl)
def entry_it_iter:entryFor table "set_iterator.__iter__"=some Builtin.«dict_keyiterator.__iter__»:=entryFor_alias (id':="dict_keyiterator.__iter__") (by kernel_rfl) rfl (by decide +kernel) (by kernel_rfl)
def args_it_iter(a:Value):argsOk "set_iterator.__iter__" ⟨[a],[]⟩:=by unfold argsOk;kernel_rfl
def IsIt.typeIs(x:IsIt s.heap I a slot i n ep):Shared.TypeIs s (.ref I) "set_iterator":=let ⟨o,ho,hc,_⟩:=x;⟨o,ho,hc⟩
def next_item(S:SetAt w s.heap a es ep t)(x:IsIt s.heap I a (slotOf w t i) i es.size ep)(hx:(ordE w a ep es)[i]?=some e)
  (hQ:∀h',IsIt h' I a (slotOf w t (i+1)) (i+1) es.size ep->Heap.SameBut I s.heap h'->Q (some e.2) { s with heap:=h' }):wpAny (model prog w) A (pyNext (.ref I)) Q E s:=by
 let⟨o,ho,hc,hd⟩:=id x;let⟨os,hos,hex,hds⟩:=S.get;have hi:i<=es.size:=by
  rcases Nat.lt_or_ge i es.size with z|z
  ·lia
  ·rw[Array.getElem?_eq_none (by rw[ordE_size];exact z)] at hx;cases hx
 unfold pyNext;refine zV (kO (qC (name:=Str.ofString "__next__") x.typeIs slot_next (qV slot_next x.typeIs entry_next ?_ (args_next _))));unfold Builtin.«set_iterator.__next__»;refine zV (zW ?_);refine zV (wpAny_fieldsOf ho hd ?_);show wpAny _ _ (setEntries a >>= _) _ _ s;refine zV (wpAny_setEntries_of hos hds S.fits ?_);have h0:(((es.size:Nat):Int) != ((es.size:Nat):Int))=false:=by simp
 simp?[h0,yO,qP];show wpAny _ _ (setNext a (Int.toNat ((slotOf w t i:Nat):Int)) (Int.toNat ((i:Nat):Int)) (Int.toNat ((ep:Nat):Int)) >>= _) _ _ s;rw[yG,yG,yG];refine zV (wp_setNext S hi ?_);rw[hx];show wpAny _ _ (setField (.ref I) 0 (rawInt ((slotOf w t (i+1):Nat):Int)) >>= _) _ _ s;refine zV (wpAny_setField ho hd (by simp) ?_);have hd1:=Obj.data_mapFields hd (·.setIfInBounds 0 (rawInt ((slotOf w t (i+1):Nat):Int)));have ho1:(s.heap.update I (Obj.mapFields (·.setIfInBounds 0 (rawInt ((slotOf w t (i+1):Nat):Int))))).get? I=some (Obj.mapFields (·.setIfInBounds 0 (rawInt ((slotOf w t (i+1):Nat):Int))) o):=Heap.get?_update_self _ ho (Obj.isFreed_of_fields hd1);refine zV (wpAny_setField ho1 hd1 (by simp) ?_);have hd2:=Obj.data_mapFields hd1 (·.setIfInBounds 1 (rawInt (((i:Nat):Int)+1)));refine zW ⟨_,rfl,zW (hQ _ ⟨_,Heap.get?_update_self _ ho1 (Obj.isFreed_of_fields hd2),?_,?_⟩ ((Heap.SameBut.update ..).trans (Heap.SameBut.update ..)))⟩
 ·exact ((Obj.cls_mapFields ..).trans (Obj.cls_mapFields ..)).trans hc
 ·rw[hd2];simp[rawInt]
def next_end(hh:A.handled=none)(S:SetAt w s.heap a es ep t)(x:IsIt s.heap I a (slotOf w t es.size) es.size es.size ep)
  (hQ:∀h',Heap.ExtBut I s.heap h'->Q none { s with heap:=h' }):wpAny (model prog w) A (pyNext (.ref I)) Q E s:=by
 let⟨o,ho,hc,hd⟩:=id x;let⟨os,hos,hex,hds⟩:=S.get;unfold pyNext;refine zV (kO (qC (name:=Str.ofString "__next__") x.typeIs slot_next (qV slot_next x.typeIs entry_next ?_ (args_next _))));unfold Builtin.«set_iterator.__next__»;refine zV (zW ?_);refine zV (wpAny_fieldsOf ho hd ?_);show wpAny _ _ (setEntries a >>= _) _ _ s;refine zV (wpAny_setEntries_of hos hds S.fits ?_);have h0:(((es.size:Nat):Int) != ((es.size:Nat):Int))=false:=by simp
 simp?[h0,yO,qP];show wpAny _ _ (setNext a (Int.toNat ((slotOf w t es.size:Nat):Int)) (Int.toNat ((es.size:Nat):Int)) (Int.toNat ((ep:Nat):Int)) >>= _) _ _ s;rw[yG,yG,yG];refine zV (wp_setNext S (yM _) ?_);rw[Array.getElem?_eq_none (by rw[ordE_size];exact yM _)];show wpAny _ _ (setField (.ref I) 2 .none >>= _) _ _ s;refine zV (wpAny_setField ho hd (by simp) ?_);show wpAny _ _ (newExc (.type "StopIteration") [] >>= _) _ _ _;refine zV ?_;simp?[newExc,newTuple];refine zV (qL ?_ (by size_fits));refine zV (m:=firstArgMember _ _) (wpAny_of_eq (a:=Value.none) (by first|rfl|(simp?[firstArgMember];rfl)) ?_);refine qL ?_ (by size_fits);simp?[raiseNew];refine zV (wpAny_handled ?_);rw[show A.in1.handled=none from hh];refine zV (zW (wpAny_throw ?_));refine zV (wpAny_isInstance (T:="StopIteration") (b:=true) ⟨_,zX _ rfl,rfl⟩ isSubtype_stop ?_);exact zW (hQ _ (((Heap.SameBut.update ..).extBut.push _).push _))
def SetAt.at(S:SetAt w h a es ep t)(e:∀o,h.get? a=some o->h'.get? a=some o):SetAt w h' a es ep t:=⟨let ⟨o,ho,r⟩:=S.get;⟨o,e _ ho,r⟩,S.fits,S.plain,S.led,S.ris⟩
def IsIt.at(x:IsIt h I a slot i n ep)(e:∀o,h.get? I=some o->h'.get? I=some o):IsIt h' I a slot i n ep:=let ⟨o,ho,r⟩:=x;⟨o,e _ ho,r⟩
def pyIter_set{Q:Value->Shared->Prop}(S:SetAt w s.heap a es ep t)
  (hQ:Q (.ref s.heap.objs.size) { s with heap:=s.heap.push { cls:=.type "set_iterator",data:=.fields #[.int 0 0,.int 0 0,.ref a,.int es.size 0,.int ep 0] } }):wpAny (model prog w) A (pyIter (.ref a)) Q E s:=by
 let⟨o,ho,hex,hd⟩:=S.get;have hT:Shared.TypeIs s (.ref a) "set":=⟨o,ho,hex.1⟩
 refine wpAny_pyIter_slot hT PySem.F.slot_set_iter (qV PySem.F.slot_set_iter hT entry_iter ?_ (PySem.F.args_set_iter_1 _));unfold Builtin.«frozenset.__iter__»;refine zV (wpAny_of_eq (a:=a) (by rfl) ?_);refine zV ?_;unfold Builtin.Frozenset.sizeOf;refine zV (wpAny_setEntries_of ho hd S.fits (zW ?_));refine zV ?_;unfold setDrawn;refine zV (wpAny_setState_of ho hd S.fits ?_);dsimp only;refine zV (m:=setsByText) ?_;unfold setsByText;refine zV (wpAny_askSetting (zW (zW ?_)));have c1:(!(w.params.followText "set-order")&&(!t.plain&&decide (es.size > 1)))=false:=by rw[S.plain];simp
 show wpAny _ _ (if (!(w.params.followText "set-order")&&(!t.plain&&decide (es.size > 1)))=true then _ else _) _ _ _;rw[yN (by rw[c1];exact yZ)];refine zV (zW ?_);refine zV (wpAny_setEpoch_of ho hd S.fits ?_);refine zV (qL (zW ⟨_,rfl,"set_iterator",_,⟨_,zX _ rfl,rfl⟩,slot_next.lookup,?_⟩));exact hQ
def pyIter_it{Q:Value->Shared->Prop}(x:IsIt s.heap I a slot i n ep)(hQ:Q (.ref I) s):wpAny (model prog w) A (pyIter (.ref I)) Q E s:=by
 refine wpAny_pyIter_slot x.typeIs slot_iter (qV slot_iter x.typeIs entry_it_iter ?_ (args_it_iter _));show wpAny _ _ (ret (.ref I)) _ _ s;exact zW ⟨_,rfl,"set_iterator",_,x.typeIs,slot_next.lookup,hQ⟩
def walks(hh:A.handled=none)(I a:Addr)(hne:a≠I):Walks prog w A I [I,a] [I] es.size (λi v=>∃e,(ordE w a ep es)[i]?=some e/\e.2=v) (λi h=>IsIt h I a (slotOf w t i) i es.size ep/\SetAt w h a es ep t) where
 sub:=λb hb=>by simp at hb;simp[hb]
 frame:=λ_ _ _ st hk=>⟨st.1.at λo e=>hk I (by simp) o e,st.2.at λo e=>hk a (by simp) o e⟩
 item:=λi s Q E hi st hQ=>by
  obtain⟨e,hx⟩:∃e,(ordE w a ep es)[i]?=some e:=⟨(ordE w a ep es)[i]'(by rw[ordE_size];exact hi),by simp[ordE_size,hi]⟩
  refine next_item st.2 st.1 hx λh' hit hs=>?_;exact hQ e.2 h' s.toks ⟨e,hx,rfl⟩ ⟨hit,st.2.at λo z=>hs.extBut a o hne z⟩ λb o hb z=>hs.extBut b o (λh=>hb (by simp[h])) z
 done:=λs Q E st hQ=>next_end hh st.2 st.1 λh' he=>hQ h' s.toks λb o hb z=>he b o (λh=>hb (by simp[h])) z
 self:=λi s Q E st hQ=>pyIter_it st.1 hQ
def hint_set{Q:Bool->Shared->Prop}(hT:s.TypeIs (.ref r) "set")(h:Q false s):wpAny (model prog w) A (Builtin.List.listLengthHint (.ref r)) Q E s:=by
 unfold Builtin.List.listLengthHint;refine zV (wpAny_specialOf hT PySem.F.slot_set_len.lookup ?_);generalize hid:("set.__len__":String)=id0
 wp_delta
 rw[show splitId id0=some ("set","__len__") from by subst hid;decide +kernel];subst hid;refine zV (wpAny_isInstance (T:="set") (b:=true) hT (by rw[isSubtype_type];kernel_rfl) ?_);refine wpAny_ite_split (λhab=>absurd hab (by decide)) (λ_=>?_);refine wpAny_ite_split (λ_=>?_) (λhab=>absurd (by decide +kernel) hab);refine zV (wJ hT ?_);exact zW h
def src(hs:es.size<=sizeLine):KdlSrc prog w "set" a a es.size (λi v=>∃e,(ordE w a ep es)[i]?=some e/\e.2=v) (λh=>SetAt w h a es ep t) where
 type:=λs S=>let ⟨o,ho,hx,_⟩:=S.get;⟨o,ho,hx.1⟩
 there:=λh S=>let ⟨o,ho,_⟩:=S.get;⟨zY ho,zY ho⟩
 keep:=λh h' S k=>S.at λo e=>k a (.inl rfl) o e
 notList:=by decide
 notTuple:=by decide
 hint:=λA E s Q S h=>hint_set (let ⟨o,ho,hx,_⟩:=S.get;⟨o,ho,hx.1⟩) h
 iter:=λA s hh S=>by
  have hne:a≠s.heap.objs.size:=let ⟨o,ho,_⟩:=S.get;yR (zY ho);refine⟨_,λi h=>IsIt h s.heap.objs.size a (slotOf w t i) i es.size ep/\SetAt w h a es ep t,λE Q q=>pyIter_set S q,walks hh _ a hne,⟨_,zX _ rfl,rfl,?_⟩,S.at λo e=>zU _ e⟩;have:slotOf w t 0=0:=by unfold slotOf;split<;>simp
  rw[this];rfl
def code_collect{R:Result->Shared->Prop}(hh:A.handled=none)(S:SetAt w s.heap a es ep t)(hs:es.size<=sizeLine)
  (h:∀ (h':Heap) (tk:Nat) (acc:Array Value) (c:Nat),(∀b o,s.heap.get? b=some o->h'.get? b=some o)->h'.get? s.heap.objs.size=some { cls:=.type "list",dict:=none,data:=.seq acc c,slots:=#[] }->ItemsOf (λi v=>∃e,(ordE w a ep es)[i]?=some e/\e.2=v) acc es.size->R (.ok (.ret (.ref s.heap.objs.size))) { s with heap:=h',toks:=tk }):codeAny (model prog w) A (.builtin "proto.collect" ⟨[.ref a],[]⟩) R s:=by
 let⟨o,ho,hx,hd⟩:=S.get;have hlt:=zY ho;refine kF entry_proto_collect' ?_;show wpAny _ _ (do again (.builtin "list.__iadd__" ⟨[<- newList [],.ref a],[]⟩)) _ _ s;refine zV (kN (zW ⟨wI _ (by decide +kernel),kF entry_list_iadd' ?_⟩));show wpAny _ _ (Builtin.List.listExtendWith (.ref s.heap.objs.size) (.ref a) (.ref s.heap.objs.size)) _ _ { s with heap:=s.heap.push (seqObj "list" #[] 0) };rw[Around.under_plainId PySem.F.plain_list_iadd _];exact kdl_extend (A:=A) (R:=R) (s:={ s with heap:=s.heap.push (seqObj "list" #[] 0) }) (src hs) hh (S.at λo e=>zU _ e) s.heap.objs.size (jI hlt) (jI hlt) _ 0 (zX _ rfl) (λh' tk acc c hk hS hacc=>h h' tk acc c (λb o' e'=>hk b o' (yR (zY e')) (zU _ e')) hS hacc) hs
def collect_set{Q:List Value->Shared->Prop}(hh:A.handled=none)(S:SetAt w s.heap a es ep t)(hs:es.size<=sizeLine)
  (h:∀ (h':Heap) (tk:Nat),(∀b o,s.heap.get? b=some o->h'.get? b=some o)->s.heap.objs.size<=h'.objs.size->Q ((ordE w a ep es).toList.map (·.2)) { s with heap:=h',toks:=tk }):wpAny (model prog w) A (collect (.ref a)) Q E s:=by
 unfold collect;refine zV (wpAny_runValue (code_collect hh S hs λh' tk acc c hk hS hacc=>?_));refine zV (wpAny_load hS ?_);show wpAny _ _ (pure acc.toList) Q E _;have e:acc.toList=(ordE w a ep es).toList.map (·.2):=by
  refine List.ext_getElem? λi=>?_;rcases Nat.lt_or_ge i es.size with z|z
  ·have z1:i < acc.size:=by rw[hacc.1];exact z
   let⟨e,he,hv⟩:=hacc.2 i acc[i] (by simp[z1]);rw[zO,Array.getElem?_toList,Array.getElem?_toList,he,jY z1,<- hv];rfl
  ·rw[zO,Array.getElem?_toList,Array.getElem?_toList,Array.getElem?_eq_none (by rw[hacc.1];exact z),Array.getElem?_eq_none (by rw[ordE_size];exact z)];rfl
 rw[e];exact zW (h h' tk hk (jS (zY hS)))
end Se
namespace Wm
def CK(x:Int):List Int->List Int
 | []=>[x]
 | y::l=>if x<=y then x::y::l else y::CK x l
def rA:List Int->List Int
 | []=>[]
 | x::l=>CK x (rA l)
def nu(x:Int):∀l:List Int,(CK x l).Perm (x::l)
 | []=>.refl _
 | y::l=>by
  unfold CK;split
  ·exact .refl _
  ·exact ((nu x l).cons y).trans (.swap x y l)
def gU:∀l:List Int,(rA l).Perm l
 | []=>.refl _
 | x::l=>(nu x (rA l)).trans ((gU l).cons x)
def yd(x:Int):∀ {l:List Int},l.Pairwise (·<=·)->(CK x l).Pairwise (·<=·)
 | [],_=>vH _ _
 | y::l,h=>by
  rw[List.pairwise_cons] at h;unfold CK;split
  ·rename_i c;exact List.pairwise_cons.mpr ⟨λz hz=>by
    rcases List.mem_cons.mp hz with e|e
    ·rw[e];exact c
    ·exact jT c (h.1 z e),List.pairwise_cons.mpr h⟩
  ·rename_i c;refine List.pairwise_cons.mpr ⟨λz hz=>?_,yd x h.2⟩;rcases List.mem_cons.mp ((nu x l).mem_iff.mp hz) with e|e
   ·rw[e];lia
   ·exact h.1 z e
def me:∀l:List Int,(rA l).Pairwise (·<=·)
 | []=>.nil
 | x::l=>yd x (me l)
def lx:∀ {l m:List Int},l.Perm m->l.Pairwise (·<=·)->m.Pairwise (·<=·)->l=m
 | l,[],hp,_,_=>hp.eq_nil
 | [],x::m,hp,_,_=>absurd hp.symm.eq_nil (by simp)
 | y::l,x::m,hp,h1,h2=>by
  rw[List.pairwise_cons] at h1 h2;have e:y=x:=by
   have hx:x∈y::l:=hp.mem_iff.mpr zE;rcases List.mem_cons.mp hx with z|hx
   ·exact z.symm
   ·have hy:y∈x::m:=hp.mem_iff.mp zE;rcases List.mem_cons.mp hy with z|hy
    ·exact z
    ·have:=h1.1 x hx;have:=h2.1 y hy;lia
  subst e;rw[lx ((List.perm_cons y).mp hp) h1.2 h2.2]
end Wm
namespace Dl
open PySem L2 PySem.Spec PyProof.Rows
def Ht(ns:List Int):(lT (λi=>ns.getD i 0) ns 0).Pairwise (·<=·):=by
 unfold lT;split
 ·rename_i hl
  match ns,hl with
  | [],_=>exact List.Pairwise.nil
  | [a],_=>exact vH _ _
 ·rename_i hl;let⟨hp,hs⟩:=SP.d9 (z:=λi=>ns.getD i 0) (n:=ns.length) (by lia);rw[jE] at hs ⊢;exact hs.imp λ{i j} hij=>hij
def Fc(ns:List Int):lT (λi=>ns.getD i 0) ns 0=Wm.rA ns :=
 Wm.lx ((dy _ _ _).trans (Wm.gU ns).symm) (Ht ns) (Wm.me ns)
end Dl
namespace Se
open PySem PySem.W PySem.Calls PyProof.Rows
variable {mask:Nat}
def sortedH{Q:Value->Shared->Prop}(vs:List Value)(h64:vs.length < 64)(z:Nat->Int)(κ:SortKind)
  (hc:∀ (Q':List Value->Shared->Prop) (E':Value->Shared->Prop),(∀ (h':Heap) (tk:Nat),(∀b o,s.heap.get? b=some o->h'.get? b=some o)->s.heap.objs.size<=h'.objs.size->Q' vs { s with heap:=h',toks:=tk })->wpAny (model prog w) A.in1 (collect (.ref l)) Q' E' s)
  (hk:2<=vs.length->∀ (h':Heap) (tk:Nat),(∀b o,s.heap.get? b=some o->h'.get? b=some o)->∀Q':SortKind->Shared->Prop,Q' κ { s with heap:=h',toks:=tk }->wpAny (model prog w) A.in1.in1 (keyKind' vs.toArray) Q' (λ_ _=>False) { s with heap:=h',toks:=tk })
  (hlt:2<=vs.length->∀ (h':Heap) (tk:Nat),(∀b o,s.heap.get? b=some o->h'.get? b=some o)->∀i j C,i < vs.length->j < vs.length->C (SP.dI z i j) { s with heap:=h',toks:=tk }->kas_ask prog w A.in1.in1 κ vs i j C { s with heap:=h',toks:=tk })
  (h:∀ (h':Heap) (tk:Nat) (D:Addr) (c:Nat),(∀b o,s.heap.get? b=some o->h'.get? b=some o)->s.heap.objs.size<=D->h'.get? D=some (seqObj "list" (Srt.outV z vs).toArray c)->Q (.ref D) { s with heap:=h',toks:=tk }) :
  wpAny (model prog w) A (call (.builtin "sorted") [.ref l]) Q E s:=by
 have hsl:vs.length<=sizeLine:=by rw[qU];lia
 refine Calls.call_function_entry kind_sorted plain_sorted entry_sorted (args_sorted1 _) ?_;unfold Builtin.«sorted»;refine zV (m:=checkCount "sorted" 1 1 _) (zW (zV (hc _ _ λh0 tk kp0 hge=>?_)));refine zV (kN ?_ (by simpa using hsl));have hoD:(h0.push (seqObj "list" vs.toArray 0)).get? h0.objs.size=some (seqObj "list" vs.toArray 0):=zX _ rfl;have kk:∀h':Heap,(∀b o,b≠h0.objs.size->(h0.push (seqObj "list" vs.toArray 0)).get? b=some o->h'.get? b=some o)->∀b o,s.heap.get? b=some o->h'.get? b=some o:=λh' q b o e=>q b o (yR (zY (kp0 b o e))) (zU _ (kp0 b o e));show wpAny _ _ _ _ _ ({ s with heap:=h0.push (seqObj "list" vs.toArray 0),toks:=tk }:Shared);refine zV (xX (qV slot_list_sort ⟨_,hoD,rfl⟩ entry_list_sort (Srt.list_sortG (s:=({ s with heap:=h0.push (seqObj "list" vs.toArray 0),toks:=tk }:Shared)) hoD h64 z κ (λa h' q=>hk a h' tk (kk h' q)) (λa h' q=>hlt a h' tk (kk h' q)) λh' c q e=>⟨_,rfl,?_⟩) (args_list_sort _)));exact zW ⟨_,rfl,h h' tk _ c (kk h' q) hge e⟩
def five_odd(m:Nat):5 ^ (2 * m+1) % 8=5:=by
 induction m with
 | zero=>rfl
 | succ m ih =>
  rw[show 2 * (m+1)+1=(2 * m+1)+2 by lia,Nat.pow_add];lia
def five_two(m:Nat):∀k,∃q,5 ^ (2 ^ k * (2 * m+1))=1+2 ^ (k+2) * (1+2 * q)
 | 0=>by
  have:=five_odd m;refine⟨5 ^ (2 * m+1) / 8,?_⟩;rw[Nat.pow_zero,Nat.one_mul];lia
 | k+1=>by
  let⟨q,e⟩:=five_two m k;refine⟨q+2 ^ k * ((1+2 * q) * (1+2 * q)),?_⟩;rw[show 2 ^ (k+1) * (2 * m+1)=2 ^ k * (2 * m+1)+2 ^ k * (2 * m+1) by rw[Nat.pow_succ,<- Nat.add_mul];congr 1;lia,Nat.pow_add,e];rw[show k+1+2=k+3 by lia,Nat.pow_add 2 k 2,Nat.pow_add 2 k 3]
  grind
def five_dvd:∀k n,2 ^ (k+2) ∣ 5 ^ n - 1->2 ^ k ∣ n
 | 0,n,_=>by simp
 | k+1,n,h=>by
  have h1:2 ^ k ∣ n:=five_dvd k n (Nat.dvd_trans (Nat.pow_dvd_pow 2 (by lia)) h);let⟨m,rfl⟩:=h1;rcases Nat.mod_two_eq_zero_or_one m with e|e
  ·refine⟨m / 2,?_⟩;rw[Nat.pow_succ,Nat.mul_assoc,show 2 * (m / 2)=m by lia]
  ·exfalso;let⟨q,z⟩:=five_two (m / 2) k;rw[show 2 * (m / 2)+1=m by lia] at z;rw[z,Nat.add_sub_cancel_left,show k+1+2=k+2+1 by lia,Nat.pow_succ] at h;have h2:2 ∣ 1+2 * q:=Nat.dvd_of_mul_dvd_mul_left (Nat.pow_pos (by lia)) h;lia
def fv(M:Nat):Nat->Nat->Nat
 | 0,x=>x
 | n+1,x=>(5 * fv M n x+1) % M
def fv_lt(h:x < M):∀n,fv M n x < M
 | 0=>h
 | n+1=>Nat.mod_lt _ (by lia)
def fv_mod(M x:Nat):∀n,(4 * fv M n x+1) % (4 * M)=(5 ^ n * (4 * x+1)) % (4 * M)
 | 0=>by simp[fv]
 | n+1=>by
  have ih:=fv_mod M x n;rw[fv];have e1:(4 * ((5 * fv M n x+1) % M)+1) % (4 * M)=(5 * (4 * fv M n x+1)) % (4 * M):=by
   rw[<- Nat.mul_mod_mul_left,Nat.mod_add_mod]
   congr 1
   lia
  rw[e1,Nat.mul_mod,ih,<- Nat.mul_mod,Nat.pow_succ]
  congr 1
  rw[Nat.mul_comm (5 ^ n) 5,Nat.mul_assoc]
def fv_inj{k:Nat}(hab:a < b)(hb:b < 2 ^ k)(e:fv (2 ^ k) a x=fv (2 ^ k) b x):False:=by
 have h1:=fv_mod (2 ^ k) x a;have h2:=fv_mod (2 ^ k) x b;rw[e,h2] at h1;have h3:4 * 2 ^ k ∣ 5 ^ b * (4 * x+1) - 5 ^ a * (4 * x+1):=Nat.dvd_of_mod_eq_zero (Nat.sub_mod_eq_zero_of_mod_eq h1);have h4:5 ^ b * (4 * x+1) - 5 ^ a * (4 * x+1)=(5 ^ a * (4 * x+1)) * (5 ^ (b - a) - 1):=by
  rw[Nat.mul_sub,Nat.mul_one]
  congr 1
  rw[Nat.mul_right_comm,<- Nat.pow_add,show a+(b - a)=b by lia]
 rw[h4,show 4 * 2 ^ k=2 ^ (k+2) by rw[Nat.pow_add];lia] at h3;have hc:Nat.Coprime (2 ^ (k+2)) (5 ^ a * (4 * x+1)):=by
  refine Nat.Coprime.pow_left _ ?_;refine Nat.Coprime.mul_right (Nat.Coprime.pow_right _ (by decide)) ?_;unfold Nat.Coprime;rw[show 4 * x+1=1+2 * (2 * x) by lia,Nat.gcd_add_mul_left_right];rfl
 have h5:=five_dvd k (b - a) (hc.dvd_of_dvd_mul_left h3);have:=Nat.le_of_dvd (by lia) h5;lia
def fv_all{k:Nat}(hx:x < 2 ^ k)(hj:j < 2 ^ k):∃n,n < 2 ^ k/\fv (2 ^ k) n x=j:=by
 refine Classical.byContradiction λhno=>?_;have hn:((List.range (2 ^ k)).map λn=>fv (2 ^ k) n x).Nodup:=by
  rw[List.nodup_iff_pairwise_ne,jE];refine List.Pairwise.imp_of_mem ?_ (List.pairwise_lt_range);intro a b _ hb hab e;exact fv_inj hab (List.mem_range.mp hb) e
 have hc:(j::(List.range (2 ^ k)).map λn=>fv (2 ^ k) n x).Nodup:=by
  rw[kR];refine⟨λz=>?_,hn⟩;let⟨n,h1,h2⟩:=List.mem_map.mp z;exact hno ⟨n,List.mem_range.mp h1,h2⟩
 have hl:=hc.length_le_of_subset (l₂:=List.range (2 ^ k)) λy hy=>by
  rw[zS];rcases List.mem_cons.mp hy with rfl|z
  ·exact hj
  ·let⟨n,_,rfl⟩:=List.mem_map.mp z;exact fv_lt hx n
 simp at hl;lia
def adv(mask:Nat)(p:SetTable.Probe):SetTable.Probe:=if p.more > 0 then { p with j:=p.j+1,more:=p.more - 1 } else { p with j:=(SetTable.leap mask p.i p.perturb).1,more:=SetTable.runEnd mask (SetTable.leap mask p.i p.perturb).1 - (SetTable.leap mask p.i p.perturb).1,i:=(SetTable.leap mask p.i p.perturb).1,perturb:=(SetTable.leap mask p.i p.perturb).2 }
def adv_eq(t:SetTable)(p:SetTable.Probe):t.advance p=adv t.mask p:=rfl
def it(mask:Nat):Nat->SetTable.Probe->SetTable.Probe
 | 0,p=>p
 | n+1,p=>it mask n (adv mask p)
def it_add(mask m:Nat):∀ (n:Nat) (p:SetTable.Probe),it mask (n+m) p=it mask m (it mask n p)
 | 0,p=>by rw[jD];rfl
 | n+1,p=>by rw[show n+1+m=(n+m)+1 by lia,it,it_add mask m n];rfl
def st(mask i pt:Nat)(d:Option Nat):SetTable.Probe:={ j:=i,more:=SetTable.runEnd mask i - i,i,perturb:=pt,dummy:=d }
def run_all(mask:Nat):∀ (m:Nat) (p:SetTable.Probe),p.more=m->it mask (m+1) p=st mask (SetTable.leap mask p.i p.perturb).1 (SetTable.leap mask p.i p.perturb).2 p.dummy
 | 0,p,e=>by
  show adv mask p=_;unfold adv;rw[yN (by lia)];rfl
 | m+1,p,e=>by
  rw[it];have:adv mask p={ p with j:=p.j+1,more:=p.more - 1 }:=by unfold adv;rw[yL (by lia)]
  rw[this];exact run_all mask m _ (by show p.more - 1=m;lia)
def lp(mask:Nat):Nat->Nat×Nat->Nat×Nat
 | 0,x=>x
 | m+1,x=>SetTable.leap mask (lp mask m x).1 (lp mask m x).2
def run_le(mask i:Nat):SetTable.runEnd mask i - i<=9:=by
 unfold SetTable.runEnd;split<;>lia
def leaps(mask:Nat)(x:Nat×Nat)(d:Option Nat):∀m,∃n,n<=10 * m/\it mask n (st mask x.1 x.2 d)=st mask (lp mask m x).1 (lp mask m x).2 d
 | 0=>⟨0,yM _,rfl⟩
 | m+1=>by
  let⟨n,h1,h2⟩:=leaps mask x d m;have:=run_le mask (lp mask m x).1;refine⟨n+(SetTable.runEnd mask (lp mask m x).1 - (lp mask m x).1+1),by lia,?_⟩;rw[it_add,h2];exact run_all mask _ _ rfl
def lp_pt(mask:Nat)(x:Nat×Nat):∀m,(lp mask m x).2=x.2 / 32 ^ m
 | 0=>by simp[lp]
 | m+1=>by
  show (lp mask m x).2 / 32=_;rw[lp_pt mask x m,Nat.div_div_eq_div_mul,Nat.pow_succ]
def lp_add(mask:Nat)(x:Nat×Nat)(m:Nat):∀n,lp mask (m+n) x=lp mask n (lp mask m x)
 | 0=>rfl
 | n+1=>by
  show SetTable.leap mask (lp mask (m+n) x).1 (lp mask (m+n) x).2=SetTable.leap mask (lp mask n (lp mask m x)).1 (lp mask n (lp mask m x)).2;rw[lp_add mask x m n]
def lp_zero(mask i:Nat):∀n,lp mask n (i,0)=(fv (mask+1) n i,0)
 | 0=>rfl
 | n+1=>by
  show SetTable.leap mask (lp mask n (i,0)).1 (lp mask n (i,0)).2=_;rw[lp_zero mask i n];show ((fv (mask+1) n i * 5+1+0 / 32) % (mask+1),0 / 32)=_;rw[fv,Nat.mul_comm]
def lp_lt(mask:Nat)(x:Nat×Nat)(hx:x.1 < mask+1):∀n,(lp mask n x).1 < mask+1
 | 0=>hx
 | n+1=>Nat.mod_lt _ (by lia)
def start(mask:Nat)(h:Int):SetTable.Probe:=st mask (SetTable.bits h % (mask+1)) (SetTable.bits h) none
def start_eq(t:SetTable)(h:Int):t.probeStart h=start t.mask h:=rfl
def cov{mask k:Nat}(hm:mask+1=2 ^ k)(h:Int)(j:Nat)(hj:j<=mask):∃n,n < 10 * SetTable.turns mask/\(it mask n (start mask h)).j=j:=by
 have hb:SetTable.bits h < 2 ^ 64:=by
  unfold SetTable.bits;have:=kY h (b:=(2 ^ 64:Int)) (by decide);have:=vT h (b:=(2 ^ 64:Int)) (by decide);lia
 have h13:(lp mask 13 (SetTable.bits h % (mask+1),SetTable.bits h)).2=0:=by
  rw[lp_pt];refine Nat.div_eq_of_lt (zP hb (by decide))
 have hl:=lp_lt mask (SetTable.bits h % (mask+1),SetTable.bits h) (Nat.mod_lt _ (by lia)) 13;rw[hm] at hl;let⟨n,hn,e⟩:=fv_all (k:=k) hl (show j < 2 ^ k by lia);let⟨c,hc,z⟩:=leaps mask (SetTable.bits h % (mask+1),SetTable.bits h) none (13+n);refine⟨c,?_,?_⟩
 ·unfold SetTable.turns;lia
 ·show (it mask c (st mask _ _ none)).j=j;rw[z,lp_add];show (lp mask n (lp mask 13 (SetTable.bits h % (mask+1),SetTable.bits h))).1=j;have:lp mask 13 (SetTable.bits h % (mask+1),SetTable.bits h)=((lp mask 13 (SetTable.bits h % (mask+1),SetTable.bits h)).1,0):=by rw[<- h13]
  rw[this,lp_zero,hm];exact e
def adv_in{p:SetTable.Probe}(h:p.j+p.more<=mask):(adv mask p).j+(adv mask p).more<=mask:=by
 unfold adv;split
 ·show p.j+1+(p.more - 1)<=mask;lia
 ·show (SetTable.leap mask p.i p.perturb).1+(SetTable.runEnd mask (SetTable.leap mask p.i p.perturb).1 - (SetTable.leap mask p.i p.perturb).1)<=mask;have:(SetTable.leap mask p.i p.perturb).1 < mask+1:=Nat.mod_lt _ (by lia);unfold SetTable.runEnd;split<;>lia
def start_in(mask:Nat)(h:Int):(start mask h).j+(start mask h).more<=mask:=by
 show SetTable.bits h % (mask+1)+(SetTable.runEnd mask (SetTable.bits h % (mask+1)) - SetTable.bits h % (mask+1))<=mask;have:=Nat.mod_lt (SetTable.bits h) (show mask+1 > 0 by lia);unfold SetTable.runEnd;split<;>lia
def go_free{t:SetTable}{hashAt:Nat->Int}{h:Int}(hd:∀j,t.slot j≠.dummy)(hn:∀i,(hashAt i == h)=false):∀ (n fuel:Nat) (p:SetTable.Probe),n < fuel->t.slot (it t.mask n p).j=.empty->p.dummy=none->p.j+p.more<=t.mask->∃j,j<=t.mask/\t.slot j=.empty/\SetTable.probe.go t hashAt h fuel p=some (.empty j none)
 | n,0,p,hl,_,_,_=>absurd hl (vP _)
 | n,fuel+1,p,hl,he,hp,hi=>by
  rw[SetTable.probe.go];cases hs:t.slot p.j with
  | empty=>exact⟨p.j,by lia,hs,by rw[hp]⟩
  | dummy=>exact absurd hs (hd _)
  | live i =>
   match n,hl,he with
   | 0,_,he =>
    have he:t.slot p.j=.empty:=he;rw[hs] at he;cases he
   | n+1,hl,he =>
    simp?[hn i,yO,qP];rw[adv_eq];refine go_free hd hn n fuel (adv t.mask p) (by lia) he ?_ (adv_in hi);unfold adv;split<;>exact hp
structure TOk(t:SetTable):Prop where
 pow:∃k,t.mask+1=2 ^ (k+1)
 dm:t.dummies=#[]
 ris:∀i j,i < j->j < t.place.size->t.place.getD i 0 < t.place.getD j 0
 top:∀i,i < t.place.size->t.place.getD i 0<=t.mask
 few:t.place.size<=t.mask
def cut_ex{f:Nat->Nat}(j:Nat):∀ (n:Nat),(∀a b,a < b->b < n->f a < f b)->∃k,k<=n/\(∀a,a < k->f a < j)/\(∀a,k<=a->a < n->j<=f a)
 | 0,_=>⟨0,yM _,λa h=>by lia,λa _ h=>by lia⟩
 | n+1,hf=>by
  let⟨k,h1,h2,h3⟩:=cut_ex j n λa b hab hb=>hf a b hab (by lia);by_cases e:k=n/\f n < j
  ·refine⟨n+1,yM _,λa ha=>?_,λa ha hb=>by lia⟩;rcases Nat.lt_or_ge a n with z|z
   ·exact h2 a (by lia)
   ·rw[show a=n by lia];exact e.2
  ·refine⟨k,by lia,h2,λa ha hb=>?_⟩;rcases Nat.lt_or_ge a n with z|z
   ·exact h3 a ha z
   ·rw[show a=n by lia];by_cases y:k=n
    ·rcases Nat.lt_or_ge (f n) j with x|x
     ·exact absurd ⟨y,x⟩ e
     ·exact x
    ·have:=h3 k (yM _) (by lia);have:=hf k n (by lia) (by lia);lia
def TOk.below(O:TOk t)(j:Nat):∃k,k<=t.place.size/\SetTable.below t.place j=k/\(∀a,a < k->t.place.getD a 0 < j)/\(∀a,k<=a->a < t.place.size->j<=t.place.getD a 0):=by
 let⟨k,h1,h2,h3⟩:=cut_ex (f:=λa=>t.place.getD a 0) j t.place.size O.ris;exact⟨k,h1,below_is O.ris h1 h2 h3,h2,h3⟩
def TOk.slot_empty(O:TOk t):t.slot j=.empty↔∀i,i < t.place.size->t.place.getD i 0≠j:=by
 let⟨k,h1,h2,h3,h4⟩:=O.below j;have hd:SetTable.has t.dummies j=false:=by rw[O.dm];rfl
 unfold SetTable.slot;rw[h2];dsimp only;by_cases e:(t.place[k]? == some j)=true
 ·rw[yL e];constructor
  ·intro z;cases z
  ·intro z;rw[vJ] at e;let⟨hk,e⟩:=Array.getElem?_eq_some_iff.mp e;exact absurd (by simp[hk,e]) (z k hk)
 ·rw[yN e,yN (by rw[hd];exact yZ)];refine⟨λ_ i hi z=>?_,λ_=>rfl⟩;rcases Nat.lt_or_ge i k with y|y
  ·have:=h3 i y;lia
  ·rcases Nat.lt_or_ge k i with x|x
   ·have:=O.ris k i x hi;have:=h4 k (yM _) (by lia);lia
   ·have:i=k:=by lia
    subst this;refine e ?_;rw[vJ,Array.getElem?_eq_some_iff];exact⟨hi,by rw[<- z];simp[hi]⟩
def TOk.no_dummy(O:TOk t)(j:Nat):t.slot j≠.dummy:=by
 have hd:SetTable.has t.dummies j=false:=by rw[O.dm];rfl
 unfold SetTable.slot;dsimp only;split
 ·intro z;cases z
 ·rw[yN (by rw[hd];exact yZ)];intro z;cases z
def TOk.room(O:TOk t):∃j,j<=t.mask/\t.slot j=.empty:=by
 refine Classical.byContradiction λhno=>?_;have hs:List.range (t.mask+1) ⊆ t.place.toList:=λj hj=>by
  refine Classical.byContradiction λhn=>hno ⟨j,by have:=List.mem_range.mp hj;lia,O.slot_empty.mpr λi hi e=>hn ?_⟩;rw[Array.mem_toList_iff,<- e];simp[hi]
 have:=List.nodup_range.length_le_of_subset hs;rw[zR,wC] at this;have:=O.few;lia
def TOk.free(O:TOk t)(h:Int):∃j,j<=t.mask/\t.slot j=.empty/\t.freeSlot h=some (j,false):=by
 let⟨k,hk⟩:=O.pow;let⟨j0,h1,h2⟩:=O.room;let⟨n,h3,h4⟩:=cov hk h j0 h1;let⟨j,h5,h6,h7⟩:=go_free (hashAt:=λ_=>h+1) (h:=h) O.no_dummy (λ_=>by rw[beq_eq_false_iff_ne];lia) n (10 * SetTable.turns t.mask) (start t.mask h) h3 (by rw[h4];exact h2) rfl (start_in _ _);refine⟨j,h5,h6,?_⟩;unfold SetTable.freeSlot SetTable.probe;rw[start_eq,h7];rfl
def ins_list{α:Type}(xs:Array α)(p:Nat)(x:α):(SetTable.insertAt xs p x).toList=xs.toList.take p++x::xs.toList.drop p:=by
 unfold SetTable.insertAt;rw[Array.toList_append,Array.toList_push,Array.toList_extract,Array.toList_extract];simp[List.extract];exact kJ (by simp)
def inA_get(xs:Array Nat)(p x:Nat)(hp:p<=xs.size)(i:Nat):(SetTable.insertAt xs p x).getD i 0=if i < p then xs.getD i 0 else if i=p then x else xs.getD (i - 1) 0:=by
 have e:∀ (ys:Array Nat) (i:Nat),ys.getD i 0=(ys.toList[i]?).getD 0:=λys i=>by simp[qD]
 rw[e,e,e,ins_list,List.getElem?_append];have hl:(xs.toList.take p).length=p:=by rw[jV,wC];lia
 rw[hl];by_cases h1:i < p
 ·rw[yL h1,yL h1,List.getElem?_take_of_lt h1]
 ·rw[yN h1,yN h1];by_cases h2:i=p
  ·subst h2;rw[yL rfl,Nat.sub_self];rfl
  ·rw[yN h2,show i - p=(i - p - 1)+1 by lia,yY,List.getElem?_drop,show p+(i - p - 1)=i - 1 by lia]
def ins_size{α:Type}(xs:Array α)(p:Nat)(x:α):(SetTable.insertAt xs p x).size=xs.size+1:=by
 rw[<- wC,ins_list];simp;lia
def ins_perm{α:Type}(xs:Array α)(p:Nat)(x:α):(SetTable.insertAt xs p x).toList.Perm (x::xs.toList):=by
 rw[ins_list];refine List.perm_middle.trans ?_;rw[List.take_append_drop]
def TOk.put(O:TOk t)(hj:j<=t.mask)(he:t.slot j=.empty)(hm:t.place.size+1<=t.mask):TOk (t.put j).1/\(t.put j).1.place.size=t.place.size+1/\(t.put j).1.mask=t.mask/\(t.put j).1.led=t.led/\(t.put j).1.plain=t.plain/\(t.put j).1.dummies=#[]/\(t.put j).2<=t.place.size:=by
 let⟨k,h1,h2,h3,h4⟩:=O.below j;have hne:=O.slot_empty.mp he;have hd:SetTable.has t.dummies j=false:=by rw[O.dm];rfl
 have e1:(t.put j).1={ t with place:=SetTable.insertAt t.place k j }:=by
  unfold SetTable.put;rw[h2];simp?[hd,yO,qP]
 have e2:(t.put j).2=k:=by
  unfold SetTable.put;exact h2
 have h4':∀a,k<=a->a < t.place.size->j < t.place.getD a 0:=λa ha hb=>by
  have:=h4 a ha hb;have:=hne a hb;lia
 rw[e1,e2];refine⟨⟨O.pow,O.dm,λa b hab hb=>?_,λa ha=>?_,?_⟩,ins_size ..,rfl,rfl,rfl,O.dm,h1⟩
 ·have hb:b < t.place.size+1:=by rw[<- ins_size t.place k j];exact hb
  show (SetTable.insertAt t.place k j).getD a 0 < (SetTable.insertAt t.place k j).getD b 0;rw[inA_get _ _ _ h1,inA_get _ _ _ h1];by_cases x1:b < k
  ·rw[yL (by lia),yL x1];exact O.ris a b hab (by lia)
  ·rw[yN x1];by_cases x2:b=k
   ·rw[yL (by lia),yL x2];exact h3 a (by lia)
   ·rw[yN x2];by_cases y1:a < k
    ·rw[yL y1];have:=h3 a y1;have:=h4' (b - 1) (by lia) (by lia);lia
    ·rw[yN y1];by_cases y2:a=k
     ·rw[yL y2];exact h4' (b - 1) (by lia) (by lia)
     ·rw[yN y2];exact O.ris (a - 1) (b - 1) (by lia) (by lia)
 ·have ha:a < t.place.size+1:=by rw[<- ins_size t.place k j];exact ha
  show (SetTable.insertAt t.place k j).getD a 0<=t.mask;rw[inA_get _ _ _ h1];by_cases x1:a < k
  ·rw[yL x1];exact O.top a (by lia)
  ·rw[yN x1];by_cases x2:a=k
   ·rw[yL x2];exact hj
   ·rw[yN x2];exact O.top (a - 1) (by lia)
 ·show (SetTable.insertAt t.place k j).size<=t.mask;rw[ins_size];exact hm
def TOk.fits(O:TOk t)(h:t.place.size=n):t.fits n=true:=by
 simp?[SetTable.fits,zF,vJ,zJ];refine⟨h,?_⟩;unfold SetTable.fill;rw[O.dm];exact O.few
def lay_new(O:TOk t)(hs:t.place.size=es.size)(hm:es.size+1<=t.mask)(h:Int)(x:Value):∃j,j<=t.mask/\t.slot j=.empty/\layNew t es h x=(SetTable.insertAt es (t.put j).2 (h,x),(t.put j).1,false,false):=by
 let⟨j,h1,h2,h3⟩:=O.free h;refine⟨j,h1,h2,?_⟩;let⟨O',p1,_⟩:=O.put h1 h2 (by lia);have hf:(t.put j).1.fits (SetTable.insertAt es (t.put j).2 (h,x)).size=true:=O'.fits (by rw[p1,ins_size,hs]);unfold layNew;rw[h3];simp?[SetTable.orStandIn,hf,xH,xY]
structure IntsAt(prog:Program)(w:World)(h:Heap)(a:Addr)(es:Array (Int×Value))(ep:Nat)(t:SetTable)(ms:List Int):Prop where
 set:SetAt w h a es ep t
 tab:TOk t
 els:ElemsOf (intKind prog w) es.toList
 vals:IntsAre (es.toList.map (·.2)) ms
def find_ints:∀ {l:List (Int×Value)}{ms:List Int},IntsAre (l.map (·.2)) ms->∀k,(l.findIdx? (λe=>(intKind prog w).is k e.2)=none)↔k∉ms
 | [],_,h,k=>by cases h;simp
 | e::l,ms,h,k=>by
  let⟨hh,v⟩:=e;rw[zI] at h;cases h with
  | cons n t hr =>
   rw[List.findIdx?_cons];have ei:(intKind prog w).is k (Value.int n t)=decide (k=n):=KeyKind.is_eq_decide (intKind_is prog w n t) k;by_cases e:k=n
   ·subst e;simp[ei]
   ·have:decide (k=n)=false:=zZ e;simp?[ei,this,yO,qP,Option.map_eq_none_iff];rw[find_ints hr k];simp[e]
def ints_perm:∀ {vs us:List Value}{ms:List Int},us.Perm vs->IntsAre vs ms->∃ns,IntsAre us ns/\ns.Perm ms:=λ{vs us ms} p=>by
 induction p generalizing ms with
 | nil=>intro h;exact⟨ms,h,.refl _⟩
 | cons x _ ih =>
  intro h;cases h with
  | cons n t hr =>
   let⟨ns,h1,h2⟩:=ih hr;exact⟨n::ns,.cons n t h1,h2.cons n⟩
 | swap x y l =>
  intro h;cases h with
  | cons n t hr =>
   cases hr with
   | cons m u hr=>exact⟨m::n::_,.cons m u (.cons n t hr),List.Perm.swap ..⟩
 | trans _ _ ih1 ih2 =>
  intro h;let⟨n1,a1,b1⟩:=ih2 h;let⟨n2,a2,b2⟩:=ih1 a1;exact⟨n2,a2,b2.trans b1⟩
def add_int{Q:Bool->Shared->Prop}(I:IntsAt prog w s.heap a es ep t ms)(hm:(es.size+1) * 5 < t.mask * 3)(hb:es.size+1 < scanBound)(k:Int)(tk:Tok)
  (h0:k∈ms->Q false s)
  (h1:k∉ms->∀h' es' ep' t' ms',Heap.SameBut a s.heap h'->IntsAt prog w h' a es' ep' t' ms'->t'.mask=t.mask->es'.size=es.size+1->ms'.Perm (k::ms)->Q true { s with heap:=h' }) :
  wpAny (model prog w) A (setAddHashed a (.int k tk) ((intKind prog w).hash k)) Q E s:=by
 let⟨o,ho,hex,hd⟩:=I.set.get;let⟨hs,_⟩:=fit2 I.set;have hkey:=intKind_is prog w k tk;have hsc:(Value.int k tk).scannable=true:=rfl;unfold setAddHashed setAddHashedIn;refine xX (zV (wpAny_setState_of ho hd I.set.fits ?_));dsimp only;rw[byScan_of hsc (by lia) I.els];simp?[↓reduceIte];unfold setAddByScan;refine zV ?_;refine zV (wD ?_);refine zV (wpAny_setScan_of hkey ho hd I.set.fits I.els ?_);cases hr:List.findIdx? (λe=>(intKind prog w).is k e.2) es.toList with
 | some j =>
  dsimp only;refine zW (zW (h0 ?_));refine Classical.byContradiction λhn=>?_;rw[(find_ints I.vals k).mpr hn] at hr;cases hr
 | none =>
  dsimp only;have hnot:=(find_ints I.vals k).mp hr;let⟨j,j1,j2,j3⟩:=lay_new I.tab hs (by lia) ((intKind prog w).hash k) (.int k tk);let⟨O',p1,p2,p3,p4,p5,p6⟩:=I.tab.put j1 j2 (by lia);rw[j3];dsimp only;refine zV (wpAny_of_eq (a:=()) rfl ?_);have hpl:(t.put j).1.plain=true:=by rw[p4];exact I.set.plain
  rw[hpl];simp?[↓reduceIte];rw[hashByValue_scannable 8 hsc];refine zV (zW ?_);simp?[plainKind,↓reduceIte];have hz:(SetTable.insertAt es (t.put j).2 ((intKind prog w).hash k,Value.int k tk)).size=es.size+1:=ins_size ..;refine zV (wpAny_storeSet_of ho hd ?_ (fits_of_scanBound (by rw[hz];exact hb)));have hfull:(t.put j).1.tooFull=false:=by
   unfold SetTable.tooFull SetTable.fill;rw[p1,p5,p2];simp;lia
  simp?[hfull,kW,yO,qP];have hperm:(SetTable.insertAt es (t.put j).2 ((intKind prog w).hash k,Value.int k tk)).toList.Perm (((intKind prog w).hash k,Value.int k tk)::es.toList):=ins_perm ..;let⟨ms',v1,v2⟩:=ints_perm (hperm.map (λe:Int×Value=>e.2)) (show IntsAre (Value.int k tk::es.toList.map (·.2)) (k::ms) from .cons k tk I.vals);have hel:ElemsOf (intKind prog w) (SetTable.insertAt es (t.put j).2 ((intKind prog w).hash k,Value.int k tk)).toList:=λe he=>by
   rcases List.mem_cons.mp (hperm.mem_iff.mp he) with z|z
   ·subst z;exact⟨⟨k,hkey,rfl⟩,hsc⟩
   ·exact I.els e z
  have hg:(s.heap.update a (Obj.putSet (SetTable.insertAt es (t.put j).2 ((intKind prog w).hash k,Value.int k tk)) (t.put j).1)).get? a=some { o with data:=.set (SetTable.insertAt es (t.put j).2 ((intKind prog w).hash k,Value.int k tk)) (ep+1) (t.put j).1 }:=by
   have:=Heap.get?_update_self (Obj.putSet (SetTable.insertAt es (t.put j).2 ((intKind prog w).hash k,Value.int k tk)) (t.put j).1) ho (by rw[putSet_of _ _ hd];rfl);rw[putSet_of _ _ hd] at this;exact this
  refine zW (zW (h1 hnot _ _ _ _ ms' (Heap.SameBut.update s.heap a _) ⟨⟨⟨_,hg,hex,rfl⟩,O'.fits (by rw[p1,hz,hs]),hpl,by rw[p3];exact I.set.led,O'.ris⟩,O',hel,v1⟩ p2 hz v2))
def ob(w:World):Obj:={ cls:=.type "set",dict:=none,data:=.set #[] 0 (.fresh 0 0 (!(w.params.followText "set-order"))) }
def ob_set(w:World)(h:(hp:Heap).get? a=some (ob w)):SetAt w hp a #[] 0 (.fresh 0 0 (!(w.params.followText "set-order"))):=⟨⟨_,h,⟨rfl,rfl,rfl⟩,rfl⟩,rfl,rfl,rfl,λi j _ hj=>by simp[SetTable.fresh] at hj⟩
def ob_tab(f m:Nat)(b:Bool):TOk (SetTable.fresh f m b):=⟨⟨2,rfl⟩,rfl,λi j _ hj=>by simp[SetTable.fresh] at hj,λi hi=>by simp[SetTable.fresh] at hi,by simp[SetTable.fresh]⟩
def code_new(a:Value){Q₁:Value->Shared->Prop}(h:Q₁ (.ref s.heap.objs.size) { s with heap:=s.heap.push (ob w) }):codeAny (model prog w) A (.call (.builtin "set.__new__") ⟨[.type "set",a],[]⟩) (wants Q₁ E) s:=by
 refine codeAny_of_tree ?_;show wpAny _ A.in1 (checkBuiltinCall "set.__new__" _ >>= λ_=>again (.builtin "set.__new__" _)) _ _ s;refine zV (wpAny_of_eq (PySem.F.newCall_set_1 a) (zW ⟨plainId_quiet PySem.F.plain_set_new _,kF PySem.F.entry_set_new ?_⟩));rw[Around.under_plainId PySem.F.plain_set_new _];unfold Builtin.«set.__new__» Builtin.Frozenset.newClass;have hsub:=sub_set_self;let⟨hp,g,d,tk,os⟩:=s;dsimp only
 wp_walk
 refine wpAny_askSetting (zW ?_);dsimp only;simp?[newObj];refine zV (wpAny_alloc (zW ?_));exact zW h
def update_loop{R:Result->Shared->Prop}{St:Nat->Shared->Prop}{P:Nat->Value->Prop}{n:Nat}(W:WalksS prog w A.in1 I fp wr G n P St)(S:Addr)(hSf:S∉fp)(Inv:Nat->Heap->Prop)
  (hfr:∀i h h',Inv i h->(∀b o,b∉wr->h.get? b=some o->h'.get? b=some o)->Inv i h')
  (hadd:∀i v (s:Shared) (Q:Bool->Shared->Prop) (E:Value->Shared->Prop),i < n->P i v->Inv i s.heap->(∀b h' tk,s.toks<=tk->Heap.SameBut S s.heap h'->Inv (i+1) h'->Q b { s with heap:=h',toks:=tk })->wpAny (model prog w) A.in1 (setAdd S v) Q E s) :
  ∀ (k i:Nat) (s:Shared),n - i=k->i<=n->St i s->Inv i s.heap->(∀s',Moved (S::wr) G s s'->Inv n s'.heap->R (.ok (.ret .none)) s')->codeAny (model prog w) A (.builtin "set.update.loop" ⟨[.ref S,.ref I],[]⟩) R s:=by
 have hSw:S∉wr:=λh=>hSf (W.sub _ h);have hsub:∀b∈wr,b∈S::wr:=λb hb=>zC _ hb;intro k
 induction k with
 | zero =>
  intro i s hk hi hst hI hR;obtain rfl:i=n:=by lia
  refine kF PyProof.Rows.F.entry_set_update_loop ?_;rw[Around.under_plainId PyProof.Rows.F.plain_set_update_loop _];show wpAny _ A.in1 (pyNext (.ref I) >>= _) _ _ s;refine zV (W.done s _ _ hst λs' hm=>?_);exact zW (hR s' (hm.mono hsub) (hfr _ _ _ hI hm.heap))
 | succ k ih =>
  intro i s hk hi hst hI hR;have hlt:i < n:=by lia
  refine kF PyProof.Rows.F.entry_set_update_loop ?_;rw[Around.under_plainId PyProof.Rows.F.plain_set_update_loop _];show wpAny _ A.in1 (pyNext (.ref I) >>= _) _ _ s;refine zV (W.item i s _ _ hlt hst λv s' hP hst' hm=>?_);show wpAny _ A.in1 (holding [v] (setAdd S v) >>= _) _ _ s';refine zV (xX (hadd i v s' _ _ hlt hP (hfr _ _ _ hI hm.heap) λ_ h' tk htk hsb hI'=>?_));refine zW ⟨plainId_quiet PyProof.Rows.F.plain_set_update_loop _,ih (i+1) _ (by lia) hlt (W.frame _ s' _ _ hst' htk λb hb o e=>?_) hI' λs'' hm2 hI2=>?_⟩
  ·rw[hsb.2 b (λh:b=S=>hSf (by rw[<- h];exact hb))];exact e
  ·refine hR s'' (Moved.trans W.gtrans ((hm.mono hsub).then_heap htk λb o hb e=>?_) hm2) hI2;rw[hsb.2 b (λh:b=S=>hb (by rw[h];exact zE))];exact e
def call_set{Q:Value->Shared->Prop}(hh:A.handled=none)(hl:s.heap.IsList l its)(Inv:Nat->Heap->Prop)
  (h0:∀h':Heap,(∀b o,s.heap.get? b=some o->h'.get? b=some o)->h'.get? s.heap.objs.size=some (ob w)->Inv 0 h')
  (hfr:∀i h h',Inv i h->(∀b o,b≠s.heap.objs.size+1->h.get? b=some o->h'.get? b=some o)->Inv i h')
  (hadd:∀i v (s':Shared) (Q:Bool->Shared->Prop) (E:Value->Shared->Prop),i < its.size->its[i]?=some v->Inv i s'.heap->(∀b h' tk,s'.toks<=tk->Heap.SameBut s.heap.objs.size s'.heap h'->Inv (i+1) h'->Q b { s' with heap:=h',toks:=tk })->wpAny (model prog w) A.in1.in1.in1 (setAdd s.heap.objs.size v) Q E s')
  (h:∀ (h':Heap) (tk:Nat),Inv its.size h'->(∀b o,b < s.heap.objs.size->s.heap.get? b=some o->h'.get? b=some o)->Q (.ref s.heap.objs.size) { s with heap:=h',toks:=tk }) :
  wpAny (model prog w) A (call (.type "set") [.ref l]) Q E s:=by
 let⟨c,tl,hmro⟩:=PySem.F.called_set.mro;have hmade:=PySem.F.called_set.made;have hsub:=PySem.F.called_set.sub;refine wpAny_call (codeAny_of_tree ?_);show wpAny _ _ (callAny (.type "set") _) _ _ _;refine zW ⟨wI _ (by decide +kernel),kF PySem.F.entry_type_call ?_⟩;rw[Around.under_plain (weight_type_call_type "set" [.ref l] []) rfl];have h1:=PySem.F.called_set.notType;have h2:=PySem.F.called_set.canCreate;have hct:=PySem.F.typeCall_set_1 (.ref l)
 repeat (any_goals (first|assumption|wp_step))
 refine jR (code_new (.ref l) (E:=E) (Q₁:=λobj s1=>obj=.ref s.heap.objs.size/\s1={ s with heap:=s.heap.push (ob w) }) ⟨rfl,rfl⟩) λr s1 hr=>?_;cases r with
 | error e=>exact hr
 | ok fl =>
  cases fl with
  | ret obj =>
   let⟨rfl,rfl⟩:=hr;have hS:(s.heap.push (ob w)).get? s.heap.objs.size=some (ob w):=zX _ rfl;have hT:Shared.TypeIs { s with heap:=s.heap.push (ob w) } (.ref s.heap.objs.size) "set":=⟨_,hS,rfl⟩
   have hli:=PySem.F.called_set.init.lookup;have hbi:=PySem.F.called_set.init.bind (.ref s.heap.objs.size)
   repeat (any_goals (first|assumption|wp_step))
   refine jR (codeAny_call_builtin (R:=wants (λr s2=>r=.none/\∃h' tk,s2={ s with heap:=h',toks:=tk }/\Inv its.size h'/\(∀b o,b < s.heap.objs.size->s.heap.get? b=some o->h'.get? b=some o)) E) PySem.F.called_set.init.plain PySem.F.entry_set_init (check_set_init_1 hT ?_)) λr2 s2 hr2=>?_
   ·let⟨ol,hol,hcl,nl,hdl⟩:=hl;let⟨ocls,odict,odata,oslots⟩:=ol;simp only at hcl hdl;subst hcl hdl;have hol':(s.heap.push (ob w)).get? l=some { cls:=.type "list",dict:=odict,data:=.seq its nl,slots:=oslots }:=zU _ hol;have hsls:=PySem.F.sub_list_set;have hslf:=PySem.F.sub_list_frozenset;have hne:(Value.type "list" == Value.type "dict")=false:=by decide
    have hl1:(s.heap.push (ob w)).IsList l its:=⟨_,hol',rfl,nl,rfl⟩
    have hob:(ob w).data=.set #[] 0 (.fresh 0 0 (!(w.params.followText "set-order"))):=rfl;unfold Builtin.«set.__init__» noKeywords Builtin.Frozenset.updateFrom;generalize hPI:pyIter=PI
    wp_walk
    subst hPI;refine qK hl1 (zV (wpAny_runValue ?_));have hlS:l < s.heap.objs.size:=zY hol;have hh3:A.in1.in1.in1.handled=none:=by simp[hh]
    have hz:(s.heap.push (ob w)).objs.size=s.heap.objs.size+1:=xJ ..;have hneI:l≠(s.heap.push (ob w)).objs.size:=by rw[hz];exact yR (jN hlS)
    have hSf:s.heap.objs.size∉[(s.heap.push (ob w)).objs.size,l]:=by
     rw[hz];simp?[zQ,yF,xU,not_or];exact⟨yR (kM _),jI hlS⟩
    refine update_loop ((Walks.list hh3 (s.heap.push (ob w)).objs.size l hneI its).toS) s.heap.objs.size hSf Inv (λi h h' hi k=>hfr i h h' hi λb o hb e=>k b o (λz=>hb (by rw[yJ,hz] at z;exact z)) e) (λi v s' Q E hi hP hI q=>hadd i v s' Q E hi hP hI q) (its.size - 0) 0 _ (by lia) (xV _) ⟨⟨_,zX _ rfl,rfl,rfl⟩,(hl1.push _)⟩ (h0 _ (λb o e=>zU _ (zU _ e)) (zU _ hS)) ?hR
    case hR =>
     intro s' hm hI';let⟨h',g',d',tk',os'⟩:=s';obtain rfl:g'=s.gens:=hm.gens;obtain rfl:d'=s.drawn:=hm.drawn;obtain rfl:os'=s.os:=hm.os;show wpAny _ _ _ _ _ _;refine zW ?_;show wpAny _ _ (ret Value.none) _ _ _;refine zW ⟨rfl,h',tk',rfl,hI',λb o hb e=>?_⟩;refine hm.heap b o ?_ (zU _ (zU _ e));simp?[zQ,yF,xU,not_or];rw[hz];exact⟨yR hb,yR (jN hb)⟩
   ·cases r2 with
    | error e=>exact hr2
    | ok fl2 =>
     cases fl2 with
     | ret r =>
      let⟨rfl,h',tk,rfl,hI',hk'⟩:=hr2
      repeat (any_goals (first|assumption|wp_step))
      exact h _ _ hI' hk'
     | _=>exact hr2.elim
  | _=>exact hr.elim
abbrev sq(mask:Nat)(h:Int)(m:Nat):SetTable.Probe:=it mask m (start mask h)
def sq_next(mask:Nat)(h:Int)(m:Nat):sq mask h (m+1)=adv mask (sq mask h m):=it_add mask 1 m _
def sq_dummy(mask:Nat)(h:Int):∀m,(sq mask h m).dummy=none
 | 0=>rfl
 | m+1=>by
  rw[sq_next];unfold adv;split<;>exact sq_dummy mask h m
def sq_in(mask:Nat)(h:Int):∀m,(sq mask h m).j+(sq mask h m).more<=mask
 | 0=>start_in mask h
 | m+1=>by rw[sq_next];exact adv_in (sq_in mask h m)
def TOk.slot_live(O:TOk t):t.slot j=.live i↔i < t.place.size/\t.place.getD i 0=j:=by
 let⟨k,h1,h2,h3,h4⟩:=O.below j;unfold SetTable.slot;rw[h2];dsimp only;constructor
 ·intro z;split at z
  ·rename_i e;cases z;rw[vJ] at e;let⟨hk,e⟩:=Array.getElem?_eq_some_iff.mp e;exact⟨hk,by simp[hk,e]⟩
  ·split at z<;>cases z
 ·rintro⟨hi,e⟩;have hik:i=k:=by
   rcases Nat.lt_or_ge i k with y|y
   ·have:=h3 i y;lia
   ·rcases Nat.lt_or_ge k i with x|x
    ·have:=O.ris k i x hi;have:=h4 k (yM _) (by lia);lia
    ·lia
  subst hik;rw[yL];rw[vJ,Array.getElem?_eq_some_iff];exact⟨hi,by rw[<- e];simp[hi]⟩
def TOk.first(O:TOk t)(h:Int):∃N,N < 10 * SetTable.turns t.mask/\t.slot (sq t.mask h N).j=.empty/\∀m,m < N->t.slot (sq t.mask h m).j≠.empty:=by
 let⟨k,hk⟩:=O.pow;let⟨j0,h1,h2⟩:=O.room;let⟨n,h3,h4⟩:=cov hk h j0 h1;have key:∀n,t.slot (sq t.mask h n).j=.empty->∃N,N<=n/\t.slot (sq t.mask h N).j=.empty/\∀m,m < N->t.slot (sq t.mask h m).j≠.empty:=λn=>by
  induction n using Nat.strongRecOn with
  | ind n ih =>
   intro e;by_cases z:∃m,m < n/\t.slot (sq t.mask h m).j=.empty
   ·let⟨m,hm,em⟩:=z;let⟨N,a,b,c⟩:=ih m hm em;exact⟨N,by lia,b,c⟩
   ·exact⟨n,yM _,e,λm hm em=>z ⟨m,hm,em⟩⟩
 let⟨N,a,b,c⟩:=key n (by show t.slot (it t.mask n (start t.mask h)).j=_;rw[h4];exact h2);exact⟨N,by lia,b,c⟩
def TOk.walk(O:TOk t)(h:Int)(hashAt:Nat->Int)(hN:t.slot (sq t.mask h N).j=.empty)(hb:∀m,m < N->t.slot (sq t.mask h m).j≠.empty):∀ (d m fuel:Nat),m+d=N->d < fuel ->
  (∃m' i,m<=m'/\m' < N/\t.slot (sq t.mask h m').j=.live i/\(hashAt i == h)=true/\SetTable.probe.go t hashAt h fuel (sq t.mask h m)=some (.candidate (sq t.mask h m').j i (sq t.mask h (m'+1)))/\∀r i,m<=r->r < m'->t.slot (sq t.mask h r).j=.live i->(hashAt i == h)=false) \/
  (SetTable.probe.go t hashAt h fuel (sq t.mask h m)=some (.empty (sq t.mask h N).j none)/\∀r i,m<=r->r < N->t.slot (sq t.mask h r).j=.live i->(hashAt i == h)=false)
 | d,m,0,_,hf=>absurd hf (vP _)
 | 0,m,fuel+1,hm,hf=>by
  obtain rfl:m=N:=by lia
  refine .inr ⟨?_,λr i h1 h2=>by lia⟩;rw[SetTable.probe.go,hN,sq_dummy]
 | d+1,m,fuel+1,hm,hf=>by
  have hne:=hb m (by lia);rw[SetTable.probe.go];cases hs:t.slot (sq t.mask h m).j with
  | empty=>exact absurd hs hne
  | dummy=>exact absurd hs (O.no_dummy _)
  | live i =>
   dsimp only;cases e:hashAt i == h with
   | true =>
    refine .inl ⟨m,i,yM _,by lia,hs,e,?_,λr i h1 h2=>by lia⟩;simp?[xH];rw[adv_eq,<- sq_next]
   | false =>
    simp?[yO,qP];rw[adv_eq,<- sq_next];have skip:∀ {M:Nat},(∀r i,m+1<=r->r < M->t.slot (sq t.mask h r).j=.live i->(hashAt i == h)=false)->∀r i,m<=r->r < M->t.slot (sq t.mask h r).j=.live i->(hashAt i == h)=false:=λ{M} z r i' h1 h2 h3=>by
     rcases Nat.lt_or_ge m r with y|y
     ·exact z r i' (by lia) h2 h3
     ·obtain rfl:r=m:=by lia
      rw[hs] at h3;cases h3;exact e
    rcases O.walk h hashAt hN hb d (m+1) fuel (by lia) (by lia) with ⟨m',i',a1,a2,a3,a4,a5,a6⟩|⟨a1,a2⟩
    ·exact .inl ⟨m',i',by lia,a2,a3,a4,a5,skip a6⟩
    ·exact .inr ⟨a1,skip a2⟩
def Rc(t:SetTable)(h:Int)(pos:Nat):Prop:=∃n,(sq t.mask h n).j=pos/\∀m,m < n->t.slot (sq t.mask h m).j≠.empty
def Rc.lt(hN:t.slot (sq t.mask h N).j=.empty)(r:Rc t h pos)(hp:t.slot pos≠.empty):∃n,n < N/\(sq t.mask h n).j=pos:=by
 let⟨n,e,hb⟩:=r;refine⟨n,?_,e⟩;rcases Nat.lt_trichotomy n N with z|z|z
 ·exact z
 ·subst z;rw[e] at hN;exact absurd hN hp
 ·exact absurd hN (hb N z)
abbrev kd(prog:Program)(w:World):HeapKind prog w (List Int):=tupleKind (intKind prog w)
structure RowsAt(prog:Program)(w:World)(M:List Int->Addr->Prop)(h:Heap)(a:Addr)(es:Array (Int×Value))(ep:Nat)(t:SetTable)(ks:List (List Int)):Prop where
 set:SetAt w h a es ep t
 tab:TOk t
 len:ks.length=es.size
 key:∀i,i < es.size->∃b,es[i]?=some ((kd prog w).hash (ks.getD i []),.ref b)/\(kd prog w).is h (ks.getD i []) b/\M (ks.getD i []) b
 rch:∀i,i < es.size->Rc t ((kd prog w).hash (ks.getD i [])) (t.place.getD i 0)
def no_class{Q:Bool->Shared->Prop}(x:(kd prog w).is s.heap k b)(h:Q false s):wpAny (model prog w) A (ofAClassStatement 8 (.ref b)) Q E s:=by
 have hT:s.TypeIs (.ref b) "tuple":=IsTupleKey.typeIs x;let⟨o,items,n,ho,_,hd,hi⟩:=x;unfold ofAClassStatement;refine zV (wJ hT ?_);dsimp only;have e1:("tuple" == "tuple")=true:=rfl;simp?[e1,xH];refine zV (zW ?_);simp?[xY,yO,qP];refine zV (kH ho hd ?_);refine zV ?_;show wpAny _ _ (forIn items _ _) _ _ s;rw[<- Array.forIn_toList];refine wpAny_forIn_list _ (λrest r s'=>r.1=none/\s'=s/\∀v∈rest,carriedByValue v=true) _ ?_ ?_ _ _ ⟨rfl,rfl,hi.byValue⟩
 ·rintro v rest r s' ⟨hr,rfl,hall⟩;have hv:=hall v zE;have e:ofAClassStatement 7 v=pure false:=by cases v<;>first|rfl|cases hv
  rw[e];refine zV (zW ?_);simp?[yO,qP];exact zW ⟨rfl,rfl,λu hu=>hall u (zC _ hu)⟩
 ·rintro⟨r1,r2⟩ s' ⟨hr,rfl,_⟩;simp only at hr;subst hr;exact zW h
def not_seen{Q:Bool->Shared->Prop}(x:(kd prog w).is s.heap k b)(l:List Value)(hl:∀v∈l,∃c j,v=.ref c/\(kd prog w).is s.heap j c)(h:Q false s):wpAny (model prog w) A (searchCouldBeSeen (.ref b) l) Q E s:=by
 unfold searchCouldBeSeen;refine zV ?_;refine wpAny_forIn_list _ (λrest r s'=>r.1=none/\s'=s/\∀v∈rest,∃c j,v=.ref c/\(kd prog w).is s.heap j c) _ ?_ ?_ _ _ ⟨rfl,rfl,hl⟩
 ·rintro v rest r s' ⟨hr,rfl,hall⟩;let⟨c,j,rfl,y⟩:=hall v zE;dsimp only;by_cases e:(b == c||(carriedByValue (.ref b)&&carriedByValue (.ref c)))=true
  ·rw[yL e];exact zW ⟨rfl,rfl,λu hu=>hall u (zC _ hu)⟩
  ·rw[yN e];refine zV ((kd prog w).quiet x ?_);simp?[xY,yO,qP];refine zV ((kd prog w).quiet y ?_);simp?[xY,yO,qP];refine zV (no_class x ?_);simp?[yO,qP];refine zV (no_class y ?_);simp?[yO,qP];exact zW ⟨rfl,rfl,λu hu=>hall u (zC _ hu)⟩
 ·rintro⟨r1,r2⟩ s' ⟨hr,rfl,_⟩;simp only at hr;subst hr;exact zW h
def RowsAt.members(R:RowsAt prog w M h a es ep t ks):∀e∈es.toList,∃c j,e.2=.ref c/\(kd prog w).is h j c:=λe he=>by
 let⟨i,hi⟩:=List.mem_iff_getElem?.mp he;rw[Array.getElem?_toList] at hi;let⟨hl,_⟩:=Array.getElem?_eq_some_iff.mp hi;let⟨b,e1,e2,_⟩:=R.key i hl;rw[e1] at hi;cases hi;exact⟨b,_,rfl,e2⟩
def same_ref{Q:Bool->Shared->Prop}(h:Q true s):wpAny (model prog w) A (isSame (.ref c) (.ref c)) Q E s:=by
 unfold isSame;dsimp only;rw[yL (beq_self_eq_true _)];exact zW h
def search{Q:SetFound->Shared->Prop}(R:RowsAt prog w M s.heap a es ep t ks)(x:(kd prog w).is s.heap k b)(hu:(kd prog w).room A)
  (hN:t.slot (sq t.mask ((kd prog w).hash k) N).j=.empty) (hb:∀m,m < N->t.slot (sq t.mask ((kd prog w).hash k) m).j≠.empty) (hl:N < 10 * SetTable.turns t.mask)
  (h0:k∈ks->Q (.there none) s) (h1:k∉ks->Q (.free (sq t.mask ((kd prog w).hash k) N).j false) s) :
  ∀ (d m fuel:Nat) (stand:Option SetTable.Probe),m+d=N->d < fuel->stand.getD (t.probeStart ((kd prog w).hash k))=sq t.mask ((kd prog w).hash k) m ->
   (∀i,i < es.size->ks.getD i []=k->∀r,r < m->(sq t.mask ((kd prog w).hash k) r).j≠t.place.getD i 0)->wpAny (model prog w) A (setSearchFrom a (.ref b) ((kd prog w).hash k) true fuel stand) Q E s
 | d,m,0,_,_,hf,_,_=>absurd hf (vP _)
 | d,m,fuel+1,stand,hm,hf,hs,hJ=>by
  let⟨o,ho,hex,hd⟩:=R.set.get;let⟨hsz,_⟩:=fit2 R.set;let⟨kk,hk⟩:=R.tab.pow;have hodd:t.gaveWay=false:=by
   unfold SetTable.gaveWay;rw[beq_eq_false_iff_ne];rw[Nat.pow_succ] at hk;lia
  unfold setSearchFrom;refine zV (wpAny_setState_of ho hd R.set.fits ?_);dsimp only;simp?[hodd,yO,qP];rw[hs];have hlive:∀i,i < es.size->t.slot (t.place.getD i 0)=.live i:=λi hi=>R.tab.slot_live.mpr ⟨by lia,rfl⟩;have hash_at:∀i,i < es.size->(es[i]?.map (·.1)).getD 0=(kd prog w).hash (ks.getD i []):=λi hi=>by
   let⟨b,e,_⟩:=R.key i hi;rw[e];rfl
  rcases R.tab.walk ((kd prog w).hash k) (λi=>(es[i]?.map (·.1)).getD 0) hN hb d m (10 * SetTable.turns t.mask) hm (by lia) with ⟨m',i,a1,a2,a3,a4,a5,a6⟩|⟨a1,a2⟩
  ·have e:t.probe (λi=>(es[i]?.map (·.1)).getD 0) ((kd prog w).hash k) (sq t.mask ((kd prog w).hash k) m)=some (.candidate (sq t.mask ((kd prog w).hash k) m').j i (sq t.mask ((kd prog w).hash k) (m'+1))):=a5;show wpAny _ _ (match t.probe (λi=>(es[i]?.map (·.1)).getD 0) ((kd prog w).hash k) (sq t.mask ((kd prog w).hash k) m) with|some met=>_|_=>_) _ _ _;rw[e];dsimp only;let⟨hip,hpos⟩:=R.tab.slot_live.mp a3;have hi:i < es.size:=by lia
   let⟨c,ec,yc,_⟩:=R.key i hi;have e4:(kd prog w).hash (ks.getD i [])=(kd prog w).hash k:=by
    have:=a4;rw[hash_at i hi,vJ] at this;exact this
   have goon:ks.getD i []≠k->wpAny (model prog w) A (setSearchFrom a (.ref b) ((kd prog w).hash k) true fuel (some (sq t.mask ((kd prog w).hash k) (m'+1)))) Q E s:=λhne=>by
    refine search R x hu hN hb hl h0 h1 (N - (m'+1)) (m'+1) fuel _ (by lia) (by lia) rfl λi' hi' ek r hr=>?_;rcases Nat.lt_or_ge r m with z|z
    ·exact hJ i' hi' ek r z
    ·intro ez;rcases Nat.lt_or_ge r m' with y|y
     ·have:=a6 r i' z y (by rw[ez];exact hlive i' hi');rw[hash_at i' hi',ek] at this;simp at this
     ·obtain rfl:r=m':=by lia
      rw[ez,hlive i' hi'] at a3;cases a3;exact hne ek
   refine wpAny_ite_split (λ_=>?_) (λ_=>?_)
   ·refine zV (not_seen x _ (λv hv=>?_) ?_)
    ·let⟨e,he,rfl⟩:=List.mem_map.mp hv;rw[Array.mem_toList_iff,Array.mem_filter] at he;exact R.members e (Array.mem_toList_iff.mpr he.1)
    ·simp?[yO,qP];rw[ec];dsimp only;refine zV (xX ((kd prog w).eqBool hu yc x ?_));refine zV (wpAny_setState_of ho hd R.set.fits ?_);dsimp only;by_cases eq:ks.getD i []=k
     ·rw[yA eq];simp?[Bool.and_self,xH];refine zW (h0 ?_);rw[<- eq];have:i < ks.length:=by rw[R.len];exact hi
      simp[this]
     ·rw[zZ eq];simp?[kW,yO,qP];have hm:t.sameMemory t.moves t.mask=some true:=by unfold SetTable.sameMemory;rw[yL (beq_self_eq_true _)]
      rw[hm];dsimp only;simp?[xH];rw[a3];dsimp only;rw[ec];dsimp only;refine zV (same_ref ?_);simp?[xH];exact goon eq
   ·rw[ec];dsimp only;refine zV (xX ((kd prog w).eqBool hu yc x ?_));refine zV (wpAny_setState_of ho hd R.set.fits ?_);dsimp only;by_cases eq:ks.getD i []=k
    ·rw[yA eq];simp?[Bool.and_self,xH];refine zW (h0 ?_);rw[<- eq];have:i < ks.length:=by rw[R.len];exact hi
     simp[this]
    ·rw[zZ eq];simp?[kW,yO,qP];have hm:t.sameMemory t.moves t.mask=some true:=by unfold SetTable.sameMemory;rw[yL (beq_self_eq_true _)]
     rw[hm];dsimp only;simp?[xH];rw[a3];dsimp only;rw[ec];dsimp only;refine zV (same_ref ?_);simp?[xH];exact goon eq
  ·have e:t.probe (λi=>(es[i]?.map (·.1)).getD 0) ((kd prog w).hash k) (sq t.mask ((kd prog w).hash k) m)=some (.empty (sq t.mask ((kd prog w).hash k) N).j none):=a1;show wpAny _ _ (match t.probe (λi=>(es[i]?.map (·.1)).getD 0) ((kd prog w).hash k) (sq t.mask ((kd prog w).hash k) m) with|some met=>_|_=>_) _ _ _;rw[e];refine zW (h1 λhin=>?_);let⟨i,hi,ei⟩:=qQ hin;have hi':i < es.size:=by rw[<- R.len];exact hi
   have ek:ks.getD i []=k:=by simp[hi,ei]
   have hr:=R.rch i hi';rw[ek] at hr;let⟨n,n1,n2⟩:=hr.lt hN (by rw[hlive i hi'];intro z;cases z);rcases Nat.lt_or_ge n m with z|z
   ·exact hJ i hi' ek n z n2
   ·have:=a2 n i z n1 (by rw[n2];exact hlive i hi');rw[hash_at i hi',ek] at this;simp at this
def ins_getq{α:Type}(xs:Array α)(p:Nat)(x:α)(hp:p<=xs.size)(i:Nat):(SetTable.insertAt xs p x)[i]?=if i < p then xs[i]? else if i=p then some x else xs[i - 1]?:=by
 rw[<- Array.getElem?_toList,ins_list,List.getElem?_append];have hl:(xs.toList.take p).length=p:=by rw[jV,wC];lia
 rw[hl];by_cases h1:i < p
 ·rw[yL h1,yL h1,List.getElem?_take_of_lt h1,Array.getElem?_toList]
 ·rw[yN h1,yN h1];by_cases h2:i=p
  ·subst h2;rw[yL rfl,Nat.sub_self];rfl
  ·rw[yN h2,show i - p=(i - p - 1)+1 by lia,yY,List.getElem?_drop,show p+(i - p - 1)=i - 1 by lia,Array.getElem?_toList]
def insK(ks:List (List Int))(p:Nat)(k:List Int):List (List Int):=ks.take p++k::ks.drop p
def insK_get(ks:List (List Int))(p:Nat)(k:List Int)(hp:p<=ks.length)(i:Nat):(insK ks p k).getD i []=if i < p then ks.getD i [] else if i=p then k else ks.getD (i - 1) []:=by
 unfold insK;have hl:(ks.take p).length=p:=by rw[jV];lia
 rw[zG,List.getElem?_append,hl];by_cases h1:i < p
 ·rw[yL h1,yL h1,List.getElem?_take_of_lt h1,zG]
 ·rw[yN h1,yN h1];by_cases h2:i=p
  ·subst h2;rw[yL rfl,Nat.sub_self];rfl
  ·rw[yN h2,show i - p=(i - p - 1)+1 by lia,yY,List.getElem?_drop,show p+(i - p - 1)=i - 1 by lia,zG]
def insK_perm(ks:List (List Int))(p:Nat)(k:List Int):(insK ks p k).Perm (k::ks):=by
 unfold insK;refine List.perm_middle.trans ?_;rw[List.take_append_drop]
def insK_len(ks:List (List Int))(p:Nat)(k:List Int):(insK ks p k).length=ks.length+1:=(insK_perm ks p k).length_eq
def is_keep(x:(kd prog w).is h k b)(hk:∀o,h.get? b=some o->h'.get? b=some o):(kd prog w).is h' k b:=let ⟨o,items,n,ho,r⟩:=x;⟨o,items,n,hk o ho,r⟩
def hash_by{Q:Bool->Shared->Prop}(x:(kd prog w).is s.heap k b)(h:Q true s):wpAny (model prog w) A (hashByValue 8 (.ref b)) Q E s:=by
 have hT:s.TypeIs (.ref b) "tuple":=IsTupleKey.typeIs x;let⟨o,items,n,ho,_,hd,hi⟩:=x;unfold hashByValue;refine zV (wpAny_specialOf hT PySem.F.slot_tuple_hash.lookup ?_);dsimp only;refine zV (kH ho hd ?_);refine zV ?_;show wpAny _ _ (forIn items _ _) _ _ s;rw[<- Array.forIn_toList];refine wpAny_forIn_list _ (λrest r s'=>r.1=none/\s'=s/\∃ks,ItemsAre (intKind prog w) ks rest) _ ?_ ?_ _ _ ⟨rfl,rfl,_,hi⟩
 ·rintro v rest r s' ⟨hr,rfl,ks,hall⟩;cases hall with
  | cons h1 h2 =>
   let⟨t,rfl⟩:=Value.isInt_shape h1;have e:∀ (z:Int) (t:Tok),hashByValue 7 (Value.int z t)=pure true:=λ_ _=>rfl;rw[e];refine zV (zW ?_);simp?[xY,yO,qP];exact zW ⟨rfl,rfl,_,h2⟩
 ·rintro⟨r1,r2⟩ s' ⟨hr,rfl,_⟩;simp only at hr;subst hr;exact zW h
def put_place(O:TOk t)(j:Nat):(t.put j).1.place=SetTable.insertAt t.place (t.put j).2 j:=rfl
def put_keeps(O:TOk t)(hj:j<=t.mask)(he:t.slot j=.empty)(hm:t.place.size+1<=t.mask)(hp:t.slot p≠.empty):(t.put j).1.slot p≠.empty:=by
 let⟨O',p1,_,_,_,_,p6⟩:=O.put hj he hm;intro z;refine hp (O.slot_empty.mpr λi hi e=>?_);have hz:=O'.slot_empty.mp z;have hg:=inA_get t.place (t.put j).2 j p6;by_cases c:i < (t.put j).2
 ·refine hz i (by lia) ?_;rw[put_place O,hg,yL c];exact e
 ·refine hz (i+1) (by lia) ?_;rw[put_place O,hg,yN (by lia),yN (by lia)];exact e
def RowsAt.put(R:RowsAt prog w M h a es ep t ks)(hm:es.size+1<=t.mask)(x:(kd prog w).is h k b)(xm:M k b)
  (hN:t.slot (sq t.mask ((kd prog w).hash k) N).j=.empty) (hb:∀m,m < N->t.slot (sq t.mask ((kd prog w).hash k) m).j≠.empty)
  (hk:∀c o,c≠a->h.get? c=some o->h'.get? c=some o)
  (hg:∃o,h'.get? a=some o/\o.ExactSet/\o.data=.set (SetTable.insertAt es (t.put (sq t.mask ((kd prog w).hash k) N).j).2 ((kd prog w).hash k,.ref b)) (ep+1) (t.put (sq t.mask ((kd prog w).hash k) N).j).1) :
  RowsAt prog w M h' a (SetTable.insertAt es (t.put (sq t.mask ((kd prog w).hash k) N).j).2 ((kd prog w).hash k,.ref b)) (ep+1) (t.put (sq t.mask ((kd prog w).hash k) N).j).1 (insK ks (t.put (sq t.mask ((kd prog w).hash k) N).j).2 k):=by
 let⟨hsz,_⟩:=fit2 R.set;have hj:(sq t.mask ((kd prog w).hash k) N).j<=t.mask:=by have:=sq_in t.mask ((kd prog w).hash k) N;lia
 let⟨O',p1,p2,p3,p4,p5,p6⟩:=R.tab.put hj hN (by lia);have hne:∀ {j c},(kd prog w).is h j c->c≠a:=λ{j c} y z=>by
  let⟨o,items,n,ho,hc,_⟩:=y;let⟨o2,ho2,hx,_⟩:=R.set.get;rw[z,ho2] at ho;cases ho;rw[hx.1] at hc;exact absurd hc (by decide)
 have is':∀ {j c},(kd prog w).is h j c->(kd prog w).is h' j c:=λ{j c} y=>is_keep y λo e=>hk c o (hne y) e;have rc':∀ {g q},Rc t g q->Rc (t.put (sq t.mask ((kd prog w).hash k) N).j).1 g q:=λ{g q} ⟨n,e,z⟩=>by
  refine⟨n,by rw[p2];exact e,λm hm'=>?_⟩;rw[p2];exact put_keeps R.tab hj hN (by lia) (z m hm')
 have hz:(SetTable.insertAt es (t.put (sq t.mask ((kd prog w).hash k) N).j).2 ((kd prog w).hash k,Value.ref b)).size=es.size+1:=ins_size ..;have hl:=R.len;generalize ep1:(t.put (sq t.mask ((kd prog w).hash k) N).j).2=p at *;refine⟨⟨hg,O'.fits (by rw[p1,hz,hsz]),by rw[p4];exact R.set.plain,by rw[p3];exact R.set.led,O'.ris⟩,O',by rw[insK_len,hz,hl],λi hi=>?_,λi hi=>?_⟩
 ·rw[hz] at hi;rw[ins_getq _ _ _ (by lia),insK_get _ _ _ (by lia)];by_cases c1:i < p
  ·rw[yL c1,yL c1];let⟨c,e1,e2,e3⟩:=R.key i (by lia);exact⟨c,e1,is' e2,e3⟩
  ·rw[yN c1,yN c1];by_cases c2:i=p
   ·rw[yL c2,yL c2];exact⟨b,rfl,is' x,xm⟩
   ·rw[yN c2,yN c2];let⟨c,e1,e2,e3⟩:=R.key (i - 1) (by lia);exact⟨c,e1,is' e2,e3⟩
 ·rw[hz] at hi;rw[put_place R.tab,ep1,inA_get _ _ _ (by lia),insK_get _ _ _ (by lia)];by_cases c1:i < p
  ·rw[yL c1,yL c1];exact rc' (R.rch i (by lia))
  ·rw[yN c1,yN c1];by_cases c2:i=p
   ·rw[yL c2,yL c2];refine⟨N,by rw[p2],λm hm'=>?_⟩;rw[p2];exact put_keeps R.tab hj hN (by lia) (hb m hm')
   ·rw[yN c2,yN c2];exact rc' (R.rch (i - 1) (by lia))
def add_row{Q:Bool->Shared->Prop}(R:RowsAt prog w M s.heap a es ep t ks)(hm:k∉ks->(es.size+1) * 5 < t.mask * 3)(hM:t.mask<=8191)(hu:(kd prog w).room A)(x:(kd prog w).is s.heap k b)(xm:M k b)
  (h0:k∈ks->Q false s)
  (h1:k∉ks->∀h' es' ep' t' ks',Heap.SameBut a s.heap h'->RowsAt prog w M h' a es' ep' t' ks'->t'.mask=t.mask->es'.size=es.size+1->ks'.Perm (k::ks)->Q true { s with heap:=h' }) :
  wpAny (model prog w) A (setAddHashed a (.ref b) ((kd prog w).hash k)) Q E s:=by
 let⟨o,ho,hex,hd⟩:=R.set.get;let⟨hs,_⟩:=fit2 R.set;let⟨N,hl,hN,hb⟩:=R.tab.first ((kd prog w).hash k);have hj:(sq t.mask ((kd prog w).hash k) N).j<=t.mask:=by have:=sq_in t.mask ((kd prog w).hash k) N;lia
 unfold setAddHashed setAddHashedIn;refine xX (zV (wpAny_setState_of ho hd R.set.fits ?_));dsimp only;have hsc:byScan (.ref b) es=false:=rfl;simp?[hsc,yO,qP];unfold setSearch;refine zV (search R x hu hN hb hl (λhin=>?_) (λhin=>?_) N 0 100000 none (by lia) (by unfold SetTable.turns at hl;lia) rfl λi _ _ r hr=>by lia)
 ·exact zW (h0 hin)
 ·have hm:=hm hin;let⟨O',p1,p2,p3,p4,p5,p6⟩:=R.tab.put hj hN (by lia);dsimp only;refine zV (wpAny_setState_of ho hd R.set.fits ?_);dsimp only;have hpl:(t.put (sq t.mask ((kd prog w).hash k) N).j).1.plain=true:=by rw[p4];exact R.set.plain
  rw[hpl];simp?[xH];refine zV (hash_by x ?_);simp?[xH];have hz:(SetTable.insertAt es (t.put (sq t.mask ((kd prog w).hash k) N).j).2 ((kd prog w).hash k,Value.ref b)).size=es.size+1:=ins_size ..;refine zV (wpAny_storeSet_of ho hd ?_ (by rw[hz,qU];lia));have hfull:(t.put (sq t.mask ((kd prog w).hash k) N).j).1.tooFull=false:=by
   unfold SetTable.tooFull SetTable.fill;rw[p1,p5,p2];simp;lia
  simp?[hfull,kW,yO,qP];have hg:=Heap.get?_update_self (Obj.putSet (SetTable.insertAt es (t.put (sq t.mask ((kd prog w).hash k) N).j).2 ((kd prog w).hash k,Value.ref b)) (t.put (sq t.mask ((kd prog w).hash k) N).j).1) ho (by rw[putSet_of _ _ hd];rfl);rw[putSet_of _ _ hd] at hg;have sb:=Heap.SameBut.update s.heap a (Obj.putSet (SetTable.insertAt es (t.put (sq t.mask ((kd prog w).hash k) N).j).2 ((kd prog w).hash k,Value.ref b)) (t.put (sq t.mask ((kd prog w).hash k) N).j).1);refine zW (h1 hin _ _ _ _ _ sb (R.put (by lia) x xm hN hb (λc o' hc e=>(sb.2 c hc).trans e) ⟨_,hg,hex,rfl⟩) p2 hz (insK_perm ..))
end Se
namespace Dl
open PySem L2 PySem.Spec PyProof.Rows
variable {P:Program}
def dd(ns:List Int):List Int:=firstMet (λi=>ns.getD i 0) ns.length
def DB(P:Program)(w:World)(q:Addr)(l:List Int):HO:=.ext λh=>∃es ep t ms,Se.IntsAt P w h q es ep t ms/\ms.Perm l
def HH{w:World}{H:Hp}{h:Heap}{q:Addr}{l:List Int}(x:∃es ep t ms,Se.IntsAt P w h q es ep t ms/\ms.Perm l):di P w H h q (DB P w q l):=by
 refine⟨x,?_,λh1 h2 ⟨es,ep,t,ms,i,p⟩ e=>⟨es,ep,t,ms,⟨i.set.at e,i.tab,i.els,i.vals⟩,p⟩⟩;let⟨es,ep,t,ms,i,_⟩:=x;let⟨o,ho,_⟩:=i.set.get;exact⟨o,ho⟩
def C8(σ:List Int)(v:Int)(h:v∉σ):(v::σ).Perm (step_dedup σ v):=by
 unfold step_dedup;rw[yN (by simp?[List.any_eq_true,vJ,exists_eq_right];exact h)];exact (List.perm_append_comm (l₁:=[v]))
def IT(σ:List Int)(v:Int)(h:v∈σ):step_dedup σ v=σ:=by
 unfold step_dedup;rw[yL (by simp?[List.any_eq_true,vJ,exists_eq_right];exact h)]
def C5(hc:X.calm=true):dh X (.type "set") (λxs H Q=>∃ (a:Addr) (ns:List Int),xs=[.ref a]/\gw X.K H a (ns.map V.int)/\ns.length<=4/\∀q,H q=none->Q (.ref q) (upd H q (DB X.prog X.w q (dd ns)))):=by
 intro pins s σ H xs us Q I r h;let⟨a,ns,rfl,hq,hb,q⟩:=h;let⟨u,rfl,rx⟩:=vals1 r;cases rx;let⟨its,rv,pl,hz⟩:=I.list hq;have hi:IntsAre its.toArray.toList ns:=intsAre_of rv;have hlen:its.toArray.size=ns.length:=by have:=rv.length;simpa using this.symm
 refine Se.call_set (I.ok.hd hc) pl.isList (λi h=>∃es ep t ms,Se.IntsAt X.prog X.w h s.heap.objs.size es ep t ms/\ms.Perm (firstMet (λi=>ns.getD i 0) i)/\t.mask=7/\es.size<=i)
  (λh' _ e=>⟨#[],0,_,[],⟨Se.ob_set X.w e,Se.ob_tab _ _ _,λe he=>by simp at he,.nil⟩,.refl _,rfl,yM _⟩)
  (λi h h' ⟨es,ep,t,ms,J,p,m,z⟩ k=>⟨es,ep,t,ms,⟨J.set.at λo e=>k _ o (yR (kM _)) e,J.tab,J.els,J.vals⟩,p,m,z⟩)
  (λi v s' Q' E' hi' hv ⟨es,ep,t,ms,J,p,m,z⟩ q'=>?_) λh' tk ⟨es,ep,t,ms,J,p,_,_⟩ hk=>?_
 ·let⟨tk,rfl⟩:=IntsAre.int_at hi i v (by rw[Array.getElem?_toList];exact hv);unfold setAdd;refine xX (zV ((intKind X.prog X.w).pyHash (k:=ns.getD i 0) (intKind_is _ _ _ _) ?_));refine Se.add_int (s:={ s' with toks:=s'.toks+1 }) J (by rw[m];lia) (by unfold scanBound;lia) (ns.getD i 0) tk (λhm=>?_) (λhm h' es' ep' t' ms' sb J' m' z' p'=>?_)
  ·refine q' false s'.heap (s'.toks+1) (Nat.le_succ _) (Heap.SameBut.refl _ _) ⟨es,ep,t,ms,J,?_,m,by lia⟩;rw[firstMet_succ,IT _ _ (p.mem_iff.mp hm)];exact p
  ·refine q' true h' (s'.toks+1) (Nat.le_succ _) sb ⟨es',ep',t',ms',J',?_,by rw[m',m],by lia⟩;rw[firstMet_succ];exact p'.trans ((p.cons _).trans (C8 _ _ λx=>hm (p.mem_iff.mpr x)))
 ·rw[hlen] at p;exact⟨.ref s.heap.objs.size,_,I.laid (t':=tk) (λb o e=>hk b o (zY e) e) (yM _) (HH ⟨es,ep,t,ms,J,p⟩),rfl,q _ I.fresh⟩
def gK:∀ {vs:List Value}{ns:List Int},IntsAre vs ns->aJ (ns.map V.int) vs
 | _,_,.nil=>.nil
 | _,_,.cons n t r=>.cons ⟨t,rfl⟩ (gK r)
def FI(z:Nat->Int)(f:Int->β)(d:β)(ns:List Int):lT z (ns.map f) d=(lT z ns 0).map f:=by
 unfold lT;rw[zD];split
 ·rfl
 ·rename_i h;rw[zM];let⟨hp,_⟩:=SP.d9 (z:=z) (n:=ns.length) (by lia);refine yH λi hi=>?_;have hi':i < ns.length:=by have:=hp.mem_iff.mp hi;simpa using this
  simp[hi']
def sX(hc:X.calm=true):dh X (.builtin "sorted") (λxs H Q=>∃ (a:Addr) (l:List Int),xs=[.ref a]/\H a=some (DB X.prog X.w a l)/\l.length < 64/\∀Dn:Addr,H Dn=none->Q (.ref Dn) (upd H Dn (.lst ((Wm.rA l).map V.int)))):=by
 intro pins s σ H xs us Q I r h;let⟨a,l,rfl,hq,h64,q⟩:=h;let⟨u,rfl,rx⟩:=vals1 r;cases rx;let⟨⟨es,ep,t,ms,J,p⟩,_,_⟩:=(show di X.prog X.w H s.heap a (DB X.prog X.w a l) from I.hok a _ hq)
 let⟨ns,hv,hp⟩:=Se.ints_perm ((Se.ordE_perm (w:=X.w) (a:=a) (ep:=ep) (es:=es)).map (λe:Int×Value=>e.2)) J.vals;have hl:ns.length=l.length:=(hp.trans p).length_eq;have hl2:=vX hv;have hes:es.size<=sizeLine:=by
  have h1:=Se.ordE_size (w:=X.w) (a:=a) (ep:=ep) (es:=es);have h2:((Se.ordE X.w a ep es).toList.map (λe:Int×Value=>e.2)).length=(Se.ordE X.w a ep es).size:=by simp
  rw[PySem.sizeLine_eq];lia
 refine Se.sortedH ((Se.ordE X.w a ep es).toList.map (λe:Int×Value=>e.2)) (by lia) (λi=>ns.getD i 0) oneType' (λQ' E' q'=>Se.collect_set (by simp[I.ok.hd hc]) J.set hes q') (λh2 h' tk kp Q' q'=>?_) (λh2 h' tk kp i j C hi hj q'=>?_) λh' tk Dn c kp hD e=>?_
 ·rw[PyProof.Rows.ksk_kind (keys:=((Se.ordE X.w a ep es).toList.map (λe:Int×Value=>e.2)).toArray) (kz:=ns) (by simpa using hv) (by simpa using h2)];exact zW q'
 ·let⟨t1,e1⟩:=dG hv (i:=i) (by lia);let⟨t2,e2⟩:=dG hv (i:=j) (by lia);unfold PySem.W.kas_ask;rw[e1,e2];exact PySem.W.kat_lt_int q'
 ·have hvs:=i3 (λi=>ns.getD i 0) (gK hv);rw[FI,Fc,show Wm.rA ns=Wm.rA l from Wm.lx ((Wm.gU ns).trans ((hp.trans p).trans (Wm.gU l).symm)) (Wm.me ns) (Wm.me l)] at hvs;refine⟨.ref Dn,_,I.laid (t':=tk) (o:=.lst ((Wm.rA l).map V.int)) kp hD ⟨?_,_,c,hvs,e⟩,rfl,q Dn (I.hok.fresh hD)⟩;rw[zD,(Wm.gU l).length_eq,PySem.sizeLine_eq];lia
def xg:D->Option (List D):=λd=>match d with
 | .list es=>(intsOf es).bind λns=>if ns.length<=4 then some ((Wm.rA (dd ns)).map PyData.int) else none
 | _=>none
def u6(f:Env->Option D):Env->Option (List D):=λρ=>(f ρ).bind xg
def mJ{K:PySem.W.Frag}:∀ns:List Int,ak K H (ns.map PyData.int) (ns.map V.int)
 | []=>ak.nil
 | n::ns=>ak.cons (by simp[Rep]) (mJ ns)
def zh(hc:X.calm=true)(B:mY X "sorted" (.builtin "sorted"))(C:mY X "set" (.type "set"))(h:DE X e f)(he:starEach [e] X.env=(false,eval e X.env)::starEach [] X.env:=by rfl) :
  DF X (.Call (.Name "sorted" p) [.Call (.Name "set" p') [e] [] pos'] [] pos) (u6 f) :=
 bc (hU (sX hc) B.gl B.mg B.bt (cm (kf (C5 hc) C.gl C.mg C.bt (cm h dQ he) (by decide) (by decide) he rfl) dQ) (by decide) (by decide) rfl rfl) λσ H Q ⟨HF,ρ,d,sm,eo,hf,q⟩=>by
  let⟨x,hx,hf⟩:=bs hf;unfold xg at hf;split at hf
  ·rename_i es;let⟨ns,h1,hf⟩:=bs hf;split at hf
   ·rename_i hb;cases hf;refine⟨HF,ρ,.list es,sm,eo,hx,λv1 H1 HF1 g1 r1=>?_⟩;have e1:=cf h1;subst e1;simp?[Rep] at r1;let⟨a,vs,rfl,hs,rr⟩:=r1;have:=hV rr;subst this;refine⟨a,ns,rfl,g1.fh.seq hs,hb,λb hb'=>⟨b,dd ns,rfl,aI,?_,λDn hD=>?_⟩⟩
    ·have:=firstMet_length_le (λi=>ns.getD i 0) ns.length;unfold dd;lia
    ·have hD1:H1 Dn=none:=by
      unfold upd at hD;split at hD
      ·cases hD
      ·exact hD
     have g2:=g1.trans (bY.own (o:=DB X.prog X.w b (dd ns)) g1.fh hb');exact q Dn _ _ HF1 (g2.trans (.own g2.fh hD)) (g1.hh.free hD1) (g1.fh.free hD1) aI (mJ _)
   ·cases hf
  ·cases hf
def qt(σ:List (List Int))(v:List Int):List (List Int):=if v∈σ then σ else σ++[v]
def nz(l:List (List Int)):List (List Int):=l.foldl qt []
def Du{l:List (List Int)}{i:Nat}{v:List Int}(h:l[i]?=some v):nz (l.take (i+1))=qt (nz (l.take i)) v:=by
 unfold nz;rw[wR,h,vA];rfl
def HZ(σ:List (List Int))(v k:List Int):k∈qt σ v↔k∈σ\/k=v:=by
 unfold qt;split
 ·rename_i h;constructor
  ·exact .inl
  ·rintro (z|rfl)
   ·exact z
   ·exact h
 ·simp
def uS(k:List Int):∀ (l σ:List (List Int)),k∈l.foldl qt σ↔k∈σ\/k∈l
 | [],σ=>by simp
 | v::l,σ=>by rw[yI,uS k l,HZ,zQ,or_assoc]
def uK(l:List (List Int))(k:List Int):k∈nz l↔k∈l:=by rw[nz,uS];simp
def xc:∀ (l σ:List (List Int)),σ.length<=(l.foldl qt σ).length
 | [],σ=>yM _
 | v::l,σ=>by
  rw[yI];refine yD ?_ (xc l _);unfold qt;split
  ·exact yM _
  ·simp
def HD(l:List (List Int))(i:Nat):(nz (l.take i)).length<=(nz l).length:=by
 have:nz l=(l.drop i).foldl qt (nz (l.take i)):=by
  unfold nz;rw[<- vA,List.take_append_drop]
 rw[this];exact xc _ _
def pG:∀ (l σ:List (List Int)),σ.Nodup->(l.foldl qt σ).Nodup
 | [],_,h=>h
 | v::l,σ,h=>by
  refine pG l _ ?_;unfold qt;split
  ·exact h
  ·rename_i hn;rw[wU];exact⟨h,by simp,λa ha b hb z=>hn (by rw[yJ] at hb;rw[<- hb,<- z];exact ha)⟩
def rR(l:List (List Int)):(nz l).Nodup:=pG l [] List.nodup_nil
def FX(w:World)(q:Addr)(bs:List Addr):HO:=.ext λh=>∃es ep t,Se.SetAt w h q es ep t/\es.toList.map (λe:Int×Value=>e.2)=bs.map Value.ref
def GY{w:World}{H:Hp}{h:Heap}{q:Addr}{bs:List Addr}(x:∃es ep t,Se.SetAt w h q es ep t/\es.toList.map (λe:Int×Value=>e.2)=bs.map Value.ref):di P w H h q (FX w q bs):=by
 refine⟨x,?_,λh1 h2 ⟨es,ep,t,i,p⟩ e=>⟨es,ep,t,i.at e,p⟩⟩;let⟨es,ep,t,i,_⟩:=x;let⟨o,ho,_⟩:=i.get;exact⟨o,ho⟩
def o9{P:Program}{w:World}:∀ {vs:List Value}{ns:List Int},IntsAre vs ns->PySem.ItemsAre (intKind P w) ns vs
 | _,_,.nil=>.nil
 | _,_,.cons n t r=>.cons (intKind_is P w n t) (o9 r)
def KD{w:World}{h:Heap}{v:Value}{ns:List Int}(r:kl h v ns):∃b,v=.ref b/\(Se.kd P w).is h ns b:=by
 let⟨a,o,its,n,rfl,e1,e2,e3,e4⟩:=r.ex;exact⟨a,rfl,o,its,n,e1,e2,e3,o9 e4⟩
def RowsAt.move{w:World}{M:List Int->Addr->Prop}{h h':Heap}{a:Addr}{es:Array (Int×Value)}{ep:Nat}{t:SetTable}{ks:List (List Int)}(R:Se.RowsAt P w M h a es ep t ks)(ha:∀o,h.get? a=some o->h'.get? a=some o)(hm:∀k b,M k b->∀o,h.get? b=some o->h'.get? b=some o):Se.RowsAt P w M h' a es ep t ks :=
 ⟨R.set.at ha,R.tab,R.len,λi hi=>let ⟨b,e1,e2,e3⟩:=R.key i hi;⟨b,e1,Se.is_keep e2 (hm _ b e3),e3⟩,R.rch⟩
def addrOf:Option (Int×Value)->Addr
 | some (_,.ref b)=>b
 | _=>0
def Im{K:PySem.W.Frag}{nss:List (List Int)}{vs:List V}{i:Nat}{k:List Int}{v:V}(r:ak K HF (nss.map af) vs)(h1:vs[i]?=some v)(h2:nss[i]?=some k):Rep K HF (af k) v:=by
 let⟨v',e1,e2⟩:=r.getD (i:=i) (d:=af k) (by rw[zO,h2];rfl);rw[h1] at e1;cases e1;exact e2
def xk{K:PySem.W.Frag}:∀ (l:List (List Int×Addr)),(∀z∈l,Rep K HF (af z.1) (.ref z.2))->ak K HF ((l.map (·.1)).map af) ((l.map (·.2)).map V.ref)
 | [],_=>ak.nil
 | z::l,h=>ak.cons (h z zE) (xk l λy hy=>h y (zC _ hy))
def tK(hc:X.calm=true)(hu:X.A.units+64 < cLine):dh X (.type "set") (λxs H Q=>∃ (HF:Hp) (a:Addr) (vs:List V) (nss:List (List Int)),xs=[.ref a]/\aU HF H/\gw X.K HF a vs/\ak X.K HF (nss.map af) vs/\(nz nss).length<=4 /\
  ∀ (q:Addr) (bs:List Addr) (l:List (List Int)),H q=none->l.Perm (nz nss)->ak X.K HF (l.map af) (bs.map V.ref)->Q (.ref q) (upd H q (FX X.w q bs))):=by
 intro pins s σ H xs us Q I r h;let⟨HF,a,vs,nss,rfl,sm,hq,rr,h4,q⟩:=h;let⟨u,rfl,rx⟩:=vals1 r;cases rx;let⟨its,rv,pl,hz⟩:=I.list (sm.seq hq);have hrow:=iK I sm rr rv;have hl1:=rr.length;rw[zD] at hl1;have hl2:=rv.length;have hlt:∀k b,(∃i:Nat,vs[i]?=some (V.ref b)/\nss[i]?=some k)->∃o,s.heap.get? b=some o:=λk b ⟨i,e1,e2⟩=>by
  have hi:i < its.length:=by rw[<- hl2];exact (List.getElem?_eq_some_iff.mp e1).1
  let⟨v',e3,e4⟩:=rv.get e1;cases e4;have:=cn (d:=Value.none) (d':=[]) hrow hi;rw[zG,e3] at this;let⟨c,o,_,_,ec,eo,_⟩:=this.ex;cases ec;exact⟨o,eo⟩
 refine Se.call_set (I.ok.hd hc) pl.isList (λi h=>(∃es ep t ks,Se.RowsAt X.prog X.w (λk b=>∃i:Nat,vs[i]?=some (V.ref b)/\nss[i]?=some k) h s.heap.objs.size es ep t ks/\ks.Perm (nz (nss.take i))/\t.mask=7)/\∀b o,b < s.heap.objs.size->s.heap.get? b=some o->h.get? b=some o)
  (λh' k e=>⟨⟨#[],0,_,[],⟨Se.ob_set X.w e,Se.ob_tab _ _ _,rfl,λi hi=>absurd hi (vP _),λi hi=>absurd hi (vP _)⟩,.refl _,rfl⟩,λb o _ e=>k b o e⟩)
  (λi h h' ⟨⟨es,ep,t,ks,J,p,m⟩,kp⟩ k=>⟨⟨es,ep,t,ks,RowsAt.move J (λo e=>k _ o (yR (kM _)) e) (λkk b hM o e=>k b o ?_ e),p,m⟩,λb o hb e=>k b o (yR (jN hb)) (kp b o hb e)⟩)
  (λi v s' Q' E' hi' hv ⟨⟨es,ep,t,ks,J,p,m⟩,kp⟩ q'=>?_) λh' tk ⟨⟨es,ep,t,ks,J,p,_⟩,_⟩ hk=>?_
 ·let⟨o',eo⟩:=hlt kk b hM;exact yR (jN (zY eo))
 ·have hi2:i < its.length:=by simpa using hi'
  have hv':its[i]?=some v:=by simpa using hv
  have hrv:=cn (d:=Value.none) (d':=[]) hrow hi2;rw[zG,hv'] at hrv;have hn:nss[i]?=some (nss.getD i []):=by
   have:i < nss.length:=by lia
   simp[this]
  have hrv:kl s.heap v (nss.getD i []):=hrv;have hrv':kl s'.heap v (nss.getD i []):=by
   let⟨c,o,its2,n,ec,e1,e2,e3,e4⟩:=hrv.ex;exact⟨c,o,its2,n,ec,kp c o (zY e1) e1,e2,e3,e4⟩
  let⟨b,rfl,xb⟩:=KD (P:=X.prog) (w:=X.w) hrv';have hvs:vs[i]?=some (V.ref b):=by
   let⟨v',e1,e2⟩:=rr.getD (i:=i) (d:=af (nss.getD i [])) (by rw[zO,hn];rfl);unfold af at e2;simp?[Rep] at e2;let⟨p',_,rfl,_⟩:=e2;let⟨u',e3,e4⟩:=rv.get e1;cases e4;rw[hv'] at e3;cases e3;exact e1
  have hroom:(Se.kd X.prog X.w).room X.A.in1.in1.in1:=by show X.A.units+1+1+1 < cLine;lia
  unfold setAdd;refine xX (zV ((Se.kd X.prog X.w).pyHash hroom xb ?_));refine Se.add_row (s:={ s' with toks:=s'.toks+(Se.kd X.prog X.w).draws (nss.getD i []) }) J (λhno=>?_) (by rw[m];decide) hroom xb ⟨i,hvs,hn⟩ (λhm=>?_) (λhm h' es' ep' t' ks' sb J' m' z' p'=>?_)
  ·have h1:=J.len;have h2:=p.length_eq;have h3:(nz (nss.take (i+1))).length=(nz (nss.take i)).length+1:=by
    rw[Du hn,qt,yN λz=>hno (p.mem_iff.mpr z)];simp
   have h5:=HD nss (i+1);rw[m];lia
  ·refine q' false s'.heap _ (jU _ _) (Heap.SameBut.refl _ _) ⟨⟨es,ep,t,ks,J,?_,m⟩,kp⟩;rw[Du hn,qt,yL (p.mem_iff.mp hm)];exact p
  ·refine q' true h' _ (jU _ _) sb ⟨⟨es',ep',t',ks',J',?_,by rw[m',m]⟩,λb o hb e=>(sb.2 b (yR hb)).trans (kp b o hb e)⟩;rw[Du hn,qt,yN λz=>hm (p.mem_iff.mpr z)];exact p'.trans ((p.cons _).trans (List.perm_append_comm (l₁:=[nss.getD i []])))
 ·rw[kJ (by simp;lia)] at p;have hes:es.toList.map (λe:Int×Value=>e.2)=(((List.range es.size).map λi=>(ks.getD i [],addrOf es[i]?)).map (·.2)).map Value.ref:=by
   refine List.ext_getElem? λi=>?_;rw[zM,zM,zO,zO,Array.getElem?_toList];rcases Nat.lt_or_ge i es.size with z|z
   ·let⟨b,e1,_⟩:=J.key i z;have er:(List.range es.size)[i]?=some i:=by simp[z]
    rw[e1,er];show some (Value.ref b)=some (Value.ref (addrOf es[i]?));rw[e1];rfl
   ·rw[Array.getElem?_eq_none z];simp[z]
  have hks:ks=((List.range es.size).map λi=>(ks.getD i [],addrOf es[i]?)).map (·.1):=by
   rw[zM,<- J.len];exact (fW ks []).symm
  refine⟨.ref s.heap.objs.size,_,I.laid (t':=tk) (λb o e=>hk b o (zY e) e) (yM _) (GY ⟨es,ep,t,J.set,hes⟩),rfl,q _ _ ks I.fresh p ?_⟩;have hz:=xk (K:=X.K) (HF:=HF) ((List.range es.size).map λi=>(ks.getD i [],addrOf es[i]?)) λz hz=>by
   let⟨i,hi,rfl⟩:=List.mem_map.mp hz;let⟨b,e1,_,i',f1,f2⟩:=J.key i (List.mem_range.mp hi);show Rep X.K HF (af (ks.getD i [])) (.ref (addrOf es[i]?));rw[e1];exact Im rr f1 f2
  rw[<- hks] at hz;exact hz
def De{Q':SortKind->Shared->Prop}(hp:Paired (kl s.heap) vs nss)(hn:∀ns∈nss,ns≠[])(h2:2<=vs.length)(q:Q' (tuples' true) s):wpAny (model prog w) A (keyKind' vs.toArray) Q' (λ_ _=>False) s:=by
 let⟨fs,t,hlen,hf⟩:=mU hp hn;refine PySem.W.kat_kind (T:=.type "int") t (by lia) (λv hv=>?_) (by decide) q;let⟨n,t,rfl⟩:=hf v hv;exact PySem.W.Looks.of_pure rfl
def Fm{C:Bool->Shared->Prop}(hp:Paired (kl s.heap) vs nss)(hi:i < vs.length)(hj:j < vs.length)(q:C (SP.dI (λi=>rk nss (nss.getD i [])) i j) s):PySem.W.kas_ask prog w A (tuples' true) vs i j C s:=by
 have hlen:=hp.length;let⟨a,o,its,n,ea,e1,e2,e3,e4⟩:=(cn (d:=Value.none) (d':=[]) hp hi).ex;let⟨b,o',its',n',eb,f1,f2,f3,f4⟩:=(cn (d:=Value.none) (d':=[]) hp hj).ex;unfold PySem.W.kas_ask;rw[ea,eb];have hmem:nss.getD i []∈nss:=by
  rw[zG,zK (by lia)];exact qA _
 have q':C (lexLt (nss.getD i []) (nss.getD j [])) s:=by
  rw[wg hmem];exact q
 refine PySem.W.kat_lt e1 e3 f1 f3 ?_;have:=mG (prog:=prog) (w:=w) (A:=A) (s:=s) 0 e4 f4 q';have l1:its.size=(nss.getD i []).length:=by have:=vX e4;simpa using this
 have l2:its'.size=(nss.getD j []).length:=by have:=vX f4;simpa using this
 rw[l1,l2];exact this
def CU{K:PySem.W.Frag}{us vs:List V}(p:us.Perm vs):∀ {l:List (List Int)},ak K HF (l.map af) vs->∃m:List (List Int),m.Perm l/\ak K HF (m.map af) us:=by
 induction p with
 | nil=>intro l h;exact⟨l,.refl _,h⟩
 | cons x _ ih =>
  intro l h;cases l with
  | nil=>have:=h.nil_inv;cases this
  | cons k l =>
   let⟨v,r,e,a,b⟩:=h.cons_inv;cases e;let⟨m,p1,r1⟩:=ih b;exact⟨k::m,p1.cons k,ak.cons a r1⟩
 | swap x y r =>
  intro l h
  match l,h with
  | [],h=>have:=h.nil_inv;cases this
  | [k],h =>
   let⟨v,r,e,a,b⟩:=h.cons_inv;cases e;have:=b.nil_inv;cases this
  | k::k2::l,h =>
   let⟨v,r,e,a,b⟩:=h.cons_inv;cases e;let⟨v2,r2,e2,a2,b2⟩:=b.cons_inv;cases e2;exact⟨k2::k::l,List.Perm.swap ..,ak.cons a2 (ak.cons a b2)⟩
 | trans _ _ ih1 ih2 =>
  intro l h;let⟨m,p1,r1⟩:=ih2 h;let⟨m2,p2,r2⟩:=ih1 r1;exact⟨m2,p2.trans p1,r2⟩
def nC:∀bs:List Addr,aJ (bs.map V.ref) (bs.map Value.ref)
 | []=>.nil
 | b::bs=>.cons rfl (nC bs)
def Cv{us:List Value}{bs:List Addr}(p:us.Perm (bs.map Value.ref)):∃cs:List Addr,cs.Perm bs/\us=cs.map Value.ref:=by
 have hall:∀u∈us,∃b,u=Value.ref b:=λu hu=>by
  let⟨b,_,rfl⟩:=List.mem_map.mp (p.mem_iff.mp hu);exact⟨b,rfl⟩
 have e:us=(us.map λu=>match u with|.ref b=>b|_=>0).map Value.ref:=by
  rw[zM];refine (List.map_id us).symm.trans (yH λu hu=>?_);let⟨b,rfl⟩:=hall u hu;rfl
 refine⟨_,?_,e⟩;have:=p.map λu:Value=>match u with|.ref b=>b|_=>0
 rw[zM] at this;refine this.trans (List.Perm.of_eq ?_);exact (yH λb _=>rfl).trans (List.map_id bs)
def oE(hc:X.calm=true):dh X (.builtin "sorted") (λxs H Q=>∃ (HF:Hp) (a:Addr) (bs:List Addr) (l:List (List Int)),xs=[.ref a]/\aU HF H/\H a=some (FX X.w a bs)/\ak X.K HF (l.map af) (bs.map V.ref)/\((∀ns∈l,ns≠[])\/l.length < 2)/\l.length < 64 /\
  ∀ (Dn:Addr) (us:List V),H Dn=none->ak X.K HF ((lF l).map af) us->Q (.ref Dn) (upd H Dn (.lst us))):=by
 intro pins s σ H xs us Q I r h;let⟨HF,a,bs,l,rfl,sm,hq,rr,hne,h64,q⟩:=h;let⟨u,rfl,rx⟩:=vals1 r;cases rx;let⟨⟨es,ep,t,J,hes⟩,_,_⟩:=(show di X.prog X.w H s.heap a (FX X.w a bs) from I.hok a _ hq)
 have hperm:=(Se.ordE_perm (w:=X.w) (a:=a) (ep:=ep) (es:=es)).map (λe:Int×Value=>e.2);rw[hes] at hperm;let⟨cs,pc,ec⟩:=Cv hperm;let⟨m,pm,rm⟩:=CU (pc.map V.ref) rr;have hl1:=rr.length;rw[zD,zD] at hl1;have hl2:=pm.length_eq;have hl3:=pc.length_eq;have hsz:es.size=cs.length:=by
  have h1:=jC List.length ec;rw[zD,zD,wC,Se.ordE_size] at h1;exact h1
 have hrow:Paired (kl s.heap) (cs.map Value.ref) m:=iK I sm rm (nC cs);have hrow':∀h':Heap,(∀b o,s.heap.get? b=some o->h'.get? b=some o)->Paired (kl h') (cs.map Value.ref) m:=λh' kp=>Paired.mapP hrow λ_ _ r=>r.keep kp;refine Se.sortedH (cs.map Value.ref) (by rw[zD];lia) (λi=>rk m (m.getD i [])) (tuples' true) (λQ' E' q'=>Se.collect_set (by simp[I.ok.hd hc]) J (by rw[PySem.sizeLine_eq];lia) (by rw[ec];exact q')) (λh2 h' tk kp Q' q'=>?_) (λh2 h' tk kp i j C hi hj q'=>?_) λh' tk Dn c kp hD e=>?_
 ·rw[zD] at h2;refine De (s:={ s with heap:=h',toks:=tk }) (hrow' h' kp) (λns hns=>?_) (by rw[zD];exact h2) q';rcases hne with z|z
  ·exact z ns (pm.mem_iff.mp hns)
  ·lia
 ·exact Fm (s:={ s with heap:=h',toks:=tk }) (hrow' h' kp) hi hj q'
 ·have hv:=i3 (λi=>rk m (m.getD i [])) (nC cs);have hr:=mN (λi=>rk m (m.getD i [])) rm;have es':lF m=lF l:=uf ((jg m).trans pm) (yu m);rw[Bm,A6,es'] at hr;refine⟨.ref Dn,_,I.laid (t':=tk) (o:=.lst (lT (λi=>rk m (m.getD i [])) (cs.map V.ref) .non)) kp hD ⟨?_,_,c,hv,e⟩,rfl,q Dn _ (I.hok.fresh hD) hr⟩;rw[(dy _ _ _).length_eq,zD,PySem.sizeLine_eq];lia
def pW:List D->Option (List (List Int))
 | []=>some []
 | .tuple es::r=>(intsOf es).bind λns=>(pW r).map (ns::·)
 | _::_=>none
def og:∀ {ds:List D}{l:List (List Int)},pW ds=some l->ds=l.map af
 | [],l,h=>by cases h;rfl
 | d::ds,l,h=>by
  cases d<;>try cases h
  rename_i es;let⟨ns,h1,h2⟩:=bs (show (intsOf es).bind _=some l from h);let⟨m,h3,rfl⟩:=ag h2;rw[zI,<- og h3,af,<- cf h1]
def qg:∀l:List (List Int),pW (l.map af)=some l
 | []=>rfl
 | k::l=>by
  rw[zI,af,pW,cK,zA,qg l];rfl
def ni:D->Option (List D):=λd=>match d with
 | .list es=>(pW es).bind λl=>if (nz l).length<=4/\((nz l).all (λns=>!ns.isEmpty)=true\/(nz l).length < 2) then some ((lF (nz l)).map af) else none
 | _=>none
def dq(f:Env->Option D):Env->Option (List D):=λρ=>(f ρ).bind ni
def uW(hc:X.calm=true)(hu:X.A.units+64 < cLine)(B:mY X "sorted" (.builtin "sorted"))(C:mY X "set" (.type "set"))(h:DE X e f)(he:starEach [e] X.env=(false,eval e X.env)::starEach [] X.env:=by rfl) :
  DF X (.Call (.Name "sorted" p) [.Call (.Name "set" p') [e] [] pos'] [] pos) (dq f) :=
 bc (hU (oE hc) B.gl B.mg B.bt (cm (kf (tK hc hu) C.gl C.mg C.bt (cm h dQ he) (by decide) (by decide) he rfl) dQ) (by decide) (by decide) rfl rfl) λσ H Q ⟨HF,ρ,d,sm,eo,hf,q⟩=>by
  let⟨x,hx,hf⟩:=bs hf;unfold ni at hf;split at hf
  ·rename_i es;let⟨l,h1,hf⟩:=bs hf;split at hf
   ·rename_i hb;cases hf;refine⟨HF,ρ,.list es,sm,eo,hx,λv1 H1 HF1 g1 r1=>?_⟩;have e1:=og h1;subst e1;simp?[Rep] at r1;let⟨a,vs,rfl,hs,rr⟩:=r1;refine⟨HF1,a,vs,l,rfl,g1.fh,hs,rr,hb.1,λb bs m hb' pm rm=>⟨HF1,b,bs,m,rfl,g1.fh.trans (cU hb'),aI,rm,?_,by have:=pm.length_eq;lia,λDn us hD hr=>?_⟩⟩
    ·rcases hb.2 with z|z
     ·refine .inl λns hns=>?_;have:=List.all_eq_true.mp z ns (pm.mem_iff.mp hns);intro e;rw[e] at this;cases this
     ·exact .inr (by rw[pm.length_eq];exact z)
    ·have hD1:H1 Dn=none:=by
      unfold upd at hD;split at hD
      ·cases hD
      ·exact hD
     have g2:=g1.trans (bY.own (o:=FX X.w b bs) g1.fh hb');rw[show lF m=lF (nz l) from uf ((jg m).trans pm) (yu m)] at hr;exact q Dn _ _ HF1 (g2.trans (.own g2.fh hD)) (g1.hh.free hD1) (g1.fh.free hD1) aI hr
   ·cases hf
  ·cases hf
end Dl
namespace Rf
open PySem L2 Dl PySem.Spec PyProof.Rows
variable {env:PySem.Env}
structure Tr where
 e:Expr->Option (Dl.Env->Option D)
 f:Expr->Option (Dl.Env->Option (List D))
 t:Expr->Option (Dl.Env->Option Bool)
structure Sg where
 fn:List (Str×Nat×(List D->Option D))
 int:List (Str×Int)
abbrev FE:=Dl.Env->Option D
def Ag(G:Sg)(sc:Scope)(N:List Str)(x:Str):Option FE:=match N.idxOf? x with
 | some i=>if B8 N sc i x=true then some (ab i) else none
 | none=>if (yp sc x&&!(x == ("__debug__":Str)))=true then (G.int.lookup x).map λn=>fC (.int n) else none
def Bu:Const->Option FE
 | .int i=>some (fC (.int i))
 | .bool b=>some (fC (.bool b))
 | .none=>some (fC .none)
 | .str x=>some (fC (.str x))
 | _=>none
def MJ(T:Tr)(op:UnaryOp)(a:Expr):Option FE:=match op with
 | .USub=>(T.e a).map (f1 L7)
 | _=>none
def Os:Operator->Option (D->D->Option D)
 | .Add=>some aK
 | .Sub=>some Dl.g9
 | .Mult=>some e8
 | .FloorDiv=>some l4
 | .Mod=>some ku
 | _=>none
def Nm:Expr->Bool
 | .List ..=>true
 | .ListComp ..=>true
 | _=>false
def A9:Expr->Bool
 | .List ..=>true
 | .ListComp ..=>true
 | .BinOp a .Mult _ _=>Nm a
 | .BinOp a .Add b _=>A9 a||A9 b
 | .Call (.Name x _) _ _ _=>x == ("sorted":Str)||x == ("list":Str)
 | _=>false
def DN(T:Tr)(whole a:Expr)(op:Operator)(b:Expr):Option FE :=
 if A9 whole=true then (T.f whole).map bH else (Os op).bind λg=>(T.e a).bind λx=>(T.e b).map λy=>f2 g x y
def uc(T:Tr)(op:BoolOp):List Expr->Option FE
 | []=>none
 | [a]=>T.e a
 | a::b::r=>(T.e a).bind λx=>(uc T op (b::r)).map λy=>match op with|.And=>kn x y|.Or=>Ol x y
def ME:CmpOp->Option (D->D->Option D)
 | .Lt=>some Di
 | .LtE=>some B3
 | .Gt=>some Dk
 | .GtE=>none
 | .Eq=>some bT
 | .NotEq=>some dv
 | .In=>none
 | .NotIn=>some rC
 | .Is=>some rz
 | .IsNot=>some nX
def NM:CmpOp->Option (D->D->Option D)
 | .Lt=>some Di
 | .LtE=>some B3
 | _=>none
def BG(T:Tr)(a:Expr)(ops:List CmpOp)(cs:List Expr):Option FE:=match ops,cs with
 | [op],[b]=>if behindInMarks op b=false then (ME op).bind λg=>(T.e a).bind λx=>(T.e b).map λy=>f2 g x y else none
 | [op,op'],[b,c]=>if lastMarks [op,op'] [b,c]=false then (NM op).bind λg=>(NM op').bind λg'=>(T.e a).bind λx=>(T.e b).bind λy=>(T.e c).map λz=>jr g g' x y z else none
 | _,_=>none
def uQ(T:Tr):List Expr->Option (Dl.Env->Option (List D))
 | []=>some ae
 | e::es=>if isStar e=false then (T.e e).bind λx=>(uQ T es).map λr=>aa x r else none
def OC(T:Tr):Option Expr->Option (Dl.Env->Option (Option Int))
 | none=>some lE
 | some e=>(T.e e).map zk
def FZ:Expr->Bool
 | .Slice ..=>true
 | .Tuple ..=>true
 | .Starred ..=>true
 | _=>false
def FA(T:Tr)(a b:Expr):Option FE:=match b with
 | .Slice lo hi none _=>(T.e a).bind λx=>(OC T lo).bind λl=>(OC T hi).map λh=>lH fO x l h
 | _=>if FZ b=false then (T.e a).bind λx=>(T.e b).map λy=>f2 av x y else none
def F9:List D->Option D:=λds=>(oneOf ds).bind λd=>match d with
 | .list es=>(boolsOf es).map λbs=>.bool (bs.any id)
 | _=>none
def nH:Expr->Option Expr
 | .Call (.Name x _) [e] [] _=>if x="set" then some e else none
 | _=>none
def JW(x:Str):Option String:=if x="int" then some "int" else if x="bool" then some "bool" else if x="tuple" then some "tuple" else if x="list" then some "list" else none
def Ah(T:Tr)(x:Str)(args:List Expr):Option FE :=
 if x="max" then (if args.isEmpty=true then none else (uQ T args).map λfs=>bu CW fs)
 else none
def zp(G:Sg)(sc:Scope)(T:Tr)(whole:Expr)(x:Str)(args:List Expr):Option FE :=
 if (yp sc x&&args.all λe=>!isStar e)=true then
  match G.fn.lookup x with
  | some (n,m)=>if (args.isEmpty||x == ("__debug__":Str))=true then none else (uQ T args).map λfs=>ah n m fs
  | none =>
   if x="len" then (match args with
    | [e]=>(match nH e with
     | some e'=>if (yp sc "set"&&!isStar e')=true then (T.e e').map λy=>f1 ke y else none
     | none=>(uQ T args).map λfs=>bu bK fs)
    | _=>none)
   else if x="isinstance" then (match args with
    | [e,.Name y _]=>if yp sc y=true then (JW y).bind λty=>(T.e e).map λz=>Jq ty z else none
    | _=>none)
   else if x="tuple" then (if args.length=1 then (uQ T args).map λfs=>bu br fs else none)
   else if x="all" then (if args.length=1 then (uQ T args).map λfs=>bu kq fs else none)
   else if x="any" then (if args.length=1 then (uQ T args).map λfs=>bu F9 fs else none)
   else if x="sum" then (if args.length=1 then (uQ T args).map λfs=>bu Cn fs else none)
   else if x="min" then (if args.isEmpty=true then none else (uQ T args).map λfs=>bu xf fs)
   else if (x == ("list":Str)||x == ("sorted":Str))=true then (T.f whole).map bH
   else Ah T x args
 else none
def BP:Expr->Bool
 | .Call ..=>true
 | _=>false
def Aa(T:Tr)(o:Expr)(m:Str)(apos:Pos)(args:List Expr)(cpos:Pos):Option FE :=
 if (m == ("index":Str)&&apos.endLine == cpos.line&&!BP o)=true then (match args with
  | [e]=>if isStar e=false then (T.e o).bind λx=>(T.e e).map λy=>f2 oD x y else none
  | _=>none)
 else none
def EG(G:Sg)(sc:Scope)(N:List Str)(T:Tr)(whole:Expr):Option FE:=match whole with
 | .Name x _=>Ag G sc N x
 | .Constant c _ _=>Bu c
 | .UnaryOp op a _=>MJ T op a
 | .BinOp a op b _=>DN T whole a op b
 | .BoolOp op es _=>uc T op es
 | .Compare a ops cs _=>BG T a ops cs
 | .IfExp c a b _=>(T.t c).bind λz=>(T.e a).bind λx=>(T.e b).map λy=>OJ z x y
 | .Tuple es _ _=>(uQ T es).map aS
 | .Subscript a b _=>FA T a b
 | .List ..=>(T.f whole).map bH
 | .ListComp ..=>(T.f whole).map bH
 | .Call (.Name x _) args [] _=>zp G sc T whole x args
 | .Call (.Name _ _) _ (_::_) _=>(T.f whole).map bH
 | .Call (.Attribute o m apos) args [] cpos=>Aa T o m apos args cpos
 | _=>none
def Nr(T:Tr)(op:BoolOp):List Expr->Option (Dl.Env->Option Bool)
 | []=>none
 | [a]=>T.t a
 | a::b::r=>(T.t a).bind λx=>(Nr T op (b::r)).map λy=>match op with|.And=>oz x y|.Or=>gp x y
def FD:Expr->Bool
 | .Name ..=>true
 | .Call ..=>true
 | .Subscript ..=>true
 | _=>false
def stepT(T:Tr)(whole:Expr):Option (Dl.Env->Option Bool):=match whole with
 | .Compare a ops cs _=>(BG T a ops cs).map fB
 | .UnaryOp .Not a _=>(T.t a).map bF
 | .BoolOp op es _=>Nr T op es
 | _=>if FD whole=true then (T.e whole).map fB else none
def uu:Expr->Bool
 | .Tuple ..=>true
 | _=>false
def Nu(sc:Scope)(T:Tr)(tg iter:Expr):Option (Dl.Env->Option (List D)):=match iter with
 | .Call (.Name x _) args [] _ =>
  if x="range" then (match args with|[e]=>if (yp sc "range"&&!isStar e)=true then (uQ T args).map aX else none|_=>none)
  else if x="enumerate" then (match args with|[e]=>if (yp sc "enumerate"&&!isStar e&&uu tg)=true then (uQ T args).map bI else none|_=>none)
  else if x="zip" then (match args with|[e,e']=>if (yp sc "zip"&&!isStar e&&!isStar e'&&uu tg)=true then (uQ T args).map du else none|_=>none)
  else (T.e iter).map aO
 | .Set ..=>none
 | _=>(T.e iter).map aO
def Oa:Expr->Option (List Str)
 | .Name x _=>some [x]
 | .Tuple [.Name x _,.Name y _] _ _=>some [x,y]
 | _=>none
def NS:Expr->Option (List Str)
 | .Tuple [.Name x _,.Name y _,.Name z _] _ _=>some [x,y,z]
 | tg=>Oa tg
def eU(N:List Str)(scope:Scope):List Nat:=(List.range N.length).filter λj=>match N[j]? with|some x=>decide (scope.names.lookup x=some .free)|none=>false
def Kq:Expr->Bool
 | .Set ..=>false
 | _=>true
def IY(B:Tr)(ifs:List Expr):Option (Dl.Env->Option Bool):=match ifs with
 | []=>some λ_=>some true
 | [c]=>B.t c
 | _=>none
def uI(sc:Scope)(N:List Str)(T:Tr)(blk:Scope->List Str->Tr)(elt:Expr)(gens:List Comprehension)(scope:Scope):Option (Dl.Env->Option (List D)):=match gens with
 | [⟨tg,iter,ifs,as⟩] =>
  if as=0 then (NS tg).bind λxs =>
   if (iE sc scope N (xs++(eU N scope).filterMap λj=>N[j]?) xs.length (eU N scope)&&(List.range xs.length).all λi=>qu (xs++(eU N scope).filterMap λj=>N[j]?) scope i (xs.getD i ""))=true then
    (Nu sc T tg iter).bind λfi=>(IY (blk scope (xs++(eU N scope).filterMap λj=>N[j]?)) ifs).bind λtt =>
     ((blk scope (xs++(eU N scope).filterMap λj=>N[j]?)).e elt).map λte=>aj xs.length (eU N scope) fi (match xs with|[_]=>fG 0|[_,_]=>eV 0 1|_=>Gp 0 1 2) tt te
   else none
  else none
 | _=>none
def setIn(sc:Scope):Expr->Option Expr
 | .Call (.Name y _) [e] [] _=>if (y == ("set":Str)&&yp sc y&&!isStar e)=true then some e else none
 | _=>none
def GH:Expr->Bool
 | .Name x _=>x == ("_law_some":Str)
 | _=>false
def BB:Arguments->Option Str
 | ⟨[],[⟨x,none,_⟩],none,[],[],none,[]⟩=>if x="number" then some x else if x="plan" then some x else none
 | _=>none
def sU(lam:Option Str)(sc:Scope)(N:List Str)(T:Tr)(lmb:Scope->List Str->Tr)(l:Expr)(params:Arguments)(body:Expr)(scope:Scope):Option (Dl.Env->Option (List D)) :=
 if (lam.isSome&&yp sc "sorted"&&!isStar l)=true then
  (BB params).bind λp =>
   if (iE sc scope N (p::(eU N scope).filterMap λj=>N[j]?) 1 (eU N scope)&&n6 scope (p::(eU N scope).filterMap λj=>N[j]?) p)=true then
    (T.e l).bind λfl=>((lmb scope (p::(eU N scope).filterMap λj=>N[j]?)).e body).map λte=>nK (eU N scope) fl te
   else none
 else none
def uk(lam:Option Str)(sc:Scope)(N:List Str)(T:Tr)(lmb:Scope->List Str->Tr)(l:Expr)(params:Arguments)(body:Expr)(scope:Scope):Option (Dl.Env->Option (List D)):=match l with
 | .Call (.Name r _) [e] [] _ =>
  if (lam.isSome&&yp sc "sorted"&&r == ("range":Str)&&yp sc "range"&&!isStar e)=true then
   (BB params).bind λp =>
    if (iE sc scope N (p::(eU N scope).filterMap λj=>N[j]?) 1 (eU N scope)&&n6 scope (p::(eU N scope).filterMap λj=>N[j]?) p)=true then
     (uQ T [e]).bind λfs=>((lmb scope (p::(eU N scope).filterMap λj=>N[j]?)).e body).map λte=>qh (eU N scope) fs te
    else none
  else none
 | _=>none
def Bx(lam:Option Str)(sc:Scope)(N:List Str)(T:Tr)(blk lmb:Scope->List Str->Tr)(whole:Expr):Option (Dl.Env->Option (List D)):=match whole with
 | .List es _=>(uQ T es).map dJ
 | .ListComp elt gens scope _=>uI sc N T blk elt gens scope
 | .BinOp a .Add b _=>(T.e a).bind λx=>(T.e b).map λy=>KW j5 x y
 | .Call (.Name x _) [l] [⟨some ky,.Lambda params body scope _,_⟩] _=>if (x == ("sorted":Str)&&ky == ("key":Str))=true then (match sU lam sc N T lmb l params body scope with|some f=>some f|none=>uk lam sc N T lmb l params body scope) else none
 | .Call (.Name x _) [e] [] _ =>
  if (yp sc x&&!isStar e)=true then
   if x="sorted" then (match setIn sc e with
    | some e'=>(T.e e').map λf=>if GH e'=true then dq f else u6 f
    | none=>(uQ T [e]).map λfs=>rh f9 fs)
   else none
  else none
 | _=>none
def tr(G:Sg):Nat->Option Str->Scope->List Str->Tr
 | 0,_,_,_=>⟨λ_=>none,λ_=>none,λ_=>none⟩
 | n+1,lam,sc,N=>⟨EG G sc N (tr G n lam sc N),Bx lam sc N (tr G n lam sc N) (tr G n none) (tr G n none),stepT (tr G n lam sc N)⟩
structure Nb(G:Sg)(X:Cx)(j:Nat):Prop where
 fn:∀x n m,G.fn.lookup x=some (n,m)->F3 X.prog X.w X.K X.mg X.base j x n m
 int:∀x i,G.int.lookup x=some i->∃t,X.mg x=some (.int i t)
 bn:Bn X
structure o6(X:Cx)(tg iter:Expr)(ifs:List Expr)(elt:Expr)(scope:Scope)(f:Dl.Env->Option (List D)):Prop where
 ex:∃ (N':List Str) (t:Nat) (cs:List Nat) (fi:Dl.Env->Option (List D)) (tgt:Dl.Env->D->Option Dl.Env) (tt:Dl.Env->Option Bool) (te:FE),f=aj t cs fi tgt tt te/\ix X scope N' (jo t cs)/\DI X tg iter fi/\(∀x,foldedSetIterable iter X.env x=pure x) /\
  ∀fp s H,DG (aW X scope N' fp s H) tg tgt/\MM (aW X scope N' fp s H) ifs tt/\DE (aW X scope N' fp s H) elt te
structure c9(X:Cx)(T:Tr):Prop where
 c:∀elt gens scope p f,T.f (.ListComp elt gens scope p)=some f->∃tg iter ifs,gens=[⟨tg,iter,ifs,0⟩]/\o6 X tg iter ifs elt scope f
 e:∀e f,T.e e=some f->DE X e f
 f:∀e f,T.f e=some f->DF X e f
 t:∀e f,T.t e=some f->DT X e f
section
variable {G:Sg}{X:Cx}{N:List Str}{sc:Scope}{k j:Nat}{T:Tr}{pos p:Pos}
def C7(C:Bk X N sc k)(g:Nb G X j)(h:Ag G sc N x=some f):DE X (.Name x pos) f:=by
 unfold Ag at h;split at h
 ·split at h
  ·cases h;exact C.v _ ‹_›
  ·cases h
 ·split at h
  ·rename_i hg;let⟨n,hn,rfl⟩:=ag h;let⟨t,ht⟩:=g.int x n hn;simp?[zF,yP] at hg;exact Iw (C.gl hg.1) ht hg.2
  ·cases h
def Af(h:Bu c=some f):DE X (.Constant c i pos) f:=by
 cases c<;>cases h<;>first|exact J5|exact MH|exact JO|exact Lp
def Gu(C:Bk X N sc k)(O:c9 X T)(h:MJ T op a=some f):DE X (.UnaryOp op a pos) f:=by
 cases op<;>try cases h
 ·let⟨x,hx,rfl⟩:=ag h;exact C.neg (O.e _ _ hx)
def Fp(C:Bk X N sc k)(O:c9 X T)(h:DN T (.BinOp a op b pos) a op b=some f):DE X (.BinOp a op b pos) f:=by
 unfold DN at h;split at h
 ·let⟨x,hx,rfl⟩:=ag h;exact DF.de (O.f _ _ hx)
 ·let⟨g,hg,h⟩:=bs h;let⟨x,hx,h⟩:=bs h;let⟨y,hy,rfl⟩:=ag h;cases op<;>cases hg
  ·exact C.add (O.e _ _ hx) (O.e _ _ hy)
  ·exact C.sub (O.e _ _ hx) (O.e _ _ hy)
  ·exact C.mul (O.e _ _ hx) (O.e _ _ hy)
  ·exact C.mod (O.e _ _ hx) (O.e _ _ hy)
  ·exact C.div (O.e _ _ hx) (O.e _ _ hy)
def sd(O:c9 X T):∀ {es:List Expr}{f:FE},uc T op es=some f->DE X (.BoolOp op es pos) f
 | [],f,h=>by cases h
 | [a],f,h=>JK (O.e _ _ h)
 | a::b::r,f,h=>by
  unfold uc at h;let⟨x,hx,h⟩:=bs h;let⟨y,hy,rfl⟩:=ag h;have ih:=sd O hy;cases op with
  | And=>exact Ld (O.e _ _ hx) ih
  | Or=>exact ML (O.e _ _ hx) ih
def J0(C:Bk X N sc k)(hg:ME op=some g)(hm:behindInMarks op b=false)(ha:DE X a x)(hb:DE X b y):DE X (.Compare a [op] [b] pos) (f2 g x y)/\DT X (.Compare a [op] [b] pos) (fB (f2 g x y)):=by
 cases op<;>cases hg
 ·exact⟨C.eq ha hb,C.teq ha hb⟩
 ·exact⟨C.ne ha hb,C.tne ha hb⟩
 ·exact⟨C.lt ha hb,C.tlt ha hb⟩
 ·exact⟨C.le ha hb,C.tle ha hb⟩
 ·exact⟨C.gt ha hb,C.tgt ha hb⟩
 ·exact⟨C.is0 ha hb,C.tis0 ha hb⟩
 ·exact⟨C.not0 ha hb,C.tnot0 ha hb⟩
 ·exact⟨C.notin ha hb hm,C.tnin ha hb hm⟩
def JB(C:Bk X N sc k)(h:NM op=some g):∃r,ie X (compareOp op) r/\ft X.K r g:=by
 cases op<;>cases h
 ·exact⟨_,FL.or (AB C.room.units0),m6 ju iM⟩
 ·exact⟨_,Dr,ju⟩
def wk(C:Bk X N sc k)(O:c9 X T){cs:List Expr}(h:BG T a ops cs=some f):DE X (.Compare a ops cs pos) f/\DT X (.Compare a ops cs pos) (fB f):=by
 unfold BG at h;split at h
 ·split at h
  ·rename_i hm;let⟨g,hg,h⟩:=bs h;let⟨x,hx,h⟩:=bs h;let⟨y,hy,rfl⟩:=ag h;exact J0 C hg hm (O.e _ _ hx) (O.e _ _ hy)
  ·cases h
 ·split at h
  ·rename_i hm;let⟨g,hg,h⟩:=bs h;let⟨g',hg',h⟩:=bs h;let⟨x,hx,h⟩:=bs h;let⟨y,hy,h⟩:=bs h;let⟨z,hz,rfl⟩:=ag h;let⟨r,r1,r2⟩:=JB C hg;let⟨r',r1',r2'⟩:=JB C hg';exact⟨F2 r1 r2 r1' r2' (O.e _ _ hx) (O.e _ _ hy) (O.e _ _ hz) hm,D1 r1 r2 r1' r2' (O.e _ _ hx) (O.e _ _ hy) (O.e _ _ hz) hm⟩
  ·cases h
 ·cases h
def cT(O:c9 X T):∀ {es:List Expr}{fs:Dl.Env->Option (List D)},uQ T es=some fs->DA X es fs
 | [],fs,h=>by cases h;exact E2
 | e::es,fs,h=>by
  unfold uQ at h;split at h
  ·rename_i hs;let⟨x,hx,h⟩:=bs h;let⟨r,hr,rfl⟩:=ag h;exact NG hs (O.e _ _ hx) (cT O hr)
  ·cases h
def Gd(O:c9 X T)(h:OC T o=some f):DO X o f:=by
 cases o with
 | none=>cases h;exact Hz
 | some e=>let⟨x,hx,rfl⟩:=ag h;exact Gz (O.e _ _ hx)
def Ao(h:FZ b=false):ui b:=by
 cases b<;>first|(intro _ _;rfl)|cases h
def DH(C:Bk X N sc k)(O:c9 X T)(h:FA T a b=some f):DE X (.Subscript a b pos) f:=by
 unfold FA at h;split at h
 ·let⟨x,hx,h⟩:=bs h;let⟨l,hl,h⟩:=bs h;let⟨u,hu,rfl⟩:=ag h;exact C.cut (O.e _ _ hx) (Gd O hl) (Gd O hu)
 ·split at h
  ·rename_i hc;let⟨x,hx,h⟩:=bs h;let⟨y,hy,rfl⟩:=ag h;exact Mj (O.e _ _ hx) (O.e _ _ hy) (Ao hc)
  ·cases h
def dc{env:PySem.Env}:∀ {es:List Expr},(es.all λe=>!isStar e)=true->(backTo pos (starEach es env)).any (·.1)=false
 | [],_=>rfl
 | e::es,h=>by
  rw[xS,zF,yP] at h;rw[bp h.1];show (false||(backTo pos (starEach es env)).any (·.1))=false;rw[dc h.2];rfl
def ET(h:nH e=some e'):∃p q,e=.Call (.Name "set" p) [e'] [] q:=by
 unfold nH at h;split at h
 ·split at h
  ·rename_i hx;cases h;subst hx;exact⟨_,_,rfl⟩
  ·cases h
 ·cases h
def He(h:JW y=some ty):y∈dB/\bootBuiltins y=some (.type ty)/\y≠"__name__"/\(y == ("__debug__":Str))=false:=by
 unfold JW at h;split at h
 ·rename_i e;cases h;subst e;exact⟨by decide +kernel,by decide +kernel,by decide,by decide⟩
 ·split at h
  ·rename_i e;cases h;subst e;exact⟨by decide +kernel,by decide +kernel,by decide,by decide⟩
  ·split at h
   ·rename_i e;cases h;subst e;exact⟨by decide +kernel,by decide +kernel,by decide,by decide⟩
   ·split at h
    ·rename_i e;cases h;subst e;exact⟨by decide +kernel,by decide +kernel,by decide,by decide⟩
    ·cases h
def KH:bootBuiltins "any"=some (.builtin "any"):=by decide +kernel
def Kr:bootBuiltins "sum"=some (.builtin "sum"):=by decide +kernel
def J3:bootBuiltins "max"=some (.builtin "max"):=by decide +kernel
def Kd:bootBuiltins "min"=some (.builtin "min"):=by decide +kernel
def wc(h:l.length=1):∃a,l=[a]:=by
 match l,h with
 | [a],_=>exact⟨a,rfl⟩
def Cr(C:Bk X N sc k)(g:Nb G X j)(O:c9 X T)(hg:yp sc x=true)(hs:args.all (λe=>!isStar e)=true)(h:Ah T x args=some f):DE X (.Call (.Name x p) args [] pos) f:=by
 have st1:∀ {e:Expr}{es:List Expr},args=e::es->starEach (e::es) X.env=(false,eval e X.env)::starEach es X.env:=λ{e es} q=>by
  subst q;rw[xS,zF,yP] at hs;exact bp hs.1
 have st2:∀ {e:Expr}{es:List Expr},args=e::es->(backTo pos (starEach es X.env)).any (·.1)=false:=λ{e es} q=>by
  subst q;rw[xS,zF] at hs;exact dc hs.2
 unfold Ah at h;split at h
 ·rename_i hx;subst hx;split at h
  ·cases h
  ·rename_i hl;let⟨fs,hfs,rfl⟩:=ag h;cases args with
   | nil=>exact absurd rfl hl
   | cons e es =>
    exact Ki C.calm (C.blt g.bn hg (by decide +kernel) J3) (st1 rfl) (st2 rfl) (cT O hfs)
 ·cases h
def Ci(C:Bk X N sc k)(g:Nb G X j)(hjk:j<=k)(O:c9 X T)(h:zp G sc T (.Call (.Name x p) args [] pos) x args=some f):DE X (.Call (.Name x p) args [] pos) f:=by
 unfold zp at h;split at h
 ·rename_i hg;rw[zF] at hg;let⟨hg,hs⟩:=hg;have st1:∀ {e:Expr}{es:List Expr},args=e::es->starEach (e::es) X.env=(false,eval e X.env)::starEach es X.env:=λ{e es} q=>by
   subst q;rw[xS,zF,yP] at hs;exact bp hs.1
  have st2:∀ {e:Expr}{es:List Expr},args=e::es->(backTo pos (starEach es X.env)).any (·.1)=false:=λ{e es} q=>by
   subst q;rw[xS,zF] at hs;exact dc hs.2
  split at h
  ·rename_i n m hfn;split at h
   ·cases h
   ·rename_i hne;let⟨fs,hfs,rfl⟩:=ag h;cases args with
    | nil=>exact absurd (by simp) hne
    | cons e es =>
     have hd:(x == ("__debug__":Str))=false:=by simpa using hne
     exact Iu (g.fn x n m hfn) (C.room.mono hjk) (C.gl hg) (cT O hfs) hd (st1 rfl) (st2 rfl)
  ·split at h
   ·rename_i hx;subst hx;split at h
    ·rename_i e;split at h
     ·rename_i e' he';split at h
      ·rename_i hg2;rw[zF,yP] at hg2;let⟨y,hy,rfl⟩:=ag h;let⟨p1,p2,rfl⟩:=ET he';exact C3 C.calm (C.blt g.bn hg (by decide +kernel) FY) (C.blt g.bn hg2.1 (by decide +kernel) zf) (O.e _ _ hy) (bp hg2.2)
      ·cases h
     ·let⟨fs,hfs,rfl⟩:=ag h;exact K1 (C.blt g.bn hg (by decide +kernel) FY) (cT O hfs) (st1 rfl)
    ·cases h
   ·split at h
    ·rename_i hx;subst hx;split at h
     ·rename_i e y py;split at h
      ·rename_i hgy;let⟨ty,hty,h⟩:=bs h;let⟨z,hz,rfl⟩:=ag h;let⟨t1,t2,t3,t4⟩:=He hty;exact L9 (C.blt g.bn hg (by decide +kernel) rg) (C.blt g.bn hgy t1 t2) (O.e _ _ hz) t3 t4 (st1 rfl)
      ·cases h
     ·cases h
    ·split at h
     ·rename_i hx;subst hx;split at h
      ·rename_i hl;let⟨fs,hfs,rfl⟩:=ag h;let⟨e,rfl⟩:=wc hl;exact Ej (C.blt g.bn hg (by decide +kernel) Gf) (cT O hfs) (st1 rfl)
      ·cases h
     ·split at h
      ·rename_i hx;subst hx;split at h
       ·rename_i hl;let⟨fs,hfs,rfl⟩:=ag h;let⟨e,rfl⟩:=wc hl;exact K9 C.calm (C.blt g.bn hg (by decide +kernel) Lb) (cT O hfs) (st1 rfl)
       ·cases h
      ·split at h
       ·rename_i hx;subst hx;split at h
        ·rename_i hl;let⟨fs,hfs,rfl⟩:=ag h;let⟨e,rfl⟩:=wc hl;exact LC C.calm (C.blt g.bn hg (by decide +kernel) KH) (st1 rfl) (cT O hfs)
        ·cases h
       ·split at h
        ·rename_i hx;subst hx;split at h
         ·rename_i hl;let⟨fs,hfs,rfl⟩:=ag h;let⟨e,rfl⟩:=wc hl;exact KI C.calm (C.blt g.bn hg (by decide +kernel) Kr) (st1 rfl) (cT O hfs)
         ·cases h
        ·split at h
         ·rename_i hx;subst hx;split at h
          ·cases h
          ·rename_i hl;let⟨fs,hfs,rfl⟩:=ag h;cases args with
           | nil=>exact absurd rfl hl
           | cons e es =>
            exact K0 C.calm (C.blt g.bn hg (by decide +kernel) Kd) (st1 rfl) (st2 rfl) (cT O hfs)
         ·split at h
          ·let⟨y,hy,rfl⟩:=ag h;exact DF.de (O.f _ _ hy)
          ·exact Cr C g O hg hs h
 ·cases h
end
section
variable {G:Sg}{X:Cx}{N:List Str}{sc:Scope}{k j:Nat}{T:Tr}{pos p:Pos}
def Ot(h:isStar e=false):((backTo cpos (starEach [e] env)).all (λx=>!x.1)&&(backToKw cpos (keywordEach [] env)).all (λx=>x.1.isSome)&&decide ([e].length+([]:List Keyword).length+(if ([]:List Keyword).isEmpty then 0 else 1) < 30))=true:=by
 rw[bp h];rfl
def mP(h:BP o=false):attributeBase o a env w=w:=by
 cases o<;>first|rfl|cases h
def Dd(C:Bk X N sc k)(O:c9 X T)(h:Aa T o m apos args cpos=some f):DE X (.Call (.Attribute o m apos) args [] cpos) f:=by
 unfold Aa at h;split at h
 ·rename_i hm;rw[zF,zF,yP] at hm;let⟨⟨hm1,hm⟩,hcl⟩:=hm;have e1:m="index":=eq_of_beq hm1;subst e1;split at h
  ·rename_i e;split at h
   ·rename_i hs;let⟨x,hx,h⟩:=bs h;let⟨y,hy,rfl⟩:=ag h;exact Ca (mP hcl) (Ot hs) hm (bp hs) (O.e _ _ hx) (O.e _ _ hy)
   ·cases h
  ·cases h
 ·cases h
def Er(C:Bk X N sc k)(g:Nb G X j)(hjk:j<=k)(O:c9 X T)(h:EG G sc N T e=some f):DE X e f:=by
 unfold EG at h;split at h
 ·exact C7 C g h
 ·exact Af h
 ·exact Gu C O h
 ·exact Fp C O h
 ·exact sd O h
 ·exact (wk C O h).1
 ·let⟨z,hz,h⟩:=bs h;let⟨x,hx,h⟩:=bs h;let⟨y,hy,rfl⟩:=ag h;exact Nk (O.t _ _ hz) (O.e _ _ hx) (O.e _ _ hy)
 ·let⟨x,hx,rfl⟩:=ag h;exact Ke (cT O hx)
 ·exact DH C O h
 ·let⟨x,hx,rfl⟩:=ag h;exact DF.de (O.f _ _ hx)
 ·let⟨x,hx,rfl⟩:=ag h;exact DF.de (O.f _ _ hx)
 ·exact Ci C g hjk O h
 ·let⟨x,hx,rfl⟩:=ag h;exact DF.de (O.f _ _ hx)
 ·exact Dd C O h
 ·cases h
def FO(O:c9 X T):∀ {es:List Expr}{f:Dl.Env->Option Bool},Nr T op es=some f->DW X (.BoolOp op es pos) f
 | [],f,h=>by cases h
 | [a],f,h=>by
  cases op with
  | And=>exact Gv (O.t _ _ h)
  | Or=>exact JY (O.t _ _ h)
 | a::b::r,f,h=>by
  unfold Nr at h;let⟨x,hx,h⟩:=bs h;let⟨y,hy,rfl⟩:=ag h;have ih:=FO O hy;cases op with
  | And=>exact Kz (O.t _ _ hx) ih
  | Or=>exact Mp (O.t _ _ hx) ih
def FB(C:Bk X N sc k)(O:c9 X T)(h:stepT T e=some f):DT X e f:=by
 unfold stepT at h;split at h
 ·let⟨x,hx,rfl⟩:=ag h;exact (wk C O hx).2
 ·let⟨x,hx,rfl⟩:=ag h;exact J6 (O.t _ _ hx)
 ·exact DW.dt (FO O h)
 ·split at h
  ·rename_i hp;let⟨x,hx,rfl⟩:=ag h;refine LO (O.e _ _ hx) ?_;revert hp;cases e<;>first|(intro hp;cases hp;done)|(intro hp _;rfl)
  ·cases h
def LK(h:Kq e=true):∀x,foldedSetIterable e env x=pure x:=by
 cases e<;>first|(intro _;rfl)|cases h
def EK(C:Bk X N sc k)(B:Bn X)(O:c9 X T)(h:Nu sc T tg iter=some fi):DI X tg iter fi/\∀x,foldedSetIterable iter X.env x=pure x:=by
 unfold Nu at h;split at h
 ·refine⟨?_,λ_=>rfl⟩;split at h
  ·rename_i hx;subst hx;split at h
   ·split at h
    ·rename_i hg;rw[zF,yP] at hg;let⟨x,hx,rfl⟩:=ag h;exact Ey (C.blt B hg.1 (by decide +kernel) xt) (cT O hx) (bp hg.2)
    ·cases h
   ·cases h
  ·split at h
   ·rename_i hx;subst hx;split at h
    ·split at h
     ·rename_i hg;simp?[zF,yP] at hg;let⟨x,hx,rfl⟩:=ag h;cases tg<;>first|exact Ia (C.blt B hg.1.1 (by decide +kernel) uM) (cT O hx) (bp hg.1.2)|exact absurd hg.2 (by simp[uu])
     ·cases h
    ·cases h
   ·split at h
    ·rename_i hx;subst hx;split at h
     ·split at h
      ·rename_i e e' hg;simp?[zF,yP] at hg;let⟨x,hx,rfl⟩:=ag h;cases tg<;>first|exact IM (C.blt B hg.1.1.1 (by decide +kernel) Kb) (bp hg.1.1.2) (dc (by simp[hg.1.2])) (cT O hx)|exact absurd hg.2 (by simp[uu])
      ·cases h
     ·cases h
    ·let⟨x,hx,rfl⟩:=ag h;exact F6 (O.e _ _ hx)
 ·cases h
 ·rename_i h1 h2;let⟨x,hx,rfl⟩:=ag h;refine⟨F6 (O.e _ _ hx),LK ?_⟩;cases iter<;>first|rfl|exact absurd rfl (h2 _ _ _)
def Lh(h:Oa tg=some xs):(∃x px,tg=.Name x px/\xs=[x])\/∃x px y py m pt,tg=.Tuple [.Name x px,.Name y py] m pt/\xs=[x,y]:=by
 unfold Oa at h;split at h
 ·cases h;exact .inl ⟨_,_,rfl,rfl⟩
 ·cases h;exact .inr ⟨_,_,_,_,_,_,rfl,rfl⟩
 ·cases h
def La(h:NS tg=some xs):((∃x px,tg=.Name x px/\xs=[x])\/∃x px y py m pt,tg=.Tuple [.Name x px,.Name y py] m pt/\xs=[x,y])\/∃x px y py z pz m pt,tg=.Tuple [.Name x px,.Name y py,.Name z pz] m pt/\xs=[x,y,z]:=by
 unfold NS at h;split at h
 ·cases h;exact .inr ⟨_,_,_,_,_,_,_,_,rfl,rfl⟩
 ·exact .inl (Lh h)
def sG(C:Bk X N sc k)(B:Bn X)(O:c9 X T)(OB:∀scope N' fp s H,Bk (aW X scope N' fp s H) N' scope k->c9 (aW X scope N' fp s H) (blk scope N'))
  (h:uI sc N T blk elt [⟨tg,iter,ifs,as⟩] scope=some f):as=0/\o6 X tg iter ifs elt scope f:=by
 unfold uI at h;dsimp only at h;split at h
 ·rename_i has;refine⟨has,?_⟩;let⟨xs,hxs,h⟩:=bs h;split at h
  ·rename_i hok;rw[zF] at hok;let⟨fi,hfi,h⟩:=bs h;let⟨tt,htt,h⟩:=bs h;let⟨te,hte,rfl⟩:=ag h;let⟨S,CB⟩:=C.comp hok.1;let⟨hd,hfold⟩:=EK C B O hfi;refine⟨_,_,_,_,_,_,_,rfl,S,hd,hfold,λfp s H=>?_⟩;have C1:=CB fp s H;have O1:=OB scope _ fp s H C1;refine⟨?_,?_,O1.e _ _ hte⟩
   ·rcases La hxs with (⟨x,px,rfl,rfl⟩|⟨x,px,y,py,m,pt,rfl,rfl⟩)|⟨x,px,y,py,z,pz,m,pt,htg,rfl⟩
    ·have z:=C1.loc (i:=0) (x:=x) (List.all_eq_true.mp hok.2 0 (by simp));exact HW 0 z.1 z.2.1 z.2.2.1 z.2.2.2
    ·have z:=C1.loc (i:=0) (x:=x) (List.all_eq_true.mp hok.2 0 (by simp));have w:=C1.loc (i:=1) (x:=y) (List.all_eq_true.mp hok.2 1 (by simp));exact Lo 0 1 C1.calm z.1 z.2.1 z.2.2.1 w.2.1 w.2.2.1 z.2.2.2 w.2.2.2
    ·have z0:=C1.loc (i:=0) (x:=x) (List.all_eq_true.mp hok.2 0 (by simp));have w:=C1.loc (i:=1) (x:=y) (List.all_eq_true.mp hok.2 1 (by simp));have u:=C1.loc (i:=2) (x:=z) (List.all_eq_true.mp hok.2 2 (by simp));subst htg;exact Fz 0 1 2 C1.calm z0.1 z0.2.1 z0.2.2.1 w.2.1 w.2.2.1 u.2.1 u.2.2.1 z0.2.2.2 w.2.2.2 u.2.2.2
   ·unfold IY at htt;split at htt
    ·cases htt;exact HY
    ·exact Il (O1.t _ _ htt)
    ·cases htt
  ·cases h
 ·cases h
def o6.df(hc:X.calm=true)(h:o6 X tg iter ifs elt scope f):DF X (.ListComp elt [⟨tg,iter,ifs,0⟩] scope pos) f:=by
 let⟨N',t,cs,fi,tgt,tt,te,rfl,S,hd,hfold,hY⟩:=h.ex;exact IB hc S hd hY hfold
def wq(h:BB a=some x):∃px,a=⟨[],[⟨x,none,px⟩],none,[],[],none,[]⟩/\(x="number"\/x="plan"):=by
 unfold BB at h;split at h
 ·split at h
  ·cases h;exact⟨_,rfl,.inl ‹_›⟩
  ·split at h
   ·cases h;exact⟨_,rfl,.inr ‹_›⟩
   ·cases h
 ·cases h
def bind1{x q:Str}{px:Pos}{body:Expr}{scope:Scope}{cl:List (Str×Addr)}{pm ctv u:Value}{c:Addr}(h:x="number"\/x="plan") :
  bindArgs (PySem.W.kla_fn "<lambda>" q ⟨[],[⟨x,none,px⟩],none,[],[],none,[]⟩ body scope cl pm (.ref c) ctv) ⟨[u],[]⟩=pure [(x,u)]:=by
 rcases h with rfl|rfl<;>rfl
def Al{sc:Scope}{e e':Expr}(h:setIn sc e=some e'):∃p1 p2,e=.Call (.Name "set" p1) [e'] [] p2/\yp sc "set"=true/\isStar e'=false:=by
 unfold setIn at h;split at h
 ·split at h
  ·rename_i hc;cases h;rw[zF,zF,yP] at hc;have e1:=eq_of_beq hc.1.1;subst e1;exact⟨_,_,rfl,hc.1.2,hc.2⟩
  ·cases h
 ·cases h
def Aw{lam:Option Str}(C:Bk X N sc k)(B:Bn X)(hlam:∀q,lam=some q->pF X q/\j+3<=k)(O:c9 X T){lmb:Scope->List Str->Tr}
  (OL:∀scope N' qual A f c s H,Bk (gh X A qual scope N' f c s H) N' scope (k - 3)->j<=k - 3->c9 (gh X A qual scope N' f c s H) (lmb scope N')) {l body:Expr}{params:Arguments}{scope:Scope}{p0 lpos kpos:Pos}{f:Dl.Env->Option (List D)}
  (h:sU lam sc N T lmb l params body scope=some f):DF X (.Call (.Name "sorted" p0) [l] [⟨some "key",.Lambda params body scope lpos,kpos⟩] pos) f:=by
 unfold sU at h;split at h
 ·rename_i hg;simp?[zF,yP] at hg;let⟨⟨hl,hg⟩,hs⟩:=hg;let⟨q,rfl⟩:=Option.isSome_iff_exists.mp hl;let⟨L,hk⟩:=hlam q rfl;let⟨x,hx,h2⟩:=bs h;clear h;let⟨px,rfl,hpx⟩:=wq hx;split at h2
  ·rename_i hok;rw[zF] at hok;let⟨fl,hfl,h⟩:=bs h2;let⟨te,hte,rfl⟩:=ag h;obtain⟨k',rfl⟩:∃k',k=k'+3:=⟨k - 3,by lia⟩
   exact Bk.sortK (p:=x) C (C.blt B hg (by decide +kernel) gX) L hok.1 hok.2 (λ_ _ _ _ _=>bind1 hpx) rfl (O.e _ _ hfl) (λA f c s H C'=>(OL scope _ q A f c s H C' (by lia)).e _ _ hte) (bp hs) (by rw[bp hs];rfl) (dc (by simp[hs]))
  ·cases h2
 ·cases h
def AG{lam:Option Str}(C:Bk X N sc k)(B:Bn X)(hlam:∀q,lam=some q->pF X q/\j+3<=k)(O:c9 X T){lmb:Scope->List Str->Tr}
  (OL:∀scope N' qual A f c s H,Bk (gh X A qual scope N' f c s H) N' scope (k - 3)->j<=k - 3->c9 (gh X A qual scope N' f c s H) (lmb scope N')) {l body:Expr}{params:Arguments}{scope:Scope}{p0 lpos kpos:Pos}{f:Dl.Env->Option (List D)}
  (h:uk lam sc N T lmb l params body scope=some f):DF X (.Call (.Name "sorted" p0) [l] [⟨some "key",.Lambda params body scope lpos,kpos⟩] pos) f:=by
 unfold uk at h;split at h
 ·split at h
  ·rename_i hg;simp?[zF,yP] at hg;obtain⟨⟨⟨⟨hl,hg⟩,hr⟩,hgr⟩,hs⟩:=hg;have er:=eq_of_beq hr;subst er;let⟨q,rfl⟩:=Option.isSome_iff_exists.mp hl;let⟨L,hk⟩:=hlam q rfl;let⟨x,hx,h2⟩:=bs h;clear h;let⟨px,rfl,hpx⟩:=wq hx;split at h2
   ·rename_i hok;rw[zF] at hok;let⟨fl,hfl,h⟩:=bs h2;let⟨te,hte,rfl⟩:=ag h;obtain⟨k',rfl⟩:∃k',k=k'+3:=⟨k - 3,by lia⟩
    exact Bk.sortR (p:=x) C (C.blt B hg (by decide +kernel) gX) (C.blt B hgr (by decide +kernel) xt) L hok.1 hok.2 (λ_ _ _ _ _=>bind1 hpx) rfl (cT O hfl) (λA f c s H C'=>(OL scope _ q A f c s H C' (by lia)).e _ _ hte) (bp hs) (bp rfl) (by rw[bp rfl];rfl) (dc (by rfl))
   ·cases h2
  ·cases h
 ·cases h
def EB(C:Bk X N sc k)(B:Bn X)(hlam:∀q,lam=some q->pF X q/\j+3<=k)(O:c9 X T)
  (OB:∀scope N' fp s H,Bk (aW X scope N' fp s H) N' scope k->c9 (aW X scope N' fp s H) (blk scope N'))
  (OL:∀scope N' qual A f c s H,Bk (gh X A qual scope N' f c s H) N' scope (k - 3)->j<=k - 3->c9 (gh X A qual scope N' f c s H) (lmb scope N')) {e:Expr}{f:Dl.Env->Option (List D)}(h:Bx lam sc N T blk lmb e=some f):DF X e f:=by
 unfold Bx at h;split at h
 ·let⟨x,hx,rfl⟩:=ag h;exact Kh (cT O hx)
 ·rename_i elt gens scope ps
  match gens,h with
  | [⟨tg,iter,ifs,as⟩],h =>
   let⟨rfl,q⟩:=sG C B O OB h;exact q.df C.calm
 ·let⟨x,hx,h⟩:=bs h;let⟨y,hy,rfl⟩:=ag h;exact JP (O.e _ _ hx) (O.e _ _ hy)
 ·split at h
  ·rename_i hk;rw[zF] at hk;have e1:=eq_of_beq hk.1;have e2:=eq_of_beq hk.2;subst e1 e2;split at h
   ·cases h;exact Aw C B hlam O OL ‹_›
   ·exact AG C B hlam O OL h
  ·cases h
 ·split at h
  ·rename_i hg;rw[zF,yP] at hg;split at h
   ·rename_i hx;subst hx;split at h
    ·rename_i e' hs;let⟨f,hf,rfl⟩:=ag h;let⟨p1,p2,rfl,h1,h2⟩:=Al hs;split
     ·exact uW C.calm C.u64 (C.blt B hg.1 (by decide +kernel) gX) (C.blt B h1 (by decide +kernel) zf) (O.e _ _ hf) (bp h2)
     ·exact zh C.calm (C.blt B hg.1 (by decide +kernel) gX) (C.blt B h1 (by decide +kernel) zf) (O.e _ _ hf) (bp h2)
    ·let⟨x,hx,rfl⟩:=ag h;exact Da (C.blt B hg.1 (by decide +kernel) gX) (cT O hx) (bp hg.2)
   ·cases h
  ·cases h
 ·cases h
def Hl(C:Bk X N sc k)(B:Bn X)(O:c9 X T)(OB:∀scope N' fp s H,Bk (aW X scope N' fp s H) N' scope k->c9 (aW X scope N' fp s H) (blk scope N'))
  {elt:Expr}{gens:List Comprehension}{scope:Scope}{p:Pos}{f:Dl.Env->Option (List D)}(h:Bx lam sc N T blk lmb (.ListComp elt gens scope p)=some f):∃tg iter ifs,gens=[⟨tg,iter,ifs,0⟩]/\o6 X tg iter ifs elt scope f:=by
 have h:uI sc N T blk elt gens scope=some f:=h
 match gens,h with
 | [⟨tg,iter,ifs,as⟩],h =>
  let⟨rfl,q⟩:=sG C B O OB h;exact⟨tg,iter,ifs,rfl,q⟩
def Jg(n:Nat):∀ {lam:Option Str}{X:Cx}{N:List Str}{sc:Scope}{k:Nat},Bk X N sc k->Nb G X j->j<=k->(∀q,lam=some q->pF X q/\j+3<=k)->c9 X (tr G n lam sc N):=by
 induction n with
 | zero=>intro lam X N sc k C g hjk hlam;exact⟨λ_ _ _ _ _ h=>(by cases h),λ_ _ h=>(by cases h),λ_ _ h=>(by cases h),λ_ _ h=>(by cases h)⟩
 | succ n ih =>
  intro lam X N sc k C g hjk hlam;have O:=ih C g hjk hlam;exact⟨λelt gens scope p f h=>Hl (lam:=lam) (lmb:=tr G n none) (p:=p) C g.bn O (λscope N' fp s H C'=>ih C' ⟨g.fn,g.int,g.bn⟩ hjk λq z=>by cases z) h,λe f h=>Er C g hjk O h,
   λe f h=>EB C g.bn hlam O (λscope N' fp s H C'=>ih C' ⟨g.fn,g.int,g.bn⟩ hjk λq z=>by cases z) (λscope N' qual A f c s H C' hk=>ih C' ⟨g.fn,g.int,g.bn⟩ hk λq z=>by cases z) h,
   λe f h=>FB C O h⟩
end
def o8:Nat->Expr->List Str
 | 0,_=>[]
 | n+1,e=>match e with
  | .Name x _=>[x]
  | .UnaryOp _ a _=>o8 n a
  | .BinOp a _ b _=>o8 n a++o8 n b
  | .BoolOp _ es _=>es.flatMap (o8 n)
  | .Compare a _ cs _=>o8 n a++cs.flatMap (o8 n)
  | .IfExp c a b _=>o8 n c++(o8 n a++o8 n b)
  | .Tuple es _ _=>es.flatMap (o8 n)
  | .List es _=>es.flatMap (o8 n)
  | .Subscript a b _=>o8 n a++o8 n b
  | .Slice lo hi st _=>(lo.toList++(hi.toList++st.toList)).flatMap (o8 n)
  | .Call f args kws _=>o8 n f++(args.flatMap (o8 n)++kws.flatMap λk=>o8 n k.value)
  | .Attribute o _ _=>o8 n o
  | .ListComp elt gens _ _=>o8 n elt++gens.flatMap λg=>o8 n g.iter++g.ifs.flatMap (o8 n)
  | .Lambda _ b _ _=>o8 n b
  | _=>[]
def pf(N:List Str)(e:Expr):List Nat:=let ns:=o8 60 e;(List.range N.length).filter λj=>match N[j]? with|some x=>ns.contains x|none=>false
abbrev GS:=ar->Option Out
def turns:Nat:=1000000
def Ft:Expr->Bool
 | .ListComp ..=>true
 | .SetComp ..=>true
 | .DictComp ..=>true
 | _=>false
def E8(sc:Scope)(N:List Str)(T:Tr)(x:Str)(px:Pos)(e:Expr):Option GS :=
 (N.idxOf? x).bind λi=>if qu N sc i x=true then
  (if A9 e=true then (match e with
   | .ListComp _ _ scope lp =>
    if (decide (sc.names.lookup x=some .local)&&(px.line == lp.line&&!(scope.names.any λ(n,k)=>n == x&&(k == .local || k == .cell))))=true then (T.f e).map λf=>aM i (pf N e) f
    else if decide (sc.names.lookup x=some .cell)=true then (T.f e).map λf=>aM i (pf N e) f
    else if (px.line == lp.line)=false then (T.f e).map λf=>aM i (pf N e) f
    else none
   | _=>(T.f e).map λf=>aM i (pf N e) f)
  else if Ft e=false then (T.e e).map λf=>az i (pf N e) f else none) else none
def E3(N:List Str)(sc:Scope)(T:Tr)(e:Expr):Option GS:=match e with
 | .Constant (.str _) _ _=>some eF
 | .Call (.Attribute (.Name x _) m apos) args [] cpos =>
  (N.idxOf? x).bind λi=>if (B8 N sc i x&&apos.endLine == cpos.line&&args.all λe=>!isStar e)=true then
   (if m="append" then (match args with
    | [a]=>(T.e a).map λf=>lj i (pf N a) f
    | _=>none)
   else if m="extend" then (match args with
    | [a]=>(T.f a).map λf=>tq i (pf N a) f
    | _=>none)
   else if m="insert" then (match args with
    | [a,b]=>(T.e a).bind λfk=>(T.e b).map λf=>Dz i (pf N b) fk f
    | _=>none)
   else none) else none
 | .Call (.Name _ _) _ _ _=>(T.e e).map iW
 | _=>none
def Od(sc:Scope)(N:List Str)(tg:Expr):Option (ar->D->Option ar):=match tg with
 | .Name x _=>(N.idxOf? x).bind λi=>if qu N sc i x=true then some (k3 i) else none
 | .Tuple [.Name x _,.Name y _] _ _=>(N.idxOf? x).bind λi=>(N.idxOf? y).bind λj=>if (qu N sc i x&&qu N sc j y)=true then some (iB i j) else none
 | _=>none
def EH(sc:Scope)(N:List Str)(T:Tr)(x:Str)(kx e:Expr):Option GS :=
 (N.idxOf? x).bind λi=>if (B8 N sc i x&&!FZ kx)=true then (T.e kx).bind λfk=>(T.e e).map λf=>An i (pf N e) fk f else none
def tT(sc:Scope)(N:List Str)(T:Tr)(x y z:Str)(e:Expr):Option GS :=
 (N.idxOf? x).bind λi=>(N.idxOf? y).bind λj=>(N.idxOf? z).bind λl=>if (((qu N sc i x&&qu N sc j y)&&qu N sc l z)&&BX e)=true then (T.e e).map λf=>lM i j l (pf N e) f else none
def pU(f:Stmt->Option GS):List Stmt->Option GS
 | []=>some eF
 | [s]=>f s
 | s::r=>(f s).bind λg=>(pU f r).map λh=>au g h
def Gj(sc:Scope)(N:List Str)(T:Tr):Nat->Stmt->Option GS
 | 0,_=>none
 | n+1,st=>match st with
  | .Return (some e) _=>(T.e e).map aF
  | .If c a b _=>(T.t c).bind λt=>(pU (Gj sc N T n) a).bind λg=>(pU (Gj sc N T n) b).map λh=>eP t g h
  | .Assign [.Name x px] e _=>E8 sc N T x px e
  | .Assign [.Subscript (.Name x _) kx _] e _=>EH sc N T x kx e
  | .Assign [.Tuple [.Name x _,.Name y _,.Name z _] _ _] e _=>tT sc N T x y z e
  | .For tg iter body [] _=>(Nu sc T tg iter).bind λfi=>(Od sc N tg).bind λt=>(pU (Gj sc N T n) body).map λg=>c8 (pf N iter) fi t g
  | .While c body [] _=>(T.t c).bind λt=>(pU (Gj sc N T n) body).map λg=>HE t g turns
  | .Expr e _=>E3 N sc T e
  | .Raise ..=>some LU
  | .Pass _=>some eF
  | _=>none
section
variable {X:Cx}{N:List Str}{sc:Scope}{k:Nat}{T:Tr}{HF₀ H₀:Hp}{pos:Pos}
def ik(H:∀s g,f s=some g->DS X HF₀ H₀ s g):∀ {l:List Stmt}{g:GS},pU f l=some g->Dg X HF₀ H₀ l g
 | [],g,h=>by cases h;exact GX
 | [s],g,h=>Ho (H _ _ h)
 | s::t::r,g,h=>by
  unfold pU at h;let⟨x,hx,h⟩:=bs h;let⟨y,hy,rfl⟩:=ag h;exact FH (H _ _ hx) (ik H hy)
def sJ(h:Ft e=false):swapsWith e (some (.Name x px)) line env=pure false:=by
 cases e<;>first|rfl|cases h
def EL(C:Bk X N sc k)(O:c9 X T)(h:E8 sc N T x px e=some g):DS X HF₀ H₀ (.Assign [.Name x px] e pos) g:=by
 unfold E8 at h;let⟨i,hi,h⟩:=bs h;split at h
 ·rename_i hloc;let⟨z1,z2,z3,z4⟩:=C.loc hloc;split at h
  ·split at h
   ·rename_i elt gens scope lp hl;split at h
    ·rename_i hc;rw[zF] at hc;let⟨f,hf,rfl⟩:=ag h;let⟨tg,iter,ifs,rfl,q⟩:=O.c _ _ _ _ _ hf;let⟨N',t,cs,fi,tgt,tt,te,rfl,S,hd,hfold,hY⟩:=q.ex;exact Gw i _ C.calm S hd hY z1 z2 (C.locl hc.1) (C.swap hc.1 hc.2) hfold
    ·split at h
     ·rename_i hc;let⟨f,hf,rfl⟩:=ag h;exact uL i _ z1 z2 z3 (O.f _ _ hf) (C.noswap hc) z4
     ·split at h
      ·rename_i hc;let⟨f,hf,rfl⟩:=ag h;refine uL i _ z1 z2 z3 (O.f _ _ hf) ?_ z4;rw[qp,hc];simp
      ·cases h
   ·rename_i hl hn;let⟨f,hf,rfl⟩:=ag h;refine uL i _ z1 z2 z3 (O.f _ _ hf) (sJ ?_) z4;cases e<;>first|rfl|exact absurd rfl (hn _ _ _ _)|(rename_i hl _;cases hl;done)
  ·split at h
   ·rename_i hc;let⟨f,hf,rfl⟩:=ag h;exact J7 i _ z1 z2 z3 (O.e _ _ hf) (sJ hc) z4
   ·cases h
 ·cases h
def zx(h:(es.all λe=>!isStar e)=true)(hl:es.length < 20):((backTo cpos (starEach es env)).all (λx=>!x.1)&&(backToKw cpos (keywordEach [] env)).all (λx=>x.1.isSome)&&decide (es.length+([]:List Keyword).length+(if ([]:List Keyword).isEmpty then 0 else 1) < 30))=true:=by
 have h1:(backTo cpos (starEach es env)).all (λx=>!x.1)=true:=by
  have:=dc (pos:=cpos) (env:=env) h;rw[List.all_eq_not_any_not];simpa using this
 rw[h1];simp[backToKw,keywordEach];lia
def FU(C:Bk X N sc k)(O:c9 X T)(h:E3 N sc T e=some g):DS X HF₀ H₀ (.Expr e pos) g:=by
 unfold E3 at h;split at h
 ·cases h;exact JV
 ·rename_i x px m apos args cpos;replace h:=bs h;let⟨i,hi,h⟩:=h;split at h
  ·rename_i hv;simp?[zF] at hv;let⟨⟨hv,hline⟩,hs⟩:=hv;let⟨z1,z2,z3,z4⟩:=C.vis hv;split at h
   ·rename_i hm;subst hm;split at h
    ·let⟨f,hf,rfl⟩:=ag h;exact CN i _ z1 z2 (O.e _ _ hf) z3 z4 (zx hs (by simp)) hline (bp (by simpa using hs))
    ·cases h
   ·split at h
    ·rename_i hm;subst hm;split at h
     ·let⟨f,hf,rfl⟩:=ag h;exact CC i _ z1 z2 (O.f _ _ hf) z3 z4 (zx hs (by simp)) hline (bp (by simpa using hs))
     ·cases h
    ·split at h
     ·rename_i hm;subst hm;split at h
      ·let⟨fk,hfk,h⟩:=bs h;let⟨f,hf,rfl⟩:=ag h;have hs':=hs;simp?[xS,List.all_nil,Bool.and_true,zF,yP] at hs';exact CT i _ z1 z2 (O.e _ _ hfk) (O.e _ _ hf) z3 z4 (zx hs (by simp)) hline (bp hs'.1) (bp hs'.2)
      ·cases h
     ·cases h
  ·cases h
 ·let⟨f,hf,rfl⟩:=ag h;exact GC rfl (O.e _ _ hf)
 ·cases h
def K3(C:Bk X N sc k)(h:Od sc N tg=some t):Nx X HF₀ H₀ tg t:=by
 unfold Od at h;split at h
 ·let⟨i,hi,h⟩:=bs h;split at h
  ·rename_i hl;cases h;have z:=C.loc hl;exact DC i z.1 z.2.1 z.2.2.1 z.2.2.2
  ·cases h
 ·let⟨i,hi,h⟩:=bs h;let⟨j,hj,h⟩:=bs h;split at h
  ·rename_i hl;rw[zF] at hl;cases h;have z:=C.loc hl.1;have w:=C.loc hl.2;exact Ii i j C.calm z.1 z.2.1 z.2.2.1 w.2.1 w.2.2.1 z.2.2.2 w.2.2.2
  ·cases h
 ·cases h
def AD(C:Bk X N sc k)(O:c9 X T)(h:tT sc N T x y z e=some g):DS X HF₀ H₀ (.Assign [.Tuple [.Name x px,.Name y py,.Name z pz] m pt] e pos) g:=by
 unfold tT at h;let⟨i,hi,h⟩:=bs h;let⟨j,hj,h⟩:=bs h;let⟨l,hl',h⟩:=bs h;split at h
 ·rename_i hl;rw[zF,zF,zF] at hl;let⟨f,hf,rfl⟩:=ag h;have z:=C.loc hl.1.1.1;have w:=C.loc hl.1.1.2;have u:=C.loc hl.1.2;exact Ed i j l _ C.calm z.1 z.2.1 z.2.2.1 w.2.1 w.2.2.1 u.2.1 u.2.2.1 hl.2 (O.e _ _ hf) z.2.2.2 w.2.2.2 u.2.2.2
 ·cases h
def Ds(C:Bk X N sc k)(O:c9 X T)(h:EH sc N T x kx e=some g):DS X HF₀ H₀ (.Assign [.Subscript (.Name x px) kx spos] e pos) g:=by
 unfold EH at h;let⟨i,hi,h⟩:=bs h;split at h
 ·rename_i hv;simp?[zF,yP] at hv;let⟨hv,hc⟩:=hv;let⟨z1,z2,z3,z4⟩:=C.vis hv;let⟨fk,hfk,h⟩:=bs h;let⟨f,hf,rfl⟩:=ag h;refine Ge i _ z1 z2 (O.e _ _ hfk) (O.e _ _ hf) z3 z4 (λv=>?_) ?_ ?_ rfl
  ·cases kx<;>first|rfl|cases hc
  ·cases e<;>rfl
  ·rfl
 ·cases h
def ze(C:Bk X N sc k)(B:Bn X)(O:c9 X T):∀ (n:Nat) {st:Stmt}{g:GS},Gj sc N T n st=some g->DS X HF₀ H₀ st g
 | 0,st,g,h=>by cases h
 | n+1,st,g,h=>by
  have ih:=λs g h=>ze C B O n (st:=s) (g:=g) h;unfold Gj at h;split at h
  ·let⟨f,hf,rfl⟩:=ag h;exact Ln (O.e _ _ hf)
  ·let⟨t,ht,h⟩:=bs h;let⟨a,ha,h⟩:=bs h;let⟨b,hb,rfl⟩:=ag h;exact MQ (O.t _ _ ht) (ik ih ha) (ik ih hb)
  ·exact EL C O h
  ·exact Ds C O h
  ·exact AD C O h
  ·let⟨fi,hfi,h⟩:=bs h;let⟨t,ht,h⟩:=bs h;let⟨b,hb,rfl⟩:=ag h;let⟨hd,hfold⟩:=EK C B O hfi;exact Ky _ C.pass C.calm hd (K3 C ht) (ik ih hb) hfold
  ·let⟨t,ht,h⟩:=bs h;let⟨b,hb,rfl⟩:=ag h;exact EV _ C.pass (O.t _ _ ht) (ik ih hb)
  ·exact FU C O h
  ·cases h;exact Mi
  ·cases h;exact Ha
  ·cases h
end
section
variable {K:PySem.W.Frag}
def pq(P:Program)(w:World)(K:PySem.W.Frag)(mg:Str->Option Value)(base:Heap)(j:Nat)(l:List (Str×Nat×(List D->Option D))):Prop:=∀x n m,l.lookup x=some (n,m)->F3 P w K mg base j x n m
def lN(mg:Str->Option Value)(l:List (Str×Int)):Prop:=∀x i,l.lookup x=some i->∃t,mg x=some (.int i t)
def NV:pq P w K mg base j []:=λ_ _ _ h=>by cases h
def MX(F:F3 P w K mg base j x n m)(h:pq P w K mg base j l):pq P w K mg base j ((x,n,m)::l):=λy n' m' e=>by
 rw[yB] at e;cases q:y == x with
 | true=>rw[q] at e;cases e;rw[eq_of_beq q];exact F
 | false=>rw[q] at e;exact h y n' m' e
def Oh:lN mg []:=λ_ _ h=>by cases h
def D2(F:∃t,mg x=some (.int i t))(h:lN mg l):lN mg ((x,i)::l):=λy i' e=>by
 rw[yB] at e;cases q:y == x with
 | true=>rw[q] at e;cases e;rw[eq_of_beq q];exact F
 | false=>rw[q] at e;exact h y i' e
def Je{st:Stmt}(C:Bk X N (aG st) j)(B:Bn X)(hf:pq X.prog X.w X.K X.mg X.base j fs)(hi:lN X.mg is)
  (t:pU (Gj (aG st) N (tr ⟨fs,is⟩ 40 none (aG st) N) 40) (bV st)=some g):Dg X HF₀ H₀ (bV st) g :=
 ik (λs g h=>ze C B (Jg (G:=⟨fs,is⟩) 40 C ⟨hf,hi,B⟩ (yM j) λq z=>by cases z) 40 h) t
def Ph{st:Stmt}(D:GP K mg x st ps)(S:eh N ps (aG st))(B:∀x∈dB,mg x=none)(hf:pq P w K mg base j fs)(hi:lN mg is)
  (t:pU (Gj (aG st) N (tr ⟨fs,is⟩ 40 none (aG st) N) 40) (bV st)=some g):F3 P w K mg base (j+1) x ps.length (bf g N.length):=by
 let⟨f,fd,hm,F,hb⟩:=D.ex;exact OO F S hb hm λX hP hw hK hm' hb' C _ _ HF H=>by subst hP;subst hw;subst hK;subst hm';subst hb';exact Je C B hf hi t
def OZ{st:Stmt}(D:Lg K mg x st ps)(S:eh N ps (aG st))(B:∀x∈dB,mg x=none)(hf:pq P w K mg base j fs)(hi:lN mg is)
  (hq:x∈jc/\x++".<locals>."++"<lambda>"=q) (t:pU (Gj (aG st) N (tr ⟨fs,is⟩ 40 (some q) (aG st) N) 40) (bV st)=some g):F3 P w K mg base (j+4) x ps.length (bf g N.length):=by
 let⟨f,fd,c,P',hm,F,hb,hc,hh⟩:=D.ex;refine OO (k:=j+3) F S hb hm λX hP hw hK hm' hb' C h1 h2 HF H=>?_;subst hP;subst hw;subst hK;subst hm';subst hb';have L:pF X q:=by
  refine⟨c,P',by rw[h1,hc],by rw[h2];exact hq.2,hh,λHF tb=>?_⟩;let⟨oc,od,kV,doc,pm,an,cdv,ct,osl,rfl,lk,_⟩:=F.ex;have:=tb f oc od _ osl c P' lk hq.1 hc hh;rw[<- hq.2];exact this
 exact ik (λs g h=>ze C B (Jg (G:=⟨fs,is⟩) (j:=j) 40 C ⟨hf,hi,B⟩ (jU _ _) λq' z=>by cases z;exact⟨L,yM _⟩) 40 h) t
end
abbrev tW(s:Stmt)(N:List Str)(S:Sg)(l:Option Str):Option GS:=pU (Gj (aG s) N (tr S 40 l (aG s) N) 40) (bV s)
def Pp(a:sc.kind=.function:=by rfl)(b:sc.isCoroutine=false:=by rfl)(c:sc.isGenerator=false:=by rfl)(d:N.Nodup:=by decide +kernel)(e:N.take P.length=P:=by rfl)(f:∀x∈P,sc.names.lookup x=some .local \/ sc.names.lookup x=some .cell:=by decide +kernel)(g:∀y∈sc.names,y.2≠.free:=by decide +kernel):eh N P sc:=⟨a,b,c,d,e,f,g⟩
section
variable {K:PySem.W.Frag}
end
end Rf
namespace Ex
open PySem L2 PySem.Spec PyProof.Rows
section
variable {X:Cx}{pins:List (Addr×Obj)}{σ:L2.St}{H H':Hp}{s s':Shared}{cls:Value}{ea:Addr}
end
open PySem L2 Dl PySem.Spec PyProof.Rows
section
variable {X:Cx}{pins:List (Addr×Obj)}{σ:L2.St}{H H':Hp}{s s':Shared}{cls:Value}{ea:Addr}
end
open PySem PySem.W PySem.Spec PySem.Calls PyProof.Rows
section
variable {K:Frag}{x D:Addr}
end
section
variable {K:PySem.W.Frag}
end
open PySem L2 Dl PySem.Spec PyProof.Rows Rf
section
variable {tS:Stmt->Option GS}
end
section
variable {K:PySem.W.Frag}
end
section
variable {K:PySem.W.Frag}{cs:List (Str×Addr)}
end
end Ex
namespace Hd
open PySem L2 Dl PySem.Spec PyProof.Rows
section
variable {K:PySem.W.Frag}
def Ni{st:Stmt}(hb:fT st ps)(a:PySem.W.nsIn K mainGlobals x=some (some (.ref f)))(l:K.lookup f=some (fo x st pm c))(d:PySem.W.codeIn K (.ref c) x=true)(k:PySem.W.keepIn K (.ref f)=true):iQ K x st ps:=MW hb a l d k
def ON{st:Stmt}(hb:fT st ps)(a:PySem.W.nsIn K mainGlobals x=some (some (.ref f)))(l:K.lookup f=some (fo x st pm c))(d:PySem.W.codeIn K (.ref c) x=true)(k:PySem.W.keepIn K (.ref f)=true)(hh:PySem.W.codeHdIn K c (Ez K c)=true):oe K x st ps:=Mv hb a l d k hh
end
section
variable {α:Type}{R:List α->Prop}
def wc(h:∀a,R [a])(us:List α)(e:us.length=1):R us:=by
 let⟨a,rfl⟩:=List.length_eq_one_iff.mp e;exact h a
def IJ(us:List α)(e:us.length=n+1):∃a r,us=a::r/\r.length=n:=by
 cases us with
 | nil=>cases e
 | cons a r=>exact⟨a,r,rfl,by simpa using e⟩
def M1(h:∀a b,R [a,b])(us:List α)(e:us.length=2):R us:=by
 let⟨a,r,rfl,e'⟩:=IJ us e;exact wc (R:=λr=>R (a::r)) (h a) r e'
def LN(h:∀a b c,R [a,b,c])(us:List α)(e:us.length=3):R us:=by
 let⟨a,r,rfl,e'⟩:=IJ us e;exact M1 (R:=λr=>R (a::r)) (h a) r e'
def M4(h:∀a b c d,R [a,b,c,d])(us:List α)(e:us.length=4):R us:=by
 let⟨a,r,rfl,e'⟩:=IJ us e;exact LN (R:=λr=>R (a::r)) (h a) r e'
def Oe(h:∀a b c d f,R [a,b,c,d,f])(us:List α)(e:us.length=5):R us:=by
 let⟨a,r,rfl,e'⟩:=IJ us e;exact M4 (R:=λr=>R (a::r)) (h a) r e'
end
section
variable {K:PySem.W.Frag}
def f1(f c:Addr)(pm:Value){st:Stmt}(hb:fT st ps:=by exactλ_ _ _ _ _ _ _ _ us hl=>wc (R:=λus=>bindArgs _ ⟨us,[]⟩=pure (List.zip _ us)) (λ_=>rfl) us hl)(a:PySem.W.nsIn K mainGlobals x=some (some (.ref f)):=by kernel_rfl)(l:K.lookup f=some (fo x st pm c):=by kernel_rfl)(d:PySem.W.codeIn K (.ref c) x=true:=by kernel_rfl)(k:PySem.W.keepIn K (.ref f)=true:=by kernel_rfl):iQ K x st ps:=Ni hb a l d k
def l1(f c:Addr)(pm:Value){st:Stmt}(hb:fT st ps:=by exactλ_ _ _ _ _ _ _ _ us hl=>wc (R:=λus=>bindArgs _ ⟨us,[]⟩=pure (List.zip _ us)) (λ_=>rfl) us hl)(a:PySem.W.nsIn K mainGlobals x=some (some (.ref f)):=by kernel_rfl)(l:K.lookup f=some (fo x st pm c):=by kernel_rfl)(d:PySem.W.codeIn K (.ref c) x=true:=by kernel_rfl)(k:PySem.W.keepIn K (.ref f)=true:=by kernel_rfl)(hh:PySem.W.codeHdIn K c (Ez K c)=true:=by kernel_rfl):oe K x st ps:=ON hb a l d k hh
def f2(f c:Addr)(pm:Value){st:Stmt}(hb:fT st ps:=by exactλ_ _ _ _ _ _ _ _ us hl=>M1 (R:=λus=>bindArgs _ ⟨us,[]⟩=pure (List.zip _ us)) (λ_ _=>rfl) us hl)(a:PySem.W.nsIn K mainGlobals x=some (some (.ref f)):=by kernel_rfl)(l:K.lookup f=some (fo x st pm c):=by kernel_rfl)(d:PySem.W.codeIn K (.ref c) x=true:=by kernel_rfl)(k:PySem.W.keepIn K (.ref f)=true:=by kernel_rfl):iQ K x st ps:=Ni hb a l d k
def f3(f c:Addr)(pm:Value){st:Stmt}(hb:fT st ps:=by exactλ_ _ _ _ _ _ _ _ us hl=>LN (R:=λus=>bindArgs _ ⟨us,[]⟩=pure (List.zip _ us)) (λ_ _ _=>rfl) us hl)(a:PySem.W.nsIn K mainGlobals x=some (some (.ref f)):=by kernel_rfl)(l:K.lookup f=some (fo x st pm c):=by kernel_rfl)(d:PySem.W.codeIn K (.ref c) x=true:=by kernel_rfl)(k:PySem.W.keepIn K (.ref f)=true:=by kernel_rfl):iQ K x st ps:=Ni hb a l d k
def l3(f c:Addr)(pm:Value){st:Stmt}(hb:fT st ps:=by exactλ_ _ _ _ _ _ _ _ us hl=>LN (R:=λus=>bindArgs _ ⟨us,[]⟩=pure (List.zip _ us)) (λ_ _ _=>rfl) us hl)(a:PySem.W.nsIn K mainGlobals x=some (some (.ref f)):=by kernel_rfl)(l:K.lookup f=some (fo x st pm c):=by kernel_rfl)(d:PySem.W.codeIn K (.ref c) x=true:=by kernel_rfl)(k:PySem.W.keepIn K (.ref f)=true:=by kernel_rfl)(hh:PySem.W.codeHdIn K c (Ez K c)=true:=by kernel_rfl):oe K x st ps:=ON hb a l d k hh
def f4(f c:Addr)(pm:Value){st:Stmt}(hb:fT st ps:=by exactλ_ _ _ _ _ _ _ _ us hl=>M4 (R:=λus=>bindArgs _ ⟨us,[]⟩=pure (List.zip _ us)) (λ_ _ _ _=>rfl) us hl)(a:PySem.W.nsIn K mainGlobals x=some (some (.ref f)):=by kernel_rfl)(l:K.lookup f=some (fo x st pm c):=by kernel_rfl)(d:PySem.W.codeIn K (.ref c) x=true:=by kernel_rfl)(k:PySem.W.keepIn K (.ref f)=true:=by kernel_rfl):iQ K x st ps:=Ni hb a l d k
def f5(f c:Addr)(pm:Value){st:Stmt}(hb:fT st ps:=by exactλ_ _ _ _ _ _ _ _ us hl=>Oe (R:=λus=>bindArgs _ ⟨us,[]⟩=pure (List.zip _ us)) (λ_ _ _ _ _=>rfl) us hl)(a:PySem.W.nsIn K mainGlobals x=some (some (.ref f)):=by kernel_rfl)(l:K.lookup f=some (fo x st pm c):=by kernel_rfl)(d:PySem.W.codeIn K (.ref c) x=true:=by kernel_rfl)(k:PySem.W.keepIn K (.ref f)=true:=by kernel_rfl):iQ K x st ps:=Ni hb a l d k
end
end Hd
namespace Pg
open PySem L2 Dl PySem.Spec PyProof.Rows
def pE:ar->Option Out:=(au (eP (gp (bF (fB (Jq "int" (ab 0)))) (fB (Jq "bool" (ab 0)))) (aF (fC (.bool false))) eF) (aF (jr B3 B3 (ab 1) (ab 0) (ab 2))))
def bA:List D->Option D:=bf pE 3
def oA:ar->Option Out:=(aF (ah 3 bA (aa (ab 0) (aa (fC (.int 0)) (aa (f2 Dl.g9 (ab 1) (fC (.int 1))) ae)))))
def cJ:List D->Option D:=bf oA 2
def rX:ar->Option Out:=(aF (kn (Jq "tuple" (ab 0)) (jr B3 B3 (ab 1) (bu bK (aa (ab 0) ae)) (ab 2))))
def bL:List D->Option D:=bf rX 3
def n9:ar->Option Out:=(au (eP (bF (fB (Jq "tuple" (ab 0)))) (aF (fC (.bool false))) eF) (au (eP (bF (fB (bu kq (aa (bH (aj 1 [1] (aO (ab 0)) (fG 0) (λ_=>some true) (ah 2 cJ (aa (ab 0) (aa (ab 1) ae))))) ae)))) (aF (fC (.bool false))) eF) (aF (f2 bT (f1 ke (ab 0)) (bu bK (aa (ab 0) ae))))))
def gf:List D->Option D:=bf n9 2
def wa:ar->Option Out:=(aF (kn (ah 3 bL (aa (ab 0) (aa (fC (.int 2)) (aa (fC (.int 2)) ae)))) (kn (ah 3 bA (aa (f2 av (ab 0) (fC (.int 0))) (aa (fC (.int 0)) (aa (fC (.int 9)) ae)))) (ah 2 gf (aa (f2 av (ab 0) (fC (.int 1))) (aa (ab 1) ae))))))
def fI:List D->Option D:=bf wa 2
def wX:ar->Option Out:=(au (eP (bF (fB (ah 3 bL (aa (ab 0) (aa (fC (.int 3)) (aa (fC (.int 3)) ae)))))) (aF (fC (.bool false))) eF) (aF (kn (ah 2 cJ (aa (f2 av (ab 0) (fC (.int 0))) (aa (ab 1) ae))) (kn (ah 2 cJ (aa (f2 av (ab 0) (fC (.int 1))) (aa (ab 2) ae))) (ah 3 bA (aa (f2 av (ab 0) (fC (.int 2))) (aa (fC (.int 1)) (aa (fC (.int 9)) ae))))))))
def jx:List D->Option D:=bf wX 3
def oo:ar->Option Out:=(au (eP (gp (bF (fB (ah 3 bL (aa (ab 0) (aa (fC (.int 1)) (aa (fC (.int 4)) ae)))))) (bF (fB (ah 3 bL (aa (ab 1) (aa (fC (.int 1)) (aa (fC (.int 4)) ae))))))) (aF (fC (.bool false))) eF) (au (eP (bF (fB (bu kq (aa (bH (aj 1 [1] (aO (ab 0)) (fG 0) (λ_=>some true) (ah 2 fI (aa (ab 0) (aa (bu bK (aa (ab 1) ae)) ae))))) ae)))) (aF (fC (.bool false))) eF) (au (eP (bF (fB (bu kq (aa (bH (aj 1 [0] (aO (ab 1)) (fG 0) (λ_=>some true) (ah 2 fI (aa (ab 0) (aa (bu bK (aa (ab 1) ae)) ae))))) ae)))) (aF (fC (.bool false))) eF) (aF (kn (Jq "tuple" (ab 2)) (bu kq (aa (bH (aj 1 [0,1] (aO (ab 2)) (fG 0) (λ_=>some true) (ah 3 jx (aa (ab 0) (aa (bu bK (aa (ab 1) ae)) (aa (bu bK (aa (ab 2) ae)) ae)))))) ae)))))))
def gm:List D->Option D:=bf oo 3
def k9:ar->Option Out:=(au (aM 1 [] (dJ ae)) (au (c8 [0] (bI (aa (ab 0) ae)) (iB 2 3) (tq 1 [2,3] (aj 1 [2] (aO (f2 av (ab 3) (fC (.int 1)))) (fG 0) (λ_=>some true) (aS (aa (ab 1) (aa (ab 0) ae)))))) (aF (ab 1))))
def bD:List D->Option D:=bf k9 4
def iH:ar->Option Out:=(au (eP (gp (bF (fB (ah 3 bL (aa (ab 0) (aa (fC (.int 3)) (aa (fC (.int 3)) ae)))))) (bF (fB (ah 3 gm (aa (f2 av (ab 0) (fC (.int 0))) (aa (f2 av (ab 0) (fC (.int 1))) (aa (f2 av (ab 0) (fC (.int 2))) ae))))))) (aF (fC (.bool false))) eF) (au (aM 1 [0] (aj 1 [] (aO (f2 av (ab 0) (fC (.int 2)))) (fG 0) (λ_=>some true) (aS (aa (f2 av (ab 0) (fC (.int 0))) (aa (f2 av (ab 0) (fC (.int 1))) ae))))) (au (aM 2 [0] (rh f9 (aa (ah 1 bD (aa (f2 av (ab 0) (fC (.int 0))) ae)) ae))) (au (aM 3 [0] (rh f9 (aa (bH (aj 2 [] (aO (ah 1 bD (aa (f2 av (ab 0) (fC (.int 1))) ae))) (eV 0 1) (λ_=>some true) (aS (aa (ab 1) (aa (ab 0) ae))))) ae))) (aF (kn (f2 bT (ab 1) (ab 2)) (f2 bT (ab 1) (ab 3))))))))
def cI:List D->Option D:=bf iH 4
def d7:ar->Option Out:=(eP (bF (fB (ah 1 cI (aa (ab 0) ae)))) LU eF)
def cD:List D->Option D:=bf d7 1
def d6:ar->Option Out:=(eP (bF (fB (ah 3 bA (aa (ab 0) (aa (ab 1) (aa (ab 2) ae)))))) LU eF)
def gF:List D->Option D:=bf d6 3
def dF:ar->Option Out:=(iW (ah 3 gF (aa (ab 0) (aa (fC (.int 0)) (aa (f2 Dl.g9 (ab 1) (fC (.int 1))) ae)))))
def fN:List D->Option D:=bf dF 2
def eW:ar->Option Out:=(iW (ah 2 fN (aa (ab 0) (aa (fC (.int 2)) ae))))
def fj:List D->Option D:=bf eW 1
def pN:ar->Option Out:=(aF (f2 aK (f2 aK (lH fO (ab 0) lE (zk (ab 1))) (aS (aa (ab 2) ae))) (lH fO (ab 0) (zk (f2 aK (ab 1) (fC (.int 1)))) lE)))
def lR:List D->Option D:=bf pN 3
abbrev Cg:List Str:=["world","side","place","ways","likes","own"]
def m7:ar->Option Out:=(au (az 3 [0] (f2 av (ab 0) (fC (.int 2)))) (au (az 4 [0,1,2] (f2 av (f2 av (f2 av (ab 0) (ab 1)) (ab 2)) (fC (.int 1)))) (au (aM 5 [1,2,3] (aj 2 [1,2] (bI (aa (ab 3) ae)) (eV 0 1) (fB (f2 bT (f2 av (ab 1) (ab 2)) (ab 3))) (ab 0))) (aF (bH (nK [1,3,4] (ab 5) (f2 oD (ab 3) (f2 av (f2 av (ab 2) (ab 0)) (f2 Dl.g9 (fC (.int 1)) (ab 1))))))))))
def cQ:List D->Option D:=bf m7 6
def j4:ar->Option Out:=(au (aM 4 [0] (aj 1 [] (aO (f2 av (ab 0) (fC (.int 2)))) (fG 0) (λ_=>some true) (fC (.int 0)))) (au (az 5 [0,1,2] (f2 av (f2 av (f2 av (ab 0) (ab 1)) (ab 2)) (fC (.int 0)))) (au (c8 [0,1,2] (aO (ah 3 cQ (aa (ab 0) (aa (ab 1) (aa (ab 2) ae))))) (k3 6) (au (An 4 [0,3,5,6] (ab 6) (bu xf (aa (f2 av (ab 3) (ab 6)) (aa (f2 av (f2 av (f2 av (ab 0) (fC (.int 2))) (ab 6)) (fC (.int 2))) (aa (ab 5) ae))))) (az 5 [4,5,6] (f2 Dl.g9 (ab 5) (f2 av (ab 4) (ab 6)))))) (aF (bu br (aa (ab 4) ae))))))
def b9:List D->Option D:=bf j4 7
def eM:ar->Option Out:=(au (aM 3 [0] (aj 1 [] (aO (f2 av (ab 0) (fC (.int 2)))) (fG 0) (λ_=>some true) (fC (.int 0)))) (au (c8 [0,1] (aX (aa (bu bK (aa (f2 av (ab 0) (ab 1)) ae)) ae)) (k3 4) (au (az 5 [0,1,2,4] (ah 4 b9 (aa (ab 0) (aa (ab 1) (aa (ab 4) (aa (ab 2) ae)))))) (aM 3 [3,5] (aj 2 [] (du (aa (ab 3) (aa (ab 5) ae))) (eV 0 1) (λ_=>some true) (f2 aK (ab 0) (ab 1)))))) (aF (bu br (aa (ab 3) ae)))))
def bo:List D->Option D:=bf eM 6
def we:ar->Option Out:=(aF (bu br (aa (bH (aj 1 [] (aO (f2 av (ab 0) (fC (.int 2)))) (fG 0) (λ_=>some true) (f2 av (ab 0) (fC (.int 2))))) ae)))
def gP:List D->Option D:=bf we 1
def rZ:ar->Option Out:=(aF (ah 3 lR (aa (ab 0) (aa (ab 1) (aa (ab 2) ae)))))
def cR:List D->Option D:=bf rZ 3
def nq:ar->Option Out:=(au (az 2 [0,1] (ah 3 bo (aa (ab 0) (aa (fC (.int 0)) (aa (ab 1) ae))))) (au (az 3 [0,2] (ah 3 bo (aa (ab 0) (aa (fC (.int 1)) (aa (ab 2) ae))))) (au (c8 [3] (bI (aa (ab 3) ae)) (iB 4 5) (eP (fB (f2 Di (ab 5) (f2 av (ab 2) (ab 4)))) (aF (aS (aa (ab 4) (aa (ab 5) ae)))) eF)) (aF (fC .none)))))
def dO:List D->Option D:=bf nq 6
def ug:ar->Option Out:=(au (aM 1 [] (dJ ae)) (au (az 2 [0] (ah 1 gP (aa (ab 0) ae))) (au (az 3 [0,2] (ah 2 dO (aa (ab 0) (aa (ab 2) ae)))) (au (HE (fB (f2 nX (ab 3) (fC .none))) (au (lj 1 [3] (ab 3)) (au (az 2 [2,3] (ah 3 cR (aa (ab 2) (aa (f2 av (ab 3) (fC (.int 0))) (aa (f2 av (ab 3) (fC (.int 1))) ae))))) (az 3 [0,2] (ah 2 dO (aa (ab 0) (aa (ab 2) ae)))))) Rf.turns) (aF (ab 1))))))
def td:List D->Option D:=bf ug 4
def p7:ar->Option Out:=(au (az 2 [0] (ah 1 gP (aa (ab 0) ae))) (au (c8 [1] (aO (ab 1)) (iB 3 4) (az 2 [2,3,4] (ah 3 cR (aa (ab 2) (aa (ab 3) (aa (ab 4) ae)))))) (aF (ab 2))))
def oZ:List D->Option D:=bf p7 5
def gu:ar->Option Out:=(au (iW (ah 1 cD (aa (ab 0) ae))) (aF (ah 3 bo (aa (ab 0) (aa (fC (.int 0)) (aa (ah 2 oZ (aa (ab 0) (aa (ah 1 td (aa (ab 0) ae)) ae))) ae))))))
def bE:List D->Option D:=bf gu 1
def je:ar->Option Out:=(au (eP (fB (f2 bT (ab 0) (bH (dJ ae)))) (aF (f2 e8 (fC (.int 7)) (ab 1))) eF) (aF (f2 aK (f2 av (ab 0) (f2 ku (ab 1) (bu bK (aa (ab 0) ae)))) (f2 e8 (fC (.int 6553)) (f2 l4 (ab 1) (bu bK (aa (ab 0) ae)))))))
def et:List D->Option D:=bf je 2
def ma:ar->Option Out:=(au (az 3 [0,1] (f2 ku (f2 aK (f2 e8 (f2 ku (ah 2 et (aa (ab 0) (aa (ab 1) ae))) (fC (.int 2147483563))) (fC (.int 69069))) (f2 e8 (fC (.int 104723)) (f2 aK (ab 1) (fC (.int 1))))) (fC (.int 2147483563)))) (au (az 3 [3] (f2 ku (f2 aK (f2 e8 (ab 3) (ab 3)) (f2 l4 (ab 3) (fC (.int 3)))) (fC (.int 2147483399)))) (aF (f2 ku (f2 l4 (f2 ku (f2 aK (f2 e8 (ab 3) (ab 3)) (f2 l4 (ab 3) (fC (.int 7)))) (fC (.int 2147483647))) (fC (.int 11))) (ab 2)))))
def ao:List D->Option D:=bf ma 4
def k8:ar->Option Out:=(au (aM 3 [] (dJ ae)) (au (c8 [2] (bI (aa (ab 2) ae)) (iB 4 5) (au (aM 6 [] (dJ ae)) (au (c8 [5] (bI (aa (ab 5) ae)) (iB 7 8) (Dz 6 [8] (ah 3 ao (aa (ab 0) (aa (f2 aK (f2 aK (ab 1) (f2 e8 (fC (.int 4)) (ab 4))) (ab 7)) (aa (f2 aK (bu bK (aa (ab 6) ae)) (fC (.int 1))) ae)))) (ab 8))) (lj 3 [6] (bu br (aa (ab 6) ae)))))) (aF (ab 3))))
def bO:List D->Option D:=bf k8 9
def eZ:ar->Option Out:=(au (eP (oz (fB (f2 Dk (ab 2) (fC (.int 3)))) (fB (f2 bT (ah 3 ao (aa (ab 0) (aa (f2 aK (ab 1) (fC (.int 64))) (aa (fC (.int 4)) ae)))) (fC (.int 0))))) (au (az 3 [0,1] (f2 aK (fC (.int 1)) (ah 3 ao (aa (ab 0) (aa (f2 aK (ab 1) (fC (.int 65))) (aa (fC (.int 2)) ae)))))) (au (az 4 [3] (aS (aa (aS (aa (ab 3) (aa (aS (aa (fC (.int 1)) (aa (fC (.int 0)) ae))) ae))) (aa (aS (aa (ab 3) (aa (aS (aa (fC (.int 0)) (aa (fC (.int 1)) ae))) ae))) ae)))) (aF (aS (aa (aS (aa (aS (aa (ab 3) (aa (aS (aa (fC (.int 0)) (aa (fC (.int 1)) ae))) ae))) (aa (aS (aa (ab 3) (aa (aS (aa (fC (.int 1)) (aa (fC (.int 0)) ae))) ae))) ae))) (aa (ab 4) (aa (aS (aa (aS (aa (fC (.int 0)) (aa (fC (.int 0)) (aa (fC (.int 2)) ae)))) (aa (aS (aa (fC (.int 0)) (aa (fC (.int 1)) (aa (fC (.int 2)) ae)))) (aa (aS (aa (fC (.int 1)) (aa (fC (.int 0)) (aa (fC (.int 2)) ae)))) (aa (aS (aa (fC (.int 1)) (aa (fC (.int 1)) (aa (fC (.int 2)) ae)))) ae))))) ae))))))) eF) (au (az 5 [0,1] (f2 aK (fC (.int 1)) (ah 3 ao (aa (ab 0) (aa (ab 1) (aa (fC (.int 3)) ae)))))) (au (az 6 [0,1] (f2 aK (fC (.int 1)) (ah 3 ao (aa (ab 0) (aa (f2 aK (ab 1) (fC (.int 1))) (aa (fC (.int 3)) ae)))))) (au (aM 7 [] (dJ ae)) (au (c8 [5,6] (aX (aa (f2 e8 (ab 5) (ab 6)) ae)) (k3 8) (eP (oz (fB (f2 Di (bu bK (aa (ab 7) ae)) (ab 2))) (fB (f2 Dk (ah 3 ao (aa (ab 0) (aa (f2 aK (f2 aK (ab 1) (fC (.int 2))) (ab 8)) (aa (fC (.int 4)) ae)))) (fC (.int 0))))) (lj 7 [0,1,6,8] (aS (aa (f2 l4 (ab 8) (ab 6)) (aa (f2 ku (ab 8) (ab 6)) (aa (f2 aK (fC (.int 1)) (ah 3 ao (aa (ab 0) (aa (f2 aK (f2 aK (ab 1) (fC (.int 12))) (ab 8)) (aa (fC (.int 2)) ae))))) ae))))) eF)) (au (az 9 [0,1,5,7] (ah 3 bO (aa (ab 0) (aa (f2 aK (ab 1) (fC (.int 24))) (aa (bH (aj 1 [7] (aX (aa (ab 5) ae)) (fG 0) (λ_=>some true) (bH (aj 1 [0] (aO (ab 1)) (fG 0) (fB (f2 bT (f2 av (ab 0) (fC (.int 0))) (ab 1))) (f2 av (ab 0) (fC (.int 1))))))) ae))))) (au (az 10 [0,1,6,7] (ah 3 bO (aa (ab 0) (aa (f2 aK (ab 1) (fC (.int 40))) (aa (bH (aj 1 [7] (aX (aa (ab 6) ae)) (fG 0) (λ_=>some true) (bH (aj 1 [0] (aO (ab 1)) (fG 0) (fB (f2 bT (f2 av (ab 0) (fC (.int 1))) (ab 1))) (f2 av (ab 0) (fC (.int 0))))))) ae))))) (au (az 11 [0,1,8,9] (bu br (aa (bH (aj 2 [0,1] (bI (aa (ab 9) ae)) (eV 0 1) (λ_=>some true) (aS (aa (ah 3 ao (aa (ab 2) (aa (f2 aK (f2 aK (ab 3) (fC (.int 56))) (ab 0)) (aa (fC (.int 4)) ae)))) (aa (ab 1) ae))))) ae))) (au (az 4 [0,1,8,10] (bu br (aa (bH (aj 2 [0,1] (bI (aa (ab 10) ae)) (eV 0 1) (λ_=>some true) (aS (aa (ah 3 ao (aa (ab 2) (aa (f2 aK (f2 aK (ab 3) (fC (.int 60))) (ab 0)) (aa (fC (.int 4)) ae)))) (aa (ab 1) ae))))) ae))) (aF (aS (aa (ab 11) (aa (ab 4) (aa (bu br (aa (ab 7) ae)) ae))))))))))))))
def cg:List D->Option D:=bf eZ 12
def sC:ar->Option Out:=(aF (bu Cn (aa (bH (aj 2 [2,3] (du (aa (f2 av (ab 0) (fC (.int 2))) (aa (ab 1) ae))) (eV 0 1) (fB (f2 bT (f2 av (ab 0) (ab 2)) (ab 3))) (ab 1))) ae)))
def dU:List D->Option D:=bf sC 4
def iV:ar->Option Out:=(aF (bu kq (aa (bH (aj 2 [0,1,2] (bI (aa (f2 av (ab 0) (ab 2)) ae)) (eV 0 1) (λ_=>some true) (f2 B3 (ah 4 dU (aa (ab 2) (aa (ab 3) (aa (ab 4) (aa (ab 0) ae))))) (f2 av (ab 1) (fC (.int 0)))))) ae)))
def cZ:List D->Option D:=bf iV 3
def nV:ar->Option Out:=(au (az 2 [0] (f2 av (ab 0) (fC (.int 2)))) (au (eP (bF (fB (ah 3 bL (aa (ab 1) (aa (bu bK (aa (ab 2) ae)) (aa (bu bK (aa (ab 2) ae)) ae)))))) (aF (fC (.bool false))) eF) (au (eP (bF (fB (bu kq (aa (bH (aj 2 [] (du (aa (ab 2) (aa (ab 1) ae))) (eV 0 1) (λ_=>some true) (ah 3 bA (aa (ab 1) (aa (fC (.int 0)) (aa (f2 av (ab 0) (fC (.int 2))) ae)))))) ae)))) (aF (fC (.bool false))) eF) (aF (kn (ah 3 cZ (aa (ab 0) (aa (ab 1) (aa (fC (.int 0)) ae)))) (ah 3 cZ (aa (ab 0) (aa (ab 1) (aa (fC (.int 1)) ae)))))))))
def gM:List D->Option D:=bf nV 3
def e9:ar->Option Out:=(au (iW (ah 1 cD (aa (ab 0) ae))) (eP (bF (fB (ah 2 gM (aa (ab 0) (aa (ab 1) ae))))) LU eF))
def dA:List D->Option D:=bf e9 2
abbrev qc:List Str:=["world","ways"]
def fK:ar->Option Out:=(au (az 1 [0] (f2 av (ab 0) (fC (.int 2)))) (aF (bH (qh [1] (aa (bu bK (aa (ab 1) ae)) ae) (aS (aa (f2 av (f2 av (ab 1) (ab 0)) (fC (.int 1))) (aa (f2 av (f2 av (ab 1) (ab 0)) (fC (.int 0))) ae)))))))
def bz:List D->Option D:=bf fK 2
def pK:ar->Option Out:=(au (iW (ah 1 cD (aa (ab 0) ae))) (au (aM 1 [0] (aj 1 [0] (aO (ah 1 bz (aa (ab 0) ae))) (fG 0) (λ_=>some true) (f2 av (f2 av (ab 1) (fC (.int 2))) (ab 0)))) (aF (aS (aa (f2 av (ab 0) (fC (.int 1))) (aa (f2 av (ab 0) (fC (.int 0))) (aa (bu br (aa (bH (aj 3 [] (aO (ab 1)) (Gp 0 1 2) (λ_=>some true) (aS (aa (ab 1) (aa (ab 0) (aa (ab 2) ae)))))) ae)) ae)))))))
def l7:List D->Option D:=bf pK 2
def gx:ar->Option Out:=(au (iW (ah 2 dA (aa (ab 0) (aa (ab 1) ae)))) (aF (bu br (aa (bH (aj 1 [1] (aO (ah 1 bz (aa (ab 0) ae))) (fG 0) (λ_=>some true) (f2 av (ab 1) (ab 0)))) ae))))
def gG:List D->Option D:=bf gx 2
def iq:ar->Option Out:=(au (az 4 [0,2,3] (f2 av (f2 av (f2 av (ab 0) (fC (.int 2))) (ab 3)) (ab 2))) (au (eP (fB (f2 Di (ah 4 dU (aa (ab 0) (aa (ab 1) (aa (ab 2) (aa (ab 4) ae))))) (f2 av (f2 av (f2 av (ab 0) (ab 2)) (ab 4)) (fC (.int 0))))) (aF (fC (.bool true))) eF) (au (az 5 [0,2,4] (ah 3 cQ (aa (ab 0) (aa (ab 2) (aa (ab 4) ae))))) (au (az 6 [3,5] (lH fO (ab 5) (zk (f2 aK (f2 oD (ab 5) (ab 3)) (fC (.int 1)))) lE)) (aF (bu Rf.F9 (aa (bH (aj 1 [1] (aO (ab 6)) (fG 0) (λ_=>some true) (f2 Dk (f2 av (ab 1) (ab 0)) (fC (.int 0))))) ae)))))))
def cO:List D->Option D:=bf iq 7
def lO:ar->Option Out:=(au (eP (fB (f2 bT (f2 av (ab 1) (ab 2)) (f2 av (f2 av (f2 av (ab 0) (fC (.int 2))) (ab 2)) (fC (.int 2))))) (aF (fC (.str "full"))) eF) (au (eP (bF (fB (ah 4 cO (aa (ab 0) (aa (ab 1) (aa (fC (.int 0)) (aa (ab 2) ae))))))) (aF (fC (.str "giver"))) eF) (au (eP (bF (fB (ah 4 cO (aa (ab 0) (aa (ab 1) (aa (fC (.int 1)) (aa (ab 2) ae))))))) (aF (fC (.str "taker"))) eF) (aF (fC .none)))))
def fJ:List D->Option D:=bf lO 3
def eR:ar->Option Out:=(au (c8 [1] (aX (aa (bu bK (aa (ab 1) ae)) ae)) (k3 2) (eP (fB (f2 rz (ah 3 fJ (aa (ab 0) (aa (ab 1) (aa (ab 2) ae)))) (fC .none))) (aF (ab 2)) eF)) (aF (fC .none)))
def eK:List D->Option D:=bf eR 3
def lQ:ar->Option Out:=(aF (f2 rz (ah 2 eK (aa (ab 0) (aa (ab 1) ae))) (fC .none)))
def lJ:List D->Option D:=bf lQ 2
def gD:ar->Option Out:=(au (az 1 [0] (ah 1 l7 (aa (ab 0) ae))) (aF (ah 2 gG (aa (ab 1) (aa (ah 1 bE (aa (ab 1) ae)) ae)))))
def cC:List D->Option D:=bf gD 2
def rY:ar->Option Out:=(aF (bu br (aa (bH (aj 2 [] (du (aa (ab 0) (aa (ab 1) ae))) (eV 0 1) (λ_=>some true) (bu CW (aa (ab 0) (aa (ab 1) ae))))) ae)))
def gW:List D->Option D:=bf rY 2
def mM:ar->Option Out:=(aF (bu br (aa (bH (aj 1 [3] (aO (ah 3 cQ (aa (ab 0) (aa (ab 1) (aa (ab 2) ae))))) (fG 0) (λ_=>some true) (f2 av (ab 1) (ab 0)))) ae)))
def fx:List D->Option D:=bf mM 4
def iG:ar->Option Out:=(au (az 5 [0,1,2,3,4] (ah 4 b9 (aa (ab 0) (aa (ab 1) (aa (ab 2) (aa (ah 2 gW (aa (ab 3) (aa (ab 4) ae))) ae)))))) (aF (f2 bT (ah 4 fx (aa (ab 0) (aa (ab 1) (aa (ab 2) (aa (ab 5) ae))))) (ah 4 fx (aa (ab 0) (aa (ab 1) (aa (ab 2) (aa (ab 3) ae))))))))
def dz:List D->Option D:=bf iG 6
def fw:ar->Option Out:=(au (iW (ah 2 dA (aa (ab 0) (aa (ab 1) ae)))) (iW (ah 2 dA (aa (ab 0) (aa (ab 2) ae)))))
def fu:List D->Option D:=bf fw 3
def ll:ar->Option Out:=(au (iW (ah 3 fu (aa (ab 0) (aa (ab 2) (aa (ab 3) ae))))) (au (iW (ah 1 fj (aa (ab 1) ae))) (aF (bu kq (aa (bH (aj 1 [0,1,2,3] (aX (aa (bu bK (aa (f2 av (ab 0) (ab 1)) ae)) ae)) (fG 0) (λ_=>some true) (ah 5 dz (aa (ab 1) (aa (ab 2) (aa (ab 0) (aa (ab 3) (aa (ab 4) ae)))))))) ae)))))
def bR:List D->Option D:=bf ll 4
def lg:ar->Option Out:=(au (iW (ah 3 fu (aa (ab 0) (aa (ab 2) (aa (ab 3) ae))))) (au (iW (ah 1 fj (aa (ab 1) ae))) (aF (ah 3 bo (aa (ab 0) (aa (ab 1) (aa (ah 2 gW (aa (ab 2) (aa (ab 3) ae))) ae)))))))
def aw:List D->Option D:=bf lg 4
def eX:ar->Option Out:=(au (az 1 [] (fC (.int 1))) (au (c8 [0] (aO (f2 av (ab 0) (fC (.int 2)))) (k3 2) (az 1 [1,2] (f2 e8 (ab 1) (f2 aK (f2 av (ab 2) (fC (.int 2))) (fC (.int 1)))))) (eP (fB (f2 Dk (ab 1) (fC (.int 3000)))) LU eF)))
def ir:List D->Option D:=bf eX 3
def eN:ar->Option Out:=(au (aM 1 [] (dJ (aa (aS ae) ae))) (au (c8 [0] (aO (ab 0)) (k3 2) (au (aM 3 [] (dJ ae)) (au (c8 [1] (aO (ab 1)) (k3 4) (tq 3 [2,4] (aj 1 [4] (aX (aa (f2 aK (f2 av (ab 2) (fC (.int 2))) (fC (.int 1))) ae)) (fG 0) (λ_=>some true) (f2 aK (ab 1) (aS (aa (ab 0) ae)))))) (az 1 [3] (ab 3))))) (aF (ab 1))))
def eQ:List D->Option D:=bf eN 5
def jm:ar->Option Out:=(au (iW (ah 1 cD (aa (ab 0) ae))) (au (iW (ah 1 ir (aa (ab 0) ae))) (aF (bH (aj 1 [0] (aO (ah 1 eQ (aa (f2 av (ab 0) (fC (.int 2))) ae))) (fG 0) (fB (ah 2 gM (aa (ab 1) (aa (ab 0) ae)))) (ab 0))))))
def jl:List D->Option D:=bf jm 1
def jf:ar->Option Out:=(aF (bH (aj 1 [0] (aO (ah 1 jl (aa (ab 0) ae))) (fG 0) (fB (ah 2 lJ (aa (ab 1) (aa (ab 0) ae)))) (ab 0))))
def eA:List D->Option D:=bf jf 1
open PySem L2 Dl PySem.Spec PyProof.Rows Ex
abbrev sy:List Str:=["_law_script","_law_world_here","_law_rows","_law_best","_law_some","_law_one","_law_other","_law_high","_law_low","_law_first","_law_second","_law_third","_law_side","_law_whole"]
def so:ar->Option Out:=(au (az 1 [0] (ah 3 cg (aa (ab 0) (aa (fC (.int 0)) (aa (fC (.int 4)) ae))))) (au (az 2 [1] (ah 1 eA (aa (ab 1) ae))) (au (az 3 [1] (aS (aa (ah 1 bE (aa (ab 1) ae)) (aa (ah 1 cC (aa (ab 1) ae)) ae)))) (au (aM 4 [0,2,3] (KW j5 (bH (aj 1 [0,2] (aX (aa (fC (.int 3)) ae)) (fG 0) (λ_=>some true) (f2 av (ab 2) (ah 3 ao (aa (ab 1) (aa (f2 aK (fC (.int 70)) (ab 0)) (aa (bu bK (aa (ab 2) ae)) ae))))))) (bH (dJ (aa (f2 av (ab 3) (fC (.int 0))) (aa (f2 av (ab 3) (fC (.int 1))) ae)))))) (au (c8 [4] (aO (bH (dq (ab 4)))) (k3 5) (c8 [4] (aO (bH (dq (ab 4)))) (k3 6) (au (az 7 [1,5,6] (ah 4 aw (aa (ab 1) (aa (fC (.int 0)) (aa (ab 5) (aa (ab 6) ae)))))) (au (az 8 [1,5,6] (ah 4 aw (aa (ab 1) (aa (fC (.int 1)) (aa (ab 5) (aa (ab 6) ae)))))) (au (eP (gp (fB (f2 rC (ab 7) (ab 2))) (gp (fB (f2 rC (ab 8) (ab 2))) (fB (f2 dv (ah 4 aw (aa (ab 1) (aa (fC (.int 0)) (aa (ab 6) (aa (ab 5) ae))))) (ab 7))))) (aF (fC (.bool false))) eF) (au (eP (fB (f2 dv (bH (aj 2 [] (du (aa (ab 7) (aa (ab 8) ae))) (eV 0 1) (λ_=>some true) (f2 aK (ab 0) (ab 1)))) (bH (aj 2 [] (du (aa (ab 5) (aa (ab 6) ae))) (eV 0 1) (λ_=>some true) (f2 aK (ab 0) (ab 1)))))) (aF (fC (.bool false))) eF) (au (eP (gp (fB (f2 dv (ah 4 aw (aa (ab 1) (aa (fC (.int 0)) (aa (ab 5) (aa (ab 8) ae))))) (ab 5))) (fB (f2 dv (ah 4 aw (aa (ab 1) (aa (fC (.int 1)) (aa (ab 5) (aa (ab 7) ae))))) (ab 5)))) (aF (fC (.bool false))) eF) (au (eP (gp (bF (fB (ah 4 bR (aa (ab 1) (aa (fC (.int 0)) (aa (ab 7) (aa (ab 5) ae))))))) (bF (fB (ah 4 bR (aa (ab 1) (aa (fC (.int 1)) (aa (ab 8) (aa (ab 5) ae)))))))) (aF (fC (.bool false))) eF) (eP (gp (fB (f2 dv (f2 bT (ab 7) (ab 5)) (ah 4 bR (aa (ab 1) (aa (fC (.int 0)) (aa (ab 5) (aa (ab 6) ae))))))) (fB (f2 dv (f2 bT (ab 8) (ab 5)) (ah 4 bR (aa (ab 1) (aa (fC (.int 1)) (aa (ab 5) (aa (ab 6) ae)))))))) (aF (fC (.bool false))) eF))))))))) (au (lM 9 10 11 [4] (lH fO (ab 4) lE (zk (fC (.int 3))))) (au (c8 [] (aX (aa (fC (.int 2)) ae)) (k3 12) (au (az 13 [1,9,10,11,12] (ah 4 aw (aa (ab 1) (aa (ab 12) (aa (ah 4 aw (aa (ab 1) (aa (ab 12) (aa (ab 9) (aa (ab 10) ae))))) (aa (ab 11) ae)))))) (au (eP (fB (f2 dv (ab 13) (ah 4 aw (aa (ab 1) (aa (ab 12) (aa (ab 9) (aa (ah 4 aw (aa (ab 1) (aa (ab 12) (aa (ab 10) (aa (ab 11) ae))))) ae))))))) (aF (fC (.bool false))) eF) (au (eP (gp (fB (f2 dv (ah 4 aw (aa (ab 1) (aa (ab 12) (aa (ab 9) (aa (ab 9) ae))))) (ab 9))) (fB (f2 dv (ah 4 aw (aa (ab 1) (aa (ab 12) (aa (f2 av (ab 3) (ab 12)) (aa (ab 9) ae))))) (f2 av (ab 3) (ab 12))))) (aF (fC (.bool false))) eF) (eP (fB (f2 dv (ah 4 aw (aa (ab 1) (aa (ab 12) (aa (f2 av (ab 3) (f2 Dl.g9 (fC (.int 1)) (ab 12))) (aa (ab 9) ae))))) (ab 9))) (aF (fC (.bool false))) eF))))) (aF (fC (.bool true))))))))))
def hC:List D->Option D:=bf so 14
end Pg
namespace Rg0
open PySem L2 Dl Rf PySem.Spec PyProof.Rows
abbrev FT:=List (Str×Nat×(List D->Option D))
def Ny(st:Stmt):List Str:=((aG st).names.filter λy=>y.2 == .local || y.2 == .cell).map (·.1)
structure Ok(P:Program)(w:World)(K:PySem.W.Frag)(mg:Str->Option Value)(base:Heap)(is:List (Str×Int))(j:Nat)(l:FT):Prop where
 of:pq P w K mg base j l
 oi:lN mg is
 ob:∀x∈dB,mg x=none
 os:∃h:Heap,K.In h/\h.Ns mainGlobals mg
section
variable {K:PySem.W.Frag}{st:Stmt}{l:FT}
def up(h:Ok P w K mg base is j l)(e:j<=k):Ok P w K mg base is k l:=⟨λx n m z=>(h.of x n m z).mono e,h.oi,h.ob,h.os⟩
def MP(h:Ok P w K mg base is j l)(F:F3 P w K mg base j x n m):Ok P w K mg base is j ((x,n,m)::l):=⟨MX F h.of,h.oi,h.ob,h.os⟩
def O5(h:Ok P w K mg base is j l)(D:iQ K x st ps):GP K mg x st ps:=let ⟨_,a,b⟩:=h.os;D.mg a b
def Pi(h:Ok P w K mg base is j l)(D:oe K x st ps):Lg K mg x st ps:=let ⟨_,a,b⟩:=h.os;D.mg a b
def fst(a:sc.kind=.function:=by kernel_rfl)(b:sc.isCoroutine=false:=by kernel_rfl)(c:sc.isGenerator=false:=by kernel_rfl)(d:N.Nodup:=by decide +kernel)(e:N.take P.length=P:=by kernel_rfl)(f:∀x∈P,sc.names.lookup x=some .local \/ sc.names.lookup x=some .cell:=by decide +kernel)(g:∀y∈sc.names,y.2≠.free:=by decide +kernel):eh N P sc:=⟨a,b,c,d,e,f,g⟩
abbrev Ow(st:Stmt)(n:Nat):List Str:=(Ny st).take n
def on(st:Stmt)(D:iQ K x st (Ow st n))(h:Ok P w K mg base is j l)(t:tW st (Ny st) ⟨l,is⟩ none=some g:=by kernel_rfl)(F:eh (Ny st) (Ow st n) (aG st):=by exact fst)(e:(Ow st n).length=n:=by kernel_rfl)(e':(Ny st).length=k:=by kernel_rfl):Ok P w K mg base is (j+1) ((x,n,bf g k)::l):=by
 have:=MP (up h (Nat.le_succ j)) (Ph (O5 h D) F h.ob h.of h.oi t);rw[e,e'] at this;exact this
def ol(st:Stmt)(N:List Str)(q:Str)(D:oe K x st (N.take n))(h:Ok P w K mg base is j l)(t:tW st N ⟨l,is⟩ (some q)=some g:=by kernel_rfl)(F:eh N (N.take n) (aG st):=by exact fst)(hq:x∈jc/\x++".<locals>."++"<lambda>"=q:=by decide +kernel)(e:(N.take n).length=n:=by kernel_rfl)(e':N.length=k:=by kernel_rfl):Ok P w K mg base is (j+4) ((x,n,bf g k)::l):=by
 have:=MP (up h (jU j 4)) (OZ (Pi h D) F h.ob h.of h.oi hq t);rw[e,e'] at this;exact this
end
end Rg0
namespace K32
open PySem L2 Dl PySem.Spec PyProof.Rows
open Pg Rg0
abbrev gi:List (Str×Int):=[("MOST_PLACES",4),("MOST",9),("MOST_LISTED",3000)]
abbrev Ls:FT:=("_law_world",3,cg)::("_law_orders",3,bO)::("_law_drawn",3,ao)::("_law_cell",2,et)::("all_rests",1,eA)::("all_plans",1,jl)::("within_limits",1,eQ)::("check_many",1,ir)::("together",4,aw)::("all_like",4,bR)::("check_both",3,fu)::("would_keep",5,dz)::("on_ways_of",4,fx)::("greater",2,gW)::("takers_best",1,cC)::("givers_best",1,bE)::("capped",2,oZ)::("steps",1,td)::("refused",2,dO)::("lowered",3,cR)::("limits",1,gP)::("chosen_by_all",3,bo)::("is_still",2,lJ)::("first_leaving",2,eK)::("why_kept",3,fJ)::("wants_more",4,cO)::("chosen_by",4,b9)::("ways_of",3,cQ)::("turned_plan",2,gG)::("turned",1,l7)::("turned_order",1,bz)::("replaced",3,lR)::("check_side",1,fj)::("check_number",2,fN)::("check_whole",3,gF)::("check_plan",2,dA)::("check_world",1,cD)::("is_plan",2,gM)::("keeps_amounts",3,cZ)::("through",4,dU)::("is_world",1,cI)::("liked_pairs",1,bD)::("are_parts",3,gm)::("is_way",3,jx)::("is_end",2,fI)::("are_likes",2,gf)::("is_long",3,bL)::("is_number",2,cJ)::("is_whole",3,bA)::[]
def Mf:Rf.tW (top 64) sy ⟨Ls,gi⟩ none=some so:=by kernel_rfl
structure K4(K:PySem.W.Frag)(mg:Str->Option Value):Prop where
 o:∀P w base,Ok P w K mg base gi 55 Ls
 c:GP K mg "law" (top 64) ["_law_script"]
def LL{P:Program}{w:World}{K:PySem.W.Frag}{mg:Str->Option Value}{fa:Addr}(D:K4 K mg)(hfa:mg "law"=some (.ref fa)):∃fd:FuncData,(∀ (s:Shared) (v:Value),BindsTo s fd ⟨[v],[]⟩ [("_law_script",v)])/\∀base:Heap,K.In base->base.Ns mainGlobals mg->pD P w K mg base LW 56 fa fd ["_law_script"] (Nj K 1 hC):=by
 let⟨f,fd,hm,F,hb⟩:=D.c.ex;rw[hfa] at hm;cases hm;refine⟨fd,λs v=>?_,λbase _ _=>Jc F (Rf.Pp (N:=sy)) λX hP hw hK hm' hb' C _ _ HF H=>by subst hP;subst hw;subst hK;subst hm';subst hb';have o:=D.o X.prog X.w X.base;exact Rf.Je C o.ob o.of o.oi Mf⟩;let⟨oc,od,kV,doc,pm,an,cdv,ct,osl,rfl,lk,hcd⟩:=F.ex;exact .of_eq rfl
def walk{l:PySem.W.OpenLaw}{q:Program}{loose:List Str}{XP:(Str->Option Value)->Heap->Prop}{YP:World->Heap->Prop}{d:DefRec}{K:Params->PySem.W.Frag}{ts:List Addr}(hn:l.most=some 63)(hdf:d.params.defaults=[])(hname:d.name="law")
  (hY:∀ (w:World) (h:Heap),YP w h->(K w.params).In h/\∀P∈ts,h.get? P=some (PySem.W.tabObj #[])) (ht:∀w:World,mT (K w.params) ts=true) (hI:∀ (w:World) {h:Heap}{mg:Str->Option Value},(K w.params).In h->h.Ns mainGlobals mg->K4 (K w.params) mg) (main:∀ns:List Int,ns.length<=63->hC [.list (ns.map PyData.int)]=some (.bool true)) :
  PySem.W.WalkO q loose XP YP l.row.toRowW d [] (λf vs=>PySem.call f vs) :=
 Fn (n:=63) (k:=56) (x:="_law_script") (CX:=λ_=>LW) (sp:=λw=>Nj (K w.params) 1 hC) hn (by decide) hdf ⟨rfl,by decide,by decide⟩ hY ht (λw mg fa h KX G hmg=>LL (hI w KX G) (by rw[<- hname];exact hmg)) (λ_ _ a ns hl hT hS=>zm hS hT (main ns hl)) λ_ _ _ _ _ z=>z
end K32
namespace Dl
open PySem L2 PySem.Spec PyProof.Rows
def uV:D->Prop|.none=>True|.bool _=>True|.int _=>True|.str x=>PyData.canLay0 (.str x)=true|_=>False
def ib(b:Nat):Nat->D->Prop
 | 0,d=>uV d
 | k+1,d=>uV d\/(∃xs,(d=.list xs\/d=.tuple xs)/\xs.length<=b/\∀x∈xs,ib b k x)
def ib.leaf(h:uV d):ib b k d:=by
 cases k with
 | zero=>exact h
 | succ k=>exact .inl h
def ib.tup(hb:xs.length<=b)(h:∀x∈xs,ib b k x):ib b (k+1) (.tuple xs):=.inr ⟨xs,.inr rfl,hb,h⟩
def ib.lst(hb:xs.length<=b)(h:∀x∈xs,ib b k x):ib b (k+1) (.list xs):=.inr ⟨xs,.inl rfl,hb,h⟩
def ib.of_tup(h:ib b k (.tuple xs)):∃j,k=j+1/\xs.length<=b/\∀x∈xs,ib b j x:=by
 cases k with
 | zero=>cases h
 | succ k =>
  rcases h with h|⟨ys,h|h,h1,h2⟩
  ·cases h
  ·cases h
  ·cases h;exact⟨k,rfl,h1,h2⟩
def ib.mono(hb:b<=b'):∀ {k k':Nat}{d:D},k<=k'->ib b k d->ib b' k' d
 | 0,k',d,_,h=>.leaf h
 | k+1,0,d,hk,h=>by lia
 | k+1,k'+1,d,hk,h=>by
  rcases h with h|⟨xs,h,h1,h2⟩
  ·exact .inl h
  ·exact .inr ⟨xs,h,yD h1 hb,λx hx=>(h2 x hx).mono hb (by lia)⟩
def BO{b:Nat}:∀ {xs:List D},(∀x∈xs,PyData.canLay0 x=true/\x.depth<=k)->PyData.canLayAll0 xs=true/\PyData.depthAll xs<=k
 | [],_=>⟨by simp[PyData.canLayAll0],by simp[PyData.depthAll]⟩
 | x::xs,h=>by
  let⟨a,c⟩:=BO (b:=b) (xs:=xs) λy hy=>h y (zC _ hy);let⟨a',c'⟩:=h x zE;exact⟨by simp[PyData.canLayAll0,a,a'],by simp[PyData.depthAll];lia⟩
def ib.lay:∀ {k:Nat}{d:D},ib b k d->PyData.canLay0 d=true/\d.depth<=k:=by
 have lf:∀ {k:Nat}{d:D},uV d->PyData.canLay0 d=true/\d.depth<=k:=λ{k d} h=>by
  cases d<;>simp?[uV] at h<;>first|exact⟨h,by simp[PyData.depth]⟩|exact⟨by simp[PyData.canLay0],by simp[PyData.depth]⟩
 intro k
 induction k with
 | zero=>exactλh=>lf h
 | succ k ih =>
  intro d h;rcases h with h|⟨xs,h,h1,h2⟩
  ·exact lf h
  ·let⟨a,c⟩:=BO (b:=b) (xs:=xs) λy hy=>ih (h2 y hy);rcases h with rfl|rfl
   ·exact⟨by simp[PyData.canLay0,a],by simp[PyData.depth];lia⟩
   ·exact⟨by simp[PyData.canLay0,a],by simp[PyData.depth];lia⟩
def ib.shaped(h:ib b k d)(hk:k<=64):SeqAt.shaped d=true:=by
 let⟨a,c⟩:=h.lay;simp[SeqAt.shaped,a];lia
def ib.noDict(h:ib b k d):∀kv,d≠.dict kv:=by
 rintro kv rfl;have:=h.lay.1;simp[PyData.canLay0] at this
def oq:D->Bool|.dict _=>false|_=>true
def ib.nd(h:ib b k d):oq d=true:=by
 cases d<;>first|rfl|exact absurd rfl (h.noDict _)
def OP:D->Bool|.int _=>true|.bool _=>true|_=>false
def OI:D->Bool|.bool _=>true|_=>false
def JD:D->Bool|.tuple _=>true|_=>false
def kI(h:oq d=true):tN (gz d) "int"=some (OP d):=by cases d<;>first|cases h;done|exact IF _ (by simp[gz])
def kB(h:oq d=true):tN (gz d) "bool"=some (OI d):=by cases d<;>first|cases h;done|exact F8 _ (by simp[gz])
def kT(h:oq d=true):tN (gz d) "tuple"=some (JD d):=by cases d<;>first|cases h;done|exact kit_tuple _ (by simp[gz])
def whole(a b:Int):D->Bool|.int i=>decide (a<=i)&&decide (i<=b)|_=>false
def sE:∀ {ds:List D},(∀d∈ds,∃ρ',tgt ρ d=some ρ'/\te ρ'=some (h d))->cF tgt (λ_=>some true) te ρ ds=some (ds.map h)
 | [],_=>rfl
 | d::ds,hh=>by
  let⟨ρ',h1,h2⟩:=hh d zE;have ih:=sE (ds:=ds) λy hy=>hh y (zC _ hy);unfold cF;rw[h1];simp[h2,ih]
def lY:∀ {ds:List D},(∀d∈ds,∃ρ',tgt ρ d=some ρ'/\tt ρ'=some (p d)/\(p d=true->te ρ'=some (h d)))->cF tgt tt te ρ ds=some ((ds.filter p).map h)
 | [],_=>rfl
 | d::ds,hh=>by
  let⟨ρ',h1,h2,h3⟩:=hh d zE;have ih:=lY (ds:=ds) λy hy=>hh y (zC _ hy);unfold cF;rw[h1];simp?[zA,h2];cases hp:p d with
  | true=>rw[yL rfl,h3 hp];simp[ih,jW,hp]
  | false=>simp[ih,jW,hp]
def nY:∀ds:List D,boolsOf (ds.map λd=>.bool (p d))=some (ds.map p)
 | []=>rfl
 | d::ds=>by simp[boolsOf,nY ds]
def mq(ds:List D):kq [.list (ds.map λd=>.bool (p d))]=some (.bool (ds.all p)):=by
 simp?[kq,oneOf,zA,nY,zB,List.all_map];rfl
def bh(h:ds.length<=4000):small ds=some ds:=yL (yD h (by decide))
def mf{ds:List D}{i:Nat}(h:i < ds.length):tG ds (i:Nat)=some (ds.getD i .none):=by
 have:=uy (xs:=ds) (j:=i) (v:=ds[i]) (List.getElem?_eq_some_iff.mpr ⟨h,rfl⟩);rw[this];simp[List.getD,h]
def Bo{ds:List D}(h:0 < ds.length):tG ds 0=some (ds.getD 0 .none):=mf (i:=0) h
def vt{ds:List D}(h:1 < ds.length):tG ds 1=some (ds.getD 1 .none):=mf (i:=1) h
def Jd{ds:List D}(h:2 < ds.length):tG ds 2=some (ds.getD 2 .none):=mf (i:=2) h
end Dl
namespace Wm
open PySem L2 Dl PySem.Spec PyProof.Rows Pg
variable {mo:Int}{i7 i5:Nat}{d0:D}{x7 x9 x10 x11 x12 x13 x6:Slot}
def w4(ha:fa ρ=some (.int a))(hb:fb ρ=some (.int i))(hc:fc ρ=some (.int b)):jr B3 B3 fa fb fc ρ=some (.bool (decide (a<=i)&&decide (i<=b))):=by
 simp?[jr,ha,hb,hc,zA,B3,uR,xH];by_cases h:a<=i<;>simp[h]
def lX(i j:Int):Dl.g9 (.int i) (.int j)=some (.int (i - j)):=rfl
def fV(i j:Int):Dl.aK (.int i) (.int j)=some (.int (i+j)):=rfl
def tL(d:D):Slot.all (.val d)=some d:=rfl
def uO(ds:List D):Slot.all (.own ds)=some (.list ds):=rfl
def BM:Slot.all .non=none:=rfl
def AN(d:D):Slot.frz (.val d)=some d:=rfl
def A8(ds:List D):Slot.frz (.own ds)=none:=rfl
def BS:Slot.frz .non=none:=rfl
local macro_rules|`(tactic| simp! [$ts,*])=>`(tactic| simp only[bf,au,eP,aF,eF,gp,oz,bF,fB,gB,Jq,ab,fC,kn,Ol,Of,MR,f1,f2,lX,fV,aa,ae,ah,bu,rh,bK,eJ,oneOf,gc,bw,tL,uO,BM,AN,A8,BS,aO,bH,br,aS,dJ,av,  zI,yU,xF,xO,zL,xK,List.replicate,xQ,yY,qG,kL,zA,Option.bind_none,zB,Option.map_none,Nat.reduceAdd,Nat.reduceSub,jD,Nat.sub_self,xH,reduceIte,$ts,*])
def fX(h:oq d=true)(a b:Int):bA [d,.int a,.int b]=some (.bool (whole a b d)):=by
 simp! [bA,pE,kI h,kB h];cases d<;>simp[OP,OI,whole];rw[w4 rfl rfl rfl]
def ja(h:oq d=true)(n:Int):cJ [d,.int n]=some (.bool (whole 0 (n - 1) d)):=by
 simp! [cJ,oA,fX h]
def long(a b:Int):D->Bool|.tuple ds=>decide (a<=(ds.length:Int))&&decide ((ds.length:Int)<=b)|_=>false
def dM(h:oq d=true)(a b:Int):bL [d,.int a,.int b]=some (.bool (long a b d)):=by
 simp! [bL,rX,kT h];cases d<;>simp[JD,long];rw[w4 rfl (i:=_) rfl rfl]
def ig:D->Int|.int i=>i|_=>0
def fF(h:whole a b d=true):d=.int (ig d)/\a<=ig d/\ig d<=b:=by
 cases d<;>simp[whole] at h;exact⟨rfl,h⟩
def lD:∀ {ls:List D},ls.all (whole a b)=true->ls=(ls.map ig).map PyData.int
 | [],_=>rfl
 | d::ls,h=>by
  rw[xS,zF] at h;rw[zI,zI,<- (fF h.1).1,<- lD h.2]
def il(n:Int):D->Bool|.tuple ls=>ls.all (whole 0 (n - 1))&&decide ((ls.map ig).Nodup)|_=>false
def eC(i j:Int):bT (.int i) (.int j)=some (.bool (decide (i=j))):=by
 simp[bT,KY,SeqAt.shaped,PyData.canLay0,PyData.depth,PyData.eqv];rfl
def Df(h:ls.all (whole a b)=true)(hl:ls.length<=100):f2 bT (f1 ke (λ_=>some (.tuple ls))) (bu bK (aa (λ_=>some (.tuple ls)) ae)) []=some (.bool (decide ((ls.map ig).Nodup))):=by
 have e:=lD h;have e1:ke (.tuple ls)=some (.int (many (ls.map ig))):=by
  simp?[ke,kg]
  conv=>lhs;rw[e]
  rw[cK,zA,yL];rw[zD];exact qZ (Nat.add_le_add_right hl 1) (by decide)
 simp! [e1,eC];have:=AF (ls.map ig);rw[zD] at this;simp?[<- this,Int.ofNat_inj,yK,PyData.bool.injEq]
def Ma(r:Dl.Env)(d:D):fG 0 (none::r) d=some (some d::r):=by simp[fG,isFree]
def bW{cs:List Nat}(hfi:fi ρ=some ds)(hl:ds.length<=4000)(hh:∀d∈ds,te (some d::cs.map λj=>(ρ[j]?).getD none)=some (h d)):aj 1 cs fi (fG 0) (λ_=>some true) te ρ=some (ds.map h):=by
 simp?[aj,hfi,zA,eE,List.replicate,xF,xO];rw[sE (h:=h) λd hd=>⟨_,Ma _ d,hh d hd⟩,zA,bh (by rw[zD];exact hl)]
def lW{cs:List Nat}(hfi:fi ρ=some ds)(hl:ds.length<=4000)
  (hp:∀d∈ds,tt (some d::cs.map λj=>(ρ[j]?).getD none)=some (p d)) (hh:∀d∈ds,p d=true->te (some d::cs.map λj=>(ρ[j]?).getD none)=some (h d)):aj 1 cs fi (fG 0) tt te ρ=some ((ds.filter p).map h):=by
 simp?[aj,hfi,zA,eE,List.replicate,xF,xO];rw[lY (p:=p) (h:=h) λd hd=>⟨_,Ma _ d,hp d hd,hh d hd⟩,zA,bh (by rw[zD];exact yD (xP _ _) hl)]
def xv(h:ib b k d)(hb:b<=100)(n:Int):gf [d,.int n]=some (.bool (il n d)):=by
 simp! [gf,n9,kT h.nd];cases d<;>try (simp[JD,il];done)
 rename_i ls;let⟨j,rfl,hl,hf⟩:=h.of_tup;have c:=bW (cs:=[1]) (fi:=aO (ab 0)) (te:=(ah 2 cJ (aa (ab 0) (aa (ab 1) ae)))) (h:=λx=>.bool (whole 0 (n - 1) x)) (ρ:=[some (.tuple ls),some (.int n)]) rfl (by lia) λx hx=>by simp! [ja (hf x hx).nd]
 simp! [JD,xY,yO,c,mq];cases e:ls.all (whole 0 (n - 1)) with
 | false=>simp[il,e]
 | true =>
  have:=Df e (yD hl hb);simp?[f2,f1,bu,aa,ae,zA,zB] at this;simp! [il,e,xY,yO,jK];simp?[bK,eJ,oneOf,zA,gc,zB] at this;simp! [this]
def placeOk(n:Int):D->Bool|.tuple ds=>decide (ds.length=2)&&(whole 0 9 (ds.getD 0 .none)&&il n (ds.getD 1 .none))|_=>false
def iO(g t:Int):D->Bool|.tuple ds=>decide (ds.length=3)&&(whole 0 (g - 1) (ds.getD 0 .none)&&(whole 0 (t - 1) (ds.getD 1 .none)&&whole 1 9 (ds.getD 2 .none)))|_=>false
def sZ(n:Nat)(ds:List D):long (n:Int) (n:Int) (.tuple ds)=decide (ds.length=n):=by
 simp?[long];by_cases h:ds.length=n
 ·simp[h]
 ·rw[zZ h,Bool.and_eq_false_iff,xB,xB];lia
def getD_mem{ds:List D}{i:Nat}(h:i < ds.length):ds.getD i .none∈ds:=by simp[List.getD,h]
def vc{b:Nat}(h:ib b k d)(hb:b<=100)(n:Int):fI [d,.int n]=some (.bool (placeOk n d)):=by
 simp! [fI,wa,dM h.nd];cases d<;>try (simp[long,placeOk];done)
 rename_i ds;let⟨j,rfl,hl,hf⟩:=h.of_tup;rw[show long 2 2 (.tuple ds)=decide (ds.length=2) from sZ 2 ds];by_cases e:ds.length=2
 ·have f0:=hf _ (getD_mem (i:=0) (by lia));have f1:=hf _ (getD_mem (i:=1) (by lia));simp! [e,jP,Bo (show 0 < ds.length by lia),vt (show 1 < ds.length by lia),fX f0.nd,xv f1 hb,placeOk];cases whole 0 9 (ds.getD 0 .none)<;>simp
 ·simp[e,placeOk]
def DV{b:Nat}(h:ib b k d)(hb:b<=100)(g t:Int):jx [d,.int g,.int t]=some (.bool (iO g t d)):=by
 simp! [jx,wX,dM h.nd];cases d<;>try (simp[long,iO];done)
 rename_i ds;let⟨j,rfl,hl,hf⟩:=h.of_tup;rw[show long 3 3 (.tuple ds)=decide (ds.length=3) from sZ 3 ds];by_cases e:ds.length=3
 ·have f0:=hf _ (getD_mem (i:=0) (by lia));have f1:=hf _ (getD_mem (i:=1) (by lia));have f2':=hf _ (getD_mem (i:=2) (by lia));simp! [e,jP,xY,yO,Bo (show 0 < ds.length by lia),vt (show 1 < ds.length by lia),Jd (show 2 < ds.length by lia),fX f2'.nd,ja f0.nd,ja f1.nd,iO];cases whole 0 (g - 1) (ds.getD 0 .none)<;>cases whole 0 (t - 1) (ds.getD 1 .none)<;>simp
 ·simp[e,iO]
def cG:D->List D|.tuple ds=>ds|_=>[]
def nj(d:D):Bool:=long 1 4 d
def iJ(g t w:D):Bool:=nj g&&(nj t&&((cG g).all (placeOk (cG t).length)&&((cG t).all (placeOk (cG g).length)&&(JD w&&(cG w).all (iO (cG g).length (cG t).length)))))
def jq(h:long a b d=true):d=.tuple (cG d):=by cases d<;>first|rfl|cases h
def oh(hg:ib b k g)(ht:ib b k t)(hw:ib b k w)(hb:b<=100):gm [g,t,w]=some (.bool (iJ g t w)):=by
 simp! [gm,oo,dM hg.nd,dM ht.nd,kT hw.nd];unfold iJ nj;cases e1:long 1 4 g with
 | false=>simp
 | true =>
  cases e2:long 1 4 t with
  | false=>simp
  | true =>
   obtain⟨gs,rfl⟩:∃gs,g=.tuple gs:=⟨_,jq e1⟩
   obtain⟨ts,rfl⟩:∃ts,t=.tuple ts:=⟨_,jq e2⟩
   let⟨j,rfl,hgl,hgf⟩:=hg.of_tup;let⟨j',hj,htl,htf⟩:=ht.of_tup;have c1:=bW (cs:=[1]) (fi:=aO (ab 0)) (te:=(ah 2 fI (aa (ab 0) (aa (bu bK (aa (ab 1) ae)) ae)))) (h:=λx=>.bool (placeOk ts.length x)) (ρ:=[some (.tuple gs),some (.tuple ts),some w]) rfl (by lia) λx hx=>by simp! [vc (hgf x hx) hb]
   have c2:=bW (cs:=[0]) (fi:=aO (ab 1)) (te:=(ah 2 fI (aa (ab 0) (aa (bu bK (aa (ab 1) ae)) ae)))) (h:=λx=>.bool (placeOk gs.length x)) (ρ:=[some (.tuple gs),some (.tuple ts),some w]) rfl (by lia) λx hx=>by simp! [vc (htf x hx) hb]
   simp! [xY,yO,c1,mq,cG,jK];cases e3:gs.all (placeOk ts.length) with
   | false=>simp
   | true =>
    simp! [xY,yO,c2,mq,jK];cases e4:ts.all (placeOk gs.length) with
    | false=>simp
    | true =>
     cases hT:JD w with
     | false=>simp! [xY,yO,kT hw.nd,hT,vY,kW]
     | true =>
     obtain⟨ws,rfl⟩:∃ws,w=.tuple ws:=by cases w<;>first|exact⟨_,rfl⟩|cases hT
     let⟨j2,hj2,hwl,hwf⟩:=hw.of_tup;have c3:=bW (cs:=[0,1]) (fi:=aO (ab 2)) (te:=(ah 3 jx (aa (ab 0) (aa (bu bK (aa (ab 1) ae)) (aa (bu bK (aa (ab 2) ae)) ae))))) (h:=λx=>.bool (iO gs.length ts.length x)) (ρ:=[some (.tuple gs),some (.tuple ts),some (.tuple ws)]) rfl (by lia) λx hx=>by simp! [DV (hwf x hx) hb]
     simp! [xY,yO,c3,mq,jK,kT hw.nd,JD]
def mW:∀ (a b:List Int),PyData.eqvAll (a.map PyData.int) (b.map PyData.int)=decide (a=b)
 | [],[]=>by simp[PyData.eqvAll]
 | [],_::_=>by simp[PyData.eqvAll]
 | _::_,[]=>by simp[PyData.eqvAll]
 | i::a,j::b=>by
  rw[zI,zI,PyData.eqvAll,mW a b];by_cases h:i=j
  ·subst h;simp[PyData.eqv]
  ·simp[PyData.eqv,h]
def yj:∀ (a b:List (List Int)),PyData.eqvAll (a.map af) (b.map af)=decide (a=b)
 | [],[]=>by simp[PyData.eqvAll]
 | [],_::_=>by simp[PyData.eqvAll]
 | _::_,[]=>by simp[PyData.eqvAll]
 | x::a,y::b=>by
  rw[zI,zI,PyData.eqvAll,yj a b,af,af,PyData.eqv,mW];by_cases h:x=y
  ·subst h;simp
  ·simp[h]
def kb(i:Int):ib b k (.int i):=.leaf trivial
def AW(h:r.length<=b):ib b (k+1) (af r):=.tup (by rw[zD];exact h) λx hx=>by
 let⟨i,_,rfl⟩:=List.mem_map.mp hx;exact kb i
def FG{b k:Nat}{a:List (List Int)}(h:a.length<=b)(hr:∀r∈a,r.length<=b):ib b (k+2) (.list (a.map af)):=.lst (by rw[zD];exact h) λx hx=>by
 let⟨r,hr',rfl⟩:=List.mem_map.mp hx;exact AW (hr r hr')
def Cz(a:List (List Int)):∃b,a.length<=b/\∀r∈a,r.length<=b:=by
 induction a with
 | nil=>exact⟨0,yM _,λr h=>by cases h⟩
 | cons x a ih =>
  let⟨b,h1,h2⟩:=ih;refine⟨b+1+x.length,by rw[zL];lia,λr hr=>?_⟩;rcases List.mem_cons.mp hr with rfl|hr
  ·lia
  ·have:=h2 r hr;lia
def n5(a:List (List Int)):SeqAt.shaped (.list (a.map af))=true:=by
 let⟨b,h1,h2⟩:=Cz a;exact (FG (b:=b) (k:=0) h1 h2).shaped (by decide)
def CQ(a b:List (List Int)):bT (.list (a.map af)) (.list (b.map af))=some (.bool (decide (a=b))):=by
 simp?[bT,KY,n5,jO,xH,PyData.eqv,yj,zB]
def jt(d:D):List Int:=(cG ((cG d).getD 1 .none)).map ig
def iD(h:placeOk n d=true):∃a ds,d=.tuple ds/\ds.length=2/\ds.getD 0 .none=.int a/\0<=a/\a<=9/\ds.getD 1 .none=.tuple ((jt d).map PyData.int)/\(jt d).Nodup/\∀j∈jt d,0<=j/\j<=n - 1:=by
 cases d<;>simp?[placeOk] at h<;>try cases h
 rename_i ds;simp?[zF,zJ] at h;let⟨h1,h2,h3⟩:=h;have e:jt (.tuple ds)=(cG (ds.getD 1 .none)).map ig:=rfl;rw[e];generalize hl:ds.getD 1 .none=l at h3;cases l<;>simp?[il] at h3<;>try cases h3
 rename_i ls;simp?[zF,zJ] at h3;let⟨w1,w2,w3⟩:=fF h2;refine⟨_,ds,rfl,h1,w1,w2,w3,?_,h3.2,λj hj=>?_⟩
 ·rw[show cG (.tuple ls)=ls from rfl,<- lD h3.1];exact hl
 ·let⟨x,hx,rfl⟩:=List.mem_map.mp hj;exact (fF (List.all_eq_true.mp h3.1 x hx)).2
def lV(k:Nat):List D->List (List Int)|[]=>[]|p::ps=>(jt p).map (λj=>[((k:Nat):Int),j])++lV (k+1) ps
def pI:∀ (n:Nat) {l:List Int},l.Nodup->(∀j∈l,0<=j/\j<=(n:Int) - 1)->l.length<=n:=by
 intro n l hn h;have hs:l.map Int.toNat ⊆ List.range n:=λx hx=>by
  let⟨j,hj,rfl⟩:=List.mem_map.mp hx;have:=h j hj;exact List.mem_range.mpr (by lia)
 have hnd:(l.map Int.toNat).Nodup:=by
  refine List.pairwise_map.mpr (hn.imp_of_mem λ{x y} hx hy hne e=>hne ?_);have:=h x hx;have:=h y hy;lia
 have:=List.Nodup.length_le_of_subset hnd hs;simpa using this
def tU{n:Nat}:∀ {ps:List D}{k:Nat},(∀p∈ps,placeOk n p=true)->(lV k ps).length<=ps.length * n
 | [],k,_=>xV _
 | p::ps,k,h=>by
  let⟨_,_,_,_,_,_,_,_,hn,hr⟩:=iD (h p zE);have h1:=pI n hn hr;have h2:=tU (ps:=ps) (k:=k+1) λq hq=>h q (zC _ hq);rw[lV,zN,zD,zL,Nat.succ_mul];lia
def pB:ar->Option Out:=tq 1 [2,3] (aj 1 [2] (aO (f2 av (ab 3) (fC (.int 1)))) (fG 0) (λ_=>some true) (aS (aa (ab 1) (aa (ab 0) ae))))
def KZ{n:Nat}{p:D}{acc:List D}(hp:placeOk n p=true)(hn:n<=100)(ha:acc.length<=1000):pB [.val x,.own acc,.val (.int (k:Nat)),.val p]=some (.nx [.val x,.own (acc++((jt p).map λj=>af [((k:Nat):Int),j])),.val (.int (k:Nat)),.val p]):=by
 let⟨a,ds,rfl,hl,_,_,_,h1,hnd,hr⟩:=iD hp;have hb:=pI n hnd hr;generalize jt (.tuple ds)=ls at *;have c:=bW (cs:=[2]) (fi:=aO (f2 av (ab 3) (fC (.int 1)))) (te:=aS (aa (ab 1) (aa (ab 0) ae))) (h:=λy=>.tuple [.int (k:Nat),y]) (ρ:=[some x,none,some (.int (k:Nat)),some (.tuple ds)]) (ds:=ls.map PyData.int)
  (by simp! [vt (show 1 < ds.length by lia),h1]) (by rw[zD];lia) λy hy=>by
   simp! [bh (show [PyData.int (k:Nat),y].length<=4000 by simp)]
 have hh:hand [2,3] 0 [Slot.val x,.own acc,.val (.int (k:Nat)),.val (.tuple ds)]=[Slot.val x,.own acc,.val (.int (k:Nat)),.val (.tuple ds)]:=rfl;simp?[pB,tq,hh,bS,zI,yU,Slot.frz,c,zA,nR,yY,xQ];rw[yL]
 ·simp?[zB,yW,yV,zM];rfl
 ·simp?[zD];exact yD (show acc.length+ls.length<=1100 by lia) (by decide)
def sQ{n:Nat}(hn:n<=100):∀ {ps:List D}{k:Nat}{acc:List D}{s2 s3:Slot},(∀p∈ps,placeOk n p=true)->acc.length+ps.length * n<=1000 ->
  ∃t2 t3,cH (iB 2 3) pB (bB k ps) [.val x,.own acc,s2,s3]=some (.nx [.val x,.own (acc++(lV k ps).map af),t2,t3])
 | [],k,acc,s2,s3,_,_=>⟨s2,s3,by simp[bB,cH,lV]⟩
 | p::ps,k,acc,s2,s3,h,hl=>by
  have hp:=h p zE;let⟨_,_,_,_,_,_,_,_,hnd,hr⟩:=iD hp;have hb:=pI n hnd hr;rw[zL,Nat.succ_mul] at hl;let⟨t2,t3,e⟩:=sQ hn (x:=x) (ps:=ps) (k:=k+1) (acc:=acc++((jt p).map λj=>af [((k:Nat):Int),j])) (s2:=.val (.int (k:Nat))) (s3:=.val p) (λq hq=>h q (zC _ hq)) (by rw[zN,zD];lia);refine⟨t2,t3,?_⟩;have hs:iB 2 3 [.val x,.own acc,s2,s3] (.tuple [.int (k:Nat),p])=some [.val x,.own acc,.val (.int (k:Nat)),.val p]:=rfl;simp?[bB,cH,hs,zA,KZ hp hn (show acc.length<=1000 by lia)];rw[e];simp[lV,zM,wV]
def AQ{n:Nat}{ps:List D}(h:∀p∈ps,placeOk n p=true)(hn:n<=100)(hl:ps.length * n<=1000):bD [.tuple ps]=some (.list ((lV 0 ps).map af)):=by
 let⟨t2,t3,e⟩:=sQ hn (x:=.tuple ps) (k:=0) (acc:=[]) (s2:=.non) (s3:=.non) h (by simpa using hl);have hs:aM 1 [] (dJ ae) [Slot.val (.tuple ps),.non,.non,.non]=some (.nx [.val (.tuple ps),.own [],.non,.non]):=rfl;have hh:hand [0] 0 [Slot.val (.tuple ps),.own [],.non,.non]=[Slot.val (.tuple ps),.own [],.non,.non]:=rfl;have hf:bI (aa (ab 0) ae) (bS [Slot.val (.tuple ps),.own [],.non,.non])=some (bB 0 ps):=rfl;simp! [bD,k9,hs,c8,hh,hf];rw[show tq 1 [2,3] (aj 1 [2] (aO (f2 av (ab 3) (fC (.int 1)))) (fG 0) (λ_=>some true) (aS (aa (ab 1) (aa (ab 0) ae))))=pB from rfl,e];simp! []
def eS(d:D):List Int:=[ig ((cG d).getD 0 .none),ig ((cG d).getD 1 .none)]
def zv(h:iO g t d=true):∃ds c,d=.tuple ds/\ds.length=3/\ds.getD 0 .none=.int (ig (ds.getD 0 .none))/\ds.getD 1 .none=.int (ig (ds.getD 1 .none))/\ds.getD 2 .none=.int c/\1<=c/\c<=9 /\
  0<=ig (ds.getD 0 .none)/\ig (ds.getD 0 .none)<=g - 1/\0<=ig (ds.getD 1 .none)/\ig (ds.getD 1 .none)<=t - 1:=by
 cases d<;>simp?[iO] at h<;>try cases h
 rename_i ds;simp?[zF,zJ] at h;let⟨h1,h2,h3,h4⟩:=h;have a:=fF h2;have b:=fF h3;have c:=fF h4;exact⟨ds,_,rfl,h1,a.1,b.1,c.1,c.2.1,c.2.2,a.2.1,a.2.2,b.2.1,b.2.2⟩
def yr(g t w:D):Bool:=decide ((cG w).map eS=lF (lV 0 (cG g)))&&decide ((cG w).map eS=lF ((lV 0 (cG t)).map List.reverse))
def NF(d:D):Bool:=long 3 3 d&&(iJ ((cG d).getD 0 .none) ((cG d).getD 1 .none) ((cG d).getD 2 .none)&&yr ((cG d).getD 0 .none) ((cG d).getD 1 .none) ((cG d).getD 2 .none))
def kh:∀ {ps:List D}{k:Nat},∀r∈lV k ps,∃i j,r=[i,j]
 | [],k,r,h=>by cases h
 | p::ps,k,r,h=>by
  rcases List.mem_append.mp h with h|h
  ·let⟨j,_,rfl⟩:=List.mem_map.mp h;exact⟨_,_,rfl⟩
  ·exact kh r h
def my(h:∀r∈a,∃i j,r=[i,j])(hl:a.length < 64):f9 [.list (a.map af)]=some ((lF a).map af):=by
 have:∀ns∈a,ns≠[]:=λns hn=>by let⟨i,j,rfl⟩:=h ns hn;exact List.cons_ne_nil _ _
 simp?[f9,oneOf,zA,lb this,yL hl]
def rV:∀ {a:List (List Int)},(∀r∈a,∃i j,r=[i,j])->cF (eV 0 1) (λ_=>some true) (aS (aa (ab 1) (aa (ab 0) ae))) [none,none] (a.map af)=some ((a.map List.reverse).map af)
 | [],_=>rfl
 | r::a,h=>by
  let⟨i,j,rfl⟩:=h r zE;have ih:=rV (a:=a) λq hq=>h q (zC _ hq);have e:eV 0 1 [none,none] (af [i,j])=some [some (.int i),some (.int j)]:=rfl;rw[zI,cF,e,zA,zA,yL rfl,ih];simp! [bh (show [PyData.int j,.int i].length<=4000 by simp)];rfl
def C9{a:List (List Int)}(hfi:fi ρ=some (a.map af))(hl:a.length<=4000)(h:∀r∈a,∃i j,r=[i,j]):aj 2 [] fi (eV 0 1) (λ_=>some true) (aS (aa (ab 1) (aa (ab 0) ae))) ρ=some ((a.map List.reverse).map af):=by
 simp?[aj,hfi,zA,eE,List.replicate,xF,xO,yU];rw[rV h,zA,bh (by rw[zD,zD];exact hl)]
def xw(h:iJ g t w=true):∃gs ts ws,g=.tuple gs/\t=.tuple ts/\w=.tuple ws/\1<=gs.length/\gs.length<=4/\1<=ts.length/\ts.length<=4/\(∀p∈gs,placeOk ts.length p=true)/\(∀p∈ts,placeOk gs.length p=true)/\∀x∈ws,iO gs.length ts.length x=true:=by
 simp?[iJ,nj,zF] at h;let⟨h1,h2,h3,h4,h5,h6⟩:=h;cases w<;>try cases h5
 rename_i ws;have e1:=jq h1;have e2:=jq h2;generalize cG g=gs at *;generalize cG t=ts at *;subst e1 e2;simp?[long,zF,zJ] at h1 h2;exact⟨gs,ts,ws,rfl,rfl,rfl,by lia,by lia,by lia,by lia,List.all_eq_true.mp h3,List.all_eq_true.mp h4,List.all_eq_true.mp h6⟩
def zr{b:Nat}(h:ib b k d)(hb:b<=100):cI [d]=some (.bool (NF d)):=by
 unfold NF;cases e1:long 3 3 d with
 | false=>simp! [cI,iH,dM h.nd,e1,Bool.not_false,vY]
 | true =>
  obtain⟨ds,rfl⟩:∃ds,d=.tuple ds:=⟨_,jq e1⟩
  let⟨j,rfl,hl,hf⟩:=h.of_tup;rw[show long 3 3 (.tuple ds)=decide (ds.length=3) from sZ 3 ds,zJ] at e1;have f0:=hf _ (getD_mem (i:=0) (by lia));have f1:=hf _ (getD_mem (i:=1) (by lia));have f2':=hf _ (getD_mem (i:=2) (by lia));have i0:=Bo (show 0 < ds.length by lia);have i1:=vt (show 1 < ds.length by lia);have i2:=Jd (show 2 < ds.length by lia);have el:bL [.tuple ds,.int 3,.int 3]=some (.bool true):=by rw[dM rfl,show long 3 3 (.tuple ds)=decide (ds.length=3) from sZ 3 ds,yA e1]
  rw[show cG (.tuple ds)=ds from rfl,jK];generalize hg:ds.getD 0 .none=g at *;generalize ht:ds.getD 1 .none=t at *;generalize hw:ds.getD 2 .none=w at *;cases e2:iJ g t w with
  | false=>simp! [cI,iH,el,i0,i1,i2,oh f0 f1 f2' hb,e2,Bool.not_false,xY,vY]
  | true =>
   let⟨gs,ts,ws,rfl,rfl,rfl,g1,g4,t1,t4,hG,hT,hW⟩:=xw e2;have hfw:=f2'.of_tup;let⟨j2,_,hwl,_⟩:=hfw;have q1:=tU (k:=0) hG;have q2:=tU (k:=0) hT;have m1:gs.length * ts.length<=16:=vW g4 t4;have m2:ts.length * gs.length<=16:=vW t4 g4;have l1:=AQ hG (by lia) (by lia);have l2:=AQ hT (by lia) (by lia);have s1:=my (a:=lV 0 gs) kh (by lia);have s2:=my (a:=(lV 0 ts).map List.reverse) (λr hr=>by
    let⟨q,hq,rfl⟩:=List.mem_map.mp hr;let⟨i,j,rfl⟩:=kh q hq;exact⟨j,i,rfl⟩) (by rw[zD];lia)
   have c1:aj 1 [] (aO (f2 av (ab 0) (fC (.int 2)))) (fG 0) (λ_=>some true) (aS (aa (f2 av (ab 0) (fC (.int 0))) (aa (f2 av (ab 0) (fC (.int 1))) ae))) [some (.tuple ds),none,none,none]=some ((ws.map eS).map af):=by
    rw[bW (ds:=ws) (h:=λx=>af (eS x)) (by simp! [i2]) (by lia) λx hx=>?_,zM]
    ·rfl
    ·let⟨vs,c,rfl,v3,v0,v1,_⟩:=zv (hW x hx);simp! [Bo (show 0 < vs.length by lia),vt (show 1 < vs.length by lia),bh (show [vs.getD 0 PyData.none,vs.getD 1 .none].length<=4000 by simp),af,eS,cG];rw[<- v0,<- v1]
   have c2:∀x y z,aj 2 [] (aO (ah 1 bD (aa (f2 av (ab 0) (fC (.int 1))) ae))) (eV 0 1) (λ_=>some true) (aS (aa (ab 1) (aa (ab 0) ae))) [some (.tuple ds),x,y,z]=some (((lV 0 ts).map List.reverse).map af):=λx y z =>
    C9 (by simp! [i1,l2]) (by lia) kh
   have st1:aM 1 [0] (aj 1 [] (aO (f2 av (ab 0) (fC (.int 2)))) (fG 0) (λ_=>some true) (aS (aa (f2 av (ab 0) (fC (.int 0))) (aa (f2 av (ab 0) (fC (.int 1))) ae)))) [Slot.val (.tuple ds),.non,.non,.non]=some (.nx [.val (.tuple ds),.own ((ws.map eS).map af),.non,.non]):=by
    have hh:hand [0] 0 [Slot.val (.tuple ds),.non,.non,.non]=[Slot.val (.tuple ds),.non,.non,.non]:=rfl;simp?[aM,hh,bS,zI,yU,Slot.frz,c1,zB,yW,yV]
   have st2:aM 2 [0] (rh f9 (aa (ah 1 bD (aa (f2 av (ab 0) (fC (.int 0))) ae)) ae)) [Slot.val (.tuple ds),.own ((ws.map eS).map af),.non,.non]=some (.nx [.val (.tuple ds),.own ((ws.map eS).map af),.own ((lF (lV 0 gs)).map af),.non]):=by
    have hh:hand [0] 0 [Slot.val (.tuple ds),.own ((ws.map eS).map af),.non,.non]=[Slot.val (.tuple ds),.own ((ws.map eS).map af),.non,.non]:=rfl;simp?[aM,hh,bS,zI,yU,Slot.frz];simp! [i0,l1,s1,yW,yV]
   have st3:aM 3 [0] (rh f9 (aa (bH (aj 2 [] (aO (ah 1 bD (aa (f2 av (ab 0) (fC (.int 1))) ae))) (eV 0 1) (λ_=>some true) (aS (aa (ab 1) (aa (ab 0) ae))))) ae)) [Slot.val (.tuple ds),.own ((ws.map eS).map af),.own ((lF (lV 0 gs)).map af),.non]
      =some (.nx [.val (.tuple ds),.own ((ws.map eS).map af),.own ((lF (lV 0 gs)).map af),.own ((lF ((lV 0 ts).map List.reverse)).map af)]):=by
    have hh:hand [0] 0 [Slot.val (.tuple ds),.own ((ws.map eS).map af),.own ((lF (lV 0 gs)).map af),.non]=[Slot.val (.tuple ds),.own ((ws.map eS).map af),.own ((lF (lV 0 gs)).map af),.non]:=rfl;simp?[aM,hh,bS,zI,yU,Slot.frz];simp! [c2,s2,yW,yV]
   simp! [cI,iH,el,i0,i1,i2,oh f0 f1 f2' hb,e2,xY,yO,st1,st2,st3,CQ,yr,cG,jK];by_cases hq:List.map eS ws=lF (lV 0 gs)<;>simp[hq]
def AE(xs:List D):PyData.eqvAll xs []=xs.isEmpty:=by cases xs<;>simp[PyData.eqvAll]
def Ax:SeqAt.shaped (.list [])=true:=by simp[SeqAt.shaped,PyData.canLay0,PyData.canLayAll0,PyData.depth,PyData.depthAll]
def E7(h:∀x∈xs,ib b k x)(hk:k<=60):bT (.list xs) (.list [])=some (.bool xs.isEmpty):=by
 have hs:SeqAt.shaped (.list xs)=true:=(ib.lst (b:=max b xs.length) (k:=k) (Nat.le_max_right _ _) λx hx=>(h x hx).mono (Nat.le_max_left _ _) (yM _)).shaped (by lia);simp?[bT,KY,hs,Ax,jO,xH,PyData.eqv,AE,zB]
def gY:small []=some []:=rfl
def Do(xs:List α)(k:Nat):cut xs none (some (k:Int))=xs.take k:=by
 simp?[cut,HT.vp,HT.Bi,List.drop_zero,Nat.sub_zero];rw[List.take_eq_take_iff];lia
def xp(xs:List α)(k:Nat):cut xs (some (k:Int)) none=xs.drop k:=by
 simp?[cut,HT.vp,HT.Bi];rw[kJ (by rw[qH];lia)];by_cases h:k<=xs.length
 ·rw[Nat.min_eq_left h]
 ·rw[Nat.min_eq_right (by lia),List.drop_of_length_le (yM _),List.drop_of_length_le (by lia)]
def gg(b:Bool):gB (.bool b)=some b:=rfl
def Gs(a b:List Int):PyData.eqv (af a) (af b)=decide (a=b):=by rw[af,af,PyData.eqv,mW]
def GF(P:List (List Int))(a:List Int):((P.map af).any λz=>PyData.eqv z (af a))=decide (a∈P):=by
 rw[wN]
 induction P with
 | nil=>simp
 | cons r P ih =>
  rw[vD,ih,Function.comp_apply,Gs];by_cases h:r=a
  ·subst h;simp
  ·simp[h,jM h]
def As(a b:D):small [a,b]=some [a,b]:=rfl
def KE(ρ:Dl.Env):aX (aa (fC (.int 2)) ae) ρ=some [.int 0,.int 1]:=by
 have:CS 2=true:=by decide
 simp! [aX,i4,this];rfl
def mH:∀ (ρ:ar) (k:Nat),hand [] k ρ=ρ
 | [],k=>rfl
 | s::r,k=>by simp[hand,mH r]
def oY:∀ {ps:List D}{k:Nat}{i j:Int},[i,j]∈lV k ps↔∃m p,ps[m]?=some p/\i=((k+m:Nat):Int)/\j∈jt p
 | [],k,i,j=>by simp[lV]
 | p::ps,k,i,j=>by
  rw[lV,List.mem_append,oY (ps:=ps)];constructor
  ·rintro (h|⟨m,q,h1,h2,h3⟩)
   ·let⟨y,hy,e⟩:=List.mem_map.mp h;injection e with e1 e2
    injection e2 with e2 _
    exact⟨0,p,rfl,by simpa using e1.symm,e2 ▸ hy⟩
   ·exact⟨m+1,q,by simpa using h1,by rw[h2];congr 1;lia,h3⟩
  ·rintro⟨m,q,h1,h2,h3⟩;cases m with
   | zero =>
    simp at h1;subst h1;exact .inl (List.mem_map.mpr ⟨j,h3,by rw[h2];rfl⟩)
   | succ m=>exact .inr ⟨m,q,by simpa using h1,by rw[h2];congr 1;lia,h3⟩
def rS:∀ {ps:List D}{k:Nat},(∀p∈ps,(jt p).Nodup)->(lV k ps).Nodup
 | [],k,_=>List.nodup_nil
 | p::ps,k,h=>by
  rw[lV,wU];refine⟨List.pairwise_map.mpr ((h p zE).imp λhne e=>hne ?_),rS λq hq=>h q (zC _ hq),?_⟩;rotate_left
  ·injection e with _ e2
   injection e2
  ·rintro a ha b hb rfl;let⟨y,hy,rfl⟩:=List.mem_map.mp ha;let⟨m,q,h1,h2,h3⟩:=oY.mp hb;lia
def MK(h:Dl.lexLt a b=true):lexLe a b=true:=by
 unfold lexLe;cases e:Dl.lexLt b a with
 | false=>rfl
 | true=>have:=dX h e;rw[fR] at this;cases this
def dC(h:um i j):Dl.e8 (.int i) (.int j)=some (.int (i * j)):=by
 simp?[Dl.e8,uR,yL h,Option.some_or]
def gT(h:0 < j):Dl.ku (.int i) (.int j)=some (.int (i % j)):=yL h
def jb(h:0 < j/\j < 1073741824):Dl.l4 (.int i) (.int j)=some (.int (i / j)):=yL h
def gn(i j:Int):Dl.Dk (.int i) (.int j)=some (.bool (decide (j < i))):=rfl
def mL(i j:Int):Dl.Di (.int i) (.int j)=some (.bool (decide (i < j))):=rfl
def lq(h:-(2 ^ 64) < i/\i < 2 ^ 64):um i j:=.inl h
def KJ(h:-(2 ^ 64) < j/\j < 2 ^ 64):um i j:=.inr h
def xq(i:Int):Dl.pX (.int i)=true:=rfl
def xy(i:List D):Dl.pX (.tuple i)=false:=rfl
def cS(ns:List Int):D:=.list (ns.map PyData.int)
def Lv(k:Int)(hl:ns.length<=63):∃c,et [cS ns,.int k]=some (.int c):=by
 have heq:bT (.list (ns.map PyData.int)) (.list [])=some (.bool ns.isEmpty):=by
  have:=E7 (b:=0) (k:=0) (xs:=ns.map PyData.int) (λx hx=>by let⟨i,_,rfl⟩:=List.mem_map.mp hx;exact kb i) (by decide);rw[this];cases ns<;>rfl
 by_cases hn:ns=[]
 ·subst hn;refine⟨7 * k,?_⟩;rw[yU,List.isEmpty_nil] at heq;simp! [et,je,cS,gY,heq,List.isEmpty_nil,dC (lq (i:=7) (j:=k) (by decide))]
 ·have hpos:(0:Int) < (ns.length:Int):=by have:=List.length_pos_iff.mpr hn;lia
  have he:ns.isEmpty=false:=by cases ns<;>first|rfl|exact absurd rfl hn
  let⟨j,hj⟩:=vI (vT k (show (ns.length:Int)≠0 by lia));have hlt:=kY k hpos;have hx:tG (ns.map PyData.int) (k % (ns.length:Int))=some (.int (ns.getD j 0)):=by
   rw[hj];have:j < (ns.map PyData.int).length:=by rw[zD];lia
   rw[mf this,zG,zO,zG];rw[zK (by lia)];rfl
  refine⟨ns.getD j 0+6553 * (k / (ns.length:Int)),?_⟩;simp! [et,je,cS,gY,heq,he,yO,zD,gT hpos,hx,jb (i:=k) (j:=(ns.length:Int)) ⟨hpos,by lia⟩,dC (lq (i:=6553) (j:=k / (ns.length:Int)) (by decide))]
def GK(k many:Int)(hl:ns.length<=63)(hm:0 < many):∃r,ao [cS ns,.int k,.int many]=some (.int r)/\0<=r/\r < many:=by
 let⟨c,hc⟩:=Lv k hl;have m1:∀i:Int,Dl.ku (.int i) (.int 2147483563)=some (.int (i % 2147483563)):=λi=>gT (by decide);have m2:∀i:Int,Dl.ku (.int i) (.int 2147483399)=some (.int (i % 2147483399)):=λi=>gT (by decide);have m3:∀i:Int,Dl.ku (.int i) (.int 2147483647)=some (.int (i % 2147483647)):=λi=>gT (by decide);have d1:∀i:Int,Dl.l4 (.int i) (.int 3)=some (.int (i / 3)):=λi=>jb (by decide);have d2:∀i:Int,Dl.l4 (.int i) (.int 7)=some (.int (i / 7)):=λi=>jb (by decide);have d3:∀i:Int,Dl.l4 (.int i) (.int 11)=some (.int (i / 11)):=λi=>jb (by decide);have u1:∀i:Int,Dl.e8 (.int i) (.int 69069)=some (.int (i * 69069)):=λi=>dC (KJ (by decide));have u2:∀i:Int,Dl.e8 (.int 104723) (.int i)=some (.int (104723 * i)):=λi=>dC (lq (by decide));have b1:∀x:Int,Dl.e8 (.int (x % 2147483563)) (.int (x % 2147483563))=some (.int (x % 2147483563 * (x % 2147483563))):=λx=>dC (lq (by
  have:=vT x (show (2147483563:Int)≠0 by decide);have:=kY x (show (0:Int) < 2147483563 by decide);lia))
 have b2:∀x:Int,Dl.e8 (.int (x % 2147483399)) (.int (x % 2147483399))=some (.int (x % 2147483399 * (x % 2147483399))):=λx=>dC (lq (by
  have:=vT x (show (2147483399:Int)≠0 by decide);have:=kY x (show (0:Int) < 2147483399 by decide);lia))
 suffices h:∃x,ao [cS ns,.int k,.int many]=some (.int (x % many)) by
  let⟨x,hx⟩:=h;exact⟨_,hx,vT x (show many≠0 by lia),kY x hm⟩
 ·refine⟨(((((c % 2147483563 * 69069+104723 * (k+1)) % 2147483563) * ((c % 2147483563 * 69069+104723 * (k+1)) % 2147483563)+((c % 2147483563 * 69069+104723 * (k+1)) % 2147483563) / 3) % 2147483399) * ((((c % 2147483563 * 69069+104723 * (k+1)) % 2147483563) * ((c % 2147483563 * 69069+104723 * (k+1)) % 2147483563)+((c % 2147483563 * 69069+104723 * (k+1)) % 2147483563) / 3) % 2147483399)+((((c % 2147483563 * 69069+104723 * (k+1)) % 2147483563) * ((c % 2147483563 * 69069+104723 * (k+1)) % 2147483563)+((c % 2147483563 * 69069+104723 * (k+1)) % 2147483563) / 3) % 2147483399) / 7) % 2147483647 / 11,?_⟩;simp! [ao,ma,hc,m1,u1,u2,Dl.az,xq,yW,yV,b1,d1,m2,b2,d2,m3,d3,gT (j:=many) hm]
def dr(ns:List Int)(k many:Int):Int:=ig ((ao [cS ns,.int k,.int many]).getD .none)
def eO(k many:Int)(hl:ns.length<=63)(hm:0 < many):ao [cS ns,.int k,.int many]=some (.int (dr ns k many))/\0<=dr ns k many/\dr ns k many < many:=by
 let⟨r,h1,h2⟩:=GK k many hl hm;have:dr ns k many=r:=by simp?[dr,h1,qG,ig]
 rw[this];exact⟨h1,h2⟩
def xi(k many:Int)(hl:ns.length<=63)(hm:0 < many):ao [cS ns,.int k,.int many]=some (.int (dr ns k many)):=(eO k many hl hm).1
def M8(k many:Int)(hl:ns.length<=63)(hm:0 < many):0<=dr ns k many:=(eO k many hl hm).2.1
def Nd(k many:Int)(hl:ns.length<=63)(hm:0 < many):dr ns k many < many:=(eO k many hl hm).2.2
def b8(r:List Int):D:=.list (r.map PyData.int)
def insI(ds:List Int)(k:Int)(d:Int):List Int:=let j:=if k < 0 then (k+(ds.length:Int)).toNat else min k.toNat ds.length;ds.take j++d::ds.drop j
def Cs(ds:List Int)(k d:Int):BV (ds.map PyData.int) k (.int d)=(insI ds k d).map PyData.int:=by
 simp?[BV,insI,zD,jA,zI,List.map_take,List.map_drop]
def insI_perm(ds:List Int)(k d:Int):(insI ds k d).Perm (d::ds):=by
 simp?[insI];refine List.perm_middle.trans ?_;rw[List.take_append_drop]
def oB:ar->Option Out:=(Dz 6 [8] (ah 3 ao (aa (ab 0) (aa (f2 aK (f2 aK (ab 1) (f2 e8 (fC (.int 4)) (ab 4))) (ab 7)) (aa (f2 aK (bu bK (aa (ab 6) ae)) (fC (.int 1))) ae)))) (ab 8))
def zu{s3:Slot}(hl:ns.length<=63)(ho:order.length<=1000) :
  oB [.val (cS ns),.val (.int a),s2,s3,.val (.int k),s5,.own (order.map PyData.int),.val (.int j),.val (.int x)] =
   some (.nx [.val (cS ns),.val (.int a),s2,s3,.val (.int k),s5,.own ((insI order (dr ns (a+4 * k+j) ((order.length:Int)+1)) x).map PyData.int),.val (.int j),.val (.int x)]):=by
 have h4:Dl.e8 (.int 4) (.int k)=some (.int (4 * k)):=dC (lq (by decide));have hd:=eO (ns:=ns) (a+4 * k+j) ((order.length:Int)+1) hl (by lia);have hr:CS (dr ns (a+4 * k+j) ((order.length:Int)+1))=true:=by
  simp?[CS,zF,zJ];lia
 have hz:(order.map PyData.int).length < sizeLine:=by rw[zD];exact qZ ho (by decide)
 simp! [oB,Dz,k5,xq,nR,zD,h4,hd.1];rw[zD] at hz;simp?[hr,hz,jO,xH,zB,Cs,yW,yV]
def DM{s3:Slot}(hl:ns.length<=63):∀ {row order:List Int}{j:Nat}{s7 s8:Slot},order.length+row.length<=1000 ->
  ∃ (o:List Int) (t7 t8:Slot),cH (iB 7 8) oB (bB j (row.map PyData.int)) [.val (cS ns),.val (.int a),s2,s3,.val (.int k),s5,.own (order.map PyData.int),s7,s8] =
   some (.nx [.val (cS ns),.val (.int a),s2,s3,.val (.int k),s5,.own (o.map PyData.int),t7,t8])/\o.Perm (row++order)
 | [],order,j,s7,s8,_=>⟨order,s7,s8,by simp[bB,cH],by simp⟩
 | x::row,order,j,s7,s8,h=>by
  rw[zL] at h;have hp:=insI_perm order (dr ns (a+4 * k+((j:Nat):Int)) ((order.length:Int)+1)) x;have hlen:=hp.length_eq;rw[zL] at hlen;let⟨o,t7,t8,e,p⟩:=DM (s2:=s2) (s3:=s3) (s5:=s5) (a:=a) (k:=k) hl (row:=row) (order:=insI order (dr ns (a+4 * k+((j:Nat):Int)) ((order.length:Int)+1)) x) (j:=j+1) (s7:=.val (.int (j:Nat))) (s8:=.val (.int x)) (by lia);refine⟨o,t7,t8,?_,p.trans ?_⟩
  ·have hs:iB 7 8 [.val (cS ns),.val (.int a),s2,s3,.val (.int k),s5,.own (order.map PyData.int),s7,s8] (.tuple [.int (j:Nat),.int x])=some [.val (cS ns),.val (.int a),s2,s3,.val (.int k),s5,.own (order.map PyData.int),.val (.int (j:Nat)),.val (.int x)]:=rfl;simp?[zI,bB,cH,hs,zA,zu hl (show order.length<=1000 by lia),e]
  ·refine (hp.append_left row).trans ?_;rw[xF];exact List.perm_middle
def qq:List (List Int)->List (List Int)->Prop|[],[]=>True|a::l,b::m=>a.Perm b/\qq l m|_,_=>False
def rB:ar->Option Out:=(au (aM 6 [] (dJ ae)) (au (c8 [5] (bI (aa (ab 5) ae)) (iB 7 8) oB) (lj 3 [6] (bu br (aa (ab 6) ae)))))
def Lq(hl:ns.length<=63)(hr:row.length<=1000)(hf:found.length<=1000) :
  ∃ (o:List Int) (t7 t8:Slot),rB [.val (cS ns),.val (.int a),.val rows,.own found,.val (.int k),.val (b8 row),s6,s7,s8]=some (.nx [.val (cS ns),.val (.int a),.val rows,.own (found++[af o]),.val (.int k),.val (b8 row),.val (b8 o),t7,t8])/\o.Perm row:=by
 let⟨o,t7,t8,e,p⟩:=DM (s2:=.val rows) (s3:=.own found) (s5:=.val (b8 row)) (a:=a) (k:=k) hl (row:=row) (order:=[]) (j:=0) (s7:=s7) (s8:=s8) (by simpa using hr);rw[qF] at p;refine⟨o,t7,t8,?_,p⟩;have h1:aM 6 [] (dJ ae) [.val (cS ns),.val (.int a),.val rows,.own found,.val (.int k),.val (b8 row),s6,s7,s8]=some (.nx [.val (cS ns),.val (.int a),.val rows,.own found,.val (.int k),.val (b8 row),.own [],s7,s8]):=by
  simp?[aM,mH,dJ,ae,zA,gY,zB,yW,yV]
 have h2:c8 [5] (bI (aa (ab 5) ae)) (iB 7 8) oB [.val (cS ns),.val (.int a),.val rows,.own found,.val (.int k),.val (b8 row),.own [],s7,s8]=some (.nx [.val (cS ns),.val (.int a),.val rows,.own found,.val (.int k),.val (b8 row),.own (o.map PyData.int),t7,t8]):=by
  have hh:hand [5] 0 [Slot.val (cS ns),.val (.int a),.val rows,.own found,.val (.int k),.val (b8 row),.own [],s7,s8]=[Slot.val (cS ns),.val (.int a),.val rows,.own found,.val (.int k),.val (b8 row),.own [],s7,s8]:=rfl;have hq:bI (aa (ab 5) ae) (bS [Slot.val (cS ns),.val (.int a),.val rows,.own found,.val (.int k),.val (b8 row),.own [],s7,s8])=some (bB 0 (row.map PyData.int)):=by
   simp?[bS,zI,yU];simp! [bI,b8]
  simp?[c8,hh,hq,zA];exact e
 have h3:lj 3 [6] (bu br (aa (ab 6) ae)) [.val (cS ns),.val (.int a),.val rows,.own found,.val (.int k),.val (b8 row),.own (o.map PyData.int),t7,t8]=some (.nx [.val (cS ns),.val (.int a),.val rows,.own (found++[af o]),.val (.int k),.val (b8 row),.val (b8 o),t7,t8]):=by
  have hz:found.length < sizeLine:=qZ hf (by decide);have hh:hand [6] 0 [Slot.val (cS ns),.val (.int a),.val rows,.own found,.val (.int k),.val (b8 row),.own (o.map PyData.int),t7,t8]=[Slot.val (cS ns),.val (.int a),.val rows,.own found,.val (.int k),.val (b8 row),.val (b8 o),t7,t8]:=rfl;simp?[lj,k5,hh,bS,zI,yU];simp! [xy,yO,nR,hz,yW,yV,b8,af]
 simp?[rB,au,h1,h2,h3,zA]
def DY{rws:D}(hl:ns.length<=63):∀ {rows:List (List Int)}{found:List D}{k:Nat}{s4 s5 s6 s7 s8:Slot},(∀r∈rows,r.length<=1000)->found.length+rows.length<=1000 ->
  ∃ (os:List (List Int)) (t4 t5 t6 t7 t8:Slot),cH (iB 4 5) rB (bB k (rows.map b8)) [.val (cS ns),.val (.int a),.val rws,.own found,s4,s5,s6,s7,s8]=some (.nx [.val (cS ns),.val (.int a),.val rws,.own (found++os.map af),t4,t5,t6,t7,t8])/\qq os rows
 | [],found,k,s4,s5,s6,s7,s8,_,_=>⟨[],s4,s5,s6,s7,s8,by simp[bB,cH],trivial⟩
 | r::rows,found,k,s4,s5,s6,s7,s8,h,hf=>by
  rw[zL] at hf;let⟨o,u7,u8,e1,p1⟩:=Lq (rows:=rws) (a:=a) (k:=((k:Nat):Int)) (s6:=s6) (s7:=s7) (s8:=s8) hl (h r zE) (show found.length<=1000 by lia);let⟨os,t4,t5,t6,t7,t8,e,p⟩:=DY hl (rws:=rws) (a:=a) (rows:=rows) (found:=found++[af o]) (k:=k+1) (s4:=.val (.int (k:Nat))) (s5:=.val (b8 r)) (s6:=.val (b8 o)) (s7:=u7) (s8:=u8) (λr' hr'=>h r' (zC _ hr')) (by rw[zN,xC];lia);refine⟨o::os,t4,t5,t6,t7,t8,?_,p1,p⟩;have hs:iB 4 5 [.val (cS ns),.val (.int a),.val rws,.own found,s4,s5,s6,s7,s8] (.tuple [.int (k:Nat),b8 r])=some [.val (cS ns),.val (.int a),.val rws,.own found,.val (.int (k:Nat)),.val (b8 r),s6,s7,s8]:=rfl;simp?[zI,bB,cH,hs,zA,e1];rw[e,List.append_assoc];rfl
def xn(hl:ns.length<=63)(hr:∀r∈rows,r.length<=1000)(hn:rows.length<=1000):∃os:List (List Int),bO [cS ns,.int a,.list (rows.map b8)]=some (.list (os.map af))/\qq os rows:=by
 let⟨os,t4,t5,t6,t7,t8,e,p⟩:=DY hl (rws:=.list (rows.map b8)) (a:=a) (rows:=rows) (found:=[]) (k:=0) (s4:=.non) (s5:=.non) (s6:=.non) (s7:=.non) (s8:=.non) hr (by simpa using hn);refine⟨os,?_,p⟩;rw[xO] at e;have h1:aM 3 [] (dJ ae) [.val (cS ns),.val (.int a),.val (.list (rows.map b8)),.non,.non,.non,.non,.non,.non]=some (.nx [.val (cS ns),.val (.int a),.val (.list (rows.map b8)),.own [],.non,.non,.non,.non,.non]):=by
  simp?[aM,mH,dJ,ae,zA,gY,zB,yW,yV]
 have h2:c8 [2] (bI (aa (ab 2) ae)) (iB 4 5) rB [.val (cS ns),.val (.int a),.val (.list (rows.map b8)),.own [],.non,.non,.non,.non,.non]=some (.nx [.val (cS ns),.val (.int a),.val (.list (rows.map b8)),.own (os.map af),t4,t5,t6,t7,t8]):=by
  have hh:hand [2] 0 [Slot.val (cS ns),.val (.int a),.val (.list (rows.map b8)),.own [],.non,.non,.non,.non,.non]=[Slot.val (cS ns),.val (.int a),.val (.list (rows.map b8)),.own [],.non,.non,.non,.non,.non]:=rfl;have hq:bI (aa (ab 2) ae) (bS [Slot.val (cS ns),.val (.int a),.val (.list (rows.map b8)),.own [],.non,.non,.non,.non,.non])=some (bB 0 (rows.map b8)):=by
   simp?[bS,zI,yU];simp! [bI]
  simp?[c8,hh,hq,zA];exact e
 unfold rB oB at h2;simp! [bO,k8,h1,h2]
abbrev Pl:=Int×List Int
abbrev Wy:=Int×Int×Int
def bG(p:Pl):D:=.tuple [.int p.1,af p.2]
def aq(w:Wy):D:=.tuple [.int w.1,.int w.2.1,.int w.2.2]
def ax(G T:List Pl)(W:List Wy):D:=.tuple [.tuple (G.map bG),.tuple (T.map bG),.tuple (W.map aq)]
def Bf(W:List Wy)(i:Int):List Int:=(W.filter λw=>decide (w.1=i)).map λw=>w.2.1
def ofT(W:List Wy)(j:Int):List Int:=(W.filter λw=>decide (w.2.1=j)).map λw=>w.1
abbrev rK(W:List Wy):Prop:=W.Pairwise λa b=>a.1 < b.1\/(a.1=b.1/\a.2.1 < b.2.1)
structure Wd(G T:List Pl)(W:List Wy):Prop where
 g1:1<=G.length
 g4:G.length<=4
 t1:1<=T.length
 t4:T.length<=4
 ga:∀p∈G,0<=p.1/\p.1<=9
 ta:∀p∈T,0<=p.1/\p.1<=9
 gl:∀ (i:Nat) (p:Pl),G[i]?=some p->p.2.Perm (Bf W i)
 tl:∀ (j:Nat) (p:Pl),T[j]?=some p->p.2.Perm (ofT W j)
 wr:∀w∈W,(0<=w.1/\w.1 < G.length)/\(0<=w.2.1/\w.2.1 < T.length)/\1<=w.2.2/\w.2.2<=9
 wp:rK W
 wl:W.length<=16
def ua:j∈Bf W i↔[i,j]∈W.map λw=>[w.1,w.2.1]:=by
 simp?[Bf,List.mem_map,List.mem_filter,zJ,kU,and_true];constructor
 ·rintro⟨w,⟨h1,h2⟩,h3⟩;exact⟨w,h1,h2,h3⟩
 ·rintro⟨w,h1,h2,h3⟩;exact⟨w,⟨h1,h2⟩,h3⟩
def uj:i∈ofT W j↔[i,j]∈W.map λw=>[w.1,w.2.1]:=by
 simp?[ofT,List.mem_map,List.mem_filter,zJ,kU,and_true];constructor
 ·rintro⟨w,⟨h1,h2⟩,h3⟩;exact⟨w,h1,h3,h2⟩
 ·rintro⟨w,h1,h2,h3⟩;exact⟨w,⟨h1,h3⟩,h2⟩
def m5(h:rK W)(i:Int):(Bf W i).Nodup:=by
 unfold Bf List.Nodup;rw[jE,List.pairwise_filter];refine h.imp λhab ha hb=>?_;rw[zJ] at ha hb;lia
def nU(h:rK W)(i:Int):(ofT W i).Nodup:=by
 unfold ofT List.Nodup;rw[jE,List.pairwise_filter];refine h.imp λhab ha hb=>?_;rw[zJ] at ha hb;lia
def fE(p:Pl):jt (bG p)=p.2:=by
 show ((p.2.map PyData.int).map ig)=p.2;rw[zM];exact List.map_id _
def n8(ha:0<=p.1/\p.1<=9)(hn:p.2.Nodup)(hr:∀j∈p.2,0<=j/\j < n):placeOk n (bG p)=true:=by
 have e:(p.2.map PyData.int).map ig=p.2:=fE p;have e2:(p.2.map PyData.int).all (whole 0 (n - 1))=true:=by
  rw[xG];intro x hx;let⟨j,hj,rfl⟩:=List.mem_map.mp hx;have:=hr j hj;simp?[whole,zF,zJ];lia
 simp?[placeOk,bG,af,zL,xK,vZ,wA,il,whole,e,e2,ha.1,ha.2,hn,jP,Bool.and_self]
def Co(h:(0<=w.1/\w.1 < g)/\(0<=w.2.1/\w.2.1 < t)/\1<=w.2.2/\w.2.2<=9):iO g t (aq w)=true:=by
 let⟨⟨a,b⟩,⟨c,d⟩,e,f⟩:=h;have b':w.1<=g - 1:=by lia
 have d':w.2.1<=t - 1:=by lia
 simp?[iO,aq,zL,xK,vZ,wA,whole,a,b',c,d',e,f,jP,Bool.and_self]
def OD(h:a < c\/(a=c/\b < d)):Dl.lexLt [a,b] [c,d]=true:=by
 show HT.lexLt [a,b] [c,d]=true;rw[HT.da];by_cases e:a=c
 ·rw[yL e,HT.da,yN (by lia)];simp?[zJ];lia
 ·rw[yN e];simp?[zJ];lia
def Wd.glike(h:Wd G T W)(hp:p∈G):∃i:Nat,i < G.length/\p.2.Perm (Bf W i):=by
 let⟨i,hi,e⟩:=qQ hp;exact⟨i,hi,h.gl i p (by rw[zK hi,e])⟩
def Wd.tlike(h:Wd G T W)(hp:p∈T):∃i:Nat,i < T.length/\p.2.Perm (ofT W i):=by
 let⟨i,hi,e⟩:=qQ hp;exact⟨i,hi,h.tl i p (by rw[zK hi,e])⟩
def Wd.gok(h:Wd G T W):(G.map bG).all (placeOk T.length)=true:=by
 rw[xG];intro x hx;let⟨p,hp,rfl⟩:=List.mem_map.mp hx;let⟨i,hi,q⟩:=h.glike hp;refine n8 (h.ga p hp) (q.nodup_iff.mpr (m5 h.wp _)) λj hj=>?_;let⟨w,hw,e⟩:=List.mem_map.mp (ua.mp (q.mem_iff.mp hj));injection e with e1 e2
 injection e2 with e2 _
 have:=(h.wr w hw).2.1;rw[e2] at this;exact this
def Wd.tok(h:Wd G T W):(T.map bG).all (placeOk G.length)=true:=by
 rw[xG];intro x hx;let⟨p,hp,rfl⟩:=List.mem_map.mp hx;let⟨i,hi,q⟩:=h.tlike hp;refine n8 (h.ta p hp) (q.nodup_iff.mpr (nU h.wp _)) λj hj=>?_;let⟨w,hw,e⟩:=List.mem_map.mp (uj.mp (q.mem_iff.mp hj));injection e with e1 e2
 have:=(h.wr w hw).1;rw[e1] at this;exact this
def pe{W:List Wy}{p:Wy->Bool}(h:W.length<=16):(W.filter p).length<=16:=yD (xP _ _) h
def AS(h:p.2.length<=16):ib 16 2 (bG p):=.tup (by simp?[zL,xK];lia) λx hx=>by
 rcases List.mem_cons.mp hx with rfl|hx
 ·exact kb _
 ·rw[yJ] at hx;subst hx;exact AW h
def HA(w:Wy):ib 16 1 (aq w):=.tup (by simp?[zL,xK];lia) λx hx=>by
 simp?[zQ,yF,xU] at hx;rcases hx with rfl|rfl|rfl<;>exact kb _
def Wd.fit(h:Wd G T W):ib 16 4 (ax G T W):=by
 refine .tup (by simp?[zL,xK];lia) λx hx=>?_;simp?[zQ,yF,xU] at hx;have h4:=h.g4;have h5:=h.t4;have h6:=h.wl;rcases hx with rfl|rfl|rfl
 ·refine .tup (by rw[zD];lia) λx hx=>?_;let⟨p,hp,rfl⟩:=List.mem_map.mp hx;let⟨i,hi,q⟩:=h.glike hp;exact AS (by rw[q.length_eq,Bf,zD];exact pe h.wl)
 ·refine .tup (by rw[zD];lia) λx hx=>?_;let⟨p,hp,rfl⟩:=List.mem_map.mp hx;let⟨i,hi,q⟩:=h.tlike hp;exact AS (by rw[q.length_eq,ofT,zD];exact pe h.wl)
 ·refine .tup (by rw[zD];lia) λx hx=>?_;let⟨p,hp,rfl⟩:=List.mem_map.mp hx;exact (HA p).mono (yM _) (by decide)
def Cm(h0:0<=c)(h9:c<=9):Wd [(c,[0,1]),(c,[1,0])] [(c,[1,0]),(c,[0,1])] [(0,0,2),(0,1,2),(1,0,2),(1,1,2)] where
 g1:=by simp?[zL,xK];lia
 g4:=by simp?[zL,xK];lia
 t1:=by simp?[zL,xK];lia
 t4:=by simp?[zL,xK];lia
 ga:=by intro p hp;simp?[zQ,yF,xU] at hp;rcases hp with rfl|rfl<;>exact⟨h0,h9⟩
 ta:=by intro p hp;simp?[zQ,yF,xU] at hp;rcases hp with rfl|rfl<;>exact⟨h0,h9⟩
 gl:=by
  intro i p hp
  match i,hp with
  | 0,hp=>injection hp with hp;subst hp;exact (show List.Perm ([0,1]:List Int) (Bf [(0,0,2),(0,1,2),(1,0,2),(1,1,2)] ((0:Nat):Int)) by decide)
  | 1,hp=>injection hp with hp;subst hp;exact (show List.Perm ([1,0]:List Int) (Bf [(0,0,2),(0,1,2),(1,0,2),(1,1,2)] ((1:Nat):Int)) by decide)
 tl:=by
  intro i p hp
  match i,hp with
  | 0,hp=>injection hp with hp;subst hp;exact (show List.Perm ([1,0]:List Int) (ofT [(0,0,2),(0,1,2),(1,0,2),(1,1,2)] ((0:Nat):Int)) by decide)
  | 1,hp=>injection hp with hp;subst hp;exact (show List.Perm ([0,1]:List Int) (ofT [(0,0,2),(0,1,2),(1,0,2),(1,1,2)] ((1:Nat):Int)) by decide)
 wr:=show ∀w∈([(0,0,2),(0,1,2),(1,0,2),(1,1,2)]:List Wy),(0<=w.1/\w.1 < ((2:Nat):Int))/\(0<=w.2.1/\w.2.1 < ((2:Nat):Int))/\1<=w.2.2/\w.2.2<=9 by decide
 wp:=by decide
 wl:=by decide
def iX(f:Nat->Int):Nat->List (List Int)->List Pl|_,[]=>[]|k,r::rs=>(f k,r)::iX f (k+1) rs
def gV(f:Nat->Int):∀ (rs:List (List Int)) (k:Nat),(iX f k rs).length=rs.length
 | [],k=>rfl
 | r::rs,k=>by rw[iX,zL,zL,gV f rs]
def gJ(f:Nat->Int):∀ {rs:List (List Int)}{k i:Nat}{p:Pl},(iX f k rs)[i]?=some p->∃r,rs[i]?=some r/\p=(f (k+i),r)
 | [],k,i,p,h=>by simp[iX] at h
 | r::rs,k,0,p,h=>by simp[iX] at h;exact⟨r,rfl,h.symm⟩
 | r::rs,k,i+1,p,h=>by
  simp?[iX,yY] at h;let⟨y,h1,h2⟩:=gJ f h;exact⟨y,by simpa using h1,by rw[h2];congr 2;lia⟩
def dR:∀ {a b:List (List Int)},qq a b->a.length=b.length
 | [],[],_=>rfl
 | x::a,y::b,h=>by rw[zL,zL,dR h.2]
 | [],_::_,h=>h.elim
 | _::_,[],h=>h.elim
def m9:∀ {a b:List (List Int)}{i:Nat}{r:List Int},qq a b->a[i]?=some r->∃s,b[i]?=some s/\r.Perm s
 | [],[],i,r,_,h=>by simp at h
 | x::a,y::b,0,r,h,e=>by
  simp?[xQ,yK] at e;subst e;exact⟨y,rfl,h.1⟩
 | x::a,y::b,i+1,r,h,e=>by
  simp?[yY] at e;let⟨s,h1,h2⟩:=m9 h.2 e;exact⟨s,by simpa using h1,h2⟩
 | [],_::_,i,r,h,_=>h.elim
 | _::_,[],i,r,h,_=>h.elim
def k4(W:List Wy)(m:Nat):List (List Int):=(List.range m).map λi=>Bf W ((i:Nat):Int)
def iP(W:List Wy)(m:Nat):List (List Int):=(List.range m).map λi=>ofT W ((i:Nat):Int)
def Hc(m1:1<=m)(m4:m<=4)(s1:1<=s)(s4:s<=4)(hf:∀k,0<=f k/\f k<=9)(hg:∀k,0<=g k/\g k<=9)
  (hm:qq mine (k4 W m)) (hy:qq yours (iP W s)) (wr:∀w∈W,(0<=w.1/\w.1 < m)/\(0<=w.2.1/\w.2.1 < s)/\1<=w.2.2/\w.2.2<=9) (wp:rK W) (wl:W.length<=16):Wd (iX f 0 mine) (iX g 0 yours) W:=by
 have lm:(iX f 0 mine).length=m:=by rw[gV,dR hm,k4,zD,zR]
 have ly:(iX g 0 yours).length=s:=by rw[gV,dR hy,iP,zD,zR]
 have am:∀ {h:Nat->Int}{rs:List (List Int)},(∀k,0<=h k/\h k<=9)->∀p∈iX h 0 rs,0<=p.1/\p.1<=9:=λ{h rs} hh p hp=>by
  let⟨i,hi⟩:=List.mem_iff_getElem?.mp hp;let⟨r,_,rfl⟩:=gJ h hi;exact hh _
 refine⟨by lia,by lia,by lia,by lia,am hf,am hg,λi p hp=>?_,λi p hp=>?_,by rw[lm,ly];exact wr,wp,wl⟩
 ·let⟨r,h1,rfl⟩:=gJ f hp;let⟨t,h2,h3⟩:=m9 hm h1;rw[k4,zO] at h2;let⟨k,hk,rfl⟩:=Option.map_eq_some_iff.mp h2;have:k=i:=by
   rw[zT] at hk;let⟨h,e⟩:=hk;rw[List.getElem_range] at e;exact e.symm
  subst this;exact h3
 ·let⟨r,h1,rfl⟩:=gJ g hp;let⟨t,h2,h3⟩:=m9 hy h1;rw[iP,zO] at h2;let⟨k,hk,rfl⟩:=Option.map_eq_some_iff.mp h2;have:k=i:=by
   rw[zT] at hk;let⟨h,e⟩:=hk;rw[List.getElem_range] at e;exact e.symm
  subst this;exact h3
def bX{i:Nat}{fz:List Nat}{f:Dl.Env->Option D}{ρ ρ':ar}{d:D}(hf:f (bw ρ)=some d)(hs:Dl.pX d=false)(hh:hand fz 0 ρ=ρ')(hv:bS ρ'=bw ρ)(hr:gN d=false\/ρ'=ρ:=by first|exact .inr rfl|exact .inl rfl):Dl.az i fz f ρ=some (.nx (ρ'.set i (.val d))):=by
 rcases hr with hr|hr
 ·simp?[Dl.az,hf,zA,hs,yO,qP,hh,hv,zB,hr]
 ·subst hr;simp?[Dl.az,hf,zA,hs,yO,qP,hh,hv,zB,ite_self]
def cP{i:Nat}{fz:List Nat}{f:Dl.Env->Option D}{ρ:ar}{d:D}(hf:f (bw ρ)=some d)(hs:Dl.pX d=true):Dl.az i fz f ρ=some (.nx (ρ.set i (.val d))):=by
 simp?[Dl.az,hf,zA,hs,xH]
def Jl(w:Wy):av (aq w) (.int 0)=some (.int w.1):=rfl
def IZ(w:Wy):av (aq w) (.int 1)=some (.int w.2.1):=rfl
def Ae(a b c:D):small [a,b,c]=some [a,b,c]:=rfl
def M7{a b s:Int}(hs:s=1\/s=2\/s=3)(h:a < b):a / s < b / s\/(a / s=b / s/\a % s < b % s):=by rcases hs with rfl|rfl|rfl<;>lia
def LR{k m s:Int}(hs:s=1\/s=2\/s=3)(hm:m=1\/m=2\/m=3)(h0:0<=k)(h:k < m * s):(0<=k / s/\k / s < m)/\0<=k % s/\k % s < s:=by
 rcases hs with rfl|rfl|rfl<;>rcases hm with rfl|rfl|rfl<;>lia
def lB:ar->Option Out:=(eP (oz (fB (f2 Di (bu bK (aa (ab 7) ae)) (ab 2))) (fB (f2 Dk (ah 3 ao (aa (ab 0) (aa (f2 aK (f2 aK (ab 1) (fC (.int 2))) (ab 8)) (aa (fC (.int 4)) ae)))) (fC (.int 0))))) (lj 7 [0,1,6,8] (aS (aa (f2 l4 (ab 8) (ab 6)) (aa (f2 ku (ab 8) (ab 6)) (aa (f2 aK (fC (.int 1)) (ah 3 ao (aa (ab 0) (aa (f2 aK (f2 aK (ab 1) (fC (.int 12))) (ab 8)) (aa (fC (.int 2)) ae))))) ae))))) eF)
abbrev st(ns:List Int)(a mo m s:Int)(x4 x7 x8 x9 x10 x11:Slot):ar:=[.val (cS ns),.val (.int a),.val (.int mo),.non,x4,.val (.int m),.val (.int s),x7,x8,x9,x10,x11]
def Iq(ns:List Int)(a mo s k:Int)(W:List Wy):List Wy:=if (W.length:Int) < mo/\0 < dr ns (a+2+k) 4 then W++[(k / s,k % s,1+dr ns (a+12+k) 2)] else W
def JZ{ns:List Int}{a mo m s k:Int}{W:List Wy}(hl:ns.length<=63)(hs:s=1\/s=2\/s=3)(hw:W.length<=9) :
  lB (st ns a mo m s .non (.own (W.map aq)) (.val (.int k)) .non .non .non)=some (.nx (st ns a mo m s .non (.own ((Iq ns a mo s k W).map aq)) (.val (.int k)) .non .non .non)):=by
 have hs0:0 < s:=by lia
 have hz:W.length < sizeLine:=qZ hw (by decide);have hd:Dl.l4 (.int k) (.int s)=some (.int (k / s)):=jb ⟨hs0,by lia⟩;have hm:Dl.ku (.int k) (.int s)=some (.int (k % s)):=gT hs0;have e4:=xi (ns:=ns) (a+2+k) 4 hl (by decide);have e2:=xi (ns:=ns) (a+12+k) 2 hl (by decide);have hh:hand [0,1,6,8] 0 (st ns a mo m s .non (.own (W.map aq)) (.val (.int k)) .non .non .non)=st ns a mo m s .non (.own (W.map aq)) (.val (.int k)) .non .non .non:=rfl;have ha:lj 7 [0,1,6,8] (aS (aa (f2 l4 (ab 8) (ab 6)) (aa (f2 ku (ab 8) (ab 6)) (aa (f2 aK (fC (.int 1)) (ah 3 ao (aa (ab 0) (aa (f2 aK (f2 aK (ab 1) (fC (.int 12))) (ab 8)) (aa (fC (.int 2)) ae))))) ae)))) (st ns a mo m s .non (.own (W.map aq)) (.val (.int k)) .non .non .non)=some (.nx (st ns a mo m s .non (.own ((W++[(k / s,k % s,1+dr ns (a+12+k) 2)]).map aq)) (.val (.int k)) .non .non .non)):=by
  simp?[lj,k5,hh,bS,zI,yU];simp! [xy,yO,nR,hd,hm,e2,Ae,zD,hz,yW,yV,jA];rfl
 by_cases c1:(W.length:Int) < mo
 ·by_cases c2:0 < dr ns (a+2+k) 4
  ·rw[show Iq ns a mo s k W=W++[(k / s,k % s,1+dr ns (a+12+k) 2)] from yL ⟨c1,c2⟩,<- ha];simp! [lB,mL,gn,zD,c1,c2,jP,gg,e4]
  ·rw[show Iq ns a mo s k W=W from yN λh=>c2 h.2];simp! [lB,mL,gn,zD,c1,c2,jP,wK,gg,e4,yO]
 ·rw[show Iq ns a mo s k W=W from yN λh=>c1 h.1];simp! [lB,mL,gn,zD,c1,wK,gg,yO]
structure CY(mo s k:Int)(W:List Wy):Prop where
 mem:∀w∈W,∃j:Int,0<=j/\j < k/\w.1=j / s/\w.2.1=j % s/\1<=w.2.2/\w.2.2<=2
 ris:rK W
 len:(W.length:Int)<=k
 lem:(W.length:Int)<=mo
def CY.next{ns:List Int}{a mo s k:Int}{W:List Wy}(hl:ns.length<=63)(hs:s=1\/s=2\/s=3)(hk:0<=k)(h:CY mo s k W):CY mo s (k+1) (Iq ns a mo s k W):=by
 have old:∀w∈W,∃j:Int,0<=j/\j < k+1/\w.1=j / s/\w.2.1=j % s/\1<=w.2.2/\w.2.2<=2:=λw hw=>by
  let⟨j,a,b,c⟩:=h.mem w hw;exact⟨j,a,by lia,c⟩
 by_cases c:(W.length:Int) < mo/\0 < dr ns (a+2+k) 4
 ·rw[show Iq ns a mo s k W=W++[(k / s,k % s,1+dr ns (a+12+k) 2)] from yL c];have g1:=M8 (ns:=ns) (a+12+k) 2 hl (by decide);have g2:=Nd (ns:=ns) (a+12+k) 2 hl (by decide);refine⟨λw hw=>?_,?_,?_,?_⟩
  ·rcases List.mem_append.mp hw with hw|hw
   ·exact old w hw
   ·rw[yJ] at hw;subst hw;exact⟨k,hk,by lia,rfl,rfl,by simp only;lia,by simp only;lia⟩
  ·refine List.pairwise_append.mpr ⟨h.ris,vH _ _,λa ha b hb=>?_⟩;rw[yJ] at hb;subst hb;let⟨j,_,b,c1,c2,_⟩:=h.mem a ha;rw[c1,c2];exact M7 hs b
  ·have:=h.len;rw[zN,xC];lia
  ·have:=c.1;rw[zN,xC];lia
 ·rw[show Iq ns a mo s k W=W from yN c];exact⟨old,h.ris,by have:=h.len;lia,h.lem⟩
def D4{ns:List Int}{a mo m s:Int}(hl:ns.length<=63)(hs:s=1\/s=2\/s=3):∀ (n k:Nat) {W:List Wy}{x8:Slot},k+n<=9->CY mo s k W ->
  ∃W' t8,cH (k3 8) lB ((List.range' k n).map λi=>PyData.int ((i:Nat):Int)) (st ns a mo m s .non (.own (W.map aq)) x8 .non .non .non)=some (.nx (st ns a mo m s .non (.own (W'.map aq)) t8 .non .non .non))/\(n=0/\t8=x8\/∃d,t8=.val d)/\CY mo s ((k+n:Nat):Int) W'
 | 0,k,W,x8,hk,h=>⟨W,x8,rfl,.inl ⟨rfl,rfl⟩,h⟩
 | n+1,k,W,x8,hk,h=>by
  have h':CY mo s ((k+1:Nat):Int) (Iq ns a mo s k W):=by
   have:=h.next (ns:=ns) (a:=a) hl hs (by lia)
   rwa [show ((k:Int)+1)=((k+1:Nat):Int) by lia] at this
  let⟨W',t8,e,q,b⟩:=D4 hl hs n (k+1) (W:=Iq ns a mo s k W) (x8:=.val (.int (k:Nat))) (by lia) h';refine⟨W',t8,?_,.inr (q.elim (λz=>⟨_,z.2⟩) id),by rw[show k+(n+1)=k+1+n by lia];exact b⟩;have hsg:∀d,k3 8 (st ns a mo m s .non (.own (W.map aq)) x8 .non .non .non) d=some (st ns a mo m s .non (.own (W.map aq)) (.val d) .non .non .non):=λd=>rfl;rw[vF,zI,cH,hsg,zA,JZ hl hs (by have:=h.len;lia)];exact e
def O2(W:List Wy)(i:Int)(hw:W.length<=20):aj 1 [0] (aO (ab 1)) (fG 0) (fB (f2 bT (f2 av (ab 0) (fC (.int 0))) (ab 1))) (f2 av (ab 0) (fC (.int 1))) [some (.int i),some (.list (W.map aq))]=some ((Bf W i).map PyData.int):=by
 rw[lW (ds:=W.map aq) (p:=λd=>decide (ig ((cG d).getD 0 .none)=i)) (h:=λd=>(cG d).getD 1 .none) rfl (by rw[zD];lia) (λd hd=>?_) λd hd _=>?_]
 ·rw[kG,zM,Bf,zM];rfl
 ·let⟨w,_,rfl⟩:=List.mem_map.mp hd;simp! [Jl,eC,gg];rfl
 ·let⟨w,_,rfl⟩:=List.mem_map.mp hd;simp! [IZ];rfl
def Pk(W:List Wy)(i:Int)(hw:W.length<=20):aj 1 [0] (aO (ab 1)) (fG 0) (fB (f2 bT (f2 av (ab 0) (fC (.int 1))) (ab 1))) (f2 av (ab 0) (fC (.int 0))) [some (.int i),some (.list (W.map aq))]=some ((ofT W i).map PyData.int):=by
 rw[lW (ds:=W.map aq) (p:=λd=>decide (ig ((cG d).getD 1 .none)=i)) (h:=λd=>(cG d).getD 0 .none) rfl (by rw[zD];lia) (λd hd=>?_) λd hd _=>?_]
 ·rw[kG,zM,ofT,zM];rfl
 ·let⟨w,_,rfl⟩:=List.mem_map.mp hd;simp! [IZ,eC,gg];rfl
 ·let⟨w,_,rfl⟩:=List.mem_map.mp hd;simp! [Jl];rfl
def BJ{m:Nat}(hm:m<=1000):CS ((m:Nat):Int)=true:=by
 unfold CS;rw[zF,zJ,zJ];have h1:(0:Int)<=(m:Int):=Int.natCast_nonneg m;have h2:(m:Int)<=1000:=by lia
 exact⟨jT (by decide) h1,Int.lt_of_le_of_lt h2 (by decide)⟩
def uY{j:Int}(h:CS j=true):i4 [.int j]=some ((List.range j.toNat).map λi=>PyData.int ((i:Nat):Int)):=by
 rw[i4,yL h]
def uA{fi:Dl.Env->Option D}{ρ:Dl.Env}(m:Nat)(hm:m<=1000)(h:fi ρ=some (.int (m:Nat))):aX (aa fi ae) ρ=some ((List.range m).map λi=>PyData.int ((i:Nat):Int)):=by
 have e:aa fi ae ρ=some [.int ((m:Nat):Int)]:=by simp?[aa,ae,h,zA,zB]
 have e2:aX (aa fi ae) ρ=(aa fi ae ρ).bind i4:=rfl;rw[e2,e,zA,uY (BJ hm),yG]
def HP{W:List Wy}{m:Nat}{ρ:Dl.Env}(hw:W.length<=20)(hm:m<=1000)(h5:ab i5 ρ=some (.int (m:Nat)))(h7:(ρ[i7]?).getD none=some (.list (W.map aq))) :
  aj 1 [i7] (aX (aa (ab i5) ae)) (fG 0) (λ_=>some true) (bH (aj 1 [0] (aO (ab 1)) (fG 0) (fB (f2 bT (f2 av (ab 0) (fC (.int 0))) (ab 1))) (f2 av (ab 0) (fC (.int 1))))) ρ=some ((k4 W m).map b8):=by
 rw[bW (h:=λd=>b8 (Bf W (ig d))) (uA m hm h5) (by rw[zD,zR];lia) λd hd=>?_]
 ·rw[k4,zM,zM];rfl
 ·let⟨i,_,rfl⟩:=List.mem_map.mp hd;simp?[zI,yU,h7,bH,O2 W _ hw,zB,b8,ig]
def Ie{W:List Wy}{m:Nat}{ρ:Dl.Env}(hw:W.length<=20)(hm:m<=1000)(h5:ab i5 ρ=some (.int (m:Nat)))(h7:(ρ[i7]?).getD none=some (.list (W.map aq))) :
  aj 1 [i7] (aX (aa (ab i5) ae)) (fG 0) (λ_=>some true) (bH (aj 1 [0] (aO (ab 1)) (fG 0) (fB (f2 bT (f2 av (ab 0) (fC (.int 1))) (ab 1))) (f2 av (ab 0) (fC (.int 0))))) ρ=some ((iP W m).map b8):=by
 rw[bW (h:=λd=>b8 (ofT W (ig d))) (uA m hm h5) (by rw[zD,zR];lia) λd hd=>?_]
 ·rw[iP,zM,zM];rfl
 ·let⟨i,_,rfl⟩:=List.mem_map.mp hd;simp?[zI,yU,h7,bH,Pk W _ hw,zB,b8,ig]
def Jy(c:Int):Dl.Env->Option D:=(aS (aa (ah 3 ao (aa (ab 2) (aa (f2 aK (f2 aK (ab 3) (fC (.int c))) (ab 0)) (aa (fC (.int 4)) ae)))) (aa (ab 1) ae)))
def Md{ns:List Int}{a:Int}(c:Int)(hl:ns.length<=63):∀ (mine:List (List Int)) (k:Nat),cF (eV 0 1) (λ_=>some true) (Jy c) [none,none,some (cS ns),some (.int a)] (bB k (mine.map af))=some ((iX (λk=>dr ns (a+c+((k:Nat):Int)) 4) k mine).map bG)
 | [],k=>rfl
 | r::mine,k=>by
  have hg:eV 0 1 [none,none,some (cS ns),some (.int a)] (.tuple [.int ((k:Nat):Int),af r])=some [some (.int ((k:Nat):Int)),some (af r),some (cS ns),some (.int a)]:=rfl;have he:Jy c [some (.int ((k:Nat):Int)),some (af r),some (cS ns),some (.int a)]=some (bG (dr ns (a+c+((k:Nat):Int)) 4,r)):=by
   simp! [Jy,xi (ns:=ns) (a+c+((k:Nat):Int)) 4 hl (by decide),As,bG]
  have ih:=Md (a:=a) c hl mine (k+1);rw[zI,bB,cF,hg];simp?[zA,xH,he,ih,zB,iX,zI]
def ka:∀ (ds:List D) (k:Nat),(bB k ds).length=ds.length
 | [],k=>rfl
 | d::ds,k=>by rw[bB,zL,zL,ka ds]
def vn{ns:List Int}{a c:Int}{i9:Nat}{ρ:Dl.Env}{mine:List (List Int)}(hl:ns.length<=63)(hm:mine.length<=1000)(h9:ab i9 ρ=some (.list (mine.map af)))(h0:(ρ[0]?).getD none=some (cS ns))(h1:(ρ[1]?).getD none=some (.int a)) :
  bu br (aa (bH (aj 2 [0,1] (bI (aa (ab i9) ae)) (eV 0 1) (λ_=>some true) (Jy c))) ae) ρ=some (.tuple ((iX (λk=>dr ns (a+c+((k:Nat):Int)) 4) 0 mine).map bG)):=by
 have hi:bI (aa (ab i9) ae) ρ=some (bB 0 (mine.map af)):=by
  simp?[bI,aa,ae,h9,zA,zB,eJ,oneOf,gc]
 have hc:aj 2 [0,1] (bI (aa (ab i9) ae)) (eV 0 1) (λ_=>some true) (Jy c) ρ=some ((iX (λk=>dr ns (a+c+((k:Nat):Int)) 4) 0 mine).map bG):=by
  simp?[aj,hi,zA,eE,zI,yU,h0,h1,List.replicate,xF,xO,Md c hl];exact bh (by rw[zD,gV];lia)
 simp?[bu,aa,ae,bH,hc,zB,zA,br,eJ,oneOf,gc]
def ai{g1 g2:ar->Option Out}{ρ ρ':ar}(h:g1 ρ=some (.nx ρ')):au g1 g2 ρ=g2 ρ':=by
 simp?[au,h,zA]
def aL{g:ar->Option Out}{n:Nat}{args:List D}{d:D}(h:g (args.map Slot.val++List.replicate (n - args.length) .non)=some (.rt d)):bf g n args=some d:=by
 simp?[bf,h,zB]
def iT{g:D->D->Option D}{fa fb:Dl.Env->Option D}{ρ:Dl.Env}{a b:D}(ha:fa ρ=some a)(hb:fb ρ=some b):f2 g fa fb ρ=g a b:=by
 simp?[f2,ha,hb,zA]
def JR{ns:List Int}{a mo:Int}{m s:Nat}(m1:m<=3)(s1:s<=3):f2 e8 (ab 5) (ab 6) (bS (st ns a mo m s .non (.own []) .non .non .non .non))=some (.int ((m * s:Nat):Int)):=by
 have h:Dl.e8 (.int (m:Int)) (.int (s:Int))=some (.int ((m:Int) * (s:Int))):=dC (lq (by lia));rw[iT (a:=.int (m:Int)) (b:=.int (s:Int)) rfl rfl,h,Int.natCast_mul]
def LH{ns:List Int}{a mo:Int}{m s:Nat}(m1:m<=3)(s1:s<=3)(hms:m * s<=9){W:List Wy}{t8:Slot}(e: cH (k3 8) lB ((List.range' 0 (m * s)).map λi=>PyData.int ((i:Nat):Int)) (st ns a mo m s .non (.own (([]:List Wy).map aq)) .non .non .non .non)=some (.nx (st ns a mo m s .non (.own (W.map aq)) t8 .non .non .non))):c8 [5,6] (aX (aa (f2 e8 (ab 5) (ab 6)) ae)) (k3 8) lB (st ns a mo m s .non (.own []) .non .non .non .non)=some (.nx (st ns a mo m s .non (.own (W.map aq)) t8 .non .non .non)):=by
 have hh:hand [5,6] 0 (st ns a mo m s .non (.own []) .non .non .non .non)=st ns a mo m s .non (.own []) .non .non .non .non:=rfl;have hr:=uA (fi:=f2 e8 (ab 5) (ab 6)) (ρ:=bS (st ns a mo m s .non (.own []) .non .non .non .non)) (m * s) (by lia) (JR m1 s1);rw[List.range_eq_range'] at hr;rw[yU] at e;simp?[c8,hh,hr,zA];exact e
structure N3(mo:Int)(G T:List Pl)(W:List Wy):Prop where
 g3:G.length<=3
 t3:T.length<=3
 w2:∀w∈W,w.2.2<=2
 ga:∀p∈G,p.1<=3
 ta:∀p∈T,p.1<=3
 wm:(W.length:Int)<=mo
def uG{ns:List Int}{a mo:Int}(hl:ns.length<=63)(hmo:3 < mo)(c:dr ns (a+64) 4=0):∃G T W,cg [cS ns,.int a,.int mo]=some (ax G T W)/\Wd G T W/\N3 mo G T W:=by
 have e64:=xi (ns:=ns) (a+64) 4 hl (by decide);have e65:=eO (ns:=ns) (a+65) 2 hl (by decide);refine⟨_,_,_,?_,Cm (c:=1+dr ns (a+65) 2) (by lia) (by lia),⟨by simp,by simp,by decide,λp hp=>?_,λp hp=>?_,by simp;lia⟩⟩;rotate_left
 ·simp?[zQ,yF,xU] at hp;rcases hp with rfl|rfl<;>(simp only;lia)
 ·simp?[zQ,yF,xU] at hp;rcases hp with rfl|rfl<;>(simp only;lia)
 have s1:Dl.az 3 [0,1] (f2 aK (fC (.int 1)) (ah 3 ao (aa (ab 0) (aa (f2 aK (ab 1) (fC (.int 65))) (aa (fC (.int 2)) ae))))) [.val (cS ns),.val (.int a),.val (.int mo),.non,.non,.non,.non,.non,.non,.non,.non,.non]=some (.nx [.val (cS ns),.val (.int a),.val (.int mo),.val (.int (1+dr ns (a+65) 2)),.non,.non,.non,.non,.non,.non,.non,.non]) :=
  cP (d:=.int (1+dr ns (a+65) 2)) (by simp! [e65.1]) rfl
 generalize 1+dr ns (a+65) 2=x at *;have s2:Dl.az 4 [3] (aS (aa (aS (aa (ab 3) (aa (aS (aa (fC (.int 1)) (aa (fC (.int 0)) ae))) ae))) (aa (aS (aa (ab 3) (aa (aS (aa (fC (.int 0)) (aa (fC (.int 1)) ae))) ae))) ae))) [.val (cS ns),.val (.int a),.val (.int mo),.val (.int x),.non,.non,.non,.non,.non,.non,.non,.non]=some (.nx [.val (cS ns),.val (.int a),.val (.int mo),.val (.int x),.val (.tuple [bG (x,[1,0]),bG (x,[0,1])]),.non,.non,.non,.non,.non,.non,.non]) :=
  bX (d:=.tuple [bG (x,[1,0]),bG (x,[0,1])]) (by simp! [As];rfl) rfl rfl rfl
 simp! [cg,eZ,gn,e64,c,eC,jP,gg,show decide ((3:Int) < mo)=true from yA hmo,s1,s2,As,Ae,show ∀a b c d:D,small [a,b,c,d]=some [a,b,c,d] fromλ_ _ _ _=>rfl];rfl
def uH{ns:List Int}{a mo:Int}(hl:ns.length<=63)(hm0:0<=mo)(c:¬ (3 < mo/\dr ns (a+64) 4=0)):∃G T W,cg [cS ns,.int a,.int mo]=some (ax G T W)/\Wd G T W/\N3 mo G T W:=by
 have e64:=xi (ns:=ns) (a+64) 4 hl (by decide);have em:=eO (ns:=ns) a 3 hl (by decide);have es:=eO (ns:=ns) (a+1) 3 hl (by decide);let⟨m,hm⟩:=vI (show 0<=1+dr ns a 3 by lia);let⟨s,hs⟩:=vI (show 0<=1+dr ns (a+1) 3 by lia);have m1:1<=m/\m<=3:=by lia
 have s1:1<=s/\s<=3:=by lia
 have hs':(s:Int)=1\/(s:Int)=2\/(s:Int)=3:=by lia
 have hm':(m:Int)=1\/(m:Int)=2\/(m:Int)=3:=by lia
 have t5:Dl.az 5 [0,1] (f2 aK (fC (.int 1)) (ah 3 ao (aa (ab 0) (aa (ab 1) (aa (fC (.int 3)) ae))))) [.val (cS ns),.val (.int a),.val (.int mo),.non,.non,.non,.non,.non,.non,.non,.non,.non]=some (.nx [.val (cS ns),.val (.int a),.val (.int mo),.non,.non,.val (.int (m:Nat)),.non,.non,.non,.non,.non,.non]) :=
  cP (d:=.int (m:Nat)) (by simp! [em.1,hm]) rfl
 have t6:Dl.az 6 [0,1] (f2 aK (fC (.int 1)) (ah 3 ao (aa (ab 0) (aa (f2 aK (ab 1) (fC (.int 1))) (aa (fC (.int 3)) ae))))) [.val (cS ns),.val (.int a),.val (.int mo),.non,.non,.val (.int (m:Nat)),.non,.non,.non,.non,.non,.non]=some (.nx (st ns a mo m s .non .non .non .non .non .non)) :=
  cP (d:=.int (s:Nat)) (by simp! [es.1,hs]) rfl
 have t7:aM 7 [] (dJ ae) (st ns a mo m s .non .non .non .non .non .non)=some (.nx (st ns a mo m s .non (.own []) .non .non .non .non)):=by
  simp?[aM,mH,dJ,ae,zA,gY,zB,yW,yV]
 have hms:m * s<=9:=vW m1.2 s1.2;have hms1:1<=m * s:=vW m1.1 s1.1;let⟨W,t8,e,h8,I⟩:=D4 (ns:=ns) (a:=a) (m:=m) (s:=s) hl hs' (m * s) 0 (W:=[]) (x8:=.non) (by lia) (mo:=mo) ⟨λw hw=>(by cases hw),List.Pairwise.nil,by decide,hm0⟩;rw[jD] at I;obtain⟨d8,rfl⟩:∃d,t8=.val d:=h8.elim (λz=>by lia) id;have hlen9:W.length<=9:=by have:=I.len;lia
 have tf:=LH m1.2 s1.2 hms e;unfold lB at tf;have hwl:W.length<=20:=by lia
 have wr:∀w∈W,(0<=w.1/\w.1 < m)/\(0<=w.2.1/\w.2.1 < s)/\1<=w.2.2/\w.2.2<=9:=λw hw=>by
  let⟨j,j0,jk,ea,b,c1,c2⟩:=I.mem w hw;have:=LR hs' hm' j0 (by rw[<- Int.natCast_mul];exact jk);rw[ea,b];exact⟨this.1,this.2,c1,by lia⟩
 have lenG:∀r∈k4 W m,r.length<=1000:=λr hr=>by
  let⟨i,_,rfl⟩:=List.mem_map.mp hr;rw[Bf,zD];exact yD (xP _ _) (by lia)
 have lenT:∀r∈iP W s,r.length<=1000:=λr hr=>by
  let⟨i,_,rfl⟩:=List.mem_map.mp hr;rw[ofT,zD];exact yD (xP _ _) (by lia)
 let⟨mine,om,pm⟩:=xn (ns:=ns) (a:=a+24) (rows:=k4 W m) hl lenG (by rw[k4,zD,zR];lia);let⟨yours,oy,py⟩:=xn (ns:=ns) (a:=a+40) (rows:=iP W s) hl lenT (by rw[iP,zD,zR];lia);have lm:mine.length<=1000:=by rw[dR pm,k4,zD,zR];lia
 have ly:yours.length<=1000:=by rw[dR py,iP,zD,zR];lia
 have t9:Dl.az 9 [0,1,5,7] (ah 3 bO (aa (ab 0) (aa (f2 aK (ab 1) (fC (.int 24))) (aa (bH (aj 1 [7] (aX (aa (ab 5) ae)) (fG 0) (λ_=>some true) (bH (aj 1 [0] (aO (ab 1)) (fG 0) (fB (f2 bT (f2 av (ab 0) (fC (.int 0))) (ab 1))) (f2 av (ab 0) (fC (.int 1))))))) ae)))) (st ns a mo m s .non (.own (W.map aq)) (.val d8) .non .non .non)=some (.nx (st ns a mo m s .non (.val (.list (W.map aq))) (.val d8) (.val (.list (mine.map af))) .non .non)):=by
  refine (bX (ρ':=st ns a mo m s .non (.val (.list (W.map aq))) (.val d8) .non .non .non) (d:=.list (mine.map af)) ?_ rfl rfl ?_).trans rfl
  ·have q:=HP (ρ:=bw (st ns a mo m s .non (.own (W.map aq)) (.val d8) .non .non .non)) (i5:=5) (i7:=7) hwl (show m<=1000 by lia) rfl rfl;simp?[ah,aa,ae,bH,q,zB,zA];simp! [om]
  ·simp?[st,bS,bw,zI,yU];rfl
 have t10:Dl.az 10 [0,1,6,7] (ah 3 bO (aa (ab 0) (aa (f2 aK (ab 1) (fC (.int 40))) (aa (bH (aj 1 [7] (aX (aa (ab 6) ae)) (fG 0) (λ_=>some true) (bH (aj 1 [0] (aO (ab 1)) (fG 0) (fB (f2 bT (f2 av (ab 0) (fC (.int 1))) (ab 1))) (f2 av (ab 0) (fC (.int 0))))))) ae)))) (st ns a mo m s .non (.val (.list (W.map aq))) (.val d8) (.val (.list (mine.map af))) .non .non)=some (.nx (st ns a mo m s .non (.val (.list (W.map aq))) (.val d8) (.val (.list (mine.map af))) (.val (.list (yours.map af))) .non)):=by
  refine (bX (ρ':=st ns a mo m s .non (.val (.list (W.map aq))) (.val d8) (.val (.list (mine.map af))) .non .non) (d:=.list (yours.map af)) ?_ rfl ?_ ?_).trans rfl
  ·have q:=Ie (ρ:=bw (st ns a mo m s .non (.val (.list (W.map aq))) (.val d8) (.val (.list (mine.map af))) .non .non)) (i5:=6) (i7:=7) hwl (show s<=1000 by lia) rfl rfl;simp?[ah,aa,ae,bH,q,zB,zA];simp! [oy]
  ·rfl
  ·simp?[st,bS,bw,zI,yU];rfl
 have t11:Dl.az 11 [0,1,8,9] (bu br (aa (bH (aj 2 [0,1] (bI (aa (ab 9) ae)) (eV 0 1) (λ_=>some true) (Jy 56))) ae)) (st ns a mo m s .non (.val (.list (W.map aq))) (.val d8) (.val (.list (mine.map af))) (.val (.list (yours.map af))) .non)=some (.nx (st ns a mo m s .non (.val (.list (W.map aq))) (.val d8) (.val (.list (mine.map af))) (.val (.list (yours.map af))) (.val (.tuple ((iX (λk=>dr ns (a+56+((k:Nat):Int)) 4) 0 mine).map bG))))):=by
  refine (bX (ρ':=st ns a mo m s .non (.val (.list (W.map aq))) (.val d8) (.val (.list (mine.map af))) (.val (.list (yours.map af))) .non) (vn hl lm rfl rfl rfl) rfl rfl ?_).trans rfl;simp?[st,bS,bw,zI,yU];rfl
 have t4:∀G:D,Dl.az 4 [0,1,8,10] (bu br (aa (bH (aj 2 [0,1] (bI (aa (ab 10) ae)) (eV 0 1) (λ_=>some true) (Jy 60))) ae)) (st ns a mo m s .non (.val (.list (W.map aq))) (.val d8) (.val (.list (mine.map af))) (.val (.list (yours.map af))) (.val G))=some (.nx (st ns a mo m s (.val (.tuple ((iX (λk=>dr ns (a+60+((k:Nat):Int)) 4) 0 yours).map bG))) (.val (.list (W.map aq))) (.val d8) (.val (.list (mine.map af))) (.val (.list (yours.map af))) (.val G))):=λG=>by
  refine (bX (ρ':=st ns a mo m s .non (.val (.list (W.map aq))) (.val d8) (.val (.list (mine.map af))) (.val (.list (yours.map af))) (.val G)) (vn hl ly rfl rfl rfl) rfl rfl ?_).trans rfl;simp?[st,bS,bw,zI,yU];rfl
 refine⟨_,_,W,?_,Hc (f:=λk=>dr ns (a+56+((k:Nat):Int)) 4) (g:=λk=>dr ns (a+60+((k:Nat):Int)) 4) m1.1 (by lia) s1.1 (by lia) (λk=>?_) (λk=>?_) pm py wr I.ris (by lia),⟨by rw[gV,dR pm,k4,zD,zR];lia,by rw[gV,dR py,iP,zD,zR];lia,λw hw=>(by let⟨j,_,_,_,_,_,z⟩:=I.mem w hw;exact z),λp hp=>?_,λp hp=>?_,I.lem⟩⟩
 ·unfold Jy at t11 t4;have tA:∀g,eP (oz (fB (f2 Dk (ab 2) (fC (.int 3)))) (fB (f2 bT (ah 3 ao (aa (ab 0) (aa (f2 aK (ab 1) (fC (.int 64))) (aa (fC (.int 4)) ae)))) (fC (.int 0))))) g eF [.val (cS ns),.val (.int a),.val (.int mo),.non,.non,.non,.non,.non,.non,.non,.non,.non]=some (.nx [.val (cS ns),.val (.int a),.val (.int mo),.non,.non,.non,.non,.non,.non,.non,.non,.non]):=λg=>by
   by_cases c1:3 < mo
   ·have c2:¬ dr ns (a+64) 4=0:=λz=>c ⟨c1,z⟩;simp! [gn,e64,c1,c2,eC,wK,jP,gg,yO]
   ·simp! [gn,c1,wK,gg,yO]
  refine aL ?_;show eZ [.val (cS ns),.val (.int a),.val (.int mo),.non,.non,.non,.non,.non,.non,.non,.non,.non]=_;unfold eZ;rw[ai (tA _),ai t5,ai t6,ai t7,ai tf,ai t9,ai t10,ai t11,ai (t4 _)];simp! [Ae,ax]
 ·have q:=eO (ns:=ns) (a+56+((k:Nat):Int)) 4 hl (by decide);exact⟨q.2.1,by lia⟩
 ·have q:=eO (ns:=ns) (a+60+((k:Nat):Int)) 4 hl (by decide);exact⟨q.2.1,by lia⟩
 ·let⟨i,hi⟩:=List.getElem?_of_mem hp;let⟨r,_,rfl⟩:=gJ _ hi;have q:=eO (ns:=ns) (a+56+((0+i:Nat):Int)) 4 hl (by decide);simp only;lia
 ·let⟨i,hi⟩:=List.getElem?_of_mem hp;let⟨r,_,rfl⟩:=gJ _ hi;have q:=eO (ns:=ns) (a+60+((0+i:Nat):Int)) 4 hl (by decide);simp only;lia
def wo{ns:List Int}{a mo:Int}(hl:ns.length<=63)(hm0:0<=mo):∃G T W,cg [cS ns,.int a,.int mo]=some (ax G T W)/\Wd G T W/\N3 mo G T W:=by
 by_cases c:3 < mo/\dr ns (a+64) 4=0
 ·exact uG hl c.1 c.2
 ·exact uH hl hm0 c
def Jx(h:rK W):(W.map λw=>[w.1,w.2.1]).Pairwise λa b=>Dl.lexLt a b=true:=List.pairwise_map.mpr (h.imp λhab=>OD hab)
def Fv(h:rK W):(W.map λw=>[w.1,w.2.1]).Nodup:=(Jx h).imp λ{a b} hab e=>by
 rw[e,fR] at hab;cases hab
def Fw(h:rK W)(hn:m.Nodup)(hm:∀r,r∈W.map (λw=>[w.1,w.2.1])↔r∈m):W.map (λw=>[w.1,w.2.1])=lF m :=
 uf ((List.perm_ext_iff_of_nodup (Fv h) hn).mpr hm) ((Jx h).imp λhab=>MK hab)
def Wd.wok(h:Wd G T W):NF (ax G T W)=true:=by
 have hP:(W.map aq).map eS=W.map λw=>[w.1,w.2.1]:=by rw[zM];rfl
 have hpg:∀i j:Int,[i,j]∈W.map (λw=>[w.1,w.2.1])↔[i,j]∈lV 0 (G.map bG):=λi j=>by
  rw[oY];constructor
  ·intro hm;let⟨w,hw,e⟩:=List.mem_map.mp hm;simp?[kU,and_true] at e;have hr:=(h.wr w hw).1;obtain⟨p,hp⟩:∃p,G[i.toNat]?=some p:=⟨G[i.toNat]'(by lia),zK (by lia)⟩
   refine⟨i.toNat,bG p,by rw[zO,hp];rfl,by lia,?_⟩;rw[fE,(h.gl _ p hp).mem_iff,ua,show ((i.toNat:Nat):Int)=i by lia];exact hm
  ·rintro⟨m,p,hp,rfl,hj⟩;rw[zO] at hp;let⟨p',hp',rfl⟩:=Option.map_eq_some_iff.mp hp;rw[fE,(h.gl m p' hp').mem_iff,ua] at hj
   rwa [jD]
 have hpt:∀i j:Int,[i,j]∈W.map (λw=>[w.1,w.2.1])↔[j,i]∈lV 0 (T.map bG):=λi j=>by
  rw[oY];constructor
  ·intro hm;let⟨w,hw,e⟩:=List.mem_map.mp hm;simp?[kU,and_true] at e;have hr:=(h.wr w hw).2.1;obtain⟨p,hp⟩:∃p,T[j.toNat]?=some p:=⟨T[j.toNat]'(by lia),zK (by lia)⟩
   refine⟨j.toNat,bG p,by rw[zO,hp];rfl,by lia,?_⟩;rw[fE,(h.tl _ p hp).mem_iff,uj,show ((j.toNat:Nat):Int)=j by lia];exact hm
  ·rintro⟨m,p,hp,rfl,hj⟩;rw[zO] at hp;let⟨p',hp',rfl⟩:=Option.map_eq_some_iff.mp hp;rw[fE,(h.tl m p' hp').mem_iff,uj] at hj
   rwa [jD]
 have two:∀ {r:List Int},r∈W.map (λw=>[w.1,w.2.1])->∃i j,r=[i,j]:=λhr=>by
  let⟨w,_,rfl⟩:=List.mem_map.mp hr;exact⟨_,_,rfl⟩
 have ng:∀ (L:List Pl),(∀p∈L,p.2.Nodup)->(lV 0 (L.map bG)).Nodup:=λL hL=>rS λp hp=>by
  let⟨p',hp',rfl⟩:=List.mem_map.mp hp;rw[fE];exact hL p' hp'
 have e1:W.map (λw=>[w.1,w.2.1])=lF (lV 0 (G.map bG)):=Fw h.wp (ng G λp hp=>by
   let⟨i,hi,e⟩:=qQ hp;exact (h.gl i p (by rw[zK hi,e])).nodup_iff.mpr (m5 h.wp i)) λr=>⟨λhr=>by
   let⟨i,j,rfl⟩:=two hr;exact (hpg i j).mp hr,λhr=>by
   let⟨i,j,rfl⟩:=kh r hr;exact (hpg i j).mpr hr⟩
 have e2:W.map (λw=>[w.1,w.2.1])=lF ((lV 0 (T.map bG)).map List.reverse):=Fw h.wp (by
   exact List.pairwise_map.mpr (List.Pairwise.imp (λ{a b} hne e=>hne (List.reverse_inj.mp e)) (ng T λp hp=>by
    let⟨i,hi,e⟩:=qQ hp;exact (h.tl i p (by rw[zK hi,e])).nodup_iff.mpr (nU h.wp i)))) λr=>⟨λhr=>by
   let⟨i,j,rfl⟩:=two hr;exact List.mem_map.mpr ⟨[j,i],(hpt i j).mp hr,rfl⟩,λhr=>by
   let⟨r',hr',rfl⟩:=List.mem_map.mp hr;let⟨i,j,rfl⟩:=kh r' hr';exact (hpt j i).mpr hr'⟩
 have hw:(W.map aq).all (iO G.length T.length)=true:=by
  rw[xG];intro x hx;let⟨w,hw,rfl⟩:=List.mem_map.mp hx;exact Co (h.wr w hw)
 have hs:∀ {L:List Pl},1<=L.length->L.length<=4->nj (.tuple (L.map bG))=true:=λ{L} a b=>by
  simp?[nj,long,zD,zF,zJ];lia
 have h3:long 3 3 (ax G T W)=true:=rfl;have hg:=h.gok;have ht:=h.tok;unfold NF yr;rw[h3,jK];simp?[ax,cG,vZ,wA,hP,<- e1,<- e2,jP,Bool.and_true,iJ,hs h.g1 h.g4,hs h.t1 h.t4,zD,hg,ht,hw,JD]
def sI(b:Bool):Int:=if b then 1 else 0
def bq(b:Bool)(w:Wy):Int:=if b then w.2.1 else w.1
def bU(b:Bool)(w:Wy):Int:=bq (!b) w
def aH(b:Bool)(G T:List Pl):List Pl:=if b then T else G
def l8(b:Bool)(G T:List Pl)(W:List Wy):av (ax G T W) (.int (sI b))=some (.tuple ((aH b G T).map bG)):=by cases b<;>rfl
def sT(G T:List Pl)(W:List Wy):av (ax G T W) (.int 2)=some (.tuple (W.map aq)):=rfl
def ue(b:Bool)(w:Wy):av (aq w) (.int (sI b))=some (.int (bq b w)):=by cases b<;>rfl
def IU(b:Bool)(w:Wy):av (aq w) (.int (1 - sI b))=some (.int (bU b w)):=by cases b<;>rfl
def uJ(w:Wy):av (aq w) (.int 2)=some (.int w.2.2):=rfl
def GL(p:Pl):av (bG p) (.int 0)=some (.int p.1):=rfl
def HG(p:Pl):av (bG p) (.int 1)=some (af p.2):=rfl
def pV(h:ds[i]?=some d):av (.tuple ds) (.int ((i:Nat):Int))=some d:=by
 show tG ds (i:Nat)=_;exact uy h
def Ko(h:ds[i]?=some d):av (.list ds) (.int ((i:Nat):Int))=some d:=by
 show tG ds (i:Nat)=_;exact uy h
def nG{l:List α}(h:l[i]?=some x):av (.tuple (l.map f)) (.int ((i:Nat):Int))=some (f x):=pV (by rw[zO,h];rfl)
def AK{l:List α}(h:l[i]?=some x):av (.list (l.map f)) (.int ((i:Nat):Int))=some (f x):=Ko (by rw[zO,h];rfl)
def LS(b:Bool)(W:List Wy)(p:Int):List Int:=(W.filter λw=>decide (bq b w=p)).map (bU b)
def Wd.lik{G T:List Pl}{W:List Wy}(h:Wd G T W){b:Bool}{i:Nat}{p:Pl}(e:(aH b G T)[i]?=some p):p.2.Perm (LS b W i):=by
 cases b
 ·exact h.gl i p e
 ·exact h.tl i p e
def Wd.nod(h:Wd G T W)(b:Bool)(i:Int):(LS b W i).Nodup:=by
 cases b
 ·exact m5 h.wp i
 ·exact nU h.wp i
def p8{tt:Dl.Env->Option Bool}{te:Dl.Env->Option D}{r:List (Option D)}{p:Nat->D->Bool}{h:Nat->D->D}:∀ {ds:List D}{k:Nat},
  (∀i d,ds[i]?=some d->tt (some (.int ((k+i:Nat):Int))::some d::r)=some (p (k+i) d)/\(p (k+i) d=true->te (some (.int ((k+i:Nat):Int))::some d::r)=some (h (k+i) d))) ->
  cF (eV 0 1) tt te (none::none::r) (bB k ds)=some (((ds.zipIdx k).filter λq=>p q.2 q.1).map λq=>h q.2 q.1)
 | [],k,_=>rfl
 | d::ds,k,hh=>by
  let⟨h1,h2⟩:=hh 0 d rfl;have ih:=p8 (ds:=ds) (k:=k+1) λi x hx=>by
   have:=hh (i+1) x (by simpa using hx);rw[show k+1+i=k+(i+1) by lia];exact this
  have hg:eV 0 1 (none::none::r) (.tuple [.int ((k:Nat):Int),d])=some (some (.int ((k:Nat):Int))::some d::r):=by
   simp?[eV,isFree,xQ,yY,qG,wG,jO,xH,yV,yW]
  rw[bB,cF,hg,List.zipIdx_cons];simp?[Nat.add_zero] at h1 h2;simp?[zA,h1];cases hp:p k d with
  | true=>simp[h2 hp,ih,hp]
  | false=>simp[ih,hp]
def C6{cs:List Nat}{fi:Dl.Env->Option (List D)}{tt:Dl.Env->Option Bool}{te:Dl.Env->Option D}{ρ:Dl.Env}{ds:List D}{p:Nat->D->Bool}{h:Nat->D->D}(hfi:fi ρ=some (bB 0 ds))(hl:ds.length<=1000)
  (hh:∀i d,ds[i]?=some d->tt (some (.int ((i:Nat):Int))::some d::cs.map λj=>(ρ[j]?).getD none)=some (p i d)/\(p i d=true->te (some (.int ((i:Nat):Int))::some d::cs.map λj=>(ρ[j]?).getD none)=some (h i d))) :
  aj 2 cs fi (eV 0 1) tt te ρ=some ((ds.zipIdx.filter λq=>p q.2 q.1).map λq=>h q.2 q.1):=by
 have:=p8 (tt:=tt) (te:=te) (r:=cs.map λj=>(ρ[j]?).getD none) (p:=p) (h:=h) (ds:=ds) (k:=0) (by simpa using hh);simp?[aj,hfi,zA,eE,List.replicate,xF,xO,this];refine bh ?_;rw[zD];refine yD (xP _ _) ?_;rw[List.length_zipIdx];lia
def gC(f:α->Int):∀ {l m:List α},l.Perm m->(l.Pairwise λa b=>f a<=f b)->(m.Pairwise λa b=>f a < f b)->l=m
 | l,[],hp,_,_=>hp.eq_nil
 | [],x::m,hp,_,_=>absurd hp.symm.eq_nil (by simp)
 | y::l,x::m,hp,h1,h2=>by
  rw[List.pairwise_cons] at h1 h2;have e:y=x:=by
   have hx:x∈y::l:=hp.mem_iff.mpr zE;rcases List.mem_cons.mp hx with z|hx
   ·exact z.symm
   ·have hy:y∈x::m:=hp.mem_iff.mp zE;rcases List.mem_cons.mp hy with z|hy
    ·exact z
    ·have:=h1.1 x hx;have:=h2.1 y hy;lia
  subst e;rw[gC f ((List.perm_cons y).mp hp) h1.2 h2.2]
def qa(z:Nat->Int)(l:List α)(d:α)(f:α->Int)(h:∀i,i < l.length->z i=f (l.getD i d)):(lT z l d).Pairwise λa b=>f a<=f b:=by
 unfold lT;split
 ·rename_i hl
  match l,hl with
  | [],_=>exact List.Pairwise.nil
  | [a],_=>exact vH _ _
 ·rename_i hl;let⟨hp,hs⟩:=SP.d9 (z:=z) (n:=l.length) (by lia);rw[jE] at hs ⊢;refine hs.imp_of_mem λ{i j} hi hj hij=>?_;have hi':i < l.length:=by have:=hp.mem_iff.mp hi;simpa using this
  have hj':j < l.length:=by have:=hp.mem_iff.mp hj;simpa using this
  rw[<- h i hi',<- h j hj'];exact hij
def aC(W:List Wy)(i:Nat):Wy:=W.getD i (0,0,0)
def gy(hk:k < W.length):W[k]=aC W k:=by simp[aC,hk]
def mI(hk:k < W.length):W[k]?=some (aC W k):=by rw[zK hk,gy hk]
def own(b:Bool)(W:List Wy)(p:Int):List Nat:=(List.range W.length).filter λi=>decide (bq b (aC W i)=p)
def ou(b:Bool)(W:List Wy)(p o:Int):Nat:=W.findIdx λw=>decide (bq b w=p)&&decide (bU b w=o)
def eu(b:Bool)(W:List Wy)(p:Int)(L:List Int):List Nat:=L.map (ou b W p)
def cq:i∈own b W p↔i < W.length/\bq b (aC W i)=p:=by simp[own]
def map_range(d:α)(f:α->β)(l:List α):(List.range l.length).map (λi=>f (l.getD i d))=l.map f:=by
 apply jH
 ·simp
 ·intro i h1 h2;have:i < l.length:=by simpa using h2
  simp[this]
def uz(d:α)(q:α->Bool):∀ (l:List α),((List.range l.length).filter λi=>q (l.getD i d)).map (λi=>l.getD i d)=l.filter q:=by
 intro l;have e:l=(List.range l.length).map λi=>l.getD i d:=by
  have:=map_range d (λx=>x) l;simp at this;simpa using this.symm
 conv=>rhs;rw[e]
 rw[kG];rfl
def j8(b:Bool)(W:List Wy)(p:Int):(own b W p).map (λi=>bU b (aC W i))=LS b W p:=by
 unfold own LS aC;rw[<- uz (0,0,0) (λw=>decide (bq b w=p)) W,zM];rfl
def sV(h:rK W)(hi:i < W.length)(hj:j < W.length)(h1:(aC W i).1=(aC W j).1)(h2:(aC W i).2.1=(aC W j).2.1):i=j:=by
 have e:∀k,k < W.length->W[k]?=some (aC W k):=λk hk=>by simp[aC,hk]
 rcases Nat.lt_trichotomy i j with z|z|z
 ·have:=List.pairwise_iff_getElem.mp h i j hi hj z;have a:=e i hi;have b:=e j hj;rw[zK hi] at a;rw[zK hj] at b;rw[xD a,xD b] at this;rcases this with z|z<;>lia
 ·exact z
 ·have:=List.pairwise_iff_getElem.mp h j i hj hi z;have a:=e i hi;have b:=e j hj;rw[zK hi] at a;rw[zK hj] at b;rw[xD a,xD b] at this;rcases this with z|z<;>lia
def qm(h:rK W)(hi:i < W.length)(hj:j < W.length)(h1:bq b (aC W i)=bq b (aC W j))(h2:bU b (aC W i)=bU b (aC W j)):i=j:=by
 cases b
 ·exact sV h hi hj h1 h2
 ·exact sV h hi hj h2 h1
def sR(h:rK W)(hi:i∈own b W p):ou b W p (bU b (aC W i))=i:=by
 let⟨hl,he⟩:=cq.mp hi;have hw:W[i]=aC W i:=by simp[aC,hl]
 unfold ou;have hlt:W.findIdx (λw=>decide (bq b w=p)&&decide (bU b w=bU b (aC W i))) < W.length:=by
  apply kK;exact⟨W[i],qA _,by rw[hw];simp[he]⟩
 have hq:=List.findIdx_getElem (w:=hlt);rw[zF,zJ,zJ] at hq;rw[gy hlt] at hq;exact qm h hlt hl (by rw[hq.1,he]) hq.2
def eB{G T:List Pl}{W:List Wy}(h:Wd G T W){b:Bool}{i:Nat}(e:(aH b G T)[i]?=some p):(eu b W i p.2).Perm (own b W i):=by
 have h1:=(h.lik e).map (ou b W i);rw[<- j8 b W i,zM] at h1;have e2:(own b W i).map (ou b W i ∘ λj=>bU b (aC W j))=own b W i:=by
  conv=>rhs;rw[<- List.map_id (own b W i)]
  exact yH λj hj=>sR h.wp hj
 rw[e2] at h1;exact h1
def mi{G T:List Pl}{W:List Wy}(h:Wd G T W){b:Bool}{i:Nat}{p:Pl}(e:(aH b G T)[i]?=some p){o:Int}(ho:o∈p.2):ou b W i o < W.length/\bq b (aC W (ou b W i o))=i/\bU b (aC W (ou b W i o))=o:=by
 have hm:=(h.lik e).mem_iff.mp ho;rw[<- j8 b W i] at hm;let⟨j,hj,rfl⟩:=List.mem_map.mp hm;rw[sR h.wp hj];let⟨h1,h2⟩:=cq.mp hj;exact⟨h1,h2,rfl⟩
def kD(b:Bool)(W:List Wy)(L:List Int)(d:D):Int:=(L.findIdx λo=>decide (o=bU b (aC W (ig d).toNat)):Nat)
def nS:∀ {L:List Int}{x:Int},x∈L->vm x L=some (L.findIdx λo=>decide (o=x))
 | [],x,h=>by cases h
 | o::L,x,h=>by
  unfold vm;by_cases e:o=x
  ·simp[e,vB]
  ·rw[yN e];have hx:x∈L:=(List.mem_cons.mp h).resolve_left λz=>e z.symm;rw[nS hx];simp[vB,e]
def Gh{G T:List Pl}{W:List Wy}(h:Wd G T W){b:Bool}{i:Nat}{p:Pl}(e:(aH b G T)[i]?=some p)(z:Nat->Int)(hz:∀j,j < (own b W i).length->z j=kD b W p.2 (((own b W i).map λn=>PyData.int ((n:Nat):Int)).getD j .none)) :
  lT z ((own b W i).map λn=>PyData.int ((n:Nat):Int)) .none=(eu b W i p.2).map λn=>PyData.int ((n:Nat):Int):=by
 refine gC (kD b W p.2) ((dy _ _ _).trans ((eB h e).symm.map _)) (qa z _ _ _ λj hj=>hz j (by simpa using hj)) ?_;have hn:p.2.Nodup:=(h.lik e).nodup_iff.mpr (h.nod b i);unfold eu;rw[zM,jE];have key:∀k (hk:k < p.2.length),kD b W p.2 (PyData.int ((ou b W i p.2[k]:Nat):Int))=(k:Nat):=λk hk=>by
  let⟨_,_,e3⟩:=mi h e (qA hk);unfold kD;simp?[ig,yG,e3]
  congr 1
  rw[List.findIdx_eq (by exact hk)];refine⟨by simp,λj hj=>?_⟩;have:=List.pairwise_iff_getElem.mp hn j k (by lia) hk hj;simpa using this
 refine List.pairwise_iff_getElem.mpr λj k hj hk hjk=>?_;show kD b W p.2 (PyData.int ((ou b W i p.2[j]:Nat):Int)) < kD b W p.2 (PyData.int ((ou b W i p.2[k]:Nat):Int));rw[key j hj,key k hk];lia
abbrev nD(n:Nat):D:=.int ((n:Nat):Int)
def nv:∀ {ds:List D},(∀d∈ds,te (ρ.set 0 (some d))=some (h d))->hZ te ρ ds=some (ds.map h)
 | [],_=>rfl
 | d::ds,hh=>by
  unfold hZ;rw[hh d zE,zA,nv λx hx=>hh x (zC _ hx)];rfl
def oI(b:Bool)(W:List Wy)(p:Int):(own b W p).length<=W.length:=by
 unfold own;refine yD (xP _ _) ?_;rw[zR];exact yM _
def Aq(b:Bool)(W:List Wy)(p:Int):(((W.map aq).zipIdx.filter λq=>decide (bq b (aC W q.2)=p)).map λq=>nD q.2)=(own b W p).map nD:=by
 have e:(W.map aq).zipIdx=(List.range W.length).map λi=>(aq (aC W i),i):=by
  apply jH
  ·simp
  ·intro i h1 h2;have:i < W.length:=by simpa using h2
   simp[gy this]
 rw[e,kG,zM];rfl
def nA(h:Wd G T W)(e:(aH b G T)[i]?=some p):cQ [ax G T W,.int (sI b),nD i]=some (.list ((eu b W i p.2).map nD)):=by
 have hw:=h.wl;have ep:av (.tuple ((aH b G T).map bG)) (nD i)=some (bG p):=nG e;have hl:=oI b W i;have t3:Dl.az 3 [0] (f2 av (ab 0) (fC (.int 2))) [.val (ax G T W),.val (.int (sI b)),.val (nD i),.non,.non,.non]=some (.nx [.val (ax G T W),.val (.int (sI b)),.val (nD i),.val (.tuple (W.map aq)),.non,.non]) :=
  bX (d:=.tuple (W.map aq)) rfl rfl rfl rfl
 have t4:Dl.az 4 [0,1,2] (f2 av (f2 av (f2 av (ab 0) (ab 1)) (ab 2)) (fC (.int 1))) [.val (ax G T W),.val (.int (sI b)),.val (nD i),.val (.tuple (W.map aq)),.non,.non]=some (.nx [.val (ax G T W),.val (.int (sI b)),.val (nD i),.val (.tuple (W.map aq)),.val (af p.2),.non]):=by
  refine bX (d:=af p.2) ?_ rfl rfl rfl;rw[iT (a:=bG p) (b:=.int 1) ?_ rfl,HG];rw[iT (a:=.tuple ((aH b G T).map bG)) (b:=nD i) ?_ rfl,ep];rw[iT (a:=ax G T W) (b:=.int (sI b)) rfl rfl,l8]
 have c5:aj 2 [1,2] (bI (aa (ab 3) ae)) (eV 0 1) (fB (f2 bT (f2 av (ab 1) (ab 2)) (ab 3))) (ab 0) [some (ax G T W),some (.int (sI b)),some (nD i),some (.tuple (W.map aq)),some (af p.2),none]=some ((own b W i).map nD):=by
  rw[C6 (ds:=W.map aq) (p:=λj _=>decide (bq b (aC W j)=i)) (h:=λj _=>nD j) rfl (by rw[zD];lia) λj d hd=>?_,Aq];rw[zO] at hd;let⟨w,hw',rfl⟩:=Dl.ag hd;have hj:j < W.length:=(List.getElem?_eq_some_iff.mp hw').1;rw[mI hj] at hw';cases hw';refine⟨?_,λ_=>rfl⟩;show fB (f2 bT (f2 av (ab 1) (ab 2)) (ab 3)) [some (nD j),some (aq (aC W j)),some (.int (sI b)),some (nD i)]=_;simp?[fB];rw[iT (a:=.int (bq b (aC W j))) (b:=nD i) (by rw[iT (a:=aq (aC W j)) (b:=.int (sI b)) rfl rfl,ue]) rfl,eC];rfl
 have t5:aM 5 [1,2,3] (aj 2 [1,2] (bI (aa (ab 3) ae)) (eV 0 1) (fB (f2 bT (f2 av (ab 1) (ab 2)) (ab 3))) (ab 0)) [.val (ax G T W),.val (.int (sI b)),.val (nD i),.val (.tuple (W.map aq)),.val (af p.2),.non]=some (.nx [.val (ax G T W),.val (.int (sI b)),.val (nD i),.val (.tuple (W.map aq)),.val (af p.2),.own ((own b W i).map nD)]):=by
  have hh:hand [1,2,3] 0 [Slot.val (ax G T W),.val (.int (sI b)),.val (nD i),.val (.tuple (W.map aq)),.val (af p.2),.non]=[Slot.val (ax G T W),.val (.int (sI b)),.val (nD i),.val (.tuple (W.map aq)),.val (af p.2),.non]:=rfl;simp?[aM,hh,bS,zI,yU,Slot.frz,c5,zB,yW,yV]
 have hk:hZ (f2 oD (ab 3) (f2 av (f2 av (ab 2) (ab 0)) (f2 Dl.g9 (fC (.int 1)) (ab 1)))) [none,some (.int (sI b)),some (.tuple (W.map aq)),some (af p.2)] ((own b W i).map nD)=some (((own b W i).map nD).map λd=>.int (kD b W p.2 d)):=by
  refine nv λd hd=>?_;let⟨j,hj,rfl⟩:=List.mem_map.mp hd;let⟨hjl,hje⟩:=cq.mp hj;show f2 oD (ab 3) (f2 av (f2 av (ab 2) (ab 0)) (f2 Dl.g9 (fC (.int 1)) (ab 1))) [some (nD j),some (.int (sI b)),some (.tuple (W.map aq)),some (af p.2)]=_;have ew:av (.tuple (W.map aq)) (nD j)=some (aq (aC W j)):=nG (mI hjl);rw[iT (a:=af p.2) (b:=.int (bU b (aC W j))) rfl ?_]
  ·have hm:bU b (aC W j)∈p.2:=(h.lik e).mem_iff.mpr (by rw[<- j8];exact List.mem_map.mpr ⟨j,hj,rfl⟩);simp?[oD,af,cK,zA,nS hm,zB,kD,ig,yG]
   all_goals first|rfl|(congr 3;funext o;congr)
  ·rw[iT (a:=aq (aC W j)) (b:=.int (1 - sI b)) ?_ ?_,IU]
   ·rw[iT (a:=.tuple (W.map aq)) (b:=nD j) rfl rfl,ew]
   ·rw[iT (a:=.int 1) (b:=.int (sI b)) rfl rfl,lX]
 have hi:intsOf (((own b W i).map nD).map λd=>PyData.int (kD b W p.2 d))=some (((own b W i).map nD).map (kD b W p.2)):=by
  rw[show (((own b W i).map nD).map λd=>PyData.int (kD b W p.2 d))=(((own b W i).map nD).map (kD b W p.2)).map PyData.int by simp?[zM];rfl,cK]
 have t6:aF (bH (nK [1,3,4] (ab 5) (f2 oD (ab 3) (f2 av (f2 av (ab 2) (ab 0)) (f2 Dl.g9 (fC (.int 1)) (ab 1)))))) [.val (ax G T W),.val (.int (sI b)),.val (nD i),.val (.tuple (W.map aq)),.val (af p.2),.own ((own b W i).map nD)]=some (.rt (.list ((eu b W i p.2).map nD))):=by
  have es:nK [1,3,4] (ab 5) (f2 oD (ab 3) (f2 av (f2 av (ab 2) (ab 0)) (f2 Dl.g9 (fC (.int 1)) (ab 1)))) [some (ax G T W),some (.int (sI b)),some (nD i),some (.tuple (W.map aq)),some (af p.2),some (.list ((own b W i).map nD))]=some ((eu b W i p.2).map nD):=by
   unfold nK;show (hZ _ [none,some (.int (sI b)),some (.tuple (W.map aq)),some (af p.2)] ((own b W i).map nD)).bind _=_;rw[hk,zA,hi,zA,yL (by rw[zD];lia),Gh h e _ λj hj=>?_];simp[hj]
  simp?[aF,bw,zI,yU,tL,uO,bH,es,zB]
 refine aL ?_;show m7 [.val (ax G T W),.val (.int (sI b)),.val (nD i),.non,.non,.non]=_;unfold m7;rw[ai t3,ai t4,ai t5,t6]
local macro_rules|`(tactic| dsimp! [$ts,*])=>`(tactic| simp only[ab,fC,f1,f2,aa,ae,ah,bu,rh,aO,gc,bH,fB,gB,bF,oz,gp,bI,bw,bS,tL,uO,BM,AN,A8,BS,zI,yU,xQ,yY,zA,zB,qG,zL,xK,Nat.reduceAdd,jD,reduceIte,yW,yV,$ts,*])
def gQ(R:S->ar->Prop)(f:α->D)(st:S->α->S):∀ {l:List α}{s:S}{ρ:ar},
  (∀s ρ x,x∈l->R s ρ->∃ρ1 ρ2,tgt ρ (f x)=some ρ1/\gb ρ1=some (.nx ρ2)/\R (st s x) ρ2)->R s ρ->∃ρ',cH tgt gb (l.map f) ρ=some (.nx ρ')/\R (l.foldl st s) ρ'
 | [],s,ρ,_,h=>⟨ρ,rfl,h⟩
 | d::ds,s,ρ,hh,h=>by
  let⟨ρ1,ρ2,e1,e2,h2⟩:=hh s ρ d zE h;let⟨ρ',e3,h3⟩:=gQ R f st (λs ρ x hx=>hh s ρ x (zC _ hx)) h2;refine⟨ρ',?_,h3⟩;rw[zI,cH,e1,zA,e2];exact e3
def lr(R:ar->Prop)(f:α->D)(q:α->Bool)(out:α->D):∀ {l:List α}{ρ:ar},
  (∀ρ x,x∈l->R ρ->∃ρ1,tgt ρ (f x)=some ρ1/\(q x=true->gb ρ1=some (.rt (out x)))/\(q x=false->∃ρ2,gb ρ1=some (.nx ρ2)/\R ρ2))->R ρ ->
  (∀x,l.find? q=some x->cH tgt gb (l.map f) ρ=some (.rt (out x)))/\(l.find? q=none->∃ρ',cH tgt gb (l.map f) ρ=some (.nx ρ')/\R ρ')
 | [],ρ,_,h=>⟨λx hx=>(by cases hx),λ_=>⟨ρ,rfl,h⟩⟩
 | x::l,ρ,hh,h=>by
  let⟨ρ1,e1,e2,e3⟩:=hh ρ x zE h;rw[zI,cH,e1,zA];cases hq:q x with
  | true =>
   rw[List.find?_cons_of_pos (by simpa using hq),e2 hq];exact⟨λy hy=>(by cases hy;rfl),λhn=>(by cases hn)⟩
  | false =>
   let⟨ρ2,e4,h2⟩:=e3 hq;rw[List.find?_cons_of_neg (by simp[hq]),e4];exact lr R f q out (λρ x hx=>hh ρ x (zC _ hx)) h2
def cM(h:cH tgt gb ds ρ1=o)(hi:fi (bS ρ1)=some ds)(hh:hand fz 0 ρ=ρ1):c8 fz fi tgt gb ρ=o:=by
 simp?[c8,hh,hi,zA,h]
def uh(hh:hand fz 0 ρ=ρ')(hf:f (bS ρ')=some ds):aM i fz f ρ=some (.nx (ρ'.set i (.own ds))):=by
 simp?[aM,hh,hf,zB]
def fA(hf:f (bS ρ)=some ds)(hh:hand fz 0 ρ=ρ):aM i fz f ρ=some (.nx (ρ.set i (.own ds))):=uh hh hf
def lC(hh:hand fz 0 ρ=ρ')(hA:f (bw ρ)=some d)(hF:f (bS ρ')=some d)(hs:Dl.pX d=false)(hr:gN d=false\/ρ'=ρ:=by first|exact .inr rfl|exact .inl rfl):Dl.az i fz f ρ=some (.nx (ρ'.set i (.val d))):=by
 rcases hr with hr|hr
 ·simp?[Dl.az,hA,zA,hs,yO,qP,hh,hF,zB,hr]
 ·subst hr;simp?[Dl.az,hA,zA,hs,yO,qP,hh,hF,zB,ite_self]
def call_of(h:m ds=some d)(hf:fs ρ=some ds)(hn:ds.length=n):ah n m fs ρ=some d:=by
 unfold ah;rw[hf,zA,yL hn,h]
def cons_of(h:f ρ=some d)(hs:fs ρ=some ds):aa f fs ρ=some (d::ds):=by
 unfold aa;rw[h,hs];rfl
def aR(hf:f (bw ρ)=some d):aF f ρ=some (.rt d):=by
 simp?[aF,hf,zB]
def dD(hf:f (bw ρ)=some d):iW f ρ=some (.nx ρ):=by
 simp?[iW,hf,zB]
def bZ(h:t (bw ρ)=some false):eP t g eF ρ=some (.nx ρ):=by
 simp[eP,h,eF]
def iF(h:t (bw ρ)=some true):eP t g g2 ρ=g ρ:=by
 simp[eP,h]
def lI(h:g1 ρ=some (.rt d)):au g1 g2 ρ=some (.rt d):=by
 simp?[au,h,zA]
def CL(hf:f (bw ρ)=some d)(hs:Dl.pX d=true)(hk:fk (bw ρ)=some (nD k))(ho:ρ[i]?=some (.own ds))(hl:k < ds.length):An i fz fk f ρ=some (.nx (ρ.set i (.own (ds.set k d)))):=by
 have hx:Gm ds.length ((k:Nat):Int)=some k:=by
  unfold Gm;rw[yL (Int.natCast_nonneg k),yL (by lia)];simp
 simp?[An,k5,hf,zA,hs,xH,hk,nR,ho,hx,zB]
def lp(cont:S->Bool)(st:S->S):Nat->S->S
 | 0,s=>s
 | n+1,s=>if cont s=true then lp cont st n (st s) else s
def vj(R:S->ar->Prop)(cont:S->Bool)(st:S->S)(μ:S->Nat)
  (ht:∀s ρ,R s ρ->t (bw ρ)=some (cont s)) (hb:∀s ρ,R s ρ->cont s=true->∃ρ',gb ρ=some (.nx ρ')/\R (st s) ρ'/\μ (st s) < μ s) :
  ∀ (n:Nat) (s:S) (ρ:ar),μ s < n->R s ρ->∃ρ',HE t gb n ρ=some (.nx ρ')/\R (lp cont st n s) ρ'/\cont (lp cont st n s)=false
 | 0,s,ρ,h,_=>absurd h (by lia)
 | n+1,s,ρ,h,r=>by
  rw[HE,ht s ρ r,zA,lp];cases hc:cont s with
  | false=>exact⟨ρ,by simp,by simpa [hc] using r,by simpa [hc] using hc⟩
  | true =>
   let⟨ρ',e,r',hm⟩:=hb s ρ r hc;let⟨ρ2,e2,r2,c2⟩:=vj R cont st μ ht hb n (st s) ρ' (by lia) r';refine⟨ρ2,?_,by simpa [hc] using r2,by simpa [hc] using c2⟩;simp?[xH,e,zA];exact e2
def nr{off:List Int}(h:i < off.length):av (af off) (nD i)=some (.int (off.getD i 0)):=nG (f:=PyData.int) (l:=off) (by simp[h])
def KQ{off:List Int}(h:i < off.length):av (.list (off.map PyData.int)) (nD i)=some (.int (off.getD i 0)):=AK (f:=PyData.int) (l:=off) (by simp[h])
def pL(h:i < W.length):av (.tuple (W.map aq)) (nD i)=some (aq (aC W i)):=nG (mI h)
def NO(a b c:Int):xf [.int a,.int b,.int c]=some (.int (min (min a b) c)):=rfl
def HL(l:List Int)(k:Nat)(v:Int):(l.map PyData.int).set k (.int v)=(l.set k v).map PyData.int:=by rw[List.map_set]
def IR(l:List Int):br [.list (l.map PyData.int)]=some (af l):=rfl
def tZ(l:List D):br [.list l]=some (.tuple l):=rfl
def B2(l:List D):bK [.tuple l]=some (nD l.length):=rfl
def Ig(l:List Int):bK [af l]=some (nD l.length):=by
 show some (PyData.int ((l.map PyData.int).length:Nat))=_;rw[zD]
def CJ(h:n<=1000):i4 [nD n]=some ((List.range n).map nD):=by
 rw[uY (BJ h),yG]
def pR(h:fs ρ=some [nD n])(hn:n<=1000):aX fs ρ=some ((List.range n).map nD):=by
 unfold aX;rw[h,zA,CJ hn]
def sub_int(i j:Int):Dl.g9 (.int i) (.int j)=some (.int (i - j)):=lX i j
def zeros(hfi:fi ρ=some ds)(hl:ds.length<=1000):aj 1 [] fi (fG 0) (λ_=>some true) (fC (.int 0)) ρ=some ((List.replicate ds.length (0:Int)).map PyData.int):=by
 rw[bW (h:=λ_=>.int 0) hfi (by lia) λd hd=>rfl];simp[List.map_const']
def sD:∀ (a b:List Int),cF (eV 0 1) (λ_=>some true) (f2 aK (ab 0) (ab 1)) (none::none::r) (iC (a.map PyData.int) (b.map PyData.int))=some ((List.zipWith (·+·) a b).map PyData.int)
 | [],b=>by cases b<;>rfl
 | x::a,[]=>rfl
 | x::a,y::b=>by
  have ih:=sD (r:=r) a b;have hg:eV 0 1 (none::none::r) (.tuple [.int x,.int y])=some (some (.int x)::some (.int y)::r):=by
   simp?[eV,isFree,xQ,yY,qG,wG,jO,xH,yV,yW]
  rw[zI,zI,iC,cF,hg,zA];dsimp! [fV,ih,List.zipWith_cons_cons]
def u9(hfi:fi ρ=some (iC (a.map PyData.int) (b.map PyData.int)))(hl:a.length<=1000) :
  aj 2 [] fi (eV 0 1) (λ_=>some true) (f2 aK (ab 0) (ab 1)) ρ=some ((List.zipWith (·+·) a b).map PyData.int):=by
 have:=sD (r:=[]) a b;simp?[aj,hfi,zA,eE,List.replicate,yU,qF,this];refine bh ?_;rw[zD,List.length_zipWith];lia
def cV(W:List Wy)(off:List Int)(left:Int)(i:Nat):Int:=min (min (off.getD i 0) (aC W i).2.2) left
def lU(W:List Wy)(off:List Int)(s:Int×List Int)(i:Nat):Int×List Int:=(s.1 - cV W off s.1 i,s.2.set i (cV W off s.1 i))
def mZ(W:List Wy)(off:List Int)(amt:Int)(is:List Nat):List Int:=(is.foldl (lU W off) (amt,List.replicate W.length 0)).2
def BE(W:List Wy)(off:List Int):∀ (is:List Nat) (s:Int×List Int),(is.foldl (lU W off) s).2.length=s.2.length
 | [],s=>rfl
 | i::is,s=>by rw[yI,BE W off is];simp[lU]
def oQ(W:List Wy)(off:List Int)(amt:Int)(is:List Nat):(mZ W off amt is).length=W.length:=by rw[mZ,BE];simp
def Mm{W:List Wy}(e:(aH b G T)[i]?=some p):av (.tuple ((aH b G T).map bG)) (nD i)=some (bG p):=nG e
def uF{off:List Int}(hi:i < W.length)(ho:off.length=W.length)(hs:s.2.length=W.length) :
  (au (An 4 [0,3,5,6] (ab 6) (bu xf (aa (f2 av (ab 3) (ab 6)) (aa (f2 av (f2 av (f2 av (ab 0) (fC (.int 2))) (ab 6)) (fC (.int 2))) (aa (ab 5) ae))))) (Dl.az 5 [4,5,6] (f2 Dl.g9 (ab 5) (f2 av (ab 4) (ab 6))))) [.val (ax G T W),.val d1,.val d2,.val (af off),.own (s.2.map PyData.int),.val (.int s.1),.val (nD i)]=some (.nx [.val (ax G T W),.val d1,.val d2,.val (af off),.own ((lU W off s i).2.map PyData.int),.val (.int (lU W off s i).1),.val (nD i)]):=by
 have hv:(bu xf (aa (f2 av (ab 3) (ab 6)) (aa (f2 av (f2 av (f2 av (ab 0) (fC (.int 2))) (ab 6)) (fC (.int 2))) (aa (ab 5) ae)))) (bw [.val (ax G T W),.val d1,.val d2,.val (af off),.own (s.2.map PyData.int),.val (.int s.1),.val (nD i)])=some (.int (cV W off s.1 i)):=by
  dsimp! [nr (show i < off.length by lia),sT,pL hi,uJ,NO,cV]
 have t1:=CL (i:=4) (fz:=[0,3,5,6]) (fk:=ab 6) (k:=i) (ds:=s.2.map PyData.int) hv rfl rfl rfl (by rw[zD];lia);rw[HL] at t1;rw[ai t1];have hl:i < (s.2.set i (cV W off s.1 i)).length:=by rw[yC];lia
 have hg:(s.2.set i (cV W off s.1 i)).getD i 0=cV W off s.1 i:=by
  have:i < s.2.length:=by lia
  simp[this]
 have hv2:(f2 Dl.g9 (ab 5) (f2 av (ab 4) (ab 6))) (bw ([.val (ax G T W),.val d1,.val d2,.val (af off),.own (s.2.map PyData.int),.val (.int s.1),.val (nD i)].set 4 (.own ((s.2.set i (cV W off s.1 i)).map PyData.int))))=some (.int (lU W off s i).1):=by
  dsimp! [KQ hl,sub_int,hg,lU]
 rw[cP hv2 rfl];rfl
def iZ{off:List Int}(h:Wd G T W)(ho:off.length=W.length)(e:(aH b G T)[i]?=some p) :
  b9 [ax G T W,.int (sI b),nD i,af off]=some (af (mZ W off p.1 (eu b W i p.2))):=by
 have hw:W.length<=16:=h.wl;have t4:aM 4 [0] (aj 1 [] (aO (f2 av (ab 0) (fC (.int 2)))) (fG 0) (λ_=>some true) (fC (.int 0))) [.val (ax G T W),.val (.int (sI b)),.val (nD i),.val (af off),.non,.non,.non]=some (.nx [.val (ax G T W),.val (.int (sI b)),.val (nD i),.val (af off),.own ((List.replicate W.length (0:Int)).map PyData.int),.non,.non]):=by
  have z:=zeros (fi:=aO (f2 av (ab 0) (fC (.int 2)))) (ρ:=bS [.val (ax G T W),.val (.int (sI b)),.val (nD i),.val (af off),.non,.non,.non]) (ds:=W.map aq) rfl (by rw[zD];lia);rw[zD] at z;exact uh rfl z
 have t5:Dl.az 5 [0,1,2] (f2 av (f2 av (f2 av (ab 0) (ab 1)) (ab 2)) (fC (.int 0))) [.val (ax G T W),.val (.int (sI b)),.val (nD i),.val (af off),.own ((List.replicate W.length (0:Int)).map PyData.int),.non,.non]=some (.nx [.val (ax G T W),.val (.int (sI b)),.val (nD i),.val (af off),.own ((List.replicate W.length (0:Int)).map PyData.int),.val (.int p.1),.non]) :=
  cP (d:=.int p.1) (by dsimp! [l8,Mm (W:=W) e,GL]) rfl
 let⟨ρ',e3,hs',x,rfl⟩:=gQ (tgt:=k3 6) (gb:=(au (An 4 [0,3,5,6] (ab 6) (bu xf (aa (f2 av (ab 3) (ab 6)) (aa (f2 av (f2 av (f2 av (ab 0) (fC (.int 2))) (ab 6)) (fC (.int 2))) (aa (ab 5) ae))))) (Dl.az 5 [4,5,6] (f2 Dl.g9 (ab 5) (f2 av (ab 4) (ab 6)))))) (R:=λs ρ=>s.2.length=W.length/\∃x,ρ=[.val (ax G T W),.val (.int (sI b)),.val (nD i),.val (af off),.own (s.2.map PyData.int),.val (.int s.1),x]) nD (lU W off)
  (l:=eu b W i p.2) (s:=(p.1,List.replicate W.length (0:Int))) (ρ:=[.val (ax G T W),.val (.int (sI b)),.val (nD i),.val (af off),.own ((List.replicate W.length (0:Int)).map PyData.int),.val (.int p.1),.non])
  (λs ρ j hj ⟨hs,x,hρ⟩=>by
   subst hρ;let⟨hjl,_⟩:=cq.mp ((eB h e).mem_iff.mp hj);refine⟨_,_,rfl,uF hjl ho hs,?_,.val (nD j),rfl⟩;simp[lU,hs]) ⟨by simp,_,rfl⟩
 refine aL ?_;show j4 [.val (ax G T W),.val (.int (sI b)),.val (nD i),.val (af off),.non,.non,.non]=_;unfold j4;rw[ai t4,ai t5,ai (cM e3 (by dsimp! [nA h e]) rfl)];exact aR rfl
def cE(b:Bool)(G T:List Pl)(i:Nat):Pl:=(aH b G T).getD i (0,[])
def wb(b:Bool)(G T:List Pl)(W:List Wy)(off s:List Int)(i:Nat):List Int:=List.zipWith (·+·) s (mZ W off (cE b G T i).1 (eu b W i (cE b G T i).2))
def aQ(b:Bool)(G T:List Pl)(W:List Wy)(off:List Int):List Int:=(List.range (aH b G T).length).foldl (wb b G T W off) (List.replicate W.length 0)
def gq(h:i < (aH b G T).length):(aH b G T)[i]?=some (cE b G T i):=by simp[cE,h]
def oF{off:List Int}(h:s.length=W.length):(wb b G T W off s i).length=W.length:=by
 unfold wb;rw[List.length_zipWith,oQ,h,Nat.min_self]
def kj(R:S->Prop):∀ {l:List α}{s:S},(∀s x,x∈l->R s->R (f s x))->R s->R (l.foldl f s)
 | [],s,_,h=>h
 | x::l,s,hh,h=>by
  rw[yI];exact kj (l:=l) R (λs y hy=>hh s y (zC _ hy)) (hh s x zE h)
def c4(b:Bool)(G T:List Pl)(W:List Wy)(off:List Int):(aQ b G T W off).length=W.length :=
 kj (λs:List Int=>s.length=W.length) (λs i _ h=>oF h) (by simp)
def Wd.pl(h:Wd G T W)(b:Bool):(aH b G T).length<=4:=by
 cases b
 ·exact h.g4
 ·exact h.t4
def Pa:ar->Option Out:=(au (Dl.az 5 [0,1,2,4] (ah 4 b9 (aa (ab 0) (aa (ab 1) (aa (ab 4) (aa (ab 2) ae)))))) (aM 3 [3,5] (aj 2 [] (du (aa (ab 3) (aa (ab 5) ae))) (eV 0 1) (λ_=>some true) (f2 aK (ab 0) (ab 1)))))
def cX{off:List Int}(h:Wd G T W)(ho:off.length=W.length)(b:Bool) :
  bo [ax G T W,.int (sI b),af off]=some (af (aQ b G T W off)):=by
 have hw:W.length<=16:=h.wl;have hp:=h.pl b;have t3:aM 3 [0] (aj 1 [] (aO (f2 av (ab 0) (fC (.int 2)))) (fG 0) (λ_=>some true) (fC (.int 0))) [.val (ax G T W),.val (.int (sI b)),.val (af off),.non,.non,.non]=some (.nx [.val (ax G T W),.val (.int (sI b)),.val (af off),.own ((List.replicate W.length (0:Int)).map PyData.int),.non,.non]):=by
  have z:=zeros (fi:=aO (f2 av (ab 0) (fC (.int 2)))) (ρ:=bS [.val (ax G T W),.val (.int (sI b)),.val (af off),.non,.non,.non]) (ds:=W.map aq) rfl (by rw[zD];lia);rw[zD] at z;exact fA z rfl
 let⟨ρ',e3,hs',x,y,rfl⟩:=gQ (tgt:=k3 4) (gb:=Pa) (R:=λs ρ=>s.length=W.length/\∃x y,ρ=[.val (ax G T W),.val (.int (sI b)),.val (af off),.own (s.map PyData.int),x,y]) nD (wb b G T W off)
  (l:=List.range (aH b G T).length) (s:=List.replicate W.length (0:Int)) (ρ:=[.val (ax G T W),.val (.int (sI b)),.val (af off),.own ((List.replicate W.length (0:Int)).map PyData.int),.non,.non])
  (λs ρ i hi ⟨hs,x,y,hρ⟩=>by
   subst hρ;have ei:=gq (List.mem_range.mp hi);have t1:Dl.az 5 [0,1,2,4] (ah 4 b9 (aa (ab 0) (aa (ab 1) (aa (ab 4) (aa (ab 2) ae))))) [.val (ax G T W),.val (.int (sI b)),.val (af off),.own (s.map PyData.int),.val (nD i),y]=some (.nx [.val (ax G T W),.val (.int (sI b)),.val (af off),.own (s.map PyData.int),.val (nD i),.val (af (mZ W off (cE b G T i).1 (eu b W i (cE b G T i).2)))]):=by
    refine lC (ρ':=[.val (ax G T W),.val (.int (sI b)),.val (af off),.own (s.map PyData.int),.val (nD i),y]) rfl (d:=af (mZ W off (cE b G T i).1 (eu b W i (cE b G T i).2))) ?_ ?_ rfl
    ·dsimp! [iZ h ho ei]
    ·dsimp! [iZ h ho ei]
   have t2:aM 3 [3,5] (aj 2 [] (du (aa (ab 3) (aa (ab 5) ae))) (eV 0 1) (λ_=>some true) (f2 aK (ab 0) (ab 1))) [.val (ax G T W),.val (.int (sI b)),.val (af off),.own (s.map PyData.int),.val (nD i),.val (af (mZ W off (cE b G T i).1 (eu b W i (cE b G T i).2)))]=some (.nx [.val (ax G T W),.val (.int (sI b)),.val (af off),.own ((wb b G T W off s i).map PyData.int),.val (nD i),.val (af (mZ W off (cE b G T i).1 (eu b W i (cE b G T i).2)))]):=by
    refine uh (ρ':=[.val (ax G T W),.val (.int (sI b)),.val (af off),.val (.list (s.map PyData.int)),.val (nD i),.val (af (mZ W off (cE b G T i).1 (eu b W i (cE b G T i).2)))]) rfl (ds:=(wb b G T W off s i).map PyData.int) ?_;exact u9 (a:=s) (b:=mZ W off (cE b G T i).1 (eu b W i (cE b G T i).2)) rfl (by lia)
   exact⟨_,_,rfl,(ai t1).trans t2,oF hs,_,_,rfl⟩) ⟨by simp,_,_,rfl⟩
 refine aL ?_;show eM [.val (ax G T W),.val (.int (sI b)),.val (af off),.non,.non,.non]=_;unfold eM;rw[ai t3];refine (ai (cM e3 (pR (by dsimp! [l8,B2,zD]) (by lia)) rfl)).trans ?_;exact aR rfl
def tE(h:(xs++ys).length<=4000):Dl.aK (.tuple xs) (.tuple ys)=some (.tuple (xs++ys)):=by
 simp?[Dl.aK,uR,IC,bh h,zB,Option.none_or,Option.some_or]
def Ng(h:f ρ=some d):aS (aa f ae) ρ=some (.tuple [d]):=by
 simp?[aS,aa,ae,h,zA,zB];rw[bh (by simp),zB]
def N7(h:f ρ=some d)(h2:g ρ=some e):aS (aa f (aa g ae)) ρ=some (.tuple [d,e]):=by
 simp?[aS,aa,ae,h,h2,zA,zB];rw[bh (by simp),zB]
def ay(h:g a b=some c)(ha:fa ρ=some a)(hb:fb ρ=some b):f2 g fa fb ρ=some c:=by rw[iT ha hb,h]
def Kw(h:f ρ=some (.tuple ds))(h2:g ρ=some (nD k)):lH fO f lE (zk g) ρ=some (.tuple (ds.take k)):=by
 simp?[lH,h,lE,zk,h2,zA,gI,zB,fO,Do]
def Lj(h:f ρ=some (.tuple ds))(h2:g ρ=some (nD k)):lH fO f (zk g) lE ρ=some (.tuple (ds.drop k)):=by
 simp?[lH,h,lE,zk,h2,zA,gI,zB,fO,xp]
def OG(d:D)(ds:List D):av (.tuple (d::ds)) (.int 0)=some d:=pV (i:=0) rfl
def NI(c d:D)(ds:List D):av (.tuple (c::d::ds)) (.int 1)=some d:=pV (i:=1) rfl
def AJ(c:List Int)(i:Nat)(v:Int)(h:i < c.length):((c.map PyData.int).take i++[PyData.int v])++(c.map PyData.int).drop (i+1)=(c.set i v).map PyData.int:=by
 rw[List.set_eq_take_append_cons_drop,yL h];simp
def O0(i:Nat):Dl.aK (nD i) (.int 1)=some (nD (i+1)):=by
 rw[fV];rfl
def y9(h:i < c.length)(hl:c.length<=1000):lR [af c,nD i,.int v]=some (af (c.set i v)):=by
 refine aL ?_;show pN [.val (af c),.val (nD i),.val (.int v)]=_;refine aR ?_;refine ay (a:=.tuple ((c.map PyData.int).take i++[PyData.int v])) (b:=.tuple ((c.map PyData.int).drop (i+1))) ?_ (ay (a:=.tuple ((c.map PyData.int).take i)) (b:=.tuple [.int v]) (tE ?_) (Kw rfl rfl) (Ng rfl)) (Lj rfl (ay (O0 i) rfl rfl))
 ·rw[tE,AJ c i v h]
  ·rfl
  ·rw[AJ c i v h];simp;lia
 ·simp;lia
def rO(h:i < c.length)(hl:c.length<=1000):cR [af c,nD i,.int v]=some (af (c.set i v)):=by
 refine aL ?_;show rZ [.val (af c),.val (nD i),.val (.int v)]=_;exact aR (call_of (y9 h hl) rfl rfl)
def dw(W:List Wy):List Int:=W.map λw=>w.2.2
def FW(h:Wd G T W)(hf:f ρ=some (ax G T W)):(bu br (aa (bH (aj 1 [] (aO (f2 av f (fC (.int 2)))) (fG 0) (λ_=>some true) (f2 av (ab 0) (fC (.int 2))))) ae)) ρ=some (af (dw W)):=by
 have hw:=h.wl;have hs:(aO (f2 av f (fC (.int 2)))) ρ=some (W.map aq):=by
  unfold aO;rw[ay (sT G T W) hf rfl];rfl
 have e:aj 1 [] (aO (f2 av f (fC (.int 2)))) (fG 0) (λ_=>some true) (f2 av (ab 0) (fC (.int 2))) ρ=some ((dw W).map PyData.int):=by
  rw[bW (h:=λd=>.int (ig ((cG d).getD 2 .none))) hs (by rw[zD];lia) λd hd=>?_]
  ·rw[dw,zM,zM];rfl
  ·let⟨w,hw',rfl⟩:=List.mem_map.mp hd;rfl
 simp?[bu,aa,ae,bH,e,zB,zA,IR]
def md(h:Wd G T W):gP [ax G T W]=some (af (dw W)):=by
 refine aL ?_;show we [.val (ax G T W)]=_;exact aR (FW h rfl)
def mS(W:List Wy):(dw W).length=W.length:=by simp[dw]
def iS(G T:List Pl)(W:List Wy)(c:List Int):List Int:=aQ true G T W (aQ false G T W c)
def qR(G T:List Pl)(W:List Wy)(c:List Int)(k:Nat):Bool:=decide ((iS G T W c).getD k 0 < (aQ false G T W c).getD k 0)
def qs(G T:List Pl)(W:List Wy)(c:List Int):Option (Nat×Int):=((List.range W.length).find? (qR G T W c)).map λk=>(k,(iS G T W c).getD k 0)
def Ay:Option (Nat×Int)->D
 | none=>.none
 | some p=>.tuple [nD p.1,.int p.2]
def enum_zip:∀ (ds:List D) (k:Nat),bB k ds=(ds.zipIdx k).map λq=>.tuple [nD q.2,q.1]
 | [],k=>rfl
 | d::ds,k=>by rw[bB,enum_zip ds (k+1),List.zipIdx_cons];rfl
def CD(l:List Int):bB 0 (l.map PyData.int)=(List.range l.length).map λk=>.tuple [nD k,.int (l.getD k 0)]:=by
 rw[enum_zip];apply jH
 ·simp
 ·intro i h1 h2;have:i < l.length:=by simpa using h2
  simp[this]
def JX(G T:List Pl)(W:List Wy)(c:List Int):(iS G T W c).length=W.length:=c4 _ _ _ _ _
def NJ:ar->Option Out:=(eP (fB (f2 Di (ab 5) (f2 av (ab 2) (ab 4)))) (aF (aS (aa (ab 4) (aa (ab 5) ae)))) eF)
def j7(h:Wd G T W)(ho:c.length=W.length):dO [ax G T W,af c]=some (Ay (qs G T W c)):=by
 have hw:W.length<=16:=h.wl;have t2:Dl.az 2 [0,1] (ah 3 bo (aa (ab 0) (aa (fC (.int 0)) (aa (ab 1) ae)))) [.val (ax G T W),.val (af c),.non,.non,.non,.non]=some (.nx [.val (ax G T W),.val (af c),.val (af (aQ false G T W c)),.non,.non,.non]) :=
  bX (call_of (cX h ho false) rfl rfl) rfl rfl rfl
 have t3:Dl.az 3 [0,2] (ah 3 bo (aa (ab 0) (aa (fC (.int 1)) (aa (ab 2) ae)))) [.val (ax G T W),.val (af c),.val (af (aQ false G T W c)),.non,.non,.non]=some (.nx [.val (ax G T W),.val (af c),.val (af (aQ false G T W c)),.val (af (iS G T W c)),.non,.non]) :=
  bX (call_of (cX h (c4 _ _ _ _ _) true) rfl rfl) rfl rfl rfl
 have hl:=lr (tgt:=iB 4 5) (gb:=NJ) (R:=λρ=>∃x y,ρ=[.val (ax G T W),.val (af c),.val (af (aQ false G T W c)),.val (af (iS G T W c)),x,y]) (λk=>.tuple [nD k,.int ((iS G T W c).getD k 0)]) (qR G T W c) (λk=>.tuple [nD k,.int ((iS G T W c).getD k 0)])
  (l:=List.range W.length) (ρ:=[.val (ax G T W),.val (af c),.val (af (aQ false G T W c)),.val (af (iS G T W c)),.non,.non])
  (λρ k hk ⟨x,y,hρ⟩=>by
   subst hρ;have hk':k < (aQ false G T W c).length:=by rw[c4];exact List.mem_range.mp hk
   have hc:(fB (f2 Di (ab 5) (f2 av (ab 2) (ab 4)))) (bw [.val (ax G T W),.val (af c),.val (af (aQ false G T W c)),.val (af (iS G T W c)),.val (nD k),.val (.int ((iS G T W c).getD k 0))])=some (qR G T W c k):=by
    dsimp! [nr hk',mL,qR]
   refine⟨[.val (ax G T W),.val (af c),.val (af (aQ false G T W c)),.val (af (iS G T W c)),.val (nD k),.val (.int ((iS G T W c).getD k 0))],rfl,λhq=>?_,λhq=>?_⟩
   ·rw[hq] at hc;unfold NJ;rw[iF hc];exact aR (N7 rfl rfl)
   ·rw[hq] at hc;unfold NJ;rw[bZ hc];exact⟨_,rfl,_,_,rfl⟩) ⟨_,_,rfl⟩
 have hi:(bI (aa (ab 3) ae)) (bS [.val (ax G T W),.val (af c),.val (af (aQ false G T W c)),.val (af (iS G T W c)),.non,.non])=some ((List.range W.length).map λk=>.tuple [nD k,.int ((iS G T W c).getD k 0)]):=by
  have:=CD (iS G T W c);rw[JX] at this;rw[<- this];rfl
 refine aL ?_;show nq [.val (ax G T W),.val (af c),.non,.non,.non,.non]=_;unfold nq;rw[ai t2,ai t3];unfold qs;cases hq:(List.range W.length).find? (qR G T W c) with
 | some k =>
  exact lI (cM (hl.1 k hq) hi rfl)
 | none =>
  let⟨ρ',e,x,y,rfl⟩:=hl.2 hq;exact (ai (cM e hi rfl)).trans (aR rfl)
def cy(l:List Int)(k:Nat)(v:Int)(i:Nat):(l.set k v).getD i 0=if k=i/\i < l.length then v else l.getD i 0:=by
 simp?[zG,xI];by_cases h:k=i
 ·subst h;by_cases h2:k < l.length
  ·simp[h2]
  ·simp[h2]
 ·simp[h]
def v8{a b:List Int}{i:Nat}(ha:i < a.length)(hb:i < b.length):(List.zipWith (·+·) a b).getD i 0=a.getD i 0+b.getD i 0:=by
 rw[zG,zG,zG,List.getElem?_zipWith,zK ha,zK hb];rfl
def Off(off:List Int):Prop:=∀i,0<=off.getD i 0
def NW(W:List Wy):Prop:=∀i,0<=(aC W i).2.2
def Wd.lim{G T:List Pl}{W:List Wy}(h:Wd G T W):NW W:=λi=>by
 by_cases hi:i < W.length
 ·have:=h.wr (aC W i) (by rw[<- gy hi];exact qA hi);lia
 ·simp?[aC,zG];rw[jL (by lia)];simp
def Wd.amt{G T:List Pl}{W:List Wy}(h:Wd G T W)(b:Bool)(i:Nat):0<=(cE b G T i).1:=by
 unfold cE;rw[zG];cases e:(aH b G T)[i]? with
 | none=>simp
 | some p =>
  have hm:=qB e;cases b
  ·exact (h.ga p hm).1
  ·exact (h.ta p hm).1
def Lx{W:List Wy}{off:List Int}(ho:Off off)(hl:NW W){amt:Int}(ha:0<=amt)(is:List Nat)(i:Nat):0<=(mZ W off amt is).getD i 0/\(mZ W off amt is).getD i 0<=off.getD i 0:=by
 have:=kj (l:=is) (f:=lU W off) (s:=(amt,List.replicate W.length 0)) (λs=>0<=s.1/\∀i,0<=s.2.getD i 0/\s.2.getD i 0<=off.getD i 0) (λs k _ ⟨h1,h2⟩=>by
  have ok:=ho k;have lk:=hl k;have v0:0<=cV W off s.1 k:=by unfold cV;lia
  have v1:cV W off s.1 k<=off.getD k 0:=by unfold cV;lia
  have v2:cV W off s.1 k<=s.1:=by unfold cV;lia
  refine⟨by simp?[lU];lia,λi=>?_⟩;simp?[lU,cy];split
  ·rename_i z;rw[<- z.1];exact⟨v0,v1⟩
  ·exact h2 i) ⟨ha,λi=>by
   have:=ho i;have z:(List.replicate W.length (0:Int)).getD i 0=0:=by
    simp?[zG,yX];split<;>rfl
   simp?[z];lia⟩
 exact this.2 i
def BF{W:List Wy}{off:List Int}{amt:Int}{is:List Nat}{i:Nat}(hi:i∉is):(mZ W off amt is).getD i 0=0:=by
 refine kj (l:=is) (f:=lU W off) (s:=(amt,List.replicate W.length 0)) (λs=>s.2.getD i 0=0) (λs k hk h=>?_) ?_
 ·simp?[lU,cy];have hki:¬ (k=i/\i < s.2.length):=λz=>hi (z.1 ▸ hk);rw[yN hki,h]
 ·simp?[zG,yX];split<;>rfl
def tm{G T:List Pl}{W:List Wy}(h:Wd G T W){off:List Int}(ho:Off off)(b:Bool):∀ (n:Nat),n<=(aH b G T).length ->
  ((List.range n).foldl (wb b G T W off) (List.replicate W.length 0)).length=W.length/\∀i,i < W.length->(0<=((List.range n).foldl (wb b G T W off) (List.replicate W.length 0)).getD i 0/\((List.range n).foldl (wb b G T W off) (List.replicate W.length 0)).getD i 0<=off.getD i 0)/\((n:Nat)<=bq b (aC W i)->((List.range n).foldl (wb b G T W off) (List.replicate W.length 0)).getD i 0=0)
 | 0,_=>by
  refine⟨by simp,λi hi=>?_⟩;have:=ho i;have z:((List.range 0).foldl (wb b G T W off) (List.replicate W.length 0)).getD i 0=0:=by simp[zG,hi]
  rw[z];exact⟨by lia,λ_=>rfl⟩
 | n+1,hn=>by
  let⟨h1,h2⟩:=tm h ho b n (by lia);rw[vQ,vA,yI,List.foldl_nil];generalize (List.range n).foldl (wb b G T W off) (List.replicate W.length 0)=s at h1 h2;refine⟨oF h1,λi hi=>?_⟩;let⟨h3,h4⟩:=h2 i hi;have e:=gq (b:=b) (G:=G) (T:=T) (i:=n) (by lia);have hc:=Lx ho h.lim (h.amt b n) (eu b W n (cE b G T n).2) i;have hz:(wb b G T W off s n).getD i 0=s.getD i 0+(mZ W off (cE b G T n).1 (eu b W n (cE b G T n).2)).getD i 0:=v8 (by lia) (by rw[oQ];exact hi);rw[hz];by_cases he:bq b (aC W i)=n
  ·rw[h4 (by lia)];exact⟨by lia,λz=>by lia⟩
  ·have hni:i∉eu b W n (cE b G T n).2:=λz=>he (cq.mp ((eB h e).mem_iff.mp z)).2;rw[BF hni];exact⟨by lia,λz=>by rw[h4 (by lia)];rfl⟩
def fU{l:List Int}{i:Nat}(h:l.length<=i):l.getD i 0=0:=by simp[zG,h]
def ip{G T:List Pl}{W:List Wy}(h:Wd G T W){off:List Int}(ho:Off off)(b:Bool):Off (aQ b G T W off):=λi=>by
 by_cases hi:i < W.length
 ·exact ((tm h ho b _ (yM _)).2 i hi).1.1
 ·rw[fU (by rw[c4];lia)];exact xZ 0
def yt{G T:List Pl}{W:List Wy}(h:Wd G T W){off:List Int}(ho:Off off)(b:Bool){i:Nat}(hi:i < W.length):(aQ b G T W off).getD i 0<=off.getD i 0 :=
 ((tm h ho b _ (yM _)).2 i hi).1.2
def AI{G T:List Pl}{W:List Wy}(h:Wd G T W){c:List Int}(ho:Off c){p:Nat×Int}(e:qs G T W c=some p):p.1 < W.length/\0<=p.2/\p.2 < c.getD p.1 0:=by
 unfold qs at e;let⟨k,hk,rfl⟩:=Dl.ag e;have hm:=jX hk;have hq:=vS hk;have hi:=List.mem_range.mp hm;rw[qR,zJ] at hq;have a:=yt h ho false hi;have b:=ip h (ip h ho false) true k;exact⟨hi,b,by simp only;lia⟩
def mea(c:List Int):Nat:=(c.map Int.toNat).sum
def Bl:∀ {c:List Int}{k:Nat}{v:Int},0<=v->v < c.getD k 0->mea (c.set k v) < mea c
 | [],k,v,h0,h1=>by simp at h1;lia
 | x::c,0,v,h0,h1=>by
  simp at h1;simp?[mea,yV,zI,kC];lia
 | x::c,k+1,v,h0,h1=>by
  have:=Bl (c:=c) (k:=k) h0 (by simpa using h1);simp?[mea,yW,zI,kC] at this ⊢;lia
def AH:∀ {W:List Wy},(∀w∈W,w.2.2<=9)->mea (dw W)<=9 * W.length
 | [],_=>by simp[mea,dw]
 | w::W,h=>by
  have:=AH (W:=W) λx hx=>h x (zC _ hx);have:=h w zE;simp?[mea,dw,zI,kC,zL] at *;lia
def ID{G T:List Pl}{W:List Wy}(h:Wd G T W):Off (dw W):=λi=>by
 have:=h.lim i;by_cases hi:i < W.length
 ·simpa [dw,aC,zG,hi] using this
 ·rw[fU (by rw[mS];lia)];exact xZ 0
def A3{c:List Int}(h:Off c){k:Nat}{v:Int}(hv:0<=v):Off (c.set k v):=λi=>by
 rw[cy];split
 ·exact hv
 ·exact h i
def lA(a:List Int):SeqAt.shaped (af a)=true :=
 (ib.tup (b:=a.length) (k:=0) (by simp) λx hx=>by let⟨i,_,rfl⟩:=List.mem_map.mp hx;exact kb _).shaped (by decide)
def pY(a b:List Int):PyData.eqv (af a) (af b)=decide (a=b):=by
 rw[af,af,PyData.eqv,mW]
def bM(h:f ρ=some (.bool b)):fB f ρ=some b:=by
 simp?[fB,h,zA,gB]
def d5(h:t ρ=some b):bF t ρ=some (!b):=by
 simp?[bF,h,zB]
def nM(h:t ρ=some false)(h2:u ρ=some false):gp t u ρ=some false:=by
 simp?[gp,h,zA,h2]
def Eh(a b:List Int):dv (af a) (af b)=some (.bool (!decide (a=b))):=by
 simp?[dv,LV,lA,jO,xH,pY,zB]
def p9(a b:List Int):bT (af a) (af b)=some (.bool (decide (a=b))):=by
 simp?[bT,KY,lA,jO,xH,pY,zB]
def dZ(a:List Int):dv (af a) (af a)=some (.bool false):=by rw[Eh];simp
def IA(x:Option (Nat×Int)):nX (Ay x) .none=some (.bool x.isSome):=by cases x<;>rfl
def bC(hA:f (bw ρ)=some d)(hF:f (bS ρ)=some d)(hh:hand fz 0 ρ=ρ):Dl.az i fz f ρ=some (.nx (ρ.set i (.val d))):=by
 cases hs:Dl.pX d with
 | true=>exact cP hA hs
 | false=>exact lC hh hA hF hs (.inr rfl)
def KA(hA:f (bw ρ)=some d)(hF:f (bS ρ)=some d)(hh:hand fz 0 ρ=ρ)(ho:ρ[i]?=some (.own ds))(hl:ds.length < 4000):lj i fz f ρ=some (.nx (ρ.set i (.own (ds++[d])))):=by
 have hz:ds.length < sizeLine:=zP hl (by decide);have hi:k5 fz f ρ=some (d,ρ):=by
  unfold k5;rw[hA,zA,hh,hF];cases Dl.pX d<;>rfl
 simp?[lj,hi,zA,nR,ho,hz,xH,zB]
def ee(h:Wd G T W):cD [ax G T W]=some .none:=by
 have hw:cI [ax G T W]=some (.bool true):=by rw[zr h.fit (by decide),h.wok]
 have hc:(bF (fB (ah 1 cI (aa (ab 0) ae)))) (bw [.val (ax G T W)])=some false:=d5 (bM (call_of hw rfl rfl));have:d7 [.val (ax G T W)]=some (.nx [.val (ax G T W)]):=by
  unfold d7;rw[bZ hc]
 show (d7 [.val (ax G T W)]).map _=_;rw[this];rfl
def qw(h1:a<=i)(h2:i<=b):gF [.int i,.int a,.int b]=some .none:=by
 have hw:bA [.int i,.int a,.int b]=some (.bool true):=by rw[fX rfl];simp[whole,h1,h2]
 have hc:(bF (fB (ah 3 bA (aa (ab 0) (aa (ab 1) (aa (ab 2) ae)))))) (bw [.val (.int i),.val (.int a),.val (.int b)])=some false:=d5 (bM (call_of hw rfl rfl));have:d6 [.val (.int i),.val (.int a),.val (.int b)]=some (.nx [.val (.int i),.val (.int a),.val (.int b)]):=by
  unfold d6;rw[bZ hc]
 show (d6 [.val (.int i),.val (.int a),.val (.int b)]).map _=_;rw[this];rfl
def pw(h1:0<=i)(h2:i<=n - 1):fN [.int i,.int n]=some .none:=by
 have:dF [.val (.int i),.val (.int n)]=some (.nx [.val (.int i),.val (.int n)]):=by
  unfold dF;exact dD (call_of (qw h1 h2) (cons_of rfl (cons_of rfl (cons_of (ay (sub_int n 1) rfl rfl) rfl))) rfl)
 show (dF [.val (.int i),.val (.int n)]).map _=_;rw[this];rfl
def mF(b:Bool):fj [.int (sI b)]=some .none:=by
 have:eW [.val (.int (sI b))]=some (.nx [.val (.int (sI b))]):=by
  unfold eW;exact dD (call_of (pw (n:=2) (i:=sI b) (by cases b<;>decide) (by cases b<;>decide)) rfl rfl)
 show (eW [.val (.int (sI b))]).map _=_;rw[this];rfl
abbrev Sp:=List (Nat×Int)×List Int
def JA(G T:List Pl)(W:List Wy)(s:Sp):Bool:=(qs G T W s.2).isSome
def spS(G T:List Pl)(W:List Wy)(s:Sp):Sp:=match qs G T W s.2 with|some p=>(s.1++[p],s.2.set p.1 p.2)|none=>s
def low(c:List Int)(p:Nat×Int):List Int:=c.set p.1 p.2
structure yl(W:List Wy)(s:Sp):Prop where
 len:s.2.length=W.length
 off:Off s.2
 eq:s.2=s.1.foldl low (dw W)
 bd:s.1.length+mea s.2<=mea (dw W)
 mem:∀p∈s.1,p.1 < W.length
def yl.start(h:Wd G T W):yl W ([],dw W):=⟨mS W,ID h,rfl,by simp,λp hp=>by cases hp⟩
def qo(e:qs G T W s.2=some p):spS G T W s=(s.1++[p],s.2.set p.1 p.2):=by
 unfold spS;rw[e]
def yl.step(h:Wd G T W)(i:yl W s)(e:qs G T W s.2=some p):yl W (spS G T W s)/\mea (spS G T W s).2 < mea s.2:=by
 let⟨h1,h2,h3⟩:=AI h i.off e;have hm:=Bl h2 h3;rw[qo e];refine⟨⟨by simp[i.len],A3 i.off h2,?_,?_,λq hq=>?_⟩,hm⟩
 ·rw[vA,<- i.eq];rfl
 ·have:=i.bd;simp?[zN,xC];lia
 ·rcases List.mem_append.mp hq with z|z
  ·exact i.mem q z
  ·rw[yJ] at z;rw[z];exact h1
def Wd.mea(h:Wd G T W):mea (dw W)<=144:=by
 have:=AH (W:=W) λw hw=>(h.wr w hw).2.2.2;have:=h.wl;lia
def qr(r:List (Nat×Int)):List D:=(r.map λp=>[((p.1:Nat):Int),p.2]).map af
def Ic(r:List (Nat×Int))(p:Nat×Int):qr (r++[p])=qr r++[Ay (some p)]:=by simp[qr];rfl
def HR(r:List (Nat×Int)):(qr r).length=r.length:=by simp[qr]
def fin(G T:List Pl)(W:List Wy):Sp:=lp (JA G T W) (spS G T W) Rf.turns ([],dw W)
def NK:ar->Option Out:=(au (lj 1 [3] (ab 3)) (au (Dl.az 2 [2,3] (ah 3 cR (aa (ab 2) (aa (f2 av (ab 3) (fC (.int 0))) (aa (f2 av (ab 3) (fC (.int 1))) ae))))) (Dl.az 3 [0,2] (ah 2 dO (aa (ab 0) (aa (ab 2) ae))))))
def qt(G T:List Pl)(W:List Wy)(s:Sp):ar:=[.val (ax G T W),.own (qr s.1),.val (af s.2),.val (Ay (qs G T W s.2))]
def Hq(h:Wd G T W)(i:yl W s)(e:qs G T W s.2=some p):NK (qt G T W s)=some (.nx (qt G T W (spS G T W s))):=by
 let⟨h1,h2,h3⟩:=AI h i.off e;let⟨i2,hm⟩:=i.step h e;have hb:=h.mea;have hbd:=i.bd;have hw:=h.wl;have t1:lj 1 [3] (ab 3) (qt G T W s)=some (.nx [.val (ax G T W),.own (qr s.1++[Ay (some p)]),.val (af s.2),.val (Ay (some p))]):=by
  unfold qt;rw[e];exact KA rfl rfl rfl rfl (by rw[HR];lia)
 have hlow:∀ρ:Dl.Env,ab 2 ρ=some (af s.2)->ab 3 ρ=some (Ay (some p))->(ah 3 cR (aa (ab 2) (aa (f2 av (ab 3) (fC (.int 0))) (aa (f2 av (ab 3) (fC (.int 1))) ae)))) ρ=some (af (s.2.set p.1 p.2)):=λρ a b =>
  call_of (rO (c:=s.2) (i:=p.1) (v:=p.2) (by rw[i.len];exact h1) (by rw[i.len];lia)) (cons_of a (cons_of (ay (OG _ _) b rfl) (cons_of (ay (NI _ _ _) b rfl) rfl))) rfl
 have t2:Dl.az 2 [2,3] (ah 3 cR (aa (ab 2) (aa (f2 av (ab 3) (fC (.int 0))) (aa (f2 av (ab 3) (fC (.int 1))) ae)))) [.val (ax G T W),.own (qr s.1++[Ay (some p)]),.val (af s.2),.val (Ay (some p))]=some (.nx [.val (ax G T W),.own (qr s.1++[Ay (some p)]),.val (af (s.2.set p.1 p.2)),.val (Ay (some p))]) :=
  bC (hlow _ rfl rfl) (hlow _ rfl rfl) rfl
 have hl2:(s.2.set p.1 p.2).length=W.length:=by rw[yC,i.len]
 have t3:Dl.az 3 [0,2] (ah 2 dO (aa (ab 0) (aa (ab 2) ae))) [.val (ax G T W),.own (qr s.1++[Ay (some p)]),.val (af (s.2.set p.1 p.2)),.val (Ay (some p))]=some (.nx [.val (ax G T W),.own (qr s.1++[Ay (some p)]),.val (af (s.2.set p.1 p.2)),.val (Ay (qs G T W (s.2.set p.1 p.2)))]) :=
  bC (call_of (j7 h hl2) rfl rfl) (call_of (j7 h hl2) rfl rfl) rfl
 unfold NK;rw[ai t1,ai t2,t3,qo e];unfold qt;rw[Ic]
def mQ(h:JA G T W s=true):∃p,qs G T W s.2=some p:=Option.isSome_iff_exists.mp h
def GU(h:Wd G T W):td [ax G T W]=some (.list (qr (fin G T W).1))/\yl W (fin G T W):=by
 have hb:=h.mea;have t1:aM 1 [] (dJ ae) [.val (ax G T W),.non,.non,.non]=some (.nx [.val (ax G T W),.own [],.non,.non]):=fA (f:=dJ ae) (ds:=[]) (show small []=some [] from bh (by simp)) rfl;have t2:Dl.az 2 [0] (ah 1 gP (aa (ab 0) ae)) [.val (ax G T W),.own [],.non,.non]=some (.nx [.val (ax G T W),.own [],.val (af (dw W)),.non]) :=
  bC (call_of (md h) rfl rfl) (call_of (md h) rfl rfl) rfl
 have t3:Dl.az 3 [0,2] (ah 2 dO (aa (ab 0) (aa (ab 2) ae))) [.val (ax G T W),.own [],.val (af (dw W)),.non]=some (.nx (qt G T W ([],dw W))) :=
  bC (call_of (j7 h (mS W)) rfl rfl) (call_of (j7 h (mS W)) rfl rfl) rfl
 let⟨ρ',ew,⟨rfl,iv⟩,_⟩:=vj (t:=(fB (f2 nX (ab 3) (fC .none)))) (gb:=NK) (R:=λs ρ=>ρ=qt G T W s/\yl W s) (JA G T W) (spS G T W) (λs=>mea s.2)
  (λs ρ ⟨hρ,i⟩=>by
   subst hρ;exact bM (ay (IA _) rfl rfl))
  (λs ρ ⟨hρ,i⟩ hc=>by
   subst hρ;let⟨p,e⟩:=mQ hc;exact⟨_,Hq h i e,⟨rfl,(i.step h e).1⟩,(i.step h e).2⟩)
  Rf.turns ([],dw W) (qt G T W ([],dw W)) (qZ hb (by decide)) ⟨rfl,yl.start h⟩
 refine⟨?_,iv⟩;refine aL ?_;show ug [.val (ax G T W),.non,.non,.non]=_;unfold ug;rw[ai t1,ai t2,ai t3];refine (ai ew).trans ?_;exact aR rfl
def HS(c:List Int)(p:Nat×Int):(low c p).length=c.length:=by simp[low]
def D9(h:Wd G T W)(hr:∀p∈r,p.1 < W.length):oZ [ax G T W,.list (qr r)]=some (af (r.foldl low (dw W))):=by
 have hw:=h.wl;have t2:Dl.az 2 [0] (ah 1 gP (aa (ab 0) ae)) [.val (ax G T W),.val (.list (qr r)),.non,.non,.non]=some (.nx [.val (ax G T W),.val (.list (qr r)),.val (af (dw W)),.non,.non]) :=
  bC (call_of (md h) rfl rfl) (call_of (md h) rfl rfl) rfl
 let⟨ρ',e3,hs',x,y,rfl⟩:=gQ (tgt:=iB 3 4) (gb:=Dl.az 2 [2,3,4] (ah 3 cR (aa (ab 2) (aa (ab 3) (aa (ab 4) ae))))) (R:=λ(c:List Int) ρ=>c.length=W.length/\∃x y,ρ=[.val (ax G T W),.val (.list (qr r)),.val (af c),x,y]) (λp:Nat×Int=>af [((p.1:Nat):Int),p.2]) low
  (l:=r) (s:=dw W) (ρ:=[.val (ax G T W),.val (.list (qr r)),.val (af (dw W)),.non,.non])
  (λc ρ p hp ⟨hc,x,y,hρ⟩=>by
   subst hρ;have el:=rO (c:=c) (i:=p.1) (v:=p.2) (by rw[hc];exact hr p hp) (by lia);have t:Dl.az 2 [2,3,4] (ah 3 cR (aa (ab 2) (aa (ab 3) (aa (ab 4) ae)))) [.val (ax G T W),.val (.list (qr r)),.val (af c),.val (nD p.1),.val (.int p.2)]=some (.nx [.val (ax G T W),.val (.list (qr r)),.val (af (low c p)),.val (nD p.1),.val (.int p.2)]) :=
    bC (call_of el rfl rfl) (call_of el rfl rfl) rfl
   exact⟨_,_,rfl,t,by rw[HS,hc],_,_,rfl⟩) ⟨mS W,_,_,rfl⟩
 refine aL ?_;show p7 [.val (ax G T W),.val (.list (qr r)),.non,.non,.non]=_;unfold p7;rw[ai t2];refine (ai (cM e3 ?_ rfl)).trans (aR rfl);show some (qr r)=_;rw[qr,zM];rfl
def qv(h:Wd G T W):bE [ax G T W]=some (af (aQ false G T W (fin G T W).2)):=by
 let⟨e1,i⟩:=GU h;have e2:=D9 h i.mem;rw[<- i.eq] at e2;refine aL ?_;show gu [.val (ax G T W)]=_;unfold gu;refine (ai (dD (call_of (ee h) rfl rfl))).trans ?_;exact aR (call_of (cX h i.len false) (cons_of rfl (cons_of rfl (cons_of (call_of e2 (cons_of rfl (cons_of (call_of e1 rfl rfl) rfl)) rfl) rfl))) rfl)
def KU(w:Wy):Wy:=(w.2.1,w.1,w.2.2)
structure Ord(W:List Wy)(π:List Nat):Prop where
 perm:π.Perm (List.range W.length)
 up:π.Pairwise λi j=>(aC W i).2.1 < (aC W j).2.1\/((aC W i).2.1=(aC W j).2.1/\(aC W i).1 < (aC W j).1)
def dH(W:List Wy)(π:List Nat):List Wy:=π.map λi=>KU (aC W i)
def k7(P:List Int)(π:List Nat):List Int:=π.map λi=>P.getD i 0
def Ord.len(o:Ord W π):π.length=W.length:=by rw[o.perm.length_eq,zR]
def Ord.lt(o:Ord W π)(hk:k < W.length):π.getD k 0 < W.length:=by
 have h:k < π.length:=by rw[o.len];exact hk
 have:=o.perm.mem_iff.mp (qA h);rw[zG,zK h];simpa using this
def Ord.ex(o:Ord W π)(hi:i < W.length):∃k,k < W.length/\π.getD k 0=i:=by
 have:i∈π:=o.perm.mem_iff.mpr (by simpa using hi);let⟨k,hk,e⟩:=qQ this;exact⟨k,by rw[<- o.len];exact hk,by rw[zG,zK hk];exact e⟩
def cw(o:Ord W π):(dH W π).length=W.length:=by simp[dH,o.len]
def Iy(o:Ord W π):(k7 P π).length=W.length:=by simp[k7,o.len]
def eL(o:Ord W π)(hk:k < W.length):aC (dH W π) k=KU (aC W (π.getD k 0)):=by
 have h:k < π.length:=by rw[o.len];exact hk
 simp[aC,dH,h,zG]
def lP(o:Ord W π)(hk:k < W.length):(k7 P π).getD k 0=P.getD (π.getD k 0) 0:=by
 have h:k < π.length:=by rw[o.len];exact hk
 simp[k7,h,zG]
def oP(b:Bool)(w:Wy):bq (!b) (KU w)=bq b w:=by cases b<;>rfl
def tJ(b:Bool)(w:Wy):bU (!b) (KU w)=bU b w:=by cases b<;>rfl
def Ord.ris(o:Ord W π):rK (dH W π):=by
 unfold rK dH;rw[jE];exact o.up
def JH(h:rK W)(hi:i < W.length)(hj:j < W.length)(e:(aC W i).1 < (aC W j).1\/((aC W i).1=(aC W j).1/\(aC W i).2.1 < (aC W j).2.1)):i < j:=by
 rcases Nat.lt_or_ge i j with q|q
 ·exact q
 ·exfalso;rcases Nat.eq_or_lt_of_le q with q|q
  ·subst q;lia
  ·have:=List.pairwise_iff_getElem.mp h j i hj hi q;rw[gy hi,gy hj] at this;lia
def Aj(p:l.Perm (List.range n))(h:l.Pairwise (· < ·)):l=List.range n:=by
 refine gC (λi=>((i:Nat):Int)) p (h.imp λ{a b} q=>by lia) (List.pairwise_lt_range.imp λ{a b} q=>by lia)
def map_getD(l:List Nat):(List.range l.length).map (λk=>l.getD k 0)=l:=by
 apply jH
 ·simp
 ·intro i h1 h2;simp[h2]
def Ord.back(h:rK W)(o:Ord W π)(o':Ord (dH W π) π'):π'.map (λk=>π.getD k 0)=List.range W.length:=by
 have hl:(dH W π).length=W.length:=cw o;refine Aj ?_ ?_
 ·have:=(o'.perm.map λk=>π.getD k 0)
  rw[hl,<- o.len,map_getD] at this;exact this.trans o.perm
 ·rw[jE];refine o'.up.imp_of_mem λ{i j} hi hj q=>?_;have hi':i < W.length:=by have:=o'.perm.mem_iff.mp hi;rw[hl] at this;simpa using this
  have hj':j < W.length:=by have:=o'.perm.mem_iff.mp hj;rw[hl] at this;simpa using this
  rw[eL o hi',eL o hj'] at q;exact JH h (o.lt hi') (o.lt hj') q
def uo(h:rK W)(o:Ord W π)(o':Ord (dH W π) π'):dH (dH W π) π'=W:=by
 have hl:(dH W π).length=W.length:=cw o;have e:dH (dH W π) π'=(π'.map λk=>π.getD k 0).map λi=>aC W i:=by
  unfold dH;rw[zM];refine yH λk hk=>?_;have hk':k < W.length:=by have:=o'.perm.mem_iff.mp hk;rw[hl] at this;simpa using this
  have:=eL o hk';unfold dH at this;rw[this];rfl
 rw[e,o.back h o'];have:=map_range (0,0,0) (λw:Wy=>w) W;simpa [aC] using this
def GA(h:rK W)(o:Ord W π)(o':Ord (dH W π) π')(hp:P.length=W.length):k7 (k7 P π) π'=P:=by
 have hl:(dH W π).length=W.length:=cw o;have e:k7 (k7 P π) π'=(π'.map λk=>π.getD k 0).map λi=>P.getD i 0:=by
  rw[zM];unfold k7;refine yH λk hk=>?_;have hk':k < W.length:=by have:=o'.perm.mem_iff.mp hk;rw[hl] at this;simpa using this
  have:=lP (P:=P) o hk';unfold k7 at this;rw[this];rfl
 rw[e,o.back h o',<- hp];have:=map_range 0 (λx:Int=>x) P;simpa using this
def EF(o:Ord W π)(b:Bool)(p:Int):((own (!b) (dH W π) p).map λk=>π.getD k 0).Perm (own b W p):=by
 have hl:(dH W π).length=W.length:=cw o;have e:((own (!b) (dH W π) p).map λk=>π.getD k 0)=π.filter λi=>decide (bq b (aC W i)=p):=by
  conv=>rhs;rw[<- map_getD π,kG,o.len]
  unfold own;rw[hl]
  congr 1
  refine List.filter_congr λk hk=>?_;have hk':k < W.length:=by simpa using hk
  rw[eL o hk',oP];rfl
 rw[e];exact o.perm.filter _
def Fd(o:Ord W π)(b:Bool)(p:Int):(LS (!b) (dH W π) p).Perm (LS b W p):=by
 have hl:(dH W π).length=W.length:=cw o;rw[<- j8,<- j8];have:=(EF o b p).map λi=>bU b (aC W i);rw[zM] at this;refine List.Perm.trans (List.Perm.of_eq ?_) this;refine yH λk hk=>?_;have hk':k < W.length:=by have:=(cq.mp hk).1;rwa [hl] at this
 show bU (!b) (aC (dH W π) k)=bU b (aC W (π.getD k 0));rw[eL o hk',tJ]
def Ord.wd(h:Wd G T W)(o:Ord W π):Wd T G (dH W π) where
 g1:=h.t1
 g4:=h.t4
 t1:=h.g1
 t4:=h.g4
 ga:=h.ta
 ta:=h.ga
 gl:=λi p e=>(h.tl i p e).trans (Fd o true i).symm
 tl:=λi p e=>(h.gl i p e).trans (Fd o false i).symm
 wr:=λw hw=>by
  let⟨i,hi,rfl⟩:=List.mem_map.mp hw;have hi':i < W.length:=by have:=o.perm.mem_iff.mp hi;simpa using this
  have:=h.wr (aC W i) (by rw[<- gy hi'];exact qA _);exact⟨this.2.1,this.1,this.2.2⟩
 wp:=o.ris
 wl:=by rw[cw o];exact h.wl
def oV(b:Bool)(G T:List Pl):aH (!b) T G=aH b G T:=by cases b<;>rfl
def uC(b:Bool)(G T:List Pl)(i:Nat):cE (!b) T G i=cE b G T i:=by unfold cE;rw[oV]
def oG(b:Bool)(W:List Wy)(P:List Int)(p:Int):Int:=((own b W p).map λi=>P.getD i 0).sum
def xl{l m:List Int}(p:l.Perm m):l.sum=m.sum:=by
 induction p with
 | nil=>rfl
 | cons x _ ih=>simp[ih]
 | swap x y l=>simp?[kC];lia
 | trans _ _ h1 h2=>exact h1.trans h2
def EX(o:Ord W π)(b:Bool)(p:Int):oG (!b) (dH W π) (k7 P π) p=oG b W P p:=by
 have hl:(dH W π).length=W.length:=cw o;have:=xl ((EF o b p).map λi=>P.getD i 0);unfold oG;rw[<- this,zM]
 congr 1
 refine yH λk hk=>?_;have hk':k < W.length:=by have:=(cq.mp hk).1;rwa [hl] at this
 exact lP o hk'
def Fq(h:Wd G T W)(o:Ord W π){b:Bool}{i:Nat}{p:Pl}(e:(aH b G T)[i]?=some p){x:Int}(hx:x∈p.2):ou (!b) (dH W π) i x < W.length/\π.getD (ou (!b) (dH W π) i x) 0=ou b W i x:=by
 have e':(aH (!b) T G)[i]?=some p:=by rw[oV];exact e
 let⟨h1,h2,h3⟩:=mi (o.wd h) e' hx;let⟨g1,g2,g3⟩:=mi h e hx;rw[cw o] at h1;rw[eL o h1,oP] at h2;rw[eL o h1,tJ] at h3;exact⟨h1,qm h.wp (o.lt h1) g1 (by rw[h2,g2]) (by rw[h3,g3])⟩
def rF(L:List Int)(x:Int):Nat:=L.findIdx λo=>decide (o=x)
def ur(b:Bool)(G T:List Pl)(W:List Wy)(P:List Int)(k:Nat):Bool :=
 decide (oG b W P (bq b (aC W k)) < (cE b G T (bq b (aC W k)).toNat).1) ||
 ((cE b G T (bq b (aC W k)).toNat).2.drop (rF (cE b G T (bq b (aC W k)).toNat).2 (bU b (aC W k))+1)).any λo=>decide (0 < P.getD (ou b W (bq b (aC W k)) o) 0)
def kr(G T:List Pl)(W:List Wy)(P:List Int)(k:Nat):Nat :=
 if P.getD k 0=(aC W k).2.2 then 0 else if ur false G T W P k=false then 1 else if ur true G T W P k=false then 2 else 3
def AU(G T:List Pl)(W:List Wy)(P:List Int):List Nat:=(List.range W.length).filter λk=>decide (kr G T W P k=3)
def Wd.end_pl(h:Wd G T W)(b:Bool)(hk:k < W.length):0<=bq b (aC W k)/\(bq b (aC W k)).toNat < (aH b G T).length/\((bq b (aC W k)).toNat:Int)=bq b (aC W k):=by
 have:=h.wr (aC W k) (by rw[<- gy hk];exact qA _);cases b
 ·simp?[bq,aH,yO,qP];lia
 ·simp?[bq,aH,xH];lia
def r9:∀ {l:List α},(∀x∈l,p x=q x)->l.any p=l.any q
 | [],_=>rfl
 | a::l,h=>by rw[vD,vD,h a zE,r9 λx hx=>h x (zC _ hx)]
def Fx(h:Wd G T W)(o:Ord W π)(b:Bool)(hk:k < W.length):ur (!b) T G (dH W π) (k7 P π) k=ur b G T W P (π.getD k 0):=by
 let⟨h1,h2,h3⟩:=h.end_pl b (o.lt hk);unfold ur;rw[eL o hk,oP,tJ,uC,EX o]
 congr 1
 rw[<- h3];simp?[yG];refine r9 λx hx=>?_;let⟨e1,e2⟩:=Fq h o (gq h2) (List.mem_of_mem_drop hx);rw[lP o e1,e2]
def JT(h:Wd G T W)(o:Ord W π)(hk:k < W.length):(kr T G (dH W π) (k7 P π) k=3)↔(kr G T W P (π.getD k 0)=3):=by
 have e1:=Fx (P:=P) h o false hk;have e2:=Fx (P:=P) h o true hk;simp?[Bool.not_false,xY] at e1 e2;unfold kr;rw[lP o hk,eL o hk,e1,e2];have:(KU (aC W (π.getD k 0))).2.2=(aC W (π.getD k 0)).2.2:=rfl;rw[this];cases ur false G T W P (π.getD k 0)<;>cases ur true G T W P (π.getD k 0)<;>simp<;>split<;>simp
def Mx(h:Wd G T W)(o:Ord W π):((AU T G (dH W π) (k7 P π)).map λk=>π.getD k 0).Perm (AU G T W P):=by
 have hl:(dH W π).length=W.length:=cw o;have e:((AU T G (dH W π) (k7 P π)).map λk=>π.getD k 0)=π.filter λi=>decide (kr G T W P i=3):=by
  conv=>rhs;rw[<- map_getD π,kG,o.len]
  unfold AU;rw[hl]
  congr 1
  refine List.filter_congr λk hk=>?_;have hk':k < W.length:=by simpa using hk
  exact decide_eq_decide.mpr (JT h o hk')
 rw[e];exact o.perm.filter _
def Ku(h:Wd G T W)(o:Ord W π):(AU T G (dH W π) (k7 P π)=[])↔(AU G T W P=[]):=by
 have:=(Mx (P:=P) h o).length_eq;rw[zD] at this;rw[<- List.length_eq_zero_iff,<- List.length_eq_zero_iff,this]
structure Pn(G T:List Pl)(W:List Wy)(P:List Int):Prop where
 len:P.length=W.length
 bd:∀k,k < W.length->0<=P.getD k 0/\P.getD k 0<=(aC W k).2.2
 am:∀ (b:Bool) (i:Nat),i < (aH b G T).length->oG b W P i<=(cE b G T i).1
def Pn.tu(h:Wd G T W)(o:Ord W π)(p:Pn G T W P):Pn T G (dH W π) (k7 P π) where
 len:=by rw[Iy o,cw o]
 bd:=λk hk=>by
  rw[cw o] at hk;rw[lP o hk,eL o hk];exact p.bd _ (o.lt hk)
 am:=λb i hi=>by
  have:=p.am (!b) i (by rw[<- oV b T G] at hi;exact hi);rw[<- EX o (!b),<- uC (!b),Bool.not_not] at this;exact this
section
variable {off:List Int}
def Be(h:Wd G T W)(b:Bool):∀ (n:Nat),n<=(aH b G T).length ->
  ((List.range n).foldl (wb b G T W off) (List.replicate W.length 0)).length=W.length/\∀k,k < W.length ->
   ((List.range n).foldl (wb b G T W off) (List.replicate W.length 0)).getD k 0=if bq b (aC W k) < n then (mZ W off (cE b G T (bq b (aC W k)).toNat).1 (eu b W (bq b (aC W k)).toNat (cE b G T (bq b (aC W k)).toNat).2)).getD k 0 else 0
 | 0,_=>by
  refine⟨by simp,λk hk=>?_⟩;let⟨h1,_,_⟩:=h.end_pl b hk;rw[yN (by lia)];simp[zG,hk]
 | n+1,hn=>by
  let⟨h1,h2⟩:=Be h b n (by lia);rw[vQ,vA,yI,List.foldl_nil];generalize (List.range n).foldl (wb b G T W off) (List.replicate W.length 0)=s at h1 h2;refine⟨oF h1,λk hk=>?_⟩;have hz:(wb b G T W off s n).getD k 0=s.getD k 0+(mZ W off (cE b G T n).1 (eu b W n (cE b G T n).2)).getD k 0:=v8 (by lia) (by rw[oQ];exact hk);rw[hz,h2 k hk];let⟨g1,_,_⟩:=h.end_pl b hk;have e:=gq (b:=b) (G:=G) (T:=T) (i:=n) (by lia);by_cases he:bq b (aC W k)=n
  ·have hn':(bq b (aC W k)).toNat=n:=by lia
   rw[yN (by lia),yL (by lia),hn'];lia
  ·have hni:k∉eu b W n (cE b G T n).2:=λz=>he (cq.mp ((eB h e).mem_iff.mp z)).2;rw[BF hni];by_cases hlt:bq b (aC W k) < n
   ·rw[yL hlt,yL (by lia)];lia
   ·rw[yN hlt,yN (by lia)];rfl
def DR(h:Wd G T W)(b:Bool)(hk:k < W.length):(aQ b G T W off).getD k 0=(mZ W off (cE b G T (bq b (aC W k)).toNat).1 (eu b W (bq b (aC W k)).toNat (cE b G T (bq b (aC W k)).toNat).2)).getD k 0:=by
 have:=(Be (off:=off) h b _ (yM _)).2 k hk;let⟨_,h2,h3⟩:=h.end_pl b hk;rw[yL (by lia)] at this;exact this
def A7{amt:Int}:∀ (is:List Nat) (s:Int×List Int),is.Nodup->(∀i∈is,i < s.2.length/\s.2.getD i 0=0) ->
  ((is.foldl (lU W off) s).2.length=s.2.length)/\(is.map λi=>(is.foldl (lU W off) s).2.getD i 0).sum=s.1 - (is.foldl (lU W off) s).1/\∀j,j∉is->(is.foldl (lU W off) s).2.getD j 0=s.2.getD j 0
 | [],s,_,_=>⟨rfl,by simp,λ_ _=>rfl⟩
 | i::is,s,hn,hz=>by
  rw[kR] at hn;let⟨hi,h0⟩:=hz i zE;have hs:∀j∈is,j < (lU W off s i).2.length/\(lU W off s i).2.getD j 0=0:=λj hj=>by
   let⟨a,b⟩:=hz j (zC _ hj);refine⟨by simpa [lU] using a,?_⟩;simp?[lU,cy];have hne:¬ (i=j/\j < s.2.length):=λz=>hn.1 (z.1 ▸ hj);rw[yN hne,b]
  let⟨r1,r2,r3⟩:=A7 (amt:=amt) is (lU W off s i) hn.2 hs;rw[yI];refine⟨by rw[r1];simp[lU],?_,λj hj=>?_⟩
  ·rw[zI,kC,r2,r3 i hn.1];simp?[lU,cy];rw[yL ⟨trivial,hi⟩];lia
  ·rw[r3 j λz=>hj (zC _ z)];simp?[lU,cy];have hne:¬ (i=j/\j < s.2.length):=λz=>hj (z.1 ▸ zE);rw[yN hne]
def xa(ho:Off off)(hl:NW W):∀ (is:List Nat) (s:Int×List Int),0<=s.1->0<=(is.foldl (lU W off) s).1
 | [],s,h=>h
 | i::is,s,h=>by
  rw[yI];refine xa ho hl is _ ?_;simp?[lU,cV];have:=ho i;have:=hl i;lia
def IL(h:Wd G T W)(ho:Off off)(hi:i < (aH b G T).length) :
  ((own b W i).map λk=>(mZ W off (cE b G T i).1 (eu b W i (cE b G T i).2)).getD k 0).sum<=(cE b G T i).1:=by
 have e:=gq hi;have pm:=eB h e;rw[<- xl (pm.map λk=>(mZ W off (cE b G T i).1 (eu b W i (cE b G T i).2)).getD k 0)];have hn:(eu b W i (cE b G T i).2).Nodup:=pm.nodup_iff.mpr (List.nodup_range.filter _);let⟨_,r2,_⟩:=A7 (W:=W) (off:=off) (amt:=0) (eu b W i (cE b G T i).2) ((cE b G T i).1,List.replicate W.length 0) hn λk hk=>by
  have hk':=(cq.mp (pm.mem_iff.mp hk)).1;refine⟨by simpa using hk',by simp[zG,hk']⟩
 have:=xa ho h.lim (eu b W i (cE b G T i).2) ((cE b G T i).1,List.replicate W.length 0) (h.amt b i);unfold mZ;rw[r2];show (cE b G T i).1 - _<=(cE b G T i).1;lia
def BN(h:Wd G T W)(ho:Off off)(hi:i < (aH b G T).length):oG b W (aQ b G T W off) i<=(cE b G T i).1:=by
 refine jT (Int.le_of_eq ?_) (IL h ho hi);unfold oG
 congr 1
 refine yH λk hk=>?_;let⟨hk',he⟩:=cq.mp hk;have:=DR (off:=off) h b hk';rw[he,yG] at this;exact this
def Cj(h:∀k,k < W.length->P.getD k 0=Q.getD k 0):oG b W P p=oG b W Q p:=by
 unfold oG
 congr 1
 exact yH λk hk=>h k (cq.mp hk).1
def HC(h:Wd G T W)(ho:Off c)(hc:∀k,k < W.length->c.getD k 0<=(aC W k).2.2)(e:qs G T W c=none):Pn G T W (aQ false G T W c) where
 len:=c4 _ _ _ _ _
 bd:=λk hk=>⟨ip h ho false k,jT (yt h ho false hk) (hc k hk)⟩
 am:=λb i hi=>by
  cases b
  ·exact BN h ho hi
  ·have hke:∀k,k < W.length->(iS G T W c).getD k 0=(aQ false G T W c).getD k 0:=λk hk=>by
    have h1:=yt h (ip h ho false) true hk;have h2:qR G T W c k=false:=by
     unfold qs at e;rw[Option.map_eq_none_iff] at e;have:=List.find?_eq_none.mp e k (by simpa using hk);simpa using this
    unfold qR at h2;have h3:=wF h2;unfold iS at h3 ⊢;lia
   rw[<- Cj hke];exact BN h (ip h ho false) hi
end
def zs(n:Nat):List Int:=List.replicate n 0
section
variable {W:List Wy}{G T:List Pl}{d:Nat->Int}
end
section
variable {P off:List Int}
def F1:∀ (xs:List Nat),(∀i∈xs,0<=off.getD i 0)->0<=(xs.map λi=>off.getD i 0).sum
 | [],_=>by simp
 | i::xs,h=>by
  have:=F1 xs λj hj=>h j (zC _ hj);have:=h i zE;rw[zI,kC];lia
def Bc:∀ (xs:List Nat),(∀i∈xs,0<=P.getD i 0)->(0 < (xs.map λi=>P.getD i 0).sum↔(xs.any λi=>decide (0 < P.getD i 0))=true)
 | [],_=>by simp
 | i::xs,h=>by
  have ih:=Bc xs λj hj=>h j (zC _ hj);have h0:=F1 (off:=P) xs λj hj=>h j (zC _ hj);have hi:=h i zE;rw[zI,kC,vD,jB,zJ,<- ih];lia
def Hs(h:Wd G T W){b:Bool}(hk:k < W.length) :
  let i:=(bq b (aC W k)).toNat;let L:=(cE b G T i).2
  eu b W i L=(L.take (rF L (bU b (aC W k)))).map (ou b W i)++k::(L.drop (rF L (bU b (aC W k))+1)).map (ou b W i):=by
 intro i L;let⟨h1,h2,h3⟩:=h.end_pl b hk;have e:=gq h2;have hm:bU b (aC W k)∈L:=by
  rw[(h.lik e).mem_iff,<- j8];exact List.mem_map.mpr ⟨k,cq.mpr ⟨hk,h3.symm⟩,rfl⟩
 have hlt:rF L (bU b (aC W k)) < L.length:=by
  unfold rF;exact kK ⟨_,hm,by simp⟩
 have hg:L[rF L (bU b (aC W k))]=bU b (aC W k):=by
  have:=List.findIdx_getElem (w:=hlt);exact yQ this
 have hx:ou b W i (bU b (aC W k))=k:=sR h.wp (cq.mpr ⟨hk,h3.symm⟩);unfold eu
 conv=>lhs;rw[<- List.take_append_drop (rF L (bU b (aC W k))) L,kZ hlt,hg,jA,zI,hx]
end
def rT{tt:Dl.Env->Option Bool}{te:Dl.Env->Option D}{r:List (Option D)}{x y h:Nat->D}{p:Nat->Bool}:∀ (is:List Nat),
  (∀i∈is,tt (some (x i)::some (y i)::r)=some (p i)/\(p i=true->te (some (x i)::some (y i)::r)=some (h i))) ->
  cF (eV 0 1) tt te (none::none::r) (is.map λi=>.tuple [x i,y i])=some ((is.filter p).map h)
 | [],_=>rfl
 | i::is,hh=>by
  let⟨h1,h2⟩:=hh i zE;have ih:=rT is λj hj=>hh j (zC _ hj);have hg:eV 0 1 (none::none::r) (.tuple [x i,y i])=some (some (x i)::some (y i)::r):=by
   simp?[eV,isFree,xQ,yY,qG,wG,jO,xH,yV,yW]
  rw[zI,cF,hg];simp?[zA,h1];cases hp:p i with
  | true=>simp[h2 hp,ih,hp]
  | false=>simp[ih,hp]
def mK{cs:List Nat}{fi:Dl.Env->Option (List D)}{tt:Dl.Env->Option Bool}{te:Dl.Env->Option D}{ρ:Dl.Env}{n:Nat}{x y h:Nat->D}{p:Nat->Bool}(hfi:fi ρ=some ((List.range n).map λi=>.tuple [x i,y i]))(hl:n<=1000)
  (hh:∀i,i < n->tt (some (x i)::some (y i)::cs.map λj=>(ρ[j]?).getD none)=some (p i)/\(p i=true->te (some (x i)::some (y i)::cs.map λj=>(ρ[j]?).getD none)=some (h i))) :
  aj 2 cs fi (eV 0 1) tt te ρ=some (((List.range n).filter p).map h):=by
 have:=rT (tt:=tt) (te:=te) (r:=cs.map λj=>(ρ[j]?).getD none) (p:=p) (h:=h) (List.range n) λi hi=>hh i (by simpa using hi);simp?[aj,hfi,zA,eE,List.replicate,xF,xO,this];refine bh ?_;rw[zD];refine yD (xP _ _) ?_;rw[zR];lia
def sk{W:List Wy}{P:List Int}(h:P.length=W.length):iC (W.map aq) (P.map PyData.int)=(List.range W.length).map λi=>.tuple [aq (aC W i),.int (P.getD i 0)]:=by
 apply List.ext_getElem?;intro i;by_cases hi:i < W.length
 ·have hz:i < (iC (W.map aq) (P.map PyData.int)).length:=by rw[mR];simp[h];exact hi
  rw[zK hz];let⟨x,y,e1,e2,e3⟩:=pj (zK hz);rw[zO,mI hi] at e1;rw[zO,zK (by lia)] at e2;cases e1;have e2:PyData.int P[i]=y:=by simpa using e2
  rw[e3,<- e2];have:i < P.length:=by lia
  simp[hi,this,zG]
 ·rw[jL (by rw[mR];simp;lia),jL (by simp;lia)]
def Sm(P:List Int):Prop:=∀k,-1000000<=P.getD k 0/\P.getD k 0<=1000000
def Hy(hs:Sm P)(hw:W.length<=16)(b:Bool)(p:Int):KR ((own b W p).map λi=>P.getD i 0)=true:=by
 unfold KR;rw[zF,zJ,xG];refine⟨?_,λx hx=>?_⟩
 ·have:=oI b W p;rw[zD];lia
 ·let⟨i,_,rfl⟩:=List.mem_map.mp hx;rw[zF,zJ,zJ];exact hs i
def sF(h:Wd G T W)(hp:P.length=W.length)(hs:Sm P)(b:Bool)(p:Int):dU [ax G T W,af P,.int (sI b),.int p]=some (.int (oG b W P p)):=by
 have hw:=h.wl;refine aL ?_;show sC [.val (ax G T W),.val (af P),.val (.int (sI b)),.val (.int p)]=_;have hz:du (aa (f2 av (ab 0) (fC (.int 2))) (aa (ab 1) ae)) [some (ax G T W),some (af P),some (.int (sI b)),some (.int p)]=some ((List.range W.length).map λi=>.tuple [aq (aC W i),.int (P.getD i 0)]):=by
  rw[<- sk hp];rfl
 have c:aj 2 [2,3] (du (aa (f2 av (ab 0) (fC (.int 2))) (aa (ab 1) ae))) (eV 0 1) (fB (f2 bT (f2 av (ab 0) (ab 2)) (ab 3))) (ab 1) [some (ax G T W),some (af P),some (.int (sI b)),some (.int p)]=some ((own b W p).map λi=>.int (P.getD i 0)):=by
  rw[mK (p:=λi=>decide (bq b (aC W i)=p)) (h:=λi=>.int (P.getD i 0)) hz (by lia) λi hi=>⟨?_,λ_=>rfl⟩]
  ·rfl
  ·show fB (f2 bT (f2 av (ab 0) (ab 2)) (ab 3)) [some (aq (aC W i)),some (.int (P.getD i 0)),some (.int (sI b)),some (.int p)]=_;exact bM (by rw[iT (a:=.int (bq b (aC W i))) (b:=.int p) (ay (ue b _) rfl rfl) rfl,eC])
 refine aR ?_;have e:((own b W p).map λi=>PyData.int (P.getD i 0))=((own b W p).map λi=>P.getD i 0).map PyData.int:=by rw[zM];rfl
 show bu Cn (aa (bH (aj 2 [2,3] (du (aa (f2 av (ab 0) (fC (.int 2))) (aa (ab 1) ae))) (eV 0 1) (fB (f2 bT (f2 av (ab 0) (ab 2)) (ab 3))) (ab 1))) ae) [some (ax G T W),some (af P),some (.int (sI b)),some (.int p)]=_;rw[e] at c;simp?[bu,aa,ae,bH,c,zB,zA];show Cn [.list (((own b W p).map λi=>P.getD i 0).map PyData.int)]=_;simp?[Cn,eJ,oneOf,gc,zA,cK,Hy hs hw b p,xH];rfl
def Ac(L:List Pl):bB 0 (L.map bG)=(List.range L.length).map λi=>.tuple [nD i,bG (L.getD i (0,[]))]:=by
 rw[enum_zip];apply jH
 ·simp
 ·intro i h1 h2;have:i < L.length:=by simpa using h2
  simp[this,zG]
def nE(is:List Nat):kq [.list (is.map λi=>.bool (p i))]=some (.bool (is.all p)):=by
 have:∀is:List Nat,boolsOf (is.map λi=>PyData.bool (p i))=some (is.map p):=λis=>by
  induction is with
  | nil=>rfl
  | cons i is ih=>simp[boolsOf,ih]
 simp?[kq,oneOf,zA,this,zB,List.all_map];rfl
def Bz(h:Wd G T W)(hp:P.length=W.length)(hs:Sm P)(b:Bool):cZ [ax G T W,af P,.int (sI b)]=some (.bool ((List.range (aH b G T).length).all λi=>decide (oG b W P i<=(cE b G T i).1))):=by
 have hl:=h.pl b;refine aL ?_;show iV [.val (ax G T W),.val (af P),.val (.int (sI b))]=_;have he:bI (aa (f2 av (ab 0) (ab 2)) ae) [some (ax G T W),some (af P),some (.int (sI b))]=some ((List.range (aH b G T).length).map λi=>.tuple [nD i,bG (cE b G T i)]):=by
  have:=Ac (aH b G T);unfold cE;rw[<- this];cases b<;>rfl
 have c:=mK (cs:=[0,1,2]) (tt:=λ_=>some true) (te:=f2 B3 (ah 4 dU (aa (ab 2) (aa (ab 3) (aa (ab 4) (aa (ab 0) ae))))) (f2 av (ab 1) (fC (.int 0)))) (p:=λ_=>true) (h:=λi=>.bool (decide (oG b W P i<=(cE b G T i).1))) he (by lia) λi hi=>⟨rfl,λ_=>ay (a:=.int (oG b W P i)) (b:=.int (cE b G T i).1) rfl (call_of (sF h hp hs b i) rfl rfl) rfl⟩
 refine aR ?_;show bu kq (aa (bH (aj 2 [0,1,2] (bI (aa (f2 av (ab 0) (ab 2)) ae)) (eV 0 1) (λ_=>some true) (f2 B3 (ah 4 dU (aa (ab 2) (aa (ab 3) (aa (ab 4) (aa (ab 0) ae))))) (f2 av (ab 1) (fC (.int 0)))))) ae) [some (ax G T W),some (af P),some (.int (sI b))]=_;simp?[bu,aa,ae,bH,c,zB,zA];rw[show (List.range (aH b G T).length).filter (λ_=>true)=List.range (aH b G T).length by simp,nE]
def F0(ha:fa ρ=some (.bool true))(hb:fb ρ=some d):kn fa fb ρ=some d:=by
 simp?[kn,ha,zA,hb]
def HV(ha:fa ρ=some (.bool false)):kn fa fb ρ=some (.bool false):=by
 simp?[kn,ha,zA]
def Hf(ha:fa ρ=some (.bool a))(hb:fb ρ=some (.bool b)):kn fa fb ρ=some (.bool (a&&b)):=by
 cases a
 ·exact HV ha
 ·exact F0 ha hb
def qj(h:f ρ=some d):bu g (aa f ae) ρ=g [d]:=by
 simp?[bu,aa,ae,h,zB,zA]
def yx{l:List α}(h:f ρ=some (.tuple (l.map k))):bu bK (aa f ae) ρ=some (nD l.length):=by
 rw[qj h,B2,zD]
def Nv(W:List Wy)(P:List Int):Bool:=(List.range W.length).all λk=>decide (0<=P.getD k 0)&&decide (P.getD k 0<=(aC W k).2.2)
def NP(b:Bool)(G T:List Pl)(W:List Wy)(P:List Int):Bool:=(List.range (aH b G T).length).all λi=>decide (oG b W P i<=(cE b G T i).1)
def K6(G T:List Pl)(W:List Wy)(P:List Int):Bool:=Nv W P&&(NP false G T W P&&NP true G T W P)
def tw(hp:P.length=W.length):K6 G T W P=true↔Pn G T W P:=by
 simp?[K6,Nv,NP,zF,xG,zS,zJ];constructor
 ·rintro⟨h1,h2,h3⟩;exact⟨hp,h1,λb=>by cases b<;>assumption⟩
 ·intro p;exact⟨p.bd,p.am false,p.am true⟩
def KS(P:List Int):oq (af P)=true:=rfl
def sP(h:Wd G T W)(hp:P.length=W.length)(hs:Sm P):gM [ax G T W,af P]=some (.bool (K6 G T W P)):=by
 have hw:=h.wl;have hlen:(P.map PyData.int).length=W.length:=by rw[zD,hp]
 refine aL ?_;show nV [.val (ax G T W),.val (af P),.non]=_;unfold nV;have t1:Dl.az 2 [0] (f2 av (ab 0) (fC (.int 2))) [.val (ax G T W),.val (af P),.non]=some (.nx [.val (ax G T W),.val (af P),.val (.tuple (W.map aq))]):=bX (d:=.tuple (W.map aq)) rfl rfl rfl rfl;rw[ai t1];have el:bL [af P,nD W.length,nD W.length]=some (.bool true):=by
  rw[show nD W.length=.int ((W.length:Nat):Int) from rfl,dM (KS P)];simp[long,af,hp]
 have hl:∀ρ:Dl.Env,ab 2 ρ=some (.tuple (W.map aq))->bu bK (aa (ab 2) ae) ρ=some (nD W.length):=λρ hr=>yx hr;have c1:(bF (fB (ah 3 bL (aa (ab 1) (aa (bu bK (aa (ab 2) ae)) (aa (bu bK (aa (ab 2) ae)) ae)))))) (bw [.val (ax G T W),.val (af P),.val (.tuple (W.map aq))])=some false :=
  d5 (bM (call_of el (cons_of rfl (cons_of (hl _ rfl) (cons_of (hl _ rfl) rfl))) rfl))
 rw[ai (bZ c1)];have hz:du (aa (ab 2) (aa (ab 1) ae)) [some (ax G T W),some (af P),some (.tuple (W.map aq))]=some ((List.range W.length).map λi=>.tuple [aq (aC W i),.int (P.getD i 0)]):=by
  rw[<- sk hp];rfl
 have c2:=mK (cs:=[]) (tt:=λ_=>some true) (te:=ah 3 bA (aa (ab 1) (aa (fC (.int 0)) (aa (f2 av (ab 0) (fC (.int 2))) ae)))) (p:=λ_=>true) (h:=λk=>.bool (decide (0<=P.getD k 0)&&decide (P.getD k 0<=(aC W k).2.2))) hz (by lia)
  λi hi=>⟨rfl,λ_=>call_of (fX (d:=.int (P.getD i 0)) rfl 0 (aC W i).2.2) rfl rfl⟩
 have hall:(fB (bu kq (aa (bH (aj 2 [] (du (aa (ab 2) (aa (ab 1) ae))) (eV 0 1) (λ_=>some true) (ah 3 bA (aa (ab 1) (aa (fC (.int 0)) (aa (f2 av (ab 0) (fC (.int 2))) ae)))))) ae))) [some (ax G T W),some (af P),some (.tuple (W.map aq))]=some (Nv W P):=by
  refine bM ?_;simp?[bu,aa,ae,bH,c2,zB,zA];rw[show (List.range W.length).filter (λ_=>true)=List.range W.length by simp,nE];rfl
 have k0:=Bz h hp hs false;have k1:=Bz h hp hs true;cases hb:Nv W P with
 | false =>
  rw[hb] at hall;refine lI ((iF (d5 hall)).trans ?_);rw[K6,hb];exact aR rfl
 | true =>
  rw[hb] at hall;rw[ai (bZ (d5 hall)),K6,hb,jK];exact aR (Hf (call_of k0 rfl rfl) (call_of k1 rfl rfl))
def F7(hk:k < W.length):aC W k∈W:=gy hk ▸ qA hk
def Pn.smP(h:Wd G T W)(p:Pn G T W P):Sm P:=λk=>by
 by_cases hk:k < W.length
 ·have:=p.bd k hk;have:=(h.wr _ (F7 hk)).2.2.2;lia
 ·rw[zG,jL (by rw[p.len];lia)];simp
def rf(h:Wd G T W)(p:Pn G T W P):gM [ax G T W,af P]=some (.bool true):=by
 rw[sP h p.len (p.smP h),(tw p.len).mpr p]
def ij(h:Wd G T W)(p:Pn G T W P):dA [ax G T W,af P]=some .none:=by
 have:e9 [.val (ax G T W),.val (af P)]=some (.nx [.val (ax G T W),.val (af P)]):=by
  unfold e9;refine (ai (dD (call_of (ee h) rfl rfl))).trans ?_;exact bZ (d5 (bM (call_of (rf h p) rfl rfl)))
 show (e9 [.val (ax G T W),.val (af P)]).map _=_;rw[this];rfl
def mO(W:List Wy)(i:Nat):List Int:=[(aC W i).2.1,(aC W i).1]
def f7(W:List Wy):List (List Int):=(List.range W.length).map (mO W)
def bJ(W:List Wy):List Nat:=lT (λi=>rk (f7 W) ((f7 W).getD i [])) (List.range W.length) 0
def EO(z:Nat->Int)(n:Nat):lT z ((List.range n).map nD) .none=(lT z (List.range n) 0).map nD:=by
 unfold lT;rw[zD];split
 ·rfl
 ·rename_i h;rw[zM];let⟨hp,_⟩:=SP.d9 (z:=z) (n:=(List.range n).length) (by lia);refine yH λi hi=>?_;have hi':i < (List.range n).length:=by have:=hp.mem_iff.mp hi;simpa using this
  rw[zR] at hi';simp[hi']
def D3(hi:i < W.length):(f7 W).getD i []=mO W i:=by
 simp[f7,hi]
def cY(h:rK W):Ord W (bJ W) where
 perm:=dy _ _ _
 up:=by
  have hp:(bJ W).Perm (List.range W.length):=dy _ _ _;have hs:(bJ W).Pairwise λi j=>rk (f7 W) (mO W i)<=rk (f7 W) (mO W j):=by
   refine qa _ _ _ (λi=>rk (f7 W) (mO W i)) λi hi=>?_;rw[zR] at hi;have e:(List.range W.length).getD i 0=i:=by simp[hi]
   show rk (f7 W) ((f7 W).getD i [])=rk (f7 W) (mO W ((List.range W.length).getD i 0));rw[e,D3 hi]
  have hn:(bJ W).Nodup:=hp.nodup_iff.mpr List.nodup_range;refine (hs.and hn).imp_of_mem λ{i j} hi hj hij=>?_;have hi':i < W.length:=by have:=hp.mem_iff.mp hi;simpa using this
  have hj':j < W.length:=by have:=hp.mem_iff.mp hj;simpa using this
  let⟨hle,hne⟩:=hij;have mj:mO W j∈f7 W:=List.mem_map.mpr ⟨j,by simpa using hj',rfl⟩;have n1:Dl.lexLt (mO W j) (mO W i)=false:=by
   rw[wg mj,xB];lia
  simp?[mO,HT.lexLt] at n1;by_cases e1:(aC W j).2.1=(aC W i).2.1
  ·rw[yL e1] at n1;by_cases e2:(aC W j).1=(aC W i).1
   ·exact absurd (sV h hj' hi' e2 e1).symm hne
   ·rw[yN e2,xB] at n1;exact .inr ⟨e1.symm,by lia⟩
  ·rw[yN e1,xB] at n1;exact .inl (by lia)
def tup_is(h:fs ρ=some ds)(hl:ds.length<=1000):aS fs ρ=some (.tuple ds):=by
 simp?[aS,h,zA,bh (show ds.length<=4000 by lia),zB]
def OA(w:Wy):av (aq w) (.int 0)=some (.int w.1):=rfl
def Ob(w:Wy):av (aq w) (.int 1)=some (.int w.2.1):=rfl
def jh(h:Wd G T W):bz [ax G T W]=some (.list ((bJ W).map nD)):=by
 have hw:=h.wl;have t1:Dl.az 1 [0] (f2 av (ab 0) (fC (.int 2))) [.val (ax G T W),.non]=some (.nx [.val (ax G T W),.val (.tuple (W.map aq))]):=bX (d:=.tuple (W.map aq)) rfl rfl rfl rfl;have hl:(bu bK (aa (ab 1) ae)) [some (ax G T W),some (.tuple (W.map aq))]=some (nD W.length):=yx (l:=W) (k:=aq) rfl;have hk:hZ (aS (aa (f2 av (f2 av (ab 1) (ab 0)) (fC (.int 1))) (aa (f2 av (f2 av (ab 1) (ab 0)) (fC (.int 0))) ae))) [none,some (.tuple (W.map aq))] ((List.range W.length).map nD)=some (((List.range W.length).map nD).map λd=>af (mO W (ig d).toNat)):=by
  refine nv λd hd=>?_;let⟨j,hj,rfl⟩:=List.mem_map.mp hd;have hj':j < W.length:=by simpa using hj
  have a:∀ρ:Dl.Env,ab 1 ρ=some (.tuple (W.map aq))->ab 0 ρ=some (nD j)->(f2 av (ab 1) (ab 0)) ρ=some (aq (aC W j)):=λρ e1 e2=>ay (pL hj') e1 e2;show aS (aa (f2 av (f2 av (ab 1) (ab 0)) (fC (.int 1))) (aa (f2 av (f2 av (ab 1) (ab 0)) (fC (.int 0))) ae)) [some (nD j),some (.tuple (W.map aq))]=_;have c2:(aa (f2 av (f2 av (ab 1) (ab 0)) (fC (.int 1))) (aa (f2 av (f2 av (ab 1) (ab 0)) (fC (.int 0))) ae)) [some (nD j),some (.tuple (W.map aq))]=some [.int (aC W j).2.1,.int (aC W j).1] :=
   cons_of (ay (Ob (aC W j)) (a _ rfl rfl) rfl) (cons_of (ay (OA (aC W j)) (a _ rfl rfl) rfl) rfl)
  rw[tup_is c2 (by simp)];simp[ig,mO,af]
 have hr:rowsOf (((List.range W.length).map nD).map λd=>af (mO W (ig d).toNat))=some (f7 W):=by
  have e:(((List.range W.length).map nD).map λd=>af (mO W (ig d).toNat))=(f7 W).map af:=by
   simp?[zM,f7];refine yH λj hj=>?_;simp[ig]
  rw[e,lb];intro ns hns;let⟨j,_,rfl⟩:=List.mem_map.mp hns;exact List.cons_ne_nil _ _
 refine aL ?_;show fK [.val (ax G T W),.non]=_;unfold fK;rw[ai t1];refine aR ?_;have es:qh [1] (aa (bu bK (aa (ab 1) ae)) ae) (aS (aa (f2 av (f2 av (ab 1) (ab 0)) (fC (.int 1))) (aa (f2 av (f2 av (ab 1) (ab 0)) (fC (.int 0))) ae))) [some (ax G T W),some (.tuple (W.map aq))]=some ((bJ W).map nD):=by
  unfold qh;rw[cons_of hl rfl,zA];show (if (0:Int)<=((W.length:Nat):Int)/\((W.length:Nat):Int) < 64 then _ else none)=_;rw[yL ⟨by lia,by lia⟩,yG];show (hZ _ [none,some (.tuple (W.map aq))] ((List.range W.length).map nD)).bind _=_;rw[hk,zA,hr,zB];exact jC some (EO _ _)
 show bH _ [some (ax G T W),some (.tuple (W.map aq))]=_;simp?[bH,es,zB]
def dY{cs:List Nat}{fi:Dl.Env->Option (List D)}{te:Dl.Env->Option D}{ρ:Dl.Env}{is:List Nat}{f:Nat->D}(hfi:fi ρ=some (is.map nD))(hl:is.length<=1000)(hh:∀i∈is,te (some (nD i)::cs.map λj=>(ρ[j]?).getD none)=some (f i)):aj 1 cs fi (fG 0) (λ_=>some true) te ρ=some (is.map f):=by
 rw[bW (h:=λd=>f (ig d).toNat) hfi (by rw[zD];lia) λd hd=>?_]
 ·rw[zM];refine jC some (yH λi _=>?_);simp[ig]
 ·let⟨i,hi,rfl⟩:=List.mem_map.mp hd;rw[hh i hi];simp[ig]
def ji(h:m ds=some (.list es))(hf:fs ρ=some ds)(hn:ds.length=n):aO (ah n m fs) ρ=some es:=by
 simp?[aO,call_of h hf hn,zA,gc]
def AZ(h:rK W)(hi:i∈bJ W):i < W.length:=by
 have:=(cY h).perm.mem_iff.mp hi;simpa using this
def vf(h:rK W):(bJ W).length=W.length:=(cY h).len
def nZ:∀ (l:List Wy),cF (Gp 0 1 2) (λ_=>some true) (aS (aa (ab 1) (aa (ab 0) (aa (ab 2) ae)))) (none::none::none::r) (l.map aq)=some ((l.map KU).map aq)
 | []=>rfl
 | w::l=>by
  have ih:=nZ (r:=r) l;have hg:Gp 0 1 2 (none::none::none::r) (aq w)=some (some (.int w.1)::some (.int w.2.1)::some (.int w.2.2)::r):=rfl;rw[zI,cF,hg,zA];have e:aS (aa (ab 1) (aa (ab 0) (aa (ab 2) ae))) (some (.int w.1)::some (.int w.2.1)::some (.int w.2.2)::r)=some (aq (KU w)):=rfl;simp?[zA,xH,e,ih,zB,zI]
def ya(h:Wd G T W):l7 [ax G T W]=some (ax T G (dH W (bJ W))):=by
 have hw:=h.wl;have hn:=vf h.wp;refine aL ?_;show pK [.val (ax G T W),.non]=_;unfold pK;refine (ai (dD (call_of (ee h) rfl rfl))).trans ?_;have c:aj 1 [0] (aO (ah 1 bz (aa (ab 0) ae))) (fG 0) (λ_=>some true) (f2 av (f2 av (ab 1) (fC (.int 2))) (ab 0)) [some (ax G T W),none]=some ((bJ W).map λi=>aq (aC W i)) :=
  dY (ji (jh h) rfl rfl) (by lia) λi hi=>ay (pL (AZ h.wp hi)) rfl rfl
 have t2:aM 1 [0] (aj 1 [0] (aO (ah 1 bz (aa (ab 0) ae))) (fG 0) (λ_=>some true) (f2 av (f2 av (ab 1) (fC (.int 2))) (ab 0))) [.val (ax G T W),.non]=some (.nx [.val (ax G T W),.own ((bJ W).map λi=>aq (aC W i))]):=fA c rfl;rw[ai t2];refine aR ?_;have e3:aj 3 [] (aO (ab 1)) (Gp 0 1 2) (λ_=>some true) (aS (aa (ab 1) (aa (ab 0) (aa (ab 2) ae)))) [some (ax G T W),some (.list ((bJ W).map λi=>aq (aC W i)))]=some ((dH W (bJ W)).map aq):=by
  have:=nZ (r:=[]) ((bJ W).map λi=>aC W i);rw[zM,zM] at this;have hf:aO (ab 1) [some (ax G T W),some (.list ((bJ W).map λi=>aq (aC W i)))]=some ((bJ W).map λi=>aq (aC W i)):=rfl;unfold aj;rw[hf,zA];show (cF (Gp 0 1 2) (λ_=>some true) (aS (aa (ab 1) (aa (ab 0) (aa (ab 2) ae)))) [none,none,none] ((bJ W).map λi=>aq (aC W i))).bind small=_;rw[show ((bJ W).map λi=>aq (aC W i))=List.map (aq ∘ λi=>aC W i) (bJ W) from rfl,this,zA];rw[bh (by simp;lia),dH];simp?[zM];rfl
 show aS (aa (f2 av (ab 0) (fC (.int 1))) (aa (f2 av (ab 0) (fC (.int 0))) (aa (bu br (aa (bH (aj 3 [] (aO (ab 1)) (Gp 0 1 2) (λ_=>some true) (aS (aa (ab 1) (aa (ab 0) (aa (ab 2) ae)))))) ae)) ae))) [some (ax G T W),some (.list ((bJ W).map λi=>aq (aC W i)))]=_;have e4:(bu br (aa (bH (aj 3 [] (aO (ab 1)) (Gp 0 1 2) (λ_=>some true) (aS (aa (ab 1) (aa (ab 0) (aa (ab 2) ae)))))) ae)) [some (ax G T W),some (.list ((bJ W).map λi=>aq (aC W i)))]=some (.tuple ((dH W (bJ W)).map aq)):=by
  simp?[bu,aa,ae,bH,e3,zB,zA,tZ]
 exact tup_is (ds:=[.tuple (T.map bG),.tuple (G.map bG),.tuple ((dH W (bJ W)).map aq)]) (cons_of (ay (a:=ax G T W) (b:=.int 1) (c:=.tuple (T.map bG)) rfl rfl rfl) (cons_of (ay (a:=ax G T W) (b:=.int 0) (c:=.tuple (G.map bG)) rfl rfl rfl) (cons_of e4 rfl))) (by simp)
def qy(h:Wd G T W)(p:Pn G T W P):gG [ax G T W,af P]=some (af (k7 P (bJ W))):=by
 have hw:=h.wl;have hn:=vf h.wp;refine aL ?_;show gx [.val (ax G T W),.val (af P)]=_;unfold gx;refine (ai (dD (call_of (ij h p) rfl rfl))).trans ?_;have c:aj 1 [1] (aO (ah 1 bz (aa (ab 0) ae))) (fG 0) (λ_=>some true) (f2 av (ab 1) (ab 0)) [some (ax G T W),some (af P)]=some ((bJ W).map λi=>.int (P.getD i 0)) :=
  dY (ji (jh h) rfl rfl) (by lia) λi hi=>ay (nr (by rw[p.len];exact AZ h.wp hi)) rfl rfl
 refine aR ?_;show bu br (aa (bH (aj 1 [1] (aO (ah 1 bz (aa (ab 0) ae))) (fG 0) (λ_=>some true) (f2 av (ab 1) (ab 0)))) ae) [some (ax G T W),some (af P)]=_;simp?[bu,aa,ae,bH,c,zB,zA,tZ];simp[af,k7]
def G8(h:f ρ=some (.list ds))(h2:g ρ=some (nD k)):lH fO f (zk g) lE ρ=some (.list (ds.drop k)):=by
 have:=xp ds k;simp?[lH,h,zk,h2,lE,gI,fO,zA,zB,this]
def CP(is:List Nat):Rf.F9 [.list (is.map λi=>.bool (p i))]=some (.bool (is.any p)):=by
 have:∀is:List Nat,boolsOf (is.map λi=>PyData.bool (p i))=some (is.map p):=λis=>by
  induction is with
  | nil=>rfl
  | cons i is ih=>simp[boolsOf,ih]
 simp?[Rf.F9,oneOf,zA,this,zB,wN];rfl
def lZ(f:α->β)(p:β->Bool)(q:α->Bool):∀ (l:List α),(∀x∈l,p (f x)=q x)->(l.map f).findIdx p=l.findIdx q
 | [],_=>rfl
 | x::l,h=>by
  rw[zI,vB,vB,h x zE,lZ f p q l λy hy=>h y (zC _ hy)]
def Li(h:Wd G T W){b:Bool}{i:Nat}(e:(aH b G T)[i]?=some p){k:Nat}(hk:k < W.length)(he:bq b (aC W k)=i):oD (.list ((eu b W i p.2).map nD)) (nD k)=some (nD (rF p.2 (bU b (aC W k)))):=by
 have ko:k∈own b W i:=cq.mpr ⟨hk,he⟩;have km:k∈eu b W i p.2:=(eB h e).mem_iff.mpr ko;have e1:(eu b W i p.2).map nD=((eu b W i p.2).map λj=>((j:Nat):Int)).map PyData.int:=by rw[zM];rfl
 have m1:((k:Nat):Int)∈(eu b W i p.2).map λj=>((j:Nat):Int):=List.mem_map.mpr ⟨k,km,rfl⟩;rw[e1];show (intsOf _).bind _=_;rw[cK,zA,nS m1,zB];have e2:((eu b W i p.2).map λj=>((j:Nat):Int)).findIdx (λo=>decide (o=((k:Nat):Int)))=rF p.2 (bU b (aC W k)):=by
  unfold eu rF;rw[zM];refine lZ _ _ _ _ λx hx=>?_;let⟨hl,h1,h2⟩:=mi h e hx;show decide (((ou b W i x:Nat):Int)=(k:Int))=decide (x=bU b (aC W k));rw[decide_eq_decide];constructor
  ·intro z;have z:ou b W i x=k:=by lia
   rw[<- z,h2]
  ·intro z;rw[z,sR h.wp ko]
 rw[e2]
def mV(h:Wd G T W)(hp:P.length=W.length)(hs:Sm P)(b:Bool){k:Nat}(hk:k < W.length):cO [ax G T W,af P,.int (sI b),nD k]=some (.bool (ur b G T W P k)):=by
 have hw:=h.wl;let⟨z1,z2,z3⟩:=h.end_pl b hk;have hx:(aH b G T)[(bq b (aC W k)).toNat]?=some (cE b G T (bq b (aC W k)).toNat):=by
  rw[zK z2];simp[cE,z2]
 have hL:∀x∈(cE b G T (bq b (aC W k)).toNat).2,_:=λx hx'=>mi h hx hx';have hb:(cE b G T (bq b (aC W k)).toNat).2.length<=16:=by
  have:=(eB h hx).length_eq;have h2:=oI b W ((bq b (aC W k)).toNat:Int);unfold eu at this;rw[zD] at this;lia
 have ei:=Li h hx hk z3.symm;have ew:=nA h hx;generalize hpl:cE b G T (bq b (aC W k)).toNat=pl at *;generalize hj:(bq b (aC W k)).toNat=j at *;have ez:PyData.int (bq b (aC W k))=nD j:=by rw[<- z3]
 refine aL ?_;show iq [.val (ax G T W),.val (af P),.val (.int (sI b)),.val (nD k),.non,.non,.non]=_;unfold iq;have t4:Dl.az 4 [0,2,3] (f2 av (f2 av (f2 av (ab 0) (fC (.int 2))) (ab 3)) (ab 2)) [.val (ax G T W),.val (af P),.val (.int (sI b)),.val (nD k),.non,.non,.non]=some (.nx [.val (ax G T W),.val (af P),.val (.int (sI b)),.val (nD k),.val (nD j),.non,.non]):=by
  rw[<- ez];exact cP (d:=.int (bq b (aC W k))) (ay (ue b _) (ay (pL hk) rfl rfl) rfl) rfl
 rw[ai t4];have ep:av (.tuple ((aH b G T).map bG)) (nD j)=some (bG pl):=nG hx;have ct:(fB (f2 Di (ah 4 dU (aa (ab 0) (aa (ab 1) (aa (ab 2) (aa (ab 4) ae))))) (f2 av (f2 av (f2 av (ab 0) (ab 2)) (ab 4)) (fC (.int 0))))) (bw [.val (ax G T W),.val (af P),.val (.int (sI b)),.val (nD k),.val (nD j),.non,.non])=some (decide (oG b W P j < pl.1)):=by
  refine bM (ay (mL _ _) (call_of (sF h hp hs b j) rfl rfl) ?_);refine ay (a:=bG pl) (b:=.int 0) rfl (ay ep (ay (l8 b G T W) rfl rfl) rfl) rfl
 have hm:ur b G T W P k=(decide (oG b W P j < pl.1)||(pl.2.drop (rF pl.2 (bU b (aC W k))+1)).any λo=>decide (0 < P.getD (ou b W j o) 0)):=by
  unfold ur;rw[hj,hpl,z3]
 rw[hm];cases hc:decide (oG b W P j < pl.1) with
 | true =>
  rw[hc] at ct;exact lI ((iF ct).trans (aR rfl))
 | false =>
  rw[hc] at ct;rw[ai (bZ ct),Bool.false_or];have t5:Dl.az 5 [0,2,4] (ah 3 cQ (aa (ab 0) (aa (ab 2) (aa (ab 4) ae)))) [.val (ax G T W),.val (af P),.val (.int (sI b)),.val (nD k),.val (nD j),.non,.non]=some (.nx [.val (ax G T W),.val (af P),.val (.int (sI b)),.val (nD k),.val (nD j),.val (.list ((eu b W j pl.2).map nD)),.non]) :=
   bC (call_of ew rfl rfl) (call_of ew rfl rfl) rfl
  rw[ai t5];have cu:∀ρ:Dl.Env,ab 5 ρ=some (.list ((eu b W j pl.2).map nD))->ab 3 ρ=some (nD k)->(lH fO (ab 5) (zk (f2 aK (f2 oD (ab 5) (ab 3)) (fC (.int 1)))) lE) ρ=some (.list (((eu b W j pl.2).map nD).drop (rF pl.2 (bU b (aC W k))+1))):=λρ a c =>
   G8 a (ay (fV _ _) (ay ei a c) rfl)
  have t6:Dl.az 6 [3,5] (lH fO (ab 5) (zk (f2 aK (f2 oD (ab 5) (ab 3)) (fC (.int 1)))) lE) [.val (ax G T W),.val (af P),.val (.int (sI b)),.val (nD k),.val (nD j),.val (.list ((eu b W j pl.2).map nD)),.non]=some (.nx [.val (ax G T W),.val (af P),.val (.int (sI b)),.val (nD k),.val (nD j),.val (.list ((eu b W j pl.2).map nD)),.val (.list (((eu b W j pl.2).drop (rF pl.2 (bU b (aC W k))+1)).map nD))]):=by
   rw[List.map_drop];exact bC (cu _ rfl rfl) (cu _ rfl rfl) rfl
  rw[ai t6];have c:aj 1 [1] (aO (ab 6)) (fG 0) (λ_=>some true) (f2 Dk (f2 av (ab 1) (ab 0)) (fC (.int 0))) [some (ax G T W),some (af P),some (.int (sI b)),some (nD k),some (nD j),some (.list ((eu b W j pl.2).map nD)),some (.list (((eu b W j pl.2).drop (rF pl.2 (bU b (aC W k))+1)).map nD))]=some (((eu b W j pl.2).drop (rF pl.2 (bU b (aC W k))+1)).map λi=>.bool (decide (0 < P.getD i 0))):=by
   refine dY rfl ?_ λi hi=>?_
   ·rw[qH,eu,zD];lia
   ·have hi':=List.mem_of_mem_drop hi;unfold eu at hi';let⟨x,hx',rfl⟩:=List.mem_map.mp hi';exact ay (gn _ _) (ay (nr (by rw[hp];exact (hL x hx').1)) rfl rfl) rfl
  refine aR ?_;show bu Rf.F9 (aa (bH (aj 1 [1] (aO (ab 6)) (fG 0) (λ_=>some true) (f2 Dk (f2 av (ab 1) (ab 0)) (fC (.int 0))))) ae) [some (ax G T W),some (af P),some (.int (sI b)),some (nD k),some (nD j),some (.list ((eu b W j pl.2).map nD)),some (.list (((eu b W j pl.2).drop (rF pl.2 (bU b (aC W k))+1)).map nD))]=_;simp?[bu,aa,ae,bH,c,zB,zA,CP];unfold eu;rw[<- List.map_drop,wN];rfl
def Mb:Nat->D|0=>.str "full" | 1=>.str "giver" | 2=>.str "taker" | _=>.none
def yq(h:Wd G T W)(hp:P.length=W.length)(hs:Sm P)(hk:k < W.length):fJ [ax G T W,af P,nD k]=some (Mb (kr G T W P k)):=by
 refine aL ?_;show lO [.val (ax G T W),.val (af P),.val (nD k)]=_;unfold lO kr;have c1:(fB (f2 bT (f2 av (ab 1) (ab 2)) (f2 av (f2 av (f2 av (ab 0) (fC (.int 2))) (ab 2)) (fC (.int 2))))) (bw [.val (ax G T W),.val (af P),.val (nD k)])=some (decide (P.getD k 0=(aC W k).2.2)) :=
  bM (ay (eC _ _) (ay (nr (by rw[hp];exact hk)) rfl rfl) (ay (a:=aq (aC W k)) (b:=.int 2) rfl (ay (pL hk) rfl rfl) rfl))
 have w0:=mV h hp hs false hk;have w1:=mV h hp hs true hk;have c2:(bF (fB (ah 4 cO (aa (ab 0) (aa (ab 1) (aa (fC (.int 0)) (aa (ab 2) ae))))))) (bw [.val (ax G T W),.val (af P),.val (nD k)])=some (!(ur false G T W P k)):=d5 (bM (call_of w0 rfl rfl));have c3:(bF (fB (ah 4 cO (aa (ab 0) (aa (ab 1) (aa (fC (.int 1)) (aa (ab 2) ae))))))) (bw [.val (ax G T W),.val (af P),.val (nD k)])=some (!(ur true G T W P k)):=d5 (bM (call_of w1 rfl rfl));by_cases e1:P.getD k 0=(aC W k).2.2
 ·rw[yA e1] at c1;rw[yL e1];exact lI ((iF c1).trans (aR rfl))
 ·rw[zZ e1] at c1;rw[yN e1,ai (bZ c1)];cases e2:ur false G T W P k with
  | false =>
   rw[e2] at c2;rw[yL rfl];exact lI ((iF c2).trans (aR rfl))
  | true =>
   rw[e2] at c2;rw[yN (by simp),ai (bZ c2)];cases e3:ur true G T W P k with
   | false =>
    rw[e3] at c3;rw[yL rfl];exact lI ((iF c3).trans (aR rfl))
   | true =>
    rw[e3] at c3;rw[yN (by simp),ai (bZ c3)];exact aR rfl
def Ll(G T:List Pl)(W:List Wy)(P:List Int)(k:Nat):kr G T W P k<=3:=by
 unfold kr;split
 ·lia
 ·split
  ·lia
  ·split<;>lia
def Gr(n:Nat)(h:n<=3):rz (Mb n) .none=some (.bool (decide (n=3))):=by
 match n,h with
 | 0,_=>rfl
 | 1,_=>rfl
 | 2,_=>rfl
 | 3,_=>rfl
def EZ{W:List Wy}{P:List Int}(hp:P.length=W.length)(hf:f ρ=some (af P)):(aa (bu bK (aa f ae)) ae) ρ=some [nD W.length]:=by
 have:=Ig P;rw[hp] at this;refine cons_of ?_ rfl;rw[qj hf,this]
def oC(h:Wd G T W)(hp:P.length=W.length)(hs:Sm P):eK [ax G T W,af P]=some (match (List.range W.length).find? λk=>decide (kr G T W P k=3) with|some k=>nD k|none=>.none):=by
 have hw:=h.wl;refine aL ?_;show eR [.val (ax G T W),.val (af P),.non]=_;unfold eR;let⟨f1,f2'⟩:=lr (tgt:=k3 2) (gb:=eP (fB (f2 rz (ah 3 fJ (aa (ab 0) (aa (ab 1) (aa (ab 2) ae)))) (fC .none))) (aF (ab 2)) eF) (λρ=>∃x,ρ=[.val (ax G T W),.val (af P),x]) nD (λk=>decide (kr G T W P k=3)) nD
  (l:=List.range W.length) (ρ:=[.val (ax G T W),.val (af P),.non])
  (λρ k hk hρ=>by
   let⟨x,rfl⟩:=hρ;have hk':k < W.length:=by simpa using hk
   have c:(fB (f2 rz (ah 3 fJ (aa (ab 0) (aa (ab 1) (aa (ab 2) ae)))) (fC .none))) (bw [.val (ax G T W),.val (af P),.val (nD k)])=some (decide (kr G T W P k=3)) :=
    bM (ay (Gr _ (Ll G T W P k)) (call_of (yq h hp hs hk') rfl rfl) rfl)
   refine⟨_,rfl,λhq=>?_,λhq=>?_⟩
   ·show eP _ _ _ [.val (ax G T W),.val (af P),.val (nD k)]=_;rw[hq] at c;exact (iF c).trans (aR rfl)
   ·rw[hq] at c;exact⟨_,bZ c,_,rfl⟩) ⟨_,rfl⟩
 have hr:aX (aa (bu bK (aa (ab 1) ae)) ae) [some (ax G T W),some (af P),none]=some ((List.range W.length).map nD):=pR (EZ hp rfl) (by lia);cases e:(List.range W.length).find? λk=>decide (kr G T W P k=3) with
 | some k=>exact lI (cM (f1 k e) hr rfl)
 | none =>
  let⟨ρ',e',x,rfl⟩:=f2' e;exact (ai (cM e' hr rfl)).trans (aR rfl)
def yy(h:Wd G T W)(hp:P.length=W.length)(hs:Sm P):lJ [ax G T W,af P]=some (.bool (decide (AU G T W P=[]))):=by
 refine aL ?_;show lQ [.val (ax G T W),.val (af P)]=_;unfold lQ;refine aR (ay ?_ (call_of (oC h hp hs) rfl rfl) rfl);cases e:(List.range W.length).find? λk=>decide (kr G T W P k=3) with
 | some k =>
  have:AU G T W P≠[]:=λz=>by
   have hm:=jX e;have hq:=vS e;have:k∈AU G T W P:=List.mem_filter.mpr ⟨hm,hq⟩;rw[z] at this;cases this
  rw[zZ this];rfl
 | none =>
  have:AU G T W P=[]:=by
   rw[List.find?_eq_none] at e;exact List.filter_eq_nil_iff.mpr e
  rw[yA this];rfl
def rq(h:Wd G T W)(hb:bE [ax T G (dH W (bJ W))]=some (af c))(p:Pn T G (dH W (bJ W)) c):cC [ax G T W]=some (af (k7 c (bJ (dH W (bJ W))))):=by
 have o:=cY h.wp;have h':=o.wd h;refine aL ?_;show gD [.val (ax G T W),.non]=_;unfold gD;have t1:Dl.az 1 [0] (ah 1 l7 (aa (ab 0) ae)) [.val (ax G T W),.non]=some (.nx [.val (ax G T W),.val (ax T G (dH W (bJ W)))]):=bC (call_of (ya h) rfl rfl) (call_of (ya h) rfl rfl) rfl;rw[ai t1];exact aR (call_of (qy h' p) (cons_of rfl (cons_of (call_of hb rfl rfl) rfl)) rfl)
def add_row(h:a.length+b.length<=1000):Dl.aK (af a) (af b)=some (af (a++b)):=by
 unfold af;rw[tE (by simp;lia),jA]
def oT(cont:S->Bool)(st:S->S)(μ:S->Nat)(I:S->Prop)(hb:∀s,I s->cont s=true->I (st s)/\μ (st s) < μ s):∀ (n:Nat) (s:S),μ s < n->I s->cont (lp cont st n s)=false/\I (lp cont st n s)
 | 0,s,h,_=>absurd h (by lia)
 | n+1,s,h,i=>by
  rw[lp];cases hc:cont s with
  | false=>exact⟨by simpa [hc] using hc,by simpa using i⟩
  | true =>
   let⟨i2,hm⟩:=hb s i hc;have:=oT cont st μ I hb n (st s) (by lia) i2;simpa using this
def zj(hk:k < W.length):(dw W).getD k 0=(aC W k).2.2:=by
 unfold dw;rw[zG,zO,mI hk];rfl
def l9(h:Wd G T W):qs G T W (fin G T W).2=none/\yl W (fin G T W)/\∀k,k < W.length->(fin G T W).2.getD k 0<=(aC W k).2.2:=by
 have hb:=h.mea;let⟨h1,i,h2⟩:=oT (JA G T W) (spS G T W) (λs=>mea s.2) (λs=>yl W s/\∀k,k < W.length->s.2.getD k 0<=(aC W k).2.2)
  (λs ⟨i,l⟩ hc=>by
   let⟨p,e⟩:=mQ hc;let⟨a,b,c⟩:=AI h i.off e;let⟨i2,hm⟩:=i.step h e;refine⟨⟨i2,λk hk=>?_⟩,hm⟩;rw[qo e];show (s.2.set p.1 p.2).getD k 0<=_;by_cases z:k=p.1
   ·subst z;have:=l p.1 a;have hl:p.1 < s.2.length:=by rw[i.len];exact a
    rw[show (s.2.set p.1 p.2).getD p.1 0=p.2 by simp[hl]];lia
   ·rw[show (s.2.set p.1 p.2).getD k 0=s.2.getD k 0 by simp[kP (jM z)]];exact l k hk) Rf.turns ([],dw W) (qZ hb (by decide)) ⟨yl.start h,λk hk=>by rw[zj hk];lia⟩
 refine⟨?_,i,h2⟩;have:JA G T W (fin G T W)=false:=h1;unfold JA at this;exact Option.isNone_iff_eq_none.mp (by simpa using this)
def fP(G T:List Pl)(W:List Wy):List Int:=aQ false G T W (fin G T W).2
def fS(h:Wd G T W):Pn G T W (fP G T W):=by
 let⟨h1,i,h2⟩:=l9 h;exact HC h i.off h2 h1
def DP(h:Wd G T W):bE [ax G T W]=some (af (fP G T W)):=qv h
def rQ(a:Bool):dv (.bool a) (.bool a)=some (.bool false):=by cases a<;>simp[dv,LV,SeqAt.shaped,PyData.canLay0,PyData.depth,PyData.eqv]
def sm(l:List Nat)(f:Nat->Int):Int:=(l.map f).sum
def aD(q:Nat)(l:List Nat)(f:Nat->Int):sm (q::l) f=f q+sm l f:=by simp[sm]
def nO(l r:List Nat)(f:Nat->Int):sm (l++r) f=sm l f+sm r f:=by simp[sm]
def oK(q:Nat)(f:Nat->Int):sm [q] f=f q:=by simp[sm]
def bx:∀ {l:List Nat}{f g:Nat->Int},(∀q∈l,f q=g q)->sm l f=sm l g
 | [],_,_,_=>rfl
 | q::l,f,g,h=>by rw[aD,aD,h q zE,bx λx hx=>h x (zC _ hx)]
def mh:∀ {l:List Nat}{f g:Nat->Int},(∀q∈l,f q<=g q)->sm l f<=sm l g
 | [],_,_,_=>xZ _
 | q::l,f,g,h=>by
  have h1:=h q zE;have h2:=mh (l:=l) λx hx=>h x (zC _ hx);rw[aD,aD];lia
def n0(h:∀q∈l,0<=f q):0<=sm l f:=by
 have:sm l (λ_=>0)=0:=by induction l with
  | nil=>rfl
  | cons q l ih=>rw[aD,ih λx hx=>h x (zC _ hx)];rfl
 rw[<- this];exact mh h
def AX:∀ {l:List Nat}{f g:Nat->Int}{p:Nat},(∀q∈l,f q<=g q)->p∈l->f p < g p->sm l f < sm l g
 | q::l,f,g,p,h,hp,e=>by
  have h1:=h q zE;have h2:=mh (l:=l) λx hx=>h x (zC _ hx);rw[aD,aD];rcases List.mem_cons.mp hp with z|z
  ·subst z;lia
  ·have:=AX (l:=l) (λx hx=>h x (zC _ hx)) z e;lia
def Jv(h:sm l f<=sm l g)(hp:p∈l)(e:g p < f p):∃q∈l,f q < g q:=by
 refine Classical.byContradiction λhn=>?_;have:∀q∈l,g q<=f q:=λq hq=>by
  refine Classical.byContradiction λz=>hn ⟨q,hq,by lia⟩
 have:=AX this hp e;lia
def Am(h:∀q∈l,0<=f q)(hp:p∈l):f p<=sm l f:=by
 let⟨xs,ys,rfl⟩:=List.append_of_mem hp;rw[nO,aD];have h1:=n0 (l:=xs) λq hq=>h q (qJ _ hq);have h2:=n0 (l:=ys) λq hq=>h q (yE _ (zC _ hq));lia
def B7(p:l.Perm r)(f:Nat->Int):sm l f=sm r f:=by
 induction p with
 | nil=>rfl
 | cons x _ ih=>rw[aD,aD,ih]
 | swap x y l=>rw[aD,aD,aD,aD];lia
 | trans _ _ h1 h2=>rw[h1,h2]
def ch(m:Nat->Int):Int->List Nat->Nat->Int
 | _,[],_=>0
 | a,q::r,k=>if k=q then min (m q) a else ch m (a - min (m q) a) r k
def bg(m:Nat->Int)(a:Int)(q:Nat)(r:List Nat):ch m a (q::r) q=min (m q) a:=by simp[ch]
def bb(h:k≠q):ch m a (q::r) k=ch m (a - min (m q) a) r k:=by simp[ch,h]
def FQ:∀ {a:Int}{l:List Nat},(∀q∈l,0<=m q)->0<=a->∀k,0<=ch m a l k/\ch m a l k<=a/\(k∈l->ch m a l k<=m k)
 | a,[],_,ha,k=>⟨xZ _,ha,λh=>by cases h⟩
 | a,q::r,hm,ha,k=>by
  have h0:=hm q zE;by_cases e:k=q
  ·subst e;rw[bg];exact⟨by lia,by lia,λ_=>by lia⟩
  ·rw[bb e];let⟨h1,h2,h3⟩:=FQ (m:=m) (a:=a - min (m q) a) (l:=r) (λx hx=>hm x (zC _ hx)) (by lia) k;refine⟨h1,by lia,λhk=>?_⟩;rcases List.mem_cons.mp hk with z|z
   ·exact absurd z e
   ·exact h3 z
def Fs:∀ {a:Int}{l:List Nat},l.Nodup->(∀q∈l,0<=m q)->0<=a->sm l (ch m a l)=min a (sm l m)
 | a,[],_,_,ha=>by simp[sm];lia
 | a,q::r,hn,hm,ha=>by
  rw[kR] at hn;have h0:=hm q zE;have hr:∀x∈r,0<=m x:=λx hx=>hm x (zC _ hx);have hs:=n0 hr;have ih:=Fs (m:=m) (a:=a - min (m q) a) hn.2 hr (by lia);rw[aD,aD,bg,bx (g:=ch m (a - min (m q) a) r) λx hx=>bb λe=>hn.1 (e ▸ hx),ih];lia
def B1:∀ {a a':Int}{l:List Nat}{k:Nat},a<=a'->ch m a l k<=ch m a' l k
 | _,_,[],_,_=>xZ _
 | a,a',q::r,k,h=>by
  by_cases e:k=q
  ·subst e;rw[bg,bg];lia
  ·rw[bb e,bb e];exact B1 (by lia)
def A2:∀ {a:Int}{l:List Nat},l.Nodup->(∀q∈l,ch m a l q<=m' q/\m' q<=m q)->∀k,ch m' a l k=ch m a l k
 | _,[],_,_,_=>rfl
 | a,q::r,hn,h,k=>by
  rw[kR] at hn;have h0:=h q zE;rw[bg] at h0;have e0:min (m' q) a=min (m q) a:=by lia
  by_cases e:k=q
  ·subst e;rw[bg,bg,e0]
  ·rw[bb e,bb e,e0];exact A2 hn.2 (λx hx=>by
    have:=h x (zC _ hx)
    rwa [bb (show x≠q fromλz=>hn.1 (z ▸ hx))] at this) k
def pM:∀ {a:Int}{l:List Nat},(∀q∈l,m q=m' q)->∀k,ch m a l k=ch m' a l k
 | _,[],_,_=>rfl
 | a,q::r,h,k=>by
  have h0:=h q zE;by_cases e:k=q
  ·subst e;rw[bg,bg,h0]
  ·rw[bb e,bb e,h0];exact pM (λx hx=>h x (zC _ hx)) k
def up:List Nat->Nat->List Nat
 | [],_=>[]
 | q::r,k=>if k=q then [q] else q::up r k
def ck(q:Nat)(r:List Nat):up (q::r) q=[q]:=by simp[up]
def cN(h:k≠q):up (q::r) k=q::up r k:=by simp[up,h]
def bQ:∀ {l:List Nat}{k q:Nat},q∈up l k->q∈l
 | [],_,_,h=>by cases h
 | x::l,k,q,h=>by
  by_cases e:k=x
  ·subst e;rw[ck,yJ] at h;exact h ▸ zE
  ·rw[cN e] at h;rcases List.mem_cons.mp h with z|z
   ·exact z ▸ zE
   ·exact zC _ (bQ z)
def oW:∀ {l:List Nat}{k:Nat},k∈l->k∈up l k
 | x::l,k,h=>by
  by_cases e:k=x
  ·subst e;rw[ck];exact zE
  ·rw[cN e];rcases List.mem_cons.mp h with z|z
   ·exact absurd z e
   ·exact zC _ (oW z)
def tY:∀ {xs ys:List Nat}{k:Nat},k∉xs->up (xs++k::ys) k=xs++[k]
 | [],ys,k,_=>ck _ _
 | x::xs,ys,k,h=>by
  rw[zQ,not_or] at h;rw[xF,cN h.1,tY h.2];rfl
def oO(hn:l.Nodup)(hk:k∈l):∃ys,l=up l k++ys/\(∀q∈ys,q∉up l k):=by
 let⟨xs,ys,rfl⟩:=List.append_of_mem hk;have hx:k∉xs:=λz=>by
  rw[wU] at hn;exact hn.2.2 k z k zE rfl
 refine⟨ys,by rw[tY hx];simp,λq hq hq2=>?_⟩;rw[tY hx] at hq2;rw[show xs++k::ys=(xs++[k])++ys by simp,wU] at hn;exact hn.2.2 q hq2 q hq rfl
def oH:∀ {l:List Nat}{k q:Nat},l.Nodup->q∈up l k->k∈up l q->k=q
 | [],_,_,_,h,_=>by cases h
 | x::l,k,q,hn,h1,h2=>by
  rw[kR] at hn;by_cases e:k=x
  ·subst e;rw[ck,yJ] at h1;exact h1.symm
  ·by_cases e2:q=x
   ·subst e2;rw[ck,yJ] at h2;exact h2
   ·rw[cN e] at h1;rw[cN e2] at h2;rcases List.mem_cons.mp h1 with z|z
    ·exact absurd z e2
    ·rcases List.mem_cons.mp h2 with z2|z2
     ·exact absurd z2 e
     ·exact oH hn.2 z z2
def vd:∀ {l:List Nat}{k:Nat},l.Nodup->(up l k).Nodup
 | [],_,_=>List.nodup_nil
 | x::l,k,h=>by
  have h':=h;rw[kR] at h;by_cases e:k=x
  ·subst e;rw[ck];exact List.nodup_cons.mpr ⟨by simp,List.nodup_nil⟩
  ·rw[cN e,kR];exact⟨λz=>h.1 (bQ z),vd h.2⟩
def sS:∀ {a:Int}{l:List Nat}{k:Nat},l.Nodup->k∈l->ch m a l k < m k->sm (up l k) (ch m a l)=a
 | a,q::r,k,hn,hk,h=>by
  rw[kR] at hn;by_cases e:k=q
  ·subst e;rw[bg] at h;rw[ck,oK,bg];lia
  ·rw[bb e] at h;have hk':k∈r:=by
    rcases List.mem_cons.mp hk with z|z
    ·exact absurd z e
    ·exact z
   have ih:=sS hn.2 hk' h;rw[cN e,aD,bg,bx (g:=ch m (a - min (m q) a) r) λx hx=>bb λz=>hn.1 (z ▸ bQ hx),ih];lia
def Fk:∀ {a:Int}{l:List Nat}{k q:Nat},l.Nodup->(∀x∈l,0<=m x)->0<=a->0 < ch m a l k->q∈up l k->q≠k->ch m a l q=m q
 | a,[],_,_,_,_,_,_,h,_=>by cases h
 | a,x::r,k,q,hn,hm,ha,h,hq,hne=>by
  rw[kR] at hn;have h0:=hm x zE;have hr:∀y∈r,0<=m y:=λy hy=>hm y (zC _ hy);by_cases e:k=x
  ·subst e;rw[ck,yJ] at hq;exact absurd hq hne
  ·rw[bb e] at h;rw[cN e] at hq;rcases List.mem_cons.mp hq with z|z
   ·subst z;rw[bg];have:=(FQ (m:=m) (a:=a - min (m q) a) hr (by lia) k).2.1;lia
   ·have hqx:q≠x:=λw=>hn.1 (w ▸ bQ z);rw[bb hqx];exact Fk hn.2 hr (by lia) h z hne
def Jp:∀ {a:Int}{l:List Nat}{k:Nat},l.Nodup->(∀x∈l,0<=m x)->0<=a->k∈l->sm (up l k) (ch m a l)=min a (sm (up l k) m)
 | a,q::r,k,hn,hm,ha,hk=>by
  rw[kR] at hn;have h0:=hm q zE;have hr:∀y∈r,0<=m y:=λy hy=>hm y (zC _ hy);by_cases e:k=q
  ·subst e;rw[ck,oK,oK,bg];lia
  ·have hk':k∈r:=by
    rcases List.mem_cons.mp hk with z|z
    ·exact absurd z e
    ·exact z
   have ih:=Jp (m:=m) (a:=a - min (m q) a) hn.2 hr (by lia) hk';have hs:=n0 (l:=up r k) λy hy=>hr y (bQ hy);rw[cN e,aD,aD,bg,bx (g:=ch m (a - min (m q) a) r) λx hx=>bb λz=>hn.1 (z ▸ bQ hx),ih];lia
def Fj:∀ {a:Int}{l:List Nat},l.Nodup->(∀x∈l,x≠p->m' x=m x)->m' p<=ch m a l p->(∀k∈l,k≠p->ch m a l k<=ch m' a l k)/\(p∈l->ch m' a l p=m' p)
 | _,[],_,_,_=>⟨λ_ h=>absurd h yF,λh=>absurd h yF⟩
 | a,q::r,hn,h,hp=>by
  rw[kR] at hn;by_cases e:q=p
  ·subst e;rw[bg] at hp;have hs:∀x∈r,m' x=m x:=λx hx=>h x (zC _ hx) λz=>hn.1 (z ▸ hx);refine⟨λk hk hne=>?_,λ_=>?_⟩
   ·rw[bb hne,bb hne,pM (m:=m') (m':=m) hs];exact B1 (by lia)
   ·rw[bg];lia
  ·have hq:=h q zE e;rw[bb (jM e)] at hp;let⟨i1,i2⟩:=Fj (m:=m) (m':=m') (p:=p) (a:=a - min (m q) a) hn.2 (λx hx=>h x (zC _ hx)) hp;refine⟨λk hk hne=>?_,λhk=>?_⟩
   ·by_cases e2:k=q
    ·subst e2;rw[bg,bg,hq];exact xZ _
    ·rw[bb e2,bb e2,hq];rcases List.mem_cons.mp hk with z|z
     ·exact absurd z e2
     ·exact i1 k z hne
   ·rw[bb (jM e),hq];rcases List.mem_cons.mp hk with z|z
    ·exact absurd z.symm e
    ·exact i2 z
def ES:∀ {a:Int}{l:List Nat},l.Nodup->(∀q∈l,0<=X q/\X q<=m q)->sm l X<=a->(∀k∈l,X k=m k\/sm (up l k) X=a)->∀k∈l,ch m a l k=X k
 | _,[],_,_,_,_,_,h=>by cases h
 | a,q::r,hn,hX,hs,h,k,hk=>by
  rw[kR] at hn;have h0:=hX q zE;have hr:∀y∈r,0<=X y/\X y<=m y:=λy hy=>hX y (zC _ hy);have hnn:=n0 (l:=r) λy hy=>(hr y hy).1;rw[aD] at hs;have e0:min (m q) a=X q:=by
   rcases h q zE with z|z
   ·lia
   ·rw[ck,oK] at z;lia
  by_cases e:k=q
  ·subst e;rw[bg,e0]
  ·rw[bb e,e0];rcases List.mem_cons.mp hk with z|z
   ·exact absurd z e
   ·refine ES hn.2 hr (by lia) (λj hj=>?_) k z;have hjq:j≠q:=λw=>hn.1 (w ▸ hj);rcases h j (zC _ hj) with w|w
    ·exact .inl w
    ·rw[cN hjq,aD] at w;exact .inr (by lia)
def ba(b:Bool)(W:List Wy)(k:Nat):Nat:=(bq b (aC W k)).toNat
def lst(b:Bool)(G T:List Pl)(W:List Wy)(i:Nat):List Nat:=eu b W i (cE b G T i).2
def amt(b:Bool)(G T:List Pl)(i:Nat):Int:=(cE b G T i).1
def mm(W:List Wy)(off:List Int)(q:Nat):Int:=min (off.getD q 0) (aC W q).2.2
def vl(P:List Int)(q:Nat):Int:=P.getD q 0
section
variable {G T:List Pl}{W:List Wy}{P X c off:List Int}{b:Bool}{i k q:Nat}
def aZ(h:Wd G T W)(b:Bool)(hk:k < W.length):ba b W k < (aH b G T).length:=(h.end_pl b hk).2.1
def mD(h:Wd G T W)(hi:i < (aH b G T).length):(lst b G T W i).Perm (own b W i):=eB h (gq hi)
def aN(h:Wd G T W)(hi:i < (aH b G T).length):(lst b G T W i).Nodup:=(mD h hi).nodup_iff.mpr (List.nodup_range.filter _)
def bj(h:Wd G T W)(hi:i < (aH b G T).length):q∈lst b G T W i↔q < W.length/\ba b W q=i:=by
 rw[(mD h hi).mem_iff,cq];constructor
 ·rintro⟨h1,h2⟩;exact⟨h1,by unfold ba;rw[h2];simp⟩
 ·rintro⟨h1,h2⟩;have:=(h.end_pl b h1).2.2;unfold ba at h2;rw[h2] at this;exact⟨h1,this.symm⟩
def aV(h:Wd G T W)(b:Bool)(hk:k < W.length):k∈lst b G T W (ba b W k):=(bj h (aZ h b hk)).mpr ⟨hk,rfl⟩
def Bj(h:Wd G T W)(ho:Off off)(q:Nat):0<=mm W off q:=by
 have h1:=ho q;have h2:=h.lim q;unfold mm;lia
def zt:∀ (is:List Nat) (a:Int) (l:List Int),is.Nodup->(∀i∈is,i < l.length)->∀k,(is.foldl (lU W off) (a,l)).2.getD k 0=if k∈is then ch (mm W off) a is k else l.getD k 0
 | [],a,l,_,_,k=>by simp
 | q::is,a,l,hn,hl,k=>by
  rw[kR] at hn;have ih:=zt is (a - cV W off a q) (l.set q (cV W off a q)) hn.2 (λi hi=>by rw[yC];exact hl i (zC _ hi)) k;rw[yI];show (is.foldl (lU W off) (a - cV W off a q,l.set q (cV W off a q))).2.getD k 0=_;rw[ih];have hq:=hl q zE;by_cases e:k=q
  ·subst e;rw[yN hn.1,yL zE,bg,cy,yL ⟨rfl,hq⟩];rfl
  ·rw[bb e];by_cases hk:k∈is
   ·rw[yL hk,yL (zC _ hk)];rfl
   ·rw[yN hk,yN (by rw[zQ,not_or];exact⟨e,hk⟩),cy,yN (λz=>e z.1.symm)]
def eI(h:Wd G T W)(b:Bool)(off:List Int)(hk:k < W.length):(aQ b G T W off).getD k 0=ch (mm W off) (amt b G T (ba b W k)) (lst b G T W (ba b W k)) k:=by
 have hi:=aZ h b hk;rw[DR h b hk];show (mZ W off (amt b G T (ba b W k)) (lst b G T W (ba b W k))).getD k 0=_;unfold mZ;rw[zt _ _ _ (aN h hi) (λj hj=>by rw[xM];exact ((bj h hi).mp hj).1),yL (aV h b hk)]
def tO(h:Wd G T W)(b:Bool)(i:Nat):0<=amt b G T i:=h.amt b i
def iA(h:Wd G T W)(hi:i < (aH b G T).length):oG b W P i=sm (lst b G T W i) (vl P):=by
 unfold oG;rw[B7 (mD h hi)];rfl
def Fl(b:Bool)(G T:List Pl)(W:List Wy)(P:List Int)(k:Nat):Prop:=sm (up (lst b G T W (ba b W k)) k) (vl P)=amt b G T (ba b W k)
def Rs(G T:List Pl)(W:List Wy)(P:List Int):Prop:=∀k,k < W.length->P.getD k 0=(aC W k).2.2\/Fl false G T W P k\/Fl true G T W P k
def Pn.nn(p:Pn G T W P)(q:Nat):0<=vl P q:=by
 by_cases hq:q < W.length
 ·exact (p.bd q hq).1
 ·unfold vl;rw[fU (by rw[p.len];lia)];lia
def Pn.le_sm(h:Wd G T W)(p:Pn G T W P)(hi:i < (aH b G T).length):sm (lst b G T W i) (vl P)<=amt b G T i:=by
 rw[<- iA h hi];exact p.am b i hi
def AV(h:Wd G T W)(p:Pn G T W P)(b:Bool)(hk:k < W.length):ur b G T W P k=false↔Fl b G T W P k:=by
 let⟨z1,z2,z3⟩:=h.end_pl b hk;have hc:lst b G T W (ba b W k)=((cE b G T (ba b W k)).2.take (rF (cE b G T (ba b W k)).2 (bU b (aC W k)))).map (ou b W (ba b W k))++k::((cE b G T (ba b W k)).2.drop (rF (cE b G T (ba b W k)).2 (bU b (aC W k))+1)).map (ou b W (ba b W k)):=Hs h hk;have hn:=aN (b:=b) h z2;change (lst b G T W (ba b W k)).Nodup at hn;have hle:=p.le_sm h z2;change sm (lst b G T W (ba b W k)) (vl P)<=amt b G T (ba b W k) at hle;have hth:=iA (P:=P) h z2;have hy:ur b G T W P k=(decide (oG b W P ((ba b W k:Nat):Int) < amt b G T (ba b W k))||(((cE b G T (ba b W k)).2.drop (rF (cE b G T (ba b W k)).2 (bU b (aC W k))+1)).map (ou b W (ba b W k))).any λq=>decide (0 < vl P q)):=by
  unfold ur;rw[wN];unfold ba amt;rw[z3];rfl
 change oG b W P ((ba b W k:Nat):Int)=sm (lst b G T W (ba b W k)) (vl P) at hth;unfold Fl;rw[hy,hth];revert hc;generalize ((cE b G T (ba b W k)).2.take (rF (cE b G T (ba b W k)).2 (bU b (aC W k)))).map (ou b W (ba b W k))=xs;generalize ((cE b G T (ba b W k)).2.drop (rF (cE b G T (ba b W k)).2 (bU b (aC W k))+1)).map (ou b W (ba b W k))=ys;intro hc;have hx:k∉xs:=λz=>by
  rw[hc,wU] at hn;exact hn.2.2 k z k zE rfl
 rw[hc,tY hx];rw[hc] at hle;have e:sm (xs++k::ys) (vl P)=sm (xs++[k]) (vl P)+sm ys (vl P):=by
  rw[<- nO];simp
 have hnn:=n0 (l:=ys) λq _=>p.nn q;have hpos:=Bc (P:=P) ys λq _=>p.nn q;change (0 < sm ys (vl P)↔(ys.any λq=>decide (0 < vl P q))=true) at hpos;rw[e] at hle ⊢;rw[Bool.or_eq_false_iff,xB];constructor
 ·rintro⟨h1,h2⟩;have:¬ 0 < sm ys (vl P):=λz=>by rw[hpos.mp z] at h2;cases h2
  lia
 ·intro h1;refine⟨by lia,?_⟩;cases hh:(ys.any λq=>decide (0 < vl P q)) with
  | false=>rfl
  | true=>have:=hpos.mpr hh;lia
def mw(h:Wd G T W)(p:Pn G T W P):AU G T W P=[]↔Rs G T W P:=by
 unfold AU;rw[List.filter_eq_nil_iff];constructor
 ·intro hh k hk;have:=hh k (by simpa using hk);rw[zJ] at this;unfold kr at this;by_cases e1:P.getD k 0=(aC W k).2.2
  ·exact .inl e1
  ·rw[yN e1] at this;by_cases e2:ur false G T W P k=false
   ·exact .inr (.inl ((AV h p false hk).mp e2))
   ·rw[yN e2] at this;by_cases e3:ur true G T W P k=false
    ·exact .inr (.inr ((AV h p true hk).mp e3))
    ·rw[yN e3] at this;exact absurd rfl this
 ·intro hh k hk;rw[zJ];unfold kr;rcases hh k (by simpa using hk) with e|e|e
  ·rw[yL e];lia
  ·rw[yL ((AV h p false (by simpa using hk)).mpr e)];split<;>lia
  ·rw[yL ((AV h p true (by simpa using hk)).mpr e)];split
   ·lia
   ·split<;>lia
def uD(e:qs G T W c=some (k,q')):k < W.length/\q'=(iS G T W c).getD k 0/\(iS G T W c).getD k 0 < (aQ false G T W c).getD k 0:=by
 unfold qs at e;let⟨j,hj,e2⟩:=Dl.ag e;cases e2;have hm:=jX hj;have hq:=vS hj;rw[qR,zJ] at hq;exact⟨List.mem_range.mp hm,rfl,hq⟩
def IW(e:qs G T W c=none)(hk:k < W.length):(aQ false G T W c).getD k 0<=(iS G T W c).getD k 0:=by
 unfold qs at e;rw[Option.map_eq_none_iff] at e;have:=List.find?_eq_none.mp e k (by simpa using hk);rw[qR,zJ] at this;lia
end
section
variable {P X c off:List Int}
def lG(h:Wd G T W)(hk:k < W.length)(hq:q∈lst b G T W (ba b W k)):q < W.length/\ba b W q=ba b W k:=(bj h (aZ h b hk)).mp hq
def jj(h:Wd G T W)(hi:i < (aH b G T).length)(hq:q∈lst b G T W i):vl (aQ b G T W off) q=ch (mm W off) (amt b G T i) (lst b G T W i) q:=by
 let⟨h1,h2⟩:=(bj h hi).mp hq;have:=eI h b off h1;rw[h2] at this;exact this
def Fh(h:Wd G T W)(ho:Off off)(b:Bool)(hk:k < W.length):sm (up (lst b G T W (ba b W k)) k) (vl (aQ b G T W off))=min (amt b G T (ba b W k)) (sm (up (lst b G T W (ba b W k)) k) (mm W off)):=by
 have hi:=aZ h b hk;rw[bx λq hq=>jj h hi (bQ hq)];exact Jp (aN h hi) (λq _=>Bj h ho q) (tO h b _) (aV h b hk)
def pC(h:Wd G T W)(b:Bool)(hk:k < W.length)(e:(aQ b G T W off).getD k 0 < mm W off k):Fl b G T W (aQ b G T W off) k:=by
 have hi:=aZ h b hk;rw[eI h b off hk] at e;unfold Fl;rw[bx λq hq=>jj h hi (bQ hq)];exact sS (aN h hi) (aV h b hk) e
def HX(h:Wd G T W)(ho:Off off)(hk:k < W.length)(e:0 < (aQ b G T W off).getD k 0)(hq:q∈up (lst b G T W (ba b W k)) k)(hne:q≠k):(aQ b G T W off).getD q 0=mm W off q:=by
 have hi:=aZ h b hk;rw[eI h b off hk] at e;have:=jj (off:=off) h hi (bQ hq);unfold vl at this;rw[this];exact Fk (aN h hi) (λq _=>Bj h ho q) (tO h b _) e hq hne
def yw(h:Wd G T W)(ho:Off off)(b:Bool)(hk:k < W.length):0<=(aQ b G T W off).getD k 0/\(aQ b G T W off).getD k 0<=mm W off k:=by
 have hi:=aZ h b hk;rw[eI h b off hk];have:=FQ (m:=mm W off) (a:=amt b G T (ba b W k)) (l:=lst b G T W (ba b W k)) (λq _=>Bj h ho q) (tO h b _) k;exact⟨this.1,this.2.2 (aV h b hk)⟩
def BD(h:Wd G T W)(ho:Off off)(hi:i < (aH b G T).length):sm (lst b G T W i) (vl (aQ b G T W off))=min (amt b G T i) (sm (lst b G T W i) (mm W off)):=by
 rw[bx λq hq=>jj h hi hq];exact Fs (aN h hi) (λq _=>Bj h ho q) (tO h b _)
def Jh(h:Wd G T W)(p:Pn G T W X)(b:Bool)(hk:k < W.length):sm (up (lst b G T W (ba b W k)) k) (vl X)<=amt b G T (ba b W k):=by
 have hi:=aZ h b hk;have:=p.le_sm h hi;let⟨ys,e,_⟩:=oO (aN h hi) (aV h b hk);rw[e,nO] at this;have hn:=n0 (l:=ys) λq _=>p.nn q;lia
def yv(h:Wd G T W)(p:Pn G T W X)(hq:q < W.length)(f:Fl b G T W X q)(hk:k∈lst b G T W (ba b W q))(hn:k∉up (lst b G T W (ba b W q)) q):X.getD k 0=0:=by
 have hi:=aZ h b hq;have hle:=p.le_sm h hi;let⟨ys,e,_⟩:=oO (aN h hi) (aV h b hq);have hy:k∈ys:=by
  rw[e] at hk;rcases List.mem_append.mp hk with z|z
  ·exact absurd z hn
  ·exact z
 rw[e,nO] at hle;unfold Fl at f;have:=Am (l:=ys) (λq _=>p.nn q) hy;have h0:=p.nn k;unfold vl at this h0;have:sm ys (vl X)=sm ys λq=>X.getD q 0:=rfl;lia
def wZ(h:Wd G T W)(p:Pn G T W X)(ho:Off c)(hc:∀k,k < W.length->X.getD k 0<=c.getD k 0)(hq:q < W.length)(e:X.getD q 0 < (aQ false G T W c).getD q 0):¬ Fl false G T W X q:=λf=>by
 have hi:=aZ h false hq;have hpos:0 < (aQ false G T W c).getD q 0:=by have:=p.nn q;unfold vl at this;lia
 have hlt:sm (up (lst false G T W (ba false W q)) q) (vl X) < sm (up (lst false G T W (ba false W q)) q) (vl (aQ false G T W c)):=by
  refine AX (p:=q) (λr hr=>?_) (oW (aV h false hq)) e;by_cases z:r=q
  ·subst z;exact Int.le_of_lt e
  ·have hr':=(lG h hq (bQ hr)).1;unfold vl;rw[HX h ho hq hpos hr z];have h1:=hc r hr';have h2:=(p.bd r hr').2;unfold mm;lia
 have h2:=Fh h ho false hq;unfold Fl at f;lia
end
section
variable {P X c off:List Int}
def l5(h:Wd G T W)(ho:Off c)(hk:k < W.length):0<=(iS G T W c).getD k 0/\(iS G T W c).getD k 0<=(aQ false G T W c).getD k 0/\(aQ false G T W c).getD k 0<=c.getD k 0/\(aQ false G T W c).getD k 0<=(aC W k).2.2/\mm W (aQ false G T W c) k=(aQ false G T W c).getD k 0:=by
 have h1:=yw h ho false hk;have h2:=yw h (ip h ho false) true hk;change 0<=(iS G T W c).getD k 0/\(iS G T W c).getD k 0<=_ at h2;unfold mm at h1 h2 ⊢;lia
def Es(h:Wd G T W)(p:Pn G T W X)(r:Rs G T W X)(ho:Off c)(hc:∀k,k < W.length->X.getD k 0<=c.getD k 0)(e:qs G T W c=some (k,v)):X.getD k 0<=v:=by
 let⟨hk,rfl,hlt⟩:=uD e;refine Classical.byContradiction λhn=>?_;have hn:(iS G T W c).getD k 0 < X.getD k 0:=by lia
 let⟨b0,b1,b2,b3,b4⟩:=l5 h ho hk;have ff:Fl true G T W (iS G T W c) k:=pC h true hk (by rw[b4];exact hlt);have hle:=Jh h p true hk;unfold Fl at ff;let⟨q,hq,hqx⟩:=Jv (f:=vl X) (g:=vl (iS G T W c)) (l:=up (lst true G T W (ba true W k)) k) (p:=k) (by lia) (oW (aV h true hk)) hn;let⟨hq1,hq2⟩:=lG h hk (bQ hq);unfold vl at hqx;have hne:q≠k:=λz=>by subst z;lia
 let⟨d0,d1,d2,d3,d4⟩:=l5 h ho hq1;have hxq:=(p.bd q hq1).1;rcases r q hq1 with z|z|z
 ·lia
 ·exact wZ h p ho hc hq1 (by lia) z
 ·have hn2:k∉up (lst true G T W (ba true W q)) q:=λw=>by
   rw[hq2] at w;exact hne (oH (aN h (aZ h true hk)) hq w).symm
  have:=yv h p hq1 z (by rw[hq2];exact aV h true hk) hn2;lia
def BK(h:Wd G T W)(p:Pn G T W X)(r:Rs G T W X)(hk:k < W.length):X.getD k 0<=(fin G T W).2.getD k 0:=by
 have hb:=h.mea;let⟨_,_,h2⟩:=oT (JA G T W) (spS G T W) (λs=>mea s.2) (λs=>yl W s/\∀k,k < W.length->X.getD k 0<=s.2.getD k 0)
  (λs ⟨i,l⟩ hc=>by
   let⟨⟨k,v⟩,e⟩:=mQ hc;let⟨i2,hm⟩:=i.step h e;have hx:=Es h p r i.off l e;refine⟨⟨i2,λj hj=>?_⟩,hm⟩;rw[qo e];show _<=(s.2.set k v).getD j 0;rw[cy];split
   ·rename_i z;rw[<- z.1];exact hx
   ·exact l j hj) Rf.turns ([],dw W) (qZ hb (by decide)) ⟨yl.start h,λk hk=>by rw[zj hk];exact (p.bd k hk).2⟩
 exact h2 k hk
def Jn(G T:List Pl)(W:List Wy)(c:List Int):Prop:=∀k,k < W.length->c.getD k 0 < (aC W k).2.2->Fl true G T W (iS G T W c) k
def Kt(h:Wd G T W)(ho:Off c)(hl:c.length=W.length)(e:qs G T W c=some (k,v))(hq:q < W.length):(iS G T W c).getD q 0<=(aQ false G T W (c.set k v)).getD q 0:=by
 let⟨hk,rfl,hlt⟩:=uD e;let⟨b0,b1,b2,b3,b4⟩:=l5 h ho hk;let⟨d0,d1,d2,d3,d4⟩:=l5 h ho hq;have hi:=aZ h false hq;have hm:∀x,x≠k->mm W (c.set k ((iS G T W c).getD k 0)) x=mm W c x:=λx hx=>by
  unfold mm;rw[cy,yN (λz=>hx z.1.symm)]
 have hmk:mm W (c.set k ((iS G T W c).getD k 0)) k=(iS G T W c).getD k 0:=by
  unfold mm;rw[cy,yL ⟨rfl,by rw[hl];exact hk⟩];lia
 rw[eI h false _ hq];by_cases z:ba false W q=ba false W k
 ·have hkL:k∈lst false G T W (ba false W q):=by rw[z];exact aV h false hk
  have hA:vl (aQ false G T W c) k=ch (mm W c) (amt false G T (ba false W q)) (lst false G T W (ba false W q)) k:=jj h hi hkL;unfold vl at hA;let⟨l1,l2⟩:=Fj (m:=mm W c) (m':=mm W (c.set k ((iS G T W c).getD k 0))) (p:=k) (a:=amt false G T (ba false W q)) (l:=lst false G T W (ba false W q)) (aN h hi) (λx _ hx=>hm x hx) (by rw[hmk,<- hA];exact b1);by_cases y:q=k
  ·subst y;rw[l2 hkL,hmk];exact xZ _
  ·have:=l1 q (aV h false hq) y;rw[<- eI h false c hq] at this;lia
 ·rw[pM (m:=mm W (c.set k ((iS G T W c).getD k 0))) (m':=mm W c) λx hx=>hm x λw=>by
   subst w;exact z ((bj h hi).mp hx).2.symm]
  rw[<- eI h false c hq];exact d1
def Jn.step(h:Wd G T W)(ho:Off c)(hl:c.length=W.length)(j:Jn G T W c)(e:qs G T W c=some (k,v)):Jn G T W (c.set k v):=λq hq hlim=>by
 have ho':Off (c.set k v):=A3 ho (AI h ho e).2.1;have fq:Fl true G T W (iS G T W c) q:=by
  let⟨hk,rfl,hlt⟩:=uD e;by_cases z:q=k
  ·subst z;exact pC h true hq (by rw[(l5 h ho hq).2.2.2.2];exact hlt)
  ·rw[cy,yN (λw=>z w.1.symm)] at hlim;exact j q hq hlim
 have hu:=Fh h (ip h ho' false) true hq;change sm _ (vl (iS G T W (c.set k v)))=_ at hu;unfold Fl at fq ⊢;have hs:sm (up (lst true G T W (ba true W q)) q) (vl (iS G T W c))<=sm (up (lst true G T W (ba true W q)) q) (mm W (aQ false G T W (c.set k v))):=mh λx hx=>by
  have hx':=(lG h hq (bQ hx)).1;have h1:=Kt h ho hl e hx';have h2:=l5 h ho hx';unfold vl mm;lia
 rw[hu];lia
def M5(h:Wd G T W):Jn G T W (fin G T W).2:=by
 have hb:=h.mea;let⟨_,_,h2⟩:=oT (JA G T W) (spS G T W) (λs=>mea s.2) (λs=>yl W s/\Jn G T W s.2)
  (λs ⟨i,j⟩ hc=>by
   let⟨⟨k,v⟩,e⟩:=mQ hc;let⟨i2,hm⟩:=i.step h e;refine⟨⟨i2,?_⟩,hm⟩;rw[qo e];exact j.step h i.off i.len e) Rf.turns ([],dw W) (qZ hb (by decide)) ⟨yl.start h,λk hk hl=>by rw[zj hk] at hl;lia⟩
 exact h2
def y0(h:Wd G T W):Rs G T W (fP G T W):=λk hk=>by
 let⟨hnone,i,hlim⟩:=l9 h;have j:=M5 h;have heq:∀q,q < W.length->(fP G T W).getD q 0=(iS G T W (fin G T W).2).getD q 0:=λq hq=>by
  have h1:=IW hnone hq;have h2:=(l5 h i.off hq).2.1;unfold fP;lia
 let⟨d0,d1,d2,d3,d4⟩:=l5 h i.off hk;by_cases e:(fP G T W).getD k 0=(aC W k).2.2
 ·exact .inl e
 ·by_cases e2:(fP G T W).getD k 0 < mm W (fin G T W).2 k
  ·exact .inr (.inl (pC h false hk e2))
  ·have h3:=(yw h i.off false hk).2;have:(fin G T W).2.getD k 0 < (aC W k).2.2:=by
    unfold fP at e e2;unfold mm at e2 h3;lia
   have f:=j k hk this;refine .inr (.inr ?_);unfold Fl at f ⊢;rw[<- f];exact bx λq hq=>heq q (lG h hk (bQ hq)).1
def G1(h:Wd G T W)(hk:k < W.length):(fP G T W).getD k 0<=(fin G T W).2.getD k 0:=(l5 h (l9 h).2.1.off hk).2.2.1
def mx(P X:List Int):List Int:=List.zipWith max P X
def rG(hp:P.length=X.length)(q:Nat)(hn:0<=P.getD q 0\/q < P.length):(mx P X).getD q 0=max (P.getD q 0) (X.getD q 0):=by
 unfold mx;by_cases hq:q < P.length
 ·rw[zG,List.getElem?_zipWith,zK hq,zK (by lia)];simp[hq,show q < X.length by lia]
 ·rw[fU (by simp;lia),fU (by lia),fU (by lia)];rfl
def i8(hp:P.length=X.length):(mx P X).length=P.length:=by unfold mx;simp;lia
def EE(p:Pn G T W P)(x:Pn G T W X):Off (mx P X):=λq=>by
 rw[rG (by rw[p.len,x.len]) q (.inl (p.nn q))];have:=p.nn q;unfold vl at this;lia
def sH(p:Pn G T W P)(x:Pn G T W X)(hq:q < W.length):mm W (mx P X) q=max (P.getD q 0) (X.getD q 0):=by
 unfold mm;rw[rG (by rw[p.len,x.len]) q (.inl (p.nn q))];have h1:=(p.bd q hq).2;have h2:=(x.bd q hq).2;lia
def ny(h:Wd G T W)(x:Pn G T W X)(r:Rs G T W X)(hk:k < W.length):(aQ false G T W (mx (fP G T W) X)).getD k 0=(fP G T W).getD k 0:=by
 have p:=fS h;let⟨_,i,_⟩:=l9 h;have hi:=aZ h false hk;rw[eI h false _ hk,show (fP G T W).getD k 0=ch (mm W (fin G T W).2) (amt false G T (ba false W k)) (lst false G T W (ba false W k)) k from eI h false _ hk];refine A2 (aN h hi) (λq hq=>?_) k;have hq':=(lG h hk hq).1;have hA:vl (aQ false G T W (fin G T W).2) q=ch (mm W (fin G T W).2) (amt false G T (ba false W k)) (lst false G T W (ba false W k)) q:=jj h hi hq;rw[<- hA,sH p x hq'];have h1:=G1 h hq';have h2:=BK h x r hq';have h3:=(p.bd q hq').2;have h4:=(x.bd q hq').2;change (fP G T W).getD q 0<=_/\_;unfold mm;lia
def nN(h:Wd G T W)(x:Pn G T W X)(r:Rs G T W X)(hk:k < W.length):(aQ true G T W (mx (fP G T W) X)).getD k 0=X.getD k 0:=by
 have p:=fS h;let⟨_,i,_⟩:=l9 h;have hi:=aZ h true hk;rw[eI h true _ hk];refine ES (X:=vl X) (aN h hi) (λq hq=>?_) (x.le_sm h hi) (λq hq=>?_) k (aV h true hk)
 ·have hq':=(lG h hk hq).1;rw[sH p x hq'];have:=(x.bd q hq').1;unfold vl;lia
 ·let⟨hq',hpl⟩:=lG h hk hq;rw[sH p x hq'];by_cases e:X.getD q 0 < (fP G T W).getD q 0
  ·refine .inr ?_;rcases r q hq' with z|z|z
   ·have:=(p.bd q hq').2;lia
   ·exact absurd z (wZ h x i.off (λk hk=>BK h x r hk) hq' e)
   ·unfold Fl at z
    rwa [hpl] at z
  ·refine .inl ?_;unfold vl;lia
def E1(h:Wd G T W)(x:Pn G T W X)(r:Rs G T W X)(hi:i < (aH false G T).length):sm (lst false G T W i) (vl X)<=sm (lst false G T W i) (vl (fP G T W)):=by
 have p:=fS h;rw[bx (f:=vl (fP G T W)) (g:=vl (aQ false G T W (mx (fP G T W) X))) λq hq=>(ny h x r ((bj h hi).mp hq).1).symm,BD h (EE p x) hi];have h1:=x.le_sm h hi;have h2:sm (lst false G T W i) (vl X)<=sm (lst false G T W i) (mm W (mx (fP G T W) X)):=mh λq hq=>by
  rw[sH p x ((bj h hi).mp hq).1];unfold vl;lia
 lia
def Ef(h:Wd G T W)(x:Pn G T W X)(r:Rs G T W X)(hi:i < (aH true G T).length):sm (lst true G T W i) (vl (fP G T W))<=sm (lst true G T W i) (vl X):=by
 have p:=fS h;rw[bx (f:=vl X) (g:=vl (aQ true G T W (mx (fP G T W) X))) λq hq=>(nN h x r ((bj h hi).mp hq).1).symm,BD h (EE p x) hi];have h1:=p.le_sm h hi;have h2:sm (lst true G T W i) (vl (fP G T W))<=sm (lst true G T W i) (mm W (mx (fP G T W) X)):=mh λq hq=>by
  rw[sH p x ((bj h hi).mp hq).1];unfold vl;lia
 lia
def ml(h:Wd G T W)(b:Bool)(f:Nat->Int):((List.range (aH b G T).length).map λi=>sm (lst b G T W i) f).sum=sm (List.range W.length) f:=by
 have key:∀n,n<=(aH b G T).length->((List.range n).map λi=>sm (lst b G T W i) f).sum=sm ((List.range W.length).filter λk=>decide (ba b W k < n)) f:=by
  intro n
  induction n with
  | zero =>
   intro _;rw[show (List.range W.length).filter (λk=>decide (ba b W k < 0))=[] from List.filter_eq_nil_iff.mpr λk _=>by simp];rfl
  | succ n ih =>
   intro hn;have hi:n < (aH b G T).length:=hn;rw[vQ,jA,List.sum_append,ih (by lia)];have e:∀l:List Nat,sm (l.filter λk=>decide (ba b W k < n+1)) f=sm (l.filter λk=>decide (ba b W k < n)) f+sm (l.filter λk=>decide (ba b W k=n)) f:=by
    intro l
    induction l with
    | nil=>rfl
    | cons x l ih =>
     simp?[jW,zJ];by_cases c1:ba b W x < n
     ·rw[yL (by lia),yL c1,yN (by lia),aD,aD,ih];lia
     ·by_cases c2:ba b W x=n
      ·rw[yL (by lia),yN c1,yL c2,aD,aD,ih];lia
      ·rw[yN (by lia),yN c1,yN c2,ih]
   rw[e];have pm:(lst b G T W n).Perm ((List.range W.length).filter λk=>decide (ba b W k=n)):=by
    refine (List.perm_ext_iff_of_nodup (aN h hi) (List.nodup_range.filter _)).mpr λk=>?_;rw[bj h hi,List.mem_filter,zS,zJ]
   rw[<- B7 pm];simp
 rw[key _ (yM _),List.filter_eq_self.mpr λk hk=>by simpa using aZ h b (by simpa using hk)]
def vq:∀ {l:List Nat}{f g:Nat->Int},(∀i∈l,f i<=g i)->(l.map g).sum<=(l.map f).sum->∀i∈l,f i=g i:=λ{l f g} h e i hi=>by
 refine Classical.byContradiction λhn=>?_;have:=AX (l:=l) (f:=f) (g:=g) h hi (by have:=h i hi;lia);unfold sm at this;lia
def Ec{n m:Nat}{f g f' g':Nat->Int}(h1:∀i,i < n->f i<=g i)(h2:∀i,i < m->g' i<=f' i)(e1:((List.range n).map f).sum=S)(e2:((List.range m).map f').sum=S)(e3:((List.range n).map g).sum=S')(e4:((List.range m).map g').sum=S'):(∀i,i < n->f i=g i)/\∀i,i < m->f' i=g' i:=by
 have u0:sm (List.range n) f<=sm (List.range n) g:=mh λi hi=>h1 i (List.mem_range.mp hi);have u1:sm (List.range m) g'<=sm (List.range m) f':=mh λi hi=>h2 i (List.mem_range.mp hi);unfold sm at u0 u1;exact⟨λi hi=>vq (λi hi=>h1 i (List.mem_range.mp hi)) (by lia) i (List.mem_range.mpr hi),λi hi=>(vq (λi hi=>h2 i (List.mem_range.mp hi)) (by lia) i (List.mem_range.mpr hi)).symm⟩
def vg(h:Wd G T W)(x:Pn G T W X)(r:Rs G T W X)(b:Bool)(hi:i < (aH b G T).length):oG b W X i=oG b W (fP G T W) i:=by
 let⟨t0,t1⟩:=Ec (λi hi=>E1 (i:=i) h x r hi) (λi hi=>Ef (i:=i) h x r hi) (ml h false (vl X)) (ml h true (vl X)) (ml h false (vl (fP G T W))) (ml h true (vl (fP G T W)));rw[iA h hi,iA h hi];cases b with
 | false=>exact t0 i hi
 | true=>exact t1 i hi
end
def E4:∀ {a:Int}{l:List Nat}{k:Nat},(∀q∈l,m' q=m (f q))->(∀q∈l,f q=f k->q=k)->ch m' a l k=ch m a (l.map f) (f k)
 | _,[],_,_,_=>rfl
 | a,q::l,k,h,hi=>by
  have h0:=h q zE;rw[zI];by_cases e:k=q
  ·subst e;rw[bg,bg,h0]
  ·have e2:f k≠f q:=λz=>e (hi q zE z.symm).symm;rw[bb e,bb e2,h0];exact E4 (λx hx=>h x (zC _ hx)) λx hx=>hi x (zC _ hx)
section
variable {P X c off:List Int}
def JG(o:Ord W π)(b:Bool)(hk:k < W.length):ba (!b) (dH W π) k=ba b W (π.getD k 0):=by
 unfold ba;rw[eL o hk,oP]
def JQ(h:Wd G T W)(o:Ord W π)(hi:i < (aH b G T).length):(lst (!b) T G (dH W π) i).map (λk=>π.getD k 0)=lst b G T W i:=by
 unfold lst eu;rw[uC,zM];exact yH λx hx=>(Fq h o (gq hi) hx).2
def Kj(o:Ord W π)(hk:k < W.length)(hj:j < W.length)(e:π.getD k 0=π.getD j 0):k=j:=by
 have hn:π.Nodup:=o.perm.nodup_iff.mpr List.nodup_range;have hl:=o.len;have h1:π[k]?=some (π.getD k 0):=by simp[show k < π.length by lia]
 have h2:π[j]?=some (π.getD j 0):=by simp[show j < π.length by lia]
 rw[<- e] at h2;exact (List.getElem?_inj (by lia) hn).mp (h1.trans h2.symm)
def K7(h:Wd G T W)(o:Ord W π)(b:Bool)(hl:off.length=W.length)(hk:k < W.length):(aQ (!b) T G (dH W π) (k7 off π)).getD k 0=(aQ b G T W off).getD (π.getD k 0) 0:=by
 have h':=o.wd h;have hk':k < (dH W π).length:=by rw[cw o];exact hk
 have hp:=o.lt hk;have hi:=aZ h b hp;rw[eI h' (!b) _ hk',eI h b _ hp,JG o b hk];have hi':ba b W (π.getD k 0) < (aH (!b) T G).length:=by rw[oV];exact hi
 rw[<- JQ h o hi,show amt (!b) T G (ba b W (π.getD k 0))=amt b G T (ba b W (π.getD k 0)) by unfold amt;rw[uC]];refine E4 (f:=λk=>π.getD k 0) (λq hq=>?_) λq hq e=>?_
 ·have hq':=((bj h' hi').mp hq).1;rw[cw o] at hq';unfold mm;rw[lP o hq',eL o hq'];rfl
 ·have hq':=((bj h' hi').mp hq).1;rw[cw o] at hq';exact Kj o hq' hk e
def MU(o:Ord W π)(hp:P.length=W.length)(hx:X.length=W.length):mx (k7 P π) (k7 X π)=k7 (mx P X) π:=by
 unfold k7;unfold mx;rw[List.zipWith_map,List.zipWith_self];refine yH λi hi=>?_;have:=rG (P:=P) (X:=X) (by lia) i (.inr (by
  have:=o.perm.mem_iff.mp hi;rw[zS] at this;lia))
 exact this.symm
def eY(h:P.length=X.length)(e:∀k,k < P.length->P.getD k 0=X.getD k 0):P=X:=by
 apply jH h;intro k h1 h2;have:=e k h1;simpa [h1,h2] using this
def Rs.tu(h:Wd G T W)(o:Ord W π)(p:Pn G T W P)(r:Rs G T W P):Rs T G (dH W π) (k7 P π):=(mw (o.wd h) (p.tu h o)).mp ((Ku h o).mpr ((mw h p).mpr r))
def fy(G T:List Pl)(W:List Wy):List Int:=k7 (fP T G (dH W (bJ W))) (bJ (dH W (bJ W)))
def Bh(h:Wd G T W):k7 (fy G T W) (bJ W)=fP T G (dH W (bJ W)):=by
 have o:=cY h.wp;have h':=o.wd h;have o':=cY h'.wp;have o2:Ord (dH (dH W (bJ W)) (bJ (dH W (bJ W)))) (bJ W):=by rw[uo h.wp o o'];exact o
 exact GA h'.wp o' o2 (fS h').len
def Jr(h:Wd G T W):Pn G T W (fy G T W):=by
 have o:=cY h.wp;have h':=o.wd h;have o':=cY h'.wp;have:=(fS h').tu h' o'
 rwa [uo h.wp o o'] at this
def MA(h:Wd G T W):Rs G T W (fy G T W):=by
 have o:=cY h.wp;have h':=o.wd h;have o':=cY h'.wp;have:=(y0 h').tu h' o' (fS h')
 rwa [uo h.wp o o'] at this
def D6(h:Wd G T W)(b:Bool)(hl:off.length=W.length)(hx:X.length=W.length)(e:∀k,k < W.length->(aQ (!b) T G (dH W (bJ W)) (k7 off (bJ W))).getD k 0=(k7 X (bJ W)).getD k 0):aQ b G T W off=X:=by
 have o:=cY h.wp;refine eY (by rw[c4,hx]) λk hk=>?_;rw[c4] at hk;let⟨j,hj,rfl⟩:=o.ex hk;rw[<- K7 h o b hl hj,e j hj,lP o hj]
def GZ(h:Wd G T W)(x:Pn G T W X)(r:Rs G T W X):aQ false G T W (mx (fP G T W) X)=fP G T W :=
 eY (by rw[c4,(fS h).len]) λk hk=>ny h x r (by rw[c4] at hk;exact hk)
def GD(h:Wd G T W)(x:Pn G T W X)(r:Rs G T W X):aQ true G T W (mx (fP G T W) X)=X :=
 eY (by rw[c4,x.len]) λk hk=>nN h x r (by rw[c4] at hk;exact hk)
def uT(h:Wd G T W)(x:Pn G T W X)(r:Rs G T W X):aQ true G T W (mx (fy G T W) X)=fy G T W/\aQ false G T W (mx (fy G T W) X)=X:=by
 have o:=cY h.wp;have h':=o.wd h;have pl:=(Jr h).len;have hm:(mx (fy G T W) X).length=W.length:=by rw[i8 (by rw[pl,x.len]),pl]
 have em:k7 (mx (fy G T W) X) (bJ W)=mx (fP T G (dH W (bJ W))) (k7 X (bJ W)):=by rw[<- MU o pl x.len,Bh h]
 have x':=x.tu h o;have r':=r.tu h o x;have l':=cw o;constructor
 ·refine D6 h true hm pl λk hk=>?_;rw[em,Bh h];exact ny h' x' r' (by rw[l'];exact hk)
 ·refine D6 h false hm x.len λk hk=>?_;rw[em];exact nN h' x' r' (by rw[l'];exact hk)
end
def zip_rows:∀ {P X:List Int},P.length=X.length->iC (P.map PyData.int) (X.map PyData.int)=(List.range P.length).map λi=>.tuple [.int (P.getD i 0),.int (X.getD i 0)]
 | [],[],_=>rfl
 | [],_::_,h=>by simp at h
 | _::_,[],h=>by simp at h
 | x::P,y::X,h=>by
  rw[zI,zI,iC,zip_rows (P:=P) (X:=X) (by simpa using h),zL,vM,zI,zM];rfl
def r8(hp:P.length=X.length)(hl:P.length<=1000):gW [af P,af X]=some (af (mx P X)):=by
 refine aL ?_;show rY [.val (af P),.val (af X)]=_;have hz:du (aa (ab 0) (aa (ab 1) ae)) [some (af P),some (af X)]=some ((List.range P.length).map λi=>.tuple [.int (P.getD i 0),.int (X.getD i 0)]):=by
  rw[<- zip_rows hp];rfl
 have c:=mK (cs:=[]) (tt:=λ_=>some true) (te:=bu CW (aa (ab 0) (aa (ab 1) ae))) (p:=λ_=>true) (h:=λi=>.int (max (P.getD i 0) (X.getD i 0))) hz hl λi hi=>⟨rfl,λ_=>rfl⟩
 refine aR ?_;show bu br (aa (bH (aj 2 [] (du (aa (ab 0) (aa (ab 1) ae))) (eV 0 1) (λ_=>some true) (bu CW (aa (ab 0) (aa (ab 1) ae))))) ae) [some (af P),some (af X)]=_;simp?[bu,aa,ae,bH,zB,zA] at c ⊢;rw[c];simp?[zB,zA,tZ];rw[show (List.range P.length).filter (λ_=>true)=List.range P.length by simp];have e:mx P X=(List.range P.length).map λi=>max (P.getD i 0) (X.getD i 0):=by
  refine eY (by rw[i8 hp];simp) λk hk=>?_;rw[i8 hp] at hk;rw[rG hp k (.inr hk)];simp[hk]
 rw[e,af,zM];rfl
def rL(h:Wd G T W)(hi:i < (aH b G T).length)(hp:P.length=W.length):fx [ax G T W,.int (sI b),nD i,af P]=some (af ((lst b G T W i).map (vl P))):=by
 have hw:=h.wl;have hl:(lst b G T W i).length<=16:=by
  rw[(mD h hi).length_eq];exact yD (oI b W i) hw
 have ew:cQ [ax G T W,.int (sI b),nD i]=some (.list ((lst b G T W i).map nD)):=nA h (gq hi);refine aL ?_;show mM [.val (ax G T W),.val (.int (sI b)),.val (nD i),.val (af P)]=_;have c:aj 1 [3] (aO (ah 3 cQ (aa (ab 0) (aa (ab 1) (aa (ab 2) ae))))) (fG 0) (λ_=>some true) (f2 av (ab 1) (ab 0)) [some (ax G T W),some (.int (sI b)),some (nD i),some (af P)]=some ((lst b G T W i).map λq=>.int (P.getD q 0)) :=
  dY (ji ew rfl rfl) (by lia) λq hq=>ay (nr (by rw[hp];exact ((bj h hi).mp hq).1)) rfl rfl
 refine aR ?_;show bu br (aa (bH (aj 1 [3] (aO (ah 3 cQ (aa (ab 0) (aa (ab 1) (aa (ab 2) ae))))) (fG 0) (λ_=>some true) (f2 av (ab 1) (ab 0)))) ae) [some (ax G T W),some (.int (sI b)),some (nD i),some (af P)]=_;rw[qj (d:=.list ((lst b G T W i).map λq=>.int (P.getD q 0))) (by simp?[bH,c,zB]),tZ,af,zM];rfl
def IE(h:Wd G T W)(hi:i < (aH b G T).length)(off:List Int):(lst b G T W i).map (vl (mZ W off (amt b G T i) (lst b G T W i)))=(lst b G T W i).map (vl (aQ b G T W off)) :=
 yH λq hq=>by
  rw[jj h hi hq];unfold vl mZ;rw[zt _ _ _ (aN h hi) (λj hj=>by rw[xM];exact ((bj h hi).mp hj).1),yL hq]
def tH(h:Wd G T W)(hi:i < (aH b G T).length)(p:P.length=W.length)(x:X.length=W.length):dz [ax G T W,.int (sI b),nD i,af P,af X]=some (.bool (decide ((lst b G T W i).map (vl (aQ b G T W (mx P X)))=(lst b G T W i).map (vl P)))):=by
 have hw:=h.wl;have hm:(mx P X).length=W.length:=by rw[i8 (by rw[p,x]),p]
 have ec:b9 [ax G T W,.int (sI b),nD i,af (mx P X)]=some (af (mZ W (mx P X) (amt b G T i) (lst b G T W i))):=iZ h hm (gq hi);have eg:=r8 (P:=P) (X:=X) (by rw[p,x]) (by rw[p];lia);have hc:(mZ W (mx P X) (amt b G T i) (lst b G T W i)).length=W.length:=oQ _ _ _ _;have e1:=rL (P:=mZ W (mx P X) (amt b G T i) (lst b G T W i)) h hi hc;rw[IE h hi] at e1;have e2:=rL (P:=P) h hi p;have hcall:∀ρ:Dl.Env,ab 0 ρ=some (ax G T W)->ab 1 ρ=some (.int (sI b))->ab 2 ρ=some (nD i)->ab 3 ρ=some (af P)->ab 4 ρ=some (af X)->(ah 4 b9 (aa (ab 0) (aa (ab 1) (aa (ab 2) (aa (ah 2 gW (aa (ab 3) (aa (ab 4) ae))) ae))))) ρ=some (af (mZ W (mx P X) (amt b G T i) (lst b G T W i))):=λρ a b c d e =>
  call_of ec (cons_of a (cons_of b (cons_of c (cons_of (call_of eg (cons_of d (cons_of e rfl)) rfl) rfl)))) rfl
 refine aL ?_;show iG [.val (ax G T W),.val (.int (sI b)),.val (nD i),.val (af P),.val (af X),.non]=_;unfold iG;refine (ai (bC (hcall _ rfl rfl rfl rfl rfl) (hcall _ rfl rfl rfl rfl rfl) rfl)).trans ?_;exact aR (ay (p9 _ _) (call_of e1 rfl rfl) (call_of e2 rfl rfl))
def mr(h:Wd G T W)(p:Pn G T W P)(x:Pn G T W X):fu [ax G T W,af P,af X]=some .none:=by
 have:fw [.val (ax G T W),.val (af P),.val (af X)]=some (.nx [.val (ax G T W),.val (af P),.val (af X)]):=by
  unfold fw;refine (ai (dD (call_of (ij h p) rfl rfl))).trans ?_;exact dD (call_of (ij h x) rfl rfl)
 show (fw [.val (ax G T W),.val (af P),.val (af X)]).map _=_;rw[this];rfl
def BI(b:Bool)(G T:List Pl)(W:List Wy)(P X:List Int):Bool:=(List.range (aH b G T).length).all λi=>decide ((lst b G T W i).map (vl (aQ b G T W (mx P X)))=(lst b G T W i).map (vl P))
def iN(h:Wd G T W)(p:Pn G T W P)(x:Pn G T W X)(b:Bool):bR [ax G T W,.int (sI b),af P,af X]=some (.bool (BI b G T W P X)):=by
 have hl:=h.pl b;refine aL ?_;show ll [.val (ax G T W),.val (.int (sI b)),.val (af P),.val (af X)]=_;unfold ll;refine (ai (dD (call_of (mr h p x) rfl rfl))).trans ?_;refine (ai (dD (call_of (mF b) rfl rfl))).trans ?_;have c:aj 1 [0,1,2,3] (aX (aa (bu bK (aa (f2 av (ab 0) (ab 1)) ae)) ae)) (fG 0) (λ_=>some true) (ah 5 dz (aa (ab 1) (aa (ab 2) (aa (ab 0) (aa (ab 3) (aa (ab 4) ae)))))) [some (ax G T W),some (.int (sI b)),some (af P),some (af X)]=some ((List.range (aH b G T).length).map λi=>.bool (decide ((lst b G T W i).map (vl (aQ b G T W (mx P X)))=(lst b G T W i).map (vl P)))) :=
  dY (pR (cons_of (yx (l:=aH b G T) (k:=bG) (ay (l8 b G T W) rfl rfl)) rfl) (by lia)) (by rw[zR];lia) λi hi=>call_of (tH h (by simpa using hi) p.len x.len) rfl rfl
 refine aR ?_;show bu kq (aa (bH (aj 1 [0,1,2,3] (aX (aa (bu bK (aa (f2 av (ab 0) (ab 1)) ae)) ae)) (fG 0) (λ_=>some true) (ah 5 dz (aa (ab 1) (aa (ab 2) (aa (ab 0) (aa (ab 3) (aa (ab 4) ae)))))))) ae) [some (ax G T W),some (.int (sI b)),some (af P),some (af X)]=_;rw[qj (d:=.list ((List.range (aH b G T).length).map λi=>.bool (decide ((lst b G T W i).map (vl (aQ b G T W (mx P X)))=(lst b G T W i).map (vl P))))) (by simp?[bH,c,zB]),nE];rfl
def aY(h:Wd G T W)(p:Pn G T W P)(x:Pn G T W X)(b:Bool):aw [ax G T W,.int (sI b),af P,af X]=some (af (aQ b G T W (mx P X))):=by
 have hw:=h.wl;have hm:(mx P X).length=W.length:=by rw[i8 (by rw[p.len,x.len]),p.len]
 have eg:=r8 (P:=P) (X:=X) (by rw[p.len,x.len]) (by rw[p.len];lia);refine aL ?_;show lg [.val (ax G T W),.val (.int (sI b)),.val (af P),.val (af X)]=_;unfold lg;refine (ai (dD (call_of (mr h p x) rfl rfl))).trans ?_;refine (ai (dD (call_of (mF b) rfl rfl))).trans ?_;exact aR (call_of (cX h hm b) (cons_of rfl (cons_of rfl (cons_of (call_of eg rfl rfl) rfl))) rfl)
def G7(h:Wd G T W):cC [ax G T W]=some (af (fy G T W)):=by
 have h':=(cY h.wp).wd h;exact rq h (DP h') (fS h')
def nQ(h:f ρ=some ds):bH f ρ=some (.list ds):=by
 simp?[bH,h,zB]
def GI(h:f ρ=some (.list ds)):aO f ρ=some ds:=by
 simp?[aO,h,zA,gc]
def zy(h:fs ρ=some ds)(hl:ds.length<=1000):dJ fs ρ=some ds:=by
 simp?[dJ,h,zA,bh (show ds.length<=4000 by lia)]
structure Wk(G T G' T':List Pl):Prop where
 len:∀b,(aH b G' T').length=(aH b G T).length
 lik:∀b i,(cE b G' T' i).2=(cE b G T i).2
 gv:∀i,amt false G' T' i<=amt false G T i
 tk:∀i,amt true G T i<=amt true G' T' i
section
variable {P X off:List Int}
end
def uP(l:Int)(fs:List (List Int)):List (List Int):=(fs.map λr=>(List.range (l+1).toNat).map λm=>r++[((m:Nat):Int)]).flatten
def BY:List Wy->List (List Int)->List (List Int)
 | [],fs=>fs
 | w::W,fs=>BY W (uP w.2.2 fs)
def uq:r∈uP l fs↔∃r'∈fs,∃v:Int,0<=v/\v<=l/\r=r'++[v]:=by
 unfold uP;rw[List.mem_flatten];constructor
 ·rintro⟨L,hL,hr⟩;let⟨r',h',rfl⟩:=List.mem_map.mp hL;let⟨m,hm,rfl⟩:=List.mem_map.mp hr;rw[zS] at hm;exact⟨r',h',_,by lia,by lia,rfl⟩
 ·rintro⟨r',h',v,h0,h1,rfl⟩;exact⟨_,List.mem_map.mpr ⟨r',h',rfl⟩,List.mem_map.mpr ⟨v.toNat,by rw[zS];lia,by rw[show ((v.toNat:Nat):Int)=v by lia]⟩⟩
def B5:∀ {W:List Wy}{fs:List (List Int)}{r:List Int},r∈BY W fs↔∃r'∈fs,∃q:List Int,q.length=W.length/\(∀k,k < W.length->0<=q.getD k 0/\q.getD k 0<=(aC W k).2.2)/\r=r'++q
 | [],fs,r=>by
  unfold BY;constructor
  ·intro h;exact⟨r,h,[],rfl,λk hk=>by simp at hk,by simp⟩
  ·rintro⟨r',h',q,hq,_,rfl⟩;have:q=[]:=List.length_eq_zero_iff.mp hq;subst this;simpa using h'
 | w::W,fs,r=>by
  rw[BY,B5];constructor
  ·rintro⟨r',h',q,hq,hb,rfl⟩;let⟨r2,h2,v,h0,h1,rfl⟩:=uq.mp h';refine⟨r2,h2,v::q,by simp[hq],λk hk=>?_,by simp⟩;cases k with
   | zero=>exact⟨h0,h1⟩
   | succ k=>exact hb k (by simpa using hk)
  ·rintro⟨r',h',q,hq,hb,rfl⟩;cases q with
   | nil=>simp at hq
   | cons v q =>
    refine⟨r'++[v],uq.mpr ⟨r',h',v,(hb 0 (by simp)).1,(hb 0 (by simp)).2,rfl⟩,q,by simpa using hq,λk hk=>hb (k+1) (by simpa using hk),by simp⟩
def BA(l:Int)(fs:List (List Int)):(uP l fs).length=fs.length * (l+1).toNat:=by
 unfold uP
 induction fs with
 | nil=>simp
 | cons r fs ih=>rw[zI,qM,zN,ih,zL,Nat.add_mul];simp;lia
def wB:ar->Option Out:=(tq 3 [2,4] (aj 1 [4] (aX (aa (f2 Dl.aK (f2 av (ab 2) (fC (.int 2))) (fC (.int 1))) ae)) (fG 0) (λ_=>some true) (f2 Dl.aK (ab 1) (aS (aa (ab 0) ae)))))
def ext(l:Int)(r:List Int):List (List Int):=(List.range (l+1).toNat).map λm=>r++[((m:Nat):Int)]
def J4{acc:List (List Int)}(hl:0<=w.2.2/\w.2.2<=9)(hr:r.length<=100)(ha:acc.length<=7000):wB [.val d,x1,.val (aq w),.own (acc.map af),.val (af r)]=some (.nx [.val d,x1,.val (aq w),.own ((acc++ext w.2.2 r).map af),.val (af r)]):=by
 have c:aj 1 [4] (aX (aa (f2 Dl.aK (f2 av (ab 2) (fC (.int 2))) (fC (.int 1))) ae)) (fG 0) (λ_=>some true) (f2 Dl.aK (ab 1) (aS (aa (ab 0) ae))) (bS [.val d,x1,.val (aq w),.own (acc.map af),.val (af r)])=some ((List.range (w.2.2+1).toNat).map λm=>af (r++[((m:Nat):Int)])):=by
  refine dY (pR (n:=(w.2.2+1).toNat) (cons_of ?_ rfl) (by lia)) (by rw[zR];lia) λm _=>ay (add_row (a:=r) (b:=[((m:Nat):Int)]) (by simp;lia)) rfl (Ng rfl);rw[show nD (w.2.2+1).toNat=.int (w.2.2+1) by show PyData.int _=_;congr 1;lia];exact ay (fV w.2.2 1) (ay (uJ w) rfl rfl) rfl
 have hh:hand [2,4] 0 [Slot.val d,x1,.val (aq w),.own (acc.map af),.val (af r)]=[Slot.val d,x1,.val (aq w),.own (acc.map af),.val (af r)]:=rfl;have hz:(acc.map af).length+((List.range (w.2.2+1).toNat).map λm=>af (r++[((m:Nat):Int)])).length<=sizeLine:=by
  rw[zD,zD,zR];exact yD (show acc.length+(w.2.2+1).toNat<=8000 by lia) (by decide)
 have e:(acc++ext w.2.2 r).map af=acc.map af++(List.range (w.2.2+1).toNat).map λm=>af (r++[((m:Nat):Int)]):=by
  rw[jA,ext,zM];rfl
 unfold wB tq;rw[hh,c,zA,e];simp?[nR,yY,xQ,hz,xH,zB,zA];rfl
def wO:ar->Option Out:=(au (aM 3 [] (dJ ae)) (au (c8 [1] (aO (ab 1)) (k3 4) wB) (Dl.az 1 [3] (ab 3))))
def FR(l:Int)(r:List Int)(fs:List (List Int)):uP l (r::fs)=ext l r++uP l fs:=by simp[uP,ext]
def El(hl:0<=w.2.2/\w.2.2<=2):∀ (fs acc:List (List Int)) (x4:Slot),(∀r∈fs,r.length<=16)->acc.length+3 * fs.length<=7000->∃y4,cH (k3 4) wB (fs.map af) [.val d,x1,.val (aq w),.own (acc.map af),x4]=some (.nx [.val d,x1,.val (aq w),.own ((acc++uP w.2.2 fs).map af),y4])
 | [],acc,x4,_,_=>⟨x4,by simp[uP,cH]⟩
 | r::fs,acc,x4,hr,hb=>by
  have he:(ext w.2.2 r).length<=3:=by unfold ext;rw[zD,zR];lia
  rw[zL] at hb;let⟨y4,e⟩:=El (d:=d) (x1:=x1) hl fs (acc++ext w.2.2 r) (.val (af r)) (λq hq=>hr q (zC _ hq)) (by rw[zN];lia);have h1:=J4 (d:=d) (x1:=x1) (w:=w) (acc:=acc) (r:=r) ⟨hl.1,by lia⟩ (by have:=hr r zE;lia) (by lia);have ht:k3 4 [.val d,x1,.val (aq w),.own (acc.map af),x4] (af r)=some [.val d,x1,.val (aq w),.own (acc.map af),.val (af r)]:=rfl;refine⟨y4,?_⟩;rw[zI,cH,ht,zA,h1];show cH (k3 4) wB (fs.map af) _=_;rw[e,FR,List.append_assoc]
def JM(hl:0<=w.2.2/\w.2.2<=2)(hr:∀r∈fs,r.length<=16)(hf:fs.length<=2187)(h1:s1=.own (fs.map af)\/s1=.val (.list (fs.map af))):∃y3 y4,wO [.val d,s1,.val (aq w),x3,x4]=some (.nx [.val d,.val (.list ((uP w.2.2 fs).map af)),.val (aq w),y3,y4]):=by
 let⟨y4,e⟩:=El (d:=d) (x1:=.val (.list (fs.map af))) hl fs [] x4 hr (by simp;lia);rw[xO] at e;have t1:aM 3 [] (dJ ae) [.val d,s1,.val (aq w),x3,x4]=some (.nx [.val d,s1,.val (aq w),.own [],x4]):=fA (zy (ds:=[]) rfl (by simp)) rfl;have hh:hand [1] 0 [.val d,s1,.val (aq w),.own [],x4]=[Slot.val d,.val (.list (fs.map af)),.val (aq w),.own [],x4]:=by
  rcases h1 with rfl|rfl<;>rfl
 unfold wO;rw[ai t1];refine⟨.val (.list ((uP w.2.2 fs).map af)),y4,?_⟩;refine (ai (cM e rfl hh)).trans ?_;exact lC (ρ':=[.val d,.val (.list (fs.map af)),.val (aq w),.val (.list ((uP w.2.2 fs).map af)),y4]) rfl (d:=.list ((uP w.2.2 fs).map af)) rfl rfl rfl (.inl rfl)
def Ih(h:∀r∈fs,r.length<=n):∀r∈uP l fs,r.length<=n+1:=λr hr=>by
 let⟨r',h',v,_,_,rfl⟩:=uq.mp hr;have:=h r' h';simp;lia
def EA:∀ (W:List Wy) (fs:List (List Int)) (s1 x2 x3 x4:Slot),(∀w∈W,0<=w.2.2/\w.2.2<=2)->fs.length * 3 ^ W.length<=2187->(∀r∈fs,r.length<=16 - W.length)->W.length<=16->(s1=.own (fs.map af)\/s1=.val (.list (fs.map af))) ->
  ∃s1' y2 y3 y4,cH (k3 2) wO (W.map aq) [.val d,s1,x2,x3,x4]=some (.nx [.val d,s1',y2,y3,y4])/\(s1'=.own ((BY W fs).map af)\/s1'=.val (.list ((BY W fs).map af)))
 | [],fs,s1,x2,x3,x4,_,_,_,_,h1=>⟨s1,x2,x3,x4,rfl,h1⟩
 | w::W,fs,s1,x2,x3,x4,hl,hf,hr,hw,h1=>by
  rw[zL] at hf hr hw;have hp:1<=3 ^ W.length:=Nat.one_le_pow _ _ (by lia);have hf1:fs.length<=2187:=by
   refine yD ?_ hf;exact Nat.le_mul_of_pos_right _ (Nat.pow_pos (by lia))
  have hlw:=hl w zE;let⟨y3,y4,e⟩:=JM (d:=d) (x3:=x3) (x4:=x4) hlw (λr hr'=>by have:=hr r hr';lia) hf1 h1;have hll:(uP w.2.2 fs).length<=fs.length * 3:=by rw[BA];exact Nat.mul_le_mul_left _ (by lia)
  let⟨s1',z2,z3,z4,e2,h2⟩:=EA (d:=d) W (uP w.2.2 fs) (.val (.list ((uP w.2.2 fs).map af))) (.val (aq w)) y3 y4 (λq hq=>hl q (zC _ hq)) (by
   refine yD (Nat.mul_le_mul_right _ hll) ?_;rw[Nat.mul_assoc,<- Nat.pow_succ'];exact hf) (λr hr'=>by
   have:=Ih (n:=16 - (W.length+1)) hr r hr';lia) (by lia) (.inr rfl)
  have ht:k3 2 [.val d,s1,x2,x3,x4] (aq w)=some [.val d,s1,.val (aq w),x3,x4]:=rfl;refine⟨s1',z2,z3,z4,?_,h2⟩;rw[zI,cH,ht,zA,e];exact e2
def Gg(hl:∀w∈W,0<=w.2.2/\w.2.2<=2)(hw:W.length<=7):eQ [.tuple (W.map aq)]=some (.list ((BY W [[]]).map af)):=by
 let⟨s1',z2,z3,z4,e2,h2⟩:=EA (d:=.tuple (W.map aq)) W [[]] (.own ([[]].map af)) .non .non .non hl (by
  rw[xC,Nat.one_mul];exact yD (Nat.pow_le_pow_right (by lia) hw) (by decide)) (λr hr=>by simp at hr;subst hr;simp) (by lia) (.inl rfl)
 refine aL ?_;show eN [.val (.tuple (W.map aq)),.non,.non,.non,.non]=_;unfold eN;refine (ai (fA (ds:=[[]].map af) (zy (cons_of (tup_is (ds:=[]) rfl (by simp)) rfl) (by simp)) rfl)).trans ?_;refine (ai (cM e2 rfl rfl)).trans ?_;refine aR ?_;rcases h2 with rfl|rfl<;>rfl
def pO:∀ (l:List α),(∀x∈l,tt (some (g x)::r)=some (q x)/\(q x=true->te (some (g x)::r)=some (f x)))->cF (fG 0) tt te (none::r) (l.map g)=some ((l.filter q).map f)
 | [],_=>rfl
 | x::l,h=>by
  have ih:=pO (tt:=tt) (te:=te) (r:=r) (g:=g) (f:=f) (q:=q) l λy hy=>h y (zC _ hy);let⟨h1,h2⟩:=h x zE;have hg:fG 0 (none::r) (g x)=some (some (g x)::r):=rfl;rw[zI,cF,hg,zA,h1,zA,jW];cases e:q x with
  | true =>
   rw[yL rfl,yL rfl,h2 e,zA,ih];rfl
  | false =>
   rw[yN (by simp),yN (by simp),ih]
def rH{α:Type}{cs:List Nat}{fi:Dl.Env->Option (List D)}{tt:Dl.Env->Option Bool}{te:Dl.Env->Option D}{ρ:Dl.Env}{l:List α}{g f:α->D}{q:α->Bool}(hfi:fi ρ=some (l.map g))(hl:l.length<=3000)(hh:∀x∈l,tt (some (g x)::cs.map λj=>(ρ[j]?).getD none)=some (q x)/\(q x=true->te (some (g x)::cs.map λj=>(ρ[j]?).getD none)=some (f x))):aj 1 cs fi (fG 0) tt te ρ=some ((l.filter q).map f):=by
 have:=pO l hh;simp?[aj,hfi,zA,eE,List.replicate,xF,xO,this];refine bh ?_;rw[zD];refine yD (xP _ _) ?_;lia
def mB:ar->Option Out:=(Dl.az 1 [1,2] (f2 Dl.e8 (ab 1) (f2 Dl.aK (f2 av (ab 2) (fC (.int 2))) (fC (.int 1)))))
def FM:∀ (W:List Wy) (p:Nat) (x2:Slot),(∀w∈W,0<=w.2.2/\w.2.2<=2)->p * 3 ^ W.length<=2187->∃p' y2,cH (k3 2) mB (W.map aq) [.val d,.val (nD p),x2]=some (.nx [.val d,.val (nD p'),y2])/\p'<=2187
 | [],p,x2,_,hp=>⟨p,x2,rfl,by simpa using hp⟩
 | w::W,p,x2,hl,hp=>by
  have hlw:=hl w zE;rw[zL] at hp;have hp1:p<=2187:=yD (Nat.le_mul_of_pos_right _ (Nat.pow_pos (by lia))) hp;let⟨p',y2,e,h2⟩:=FM (d:=d) W (p * (w.2.2+1).toNat) (.val (aq w)) (λq hq=>hl q (zC _ hq)) (by
   refine yD (Nat.mul_le_mul_right _ (Nat.mul_le_mul_left p (show (w.2.2+1).toNat<=3 by lia))) ?_;rw[Nat.mul_assoc,<- Nat.pow_succ'];exact hp)
  have ht:k3 2 [.val d,.val (nD p),x2] (aq w)=some [.val d,.val (nD p),.val (aq w)]:=rfl;have hm:mB [.val d,.val (nD p),.val (aq w)]=some (.nx [.val d,.val (nD (p * (w.2.2+1).toNat)),.val (aq w)]):=by
   have hv:nD (p * (w.2.2+1).toNat)=.int (((p:Nat):Int) * (w.2.2+1)):=by
    show PyData.int _=_;rw[Int.natCast_mul,show (((w.2.2+1).toNat:Nat):Int)=w.2.2+1 by lia]
   rw[hv];unfold mB;exact cP (ay (dC (.inl ⟨by lia,by lia⟩)) rfl (ay (fV _ _) (ay (uJ w) rfl rfl) rfl)) rfl
  refine⟨p',y2,?_,h2⟩;rw[zI,cH,ht,zA,hm];exact e
def ux(hl:∀w∈W,0<=w.2.2/\w.2.2<=2)(hw:W.length<=7):ir [ax G T W]=some .none:=by
 let⟨p',y2,e,h2⟩:=FM (d:=ax G T W) W 1 .non hl (by rw[Nat.one_mul];exact yD (Nat.pow_le_pow_right (by lia) hw) (by decide));have:eX [.val (ax G T W),.non,.non]=some (.nx [.val (ax G T W),.val (nD p'),y2]):=by
  unfold eX;refine (ai (cP (d:=.int 1) rfl rfl)).trans ?_;refine (ai (cM e rfl rfl)).trans ?_;exact bZ (bM (ay ((gn _ _).trans (by rw[zZ (by lia)])) rfl rfl))
 show (eX [.val (ax G T W),.non,.non]).map _=_;rw[this];rfl
def Ff(G T:List Pl)(W:List Wy):List (List Int):=(BY W [[]]).filter (K6 G T W)
def allR(G T:List Pl)(W:List Wy):List (List Int):=(Ff G T W).filter λP=>decide (AU G T W P=[])
def Bs:r∈BY W [[]]↔r.length=W.length/\∀k,k < W.length->0<=r.getD k 0/\r.getD k 0<=(aC W k).2.2:=by
 rw[B5];constructor
 ·rintro⟨r',h',q,hq,hb,rfl⟩;simp at h';subst h';exact⟨hq,hb⟩
 ·rintro⟨h1,h2⟩;exact⟨[],by simp,r,h1,h2,rfl⟩
def w6:X∈Ff G T W↔Pn G T W X:=by
 unfold Ff;rw[List.mem_filter,Bs];constructor
 ·rintro⟨⟨h1,h2⟩,h3⟩;exact (tw h1).mp h3
 ·intro p;exact⟨⟨p.len,p.bd⟩,(tw p.len).mpr p⟩
def l6(h:Wd G T W):X∈allR G T W↔Pn G T W X/\Rs G T W X:=by
 unfold allR;rw[List.mem_filter,w6,zJ];constructor
 ·rintro⟨p,r⟩;exact⟨p,(mw h p).mp r⟩
 ·rintro⟨p,r⟩;exact⟨p,(mw h p).mpr r⟩
def tQ:∀ (W:List Wy) (fs:List (List Int)),(∀w∈W,0<=w.2.2/\w.2.2<=2)->(BY W fs).length<=fs.length * 3 ^ W.length
 | [],fs,_=>by simp[BY]
 | w::W,fs,hl=>by
  rw[BY];refine yD (tQ W _ λq hq=>hl q (zC _ hq)) ?_;have:=hl w zE;rw[BA,zL,Nat.pow_succ',<- Nat.mul_assoc];exact Nat.mul_le_mul_right _ (Nat.mul_le_mul_left _ (by lia))
def xj(h:Wd G T W)(hl:∀w∈W,0<=w.2.2/\w.2.2<=2)(hw:W.length<=7):jl [ax G T W]=some (.list ((Ff G T W).map af))/\(BY W [[]]).length<=2187:=by
 have hlen:(BY W [[]]).length<=2187:=by
  have:=tQ W [[]] hl;rw[xC,Nat.one_mul] at this;exact yD this (yD (Nat.pow_le_pow_right (by lia) hw) (by decide))
 refine⟨?_,hlen⟩;refine aL ?_;show jm [.val (ax G T W)]=_;unfold jm;refine (ai (dD (call_of (ee h) rfl rfl))).trans ?_;refine (ai (dD (call_of (ux hl hw) rfl rfl))).trans ?_;refine aR (nQ (rH (g:=af) (f:=af) (q:=K6 G T W) (ji (Gg hl hw) (cons_of (ay (sT G T W) rfl rfl) rfl) rfl) (by lia) λx hx=>⟨?_,λ_=>rfl⟩));let⟨h1,h2⟩:=Bs.mp hx;exact bM (call_of (sP h h1 λk=>by
  by_cases hk:k < W.length
  ·have a:=h2 k hk;have b:=(h.wr _ (F7 hk)).2.2.2;lia
  ·rw[fU (by lia)];lia) rfl rfl)
def tv(h:Wd G T W)(hl:∀w∈W,0<=w.2.2/\w.2.2<=2)(hw:W.length<=7):eA [ax G T W]=some (.list ((allR G T W).map af))/\(allR G T W).length<=2187:=by
 let⟨e,hlen⟩:=xj h hl hw;have hp:(Ff G T W).length<=2187:=yD (xP _ _) hlen;refine⟨?_,yD (xP _ _) hp⟩;refine aL ?_;show jf [.val (ax G T W)]=_;unfold jf;refine aR (nQ (rH (g:=af) (f:=af) (q:=λP=>decide (AU G T W P=[])) (ji e rfl rfl) (by lia) λx hx=>⟨?_,λ_=>rfl⟩));have p:=w6.mp hx;exact bM (call_of (yy h p.len (p.smP h)) rfl rfl)
def u3(h:Wd G T W)(hl:∀w∈W,0<=w.2.2/\w.2.2<=2)(hw:W.length<=4):eA [ax G T W]=some (.list ((allR G T W).map af))/\(allR G T W).length<=81:=by
 refine⟨(tv h hl (by lia)).1,?_⟩;refine yD (xP _ _) (yD (xP _ _) ?_);have:=tQ W [[]] hl;rw[xC,Nat.one_mul] at this;exact yD this (yD (Nat.pow_le_pow_right (by lia) hw) (by decide))
def any_rows(l:List (List Int))(a:List Int):((l.map af).any λz=>PyData.eqv z (af a))=decide (a∈l):=GF l a
def CA(l:List (List Int))(a:List Int):rC (af a) (.list (l.map af))=some (.bool (!decide (a∈l))):=by
 simp?[rC,Nt,lA,n5,jO,xH,any_rows,zB]
def sh(k q:Nat):Nat:=if q < k then q else q+1
def nk(k:Nat):Nat->Bool:=λq=>!decide (q=k)
section
variable {G T:List Pl}{W:List Wy}{P X:List Int}{b:Bool}{i k q:Nat}
end
def gO{a c:List Int}(h:lexLt a c=false)(h2:lexLt c a=false):a=c:=pZ (by unfold lexLe;rw[h2];rfl) (by unfold lexLe;rw[h];rfl)
section
variable {G T:List Pl}{W:List Wy}{X Y Z:List Int}{b:Bool}{i k q:Nat}
def Fi(b:Bool)(G T:List Pl)(W:List Wy)(X:List Int)(i q:Nat):Prop:=sm (up (lst b G T W i) q) (vl X)=amt b G T i
def Lk(b:Bool)(G T:List Pl)(W:List Wy)(X Y:List Int)(i:Nat):Prop:=∀q∈lst b G T W i,vl X q < vl Y q->Fi b G T W X i q
def oU(h:Wd G T W)(x:Pn G T W X)(y:Pn G T W Y)(hi:i < (aH b G T).length):(lst b G T W i).map (vl (aQ b G T W (mx X Y)))=(lst b G T W i).map (vl X)↔Lk b G T W X Y i:=by
 have e:∀q∈lst b G T W i,vl (aQ b G T W (mx X Y)) q=ch (mm W (mx X Y)) (amt b G T i) (lst b G T W i) q:=λq hq=>jj (off:=mx X Y) h hi hq;have em:∀q∈lst b G T W i,mm W (mx X Y) q=max (vl X q) (vl Y q):=λq hq=>sH x y ((bj h hi).mp hq).1;constructor
 ·intro z q hq hlt;have z':∀p∈lst b G T W i,ch (mm W (mx X Y)) (amt b G T i) (lst b G T W i) p=vl X p:=λp hp=>by
   rw[<- e p hp];exact List.map_inj_left.mp z p hp
  have:=sS (m:=mm W (mx X Y)) (a:=amt b G T i) (aN h hi) hq (by rw[z' q hq,em q hq];lia);unfold Fi;rw[<- this];exact bx λp hp=>(z' p (bQ hp)).symm
 ·intro z;refine yH λq hq=>?_;rw[e q hq];refine ES (aN h hi) (λp hp=>⟨x.nn p,by rw[em p hp];lia⟩) (x.le_sm h hi) (λp hp=>?_) q hq;rcases Int.lt_or_le (vl X p) (vl Y p) with c|c
  ·exact .inr (z p hp c)
  ·exact .inl (by rw[em p hp];lia)
def JF{l:List Nat}{k q:Nat}(hn:l.Nodup)(hk:k∈l)(hq:q∈up l k){f:Nat->Int}(h0:∀p∈l,0<=f p):sm (up l q) f<=sm (up l k) f:=by
 have hql:=bQ hq;let⟨ys,e1,e2⟩:=oO (vd (k:=k) hn) hq;have e3:up (up l k) q=up l q:=by
  have hs:∀ {l:List Nat},l.Nodup->k∈l->q∈up l k->up (up l k) q=up l q:=λ{l}=>by
   induction l with
   | nil=>intro _ z;cases z
   | cons a l ih =>
    intro hn hk hq;rw[kR] at hn;by_cases ea:k=a
    ·subst ea;rw[ck] at hq ⊢;rw[yJ] at hq;subst hq;rw[ck,ck]
    ·have hk':k∈l:=by
      rcases List.mem_cons.mp hk with z|z
      ·exact absurd z ea
      ·exact z
     rw[cN ea] at hq ⊢;by_cases eq:q=a
     ·subst eq;rw[ck,ck]
     ·have hq':q∈up l k:=by
       rcases List.mem_cons.mp hq with z|z
       ·exact absurd z eq
       ·exact z
      rw[cN eq,cN eq,ih hn.2 hk' hq']
  exact hs hn hk hq
 rw[e3] at e1;rw[e1,nO];have:0<=sm ys f:=n0 λp hp=>h0 p (bQ (k:=k) (by rw[e1];exact yE _ hp));lia
def uv(h:Wd G T W)(x:Pn G T W X)(hi:i < (aH b G T).length)(hq:q∈lst b G T W i):sm (up (lst b G T W i) q) (vl X)<=amt b G T i:=by
 let⟨h1,h2⟩:=(bj h hi).mp hq;have:=Jh h x b h1;rw[h2] at this;exact this
def Lk.dom(h:Wd G T W)(x:Pn G T W X)(y:Pn G T W Y)(hi:i < (aH b G T).length)(z:Lk b G T W X Y i)(hk:k∈lst b G T W i):sm (up (lst b G T W i) k) (vl Y)<=sm (up (lst b G T W i) k) (vl X):=by
 by_cases e:∃q∈up (lst b G T W i) k,vl X q < vl Y q
 ·let⟨q,h1,h2⟩:=e;have h3:=z q (bQ h1) h2;have h4:=JF (f:=vl X) (aN h hi) hk h1 λp _=>x.nn p;have h5:=uv h y hi hk;unfold Fi at h3;lia
 ·refine mh λq hq=>?_;rcases Int.lt_or_le (vl X q) (vl Y q) with c|c
  ·exact absurd ⟨q,hq,c⟩ e
  ·exact c
def Lk.trans(h:Wd G T W)(x:Pn G T W X)(y:Pn G T W Y)(hi:i < (aH b G T).length)(z1:Lk b G T W X Y i)(z2:Lk b G T W Y Z i):Lk b G T W X Z i:=λq hq hlt=>by
 rcases Int.lt_or_le (vl X q) (vl Y q) with c|c
 ·exact z1 q hq c
 ·have h1:=z2 q hq (by lia);have h2:=z1.dom h x y hi hq;have h3:=uv h x hi hq;unfold Fi at h1 ⊢;lia
def yk(b:Bool)(G T:List Pl)(W:List Wy)(X Y:List Int)(i:Nat):Prop:=∃q∈lst b G T W i,vl X q < vl Y q/\Fi b G T W X i q
def Fi.zero(h:Wd G T W)(x:Pn G T W X)(hi:i < (aH b G T).length)(hq:q∈lst b G T W i)(f:Fi b G T W X i q)(hk:k∈lst b G T W i)(hp:0 < vl X k):k∈up (lst b G T W i) q:=by
 refine Classical.byContradiction λhn=>?_;let⟨ys,e,_⟩:=oO (aN h hi) hq;have hs:=x.le_sm h hi;have hm:k∈ys:=by
  have hk:=hk;rw[e] at hk;rcases List.mem_append.mp hk with z|z
  ·exact absurd z hn
  ·exact z
 have h1:=Am (f:=vl X) (λp _=>x.nn p) hm;have h2:sm (lst b G T W i) (vl X)=sm (up (lst b G T W i) q) (vl X)+sm ys (vl X):=by
  rw[<- nO,<- e]
 unfold Fi at f;lia
def oR(h:Wd G T W)(x:Pn G T W X)(y:Pn G T W Y)(hi:i < (aH b G T).length)(u:yk b G T W X Y i)(v:yk b G T W Y X i):False:=by
 let⟨q,q1,q2,q3⟩:=u;let⟨p,p1,p2,p3⟩:=v;have h1:=q3.zero h x hi q1 p1 (by have:=y.nn p;lia);have h2:=p3.zero h y hi p1 q1 (by have:=x.nn q;lia);have:=oH (aN h hi) h1 h2;subst this;lia
def cz(b:Bool)(G T:List Pl)(W:List Wy)(X Y:List Int)(i:Nat):Int:=@ite _ (yk b G T W X Y i) (Classical.propDecidable _) 1 (@ite _ (yk b G T W Y X i) (Classical.propDecidable _) (-1) 0)
def Jt(b:Bool)(G T:List Pl)(W:List Wy)(X Y:List Int)(i:Nat):-1<=cz b G T W X Y i/\cz b G T W X Y i<=1:=by
 unfold cz;split
 ·lia
 ·split<;>lia
def tM(u:yk b G T W X Y i):cz b G T W X Y i=1:=yL u
def Jf(h:Wd G T W)(x:Pn G T W X)(y:Pn G T W Y)(hi:i < (aH b G T).length)(u:yk b G T W Y X i):cz b G T W X Y i=-1:=by
 unfold cz;rw[yN λv=>oR h x y hi v u,yL u]
def JC(e:cz b G T W X Y i=-1):yk b G T W Y X i:=by
 unfold cz at e;split at e
 ·lia
 ·split at e
  ·assumption
  ·lia
def wx(c:Int)(f:Nat->Int):∀l:List Nat,sm l (λq=>c * f q)=c * sm l f
 | []=>by simp[sm]
 | q::l=>by rw[aD,aD,wx c f l,Int.mul_add]
def AO(f g:Nat->Int):∀l:List Nat,sm l (λq=>f q - g q)=sm l f - sm l g
 | []=>rfl
 | q::l=>by rw[aD,aD,aD,AO f g l];lia
def AM(f g:Nat->Int):∀l:List Nat,sm l (λq=>f q+g q)=sm l f+sm l g
 | []=>rfl
 | q::l=>by rw[aD,aD,aD,AM f g l];lia
def vv(h:Wd G T W)(x:Pn G T W X)(r:Rs G T W X)(y:Pn G T W Y)(s:Rs G T W Y)(hi:i < (aH b G T).length):sm (lst b G T W i) (vl X)=sm (lst b G T W i) (vl Y):=by
 rw[<- iA h hi,<- iA h hi,vg h x r b hi,vg h y s b hi]
def Nf:∀l:List Int,(∀v∈l,v=0)->l.sum=0
 | [],_=>rfl
 | v::l,h=>by rw[kC,h v zE,Nf l λu hu=>h u (zC _ hu)];rfl
def Fb(h:Wd G T W)(x:Pn G T W X)(r:Rs G T W X)(y:Pn G T W Y)(s:Rs G T W Y)(b:Bool):sm (List.range W.length) (λq=>cz b G T W X Y (ba b W q) * (vl Y q - vl X q))=0:=by
 rw[<- ml h b];refine Nf _ λv hv=>?_;let⟨i,hi,rfl⟩:=List.mem_map.mp hv;have hi:i < (aH b G T).length:=List.mem_range.mp hi;rw[bx (g:=λq=>cz b G T W X Y i * (vl Y q - vl X q)) λq hq=>by rw[((bj h hi).mp hq).2],wx,AO,vv h x r y s hi];simp
def jy(h:Wd G T W)(hq:q < W.length)(hl:vl X q < vl Y q)(f:Fl b G T W X q):yk b G T W X Y (ba b W q):=⟨q,aV h b hq,hl,f⟩
def DU(h:Wd G T W)(r:Rs G T W X)(y:Pn G T W Y)(hq:q < W.length)(hl:vl X q < vl Y q):Fl false G T W X q\/Fl true G T W X q:=by
 rcases r q hq with e|e|e
 ·have:=(y.bd q hq).2;have e:vl X q=(aC W q).2.2:=e;have:vl Y q<=(aC W q).2.2:=this;lia
 ·exact .inl e
 ·exact .inr e
def B4(h:Wd G T W)(x:Pn G T W X)(r:Rs G T W X)(y:Pn G T W Y)(s:Rs G T W Y)(hq:q < W.length):0<=cz false G T W X Y (ba false W q) * (vl Y q - vl X q)+cz true G T W X Y (ba true W q) * (vl Y q - vl X q):=by
 have b1:=Jt false G T W X Y (ba false W q);have b2:=Jt true G T W X Y (ba true W q);rw[<- Int.add_mul];rcases Int.lt_trichotomy (vl X q) (vl Y q) with c|c|c
 ·refine Int.mul_nonneg ?_ (by lia);rcases DU h r y hq c with f|f
  ·have:=tM (jy h hq c f);lia
  ·have:=tM (jy h hq c f);lia
 ·rw[c];simp
 ·refine Int.mul_nonneg_of_nonpos_of_nonpos ?_ (by lia);rcases DU h s x hq c with f|f
  ·have:=Jf h x y (aZ h false hq) (jy h hq c f);lia
  ·have:=Jf h x y (aZ h true hq) (jy h hq c f);lia
def BC(h:Wd G T W)(x:Pn G T W X)(r:Rs G T W X)(y:Pn G T W Y)(s:Rs G T W Y)(hq:q < W.length)(hne:vl X q≠vl Y q):cz false G T W X Y (ba false W q)+cz true G T W X Y (ba true W q)=0:=by
 have e:=AM (λq=>cz false G T W X Y (ba false W q) * (vl Y q - vl X q)) (λq=>cz true G T W X Y (ba true W q) * (vl Y q - vl X q)) (List.range W.length);rw[Fb h x r y s,Fb h x r y s] at e;have:=Am (l:=List.range W.length) (f:=λq=>cz false G T W X Y (ba false W q) * (vl Y q - vl X q)+cz true G T W X Y (ba true W q) * (vl Y q - vl X q)) (λp hp=>B4 h x r y s (List.mem_range.mp hp)) (List.mem_range.mpr hq);have h2:=B4 h x r y s hq;have h3:(cz false G T W X Y (ba false W q)+cz true G T W X Y (ba true W q)) * (vl Y q - vl X q)=0:=by rw[Int.add_mul];lia
 rcases Int.mul_eq_zero.mp h3 with z|z
 ·exact z
 ·exact absurd (by lia) hne
def flip(h:Wd G T W)(x:Pn G T W X)(r:Rs G T W X)(y:Pn G T W Y)(s:Rs G T W Y)(hq:q < W.length)(hl:vl X q < vl Y q):∃b,Fl b G T W X q/\yk (!b) G T W Y X (ba (!b) W q):=by
 have z:=BC h x r y s hq (by lia);rcases DU h r y hq hl with f|f
 ·have:=tM (jy h hq hl f);exact⟨false,f,JC (by show cz true G T W X Y (ba true W q)=-1;lia)⟩
 ·have:=tM (jy h hq hl f);exact⟨true,f,JC (by show cz false G T W X Y (ba false W q)=-1;lia)⟩
def BW(h:Wd G T W)(x:Pn G T W X)(r:Rs G T W X)(y:Pn G T W Y)(s:Rs G T W Y)(hi:i < (aH b G T).length)(n:¬ yk b G T W Y X i):Lk b G T W X Y i:=λq hq hl=>by
 let⟨h1,h2⟩:=(bj h hi).mp hq;let⟨c,f,u⟩:=flip h x r y s h1 hl;by_cases e:c=b
 ·subst e;unfold Fl at f;rw[h2] at f;exact f
 ·have e:(!c)=b:=by cases c<;>cases b<;>first|rfl|exact absurd rfl e
  rw[e,h2] at u;exact absurd u n
def Lc(h:Wd G T W)(x:Pn G T W X)(r:Rs G T W X)(y:Pn G T W Y)(s:Rs G T W Y)(hi:i < (aH b G T).length)(l:Lk b G T W X Y i):¬ yk b G T W Y X i:=λ⟨p,p1,p2,p3⟩=>by
 have d:=l.dom h x y hi p1;have d2:=uv h x hi p1;have p3':sm (up (lst b G T W i) p) (vl Y)=amt b G T i:=p3;let⟨q,q1,q2⟩:=Jv (l:=up (lst b G T W i) p) (f:=vl X) (g:=vl Y) (p:=p) (by lia) (oW p1) p2;have f:=l q (bQ q1) q2;have z:=f.zero h x hi (bQ q1) p1 (by have:=y.nn p;lia);have:=oH (aN h hi) z q1;subst this;lia
def Ee(h:Wd G T W)(x:Pn G T W X)(r:Rs G T W X)(y:Pn G T W Y)(s:Rs G T W Y)(hi:i < (aH b G T).length):Lk b G T W X Y i\/Lk b G T W Y X i:=by
 by_cases u:yk b G T W Y X i
 ·exact .inr (BW h y s x r hi λv=>oR h x y hi v u)
 ·exact .inl (BW h x r y s hi u)
def Io(h:Wd G T W)(x:Pn G T W X)(r:Rs G T W X)(y:Pn G T W Y)(s:Rs G T W Y)(hi:i < (aH b G T).length)(l:Lk b G T W X Y i)(m:Lk b G T W Y X i)(hq:q∈lst b G T W i):vl X q=vl Y q:=by
 have key:∀ {X Y:List Int},Pn G T W X->Rs G T W X->Pn G T W Y->Rs G T W Y->Lk b G T W X Y i->Lk b G T W Y X i->¬ vl X q < vl Y q:=λ{X Y} x r y s l m c=>by
  let⟨h1,h2⟩:=(bj h hi).mp hq;exact Lc h y s x r hi m ⟨q,hq,c,l q hq c⟩
 have h1:=key x r y s l m;have h2:=key y s x r m l;lia
end
section
variable {G T:List Pl}{W:List Wy}{X Y Z P:List Int}{b:Bool}{i k q:Nat}
structure Qt(G T:List Pl)(W:List Wy)(X:List Int):Prop where
 p:Pn G T W X
 r:Rs G T W X
abbrev jn(b:Bool)(G T:List Pl)(W:List Wy)(X Y:List Int):List Int:=aQ b G T W (mx X Y)
def Mc(h:X.length=Y.length):mx X Y=mx Y X:=by
 refine eY (by rw[i8 h,i8 h.symm,h]) λk hk=>?_;rw[i8 h] at hk;rw[rG h k (.inr hk),rG h.symm k (.inr (by lia))];lia
def BH(x:Pn G T W X)(y:Pn G T W Y)(b:Bool):jn b G T W X Y=jn b G T W Y X:=by
 unfold jn;rw[Mc (by rw[x.len,y.len])]
def nF:(jn b G T W X Y).length=W.length:=c4 ..
def lS(h:Wd G T W)(x:Pn G T W X)(y:Pn G T W Y)(hi:i < (aH b G T).length)(l:Lk b G T W X Y i)(hq:q∈lst b G T W i):vl (jn b G T W X Y) q=vl X q:=List.map_inj_left.mp ((oU h x y hi).mpr l) q hq
def pQ(h:Wd G T W)(x:Pn G T W X)(y:Pn G T W Y)(hi:i < (aH b G T).length)(l:Lk b G T W Y X i)(hq:q∈lst b G T W i):vl (jn b G T W X Y) q=vl Y q:=by
 rw[BH x y];exact lS h y x hi l hq
def Gc(h:Wd G T W)(x:Qt G T W X)(y:Qt G T W Y)(hq:q < W.length):vl (jn false G T W X Y) q+vl (jn true G T W X Y) q=vl X q+vl Y q:=by
 have g:=aZ h false hq;have t:=aZ h true hq;have sg:=aV (G:=G) (T:=T) h false hq;have st:=aV (G:=G) (T:=T) h true hq;by_cases e:vl X q=vl Y q
 ·have h1:vl (jn false G T W X Y) q=vl X q:=by
   rcases Ee h x.p x.r y.p y.r g with l|l
   ·exact lS h x.p y.p g l sg
   ·rw[pQ h x.p y.p g l sg,e]
  have h2:vl (jn true G T W X Y) q=vl X q:=by
   rcases Ee h x.p x.r y.p y.r t with l|l
   ·exact lS h x.p y.p t l st
   ·rw[pQ h x.p y.p t l st,e]
  lia
 ·have z:=BC h x.p x.r y.p y.r hq e;have up:∀ {b:Bool},yk b G T W X Y (ba b W q)->Lk b G T W X Y (ba b W q):=λ{b} u=>BW h x.p x.r y.p y.r (aZ h b hq) λv=>oR h x.p y.p (aZ h b hq) u v;have dn:∀ {b:Bool},yk b G T W Y X (ba b W q)->Lk b G T W Y X (ba b W q):=λ{b} u=>BW h y.p y.r x.p x.r (aZ h b hq) λv=>oR h x.p y.p (aZ h b hq) v u;have one:∃b,yk b G T W X Y (ba b W q)/\yk (!b) G T W Y X (ba (!b) W q):=by
   rcases Int.lt_or_gt_of_ne e with c|c
   ·let⟨b,f,u⟩:=flip h x.p x.r y.p y.r hq c;exact⟨b,jy h hq c f,u⟩
   ·let⟨b,f,u⟩:=flip h y.p y.r x.p x.r hq c;exact⟨!b,u,by rw[Bool.not_not];exact jy h hq c f⟩
  let⟨b,u,v⟩:=one;cases b with
  | false=>rw[lS h x.p y.p g (up u) sg,pQ h x.p y.p t (dn v) st]
  | true =>
   rw[lS h x.p y.p t (up u) st,pQ h x.p y.p g (dn v) sg];lia
def jd(h:Wd G T W)(x:Qt G T W X)(y:Qt G T W Y)(hi:i < (aH b G T).length):(Lk b G T W X Y i/\∀q∈lst b G T W i,vl (jn b G T W X Y) q=vl X q)\/(Lk b G T W Y X i/\∀q∈lst b G T W i,vl (jn b G T W X Y) q=vl Y q):=by
 rcases Ee h x.p x.r y.p y.r hi with l|l
 ·exact .inl ⟨l,λq hq=>lS h x.p y.p hi l hq⟩
 ·exact .inr ⟨l,λq hq=>pQ h x.p y.p hi l hq⟩
def BQ(h:Wd G T W)(x:Qt G T W X)(y:Qt G T W Y)(b:Bool)(hq:q < W.length):vl (jn b G T W X Y) q+vl (jn (!b) G T W X Y) q=vl X q+vl Y q:=by
 have:=Gc h x y hq;cases b
 ·exact this
 ·show vl (jn true G T W X Y) q+vl (jn false G T W X Y) q=_;lia
def Ea(h:Wd G T W)(x:Qt G T W X)(y:Qt G T W Y)(hi:i < (aH (!b) G T).length):(Lk (!b) G T W Y X i/\∀q∈lst (!b) G T W i,vl (jn b G T W X Y) q=vl X q)\/(Lk (!b) G T W X Y i/\∀q∈lst (!b) G T W i,vl (jn b G T W X Y) q=vl Y q):=by
 rcases jd (b:=!b) h x y hi with ⟨l,z⟩|⟨l,z⟩
 ·refine .inr ⟨l,λq hq=>?_⟩;have h1:=BQ h x y b ((bj h hi).mp hq).1;have h2:=z q hq;lia
 ·refine .inl ⟨l,λq hq=>?_⟩;have h1:=BQ h x y b ((bj h hi).mp hq).1;have h2:=z q hq;lia
def uE(h:Wd G T W)(x:Qt G T W X)(y:Qt G T W Y)(b c:Bool)(hi:i < (aH c G T).length):(∀q∈lst c G T W i,vl (jn b G T W X Y) q=vl X q)\/(∀q∈lst c G T W i,vl (jn b G T W X Y) q=vl Y q):=by
 by_cases e:c=b
 ·subst e;rcases jd h x y hi with ⟨_,z⟩|⟨_,z⟩
  ·exact .inl z
  ·exact .inr z
 ·have e:c=!b:=by cases c<;>cases b<;>first|rfl|exact absurd rfl e
  subst e;rcases Ea h x y hi with ⟨_,z⟩|⟨_,z⟩
  ·exact .inl z
  ·exact .inr z
def Mh(h:Wd G T W)(x:Qt G T W X)(y:Qt G T W Y)(b:Bool):Pn G T W (jn b G T W X Y) where
 len:=nF
 bd:=λk hk=>by
  have hx:=x.p.bd k hk;have hy:=y.p.bd k hk;have:vl (jn b G T W X Y) k=vl X k\/vl (jn b G T W X Y) k=vl Y k:=by
   rcases uE h x y b b (aZ h b hk) with z|z
   ·exact .inl (z k (aV h b hk))
   ·exact .inr (z k (aV h b hk))
  have e:(jn b G T W X Y).getD k 0=X.getD k 0\/(jn b G T W X Y).getD k 0=Y.getD k 0:=this;rcases e with e|e
  ·rw[e];exact hx
  ·rw[e];exact hy
 am:=λc i hi=>by
  rw[iA h hi];rcases uE h x y b c hi with z|z
  ·rw[bx z,<- iA h hi];exact x.p.am c i hi
  ·rw[bx z,<- iA h hi];exact y.p.am c i hi
def Bg(h:Wd G T W){c:Bool}(hk:k < W.length)(z:∀q∈lst c G T W (ba c W k),vl P q=vl X q)(f:Fl c G T W X k):Fl c G T W P k:=by
 unfold Fl at f ⊢;rw[<- f];exact bx λq hq=>z q (bQ hq)
def M9(h:Wd G T W)(x:Qt G T W X)(y:Qt G T W Y)(b:Bool):Rs G T W (jn b G T W X Y):=λk hk=>by
 have two:∀ {c:Bool},Fl c G T W (jn b G T W X Y) k->(jn b G T W X Y).getD k 0=(aC W k).2.2\/Fl false G T W (jn b G T W X Y) k\/Fl true G T W (jn b G T W X Y) k:=λ{c} f=>by
  cases c
  ·exact .inr (.inl f)
  ·exact .inr (.inr f)
 have hb:=aZ h b hk;have hc:=aZ h (!b) hk;have sb:=aV (G:=G) (T:=T) h b hk;have sc:=aV (G:=G) (T:=T) h (!b) hk;have rs:∀ {P:List Int},Rs G T W P->vl P k=(aC W k).2.2\/Fl b G T W P k\/Fl (!b) G T W P k:=λ{P} r=>by
  rcases r k hk with e|e|e
  ·exact .inl e
  ·cases b
   ·exact .inr (.inl e)
   ·exact .inr (.inr e)
  ·cases b
   ·exact .inr (.inr e)
   ·exact .inr (.inl e)
 have key:∀ {P Q:List Int},Qt G T W P->Qt G T W Q->Lk b G T W P Q (ba b W k)->(∀q∈lst b G T W (ba b W k),vl (jn b G T W X Y) q=vl P q)->((∀q∈lst (!b) G T W (ba (!b) W k),vl (jn b G T W X Y) q=vl P q)\/(∀q∈lst (!b) G T W (ba (!b) W k),vl (jn b G T W X Y) q=vl Q q))->(jn b G T W X Y).getD k 0=(aC W k).2.2\/Fl false G T W (jn b G T W X Y) k\/Fl true G T W (jn b G T W X Y) k:=λ{P Q} p q l z1 z2=>by
  have ek:=z1 k sb;rcases rs p.r with e|e|e
  ·exact .inl (ek.trans e)
  ·exact two (Bg h hk z1 e)
  ·rcases z2 with z2|z2
   ·exact two (Bg h hk z2 e)
   ·rcases rs q.r with f|f|f
    ·exact .inl ((z2 k sc).trans f)
    ·have d:=l.dom h p.p q.p hb sb;have d2:=uv h p.p hb sb;unfold Fl at f;exact two (Bg h hk z1 (show sm (up (lst b G T W (ba b W k)) k) (vl P)=amt b G T (ba b W k) by lia))
    ·exact two (Bg h hk z2 f)
 rcases jd h x y hb with ⟨l,z1⟩|⟨l,z1⟩
 ·exact key x y l z1 (uE h x y b (!b) hc)
 ·exact key y x l z1 (uE h x y b (!b) hc).symm
def ow(h:Wd G T W)(x:Qt G T W X)(y:Qt G T W Y)(b:Bool):Qt G T W (jn b G T W X Y):=⟨Mh h x y b,M9 h x y b⟩
def Lk.refl_on(z:∀q∈lst b G T W i,vl X q=vl Y q):Lk b G T W X Y i:=λq hq c=>by have:=z q hq;lia
def Lk.left(z:∀q∈lst b G T W i,vl P q=vl X q)(l:Lk b G T W X Y i):Lk b G T W P Y i:=λq hq c=>by
 have:=l q hq (by rw[<- z q hq];exact c);unfold Fi at this ⊢;rw[<- this];exact bx λp hp=>z p (bQ hp)
def Lk.right(z:∀q∈lst b G T W i,vl P q=vl Y q)(l:Lk b G T W X Y i):Lk b G T W X P i:=λq hq c=>l q hq (by rw[<- z q hq];exact c)
def r6(h:Wd G T W)(x:Qt G T W X)(y:Qt G T W Y)(hi:i < (aH b G T).length):Lk b G T W (jn b G T W X Y) X i/\Lk b G T W (jn b G T W X Y) Y i:=by
 rcases jd h x y hi with ⟨l,z⟩|⟨l,z⟩
 ·exact⟨.refl_on z,l.left z⟩
 ·exact⟨l.left z,.refl_on z⟩
def E5(h:Wd G T W)(x:Qt G T W X)(y:Qt G T W Y)(hi:i < (aH (!b) G T).length):Lk (!b) G T W X (jn b G T W X Y) i:=by
 rcases Ea h x y hi with ⟨l,z⟩|⟨l,z⟩
 ·exact .refl_on λq hq=>(z q hq).symm
 ·exact l.right z
def AL(h:Wd G T W)(x:Pn G T W X)(y:Pn G T W Y):jn b G T W X Y=X↔∀i,i < (aH b G T).length->Lk b G T W X Y i:=by
 constructor
 ·intro e i hi;refine (oU h x y hi).mp ?_;show (lst b G T W i).map (vl (jn b G T W X Y))=_;rw[e]
 ·intro l;refine eY (by rw[nF,x.len]) λk hk=>?_;rw[nF] at hk;exact lS h x y (aZ h b hk) (l _ (aZ h b hk)) (aV h b hk)
def IH(h:Wd G T W)(x:Pn G T W X):jn b G T W X X=X:=(AL h x x).mpr λi _=>.refl_on λ_ _=>rfl
def F5(h:Wd G T W)(x:Qt G T W X)(y:Qt G T W Y)(z:Qt G T W Z):jn b G T W (jn b G T W X Y) Z=jn b G T W X (jn b G T W Y Z):=by
 have u:=ow h x y b;have v:=ow h u z b;have p:=ow h y z b;have w:=ow h x p b;refine eY (by rw[nF,nF]) λk hk=>?_;rw[nF] at hk;have hi:=aZ h b hk;have a1:=r6 (b:=b) h u z hi;have a2:=r6 (b:=b) h x y hi;have b1:=r6 (b:=b) h x p hi;have b2:=r6 (b:=b) h y z hi;have vx:=a1.1.trans h v.p u.p hi a2.1;have vy:=a1.1.trans h v.p u.p hi a2.2;have wy:=b1.2.trans h w.p p.p hi b2.1;have wz:=b1.2.trans h w.p p.p hi b2.2;have vw:Lk b G T W (jn b G T W (jn b G T W X Y) Z) (jn b G T W X (jn b G T W Y Z)) (ba b W k):=by
  rcases jd h x p hi with ⟨_,e⟩|⟨_,e⟩
  ·exact vx.right e
  ·rcases jd h y z hi with ⟨_,e2⟩|⟨_,e2⟩
   ·exact vy.right λq hq=>(e q hq).trans (e2 q hq)
   ·exact a1.2.right λq hq=>(e q hq).trans (e2 q hq)
 have wv:Lk b G T W (jn b G T W X (jn b G T W Y Z)) (jn b G T W (jn b G T W X Y) Z) (ba b W k):=by
  rcases jd h u z hi with ⟨_,e⟩|⟨_,e⟩
  ·rcases jd h x y hi with ⟨_,e2⟩|⟨_,e2⟩
   ·exact b1.1.right λq hq=>(e q hq).trans (e2 q hq)
   ·exact wy.right λq hq=>(e q hq).trans (e2 q hq)
  ·exact wz.right e
 exact Io h v.p v.r w.p w.r hi vw wv (aV h b hk)
def EM(h:Wd G T W)(hw:W.length<=4)(x:Qt G T W X)(y:Qt G T W Y)(hq:q < W.length)(hne:vl X q≠vl Y q):∀k,k < W.length->vl X k≠vl Y k:=by
 have oth:∀ (b:Bool) {q:Nat},q < W.length->vl X q≠vl Y q->∃p,p < W.length/\p≠q/\ba b W p=ba b W q/\vl X p≠vl Y p:=λb {q} hq hne=>by
  refine Classical.byContradiction λhno=>?_;have hi:=aZ h b hq;have hs:=vv (b:=b) h x.p x.r y.p y.r hi;have e:∀p∈lst b G T W (ba b W q),p≠q->vl X p=vl Y p:=λp hp hpq=>Classical.byContradiction λz=>hno ⟨p,((bj h hi).mp hp).1,hpq,((bj h hi).mp hp).2,z⟩;have key:∀l:List Nat,l.Nodup->q∈l->(∀p∈l,p≠q->vl X p=vl Y p)->sm l (vl X) - sm l (vl Y)=vl X q - vl Y q:=λl=>by
   induction l with
   | nil=>intro _ z;cases z
   | cons a l ih =>
    intro hn hm he;rw[kR] at hn;rw[aD,aD];by_cases ea:a=q
    ·subst ea;have:sm l (vl X)=sm l (vl Y):=bx λp hp=>he p (zC _ hp) λz=>hn.1 (z ▸ hp);lia
    ·have hm':q∈l:=by
      rcases List.mem_cons.mp hm with z|z
      ·exact absurd z.symm ea
      ·exact z
     have:=ih hn.2 hm' λp hp=>he p (zC _ hp);have:=he a zE ea;lia
  have:=key _ (aN h hi) (aV h b hq) e;lia
 have ext:∀ {p r:Nat},p < W.length->r < W.length->ba false W p=ba false W r->ba true W p=ba true W r->p=r:=λ{p r} hp hr e1 e2=>by
  have h1:=(h.end_pl false hp).2.2;have h2:=(h.end_pl false hr).2.2;have h3:=(h.end_pl true hp).2.2;have h4:=(h.end_pl true hr).2.2;unfold ba at e1 e2;refine qm (b:=false) h.wp hp hr (by rw[<- h1,<- h2,e1]) ?_;show bq true (aC W p)=bq true (aC W r);rw[<- h3,<- h4,e2]
 let⟨p,p1,p2,p3,p4⟩:=oth false hq hne;let⟨r,r1,r2,r3,r4⟩:=oth true hq hne;let⟨s,s1,s2,s3,s4⟩:=oth true p1 p4;have hpt:ba true W p≠ba true W q:=λz=>p2 (ext p1 hq p3 z);have hrg:ba false W r≠ba false W q:=λz=>r2 (ext r1 hq z r3);have hsg:ba false W s≠ba false W p:=λz=>s2 (ext s1 p1 z s3);have d1:r≠p:=λz=>hpt (by rw[<- z];exact r3);have d2:s≠q:=λz=>by subst z;exact hsg p3.symm
 have d3:s≠r:=λz=>by subst z;exact hpt (s3.symm.trans r3)
 intro k hk;have:k=q\/k=p\/k=r\/k=s:=Classical.byContradiction λhn=>by
  have n1:k≠q:=λz=>hn (.inl z);have n2:k≠p:=λz=>hn (.inr (.inl z));have n3:k≠r:=λz=>hn (.inr (.inr (.inl z)));have n4:k≠s:=λz=>hn (.inr (.inr (.inr z)));have hnd:[k,q,p,r,s].Nodup:=by simp[n1,n2,n3,n4,p2.symm,r2.symm,d1.symm,d2.symm,s2.symm,d3.symm]
  have:=hnd.length_le_of_subset (l₂:=List.range W.length) λy hy=>by
   simp?[zQ,yF,xU] at hy;rw[zS];rcases hy with z|z|z|z|z<;>subst z<;>assumption
  rw[zR] at this;have:5<=W.length:=this;lia
 rcases this with z|z|z|z<;>subst z<;>assumption
def Gx(h:Wd G T W)(hw:W.length<=4)(x:Qt G T W X)(y:Qt G T W Y)(e:X.getD 0 0=Y.getD 0 0):X=Y:=by
 refine eY (by rw[x.p.len,y.p.len]) λk hk=>Classical.byContradiction λz=>?_;rw[x.p.len] at hk;exact EM h hw x y hk z 0 (by lia) e
end
namespace K32M
section
variable {G T:List Pl}{W:List Wy}{X Y Z P:List Int}{b:Bool}{i k q:Nat}
def tI(h:Wd G T W)(x:Pn G T W X)(y:Pn G T W Y)(b:Bool):BI b G T W X Y=true↔∀i,i < (aH b G T).length->Lk b G T W X Y i:=by
 unfold BI;rw[xG];constructor
 ·intro z i hi;have:=z i (List.mem_range.mpr hi);rw[zJ] at this;exact (oU h x y hi).mp this
 ·intro z i hi;rw[zJ];have hi:=List.mem_range.mp hi;exact (oU h x y hi).mpr (z i hi)
def A4(h:Wd G T W)(x:Pn G T W X)(y:Pn G T W Y)(b:Bool):BI b G T W X Y=decide (jn b G T W X Y=X):=by
 rw[Bool.eq_iff_iff,tI h x y,zJ,AL h x y]
def IP(a:List Int):dv (.list (a.map PyData.int)) (.list (a.map PyData.int))=some (.bool false):=by
 have hs:SeqAt.shaped (.list (a.map PyData.int))=true:=(ib.lst (b:=a.length) (k:=0) (by simp) λx hx=>by let⟨i,_,rfl⟩:=List.mem_map.mp hx;exact kb _).shaped (by decide);have he:=pY a a;rw[af,PyData.eqv,yA rfl] at he;simp?[dv,LV,hs,jO,xH,PyData.eqv,he,zB,xY]
def Bp(l:List (List Int))(a:List Int)(h:a∈l):rC (af a) (.list (l.map af))=some (.bool false):=by
 rw[CA,yA h];rfl
abbrev en(d0:D)(G T:List Pl)(W:List Wy)(L:List (List Int))(x5 x6 x7 x8 x9 x10 x11 x12 x13:Slot):ar:=[.val d0,.val (ax G T W),.val (.list ((allR G T W).map af)),.val (.tuple [af (fP G T W),af (fy G T W)]),.val (.list (L.map af)),x5,x6,x7,x8,x9,x10,x11,x12,x13]
def oB:ar->Option Out:=(au (Dl.az 7 [1,5,6] (ah 4 aw (aa (ab 1) (aa (fC (.int 0)) (aa (ab 5) (aa (ab 6) ae)))))) (au (Dl.az 8 [1,5,6] (ah 4 aw (aa (ab 1) (aa (fC (.int 1)) (aa (ab 5) (aa (ab 6) ae)))))) (au (eP (gp (fB (f2 rC (ab 7) (ab 2))) (gp (fB (f2 rC (ab 8) (ab 2))) (fB (f2 dv (ah 4 aw (aa (ab 1) (aa (fC (.int 0)) (aa (ab 6) (aa (ab 5) ae))))) (ab 7))))) (aF (fC (.bool false))) eF) (au (eP (fB (f2 dv (bH (aj 2 [] (du (aa (ab 7) (aa (ab 8) ae))) (eV 0 1) (λ_=>some true) (f2 aK (ab 0) (ab 1)))) (bH (aj 2 [] (du (aa (ab 5) (aa (ab 6) ae))) (eV 0 1) (λ_=>some true) (f2 aK (ab 0) (ab 1)))))) (aF (fC (.bool false))) eF) (au (eP (gp (fB (f2 dv (ah 4 aw (aa (ab 1) (aa (fC (.int 0)) (aa (ab 5) (aa (ab 8) ae))))) (ab 5))) (fB (f2 dv (ah 4 aw (aa (ab 1) (aa (fC (.int 1)) (aa (ab 5) (aa (ab 7) ae))))) (ab 5)))) (aF (fC (.bool false))) eF) (au (eP (gp (bF (fB (ah 4 bR (aa (ab 1) (aa (fC (.int 0)) (aa (ab 7) (aa (ab 5) ae))))))) (bF (fB (ah 4 bR (aa (ab 1) (aa (fC (.int 1)) (aa (ab 8) (aa (ab 5) ae)))))))) (aF (fC (.bool false))) eF) (eP (gp (fB (f2 dv (f2 bT (ab 7) (ab 5)) (ah 4 bR (aa (ab 1) (aa (fC (.int 0)) (aa (ab 5) (aa (ab 6) ae))))))) (fB (f2 dv (f2 bT (ab 8) (ab 5)) (ah 4 bR (aa (ab 1) (aa (fC (.int 1)) (aa (ab 5) (aa (ab 6) ae)))))))) (aF (fC (.bool false))) eF)))))))
def aB:ar->Option Out:=(c8 [4] (aO (bH (dq (ab 4)))) (k3 6) oB)
def cB:ar->Option Out:=(au (Dl.az 13 [1,9,10,11,12] (ah 4 aw (aa (ab 1) (aa (ab 12) (aa (ah 4 aw (aa (ab 1) (aa (ab 12) (aa (ab 9) (aa (ab 10) ae))))) (aa (ab 11) ae)))))) (au (eP (fB (f2 dv (ab 13) (ah 4 aw (aa (ab 1) (aa (ab 12) (aa (ab 9) (aa (ah 4 aw (aa (ab 1) (aa (ab 12) (aa (ab 10) (aa (ab 11) ae))))) ae))))))) (aF (fC (.bool false))) eF) (au (eP (gp (fB (f2 dv (ah 4 aw (aa (ab 1) (aa (ab 12) (aa (ab 9) (aa (ab 9) ae))))) (ab 9))) (fB (f2 dv (ah 4 aw (aa (ab 1) (aa (ab 12) (aa (f2 av (ab 3) (ab 12)) (aa (ab 9) ae))))) (f2 av (ab 3) (ab 12))))) (aF (fC (.bool false))) eF) (eP (fB (f2 dv (ah 4 aw (aa (ab 1) (aa (ab 12) (aa (f2 av (ab 3) (f2 Dl.g9 (fC (.int 1)) (ab 12))) (aa (ab 9) ae))))) (ab 9))) (aF (fC (.bool false))) eF))))
def Dw(x:X.length=W.length)(y:Y.length=W.length)(e:∀q,q < W.length->vl P q+vl Z q=vl X q+vl Y q)(p:P.length=W.length)(z:Z.length=W.length):List.zipWith (·+·) P Z=List.zipWith (·+·) X Y:=by
 refine eY (by simp[p,z,x,y]) λk hk=>?_;have hk:k < W.length:=by simpa [p,z] using hk
 have:=e k hk;unfold vl at this;simp[p,z,x,y,hk] at this ⊢;exact this
def E6{f g:Dl.Env->Option D}{ρ:Dl.Env}(hl:X.length<=1000)(h1:f ρ=some (af X))(h2:g ρ=some (af Y)):bH (aj 2 [] (du (aa f (aa g ae))) (eV 0 1) (λ_=>some true) (f2 aK (ab 0) (ab 1))) ρ=some (.list ((List.zipWith (·+·) X Y).map PyData.int)):=by
 refine nQ (u9 ?_ hl);show ((aa f (aa g ae)) ρ).bind J8=_;rw[cons_of h1 (cons_of h2 rfl)];rfl
def zu{L:List (List Int)}{x7 x8 x9 x10 x11 x12 x13:Slot}(h:Wd G T W)(x:Qt G T W X)(y:Qt G T W Y):oB (en d0 G T W L (.val (af X)) (.val (af Y)) x7 x8 x9 x10 x11 x12 x13)=some (.nx (en d0 G T W L (.val (af X)) (.val (af Y)) (.val (af (jn false G T W X Y))) (.val (af (jn true G T W X Y))) x9 x10 x11 x12 x13)):=by
 have hw:=h.wl;have u:=ow h x y false;have v:=ow h x y true;unfold oB;refine (ai (bC (call_of (aY h x.p y.p false) rfl rfl) (call_of (aY h x.p y.p false) rfl rfl) rfl)).trans ?_;refine (ai (bC (call_of (aY h x.p y.p true) rfl rfl) (call_of (aY h x.p y.p true) rfl rfl) rfl)).trans ?_;refine (ai (bZ (nM (bM (ay (Bp _ _ ((l6 h).mpr ⟨u.p,u.r⟩)) rfl rfl)) (nM (bM (ay (Bp _ _ ((l6 h).mpr ⟨v.p,v.r⟩)) rfl rfl)) (bM (ay (dZ _) (call_of ((aY h y.p x.p false).trans (by rw[show aQ false G T W (mx Y X)=jn false G T W X Y from BH y.p x.p false])) rfl rfl) rfl)))))).trans ?_;refine (ai (bZ (bM (ay (IP _) ((E6 (by rw[u.p.len];lia) rfl rfl).trans (by rw[Dw x.p.len y.p.len (λq hq=>Gc h x y hq) u.p.len v.p.len])) (E6 (by rw[x.p.len];lia) rfl rfl))))).trans ?_;refine (ai (bZ (nM (bM (ay (dZ _) (call_of ((aY h x.p v.p false).trans (by rw[show aQ false G T W (mx X (jn true G T W X Y))=X from (AL h x.p v.p).mpr λi hi=>E5 (b:=true) h x y hi])) rfl rfl) rfl)) (bM (ay (dZ _) (call_of ((aY h x.p u.p true).trans (by rw[show aQ true G T W (mx X (jn false G T W X Y))=X from (AL h x.p u.p).mpr λi hi=>E5 (b:=false) h x y hi])) rfl rfl) rfl))))).trans ?_;refine (ai (bZ (nM (d5 (b:=true) (bM (call_of ((iN h u.p x.p false).trans (by rw[(tI h u.p x.p false).mpr λi hi=>(r6 h x y hi).1])) rfl rfl))) (d5 (b:=true) (bM (call_of ((iN h v.p x.p true).trans (by rw[(tI h v.p x.p true).mpr λi hi=>(r6 h x y hi).1])) rfl rfl)))))).trans ?_;exact bZ (nM (bM (ay (rQ _) (ay (p9 _ _) rfl rfl) (call_of ((iN h x.p y.p false).trans (by rw[A4 h x.p y.p])) rfl rfl))) (bM (ay (rQ _) (ay (p9 _ _) rfl rfl) (call_of ((iN h x.p y.p true).trans (by rw[A4 h x.p y.p])) rfl rfl))))
def FK(h:Wd G T W)(hw:W.length<=4)(hl:∀w∈W,w.2.2<=2){L:List (List Int)}(hL:∀P∈L,Qt G T W P)(hn:L.Nodup):L.length<=3:=by
 have hb:∀P∈L,0<=P.getD 0 0/\P.getD 0 0<=2:=λP hP=>by
  have p:=(hL P hP).p;rcases Nat.eq_zero_or_pos W.length with z|z
  ·have:P=[]:=List.length_eq_zero_iff.mp (by rw[p.len,z]);rw[this];decide
  ·have:=p.bd 0 z;have h2:=hl (aC W 0) (by rw[<- gy z];exact qA _);lia
 have hi:(L.map λP=>P.getD 0 0).Nodup:=by
  rw[List.nodup_iff_pairwise_ne,jE];refine List.Pairwise.imp_of_mem ?_ hn;intro P Q hP hQ hne e;exact hne (Gx h hw (hL P hP) (hL Q hQ) e)
 have:=hi.length_le_of_subset (l₂:=[0,1,2]) λv hv=>by
  let⟨P,hP,rfl⟩:=List.mem_map.mp hv;have:=hb P hP;have:P.getD 0 0=0\/P.getD 0 0=1\/P.getD 0 0=2:=by lia
  simp?[zQ,yF,xU];exact this
 rw[zD] at this;exact this
def sr(h:Wd G T W)(hw:W.length<=4)(hl:∀w∈W,w.2.2<=2){L:List (List Int)}(hL:∀P∈L,Qt G T W P){f:Dl.Env->Option D}{ρ:Dl.Env}(hf:f ρ=some (.list (L.map af))):aO (bH (dq f)) ρ=some ((lF (nz L)).map af):=by
 refine GI (nQ ?_);have hD:∀P∈nz L,Qt G T W P:=λP hP=>hL P ((uK L P).mp hP);have h3:=FK h hw hl hD (rR L);have hne:(nz L).all (λns=>!ns.isEmpty)=true\/(nz L).length < 2:=by
  rcases Nat.eq_zero_or_pos W.length with z|z
  ·refine .inr ?_;have:=(rR L).length_le_of_subset (l₂:=[[]]) λP hP=>by
    have:P=[]:=List.length_eq_zero_iff.mp (by rw[(hD P hP).p.len,z]);rw[this];exact List.mem_singleton.mpr rfl
   simpa using Nat.lt_succ_of_le this
  ·refine .inl (List.all_eq_true.mpr λP hP=>?_);have:P.length=W.length:=(hD P hP).p.len;cases P with
   | nil=>simp at this;lia
   | cons a r=>rfl
 unfold dq;rw[hf,zA];simp?[ni,qg,zA];rw[yL ⟨by lia,hne⟩]
def K2{L:List (List Int)}{x6 x7 x8 x9 x10 x11 x12 x13:Slot}(h:Wd G T W)(hw:W.length<=4)(hl:∀w∈W,w.2.2<=2)(hL:∀P∈L,Qt G T W P)(x:Qt G T W X):∃y6 y7 y8,aB (en d0 G T W L (.val (af X)) x6 x7 x8 x9 x10 x11 x12 x13)=some (.nx (en d0 G T W L (.val (af X)) y6 y7 y8 x9 x10 x11 x12 x13)):=by
 let⟨ρ1,e1,y6,y7,y8,rfl⟩:=gQ (tgt:=k3 6) (gb:=oB) (R:=λ(_:Unit) ρ=>∃y6 y7 y8,ρ=en d0 G T W L (.val (af X)) y6 y7 y8 x9 x10 x11 x12 x13) af (λs _=>s) (l:=lF (nz L)) (s:=()) (ρ:=en d0 G T W L (.val (af X)) x6 x7 x8 x9 x10 x11 x12 x13)
  (λ_ ρ P hP hρ=>by
   let⟨y6,y7,y8,rfl⟩:=hρ;exact⟨_,_,rfl,zu h x (hL P ((uK L P).mp ((jg _).mem_iff.mp hP))),_,_,_,rfl⟩) ⟨_,_,_,rfl⟩
 refine⟨y6,y7,y8,?_⟩;unfold aB;exact cM e1 (sr h hw hl hL rfl) rfl
def be(b:Bool)(G T:List Pl)(W:List Wy):List Int:=if b then fy G T W else fP G T W
def A1(h:Wd G T W)(b:Bool):Qt G T W (be b G T W):=by
 cases b
 ·exact⟨fS h,y0 h⟩
 ·exact⟨Jr h,MA h⟩
def LI(h:Wd G T W)(x:Qt G T W X)(b:Bool):aQ b G T W (mx (be b G T W) X)=be b G T W:=by
 cases b
 ·exact GZ h x.p x.r
 ·exact (uT h x.p x.r).1
def JU(h:Wd G T W)(x:Qt G T W X)(b:Bool):aQ b G T W (mx (be (!b) G T W) X)=X:=by
 cases b
 ·exact (uT h x.p x.r).2
 ·exact GD h x.p x.r
def uF{L:List (List Int)}{x5 x6 x7 x8 x13:Slot}(h:Wd G T W)(x:Qt G T W X)(y:Qt G T W Y)(z:Qt G T W Z)(b:Bool):cB (en d0 G T W L x5 x6 x7 x8 (.val (af X)) (.val (af Y)) (.val (af Z)) (.val (.int (sI b))) x13)=some (.nx (en d0 G T W L x5 x6 x7 x8 (.val (af X)) (.val (af Y)) (.val (af Z)) (.val (.int (sI b))) (.val (af (jn b G T W (jn b G T W X Y) Z))))):=by
 have u:=ow h x y b;have v:=ow h y z b;have eb:∀ρ:Dl.Env,ab 3 ρ=some (.tuple [af (fP G T W),af (fy G T W)])->ab 12 ρ=some (.int (sI b))->f2 av (ab 3) (ab 12) ρ=some (af (be b G T W)):=λρ a c=>ay (by cases b<;>rfl) a c;have ec:∀ρ:Dl.Env,ab 3 ρ=some (.tuple [af (fP G T W),af (fy G T W)])->ab 12 ρ=some (.int (sI b))->f2 av (ab 3) (f2 Dl.g9 (fC (.int 1)) (ab 12)) ρ=some (af (be (!b) G T W)):=λρ a c=>ay (b:=.int (1 - sI b)) (by cases b<;>rfl) a (ay (lX _ _) rfl c);have e1:=aY h u.p z.p b;unfold cB;refine (ai (bC (call_of e1 (cons_of rfl (cons_of rfl (cons_of (call_of (aY h x.p y.p b) rfl rfl) rfl))) rfl) (call_of e1 (cons_of rfl (cons_of rfl (cons_of (call_of (aY h x.p y.p b) rfl rfl) rfl))) rfl) rfl)).trans ?_;refine (ai (bZ (bM (ay (dZ _) rfl (call_of ((aY h x.p v.p b).trans (by rw[show aQ b G T W (mx X (jn b G T W Y Z))=jn b G T W (jn b G T W X Y) Z from (F5 h x y z).symm])) (cons_of rfl (cons_of rfl (cons_of rfl (cons_of (call_of (aY h y.p z.p b) rfl rfl) rfl)))) rfl))))).trans ?_;refine (ai (bZ (nM (bM (ay (dZ _) (call_of ((aY h x.p x.p b).trans (by rw[show aQ b G T W (mx X X)=X from IH h x.p])) rfl rfl) rfl)) (bM (ay (dZ _) (call_of ((aY h (A1 h b).p x.p b).trans (by rw[LI h x])) (cons_of rfl (cons_of rfl (cons_of (eb _ rfl rfl) rfl))) rfl) (eb _ rfl rfl)))))).trans ?_;exact bZ (bM (ay (dZ _) (call_of ((aY h (A1 h (!b)).p x.p b).trans (by rw[JU h x])) (cons_of rfl (cons_of rfl (cons_of (ec _ rfl rfl) rfl))) rfl) rfl))
def vz{tgt:ar->D->Option ar}{gb:ar->Option Out}{d:D}{ds:List D}{ρ ρ1 ρ2:ar}(h1:tgt ρ d=some ρ1)(h2:gb ρ1=some (.nx ρ2)):cH tgt gb (d::ds) ρ=cH tgt gb ds ρ2:=by rw[cH,h1,zA,h2];rfl
def N6{f:Dl.Env->Option D}{fl:Dl.Env->Option (List D)}{ρ:Dl.Env}{xs ys:List D}(h:f ρ=some (.list xs))(h2:fl ρ=some ys)(hl:(xs++ys).length<=4000):KW j5 f (bH fl) ρ=some (xs++ys):=by
 have e:bH fl ρ=some (.list ys):=nQ h2;simp?[KW,h,e,zA,j5];exact bh (by lia)
def LB{i j l:Nat}{fz:List Nat}{f:Dl.Env->Option D}{ρ:ar}{a c d:D}(hf:f (bS ρ)=some (.list [a,c,d]))(hh:hand fz 0 ρ=ρ):lM i j l fz f ρ=some (.nx (((ρ.set i (.val a)).set j (.val c)).set l (.val d))):=by
 simp?[lM,hh,hf,zA]
def main(ns:List Int)(hl:ns.length<=63):hC [.list (ns.map PyData.int)]=some (.bool true):=by
 let⟨G,T,W,ew,h,few⟩:=wo (ns:=ns) (a:=0) (mo:=4) hl (by lia);have hw4:W.length<=4:=by have:=few.wm;lia
 let⟨er,hr⟩:=u3 h (λw hw=>⟨by have:=h.wr w hw;lia,few.w2 w hw⟩) hw4;have hpos:0 < (allR G T W).length:=List.length_pos_of_mem ((l6 h).mpr ⟨fS h,y0 h⟩);have hd:=λ(k:Nat)=>eO (ns:=ns) (70+((k:Nat):Int)) (((allR G T W).length:Nat):Int) hl (by lia);obtain⟨rw3,hrw⟩:∃rw3:Nat->List Int,rw3=λk=>(allR G T W).getD (dr ns (70+((k:Nat):Int)) (((allR G T W).length:Nat):Int)).toNat []:=⟨_,rfl⟩
 have hq:∀k,Qt G T W (rw3 k):=λk=>by
  have:=(hd k).2;have hv:(dr ns (70+((k:Nat):Int)) (((allR G T W).length:Nat):Int)).toNat < (allR G T W).length:=by lia
  have:=(l6 h).mp (show rw3 k∈allR G T W by rw[hrw];simp[hv]);exact⟨this.1,this.2⟩
 have hL:∀P∈[rw3 0,rw3 1,rw3 2,fP G T W,fy G T W],Qt G T W P:=λP hP=>by
  simp?[zQ,yF,xU] at hP;rcases hP with z|z|z|z|z<;>subst z
  ·exact hq 0
  ·exact hq 1
  ·exact hq 2
  ·exact A1 h false
  ·exact A1 h true
 have e4:∀ρ:Dl.Env,ab 0 ρ=some (cS ns)->ab 2 ρ=some (.list ((allR G T W).map af))->ab 3 ρ=some (.tuple [af (fP G T W),af (fy G T W)])->(KW j5 (bH (aj 1 [0,2] (aX (aa (fC (.int 3)) ae)) (fG 0) (λ_=>some true) (f2 av (ab 2) (ah 3 ao (aa (ab 1) (aa (f2 aK (fC (.int 70)) (ab 0)) (aa (bu bK (aa (ab 2) ae)) ae))))))) (bH (dJ (aa (f2 av (ab 3) (fC (.int 0))) (aa (f2 av (ab 3) (fC (.int 1))) ae))))) ρ=some ([rw3 0,rw3 1,rw3 2,fP G T W,fy G T W].map af):=λρ a0 a2 a3=>by
  have a0':(ρ[0]?).getD none=some (cS ns):=a0;have a2':(ρ[2]?).getD none=some (.list ((allR G T W).map af)):=a2;have c:=dY (ρ:=ρ) (fi:=aX (aa (fC (.int 3)) ae)) (is:=List.range 3) (cs:=[0,2]) (te:=(f2 av (ab 2) (ah 3 ao (aa (ab 1) (aa (f2 aK (fC (.int 70)) (ab 0)) (aa (bu bK (aa (ab 2) ae)) ae)))))) (f:=λk=>af (rw3 k)) (pR rfl (by lia)) (by simp) λk hk=>by
   rw[zI,zI,yU,a0',a2'];have hv:=(hd k).2;refine ay (a:=.list ((allR G T W).map af)) (b:=.int (dr ns (70+((k:Nat):Int)) (((allR G T W).length:Nat):Int))) ?_ rfl (call_of (hd k).1 (cons_of rfl (cons_of (ay (fV 70 _) rfl rfl) (cons_of ?_ rfl))) rfl)
   ·rw[show PyData.int (dr ns (70+((k:Nat):Int)) (((allR G T W).length:Nat):Int))=nD (dr ns (70+((k:Nat):Int)) (((allR G T W).length:Nat):Int)).toNat by show _=PyData.int (((dr ns (70+((k:Nat):Int)) (((allR G T W).length:Nat):Int)).toNat:Nat):Int);congr 1;lia,hrw];have hv2:(dr ns (70+((k:Nat):Int)) (((allR G T W).length:Nat):Int)).toNat < (allR G T W).length:=by lia
    exact AK (f:=af) (l:=allR G T W) (by simp[hv2])
   ·refine (qj (g:=bK) (f:=ab 2) (d:=.list ((allR G T W).map af)) rfl).trans ?_;show some (nD _)=_;rw[zD]
  exact N6 (nQ c) (zy (cons_of (ay (b:=.int 0) rfl a3 rfl) (cons_of (ay (b:=.int 1) rfl a3 rfl) rfl)) (by simp)) (by simp)
 let⟨ρ1,e5,y5,y6,y7,y8,rfl⟩:=gQ (tgt:=k3 5) (gb:=aB) (R:=λ(_:Unit) ρ=>∃y5 y6 y7 y8,ρ=en (cS ns) G T W [rw3 0,rw3 1,rw3 2,fP G T W,fy G T W] y5 y6 y7 y8 .non .non .non .non .non) af (λs _=>s) (l:=lF (nz [rw3 0,rw3 1,rw3 2,fP G T W,fy G T W])) (s:=()) (ρ:=en (cS ns) G T W [rw3 0,rw3 1,rw3 2,fP G T W,fy G T W] .non .non .non .non .non .non .non .non .non)
  (λ_ ρ P hP hρ=>by
   let⟨y5,y6,y7,y8,rfl⟩:=hρ;let⟨z6,z7,z8,e⟩:=K2 (d0:=cS ns) (x6:=y6) (x7:=y7) (x8:=y8) (x9:=.non) (x10:=.non) (x11:=.non) (x12:=.non) (x13:=.non) h hw4 few.w2 hL (hL P ((uK _ P).mp ((jg _).mem_iff.mp hP)));exact⟨_,_,rfl,e,_,_,_,_,rfl⟩) ⟨_,_,_,_,rfl⟩
 have c0:=uF (d0:=cS ns) (L:=[rw3 0,rw3 1,rw3 2,fP G T W,fy G T W]) (x5:=y5) (x6:=y6) (x7:=y7) (x8:=y8) (x13:=.non) h (hq 0) (hq 1) (hq 2) false;have c1:=uF (d0:=cS ns) (L:=[rw3 0,rw3 1,rw3 2,fP G T W,fy G T W]) (x5:=y5) (x6:=y6) (x7:=y7) (x8:=y8) (x13:=.val (af (jn false G T W (jn false G T W (rw3 0) (rw3 1)) (rw3 2)))) h (hq 0) (hq 1) (hq 2) true;have ef:cH (k3 12) cB [.int (sI false),.int (sI true)] (en (cS ns) G T W [rw3 0,rw3 1,rw3 2,fP G T W,fy G T W] y5 y6 y7 y8 (.val (af (rw3 0))) (.val (af (rw3 1))) (.val (af (rw3 2))) .non .non)=some (.nx (en (cS ns) G T W [rw3 0,rw3 1,rw3 2,fP G T W,fy G T W] y5 y6 y7 y8 (.val (af (rw3 0))) (.val (af (rw3 1))) (.val (af (rw3 2))) (.val (.int (sI true))) (.val (af (jn true G T W (jn true G T W (rw3 0) (rw3 1)) (rw3 2)))))):=by
  rw[vz rfl c0,vz rfl c1];rfl
 refine aL ?_;show (au (Dl.az 1 [0] (ah 3 cg (aa (ab 0) (aa (fC (.int 0)) (aa (fC (.int 4)) ae))))) (au (Dl.az 2 [1] (ah 1 eA (aa (ab 1) ae))) (au (Dl.az 3 [1] (aS (aa (ah 1 bE (aa (ab 1) ae)) (aa (ah 1 cC (aa (ab 1) ae)) ae)))) (au (aM 4 [0,2,3] (KW j5 (bH (aj 1 [0,2] (aX (aa (fC (.int 3)) ae)) (fG 0) (λ_=>some true) (f2 av (ab 2) (ah 3 ao (aa (ab 1) (aa (f2 aK (fC (.int 70)) (ab 0)) (aa (bu bK (aa (ab 2) ae)) ae))))))) (bH (dJ (aa (f2 av (ab 3) (fC (.int 0))) (aa (f2 av (ab 3) (fC (.int 1))) ae)))))) (au (c8 [4] (aO (bH (dq (ab 4)))) (k3 5) aB) (au (lM 9 10 11 [4] (lH fO (ab 4) lE (zk (fC (.int 3))))) (au (c8 [] (aX (aa (fC (.int 2)) ae)) (k3 12) cB) (aF (fC (.bool true)))))))))) [.val (cS ns),.non,.non,.non,.non,.non,.non,.non,.non,.non,.non,.non,.non,.non]=_;refine (ai (bC (call_of ew rfl rfl) (call_of ew rfl rfl) rfl)).trans ?_;refine (ai (bC (call_of er rfl rfl) (call_of er rfl rfl) rfl)).trans ?_;have e3:∀ρ:Dl.Env,ab 1 ρ=some (ax G T W)->(aS (aa (ah 1 bE (aa (ab 1) ae)) (aa (ah 1 cC (aa (ab 1) ae)) ae))) ρ=some (.tuple [af (fP G T W),af (fy G T W)]):=λρ a1=>tup_is (cons_of (call_of (DP h) (cons_of a1 rfl) rfl) (cons_of (call_of (G7 h) (cons_of a1 rfl) rfl) rfl)) (by simp);refine (ai (bC (e3 _ rfl) (e3 _ rfl) rfl)).trans ?_;refine (ai (fA (e4 _ rfl rfl rfl) rfl)).trans ?_;refine (ai (cM e5 (sr h hw4 few.w2 hL rfl) rfl)).trans ?_;refine (ai (LB (a:=af (rw3 0)) (c:=af (rw3 1)) (d:=af (rw3 2)) rfl rfl)).trans ?_;refine (ai (cM ef (KE _) rfl)).trans ?_;exact aR rfl
end
end K32M
end Wm
namespace K32
open PySem L2 Dl PySem.Spec PyProof.Rows Pg Hd PySem.W Rg0
def main(ns:List Int)(h:ns.length<=63):hC [.list (ns.map PyData.int)]=some (.bool true):=Wm.K32M.main ns h
def ins(P:Params){h:Heap}{mg:Str->Option Value}(X:(Kf P).In h)(G:h.Ns mainGlobals mg):K4 (Kf P) mg:=⟨λ_ _ _=>by
 have B:∀x∈dB,mg x=none:=λx hx=>mg_none_of X G (Dl.Kn (by kernel_rfl) x hx);refine on (top 63) (f3 376 375 Gn) ?_;refine on (top 62) (f3 371 370 Gn) ?_;refine on (top 61) (f3 364 363 Gn) ?_;refine on (top 60) (f2 357 356 Gn) ?_;refine on (top 58) (f1 350 349 Jo) ?_;refine on (top 57) (f1 345 344 Jo) ?_;refine on (top 56) (f1 340 339 Jo) ?_;refine on (top 55) (f1 335 334 Jo) ?_;refine on (top 52) (f4 328 327 Dj) ?_;refine on (top 51) (f4 321 320 Dj) ?_;refine on (top 50) (f3 316 315 Dj) ?_;refine on (top 49) (f5 309 308 Dj) ?_;refine on (top 48) (f4 302 301 Dj) ?_;refine on (top 47) (f2 297 296 Dj) ?_;refine on (top 45) (f1 292 291 yn) ?_;refine on (top 44) (f1 285 284 yn) ?_;refine on (top 43) (f2 278 277 yn) ?_;refine on (top 42) (f1 271 270 yn) ?_;refine on (top 41) (f2 264 263 yn) ?_;refine on (top 40) (f3 257 256 yn) ?_;refine on (top 39) (f1 250 249 yn) ?_;refine on (top 38) (f3 245 244 yn) ?_;refine on (top 36) (f2 240 239 Dh) ?_;refine on (top 35) (f2 233 232 Dh) ?_;refine on (top 34) (f3 226 225 Dh) ?_;refine on (top 33) (f4 219 218 Dh) ?_;refine on (top 32) (f4 214 213 Dh) ?_;refine ol (top 31) Cg "ways_of.<locals>.<lambda>" (l3 209 208 Dh) ?_;refine on (top 29) (f2 204 203 gH) ?_;refine on (top 28) (f1 199 198 gH) ?_;refine ol (top 27) qc "turned_order.<locals>.<lambda>" (l1 194 193 gH) ?_;refine on (top 26) (f3 187 186 gH) ?_;refine on (top 25) (f1 180 179 gH) ?_;refine on (top 24) (f2 173 172 gH) ?_;refine on (top 23) (f3 166 165 gH) ?_;refine on (top 22) (f2 159 158 gH) ?_;refine on (top 21) (f1 152 151 gH) ?_;refine on (top 20) (f2 145 144 gH) ?_;refine on (top 19) (f3 140 139 gH) ?_;refine on (top 18) (f4 135 134 gH) ?_;refine on (top 17) (f1 130 129 gH) ?_;refine on (top 16) (f1 125 124 gH) ?_;refine on (top 15) (f3 120 119 gH) ?_;refine on (top 14) (f3 115 114 gH) ?_;refine on (top 13) (f2 108 107 gH) ?_;refine on (top 12) (f2 101 100 gH) ?_;refine on (top 11) (f3 96 95 gH) ?_;refine on (top 10) (f2 89 88 gH) ?_;refine on (top 9) (f3 82 81 gH) ?_;exact⟨Rf.NV,(Rf.D2 ⟨273,mg_of X G (by kernel_rfl)⟩ (Rf.D2 ⟨275,mg_of X G (by kernel_rfl)⟩ (Rf.D2 ⟨600,mg_of X G (by kernel_rfl)⟩ Rf.Oh))),B,⟨_,X,G⟩⟩,iQ.mg (f1 381 380 Gn) X G⟩
def Pe(w:World):mT (Kf w.params) [189,206]=true:=by kernel_rfl
end K32
open PySem PySem.W PyProof.Rows
theorem PySem.Challenge.cw_stillflow_k32_whole_put_together_holds : PySem.Challenge.rw_stillflow_k32_whole_put_together.Holds := by
 refine holds_law K32.NU λk1=>?_
 refine holds_open (XP:=XL K32.vw []) (YP:=K32.hk.says) K32.left K32.hk.of K32.hk.keeps (λs e=>xl_of s (Bool.and_eq_true_iff.mp e).1) XL.keeps (by rfl) (by rfl) (by rfl) (λs e=>recFacts_of (Bool.and_eq_true_iff.mp e).2) (by rfl) k1 (by decide +kernel) ⟨rfl,rfl,rfl,rfl,rfl,by decide +kernel⟩ ?hw ?hc
 case hw=>w_witness2
 case hc=>exact K32.walk (l:=PySem.Challenge.rw_stillflow_k32_whole_put_together) (K:=K32.Kf) (ts:=[189,206]) rfl rfl rfl (λw h Y=>⟨Y.1,Y.2⟩) K32.Pe (λw=>K32.ins w.params) K32.main
