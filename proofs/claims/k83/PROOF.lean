import PyProof.Rows.All
import Wide.All
import OpenK.AllK
import Wide.FinOn
import PyProof.EqAt
import PyProof.EqKinds
import PyProof.TupleCall
import Lean
import PyProof.Draws
import PyProof.ListRange
import PyProof.StrCalls2
import PyProof.StrCalls6
import PyProof.SliceStr2
import KE.KIntText
import KE.KIsAll
import PySem.Challenge.RW_stillflow_k83_walks_as_texts
set_option Elab.async false
set_option linter.all false
set_option maxRecDepth 100000
set_option maxHeartbeats 4000000
abbrev _root_.zA:=@Option.bind_some
abbrev _root_.zB:=@Option.map_some
abbrev _root_.zC:=@List.mem_cons_of_mem
abbrev _root_.zD:=@List.length_map
abbrev _root_.zE:=@List.mem_cons_self
abbrev _root_.zF:=@Bool.and_eq_true
abbrev _root_.zG:=@List.getD_eq_getElem?_getD
abbrev _root_.zH:=@List.size_toArray
abbrev _root_.zI:=@List.map_cons
abbrev _root_.zJ:=@decide_eq_true_eq
abbrev _root_.zK:=@List.getElem?_eq_getElem
abbrev _root_.zL:=@List.length_cons
abbrev _root_.zM:=@List.map_map
abbrev _root_.zN:=@List.length_append
abbrev _root_.zO:=@List.getElem?_map
abbrev _root_.zP:=@Nat.lt_of_lt_of_le
abbrev _root_.zQ:=@List.mem_cons
abbrev _root_.zR:=@List.length_range
abbrev _root_.zS:=@List.getElem?_eq_some_iff
abbrev _root_.zT:=@PySem.Heap.get?_push_of_some
abbrev _root_.zU:=@PySem.wpAny_bind
abbrev _root_.zV:=@PySem.wpAny_pure
abbrev _root_.zW:=@PySem.Heap.get?_push_size
abbrev _root_.zX:=@PySem.Heap.lt_size
abbrev _root_.zY:=@decide_eq_false
abbrev _root_.zZ:=@decide_eq_true
abbrev _root_.yA:=@List.lookup_cons
abbrev _root_.yB:=@List.length_set
abbrev _root_.yC:=@Nat.le_trans
abbrev _root_.yD:=@List.mem_append_right
abbrev _root_.yE:=@List.not_mem_nil
abbrev _root_.yF:=@Int.toNat_natCast
abbrev _root_.yG:=@List.range_eq_range'
abbrev _root_.yH:=@List.map_congr_left
abbrev _root_.yI:=@List.mem_singleton
abbrev _root_.yJ:=@Option.some.injEq
abbrev _root_.yK:=@if_pos
abbrev _root_.yL:=@Nat.le_refl
abbrev _root_.yM:=@if_neg
abbrev _root_.yN:=@Bool.false_eq_true
abbrev _root_.yO:=@Bool.not_eq_true'
abbrev _root_.yP:=@of_decide_eq_true
abbrev _root_.yQ:=@Nat.ne_of_lt
abbrev _root_.yR:=@List.getElem?_append_left
abbrev _root_.yS:=@List.getElem?_append_right
abbrev _root_.yT:=@List.map_nil
abbrev _root_.yU:=@List.set_cons_zero
abbrev _root_.yV:=@List.set_cons_succ
abbrev _root_.yW:=@List.getElem?_replicate
abbrev _root_.yX:=@List.getElem?_cons_succ
abbrev _root_.yY:=@Bool.false_ne_true
abbrev _root_.yZ:=@PySem.wpAny_mono
abbrev _root_.xA:=@decide_eq_false_iff_not
abbrev _root_.xB:=@List.length_singleton
abbrev _root_.xC:=@Option.some.inj
abbrev _root_.xD:=@List.replicate_succ
abbrev _root_.xE:=@List.cons_append
abbrev _root_.xF:=@List.all_eq_true
abbrev _root_.xG:=@if_true
abbrev _root_.xH:=@List.getElem?_set
abbrev _root_.xI:=@PySem.Heap.size_push
abbrev _root_.xJ:=@List.length_nil
abbrev _root_.xK:=@List.length_replicate
abbrev _root_.xM:=@PySem.Heap.get?_update_other
abbrev _root_.xO:=@List.nil_append
abbrev _root_.xP:=@List.length_filter_le
abbrev _root_.xQ:=@List.getElem?_cons_zero
abbrev _root_.xR:=@PySem.wpAny_pyIter_tuple
abbrev _root_.xS:=@List.all_cons
abbrev _root_.xU:=@or_false
abbrev _root_.xV:=@Nat.zero_le
abbrev _root_.xW:=@PySem.wpAny_truthy_bool
abbrev _root_.xX:=@PySem.wpAny_holding
abbrev _root_.xY:=@Bool.not_true
abbrev _root_.xZ:=@Int.le_refl
abbrev _root_.qA:=@List.getElem_mem
abbrev _root_.qB:=@List.mem_of_getElem?
abbrev _root_.qC:=@PySem.wpAny_callSpecial?_slot
abbrev _root_.qD:=@Array.getD_eq_getD_getElem?
abbrev _root_.qE:=@Nat.lt_irrefl
abbrev _root_.qF:=@List.append_nil
abbrev _root_.qG:=@Option.getD_some
abbrev _root_.qH:=@List.length_drop
abbrev _root_.qJ:=@List.mem_append_left
abbrev _root_.qK:=@PySem.wpAny_pyIter_list
abbrev _root_.qL:=@PySem.wpAny_newObj_type
abbrev _root_.qM:=@List.flatten_cons
abbrev _root_.qN:=@PySem.F.plainAttrs_list
abbrev _root_.qP:=@if_false
abbrev _root_.qQ:=@List.getElem_of_mem
abbrev _root_.qS:=@PyProof.Rows.callWith_type1
abbrev _root_.qT:=@PySem.wpAny_field
abbrev _root_.qU:=@PySem.wpAny_call_entry
abbrev _root_.qV:=@PySem.call_meets
abbrev _root_.qX:=@PySem.wpAny_Call_Name_kw
abbrev _root_.qY:=@Nat.lt_of_le_of_lt
abbrev _root_.qZ:=@List.map_append
abbrev _root_.jA:=@Bool.or_eq_true
abbrev _root_.jB:=@congrArg
abbrev _root_.jC:=@Nat.zero_add
abbrev _root_.jD:=@List.pairwise_map
abbrev _root_.jE:=@PyProof.Rows.slot_tuple_getitem
abbrev _root_.jF:=@List.filterMap_cons
abbrev _root_.jG:=@List.ext_getElem
abbrev _root_.jH:=@Nat.ne_of_gt
abbrev _root_.jI:=@PySem.Calls.spliced_cons
abbrev _root_.jJ:=@PySem.wpAny_passesOwn
abbrev _root_.jK:=@Bool.true_and
abbrev _root_.jL:=@List.getElem?_eq_none
abbrev _root_.jM:=@Ne.symm
abbrev _root_.jN:=@Nat.lt_succ_of_lt
abbrev _root_.jO:=@and_self
abbrev _root_.jP:=@decide_true
abbrev _root_.jQ:=@PySem.F.slot_tuple_iterator_next
abbrev _root_.jR:=@PySem.codeAny_mono
abbrev _root_.jS:=@Nat.le_of_lt
abbrev _root_.jT:=@Int.le_trans
abbrev _root_.jU:=@Nat.le_add_right
abbrev _root_.jV:=@List.length_take
abbrev _root_.jW:=@List.filter_cons
abbrev _root_.jX:=@Array.getElem?_eq_getElem
abbrev _root_.jY:=@PySem.mem_of_lookup
abbrev _root_.jZ:=@PySem.codeAny_builtin
abbrev _root_.kA:=@PySem.wpAny_seqItems
abbrev _root_.kC:=@PySem.Calls.spliced_nil
abbrev _root_.kE:=@PySem.SeqAt.canLay_of_shaped
abbrev _root_.kF:=@List.find?_cons_of_neg
abbrev _root_.kG:=@Option.getD_none
abbrev _root_.kH:=@Nat.lt_succ_self
abbrev _root_.kJ:=@PySem.wpAny_attempt
abbrev _root_.kK:=@List.cons.injEq
abbrev _root_.kL:=@Bool.eq_iff_iff
abbrev _root_.kM:=@Bool.and_false
abbrev _root_.kN:=@PySem.wpAny_setField_rec
abbrev _root_.kO:=@Int.emod_lt_of_pos
abbrev _root_.kP:=@List.drop_eq_getElem_cons
abbrev _root_.kR:=@PySem.wpAny_standAt
abbrev _root_.kS:=@PySem.F.args_tuple_add_2
abbrev _root_.kU:=@PySem.wpAny_execs_cons
abbrev _root_.kW:=@List.range'_succ
abbrev _root_.kX:=@PySem.F.entry_tuple_add
abbrev _root_.kY:=@Int.eq_ofNat_of_zero_le
abbrev _root_.kZ:=@PySem.wpAny_call
abbrev _root_.vA:=@beq_iff_eq
abbrev _root_.vB:=@PySem.F.slot_tuple_add
abbrev _root_.vC:=@List.range_succ_eq_map
abbrev _root_.vD:=@List.find?_cons_of_pos
abbrev _root_.vE:=@PySem.wpAny_execs_nil
abbrev _root_.vF:=@Nat.not_lt_zero
abbrev _root_.vG:=@List.of_mem_zip
abbrev _root_.vH:=@Int.emod_nonneg
abbrev _root_.vI:=@PySem.F.slot_zip_next
abbrev _root_.vJ:=@PySem.F.slot_int_rmul
abbrev _root_.vK:=@List.getElem?_toArray
abbrev _root_.vL:=@Nat.mul_le_mul
abbrev _root_.vM:=@Bool.false_and
abbrev _root_.vN:=@PySem.wpAny_loadName_local
abbrev _root_.vO:=@PySem.codeAny_call_builtin
abbrev _root_.vP:=@List.getD_cons_zero
abbrev _root_.vQ:=@List.getD_cons_succ
abbrev _root_.vR:=@Array.length_toList
abbrev _root_.vS:=@PySem.wpAny_Name
abbrev _root_.vT:=@PySem.typeIs_int
abbrev _root_.vU:=@of_decide_eq_false
abbrev _root_.vV:=@PySem.F.args_tuple_mul_2
abbrev _root_.vW:=@PySem.Code.quiet_builtin
abbrev _root_.vX:=@PySem.Calls.Constant_str
abbrev _root_.vY:=@PySem.wpAny_typeOf
abbrev _root_.vZ:=@decide_false
abbrev _root_.wA:=@PySem.concat_meets
abbrev _root_.wC:=@Nat.lt_trans
abbrev _root_.wD:=@PySem.wpAny_pyIter_enum
abbrev _root_.wF:=@Function.comp_def
abbrev _root_.wG:=@PySem.F.entry_tuple_mul
local macro_rules|`(tactic|simp?[$t,*] $[$l:location]?)=>`(tactic|simp only[$t,*] $[$l]?)
local macro_rules|`(tactic|let ⟨$a,*⟩:=$e)=>do
 let rec f(n:Nat)(t:Lean.Syntax):Lean.MacroM (Lean.TSyntax `rcasesPat):=match n with
 |0=>Lean.Macro.throwUnsupported
 |n+1=>match t with
  |`(⟨$b,*⟩)=>do
    let c<-b.getElems.mapM fun x=>do `(Lean.Parser.Tactic.rcasesPatLo|$(<-f n x):rcasesPat)
    `(rcasesPat|⟨$c,*⟩)
  |`($x:ident)=>`(rcasesPat|$x:ident)
  |_=>`(rcasesPat|_)
 `(tactic|obtain $(<-f 9 (<-`(⟨$a,*⟩))):rcasesPat:=$e)
local macro_rules|`(tactic|lia)=>`(tactic|omega)
local macro_rules|`(def $i:declId $s:optDeclSig $v:declVal)=>`(noncomputable def $i:declId $s:optDeclSig $v:declVal)
local macro_rules|`(abbrev $i:declId $s:optDeclSig $v:declVal)=>`(noncomputable abbrev $i:declId $s:optDeclSig $v:declVal)
namespace L2
open PySem
def fU(s:Stmt):Arguments:=match s with
 | .FunctionDef _ a _ _ _ _ _ _ _ _=>a
 | _=>{ posonlyargs:=[],args:=[],vararg:=none,kwonlyargs:=[],kw_defaults:=[],kwarg:=none,defaults:=[] }
def bG(s:Stmt):List Stmt:=match s with
 | .FunctionDef _ _ b _ _ _ _ _ _ _=>b
 | _=>[]
def aj(s:Stmt):Scope:=match s with
 | .FunctionDef _ _ _ _ _ _ sc _ _ _=>sc
 | _=>{ kind:=.function,names:=[],isGenerator:=false,isCoroutine:=false }
end L2
namespace Hd
open PySem L2 PySem.Spec PyProof.Rows
variable {N:Nat}
def en(P:Params)(x:String)(t:Nat)(v:Value):DictEntry:=⟨PyData.keyHash P (Str.ofString x),.str (Str.ofString x) t,v⟩
def fo(x:Str)(st:Stmt)(pm:Value)(c:Addr):Obj:=⟨.type "function",none,.func (W.fnOf x x (fU st) (bG st) (aj st) .none .none .none pm none (.ref c) .none),#[]⟩
def co(vs:List Value):Obj:=⟨.type "code",none,.fields vs.toArray,#[]⟩
def M4(n:Nat):Value:=if n=0 then .none else .ref n
def iq(x:Str)(t l n a b c d e f u:Nat):Obj:=co [.str x t,.str x (t+1),.str "/claim/cut.py" (t+2),.int l 0,.int n 0,.int 0 0,.int 0 0,.int 3 0,M4 a,.bool true,.int 181 0,M4 b,M4 c,M4 d,M4 e,M4 f,.int u 0,.int l 0,.str "/claim/cut.py" (u+1)]
def ON(x:Str)(C ns m t u:Nat)(bs up subs:List Value):Obj:=⟨.type "type",none,.cls { name:=x,bases:=bs,mro:=.ref C::(up++[.type "ValueError",.type "Exception",.type "BaseException",.type "object"]),ns:=ns,qualname:=x,subclasses:=subs },#[some (.ref m),none,some (.str x t),some (.str x u),some (.builtin "ValueError.__new__"),some (.bool true)]⟩
open PySem PySem.W L2
structure Acc where
 a:Nat
 t:Nat
 nm:Value
 es:List DictEntry
 ts:List Value
 os:List Obj
def JE(q:NameKind)(sc:Scope):List Str:=sc.names.filterMap λ(x,k)=>if k=q then some x else none
def MH:Nat->List Str->List Value
 | _,[]=>[]
 | t,x::l=>.str x t::MH (t+1) l
def Hh(vs:List Value):Obj:=⟨.type "tuple",none,.seq vs.toArray,#[]⟩
def Np:Obj:=⟨.none,none,.fields #[],#[]⟩
def Nx(x:Str)(st:Stmt):Obj:=⟨.none,none,.func { name:=x,qualname:=x,params:=fU st,body:=.stmts (bG st),scope:=aj st,globals:=0,closure:=[],defaults:=.none,kwdefaults:=.none },#[]⟩
def Rj(P:Params)(k:Nat)(st:Stmt):Acc->Acc
 | ⟨a,t,nm,es,ts,os⟩=>match st with
  | .FunctionDef x args _ _ _ _ sc _ _ pos =>
   if k=0 then ⟨a+5,t+6,nm,⟨PyData.keyHash P x,.str x (t+5),.ref (a+4)⟩::es,.ref (a+3)::.int 0 0::.int pos.line 0::ts,
    fo x st nm (a+3)::iq x t pos.line args.args.length a (a+1) 0 0 0 (a+2) (t+3)::Nx x st::Np::Hh []::os⟩
   else
    let m:=(JE .local sc).length;let n:=m+(JE .cell sc).length
    ⟨a+7,t+6+n,nm,⟨PyData.keyHash P x,.str x (t+5+n),.ref (a+6)⟩::es,.ref (a+5)::.int 0 0::.int pos.line 0::ts,
    fo x st nm (a+5)::iq x t pos.line args.args.length a (a+1) 0 (a+2) (a+3) (a+4) (t+3+n)::Nx x st::Hh (MH (t+3+m) (JE .cell sc))::Hh (MH (t+3) (JE .local sc))::Np::Hh []::os⟩
  | .Assign [.Name x _] (.Constant c _ _) _ =>
   let v:=match c with|.int i=>Value.int i t|.str y=>.str y t|_=>.none
   if k=2 then ⟨a,t+2,v,es,ts,os⟩ else ⟨a,t+2,nm,⟨PyData.keyHash P x,.str x (t+1),v⟩::es,ts,os⟩
  | _=>⟨a,t,nm,es,ts,os⟩
def Oy(P:Params):List Nat->List Stmt->Acc->Acc
 | k::ks,st::r,A=>Oy P ks r (Rj P k st A)
 | _,_,A=>A
def P6:Heap->Acc->Heap
 | ⟨⟨o0::o1::o2::⟨c3,d3,.dict ⟨e0::es⟩ n,s3⟩::r⟩,lf⟩,A=>⟨⟨o0::o1::o2::⟨c3,d3,.dict ⟨{ e0 with val:=A.nm }::(es++A.es.reverse)⟩ (n+A.es.length),s3⟩ ::
   (r.modify 8 (fun|⟨c,d,.fields ⟨vs⟩,s⟩=>⟨c,d,.fields ⟨vs++A.ts.reverse⟩,s⟩|o=>o)++A.os.reverse)⟩,lf⟩
 | h,_=>h
def O2(s:Shared)(A:Acc):Shared:={ s with heap:=P6 s.heap A,toks:=A.t }
section
variable (p:Program) (w:World)
abbrev wQ:=behindTheImports p
abbrev GB:PySem.Env:={ scope:=p.main.scope,locals:=3,globals:=3,cells:=[],code:=.ref 13,frame:=some 14 }
abbrev Am:Code:=.body (wQ p) (GB p)
def GL(i:Nat):Pos:=if i=0 then default else ((wQ p).getD (i - 1) (.Pass default)).pos
abbrev Hz:List Frame:=[topFrame default]
def S0:Shared:=(fencedOpening treeTable p w 6000).getD {}
def Sb:Shared:=((topGo treeTable p w 11 (some (.ref 6)) 12 (S0 p w) (topStub p)).map (·.1)).getD {}
abbrev OH(n i j:Nat)(s:Shared):=segRun treeTable p w 11 (some (.ref 6)) 1 n s (piecesOf (((wQ p).drop i).take (j - i)) (GB p) (Am p) (GL p i) Hz)
def Sc(n j:Nat):Shared:=((OH p w n 0 j (Sb p w)).map (·.2.1)).getD {}
def SA(n j:Nat)(A:Acc)(ks:List Nat)(m:Nat):Shared:=O2 (Sc p w n j) (Oy w.params (ks.take m) ((wQ p).drop j) A)
end
def II{p q:Program}{loose:List Str}{Xt:Shared->Bool}{α:Type}{Yf:Shared->α}{Ya:World->α}{g0:Bool}{s1:World->Shared}{M:Nat}
  (ho:∀w,fencedOpening treeTable p w 6000=some (S0 p w)) (hs:∀w,((S0 p w).heap.isNs mainGlobals&&(S0 p w).gens.size == 0,(S0 p w).heap.objs.size,(S0 p w).heap.nsMap mainGlobals "__annotations__")=(true,11,some (.ref 6)))
  (hr:∀w,topRun treeTable p w 11 (some (.ref 6)) M (S0 p w) (topStub p)=some (s1 w)) (hM:M<=6000)
  (hl:∀w,(staticsOk (importedModules p.main.body) (S0 p w).heap (s1 w).heap&&namesBound p (s1 w).heap&&gensDone (s1 w)&&laidKept (S0 p w).heap (s1 w).heap)=true)
  (hk:∀w,openSeen q loose (importedModules p.main.body) Xt g0 (s1 w)=openGood q loose) (hy:∀w,Yf (s1 w)=Ya w):LeftO p q loose Xt Yf Ya 6000 g0:=λw=>by
 have r:=topRun_mono (6000 - M) _ _ _ _ (hr w);rw[show M+(6000 - M)=6000 by lia] at r;have e:=hs w;simp?[Prod.mk.injEq] at e;have t:openEnds treeTable p w 6000=some (s1 w):=by
  unfold openEnds;rw[ho w,zA];unfold topFrom;rw[e.1,e.2.1,e.2.2];dsimp only;rw[r,zA,hl w]
 rw[t,zB,hk w,hy w]
def Mc{p:Program}{w:World}{r:Shared}(a:topGo treeTable p w 11 (some (.ref 6)) 12 (S0 p w) (topStub p)=some (Sb p w,⟨denote treeTable (.body (wQ p) (GB p)),Am p,default,Hz⟩))
  (b:segRun treeTable p w 11 (some (.ref 6)) 1 1 (Sb p w) (blockOf (wQ p) (GB p) (Am p) default Hz)=some (.next,Sb p w,Am p,GL p 0))
  (k:topRun treeTable p w 11 (some (.ref 6)) N (Sb p w) (restOf (wQ p) (GB p) (Am p) (GL p 0) Hz)=some r):topRun treeTable p w 11 (some (.ref 6)) (12+(1+N)) (S0 p w) (topStub p)=some r:=go_top a (piece_block b k)
def Qz{p:Program}{w:World}{n N i j:Nat}{s s' r:Shared}(h:OH p w n i j s=some (.next,s',Am p,GL p j))(hij:i<=j)(k:topRun treeTable p w 11 (some (.ref 6)) N s' (restOf ((wQ p).drop j) (GB p) (Am p) (GL p j) Hz)=some r) :
  topRun treeTable p w 11 (some (.ref 6)) (n+N) s (restOf ((wQ p).drop i) (GB p) (Am p) (GL p i) Hz)=some r:=by
 have e:(wQ p).drop i=((wQ p).drop i).take (j - i)++(wQ p).drop j:=by
  have:=List.take_append_drop (j - i) ((wQ p).drop i);rw[List.drop_drop,show i+(j - i)=j by lia] at this;exact this.symm
 rw[e];exact piece_app h k
end Hd
namespace K83
open PySem L2 PySem.Spec PyProof.Rows Hd PySem.W
abbrev top(i:Nat):Stmt:=PySem.Challenge.pw_stillflow_k83_walks_as_texts.main.body.getD i (.Pass ⟨0,0,0,0⟩)
def vw:Program:=W.view PySem.Challenge.pw_stillflow_k83_walks_as_texts [1,2,3,4,6,7,8,9,10,11,12,13,14,15,16,17,18,19,20,22,23,24,25,26,27,29,30,31,32,33,34,36,37,38,39,40,41,42,43,44,45,46,47,48]
abbrev Rb:Addr:=24
abbrev QJ:List (Str×Addr):=[("NoWorld",37),("NoPlan",49),("NoText",61)]
def m6:Value:=(.str "stillflow.worlds" 255)
def GC:Value:=(.str "stillflow.texts" 353)
def GJ:Value:=(.str "stillflow.walktexts" 390)
def mY:Value:=(.str "law_stillflow_k83_walks_as_texts" 426)
def Kf(P:Params):W.Frag:=[(3,⟨.type "dict",none,.dict #[en P "__name__" 165 (.str "law_stillflow_k83_walks_as_texts" 426),en P "__doc__" 166 .none,en P "__package__" 167 .none,en P "__loader__" 168 (.builtin "__main__.__loader__#opaque"),en P "__spec__" 169 .none,en P "__annotations__" 170 (.ref 6),en P "__builtins__" 171 (.ref 4),en P "__file__" 173 (.str "/claim/cut.py" 172),en P "__cached__" 174 .none,en P "FlowError" 206 (.ref 24),en P "NoWorld" 222 (.ref 37),en P "NoPlan" 238 (.ref 49),en P "NoText" 254 (.ref 61),en P "MOST_PLACES" 258 (.int 4 257),en P "MOST" 260 (.int 9 259),en P "is_whole" 269 (.ref 70),en P "is_number" 277 (.ref 77),en P "is_long" 286 (.ref 84),en P "are_likes" 292 (.ref 89),en P "is_end" 300 (.ref 96),en P "is_way" 309 (.ref 103),en P "are_parts" 315 (.ref 108),en P "liked_pairs" 321 (.ref 113),en P "is_world" 327 (.ref 118),en P "through" 333 (.ref 123),en P "keeps_amounts" 339 (.ref 128),en P "is_plan" 345 (.ref 133),en P "check_world" 352 (.ref 140),en P "DIGITS" 356 (.str "0123456789" 355),en P "text_of_lines" 362 (.ref 145),en P "lines_of" 370 (.ref 152),en P "line_of" 376 (.ref 157),en P "number_of" 383 (.ref 164),en P "numbers_of" 389 (.ref 169),en P "POINT" 393 (.str "." 392),en P "plan_line" 400 (.ref 176),en P "plan_of_line" 407 (.ref 183),en P "are_plans" 413 (.ref 188),en P "walk_text" 419 (.ref 193),en P "read_walk" 425 (.ref 198),en P "_law_cell" 435 (.ref 205),en P "_law_drawn" 445 (.ref 212),en P "_law_orders" 460 (.ref 219),en P "_law_world" 466 (.ref 224),en P "_law_used" 472 (.ref 229),en P "_law_fits" 483 (.ref 236),en P "_law_plan" 497 (.ref 243),en P "_law_refused" 505 (.ref 250),en P "_law_told" 515 (.ref 257),en P "_law_text" 521 (.ref 262),en P "_law_row" 527 (.ref 267),en P "_law_due" 533 (.ref 272),en P "law" 539 (.ref 277)] 53,#[]⟩),
 (23,⟨.type "dict",none,.dict #[en P "__module__" 196 (.str "stillflow.errors" 187),en P "__firstlineno__" 200 (.int 2 199),en P "__static_attributes__" 201 (.ref 22),en P "__weakref__" 203 (.ref 25),en P "__doc__" 204 .none] 3,#[]⟩),
 (24,ON "FlowError" 24 23 15 189 197 [(.type "ValueError")] [] [(.ref 37),(.ref 49),(.ref 61)]),
 (36,⟨.type "dict",none,.dict #[en P "__module__" 214 (.str "stillflow.errors" 187),en P "__firstlineno__" 218 (.int 4 217),en P "__static_attributes__" 219 (.ref 35),en P "__doc__" 220 .none] 2,#[]⟩),
 (37,ON "NoWorld" 37 36 28 207 215 [(.ref 24)] [(.ref 24)] []),
 (48,⟨.type "dict",none,.dict #[en P "__module__" 230 (.str "stillflow.errors" 187),en P "__firstlineno__" 234 (.int 6 233),en P "__static_attributes__" 235 (.ref 47),en P "__doc__" 236 .none] 2,#[]⟩),
 (49,ON "NoPlan" 49 48 40 223 231 [(.ref 24)] [(.ref 24)] []),
 (60,⟨.type "dict",none,.dict #[en P "__module__" 246 (.str "stillflow.errors" 187),en P "__firstlineno__" 250 (.int 8 249),en P "__static_attributes__" 251 (.ref 59),en P "__doc__" 252 .none] 2,#[]⟩),
 (61,ON "NoText" 61 60 52 239 247 [(.ref 24)] [(.ref 24)] []),
 (69,iq "is_whole" 261 13 3 64 65 0 66 67 68 267),
 (70,fo "is_whole" (top 8) m6 69),
 (76,iq "is_number" 270 17 2 71 72 0 73 74 75 275),
 (77,fo "is_number" (top 9) m6 76),
 (83,iq "is_long" 278 19 3 78 79 0 80 81 82 284),
 (84,fo "is_long" (top 10) m6 83),
 (88,iq "are_likes" 287 21 2 85 86 0 0 0 87 290),
 (89,fo "are_likes" (top 11) m6 88),
 (95,iq "is_end" 293 27 2 90 91 0 92 93 94 298),
 (96,fo "is_end" (top 12) m6 95),
 (102,iq "is_way" 301 29 3 97 98 0 99 100 101 307),
 (103,fo "is_way" (top 13) m6 102),
 (107,iq "are_parts" 310 33 3 104 105 0 0 0 106 313),
 (108,fo "are_parts" (top 14) m6 107),
 (112,iq "liked_pairs" 316 41 1 109 110 0 0 0 111 319),
 (113,fo "liked_pairs" (top 15) m6 112),
 (117,iq "is_world" 322 46 1 114 115 0 0 0 116 325),
 (118,fo "is_world" (top 16) m6 117),
 (122,iq "through" 328 53 4 119 120 0 0 0 121 331),
 (123,fo "through" (top 17) m6 122),
 (127,iq "keeps_amounts" 334 55 3 124 125 0 0 0 126 337),
 (128,fo "keeps_amounts" (top 18) m6 127),
 (132,iq "is_plan" 340 57 2 129 130 0 0 0 131 343),
 (133,fo "is_plan" (top 19) m6 132),
 (139,iq "check_world" 346 64 1 134 135 0 136 137 138 350),
 (140,fo "check_world" (top 20) m6 139),
 (144,iq "text_of_lines" 357 69 1 141 142 0 0 0 143 360),
 (145,fo "text_of_lines" (top 23) GC 144),
 (151,iq "lines_of" 363 71 1 146 147 0 148 149 150 368),
 (152,fo "lines_of" (top 24) GC 151),
 (156,iq "line_of" 371 76 1 153 154 0 0 0 155 374),
 (157,fo "line_of" (top 25) GC 156),
 (163,iq "number_of" 377 78 1 158 159 0 160 161 162 381),
 (164,fo "number_of" (top 26) GC 163),
 (168,iq "numbers_of" 384 82 1 165 166 0 0 0 167 387),
 (169,fo "numbers_of" (top 27) GC 168),
 (175,iq "plan_line" 394 86 1 170 171 0 172 173 174 398),
 (176,fo "plan_line" (top 30) GJ 175),
 (182,iq "plan_of_line" 401 88 1 177 178 0 179 180 181 405),
 (183,fo "plan_of_line" (top 31) GJ 182),
 (187,iq "are_plans" 408 90 2 184 185 0 0 0 186 411),
 (188,fo "are_plans" (top 32) GJ 187),
 (192,iq "walk_text" 414 92 2 189 190 0 0 0 191 417),
 (193,fo "walk_text" (top 33) GJ 192),
 (197,iq "read_walk" 420 97 2 194 195 0 0 0 196 423),
 (198,fo "read_walk" (top 34) GJ 197),
 (204,iq "_law_cell" 428 104 2 199 200 0 201 202 203 433),
 (205,fo "_law_cell" (top 36) mY 204),
 (211,iq "_law_drawn" 436 108 3 206 207 0 208 209 210 443),
 (212,fo "_law_drawn" (top 37) mY 211),
 (218,iq "_law_orders" 446 112 3 213 214 0 215 216 217 458),
 (219,fo "_law_orders" (top 38) mY 218),
 (223,iq "_law_world" 461 120 3 220 221 0 0 0 222 464),
 (224,fo "_law_world" (top 39) mY 223),
 (228,iq "_law_used" 467 136 4 225 226 0 0 0 227 470),
 (229,fo "_law_used" (top 40) mY 228),
 (235,iq "_law_fits" 473 138 2 230 231 0 232 233 234 481),
 (236,fo "_law_fits" (top 41) mY 235),
 (242,iq "_law_plan" 484 144 3 237 238 0 239 240 241 495),
 (243,fo "_law_plan" (top 42) mY 242),
 (249,iq "_law_refused" 498 151 1 244 245 0 246 247 248 503),
 (250,fo "_law_refused" (top 43) mY 249),
 (256,iq "_law_told" 506 156 3 251 252 0 253 254 255 513),
 (257,fo "_law_told" (top 44) mY 256),
 (261,iq "_law_text" 516 161 1 258 259 0 0 0 260 519),
 (262,fo "_law_text" (top 45) mY 261),
 (266,iq "_law_row" 522 163 2 263 264 0 0 0 265 525),
 (267,fo "_law_row" (top 46) mY 266),
 (271,iq "_law_due" 528 172 2 268 269 0 0 0 270 531),
 (272,fo "_law_due" (top 47) mY 271),
 (276,iq "law" 534 176 1 273 274 0 0 0 275 537),
 (277,fo "law" (top 48) mY 276)]
def hk:W.Hook:=W.kmHook Kf [3,23,24,36,37,48,49,60,61,69,70,76,77,83,84,88,89,95,96,102,103,107,108,112,113,117,118,122,123,127,128,132,133,139,140,144,145,151,152,156,157,163,164,168,169,175,176,182,183,187,188,192,193,197,198,204,205,211,212,218,219,223,224,228,229,235,236,242,243,249,250,256,257,261,262,266,267,271,272,276,277] (λ_=>rfl) []
abbrev pp:=PySem.Challenge.pw_stillflow_k83_walks_as_texts
abbrev A0:Acc:=⟨64,255,.str "stillflow.errors" 187,[],[],[]⟩
abbrev ks:List Nat:=[2,3,3,1,1,1,0,1,1,0,0,0,0,0,0,1,2,3,0,1,0,1,0,2,3,1,1,0,0,0,2,1,1,1,0,0,1,1,1,1,0,0,0,0]
abbrev cs(w:World):Shared:=Sc pp w 835 5
abbrev sa(w:World)(m:Nat):Shared:=SA pp w 835 5 A0 ks m
def o0(w:World):fencedOpening treeTable pp w 6000=some (S0 pp w):=by kernel_rfl
def o1(w:World):((S0 pp w).heap.isNs mainGlobals&&(S0 pp w).gens.size == 0,(S0 pp w).heap.objs.size,(S0 pp w).heap.nsMap mainGlobals "__annotations__")=(true,11,some (.ref 6)):=by kernel_rfl
def o2(w:World):topGo treeTable pp w 11 (some (.ref 6)) 12 (S0 pp w) (topStub pp)=some (Sb pp w,⟨denote treeTable (.body (wQ pp) (GB pp)),Am pp,default,Hz⟩):=by kernel_rfl
def o3(w:World):segRun treeTable pp w 11 (some (.ref 6)) 1 1 (Sb pp w) (blockOf (wQ pp) (GB pp) (Am pp) default Hz)=some (.next,Sb pp w,Am pp,GL pp 0):=by kernel_rfl
def q0(w:World):OH pp w 835 0 5 (Sb pp w)=some (.next,cs w,Am pp,GL pp 5):=by kernel_rfl
def q1(w:World):cs w=sa w 0:=by kernel_rfl
def r0(w:World):OH pp w 1096 5 49 (sa w 0)=some (.next,sa w 44,Am pp,GL pp 49):=by kernel_rfl
abbrev fs(w:World):Shared:=sa w 44
def q2(w:World):topRun treeTable pp w 11 (some (.ref 6)) 3 (fs w) (restOf ((wQ pp).drop 49) (GB pp) (Am pp) (GL pp 49) Hz)=some (fs w):=by kernel_rfl
def rl(w:World):topRun treeTable pp w 11 (some (.ref 6)) (12+(1+(835+(1096+3)))) (S0 pp w) (topStub pp)=some (fs w):=Mc (o2 w) (o3 w) (Qz (i:=0) (q0 w) (by decide) (by rw[q1 w];exact (Qz (r0 w) (by decide) (q2 w))))
abbrev sn(w:World):=openSeen vw [] (importedModules pp.main.body) (λs=>xlAt vw [] s&&recOk [] s) true (fs w)
abbrev gd:=openGood vw []
def l0(w:World):(staticsOk (importedModules pp.main.body) (S0 pp w).heap (fs w).heap&&namesBound pp (fs w).heap&&gensDone (fs w)&&laidKept (S0 pp w).heap (fs w).heap)=true:=by kernel_rfl
def QF(w:World):(sn w).1=gd.1:=by kernel_rfl
def QN(w:World):(sn w).2.1=gd.2.1:=by kernel_rfl
def QT(w:World):(sn w).2.2.1=gd.2.2.1:=by kernel_rfl
def QW(w:World):(sn w).2.2.2.1=gd.2.2.2.1:=by kernel_rfl
def QI(w:World):(sn w).2.2.2.2.1=gd.2.2.2.2.1:=by kernel_rfl
def QX(w:World):(sn w).2.2.2.2.2.1=gd.2.2.2.2.2.1:=by kernel_rfl
def Re(w:World):(sn w).2.2.2.2.2.2=gd.2.2.2.2.2.2:=by kernel_rfl
def QP(w:World):hk.obs (fs w)=hk.val w:=by kernel_rfl
def left:LeftO pp vw [] (λs=>xlAt vw [] s&&recOk [] s) hk.obs hk.val 6000:=II o0 o1 rl (by decide) l0 (λw=>Prod.ext (QF w) (Prod.ext (QN w) (Prod.ext (QT w) (Prod.ext (QW w) (Prod.ext (QI w) (Prod.ext (QX w) (Re w))))))) QP
def Pe:PySem.Challenge.rw_stillflow_k83_walks_as_texts.wellSaid=true:=by kernel_rfl
end K83
namespace L2
open PySem PySem.Spec PyProof.Rows
abbrev wN:=Sum Int Str
def Kg:wN->Value->Bool
 | .inl k,v=>Value.isInt k v
 | .inr x,v=>Value.isStrOf x v
def Qj(w:World):wN->Int
 | .inl k=>hashInt k
 | .inr x=>hashStr w x
def b8:∀ {k:wN}{v:Value},Kg k v=true->(∃i t,k=Sum.inl i/\v=Value.int i t)\/(∃x t,k=Sum.inr x/\v=Value.str x t)
 | .inl i,v,h=>by
  let⟨t,e⟩:=Value.isInt_shape (k:=i) (v:=v) h;exact .inl ⟨i,t,rfl,e⟩
 | .inr x,v,h=>by
  let⟨t,e⟩:=Value.isStrOf_shape (x:=x) (v:=v) h;exact .inr ⟨x,t,rfl,e⟩
def MI(a b:Int):decide ((Sum.inl a:wN)=Sum.inl b)=(a == b):=by
 by_cases e:a=b
 ·subst e;simp
 ·have h:¬ (Sum.inl a:wN)=Sum.inl b:=λq=>e (Sum.inl.inj q);rw[zY h];exact (beq_eq_false_iff_ne.mpr e).symm
def ML(a b:Str):decide ((Sum.inr a:wN)=Sum.inr b)=decide (a=b):=by
 by_cases e:a=b
 ·subst e;simp
 ·have h:¬ (Sum.inr a:wN)=Sum.inr b:=λq=>e (Sum.inr.inj q);rw[zY h,zY e]
def Le(a:Int)(b:Str):decide ((Sum.inl a:wN)=Sum.inr b)=false:=zY (λq=>nomatch q)
def Li(a:Str)(b:Int):decide ((Sum.inr a:wN)=Sum.inl b)=false:=zY (λq=>nomatch q)
def AL(prog:Program)(w:World):PySem.KeyKind prog w wN where
 is:=Kg
 hash:=Qj w
 inj:=λv a b ha hb=>by
  rcases b8 ha with ⟨i,t,rfl,rfl⟩|⟨x,t,rfl,rfl⟩
  ·rcases b8 hb with ⟨j,u,rfl,e⟩|⟨y,u,rfl,e⟩
   ·injection e with e1 _;rw[e1]
   ·exact nomatch e
  ·rcases b8 hb with ⟨j,u,rfl,e⟩|⟨y,u,rfl,e⟩
   ·exact nomatch e
   ·injection e with e1 _;rw[e1]
 byValue:=λk v h=>by
  rcases b8 h with ⟨i,t,rfl,rfl⟩|⟨x,t,rfl,rfl⟩<;>rfl
 pyHash:=λhv h=>by
  rcases b8 hv with ⟨i,t,rfl,rfl⟩|⟨x,t,rfl,rfl⟩
  ·exact wpAny_pyHash_int h
  ·exact wpAny_pyHash_str h
 eqBool:=λhu hv h=>by
  rcases b8 hu with ⟨i,t,rfl,rfl⟩|⟨x,t,rfl,rfl⟩
  ·rcases b8 hv with ⟨j,u,rfl,rfl⟩|⟨y,u,rfl,rfl⟩
   ·rw[MI] at h;exact wpAny_eqBool_int h
   ·rw[Le] at h;exact SeqAt.EqAt.int_str i t y u _ _ _ _ h
  ·rcases b8 hv with ⟨j,u,rfl,rfl⟩|⟨y,u,rfl,rfl⟩
   ·rw[Li] at h;exact SeqAt.EqAt.str_int x t j u _ _ _ _ h
   ·rw[ML] at h;exact wpAny_eqBool_str h
 «strs»:=λk x t v h=>by
  rcases b8 h with ⟨i,u,rfl,e⟩|⟨y,u,rfl,e⟩
  ·exact nomatch e
  ·injection e with e1 _
   subst e1;cases v<;>rfl
inductive V where
 | non|bl (b:Bool)|int (i:Int)|str (x:Str)|byt (b:Array UInt8)|flt (b:UInt64)|ref (a:Addr)|ty (n:String)
 deriving DecidableEq
def RelV:V->Value->Prop
 | .non,u=>u=Value.none
 | .bl b,u=>u=Value.bool b
 | .int i,u=>∃t,u=Value.int i t
 | .str x,u=>∃t,u=Value.str x t
 | .byt b,u=>∃t,u=Value.bytes b t
 | .flt b,u=>∃t,u=Value.float b t
 | .ref a,u=>u=Value.ref a
 | .ty n,u=>u=Value.type n
abbrev aM:List V->List Value->Prop:=Paired RelV
def aM.length(r:aM xs us):xs.length=us.length:=Paired.length r
def aM.get:∀ {xs:List V}{us:List Value}{i:Nat}{x:V},aM xs us->xs[i]?=some x->∃u,us[i]?=some u/\RelV x u
 | _,_,_,_,.nil,e=>by simp at e
 | _,_,0,_,.cons r _,e=>by simp at e;subst e;exact⟨_,rfl,r⟩
 | _,_,i+1,x,.cons _ t,e=>by
  let⟨u,h1,h2⟩:=aM.get (i:=i) (x:=x) t (by simpa using e);exact⟨u,by simpa using h1,h2⟩
def aM.set(r:RelV x u):∀ {xs:List V}{us:List Value}(i:Nat),aM xs us->aM (xs.set i x) (us.set i u)
 | _,_,_,.nil=>.nil
 | _,_,0,.cons _ t=>.cons r t
 | _,_,i+1,.cons q t=>.cons q (aM.set r i t)
def aM.append:∀ {xs ys:List V}{us ws:List Value},aM xs us->aM ys ws->aM (xs++ys) (us++ws)
 | _,_,_,_,.nil,s=>s
 | _,_,_,_,.cons r t,s=>.cons r (aM.append t s)
def aM.take:∀ {xs:List V}{us:List Value}(n:Nat),aM xs us->aM (xs.take n) (us.take n)
 | _,_,0,_=>.nil
 | _,_,_+1,.nil=>.nil
 | _,_,n+1,.cons r t=>.cons r (aM.take n t)
def aM.drop:∀ {xs:List V}{us:List Value}(n:Nat),aM xs us->aM (xs.drop n) (us.drop n)
 | _,_,0,r=>r
 | _,_,_+1,.nil=>.nil
 | _,_,n+1,.cons _ t=>aM.drop n t
def Oz:Option V->Option Value->Prop
 | some v,some u=>RelV v u
 | none,none=>True
 | _,_=>False
def KV:List (κ×V)->List (κ×Value)->Prop:=Paired λ(p:κ×V) (q:κ×Value)=>p.1=q.1/\RelV p.2 q.2
def kV:wN->V
 | .inl i=>.int i
 | .inr x=>.str x
inductive HO where
  | lst (xs:List V)
  | tup (xs:List V)
  | dK (kvs:List (wN×V))|dT (kvs:List (List wN×V))
  | set (S:Int->Bool) (n:Nat)
  | ins (C dx:Addr) (fs:List (Str×V))
  | own (x:Addr)
  | xd (fs:List (Str×V))
  | met (f x:Addr)
  | rng (lo hi:Int)
  | frz (o:Obj) (u:HO)
  | tab (q:Str)
 | cod (q:Str)
  | ext (φ:Heap->Prop)
abbrev Hp:=Addr->Option HO
def upd(H:Hp)(a:Addr)(o:HO):Hp:=λb=>if b=a then some o else H b
def aP:upd H a o a=some o:=by unfold upd;rw[yK rfl]
def aK(h:b≠a):upd H a o b=H b:=by unfold upd;rw[yM h]
def aV{H:Hp}{a b:Addr}{o:HO}(h:H a=some o)(h':H b=none):a≠b:=by
 intro e;subst e;rw[h] at h';cases h'
def n5(h:Heap)(a:Addr)(its:Array Value):Prop:=IsTup h a its/\∃o,h.get? a=some o/\o.dict=none
def n5.new(h:Heap)(its:Array Value):n5 (h.push { cls:=.type "tuple",data:=.seq its }) h.objs.size its:=⟨IsTup.new _ _,_,zW _ rfl,rfl⟩
section
variable (P:Program) (w:World)
def ej(H:Hp)(h:Heap)(a:Addr):HO->Prop
 | .lst xs=>xs.length<=sizeLine/\∃ (its:List Value) (n:Nat),aM xs its/\h.get? a=some { cls:=.type "list",data:=.seq its.toArray n }
 | .tup xs=>xs.length<=sizeLine/\∃its:List Value,aM xs its/\n5 h a its.toArray
 | .dK kvs=>kvs.length<=sizeLine/\(a == sysModules)=false/\∃vs,KV kvs vs/\h.DictOf (AL P w) a vs
 | .dT kvs=>kvs.length<=sizeLine/\(a == sysModules)=false/\∃xs:List (List wN×Addr×Value),
   Paired (λ(p:List wN×V) (q:List wN×Addr×Value)=>p.1=q.1/\H q.2.1=some (.tup (p.1.map kV))/\RelV p.2 q.2.2) kvs xs /\
   ∃o es ep,h.get? a=some o/\o.ExactDict/\o.data=.dict es ep/\es.toList=xs.map (entryOfKey (tupleKind (AL P w)))/\(xs.map (·.1)).Nodup
 | .set S n=>h.SetOf (intKind P w) a S n
 | .ins C dx fs=>H dx=some (.own a)/\fs.length<=1000/\dx≠a/\h.get? a=some (W.instObj C dx) /\
   ∃mA,h.Ns1 dx mA/\(∀f,Oz (fs.lookup f) (mA f))/\PySem.Within mA (fs.map (·.1))
 | .own _=>∃o,h.get? a=some o
 | .xd fs=>∃mA,h.Ns1 a mA/\∀f,Oz (fs.lookup f) (mA f)
 | .rng lo hi=>∃t u v,h.get? a=some { cls:=.type "range",data:=.fields #[.int lo t,.int hi u,.int 1 v] }
 | .frz o u=>h.get? a=some o/\ej H h a u
 | .tab q=>∃ps:Array Value,h.get? a=some { cls:=.none,data:=.fields ps }/\TriplesOk ps.toList/\∀pos v,codeAmong pos ps.toList=some v->∃c,v=.ref c/\H c=some (.cod q)
 | .cod q=>h.CodeRec (.ref a) q
 | .met f x=>h.get? a=some (W.methodObj (.ref f) (.ref x))
 | .ext φ=>φ h/\(∃o,h.get? a=some o)/\∀h1 h2:Heap,φ h1->(∀o,h1.get? a=some o->h2.get? a=some o)->φ h2
def mq(H:Hp)(h:Heap):Prop:=∀a o,H a=some o->ej P w H h a o
end
def ej.lt(x:ej P w H h a o):a < h.objs.size:=by
 cases o with
 | lst xs=>let⟨_,_,_,_,e⟩:=x;exact zX e
 | tup xs=>let⟨_,_,_,p⟩:=x;exact p.1.lt
 | dK kvs=>let⟨_,_,_,_,o,_,_,e,_⟩:=x;exact zX e
 | dT kvs=>let⟨_,_,_,_,o,_,_,e,_⟩:=x;exact zX e
 | set S n=>let⟨o,_,_,_,e,_⟩:=x;exact zX e
 | ins C dx fs=>let⟨_,_,_,e,_⟩:=x;exact zX e
 | own y=>let⟨_,e⟩:=x;exact zX e
 | xd fs=>let⟨_,⟨_,_,_,e,_⟩,_⟩:=x;exact zX e
 | rng lo hi=>let⟨_,_,_,e⟩:=x;exact zX e
 | frz ob u=>let⟨e,_⟩:=x;exact zX e
 | tab q=>let⟨_,e,_⟩:=x;exact zX e
 | cod q=>let⟨_,_,_,_,e0,e,_⟩:=x;cases e0;exact zX e
 | met f y=>exact zX (show h.get? a=some _ from x)
 | ext φ=>let⟨_,⟨_,e⟩,_⟩:=x;exact zX e
def Paired.mapP:∀ {l₁:List α}{l₂:List β},Paired F l₁ l₂->(∀a b,F a b->G a b)->Paired G l₁ l₂
 | _,_,.nil,_=>.nil
 | _,_,.cons r t,f=>.cons (f _ _ r) (Paired.mapP t f)
def QC:HO->Prop
 | .tup _=>True
 | .cod _=>True
 | _=>False
def ej.stay(x:ej P w H h a o)(k:∀b u,(b=a\/H b=some (.own a))->h.get? b=some u->h'.get? b=some u)
  (ho:∀b,H b=some (.own a)->H' b=some (.own a)) (ht:∀b u,H b=some u->QC u->H' b=some u):ej P w H' h' a o:=by
 induction o with
 | lst xs=>let⟨z,its,n,r,e⟩:=x;exact⟨z,its,n,r,k _ _ (.inl rfl) e⟩
 | tup xs=>let⟨z,its,r,⟨ob,e,c⟩,o2,e2,d2⟩:=x;exact⟨z,its,r,⟨ob,k _ _ (.inl rfl) e,c⟩,o2,k _ _ (.inl rfl) e2,d2⟩
 | dK kvs=>let⟨z,y,vs,r,ob,es,ep,e,c⟩:=x;exact⟨z,y,vs,r,ob,es,ep,k _ _ (.inl rfl) e,c⟩
 | dT kvs =>
  let⟨z,y,xs,r,ob,es,ep,e,c⟩:=x;exact⟨z,y,xs,Paired.mapP r λp q z=>⟨z.1,ht _ _ z.2.1 trivial,z.2.2⟩,ob,es,ep,k _ _ (.inl rfl) e,c⟩
 | set S n=>let⟨ob,es,ep,t,e,c⟩:=x;exact⟨ob,es,ep,t,k _ _ (.inl rfl) e,c⟩
 | ins C dx fs =>
  let⟨d,z,ne,e,mA,⟨od,es,ep,e2,c⟩,r⟩:=x;exact⟨ho _ d,z,ne,k _ _ (.inl rfl) e,mA,⟨od,es,ep,k _ _ (.inr d) e2,c⟩,r⟩
 | own y=>let⟨ob,e⟩:=x;exact⟨ob,k _ _ (.inl rfl) e⟩
 | xd fs=>let⟨mA,⟨od,es,ep,e,c⟩,r⟩:=x;exact⟨mA,⟨od,es,ep,k _ _ (.inl rfl) e,c⟩,r⟩
 | rng lo hi=>let⟨t,u,v,e⟩:=x;exact⟨t,u,v,k _ _ (.inl rfl) e⟩
 | frz ob u ih=>let⟨e,q⟩:=x;exact⟨k _ _ (.inl rfl) e,ih q⟩
 | tab q=>let⟨ps,e,t,c⟩:=x;exact⟨ps,k a _ (.inl rfl) e,t,λpos v z=>let ⟨c0,z1,z2⟩:=c pos v z;⟨c0,z1,ht _ _ z2 trivial⟩⟩
 | cod q=>let⟨c,oc,vs,t,e0,e,r⟩:=x;cases e0;exact⟨_,oc,vs,t,rfl,k _ _ (.inl rfl) e,r⟩
 | met f y =>
  have e:h.get? a=some (W.methodObj (.ref f) (.ref y)):=x;show h'.get? a=some (W.methodObj (.ref f) (.ref y));exact k a _ (.inl rfl) e
 | ext φ=>let⟨p,⟨o,e⟩,st⟩:=x;exact⟨st _ _ p λo q=>k _ _ (.inl rfl) q,⟨o,k _ _ (.inl rfl) e⟩,st⟩
def mq.lt(x:mq P w H h)(e:H a=some o):a < h.objs.size:=(x a o e).lt
def mq.fresh(x:mq P w H h)(e:h.objs.size<=a):H a=none:=by
 cases q:H a with
 | none=>rfl
 | some u=>exact absurd (zP (x.lt q) e) (qE _)
def mq.kept(x:mq P w H h)(k:∀b u,h.get? b=some u->h'.get? b=some u):mq P w H h':=λa o e =>
 (x a o e).stay (λb u _ q=>k b u q) (λ_ q=>q) λ_ _ q _=>q
def mq.laid(x:mq P w H h)(k:∀b u,h.get? b=some u->h'.get? b=some u)(hp:h.objs.size<=a)(new:ej P w (upd H a o) h' a o):mq P w (upd H a o) h':=λb u e=>by
 have hn:=x.fresh hp;by_cases hb:b=a
 ·subst hb;rw[aP] at e;cases e;exact new
 ·rw[aK hb] at e;exact (x b u e).stay (λc v _ q=>k c v q) (λc q=>by rw[aK (aV q hn)];exact q) λc xs q _=>by rw[aK (aV q hn)];exact q
def Rd(H:Hp)(a:Addr)(u:HO):Prop:=H a=some u\/∃o,H a=some (.frz o u)
def Rd.ok(r:Rd H a u)(x:mq P w H h):ej P w H h a u:=by
 rcases r with r|⟨o,r⟩
 ·exact x a u r
 ·let⟨_,q⟩:=x a _ r;exact q
def NJ:Option HO->Prop
 | some (.lst _)=>True
 | some (.dK _)=>True
 | some (.dT _)=>True
 | some (.set _ _)=>True
 | some (.ins _ _ _)=>True
 | some (.ext _)=>True
 | _=>False
def mq.write(ok:mq P w H h)(mu:NJ (H x))(he:e=x\/H e=some (.own x))(k:∀b u,b≠e->h.get? b=some u->h'.get? b=some u)(heo:∃u,h'.get? e=some u)
  (new:ej P w (upd H x o') h' x o'):mq P w (upd H x o') h':=λb u q=>by
 have nown:∀c y,H c=some (.own y)->c≠x:=λc y r z=>by subst z;rw[r] at mu;exact mu
 have ntup:∀c u,H c=some u->QC u->c≠x:=λc u r hr z=>by subst z;rw[r] at mu;cases u<;>first|exact mu|exact hr
 by_cases hb:b=x
 ·subst hb;rw[aP] at q;cases q;exact new
 ·rw[aK hb] at q;by_cases hbe:b=e
  ·have q':H b=some (.own x):=by
    rcases he with z|z
    ·exact absurd (hbe.trans z) hb
    ·rw[hbe];exact z
   rw[q] at q';cases q';let⟨v,hv⟩:=heo;exact⟨v,by rw[hbe];exact hv⟩
  ·refine (ok b u q).stay (λc v hc r=>k c v ?_ r) (λc r=>by rw[aK (nown c b r)];exact r) λc xs r hr=>by rw[aK (ntup c xs r hr)];exact r
   rcases hc with rfl|hc
   ·exact hbe
   ·rintro rfl;rcases he with z|z
    ·exact nown c b hc z
    ·rw[hc] at z;cases z;exact hb rfl
def OQ:HO->Prop
 | .tab _=>True
 | .cod _=>True
 | _=>False
def OQ.not_mut(h:OQ u):¬ NJ (some u):=by cases u<;>first|exactλz=>z|exact h.elim
structure Kb(H H':Hp)(h h':Heap):Prop where
 st:∀b u,H b=some u->OQ u->H' b=some u
 gr:∀b q ps,H b=some (.tab q)->h.get? b=some { cls:=.none,data:=.fields ps }->∃more:Array Value,h'.get? b=some { cls:=.none,data:=.fields (ps++more) }
def Kb.kept(k:∀b u,(∃q,H b=some (.tab q))->h.get? b=some u->h'.get? b=some u)(st:∀b u,H b=some u->OQ u->H' b=some u):Kb H H' h h' :=
 ⟨st,λb q ps e z=>⟨#[],by rw[Array.append_empty];exact k b _ ⟨q,e⟩ z⟩⟩
def Kb.trans(a:Kb H H1 h h1)(b:Kb H1 H2 h1 h2):Kb H H2 h h2 :=
 ⟨λc u q t=>b.st c u (a.st c u q t) t,λc q ps e z=>by
  let⟨m1,z1⟩:=a.gr c q ps e z;let⟨m2,z2⟩:=b.gr c q _ (a.st c _ e trivial) z1;exact⟨m1++m2,by rw[z2,Array.append_assoc]⟩⟩
structure Un(fs ex:List Addr)(H H':Hp)(h h':Heap):Prop where
 keep:∀b o,h.get? b=some o->H b=none->b∉fs->b∉ex->h'.get? b=some o
 slot:∀b o,h.get? b=some o->H b=none->b∈fs->b∉ex->∃sl,h'.get? b=some { o with slots:=sl }
 free:∀b o,h.get? b=some o->H b=none->b∉ex->H' b=none
 there:∀b o,h.get? b=some o->b∉ex->∃o',h'.get? b=some o'
 tups:∀b xs,H b=some (.tup xs)->H' b=some (.tup xs)
 frzs:∀b o u,H b=some (.frz o u)->H' b=some (.frz o u)
 tbls:Kb H H' h h'
def Un.any(u:Un fs ex H H1 h h1)(q:h.get? b=some ob)(n:H b=none)(hx:b∉ex):∃sl,h1.get? b=some { ob with slots:=sl }:=by
 by_cases hb:b∈fs
 ·exact u.slot b ob q n hb hx
 ·exact⟨ob.slots,u.keep b ob q n hb hx⟩
def Un.kept(k:∀b u,h.get? b=some u->h'.get? b=some u):Un fs ex H H h h' :=
 ⟨λb ob q _ _ _=>k b ob q,λb ob q _ _ _=>⟨ob.slots,k b ob q⟩,λ_ _ _ n _=>n,λb ob q _=>⟨ob,k b ob q⟩,λ_ _ q=>q,λ_ _ _ q=>q,.kept (λb u _ e=>k b u e) λ_ _ e _=>e⟩
def Un.refl:Un fs ex H H h h:=Un.kept λ_ _ q=>q
def Un.laid(k:∀b u,h.get? b=some u->h'.get? b=some u)(hp:h.objs.size<=a)(hn:H a=none):Un fs ex H (upd H a o) h h' where
 keep:=λb u q _ _ _=>k b u q
 slot:=λb u q _ _ _=>⟨u.slots,k b u q⟩
 free:=λb u q n _=>by rw[aK (yQ (zP (zX q) hp))];exact n
 there:=λb u q _=>⟨u,k b u q⟩
 tups:=λb xs q=>by rw[aK (aV q hn)];exact q
 frzs:=λb u xs q=>by rw[aK (aV q hn)];exact q
 tbls:=.kept (λb u _ e=>k b u e) λb u q _=>by rw[aK (aV q hn)];exact q
def Un.write(mu:NJ (H x))(he:e=x\/H e=some (.own x))(k:∀b u,b≠e->h.get? b=some u->h'.get? b=some u)(heo:∃u,h'.get? e=some u):Un fs ex H (upd H x o) h h':=by
 have hx:∀b,H b=none->b≠x:=λb n z=>by subst z;rw[n] at mu;exact mu
 have hb:∀b,H b=none->b≠e:=λb n z=>by
  subst z;rcases he with r|r
  ·exact hx b n r
  ·rw[n] at r;cases r
 have hm:∀b u,H b=some u->¬ NJ (some u)->b≠x:=λb u q nm z=>by subst z;rw[q] at mu;exact nm mu
 refine⟨λb u q n _ _=>k b u (hb b n) q,λb u q n _ _=>⟨u.slots,k b u (hb b n) q⟩,λb u q n _=>by rw[aK (hx b n)];exact n,λb u q _=>?_,
  λb xs q=>by rw[aK (hm b _ q λz=>z)];exact q,λb u xs q=>by rw[aK (hm b _ q λz=>z)];exact q,.kept (λb u z e=>k b u (λr=>by subst r;rcases he with r|r<;>first|(subst r;rcases z with ⟨q,z⟩;rw[z] at mu;exact mu)|(rcases z with ⟨q,z⟩;rw[z] at r;cases r)) e) λb u q nm=>by rw[aK (hm b _ q (nm.not_mut))];exact q⟩
 by_cases hbe:b=e
 ·subst hbe;exact heo
 ·exact⟨u,k b u hbe q⟩
def GI(h:Heap)(H:Hp):List Addr:=(List.range h.objs.size).filter λa=>(H a).isSome
def tI(h:Heap)(H:Hp):Heap:=W.hideAll h (GI h H)
def Bv(h:Heap)(H:Hp):(tI h H).objs.size=h.objs.size:=W.hideAll_size _ _
def EM(e:h.get? b=some o)(n:H b=none):(tI h H).get? b=some o :=
 W.hideAll_get _ e λhm=>by
  have q:(H b).isSome=true:=(List.mem_filter.mp hm).2;rw[n] at q;simp at q
def JN(e:(tI h H).get? b=some o):h.get? b=some o/\H b=none:=by
 have e':h.get? b=some o:=W.of_hideAll (GI h H) e;refine⟨e',?_⟩;cases q:H b with
 | none=>rfl
 | some x =>
  have hm:b∈GI h H:=List.mem_filter.mpr ⟨List.mem_range.mpr (zX e'),by simp[q]⟩;have z:(tI h H).get? b=none:=W.hideAll_none (GI h H) hm;rw[z] at e;cases e
def PJ(mg:Str->Option Value)(base:Heap):Prop:=∃bm o,mg "__builtins__"=some (.ref bm)/\bm≠builtinsNs/\bm≠mainGlobals/\base.get? bm=some o/\o.cls=.type "module"/\o.dict=some builtinsNs/\o.data=.plain
structure Mod(K:W.Frag)(mg:Str->Option Value)(base:Heap):Prop where
 kin:K.In base
 glob:base.Ns mainGlobals mg
 blt:∃mb,base.Ns builtinsNs mb/\∀x:Str,x≠"__name__"->mb x=bootBuiltins x
 nolimit:base.NoLimit
 bmd:PJ mg base
structure Cx where
 prog:Program
 w:World
 K:W.Frag
 mg:Str->Option Value
 base:Heap
 A:Around
 N:List Str
 s₀:Shared
 H₀:Hp
 env:Env
 outer:List Env
 stack:List Env
 ex:List Addr
 fn:Str->Bool
 calm:Bool
 pn:List (Addr×Obj)
 xe:Value->Shared->Prop
def eN(l:List Env):List Addr:=l.filterMap (·.frame)
abbrev Cx.fs(X:Cx):List Addr:=eN X.outer
def Gz(sc:Scope)(x:Str):Prop:=sc.names.lookup x=some .local \/ sc.names.lookup x=some .cell\/sc.names.lookup x=some .free
def Loc(sc:Scope)(x:Str):Prop:=sc.names.lookup x=some .local \/ sc.names.lookup x=some .cell
def Look(env:Env)(h:Heap)(m:Str->Option Value)(x:Str)(u:Value):Prop :=
 (env.kindOf x=some .local /\ m x=some u)\/((env.kindOf x=some .cell\/env.kindOf x=some .free)/\∃c,env.cells.lookup x=some c/\h.IsCell c (some u))
structure Cx.Ok(X:Cx):Prop where
 mod:Mod X.K X.mg X.base
 kind:X.env.scope.kind=.function
 glob:X.env.globals=mainGlobals
 blt:X.env.builtins=builtinsNs
 above:X.s₀.heap.objs.size<=X.env.locals
 inj:∀x y c,X.env.cells.lookup x=some c->X.env.cells.lookup y=some c->x=y
 has:∀x,(X.env.kindOf x=some .cell\/X.env.kindOf x=some .free)->∃c,X.env.cells.lookup x=some c
 cab:∀x c,X.fn x=true->X.env.cells.lookup x=some c->X.s₀.heap.objs.size<=c
 hd:X.calm=true->X.A.handled=none
 frames:X.A.frames=some X.stack
 stk:X.stack=X.outer\/(X.stack=X.env::X.outer/\X.env.frame=some X.env.locals)
 exf:∀b∈X.ex,b≠X.env.locals/\∀x c,X.env.cells.lookup x=some c->c≠b
 bs:∀b o,X.base.get? b=some o->X.s₀.heap.get? b=some o/\X.H₀ b=none
 bsz:X.base.objs.size<=X.s₀.heap.objs.size
 noex:∀b o,X.base.get? b=some o->b∉X.ex
 exfs:∀b∈X.ex,b∉X.fs
 funs:X.s₀.heap.FunFrames X.base X.outer
 frf:∀b∈X.fs,X.H₀ b=none
structure Inv(X:Cx)(pins:List (Addr×Obj))(σ:List (Option V))(H:Hp)(s:Shared):Prop where
 ok:X.Ok
 os:s.os=X.s₀.os
 bare:AllBare s.gens
 base:Un X.fs X.ex X.H₀ H X.s₀.heap s.heap
 loc:∃m,s.heap.Ns X.env.locals m/\∀ (i:Nat) (x:Str) (v:V),X.N[i]?=some x->σ[i]?=some (some v)->Gz X.env.scope x->∃u,RelV v u/\Look X.env s.heap m x u
 cell:∀x c,X.env.cells.lookup x=some c->∃v,s.heap.IsCell c v
 free:H X.env.locals=none
 freeC:∀x c,X.env.cells.lookup x=some c->H c=none
 pin:∀p∈X.pn++pins,s.heap.get? p.1=some p.2/\H p.1=none/\p.1≠X.env.locals/\p.1∉X.fs/\∀v,p.2.data≠.cell v
 hok:mq X.prog X.w H s.heap
 len:σ.length=X.N.length
def Cx.Ok.nofr{X:Cx}(ok:X.Ok)(e:X.base.get? b=some o):b∉X.fs:=λhb=>by
 have:=(ok.funs.mem hb).1;rw[e] at this;cases this
def Inv.bs{X:Cx}{s:Shared}(I:Inv X pins σ H s):∀b o,X.base.get? b=some o->s.heap.get? b=some o/\H b=none:=λb o e =>
 ⟨I.base.keep b o (I.ok.bs b o e).1 (I.ok.bs b o e).2 (I.ok.nofr e) (I.ok.noex b o e),I.base.free b o (I.ok.bs b o e).1 (I.ok.bs b o e).2 (I.ok.noex b o e)⟩
def Inv.bk(I:Inv X pins σ H s):∀b o,X.base.get? b=some o->s.heap.get? b=some o:=λb o e=>(I.bs b o e).1
def Inv.mod(I:Inv X pins σ H s):Mod X.K X.mg X.base:=I.ok.mod
def Inv.kIn(I:Inv X pins σ H s):X.K.In s.heap:=I.ok.mod.kin.keeps I.bk
def Inv.lt(I:Inv X pins σ H s):X.env.locals < s.heap.objs.size:=let ⟨_,hn,_⟩:=I.loc;hn.lt
def Inv.sz(I:Inv X pins σ H s):X.s₀.heap.objs.size<=s.heap.objs.size:=yC I.ok.above (jS I.lt)
def Inv.nofs(I:Inv X pins σ H s)(h:s.heap.objs.size<=a):a∉X.fs:=λhb=>by
 let⟨_,o,ho,_⟩:=I.ok.funs.mem hb;exact absurd (zP (zX ho) (yC I.sz h)) (qE _)
def Inv.cne(I:Inv X pins σ H s):∀x c,X.env.cells.lookup x=some c->c≠X.env.locals:=λx c e z=>by
 let⟨v,o,ho,hd⟩:=I.cell x c e;let⟨m,⟨o',es,ep,ho',hd',_⟩,_⟩:=I.loc;rw[z,ho'] at ho;cases ho;rw[hd'] at hd;cases hd
def Inv.funs(I:Inv X pins σ H s):s.heap.FunFrames X.base X.outer:=by
 have all:∀ (l:List Env),(∀b∈eN l,b∈X.fs)->X.s₀.heap.FunFrames X.base l->s.heap.FunFrames X.base l:=by
  intro l
  induction l with
  | nil=>intro _ _;trivial
  | cons env r ih =>
   intro hs hl;let⟨hk,⟨L,o,hf,hn,ho,hd⟩,hr⟩:=hl;have hL:L∈X.fs:=hs L (by unfold eN;rw[jF,hf];exact zE);let⟨sl,e⟩:=I.base.slot L o ho (I.ok.frf L hL) hL λz=>I.ok.exfs L z hL;exact⟨hk,⟨L,_,hf,hn,e,hd⟩,ih (λb hb=>hs b (by unfold eN;rw[jF,hf];exact zC _ hb)) hr⟩
 exact all X.outer (λ_ hb=>hb) I.ok.funs
def Inv.stack(I:Inv X pins σ H s):s.heap.FunFrames X.base X.stack:=by
 rcases I.ok.stk with e|⟨e,hf⟩
 ·rw[e];exact I.funs
 ·rw[e];let⟨m,hn,_⟩:=I.loc;refine .cons (by rw[I.ok.kind];decide) hf hn ?_ I.funs;exact Heap.get?_none_of_le (yC I.ok.bsz I.ok.above)
def Inv.stkSub(I:Inv X pins σ H s):∀b∈eN X.stack,b∈X.env.locals::X.fs:=λb hb=>by
 rcases I.ok.stk with e|⟨e,hf⟩
 ·rw[e] at hb;exact zC _ hb
 ·rw[e] at hb;unfold eN at hb;rw[jF,hf] at hb;exact hb
def Inv.stkFree(I:Inv X pins σ H s):∀b∈eN X.stack,H b=none:=λb hb=>by
 rcases List.mem_cons.mp (I.stkSub b hb) with e|hb
 ·rw[e];exact I.free
 ·let⟨_,o,ho,_⟩:=I.ok.funs.mem hb;exact I.base.free b o ho (I.ok.frf b hb) λz=>I.ok.exfs b z hb
def Inv.step{g':Array GenState}{t':Nat}{d':Drawn}{ch:List Addr}(I:Inv X pins σ H s)
  (hch:∀b∈ch,(b∈X.ex\/X.s₀.heap.objs.size<=b)/\b≠X.env.locals/\(∀x c,X.env.cells.lookup x=some c->c≠b)/\∀p∈X.pn++pins,p.1≠b)
  (keep:∀b o,b≠X.env.locals->b∉X.fs->b∉ch->s.heap.get? b=some o->H b=none->h'.get? b=some o)
  (slot:∀b o,b≠X.env.locals->b∈X.fs->b∉ch->s.heap.get? b=some o->H b=none->∃sl,h'.get? b=some { o with slots:=sl }) (free:∀b o,b∉ch->s.heap.get? b=some o->H b=none->H' b=none)
  (there:∀b o,b∉ch->s.heap.get? b=some o->∃o',h'.get? b=some o')
  (tups:∀b xs,H b=some (.tup xs)->H' b=some (.tup xs)) (frzs:∀b o u,H b=some (.frz o u)->H' b=some (.frz o u)) (tbls:Kb H H' s.heap h')
  (ns:∀m,s.heap.Ns X.env.locals m->h'.Ns X.env.locals m) (hok:mq X.prog X.w H' h') (hg:AllBare g') :
  Inv X pins σ H' { s with heap:=h',gens:=g',drawn:=d',toks:=t' }:=by
 have neL:∀b o,X.s₀.heap.get? b=some o->b≠X.env.locals:=λb o e=>yQ (zP (zX e) I.ok.above);have neC:∀b o,X.s₀.heap.get? b=some o->b∉X.ex->b∉ch:=λb o e hx hb=>by
  rcases (hch b hb).1 with z|z
  ·exact hx z
  ·exact absurd (zP (zX e) z) (qE _)
 have cellK:∀x c,X.env.cells.lookup x=some c->∀v,s.heap.IsCell c v->h'.IsCell c v:=λx c e v ⟨o,ho,hd⟩=>by
  have nch:c∉ch:=λz=>(hch c z).2.2.1 x c e rfl;by_cases hc:c∈X.fs
  ·let⟨sl,q⟩:=slot c o (I.cne x c e) hc nch ho (I.freeC x c e);exact⟨_,q,hd⟩
  ·exact⟨o,keep c o (I.cne x c e) hc nch ho (I.freeC x c e),hd⟩
 refine⟨I.ok,I.os,hg,⟨λb o e n hb hx=>?_,λb o e n hb hx=>?_,λb o e n hx=>?_,λb o e hx=>?_,λb xs e=>tups b xs (I.base.tups b xs e),λb o xs e=>frzs b o xs (I.base.frzs b o xs e),I.base.tbls.trans tbls⟩,?_,λx c e=>?_,?_,λx c e=>?_,λp hp=>?_,hok,I.len⟩
 ·exact keep b o (neL b o e) hb (neC b o e hx) (I.base.keep b o e n hb hx) (I.base.free b o e n hx)
 ·let⟨sl,e1⟩:=I.base.slot b o e n hb hx;let⟨sl',e2⟩:=slot b _ (neL b o e) hb (neC b o e hx) e1 (I.base.free b o e n hx);exact⟨sl',e2⟩
 ·let⟨o',e1⟩:=I.base.there b o e hx;exact free b o' (neC b o e hx) e1 (I.base.free b o e n hx)
 ·let⟨o',e1⟩:=I.base.there b o e hx;exact there b o' (neC b o e hx) e1
 ·let⟨m,hn,hl⟩:=I.loc;refine⟨m,ns m hn,λi x v e1 e2 e3=>?_⟩;let⟨u,r,l⟩:=hl i x v e1 e2 e3;refine⟨u,r,?_⟩;rcases l with l|⟨k,c,e,z⟩
  ·exact .inl l
  ·exact .inr ⟨k,c,e,cellK x c e _ z⟩
 ·let⟨v,z⟩:=I.cell x c e;exact⟨v,cellK x c e v z⟩
 ·let⟨m,⟨o,_,_,ho,_⟩,_⟩:=I.loc;exact free _ o (λz=>(hch _ z).2.1 rfl) ho I.free
 ·let⟨v,o,ho,hd⟩:=I.cell x c e;exact free c o (λz=>(hch c z).2.2.1 x c e rfl) ho (I.freeC x c e)
 ·let⟨e,n,ne,nf,d⟩:=I.pin p hp;have nch:p.1∉ch:=λz=>(hch p.1 z).2.2.2 p hp rfl;exact⟨keep p.1 p.2 ne nf nch e n,free p.1 p.2 nch e n,ne,nf,d⟩
def Inv.un{t':Nat}(I:Inv X pins σ H s)(u:Un X.fs [] H H' s.heap h')(hok:mq X.prog X.w H' h'):Inv X pins σ H' { s with heap:=h',toks:=t' }:=by
 let⟨m,⟨o,es,ep,ho,r⟩,_⟩:=id I.loc;let⟨sl,hL⟩:=u.any ho I.free (by simp);exact I.step (g':=s.gens) (d':=s.drawn) (ch:=[]) (λ_ z=>nomatch z) (λb o _ hb _ e n=>u.keep b o e n hb (by simp)) (λb o _ hb _ e n=>u.slot b o e n hb (by simp)) (λb o _ e n=>u.free b o e n (by simp)) (λb o _ e=>u.there b o e (by simp)) u.tups u.frzs u.tbls (λm' hm=>by
  let⟨o',es',ep',ho',r'⟩:=hm;rw[ho] at ho';cases ho';exact⟨_,es',ep',hL,r'⟩) hok I.bare
def Inv.call{t':Nat}{d':Drawn}{ch:List Addr}(I:Inv X pins σ H s)(u:Un (eN X.stack) ch H H' s.heap h')(hok:mq X.prog X.w H' h')(hg:AllBare g')
  (hch:∀b∈ch,(b∈X.ex\/X.s₀.heap.objs.size<=b)/\b≠X.env.locals/\(∀x c,X.env.cells.lookup x=some c->c≠b)/\∀p∈X.pn++pins,p.1≠b) :
  Inv X pins σ H' { s with heap:=h',gens:=g',drawn:=d',toks:=t' }:=by
 let⟨m,⟨o,es,ep,ho,r⟩,_⟩:=id I.loc;let⟨sl,hL⟩:=u.any ho I.free λz=>(hch _ z).2.1 rfl;exact I.step (ch:=ch) hch (λb o hL hb hc e n=>u.keep b o e n (λz=>(List.mem_cons.mp (I.stkSub b z)).elim hL hb) hc) (λb o _ _ hc e n=>u.any e n hc) (λb o hc e n=>u.free b o e n hc) (λb o hc e=>u.there b o e hc) u.tups u.frzs u.tbls (λm' hm=>by
  let⟨o',es',ep',ho',r'⟩:=hm;rw[ho] at ho';cases ho';exact⟨_,es',ep',hL,r'⟩) hok hg
def Inv.turned{t':Nat}(I:Inv X pins σ H s)(k:∀b o,b≠it->s.heap.get? b=some o->h'.get? b=some o)(hn:H it=none)(hL:it≠X.env.locals)
  (h1:it∈X.ex\/X.s₀.heap.objs.size<=it) (h2:∀x c,X.env.cells.lookup x=some c->c≠it) (h3:∀p∈X.pn++pins,p.1≠it):Inv X pins σ H { s with heap:=h',toks:=t' }:=by
 have nit:∀b u,H b=some u->b≠it:=λb u e z=>by rw[z,hn] at e;cases e
 refine I.step (g':=s.gens) (d':=s.drawn) (ch:=[it]) (λb hb=>?_) (λb o _ _ hc e _=>k b o (λz=>hc (by simp[z])) e) (λb o _ _ hc e _=>⟨o.slots,k b o (λz=>hc (by simp[z])) e⟩) (λ_ _ _ _ n=>n)
  (λb o hc e=>⟨o,k b o (λz=>hc (by simp[z])) e⟩) (λ_ _ e=>e) (λ_ _ _ e=>e) (.kept (λb u z e=>k b u (λr=>by subst r;rcases z with ⟨q,z⟩;rw[hn] at z;cases z) e) λ_ _ e _=>e) (λm hm=>?_) (λb u e=>?_) I.bare
 ·have e:b=it:=by simpa using hb
  subst e;exact⟨h1,hL,h2,h3⟩
 ·let⟨o,es,ep,ho,r⟩:=hm;exact⟨o,es,ep,k _ o (jM hL) ho,r⟩
 ·refine (I.hok b u e).stay (λc v hc q=>k c v ?_ q) (λ_ q=>q) λ_ _ q _=>q;rcases hc with z|z
  ·rw[z];exact nit b u e
  ·exact nit c _ z
def Inv.tok(I:Inv X pins σ H s)(t:Nat):Inv X pins σ H { s with toks:=t }:=I.un (h':=s.heap) (t':=t) Un.refl I.hok
def Inv.kept{t':Nat}(I:Inv X pins σ H s)(k:∀b u,s.heap.get? b=some u->h'.get? b=some u):Inv X pins σ H { s with heap:=h',toks:=t' }:=I.un (Un.kept k) (I.hok.kept k)
def Inv.laid{t':Nat}(I:Inv X pins σ H s)(k:∀b u,s.heap.get? b=some u->h'.get? b=some u)(hp:s.heap.objs.size<=a)(new:ej X.prog X.w (upd H a o) h' a o) :
  Inv X pins σ (upd H a o) { s with heap:=h',toks:=t' }:=I.un (Un.laid k hp (I.hok.fresh hp)) (I.hok.laid k hp new)
def Inv.write{t':Nat}(I:Inv X pins σ H s)(mu:NJ (H x))(he:e=x\/H e=some (.own x))(k:∀b u,b≠e->s.heap.get? b=some u->h'.get? b=some u)(heo:∃u,h'.get? e=some u)
  (new:ej X.prog X.w (upd H x o) h' x o):Inv X pins σ (upd H x o) { s with heap:=h',toks:=t' }:=I.un (Un.write mu he k heo) (I.hok.write mu he k heo new)
def Inv.pins_of(I:Inv X pins σ H s)(h:∀p∈pins',s.heap.get? p.1=some p.2/\H p.1=none/\p.1≠X.env.locals/\p.1∉X.fs/\∀v,p.2.data≠.cell v):Inv X pins' σ H s :=
 ⟨I.ok,I.os,I.bare,I.base,I.loc,I.cell,I.free,I.freeC,λp hp=>(List.mem_append.mp hp).elim (λz=>I.pin p (qJ _ z)) (h p),I.hok,I.len⟩
def uK{N:List Str}(hN:N.Nodup){i j:Nat}(a:N[i]?=some x)(b:N[j]?=some x):i=j:=by
 let⟨h1,e1⟩:=List.getElem?_eq_some_iff.mp a;let⟨h2,e2⟩:=List.getElem?_eq_some_iff.mp b;exact (List.getElem_inj hN).mp (e1.trans e2.symm)
def mF{M:Model}{A:Around}{E:Value->Shared->Prop}{i:Nat}{Q:Unit->Shared->Prop}(I:Inv X pins σ H s)(hN:X.N.Nodup)(hi:X.N[i]?=some x)(hx:Loc X.env.scope x)(r:RelV v u)
  (h:∀s',Inv X pins (σ.set i (some v)) H s'->(∃a,Heap.SameBut a s.heap s'.heap/\(a=X.env.locals\/X.env.cells.lookup x=some a))->Q () s') (hf:X.fn x=true\/X.env.scope.names.lookup x=some .local:=by first|exact .inl rfl|exact .inr rfl|assumption):wpAny M A (storeName X.env x u) Q E s:=by
 let⟨m,hn,hl⟩:=id I.loc;have hcls:(X.env.scope.kind == .class||(X.env.scope.kind == .module&&X.env.locals != X.env.globals))=false:=by rw[I.ok.kind];rfl
 have hiσ:i < σ.length:=by rw[I.len];exact (List.getElem?_eq_some_iff.mp hi).1
 have cne:=I.cne;have tracked:∀ {a:Addr}{h':Heap},(∃o,s.heap.get? a=some o/\H a=none)->Heap.SameBut a s.heap h'->mq X.prog X.w H h':=λ{a h'} ha hs b ob e=>by
  let⟨_,_,hfree⟩:=ha;refine (I.hok b ob e).stay (λc w' hc q=>(hs.2 c ?_).trans q) (λ_ q=>q) λ_ _ q _=>q;rintro rfl;rcases hc with rfl|hc
  ·rw[hfree] at e;cases e
  ·rw[hfree] at hc;cases hc
 rcases hx with hk|hk
 ·refine wpAny_storeName_local hk hn (λh' hn' hs=>?_) hcls;let⟨oL,_,_,hoL,_⟩:=id hn;refine h _ ⟨I.ok,I.os,I.bare,⟨λb o e n hb hx=>?_,λb o e n hb hx=>?_,I.base.free,λb o e hx=>?_,I.base.tups,I.base.frzs,I.base.tbls.trans (.kept (λb u z e=>(hs.2 b (λr=>by rcases z with ⟨q,z⟩;rw[r,I.free] at z;cases z)).trans e) λ_ _ e _=>e)⟩,⟨_,hn',λj y v' e1 e2 e3=>?_⟩,λy c e=>?_,I.free,I.freeC,λp hp=>?_,tracked ⟨oL,hoL,I.free⟩ hs,by simpa using I.len⟩ ⟨_,hs,.inl rfl⟩
  ·exact (hs.2 b (yQ (zP (zX e) I.ok.above))).trans (I.base.keep b o e n hb hx)
  ·let⟨sl,e1⟩:=I.base.slot b o e n hb hx;exact⟨sl,(hs.2 b (yQ (zP (zX e) I.ok.above))).trans e1⟩
  ·let⟨o',e1⟩:=I.base.there b o e hx;exact⟨o',(hs.2 b (yQ (zP (zX e) I.ok.above))).trans e1⟩
  ·by_cases hj:j=i
   ·subst hj;rw[hi] at e1;cases e1;rw[List.getElem?_set_self hiσ] at e2;cases e2;exact⟨u,r,.inl ⟨hk,by simp⟩⟩
   ·rw[List.getElem?_set_ne (jM hj)] at e2;let⟨u',r',q⟩:=hl j y v' e1 e2 e3;refine⟨u',r',?_⟩;rcases q with ⟨k,e⟩|⟨k,c,e,z⟩
    ·refine .inl ⟨k,?_⟩;have:y≠x:=λe=>hj (uK hN e1 (e ▸ hi));simp[this,e]
    ·exact .inr ⟨k,c,e,z.sameBut hs (cne y c e)⟩
  ·let⟨w',z⟩:=I.cell y c e;exact⟨w',z.sameBut hs (cne y c e)⟩
  ·let⟨e,n,ne,nf,d⟩:=I.pin p hp;exact⟨(hs.2 p.1 ne).trans e,n,ne,nf,d⟩
 ·have hfn:X.fn x=true:=by
   rcases hf with z|z
   ·exact z
   ·rw[z] at hk;cases hk
  let⟨c,hc⟩:=I.ok.has x (.inl hk);let⟨w',z⟩:=I.cell x c hc;refine wpAny_storeName_cell I.ok.kind hk hc z (λh' hc' hs=>?_);let⟨oc,hoc,hocd⟩:=id z;refine h { s with heap:=h' } ⟨I.ok,I.os,I.bare,⟨λb o e n hb hx=>?_,λb o e n hb hx=>?_,I.base.free,λb o e hx=>?_,I.base.tups,I.base.frzs,I.base.tbls.trans (.kept (λb u z e=>(hs.2 b (λr=>by rcases z with ⟨q,z⟩;rw[r,I.freeC x c hc] at z;cases z)).trans e) λ_ _ e _=>e)⟩,⟨m,hn.sameBut hs (jM (cne x c hc)),λj y v' e1 e2 e3=>?_⟩,λy c' e=>?_,I.free,I.freeC,λp hp=>?_,tracked ⟨oc,hoc,I.freeC x c hc⟩ hs,by simpa using I.len⟩ ⟨c,hs,.inr hc⟩
  ·exact (hs.2 b (yQ (zP (zX e) (I.ok.cab x c hfn hc)))).trans (I.base.keep b o e n hb hx)
  ·let⟨sl,e1⟩:=I.base.slot b o e n hb hx;exact⟨sl,(hs.2 b (yQ (zP (zX e) (I.ok.cab x c hfn hc)))).trans e1⟩
  ·let⟨o',e1⟩:=I.base.there b o e hx;exact⟨o',(hs.2 b (yQ (zP (zX e) (I.ok.cab x c hfn hc)))).trans e1⟩
  ·by_cases hj:j=i
   ·subst hj;rw[hi] at e1;cases e1;rw[List.getElem?_set_self hiσ] at e2;cases e2;exact⟨u,r,.inr ⟨.inl hk,c,hc,hc'⟩⟩
   ·rw[List.getElem?_set_ne (jM hj)] at e2;let⟨u',r',q⟩:=hl j y v' e1 e2 e3;refine⟨u',r',?_⟩;rcases q with q|⟨k,c',e,z'⟩
    ·exact .inl q
    ·refine .inr ⟨k,c',e,z'.sameBut hs ?_⟩;rintro rfl;exact hj (uK hN e1 (I.ok.inj _ _ _ e hc ▸ hi))
  ·by_cases hcc:c'=c
   ·subst hcc;exact⟨_,hc'⟩
   ·let⟨w2,z2⟩:=I.cell y c' e;exact⟨w2,z2.sameBut hs hcc⟩
  ·let⟨e,n,ne,nf,d⟩:=I.pin p hp;refine⟨(hs.2 p.1 ?_).trans e,n,ne,nf,d⟩;intro q;rw[q,hoc] at e;have q':oc=p.2:=xC e;exact d w' (by rw[<- q'];exact hocd)
def vq{M:Model}{A:Around}{E:Value->Shared->Prop}(I:Inv X pins σ H s)(hN:X.N.Nodup)(hi:X.N[i]?=some x)(hx:Loc X.env.scope x)(r:RelV v u)
  (h:∀s',Inv X pins (σ.set i (some v)) H s'->Q () s') (hf:X.fn x=true\/X.env.scope.names.lookup x=some .local:=by first|exact .inl rfl|exact .inr rfl|assumption):wpAny M A (storeName X.env x u) Q E s :=
 mF I hN hi hx r (λs' I' _=>h s' I') hf
def Inv.call'{ch:List Addr}(I:Inv X pins σ H s)(ho:s'.os=s.os)(u:Un (eN X.stack) ch H H' s.heap s'.heap)(hok:mq X.prog X.w H' s'.heap)(hg:AllBare s'.gens)
  (hch:∀b∈ch,(b∈X.ex\/X.s₀.heap.objs.size<=b)/\b≠X.env.locals/\(∀x c,X.env.cells.lookup x=some c->c≠b)/\∀p∈X.pn++pins,p.1≠b):Inv X pins σ H' s':=by
 let⟨h',g',d',t',o'⟩:=s';have e:o'=s.os:=ho;subst e;exact I.call (g':=g') (t':=t') (d':=d') u hok hg hch
abbrev XK:=Value->Option Addr->Hp->Prop
abbrev St:=List (Option V)
abbrev VK:=V->Hp->Prop
abbrev TE:=St->Hp->VK->Prop
abbrev TT:=St->Hp->(Bool->Hp->Prop)->Prop
abbrev TA:=St->Hp->(List V->Hp->Prop)->Prop
structure Ends where
 nx:St->Hp->Prop
 rt:VK
 bk:St->Hp->Prop:=λ_ _=>False
 ct:St->Hp->Prop:=λ_ _=>False
abbrev TS:=Ends->St->Hp->Prop
def EP(X:Cx)(pins:List (Addr×Obj))(σ:St)(Q:VK)(u:Value)(s':Shared):Prop:=∃v H',Inv X pins σ H' s'/\RelV v u/\Q v H'
def TP(X:Cx)(pins:List (Addr×Obj))(σ:St)(Q:Bool->Hp->Prop)(b:Bool)(s':Shared):Prop:=∃H',Inv X pins σ H' s'/\Q b H'
def AP(X:Cx)(pins:List (Addr×Obj))(σ:St)(Q:List V->Hp->Prop)(us:List Value)(s':Shared):Prop:=∃vs H',Inv X pins σ H' s'/\aM vs us/\Q vs H'
def SP(X:Cx)(pins:List (Addr×Obj))(D:Ends)(f:Flow)(s':Shared):Prop :=
 match f with
 | .next=>∃σ' H',Inv X pins σ' H' s'/\D.nx σ' H'
 | .brk=>∃σ' H',Inv X pins σ' H' s'/\D.bk σ' H'
 | .cont=>∃σ' H',Inv X pins σ' H' s'/\D.ct σ' H'
 | .ret u=>∃v σ' H',Inv X pins σ' H' s'/\RelV v u/\D.rt v H'
def PE(X:Cx)(e:Expr)(t:TE):Prop :=
 ∀ (pins:List (Addr×Obj)) (s:Shared) (σ:St) (H:Hp) (Q:VK),Inv X pins σ H s->t σ H Q->wpAny (model X.prog X.w) X.A (eval e X.env) (EP X pins σ Q) X.xe s
def PT(X:Cx)(e:Expr)(t:TT):Prop :=
 ∀ (pins:List (Addr×Obj)) (s:Shared) (σ:St) (H:Hp) (Q:Bool->Hp->Prop),Inv X pins σ H s->t σ H Q->wpAny (model X.prog X.w) X.A (isTrue e X.env (eval e X.env)) (TP X pins σ Q) X.xe s
def PW(X:Cx)(e:Expr)(t:TT):Prop :=
 ∀ (whole:Sem Value) (pins:List (Addr×Obj)) (s:Shared) (σ:St) (H:Hp) (Q:Bool->Hp->Prop),Inv X pins σ H s->t σ H Q->wpAny (model X.prog X.w) X.A (isTrue e X.env whole) (TP X pins σ Q) X.xe s
def PW.pt(h:PW X e t):PT X e t:=h _
def PA(X:Cx)(es:List Expr)(t:TA):Prop :=
 ∀ (pos:Pos) (pins:List (Addr×Obj)) (s:Shared) (σ:St) (H:Hp) (Q:List V->Hp->Prop),Inv X pins σ H s->t σ H Q->wpAny (model X.prog X.w) X.A (spliced (backTo pos (starEach es X.env))) (AP X pins σ Q) X.xe s
def PS(X:Cx)(st:Stmt)(t:TS):Prop :=
 ∀ (pins:List (Addr×Obj)) (s:Shared) (σ:St) (H:Hp) (D:Ends),Inv X pins σ H s->t D σ H->wpAny (model X.prog X.w) X.A (exec st X.env) (SP X pins D) X.xe s
def uc(X:Cx)(st:List Stmt)(t:TS):Prop :=
 ∀ (pins:List (Addr×Obj)) (s:Shared) (σ:St) (H:Hp) (D:Ends),Inv X pins σ H s->t D σ H->wpAny (model X.prog X.w) X.A (execs st X.env) (SP X pins D) X.xe s
def bL(h:wpAny M A t Q E s)(hQ:∀a s,Q a s->Q' a s):wpAny M A t Q' E s:=yZ h hQ λ_ _ x=>x
section
def P8(i:Nat):TE:=λσ H Q=>∃v,σ[i]?=some (some v)/\Q v H
def tC(v:V):TE:=λ_ H Q=>Q v H
def ki(hN:X.N[i]?=some x)(hv:Gz X.env.scope x)(hd:(x == ("__debug__":Str))=false:=by decide)(hcd:(x == ("__classdict__":Str))=false:=by decide):PE X (.Name x pos) (P8 i):=by
 intro pins s σ H Q I h;let⟨v,e,h⟩:=h;let⟨m,hn,hl⟩:=I.loc;let⟨u,r,l⟩:=hl i x v hN e hv;have fin:EP X pins σ Q u s:=⟨v,H,I,r,h⟩
 rcases l with ⟨hk,hm⟩|⟨hk,c,hc,hcell⟩
 ·exact vS (vN I.ok.kind hk hn hm fin) hd
 ·rcases hk with hk|hk
  ·exact vS (wpAny_loadName_cell I.ok.kind hk hc hcell fin) hd
  ·exact vS (wpAny_loadName_free I.ok.kind hk hc hcell fin hcd) hd
def Gg{i j pos}:PE X (.Constant (.int i) j pos) (tC (.int i)):=λ_ _ _ H _ I h=>wpAny_Constant_int ⟨.int i,H,I.tok _,⟨_,rfl⟩,h⟩
def Fe{b j pos}:PE X (.Constant (.bool b) j pos) (tC (.bl b)):=λ_ _ _ H _ I h=>Constant_bool ⟨.bl b,H,I,rfl,h⟩
def L8{j pos}:PE X (.Constant .none j pos) (tC .non):=λ_ _ _ H _ I h=>Constant_none ⟨.non,H,I,rfl,h⟩
def ET{x j pos}:PE X (.Constant (.str x) j pos) (tC (.str x)):=λ_ _ _ H _ I h=>vX ⟨.str x,H,I.tok _,⟨_,rfl⟩,h⟩
def Gl(X:Cx)(x:Str):Prop:=X.env.kindOf x=some .globalImplicit
def ju{E:Value->Shared->Prop}{pos:Pos}(I:Inv X pins σ H s)(hg:Gl X x)(hm:X.mg x=some u)(h:Q u s)
  (hd:(x == ("__debug__":Str))=false:=by decide):wpAny (model X.prog X.w) X.A (eval (.Name x pos) X.env) Q E s :=
 Calls.Name_function_global I.ok.kind hg (Calls.loadGlobal_global (by rw[I.ok.glob];exact I.mod.glob.keeps I.bk) hm h) hd
def iT{E:Value->Shared->Prop}{pos:Pos}(I:Inv X pins σ H s)(hg:Gl X x)(hm:X.mg x=none)(hv:bootBuiltins x=some u)(h:Q u s)
  (hn:x≠"__name__":=by decide) (hd:(x == ("__debug__":Str))=false:=by decide):wpAny (model X.prog X.w) X.A (eval (.Name x pos) X.env) Q E s:=by
 let⟨mb,h1,h2⟩:=I.mod.blt;exact Calls.Name_function_global I.ok.kind hg (Calls.loadGlobal_builtin (by rw[I.ok.glob];exact I.mod.glob.keeps I.bk) hm (by rw[I.ok.blt];exact h1.keeps I.bk) ((h2 x hn).trans hv) h) hd
def AY(hg:Gl X x)(hm:X.mg x=some u)(r:RelV v u)(hd:(x == ("__debug__":Str))=false:=by decide):PE X (.Name x pos) (tC v) :=
 λ_ _ _ H _ I h=>ju I hg hm ⟨v,H,I,r,h⟩ hd
def Ie(hg:Gl X x)(hm:X.mg x=none)(hv:bootBuiltins x=some u)(r:RelV v u)(hn:x≠"__name__":=by decide)(hd:(x == ("__debug__":Str))=false:=by decide):PE X (.Name x pos) (tC v) :=
 λ_ _ _ H _ I h=>iT I hg hm hv ⟨v,H,I,r,h⟩ hn hd
def Gp(b:Expr)(h:op≠.In)(h2:op≠.NotIn):behindInMarks op b=false:=by
 have e1:(op == CmpOp.In)=false:=by cases op<;>first|rfl|exact absurd rfl h
 have e2:(op == CmpOp.NotIn)=false:=by cases op<;>first|rfl|exact absurd rfl h2
 cases b<;>simp[behindInMarks,e1,e2]
def tB(t:TE):TT:=λσ H Q=>t σ H λx H1=>∃c,x=.bl c/\Q c H1
def FO(h:PE X e t)(he:∀whole,isTrue e X.env whole=(do let v <- whole;standAt e.pos;holding [v] (truthy v)):=by intro _;rfl):PT X e (tB t):=by
 intro pins s σ H Q I hw;refine isTrue_plain (bL (h pins s σ H _ I hw) λv s1 ⟨x,H1,I1,r1,q1⟩=>?_) (he _);let⟨d,rfl,q⟩:=q1;cases r1;exact xW ⟨H1,I1,q⟩
variable {rest:List Expr}
def OZ(t u:TT):TT:=λσ H Q=>t σ H λc H1=>if c=true then u σ H1 Q else Q false H1
def QK(t u:TT):TT:=λσ H Q=>t σ H λc H1=>if c=true then Q true H1 else u σ H1 Q
def Qb(t:TT):TT:=λσ H Q=>t σ H λc H1=>Q (!c) H1
def IF(ha:PT X a tA):PW X (.BoolOp .And [a] pos) tA:=by
 intro wh pins s σ H Q I h;refine isTrue_and (bL (ha pins s σ H Q I h) λc s1 e=>?_);cases c with
 | true=>exact isTrue_and_nil e
 | false=>exact e
def EI(ha:PT X a tA):PW X (.BoolOp .Or [a] pos) tA:=by
 intro wh pins s σ H Q I h;refine isTrue_or (bL (ha pins s σ H Q I h) λc s1 e=>?_);cases c with
 | false=>exact isTrue_or_nil e
 | true=>exact e
def LB(ha:PT X a tA)(hb:PW X (.BoolOp .And (b::rest) pos) tB'):PW X (.BoolOp .And (a::b::rest) pos) (OZ tA tB'):=by
 intro wh pins s σ H Q I h;refine isTrue_and (bL (ha pins s σ H _ I h) λc s1 ⟨H1,I1,q1⟩=>?_);cases c with
 | true=>exact hb wh pins s1 σ H1 Q I1 q1
 | false=>exact⟨H1,I1,q1⟩
def Ke(ha:PT X a tA)(hb:PW X (.BoolOp .Or (b::rest) pos) tB'):PW X (.BoolOp .Or (a::b::rest) pos) (QK tA tB'):=by
 intro wh pins s σ H Q I h;refine isTrue_or (bL (ha pins s σ H _ I h) λc s1 ⟨H1,I1,q1⟩=>?_);cases c with
 | true=>exact⟨H1,I1,q1⟩
 | false=>exact hb wh pins s1 σ H1 Q I1 q1
def D1(ha:PT X a tA):PT X (.UnaryOp .Not a pos) (Qb tA):=by
 intro pins s σ H Q I h;exact isTrue_not (ha pins s σ H (λc H1=>Q (!c) H1) I h)
def NB(ta tb:TE):TE:=λσ H Q=>ta σ H λx H1=>∃c,x=.bl c/\if c=true then tb σ H1 Q else Q (.bl false) H1
def PR(ta tb:TE):TE:=λσ H Q=>ta σ H λx H1=>∃c,x=.bl c/\if c=true then Q (.bl true) H1 else tb σ H1 Q
def Ll{op}(h:PE X a t):PE X (.BoolOp op [a] pos) t:=λpins s σ H Q I hw=>BoolOp_one (h pins s σ H Q I hw)
def KA(ha:PE X a ta)(hb:PE X (.BoolOp .And (b::rest) pos) tb):PE X (.BoolOp .And (a::b::rest) pos) (NB ta tb):=by
 intro pins s σ H Q I h;refine BoolOp_and (bL (ha pins s σ H _ I h) λv s1 ⟨x,H1,I1,r1,q1⟩=>?_);let⟨c,rfl,q1⟩:=q1;cases r1;refine xW ?_;cases c with
 | true=>exact hb pins s1 σ H1 Q I1 q1
 | false=>exact⟨.bl false,H1,I1,rfl,q1⟩
def Fk(ha:PE X a ta)(hb:PE X (.BoolOp .Or (b::rest) pos) tb):PE X (.BoolOp .Or (a::b::rest) pos) (PR ta tb):=by
 intro pins s σ H Q I h;refine BoolOp_or (bL (ha pins s σ H _ I h) λv s1 ⟨x,H1,I1,r1,q1⟩=>?_);let⟨c,rfl,q1⟩:=q1;cases r1;refine xW ?_;cases c with
 | false=>exact hb pins s1 σ H1 Q I1 q1
 | true=>exact⟨.bl true,H1,I1,rfl,q1⟩
def QY(t:TT)(ta tb:TE):TE:=λσ H Q=>t σ H λc H1=>if c=true then ta σ H1 Q else tb σ H1 Q
def u9(hc:PT X c tA)(ha:PE X a ta)(hb:PE X b tb):PE X (.IfExp c a b pos) (QY tA ta tb):=by
 intro pins s σ H Q I h;refine wpAny_IfExp (bL (hc pins s σ H _ I h) λd s1 ⟨H1,I1,q1⟩=>?_);cases d with
 | true=>exact ha pins s1 σ H1 Q I1 q1
 | false=>exact hb pins s1 σ H1 Q I1 q1
end
def fS(K:W.Frag)(H:Hp)(a:Addr)(xs:List V):Prop :=
 Rd H a (.lst xs) \/
  ∃ (o:Obj) (its:Array Value) (n:Nat),K.lookup a=some o/\o.cls=.type "list"/\o.dict=none/\o.data=.seq its n/\its.size<=sizeLine/\aM xs its.toList
def gT(K:W.Frag)(H:Hp)(a:Addr)(xs:List V):Prop :=
 Rd H a (.tup xs) \/
  ∃ (o:Obj) (its:Array Value) (n:Nat),K.lookup a=some o/\o.cls=.type "tuple"/\o.dict=none/\o.data=.seq its n/\its.size<=sizeLine/\aM xs its.toList
def Ql:Value->Option V
 | .none=>some .non
 | .bool b=>some (.bl b)
 | .int i _=>some (.int i)
 | .str x _=>some (.str x)
 | .bytes b _=>some (.byt b)
 | .float b _=>some (.flt b)
 | .ref a=>some (.ref a)
 | .type n=>some (.ty n)
 | _=>none
def RelV.abs(r:RelV x u):Ql u=some x:=by
 cases x with
 | non=>cases r;rfl
 | bl _=>cases r;rfl
 | int _=>let⟨t,rfl⟩:=r;rfl
 | str _=>let⟨t,rfl⟩:=r;rfl
 | byt _=>let⟨t,rfl⟩:=r;rfl
 | flt _=>let⟨t,rfl⟩:=r;rfl
 | ref _=>cases r;rfl
 | ty _=>cases r;rfl
def RelV.inj(r:RelV x u)(q:RelV y u):x=y:=xC (r.abs.symm.trans q.abs)
def aM.inj:∀ {xs ys:List V}{us:List Value},aM xs us->aM ys us->xs=ys
 | _,_,_,.nil,.nil=>rfl
 | _,_,_,.cons r t,.cons r' t'=>by rw[r.inj r',aM.inj t t']
def fS.of{K:W.Frag}(h:H a=some (.lst xs)):fS K H a xs:=.inl (.inl h)
def Inv.list(I:Inv X pins σ H s)(h:fS X.K H a xs):∃its:List Value,aM xs its/\PlainL s.heap a its.toArray/\xs.length<=sizeLine:=by
 rcases h with h|⟨o,its,n,hk,hc,hd,hs,hz,r⟩
 ·let⟨z,its,n,r,e⟩:=h.ok I.hok;exact⟨its,r,⟨_,n,e,rfl,rfl,rfl⟩,z⟩
 ·refine⟨its.toList,r,⟨o,n,I.kIn a o hk,hc,hd,by simpa using hs⟩,?_⟩;have e:=r.length;simp?[vR] at e;lia
def Inv.tuple(I:Inv X pins σ H s)(h:gT X.K H a xs):∃its:List Value,aM xs its/\IsTup s.heap a its.toArray/\xs.length<=sizeLine:=by
 rcases h with h|⟨o,its,n,hk,hc,_,hs,hz,r⟩
 ·let⟨z,its,r,p⟩:=h.ok I.hok;exact⟨its,r,p.1,z⟩
 ·refine⟨its.toList,r,⟨o,I.kIn a o hk,hc,n,by simpa using hs⟩,?_⟩;have e:=r.length;simp?[vR] at e;lia
def Inv.list_inj(I:Inv X pins σ H s)(h:fS X.K H a xs)(h':fS X.K H a ys):xs=ys:=by
 let⟨its,r,⟨o,n,e,_,_,d⟩,_⟩:=I.list h;let⟨its',r',⟨o',n',e',_,_,d'⟩,_⟩:=I.list h';rw[e] at e';cases e';rw[d] at d';injection d' with d1 _
 have:its=its':=by simpa using jB Array.toList d1
 subst this;exact r.inj r'
def Inv.tuple_inj(I:Inv X pins σ H s)(h:gT X.K H a xs)(h':gT X.K H a ys):xs=ys:=by
 let⟨its,r,⟨o,e,_,n,d⟩,_⟩:=I.tuple h;let⟨its',r',⟨o',e',_,n',d'⟩,_⟩:=I.tuple h';rw[e] at e';cases e';rw[d] at d';injection d' with d1 _
 have:its=its':=by simpa using jB Array.toList d1
 subst this;exact r.inj r'
abbrev Cx.wish(X:Cx)(E:Value->Shared->Prop):Cx:={ X with xe:=E }
abbrev Cx.nox(X:Cx):Cx:=X.wish λ_ _=>False
def Cx.Ok.wish{X:Cx}(ok:X.Ok)(E:Value->Shared->Prop):(X.wish E).Ok :=
 ⟨ok.mod,ok.kind,ok.glob,ok.blt,ok.above,ok.inj,ok.has,ok.cab,ok.hd,ok.frames,ok.stk,ok.exf,ok.bs,ok.bsz,ok.noex,ok.exfs,ok.funs,ok.frf⟩
def Cx.Ok.unwish{X:Cx}{E:Value->Shared->Prop}(ok:(X.wish E).Ok):X.Ok :=
 ⟨ok.mod,ok.kind,ok.glob,ok.blt,ok.above,ok.inj,ok.has,ok.cab,ok.hd,ok.frames,ok.stk,ok.exf,ok.bs,ok.bsz,ok.noex,ok.exfs,ok.funs,ok.frf⟩
def Inv.wish(I:Inv X pins σ H s)(E:Value->Shared->Prop):Inv (X.wish E) pins σ H s:=⟨I.ok.wish E,I.os,I.bare,I.base,I.loc,I.cell,I.free,I.freeC,I.pin,I.hok,I.len⟩
def Inv.unwish(I:Inv (X.wish E) pins σ H s):Inv X pins σ H s:=⟨I.ok.unwish,I.os,I.bare,I.base,I.loc,I.cell,I.free,I.freeC,I.pin,I.hok,I.len⟩
def SP.unwish{D:Ends}(h:SP (X.wish E) pins D f s'):SP X pins D f s':=by
 cases f with
 | next=>let⟨σ',H',I,q⟩:=h;exact⟨σ',H',I.unwish,q⟩
 | brk=>let⟨σ',H',I,q⟩:=h;exact⟨σ',H',I.unwish,q⟩
 | cont=>let⟨σ',H',I,q⟩:=h;exact⟨σ',H',I.unwish,q⟩
 | ret u=>let⟨v,σ',H',I,r,q⟩:=h;exact⟨v,σ',H',I.unwish,r,q⟩
def PE.nox(h:PE X.nox e t):PE X e t:=λpins s σ H Q I hw =>
 yZ (h pins s σ H Q (I.wish _) hw) (λ_ _ ⟨v,H',I',r,q⟩=>⟨v,H',I'.unwish,r,q⟩) λ_ _ z=>False.elim z
def PT.nox(h:PT X.nox e t):PT X e t:=λpins s σ H Q I hw =>
 yZ (h pins s σ H Q (I.wish _) hw) (λ_ _ ⟨H',I',q⟩=>⟨H',I'.unwish,q⟩) λ_ _ z=>False.elim z
def uc.nox{st:List Stmt}(h:uc X.nox st t):uc X st t:=λpins s σ H D I hw =>
 yZ (h pins s σ H D (I.wish _) hw) (λ_ _ q=>q.unwish) λ_ _ z=>False.elim z
section
variable {st:Stmt}{rest:List Stmt}
def Ey:TS:=λD σ H=>D.nx σ H
def Pd(t u:TS):TS:=λD σ H=>t { D with nx:=u D } σ H
def sJ:uc X [] Ey:=λ_ _ σ H _ I h=>vE ⟨σ,H,I,h⟩
def iC(h1:PS X st t)(h2:uc X rest u):uc X (st::rest) (Pd t u):=by
 intro pins s σ H D I h;refine kU (bL (h1 pins s σ H { D with nx:=u D } I h) λf s1 q=>?_);cases f with
 | next =>
  let⟨σ',H',I',q⟩:=q;exact h2 pins s1 σ' H' D I' q
 | ret v=>exact q
 | brk=>exact q
 | cont=>exact q
def Hi(h1:PS X st t):uc X [st] t:=by
 intro pins s σ H D I h;refine kU (bL (h1 pins s σ H D I h) λf s1 q=>?_);cases f with
 | next=>exact vE q
 | ret v=>exact q
 | brk=>exact q
 | cont=>exact q
def Ho:PS X (.Pass pos) Ey:=λ_ _ σ H _ I h=>wpAny_Pass ⟨σ,H,I,h⟩
def Inv.quiet(I:Inv X pins σ H s):interactive X.env=false:=by simp[interactive,I.ok.kind]
def My{x j pos pos'}:PS X (.Expr (.Constant (.str x) j pos) pos') Ey:=λ_ s σ H _ I h=>wpAny_Expr (vX (show SP X _ _ .next { s with toks:=s.toks+1 } from ⟨σ,H,I.tok _,h⟩)) I.quiet
def N1(te:TE):TS:=λD σ H=>te σ H λ_ H1=>D.nx σ H1
def lJ(he:PE X e te)(hs:swapsWith e none pos.line X.env=pure false:=by rfl):PS X (.Expr e pos) (N1 te):=by
 intro pins s σ H D I h;exact wpAny_Expr_any (bL (he pins s σ H _ I h) λv s1 ⟨x,H1,I1,r1,q1⟩=>⟨σ,H1,I1,q1⟩) I.quiet hs
def Py(te:TE):TS:=λD σ H=>te σ H D.rt
def xp(he:PE X e te):PS X (.Return (some e) pos) (Py te):=by
 intro pins s σ H D I h;exact wpAny_Return_some (bL (he pins s σ H _ I h) λv s1 ⟨x,H1,I1,r1,q1⟩=>⟨x,σ,H1,I1,r1,q1⟩)
def Qf(c:TT)(t u:TS):TS:=λD σ H=>c σ H λb H1=>if b=true then t D σ H1 else u D σ H1
def Ge(hc:PT X c tc)(ha:uc X a t)(hb:uc X b u):PS X (.If c a b pos) (Qf tc t u):=by
 intro pins s σ H D I h;refine wpAny_If (bL (hc pins s σ H _ I h) λd s1 ⟨H1,I1,q1⟩=>?_);cases d with
 | true=>exact ha pins s1 σ H1 D I1 q1
 | false=>exact hb pins s1 σ H1 D I1 q1
end
abbrev TG:=V->St->Hp->(St->Hp->Prop)->Prop
abbrev Oe:=List V->St->Hp->(St->Hp->Prop)->Prop
def PG(X:Cx)(target:Expr)(t:TG):Prop :=
 ∀ (pins:List (Addr×Obj)) (s:Shared) (σ:St) (H:Hp) (v:V) (u:Value) (Q:St->Hp->Prop),Inv X pins σ H s->RelV v u->t v σ H Q ->
  wpAny (model X.prog X.w) X.A (assign target X.env u) (λ_ s'=>∃σ' H',Inv X pins σ' H' s'/\Q σ' H') X.xe s
def OI(X:Cx)(ts:List Expr)(t:Oe):Prop :=
 ∀ (pins:List (Addr×Obj)) (s:Shared) (σ:St) (H:Hp) (vs:List V) (us:List Value) (Q:St->Hp->Prop),Inv X pins σ H s->aM vs us->t vs σ H Q ->
  wpAny (model X.prog X.w) X.A (assignInOrder ((assignEach ts X.env).map (·.2)) us) (λ_ s'=>∃σ' H',Inv X pins σ' H' s'/\Q σ' H') X.xe s
abbrev Oc:=V->V->V->Hp->(Hp->Prop)->Prop
def Og(X:Cx)(t:Oc):Prop :=
 ∀ (pins:List (Addr×Obj)) (s:Shared) (σ:St) (H:Hp) (o i v:V) (ov iv u:Value) (Q:Hp->Prop),Inv X pins σ H s->RelV o ov->RelV i iv->RelV v u->t o i v H Q ->
  wpAny (model X.prog X.w) X.A (setItem ov iv u) (λ_ s'=>∃H',Inv X pins σ H' s'/\Q H') X.xe s
def uE(i:Nat):TG:=λv σ H Q=>Q (σ.set i (some v)) H
def eR(hN:X.N.Nodup)(hi:X.N[i]?=some x)(hx:Loc X.env.scope x)(hf:X.fn x=true\/X.env.scope.names.lookup x=some .local:=by first|exact .inl rfl|exact .inr rfl|assumption):PG X (.Name x pos) (uE i):=by
 intro pins s σ H v u Q I r h;exact wpAny_assign_Name (vq I hN hi hx r (λs' I'=>⟨_,H,I',h⟩) hf)
def Pk:Oe:=λvs σ H Q=>vs=[]/\Q σ H
def NT(t:TG)(u:Oe):Oe:=λvs σ H Q=>∃v r,vs=v::r/\t v σ H λσ' H'=>u r σ' H' Q
def tQ:OI X [] Pk:=by
 intro pins s σ H vs us Q I r h;let⟨e,h⟩:=h;subst e;cases r;exact assignInOrder_nil ⟨σ,H,I,h⟩
def fK(h1:PG X e t)(h2:OI X es u)
  (hs:(assignEach (e::es) X.env).map (·.2)=assign e X.env::(assignEach es X.env).map (·.2):=by rfl):OI X (e::es) (NT t u):=by
 intro pins s σ H vs us Q I r h;let⟨v,vr,e1,h⟩:=h;subst e1;cases r with
 | cons r rr =>
  rw[hs];refine assignInOrder_cons (bL (h1 pins s σ H _ _ _ I r h) λ_ s1 ⟨σ1,H1,I1,q1⟩=>?_);exact h2 pins s1 σ1 H1 _ _ Q I1 rr q1
def PX(K:W.Frag)(n:Nat)(t:Oe):TG:=λv σ H Q=>∃a xs,v=.ref a/\gT K H a xs/\xs.length=n/\t xs σ H Q
def y9{k:Nat}(hc:X.calm=true)(h:OI X es t)
  (hn:(assignEach es X.env).length=n:=by rfl) (hst:(assignEach es X.env).findIdx? (·.1)=none:=by rfl):PG X (.Tuple es k pos) (PX X.K n t):=by
 intro pins s σ H v u Q I r hw;let⟨a,xs,e1,hq,hl,hw⟩:=hw;subst e1;cases r;let⟨its,rv,ht,hz⟩:=I.tuple hq;refine assign_Tuple_tuple (I.ok.hd hc) ht (by simp[hn,<- hl,rv.length]) hst λh' hx=>?_;have I1:Inv X pins σ H { s with heap:=h' }:=I.kept (t':=s.toks) λb o e=>hx b o (yQ (zX e)) e;exact h pins _ σ H xs _ Q I1 (by simpa using rv) hw
def ku(to ti:TE)(t:Oc):TG:=λv σ H Q=>to σ H λo H1=>ti σ H1 λi H2=>t o i v H2 λH3=>Q σ H3
def Ky(ho:PE X o to)(hi:PE X i ti)(hs:Og X t)
  (ha:∀v,assign (.Subscript o i pos) X.env v=(do
   let ov <- holding [v] (eval o X.env)
   let iv <- holding [v,ov] (eval i X.env)
   standAt pos
   holding [v,ov,iv] (setItem ov iv v)
   release [v,ov,iv] []):=by intro _;rfl):PG X (.Subscript o i pos) (ku to ti t):=by
 intro pins s σ H v u Q I r h;rw[ha];refine zU (xX (bL (ho pins s σ H _ I h) λov s1 ⟨x,H1,I1,r1,q1⟩=>?_));refine zU (xX (bL (hi pins s1 σ H1 _ I1 q1) λiv s2 ⟨y,H2,I2,r2,q2⟩=>?_));refine zU (kR (zU (xX (bL (hs pins s2 σ H2 x y v ov iv u _ I2 r1 r2 r q2) λ_ s3 ⟨H3,I3,q3⟩=>?_))));exact wpAny_release ⟨σ,H3,I3,q3⟩
def DR(te:TE)(g:TG):TS:=λD σ H=>te σ H λx H1=>g x σ H1 D.nx
def LD(he:PE X e te)(hg:PG X tg g)(hs:swapsWithSole [tg] e pos.line X.env=pure false:=by rfl)(hw:swappedStores [tg] e X.env=pure none:=by rfl)
  (h1:(assignEach [tg] X.env).map (·.2)=[assign tg X.env]:=by rfl):PS X (.Assign [tg] e pos) (DR te g):=by
 intro pins s σ H D I h;refine wpAny_Assign_stores (bL (he pins s σ H _ I h) λv s1 ⟨x,H1,I1,r1,q1⟩=>?_) hs hw;rw[h1];exact bL (hg pins s1 σ H1 x v _ I1 r1 q1) λ_ s2 q=>q
def uf(hN:X.N.Nodup)(hi:X.N[i]?=some x)(hx:Loc X.env.scope x)(he:PE X e te)(hs:swapsWith e (some (.Name x pos')) pos.line X.env=pure false:=by rfl)(hf:X.fn x=true\/X.env.scope.names.lookup x=some .local:=by first|exact .inl rfl|exact .inr rfl|assumption) :
  PS X (.Assign [.Name x pos'] e pos) (DR te (uE i)):=by
 intro pins s σ H D I h;refine wpAny_Assign_Name (bL (he pins s σ H _ I h) λv s1 ⟨y,H1,I1,r1,q1⟩=>?_) hs;exact vq I1 hN hi hx r1 (λs2 I2=>⟨_,H1,I2,q1⟩) hf
def Lg(c:TT)(tb:TS):TS:=λD σ H=>∃W:Nat->St->Hp->Prop,(∃m,W m σ H)/\∀m σ H,W m σ H ->
 c σ H λb H1=>if b=true then ∃N:St->Hp->Prop,(∀σ' H',N σ' H'->∃m',m' < m/\W m' σ' H')/\tb { D with nx:=N,ct:=N,bk:=D.nx } σ H1 else D.nx σ H1
def F6(hp:PassesOwn (model X.prog X.w) X.A X.env X.xe)(hc:PT X c tc)(hb:uc X body tb):PS X (.While c body [] pos) (Lg tc tb):=by
 intro pins s σ H D I h;let⟨W,⟨m0,w0⟩,turn⟩:=h;refine wpAny_While (codeAny_whileLoop (λn s'=>∃σ' H',Inv X pins σ' H' s'/\W n σ' H') ?_ m0 ⟨σ,H,I,w0⟩);rintro n s1 ⟨σ1,H1,I1,w1⟩;refine jJ hp (bL (hc pins s1 σ1 H1 _ I1 (turn n σ1 H1 w1)) λb s2 ⟨H2,I2,q2⟩=>?_);cases b with
 | true =>
  let⟨N,hN,q2⟩:=q2;rw[yK rfl];refine jJ hp (bL (hb pins s2 σ1 H2 _ I2 q2) λf s3 q3=>?_);cases f with
  | next =>
   let⟨σ3,H3,I3,n3⟩:=q3;let⟨m',hm,w3⟩:=hN σ3 H3 n3;exact⟨m',hm,σ3,H3,I3,w3⟩
  | cont =>
   let⟨σ3,H3,I3,n3⟩:=q3;let⟨m',hm,w3⟩:=hN σ3 H3 n3;exact⟨m',hm,σ3,H3,I3,w3⟩
  | brk=>exact q3
  | ret v=>exact q3
 | false =>
  rw[yM yY];exact vE ⟨σ1,H2,I2,q2⟩
structure It where
 go:Nat->Hp->Prop
 yld:Nat->Hp->V->Hp->Prop
 stop:Nat->Hp->Prop
def fN(X:Cx)(pins:List (Addr×Obj))(H:Hp)(b:Addr):Prop :=
 H b=none/\b≠X.env.locals/\b∉X.fs/\(b∈X.ex\/X.s₀.heap.objs.size<=b)/\(∀x c,X.env.cells.lookup x=some c->c≠b)/\∀p∈X.pn++pins,p.1≠b
def Inv.fpOk(I:Inv X pins σ H s)(hb:s.heap.objs.size<=b)(hn:H' b=none):fN X pins H' b:=by
 refine⟨hn,jH (zP I.lt hb),I.nofs hb,.inr (yC I.sz hb),λx c e z=>?_,λp hp z=>?_⟩
 ·let⟨v,q⟩:=I.cell x c e;exact absurd (zP q.lt (by rw[z];exact hb)) (qE _)
 ·exact absurd (zP (zX (I.pin p hp).1) (by rw[z];exact hb)) (qE _)
structure Turn(P:Program)(w:World)(K:W.Frag)(tg:Expr)(J:It)(fp:List Addr)(it:Addr)(tn:Nat->Heap->Prop):Prop where
 mem:it∈fp
 obj:∀i h,tn i h->∀b∈fp,∃o,h.get? b=some o/\∀v,o.data≠.cell v
 keep:∀i h h',tn i h->(∀b∈fp,∀o,h.get? b=some o->h'.get? b=some o)->tn i h'
 item:∀ (X:Cx),X.prog=P->X.w=w->X.K=K->X.calm=true->∀ (i:Nat) (pins:List (Addr×Obj)) (s:Shared) (σ:St) (H:Hp) (E:Value->Shared->Prop),Inv X pins σ H s->(∀b∈fp,fN X pins H b)->tn i s.heap->J.go i H ->
  wpAny (model P w) X.A (pyNext (.ref it)) (λr s1=>∃u,r=some u /\
   wpAny (model P w) X.A (letOwnedTupleGo tg (.ref it) u) (λ_ s2=>∃x H',Inv X pins σ H' s2/\RelV x u/\J.yld i H x H'/\tn (i+1) s2.heap/\∀b∈fp,H' b=none) E s1) E s
 done:∀ (X:Cx),X.prog=P->X.w=w->X.K=K->X.calm=true->∀ (i:Nat) (pins:List (Addr×Obj)) (s:Shared) (σ:St) (H:Hp) (E:Value->Shared->Prop),Inv X pins σ H s->(∀b∈fp,fN X pins H b)->tn i s.heap->J.stop i H ->
  wpAny (model P w) X.A (pyNext (.ref it)) (λr s1=>r=none/\Inv X pins σ H s1) E s
 self:∀ (A:Around) (i:Nat) (s:Shared) (Q:Value->Shared->Prop) (E:Value->Shared->Prop),tn i s.heap->Q (.ref it) s->wpAny (model P w) A (pyIter (.ref it)) Q E s
abbrev TI:=St->Hp->(It->Hp->Prop)->Prop
def Qo(X:Cx)(pins:List (Addr×Obj))(σ:St)(tg:Expr)(R:It->Hp->Prop)(itv:Value)(s2:Shared):Prop :=
 ∃ (it:Addr) (fp:List Addr) (tn:Nat->Heap->Prop) (J:It) (H':Hp),itv=.ref it/\Inv X pins σ H' s2/\Turn X.prog X.w X.K tg J fp it tn/\tn 0 s2.heap/\(∀b∈fp,fN X pins H' b)/\R J H'
def PI(X:Cx)(tg iter:Expr)(wi:TI):Prop :=
 ∀ (pins:List (Addr×Obj)) (s:Shared) (σ:St) (H:Hp) (R:It->Hp->Prop),Inv X pins σ H s->wi σ H R ->
  wpAny (model X.prog X.w) X.A (eval iter X.env) (λv s1=>wpAny (model X.prog X.w) X.A (pyIter v) (Qo X pins σ tg R) X.xe s1) X.xe s
def Dq(ho:s.heap.get? it=some o)(hc:o.cls=.type n)(hd:o.data=.fields vs)
  (hn:["enumerate","zip","dict_itemiterator","dict_reverseitemiterator","odict_iterator","itertools.zip_longest","itertools.pairwise"].contains n=false) (hQ:Q () s):wpAny M A (letOwnedTupleGo tg (.ref it) u) Q E s:=by
 unfold letOwnedTupleGo;cases tg<;>first
  | exact zV hQ
  | (cases u<;>first
    | exact zV hQ
    | (refine zU (wpAny_load ho ?_)
       rw[hc,hd];show wpAny M A (if (["enumerate","zip","dict_itemiterator","dict_reverseitemiterator","odict_iterator","itertools.zip_longest","itertools.pairwise"].contains n&&vs[0]? == some (rawInt _))=true then _ else _) Q E s;rw[yM (by intro h;rw[hn,vM] at h;cases h)];exact zV hQ))
def O9(K:W.Frag)(a:Addr):It :=
 ⟨λi H=>∃xs x,fS K H a xs/\xs[i]?=some x,λi H x H'=>H'=H/\∀xs,fS K H a xs->xs[i]?=some x,λi H=>∃xs,fS K H a xs/\xs.length<=i⟩
def PN(K:W.Frag)(a:Addr):It :=
 ⟨λi H=>∃xs x,gT K H a xs/\xs[i]?=some x,λi H x H'=>H'=H/\∀xs,gT K H a xs->xs[i]?=some x,λi H=>∃xs,gT K H a xs/\xs.length<=i⟩
def OM(lo:Int)(n:Nat):It:=⟨λi _=>i < n,λi H x H'=>H'=H/\x=.int (lo+i),λi _=>n<=i⟩
def Ce{K:W.Frag}(a it:Addr):Turn P w K tg (O9 K a) [it] it (λi h=>h.IsListIter it a i) where
 mem:=by simp
 obj:=λi h st b hb=>by
  have e:b=it:=by simpa using hb
  subst e;let⟨o,e,c,d⟩:=st;exact⟨o,e,λv z=>by rw[d] at z;cases z⟩
 keep:=λi h h' st k=>st.at λo e=>k it (by simp) o e
 item:=by
  intro X hP hw hK hc i pins s σ H E I hf st hg;subst hP hw hK;let⟨xs,x,hq,hx⟩:=hg;let⟨its,rv,p,hz⟩:=I.list hq;let⟨u,hu,ru⟩:=rv.get hx;let⟨f0,f1,f2,f3,f4,f5⟩:=hf it (by simp);refine wpAny_pyNext_list_item st p.isList (x:=u) (by simpa using hu) λh' st' sb=>?_;have I1:Inv X pins σ H { s with heap:=h' }:=I.turned (t':=s.toks) (λb o hb e=>(sb.2 b hb).trans e) f0 f1 f3 f4 f5;let⟨o,e,c,d⟩:=id st';exact⟨u,rfl,Dq (s:={ s with heap:=h' }) e c d (by decide) ⟨x,H,I1,ru,⟨rfl,λys hy=>by rw[I.list_inj hy hq];exact hx⟩,st',λb hb=>(hf b hb).1⟩⟩
 done:=by
  intro X hP hw hK hc i pins s σ H E I hf st hg;subst hP hw hK;let⟨xs,hq,hx⟩:=hg;let⟨its,rv,p,hz⟩:=I.list hq;let⟨f0,f1,f2,f3,f4,f5⟩:=hf it (by simp);have hl:=rv.length;exact wpAny_pyNext_list_end (I.ok.hd hc) st p.isList (by simp;lia) λh' eb=>⟨rfl,I.turned (t':=s.toks) (λb o hb e=>eb b o hb e) f0 f1 f3 f4 f5⟩
 self:=λ_ _ _ _ _ st h=>wpAny_pyIter_listiter st h
def zg{K:W.Frag}(a it:Addr):Turn P w K tg (PN K a) [it] it (λi h=>h.IsTupleIter it a i) where
 mem:=by simp
 obj:=λi h st b hb=>by
  have e:b=it:=by simpa using hb
  subst e;let⟨o,e,c,d⟩:=st;exact⟨o,e,λv z=>by rw[d] at z;cases z⟩
 keep:=λi h h' st k=>st.at λo e=>k it (by simp) o e
 item:=by
  intro X hP hw hK hc i pins s σ H E I hf st hg;subst hP hw hK;let⟨xs,x,hq,hx⟩:=hg;let⟨its,rv,p,hz⟩:=I.tuple hq;let⟨u,hu,ru⟩:=rv.get hx;let⟨f0,f1,f2,f3,f4,f5⟩:=hf it (by simp);refine wpAny_pyNext_tuple_item st (show s.heap.IsTuple a its.toArray from p) (x:=u) (by simpa using hu) λh' st' sb=>?_;have I1:Inv X pins σ H { s with heap:=h' }:=I.turned (t':=s.toks) (λb o hb e=>(sb.2 b hb).trans e) f0 f1 f3 f4 f5;let⟨o,e,c,d⟩:=id st';exact⟨u,rfl,Dq (s:={ s with heap:=h' }) e c d (by decide) ⟨x,H,I1,ru,⟨rfl,λys hy=>by rw[I.tuple_inj hy hq];exact hx⟩,st',λb hb=>(hf b hb).1⟩⟩
 done:=by
  intro X hP hw hK hc i pins s σ H E I hf st hg;subst hP hw hK;let⟨xs,hq,hx⟩:=hg;let⟨its,rv,p,hz⟩:=I.tuple hq;let⟨f0,f1,f2,f3,f4,f5⟩:=hf it (by simp);have hl:=rv.length;exact wpAny_pyNext_tuple_end (I.ok.hd hc) st (show s.heap.IsTuple a its.toArray from p) (by simp;lia) λh' eb=>⟨rfl,I.turned (t':=s.toks) (λb o hb e=>eb b o hb e) f0 f1 f3 f4 f5⟩
 self:=λ_ _ _ _ _ st h=>wpAny_pyIter_tupleiter st h
def ye{K:W.Frag}(it:Addr)(lo:Int)(n:Nat):Turn P w K tg (OM lo n) [it] it (λi h=>IsRangeIter h it (lo+(i:Nat) * 1) ((n:Int) - (i:Nat)) 1) where
 mem:=by simp
 obj:=λi h st b hb=>by
  have e:b=it:=by simpa using hb
  subst e;exact⟨_,st,λv z=>by
   have z':Data.fields _=Data.cell v:=z;cases z'⟩
 keep:=λi h h' st k=>k it (by simp) _ st
 item:=by
  intro X hP hw hK hc i pins s σ H E I hf st hg;subst hP hw hK;let⟨f0,f1,f2,f3,f4,f5⟩:=hf it (by simp);have W:=Walks.range (prog:=X.prog) (w:=X.w) (I.ok.hd hc) it lo 1 n;refine W.item i s _ _ hg st λv h' tk hv st' kk=>?_;let⟨t,rfl⟩:=hv;have I1:Inv X pins σ H { s with heap:=h',toks:=tk }:=I.turned (λb o hb e=>kk b o (by simpa using hb) e) f0 f1 f3 f4 f5;refine⟨_,rfl,Dq (s:={ s with heap:=h',toks:=tk }) (n:="range_iterator") st' rfl rfl (by decide) ⟨.int (lo+i),H,I1,⟨t,?_⟩,⟨rfl,rfl⟩,st',λb hb=>(hf b hb).1⟩⟩;rw[Int.mul_one]
 done:=by
  intro X hP hw hK hc i pins s σ H E I hf st hg;subst hP hw hK;let⟨f0,f1,f2,f3,f4,f5⟩:=hf it (by simp);exact wpAny_pyNext_range_end (I.ok.hd hc) st (by have:n<=i:=hg;lia) λh' eb=>⟨rfl,I.turned (t':=s.toks) (λb o hb e=>eb b o hb e) f0 f1 f3 f4 f5⟩
 self:=λ_ _ _ _ _ st h=>wpAny_pyIter_rangeiter st h
def Dg{lo:Int}{t u v:Tok}{tk:Nat}(I:Inv X pins σ H s)(h1:-(2 ^ 62)<=lo)(h2:lo < 2 ^ 62)(h3:-(2 ^ 62)<=hi)(h4:hi < 2 ^ 62)
  (q:R (OM lo (hi - lo).toNat) H):wpAny (model X.prog X.w) X.A (pyIter (.ref s.heap.objs.size)) (Qo X pins σ tg R) E { s with heap:=s.heap.push { cls:=.type "range",data:=.fields #[.int lo t,.int hi u,.int 1 v] },toks:=tk }:=by
 refine wpAny_pyIter_range (IsRange.new ..) (small_one h1 h2 h3 h4) ?_;have I1:Inv X pins σ H { s with heap:=s.heap.push { cls:=.type "range",data:=.fields #[.int lo t,.int hi u,.int 1 v] },toks:=tk }:=I.kept λb o e=>zT _ e;refine⟨(s.heap.push { cls:=.type "range",data:=.fields #[.int lo t,.int hi u,.int 1 v] }).objs.size,[(s.heap.push { cls:=.type "range",data:=.fields #[.int lo t,.int hi u,.int 1 v] }).objs.size],_,_,H,rfl,
  I1.kept (t':=tk) λb o e=>zT _ e,ye _ lo (hi - lo).toNat,?_,λb hb=>?_,q⟩
 ·have e1:lo+((0:Nat):Int) * 1=lo:=by simp
  have e2:(((hi - lo).toNat:Nat):Int) - ((0:Nat):Int)=Builtin.Range.rangeSize lo hi 1:=by rw[rangeSize_one];split<;>lia
  show IsRangeIter _ _ (lo+((0:Nat):Int) * 1) ((((hi - lo).toNat:Nat):Int) - ((0:Nat):Int)) 1;rw[e1,e2];exact zW _ rfl
 ·have e:b=(s.heap.push { cls:=.type "range",data:=.fields #[.int lo t,.int hi u,.int 1 v] }).objs.size:=by simpa using hb
  subst e;exact I1.fpOk (yL _) (I1.hok.fresh (yL _))
def Nj(ta:TA):TI:=λσ H R=>ta σ H λvs H1=>∃j:Int,vs=[.int j]/\-(2 ^ 62)<=j/\j < 2 ^ 62/\R (OM 0 j.toNat) H1
def CT(hg:Gl X "range")(hm:X.mg "range"=none)(ha:PA X [a] ta)(hs:starEach [a] X.env=[(false,eval a X.env)]:=by rfl):PI X tg (.Call (.Name "range" p) [a] [] pos) (Nj ta):=by
 intro pins s σ H R I h;refine Call_ (iT I hg hm boot_range (qS (bL (ha pos pins s σ H _ I h) λus s1 ⟨vs,H1,I1,r1,q1⟩=>?_) hs rfl));let⟨j,e,q1,q2,q⟩:=q1;subst e;cases r1 with
 | cons r rr =>
  cases rr;let⟨t,rfl⟩:=r;exact call_range_1 (Dg I1 (by lia) (by lia) q1 q2 (by simpa using q))
def P3(wi:TI)(g:TG)(tb:TS):TS:=λD σ H=>wi σ H λJ H1=>∃W:Nat->Nat->St->Hp->Prop,(∃m,W 0 m σ H1)/\∀i m σ H,W i m σ H ->
 (J.stop i H/\D.nx σ H)\/(J.go i H/\∃N:St->Hp->Prop,(∀σ' H',N σ' H'->∃m',m' < m/\W (i+1) m' σ' H')/\∀x H',J.yld i H x H'->g x σ H' λσ2 H2=>tb { D with nx:=N,ct:=N,bk:=D.nx } σ2 H2)
def mH(fp:List Addr)(h:Heap):List (Addr×Obj):=fp.filterMap λb=>(h.get? b).map λo=>(b,o)
def dS(hb:b∈fp)(e:h.get? b=some o):(b,o)∈mH fp h:=List.mem_filterMap.mpr ⟨b,hb,by rw[e];rfl⟩
def B7(hp:p∈mH fp h):p.1∈fp/\h.get? p.1=some p.2:=by
 let⟨b,hb,e⟩:=List.mem_filterMap.mp hp;cases q:h.get? b with
 | none=>rw[q] at e;cases e
 | some o =>
  rw[q] at e;have e':(b,o)=p:=xC e;subst e';exact⟨hb,q⟩
def Inv.pinned(I:Inv X pins σ H s)(hf:∀b∈fp,fN X pins H b)(ho:∀b∈fp,∃o,s.heap.get? b=some o/\∀v,o.data≠.cell v):Inv X (pins++mH fp s.heap) σ H s :=
 I.pins_of λp hp=>(List.mem_append.mp hp).elim (λz=>I.pin p (yD _ z)) λz=>by
  let⟨hb,e⟩:=B7 z;let⟨f0,f1,f2,_⟩:=hf p.1 hb;let⟨o,e',d⟩:=ho p.1 hb;rw[e] at e';cases e';exact⟨e,f0,f1,f2,d⟩
def Inv.unpinned(I:Inv X (pins++pl) σ H s):Inv X pins σ H s:=I.pins_of λp hp=>I.pin p (yD _ (qJ _ hp))
def LP{pos:Pos}(hp:PassesOwn (model X.prog X.w) X.A X.env X.xe)(hc:X.calm=true)(hi:PI X tg iter wi)(hg:PG X tg g)(hb:uc X body tb)
  (hs:∀x,foldedSetIterable iter X.env x=pure x:=by intro _;rfl):PS X (.For tg iter body [] pos) (P3 wi g tb):=by
 intro pins s σ H D I h;refine wpAny_For (bL (hi pins s σ H _ I h) λv s1 h1=>bL h1 λitv s2 h2=>?_) hs;let⟨it,fp,tn,J,H2,e,I2,T,st2,f2,W,⟨m0,w0⟩,turn⟩:=h2;subst e;have stat:∀ {H':Hp},(∀b∈fp,H' b=none)->∀b∈fp,fN X pins H' b:=λhn b hb=>⟨hn b hb,(f2 b hb).2⟩
 refine codeAny_forLoop_any (λn s'=>∃i σ' H',Inv X pins σ' H' s'/\tn i s'.heap/\(∀b∈fp,H' b=none)/\W i n σ' H') ?_ m0 ⟨0,σ,H2,I2,st2,λb hb=>(f2 b hb).1,w0⟩;rintro n s3 ⟨i,σ3,H3,I3,st3,fr3,w3⟩;rcases turn i n σ3 H3 w3 with ⟨stop,qn⟩|⟨go,N,hN,step⟩
 ·refine jJ hp (bL (T.done X rfl rfl rfl hc i pins s3 σ3 H3 X.xe I3 (stat fr3) st3 stop) λr s4 ⟨hr,I4⟩=>?_);subst hr;exact vE ⟨σ3,H3,I4,qn⟩
 ·refine jJ hp (bL (T.item X rfl rfl rfl hc i pins s3 σ3 H3 X.xe I3 (stat fr3) st3 go) λr s4 ⟨u,hr,h4⟩=>?_);subst hr;refine jJ hp (bL h4 λ_ s5 ⟨x,H5,I5,r5,y5,st5,fr5⟩=>?_);have I5':=I5.pinned (stat fr5) (T.obj _ _ st5);refine jJ hp (bL (hg _ s5 σ3 H5 x u _ I5' r5 (step x H5 y5)) λ_ s6 ⟨σ6,H6,I6,q6⟩=>?_);refine jJ hp (bL (hb _ s6 σ6 H6 _ I6 q6) λf s7 q7=>?_);have again:∀ {σ7:St}{H7:Hp},Inv X (pins++mH fp s5.heap) σ7 H7 s7->N σ7 H7->∃m,m < n/\∃i σ' H',Inv X pins σ' H' s7/\tn i s7.heap/\(∀b∈fp,H' b=none)/\W i m σ' H':=λ{σ7 H7} I7 n7=>by
   let⟨m',hm,w7⟩:=hN σ7 H7 n7;refine⟨m',hm,i+1,σ7,H7,I7.unpinned,T.keep _ _ _ st5 λb hb o e=>(I7.pin (b,o) (yD _ (yD _ (dS hb e)))).1,λb hb=>?_,w7⟩;let⟨o,e,d⟩:=T.obj _ _ st5 b hb;exact (I7.pin (b,o) (yD _ (yD _ (dS hb e)))).2.1
  cases f with
  | next=>let⟨σ7,H7,I7,n7⟩:=q7;exact again I7 n7
  | cont=>let⟨σ7,H7,I7,n7⟩:=q7;exact again I7 n7
  | brk=>let⟨σ7,H7,I7,q7⟩:=q7;exact⟨σ7,H7,I7.unpinned,q7⟩
  | ret v=>let⟨x7,σ7,H7,I7,r7,q7⟩:=q7;exact⟨x7,σ7,H7,I7.unpinned,r7,q7⟩
abbrev R2:=V->V->Hp->VK->Prop
def eU(X:Cx)(f:Value->Value->Sem Value)(r:R2):Prop :=
 ∀ (pins:List (Addr×Obj)) (s:Shared) (σ:St) (H:Hp) (x y:V) (v u:Value) (Q:VK),Inv X pins σ H s->RelV x v->RelV y u->r x y H Q ->
  wpAny (model X.prog X.w) X.A (f v u) (EP X pins σ Q) X.xe s
def Qk(X:Cx)(f:Value->Sem Value)(r:V->Hp->VK->Prop):Prop :=
 ∀ (pins:List (Addr×Obj)) (s:Shared) (σ:St) (H:Hp) (x:V) (v:Value) (Q:VK),Inv X pins σ H s->RelV x v->r x H Q ->
  wpAny (model X.prog X.w) X.A (f v) (EP X pins σ Q) X.xe s
def du(X:Cx)(f:Value)(r:List V->Hp->VK->Prop):Prop :=
 ∀ (pins:List (Addr×Obj)) (s:Shared) (σ:St) (H:Hp) (xs:List V) (us:List Value) (Q:VK),Inv X pins σ H s->aM xs us->r xs H Q ->
  wpAny (model X.prog X.w) X.A (call f us) (EP X pins σ Q) X.xe s
def Nt(r:R2)(ta tb:TE):TE:=λσ H Q=>ta σ H λx H1=>tb σ H1 λy H2=>r x y H2 Q
def Q9(r:V->Hp->VK->Prop)(ta:TE):TE:=λσ H Q=>ta σ H λx H1=>r x H1 Q
def rI(C:Int->Int->Prop)(g:Int->Int->V):R2:=λx y H Q=>∃i j,x=.int i/\y=.int j/\C i j/\Q (g i j) H
def G7(g:Int->Int->V):R2:=λx y H Q=>∃i j,x=.int i/\y=.int j/\Q (g i j) H
def rU(g:Int->V):V->Hp->VK->Prop:=λx H Q=>∃i,x=.int i/\Q (g i) H
def MG(ha:PE X a ta)(hb:PE X b tb){pins:List (Addr×Obj)}{σ:St}{R:V->V->Hp->Prop}(I:Inv X pins σ H s)
  (h:ta σ H λx H1=>tb σ H1 λy H2=>R x y H2) {Q:Value->Shared->Prop}{f:Value->Value->Sem Value}
  (hf:∀v u s2 x y H2,Inv X pins σ H2 s2->RelV x v->RelV y u->R x y H2->wpAny (model X.prog X.w) X.A (f v u) Q X.xe s2) :
  wpAny (model X.prog X.w) X.A (eval a X.env) (λv s₁=>wpAny (model X.prog X.w) X.A (eval b X.env) (λu s₂=>wpAny (model X.prog X.w) X.A (f v u) Q X.xe s₂) X.xe s₁) X.xe s:=by
 refine bL (ha pins s σ H _ I h) λv s1 ⟨x,H1,I1,r1,q1⟩=>?_;refine bL (hb pins s1 σ H1 _ I1 q1) λu s2 ⟨y,H2,I2,r2,q2⟩=>?_;exact hf v u s2 x y H2 I2 r1 r2 q2
def C3(ho:eU X (binaryOp op) r)(ha:PE X a ta)(hb:PE X b tb):PE X (.BinOp a op b pos) (Nt r ta tb):=by
 intro pins s σ H Q I h;exact wpAny_BinOp (MG ha hb I h λv u s2 x y H2 I2 rx ry q=>ho pins s2 σ H2 x y v u Q I2 rx ry q)
def Oi(ho:Qk X (unaryOp op) r)(ha:PE X a ta):PE X (.UnaryOp op a pos) (Q9 r ta):=by
 intro pins s σ H Q I h;exact UnaryOp_ (bL (ha pins s σ H _ I h) λv s1 ⟨x,H1,I1,r1,q1⟩=>ho pins s1 σ H1 x v Q I1 r1 q1)
def PP{f:Value->Value->Sem Value}{C:Int->Int->Prop}{g:Int->Int->Int}
  (rule:∀ (i j:Int) (t u:Tok) (s:Shared) (Q:Value->Shared->Prop) (E:Value->Shared->Prop),C i j->Q (.int (g i j) s.toks) { s with toks:=s.toks+1 }->wpAny (model X.prog X.w) X.A (f (.int i t) (.int j u)) Q E s) :
  eU X f (rI C λi j=>.int (g i j)):=by
 intro pins s σ H x y v u Q I rx ry h;let⟨i,j,rfl,rfl,hc,q⟩:=h;let⟨t,rfl⟩:=rx;let⟨t',rfl⟩:=ry;exact rule i j t t' s _ _ hc ⟨.int (g i j),H,I.tok _,⟨_,rfl⟩,q⟩
def NV{f:Value->Value->Sem Value}{g:Int->Int->Int}
  (rule:∀ (i j:Int) (t u:Tok) (s:Shared) (Q:Value->Shared->Prop) (E:Value->Shared->Prop),Q (.int (g i j) s.toks) { s with toks:=s.toks+1 }->wpAny (model X.prog X.w) X.A (f (.int i t) (.int j u)) Q E s) :
  eU X f (G7 λi j=>.int (g i j)):=by
 intro pins s σ H x y v u Q I rx ry h;let⟨i,j,rfl,rfl,q⟩:=h;let⟨t,rfl⟩:=rx;let⟨t',rfl⟩:=ry;exact rule i j t t' s _ _ ⟨.int (g i j),H,I.tok _,⟨_,rfl⟩,q⟩
def MY{f:Value->Value->Sem Value}{g:Int->Int->Bool}
  (rule:∀ (i j:Int) (t u:Tok) (s:Shared) (Q:Value->Shared->Prop) (E:Value->Shared->Prop),Q (.bool (g i j)) s->wpAny (model X.prog X.w) X.A (f (.int i t) (.int j u)) Q E s) :
  eU X f (G7 λi j=>.bl (g i j)):=by
 intro pins s σ H x y v u Q I rx ry h;let⟨i,j,rfl,rfl,q⟩:=h;let⟨t,rfl⟩:=rx;let⟨t',rfl⟩:=ry;exact rule i j t t' s _ _ ⟨.bl (g i j),H,I,rfl,q⟩
def Hw(i j:Int):Prop:=0 < j/\j < 1073741824
def nF(i j:Int):Prop:=(-(2 ^ 64) < i/\i < 2 ^ 64)\/(-(2 ^ 64) < j/\j < 2 ^ 64)
def nF.ok(h:nF i j):IntMulOk i j:=by
 rcases h with ⟨h1,h2⟩|⟨h1,h2⟩
 ·exact .of_left (intBits_le_64 h1 h2)
 ·exact .of_right (intBits_le_64 h1 h2)
def LN:eU X (binaryOp .Add) (G7 λi j=>.int (i+j)):=NV λ_ _ _ _ _ _ _ q=>add_int q
def KM:eU X (binaryOp .Sub) (G7 λi j=>.int (i - j)):=NV λ_ _ _ _ _ _ _ q=>sub_int q
def KG:eU X (binaryOp .Mult) (rI nF λi j=>.int (i * j)):=PP λ_ _ _ _ _ _ _ hc q=>mul_int q hc.ok
def JB:eU X (binaryOp .FloorDiv) (rI Hw λi j=>.int (i / j)):=PP λi j _ _ _ _ _ hc q=>by
 have h1:(0:Int) < j:=hc.1;have h2:j < 1073741824:=hc.2;exact floordiv_int (by lia) (by rw[Int.fdiv_eq_ediv_of_nonneg i (by lia)];exact q) (.inl (PyProof.noPylong_small (by lia)))
def K1:eU X (binaryOp .Mod) (rI (λ_ j=>0 < j) λi j=>.int (i % j)):=PP λi j _ _ _ _ _ hc q=>by
 have h1:(0:Int) < j:=hc;exact mod_int' (by lia) (by rw[Int.fmod_eq_emod_of_nonneg i (by lia)];exact q)
def QG{f:Value->Sem Value}{g:Int->Int}
  (rule:∀ (i:Int) (t:Tok) (s:Shared) (Q:Value->Shared->Prop) (E:Value->Shared->Prop),Q (.int (g i) s.toks) { s with toks:=s.toks+1 }->wpAny (model X.prog X.w) X.A (f (.int i t)) Q E s) :
  Qk X f (rU λi=>.int (g i)):=by
 intro pins s σ H x v Q I rx h;let⟨i,rfl,q⟩:=h;let⟨t,rfl⟩:=rx;exact rule i t s _ _ ⟨.int (g i),H,I.tok _,⟨_,rfl⟩,q⟩
def Lp:Qk X (unaryOp .USub) (rU λi=>.int (-i)):=QG λ_ _ _ _ _ q=>neg_int q
def kq:V->V->Bool
 | .non,.non=>true|.non,.int _=>true|.int _,.non=>true|.non,.bl _=>true|.bl _,.non=>true|.non,.str _=>true|.str _,.non=>true
 | .int _,.int _=>true|.bl _,.bl _=>true|.str _,.str _=>true|.byt _,.byt _=>true
 | .int _,.str _=>true|.str _,.int _=>true|.bl _,.str _=>true|.str _,.bl _=>true
 | _,_=>false
def QV:R2:=λx y H Q=>kq x y=true/\Q (.bl (!decide (x=y))) H
def Ir:decide (V.int i=V.int j)=(i == j):=by
 rw[kL];simp
def Lx:decide (V.bl i=V.bl j)=(i == j):=by
 rw[kL];simp
def HB:decide (V.str i=V.str j)=(i == j):=by
 rw[kL];simp
def JF:decide (V.byt i=V.byt j)=(i.toList == j.toList):=by
 rw[kL];cases i;cases j;simp
def cx(I:Inv X pins σ H s)(q:Q (.bl k) H)(e:k=k'):EP X pins σ Q (.bool k') s:=by
 subst e;exact⟨.bl k,H,I,rfl,q⟩
def Os:eU X (compareOp .NotEq) QV:=by
 intro pins s σ H x y v u Q I rx ry h;let⟨hs,q⟩:=h;cases x with
 | non =>
  cases rx;cases y with
  | non=>cases ry;exact PySem.EqNone.ne_none_none (cx I q (by simp))
  | bl j=>cases ry;exact PySem.EqNone.ne_none_bool (cx I q (by simp))
  | int j=>let⟨t',rfl⟩:=ry;exact PySem.EqNone.ne_none_int (cx I q (by simp))
  | str j=>let⟨t',rfl⟩:=ry;exact PySem.EqNone.ne_none_str (cx I q (by simp))
  | _=>exact absurd (show false=true from hs) yY
 | bl i =>
  cases rx;cases y with
  | non=>cases ry;exact PySem.EqNone.ne_bool_none (cx I q (by simp))
  | bl j=>cases ry;exact ne_bool (cx I q (jB not Lx))
  | str j=>let⟨t',rfl⟩:=ry;exact PySem.EqMixed.ne_bool_str (cx I q (by simp))
  | _=>exact absurd (show false=true from hs) yY
 | int i =>
  let⟨t,rfl⟩:=rx;cases y with
  | non=>cases ry;exact PySem.EqNone.ne_int_none (cx I q (by simp))
  | int j=>let⟨t',rfl⟩:=ry;exact ne_int (cx I q (jB not Ir))
  | str j=>let⟨t',rfl⟩:=ry;exact PySem.EqMixed.ne_int_str (cx I q (by simp))
  | _=>exact absurd (show false=true from hs) yY
 | str i =>
  let⟨t,rfl⟩:=rx;cases y with
  | non=>cases ry;exact PySem.EqNone.ne_str_none (cx I q (by simp))
  | bl j=>cases ry;exact PySem.EqMixed.ne_str_bool (cx I q (by simp))
  | int j=>let⟨t',rfl⟩:=ry;exact PySem.EqMixed.ne_str_int (cx I q (by simp))
  | str j=>let⟨t',rfl⟩:=ry;exact ne_str (cx I q (jB not HB))
  | _=>exact absurd (show false=true from hs) yY
 | byt i =>
  let⟨t,rfl⟩:=rx;cases y with
  | byt j=>let⟨t',rfl⟩:=ry;exact W.ne_bytes (cx I q (jB not JF))
  | _=>exact absurd (show false=true from hs) yY
 | _=>cases y<;>exact absurd (show false=true from hs) yY
def FX:eU X (compareOp .Lt) (G7 λi j=>.bl (decide (i < j))):=MY λ_ _ _ _ _ _ _ q=>lt_int q
def C9:eU X (compareOp .LtE) (G7 λi j=>.bl (decide (i<=j))):=MY λ_ _ _ _ _ _ _ q=>le_int q
def J4:eU X (compareOp .Gt) (G7 λi j=>.bl (decide (j < i))):=MY λ_ _ _ _ _ _ _ q=>gt_int q
def BN:eU X (compareOp .In) (λx y H Q=>∃i j,x=.str i/\y=.str j/\Q (.bl (!(Builtin.Str.occurrences j i 0 j.length 1).isEmpty)) H):=by
 intro pins s σ H x y v u Q I rx ry h;let⟨i,j,rfl,rfl,q⟩:=h;let⟨t,rfl⟩:=rx;let⟨t',rfl⟩:=ry;exact in_str (cx I q rfl)
def C6:eU X (compareOp .Is) (λx y H Q=>y=.non/\Q (.bl (decide (x=.non))) H):=by
 intro pins s σ H x y v u Q I rx ry h;let⟨rfl,q⟩:=h;cases ry;refine is_none_gen (cx I q ?_);cases x<;>first
  | (cases rx;rfl)
  | (let⟨t,rfl⟩:=rx;rfl)
def AD:eU X (compareOp .IsNot) (λx y H Q=>y=.non/\Q (.bl (!decide (x=.non))) H):=by
 intro pins s σ H x y v u Q I rx ry h;let⟨rfl,q⟩:=h;cases ry;refine isnot_none_gen (cx I q ?_);cases x<;>first
  | (cases rx;rfl)
  | (let⟨t,rfl⟩:=rx;rfl)
def ud:eU X (compareOp .NotIn) (λx y H Q=>∃i j,x=.str i/\y=.str j/\Q (.bl (!(!(Builtin.Str.occurrences j i 0 j.length 1).isEmpty))) H):=by
 intro pins s σ H x y v u Q I rx ry h;let⟨i,j,rfl,rfl,q⟩:=h;let⟨t,rfl⟩:=rx;let⟨t',rfl⟩:=ry;exact notIn_str (cx I q rfl)
def isObj:HO->Bool
 | .lst _=>true
 | .ins _ _ _=>true
 | _=>false
def qt(I:Inv X pins σ H s)(h:H a=some o)(p:isObj o=true):∃ob,s.heap.get? a=some ob/\ob.cls≠.type "tuple":=by
 cases o with
 | lst xs =>
  obtain⟨_,its,n,_,e⟩:xs.length<=sizeLine/\∃ (its:List Value) (n:Nat),aM xs its/\s.heap.get? a=some { cls:=.type "list",data:=.seq its.toArray n }:=I.hok a _ h;exact⟨_,e,(by show Value.type "list"≠.type "tuple";decide +kernel)⟩
 | ins C dx fs =>
  have x:=I.hok a _ h;let⟨_,_,_,e,_⟩:=x;exact⟨_,e,(by show Value.ref C≠.type "tuple";exactλz=>by cases z)⟩
 | _=>exact absurd (show false=true from p) yY
def eU.or(h:eU X f r)(h':eU X f r'):eU X f (λx y H Q=>r x y H Q\/r' x y H Q):=by
 intro pins s σ H x y v u Q I rx ry q;rcases q with q|q
 ·exact h pins s σ H x y v u Q I rx ry q
 ·exact h' pins s σ H x y v u Q I rx ry q
def dN(b:Expr)(h:op≠.In:=by decide)(h2:op≠.NotIn:=by decide):behindInMarks op b=false:=by
 have e1:(op == CmpOp.In)=false:=by cases op<;>first|rfl|exact absurd rfl h
 have e2:(op == CmpOp.NotIn)=false:=by cases op<;>first|rfl|exact absurd rfl h2
 cases b<;>simp[behindInMarks,e1,e2]
def Ja(ho:eU X (compareOp op) r)(ha:PE X a ta)(hb:PE X b tb)(hm:behindInMarks op b=false):PE X (.Compare a [op] [b] pos) (Nt r ta tb):=by
 intro pins s σ H Q I h;exact wpAny_Compare1 (MG ha hb I h λv u s2 x y H2 I2 rx ry q=>ho pins s2 σ H2 x y v u Q I2 rx ry q) hm
def J8(t:TE):TT:=λσ H Q=>t σ H λx H'=>∃k,x=.bl k/\Q k H'
def AC(ho:eU X (compareOp op) r)(ha:PE X a ta)(hb:PE X b tb)(hm:behindInMarks op b=false):PT X (.Compare a [op] [b] pos) (J8 (Nt r ta tb)):=by
 intro pins s σ H Q I h;refine wpAny_isTrue_Compare1 (bL (ha pins s σ H _ I h) λv s1 ⟨x,H1,I1,r1,q1⟩=>bL (hb pins s1 σ H1 _ I1 q1) λu s2 ⟨y,H2,I2,r2,q2⟩ =>
  bL (ho pins s2 σ H2 x y v u _ I2 r1 r2 q2) λc s3 ⟨z,H3,I3,r3,k,e,q3⟩=>?_) hm
 subst e;cases r3;exact xW ⟨H3,I3,q3⟩
def xo(r r':R2)(ta tb tc:TE):TE:=λσ H Q=>ta σ H λx H1=>tb σ H1 λy H2=>r x y H2 λz H3=>∃k,z=.bl k /\
 (if k=true then tc σ H3 λw' H4=>r' y w' H4 Q else Q (.bl false) H3)
def Fh(ho:eU X (compareOp op) r)(ho':eU X (compareOp op') r')(ha:PE X a ta)(hb:PE X b tb)(hc:PE X c tc)
  (hm:lastMarks [op,op'] [b,c]=false:=by with_unfolding_all rfl):PE X (.Compare a [op,op'] [b,c] pos) (xo r r' ta tb tc):=by
 intro pins s σ H Q I h;refine Compare_chain (bL (ha pins s σ H _ I h) λv s1 ⟨x,H1,I1,r1,q1⟩=>chain_link (bL (hb pins s1 σ H1 _ I1 q1) λu s2 ⟨y,H2,I2,r2,q2⟩ =>
  bL (ho pins s2 σ H2 x y v u _ I2 r1 r2 q2) λd s3 ⟨z,H3,I3,r3,k,e,q3⟩=>?_)) hm
 subst e;cases r3;refine xW ?_;cases k with
 | false=>exact ite_ff ⟨.bl false,H3,I3,rfl,q3⟩
 | true=>exact ite_tt (chain_last (bL (hc pins s3 σ H3 _ I3 q3) λw' s4 ⟨z',H4,I4,r4,q4⟩=>ho' pins s4 σ H4 y z' u w' Q I4 r2 r4 q4))
def Fx(ho:eU X (compareOp op) r)(ho':eU X (compareOp op') r')(ha:PE X a ta)(hb:PE X b tb)(hc:PE X c tc)
  (hm:lastMarks [op,op'] [b,c]=false:=by with_unfolding_all rfl):PT X (.Compare a [op,op'] [b,c] pos) (J8 (xo r r' ta tb tc)):=by
 intro pins s σ H Q I h;refine isTrue_chain (bL (ha pins s σ H _ I h) λv s1 ⟨x,H1,I1,r1,q1⟩=>test_link (bL (hb pins s1 σ H1 _ I1 q1) λu s2 ⟨y,H2,I2,r2,q2⟩ =>
  bL (ho pins s2 σ H2 x y v u _ I2 r1 r2 q2) λd s3 ⟨z,H3,I3,r3,k,e,q3⟩=>?_)) hm
 subst e;cases r3;refine xW ?_;cases k with
 | false =>
  let⟨k',e',q'⟩:=q3;cases e';exact ite_ff ⟨H3,I3,q'⟩
 | true =>
  refine ite_tt (test_last (bL (hc pins s3 σ H3 _ I3 q3) λw' s4 ⟨z',H4,I4,r4,q4⟩=>bL (ho' pins s4 σ H4 y z' u w' _ I4 r2 r4 q4) λd' s5 ⟨z2,H5,I5,r5,k2,e2,q5⟩=>?_));subst e2;cases r5;exact xW ⟨H5,I5,q5⟩
def ml:(sizeLine:Nat) < 2 ^ 63:=by rw[sizeLine_eq];decide
def xw:eU X (binaryOp .Add) (λx y H Q=>∃i j,x=.str i/\y=.str j/\i.length+j.length<=sizeLine/\Q (.str (i++j)) H):=by
 intro pins s σ H x y v u Q I rx ry h;let⟨i,j,rfl,rfl,hz,q⟩:=h;let⟨t,rfl⟩:=rx;let⟨t',rfl⟩:=ry;exact add_str (λt' tk=>⟨.str (i++j),H,I.tok _,⟨_,rfl⟩,q⟩) hz
def vals1(r:aM [x] us):∃u,us=[u]/\RelV x u:=by
 cases r with
 | cons r1 r2=>cases r2;exact⟨_,rfl,r1⟩
def vals2(r:aM [x,y] us):∃u w',us=[u,w']/\RelV x u/\RelV y w':=by
 cases r with
 | cons r1 r2 =>
  cases r2 with
  | cons r3 r4=>cases r4;exact⟨_,_,rfl,r1,r3⟩
def tZ:du X (.type "str") (λxs H Q=>∃i,xs=[.int i]/\i.natAbs.log2 < 1920/\Q (.str (toString i)) H):=by
 intro pins s σ H xs us Q I r h;let⟨i,rfl,hz,q⟩:=h;let⟨u,rfl,t,rfl⟩:=vals1 r;exact PySem.P.str_of_int hz ⟨.str _,H,I.tok _,⟨_,rfl⟩,q⟩
section
variable {K:W.Frag}
end
structure fQ(k:Nat)(A:Around):Prop where
 hd:A.handled=none
 dp:A.depth+3 * k+5 < recursionLimit
 un:A.units+16 * k+200 < cLine
def fQ.mono(r:fQ k A)(h:j<=k):fQ j A:=⟨r.hd,by have:=r.dp;lia,by have:=r.un;lia⟩
def fQ.deeper(r:fQ (k+1) A)(env:Env):fQ k (A.deeper env) :=
 ⟨r.hd,by have:=r.dp;show A.depth+1+3 * k+5 < _;lia,by have:=r.un;show A.units+3+16 * k+200 < _;lia⟩
def fQ.depth(r:fQ k A):A.depth < recursionLimit:=by have:=r.dp;lia
def fQ.units(r:fQ k A):A.units+64 < cLine:=by have:=r.un;lia
def fQ.units0(r:fQ k A):A.units < cLine:=by have:=r.un;lia
def Pj:TA:=λ_ H Q=>Q [] H
def NG(ta:TE)(tr:TA):TA:=λσ H Q=>ta σ H λx H1=>tr σ H1 λxs H2=>Q (x::xs) H2
def cO:PA X [] Pj:=λ_ _ _ _ H Q I h=>kC ⟨[],H,I,.nil,h⟩
def bJ(ha:PE X e te)(hr:PA X es t)(hs:starEach (e::es) X.env=(false,eval e X.env)::starEach es X.env:=by rfl):PA X (e::es) (NG te t):=by
 intro pos pins s σ H Q I h;rw[hs];show wpAny _ _ (spliced ((false,eval e X.env)::backTo pos (starEach es X.env))) _ _ s;refine jI (bL (ha pins s σ H _ I h) λu s1 ⟨x,H1,I1,r1,q1⟩=>?_);exact bL (hr pos pins s1 σ H1 _ I1 q1) λus s2 ⟨xs,H2,I2,r2,q2⟩=>⟨x::xs,H2,I2,.cons r1 r2,q2⟩
def Pz(t:TA):TE:=λσ H Q=>t σ H λxs H1=>xs.length<=sizeLine/\∀p,H1 p=none->Q (.ref p) (upd H1 p (.tup xs))
def O4(t:TA):TE:=λσ H Q=>t σ H λxs H1=>xs.length<=sizeLine/\∀p,H1 p=none->Q (.ref p) (upd H1 p (.lst xs))
def DU{x1}(h:PA X es t):PE X (.Tuple es x1 pos) (Pz t):=by
 intro pins s σ H Q I hq;refine wpAny_Tuple_spliced (bL (h pos pins s σ H _ I hq) λus s1 ⟨xs,H1,I1,r,z,q⟩=>⟨by rw[<- r.length];exact z,?_⟩);have hf:H1 s1.heap.objs.size=none:=I1.hok.fresh (yL _);refine⟨.ref s1.heap.objs.size,upd H1 s1.heap.objs.size (.tup xs),I1.laid (t':=s1.toks) (λb u e=>zT _ e) (yL _) ?_,rfl,q _ hf⟩;exact⟨z,us,r,⟨_,zW _ rfl,rfl,_,rfl⟩,_,zW _ rfl,rfl⟩
def Ga(h:PA X es t):PE X (.List es pos) (O4 t):=by
 intro pins s σ H Q I hq;refine wpAny_List_spliced (bL (h pos pins s σ H _ I hq) λus s1 ⟨xs,H1,I1,r,z,q⟩=>⟨by rw[<- r.length];exact z,?_⟩);have hf:H1 s1.heap.objs.size=none:=I1.hok.fresh (yL _);refine⟨.ref s1.heap.objs.size,upd H1 s1.heap.objs.size (.lst xs),I1.laid (t':=s1.toks) (λb u e=>zT _ e) (yL _) ?_,rfl,q _ hf⟩;exact⟨z,us,0,r,zW _ rfl⟩
abbrev Sp:=List V->Hp->VK->XK->Prop
abbrev G0:=List Env->Hp->Shared->XK->Value->Shared->Prop
structure xy(P:Program)(w:World)(K:W.Frag)(mg:Str->Option Value)(base:Heap)(A:Around)(outer:List Env)(s:Shared)(H:Hp):Prop where
 frames:A.frames=some outer
 mod:Mod K mg base
 bs:∀b o,base.get? b=some o->s.heap.get? b=some o/\H b=none
 bsz:base.objs.size<=s.heap.objs.size
 funs:s.heap.FunFrames base outer
 frf:∀b∈eN outer,H b=none
 hok:mq P w H s.heap
 bare:AllBare s.gens
def CE(outer:List Env)(P:Program)(w:World)(H:Hp)(s:Shared)(Q:VK)(u:Value)(s':Shared):Prop :=
 ∃v H',s'.os=s.os/\AllBare s'.gens/\Un (eN outer) [] H H' s.heap s'.heap/\mq P w H' s'.heap/\RelV v u/\Q v H'
def CR(CX:G0)(outer:List Env)(P:Program)(w:World)(H:Hp)(s:Shared)(Q:VK)(E:XK)(r:Result)(s':Shared):Prop :=
 match r with
 | .ok (.ret u)=>CE outer P w H s Q u s'
 | .ok _=>False
 | .error e=>CX outer H s E e s'
structure nA(P:Program)(w:World)(K:W.Frag)(mg:Str->Option Value)(base:Heap)(CX:G0)(k:Nat)(f:Addr)(fd:FuncData)(ps:List Str)(sp:Sp):Prop where
 len:∀vs H Q E,sp vs H Q E->vs.length=ps.length
 run:∀ (A:Around) (outer:List Env) (s:Shared) (H:Hp) (args:Args) (us:List Value) (vs:List V) (Q:VK) (E:XK),fQ k A->xy P w K mg base A outer s H->BindsTo s fd args (ps.zip us)->aM vs us->sp vs H Q E ->
  codeAny (model P w) A (.call (.ref f) args) (CR CX outer P w H s Q E) s
def nA.mono{K:W.Frag}(F:nA P w K mg base CX j f fd ps sp)(h:j<=k) :
  nA P w K mg base CX k f fd ps sp:=⟨F.len,λA outer s H args us vs Q E hr=>F.run A outer s H args us vs Q E (hr.mono h)⟩
def Inv.env0(I:Inv X pins σ H s):xy X.prog X.w X.K X.mg X.base X.A X.stack s H :=
 ⟨I.ok.frames,I.ok.mod,I.bs,yC I.ok.bsz I.sz,I.stack,I.stkFree,I.hok,I.bare⟩
def Inv.after(I:Inv X pins σ H s)(h:CE X.stack X.prog X.w H s Q u s'):EP X pins σ Q u s':=by
 let⟨v,H',os,bare,un,hok,r,q⟩:=h;let⟨hh,g,d,t,os'⟩:=s';obtain rfl:os'=s.os:=os;exact⟨v,H',I.call (h':=hh) (g':=g) (d':=d) (t':=t) (ch:=[]) un hok bare (λb z=>absurd z (by simp)),r,q⟩
def NC(sp:Sp)(dvs:List V)(E:XK)(t:TA):TE:=λσ H Q=>t σ H λvs H1=>sp (vs++dvs) H1 Q E
def Binds(K:W.Frag)(fd:FuncData)(ps:List Str)(ds:List Value):Prop :=
 ∀ (s:Shared) (us:List Value),K.In s.heap->(us++ds).length=ps.length->BindsTo s fd ⟨us,[]⟩ (ps.zip (us++ds))
def Binds.all{K:W.Frag}(h:∀us:List Value,us.length=ps.length->bindArgs fd ⟨us,[]⟩=pure (ps.zip us)):Binds K fd ps []:=λs us _ hl=>by
 rw[qF] at hl ⊢;exact .of_eq (h us hl)
def cq(CX:G0)(X:Cx)(E:XK):Prop:=∀ (pins:List (Addr×Obj)) (σ:St) (H:Hp) (s:Shared) (e:Value) (s':Shared),Inv X pins σ H s->CX X.stack H s E e s'->X.xe e s'
def MW(F:nA X.prog X.w X.K X.mg X.base CX k f fd ps sp)(hr:fQ k X.A)(hb:Binds X.K fd ps ds)(hd:aM dvs ds)(hx:cq CX X E)
  (I:Inv X pins σ H s) (r:aM vs us) (h:sp (vs++dvs) H Q E):wpAny (model X.prog X.w) X.A (call (.ref f) us) (EP X pins σ Q) X.xe s:=by
 have r2:aM (vs++dvs) (us++ds):=r.append hd;have hl:(us++ds).length=ps.length:=by rw[<- r2.length];exact F.len _ _ _ _ h
 refine kZ (jR (F.run X.A X.stack s H ⟨us,[]⟩ (us++ds) (vs++dvs) Q E hr I.env0 (hb s us I.kIn hl) r2 h) λr s' hq=>?_);cases r with
 | error e=>exact hx pins σ H s e s' I hq
 | ok fl =>
  cases fl with
  | ret u=>exact I.after hq
  | next=>exact False.elim hq
  | brk=>exact False.elim hq
  | cont=>exact False.elim hq
def Ar(F:nA X.prog X.w X.K X.mg X.base CX k f fd ps sp)(hr:fQ k X.A)(hg:Gl X x)(hm:X.mg x=some (.ref f))(hk:W.keepIn X.K (.ref f)=true)(hb:Binds X.K fd ps ds)(hd:aM dvs ds)(hx:cq CX X E)
  (ha:PA X (e::es) t) (hdb:(x == ("__debug__":Str))=false:=by decide) (he:starEach (e::es) X.env=(false,eval e X.env)::starEach es X.env:=by rfl) (hpl:(backTo pos (starEach es X.env)).any (·.1)=false:=by rfl) :
  PE X (.Call (.Name x p) (e::es) [] pos) (NC sp dvs E t):=by
 intro pins s σ H Q I h;refine qX (ju I hg hm ?_ hdb);refine W.callWith_K (h₀:=X.base) I.ok.mod.kin hk (bL (ha pos pins s σ H _ I h) λus s1 ⟨vs,H1,I1,r,q⟩=>⟨I1.kIn,?_⟩) he hpl;exact MW F hr hb hd hx I1 r q
structure cA(N P:List Str)(sc:Scope):Prop where
 kind:sc.kind=.function
 co:sc.isCoroutine=false
 gen:sc.isGenerator=false
 nd:N.Nodup
 pre:N.take P.length=P
 par:∀x∈P,sc.names.lookup x=some .local \/ sc.names.lookup x=some .cell
 nofree:∀y∈sc.names,y.2≠.free
def rJ{kindOf:Str->Option NameKind}:∀ {binds:List (Str×Value)}{m:Str->Option Value},(∀v,(x,v)∉binds)->bindL kindOf binds m x=m x
 | [],_,_=>rfl
 | (n,v)::r,m,h=>by
  unfold bindL;rw[rJ λw hw=>h w (zC _ hw)];split
  ·have:x≠n:=by rintro rfl;exact h v zE
   simp[this]
  ·rfl
def r9{kindOf:Str->Option NameKind}:∀ {binds:List (Str×Value)}{m:Str->Option Value},(∀v,(x,v)∉binds)->bindC kindOf binds m x=m x
 | [],_,_=>rfl
 | (n,v)::r,m,h=>by
  unfold bindC;rw[r9 λw hw=>h w (zC _ hw)];split
  ·rfl
  ·have:x≠n:=by rintro rfl;exact h v zE
   simp[this]
def qy{kindOf:Str->Option NameKind}:∀ {P:List Str}{vs:List Value}{i:Nat}{m:Str->Option Value},P.Nodup->P[i]?=some x->vs[i]?=some v->kindOf x=some .local ->
  bindL kindOf (P.zip vs) m x=some v
 | [],_,_,_,_,h,_,_=>by simp at h
 | _::_,[],_,_,_,_,h,_=>by simp at h
 | p::P,w::vs,0,m,nd,h1,h2,hk=>by
  simp at h1 h2;subst h1;subst h2;show bindL kindOf ((p,w)::P.zip vs) m p=_;unfold bindL;rw[rJ λv hv=>(List.nodup_cons.mp nd).1 (vG hv).1,yK hk];simp
 | p::P,w::vs,i+1,m,nd,h1,h2,hk=>by
  show bindL kindOf ((p,w)::P.zip vs) m x=_;unfold bindL;exact qy (i:=i) (List.nodup_cons.mp nd).2 (by simpa using h1) (by simpa using h2) hk
def rZ{kindOf:Str->Option NameKind}:∀ {P:List Str}{vs:List Value}{i:Nat}{m:Str->Option Value},P.Nodup->P[i]?=some x->vs[i]?=some v->kindOf x≠some .local ->
  bindC kindOf (P.zip vs) m x=some v
 | [],_,_,_,_,h,_,_=>by simp at h
 | _::_,[],_,_,_,_,h,_=>by simp at h
 | p::P,w::vs,0,m,nd,h1,h2,hk=>by
  simp at h1 h2;subst h1;subst h2;show bindC kindOf ((p,w)::P.zip vs) m p=_;unfold bindC;rw[r9 λv hv=>(List.nodup_cons.mp nd).1 (vG hv).1,yM hk];simp
 | p::P,w::vs,i+1,m,nd,h1,h2,hk=>by
  show bindC kindOf ((p,w)::P.zip vs) m x=_;unfold bindC;exact rZ (i:=i) (List.nodup_cons.mp nd).2 (by simpa using h1) (by simpa using h2) hk
def start(N:List Str)(vs:List V):St:=vs.map some++List.replicate (N.length - vs.length) none
def oS(CX:G0)(P:Program)(w:World)(K:W.Frag)(mg:Str->Option Value)(base:Heap)(N:List Str)(qual:Str)(scope:Scope)(f:Addr)(cd:Value)(A:Around)(outer:List Env)(s:Shared)(H:Hp)(E:XK):Cx where
 prog:=P
 w:=w
 K:=K
 mg:=mg
 base:=base
 A:=A.deeper (envOfC qual scope s.heap.objs.size f cd)
 N:=N
 s₀:=s
 H₀:=H
 env:=envOfC qual scope s.heap.objs.size f cd
 outer:=outer
 stack:=envOfC qual scope s.heap.objs.size f cd::outer
 ex:=[]
 calm:=true
 fn:=λ_=>true
 pn:=[]
 xe:=λe s'=>wpAny (model P w) (A.deeper (envOfC qual scope s.heap.objs.size f cd)) (leaving (envOfC qual scope s.heap.objs.size f cd) e) (λ_ s''=>CX outer H s E e s'') (λe' s''=>CX outer H s E e' s'') s'
def ou{sc:Scope}{n:Nat}(h:sc.names.lookup x=some .cell):∃c,(cellsFrom n sc.names []).lookup x=some c:=by
 have q:=W.cellsFrom_some sc.names n [] (.inl h);exact Option.isSome_iff_exists.mp q
def rF{CX:G0}{K:W.Frag}{mg:Str->Option Value}{ps:List Str}{scope:Scope}{cd:Value}{A:Around}{outer:List Env}{s:Shared}{E:XK}{us:List Value}{vs:List V}
  (S:cA N ps scope) (hd:A.handled=none) (e0:xy P w K mg base A outer s H) (hl:vs.length=ps.length) (r:aM vs us)
  (x:InCallC s s.heap.objs.size (bindL (envOfC qual scope s.heap.objs.size f cd).kindOf (ps.zip us) λ_=>none) (cellsFrom (s.heap.objs.size+1) scope.names []) (bindC (envOfC qual scope s.heap.objs.size f cd).kindOf (ps.zip us) λ_=>none) s1) :
  Inv (oS CX P w K mg base N qual scope f cd A outer s H E) [] (start N vs) H s1:=by
 have hpl:ps.length<=N.length:=by have:=jB List.length S.pre;rw[jV] at this;lia
 let⟨h1,tk,rfl,hk⟩:=x.done;have noA:∀b:Addr,b∉(oS CX P w K mg base N qual scope f cd A outer s H E).ex:=λb z=>absurd (show b∈([]:List Addr) from z) (by simp);refine⟨⟨e0.mod,S.kind,rfl,rfl,yL _,λy z c h1 h2=>?_,λy hy=>?_,λy c _ h=>?_,λ_=>hd,Around.frames_deeper e0.frames,.inr ⟨rfl,rfl⟩,λb z=>absurd z (noA b),e0.bs,e0.bsz,λb _ _=>noA b,λb z=>absurd z (noA b),e0.funs,e0.frf⟩,
  rfl,e0.bare,Un.kept hk,⟨_,x.toInCall.ns,λi y v h1 h2 h3=>?_⟩,λy c h=>⟨_,x.cell y c h⟩,e0.hok.fresh (yL _),λy c h=>?_,λp hp=>absurd (show p∈([]:List (Addr×Obj)) from hp) (by simp),e0.hok.kept hk,?_⟩
 ·exact name_of_addr x.apart (jY h1) (jY h2)
 ·have hy:scope.names.lookup y=some .cell\/scope.names.lookup y=some .free:=hy;rcases hy with hy|hy
  ·exact ou hy
  ·exact absurd rfl (S.nofree _ (jY hy))
 ·exact jS (x.above y c (jY h))
 ·have hi:i < vs.length:=by
   unfold start at h2;by_cases hi:i < vs.length
   ·exact hi
   ·rw[yS (by simpa using hi)] at h2;rw[yW] at h2;split at h2<;>cases h2
  have ha:vs[i]?=some v:=by
   unfold start at h2;rw[yR (by simpa using hi),zO] at h2;cases e:vs[i]? with
   | none=>rw[e] at h2;cases h2
   | some a=>rw[e] at h2;cases h2;rfl
  let⟨u,hu,rv⟩:=r.get ha;have hp:ps[i]?=some y:=by
   rw[<- S.pre,List.getElem?_take_of_lt (by lia)];exact h1
  have ndP:ps.Nodup:=by rw[<- S.pre];exact S.nd.sublist (List.take_sublist _ _)
  refine⟨u,rv,?_⟩;rcases S.par y (qB hp) with k|k
  ·exact .inl ⟨k,qy ndP hp hu k⟩
  ·let⟨c,e⟩:=ou (n:=s.heap.objs.size+1) k;refine .inr ⟨.inl k,c,e,?_⟩;have q:=x.cell y c e;rw[rZ ndP hp hu (by show scope.names.lookup y≠_;rw[k];decide)] at q;exact q
 ·exact e0.hok.fresh (jS (x.above y c (jY h)))
 ·unfold start;show _=N.length;rw[zN,zD,xK];lia
def De{K:W.Frag}{kV:Value}
  {osl:Array (Option Value)}{N ps:List Str}{sp:Sp}(lk:K.lookup f=some ⟨oc,od,.func (W.fnOf name qual params body scope dV kV doc pm an cdv ct),osl⟩) (hcd:W.codeIn K cdv qual=true) (S:cA N ps scope)
  (len:∀vs H Q E,sp vs H Q E->vs.length=ps.length)
  (hbody:∀ (A:Around) (outer:List Env) (s:Shared) (H:Hp) (vs:List V) (Q:VK) (E:XK),fQ k (A.deeper (envOfC qual scope s.heap.objs.size f cdv))->sp vs H Q E ->
   ∃t,uc (oS CX P w K mg base N qual scope f cdv A outer s H E) body t/\t { nx:=λ_ H'=>Q .non H',rt:=Q } (start N vs) H) :
  nA P w K mg base CX (k+1) f (W.fnOf name qual params body scope dV kV doc pm an cdv ct) ps sp:=by
 refine⟨len,λA outer s H args us vs Q E hr e0 hb r hsp=>?_⟩;have hl:=len _ _ _ _ hsp;have KX:K.In s.heap:=e0.mod.kin.keeps λb o e=>(e0.bs b o e).1;have lim:s.heap.NoLimit:=e0.mod.nolimit.keeps λb o e=>(e0.bs b o e).1;have hkind:∀y∈ps.zip us,scope.names.lookup y.1=some .local \/ (scope.names.lookup y.1=some .cell/\((cellsFrom (s.heap.objs.size+1) scope.names []).lookup y.1).isSome=true):=λ⟨n,v⟩ hy=>by
  rcases S.par n (vG hy).1 with q|q
  ·exact .inl q
  ·exact .inr ⟨q,W.cellsFrom_some _ _ _ (.inl q)⟩
 refine codeAny_call_function hr.depth (KX _ _ lk) rfl S.co S.gen rfl (W.codeRec_of KX hcd) (hb _ _ _ _ ?_);refine wpAny_newFunctionEnv_cells S.kind hkind λenv he s1 x=>?_;subst he;refine⟨lim.keeps x.toInCall.keep,codeAny_func ?_⟩;let⟨t,ht,hq⟩:=hbody A outer s H vs Q E (hr.deeper _) hsp;have I:Inv (oS CX P w K mg base N qual scope f cdv A outer s H E) [] (start N vs) H s1:=rF S hr.hd e0 hl r x;refine yZ (ht [] s1 (start N vs) H _ I hq) (λfl s' hs=>?_) λe s' hs=>hs;have fin:∀ {σ':St}{H':Hp}{v:V}{u:Value},Inv (oS CX P w K mg base N qual scope f cdv A outer s H E) [] σ' H' s'->RelV v u->Q v H'->CE outer P w H s Q u s' :=
  λ{σ' H' v u} J rv q=>⟨v,H',J.os,J.bare,J.base,J.hok,rv,q⟩
 cases fl with
 | ret u =>
  let⟨v,σ',H',J,rv,q⟩:=hs;exact fin J rv q
 | next =>
  let⟨σ',H',J,q⟩:=hs;exact fin (v:=V.non) (u:=Value.none) J rfl q
 | brk =>
  let⟨_,_,_,q⟩:=hs;exact False.elim q
 | cont =>
  let⟨_,_,_,q⟩:=hs;exact False.elim q
section
variable {id T:String}
def OS(r:List V->Hp->VK->Prop)(t:TA):TE:=λσ H Q=>t σ H λvs H1=>r vs H1 Q
def lT(hc:du X (.builtin id) r)(hg:Gl X x)(hm:X.mg x=none)(hv:bootBuiltins x=some (.builtin id))(ha:PA X (e::es) t)(hn:x≠"__name__":=by decide)(hdb:(x == ("__debug__":Str))=false:=by decide)
  (he:starEach (e::es) X.env=(false,eval e X.env)::starEach es X.env:=by rfl) (hpl:(backTo pos (starEach es X.env)).any (·.1)=false:=by rfl):PE X (.Call (.Name x p) (e::es) [] pos) (OS r t):=by
 intro pins s σ H Q I h;refine qX (iT I hg hm hv ?_ hn hdb);exact PyProof.Rows.callWith_builtin1 (bL (ha pos pins s σ H _ I h) λus s1 ⟨vs,H1,I1,r1,q1⟩=>hc pins s1 σ H1 vs us Q I1 r1 q1) he hpl
def jm(hc:du X (.type T) r)(hg:Gl X x)(hm:X.mg x=none)(hv:bootBuiltins x=some (.type T))(ha:PA X (e::es) t)(hn:x≠"__name__":=by decide)(hdb:(x == ("__debug__":Str))=false:=by decide)
  (he:starEach (e::es) X.env=(false,eval e X.env)::starEach es X.env:=by rfl) (hpl:(backTo pos (starEach es X.env)).any (·.1)=false:=by rfl):PE X (.Call (.Name x p) (e::es) [] pos) (OS r t):=by
 intro pins s σ H Q I h;refine qX (iT I hg hm hv ?_ hn hdb);exact qS (bL (ha pos pins s σ H _ I h) λus s1 ⟨vs,H1,I1,r1,q1⟩=>hc pins s1 σ H1 vs us Q I1 r1 q1) he hpl
end
end L2
namespace HT
open PySem PyProof.Rows
def lexLt:List Int->List Int->Bool
 | [],[]=>false
 | [],_::_=>true
 | _::_,[]=>false
 | x::xs,y::ys=>if x=y then lexLt xs ys else decide (x < y)
def dk(x y:Int)(xs ys:List Int):lexLt (x::xs) (y::ys)=if x=y then lexLt xs ys else decide (x < y):=rfl
def pX:lexLt [] []=false:=rfl
def oV(y:Int)(ys:List Int):lexLt [] (y::ys)=true:=rfl
def pj(x:Int)(xs:List Int):lexLt (x::xs) []=false:=rfl
def EV(A:Around)(s:Shared)(a:Int)(t:Tok)(c:Int)(u:Tok):∃e,SeqAt.EqAt A s (.int a t) (.int c u) e/\(e=true↔a=c) :=
 ⟨(a == c),SeqAt.EqAt.int_int a t c u,by simp⟩
def C8(A:Around)(s:Shared)(a:Int)(t:Tok)(c:Int)(u:Tok)(prog:Program)(w:World)(E:Value->Shared->Prop)(Q:Value->Shared->Prop)(h:Q (.bool (decide (a < c))) s) :
  wpAny (model prog w) A (richCompare .Lt (.int a t) (.int c u)) Q E s :=
 (PyProof.Rows.lt_int h:wpAny (model prog w) A (compareOp .Lt (.int a t) (.int c u)) Q E s)
section
open PySem.SeqAt
open PySem.AutoSeq1 (wpAny_loadPart')
open PySem.MeetsSeq PySem.MeetsSeq2 PySem.MeetsSeq3
def qg(l b:Addr)(items items2:Array Value)(n n2:Nat)(dd dd2:Option Addr)(sl sl2:Array (Option Value))(ns ms:List Int)(hi:IntsAre items.toList ns)(hj:IntsAre items2.toList ms) :
  Meets (Builtin.«tuple.__lt__» ⟨[.ref l,.ref b],[]⟩)
   (λ_ R s=>s.heap.get? l=some { cls:=.type "tuple",dict:=dd,data:=.seq items n,slots:=sl }/\s.heap.get? b=some { cls:=.type "tuple",dict:=dd2,data:=.seq items2 n2,slots:=sl2 } /\
    R (.ok (.ret (.bool (lexLt ns ms)))) s) :=
 .of_wp λprog w A R s h=>by
  let⟨hp,g,d,tk,os⟩:=s;let⟨hl,hb,h⟩:=h;have f2:=AutoSeq1.sub_tuple_tuple;have z1:items.size=ns.length:=by rw[<- hi.length];simp
  have z2:items2.size=ms.length:=by rw[<- hj.length];simp
  wp_walk using wpAny_loadPart' hl,wpAny_loadPart' hb,wpAny_forIn_list _ (λrest b s'=>b.1=none/\s'=⟨hp,g,d,tk,os⟩/\∃ (vs ws:List Value) (ns' ms':List Int),rest=vs.zip ws /\
   IntsAre vs ns'/\IntsAre ws ms'/\ns'.length+items2.size=ms'.length+items.size/\R (.ok (.ret (.bool (lexLt ns' ms')))) ⟨hp,g,d,tk,os⟩) _
  case turn =>
   rintro⟨y,x⟩ rest b s' ⟨hb',rfl,vs,ws,ns',ms',hz,hvi,hwi,hlen,hR⟩;cases hvi with
   | nil=>rw[List.zip_nil_left] at hz;cases hz
   | cons a t hvi' =>
    cases hwi with
    | nil=>rw[List.zip_nil_right] at hz;cases hz
    | cons c u hwi' =>
     rw[List.zip_cons_cons] at hz;injection hz with hyx hrest
     injection hyx with hy hx
     subst hy hx;rw[dk] at hR;simp?[zL] at hlen;let⟨e,he,hiff⟩:=EV A.in1 ⟨hp,g,d,tk,os⟩ a t c u;refine zU (he prog w _ _ ?_);cases e with
     | true =>
      rw[yK (hiff.mp rfl)] at hR
      wp_walk
      exact⟨rfl,rfl,_,_,_,_,hrest,hvi',hwi',by lia,hR⟩
     | false =>
      rw[yM (λq=>absurd (hiff.mpr q) yY)] at hR;have hri:=C8 A.in1 ⟨hp,g,d,tk,os⟩ a t c u prog w
      wp_walk using hri
      exact⟨_,rfl,by simpa using hR⟩
  case fin =>
   rintro⟨b1,b2⟩ s' ⟨hb',rfl,vs,ws,ns',ms',hz,hvi,hwi,hlen,hR⟩;simp only at hb';subst hb';have hv:lexLt ns' ms'=decide (items.size < items2.size):=by
    cases hvi with
    | nil =>
     cases hwi with
     | nil =>
      simp?[xJ] at hlen;rw[pX];exact (zY (by lia)).symm
     | cons c u hw =>
      simp?[xJ,zL] at hlen;rw[oV];exact (zZ (by lia)).symm
    | cons a t hv =>
     cases hwi with
     | nil =>
      simp?[xJ,zL] at hlen;rw[pj];exact (zY (by lia)).symm
     | cons c u hw =>
      rw[List.zip_cons_cons] at hz;cases hz
   rw[hv] at hR
   wp_walk
   exact⟨_,rfl,by simpa [Builtin.Tuple.tupleCompareSizes] using hR⟩
  case h =>
   exact⟨rfl,rfl,items.toList,items2.toList,ns,ms,rfl,hi,hj,by lia,h⟩
end
def za{items:Array Value}(hl:IsTup s.heap l items)(hb:IsTup s.heap b items2)(hi:IntsAre items.toList ns)(hj:IntsAre items2.toList ms)
  (hu:A.units < cLine) (h:Q (.bool (lexLt ns ms)) s):wpAny (model prog w) A (compareOp .Lt (.ref l) (.ref b)) Q E s:=by
 let⟨⟨cls,dd,data,sl⟩,ho,hc,n,hd⟩:=id hl;let⟨⟨cls2,dd2,data2,sl2⟩,ho2,hc2,n2,hd2⟩:=id hb;simp only at hc hd hc2 hd2;subst hc hd hc2 hd2;exact richCompare_meets_room (op:=.Lt) ⟨_,ho,rfl⟩ ⟨_,ho2,rfl⟩ PySem.F.slot_tuple_lt PySem.F.entry_tuple_lt (PySem.F.args_tuple_lt_2 _ _) (qg l b items items2 n n2 dd dd2 sl sl2 ns ms hi hj)
  ⟨ho,ho2,show Value.bool (lexLt ns ms)≠Value.notImplemented/\Q (.bool (lexLt ns ms)) s from ⟨(λx=>nomatch x),h⟩⟩ hu
def ID(ht:IsTup s.heap t vs.toArray)(hb:IsTup s.heap b ws.toArray)(hv:vs≠[])
  (h1:ws=[]->Q (.ref t) s) (h2:ws≠[]->Q (.ref s.heap.objs.size) { s with heap:=s.heap.push { cls:=.type "tuple",data:=.seq (vs++ws).toArray } })
  (hsz:vs.length+ws.length<=sizeLine):wpAny (model prog w) A (binaryOp .Add (.ref t) (.ref b)) Q E s:=by
 let⟨⟨cls,dd,data,sl⟩,ho,hc,n,hd⟩:=id ht;let⟨⟨cls2,dd2,data2,sl2⟩,ho2,hc2,n2,hd2⟩:=id hb;simp only at hc hd hc2 hd2;subst hc hd hc2 hd2;have e:vs.toArray++ws.toArray=(vs++ws).toArray:=by simp
 by_cases hw:ws=[]
 ·exact wA ⟨_,ho,rfl⟩ ⟨_,ho2,rfl⟩ noFill_tuple_add seq_tuple_add vB kX (kS _ _)
   (tuple_addW1 t b vs.toArray ws.toArray n n2 dd dd2 sl sl2 (by simpa using hv) (by simp[hw])) ⟨ho,ho2,h1 hw⟩
 ·refine wA ⟨_,ho,rfl⟩ ⟨_,ho2,rfl⟩ noFill_tuple_add seq_tuple_add vB kX (kS _ _)
   (tuple_addW2 t b vs.toArray ws.toArray n n2 dd dd2 sl sl2 (by simpa using hv) (by simpa using hw) (by rw[zH,zH];exact hsz)) ⟨ho,ho2,?_⟩
  rw[e];exact h2 hw
def bO(n d:Nat):Option Int->Nat
 | none=>d
 | some v=>if v < 0 then (v+(n:Int)).toNat else min v.toNat n
def iK(n d:Nat)(hd:d<=n)(o:Option Int):bO n d o<=n:=by
 cases o with
 | none=>exact hd
 | some v =>
  show (if v < 0 then (v+(n:Int)).toNat else min v.toNat n)<=n;by_cases hv:v < 0
  ·rw[yK hv];lia
  ·rw[yM hv];exact Nat.min_le_right _ _
def Ag(v:Int)(n d:Nat):(if v < 0 then max (v+(n:Int)) 0 else min v (n:Int))=((bO n d (some v):Nat):Int):=by
 show (if v < 0 then max (v+(n:Int)) 0 else min v (n:Int))=(((if v < 0 then (v+(n:Int)).toNat else min v.toNat n):Nat):Int)
 by_cases hv:v < 0
 ·simp?[yK hv];lia
 ·simp?[yM hv];lia
def xx(lo hi:Option Int)(n:Nat):Builtin.Slice.sliceAdjust lo hi 1 (n:Int)=(((bO n 0 lo:Nat):Int),((bO n n hi:Nat):Int)):=by
 have h1:¬ ((1:Int) < 0):=by lia
 unfold Builtin.Slice.sliceAdjust;simp?[h1,qP];refine Prod.ext ?_ ?_
 ·cases lo with
  | none=>rfl
  | some v=>exact Ag v n 0
 ·cases hi with
  | none=>rfl
  | some v=>exact Ag v n n
def y0(i j:Nat):Builtin.Slice.slicePlaces (i:Int) (j:Int) 1=j - i:=by
 unfold Builtin.Slice.slicePlaces;have h1:(1:Int) > 0:=by lia
 simp?[h1,xG,Int.ediv_one];split<;>lia
def pA(p:IsPart v o)(h:Q o s):wpAny (model prog w) A (Builtin.Slice.slicePartIndex v) Q E s:=by
 cases p with
 | none=>exact slicePart_none h
 | int i t=>exact slicePart_int h
def gQ{vl:Value}{lo hi:Option Int}{n:Nat}{Q:Int×Int×Nat->Shared->Prop}(hs:s.heap.IsSliceOf sl vl vu .none)(pl:IsPart vl lo)(pu:IsPart vu hi)
  (h:Q (((bO n 0 lo:Nat):Int),1,bO n n hi - bO n 0 lo) s):wpAny (model prog w) A (Builtin.Slice.sliceApplied (.ref sl) (pure (n:Int))) Q E s:=by
 let⟨os,hos,hcs,hds⟩:=id hs;unfold Builtin.Slice.sliceApplied Builtin.Slice.sliceFields;refine zU (zU (qT hos hds (x:=vl) rfl (zU (qT hos hds (x:=vu) rfl (zU (qT hos hds (x:=.none) rfl (zV ?_)))))));refine zU (slicePart_none ?_);show wpAny _ _ (if ((1:Int) == 0)=true then _ else _) _ _ s;rw[yM (by decide)];refine zU (pA pl (zU (pA pu (zU (zV ?_)))));show wpAny _ _ (match Builtin.Slice.sliceAdjust lo hi 1 (n:Int) with|(lo,hi)=>pure (lo,(1:Int),Builtin.Slice.slicePlaces lo hi 1)) _ _ s;rw[xx lo hi n];show wpAny _ _ (pure (((bO n 0 lo:Nat):Int),(1:Int),Builtin.Slice.slicePlaces ((bO n 0 lo:Nat):Int) ((bO n n hi:Nat):Int) 1)) _ _ s;rw[y0];exact zV h
def E9(xs:Array Value)(i k:Nat):((List.range k).filterMap λ(m:Nat)=>xs[((i:Int)+(m:Int) * 1).toNat]?).toArray=((xs.toList.drop i).take k).toArray:=by
 have e:(λ(m:Nat)=>xs[((i:Int)+(m:Int) * 1).toNat]?)=λm=>xs[i+m]?:=by
  funext m;have:((i:Int)+(m:Int) * 1).toNat=i+m:=by lia
  rw[this]
 rw[e];have:=pick_run xs i k;rw[List.filterMap_map] at this;have e2:((λx=>xs[x]?) ∘ λx=>i+x)=λm=>xs[i+m]?:=rfl;rw[e2] at this;rw[this]
def lz{items:Array Value}{vl:Value}{lo:Option Int}(ht:IsTup s.heap t items)(hs:s.heap.IsSliceOf sl vl vu .none)(pl:IsPart vl lo)(pu:IsPart vu hi)
  (hw:¬ (bO items.size 0 lo=0/\bO items.size items.size hi=items.size))
  (h:Q (.ref s.heap.objs.size) { s with heap:=s.heap.push { cls:=.type "tuple",data:=.seq ((items.toList.drop (bO items.size 0 lo)).take (bO items.size items.size hi - bO items.size 0 lo)).toArray } })
  (hsz:items.size<=sizeLine):wpAny (model prog w) A (getItem (.ref t) (.ref sl)) Q E s:=by
 have htake:sizeOk (.seq ((items.toList.drop (bO items.size 0 lo)).take (bO items.size items.size hi - bO items.size 0 lo)).toArray):=by
  show ((items.toList.drop (bO items.size 0 lo)).take (bO items.size items.size hi - bO items.size 0 lo)).toArray.size<=sizeLine;rw[zH,jV,qH,vR];lia
 have hj:bO items.size items.size hi<=items.size:=iK _ _ (yL _) hi;let⟨os,hos,hcs,hds⟩:=id hs;have hTs:s.TypeIs (.ref sl) "slice":=⟨os,hos,hcs⟩
 unfold getItem
 try with_reducible refine xX ?_
 first|refine zU (zV ?_)|skip
 refine zU (wpAny_sequenceKey ht.typeIs (by decide) ?_);refine zU (qC (name:=Str.ofString "__getitem__") ht.typeIs jE
  (qU jE ht.typeIs entry_tuple_getitem ?_ (args_tuple_getitem _ _)))
 show wpAny _ _ (Builtin.Tuple.tupleItemsOf (.ref t) >>= _) _ _ s;refine zU (tupleItemsOf_ ht ?_);refine zU (vY hTs ?_);rw[yK (by decide)];refine zU (gQ hs pl pu ?_);have hno:¬ ((((bO items.size 0 lo:Nat):Int) == 0&&(1:Int) == 1&&(bO items.size items.size hi - bO items.size 0 lo) == items.size)=true):=by
  intro q;rw[zF,zF] at q;have q1:((bO items.size 0 lo:Nat):Int)=0:=eq_of_beq q.1.1;have q2:bO items.size items.size hi - bO items.size 0 lo=items.size:=eq_of_beq q.2;exact hw ⟨by lia,by lia⟩
 show wpAny _ _ (if (((bO items.size 0 lo:Nat):Int) == 0&&(1:Int) == 1&&(bO items.size items.size hi - bO items.size 0 lo) == items.size)=true then _ else _) _ _ s;rw[yM hno,E9]
 first
  | exact zU (m:=Builtin.Tuple.tupleExact _) (qL (zV ⟨_,rfl,zV h⟩) htake)
  | exact zU (m:=Builtin.Tuple.tupleExact _) (qL (zU (zV (zV ⟨_,rfl,zV h⟩))) htake)
  | exact zU (zU (m:=Builtin.Tuple.tupleExact _) (qL (zV (zV ⟨_,rfl,zV h⟩)) htake))
  | exact zU (zU (m:=Builtin.Tuple.tupleExact _) (qL (zV ⟨_,rfl,zV h⟩) htake))
end HT
namespace L2
open PySem PySem.Spec PyProof.Rows
abbrev TO:=St->Hp->(Option Int->Hp->Prop)->Prop
def PO(X:Cx)(e:Option Expr)(t:TO):Prop :=
 ∀ (pins:List (Addr×Obj)) (s:Shared) (σ:St) (H:Hp) (Q:Option Int->Hp->Prop),Inv X pins σ H s->t σ H Q ->
  wpAny (model X.prog X.w) X.A (evalPart e X.env) (λu s'=>∃o H',Inv X pins σ H' s'/\IsPart u o/\Q o H') X.xe s
def Jl:TO:=λ_ H Q=>Q none H
def ND(t:TE):TO:=λσ H Q=>t σ H λx H1=>∃i,x=.int i/\Q (some i) H1
def intsAre_of:∀ {us:List Value},aM (ns.map V.int) us->IntsAre us ns:=by
 induction ns with
 | nil=>intro us r;rw[yT] at r;cases r;exact .nil
 | cons n ns ih =>
  intro us r;rw[zI] at r;cases r with
  | cons r1 r2 =>
   let⟨t,e⟩:=r1;subst e;exact .cons n t (ih r2)
section
variable {lo hi:Option Expr}
def HW:PO X none Jl:=by
 intro pins s σ H Q I h;rw[evalPart_none];exact zV ⟨none,H,I,.none,h⟩
def IB(h:PE X e te):PO X (some e) (ND te):=by
 intro pins s σ H Q I hw;rw[evalPart_some];refine bL (h pins s σ H _ I hw) λu s1 ⟨x,H1,I1,r1,q1⟩=>?_;let⟨i,rfl,q⟩:=q1;let⟨t,rfl⟩:=r1;exact⟨some i,H1,I1,.int i t,q⟩
def Ib(X:Cx)(r:V->Option Int->Option Int->Hp->VK->Prop):Prop :=
 ∀ (pins:List (Addr×Obj)) (s:Shared) (σ:St) (H:Hp) (x:V) (v vl vu:Value) (lo hi:Option Int) (sl:Addr) (Q:VK),Inv X pins σ H s->RelV x v->s.heap.IsSliceOf sl vl vu .none->IsPart vl lo->IsPart vu hi->r x lo hi H Q ->
  ∃T id,typeLookup (.type T) "__getitem__"=pure (some (.builtin id))/\s.TypeIs v T/\wpAny (model X.prog X.w) X.A (getItem v (.ref sl)) (EP X pins σ Q) X.xe s
def Ib.or(h:Ib X r)(h':Ib X r'):Ib X (λx lo hi H Q=>r x lo hi H Q\/r' x lo hi H Q):=by
 intro pins s σ H x v vl vu lo hi sl Q I rx hs pl pu q;rcases q with q|q
 ·exact h pins s σ H x v vl vu lo hi sl Q I rx hs pl pu q
 ·exact h' pins s σ H x v vl vu lo hi sl Q I rx hs pl pu q
def Q5(r:V->Option Int->Option Int->Hp->VK->Prop)(te:TE)(tl th:TO):TE:=λσ H Q=>te σ H λx H1=>tl σ H1 λl H2=>th σ H2 λu H3=>r x l u H3 Q
def vf(hr:Ib X r)(he:PE X e te)(hl:PO X lo tl)(hu:PO X hi th):PE X (.Subscript e (.Slice lo hi none p2) pos) (Q5 r te tl th):=by
 intro pins s σ H Q I h;refine Subscript_ (bL (he pins s σ H _ I h) λv s1 ⟨x,H1,I1,r1,q1⟩=>?_);refine wpAny_Slice (bL (hl pins s1 σ H1 _ I1 q1) λvl s2 ⟨l,H2,I2,pl,q2⟩=>bL (hu pins s2 σ H2 _ I2 q2) λvu s3 ⟨u,H3,I3,pu,q3⟩=>?_);rw[evalPart_none];refine zV ?_;have I4:Inv X pins σ H3 { s3 with heap:=s3.heap.push { cls:=.type "slice",data:=.fields #[vl,vu,.none] } }:=I3.kept (t':=s3.toks) λb ob q=>zT _ q;let⟨T,id,hT,ht,hg⟩:=hr pins { s3 with heap:=s3.heap.push { cls:=.type "slice",data:=.fields #[vl,vu,.none] } } σ H3 x v vl vu l u s3.heap.objs.size Q I4 r1 (Heap.IsSliceOf.new ..) pl pu q3;show wpAny (model X.prog X.w) X.A (subscriptTail e (.Slice lo hi none p2) v (.ref s3.heap.objs.size)) (EP X pins σ Q) X.xe { s3 with heap:=s3.heap.push { cls:=.type "slice",data:=.fields #[vl,vu,.none] } };exact tail_any (ops:=[.ref s3.heap.objs.size,v]) ht hT hg (by with_unfolding_all rfl)
def Hl(xs:List V)(lo hi:Option Int):List V:=(xs.drop (HT.bO xs.length 0 lo)).take (HT.bO xs.length xs.length hi - HT.bO xs.length 0 lo)
def uL(xs:List V)(lo hi:Option Int):(Hl xs lo hi).length<=xs.length:=by
 unfold Hl;rw[jV,qH];lia
def PV(K:W.Frag):V->Option Int->Option Int->Hp->VK->Prop:=λx lo hi H Q=>∃a xs,x=.ref a/\gT K H a xs /\
 ¬ (HT.bO xs.length 0 lo=0/\HT.bO xs.length xs.length hi=xs.length)/\∀p,H p=none->Q (.ref p) (upd H p (.tup (Hl xs lo hi)))
def Lq:Ib X (PV X.K):=by
 intro pins s σ H x v vl vu lo hi sl Q I rx hs pl pu h;let⟨a,xs,rfl,hx,hw,q⟩:=h;cases rx;let⟨its,r,ht,hz⟩:=I.tuple hx;have hlen:its.toArray.size=xs.length:=by rw[zH];exact r.length.symm
 refine⟨"tuple",_,PyProof.Rows.slot_tuple_getitem.lookup,ht.typeIs,?_⟩;refine HT.lz ht hs pl pu (by rw[hlen];exact hw) ?_ (by rw[hlen];exact hz);rw[hlen];refine⟨.ref s.heap.objs.size,_,I.laid (t':=s.toks) (o:=.tup (Hl xs lo hi)) (λb ob q=>zT _ q) (yL _) ?_,rfl,q _ (I.hok.fresh (yL _))⟩;exact⟨yC (uL xs lo hi) hz,_,(r.drop (HT.bO xs.length 0 lo)).take (HT.bO xs.length xs.length hi - HT.bO xs.length 0 lo),n5.new _ _⟩
def NF(K:W.Frag):R2:=λx y H Q=>∃a b xs ys,x=.ref a/\y=.ref b/\gT K H a xs/\gT K H b ys/\xs≠[]/\xs.length+ys.length<=sizeLine /\
 (ys=[]->Q (.ref a) H)/\(ys≠[]->∀p,H p=none->Q (.ref p) (upd H p (.tup (xs++ys))))
def aM.nil_iff(r:aM xs us):us=[]↔xs=[]:=by
 cases r with
 | nil=>simp
 | cons _ _=>simp
def HN:eU X (binaryOp .Add) (NF X.K):=by
 intro pins s σ H x y v u Q I rx ry h;let⟨a,b,xs,ys,rfl,rfl,ha,hb,hx,hz,q1,q2⟩:=h;cases rx;cases ry;let⟨its,r1,p1,_⟩:=I.tuple ha;let⟨its2,r2,p2,_⟩:=I.tuple hb;refine HT.ID p1 p2 (λz=>hx (r1.nil_iff.mp z)) (λz=>⟨.ref a,H,I,rfl,q1 (r2.nil_iff.mp z)⟩) (λz=>?_) (by rw[<- r1.length,<- r2.length];exact hz);refine⟨.ref s.heap.objs.size,_,I.laid (t':=s.toks) (o:=.tup (xs++ys)) (λb ob q=>zT _ q) (yL _) ?_,rfl,q2 (λw=>z (r2.nil_iff.mpr w)) _ (I.hok.fresh (yL _))⟩;exact⟨by rw[zN];exact hz,_,r1.append r2,n5.new _ _⟩
end
def HZ(n:Nat)(i:Int):Option Nat:=if 0<=i then (if i < n then some i.toNat else none) else if -(n:Int)<=i then some (i+n).toNat else none
def md(xs:List α)(i:Int):Option α:=(HZ xs.length i).bind λj=>xs[j]?
def Au(h:HZ n i=some j):seqIndex? i n=some j/\j < n/\-(n:Int)<=i/\i < n:=by
 unfold HZ at h;by_cases h0:0<=i
 ·rw[yK h0] at h;by_cases h1:i < n
  ·rw[yK h1] at h;have e:i.toNat=j:=xC h;exact⟨by rw[seqIndex_of h0 h1,e],by lia,by lia,h1⟩
  ·rw[yM h1] at h;cases h
 ·rw[yM h0] at h;by_cases h1:-(n:Int)<=i
  ·rw[yK h1] at h;have e:(i+n).toNat=j:=xC h;exact⟨by rw[seqIndex_neg (by lia) h1,e],by lia,h1,by lia⟩
  ·rw[yM h1] at h;cases h
def sH(h:md xs i=some v):∃j,seqIndex? i xs.length=some j/\xs[j]?=some v/\j < xs.length/\-(xs.length:Int)<=i/\i < xs.length:=by
 unfold md at h;cases e:HZ xs.length i with
 | none=>rw[e] at h;cases h
 | some j =>
  rw[e] at h;let⟨h1,h2,h3,h4⟩:=Au e;exact⟨j,h1,h,h2,h3,h4⟩
def A8{α:Type}{xs:List α}{j:Nat}{v:α}(h:xs[j]?=some v):md xs (j:Int)=some v:=by
 have hj:j < xs.length:=(List.getElem?_eq_some_iff.mp h).1;have e:HZ xs.length (j:Int)=some j:=by
  unfold HZ;rw[yK (by lia),yK (by lia)];simp
 unfold md;rw[e];exact h
def nN(b:Expr):Prop:=∀o i,subscripted b false o i=operate [o,i] (getItem o i)
def GN(X:Cx)(r:R2):Prop :=
 ∀ (value slice:Expr) (pins:List (Addr×Obj)) (s:Shared) (σ:St) (H:Hp) (x y:V) (v u:Value) (Q:VK),Inv X pins σ H s->RelV x v->RelV y u->r x y H Q ->
  subscripted slice false v u=operate [v,u] (getItem v u)->wpAny (model X.prog X.w) X.A (subscriptTail value slice v u) (EP X pins σ Q) X.xe s
def QE(X:Cx)(id:String)(r:V->List V->Hp->VK->Prop):Prop :=
 ∀ (pins:List (Addr×Obj)) (s:Shared) (σ:St) (H:Hp) (x:V) (xs:List V) (v:Value) (us:List Value) (Q:VK),Inv X pins σ H s->RelV x v->aM xs us->r x xs H Q ->
  wpAny (model X.prog X.w) X.A (call (.builtin id) (v::us)) (EP X pins σ Q) X.xe s
section
def GN.or(h:GN X r)(h':GN X r'):GN X (λx y H Q=>r x y H Q\/r' x y H Q):=by
 intro value slice pins s σ H x y v u Q I rx ry q hs;rcases q with q|q
 ·exact h value slice pins s σ H x y v u Q I rx ry q hs
 ·exact h' value slice pins s σ H x y v u Q I rx ry q hs
def J6(hr:GN X r)(ha:PE X a ta)(hb:PE X b tb)(hs:nN b):PE X (.Subscript a b pos) (Nt r ta tb):=by
 intro pins s σ H Q I h;exact Subscript_ (MG ha hb I h λv u s2 x y H2 I2 rx ry q=>hr a b pins s2 σ H2 x y v u Q I2 rx ry q (hs _ _))
def N9(K:W.Frag):R2:=λx y H Q=>∃p xs i v,x=.ref p/\y=.int i/\fS K H p xs/\md xs i=some v/\Q v H
def Na(K:W.Frag):R2:=λx y H Q=>∃p xs i v,x=.ref p/\y=.int i/\gT K H p xs/\md xs i=some v/\Q v H
def KP:R2:=λx y H Q=>∃z i c,x=.str z/\y=.int i/\z.length<=sizeLine/\md z.cps.toList i=some c/\Q (.str ⟨#[c]⟩) H
def Ia:GN X (N9 X.K):=by
 intro value slice pins s σ H x y v u Q I rx ry h hs;let⟨p,xs,i,z,rfl,rfl,hq,he,q⟩:=h;cases rx;let⟨t,rfl⟩:=ry;let⟨its,r,pl,hz⟩:=I.list hq;let⟨j,h1,h2,h3,h4,h5⟩:=sH he;let⟨w,ew,rw'⟩:=r.get h2;have hl:=r.length;have hn:=ml;have fin:EP X pins σ Q w s:=⟨z,H,I,rw',q⟩
 by_cases h0:0<=i
 ·have hj:i.toNat=j:=by
   rw[seqIndex_of h0 h5] at h1;exact xC h1
  exact item_listR pl.isList h0 (by lia) (by rw[hj];simpa using ew) fin hs
 ·have hj:(i+(its.toArray.size:Int)).toNat=j:=by
   rw[seqIndex_neg (by lia) h4] at h1;rw[zH,<- hl];exact xC h1
  exact subscriptTail_builtinR (x:=w) pl.isList.typeIs slot_list_getitem.lookup
   (wpAny_getItem_list_neg (Q:=λr s'=>r=w/\EP X pins σ Q r s') pl.isList (by lia) (by rw[zH]<;>lia) (by lia) (by rw[hj];simpa using ew) ⟨rfl,fin⟩) hs
def Fc:GN X (Na X.K):=by
 intro value slice pins s σ H x y v u Q I rx ry h hs;let⟨p,xs,i,z,rfl,rfl,hq,he,q⟩:=h;cases rx;let⟨t,rfl⟩:=ry;let⟨its,r,pl,hz⟩:=I.tuple hq;let⟨j,h1,h2,h3,h4,h5⟩:=sH he;let⟨w,ew,rw'⟩:=r.get h2;have hl:=r.length;have hn:=ml;have fin:EP X pins σ Q w s:=⟨z,H,I,rw',q⟩
 exact subscriptTail_builtinR (x:=w) pl.typeIs slot_tuple_getitem.lookup
  (getItem_tuple (j:=j) (Q:=λr s'=>r=w/\EP X pins σ Q r s') pl (by lia) (by lia) (by rw[zH,<- hl];exact h1) (by simpa using ew) ⟨rfl,fin⟩) hs
def EU:GN X KP:=by
 intro value slice pins s σ H x y v u Q I rx ry h hs;let⟨z,i,c,rfl,rfl,hz,he,q⟩:=h;let⟨t,rfl⟩:=rx;let⟨t',rfl⟩:=ry;let⟨j,h1,h2,h3,h4,h5⟩:=sH he;have hl:z.cps.toList.length=z.length:=by simp[Str.length]
 rw[hl] at h1 h4 h5;have hn:=ml;exact tail_any (typeIs_str s z t) slot_str_getitem.lookup (getItem_str (c:=c) (by
  have e1:decide (i < -(2 ^ 63:Int))=false:=zY (by lia);have e2:decide (i >= 2 ^ 63)=false:=zY (by lia);rw[e1,e2,Bool.or_false]) (by rw[h1];simpa using h2) ⟨.str ⟨#[c]⟩,H,I.tok _,⟨_,rfl⟩,q⟩) hs
def QB(K:W.Frag):R2:=λx y H Q=>N9 K x y H Q\/Na K x y H Q\/KP x y H Q
def Mw:GN X (QB X.K):=Ia.or (Fc.or EU)
def xq(its:List Value)(n j:Nat)(u:Value):Obj.mapSeq (·.setIfInBounds j u) { cls:=.type "list",data:=.seq its.toArray n }={ cls:=.type "list",data:=.seq (its.set j u).toArray n }:=by
 simp[Obj.mapSeq]
def Inv.lst(I:Inv X pins σ H s)(h:H p=some (.lst xs)) :
  ∃ (its:List Value) (n:Nat),aM xs its/\s.heap.get? p=some { cls:=.type "list",data:=.seq its.toArray n }/\xs.length<=sizeLine:=by
 let⟨z,its,n,r,e⟩:=I.hok p _ h;exact⟨its,n,r,e,z⟩
def Inv.lstUpd{ys:List V}{its its':List Value}{n n':Nat}{f:Obj->Obj}(I:Inv X pins σ H s)(h:H p=some (.lst xs))
  (ho:s.heap.get? p=some { cls:=.type "list",data:=.seq its.toArray n }) (hf:f { cls:=.type "list",data:=.seq its.toArray n }={ cls:=.type "list",data:=.seq its'.toArray n' }) (r:aM ys its') (hz:ys.length<=sizeLine) (t:Nat) :
  Inv X pins σ (upd H p (.lst ys)) { s with heap:=s.heap.update p f,toks:=t }:=by
 have e:(s.heap.update p f).get? p=some { cls:=.type "list",data:=.seq its'.toArray n' }:=by
  rw[Heap.get?_update_self f ho (by rw[hf]<;>rfl),hf]
 refine I.write (x:=p) (e:=p) (by rw[h];trivial) (.inl rfl) (λb u hb q=>(xM _ _ (jM hb)).trans q) ⟨_,e⟩ ?_;exact⟨hz,its',n',r,e⟩
def Nm:V->V->V->Hp->(Hp->Prop)->Prop:=λo i v H Q=>∃p xs k j,o=.ref p/\i=.int k/\H p=some (.lst xs)/\HZ xs.length k=some j/\Q (upd H p (.lst (xs.set j v)))
def set_list:Og X Nm:=by
 intro pins s σ H o i v ov iv u Q I ro ri rv h;let⟨p,xs,k,j,rfl,rfl,hp,hj,q⟩:=h;cases ro;let⟨t,rfl⟩:=ri;let⟨its,n,r,ho,hz⟩:=I.lst hp;let⟨h1,h2,h3,h4⟩:=Au hj;have hl:=r.length;have hn:=ml;have I':Inv X pins σ (upd H p (.lst (xs.set j v))) { s with heap:=s.heap.update p (Obj.mapSeq (·.setIfInBounds j u)) } :=
  I.lstUpd hp ho (xq its n j u) (r.set rv j) (by rw[yB];exact hz) s.toks
 by_cases h0:0<=k
 ·have hk:k.toNat=j:=by
   rw[seqIndex_of h0 h4] at h1;exact xC h1
  exact W.ki_setAt ho h0 (by lia) (by rw[zH,<- hl];exact h4) (by rw[hk];exact⟨_,I',q⟩)
 ·have hk:(k+(its.toArray.size:Int)).toNat=j:=by
   rw[seqIndex_neg (by lia) h3] at h1;rw[zH,<- hl];exact xC h1
  exact W.ki_setBack ho (by lia) (by rw[zH,<- hl];exact h3) (by lia) (by rw[hk];exact⟨_,I',q⟩)
def sX:du X (.builtin "len") (λxs H Q=>∃p ys,xs=[.ref p]/\(fS X.K H p ys\/gT X.K H p ys)/\Q (.int ys.length) H):=by
 intro pins s σ H xs us Q I r h;let⟨p,ys,rfl,hq,q⟩:=h;let⟨u,rfl,rx⟩:=vals1 r;cases rx;have hn:=ml;rcases hq with hq|hq
 ·let⟨its,r',pl,hz⟩:=I.list hq;have hlen:=r'.length;exact Calls.call_len_list pl.isList (by simp?[zH]<;>lia) ⟨.int ys.length,H,I.tok _,⟨s.toks+1,by rw[zH,hlen]⟩,q⟩
 ·let⟨its,r',pl,hz⟩:=I.tuple hq;have hlen:=r'.length;exact len_tuple pl (by simp?[zH]<;>lia) ⟨.int ys.length,H,I.tok _,⟨s.toks+1,by rw[zH,hlen]⟩,q⟩
def td:du X (.builtin "len") (λxs H Q=>∃z,xs=[.str z]/\z.length<=sizeLine/\Q (.int z.length) H):=by
 intro pins s σ H xs us Q I r h;let⟨z,rfl,hz,q⟩:=h;let⟨u,rfl,t,rfl⟩:=vals1 r;have hn:=ml;exact len_str (by lia) ⟨.int z.length,H,I.tok _,⟨_,rfl⟩,q⟩
def uo:du X (.type "list") (λxs H Q=>∃p ys,xs=[.ref p]/\(fS X.K H p ys\/gT X.K H p ys)/\∀l,H l=none->Q (.ref l) (upd H l (.lst ys))):=by
 intro pins s σ H xs us Q I r h;let⟨p,ys,rfl,hq,q⟩:=h;let⟨u,rfl,rx⟩:=vals1 r;cases rx;have fin:∀ (its:List Value),aM ys its->ys.length<=sizeLine->∀ (h':Heap) (c':Nat),(∀b o',s.heap.get? b=some o'->h'.get? b=some o') ->
   h'.get? s.heap.objs.size=some { cls:=.type "list",dict:=none,data:=.seq its.toArray c',slots:=#[] }->EP X pins σ Q (.ref s.heap.objs.size) { s with heap:=h' }:=λits r' hz h' c' kp e =>
  ⟨.ref s.heap.objs.size,_,I.laid (t':=s.toks) kp (yL _) (show ej X.prog X.w _ h' _ (.lst ys) from ⟨hz,its,c',r',e⟩),rfl,q _ (I.hok.fresh (yL _))⟩
 rcases hq with hq|hq
 ·let⟨its,r',pl,hz⟩:=I.list hq;have hlen:=r'.length;let⟨o,ho,hc,n,hd⟩:=pl.isList;exact call_list_seq p (.inl rfl) ho hc hd (λh' c' kp e=>fin its r' hz h' c' kp e) (by simp?[zH]<;>lia)
 ·let⟨its,r',pl,hz⟩:=I.tuple hq;have hlen:=r'.length;let⟨o,ho,hc,n,hd⟩:=pl;exact call_list_seq p (.inr rfl) ho hc hd (λh' c' kp e=>fin its r' hz h' c' kp e) (by simp?[zH]<;>lia)
def qh:du X (.type "tuple") (λxs H Q=>∃p ys,xs=[.ref p]/\((fS X.K H p ys/\∀l,H l=none->Q (.ref l) (upd H l (.tup ys)))\/(gT X.K H p ys/\Q (.ref p) H))):=by
 intro pins s σ H xs us Q I r h;let⟨p,ys,rfl,h⟩:=h;let⟨u,rfl,rx⟩:=vals1 r;cases rx;rcases h with ⟨hq,q⟩|⟨hq,q⟩
 ·let⟨its,r',pl,hz⟩:=I.list hq;have hlen:=r'.length;refine call_tuple_list pl.isList (λh' kp=>?_) (by simp?[zH]<;>lia);have I1:Inv X pins σ H { s with heap:=h' }:=I.kept (t':=s.toks) kp;have I2:Inv X pins σ (upd H h'.objs.size (.tup ys)) { s with heap:=h'.push { cls:=.type "tuple",data:=.seq its.toArray } } :=
   I1.laid (t':=s.toks) (λb o e=>zT _ e) (yL _) (show ej X.prog X.w _ _ _ (.tup ys) from ⟨hz,its,r',n5.new _ _⟩)
  exact⟨.ref h'.objs.size,_,I2,rfl,q _ (I1.hok.fresh (yL _))⟩
 ·let⟨its,r',pl,hz⟩:=I.tuple hq;exact call_tuple_same pl ⟨.ref p,H,I,rfl,q⟩
def QD(K:W.Frag)(T:String)(x:V)(H:Hp):Prop:=match x with
 | .str _=>T="str"
 | .int _=>T="int"
 | .ref p=>(T="list"/\∃xs,fS K H p xs)\/(T="tuple"/\∃xs,gT K H p xs) \/
   (T="dict"/\((∃kvs,H p=some (.dK kvs))\/∃kvs,H p=some (.dT kvs)))\/(T="set"/\∃S n,H p=some (.set S n))
 | _=>False
def Lj(I:Inv X pins σ H s)(r:RelV x v)(ty:QD X.K T x H) :
  s.TypeIs v T/\∀a,v=.ref a->∃ob,s.heap.get? a=some ob/\ob.dict=none:=by
 cases x with
 | str z =>
  let⟨t,rfl⟩:=r;cases (show T="str" from ty);exact⟨typeIs_str s z t,λ_ e=>nomatch e⟩
 | int i =>
  let⟨t,rfl⟩:=r;cases (show T="int" from ty);exact⟨vT s i t,λ_ e=>nomatch e⟩
 | ref p =>
  cases r;rcases ty with ⟨rfl,xs,hq⟩|⟨rfl,xs,hq⟩|⟨rfl,hk⟩|⟨rfl,S,n,hk⟩
  ·let⟨its,_,pl,_⟩:=I.list hq;refine⟨pl.isList.typeIs,λa e=>?_⟩;cases e;let⟨o,n,e,c,hd,_⟩:=pl;exact⟨o,e,hd⟩
  ·rcases hq with hq|⟨o,its,n,hk,hc,hd,_⟩
   ·let⟨_,_,_,⟨o,e1,e2,_⟩,o2,e3,e4⟩:=hq.ok I.hok;exact⟨⟨o,e1,e2⟩,λa e=>by cases e;exact⟨o2,e3,e4⟩⟩
   ·exact⟨⟨o,I.kIn p o hk,hc⟩,λa e=>by cases e;exact⟨o,I.kIn _ o hk,hd⟩⟩
  ·have z:∃o,s.heap.get? p=some o/\o.ExactDict:=by
    rcases hk with ⟨kvs,hk⟩|⟨kvs,hk⟩
    ·let⟨_,_,_,_,o,_,_,e,ex,_⟩:=I.hok p _ hk;exact⟨o,e,ex⟩
    ·let⟨_,_,_,_,o,_,_,e,ex,_⟩:=I.hok p _ hk;exact⟨o,e,ex⟩
   let⟨o,e,ex⟩:=z;refine⟨⟨o,e,ex.1⟩,λa e2=>?_⟩;cases e2;exact⟨o,e,ex.2.1⟩
  ·let⟨o,_,_,_,e,ex,_⟩:=I.hok p _ hk;refine⟨⟨o,e,ex.1⟩,λa e2=>?_⟩;cases e2;exact⟨o,e,ex.2.1⟩
 | _=>exact False.elim ty
def QO(K:W.Frag)(T:String)(r:V->List V->Hp->VK->Prop)(to:TE)(t:TA):TE:=λσ H Q=>to σ H λx H1=>QD K T x H1/\t σ H1 λxs H2=>r x xs H2 Q
variable {T id:String}
def j5(pa:PlainAttrs T)(slot:Slot T name id)(hty:typeOf (.builtin id)=pure (.type "method_descriptor"))(hm:QE X id r)(ho:PE X o to)(ha:PA X (e::es) t)
  (hbase:attributeBase o name X.env (eval o X.env)=eval o X.env:=by rfl)
  (hfew:((backTo cpos (starEach (e::es) X.env)).all (λx=>!x.1)&&(backToKw cpos (keywordEach [] X.env)).all (λx=>x.1.isSome)
   &&decide ((e::es).length+([]:List Keyword).length+(if ([]:List Keyword).isEmpty then 0 else 1) < 30))=true:=by rfl)
  (hline:(apos.endLine == cpos.line)=true:=by rfl) (hs:starEach (e::es) X.env=(false,eval e X.env)::starEach es X.env:=by rfl) (hplain:(backTo cpos (starEach es X.env)).any (·.1)=false:=by rfl) :
  PE X (.Call (.Attribute o name apos) (e::es) [] cpos) (QO X.K T r to t):=by
 intro pins s σ H Q I h;refine wpAny_Call_method_late hbase hfew hline rfl (bL (ho pins s σ H _ I h) λv s1 ⟨x,H1,I1,r1,ty,q1⟩=>?_);let⟨h1,h2⟩:=Lj I1 r1 ty;refine⟨T,id,pa,slot,hty,h1,h2,?_⟩;have hA:=ha cpos pins s1 σ H1 _ I1 q1;rw[hs] at hA ⊢;refine Calls.callWith_builtin (by show (false||(backTo cpos (starEach es X.env)).any (·.1))=false;rw[hplain]<;>rfl) (Calls.evalArgs_plain ?_);exact bL hA λus s2 ⟨vs,H2,I2,r2,q2⟩=>hm pins s2 σ H2 x vs v us Q I2 r1 r2 q2
/- xs.append(e),list.index on a module's tuple .. are QE facts of 06m -/
end
def GM(X:Cx)(id:String)(r:V->List V->Hp->VK->Prop):Prop :=
 ∀ (pins:List (Addr×Obj)) (s:Shared) (σ:St) (H:Hp) (x:V) (xs:List V) (v:Value) (us:List Value) (Q:VK),Inv X pins σ H s->RelV x v->aM xs us->r x xs H Q ->
  wpAny (model X.prog X.w) X.A (call (.builtin id) (v::us)) (EP X pins σ Q) X.xe s
def aM.one:∀ {x:V}{us:List Value},aM [x] us->∃u,us=[u]/\RelV x u
 | _,_,.cons r .nil=>⟨_,rfl,r⟩
def aM.two:∀ {x y:V}{us:List Value},aM [x,y] us->∃u v,us=[u,v]/\RelV x u/\RelV y v
 | _,_,_,.cons r (.cons q .nil)=>⟨_,_,rfl,r,q⟩
def aM.rep(h:aM xs us):∀k:Nat,aM (List.replicate k xs).flatten (List.replicate k us).flatten
 | 0=>.nil
 | k+1=>by
  rw[xD,xD,qM,qM];exact aM.append h (aM.rep h k)
def foldl_rep(its:List Value):∀ (k:Nat) (acc:List Value),
  List.foldl (λx1 x2=>x1++x2) acc.toArray (List.replicate k its.toArray)=(acc++(List.replicate k its).flatten).toArray
 | 0,acc=>by simp
 | k+1,acc=>by
  have e:acc.toArray++its.toArray=(acc++its).toArray:=by simp
  have e2:(acc++its)++(List.replicate k its).flatten=acc++(List.replicate (k+1) its).flatten:=by
   rw[xD,qM,List.append_assoc]
  rw[<- e2,<- foldl_rep its k (acc++its),<- e,xD,List.foldl_cons]
section
variable {xs ys zs:List V}
def Inv.lset{its its':List Value}{n:Nat}{f:Array Value->Array Value}{t':Nat}(I:Inv X pins σ H s)(hH:H l=some (.lst xs))
  (e:s.heap.get? l=some { cls:=.type "list",data:=.seq its.toArray n }) (hf:f its.toArray=its'.toArray) (hv:aM ys its') (hz:ys.length<=sizeLine) :
  Inv X pins σ (upd H l (.lst ys)) { s with heap:=s.heap.update l (Obj.mapSeq f),toks:=t' }:=by
 have q:=PySem.IsL.update e f;rw[hf] at q;refine I.write (x:=l) (e:=l) (by rw[hH];exact trivial) (.inl rfl) (λb' u hb hu=>(xM s.heap (Obj.mapSeq f) (jM hb)).trans hu) ⟨_,q⟩ ?_;exact⟨hz,its',_,hv,q⟩
def Inv.lnew{t':Nat}(I:Inv X pins σ H s)(hv:aM ys its)(hz:ys.length<=sizeLine) :
  Inv X pins σ (upd H s.heap.objs.size (.lst ys)) { s with heap:=s.heap.push { cls:=.type "list",data:=.seq its.toArray },toks:=t' } :=
 I.laid (λ_ _ q=>zT _ q) (yL _) ⟨hz,its,0,hv,zW _ rfl⟩
def Inv.fresh(I:Inv X pins σ H s):H s.heap.objs.size=none:=I.hok.fresh (yL _)
def Inv.lstM(I:Inv X pins σ H s)(hH:H l=some (.lst xs)):xs.length<=sizeLine/\∃ (its:List Value) (n:Nat),aM xs its/\xs.length=its.length/\s.heap.get? l=some { cls:=.type "list",data:=.seq its.toArray n }:=by
 let⟨z,its,n,r,e⟩:=I.hok l _ hH;exact⟨z,its,n,r,r.length,e⟩
def vz(h:n<=sizeLine):Builtin.List.listTooLong n=false:=by
 unfold Builtin.List.listTooLong;exact zY (by lia)
end
def Iy:V->List V->Hp->VK->Prop:=λx vs H Q=>∃l xs y,x=.ref l/\vs=[y]/\H l=some (.lst xs)/\xs.length < sizeLine/\Q .non (upd H l (.lst (xs++[y])))
def mr:GM X "list.append" Iy:=by
 intro pins s σ H x vs v us Q I rx rv h;let⟨l,xs,y,rfl,rfl,hH,hz,q⟩:=h;cases rx;let⟨u,rfl,ru⟩:=rv.one;let⟨z,its,n,r,hl,e⟩:=I.lstM hH;refine qV F.slot_list_append ⟨_,e,rfl⟩ F.entry_list_append (F.args_list_append_2 _ _) (PySem.list_append l its.toArray n u (by rw[zH];lia)) ⟨e,?_⟩;refine⟨.non,_,I.lset (its':=its++[u]) hH e (by simp) (r.append (.cons ru .nil)) ?_,rfl,q⟩;rw[zN,xB];lia
def JM:V->List V->Hp->VK->Prop:=λx vs H Q=>∃l b xs zs,x=.ref l/\vs=[.ref b]/\H l=some (.lst xs)/\H b=some (.lst zs)/\xs.length+zs.length<=sizeLine/\Q .non (upd H l (.lst (xs++zs)))
def BX:GM X "list.extend" JM:=by
 intro pins s σ H x vs v us Q I rx rv h;let⟨l,b,xs,zs,rfl,rfl,hH,hB,hz,q⟩:=h;cases rx;let⟨u,rfl,ru⟩:=rv.one;cases ru;let⟨z,its,n,r,hl,e⟩:=I.lstM hH;let⟨z2,its2,n2,r2,hl2,e2⟩:=I.lstM hB;have hsz:its.toArray.size+its2.toArray.size<=sizeLine:=by rw[zH,zH];lia
 have hlong:¬ (!its.toArray.isEmpty&&Builtin.List.listTooLong (its.toArray.size+its2.toArray.size))=true:=by
  rw[vz hsz,kM];exact yY
 refine qV F.slot_list_extend ⟨_,e,rfl⟩ F.entry_list_extend (F.args_list_extend_2 _ _)
  (AutoSeq1.list_extend_list_list_0 l its.toArray n b its2.toArray n2 hlong (by rw[zH];lia) (by lia)) ⟨e,e2,?_⟩
 refine⟨.non,_,I.lset (its':=its++its2) hH e (by simp) (r.append r2) ?_,rfl,q⟩;rw[zN];lia
def Pi:R2:=λx y H Q=>∃l k xs,x=.ref l/\y=.int k/\H l=some (.lst xs)/\-(2 ^ 63)<=k/\k < 2 ^ 63/\xs.length * k.toNat<=sizeLine /\
 ∀p,H p=none->Q (.ref p) (upd H p (.lst (List.replicate k.toNat xs).flatten))
def len_rep(xs:List α)(k:Nat):(List.replicate k xs).flatten.length=k * xs.length:=by
 induction k with
 | zero=>simp
 | succ k ih=>rw[xD,qM,zN,ih,Nat.succ_mul,Nat.add_comm]
def La:eU X (binaryOp .Mult) Pi:=by
 intro pins s σ H x y v u Q I rx ry h;let⟨l,k,xs,rfl,rfl,hH,h1,h2,hz,q⟩:=h;cases rx;let⟨t,rfl⟩:=ry;let⟨z,its,n,r,hl,e⟩:=I.lstM hH;have hlen:its.toArray.size * k.toNat<=sizeLine:=by rw[zH,<- hl];exact hz
 have hcap:¬ its.toArray.size * k.toNat > (2 ^ 63 - 1) / 8:=by
  have:(sizeLine:Nat)<=(2 ^ 63 - 1) / 8:=by decide
  lia
 have hfit:¬ (!Builtin.List.listFitsIndex k)=true:=by
  rw[fitsIndex_both h1 h2];exact yY
 have hlong:¬ Builtin.List.listTooLong (its.toArray.size * k.toNat)=true:=by
  rw[vz hlen];exact yY
 have hnew:List.foldl (λx1 x2=>x1++x2) #[] (List.replicate (if its.toArray.isEmpty=true then 0 else k.toNat) its.toArray)=(List.replicate k.toNat its).flatten.toArray:=by
  have f0:∀m:Nat,List.foldl (λx1 x2=>x1++x2) #[] (List.replicate m its.toArray)=(List.replicate m its).flatten.toArray:=λm=>by
   have:=foldl_rep its m [];rw[xO] at this;exact this
  rw[f0];cases its with
  | nil=>simp
  | cons a r'=>rw[yM (by simp)]
 refine wpAny_binaryOp_repeat_ref (T:="list") (U:="int") (by decide) ⟨_,e,rfl⟩ (λs'=>vT s' k t) noFill_list_mul F.fills_int_mul vJ repeat_list F.slot_int_index.lookup
  (qV vJ (vT s k t) F.entry_int_rmul (F.args_int_rmul_2 _ _) (int___rmul___int_list k t l its.toArray n)
   ⟨e,rfl,⟨_,e,rfl⟩,qV F.slot_list_mul ⟨_,e,rfl⟩ F.entry_list_mul (F.args_list_mul_2 _ _) (AutoListH.list___mul___list_int_3 l its.toArray n k t hfit hcap hlong) ⟨e,?_⟩⟩)
 rw[hnew];exact⟨.ref _,_,I.lnew (t':=s.toks) (r.rep k.toNat) (by rw[len_rep,Nat.mul_comm];exact hz),rfl,q _ I.fresh⟩
end L2
namespace Att
open PySem PySem.W PySem.Calls PyProof.Rows
variable {n:Nat}
def ints_of_wellAll:∀ (ns:List Int) (vs:List Value),WellAll P h vs (ns.map WData.int)->IntsAre vs ns:=by
 intro ns
 induction ns with
 | nil =>
  intro vs w;rw[yT] at w;cases w;exact .nil
 | cons n ns ih =>
  intro vs w;rw[zI] at w;cases w with
  | cons a b =>
   cases a;exact .cons _ _ (ih _ b)
def script_of{l:OpenLaw}(hn:l.most=some n){P:Params}{h:Heap}{args:List WData}{vals:List Value}
  (hpre:l.row.toRowW.claim.pre args=true) (hwl:WellAll P h vals args) :
  ∃a vs ns,vals=[Value.ref a]/\args=[WData.list (ns.map WData.int)]/\h.get? a=some { cls:=.type "list",data:=.seq vs.toArray }/\IntsAre vs ns/\ns.length<=n:=by
 have hsh:WShape.hasAll [] args [.list .int]=true:=(pre_splitW hpre).1;have hc:l.pre.holds [] { args:=args }=true:=(pre_splitW hpre).2;let⟨d,r,rfl,h1,h2⟩:=hasAllW_cons hsh;obtain rfl:=hasAllW_nil h2;let⟨xs,rfl,h3⟩:=hasW_list h1;let⟨ns,rfl⟩:=items_int h3;have hlen:ns.length<=n:=by
  unfold OpenLaw.pre at hc;have h4:(WTm.not (.lt (.lit (.int (n:Int))) (.len (.arg 0)))).holds [] { args:=[.list (ns.map .int)] }=true:=by
   have h4:=(holds_andW hc).1;rw[hn] at h4;exact h4
  have h5:=condW_of h4 (w_not (w_lt w_lit (w_len_list (w_arg rfl))));rw[zD] at h5;refine Nat.le_of_not_lt λq=>?_;have q':(n:Int) < ((ns.length:Nat):Int):=by lia
  first
   | (rw[zZ q'] at h5;exact absurd h5 (by decide))
   | (simp at h5;lia)
 cases hwl with
 | cons w1 w2 =>
  cases w2;cases w1 with
  | list ho hall=>exact⟨_,_,ns,rfl,rfl,ho,ints_of_wellAll ns _ hall,hlen⟩
def post_true(l:OpenLaw)(args:List WData):l.row.toRowW.claim.post args (.bool true) args=true :=
 postW_of (r:=l.row.toRowW) (X:=(true == true))
  (show WShape.has [] (.bool true) .bool=true by first|rfl|decide|simp[WShape.has,WShape.arms,WShape.armsAll])
  (show (WTm.eq .res (.lit (.bool true))).value [] { args:=args,res:=some (.bool true),after:=args }=some (.bool (true == true)) from w_eq_bool (w_res rfl) w_lit) rfl
def attach_call{l:OpenLaw}{q:Program}{loose:List Str}{XP:(Str->Option Value)->Heap->Prop}{YP:World->Heap->Prop}{d:DefRec}
  (hn:l.most=some n) (hdf:d.params.defaults=[])
  (call:∀ (w:World) (s₀ s₁:Shared) (mg mb:Str->Option Value) (fa:Addr) (o:Obj) (pm cd doc:Value) (a:Addr) (vs:List Value) (ns:List Int),
   Ground q loose [] XP w s₀ mg mb s₁.heap->YP w s₁.heap ->
   s₁.heap.get? fa=some o->o.data=.func (docDef d.name d.params d.body d.scope pm cd doc)->s₁.heap.CodeRec cd d.name->mg d.name=some (.ref fa) ->
   s₁.heap.get? a=some { cls:=.type "list",data:=.seq vs.toArray }->IntsAre vs ns->ns.length<=n->s₁.gens=#[] ->
   codeAny (model l.prog w) callerA (.call (.ref fa) ⟨[.ref a],[]⟩) (λr s'=>r=.ok (.ret (.bool true))/\OldK s₁.heap s'.heap/\s'.os=s₁.os/\AllBare s'.gens) s₁) :
  WalkO q loose XP YP l.row.toRowW d [] (λf vs=>PySem.call f vs):=by
 intro w s₀ s₁ mg mb G Y fa o pm cd doc dV kV ho hd hcd hD hmg hg args vals as hpre hlay hrd hwl hlo;obtain rfl:dV=.none:=Dflts.none hD hdf;obtain rfl:kV=.none:=Dflts.noKw hD;let⟨a,vs,ns,rfl,rfl,hobj,hints,hlen⟩:=script_of hn hpre hwl;refine enter_call (jR (call w s₀ s₁ mg mb fa o pm cd doc a vs ns G Y ho (fd_plain hd) hcd hmg hobj hints hlen hg) λr s' hq=>?_);let⟨rfl,h2,h3,h4⟩:=hq;exact⟨.inl ⟨.bool true,.bool true,[],rfl,λ_=>rfl,.bool true,post_true l _,λ_=>⟨List.Pairwise.nil,λ_ hm=>(nomatch hm)⟩⟩,h2,h3,h4⟩
section
variable {K:Frag}
end
end Att
namespace L2
open PySem PySem.Spec PyProof.Rows
variable {B:Prop}
def qq:∀ {vs:List Value}{ns:List Int},IntsAre vs ns->aM (ns.map V.int) vs
 | _,_,.nil=>.nil
 | _,_,.cons n t h=>.cons ⟨t,rfl⟩ (qq h)
abbrev GE:G0:=λ_ _ _ _ _ _=>False
abbrev E0:XK:=λ_ _ _=>False
def N0:cq GE X E0:=λ_ _ _ _ _ _ _ h=>h.elim
structure Ek(K:W.Frag)(x qual:Str)(st:Stmt)(f:Addr)(fd:FuncData):Prop where
 ex:∃ (oc:Value) (od:Option Addr) (kV doc pm:Value) (an:Option Addr) (cdv ct:Value) (osl:Array (Option Value)),
  fd=W.fnOf x qual (fU st) (bG st) (aj st) .none kV doc pm an cdv ct/\K.lookup f=some ⟨oc,od,.func fd,osl⟩/\W.codeIn K cdv qual=true
 kp:W.keepIn K (.ref f)=true
section
variable {K:W.Frag}
def Ek.binds{st:Stmt}(F:Ek K x qual st f fd)
  (h:∀ (kV doc pm:Value) (an:Option Addr) (cdv ct:Value) (us:List Value),us.length=ps.length->bindArgs (W.fnOf x qual (fU st) (bG st) (aj st) .none kV doc pm an cdv ct) ⟨us,[]⟩=pure (ps.zip us)):Binds K fd ps []:=by
 let⟨oc,od,kV,doc,pm,an,cdv,ct,osl,rfl,lk,hcd⟩:=F.ex;exact .all (h kV doc pm an cdv ct)
def FM{st:Stmt}{kV:Value}(l:K.lookup f=some ⟨oc,od,.func (W.fnOf x qual (fU st) (bG st) (aj st) .none kV doc pm an cdv ct),osl⟩)
  (c:W.codeIn K cdv qual=true) (k:W.keepIn K (.ref f)=true):Ek K x qual st f (W.fnOf x qual (fU st) (bG st) (aj st) .none kV doc pm an cdv ct):=⟨⟨oc,od,kV,doc,pm,an,cdv,ct,osl,rfl,l,c⟩,k⟩
end
def me{A B:Prop}(h:B):if false=true then A else B:=by
 rw[yM yY];exact h
def nE{A B:Prop}(h:A):if true=true then A else B:=by
 rw[yK rfl];exact h
def aR(H H':Hp):Prop:=∀b o,H b=some o->H' b=some o
def aR.refl(H:Hp):aR H H:=λ_ _ h=>h
def aR.trans(a:aR H H1)(b:aR H1 H2):aR H H2:=λc o h=>b c o (a c o h)
def aR.free(e:aR H H')(h:H' l=Option.none):H l=Option.none:=by
 cases q:H l with
 | none=>rfl
 | some o =>
  rw[e l o q] at h;cases h
def aR.seq{K:W.Frag}(e:aR H H')(h:fS K H a xs):fS K H' a xs:=by
 rcases h with (h|⟨o,h⟩)|h
 ·exact .inl (.inl (e _ _ h))
 ·exact .inl (.inr ⟨o,e _ _ h⟩)
 ·exact .inr h
def b9:∀ (names:List (Str×NameKind)) (n:Nat) (acc:List (Str×Addr)),cellsFrom n names acc=cellsFrom n names []++acc
 | [],_,_=>rfl
 | (name,kind)::r,n,acc=>by
  unfold cellsFrom;split
  ·rw[b9 r (n+1) ((name,n)::acc),b9 r (n+1) [(name,n)]];simp
  ·exact b9 r n acc
def ik:∀ {l m:List (Str×α)},(l++m).lookup x=some c->l.lookup x=some c\/(l.lookup x=none/\m.lookup x=some c)
 | [],_,h=>.inr ⟨rfl,h⟩
 | (k,v)::r,m,h=>by
  have ih:=@ik α x c r m;rw[xE,yA] at h;rw[yA];cases e:x == k with
  | true=>rw[e] at h;exact .inl h
  | false=>rw[e] at h;exact ih h
def il:∀ {l m:List (Str×α)},l.lookup x=some c->(l++m).lookup x=some c
 | [],_,h=>by cases h
 | (k,v)::r,m,h=>by
  have ih:=@il α x c r m;rw[yA] at h;rw[xE,yA];cases e:x == k with
  | true=>rw[e] at h;exact h
  | false=>rw[e] at h;exact ih h
def gG:∀ {l m:List (Str×α)},l.lookup x=none->(l++m).lookup x=m.lookup x
 | [],_,_=>rfl
 | (k,v)::r,m,h=>by
  have ih:=@gG α x r m;rw[yA] at h;rw[xE,yA];cases e:x == k with
  | true=>rw[e] at h;cases h
  | false=>rw[e] at h;exact ih h
def fM:∀ (names:List (Str×NameKind)) (n:Nat) (x:Str) (c:Addr),(x,c)∈cellsFrom n names []->(x,NameKind.cell)∈names
 | [],_,_,_,h=>by cases h
 | (name,kind)::r,n,x,c,h=>by
  unfold cellsFrom at h;split at h
  ·rename_i hk;rw[b9] at h;rcases List.mem_append.mp h with h|h
   ·exact zC _ (fM r _ x c h)
   ·have:(x,c)=(name,n):=by simpa using h
    cases this;have:kind=.cell:=by simpa using hk
    subst this;exact zE
  ·exact zC _ (fM r n x c h)
def gF(env:Env):List (Str×NameKind)->List (Str×Addr)->List (Str×Addr)
 | [],acc=>acc
 | (n,k)::r,acc=>if k == .free then gF env r ((n,(env.cells.lookup n).getD 0)::acc) else gF env r acc
def kc(env:Env):∀ (names:List (Str×NameKind)) (acc:List (Str×Addr)),(∀x∈names,x.2=.free->∃c,env.cells.lookup x.1=some c) ->
  (forIn names acc (λ(p:Str×NameKind) (cs:List (Str×Addr))=>(if p.2 == .free then (do let a <- cellOf env p.1;pure (.yield ((p.1,a)::cs))) else pure (.yield cs):Sem (ForInStep (List (Str×Addr))))))=pure (gF env names acc)
 | [],acc,_=>rfl
 | (n,k)::r,acc,h=>by
  rw[List.forIn_cons];have hr:=λx hx=>h x (zC _ hx);unfold gF;by_cases hk:k=.free
  ·let⟨c,hc⟩:=h (n,k) zE hk;subst hk;have e1:cellOf env n=pure c:=by
    have hc':env.cells.lookup n=some c:=hc;unfold cellOf;rw[hc']
   have hc':env.cells.lookup n=some c:=hc;simp?[beq_self_eq_true,xG,e1,pure_bind,hc',qG];exact kc env r _ hr
  ·have hb:(k == NameKind.free)=false:=by simpa using hk
   simp?[hb,yN,qP,pure_bind];exact kc env r _ hr
def o9{env:Env}(h:∀x∈scope.names,x.2=.free->∃c,env.cells.lookup x.1=some c):closureFor scope env=pure (gF env scope.names []):=by
 have:=kc env scope.names [] h;unfold closureFor;exact (bind_pure _).trans this
def ma{env:Env}:∀ {names:List (Str×NameKind)}{acc:List (Str×Addr)},(∀x∈names,x.2=.free->∃c,env.cells.lookup x.1=some c)->(∀x c,(x,c)∈acc->env.cells.lookup x=some c) ->
  ∀x c,(x,c)∈gF env names acc->env.cells.lookup x=some c
 | [],acc,_,ha,x,c,hm=>ha x c hm
 | (n,k)::r,acc,h,ha,x,c,hm=>by
  unfold gF at hm;have hr:=λx hx=>h x (zC _ hx);split at hm
  ·rename_i hk;have hk':k=.free:=by simpa using hk
   let⟨c',hc⟩:=h (n,k) zE hk';have hc:env.cells.lookup n=some c':=hc;refine ma hr (λy d hy=>?_) x c hm;rcases List.mem_cons.mp hy with e|hy
   ·cases e;rw[hc];rfl
   ·exact ha y d hy
  ·exact ma hr ha x c hm
def iB{env:Env}:∀ {names:List (Str×NameKind)}{acc:List (Str×Addr)}{x:Str},(names.lookup x=some .free\/∃c,acc.lookup x=some c)->∃c,(gF env names acc).lookup x=some c
 | [],acc,x,h=>by
  rcases h with h|h
  ·cases h
  ·exact h
 | (n,k)::r,acc,x,h=>by
  unfold gF;split
  ·rename_i hk;refine iB ?_;rcases h with h|⟨c,h⟩
   ·rw[yA] at h;cases e:x == n with
    | true=>exact .inr ⟨_,by rw[yA,e]⟩
    | false=>rw[e] at h;exact .inl h
   ·refine .inr ?_;rw[yA];cases e:x == n with
    | true=>exact⟨_,rfl⟩
    | false=>exact⟨c,h⟩
  ·rename_i hk;refine iB ?_;rcases h with h|h
   ·rw[yA] at h;cases e:x == n with
    | true =>
     rw[e] at h;cases h;exact absurd rfl hk
    | false=>rw[e] at h;exact .inl h
   ·exact .inr h
def lA{env:Env}:∀ {names:List (Str×NameKind)}{x:Str}{k:NameKind},names.lookup x=some k ->
  (names.map λ(n,k)=>if (k == NameKind.free&&env.scope.kind == .function&&env.kindOf n == some .cell) then (n,NameKind.cell) else (n,k)).lookup x=some (if (k == NameKind.free&&env.scope.kind == .function&&env.kindOf x == some .cell) then NameKind.cell else k)
 | [],_,_,h=>by cases h
 | (n,k)::r,x,k',h=>by
  have ih:=@lA env r x k';rw[zI];dsimp only;cases hx:x == n with
  | true =>
   have e:x=n:=by simpa using hx
   subst e;rw[yA,hx] at h;cases h;split<;>simp[yA, *]
  | false =>
   rw[yA,hx] at h;have ih:=ih h;split
   ·rw[yA,hx];exact ih
   ·rw[yA,hx];exact ih
def nh{env:Env}:∀ {names:List (Str×NameKind)}{x:Str},names.lookup x=none ->
  (names.map λ(n,k)=>if (k == NameKind.free&&env.scope.kind == .function&&env.kindOf n == some .cell) then (n,NameKind.cell) else (n,k)).lookup x=none
 | [],_,h=>rfl
 | (n,k)::r,x,h=>by
  have ih:=@nh env r x;rw[zI];dsimp only;cases hx:x == n with
  | true=>rw[yA,hx] at h;cases h
  | false =>
   rw[yA,hx] at h;split
   ·rw[yA,hx];exact ih h
   ·rw[yA,hx];exact ih h
def cE(X:Cx)(scope:Scope)(C:Addr):Env :=
 { scope:=relabel scope X.env,locals:=C,globals:=X.env.globals,cells:=cellsFrom (C+1) scope.names (gF X.env scope.names []),qual:=X.env.qual,func:=none,code:=X.env.code,frame:=X.env.frame,builtins:=X.env.builtins }
def aq(X:Cx)(scope:Scope)(N:List Str)(fp:List Addr)(s:Shared)(H:Hp):Cx :=
 { X with N:=N,s₀:=s,H₀:=H,env:=cE X scope s.heap.objs.size,outer:=X.stack,ex:=fp,fn:=λx=>decide (scope.names.lookup x=some .cell),pn:=[],xe:=λ_ _=>False }
def oU{M:Model}{A:Around}{E:Value->Shared->Prop}{globals:Addr}{cl:List (Str×Addr)}{qual:Str}{env:Env}
  (hQ:∀h',h'.Ns s.heap.objs.size (λ_=>none)->(∀b o,s.heap.get? b=some o->h'.get? b=some o)->CellsOk h' (s.heap.objs.size+1) (cellsFrom (s.heap.objs.size+1) scope.names []) ->
   Q { scope:=scope,locals:=s.heap.objs.size,globals:=globals,cells:=cellsFrom (s.heap.objs.size+1) scope.names cl,qual:=qual,func:=none,code:=env.code,frame:=env.frame,builtins:=env.builtins } { s with heap:=h' }) :
  wpAny M A (newFunctionEnv scope globals cl [] qual none .none (some env)) Q E s:=by
 simp?[newFunctionEnv,Option.isSome_some,xG];refine zU (wpAny_alloc ?_);refine zU (wpAny_layCells _ (λname kind cells=>by cases hkc:kind == NameKind.cell<;>simp[hkc]) _ _ _ _ ?_);have ok:=cellsFrom_ok scope.names (s.heap.push { cls:=.type "dict",data:=.dict #[] }) (s.heap.objs.size+1) [] ⟨λ_ _ hm=>(nomatch hm),List.Pairwise.nil⟩ (by rw[xI];exact yL _);rw[xI] at ok;rw[show ({ s with heap:=s.heap.push { cls:=.type "dict",data:=.dict #[] } }:Shared).heap.objs.size=s.heap.objs.size+1 from xI ..];rw[List.forIn_nil];refine zU (zV (zV ?_));exact hQ _ ((Heap.Ns.new s.heap (.type "dict")).keeps (pushCells_keeps _ _)) (λb o e=>pushCells_keeps _ _ b o (zT _ e)) ok
section
variable {X:Cx}{pins:List (Addr×Obj)}{σ σ':St}{H:Hp}{s:Shared}{fp:List Addr}{scope:Scope}{N:List Str}{h4:Heap}
def pC(ok:X.Ok)(hfree:∀x∈scope.names,x.2=.free->X.env.kindOf x.1=some .cell\/X.env.kindOf x.1=some .free):∀x∈scope.names,x.2=.free->∃c,X.env.cells.lookup x.1=some c :=
 λx hx hk=>ok.has x.1 (hfree x hx hk)
def mn(h:scope.names.lookup x=some k):(cE X scope C).kindOf x=some k\/(k=.free/\(cE X scope C).kindOf x=some .cell):=by
 have q:=lA (env:=X.env) h;have q':(cE X scope C).kindOf x=some (if (k == NameKind.free&&X.env.scope.kind == .function&&X.env.kindOf x == some .cell) then NameKind.cell else k):=q;rw[q'];split
 ·rename_i hc;have:k=.free:=by
   simp?[zF,vA] at hc;exact hc.1.1
  exact .inr ⟨this,rfl⟩
 ·exact .inl rfl
def j1(h:(cE X scope C).kindOf x=some k):scope.names.lookup x=some k\/(k=.cell/\scope.names.lookup x=some .free):=by
 cases e:scope.names.lookup x with
 | none =>
  have q:(cE X scope C).kindOf x=none:=nh (env:=X.env) e;rw[q] at h;cases h
 | some k' =>
  rcases mn (X:=X) (C:=C) e with q|⟨q,q'⟩
  ·rw[q] at h;cases h;exact .inl rfl
  ·rw[q'] at h;cases h;subst q;exact .inr ⟨rfl,rfl⟩
def uF(I:Inv X pins σ H s)(hf:∀b∈fp,fN X pins H b)(hfl:∀b∈fp,b < s.heap.objs.size)(hk:scope.kind=.function)
  (hfree:∀x∈scope.names,x.2=.free->X.env.kindOf x.1=some .cell\/X.env.kindOf x.1=some .free)
  (hns:h4.Ns s.heap.objs.size (λ_=>none)) (hkeep:∀b o,s.heap.get? b=some o->h4.get? b=some o) (hco:CellsOk h4 (s.heap.objs.size+1) (cellsFrom (s.heap.objs.size+1) scope.names []))
  (hdup:∀ {x:Str},(x,NameKind.cell)∈scope.names->(x,NameKind.free)∈scope.names->False) (hcap:∀ (i:Nat) (x:Str) (v:V),N[i]?=some x->σ'[i]?=some (some v)->scope.names.lookup x=some .free/\∃j:Nat,X.N[j]?=some x/\σ[j]?=some (some v)) (hlen:σ'.length=N.length) (t':Nat) :
  Inv (aq X scope N fp s H) [] σ' H { s with heap:=h4,toks:=t' }:=by
 have hcl:=pC I.ok hfree;have clx:∀x c,(gF X.env scope.names []).lookup x=some c->X.env.cells.lookup x=some c:=λx c e=>ma hcl (λ_ _ z=>by cases z) x c (mem_of_lookup e);have look:∀x c,(cE X scope s.heap.objs.size).cells.lookup x=some c->(x,c)∈cellsFrom (s.heap.objs.size+1) scope.names []\/X.env.cells.lookup x=some c:=λx c e=>by
  have e:(cellsFrom (s.heap.objs.size+1) scope.names (gF X.env scope.names [])).lookup x=some c:=e;rw[b9] at e;rcases ik e with q|⟨_,q⟩
  ·exact .inl (mem_of_lookup q)
  ·exact .inr (clx x c q)
 have old:∀x c,X.env.cells.lookup x=some c->c < s.heap.objs.size:=λx c e=>let ⟨_,q⟩:=I.cell x c e;q.lt;have new:∀x c,(x,c)∈cellsFrom (s.heap.objs.size+1) scope.names []->s.heap.objs.size < c:=λx c e=>(hco.empty x c e).2;refine⟨⟨I.ok.mod,?_,I.ok.glob,I.ok.blt,yL _,?_,?_,?_,I.ok.hd,I.ok.frames,.inl rfl,?_,I.bs,yC I.ok.bsz I.sz,?_,?_,I.stack,I.stkFree⟩,rfl,I.bare,Un.kept hkeep,⟨_,hns,?_⟩,?_,I.hok.fresh (yL _),?_,
  λp hp=>absurd (show p∈([]:List (Addr×Obj)) from hp) (by simp),I.hok.kept hkeep,hlen⟩
 ·show (relabel scope X.env).kind=_;exact hk
 ·intro x y c e1 e2;rcases look x c e1 with a|a<;>rcases look y c e2 with b|b
  ·exact name_of_addr hco.apart a b
  ·exact absurd (wC (new x c a) (old y c b)) (qE _)
  ·exact absurd (wC (new y c b) (old x c a)) (qE _)
  ·exact I.ok.inj x y c a b
 ·intro x hx;show ∃c,(cellsFrom (s.heap.objs.size+1) scope.names (gF X.env scope.names [])).lookup x=some c;refine Option.isSome_iff_exists.mp (W.cellsFrom_some _ _ _ ?_);rcases hx with hx|hx
  ·rcases j1 hx with q|⟨_,q⟩
   ·exact .inl q
   ·exact .inr (Option.isSome_iff_exists.mpr (iB (.inl q)))
  ·rcases j1 hx with q|⟨q,_⟩
   ·exact .inr (Option.isSome_iff_exists.mpr (iB (.inl q)))
   ·cases q
 ·intro x c hfn e;have hfn:scope.names.lookup x=some .cell:=yP hfn;have e:(cellsFrom (s.heap.objs.size+1) scope.names (gF X.env scope.names [])).lookup x=some c:=e;let⟨c',hc'⟩:=ou (n:=s.heap.objs.size+1) hfn;rw[b9,il hc'] at e;cases e;exact jS (new x c (mem_of_lookup hc'))
 ·intro b hb;refine⟨yQ (hfl b hb),λx c e z=>?_⟩;rcases look x c e with a|a
  ·exact absurd (wC (new x c a) (by rw[z];exact hfl b hb)) (qE _)
  ·exact (hf b hb).2.2.2.2.1 x c a z
 ·intro b o e hb;let⟨f0,f1,f2,f3,f4,f5⟩:=hf b hb;rcases f3 with z|z
  ·exact I.ok.noex b o e z
  ·exact absurd (zP (zX (I.ok.bs b o e).1) z) (qE _)
 ·intro b hb hz;let⟨f0,f1,f2,f3,f4,f5⟩:=hf b hb;rcases List.mem_cons.mp (I.stkSub b hz) with z|z
  ·exact f1 z
  ·exact f2 z
 ·intro i x v e1 e2 e3;let⟨hfr,j,hj,hv⟩:=hcap i x v e1 e2;have hm:(x,NameKind.free)∈scope.names:=mem_of_lookup hfr;let⟨m,hn,hl⟩:=I.loc;have kx:=hfree _ hm rfl;let⟨u,ru,lk⟩:=hl j x v hj hv (kx.elim (λk=>.inr (.inl k)) λk=>.inr (.inr k));refine⟨u,ru,.inr ⟨?_,?_⟩⟩
  ·rcases mn (X:=X) (C:=s.heap.objs.size) hfr with q|⟨_,q⟩
   ·exact .inr q
   ·exact .inl q
  ·rcases lk with ⟨k,_⟩|⟨_,c,ec,ic⟩
   ·have k:X.env.kindOf x=some .local:=k;rcases kx with k'|k'<;>· rw[k] at k';cases k'
   ·let⟨c',hc'⟩:=iB (env:=X.env) (acc:=[]) (.inl hfr);have e':=clx x c' hc';rw[ec] at e';cases e';refine⟨c,?_,ic.keeps hkeep⟩;show (cellsFrom (s.heap.objs.size+1) scope.names (gF X.env scope.names [])).lookup x=some c;rw[b9];cases eo:(cellsFrom (s.heap.objs.size+1) scope.names []).lookup x with
    | none=>rw[gG eo];exact hc'
    | some d =>
     have hcm:=fM _ _ _ _ (mem_of_lookup eo);exact (hdup hcm hm).elim
 ·intro x c e;rcases look x c e with a|a
  ·exact⟨_,(hco.empty x c a).1⟩
  ·let⟨v,q⟩:=I.cell x c a;exact⟨v,q.keeps hkeep⟩
 ·intro x c e;rcases look x c e with a|a
  ·exact I.hok.fresh (jS (new x c a))
  ·exact I.freeC x c a
end
abbrev oK(ifs:List Expr)(env:Env):Sem Bool:=forIn ifs true λc r=>if r=true then do let ok <- isTrue c env (eval c env);pure (ForInStep.yield ok) else pure (ForInStep.yield r)
def GK(X:Cx)(ifs:List Expr)(t:TT):Prop :=
 ∀ (pins:List (Addr×Obj)) (s:Shared) (σ:St) (H:Hp) (Q:Bool->Hp->Prop),Inv X pins σ H s->t σ H Q->wpAny (model X.prog X.w) X.A (oK ifs X.env) (TP X pins σ Q) X.xe s
def HV:GK X [] (λ_ H Q=>Q true H):=λ_ _ _ H _ I h=>wpAny_tests_nil ⟨H,I,h⟩
def GY(h:PT X c t):GK X [c] t:=λpins s σ H Q I q=>wpAny_tests_one (h pins s σ H Q I q)
def sV{R:Result->Shared->Prop}{elt target iter:Expr}{ifs:List Expr}{scope:Scope}{pos:Pos}{acc:Value}{env:Env}(I:Nat->Shared->Prop)
  (turn:∀n s,I n s->wpAny (model prog w) A (pyNext it) (λr s₁=>match r with
   | none=>R (.ok .next) s₁
   | some v=>wpAny (model prog w) A (letOwnedTupleGo target it v) (λ_ s₁'=>wpAny (model prog w) A (assign target env v) (λ_ s₂ =>
     wpAny (model prog w) A (oK ifs env) (λok s₃ =>
      if ok=true then wpAny (model prog w) A (eval elt env) (λx s₄ =>
       wpAny (model prog w) A (call (.builtin "list.append") [acc,x]) (λ_ s₅=>∃m,m < n/\I m s₅) (λ_ _=>False) s₄) (λ_ _=>False) s₃
      else ∃m,m < n/\I m s₃) (λ_ _=>False) s₂) (λ_ _=>False) s₁') (λ_ _=>False) s₁) (λ_ _=>False) s)
  (n:Nat) (h:I n s) :
  codeAny (model prog w) A (.compLoop (.ListComp elt [⟨target,iter,ifs,0⟩] scope pos) 0 it acc env) R s:=by
 refine codeAny_loop rfl I (λn s hI=>?_) n h;show wpAny _ A ((compTurn (.ListComp elt [⟨target,iter,ifs,0⟩] scope pos) 0 it acc env).onRaise (λx=>do noteFrame x env;theTreesLotGoes x)) _ _ s;refine wpAny_noted ?_;rw[compTurn_list];refine zU (kR (zU (yZ (turn n s hI) (λr s₁ h₁=>?_) λ_ _ h'=>h'.elim)));cases r with
 | none=>exact zV h₁
 | some v =>
  refine zU (yZ h₁ (λ_ s₁' h₁'=>?_) λ_ _ h'=>h'.elim);refine zU (yZ h₁' (λ_ s₂ h₂=>zU (yZ h₂ (λok s₃ h₃=>?_) λ_ _ h'=>h'.elim)) λ_ _ h'=>h'.elim);cases ok with
  | false=>exact zV ⟨rfl,h₃⟩
  | true =>
   exact zU (zU (yZ h₃ (λx s₄ h₄=>zU (yZ h₄ (λ_ s₅ h₅=>zV (zV ⟨rfl,h₅⟩)) λ_ _ h'=>h'.elim)) λ_ _ h'=>h'.elim))
def ue(X:Cx)(pins:List (Addr×Obj))(σ:St)(Q:VK)(acc:Value)(C:Addr)(r:Result)(s5:Shared):Prop :=
 ∃ (D:Addr) (H5:Hp) (m:Str->Option Value),acc=.ref D/\r=.ok .next/\Inv X pins σ H5 s5/\s5.heap.Ns C m/\fN X pins H5 C/\Q (.ref D) H5
def wU(J:It)(g:TG)(tt:TT)(te:TE)(D:Addr)(σ0:St)(H0:Hp)(Q:VK):Prop :=
 ∃W:Nat->Nat->St->Hp->Prop,(∃m,W 0 m σ0 H0)/\∀i m σ H,W i m σ H ->
  (J.stop i H/\Q (.ref D) H)\/(J.go i H/\∀x H',J.yld i H x H'->g x σ H' λσ2 H2=>tt σ2 H2 λb H3 =>
   if b=true then te σ2 H3 λv H4=>∃ys,H4 D=some (.lst ys)/\ys.length < sizeLine/\∃m',m' < m/\W (i+1) m' σ2 (upd H4 D (.lst (ys++[v])))
   else ∃m',m' < m/\W (i+1) m' σ2 H3)
section
variable {X:Cx}{pins:List (Addr×Obj)}{σ σ':St}{H:Hp}{s:Shared}{scope:Scope}{N:List Str}
 {tg iter elt:Expr}{ifs:List Expr}{pos:Pos}{g:TG}{tt:TT}{te:TE}
def qv(hc:X.calm=true)(I:Inv X pins σ H s)(T:Turn X.prog X.w X.K tg J fp it tn)(st:tn 0 s.heap)(hf:∀b∈fp,fN X pins H b)(hk:scope.kind=.function)
  (hfree:∀x∈scope.names,x.2=.free->X.env.kindOf x.1=some .cell\/X.env.kindOf x.1=some .free) (hdup:∀ {x:Str},(x,NameKind.cell)∈scope.names->(x,NameKind.free)∈scope.names->False)
  (hcap:∀ (i:Nat) (x:Str) (v:V),N[i]?=some x->σ'[i]?=some (some v)->scope.names.lookup x=some .free/\∃j:Nat,X.N[j]?=some x/\σ[j]?=some (some v)) (hlen:σ'.length=N.length)
  (hY:∀fp s H,PG (aq X scope N fp s H) tg g/\GK (aq X scope N fp s H) ifs tt/\PE (aq X scope N fp s H) elt te)
  (hrd:∀D,H D=none->wU J g tt te D σ' (upd H D (.lst [])) Q) {E:Value->Shared->Prop} :
  wpAny (model X.prog X.w) X.A (newList []) (λacc s₃=>wpAny (model X.prog X.w) X.A (newFunctionEnv scope X.env.globals (gF X.env scope.names []) [] X.env.qual none .none (some X.env)) (λcenv s₄ =>
   codeAny (model X.prog X.w) X.A (.compStart (.ListComp elt [⟨tg,iter,ifs,0⟩] scope pos) 0 (.ref it) acc { cenv with scope:=relabel scope X.env }) (ue X pins σ Q acc cenv.locals) s₄) E s₃) E s:=by
 refine qL ?_;have hfl:∀b∈fp,b < s.heap.objs.size:=λb hb=>let ⟨o,e,_⟩:=T.obj _ _ st b hb;zX e;have I3:=I.lnew (ys:=[]) (its:=[]) (t':=s.toks) .nil (xV _);have hD:H s.heap.objs.size=none:=I.fresh;let⟨W,⟨m0,w0⟩,turn⟩:=hrd _ hD;generalize e3:({ s with heap:=s.heap.push { cls:=.type "list",data:=.seq ([]:List Value).toArray },toks:=s.toks }:Shared)=s3 at I3;have e3h:s3.heap=s.heap.push { cls:=.type "list",data:=.seq ([]:List Value).toArray }:=by rw[<- e3]
 generalize hH3:upd H s.heap.objs.size (.lst [])=H3 at I3 w0 turn;have hlt:s.heap.objs.size < s3.heap.objs.size:=by rw[e3h,xI];exact kH _
 have hk3:∀b o,s.heap.get? b=some o->s3.heap.get? b=some o:=λb o e=>by rw[e3h];exact zT _ e
 generalize s.heap.objs.size=D at *;have f3:∀b∈fp,fN X pins H3 b:=λb hb=>by
  let⟨f0,f⟩:=hf b hb;refine⟨?_,f⟩;rw[<- hH3,aK (yQ (hfl b hb))];exact f0
 have st3:tn 0 s3.heap:=T.keep _ _ _ st λb _ o e=>hk3 b o e;refine oU λh4 hns hkp hco=>?_;dsimp only;have I4:=uF (N:=N) (σ':=σ') (fp:=fp) I3 f3 (λb hb=>wC (hfl b hb) hlt) hk hfree hns hkp hco hdup hcap hlen s3.toks;have fC:∀H',H' s3.heap.objs.size=none->fN X pins H' s3.heap.objs.size:=λH' hn=>I3.fpOk (yL _) hn;let⟨hg,htt,hte⟩:=hY fp s3 H3;have efp:∀b∈fp,∀H':Hp,H' b=none->fN (aq X scope N fp s3 H3) [] H' b:=λb hb H' hn=>by
  refine⟨hn,(I4.ok.exf b hb).1,I4.ok.exfs b hb,.inl hb,(I4.ok.exf b hb).2,λp hp=>?_⟩;cases hp
 have loop:codeAny (model X.prog X.w) X.A (.compLoop (.ListComp elt [⟨tg,iter,ifs,0⟩] scope pos) 0 (.ref it) (.ref D) (cE X scope s3.heap.objs.size)) (ue X pins σ Q (.ref D) s3.heap.objs.size) { s3 with heap:=h4 }:=by
  refine sV (λn s'=>∃i σ' H',Inv (aq X scope N fp s3 H3) [] σ' H' s'/\tn i s'.heap/\(∀b∈fp,H' b=none)/\W i n σ' H') ?_ m0
   ⟨0,σ',H3,I4,T.keep _ _ _ st3 λb _ o e=>hkp b o e,λb hb=>(f3 b hb).1,w0⟩
  rintro n s5 ⟨i,σ5,H5,I5,st5,fr5,w5⟩;rcases turn i n σ5 H5 w5 with ⟨stop,q⟩|⟨go,step⟩
  ·refine bL (T.done (aq X scope N fp s3 H3) rfl rfl rfl hc i [] s5 σ5 H5 _ I5 (λb hb=>efp b hb H5 (fr5 b hb)) st5 stop) λr s6 ⟨hr,I6⟩=>?_;subst hr;let⟨m,hn6,_⟩:=I6.loc;refine⟨D,H5,m,rfl,rfl,I3.call' I6.os I6.base I6.hok I6.bare (λb hb=>?_),hn6,fC H5 I6.free,q⟩;let⟨f0,f1,f2,f4,f5,f6⟩:=f3 b hb;exact⟨f4,f1,f5,f6⟩
  ·refine bL (T.item (aq X scope N fp s3 H3) rfl rfl rfl hc i [] s5 σ5 H5 _ I5 (λb hb=>efp b hb H5 (fr5 b hb)) st5 go) λr s6 ⟨u,hr,h6⟩=>?_;subst hr;refine bL h6 λ_ s7 ⟨x,H7,I7,r7,y7,st7,fr7⟩=>?_;have I7':=I7.pinned (λb hb=>efp b hb H7 (fr7 b hb)) (T.obj _ _ st7);have again:∀ {pl:List (Addr×Obj)}{σ9:St}{H9:Hp}{s9:Shared}{n':Nat},Inv (aq X scope N fp s3 H3) ([]++mH fp s7.heap) σ9 H9 s9->W (i+1) n' σ9 H9->∃i σ' H',Inv (aq X scope N fp s3 H3) [] σ' H' s9/\tn i s9.heap/\(∀b∈fp,H' b=none)/\W i n' σ' H':=λ{pl σ9 H9 s9 n'} I9 w9=>by
    refine⟨i+1,σ9,H9,I9.unpinned,T.keep _ _ _ st7 λb hb o e=>(I9.pin (b,o) (yD _ (yD _ (dS hb e)))).1,λb hb=>?_,w9⟩;let⟨o,e,d⟩:=T.obj _ _ st7 b hb;exact (I9.pin (b,o) (yD _ (yD _ (dS hb e)))).2.1
   refine bL (hg _ s7 σ5 H7 x u _ I7' r7 (step x H7 y7)) λ_ s8 ⟨σ8,H8,I8,q8⟩=>?_;refine bL (htt _ s8 σ8 H8 _ I8 q8) λok s9 ⟨H9,I9,q9⟩=>?_;cases ok with
   | false =>
    rw[yM (by decide)] at q9;rw[yM (by decide)];let⟨m',hm,w9⟩:=q9;exact⟨m',hm,again (pl:=[]) I9 w9⟩
   | true =>
    rw[yK rfl] at q9;rw[yK rfl];refine bL (hte _ s9 σ8 H9 _ I9 q9) λy s10 ⟨v,H10,I10,r10,ys,hD10,hz,m',hm,w10⟩=>?_;refine bL (mr (X:=aq X scope N fp s3 H3) _ s10 σ8 H10 (.ref D) [v] (.ref D) [y] (λ_ H'=>W (i+1) m' σ8 H') I10 rfl (.cons r10 .nil) ⟨D,ys,v,rfl,rfl,hD10,hz,w10⟩) λ_ s11 ⟨_,H11,I11,_,w11⟩=>?_;exact⟨m',hm,again (pl:=[]) I11 w11⟩
 exact codeAny_compStart_list loop (T.self _ 0 _ _ _ (T.keep _ _ _ st3 λb _ o e=>hkp b o e) loop)
end
def wz(wi:TI)(g:TG)(tt:TT)(te:TE)(caps:St->St):TE:=λσ H Q=>wi σ H λJ H1=>∀D,H1 D=none->wU J g tt te D (caps σ) (upd H1 D (.lst [])) Q
structure eF(X:Cx)(scope:Scope)(N:List Str)(caps:St->St):Prop where
 kind:scope.kind=.function
 free:∀x∈scope.names,x.2=.free->X.env.kindOf x.1=some .cell\/X.env.kindOf x.1=some .free
 dup:∀ {x:Str},(x,NameKind.cell)∈scope.names->(x,NameKind.free)∈scope.names->False
 loc:∀x∈scope.names,x.2=.local -> scope.names.lookup x.1=some .local
 cap:∀ (σ:St) (i:Nat) (x:Str) (v:V),N[i]?=some x->(caps σ)[i]?=some (some v)->scope.names.lookup x=some .free/\∃j:Nat,X.N[j]?=some x/\σ[j]?=some (some v)
 len:∀σ:St,(caps σ).length=N.length
section
variable {X:Cx}{scope:Scope}{N:List Str}{caps:St->St}{tg iter elt:Expr}{ifs:List Expr}{pos:Pos}{wi:TI}{g:TG}{tt:TT}{te:TE}
def Ii(hc:X.calm=true)(S:eF X scope N caps)(hi:PI X tg iter wi)
  (hY:∀fp s H,PG (aq X scope N fp s H) tg g/\GK (aq X scope N fp s H) ifs tt/\PE (aq X scope N fp s H) elt te)
  (hs:∀x,foldedSetIterable iter X.env x=pure x:=by intro _;rfl):PE X (.ListComp elt [⟨tg,iter,ifs,0⟩] scope pos) (wz wi g tt te caps):=by
 intro pins s σ H Q I h;rw[eval_ListComp];refine wpAny_comprehension_free (use:=none) rfl hs (o9 (pC I.ok S.free)) S.kind S.loc (bL (hi pins s σ H _ I h) λv s1 h1=>bL h1 λitv s2 h2=>?_);let⟨it,fp,tn,J,H2,e,I2,T,st2,f2,rd⟩:=h2;subst e;refine bL (qv (iter:=iter) (pos:=pos) (E:=X.xe) hc I2 T st2 f2 S.kind S.free S.dup (S.cap σ) (S.len σ) hY rd) λacc s3 h3=>bL h3 λcenv s4 h4=>?_;refine jR h4 λr s5 h5=>?_;let⟨D,H5,m,rfl,rfl,I5,hn,fC,q⟩:=h5;refine⟨m,hn,λh' sb=>?_⟩;let⟨f0,f1,f2',f3,f4,f5⟩:=fC;exact⟨.ref D,H5,I5.turned (t':=s5.toks) (λb o hb e=>(sb.2 b hb).trans e) f0 f1 f3 f4 f5,rfl,q⟩
def Hv(hc:X.calm=true)(S:eF X scope N caps)(hi:PI X tg iter wi)
  (hY:∀fp s H,PG (aq X scope N fp s H) tg g/\GK (aq X scope N fp s H) ifs tt/\PE (aq X scope N fp s H) elt te)
  (hN:X.N.Nodup) (hiy:X.N[i]?=some y) (hy:X.env.scope.names.lookup y=some .local)
  (hsw:swapsWith (.ListComp elt [⟨tg,iter,ifs,0⟩] scope pos) (some (.Name y py)) spos.line X.env=pure true)
  (hs:∀x,foldedSetIterable iter X.env x=pure x:=by intro _;rfl):PS X (.Assign [.Name y py] (.ListComp elt [⟨tg,iter,ifs,0⟩] scope pos) spos) (DR (wz wi g tt te caps) (uE i)):=by
 intro pins s σ H D I h;rw[exec_Assign_Name_used _ _ _ _ hsw];refine zU (kR (zU ?_));show wpAny _ X.A (do let _ <- comprehension (.ListComp elt [⟨tg,iter,ifs,0⟩] scope pos) scope X.env _ (newList []) false (eval iter X.env) (some (assign (.Name y py) X.env))) _ _ s;refine zU (yZ (wpAny_comprehension_free (use:=some (assign (.Name y py) X.env)) (Q:=λ_ s'=>SP X pins D .next s') rfl hs (o9 (pC I.ok S.free)) S.kind S.loc
  (bL (hi pins s σ H _ I h) λv s1 h1=>bL h1 λitv s2 h2=>?_)) (λ_ s' hq=>zV (zV hq)) λ_ _ e=>e)
 let⟨it,fp,tn,J,H2,e,I2,T,st2,f2,rd⟩:=h2;subst e;refine bL (qv (iter:=iter) (pos:=pos) (E:=X.xe) hc I2 T st2 f2 S.kind S.free S.dup (S.cap σ) (S.len σ) hY rd) λacc s3 h3=>bL h3 λcenv s4 h4=>?_;refine jR h4 λr s5 h5=>?_;let⟨D',H5,m,rfl,rfl,I5,hn,fC,q⟩:=h5;show wpAny _ X.A (assign (.Name y py) X.env (.ref D')) _ _ _;refine wpAny_assign_Name (mF (v:=.ref D') I5 hN hiy (.inl hy) rfl (λs6 I6 ⟨a,sa,ha⟩=>?_) (.inr hy));let⟨f0,f1,f2',f3,f4,f5⟩:=fC;have hne:cenv.locals≠a:=by
  rcases ha with z|z
  ·rw[z];exact f1
  ·exactλw=>f4 y a z w.symm
 refine⟨m,hn.sameBut sa hne,λh' sb=>?_⟩;exact⟨_,H5,I6.turned (t':=s6.toks) (λb o hb e=>(sb.2 b hb).trans e) f0 f1 f3 f4 f5,q⟩
end
abbrev Pm(X:Cx)(qual:Str)(scope:Scope)(f c L:Addr):Env:=W.envX qual scope L f (.ref c) (gF X.env scope.names [])
def Ku(X:Cx)(A:Around)(qual:Str)(scope:Scope)(N:List Str)(f c:Addr)(s:Shared)(H:Hp):Cx where
 prog:=X.prog
 w:=X.w
 K:=X.K
 mg:=X.mg
 base:=X.base
 A:=A.deeper (Pm X qual scope f c s.heap.objs.size)
 N:=N
 s₀:=s
 H₀:=H
 env:=Pm X qual scope f c s.heap.objs.size
 outer:=X.stack
 stack:=Pm X qual scope f c s.heap.objs.size::X.stack
 ex:=[]
 fn:=λ_=>false
 calm:=true
 pn:=[]
 xe:=λ_ _=>False
end L2
namespace Dl
open PySem L2 PySem.Spec PyProof.Rows
abbrev D:=PyData
mutual
def Rep(K:W.Frag)(H:Hp):D->V->Prop
 | .none,v=>v=.non
 | .bool b,v=>v=.bl b
 | .int i,v=>v=.int i
 | .str x,v=>v=.str x
 | .tuple ds,v=>∃a vs,v=.ref a/\gT K H a vs/\ax K H ds vs
 | .list ds,v=>∃a vs,v=.ref a/\fS K H a vs/\ax K H ds vs
 | .dict _,_=>False
def ax(K:W.Frag)(H:Hp):List D->List V->Prop
 | [],vs=>vs=[]
 | d::ds,vs=>∃v r,vs=v::r/\Rep K H d v/\ax K H ds r
end
def aI{K:W.Frag}(e:aR H H')(h:gT K H a xs):gT K H' a xs:=by
 rcases h with (h|⟨o,h⟩)|h
 ·exact .inl (.inl (e _ _ h))
 ·exact .inl (.inr ⟨o,e _ _ h⟩)
 ·exact .inr h
mutual
theorem Rep.mono{K:W.Frag}{H H':Hp}(e:aR H H'):∀ {d:D}{v:V},Rep K H d v->Rep K H' d v
 | .none,_,h=>h
 | .bool _,_,h=>h
 | .int _,_,h=>h
 | .str _,_,h=>h
 | .tuple ds,_,h=>by
  simp?[Rep] at h ⊢;let⟨a,vs,rfl,q,r⟩:=h;exact⟨a,vs,rfl,aI e q,ax.mono e r⟩
 | .list ds,_,h=>by
  simp?[Rep] at h ⊢;let⟨a,vs,rfl,q,r⟩:=h;exact⟨a,vs,rfl,e.seq q,ax.mono e r⟩
 | .dict _,_,h=>h
theorem ax.mono{K:W.Frag}{H H':Hp}(e:aR H H'):∀ {ds:List D}{vs:List V},ax K H ds vs->ax K H' ds vs
 | [],_,h=>h
 | d::ds,_,h=>by
  simp?[ax] at h ⊢;let⟨v,r,rfl,a,b⟩:=h;exact⟨v,r,rfl,Rep.mono e a,ax.mono e b⟩
end
section
variable {K:W.Frag}
def ax.nil:ax K H [] []:=by simp[ax]
def ax.cons(a:Rep K H d v)(b:ax K H ds vs):ax K H (d::ds) (v::vs):=by
 simp?[ax];exact⟨v,vs,rfl,a,b⟩
def ax.cons_inv(h:ax K H (d::ds) vs):∃v r,vs=v::r/\Rep K H d v/\ax K H ds r:=by simpa only[ax] using h
def ax.nil_inv(h:ax K H [] vs):vs=[]:=by simpa only[ax] using h
def ax.length:∀ {ds:List D}{vs:List V},ax K H ds vs->vs.length=ds.length
 | [],_,h=>by rw[h.nil_inv];rfl
 | d::ds,_,h=>by let⟨v,r,rfl,_,b⟩:=h.cons_inv;simp[ax.length b]
def ax.getD:∀ {ds:List D}{vs:List V}{i:Nat}{d:D},ax K H ds vs->ds[i]?=some d->∃v,vs[i]?=some v/\Rep K H d v
 | [],_,i,d,h,e=>by simp at e
 | d::ds,_,i,d',h,e=>by
  let⟨v',r,rfl,a,b⟩:=h.cons_inv;cases i with
  | zero=>simp at e;subst e;exact⟨v',rfl,a⟩
  | succ i=>simp at e;let⟨v,h1,h2⟩:=ax.getD b e;exact⟨v,by simpa using h1,h2⟩
def ax.append:∀ {ds es:List D}{vs us:List V},ax K H ds vs->ax K H es us->ax K H (ds++es) (vs++us)
 | [],_,_,_,h,g=>by rw[h.nil_inv];exact g
 | d::ds,_,_,_,h,g=>by let⟨v,r,rfl,a,b⟩:=h.cons_inv;exact ax.cons a (ax.append b g)
def ax.take:∀ {ds:List D}{vs:List V}(n:Nat),ax K H ds vs->ax K H (ds.take n) (vs.take n)
 | [],_,n,h=>by rw[h.nil_inv];simp[ax]
 | d::ds,_,0,h=>by simp[ax]
 | d::ds,_,n+1,h=>by let⟨v,r,rfl,a,b⟩:=h.cons_inv;exact ax.cons a (ax.take n b)
def ax.drop:∀ {ds:List D}{vs:List V}(n:Nat),ax K H ds vs->ax K H (ds.drop n) (vs.drop n)
 | [],_,n,h=>by rw[h.nil_inv];simp[ax]
 | d::ds,_,0,h=>h
 | d::ds,_,n+1,h=>by let⟨v,r,rfl,a,b⟩:=h.cons_inv;exact ax.drop n b
end
structure bU(HF H HF' H':Hp):Prop where
 hh:aR H H'
 ff:aR HF HF'
 fh:aR HF' H'
 nw:∀a o,HF' a=some o->HF a=some o\/H a=none
def bU.refl(s:aR HF H):bU HF H HF H:=⟨.refl _,.refl _,s,λ_ _ e=>.inl e⟩
def bU.trans(a:bU HF H HF1 H1)(b:bU HF1 H1 HF2 H2):bU HF H HF2 H2 :=
 ⟨a.hh.trans b.hh,a.ff.trans b.ff,b.fh,λx o e=>(b.nw x o e).elim (λz=>a.nw x o z) λz=>.inr (a.hh.free z)⟩
def dM(h:H p=none):aR H (upd H p o):=λb u e=>by rw[aK (aV e h)];exact e
def bU.new(s:aR HF H)(h:H p=none):bU HF H (upd HF p o) (upd H p o):=by
 have hf:HF p=none:=s.free h;refine⟨dM h,dM hf,λb u e=>?_,λb u e=>?_⟩
 ·by_cases hb:b=p
  ·subst hb;rw[aP] at e ⊢;exact e
  ·rw[aK hb] at e ⊢;exact s b u e
 ·by_cases hb:b=p
  ·subst hb;exact .inr h
  ·rw[aK hb] at e;exact .inl e
def bU.own(s:aR HF H)(h:H p=none):bU HF H HF (upd H p o) :=
 ⟨dM h,.refl _,λb u e=>by rw[aK (aV (s b u e) h)];exact s b u e,λ_ _ e=>.inl e⟩
def bU.freeze(g:bU HF H HF1 H1)(h:H p=none)(h1:H1 p=some o)(hf:HF1 p=none):bU HF H (upd HF1 p o) H1 :=
 ⟨g.hh,g.ff.trans (dM hf),λb u e=>by
  by_cases hb:b=p
  ·subst hb;rw[aP] at e;rw[h1,<- e]
  ·rw[aK hb] at e;exact g.fh b u e,λb u e=>by
  by_cases hb:b=p
  ·subst hb;exact .inr h
  ·rw[aK hb] at e;exact g.nw b u e⟩
def oI:List Str:=["ways_of","turned_order","fairest"]
def dP(K:W.Frag)(HF:Hp):Prop:=∀ (f:Addr) (oc:Value) (od:Option Addr) (fd:FuncData) (sl:Array (Option Value)) (c P:Addr),K.lookup f=some ⟨oc,od,.func fd,sl⟩->fd.qualname∈oI->fd.code=.ref c->W.codeHdIn K c P=true->HF P=some (.tab (fd.qualname++".<locals>."++"<lambda>"))
def dP.mono{K:W.Frag}(h:dP K HF)(e:aR HF HF'):dP K HF':=λf oc od fd sl c P a b d q=>e _ _ (h f oc od fd sl c P a b d q)
abbrev Env:=List (Option D)
structure cS(K:W.Frag)(HF:Hp)(ρ:Env)(σ:L2.St):Prop where
 get:∀ (i:Nat) (d:D),ρ[i]?=some (some d)->∃v,σ[i]?=some (some v)/\Rep K HF d v
 len:ρ.length<=σ.length
 tb:dP K HF
def cS.mono{K:W.Frag}(h:cS K HF ρ σ)(e:aR HF HF'):cS K HF' ρ σ:=⟨λi d q=>let ⟨v,a,b⟩:=h.get i d q;⟨v,a,b.mono e⟩,h.len,h.tb.mono e⟩
def tD(K:W.Frag)(f:Env->Option D):TE:=λσ H Q=>∃HF ρ d,aR HF H/\cS K HF ρ σ/\f ρ=some d/\∀v H' HF',bU HF H HF' H'->Rep K HF' d v->Q v H'
def DE(X:Cx)(e:Expr)(f:Env->Option D):Prop:=PE X e (tD X.K f)
def tF(K:W.Frag)(f:Env->Option (List D)):TE:=λσ H Q=>∃HF ρ ds,aR HF H/\cS K HF ρ σ/\f ρ=some ds /\
 ∀a vs H' HF',bU HF H HF' H'->H a=none->HF' a=none->H' a=some (.lst vs)->ax K HF' ds vs->Q (.ref a) H'
def DF(X:Cx)(e:Expr)(f:Env->Option (List D)):Prop:=PE X e (tF X.K f)
def Hb(K:W.Frag)(f:Env->Option Bool):TT:=λσ H Q=>∃HF ρ b,aR HF H/\cS K HF ρ σ/\f ρ=some b/\∀H' HF',bU HF H HF' H'->Q b H'
def DT(X:Cx)(e:Expr)(f:Env->Option Bool):Prop:=PT X e (Hb X.K f)
def Pb(K:W.Frag)(f:Env->Option (List D)):TA:=λσ H Q=>∃HF ρ ds,aR HF H/\cS K HF ρ σ/\f ρ=some ds/\∀vs H' HF',bU HF H HF' H'->ax K HF' ds vs->Q vs H'
def DA(X:Cx)(es:List Expr)(f:Env->Option (List D)):Prop:=PA X es (Pb X.K f)
def aN(h:PE X e t)(i:∀σ H Q,t' σ H Q->t σ H Q):PE X e t':=λpins s σ H Q I q=>h pins s σ H Q I (i σ H Q q)
def tm(h:PT X e t)(i:∀σ H Q,t' σ H Q->t σ H Q):PT X e t':=λpins s σ H Q I q=>h pins s σ H Q I (i σ H Q q)
def xu(h:PA X e t)(i:∀σ H Q,t' σ H Q->t σ H Q):PA X e t':=λpos pins s σ H Q I q=>h pos pins s σ H Q I (i σ H Q q)
def bs(h:x.bind f=some b):∃a,x=some a/\f a=some b:=by
 cases x with
 | none=>cases h
 | some a=>exact⟨a,rfl,h⟩
def DF.de(h:DF X e f):DE X e (λρ=>(f ρ).map PyData.list):=aN h λσ H Q ⟨HF,ρ,d,sm,eo,hf,q⟩=>by
 have hf:(f ρ).map PyData.list=some d:=hf;cases e1:f ρ with
 | none=>rw[e1] at hf;cases hf
 | some ds =>
  rw[e1] at hf;obtain rfl:PyData.list ds=d:=xC hf;refine⟨HF,ρ,ds,sm,eo,e1,λa vs H' HF' g ha hf' h' r=>q _ _ (upd HF' a (.lst vs)) (g.freeze ha h' hf') ?_⟩;simp?[Rep];exact⟨a,vs,rfl,.inl (.inl aP),r.mono (dM hf')⟩
def ae(i:Nat):Env->Option D:=λρ=>(ρ[i]?).getD none
def MU(i:Nat)(hN:X.N[i]?=some x)(hv:Gz X.env.scope x)(hd:(x == ("__debug__":Str))=false:=by decide)(hcd:(x == ("__classdict__":Str))=false:=by decide):DE X (.Name x pos) (ae i) :=
 aN (ki hN hv hd hcd) λσ H Q ⟨HF,ρ,d,sm,eo,hf,q⟩=>by
  have hf:(ρ[i]?).getD none=some d:=hf;cases e:ρ[i]? with
  | none=>rw[e] at hf;cases hf
  | some o =>
   rw[e] at hf;have hf:o=some d:=hf;subst hf;let⟨v,a,b⟩:=eo.get i d e;exact⟨v,a,q v H HF (.refl sm) b⟩
def fC(d:D):Env->Option D:=λ_=>some d
def K5{i j pos}:DE X (.Constant (.int i) j pos) (fC (.int i)):=aN Gg λσ H Q ⟨HF,ρ,d,sm,eo,hf,q⟩=>by cases hf;exact q _ H HF (.refl sm) (by simp[Rep])
def NU{b j pos}:DE X (.Constant (.bool b) j pos) (fC (.bool b)):=aN Fe λσ H Q ⟨HF,ρ,d,sm,eo,hf,q⟩=>by cases hf;exact q _ H HF (.refl sm) (by simp[Rep])
def KI{j pos}:DE X (.Constant .none j pos) (fC .none):=aN L8 λσ H Q ⟨HF,ρ,d,sm,eo,hf,q⟩=>by cases hf;exact q _ H HF (.refl sm) (by simp[Rep])
def Mu{x j pos}:DE X (.Constant (.str x) j pos) (fC (.str x)):=aN ET λσ H Q ⟨HF,ρ,d,sm,eo,hf,q⟩=>by cases hf;exact q _ H HF (.refl sm) (by simp[Rep])
def Jp(hg:Gl X x)(hm:X.mg x=some (.int i t))(hd:(x == ("__debug__":Str))=false:=by decide):DE X (.Name x pos) (fC (.int i)) :=
 aN (AY (v:=.int i) hg hm ⟨t,rfl⟩ hd) λσ H Q ⟨HF,ρ,d,sm,eo,hf,q⟩=>by cases hf;exact q _ H HF (.refl sm) (by simp[Rep])
def eB(K:W.Frag)(r:R2)(g:D->D->Option D):Prop:=∀HF H x y v1 v2 d Q,aR HF H->Rep K HF x v1->Rep K HF y v2->g x y=some d->(∀v H' HF',bU HF H HF' H'->Rep K HF' d v->Q v H')->r v1 v2 H Q
def f2(g:D->D->Option D)(f1 f2:Env->Option D):Env->Option D:=λρ=>(f1 ρ).bind λx=>(f2 ρ).bind λy=>g x y
def E4{X:Cx}{fa fb:Env->Option D}(hr:eB X.K r g):∀σ H Q,tD X.K (f2 g fa fb) σ H Q->Nt r (tD X.K fa) (tD X.K fb) σ H Q:=λσ H Q ⟨HF,ρ,d,sm,eo,hf,q⟩=>by
 let⟨x,hx,hf⟩:=bs hf;let⟨y,hy,hg⟩:=bs hf;exact⟨HF,ρ,x,sm,eo,hx,λv1 H1 HF1 g1 r1=>⟨HF1,ρ,y,g1.fh,eo.mono g1.ff,hy,λv2 H2 HF2 g2 r2=>hr HF2 H2 x y v1 v2 d Q g2.fh (r1.mono g2.ff) r2 hg λv H' HF' g3 r3=>q v H' HF' ((g1.trans g2).trans g3) r3⟩⟩
def rG(ho:eU X (binaryOp op) r)(hr:eB X.K r g)(ha:DE X a fa)(hb:DE X b fb):DE X (.BinOp a op b pos) (f2 g fa fb):=aN (C3 ho ha hb) (E4 hr)
def fH(ho:eU X (compareOp op) r)(hr:eB X.K r g)(ha:DE X a fa)(hb:DE X b fb)(hm:behindInMarks op b=false):DE X (.Compare a [op] [b] pos) (f2 g fa fb):=aN (Ja ho ha hb hm) (E4 hr)
def sf(C:Int->Int->Prop)[∀i j,Decidable (C i j)](g:Int->Int->D):D->D->Option D
 | .int i,.int j=>if C i j then some (g i j) else none
 | _,_=>none
def ER{K:W.Frag}{C:Int->Int->Prop}[∀i j,Decidable (C i j)]{gi:Int->Int->Int}:eB K (rI C λi j=>.int (gi i j)) (sf C λi j=>.int (gi i j)):=by
 intro HF H x y v1 v2 d Q sm r1 r2 hg q;cases x<;>cases y<;>simp?[sf] at hg<;>try cases hg
 rename_i i j;simp?[Rep] at r1 r2;by_cases hc:C i j
 ·rw[yK hc] at hg;cases hg;exact⟨i,j,r1,r2,hc,q _ H HF (.refl sm) (by simp[Rep])⟩
 ·rw[yM hc] at hg;cases hg
def Dm{K:W.Frag}{gi:Int->Int->Int}:eB K (G7 λi j=>.int (gi i j)) (sf (λ_ _=>True) λi j=>.int (gi i j)):=by
 intro HF H x y v1 v2 d Q sm r1 r2 hg q;cases x<;>cases y<;>simp?[sf] at hg<;>try cases hg
 rename_i i j;simp?[Rep] at r1 r2;exact⟨i,j,r1,r2,q _ H HF (.refl sm) (by simp[Rep])⟩
def iV{K:W.Frag}{gi:Int->Int->Bool}:eB K (G7 λi j=>.bl (gi i j)) (sf (λ_ _=>True) λi j=>.bool (gi i j)):=by
 intro HF H x y v1 v2 d Q sm r1 r2 hg q;cases x<;>cases y<;>simp?[sf] at hg<;>try cases hg
 rename_i i j;simp?[Rep] at r1 r2;exact⟨i,j,r1,r2,q _ H HF (.refl sm) (by simp[Rep])⟩
noncomputable instance (i j:Int):Decidable (nF i j):=by unfold nF;infer_instance
noncomputable instance (i j:Int):Decidable (Hw i j):=by unfold Hw;infer_instance
section
variable {X:Cx}{a b c:Expr}{fa fb fc:Env->Option D}{pos:Pos}{rest:List Expr}
def jv(fa fb:Env->Option D):Env->Option D:=λρ=>(fa ρ).bind fun|.bool true=>fb ρ|.bool false=>some (.bool false)|_=>none
def PQ(fa fb:Env->Option D):Env->Option D:=λρ=>(fa ρ).bind fun|.bool true=>some (.bool true)|.bool false=>fb ρ|_=>none
def N4:D->Option D|.bool b=>some (.bool (!b))|_=>none
def PH(fa:Env->Option D):Env->Option D:=λρ=>(fa ρ).bind N4
def KE{op}(h:DE X a fa):DE X (.BoolOp op [a] pos) fa:=Ll h
def Mg(ha:DE X a fa)(hb:DE X (.BoolOp .And (b::rest) pos) fb):DE X (.BoolOp .And (a::b::rest) pos) (jv fa fb):=aN (KA ha hb) λσ H Q ⟨HF,ρ,d,sm,eo,hf,q⟩=>by
 let⟨x,hx,hf⟩:=bs hf;refine⟨HF,ρ,x,sm,eo,hx,λv1 H1 HF1 g1 r1=>?_⟩;cases x<;>try cases hf
 rename_i k;simp?[Rep] at r1;refine⟨k,r1,?_⟩;cases k with
 | true=>exact nE ⟨HF1,ρ,d,g1.fh,eo.mono g1.ff,hf,λv H' HF' g r=>q v H' HF' (g1.trans g) r⟩
 | false=>cases hf;exact me (q _ H1 HF1 g1 (by simp[Rep]))
def NZ(ha:DE X a fa)(hb:DE X (.BoolOp .Or (b::rest) pos) fb):DE X (.BoolOp .Or (a::b::rest) pos) (PQ fa fb):=aN (Fk ha hb) λσ H Q ⟨HF,ρ,d,sm,eo,hf,q⟩=>by
 let⟨x,hx,hf⟩:=bs hf;refine⟨HF,ρ,x,sm,eo,hx,λv1 H1 HF1 g1 r1=>?_⟩;cases x<;>try cases hf
 rename_i k;simp?[Rep] at r1;refine⟨k,r1,?_⟩;cases k with
 | false=>exact me ⟨HF1,ρ,d,g1.fh,eo.mono g1.ff,hf,λv H' HF' g r=>q v H' HF' (g1.trans g) r⟩
 | true=>cases hf;exact nE (q _ H1 HF1 g1 (by simp[Rep]))
def gB:D->Option Bool|.bool b=>some b|_=>none
def fB(f:Env->Option D):Env->Option Bool:=λρ=>(f ρ).bind gB
def yo:∀σ H (Q:Bool->Hp->Prop),Hb X.K (fB f) σ H Q->tD X.K f σ H λx H1=>∃c,x=.bl c/\Q c H1:=λσ H Q ⟨HF,ρ,k,sm,eo,hf,q⟩=>by
 let⟨x,hx,hf⟩:=bs hf;refine⟨HF,ρ,x,sm,eo,hx,λv1 H1 HF1 g1 r1=>?_⟩;cases x<;>try cases hf
 simp?[Rep] at r1;exact⟨_,r1,q H1 HF1 g1⟩
def MV(h:DE X a f)(he:∀whole,isTrue a X.env whole=(do let v <- whole;standAt a.pos;holding [v] (truthy v)):=by intro _;rfl):DT X a (fB f):=tm (FO h he) yo
def fg(ho:eU X (compareOp op) r)(hr:eB X.K r g)(ha:DE X a fa)(hb:DE X b fb)(hm:behindInMarks op b=false):DT X (.Compare a [op] [b] pos) (fB (f2 g fa fb)) :=
 tm (AC ho ha hb hm) λσ H Q h=>E4 hr σ H _ (yo σ H Q h)
def fI(fa fb:Env->Option Bool):Env->Option Bool:=λρ=>(fa ρ).bind fun|true=>fb ρ|false=>some false
def dE(fa fb:Env->Option Bool):Env->Option Bool:=λρ=>(fa ρ).bind fun|true=>some true|false=>fb ρ
def bC(fa:Env->Option Bool):Env->Option Bool:=λρ=>(fa ρ).map (!·)
variable {ta tb:Env->Option Bool}
def DW(X:Cx)(e:Expr)(f:Env->Option Bool):Prop:=PW X e (Hb X.K f)
def Dd(h:PW X e t)(i:∀σ H Q,t' σ H Q->t σ H Q):PW X e t':=λwh pins s σ H Q I q=>h wh pins s σ H Q I (i σ H Q q)
def DW.dt(h:DW X a ta):DT X a ta:=PW.pt h
def GW(ha:DT X a ta):DW X (.BoolOp .And [a] pos) ta:=IF ha
def KY(ha:DT X a ta):DW X (.BoolOp .Or [a] pos) ta:=EI ha
def Lw(ha:DT X a ta)(hb:DW X (.BoolOp .And (b::rest) pos) tb):DW X (.BoolOp .And (a::b::rest) pos) (fI ta tb):=Dd (LB ha hb) λσ H Q ⟨HF,ρ,d,sm,eo,hf,q⟩=>by
 let⟨x,hx,hf⟩:=bs hf;refine⟨HF,ρ,x,sm,eo,hx,λH1 HF1 g1=>?_⟩;cases x with
 | true=>exact nE ⟨HF1,ρ,d,g1.fh,eo.mono g1.ff,hf,λH' HF' g=>q H' HF' (g1.trans g)⟩
 | false=>cases hf;exact me (q H1 HF1 g1)
def Nw(ha:DT X a ta)(hb:DW X (.BoolOp .Or (b::rest) pos) tb):DW X (.BoolOp .Or (a::b::rest) pos) (dE ta tb):=Dd (Ke ha hb) λσ H Q ⟨HF,ρ,d,sm,eo,hf,q⟩=>by
 let⟨x,hx,hf⟩:=bs hf;refine⟨HF,ρ,x,sm,eo,hx,λH1 HF1 g1=>?_⟩;cases x with
 | false=>exact me ⟨HF1,ρ,d,g1.fh,eo.mono g1.ff,hf,λH' HF' g=>q H' HF' (g1.trans g)⟩
 | true=>cases hf;exact nE (q H1 HF1 g1)
def K6(ha:DT X a ta):DT X (.UnaryOp .Not a pos) (bC ta):=tm (D1 ha) λσ H Q ⟨HF,ρ,d,sm,eo,hf,q⟩=>by
 have hf:(ta ρ).map (!·)=some d:=hf;cases e:ta ρ with
 | none=>rw[e] at hf;cases hf
 | some k=>rw[e] at hf;cases hf;exact⟨HF,ρ,k,sm,eo,e,λH1 HF1 g1=>q H1 HF1 g1⟩
def iD(tc:Env->Option Bool)(fa fb:Env->Option D):Env->Option D:=λρ=>(tc ρ).bind fun|true=>fa ρ|false=>fb ρ
def Ox(hc:DT X c ta)(ha:DE X a fa)(hb:DE X b fb):DE X (.IfExp c a b pos) (iD ta fa fb):=aN (u9 hc ha hb) λσ H Q ⟨HF,ρ,d,sm,eo,hf,q⟩=>by
 let⟨x,hx,hf⟩:=bs hf;refine⟨HF,ρ,x,sm,eo,hx,λH1 HF1 g1=>?_⟩;cases x with
 | true=>exact nE ⟨HF1,ρ,d,g1.fh,eo.mono g1.ff,hf,λv H' HF' g r=>q v H' HF' (g1.trans g) r⟩
 | false=>exact me ⟨HF1,ρ,d,g1.fh,eo.mono g1.ff,hf,λv H' HF' g r=>q v H' HF' (g1.trans g) r⟩
def iS(g g':D->D->Option D)(fa fb fc:Env->Option D):Env->Option D:=λρ=>(fa ρ).bind λx=>(fb ρ).bind λy=>(g x y).bind fun|.bool true=>(fc ρ).bind λz=>g' y z|.bool false=>some (.bool false)|_=>none
def AR(hr:eB X.K r g)(hr':eB X.K r' g'):∀σ H Q,tD X.K (iS g g' fa fb fc) σ H Q->xo r r' (tD X.K fa) (tD X.K fb) (tD X.K fc) σ H Q:=λσ H Q ⟨HF,ρ,d,sm,eo,hf,q⟩=>by
 let⟨x,hx,hf⟩:=bs hf;let⟨y,hy,hf⟩:=bs hf;let⟨z,hz,hf⟩:=bs hf;refine⟨HF,ρ,x,sm,eo,hx,λv1 H1 HF1 g1 r1=>⟨HF1,ρ,y,g1.fh,eo.mono g1.ff,hy,λv2 H2 HF2 g2 r2=>hr HF2 H2 x y v1 v2 z _ g2.fh (r1.mono g2.ff) r2 hz λv3 H3 HF3 g3 r3=>?_⟩⟩;cases z<;>try cases hf
 rename_i k;simp?[Rep] at r3;refine⟨k,r3,?_⟩;have G:=(g1.trans g2).trans g3;cases k with
 | false=>cases hf;exact me (q _ H3 HF3 G (by simp[Rep]))
 | true =>
  let⟨w,hw,hg⟩:=bs hf;exact nE ⟨HF3,ρ,w,G.fh,eo.mono G.ff,hw,λv4 H4 HF4 g4 r4=>hr' HF4 H4 y w v2 v4 d Q g4.fh (r2.mono (g3.ff.trans g4.ff)) r4 hg λv H' HF' g5 r5=>q v H' HF' ((G.trans g4).trans g5) r5⟩
def Gj(ho:eU X (compareOp op) r)(hr:eB X.K r g)(ho':eU X (compareOp op') r')(hr':eB X.K r' g')(ha:DE X a fa)(hb:DE X b fb)(hc:DE X c fc)
  (hm:lastMarks [op,op'] [b,c]=false:=by with_unfolding_all rfl):DE X (.Compare a [op,op'] [b,c] pos) (iS g g' fa fb fc):=aN (Fh ho ho' ha hb hc hm) (AR hr hr')
def DN(ho:eU X (compareOp op) r)(hr:eB X.K r g)(ho':eU X (compareOp op') r')(hr':eB X.K r' g')(ha:DE X a fa)(hb:DE X b fb)(hc:DE X c fc)
  (hm:lastMarks [op,op'] [b,c]=false:=by with_unfolding_all rfl):DT X (.Compare a [op,op'] [b,c] pos) (fB (iS g g' fa fb fc)) :=
 tm (Fx ho ho' ha hb hc hm) λσ H Q h=>AR hr hr' σ H _ (yo σ H Q h)
def af:Env->Option (List D):=λ_=>some []
def aa(f:Env->Option D)(g:Env->Option (List D)):Env->Option (List D):=λρ=>(f ρ).bind λx=>(g ρ).map (x::·)
def LQ:DA X [] af:=xu cO λσ H Q ⟨HF,ρ,d,sm,eo,hf,q⟩=>by cases hf;exact q [] H HF (.refl sm) ax.nil
def Il(he:DE X e f)(hs:DA X es g)(hst:starEach (e::es) X.env=(false,eval e X.env)::starEach es X.env:=by rfl):DA X (e::es) (aa f g) :=
 xu (bJ he hs hst) λσ H Q ⟨HF,ρ,d,sm,eo,hf,q⟩=>by
  let⟨x,hx,hf⟩:=bs hf;have hf:(g ρ).map (x::·)=some d:=hf;cases e1:g ρ with
  | none=>rw[e1] at hf;cases hf
  | some xs =>
   rw[e1] at hf;cases hf;exact⟨HF,ρ,x,sm,eo,hx,λv1 H1 HF1 g1 r1=>⟨HF1,ρ,xs,g1.fh,eo.mono g1.ff,e1,λvs H2 HF2 g2 r2=>q (v1::vs) H2 HF2 (g1.trans g2) (ax.cons (r1.mono g2.ff) r2)⟩⟩
variable {es:List Expr}{fs:Env->Option (List D)}
def small(ds:List D):Option (List D):=if ds.length<=sizeLine then some ds else none
def dY{ds es:List D}(h:small ds=some es):es=ds/\ds.length<=sizeLine:=by
 unfold small at h;split at h
 ·cases h;exact⟨rfl,‹_›⟩
 ·cases h
def ay(g:Env->Option (List D)):Env->Option D:=λρ=>(g ρ).bind λds=>(small ds).map PyData.tuple
def bQ(g:Env->Option (List D)):Env->Option (List D):=λρ=>(g ρ).bind small
def Ld{x1}(h:DA X es fs):DE X (.Tuple es x1 pos) (ay fs):=aN (DU h) λσ H Q ⟨HF,ρ,d,sm,eo,hf,q⟩=>by
 let⟨ds,hx,hf⟩:=bs hf;have hf:(small ds).map PyData.tuple=some d:=hf;cases e:small ds with
 | none=>rw[e] at hf;cases hf
 | some es' =>
  rw[e] at hf;cases hf;let⟨rfl,hz⟩:=dY e;refine⟨HF,ρ,_,sm,eo,hx,λvs H1 HF1 g1 r1=>⟨by rw[r1.length];exact hz,λp hp=>q _ _ (upd HF1 p (.tup vs)) (g1.trans (.new g1.fh hp)) ?_⟩⟩;simp?[Rep];exact⟨p,vs,rfl,.inl (.inl aP),r1.mono (dM (g1.fh.free hp))⟩
def D6(h:DA X es fs):DF X (.List es pos) (bQ fs):=aN (Ga h) λσ H Q ⟨HF,ρ,d,sm,eo,hf,q⟩=>by
 let⟨ds,hx,hf⟩:=bs hf;let⟨rfl,hz⟩:=dY hf;exact⟨HF,ρ,_,sm,eo,hx,λvs H1 HF1 g1 r1=>⟨by rw[r1.length];exact hz,λp hp=>q p vs _ HF1 (g1.trans (.own g1.fh hp)) (g1.hh.free hp) (g1.fh.free hp) aP r1⟩⟩
def bf:D->D->Option D
 | .tuple ds,.int i=>md ds i
 | .list ds,.int i=>md ds i
 | _,_=>none
def wy{K:W.Frag}(r:ax K HF ds vs)(h:md ds i=some d):∃v,md vs i=some v/\Rep K HF d v:=by
 unfold md at h ⊢;rw[r.length];let⟨j,hj,h⟩:=bs h;let⟨v,a,b⟩:=r.getD h;exact⟨v,by rw[hj];exact a,b⟩
def MR{K:W.Frag}:eB K (QB K) bf:=by
 intro HF H x y v1 v2 d Q sm r1 r2 hg q;cases x<;>cases y<;>simp?[bf] at hg<;>try cases hg
 ·simp?[Rep] at r1 r2;let⟨a,vs,rfl,hs,r⟩:=r1;let⟨v,hv,rv⟩:=wy r hg;exact .inl ⟨a,vs,_,v,rfl,r2,sm.seq hs,hv,q v H HF (.refl sm) rv⟩
 ·simp?[Rep] at r1 r2;let⟨a,vs,rfl,hs,r⟩:=r1;let⟨v,hv,rv⟩:=wy r hg;exact .inr (.inl ⟨a,vs,_,v,rfl,r2,aI sm hs,hv,q v H HF (.refl sm) rv⟩)
def Nl(ha:DE X a fa)(hb:DE X b fb)(hs:nN b:=by intro _ _;rfl):DE X (.Subscript a b pos) (f2 bf fa fb):=aN (J6 Mw ha hb hs) (E4 MR)
mutual
theorem cm{pins:List (Addr×Obj)}{σ:L2.St}{H HF:Hp}{s:Shared}(I:Inv X pins σ H s)(sm:aR HF H):∀ {d:D}{v:V}{u:Value},Rep X.K HF d v->RelV v u->∃as,Reads s.heap u d as
 | .none,_,_,h,r=>by simp?[Rep] at h;subst h;cases r;exact⟨_,.none⟩
 | .bool b,_,_,h,r=>by simp?[Rep] at h;subst h;cases r;exact⟨_,.bool b⟩
 | .int i,_,_,h,r=>by simp?[Rep] at h;subst h;let⟨t,rfl⟩:=r;exact⟨_,.int i t⟩
 | .str i,_,_,h,r=>by simp?[Rep] at h;subst h;let⟨t,rfl⟩:=r;exact⟨_,.str i t⟩
 | .tuple ds,_,_,h,r=>by
  simp?[Rep] at h;let⟨a,vs,rfl,hs,rr⟩:=h;cases r;let⟨its,rv,⟨o,ho,hc,n,hd⟩,_⟩:=I.tuple (aI sm hs);let⟨as,q⟩:=mK I sm rr rv;exact⟨as,.tuple ho hc hd (by simpa using q)⟩
 | .list ds,_,_,h,r=>by
  simp?[Rep] at h;let⟨a,vs,rfl,hs,rr⟩:=h;cases r;let⟨its,rv,pl,_⟩:=I.list (sm.seq hs);let⟨o,ho,hc,n,hd⟩:=pl.isList;let⟨as,q⟩:=mK I sm rr rv;exact⟨_,.list ho hc hd (by simpa using q)⟩
 | .dict _,_,_,h,r=>by simp?[Rep] at h
theorem mK{pins:List (Addr×Obj)}{σ:L2.St}{H HF:Hp}{s:Shared}(I:Inv X pins σ H s)(sm:aR HF H):∀ {ds:List D}{vs:List V}{us:List Value},ax X.K HF ds vs->aM vs us->∃as,ReadsAll s.heap us ds as
 | [],_,_,h,r=>by rw[h.nil_inv] at r;cases r;exact⟨_,.nil⟩
 | d::ds,_,_,h,r=>by
  let⟨v,vr,rfl,a,b⟩:=h.cons_inv;cases r with
  | cons r rr =>
   let⟨as,q⟩:=cm I sm a r;let⟨bs,p⟩:=mK I sm b rr;exact⟨_,.cons q p⟩
end
def Kh(K:W.Frag)(g:D->D->Option Bool):R2:=λv1 v2 H Q=>∃HF x y k,aR HF H/\Rep K HF x v1/\Rep K HF y v2/\g x y=some k/\Q (.bl k) H
def dq{K:W.Frag}:eB K (Kh K g) (λx y=>(g x y).map PyData.bool):=by
 intro HF H x y v1 v2 d Q sm r1 r2 hg q;have hg:(g x y).map PyData.bool=some d:=hg;cases e:g x y with
 | none=>rw[e] at hg;cases hg
 | some k=>rw[e] at hg;cases hg;exact⟨HF,x,y,k,sm,r1,r2,e,q _ H HF (.refl sm) (by simp[Rep])⟩
def GH(x y:D):Option Bool:=if SeqAt.shaped x=true/\SeqAt.shaped y=true then some (PyData.eqv x y) else none
def GA(x y:D):Option Bool:=if SeqAt.shaped x=true/\SeqAt.shaped y=true then some (!PyData.eqv x y) else none
def FC(hu:X.A.units+64 < cLine):eU X (compareOp .Eq) (Kh X.K GH):=by
 intro pins s σ H v1 v2 u1 u2 Q I rx ry h;let⟨HF,x,y,k,sm,r1,r2,hg,q⟩:=h;unfold GH at hg;split at hg<;>cases hg;rename_i hh;let⟨as,ra⟩:=cm I sm r1 rx;let⟨bs,rb⟩:=cm I sm r2 ry;exact eq_dataH ra rb hh.1 hh.2 hu ⟨.bl _,H,I,rfl,q⟩
def Gu(hu:X.A.units+64 < cLine):eU X (compareOp .NotEq) (Kh X.K GA):=by
 intro pins s σ H v1 v2 u1 u2 Q I rx ry h;let⟨HF,x,y,k,sm,r1,r2,hg,q⟩:=h;unfold GA at hg;split at hg<;>cases hg;rename_i hh;let⟨as,ra⟩:=cm I sm r1 rx;let⟨bs,rb⟩:=cm I sm r2 ry;exact ne_dataH ra rb hh.1 hh.2 hu ⟨.bl _,H,I,rfl,q⟩
def items:D->Option (List D)|.tuple ds=>some ds|.list ds=>some ds|_=>none
def OO(x y:D):Option Bool:=match y with
 | .tuple ds=>if SeqAt.shaped x=true/\SeqAt.shaped y=true then some (ds.any λz=>PyData.eqv z x) else none
 | .list ds=>if SeqAt.shaped x=true/\SeqAt.shaped y=true then some (ds.any λz=>PyData.eqv z x) else none
 | _=>none
def EE(hu:X.A.units+66 < cLine):eU X (compareOp .In) (Kh X.K OO):=by
 intro pins s σ H v1 v2 u1 u2 Q I rx ry h;let⟨HF,x,y,k,sm,r1,r2,hg,q⟩:=h;let⟨as,ra⟩:=cm I sm r1 rx;let⟨bs,rb⟩:=cm I sm r2 ry;cases y<;>simp?[OO] at hg<;>try cases hg
 all_goals
  split at hg<;>cases hg;rename_i ds hh;have c1:=kE hh.1;have c2:=kE hh.2;have d1:=SeqAt.depth_of_shaped hh.1;simp?[PyData.canLay0] at c2;have m:=Nat.min_le_right (PyData.depthAll ds) x.depth
  first
   | exact SeqAt.in_list_reads rb ra c2 c1 (by lia) ⟨.bl _,H,I,rfl,q⟩
   | exact SeqAt.in_tuple_reads rb ra c2 c1 (by lia) ⟨.bl _,H,I,rfl,q⟩
end
def Ow(K:W.Frag)(n:Nat)(m:List D->Option D):Sp:=λvs H Q _=>∃HF ds d,aR HF H/\dP K HF/\ax K HF ds vs/\ds.length=n/\m ds=some d/\∀v H' HF',bU HF H HF' H'->Rep K HF' d v->Q v H'
structure Gm(P:Program)(w:World)(K:W.Frag)(mg:Str->Option Value)(base:Heap)(k:Nat)(x:Str)(n:Nat)(m:List D->Option D):Prop where
 ex:∃ (f:Addr) (fd:FuncData) (ps:List Str),nA P w K mg base GE k f fd ps (Ow K n m)/\mg x=some (.ref f)/\W.keepIn K (.ref f)=true/\Binds K fd ps []
def Gm.mono{K:W.Frag}(F:Gm P w K mg base k x n m)(h:k<=j):Gm P w K mg base j x n m:=by
 let⟨f,fd,ps,a,b,c,d⟩:=F.ex;exact⟨f,fd,ps,a.mono h,b,c,d⟩
def ah(n:Nat)(m:List D->Option D)(fs:Env->Option (List D)):Env->Option D:=λρ=>(fs ρ).bind λds=>if ds.length=n then m ds else none
def Jj(F:Gm X.prog X.w X.K X.mg X.base k x n m)(hr:fQ k X.A)(hg:Gl X x)(ha:DA X (e::es) fs)(hdb:(x == ("__debug__":Str))=false:=by decide)
  (he:starEach (e::es) X.env=(false,eval e X.env)::starEach es X.env:=by rfl) (hpl:(backTo pos (starEach es X.env)).any (·.1)=false:=by rfl):DE X (.Call (.Name x p) (e::es) [] pos) (ah n m fs):=by
 let⟨f,fd,ps,ok,hm,hk,hb⟩:=F.ex;refine aN (Ar (E:=E0) ok hr hg hm hk hb .nil N0 ha hdb he hpl) λσ H Q ⟨HF,ρ,d,sm,eo,hf,q⟩=>?_;let⟨ds,hx,hf⟩:=bs hf;split at hf
 ·rename_i hl;exact⟨HF,ρ,ds,sm,eo,hx,λvs H1 HF1 g1 r1=>⟨HF1,ds,d,g1.fh,eo.tb.mono g1.ff,by rw[qF];exact r1,hl,hf,λv H' HF' g r=>q v H' HF' (g1.trans g) r⟩⟩
 ·cases hf
def Dv(K:W.Frag)(r:List V->Hp->VK->Prop)(g:List D->Option D):Prop:=∀HF H ds vs d Q,aR HF H->ax K HF ds vs->g ds=some d->(∀v H' HF',bU HF H HF' H'->Rep K HF' d v->Q v H')->r vs H Q
def aY(g:List D->Option D)(fs:Env->Option (List D)):Env->Option D:=λρ=>(fs ρ).bind g
def NI{X:Cx}{fs:Env->Option (List D)}(hs:Dv X.K r g):∀σ H Q,tD X.K (aY g fs) σ H Q->OS r (Pb X.K fs) σ H Q:=λσ H Q ⟨HF,ρ,d,sm,eo,hf,q⟩=>by
 let⟨ds,hx,hf⟩:=bs hf;exact⟨HF,ρ,ds,sm,eo,hx,λvs H1 HF1 g1 r1=>hs HF1 H1 ds vs d Q g1.fh r1 hf λv H' HF' g2 r2=>q v H' HF' (g1.trans g2) r2⟩
def A5(K:W.Frag)(r:List V->Hp->VK->Prop)(g:List D->Option (List D)):Prop:=∀HF H ds vs es Q,aR HF H->ax K HF ds vs->g ds=some es ->
 (∀a us H' HF',bU HF H HF' H'->H a=none->HF' a=none->H' a=some (.lst us)->ax K HF' es us->Q (.ref a) H')->r vs H Q
def jx(g:List D->Option (List D))(fs:Env->Option (List D)):Env->Option (List D):=λρ=>(fs ρ).bind g
def Kk{X:Cx}{fs:Env->Option (List D)}(hs:A5 X.K r g):∀σ H Q,tF X.K (jx g fs) σ H Q->OS r (Pb X.K fs) σ H Q:=λσ H Q ⟨HF,ρ,d,sm,eo,hf,q⟩=>by
 let⟨ds,hx,hf⟩:=bs hf;exact⟨HF,ρ,ds,sm,eo,hx,λvs H1 HF1 g1 r1=>hs HF1 H1 ds vs d Q g1.fh r1 hf λa us H' HF' g2 ha hf' h' r2=>q a us H' HF' (g1.trans g2) (g1.hh.free ha) hf' h' r2⟩
structure nj(X:Cx)(x:Str)(v:Value):Prop where
 gl:Gl X x
 mg:X.mg x=none
 bt:bootBuiltins x=some v
def gP{id:String}(hc:du X (.builtin id) r)(hs:Dv X.K r g)(B:nj X x (.builtin id))(ha:DA X (e::es) fs)(hn:x≠"__name__":=by decide)(hdb:(x == ("__debug__":Str))=false:=by decide)
  (he:starEach (e::es) X.env=(false,eval e X.env)::starEach es X.env:=by rfl) (hpl:(backTo pos (starEach es X.env)).any (·.1)=false:=by rfl):DE X (.Call (.Name x p) (e::es) [] pos) (aY g fs) :=
 aN (lT hc B.gl B.mg B.bt ha hn hdb he hpl) (NI hs)
def F1{id:String}(hc:du X (.builtin id) r)(hs:A5 X.K r g)(B:nj X x (.builtin id))(ha:DA X (e::es) fs)(hn:x≠"__name__":=by decide)(hdb:(x == ("__debug__":Str))=false:=by decide)
  (he:starEach (e::es) X.env=(false,eval e X.env)::starEach es X.env:=by rfl) (hpl:(backTo pos (starEach es X.env)).any (·.1)=false:=by rfl):DF X (.Call (.Name x p) (e::es) [] pos) (jx g fs) :=
 aN (lT hc B.gl B.mg B.bt ha hn hdb he hpl) (Kk hs)
def mf(hc:du X (.type T) r)(hs:Dv X.K r g)(B:nj X x (.type T))(ha:DA X (e::es) fs)(hn:x≠"__name__":=by decide)(hdb:(x == ("__debug__":Str))=false:=by decide)
  (he:starEach (e::es) X.env=(false,eval e X.env)::starEach es X.env:=by rfl) (hpl:(backTo pos (starEach es X.env)).any (·.1)=false:=by rfl):DE X (.Call (.Name x p) (e::es) [] pos) (aY g fs) :=
 aN (jm hc B.gl B.mg B.bt ha hn hdb he hpl) (NI hs)
def Ct(hc:du X (.type T) r)(hs:A5 X.K r g)(B:nj X x (.type T))(ha:DA X (e::es) fs)(hn:x≠"__name__":=by decide)(hdb:(x == ("__debug__":Str))=false:=by decide)
  (he:starEach (e::es) X.env=(false,eval e X.env)::starEach es X.env:=by rfl) (hpl:(backTo pos (starEach es X.env)).any (·.1)=false:=by rfl):DF X (.Call (.Name x p) (e::es) [] pos) (jx g fs) :=
 aN (jm hc B.gl B.mg B.bt ha hn hdb he hpl) (Kk hs)
def dI:D->Option (List D)|.tuple ds=>some ds|.list ds=>some ds|_=>none
def oneOf:List D->Option D|[d]=>some d|_=>none
def fO(h:oneOf ds=some d):ds=[d]:=by
 cases ds with
 | nil=>cases h
 | cons x r=>cases r with
  | nil=>cases h;rfl
  | cons _ _=>cases h
def kh(h:dI d=some ds):d=.tuple ds\/d=.list ds:=by
 cases d<;>cases h
 ·exact .inr rfl
 ·exact .inl rfl
def cK:List D->Option (List D):=λds=>(oneOf ds).bind dI
def fY{ds es:List D}(h:cK ds=some es):ds=[.tuple es]\/ds=[.list es]:=by
 let⟨d,h1,h2⟩:=bs h;rw[fO h1];rcases kh h2 with rfl|rfl
 ·exact .inl rfl
 ·exact .inr rfl
def bz:List D->Option D:=λds=>(cK ds).map λes=>.int es.length
def ag{α β:Type}{x:Option α}{f:α->β}{b:β}(h:x.map f=some b):∃a,x=some a/\f a=b:=by
 cases x with
 | none=>cases h
 | some a=>exact⟨a,rfl,xC h⟩
def JC{K:W.Frag}:Dv K (λxs H Q=>∃p ys,xs=[.ref p]/\(fS K H p ys\/gT K H p ys)/\Q (.int ys.length) H) bz:=by
 intro HF H ds vs d Q sm r hg q;let⟨es,h1,rfl⟩:=ag hg;rcases fY h1 with rfl|rfl
 all_goals
  let⟨v,r',rfl,a,b⟩:=r.cons_inv;rw[b.nil_inv];simp?[Rep] at a;let⟨p,us,rfl,h,rr⟩:=a
 ·exact⟨p,us,rfl,.inr (aI sm h),q _ H HF (.refl sm) (by simp[Rep,rr.length])⟩
 ·exact⟨p,us,rfl,.inl (sm.seq h),q _ H HF (.refl sm) (by simp[Rep,rr.length])⟩
def L3(B:nj X "len" (.builtin "len"))(ha:DA X [e] fs)(he:starEach [e] X.env=(false,eval e X.env)::starEach [] X.env:=by rfl):DE X (.Call (.Name "len" p) [e] [] pos) (aY bz fs) :=
 gP sX JC B ha (by decide) (by decide) he rfl
def C4{K:W.Frag}:A5 K (λxs H Q=>∃p ys,xs=[.ref p]/\(fS K H p ys\/gT K H p ys)/\∀l,H l=none->Q (.ref l) (upd H l (.lst ys))) cK:=by
 intro HF H ds vs d Q sm r hg q;rcases fY hg with rfl|rfl
 all_goals
  let⟨v,r',rfl,a,b⟩:=r.cons_inv;rw[b.nil_inv];simp?[Rep] at a;let⟨p,us,rfl,h,rr⟩:=a
 ·exact⟨p,us,rfl,.inr (aI sm h),λl hl=>q l us _ HF (.own sm hl) hl (sm.free hl) aP rr⟩
 ·exact⟨p,us,rfl,.inl (sm.seq h),λl hl=>q l us _ HF (.own sm hl) hl (sm.free hl) aP rr⟩
def IV(B:nj X "list" (.type "list"))(ha:DA X [e] fs)(he:starEach [e] X.env=(false,eval e X.env)::starEach [] X.env:=by rfl):DF X (.Call (.Name "list" p) [e] [] pos) (jx cK fs) :=
 Ct uo C4 B ha (by decide) (by decide) he rfl
def dU{K:W.Frag}(h:HF l=none)(r:ax K HF ds vs):Rep K (upd HF l (.tup vs)) (.tuple ds) (.ref l):=by
 simp?[Rep];exact⟨l,vs,rfl,.inl (.inl aP),r.mono (dM h)⟩
def BV{K:W.Frag}:Dv K (λxs H Q=>∃p ys,xs=[.ref p]/\((fS K H p ys/\∀l,H l=none->Q (.ref l) (upd H l (.tup ys)))\/(gT K H p ys/\Q (.ref p) H))) (λds=>(cK ds).map PyData.tuple):=by
 intro HF H ds vs d Q sm r hg q;let⟨es,h1,rfl⟩:=ag hg;rcases fY h1 with rfl|rfl
 all_goals
  let⟨v,r',rfl,a,b⟩:=r.cons_inv;rw[b.nil_inv];have a':=a;simp?[Rep] at a;let⟨p,us,rfl,h,rr⟩:=a
 ·exact⟨p,us,rfl,.inr ⟨aI sm h,q _ H HF (.refl sm) a'⟩⟩
 ·exact⟨p,us,rfl,.inl ⟨sm.seq h,λl hl=>q _ _ _ (.new sm hl) (dU (sm.free hl) rr)⟩⟩
def Ed(B:nj X "tuple" (.type "tuple"))(ha:DA X [e] fs)(he:starEach [e] X.env=(false,eval e X.env)::starEach [] X.env:=by rfl):DE X (.Call (.Name "tuple" p) [e] [] pos) (aY (λds=>(cK ds).map PyData.tuple) fs) :=
 mf qh BV B ha (by decide) (by decide) he rfl
def gk:D->String|.none=>"NoneType" | .bool _=>"bool" | .int _=>"int" | .str _=>"str" | .tuple _=>"tuple" | .list _=>"list" | .dict _=>"dict"
def sT(a b:String):Option Bool:=if ((Value.type a) == (Value.type b))=true then some true else if W.kitMeta b=true then (fastBuiltinMro a).map (·.contains (Value.type b)) else none
def JA:∀a∈["NoneType","bool","int","str","tuple","list"],sT a "int"=some (a == "int"||a == "bool"):=by decide +kernel
def Gs:∀a∈["NoneType","bool","int","str","tuple","list"],sT a "bool"=some (a == "bool"):=by decide +kernel
def kit_tuple:∀a∈["NoneType","bool","int","str","tuple","list"],sT a "tuple"=some (a == "tuple"):=by decide +kernel
def El{A:Around}{E:Value->Shared->Prop}(I:Inv X pins σ H s)(sm:aR HF H)(r:Rep X.K HF d v)(rv:RelV v u)
  (e:sT (gk d) T=some k) (h:∀tk,Q (.bool k) { s with toks:=tk }):wpAny (model X.prog X.w) A (call (.builtin "isinstance") [u,.type T]) Q E s:=by
 have e':W.kitOne X.K (.type (gk d)) (.type T)=some k:=e;cases d<;>simp?[Rep] at r
 ·subst r;cases rv;exact W.kia_one W.kitx_none I.kIn True.intro e' (λz=>nomatch z) h
 ·subst r;cases rv;exact W.kia_one W.kitx_bool I.kIn True.intro e' (λz=>nomatch z) h
 ·subst r;let⟨t,rfl⟩:=rv;exact W.kia_one W.kitx_int I.kIn True.intro e' (λz=>nomatch z) h
 ·subst r;let⟨t,rfl⟩:=rv;exact W.kia_one W.kitx_str I.kIn True.intro e' (λz=>nomatch z) h
 ·let⟨a,vs,rfl,hs,rr⟩:=r;cases rv;let⟨its,rv,pl,_⟩:=I.list (sm.seq hs);let⟨o,ho,hc,n,hd⟩:=pl.isList;exact W.kia_one W.kitx_list I.kIn ⟨o,ho,hc⟩ e' (λz=>nomatch z) h
 ·let⟨a,vs,rfl,hs,rr⟩:=r;cases rv;let⟨its,rv,⟨o,ho,hc,n,hd⟩,_⟩:=I.tuple (aI sm hs);exact W.kia_one W.kitx_tuple I.kIn ⟨o,ho,hc⟩ e' (λz=>nomatch z) h
def Cj(T:String)(f:Env->Option D):Env->Option D:=λρ=>(f ρ).bind λd=>(sT (gk d) T).map PyData.bool
def Nc(B:nj X "isinstance" (.builtin "isinstance"))(C:nj X xT (.type T))(h:DE X e f)(hn:xT≠"__name__":=by decide)(hd:(xT == ("__debug__":Str))=false:=by decide)
  (he:starEach [e,.Name xT pT] X.env=(false,eval e X.env)::starEach [.Name xT pT] X.env:=by rfl):DE X (.Call (.Name "isinstance" p) [e,.Name xT pT] [] pos) (Cj T f):=by
 have hc:du X (.builtin "isinstance") (λxs H Q=>∃HF d v k,xs=[v,.ty T]/\aR HF H/\Rep X.K HF d v/\sT (gk d) T=some k/\Q (.bl k) H):=by
  intro pins s σ H xs us Q I r h;let⟨HF,d,v,k,rfl,sm,rp,hk,q⟩:=h;cases r with
  | cons ra rr =>
   cases rr with
   | cons rb rn =>
    cases rn;cases rb;exact El I sm rp ra hk λtk=>⟨.bl k,H,I.tok _,rfl,q⟩
 refine aN (lT hc B.gl B.mg B.bt (bJ h (bJ (Ie (v:=.ty T) C.gl C.mg C.bt rfl hn hd) cO) he) (by decide) (by decide) he rfl) λσ H Q ⟨HF,ρ,d,sm,eo,hf,q⟩=>?_;let⟨x,hx,hf⟩:=bs hf;let⟨k,hk,rfl⟩:=ag hf;exact⟨HF,ρ,x,sm,eo,hx,λv1 H1 HF1 g1 r1=>⟨HF1,x,v1,k,rfl,g1.fh,r1,hk,q _ H1 HF1 g1 (by simp[Rep])⟩⟩
def Jx:D->D->Option D
 | .tuple xs,.tuple ys=>(small (xs++ys)).map PyData.tuple
 | _,_=>none
def An(K:W.Frag):R2:=λx y H Q=>∃a b xs ys,x=.ref a/\y=.ref b/\gT K H a xs/\gT K H b ys/\xs.length+ys.length<=sizeLine /\
 (xs=[]->Q (.ref b) H)/\(ys=[]->Q (.ref a) H)/\(∀p,H p=none->Q (.ref p) (upd H p (.tup (xs++ys))))
def B8:eU X (binaryOp .Add) (An X.K):=by
 intro pins s σ H x y v u Q I rx ry h;let⟨a,b,xs,ys,rfl,rfl,ha,hb,hz,q0,q1,q2⟩:=h;by_cases hx:xs=[]
 ·cases rx;cases ry;let⟨its,r1,p1,_⟩:=I.tuple ha;let⟨its2,r2,p2,_⟩:=I.tuple hb;let⟨⟨cls,dd,data,sl⟩,ho,hc,n,hd⟩:=id p1;let⟨⟨cls2,dd2,data2,sl2⟩,ho2,hc2,n2,hd2⟩:=id p2;simp only at hc hd hc2 hd2;subst hc hd hc2 hd2;have e:its=[]:=(L2.aM.nil_iff r1).mpr hx;exact wA ⟨_,ho,rfl⟩ ⟨_,ho2,rfl⟩ noFill_tuple_add seq_tuple_add vB kX (kS _ _)
   (tuple_addW0 a b its.toArray its2.toArray n n2 dd dd2 sl sl2 (by simp[e])) ⟨ho,ho2,⟨.ref b,H,I,rfl,q0 hx⟩⟩
 ·exact HN pins s σ H _ _ v u Q I rx ry ⟨a,b,xs,ys,rfl,rfl,ha,hb,hx,hz,q1,λ_ p hp=>q2 p hp⟩
def Js{K:W.Frag}:eB K (An K) Jx:=by
 intro HF H x y v1 v2 d Q sm r1 r2 hg q;cases x<;>cases y<;>simp?[Jx] at hg<;>try cases hg
 rename_i xs ys;let⟨es,h1,rfl⟩:=ag hg;let⟨rfl,hz⟩:=dY h1;have r1':=r1;have r2':=r2;simp?[Rep] at r1 r2;let⟨a,vs,rfl,ha,ra⟩:=r1;let⟨b,us,rfl,hb,rb⟩:=r2;refine⟨a,b,vs,us,rfl,rfl,aI sm ha,aI sm hb,by rw[ra.length,rb.length,<- zN];exact hz,λe=>?_,λe=>?_,λp hp=>q _ _ _ (.new sm hp) (dU (sm.free hp) (ra.append rb))⟩
 ·have:xs=[]:=by have:=ra.length;rw[e] at this;exact List.length_eq_zero_iff.mp this.symm
  subst this;exact q _ H HF (.refl sm) r2'
 ·have:ys=[]:=by have:=rb.length;rw[e] at this;exact List.length_eq_zero_iff.mp this.symm
  subst this;rw[qF] at q;exact q _ H HF (.refl sm) r1'
structure qu(K:W.Frag)(J:It)(HF:Hp)(ds:List D):Prop where
 go:∀i d H₁ HF₁,ds[i]?=some d->aR HF HF₁->aR HF₁ H₁->J.go i H₁/\∀x H₂,J.yld i H₁ x H₂->∃HF₂,bU HF₁ H₁ HF₂ H₂/\Rep K HF₂ d x
 stop:∀H₁ HF₁,aR HF HF₁->aR HF₁ H₁->J.stop ds.length H₁
def P9(K:W.Frag)(f:Env->Option (List D)):TI:=λσ H R=>∃HF ρ ds,aR HF H/\cS K HF ρ σ/\f ρ=some ds/\∀J H' HF',bU HF H HF' H'->qu K J HF' ds->R J H'
def DI(X:Cx)(tg iter:Expr)(f:Env->Option (List D)):Prop:=PI X tg iter (P9 X.K f)
def Bx{K:W.Frag}(h:fS K HF a vs)(r:ax K HF ds vs):qu K (O9 K a) HF ds where
 go:=λi d H₁ HF₁ e s1 s2=>by
  let⟨v,hv,rv⟩:=r.getD e;have q:=s2.seq (s1.seq h);refine⟨⟨vs,v,q,hv⟩,λx H₂ ⟨e2,hy⟩=>⟨HF₁,by rw[e2];exact .refl s2,?_⟩⟩;have:=hy vs q;rw[hv] at this;cases this;exact rv.mono s1
 stop:=λH₁ HF₁ s1 s2=>⟨vs,s2.seq (s1.seq h),by rw[r.length];exact yL _⟩
def EL{K:W.Frag}(h:gT K HF a vs)(r:ax K HF ds vs):qu K (PN K a) HF ds where
 go:=λi d H₁ HF₁ e s1 s2=>by
  let⟨v,hv,rv⟩:=r.getD e;have q:=aI s2 (aI s1 h);refine⟨⟨vs,v,q,hv⟩,λx H₂ ⟨e2,hy⟩=>⟨HF₁,by rw[e2];exact .refl s2,?_⟩⟩;have:=hy vs q;rw[hv] at this;cases this;exact rv.mono s1
 stop:=λH₁ HF₁ s1 s2=>⟨vs,aI s2 (aI s1 h),by rw[r.length];exact yL _⟩
def yr{K:W.Frag}{lo:Int}:qu K (OM lo n) HF ((List.range n).map λi=>PyData.int (lo+(i:Nat))) where
 go:=λi d H₁ HF₁ e s1 s2=>by
  rw[zO] at e;let⟨j,hj,rfl⟩:=ag e;let⟨hi,hj'⟩:=List.getElem?_eq_some_iff.mp hj;have hi':i < n:=by simpa using hi
  have:j=i:=by rw[<- hj'];simp
  subst this;exact⟨hi',λx H₂ ⟨e2,hx⟩=>⟨HF₁,by rw[e2];exact .refl s2,by simp[Rep,hx]⟩⟩
 stop:=λH₁ HF₁ s1 s2=>by
  show n<=_;simp
section
variable {X:Cx}{tg l e:Expr}{f:Env->Option D}{fs:Env->Option (List D)}{pos p:Pos}
def tE(h:PI X tg l t)(i:∀σ H R,t' σ H R->t σ H R):PI X tg l t':=λpins s σ H R I q=>h pins s σ H R I (i σ H R q)
def Mj(hl:PE X l tl):PI X tg l (λσ H R=>tl σ H λx H1=>∃a,x=.ref a/\((∃xs,fS X.K H1 a xs/\R (O9 X.K a) H1)\/∃xs,gT X.K H1 a xs/\R (PN X.K a) H1)):=by
 intro pins s σ H R I h;refine bL (hl pins s σ H _ I h) λv s1 ⟨x,H1,I1,r1,q1⟩=>?_;let⟨a,e,q⟩:=q1;subst e;cases r1;rcases q with ⟨xs,hq,q⟩|⟨xs,hq,q⟩
 ·let⟨its,rv,pl,hz⟩:=I1.list hq;refine qK pl.isList ⟨s1.heap.objs.size,[s1.heap.objs.size],_,_,H1,rfl,I1.kept (t':=s1.toks) λb o e=>zT _ e,Ce a _,⟨_,zW _ rfl,rfl,rfl⟩,λb hb=>?_,q⟩;cases List.mem_singleton.mp hb;exact I1.fpOk (yL _) I1.fresh
 ·let⟨its,rv,pl,hz⟩:=I1.tuple hq;refine xR (show s1.heap.IsTuple a its.toArray from pl) ⟨s1.heap.objs.size,[s1.heap.objs.size],_,_,H1,rfl,I1.kept (t':=s1.toks) λb o e=>zT _ e,zg a _,⟨_,zW _ rfl,rfl,rfl⟩,λb hb=>?_,q⟩;cases List.mem_singleton.mp hb;exact I1.fpOk (yL _) I1.fresh
def aE(f:Env->Option D):Env->Option (List D):=λρ=>(f ρ).bind dI
def Gr(h:DE X l f):DI X tg l (aE f):=tE (Mj h) λσ H R ⟨HF,ρ,ds,sm,eo,hf,q⟩=>by
 let⟨x,hx,hf⟩:=bs hf;refine⟨HF,ρ,x,sm,eo,hx,λv1 H1 HF1 g1 r1=>?_⟩;rcases kh hf with rfl|rfl
 ·simp?[Rep] at r1;let⟨a,vs,rfl,hs,rr⟩:=r1;exact⟨a,rfl,.inr ⟨vs,aI g1.fh hs,q _ H1 HF1 g1 (EL hs rr)⟩⟩
 ·simp?[Rep] at r1;let⟨a,vs,rfl,hs,rr⟩:=r1;exact⟨a,rfl,.inl ⟨vs,g1.fh.seq hs,q _ H1 HF1 g1 (Bx hs rr)⟩⟩
def uv(i:Int):Bool:=decide (-(2 ^ 62)<=i)&&decide (i < 2 ^ 62)
def j8:List D->Option (List D)
 | [.int j]=>if uv j then some ((List.range j.toNat).map λi=>PyData.int ((i:Nat):Int)) else none
 | _=>none
def uU(h:j8 ds=some es):∃j,ds=[.int j]/\uv j=true/\es=(List.range j.toNat).map λi=>PyData.int ((i:Nat):Int):=by
 unfold j8 at h;split at h
 ·split at h
  ·cases h;exact⟨_,rfl,‹_›,rfl⟩
  ·cases h
 ·cases h
def bN(fs:Env->Option (List D)):Env->Option (List D):=λρ=>(fs ρ).bind j8
def Ez(B:nj X "range" (.type "range"))(h:DA X [e] fs)(hs:starEach [e] X.env=[(false,eval e X.env)]:=by rfl):DI X tg (.Call (.Name "range" p) [e] [] pos) (bN fs) :=
 tE (CT B.gl B.mg h hs) λσ H R ⟨HF,ρ,ds,sm,eo,hf,q⟩=>by
  let⟨x,hx,hf⟩:=bs hf;let⟨j,rfl,hj,rfl⟩:=uU hf;refine⟨HF,ρ,_,sm,eo,hx,λvs H1 HF1 g1 r1=>?_⟩;let⟨v,r,rfl,a,b⟩:=r1.cons_inv;rw[b.nil_inv];simp?[Rep] at a;subst a;unfold uv at hj;rw[zF] at hj;refine⟨j,rfl,yP hj.1,yP hj.2,q _ H1 HF1 g1 ?_⟩;have:=yr (K:=X.K) (HF:=HF1) (lo:=0) (n:=j.toNat);simpa using this
def M8(K:W.Frag)(f:Env->D->Option Env):TG:=λv σ H Q=>∃HF ρ d ρ',aR HF H/\cS K HF ρ σ/\Rep K HF d v/\f ρ d=some ρ'/\∀σ',cS K HF ρ' σ'->cS K HF ρ σ'->Q σ' H
def DG(X:Cx)(tg:Expr)(f:Env->D->Option Env):Prop:=PG X tg (M8 X.K f)
def oA(h:PG X tg t)(i:∀v σ H Q,t' v σ H Q->t v σ H Q):PG X tg t':=λpins s σ H v u Q I r q=>h pins s σ H v u Q I r (i v σ H Q q)
def isFree(ρ:Env)(i:Nat):Bool:=((ρ[i]?).getD none).isNone
def ja{K:W.Frag}(eo:cS K HF ρ σ)(r:Rep K HF d v):cS K HF (ρ.set i (some d)) (σ.set i (some v)):=by
 refine⟨λj e h=>?_,by rw[yB,yB];exact eo.len,eo.tb⟩;rw[xH] at h ⊢;by_cases hij:i=j
 ·rw[yK hij] at h ⊢;by_cases hl:i < ρ.length
  ·rw[yK hl] at h;cases h;rw[yK (zP hl eo.len)];exact⟨v,rfl,r⟩
  ·rw[yM hl] at h;cases h
 ·rw[yM hij] at h ⊢;exact eo.get j e h
def jt{K:W.Frag}(eo:cS K HF ρ σ)(hf:isFree ρ i=true):cS K HF ρ (σ.set i (some v)):=by
 refine⟨λj e h=>?_,by rw[yB];exact eo.len,eo.tb⟩;have hij:i≠j:=by
  intro z;subst z;unfold isFree at hf;rw[h] at hf;cases hf
 rw[xH,yM hij];exact eo.get j e h
def fG(i:Nat):Env->D->Option Env:=λρ d=>if isFree ρ i=true then some (ρ.set i (some d)) else none
def AZ(i:Nat)(hN:X.N.Nodup)(hi:X.N[i]?=some x)(hx:Loc X.env.scope x)(hf:X.fn x=true\/X.env.scope.names.lookup x=some .local:=by first|exact .inl rfl|exact .inr rfl|assumption):DG X (.Name x pos) (fG i) :=
 oA (eR hN hi hx hf) λv σ H Q ⟨HF,ρ,d,ρ',sm,eo,r,hf,q⟩=>by
  unfold fG at hf;split at hf
  ·cases hf;exact q _ (ja eo r) (jt eo ‹_›)
  ·cases hf
def iA(i j:Nat):Env->D->Option Env:=λρ d=>match d with
 | .tuple [x,y]=>if isFree ρ i=true/\isFree ρ j=true then some ((ρ.set i (some x)).set j (some y)) else none
 | _=>none
def Mr(i j:Nat){px py:Pos}{k:Nat}(hc:X.calm=true)(hN:X.N.Nodup)(hi:X.N[i]?=some x)(hx:Loc X.env.scope x)(hj:X.N[j]?=some y)(hy:Loc X.env.scope y)
  (hf:X.fn x=true\/X.env.scope.names.lookup x=some .local:=by first|exact .inl rfl|exact .inr rfl|assumption) (hf':X.fn y=true\/X.env.scope.names.lookup y=some .local:=by first|exact .inl rfl|exact .inr rfl|assumption) :
  DG X (.Tuple [.Name x px,.Name y py] k pos) (iA i j) :=
 oA (y9 hc (fK (eR hN hi hx hf) (fK (eR hN hj hy hf') tQ))) λv σ H Q ⟨HF,ρ,d,ρ',sm,eo,r,hf,q⟩=>by
  unfold iA at hf;split at hf
  ·rename_i x' y';split at hf
   ·rename_i hh;cases hf;simp?[Rep] at r;let⟨a,vs,rfl,hs,rr⟩:=r;let⟨v1,r1,rfl,a1,b1⟩:=rr.cons_inv;let⟨v2,r2,rfl,a2,b2⟩:=b1.cons_inv;rw[b2.nil_inv] at hs;exact⟨a,_,rfl,aI sm hs,rfl,v1,_,rfl,v2,_,rfl,rfl,q _ (ja (ja eo a1) a2) (jt (jt eo hh.1) hh.2)⟩
   ·cases hf
  ·cases hf
def bp(tgt:Env->D->Option Env)(tt:Env->Option Bool)(te:Env->Option D)(ρ:Env):List D->Option (List D)
 | []=>some []
 | d::ds=>(tgt ρ d).bind λρ'=>(tt ρ').bind λb=>if b=true then (te ρ').bind λx=>(bp tgt tt te ρ ds).map (x::·) else bp tgt tt te ρ ds
def Kd(X:Cx)(ifs:List Expr)(f:Env->Option Bool):Prop:=GK X ifs (Hb X.K f)
def A4:Kd X [] (λ_=>some true):=λpins s σ H Q I ⟨HF,ρ,b,sm,eo,hf,q⟩=>HV pins s σ H Q I (by cases hf;exact q H HF (.refl sm))
def Jc(h:DT X c t):Kd X [c] t:=GY h
def fE(t:Nat)(cs:List Nat)(σ:L2.St):L2.St:=List.replicate t none++cs.map λj=>(σ[j]?).getD none
def f7(t:Nat)(cs:List Nat)(ρ:Env):Env:=List.replicate t none++cs.map λj=>(ρ[j]?).getD none
def AV{K:W.Frag}{cs:List Nat}(eo:cS K HF ρ σ):cS K HF (f7 t cs ρ) (fE t cs σ):=by
 refine⟨λi d h=>?_,by simp[f7,fE],eo.tb⟩;unfold f7 at h;unfold fE;by_cases hi:i < t
 ·rw[yR (by simpa using hi),yW,yK hi] at h;cases h
 ·rw[yS (by simpa using hi),zO,xK] at h;rw[yS (by simpa using hi),zO,xK];let⟨j,hj,h⟩:=ag h;rw[hj];cases e:ρ[j]? with
  | none=>rw[e] at h;cases h
  | some o =>
   rw[e] at h;have h:o=some d:=h;subst h;let⟨v,a,b⟩:=eo.get j d e;exact⟨v,by show some ((σ[j]?).getD none)=_;rw[a];rfl,b⟩
def ao(t:Nat)(cs:List Nat)(fi:Env->Option (List D))(tgt:Env->D->Option Env)(tt:Env->Option Bool)(te:Env->Option D):Env->Option (List D):=λρ=>(fi ρ).bind λds=>(bp tgt tt te (f7 t cs ρ) ds).bind small
variable {elt iter:Expr}{ifs:List Expr}{scope:Scope}{N:List Str}{t:Nat}{cs:List Nat}{fi:Env->Option (List D)}{tgt:Env->D->Option Env}{tt:Env->Option Bool}{te:Env->Option D}
def FV:∀σ H Q,tF X.K (ao t cs fi tgt tt te) σ H Q->wz (P9 X.K fi) (M8 X.K tgt) (Hb X.K tt) (tD X.K te) (fE t cs) σ H Q:=λσ H Q ⟨HF,ρ,out,sm,eo,hf,q⟩=>by
 let⟨ds,hx,hf⟩:=bs hf;let⟨out',ho,hf⟩:=bs hf;let⟨rfl,hz⟩:=dY hf;refine⟨HF,ρ,ds,sm,eo,hx,λJ H1 HF1 g1 it Dn hD=>?_⟩;have eo1:=AV (t:=t) (cs:=cs) (eo.mono g1.ff);have hFD:HF1 Dn=none:=g1.fh.free hD;refine⟨λi m σ' H'=>m+i=ds.length/\∃HF' xs ys rest,bU HF1 H1 HF' H'/\HF' Dn=none/\H' Dn=some (.lst ys)/\ax X.K HF' xs ys/\cS X.K HF' (f7 t cs ρ) σ'/\bp tgt tt te (f7 t cs ρ) (ds.drop i)=some rest/\xs++rest=out,
  ⟨ds.length,rfl,HF1,[],[],out,.own g1.fh hD,hFD,aP,ax.nil,eo1,ho,rfl⟩,?_⟩
 rintro i m σ' H' ⟨hm,HF',xs,ys,rest,G,hFD',hHD,rr,eo',hc,hout⟩;by_cases hi:i < ds.length
 ·refine .inr ?_;have hd:ds.drop i=ds[i]::ds.drop (i+1):=kP hi;have he:ds[i]?=some ds[i]:=List.getElem?_eq_some_iff.mpr ⟨hi,rfl⟩;generalize ds[i]=d at hd he;rw[hd] at hc;unfold bp at hc;let⟨ρ',h1,hc⟩:=bs hc;let⟨b,h2,hc⟩:=bs hc;let⟨go,yld⟩:=it.go i d H' HF' he G.ff G.fh;refine⟨go,λx H2 y=>?_⟩;let⟨HF2,G2,rx⟩:=yld x H2 y;refine⟨HF2,_,d,ρ',G2.fh,eo'.mono G2.ff,rx,h1,λσ2 eo2 eo2'=>?_⟩;refine⟨HF2,ρ',b,G2.fh,eo2,h2,λH3 HF3 G3=>?_⟩;have nof:∀HF4 H4,bU HF' H' HF4 H4->HF4 Dn=none:=λHF4 H4 G4=>by
   cases e4:HF4 Dn with
   | none=>rfl
   | some o =>
    rcases G4.nw Dn o e4 with z|z
    ·rw[hFD'] at z;cases z
    ·rw[hHD] at z;cases z
  cases b with
  | false =>
   refine me ⟨m - 1,by lia,by lia,HF3,xs,ys,rest,(G.trans G2).trans G3,nof _ _ (G2.trans G3),(G2.trans G3).hh _ _ hHD,rr.mono (G2.trans G3).ff,eo2'.mono G3.ff,by simpa using hc,hout⟩
  | true =>
   rw[yK rfl] at hc;let⟨z,h3,hc⟩:=bs hc;let⟨rest',h4,rfl⟩:=ag hc;refine nE ⟨HF3,ρ',z,G3.fh,eo2.mono G3.ff,h3,λv H4 HF4 G4 rv=>?_⟩;have GG:=(G2.trans G3).trans G4;have n4:=nof _ _ GG;have h4D:=GG.hh _ _ hHD;have hlen:ys.length < sizeLine:=by
    have e1:=rr.length;have e2:out.length=xs.length+(rest'.length+1):=by rw[<- hout];simp
    lia
   refine⟨ys,h4D,hlen,m - 1,by lia,by lia,HF4,xs++[z],ys++[v],rest',?_,n4,aP,(rr.mono GG.ff).append (ax.cons rv ax.nil),eo2'.mono (G3.ff.trans G4.ff),h4,by simp[<- hout]⟩;have G5:=G.trans GG;refine⟨λb o e=>?_,G5.ff,λb o e=>?_,G5.nw⟩
   ·rw[aK (aV e hD)];exact G5.hh b o e
   ·rw[aK (aV e n4)];exact G5.fh b o e
 ·have hi':i=ds.length:=by lia
  subst hi';rw[List.drop_length] at hc;cases hc;rw[qF] at hout;subst hout;exact .inl ⟨it.stop H' HF' G.ff G.fh,q Dn ys H' HF' (g1.trans G) (g1.hh.free hD) hFD' hHD rr⟩
def Jt(hc:X.calm=true)(S:eF X scope N (fE t cs))(hi:DI X tg iter fi)
  (hY:∀fp s H,DG (aq X scope N fp s H) tg tgt/\Kd (aq X scope N fp s H) ifs tt/\DE (aq X scope N fp s H) elt te)
  (hs:∀x,foldedSetIterable iter X.env x=pure x:=by intro _;rfl):DF X (.ListComp elt [⟨tg,iter,ifs,0⟩] scope pos) (ao t cs fi tgt tt te):=aN (Ii (g:=M8 X.K tgt) (tt:=Hb X.K tt) (te:=tD X.K te) hc S hi hY hs) FV
end
inductive Slot where
 | non|val (d:D)|own (ds:List D)
abbrev au:=List Slot
def Slot.all:Slot->Option D|.non=>none|.val d=>some d|.own ds=>some (.list ds)
def Slot.frz:Slot->Option D|.val d=>some d|_=>none
def Slot.thaw:Slot->Slot|.own ds=>.val (.list ds)|s=>s
def aD(ρ:au):Env:=ρ.map Slot.all
def cc(ρ:au):Env:=ρ.map Slot.frz
def hand(fz:List Nat):Nat->au->au
 | _,[]=>[]
 | k,s::r=>(if fz.contains k=true then s.thaw else s)::hand fz (k+1) r
def gH(fz:List Nat):∀ (ρ:au) (k i:Nat),(hand fz k ρ)[i]?=(ρ[i]?).map λs=>if fz.contains (k+i)=true then s.thaw else s
 | [],k,i=>by simp[hand]
 | s::r,k,0=>by simp[hand]
 | s::r,k,i+1=>by
  simp?[hand,yX];rw[gH fz r (k+1) i,Nat.add_assoc,Nat.add_comm 1 i]
def wu(fz:List Nat):∀ (ρ:au) (k:Nat),(hand fz k ρ).length=ρ.length
 | [],k=>rfl
 | s::r,k=>by simp[hand,wu fz r (k+1)]
structure ij(K:W.Frag)(HF₀ H₀ HF H:Hp)(ρ:au)(σ:L2.St):Prop where
 gr:bU HF₀ H₀ HF H
 val:∀ (i:Nat) (d:D),ρ[i]?=some (.val d)->∃v,σ[i]?=some (some v)/\Rep K HF d v
 own:∀ (i:Nat) (ds:List D),ρ[i]?=some (.own ds)->∃a vs,σ[i]?=some (some (.ref a))/\H a=some (.lst vs)/\HF a=none/\H₀ a=none/\ax K HF ds vs
 inj:∀ (i j:Nat) (ds es:List D) (a:Addr),ρ[i]?=some (.own ds)->ρ[j]?=some (.own es)->σ[i]?=some (some (.ref a))->σ[j]?=some (some (.ref a))->i=j
 len:ρ.length<=σ.length
 tb:dP K HF
section
variable {K:W.Frag}
def ij.all(S:ij K HF₀ H₀ HF H ρ σ):cS K H (aD ρ) σ:=by
 refine⟨λi d h=>?_,by simpa [aD] using S.len,S.tb.mono S.gr.fh⟩;unfold aD at h;rw[zO] at h;let⟨s,hs,h⟩:=ag h;cases s with
 | non=>cases h
 | val e=>cases h;let⟨v,a,b⟩:=S.val i _ hs;exact⟨v,a,b.mono S.gr.fh⟩
 | own ds =>
  cases h;let⟨a,vs,e1,e2,e3,_,e4⟩:=S.own i ds hs;exact⟨.ref a,e1,by simp?[Rep];exact⟨a,vs,rfl,fS.of e2,e4.mono S.gr.fh⟩⟩
def ij.frz(S:ij K HF₀ H₀ HF H ρ σ):cS K HF (cc ρ) σ:=by
 refine⟨λi d h=>?_,by simpa [cc] using S.len,S.tb⟩;unfold cc at h;rw[zO] at h;let⟨s,hs,h⟩:=ag h;cases s with
 | non=>cases h
 | val e=>cases h;exact S.val i _ hs
 | own ds=>cases h
def ij.grow(S:ij K HF₀ H₀ HF H ρ σ)(g:bU HF H HF' H'):ij K HF₀ H₀ HF' H' ρ σ where
 gr:=S.gr.trans g
 val:=λi d h=>let ⟨v,a,b⟩:=S.val i d h;⟨v,a,b.mono g.ff⟩
 own:=λi ds h=>by
  let⟨a,vs,e1,e2,e3,e5,e4⟩:=S.own i ds h;refine⟨a,vs,e1,g.hh _ _ e2,?_,e5,e4.mono g.ff⟩;cases e:HF' a with
  | none=>rfl
  | some o =>
   rcases g.nw a o e with z|z
   ·rw[e3] at z;cases z
   ·rw[e2] at z;cases z
 inj:=S.inj
 len:=S.len
 tb:=S.tb.mono g.ff
def ij.step(S:ij K HF₀ H₀ HF H ρ σ)(g:aR H H'):ij K HF₀ H₀ HF H' ρ σ:=S.grow ⟨g,.refl _,S.gr.fh.trans g,λ_ _ e=>.inl e⟩
def ij.hand(S:ij K HF₀ H₀ HF H ρ σ)(fz:List Nat):∃HF1,aR HF HF1/\ij K HF₀ H₀ HF1 H (hand fz 0 ρ) σ:=by
 let P:Addr->Prop:=λa=>∃i ds,fz.contains i=true/\ρ[i]?=some (.own ds)/\σ[i]?=some (some (.ref a));have cl:=Classical.propDecidable;let HF1:Hp:=λa=>if P a then H a else HF a
 have hP:∀a,P a->HF a=none/\H₀ a=none:=λa ⟨i,ds,_,h1,h2⟩=>by
  let⟨a',vs,e1,e2,e3,e5,e4⟩:=S.own i ds h1;rw[h2] at e1;cases e1;exact⟨e3,e5⟩
 have s1:aR HF HF1:=λb o e=>by
  show (if P b then H b else HF b)=some o;by_cases h:P b
  ·rw[(hP b h).1] at e;cases e
  ·rw[yM h];exact e
 have s2:aR HF1 H:=λb o e=>by
  have e:(if P b then H b else HF b)=some o:=e;by_cases h:P b
  ·rw[yK h] at e;exact e
  ·rw[yM h] at e;exact S.gr.fh b o e
 refine⟨HF1,s1,⟨S.gr.hh,S.gr.ff.trans s1,s2,λb o e=>?_⟩,λi d h=>?_,λi ds h=>?_,λi j ds es a h1 h2=>?_,by rw[wu];exact S.len,S.tb.mono s1⟩
 ·have e:(if P b then H b else HF b)=some o:=e;by_cases h:P b
  ·exact .inr (hP b h).2
  ·rw[yM h] at e;exact S.gr.nw b o e
 ·rw[gH] at h;let⟨s,hs,h⟩:=ag h;rw[jC] at h;cases s with
  | non=>split at h<;>cases h
  | val e =>
   have:Slot.val e=Slot.val d:=by split at h<;>exact h
   cases this;let⟨v,a,b⟩:=S.val i _ hs;exact⟨v,a,b.mono s1⟩
  | own ds =>
   split at h
   ·rename_i hc;cases h;let⟨a,vs,e1,e2,e3,e5,e4⟩:=S.own i ds hs;refine⟨.ref a,e1,?_⟩;simp?[Rep];refine⟨a,vs,rfl,.inl (.inl ?_),e4.mono s1⟩;show (if P a then H a else HF a)=_;rw[yK ⟨i,ds,hc,hs,e1⟩];exact e2
   ·cases h
 ·rw[gH] at h;let⟨s,hs,h⟩:=ag h;rw[jC] at h;cases s with
  | non=>split at h<;>cases h
  | val e=>split at h<;>cases h
  | own es =>
   split at h
   ·cases h
   ·rename_i hc;cases h;let⟨a,vs,e1,e2,e3,e5,e4⟩:=S.own i ds hs;refine⟨a,vs,e1,e2,?_,e5,e4.mono s1⟩;show (if P a then H a else HF a)=none;rw[yM ?_]
    ·exact e3
    ·rintro⟨j,es,hj,h1,h2⟩;have:=S.inj i j ds es a hs h1 e1 h2;subst this;exact hc hj
 ·rw[gH] at h1 h2;let⟨s,hs,h1⟩:=ag h1;let⟨s',hs',h2⟩:=ag h2;rw[jC] at h1 h2;cases s with
  | non=>split at h1<;>cases h1
  | val e=>split at h1<;>cases h1
  | own xs =>
   cases s' with
   | non=>split at h2<;>cases h2
   | val e=>split at h2<;>cases h2
   | own ys=>exact S.inj i j _ _ a hs hs'
def ij.setV(S:ij K HF₀ H₀ HF H ρ σ)(r:Rep K HF d v):ij K HF₀ H₀ HF H (ρ.set i (.val d)) (σ.set i (some v)):=by
 have ne:∀ {j:Nat}{s:Slot},(ρ.set i (.val d))[j]?=some s->(∀e,s≠.val e)->i≠j/\ρ[j]?=some s:=λ{j s} h hn=>by
  rw[xH] at h;by_cases hij:i=j
  ·rw[yK hij] at h;split at h
   ·cases h;exact absurd rfl (hn _)
   ·cases h
  ·rw[yM hij] at h;exact⟨hij,h⟩
 refine⟨S.gr,λj e h=>?_,λj ds h=>?_,λj k ds es a h1 h2 h3 h4=>?_,by rw[yB,yB];exact S.len,S.tb⟩
 ·rw[xH] at h ⊢;by_cases hij:i=j
  ·rw[yK hij] at h ⊢;split at h
   ·rename_i hl;cases h;rw[yK (zP hl S.len)];exact⟨v,rfl,r⟩
   ·cases h
  ·rw[yM hij] at h ⊢;exact S.val j e h
 ·let⟨hij,h⟩:=ne h λe z=>by cases z
  rw[xH,yM hij];exact S.own j ds h
 ·let⟨n1,h1⟩:=ne h1 λe z=>by cases z
  let⟨n2,h2⟩:=ne h2 λe z=>by cases z
  rw[xH,yM n1] at h3;rw[xH,yM n2] at h4;exact S.inj j k ds es a h1 h2 h3 h4
def ij.setO(S:ij K HF₀ H₀ HF H ρ σ)(hs:aR H H')(h1:H' a=some (.lst vs))(h2:HF a=none)(h3:H₀ a=none)(r:ax K HF ds vs)
  (fr:∀j es,i≠j->ρ[j]?=some (.own es)->σ[j]?≠some (some (.ref a))):ij K HF₀ H₀ HF H' (ρ.set i (.own ds)) (σ.set i (some (.ref a))):=by
 have S:=S.step hs;refine⟨S.gr,λj e h=>?_,λj es h=>?_,λj k xs ys b e1 e2 e3 e4=>?_,by rw[yB,yB];exact S.len,S.tb⟩
 ·rw[xH] at h ⊢;by_cases hij:i=j
  ·rw[yK hij] at h;split at h<;>cases h
  ·rw[yM hij] at h ⊢;exact S.val j e h
 ·rw[xH] at h ⊢;by_cases hij:i=j
  ·rw[yK hij] at h ⊢;split at h
   ·rename_i hl;cases h;rw[yK (zP hl S.len)];exact⟨a,vs,rfl,h1,h2,h3,r⟩
   ·cases h
  ·rw[yM hij] at h ⊢;exact S.own j es h
 ·rw[xH] at e1 e2 e3 e4;by_cases hij:i=j
  ·by_cases hik:i=k
   ·exact hij.symm.trans hik
   ·rw[yK hij] at e1 e3;rw[yM hik] at e2 e4;split at e3
    ·cases e3;exact absurd e4 (fr k ys hik e2)
    ·cases e3
  ·by_cases hik:i=k
   ·rw[yM hij] at e1 e3;rw[yK hik] at e2 e4;split at e4
    ·cases e4;exact absurd e3 (fr j xs hij e1)
    ·cases e4
   ·rw[yM hij] at e1 e3;rw[yM hik] at e2 e4;exact S.inj j k xs ys b e1 e2 e3 e4
end
inductive Out where
 | nx (ρ:au)|rt (d:D)
def Bf(K:W.Frag)(HF₀ H₀ HF:Hp)(E:Ends):Out->Prop
 | .nx ρ'=>∀σ' H' HF',ij K HF₀ H₀ HF' H' ρ' σ'->aR HF HF'->E.nx σ' H'
 | .rt d=>∀v H' HF',bU HF₀ H₀ HF' H'->Rep K HF' d v->E.rt v H'
def tS(K:W.Frag)(HF₀ H₀:Hp)(g:au->Option Out):TS:=λE σ H=>∃HF ρ o,ij K HF₀ H₀ HF H ρ σ/\g ρ=some o/\Bf K HF₀ H₀ HF E o
def DS(X:Cx)(HF₀ H₀:Hp)(st:Stmt)(g:au->Option Out):Prop:=PS X st (tS X.K HF₀ H₀ g)
def z6(X:Cx)(HF₀ H₀:Hp)(st:List Stmt)(g:au->Option Out):Prop:=uc X st (tS X.K HF₀ H₀ g)
section
variable {X:Cx}{HF₀ H₀:Hp}{st:Stmt}{rest:List Stmt}{g g1 g2:au->Option Out}{e:Expr}{pos:Pos}
def cJ(h:PS X st t)(i:∀E σ H,t' E σ H->t E σ H):PS X st t':=λpins s σ H E I q=>h pins s σ H E I (i E σ H q)
def nQ(h:uc X rest t)(i:∀E σ H,t' E σ H->t E σ H):uc X rest t':=λpins s σ H E I q=>h pins s σ H E I (i E σ H q)
def dQ:au->Option Out:=λρ=>some (.nx ρ)
def aw(g1 g2:au->Option Out):au->Option Out:=λρ=>(g1 ρ).bind fun|.nx ρ'=>g2 ρ'|.rt d=>some (.rt d)
def Bf.mono{K:W.Frag}(s:aR HF HF')(h:Bf K HF₀ H₀ HF E o):Bf K HF₀ H₀ HF' E o:=by
 cases o with
 | nx ρ'=>exactλσ' H' HF2 S s2=>h σ' H' HF2 S (s.trans s2)
 | rt d=>exact h
def Hx:z6 X HF₀ H₀ [] dQ:=nQ sJ λE σ H ⟨HF,ρ,o,S,hg,q⟩=>by cases hg;exact q σ H HF S (.refl _)
def FR(h1:DS X HF₀ H₀ st g1)(h2:z6 X HF₀ H₀ rest g2):z6 X HF₀ H₀ (st::rest) (aw g1 g2):=nQ (iC h1 h2) λE σ H ⟨HF,ρ,o,S,hg,q⟩=>by
 let⟨o1,h,hg⟩:=bs hg;refine⟨HF,ρ,o1,S,h,?_⟩;cases o1 with
 | nx ρ'=>exactλσ' H' HF' S' s=>⟨HF',ρ',o,S',hg,q.mono s⟩
 | rt d=>cases hg;exact q
def AE(h1:DS X HF₀ H₀ st g1):z6 X HF₀ H₀ [st] g1:=Hi h1
def HG:DS X HF₀ H₀ (.Pass pos) dQ:=cJ Ho λE σ H ⟨HF,ρ,o,S,hg,q⟩=>by cases hg;exact q σ H HF S (.refl _)
def KS{x j pos pos'}:DS X HF₀ H₀ (.Expr (.Constant (.str x) j pos) pos') dQ:=cJ My λE σ H ⟨HF,ρ,o,S,hg,q⟩=>by cases hg;exact q σ H HF S (.refl _)
def dC(t:Env->Option Bool)(g1 g2:au->Option Out):au->Option Out:=λρ=>(t (aD ρ)).bind λb=>if b=true then g1 ρ else g2 ρ
def N3(hc:DT X c t)(ha:z6 X HF₀ H₀ a g1)(hb:z6 X HF₀ H₀ b g2):DS X HF₀ H₀ (.If c a b pos) (dC t g1 g2):=cJ (Ge hc ha hb) λE σ H ⟨HF,ρ,o,S,hg,q⟩=>by
 let⟨b,h,hg⟩:=bs hg;refine⟨H,aD ρ,b,.refl _,S.all,h,λH' HF' G=>?_⟩;cases b with
 | true=>exact nE ⟨HF,ρ,o,S.step G.hh,hg,q⟩
 | false=>exact me ⟨HF,ρ,o,S.step G.hh,hg,q⟩
def u3:∀ (ρ:au) (k n:Nat),k+ρ.length<=n->cc (hand (List.range n) k ρ)=aD ρ
 | [],k,n,h=>rfl
 | s::r,k,n,h=>by
  have hk:(List.range n).contains k=true:=by simp at h ⊢;lia
  have ih:=u3 r (k+1) n (by simp at h;lia);unfold cc aD at ih ⊢;rw[hand,yK hk,zI,zI,ih];cases s<;>rfl
def aG(f:Env->Option D):au->Option Out:=λρ=>(f (aD ρ)).map Out.rt
def Mp(h:DE X e f):DS X HF₀ H₀ (.Return (some e) pos) (aG f):=cJ (xp h) λE σ H ⟨HF,ρ,o,S,hg,q⟩=>by
 let⟨d,h,rfl⟩:=ag hg;let⟨HF1,s1,S1⟩:=S.hand (List.range ρ.length);refine⟨HF1,aD ρ,d,S1.gr.fh,?_,h,λv H' HF' G r=>q v H' HF' (S1.gr.trans G) r⟩;have:=S1.frz;rw[u3 ρ 0 ρ.length (by lia)] at this;exact this
def kq:D->Bool|.none=>true|.bool _=>true|.int _=>true|.str _=>true|_=>false
def uM{K:W.Frag}(h:kq d=true)(r:Rep K HF d v):Rep K HF' d v:=by
 cases d<;>cases h<;>(simp?[Rep] at r ⊢;exact r)
mutual
def ie:D->Bool
 | .tuple ds=>ke ds
 | .list _=>false
 | .dict _=>false
 | _=>true
def ke:List D->Bool
 | []=>true
 | d::ds=>ie d&&ke ds
end
mutual
theorem uB{K:W.Frag}{H1 H2:Hp}(ht:∀a xs,gT K H1 a xs->gT K H2 a xs):∀ {d:D}{v:V},ie d=true->Rep K H1 d v->Rep K H2 d v
 | .none,_,_,r=>by simp?[Rep] at r ⊢;exact r
 | .bool _,_,_,r=>by simp?[Rep] at r ⊢;exact r
 | .int _,_,_,r=>by simp?[Rep] at r ⊢;exact r
 | .str _,_,_,r=>by simp?[Rep] at r ⊢;exact r
 | .tuple ds,v,h,r=>by
  simp?[ie] at h;simp?[Rep] at r ⊢;let⟨a,vs,e,q,rr⟩:=r;exact⟨a,vs,e,ht _ _ q,rK ht h rr⟩
 | .list _,_,h,_=>by simp[ie] at h
 | .dict _,_,h,_=>by simp[ie] at h
theorem rK{K:W.Frag}{H1 H2:Hp}(ht:∀a xs,gT K H1 a xs->gT K H2 a xs):∀ {ds:List D}{vs:List V},ke ds=true->ax K H1 ds vs->ax K H2 ds vs
 | [],_,_,r=>by simp?[ax] at r ⊢;exact r
 | d::ds,vs,h,r=>by
  simp?[ke,zF] at h;simp?[ax] at r ⊢;let⟨v,r',e,a,b⟩:=r;exact⟨v,r',e,uB ht h.1 a,rK ht h.2 b⟩
end
def ij.back{K:W.Frag}(S:ij K HF₀ H₀ HF H ρ σ)(S1:ij K HF₀ H₀ HF1 H ρ1 σ)(s1:aR HF HF1)(G:bU HF1 H HF' H'):∃HF2,aR HF HF2/\ij K HF₀ H₀ HF2 H' ρ σ/\(∀d v,ie d=true->Rep K HF' d v->Rep K HF2 d v)/\∀b o,HF2 b=some o->HF' b=some o:=by
 have cl:=Classical.propDecidable;let O:Addr->Prop:=λa=>∃ (i:Nat) (ds:List D),ρ[i]?=some (Slot.own ds)/\σ[i]?=some (some (V.ref a));let HF2:Hp:=λa=>if O a then none else HF' a
 have hO:∀a,O a->HF a=none/\∃vs,H a=some (.lst vs):=λa ⟨i,ds,h1,h2⟩=>by
  let⟨a',vs,e1,e2,e3,_,_⟩:=S.own i ds h1;rw[h2] at e1;cases e1;exact⟨e3,vs,e2⟩
 have h2:∀a,¬ O a->HF2 a=HF' a:=λa n=>yM n;have h3:∀a,O a->HF2 a=none:=λa n=>yK n;have sa:aR HF HF2:=λb o e=>by
  have nb:¬ O b:=λz=>by rw[(hO b z).1] at e;cases e
  rw[h2 b nb];exact G.ff b o (s1 b o e)
 have sb:∀b o,HF2 b=some o->HF' b=some o:=λb o e=>by
  by_cases z:O b
  ·rw[h3 b z] at e;cases e
  ·rwa [h2 b z] at e
 have g2:=S1.gr.trans G;refine⟨HF2,sa,⟨⟨g2.hh,S.gr.ff.trans sa,λb o e=>G.fh b o (sb b o e),λb o e=>g2.nw b o (sb b o e)⟩,λi d h=>?_,λi ds h=>?_,S.inj,S.len,S.tb.mono sa⟩,λd v hn r=>uB (λa xs q=>?_) hn r,sb⟩
 ·let⟨v,e1,r⟩:=S.val i d h;exact⟨v,e1,r.mono sa⟩
 ·let⟨a,vs,e1,e2,e3,e5,e4⟩:=S.own i ds h;exact⟨a,vs,e1,G.hh _ _ e2,h3 a ⟨i,ds,h,e1⟩,e5,e4.mono sa⟩
 ·have nt:∀o,HF' a=some o->(∀vs,o≠.lst vs)->HF2 a=some o:=λo e hne=>by
   by_cases z:O a
   ·let⟨_,vs,e2⟩:=hO a z;have:=G.hh _ _ e2;rw[G.fh a o e] at this;cases this;exact absurd rfl (hne vs)
   ·rw[h2 a z];exact e
  rcases q with (q|⟨o,q⟩)|q
  ·exact .inl (.inl (nt _ q λvs z=>by cases z))
  ·exact .inl (.inr ⟨o,nt _ q λvs z=>by cases z⟩)
  ·exact .inr q
def aO(i:Nat)(fz:List Nat)(f:Env->Option D):au->Option Out:=λρ=>(f (aD ρ)).bind λd=>if kq d=true then some (.nx (ρ.set i (.val d))) else (f (cc (hand fz 0 ρ))).map λd'=>.nx ((if ie d'=true then ρ else hand fz 0 ρ).set i (.val d'))
def Nb:∀E σ H,tS X.K HF₀ H₀ (aO i fz f) E σ H->DR (tD X.K f) (uE i) E σ H:=λE σ H ⟨HF,ρ,o,S,hg,q⟩=>by
 let⟨d,h,hg⟩:=bs hg;split at hg
 ·rename_i hs;cases hg;exact⟨H,aD ρ,d,.refl _,S.all,h,λv H' HF' G r=>q _ H' HF ((S.step G.hh).setV (uM hs r)) (.refl _)⟩
 ·let⟨d',h',rfl⟩:=ag hg;let⟨HF1,s1,S1⟩:=S.hand fz;refine⟨HF1,_,d',S1.gr.fh,S1.frz,h',λv H' HF' G r=>?_⟩;by_cases hn:ie d'=true
  ·rw[yK hn] at q;let⟨HF2,s2,S2,hb,_⟩:=S.back S1 s1 G;exact q _ H' HF2 (S2.setV (hb d' v hn r)) s2
  ·rw[yM hn] at q;exact q _ H' HF' ((S1.grow G).setV r) (s1.trans G.ff)
def K7(i:Nat)(fz:List Nat)(hN:X.N.Nodup)(hi:X.N[i]?=some x)(hx:Loc X.env.scope x)(he:DE X e f)(hs:swapsWith e (some (.Name x pos')) pos.line X.env=pure false:=by rfl)
  (hf:X.fn x=true\/X.env.scope.names.lookup x=some .local:=by first|exact .inl rfl|exact .inr rfl|assumption):DS X HF₀ H₀ (.Assign [.Name x pos'] e pos) (aO i fz f):=cJ (uf hN hi hx he hs hf) Nb
def aX(i:Nat)(fz:List Nat)(f:Env->Option (List D)):au->Option Out:=λρ=>(f (cc (hand fz 0 ρ))).map λds=>.nx ((hand fz 0 ρ).set i (.own ds))
def Gb:∀E σ H,tS X.K HF₀ H₀ (aX i fz f) E σ H->DR (tF X.K f) (uE i) E σ H:=λE σ H ⟨HF,ρ,o,S,hg,q⟩=>by
 let⟨ds,h,rfl⟩:=ag hg;let⟨HF1,s1,S1⟩:=S.hand fz;refine⟨HF1,_,ds,S1.gr.fh,S1.frz,h,λa vs H' HF' G ha hf h' r=>q _ H' HF' ?_ (s1.trans G.ff)⟩;have S2:=S1.grow G;refine S2.setO (.refl _) h' hf (S1.gr.hh.free ha) r λj es _ hj z=>?_;let⟨b,us,e1,e2,_⟩:=S1.own j es hj;rw[e1] at z;cases z;rw[ha] at e2;cases e2
def uj(i:Nat)(fz:List Nat)(hN:X.N.Nodup)(hi:X.N[i]?=some x)(hx:Loc X.env.scope x)(he:DF X e f)(hs:swapsWith e (some (.Name x pos')) pos.line X.env=pure false:=by rfl)
  (hf:X.fn x=true\/X.env.scope.names.lookup x=some .local:=by first|exact .inl rfl|exact .inr rfl|assumption):DS X HF₀ H₀ (.Assign [.Name x pos'] e pos) (aX i fz f):=cJ (uf hN hi hx he hs hf) Gb
def GX(i:Nat)(fz:List Nat){cs:List Nat}
  (hc:X.calm=true) (S:eF X scope N (fE t cs)) (hi:DI X tg iter fi)
  (hY:∀fp s H,DG (aq X scope N fp s H) tg tgt/\Kd (aq X scope N fp s H) ifs tt/\DE (aq X scope N fp s H) elt te)
  (hN:X.N.Nodup) (hiy:X.N[i]?=some y) (hy:X.env.scope.names.lookup y=some .local)
  (hsw:swapsWith (.ListComp elt [⟨tg,iter,ifs,0⟩] scope pos) (some (.Name y py)) spos.line X.env=pure true)
  (hs:∀x,foldedSetIterable iter X.env x=pure x:=by intro _;rfl):DS X HF₀ H₀ (.Assign [.Name y py] (.ListComp elt [⟨tg,iter,ifs,0⟩] scope pos) spos) (aX i fz (ao t cs fi tgt tt te)) :=
 cJ (Hv (g:=M8 X.K tgt) (tt:=Hb X.K tt) (te:=tD X.K te) hc S hi hY hN hiy hy hsw hs) λE σ H q=>by
  have:=Gb E σ H q;exact FV σ H _ this
def QQ(K:W.Frag)(HF₀ H₀:Hp)(f:au->D->Option au):TG:=λv σ H Q=>∃HF ρ d ρ',ij K HF₀ H₀ HF H ρ σ/\Rep K HF d v/\f ρ d=some ρ'/\∀σ',ij K HF₀ H₀ HF H ρ' σ'->Q σ' H
def OP(X:Cx)(HF₀ H₀:Hp)(tg:Expr)(f:au->D->Option au):Prop:=PG X tg (QQ X.K HF₀ H₀ f)
def v7(i:Nat):au->D->Option au:=λρ d=>some (ρ.set i (.val d))
def Dj(i:Nat)(hN:X.N.Nodup)(hi:X.N[i]?=some x)(hx:Loc X.env.scope x)(hf:X.fn x=true\/X.env.scope.names.lookup x=some .local:=by first|exact .inl rfl|exact .inr rfl|assumption):OP X HF₀ H₀ (.Name x pos) (v7 i) :=
 oA (eR hN hi hx hf) λv σ H Q ⟨HF,ρ,d,ρ',S,r,hf,q⟩=>by cases hf;exact q _ (S.setV r)
def eQ(i j:Nat):au->D->Option au:=λρ d=>match d with
 | .tuple [x,y]=>some ((ρ.set i (.val x)).set j (.val y))
 | _=>none
def IZ(i j:Nat){px py:Pos}{k:Nat}(hc:X.calm=true)(hN:X.N.Nodup)(hi:X.N[i]?=some x)(hx:Loc X.env.scope x)(hj:X.N[j]?=some y)(hy:Loc X.env.scope y)
  (hf:X.fn x=true\/X.env.scope.names.lookup x=some .local:=by first|exact .inl rfl|exact .inr rfl|assumption) (hf':X.fn y=true\/X.env.scope.names.lookup y=some .local:=by first|exact .inl rfl|exact .inr rfl|assumption) :
  OP X HF₀ H₀ (.Tuple [.Name x px,.Name y py] k pos) (eQ i j) :=
 oA (y9 hc (fK (eR hN hi hx hf) (fK (eR hN hj hy hf') tQ))) λv σ H Q ⟨HF,ρ,d,ρ',S,r,hf,q⟩=>by
  unfold eQ at hf;split at hf
  ·cases hf;simp?[Rep] at r;let⟨a,vs,rfl,hs,rr⟩:=r;let⟨v1,r1,rfl,a1,b1⟩:=rr.cons_inv;let⟨v2,r2,rfl,a2,b2⟩:=b1.cons_inv;rw[b2.nil_inv] at hs;exact⟨a,_,rfl,aI S.gr.fh hs,rfl,v1,_,rfl,v2,_,rfl,rfl,q _ ((S.setV a1).setV a2)⟩
  ·cases hf
def eH(tgt:au->D->Option au)(gb:au->Option Out):List D->au->Option Out
 | [],ρ=>some (.nx ρ)
 | d::ds,ρ=>(tgt ρ d).bind λρ1=>(gb ρ1).bind fun|.nx ρ2=>eH tgt gb ds ρ2|.rt v=>some (.rt v)
def dJ(fz:List Nat)(fi:Env->Option (List D))(tgt:au->D->Option au)(gb:au->Option Out):au->Option Out:=λρ=>(fi (cc (hand fz 0 ρ))).bind λds=>eH tgt gb ds (hand fz 0 ρ)
def Lv(fz:List Nat)(hp:PassesOwn (model X.prog X.w) X.A X.env X.xe)(hc:X.calm=true)(hi:DI X tg iter fi)(hg:OP X HF₀ H₀ tg tgt)(hb:z6 X HF₀ H₀ body gb)
  (hs:∀x,foldedSetIterable iter X.env x=pure x:=by intro _;rfl):DS X HF₀ H₀ (.For tg iter body [] pos) (dJ fz fi tgt gb):=cJ (LP hp hc hi hg hb hs) λE σ H ⟨HF,ρ,o,S,hg,q⟩=>by
 let⟨ds,h,hg⟩:=bs hg;let⟨HF1,s1,S1⟩:=S.hand fz;refine⟨HF1,_,ds,S1.gr.fh,S1.frz,h,λJ H2 HF2 G it=>?_⟩;refine⟨λi m σ' H'=>m+i=ds.length/\∃HF' ρ',ij X.K HF₀ H₀ HF' H' ρ' σ'/\aR HF2 HF'/\eH tgt gb (ds.drop i) ρ'=some o,⟨ds.length,rfl,HF2,_,S1.grow G,.refl _,hg⟩,?_⟩;rintro i m σ' H' ⟨hm,HF',ρ',S',s',hf⟩;by_cases hi:i < ds.length
 ·refine .inr ?_;have hd:ds.drop i=ds[i]::ds.drop (i+1):=kP hi;have he:ds[i]?=some ds[i]:=List.getElem?_eq_some_iff.mpr ⟨hi,rfl⟩;generalize ds[i]=d at hd he;rw[hd] at hf;unfold eH at hf;let⟨ρ1,h1,hf⟩:=bs hf;let⟨o1,h2,hf⟩:=bs hf;let⟨go,yld⟩:=it.go i d H' HF' he s' S'.gr.fh;refine⟨go,λσ2 H3=>∃HF3 ρ3,ij X.K HF₀ H₀ HF3 H3 ρ3 σ2/\aR HF2 HF3/\eH tgt gb (ds.drop (i+1)) ρ3=some o,λσ2 H3 ⟨HF3,ρ3,a1,a2,a3⟩=>⟨m - 1,by lia,by lia,HF3,ρ3,a1,a2,a3⟩,λx H3 y=>?_⟩;let⟨HF3,G3,rx⟩:=yld x H3 y;refine⟨HF3,ρ',d,ρ1,S'.grow G3,rx,h1,λσ2 S2=>⟨HF3,ρ1,o1,S2,h2,?_⟩⟩;cases o1 with
  | nx ρ2=>exactλσ4 H4 HF4 S4 s4=>⟨HF4,ρ2,S4,(s'.trans G3.ff).trans s4,hf⟩
  | rt d=>cases hf;exact q
 ·have hi':i=ds.length:=by lia
  subst hi';rw[List.drop_length] at hf;cases hf;exact .inl ⟨it.stop H' HF' s' S'.gr.fh,q σ' H' HF' S' ((s1.trans G.ff).trans s')⟩
end
def IA(X:Cx)(sc:Scope):Prop:=∀x k,sc.names.lookup x=some k->X.env.kindOf x=some k\/(k=.free/\X.env.kindOf x=some .cell)
structure Bk(X:Cx)(N:List Str)(sc:Scope)(k:Nat):Prop where
 n:X.N=N
 nd:N.Nodup
 tb:IA X sc
 calm:X.calm=true
 fn:∀x,sc.names.lookup x=some .cell->X.fn x=true
 room:fQ k X.A
 xe:X.xe=λ_ _=>False
 kd:X.env.scope.kind=.function
def cR:List Str:=["len","isinstance","int","bool","tuple","list","range","all","any","set","sorted","enumerate","zip","sum","min","max","reversed","abs","dict","str","type","iter","next"]
def Bn(X:Cx):Prop:=∀x∈cR,X.mg x=none
def uk(sc:Scope)(x:Str):Bool:=decide (sc.names.lookup x=some .globalImplicit)
def wR(N:List Str)(sc:Scope)(i:Nat)(x:Str):Bool:=decide (N[i]?=some x)&&(decide (sc.names.lookup x=some .local)||decide (sc.names.lookup x=some .cell)||decide (sc.names.lookup x=some .free))&&!(x == ("__debug__":Str))&&!(x == ("__classdict__":Str))
def sj(N:List Str)(sc:Scope)(i:Nat)(x:Str):Bool:=decide (N[i]?=some x)&&(decide (sc.names.lookup x=some .local)||decide (sc.names.lookup x=some .cell))
def Bk.gl(C:Bk X N sc k)(h:uk sc x=true):Gl X x:=by
 rcases C.tb x _ (yP h) with q|⟨q,_⟩
 ·exact q
 ·cases q
def Bk.vis(C:Bk X N sc k)(h:wR N sc i x=true):X.N[i]?=some x/\Gz X.env.scope x/\(x == ("__debug__":Str))=false/\(x == ("__classdict__":Str))=false:=by
 unfold wR at h;simp?[zF,jA,zJ,yO] at h;let⟨⟨⟨h1,h2⟩,h3⟩,h4⟩:=h;refine⟨by rw[C.n];exact h1,?_,h3,h4⟩;rcases h2 with (h2|h2)|h2
 ·rcases C.tb x _ h2 with q|⟨q,_⟩
  ·exact .inl q
  ·cases q
 ·rcases C.tb x _ h2 with q|⟨q,_⟩
  ·exact .inr (.inl q)
  ·cases q
 ·rcases C.tb x _ h2 with q|⟨_,q⟩
  ·exact .inr (.inr q)
  ·exact .inr (.inl q)
def Bk.loc(C:Bk X N sc k)(h:sj N sc i x=true):X.N.Nodup/\X.N[i]?=some x/\Loc X.env.scope x/\(X.fn x=true\/X.env.scope.names.lookup x=some .local):=by
 unfold sj at h;simp?[zF,jA,zJ] at h;let⟨h1,h2⟩:=h;refine⟨by rw[C.n];exact C.nd,by rw[C.n];exact h1,?_⟩;rcases h2 with h2|h2
 ·rcases C.tb x _ h2 with q|⟨q,_⟩
  ·exact⟨.inl q,.inr q⟩
  ·cases q
 ·rcases C.tb x _ h2 with q|⟨q,_⟩
  ·exact⟨.inr q,.inl (C.fn x h2)⟩
  ·cases q
def Bk.blt(C:Bk X N sc k)(B:Bn X)(h:uk sc x=true)(hm:x∈cR)(hv:bootBuiltins x=some v):nj X x v:=⟨C.gl h,B x hm,hv⟩
def Bk.v(C:Bk X N sc k)(i:Nat)(h:wR N sc i x=true):DE X (.Name x pos) (ae i):=let ⟨a,b,c,d⟩:=C.vis h;MU i a b c d
def Bk.pass(C:Bk X N sc k):PassesOwn (model X.prog X.w) X.A X.env X.xe:=by rw[C.xe];exact PassesOwn.never
def tP(sc scope:Scope)(N N':List Str)(t:Nat)(cs:List Nat):Bool :=
 decide (scope.kind=.function)&&scope.names.all (λp=>(!decide (p.2=NameKind.free)||decide (sc.names.lookup p.1=some .cell)||decide (sc.names.lookup p.1=some .free))&&(!decide (p.2=NameKind.local)||decide (scope.names.lookup p.1=some .local)))
  &&scope.names.all (λp=>!decide (p.2=NameKind.cell)||!scope.names.any λq=>decide (q.1=p.1)&&decide (q.2=NameKind.free))
  &&decide (N'.length=t+cs.length)&&decide (N'.drop t=cs.filterMap λj=>N[j]?)&&cs.all (λj=>decide (j < N.length))&&(N'.drop t).all (λx=>decide (scope.names.lookup x=some .free))&&decide N'.Nodup
def filterMap_get(N:List α):∀ (cs:List Nat),(∀j∈cs,j < N.length)->∀ (i:Nat),(cs.filterMap λj=>N[j]?)[i]?=(cs[i]?).bind λj=>N[j]?
 | [],_,i=>by simp
 | c::cs,h,i=>by
  have hc:=h c zE;rw[jF,zK hc];cases i with
  | zero=>simp[hc]
  | succ i =>
   simp?[yX];exact filterMap_get N cs (λj hj=>h j (zC _ hj)) i
def Bk.comp(C:Bk X N sc k){cs:List Nat}(h:tP sc scope N N' t cs=true):eF X scope N' (fE t cs)/\∀fp s H,Bk (aq X scope N' fp s H) N' scope k:=by
 unfold tP at h;simp?[zF,zJ,xF,jA,yO,xA] at h;obtain⟨⟨⟨⟨⟨⟨⟨h1,h2⟩,h3⟩,h4⟩,h5⟩,h6⟩,h7⟩,h8⟩:=h;refine⟨⟨h1,λx hx hk=>?_,λ{x} a b=>?_,λx hx hk=>?_,λσ i x v e1 e2=>?_,λσ=>?_⟩,λfp s H=>⟨rfl,h8,λx k hx=>mn hx,C.calm,λx hx=>zZ hx,C.room,rfl,h1⟩⟩
 ·rcases (h2 x hx).1 with (q|q)|q
  ·exact absurd hk q
  ·rcases C.tb _ _ q with z|⟨z,_⟩
   ·exact .inl z
   ·cases z
  ·rcases C.tb _ _ q with z|⟨_,z⟩
   ·exact .inr z
   ·exact .inl z
 ·rcases h3 _ a with q|q
  ·exact q rfl
  ·have:(scope.names.any λq=>decide (q.1=x)&&decide (q.2=NameKind.free))=true:=List.any_eq_true.mpr ⟨_,b,by simp⟩;rw[this] at q;cases q
 ·rcases (h2 x hx).2 with q|q
  ·exact absurd hk q
  ·exact q
 ·unfold fE at e2;by_cases hi:i < t
  ·rw[yR (by simpa using hi),yW,yK hi] at e2;cases e2
  ·rw[yS (by simpa using hi),zO,xK] at e2;let⟨j,hj,e2⟩:=ag e2;have e3:(N'.drop t)[i - t]?=some x:=by rw[List.getElem?_drop];rw[show t+(i - t)=i by lia];exact e1
   refine⟨h7 x (qB e3),j,?_,?_⟩
   ·rw[h5,filterMap_get N cs h6,hj] at e3;rw[C.n];exact e3
   ·cases e:σ[j]? with
    | none=>rw[e] at e2;cases e2
    | some o=>rw[e] at e2;have e2:o=some v:=e2;rw[e2]
 ·unfold fE;rw[zN,xK,zD,h4]
def aU(g:au->Option Out)(n:Nat)(args:List D):Option D:=(g (args.map Slot.val++List.replicate (n - args.length) .non)).map fun|.rt d=>d|.nx _=>.none
def JU{K:W.Frag}{st:Stmt}(F:Ek K x qual st f fd)(S:cA N ps (aj st))
  (body:∀X:Cx,X.prog=P->X.w=w->X.K=K->X.mg=mg->X.base=base->Bk X N (aj st) k->X.env.code=fd.code->X.env.qual=qual++".<locals>."->∀HF₀ H₀,z6 X HF₀ H₀ (bG st) g):nA P w K mg base GE (k+1) f fd ps (Ow K ps.length (aU g N.length)):=by
 let⟨oc,od,kV,doc,pm,an,cdv,ct,osl,rfl,lk,hcd⟩:=F.ex;refine De lk hcd S (λvs H Q E ⟨HF,ds,d,h1,_,h2,h3,_⟩=>by rw[h2.length,h3]) λA outer s H vs Q E hr ⟨HF,ds,d,sm,tb,rr,hl,hd,q⟩=>?_;refine⟨_,(body (oS GE P w K mg base N qual (aj st) f cdv A outer s H E).nox rfl rfl rfl rfl rfl ⟨rfl,S.nd,λy kd hy=>.inl hy,rfl,λ_ _=>rfl,hr,rfl,S.kind⟩ rfl rfl HF H).nox,?_⟩;unfold aU at hd;let⟨o,ho,hd⟩:=ag hd;have hpl:ps.length<=N.length:=by have:=jB List.length S.pre;rw[jV] at this;lia
 refine⟨HF,_,o,⟨.refl sm,λi e h=>?_,λi es h=>?_,λi j es fs a h=>?_,?_,tb⟩,ho,?_⟩
 ·have hi:i < ds.length:=by
   by_cases hi:i < ds.length
   ·exact hi
   ·rw[yS (by simpa using hi),yW] at h;split at h<;>cases h
  rw[yR (by simpa using hi),zO] at h;let⟨d',hd',h⟩:=ag h;cases h;let⟨v,hv,rv⟩:=rr.getD hd';refine⟨v,?_,rv⟩;unfold L2.start;rw[yR (by simpa [rr.length] using hi),zO,hv];rfl
 ·exfalso;by_cases hi:i < ds.length
  ·rw[yR (by simpa using hi),zO] at h;let⟨d',hd',h⟩:=ag h;cases h
  ·rw[yS (by simpa using hi),yW] at h;split at h<;>cases h
 ·exfalso;by_cases hi:i < ds.length
  ·rw[yR (by simpa using hi),zO] at h;let⟨d',hd',h⟩:=ag h;cases h
  ·rw[yS (by simpa using hi),yW] at h;split at h<;>cases h
 ·unfold L2.start;rw[zN,zN,zD,zD,xK,xK,rr.length];exact yL _
 ·cases o with
  | rt d'=>cases hd;exactλv H' HF' G r=>q v H' HF' G r
  | nx ρ'=>cases hd;exactλσ' H' HF' S' _=>q .non H' HF' S'.gr (by simp[Rep])
def Q3{K:W.Frag}{st:Stmt}(F:Ek K x qual st f fd)(S:cA N ps (aj st))(hb:Binds K fd ps [])(hm:mg x=some (.ref f))
  (body:∀X:Cx,X.prog=P->X.w=w->X.K=K->X.mg=mg->X.base=base->Bk X N (aj st) k->X.env.code=fd.code->X.env.qual=qual++".<locals>."->∀HF₀ H₀,z6 X HF₀ H₀ (bG st) g):Gm P w K mg base (k+1) x ps.length (aU g N.length):=⟨f,fd,ps,JU F S body,hm,F.kp,hb⟩
def oM(fz:List Nat)(f:Env->Option D)(ρ:au):Option (D×au):=(f (aD ρ)).bind λd=>if kq d=true then some (d,ρ) else (f (cc (hand fz 0 ρ))).map λd'=>(d',hand fz 0 ρ)
def mD{K:W.Frag}(S:ij K HF₀ H₀ HF H ρ σ)(h:oM fz f ρ=some (d,ρ'))
  (q:∀v H' HF',aR HF HF'->ij K HF₀ H₀ HF' H' ρ' σ->aR H H'->Rep K HF' d v->Q v H'):tD K f σ H Q:=by
 let⟨d1,h1,h⟩:=bs h;split at h
 ·rename_i hs;cases h;exact⟨H,aD ρ,d,.refl _,S.all,h1,λv H' HF' G r=>q v H' HF (.refl _) (S.step G.hh) G.hh (uM hs r)⟩
 ·let⟨d2,h2,h⟩:=ag h;cases h;let⟨HF1,s1,S1⟩:=S.hand fz;exact⟨HF1,_,d,S1.gr.fh,S1.frz,h2,λv H' HF' G r=>q v H' HF' (s1.trans G.ff) (S1.grow G) G.hh r⟩
def qk(i:Nat)(m:List D->Option (List D))(ρ:au):Option Out:=match ρ[i]? with
 | some (.own ds)=>(m ds).map λes=>.nx (ρ.set i (.own es))
 | _=>none
def jf(h:qk i m ρ=some o):∃ds es,ρ[i]?=some (.own ds)/\m ds=some es/\o=.nx (ρ.set i (.own es)):=by
 unfold qk at h;split at h
 ·rename_i ds hd;let⟨es,h1,h2⟩:=ag h;exact⟨ds,es,hd,h1,h2.symm⟩
 ·cases h
def ij.mut{K:W.Frag}(S:ij K HF₀ H₀ HF H ρ σ)(h:ρ[i]?=some (.own ds))(ha:σ[i]?=some (some (.ref a)))(hH:H a=some (.lst vs))(r:ax K HF es us) :
  ij K HF₀ H₀ HF (upd H a (.lst us)) (ρ.set i (.own es)) σ:=by
 let⟨a',vs',e1,e2,e3,e5,e4⟩:=S.own i ds h;rw[ha] at e1;cases e1;have hl:i < ρ.length:=(List.getElem?_eq_some_iff.mp h).1;have gr:bU HF₀ H₀ HF (upd H a (.lst us)):=⟨λb o e=>by rw[aK (aV e e5)];exact S.gr.hh b o e,S.gr.ff,λb o e=>by rw[aK (aV e e3)];exact S.gr.fh b o e,S.gr.nw⟩
 refine⟨gr,λj d hj=>?_,λj xs hj=>?_,λj k xs ys b f1 f2 f3 f4=>?_,by rw[yB];exact S.len,S.tb⟩
 ·rw[xH] at hj;by_cases hij:i=j
  ·rw[yK hij] at hj;split at hj<;>cases hj
  ·rw[yM hij] at hj;exact S.val j d hj
 ·rw[xH] at hj;by_cases hij:i=j
  ·subst hij;rw[yK rfl,yK hl] at hj;cases hj;exact⟨a,us,ha,aP,e3,e5,r⟩
  ·rw[yM hij] at hj;let⟨b,ws,f1,f2,f3,f5,f4⟩:=S.own j xs hj;refine⟨b,ws,f1,?_,f3,f5,f4⟩;rw[aK]
   ·exact f2
   ·rintro rfl;exact hij (S.inj i j ds xs b h hj ha f1)
 ·have old:∀ {j:Nat}{xs:List D},(ρ.set i (.own es))[j]?=some (.own xs)->∃ys,ρ[j]?=some (.own ys):=λ{j xs} hj=>by
   rw[xH] at hj;by_cases hij:i=j
   ·subst hij;exact⟨ds,h⟩
   ·rw[yM hij] at hj;exact⟨xs,hj⟩
  let⟨xs',g1⟩:=old f1;let⟨ys',g2⟩:=old f2;exact S.inj j k xs' ys' b g1 g2 f3 f4
def nv(i:Nat)(fz:List Nat)(f:Env->Option D):au->Option Out:=λρ=>(oM fz f ρ).bind λp=>qk i (λds=>if ds.length < sizeLine then some (ds++[p.1]) else none) p.2
def Cf(i:Nat)(fz:List Nat)(hN:X.N[i]?=some x)(hv:Gz X.env.scope x)(h:DE X e f)(hd:(x == ("__debug__":Str))=false:=by decide)(hcd:(x == ("__classdict__":Str))=false:=by decide)
  (hfew:((backTo cpos (starEach [e] X.env)).all (λx=>!x.1)&&(backToKw cpos (keywordEach [] X.env)).all (λx=>x.1.isSome)&&decide ([e].length+([]:List Keyword).length+(if ([]:List Keyword).isEmpty then 0 else 1) < 30))=true:=by rfl)
  (hline:(apos.endLine == cpos.line)=true:=by rfl) (hs:starEach [e] X.env=(false,eval e X.env)::starEach [] X.env:=by rfl) :
  DS X HF₀ H₀ (.Expr (.Call (.Attribute (.Name x px) "append" apos) [e] [] cpos) pos) (nv i fz f) :=
 cJ (lJ (j5 qN PySem.F.slot_list_append PySem.F.type_list_append mr (ki hN hv hd hcd) (bJ h cO hs) rfl hfew hline hs rfl)) λE σ H ⟨HF,ρ,o,S,hg,q⟩=>by
  let⟨⟨d,ρ'⟩,h1,hg⟩:=bs hg;let⟨ds,es,h2,h3,rfl⟩:=jf hg;have hown:∃ds',ρ[i]?=some (.own ds'):=by
   let⟨d1,_,h1⟩:=bs h1;split at h1
   ·cases h1;exact⟨ds,h2⟩
   ·let⟨d2,_,h1⟩:=ag h1;cases h1;rw[gH] at h2;let⟨s,hs,h2⟩:=ag h2;cases s with
    | non=>split at h2<;>cases h2
    | val _=>split at h2<;>cases h2
    | own xs=>exact⟨xs,hs⟩
  let⟨ds',hown⟩:=hown;let⟨a,vs,e1,e2,e3,e5,e4⟩:=S.own i ds' hown;refine⟨.ref a,e1,.inl ⟨rfl,vs,fS.of e2⟩,mD S h1 λv H' HF' s1 S' sh r=>?_⟩;let⟨a',vs',f1,f2,f3,f5,f4⟩:=S'.own i ds h2;rw[e1] at f1;cases f1;split at h3
  ·rename_i hz;cases h3;exact⟨a,vs',v,rfl,rfl,f2,by rw[f4.length];exact hz,q σ _ HF' (S'.mut h2 e1 f2 (f4.append (ax.cons r ax.nil))) s1⟩
  ·cases h3
def sC(K:W.Frag)(o:Obj):Option (Addr×Str):=match o.data with
 | .func fd=>if oI.contains fd.qualname=true then (match fd.code with
   | .ref c=>(match K.lookup c with
    | some ⟨_,_,.fields vs,_⟩=>(match (vs[11]?:Option Value) with
     | some (.ref P)=>if W.codeHdIn K c P=true then some (P,fd.qualname++".<locals>."++"<lambda>") else none
     | _=>none)
    | _=>none)
   | _=>none) else none
 | _=>none
def gn(K:W.Frag):List (Addr×Str):=K.filterMap λp=>sC K p.2
def lS(K:W.Frag)(ts:List Addr):Bool:=(gn K).all λp=>ts.contains p.1&&(K.lookup p.1).isNone&&decide ((gn K).lookup p.1=some p.2)
def uX{K:W.Frag}(h:sC K o=some (P,q)):∃c,W.codeHdIn K c P=true:=by
 unfold sC at h;split at h
 ·split at h
  ·split at h
   ·split at h
    ·split at h
     ·split at h
      ·cases h;exact⟨_,‹_›⟩
      ·cases h
     ·cases h
    ·cases h
   ·cases h
  ·cases h
 ·cases h
def uN{K:W.Frag}(h:(P,q)∈gn K):∃c,W.codeHdIn K c P=true:=by
 let⟨p,_,e⟩:=List.mem_filterMap.mp h;exact uX e
def zm{K:W.Frag}(a:K.lookup f=some ⟨oc,od,.func fd,sl⟩)(b:fd.qualname∈oI)(d:fd.code=.ref c)(e:W.codeHdIn K c P=true) :
  (P,fd.qualname++".<locals>."++"<lambda>")∈gn K:=by
 refine List.mem_filterMap.mpr ⟨(f,_),W.mem_of_lookupK a,?_⟩;have e':=e;unfold W.codeHdIn at e';unfold sC;simp?[d,List.contains_iff_mem,b,xG];split at e'
 ·rename_i vs sl' hl;simp?[hl];simp?[zF] at e';have e1:=e'.1.1.1.1.1;split at e1
  ·rename_i P' hv;have:P'=P:=by simpa using e1
   subst this;simp?[hv,e,xG]
  ·cases e1
 ·cases e'
def CZ:∀ {l:List (Addr×α)},l.lookup b=some q->(b,q)∈l
 | [],e=>by cases e
 | (c,x)::r,e=>by
  rw[yA] at e;cases h:b == c with
  | true=>rw[h] at e;cases e;rw[eq_of_beq h];exact zE
  | false=>rw[h] at e;exact zC _ (CZ e)
def fP(K:W.Frag)(h0:Hp):Hp:=λb=>match (gn K).lookup b with|some q=>some (.tab q)|none=>h0 b
def BD{K:W.Frag}(h:lS K ts=true):dP K (fP K h0):=λf oc od fd sl c P a b d e=>by
 have hm:=zm a b d e;have:=List.all_eq_true.mp h _ hm;simp?[zF,zJ] at this;unfold fP;rw[this.2]
def BA{w:World}{K:W.Frag}{CX:G0}{k:Nat}{fa:Addr}{fd:FuncData}{sp:Sp}{vs:List Value}{ns:List Int}
  (KX:K.In s₁.heap) (hns:s₁.heap.Ns mainGlobals mg) (hb:s₁.heap.Ns builtinsNs mb) (hbb:∀x:Str,x≠"__name__"->mb x=bootBuiltins x) (hlim:s₁.heap.NoLimit) (hbm:PJ mg s₁.heap) (hg:s₁.gens=#[])
  (ht:lS K ts=true) (hts:∀P∈ts,s₁.heap.get? P=some (W.tabObj #[]))
  (ha:s₁.heap.get? a=some { cls:=.type "list",data:=.seq vs.toArray }) (hi:IntsAre vs ns) (hl:ns.length<=sizeLine) (hr:fQ k callerA)
  (F:∀base:Heap,K.In base->base.Ns mainGlobals mg->nA P w K mg base CX k fa fd [x] sp) (hbind:∀ (s:Shared) (u:Value),BindsTo s fd ⟨[u],[]⟩ [(x,u)])
  (hsp:∀H:Hp,dP K H->fS K H a (ns.map V.int)->sp [.ref a] H (λv _=>v=.bl true) λ_ _ _=>False)
  (hCX:∀H e s',CX [] H s₁ (λ_ _ _=>False) e s'->False) :
  codeAny (model P w) callerA (.call (.ref fa) ⟨[.ref a],[]⟩) (λr s'=>r=.ok (.ret (.bool true))/\OldK s₁.heap s'.heap/\s'.os=s₁.os/\AllBare s'.gens) s₁:=by
 have rv:=qq hi;have lenV:=hi.length;have tabAt:∀b q,(gn K).lookup b=some q->s₁.heap.get? b=some (W.tabObj #[])/\K.lookup b=none/\∃c,W.CodeHd s₁.heap c b:=λb q e=>by
  have hm:=CZ e;have:=List.all_eq_true.mp ht _ hm;simp?[zF,zJ,List.contains_iff_mem,Option.isNone_iff_eq_none] at this;let⟨c,hc⟩:=uN hm;exact⟨hts b this.1.1,this.1.2,c,W.codeHd_of_K KX hc⟩
 have aT:(gn K).lookup a=none:=by
  cases e:(gn K).lookup a with
  | none=>rfl
  | some q=>have:=(tabAt a q e).1;rw[ha] at this;cases this
 have core:∀h0:Hp,fS K (fP K h0) a (ns.map V.int)->mq P w (fP K h0) s₁.heap->(∀b,h0 b≠none->b=a)->(h0 a≠none->K.lookup a=none)->(∀b,h0 b=none\/∃o xs,h0 b=some (.frz o (.lst xs))) ->
   codeAny (model P w) callerA (.call (.ref fa) ⟨[.ref a],[]⟩) (λr s'=>r=.ok (.ret (.bool true))/\OldK s₁.heap s'.heap/\s'.os=s₁.os/\AllBare s'.gens) s₁:=by
  intro h0 hS hok hA hK hO;have look:∀b u,fP K h0 b=some u->(∃q,(gn K).lookup b=some q/\u=.tab q)\/(b=a/\h0 b=some u):=λb u e=>by
   unfold fP at e;split at e
   ·rename_i q hq;cases e;exact .inl ⟨q,hq,rfl⟩
   ·exact .inr ⟨hA b (by rw[e];simp),e⟩
  have fW:∀ {b:Addr}{o:Obj},s₁.heap.get? b=some o->fP K h0 b=none->(tI s₁.heap (fP K h0)).get? b=some o:=λe n=>EM e n;have noA:∀ {b:Addr}{o:Obj},s₁.heap.get? b=some o->(∀vs n,o.data≠.seq vs n)->(∀vs,o.data≠.fields vs)->fP K h0 b=none:=λ{b o} e d d2=>by
   cases q:fP K h0 b with
   | none=>rfl
   | some u =>
    rcases look b u q with ⟨q',z,_⟩|⟨z,_⟩
    ·rw[(tabAt b q' z).1] at e;cases e;exact absurd rfl (d2 _)
    ·subst z;rw[ha] at e;cases e;exact absurd rfl (d _ _)
  have nsK:∀ {b:Addr}{m:Str->Option Value},s₁.heap.Ns b m->(tI s₁.heap (fP K h0)).Ns b m:=λ{b m} ⟨o,es,ep,e,d,r⟩=>⟨o,es,ep,fW e (noA e (λ_ _ z=>by rw[d] at z;cases z) λ_ z=>by rw[d] at z;cases z),d,r⟩
  have hKb:K.In (tI s₁.heap (fP K h0)):=λb o e=>fW (KX b o e) (by
   cases q:fP K h0 b with
   | none=>rfl
   | some u =>
    rcases look b u q with ⟨q',z,_⟩|⟨z,z2⟩
    ·rw[(tabAt b q' z).2.1] at e;cases e
    ·subst z;rw[hK (by rw[z2];simp)] at e;cases e)
  have hM:Mod K mg (tI s₁.heap (fP K h0)):=⟨hKb,nsK hns,⟨mb,nsK hb,hbb⟩,let ⟨mc,h1,h2⟩:=hlim;⟨mc,nsK h1,h2⟩,
   let ⟨bm,o,b1,b2,b3,b4,b5,b6,b7⟩:=hbm;⟨bm,o,b1,b2,b3,fW b4 (noA b4 (λ_ _ z=>by rw[b7] at z;cases z) λ_ z=>by rw[b7] at z;cases z),b5,b6,b7⟩⟩
  have e0:xy P w K mg (tI s₁.heap (fP K h0)) callerA [] s₁ (fP K h0):=⟨rfl,hM,λb o e=>JN e,Nat.le_of_eq (Bv _ _),trivial,λb hb=>absurd (show b∈([]:List Addr) from hb) (by simp),hok,.of_eq hg⟩
  refine jR ((F _ hKb (nsK hns)).run callerA [] s₁ (fP K h0) ⟨[.ref a],[]⟩ [.ref a] [.ref a] _ _ hr e0 (hbind s₁ (.ref a)) (.cons rfl .nil) (hsp _ (BD ht) hS)) λr s' h=>?_;cases r with
  | error e=>exact (hCX _ e s' h).elim
  | ok fl =>
   cases fl with
   | next=>exact False.elim h
   | brk=>exact False.elim h
   | cont=>exact False.elim h
   | ret u =>
    let⟨v,H',os,bare,un,hok',r',q⟩:=h;have q':v=.bl true:=q;subst q';obtain rfl:u=Value.bool true:=r';have key:∀b o,s₁.heap.get? b=some o->s'.heap.get? b=some o\/(isCodeTable s₁.heap b/\o=W.tabObj #[]/\∃ps,s'.heap.get? b=some (W.tabObj ps)):=λb o e=>by
     cases q:fP K h0 b with
     | none=>exact .inl (un.keep b o e q (by intro z;exact absurd (show b∈([]:List Addr) from z) (by simp)) (by simp))
     | some u =>
      rcases look b u q with ⟨q',z,rfl⟩|⟨z,z2⟩
      ·let⟨t1,_,c,t3⟩:=tabAt b q' z;let⟨more,m1⟩:=un.tbls.gr b q' #[] q t1;rw[e] at t1;cases t1;exact .inr ⟨(t3.tab e).isCodeTable,rfl,_,m1⟩
      ·rcases hO b with z3|⟨ob,xs,z3⟩
       ·rw[z2] at z3;cases z3
       ·rw[z2] at z3;cases z3;have z4:=un.frzs b ob _ q;let⟨e1,_⟩:=hok b _ q;let⟨e2,_⟩:=hok' b _ z4;rw[e] at e1;cases e1;exact .inl e2
    refine⟨rfl,⟨λb o e=>?_,λb o e=>?_⟩,os,bare⟩
    ·rcases key b o e with z|⟨t,rfl,ps,z⟩
     ·exact .inl z
     ·exact .inr (.inl ⟨t,rfl,#[],ps,rfl,by rw[Array.empty_append];exact z⟩)
    ·rcases key b o e with z|⟨_,_,ps,z⟩
     ·exact⟨o,z⟩
     ·exact⟨_,z⟩
 have hoT:∀ (h0:Hp) b q,(gn K).lookup b=some q->ej P w (fP K h0) s₁.heap b (.tab q):=λh0 b q e=>⟨#[],(tabAt b q e).1,trivial,λpos v z=>by cases z⟩
 cases hk:K.lookup a with
 | some o =>
  have e:=KX a o hk;rw[ha] at e;cases e;refine core (λ_=>none) (.inr ⟨_,vs.toArray,_,hk,rfl,rfl,rfl,by rw[zH,lenV];exact hl,by simpa using rv⟩) (λb u z=>?_) (λb z=>absurd rfl z) (λz=>absurd rfl z) λ_=>.inl rfl;unfold fP at z;split at z
  ·rename_i q hq;cases z;exact hoT _ b q hq
  ·cases z
 | none =>
  refine core (λb=>if b=a then some (.frz { cls:=.type "list",data:=.seq vs.toArray } (.lst (ns.map V.int))) else none) (.inl (.inr ⟨{ cls:=.type "list",data:=.seq vs.toArray },?_⟩)) (λb u z=>?_) (λb z=>?_) (λ_=>hk) λb=>?_
  ·unfold fP;rw[aT];exact yK rfl
  ·unfold fP at z;split at z
   ·rename_i q hq;cases z;exact hoT _ b q hq
   ·by_cases hb:b=a
    ·replace z:=(yK hb).symm.trans z;cases z;subst hb;exact⟨ha,by rw[zD];exact hl,vs,_,rv,ha⟩
    ·replace z:=(yM hb).symm.trans z;cases z
  ·by_cases hb:b=a
   ·exact hb
   ·exact absurd (yM hb) z
  ·by_cases hb:b=a
   ·exact .inr ⟨_,_,yK hb⟩
   ·exact .inl (yM hb)
def Fv{l:W.OpenLaw}{n k:Nat}{q:Program}{loose:List Str}{XP:(Str->Option Value)->Heap->Prop}{YP:World->Heap->Prop}{d:DefRec}{K:Params->W.Frag}{CX:World->G0}{sp:World->Sp}{x:Str}{ts:List Addr}
  (hn:l.most=some n) (hn2:n<=sizeLine) (hdf:d.params.defaults=[]) (hr:fQ k callerA)
  (hY:∀ (w:World) (h:Heap),YP w h->(K w.params).In h/\∀P∈ts,h.get? P=some (W.tabObj #[])) (ht:∀w:World,lS (K w.params) ts=true)
  (F:∀ (w:World) (mg:Str->Option Value) (fa:Addr) (h:Heap),(K w.params).In h->h.Ns mainGlobals mg->mg d.name=some (.ref fa) ->
   ∃fd:FuncData,(∀ (s:Shared) (u:Value),BindsTo s fd ⟨[u],[]⟩ [(x,u)]) /\
    ∀base:Heap,(K w.params).In base->base.Ns mainGlobals mg->nA l.prog w (K w.params) mg base (CX w) k fa fd [x] (sp w))
  (hsp:∀ (w:World) (H:Hp) (a:Addr) (ns:List Int),ns.length<=n->dP (K w.params) H->fS (K w.params) H a (ns.map V.int)->sp w [.ref a] H (λv _=>v=.bl true) λ_ _ _=>False)
  (hCX:∀ (w:World) (H:Hp) (s:Shared) (e:Value) (s':Shared),CX w [] H s (λ_ _ _=>False) e s'->False) :
  W.WalkO q loose XP YP l.row.toRowW d [] (λf vs=>PySem.call f vs):=by
 refine Att.attach_call hn hdf λw s₀ s₁ mg mb fa o pm cd doc a vs ns G Y ho hd hcd hmg hobj hints hlen hg=>?_;let⟨KX,hts⟩:=hY w _ Y;let⟨fd,hb,hF⟩:=F w mg fa _ KX G.T.g hmg;have hbm:PJ mg s₁.heap:=by
  let⟨bm,ob,b1,b2,b3,b4,b5,b6⟩:=G.T.bmain;refine⟨bm,ob,b1,b2,λz=>?_,b3,b4,b5,b6⟩;let⟨o',es,ep,e1,e2,_⟩:=G.T.g;rw[<- z,b3] at e1;cases e1;rw[b6] at e2;cases e2
 exact BA KX G.T.g G.T.b G.T.builtins G.T.nolimit hbm hg (ht w) hts hobj hints (yC hlen hn2) hr hF hb (λH hT hS=>hsp w H a ns hlen hT hS) λH e s'=>hCX w H s₁ e s'
end Dl
namespace SP
open PySem PySem.W PyProof.Rows
def run(lt:Nat->Nat->Bool):KasT α->α
 | .ret a=>a
 | .ask i j k=>run lt (k (lt i j))
def gx(lt:Nat->Nat->Bool)(f:α->KasT β):∀t:KasT α,run lt (t.bind f)=run lt (f (run lt t))
 | .ret a=>rfl
 | .ask i j k=>by
  show run lt ((k (lt i j)).bind f)=run lt (f (run lt (k (lt i j))));exact gx lt f (k (lt i j))
def IP(n:Nat):KasT α->Prop
 | .ret _=>True
 | .ask i j k=>i < n/\j < n/\∀b,IP n (k b)
def wp_run(hc:∀i j C,i < n->j < n->C (lt i j) s->cmp i j C s):∀ (t:KasT α) {Q:α->Shared->Prop},IP n t->Q (run lt t) s->t.kasWp cmp Q s
 | .ret a,Q,_,h=>h
 | .ask i j k,Q,b,h=>hc i j _ b.1 b.2.1 (wp_run hc (k (lt i j)) (b.2.2 _) h)
def og(n:Nat)(R:α->Prop):KasT α->Prop
 | .ret a=>R a
 | .ask i j k=>i < n/\j < n/\∀b,og n R (k b)
def lZ:∀ {t:KasT α},og n R t->(∀a,R a->IP n (f a))->IP n (t.bind f)
 | .ret a,b,h=>h a b
 | .ask i j k,b,h=>⟨b.1,b.2.1,λc=>lZ (b.2.2 c) h⟩
def g9:∀ {t:KasT α},og n R t->(∀a,R a->og n S (f a))->og n S (t.bind f)
 | .ret a,b,h=>h a b
 | .ask i j k,b,h=>⟨b.1,b.2.1,λc=>g9 (b.2.2 c) h⟩
def Bd(n:Nat)(p:Array Nat):Prop:=∀a,p.getD a 0 < n
def Bd.perm(h:Bd n p)(e:q.Perm p):Bd n q:=by
 intro a;rw[qD];cases ha:q[a]? with
 | none=>have:=h p.size;rw[qD] at this;simpa using this
 | some x =>
  have hx:x∈q:=Array.mem_of_getElem? ha;have hx':x∈p:=e.mem_iff.mp hx;let⟨i,hi,rfl⟩:=Array.mem_iff_getElem.mp hx';have:=h i;rw[qD] at this;simpa [hi] using this
def EB(h:Bd n p):∀f m,og n (λ_=>True) (kas_asc p f m)
 | 0,m=>trivial
 | f+1,m=>⟨h _,h _,λc=>by
  dsimp only;split
  ·trivial
  ·exact EB h f (m+1)⟩
def uJ(h:Bd n p)(i j:Nat):Bd n (kas_rev p i j):=h.perm (mirror_perm _ _ _ _)
def uq:∀ (f:Nat) {p:Array Nat}(h:Bd n p) (m q:Nat),og n (λr=>Bd n r.1) (kas_desc f p m q)
 | 0,p,h,m,q=>h
 | f+1,p,h,m,q=>⟨h _,h _,λc=>by
  dsimp only;split
  ·split
   ·exact uq f (uJ h _ _) (m+1) 0
   ·exact uq f h (m+1) 0
  ·exact⟨h _,h _,λd=>by
    dsimp only;split
    ·exact h
    ·exact uq f h (m+1) (q+1)⟩⟩
def Bl(h:Bd n p)(m nrem:Nat):og n (λr=>Bd n r.2) (kas_tail3 m nrem p):=g9 (EB (uJ h 0 m) _ _) λ_ _=>uJ h 0 m
def n6(h:Bd n p)(m nrem:Nat):og n (λr=>Bd n r.2) (kas_descPart m nrem p):=g9 (uq _ h _ _) λr hr=>by
 split
 ·exact Bl (uJ hr _ _) _ _
 ·exact Bl hr _ _
def Jb(h:Bd n p)(nrem:Nat):og n (λr=>Bd n r.2) (kas_count nrem p):=g9 (EB h _ _) λm _=>by
 split
 ·exact h
 ·split
  ·exact⟨h _,h _,λc=>by
    dsimp only;split
    ·exact h
    ·exact n6 (uJ h _ _) _ _⟩
  ·exact n6 h _ _
def sE(h:Bd n p)(k:Nat):∀f l r,og n (λ_=>True) (kas_place p k f l r)
 | 0,l,r=>trivial
 | f+1,l,r=>by
  unfold kas_place;split
  ·trivial
  ·exact⟨h _,h _,λc=>by
    dsimp only;split
    ·exact sE h k f _ _
    ·exact sE h k f _ _⟩
def Ki:∀ (f:Nat) {p:Array Nat}(h:Bd n p) (k:Nat),IP n (kas_bin f p k)
 | 0,p,h,k=>trivial
 | f+1,p,h,k=>lZ (sE h k _ _ _) λl _=>Ki f (h.perm (bubble_perm _ _ _)) (k+1)
def K4(h1:1<=n):IP n (kas_sort n):=by
 have h:Bd n (List.toArray (List.range n)):=λa=>by
  rw[qD];by_cases ha:a < n
  ·simp[ha]
  ·simp[ha];lia
 refine lZ (Jb h n) λr hr=>?_;split
 ·exact Ki _ hr _
 ·trivial
section
variable (z:Nat->Int)
def Z(p:Array Nat)(a:Nat):Int:=z (p.getD a 0)
def eE:Nat->Nat->Bool:=λi j=>decide (z i < z j)
def lC(h:p[a]?=q[b]?):Z z p a=Z z q b:=by
 unfold Z;rw[qD,qD,h]
def Es(hj:j<=p.size)(k:Nat):Z z (kas_rev p i j) k=if i<=k/\k < j then Z z p (i+j - 1 - k) else Z z p k:=by
 have e:=getElem?_mirror_all (xs:=p) (i:=i) hj k;unfold kas_rev;by_cases h1:i<=k/\k < j
 ·rw[yK h1] at e ⊢;exact lC z e
 ·rw[yM h1] at e ⊢;exact lC z e
def Eg(hs:src < p.size)(hd:d<=src)(k:Nat):Z z (bubble p src d) k=if k=src - d then Z z p src else if src - d < k/\k<=src then Z z p (k - 1) else Z z p k:=by
 have e:=getElem?_bubble hs d hd k;by_cases h1:k=src - d
 ·rw[yK h1] at e ⊢;exact lC z e
 ·rw[yM h1] at e ⊢;by_cases h2:src - d < k/\k<=src
  ·rw[yK h2] at e ⊢;exact lC z e
  ·rw[yM h2] at e ⊢;exact lC z e
def Up(p:Array Nat)(n:Nat):Prop:=∀a b,a<=b->b < n->Z z p a<=Z z p b
def Dn(p:Array Nat)(n:Nat):Prop:=∀a b,a<=b->b < n->Z z p b<=Z z p a
variable {z}
def G1(h:Up z p n)(hn:1<=n)(h1:Z z p (n - 1)<=Z z p n):Up z p (n+1):=by
 intro a b hab hb;by_cases hbn:b < n
 ·exact h a b hab hbn
 ·have e:b=n:=by lia
  subst e;by_cases ha:a=b
  ·subst ha;exact xZ _
  ·exact jT (h a (b - 1) (by lia) (by lia)) h1
def Po:∀ (f n:Nat),1<=n->Up z p n->n<=run (eE z) (kas_asc p f n)/\run (eE z) (kas_asc p f n)<=n+f/\Up z p (run (eE z) (kas_asc p f n))/\(run (eE z) (kas_asc p f n) < n+f->Z z p (run (eE z) (kas_asc p f n)) < Z z p (run (eE z) (kas_asc p f n) - 1))
 | 0,n,hn,h=>⟨yL _,yL _,h,λq=>absurd q (qE _)⟩
 | f+1,n,hn,h=>by
  unfold kas_asc;show n<=run (eE z) (if eE z (p.getD n 0) (p.getD (n - 1) 0)=true then .ret n else kas_asc p f (n+1))/\run (eE z) (if eE z (p.getD n 0) (p.getD (n - 1) 0)=true then .ret n else kas_asc p f (n+1))<=n+(f+1)/\Up z p (run (eE z) (if eE z (p.getD n 0) (p.getD (n - 1) 0)=true then .ret n else kas_asc p f (n+1)))/\(run (eE z) (if eE z (p.getD n 0) (p.getD (n - 1) 0)=true then .ret n else kas_asc p f (n+1)) < n+(f+1)->Z z p (run (eE z) (if eE z (p.getD n 0) (p.getD (n - 1) 0)=true then .ret n else kas_asc p f (n+1))) < Z z p (run (eE z) (if eE z (p.getD n 0) (p.getD (n - 1) 0)=true then .ret n else kas_asc p f (n+1)) - 1))
  by_cases hc:eE z (p.getD n 0) (p.getD (n - 1) 0)=true
  ·rw[yK hc];exact⟨yL _,jU _ _,h,λ_=>yP hc⟩
  ·rw[yM hc];have h1:Z z p (n - 1)<=Z z p n:=by
    have:¬ (Z z p n < Z z p (n - 1)):=λq=>hc (zZ q);lia
   let⟨a,b,c,d⟩:=Po f (n+1) (by lia) (G1 h hn h1);exact⟨by lia,by lia,c,λq=>d (by lia)⟩
def yn(hj:j<=p.size)(h:∀a b,i<=a->a < j->i<=b->b < j->Z z p a=Z z p b)(k:Nat):Z z (kas_rev p i j) k=Z z p k:=by
 rw[Es z hj];split
 ·rename_i hk;exact h _ _ (by lia) (by lia) hk.1 hk.2
 ·rfl
def EC(e:∀k,Z z q k=Z z p k)(h:Dn z p n):Dn z q n:=λa b hab hb=>by rw[e,e];exact h a b hab hb
def Mh(hn:n<=p.size)(h:Dn z p n):Up z (kas_rev p 0 n) n:=by
 intro a b hab hb;rw[Es z hn,Es z hn,yK ⟨xV _,by lia⟩,yK ⟨xV _,hb⟩];exact h _ _ (by lia) (by lia)
def lu(p:Array Nat)(i j:Nat):(kas_rev p i j).size=p.size:=mirror_size _ _ _ _
def lV(p:Array Nat)(i j:Nat):(kas_rev p i j).Perm p:=mirror_perm _ _ _ _
structure Lu(z:Nat->Int)(p₀ p:Array Nat)(n q nrem:Nat):Prop where
 perm:p.Perm p₀
 size:p.size=p₀.size
 le:n<=nrem
 qn:q+1<=n
 dn:Dn z p n
 eq:∀a b,n - (q+1)<=a->a < n->n - (q+1)<=b->b < n->Z z p a=Z z p b
def Hm(hz:nrem<=p₀.size):∀ (f:Nat) (p:Array Nat) (n q:Nat),n+f<=nrem->Lu z p₀ p n q nrem ->
  let r:=run (eE z) (kas_desc f p n q);Lu z p₀ r.1 r.2.1 r.2.2 nrem
 | 0,p,n,q,hn,h=>h
 | f+1,p,n,q,hn,h=>by
  intro r;have hr:r=run (eE z) (if eE z (p.getD n 0) (p.getD (n - 1) 0)=true then (if q > 0 then kas_desc f (kas_rev p (n - (q+1)) n) (n+1) 0 else kas_desc f p (n+1) 0)
   else .ask (p.getD (n - 1) 0) (p.getD n 0) λd=>if d=true then .ret (p,n,q) else kas_desc f p (n+1) (q+1)):=rfl
  have hq:=h.qn;by_cases hc:eE z (p.getD n 0) (p.getD (n - 1) 0)=true
  ·rw[yK hc] at hr;have hlt:Z z p n < Z z p (n - 1):=yP hc;have step:∀p':Array Nat,p'.Perm p₀->p'.size=p₀.size->(∀k,Z z p' k=Z z p k)->Lu z p₀ p' (n+1) 0 nrem:=λp' a1 a2 a3=>by
    refine⟨a1,a2,by lia,by lia,λa b hab hb=>?_,λa b h1 h2 h3 h4=>by rw[show a=b by lia]⟩;rw[a3,a3];by_cases hbn:b < n
    ·exact h.dn a b hab hbn
    ·have e:b=n:=by lia
     subst e;by_cases ha:a=b
     ·subst ha;exact xZ _
     ·exact jT (Int.le_of_lt hlt) (h.dn a (b - 1) (by lia) (by lia))
   by_cases hq0:q > 0
   ·rw[yK hq0] at hr;rw[hr];exact Hm hz f _ (n+1) 0 (by lia) (step _ ((lV _ _ _).trans h.perm) (by rw[lu,h.size]) (yn (by rw[h.size];lia) h.eq))
   ·rw[yM hq0] at hr;rw[hr];exact Hm hz f p (n+1) 0 (by lia) (step p h.perm h.size λ_=>rfl)
  ·rw[yM hc] at hr;have hge:Z z p (n - 1)<=Z z p n:=by
    have:¬ (Z z p n < Z z p (n - 1)):=λq=>hc (zZ q);lia
   have hr':r=run (eE z) (if eE z (p.getD (n - 1) 0) (p.getD n 0)=true then .ret (p,n,q) else kas_desc f p (n+1) (q+1)):=hr;by_cases hd:eE z (p.getD (n - 1) 0) (p.getD n 0)=true
   ·rw[yK hd] at hr';rw[hr'];exact h
   ·rw[yM hd] at hr';rw[hr'];have heq:Z z p n=Z z p (n - 1):=by
     have:¬ (Z z p (n - 1) < Z z p n):=λq=>hd (zZ q);lia
    refine Hm hz f p (n+1) (q+1) (by lia) ⟨h.perm,h.size,by lia,by lia,λa b hab hb=>?_,λa b h1 h2 h3 h4=>?_⟩
    ·by_cases hbn:b < n
     ·exact h.dn a b hab hbn
     ·have e:b=n:=by lia
      subst e;by_cases ha:a=b
      ·subst ha;exact xZ _
      ·rw[heq];exact h.dn a (b - 1) (by lia) (by lia)
    ·have key:∀c,n+1 - (q+1+1)<=c->c < n+1->Z z p c=Z z p (n - 1):=λc c1 c2=>by
      by_cases hcn:c < n
      ·exact h.eq c (n - 1) (by lia) hcn (by lia) (by lia)
      ·have e:c=n:=by lia
       subst e;exact heq
     rw[key a h1 h2,key b h3 h4]
structure OD(z:Nat->Int)(p₀:Array Nat)(nrem:Nat)(r:Nat×Array Nat):Prop where
 perm:r.2.Perm p₀
 size:r.2.size=p₀.size
 ge:1<=r.1
 le:r.1<=nrem
 up:Up z r.2 r.1
def tail3(hz:nrem<=p₀.size)(h1:1<=n)(hn:n<=nrem)(hp:p.Perm p₀)(hs:p.size=p₀.size)(hd:Dn z p n):OD z p₀ nrem (run (eE z) (kas_tail3 n nrem p)):=by
 unfold kas_tail3;rw[gx];let⟨a,b,c,_⟩:=Po (nrem - n) n h1 (Mh (by lia) hd);exact⟨(lV _ _ _).trans hp,by show (kas_rev p 0 n).size=_;rw[lu,hs],by show 1<=run _ (kas_asc _ _ _);lia,by show run _ (kas_asc _ _ _)<=nrem;lia,c⟩
def descPart(hz:nrem<=p₀.size)(h1:1<=n)(hn:n < nrem)(hp:p.Perm p₀)(hs:p.size=p₀.size)(hd:Dn z p n)(hlt:Z z p n<=Z z p (n - 1)):OD z p₀ nrem (run (eE z) (kas_descPart n nrem p)):=by
 unfold kas_descPart;rw[gx];have D:=Hm (z:=z) hz (nrem - (n+1)) p (n+1) 0 (by lia) ⟨hp,hs,by lia,by lia,λa b hab hb=>by
  by_cases hbn:b < n
  ·exact hd a b hab hbn
  ·have e:b=n:=by lia
   subst e;by_cases ha:a=b
   ·subst ha;exact xZ _
   ·exact jT hlt (hd a (b - 1) (by lia) (by lia)),λa b h1 h2 h3 h4=>by rw[show a=b by lia]⟩
 dsimp only at D;generalize run (eE z) (kas_desc (nrem - (n+1)) p (n+1) 0)=r at D;have hq:=D.qn;split
 ·exact tail3 hz (by lia) D.le ((lV _ _ _).trans D.perm) (by rw[lu,D.size]) (EC (yn (by have:=D.size;have:=D.le;lia) D.eq) D.dn)
 ·exact tail3 hz (by lia) D.le D.perm D.size D.dn
def count(hz:nrem<=p.size)(h1:1<=nrem):OD z p nrem (run (eE z) (kas_count nrem p)):=by
 unfold kas_count;rw[gx];let⟨a,b,c,d⟩:=Po (z:=z) (p:=p) (nrem - 1) 1 (yL _) (λx y hxy hy=>by rw[show x=y by lia];exact xZ _);generalize run (eE z) (kas_asc p (nrem - 1) 1)=n at a b c d;split
 ·exact⟨Array.Perm.refl _,rfl,a,by show n<=nrem;lia,c⟩
 ·rename_i hne;have hlt:n < nrem:=by
   have:n≠nrem:=λe=>hne (by simp[e]);lia
  have hd:=d (by lia);split
  ·rename_i hn1;show OD z p nrem (run (eE z) (if eE z (p.getD 0 0) (p.getD (n - 1) 0)=true then .ret (n,p) else kas_descPart n nrem (kas_rev p 0 n)));by_cases hc:eE z (p.getD 0 0) (p.getD (n - 1) 0)=true
   ·rw[yK hc];exact⟨Array.Perm.refl _,rfl,a,by show n<=nrem;lia,c⟩
   ·rw[yM hc];have hge:Z z p (n - 1)<=Z z p 0:=by
     have:¬ (Z z p 0 < Z z p (n - 1)):=λq=>hc (zZ q);lia
    have all:∀x,x < n->Z z p x=Z z p 0:=λx hx=>by
     have e1:=c 0 x (xV _) hx;have e2:=c x (n - 1) (by lia) (by lia);lia
    have same:=yn (z:=z) (p:=p) (i:=0) (j:=n) (by lia) λx y _ hx _ hy=>by rw[all x hx,all y hy]
    refine descPart hz (by lia) hlt (lV _ _ _) (by rw[lu]) (λx y hxy hy=>?_) ?_
    ·rw[same,same,all x (by lia),all y hy];exact xZ _
    ·rw[same,same];lia
  ·exact descPart hz (by lia) hlt (Array.Perm.refl _) rfl (λx y hxy hy=>by rw[show x=y by lia];exact xZ _) (by lia)
def place(hu:Up z p k):∀ (f l r:Nat),r - l<=f->l<=r->r<=k->(∀a,a < l->Z z p a<=Z z p k)->(∀a,r<=a->a < k->Z z p k<=Z z p a) ->
  let m:=run (eE z) (kas_place p k f l r);m<=k/\(∀a,a < m->Z z p a<=Z z p k)/\(∀a,m<=a->a < k->Z z p k<=Z z p a)
 | 0,l,r,hf,hl,hr,h1,h2=>by
  intro m;have e:l=r:=by lia
  subst e;exact⟨hr,h1,h2⟩
 | f+1,l,r,hf,hl,hr,h1,h2=>by
  intro m;have hm:m=run (eE z) (if l >= r then .ret l else .ask (p.getD k 0) (p.getD ((l+r) / 2) 0) λc=>if c=true then kas_place p k f l ((l+r) / 2) else kas_place p k f ((l+r) / 2+1) r):=rfl;by_cases hlr:l >= r
  ·rw[yK hlr] at hm;rw[hm];have e:l=r:=by lia
   subst e;exact⟨hr,h1,h2⟩
  ·rw[yM hlr] at hm;have hm':m=run (eE z) (if eE z (p.getD k 0) (p.getD ((l+r) / 2) 0)=true then kas_place p k f l ((l+r) / 2) else kas_place p k f ((l+r) / 2+1) r):=hm;by_cases hc:eE z (p.getD k 0) (p.getD ((l+r) / 2) 0)=true
   ·rw[yK hc] at hm';rw[hm'];have hlt:Z z p k < Z z p ((l+r) / 2):=yP hc;exact place hu f l ((l+r) / 2) (by lia) (by lia) (by lia) h1 λa ha hak=>jT (Int.le_of_lt hlt) (hu _ a ha hak)
   ·rw[yM hc] at hm';rw[hm'];have hge:Z z p ((l+r) / 2)<=Z z p k:=by
     have:¬ (Z z p k < Z z p ((l+r) / 2)):=λq=>hc (zZ q);lia
    exact place hu f ((l+r) / 2+1) r (by lia) (by lia) hr (λa ha=>jT (hu a ((l+r) / 2) (by lia) (by lia)) hge) h2
def bin:∀ (f:Nat) (p:Array Nat) (k:Nat),p.Perm p₀->p.size=p₀.size->k+f<=p₀.size->Up z p k ->
  (run (eE z) (kas_bin f p k)).Perm p₀/\(run (eE z) (kas_bin f p k)).size=p₀.size/\Up z (run (eE z) (kas_bin f p k)) (k+f)
 | 0,p,k,hp,hs,hk,hu=>⟨hp,hs,hu⟩
 | f+1,p,k,hp,hs,hk,hu=>by
  unfold kas_bin;rw[gx];have P:=place hu k 0 k (by lia) (by lia) (yL _) (λa ha=>absurd ha (vF _)) λa ha hak=>absurd ha (by lia);dsimp only at P;generalize run (eE z) (kas_place p k k 0 k)=l at P;let⟨p1,p2,p3⟩:=P;have zb:=Eg z (p:=p) (src:=k) (d:=k - l) (by lia) (by lia);have e:k - (k - l)=l:=by lia
  rw[e] at zb;let⟨q1,q2,q3⟩:=bin f (bubble p k (k - l)) (k+1) ((bubble_perm _ _ _).trans hp) (by rw[bubble_size,hs]) (by lia) λa b hab hb=>by
   rw[zb,zb];by_cases ha1:a=l
   ·rw[yK ha1];by_cases hb1:b=l
    ·rw[yK hb1];exact xZ _
    ·rw[yM hb1];rw[yK (by lia)];exact p3 _ (by lia) (by lia)
   ·rw[yM ha1];by_cases hb1:b=l
    ·rw[yK hb1,yM (by lia)];exact p2 a (by lia)
    ·rw[yM hb1];by_cases ha2:l < a/\a<=k
     ·rw[yK ha2,yK (by lia)];exact hu _ _ (by lia) (by lia)
     ·rw[yM ha2];by_cases hb2:l < b/\b<=k
      ·rw[yK hb2];exact hu _ _ (by lia) (by lia)
      ·rw[yM hb2];exact hu _ _ hab (by lia)
  exact⟨q1,q2,by rw[show k+(f+1)=k+1+f by lia];exact q3⟩
def jh(h1:1<=n):(run (eE z) (kas_sort n)).toList.Perm (List.range n)/\((run (eE z) (kas_sort n)).toList.map z).Pairwise (·<=·):=by
 have hsz:(List.toArray (List.range n)).size=n:=by simp
 have C:=count (z:=z) (p:=List.toArray (List.range n)) (nrem:=n) (by lia) h1;have fin:∀p:Array Nat,p.Perm (List.toArray (List.range n))->p.size=n->Up z p n->p.toList.Perm (List.range n)/\(p.toList.map z).Pairwise (·<=·):=λp a b c=>by
  refine⟨by have:=a.toList;simpa using this,?_⟩;rw[List.pairwise_iff_getElem];intro i j hi hj hij;have hi':i < n:=by simpa [b] using hi
  have hj':j < n:=by simpa [b] using hj
  have:=c i j (jS hij) hj';unfold Z at this;have e1:p.getD i 0=p[i]:=by simp[Array.getD,b,hi']
  have e2:p.getD j 0=p[j]:=by simp[Array.getD,b,hj']
  rw[e1,e2] at this;simpa using this
 unfold kas_sort;rw[gx];generalize run (eE z) (kas_count n (List.toArray (List.range n)))=r at C;let⟨k,p⟩:=r;have hs:=C.size;rw[hsz] at hs;split
 ·rename_i hlt;have hge:=C.ge;have e:max k 1=k:=by have:1<=k:=hge;lia
  rw[e];let⟨q1,q2,q3⟩:=bin (z:=z) (n - k) p k C.perm C.size (by rw[hsz];have:k < n:=hlt;lia) C.up;refine fin _ q1 (by rw[q2,hsz]) ?_;rw[show k+(n - k)=n by have:k < n:=hlt;lia] at q3;exact q3
 ·rename_i hnlt;have hle:=C.le;have e:k=n:=by have h3:k<=n:=hle;have h4:¬ k < n:=hnlt;lia
  subst e;exact fin p C.perm hs C.up
end
end SP
namespace Srt
open PySem PySem.W PySem.Calls PyProof.Rows
def outV(z:Nat->Int)(vs:List Value):List Value:=if vs.length < 2 then vs else (SP.run (SP.eE z) (kas_sort vs.length)).toList.map λi=>vs.getD i Value.none
def outV_len(z:Nat->Int)(vs:List Value):(outV z vs).length=vs.length:=by
 unfold outV;split
 ·rfl
 ·rename_i h;have:=(SP.jh (z:=z) (n:=vs.length) (by lia)).1.length_eq;simpa using this
def list_sortG{P:PySem.Fin->Shared->Prop}(ho:s.heap.get? a=some (seqObj "list" vs.toArray n))(h64:vs.length < 64)(z:Nat->Int)(κ:SortKind)
  (hk:2<=vs.length->∀h':Heap,(∀b o,b≠a->s.heap.get? b=some o->h'.get? b=some o)->∀Q':SortKind->Shared->Prop,Q' κ { s with heap:=h' }->wpAny (model prog w) A (keyKind' vs.toArray) Q' (λ_ _=>False) { s with heap:=h' })
  (hlt:2<=vs.length->∀h':Heap,(∀b o,b≠a->s.heap.get? b=some o->h'.get? b=some o)->∀i j C,i < vs.length->j < vs.length->C (SP.eE z i j) { s with heap:=h' }->kas_ask prog w A κ vs i j C { s with heap:=h' })
  (h:∀ (h':Heap) (c:Nat),(∀b o,b≠a->s.heap.get? b=some o->h'.get? b=some o)->h'.get? a=some (seqObj "list" (outV z vs).toArray c)->P (.done (.ret .none)) { s with heap:=h' }) :
  wpAny (model prog w) A (Builtin.«list.sort» ⟨[.ref a],[]⟩) P E s:=by
 rw[list_sort_plain];have ha:a < s.heap.objs.size:=zX ho;have hsl:vs.length<=sizeLine:=by rw[sizeLine_eq];lia
 refine zU (listItems_at ho rfl (zU (listUpdate_at ho rfl ?_ (by simpa using hsl) (xV _))));obtain⟨e1,ho1⟩:∃e,(s.heap.update a (Obj.mapSeq λ_=>(#[]:Array Value))).get? a=some (seqObj "list" #[] e):=⟨_,get?_update_seq ho λ_=>#[]⟩
 have kp1:∀b o,b≠a->s.heap.get? b=some o->(s.heap.update a (Obj.mapSeq λ_=>(#[]:Array Value))).get? b=some o:=λb o hb e=>(xM _ _ (jM hb)).trans e;refine zU (seqEpoch_at ho1 rfl (zU (wpAny_newTuple ?_ (by simpa using hsl))));refine zU (wpAny_newList (xX ?_) (xV _));have ho3:(((s.heap.update a (Obj.mapSeq λ_=>(#[]:Array Value))).push (seqObj "tuple" vs.toArray 0)).push (seqObj "list" #[] 0)).get? a=some (seqObj "list" #[] e1):=zT _ (zT _ ho1);have kp3:∀b o,b≠a->s.heap.get? b=some o->(((s.heap.update a (Obj.mapSeq λ_=>(#[]:Array Value))).push (seqObj "tuple" vs.toArray 0)).push (seqObj "list" #[] 0)).get? b=some o:=λb o hb e=>zT _ (zT _ (kp1 b o hb e));show wpAny _ A _ P E { s with heap:=((s.heap.update a (Obj.mapSeq λ_=>(#[]:Array Value))).push (seqObj "tuple" vs.toArray 0)).push (seqObj "list" #[] 0) };generalize ((s.heap.update a (Obj.mapSeq λ_=>(#[]:Array Value))).push (seqObj "tuple" vs.toArray 0)).push (seqObj "list" #[] 0)=h3 at ho3 kp3;clear ho1 kp1;dsimp only;have fin:∀st':SortSt,(arrOf st').map (·.2)=(outV z vs).toArray->failedOf st'=none ->
   wpAny (model prog w) A (do
    let sorted:=(arrOf st').map (·.2);let touched:=(<- seqEpoch a) != e1
    Builtin.List.listUpdate (.ref a) λ_=>sorted
    if let some e:=failedOf st' then rule "list.sort.comparison-raised";throw e
    if touched then rule "list.sort.modified";raiseError "ValueError" "list modified during sort"
    ret .none) P E { s with heap:=h3 }:=λst' h1 h2=>by
  dsimp only;rw[h1,h2];refine zU (seqEpoch_at ho3 rfl ?_);refine zU (listUpdate_at ho3 rfl ?_ (xV _) (by show (outV z vs).toArray.size<=_;rw[zH,outV_len];lia));obtain⟨c,hc⟩:∃c,(h3.update a (Obj.mapSeq λ_=>(outV z vs).toArray)).get? a=some (seqObj "list" (outV z vs).toArray c):=⟨_,get?_update_seq ho3 λ_=>(outV z vs).toArray⟩
  have q:=h _ c (λb o hb e=>(xM _ _ (jM hb)).trans (kp3 b o hb e)) hc;simp?[bne_self_eq_false,yN,qP];exact zV q
 by_cases h2:vs.toArray.size < 2
 ·rw[yK h2,yK h2];refine zU (zV ?_);rw[StateT.run_pure];refine zU (zV (fin _ ?_ rfl));have h2':vs.length < 2:=by simpa using h2
  unfold outV;rw[yK h2'];show ((vs.toArray.zip vs.toArray).map (·.2))=vs.toArray;apply Array.toList_inj.mp;simp?[Array.toList_map,Array.toList_zip];exact List.map_snd_zip (yL _)
 ·rw[yM h2,yM h2];have h2':2<=vs.length:=by
   have:¬ vs.length < 2:=by simpa using h2
   lia
  refine zU (yZ (hk h2' h3 kp3 (λκ' s'=>κ'=κ/\s'={ s with heap:=h3 }) ⟨rfl,rfl⟩) (λκ' s' hs=>?_) λ_ _ x=>x.elim);let⟨rfl,rfl⟩:=hs;refine zU (yZ (kat_run (Q:=λst' s'=>s'={ s with heap:=h3 }/\(arrOf st').map (·.2)=(outV z vs).toArray/\failedOf st'=none) (G:=λp s'=>s'={ s with heap:=h3 }/\p=SP.run (SP.eE z) (kas_sort vs.length))
   rfl h2' h64 (λp st' s' a1 a2 a3 a4=>⟨a4.1,?_,a3⟩) (SP.wp_run (hlt h2' h3 kp3) (kas_sort vs.length) (SP.K4 (by lia)) ⟨rfl,rfl⟩)) ?_ λ_ _ e=>e)
  ·rw[kat_snds rfl a2,a4.2];unfold outV;rw[yM (by lia)]
  ·rintro⟨⟨⟩,st'⟩ s' ⟨hs,h4,h5⟩;subst hs;exact fin st' h4 h5
def Coll(h:Heap)(l:Addr)(vs:List Value):Prop:=∃ (o:Obj) (T:String) (n:Nat),(T="list"\/T="tuple")/\h.get? l=some o/\o.cls=.type T/\o.data=.seq vs.toArray n
def collectC(hl:Coll s.heap l vs)
  (h:Q vs { s with heap:=(s.heap.push (seqObj "list" #[] 0)).update s.heap.objs.size (Obj.mapSeq (·++vs.toArray)) }) (hsz:vs.length<=sizeLine):wpAny (model prog w) A (collect (.ref l)) Q E s:=by
 let⟨o,T,n,hT,ho,hc,hd⟩:=hl;unfold collect;refine zU (wpAny_runValue (jZ entry_proto_collect' ?_));show wpAny _ _ (do again (.builtin "list.__iadd__" ⟨[<- newList [],.ref l],[]⟩)) _ _ s;refine zU (wpAny_newList (zV ⟨vW _ (by decide +kernel),jZ entry_list_iadd' ?_⟩));show wpAny _ _ (Builtin.List.listExtendWith (.ref s.heap.objs.size) (.ref l) (.ref s.heap.objs.size)) _ _ { s with heap:=s.heap.push (seqObj "list" #[] 0) };unfold Builtin.List.listExtendWith;have ho':(s.heap.push (seqObj "list" #[] 0)).get? l=some o:=zT _ ho;refine zU (vY (T:=T) ⟨o,ho',hc⟩ ?_);rw[yK (by rcases hT with rfl|rfl<;>simp)];refine zU (listItems_at ho' hd (zU (listItems_at (xs:=#[]) (n:=0) (zW _ rfl) rfl ?_)));rw[yM (by simp)];refine zU (listUpdate_at (xs:=#[]) (n:=0) (zW _ rfl) rfl ?_ (xV _) (by show (#[]++vs.toArray).size<=sizeLine+1;simp?[Array.size_append,zH,xJ];lia));refine zV ?_;refine zU (wpAny_load (get?_update_seq (zW _ rfl) _) ?_);show wpAny _ _ (pure ((#[]:Array Value)++vs.toArray).toList) Q E _;rw[show ((#[]:Array Value)++vs.toArray).toList=vs by simp];exact zV h
def sortedG{s:Shared}{Q:Value->Shared->Prop}(hl:Coll s.heap l vs)(h64:vs.length < 64)(z:Nat->Int)(κ:SortKind)
  (hk:2<=vs.length->∀h':Heap,(∀b o,s.heap.get? b=some o->h'.get? b=some o)->∀Q':SortKind->Shared->Prop,Q' κ { s with heap:=h' }->wpAny (model prog w) A.in1.in1 (keyKind' vs.toArray) Q' (λ_ _=>False) { s with heap:=h' })
  (hlt:2<=vs.length->∀h':Heap,(∀b o,s.heap.get? b=some o->h'.get? b=some o)->∀i j C,i < vs.length->j < vs.length->C (SP.eE z i j) { s with heap:=h' }->kas_ask prog w A.in1.in1 κ vs i j C { s with heap:=h' })
  (h:∀ (h':Heap) (D:Addr) (c:Nat),(∀b o,s.heap.get? b=some o->h'.get? b=some o)->s.heap.objs.size<=D->h'.get? D=some (seqObj "list" (outV z vs).toArray c)->Q (.ref D) { s with heap:=h' }) :
  wpAny (model prog w) A (call (.builtin "sorted") [.ref l]) Q E s:=by
 have hsl:vs.length<=sizeLine:=by rw[sizeLine_eq];lia
 refine Calls.call_function_entry kind_sorted plain_sorted entry_sorted (args_sorted1 _) ?_;unfold Builtin.«sorted»;refine zU (m:=checkCount "sorted" 1 1 _) (zV (zU (collectC hl ?_ hsl)));refine zU (wpAny_newList ?_ (by simpa using hsl));have hsz:((s.heap.push (seqObj "list" #[] 0)).update s.heap.objs.size (Obj.mapSeq (·++vs.toArray))).objs.size=s.heap.objs.size+1:=by rw[Heap.size_update,size_push']
 have kp:∀b o,s.heap.get? b=some o->(((s.heap.push (seqObj "list" #[] 0)).update s.heap.objs.size (Obj.mapSeq (·++vs.toArray))).push (seqObj "list" vs.toArray 0)).get? b=some o:=λb o e =>
  zT _ ((xM _ _ (jH (zX e))).trans (zT _ e))
 have hoD:(((s.heap.push (seqObj "list" #[] 0)).update s.heap.objs.size (Obj.mapSeq (·++vs.toArray))).push (seqObj "list" vs.toArray 0)).get? (s.heap.objs.size+1)=some (seqObj "list" vs.toArray 0):=by
  rw[<- hsz];exact zW _ rfl
 show wpAny _ _ _ _ _ { s with heap:=((s.heap.push (seqObj "list" #[] 0)).update s.heap.objs.size (Obj.mapSeq (·++vs.toArray))).push (seqObj "list" vs.toArray 0) };rw[hsz];generalize ((s.heap.push (seqObj "list" #[] 0)).update s.heap.objs.size (Obj.mapSeq (·++vs.toArray))).push (seqObj "list" vs.toArray 0)=h1 at kp hoD;have kk:∀h':Heap,(∀b o,b≠s.heap.objs.size+1->h1.get? b=some o->h'.get? b=some o)->∀b o,s.heap.get? b=some o->h'.get? b=some o:=λh' q b o e=>q b o (yQ (jN (zX e))) (kp b o e);refine zU (xX (qU slot_list_sort ⟨_,hoD,rfl⟩ entry_list_sort (list_sortG hoD h64 z κ (λa h' q=>hk a h' (kk h' q)) (λa h' q=>hlt a h' (kk h' q)) λh' c q e=>⟨_,rfl,?_⟩) (args_list_sort _)));exact zV ⟨_,rfl,h h' _ c (kk h' q) (by lia) e⟩
end Srt
namespace Dl
open PySem L2 PySem.Spec PyProof.Rows
def BM(i:Nat)(fz:List Nat)(f:Env->Option (List D)):au->Option Out:=λρ=>(f (cc (hand fz 0 ρ))).bind λus=>qk i (λds=>if ds.length+us.length<=sizeLine then some (ds++us) else none) (hand fz 0 ρ)
def B5(i:Nat)(fz:List Nat)(hN:X.N[i]?=some x)(hv:Gz X.env.scope x)(h:DF X e f)(hd:(x == ("__debug__":Str))=false:=by decide)(hcd:(x == ("__classdict__":Str))=false:=by decide)
  (hfew:((backTo cpos (starEach [e] X.env)).all (λx=>!x.1)&&(backToKw cpos (keywordEach [] X.env)).all (λx=>x.1.isSome)&&decide ([e].length+([]:List Keyword).length+(if ([]:List Keyword).isEmpty then 0 else 1) < 30))=true:=by rfl)
  (hline:(apos.endLine == cpos.line)=true:=by rfl) (hs:starEach [e] X.env=(false,eval e X.env)::starEach [] X.env:=by rfl) :
  DS X HF₀ H₀ (.Expr (.Call (.Attribute (.Name x px) "extend" apos) [e] [] cpos) pos) (BM i fz f) :=
 cJ (lJ (j5 qN PySem.F.slot_list_extend PySem.F.type_list_extend BX (ki hN hv hd hcd) (bJ h cO hs) rfl hfew hline hs rfl)) λE σ H ⟨HF,ρ,o,S,hg,q⟩=>by
  let⟨us,h1,hg⟩:=bs hg;let⟨ds,es,h2,h3,rfl⟩:=jf hg;let⟨HF1,s1,S1⟩:=S.hand fz;let⟨a,vs,e1,e2,e3,e5,e4⟩:=S1.own i ds h2;refine⟨.ref a,e1,.inl ⟨rfl,vs,fS.of e2⟩,HF1,_,us,S1.gr.fh,S1.frz,h1,λb ws H' HF' G hb hf h' r=>?_⟩;have S2:=S1.grow G;let⟨a',vs',f1,f2,f3,f5,f4⟩:=S2.own i ds h2;rw[e1] at f1;cases f1;split at h3
  ·rename_i hz;cases h3;exact⟨a,b,vs',ws,rfl,rfl,f2,h',by rw[f4.length,r.length];exact hz,q σ _ HF' (S2.mut h2 e1 f2 (f4.append r)) (s1.trans G.ff)⟩
  ·cases h3
def Bh(ds:List D)(k:Int)(d:D):List D:=let j:=if k < 0 then (k+(ds.length:Int)).toNat else min k.toNat ds.length;ds.take j++d::ds.drop j
def HP:V->List V->Hp->VK->Prop:=λx vs H Q=>∃l xs k y,x=.ref l/\vs=[.int k,y]/\H l=some (.lst xs)/\xs.length < sizeLine/\-(2 ^ 62)<=k/\k < 2 ^ 62 /\
 Q .non (upd H l (.lst (xs.take (if k < 0 then (k+(xs.length:Int)).toNat else min k.toNat xs.length)++y::xs.drop (if k < 0 then (k+(xs.length:Int)).toNat else min k.toNat xs.length))))
def CC:GM X "list.insert" HP:=by
 intro pins s σ H x vs v us Q I rx rv h;let⟨l,xs,k,y,rfl,rfl,hH,hz,k1,k2,q⟩:=h;cases rx;let⟨u1,u2,rfl,⟨t,rfl⟩,ru⟩:=L2.aM.two rv;let⟨z,its,n,r,hl,e⟩:=I.lstM hH;have hfit:¬(!Builtin.List.listFitsIndex k)=true:=by
  have:Builtin.List.listFitsIndex k=true:=by
   unfold Builtin.List.listFitsIndex;simp?[zF,zJ];lia
  rw[this];simp
 refine qV F.slot_list_insert ⟨_,e,rfl⟩ F.entry_list_insert (F.args_list_insert_3 _ _ _) (AutoListH.list_insert_list_int_val_1 l its.toArray n k t u2 hfit (by rw[zH];lia)) ⟨e,?_⟩;have hlen:its.length=xs.length:=hl.symm;refine⟨.non,_,I.lset (its':=its.take (if k < 0 then (k+(xs.length:Int)).toNat else min k.toNat xs.length)++u2::its.drop (if k < 0 then (k+(xs.length:Int)).toNat else min k.toNat xs.length)) hH e ?_ ((r.take _).append (.cons ru (r.drop _))) ?_,rfl,q⟩
 ·dsimp only;rw[zH,hlen];apply Array.toList_inj.mp;simp;exact List.take_of_length_le (by rw[qH,hlen];exact yL _)
 ·rw[zN,zL,jV,qH];lia
def By(i:Nat)(fz:List Nat)(fk f:Env->Option D):au->Option Out:=λρ=>(fk (aD ρ)).bind λkd=>match kd with
 | .int k=>(oM fz f ρ).bind λp=>qk i (λds=>if uv k=true/\ds.length < sizeLine then some (Bh ds k p.1) else none) p.2
 | _=>none
def Cp(i:Nat)(fz:List Nat)(hN:X.N[i]?=some x)(hv:Gz X.env.scope x)(hk:DE X e fk)(h:DE X e2 f)(hd:(x == ("__debug__":Str))=false:=by decide)(hcd:(x == ("__classdict__":Str))=false:=by decide)
  (hfew:((backTo cpos (starEach [e,e2] X.env)).all (λx=>!x.1)&&(backToKw cpos (keywordEach [] X.env)).all (λx=>x.1.isSome)&&decide ([e,e2].length+([]:List Keyword).length+(if ([]:List Keyword).isEmpty then 0 else 1) < 30))=true:=by rfl)
  (hline:(apos.endLine == cpos.line)=true:=by rfl) (hs:starEach [e,e2] X.env=(false,eval e X.env)::starEach [e2] X.env:=by rfl) (hs2:starEach [e2] X.env=(false,eval e2 X.env)::starEach [] X.env:=by rfl) :
  DS X HF₀ H₀ (.Expr (.Call (.Attribute (.Name x px) "insert" apos) [e,e2] [] cpos) pos) (By i fz fk f) :=
 cJ (lJ (j5 qN PySem.F.slot_list_insert PySem.F.type_list_insert CC (ki hN hv hd hcd) (bJ hk (bJ h cO hs2) hs) rfl hfew hline hs (by rw[hs2];rfl))) λE σ H ⟨HF,ρ,o,S,hg,q⟩=>by
  let⟨kd,hkd,hg⟩:=bs hg;cases kd<;>try cases hg
  rename_i k;let⟨⟨d,ρ'⟩,h1,hg⟩:=bs hg;let⟨ds,es,h2,h3,rfl⟩:=jf hg;have hown:∃ds',ρ[i]?=some (.own ds'):=by
   let⟨d1,_,h1⟩:=bs h1;split at h1
   ·cases h1;exact⟨ds,h2⟩
   ·let⟨d2,_,h1⟩:=ag h1;cases h1;rw[gH] at h2;let⟨s,hs,h2⟩:=ag h2;cases s with
    | non=>split at h2<;>cases h2
    | val _=>split at h2<;>cases h2
    | own xs=>exact⟨xs,hs⟩
  let⟨ds',hown⟩:=hown;let⟨a,vs,e1,e2,e3,e5,e4⟩:=S.own i ds' hown;refine⟨.ref a,e1,.inl ⟨rfl,vs,fS.of e2⟩,H,aD ρ,_,.refl _,S.all,hkd,λvk Hk HFk Gk rk=>?_⟩;simp?[Rep] at rk;subst rk;refine mD (S.step Gk.hh) h1 λv H' HF' s1 S' sh r=>?_;let⟨a',vs',f1,f2,f3,f5,f4⟩:=S'.own i ds h2;rw[e1] at f1;cases f1;split at h3
  ·rename_i hz;cases h3;have ok:=hz.1;unfold uv at ok;rw[zF] at ok;refine⟨a,vs',k,v,rfl,rfl,f2,by rw[f4.length];exact hz.2,yP ok.1,yP ok.2,q σ _ HF' (S'.mut h2 e1 f2 ?_) s1⟩;unfold Bh;rw[f4.length];exact (f4.take _).append (ax.cons r (f4.drop _))
  ·cases h3
def nq:D->D->Option (List D)
 | .list xs,.list ys=>small (xs++ys)
 | _,_=>none
def Eh(K:W.Frag):R2:=λx y H Q=>∃a b xs ys,x=.ref a/\y=.ref b/\fS K H a xs/\fS K H b ys/\xs.length+ys.length<=sizeLine/\∀p,H p=none->Q (.ref p) (upd H p (.lst (xs++ys)))
def wM:eU X (binaryOp .Add) (Eh X.K):=by
 intro pins s σ H x y v u Q I rx ry h;let⟨a,b,xs,ys,rfl,rfl,ha,hb,hz,q⟩:=h;cases rx;cases ry;let⟨its,r1,p1,_⟩:=I.list ha;let⟨its2,r2,p2,_⟩:=I.list hb;let⟨⟨cls,dd,data,sl⟩,ho,hc,n,hd⟩:=id p1.isList;let⟨⟨cls2,dd2,data2,sl2⟩,ho2,hc2,n2,hd2⟩:=id p2.isList;simp only at hc hd hc2 hd2;subst hc hd hc2 hd2;refine wA ⟨_,ho,rfl⟩ ⟨_,ho2,rfl⟩ noFill_list_add seq_list_add PySem.F.slot_list_add PySem.F.entry_list_add (PySem.F.args_list_add_2 _ _) (list_addW a b its.toArray its2.toArray n n2 dd dd2 sl sl2 (by rw[zH,zH,<- r1.length,<- r2.length];exact hz)) ⟨ho,ho2,?_⟩;have e:its.toArray++its2.toArray=(its++its2).toArray:=by simp
 rw[e];exact⟨.ref s.heap.objs.size,_,I.lnew (t':=s.toks) (r1.append r2) (by rw[zN];exact hz),rfl,q _ I.fresh⟩
def k6(g:D->D->Option (List D))(f1 f2:Env->Option D):Env->Option (List D):=λρ=>(f1 ρ).bind λx=>(f2 ρ).bind λy=>g x y
def KJ(ha:DE X a fa)(hb:DE X b fb):DF X (.BinOp a .Add b pos) (k6 nq fa fb):=aN (C3 wM ha hb) λσ H Q ⟨HF,ρ,d,sm,eo,hf,q⟩=>by
 let⟨x,hx,hf⟩:=bs hf;let⟨y,hy,hg⟩:=bs hf;refine⟨HF,ρ,x,sm,eo,hx,λv1 H1 HF1 g1 r1=>⟨HF1,ρ,y,g1.fh,eo.mono g1.ff,hy,λv2 H2 HF2 g2 r2=>?_⟩⟩;have r1:=r1.mono g2.ff;cases x<;>cases y<;>simp?[nq] at hg<;>try cases hg
 rename_i xs ys;let⟨rfl,hz⟩:=dY hg;simp?[Rep] at r1 r2;let⟨a,vs,rfl,ha,ra⟩:=r1;let⟨b,us,rfl,hb,rb⟩:=r2;have G:=g1.trans g2;exact⟨a,b,vs,us,rfl,rfl,g2.fh.seq ha,g2.fh.seq hb,by rw[ra.length,rb.length,<- zN];exact hz,λp hp=>q p _ _ HF2 (G.trans (.own G.fh hp)) (G.hh.free hp) (G.fh.free hp) aP (ra.append rb)⟩
def boolsOf:List D->Option (List Bool)
 | []=>some []
 | .bool b::r=>(boolsOf r).map (b::·)
 | _::_=>none
def g8:∀ {ds:List D}{bs:List Bool},boolsOf ds=some bs->ds=bs.map PyData.bool
 | [],bs,h=>by cases h;rfl
 | d::r,bs,h=>by
  cases d<;>simp?[boolsOf] at h<;>try cases h
  let⟨bs',h1,rfl⟩:=ag h;rw[g8 h1];rfl
def dW{K:W.Frag}:∀ {bs:List Bool}{vs:List V},ax K H (bs.map PyData.bool) vs->vs=bs.map V.bl
 | [],vs,h=>h.nil_inv
 | b::bs,vs,h=>by
  let⟨v,r,rfl,a,c⟩:=h.cons_inv;simp?[Rep] at a;rw[a,dW c];rfl
def j7:∀ {bs:List Bool}{us:List Value},aM (bs.map V.bl) us->us=bs.map Value.bool
 | [],us,h=>by cases h;rfl
 | b::bs,us,h=>by
  cases h with
  | cons r rr=>cases r;rw[j7 rr];rfl
def range_all(bs:List Bool):(List.range bs.length).all (λi=>bs.getD i false)=bs.all id:=by
 induction bs with
 | nil=>rfl
 | cons b bs ih=>rw[zL,vC,xS,List.all_map,xS];simpa [wF] using jB (b&&·) ih
def range_any(bs:List Bool):(List.range bs.length).any (λi=>bs.getD i false)=bs.any id:=by
 induction bs with
 | nil=>rfl
 | cons b bs ih=>rw[zL,vC,List.any_cons,List.any_map,List.any_cons];simpa [wF] using jB (b||·) ih
def zp(hc:X.calm=true):du X (.builtin "all") (λxs H Q=>∃ (a:Addr) (bs:List Bool),xs=[.ref a]/\fS X.K H a (bs.map V.bl)/\Q (.bl (bs.all id)) H):=by
 intro pins s σ H xs us Q I r h;let⟨a,bs,rfl,hq,q⟩:=h;let⟨u,rfl,rx⟩:=vals1 r;cases rx;let⟨its,rv,pl,hz⟩:=I.list hq;have hv:=j7 rv;subst hv;have hh:X.A.in1.handled=none:=I.ok.hd hc;refine call_all_walk (qK pl.isList ?_);let⟨o,ho,hcl,n,hd⟩:=pl.isList;have hne:a≠s.heap.objs.size:=yQ (zX ho);refine⟨_,_,_,_,_,_,λi=>bs.getD i false,rfl,Walks.list hh s.heap.objs.size a hne (bs.map Value.bool).toArray,⟨⟨_,zW _ rfl,rfl,rfl⟩,pl.isList.push _⟩,λi v s' Q' E' hP hQ=>?_,λh' tk kp=>?_⟩
 ·have e:v=Value.bool (bs.getD i false):=by
   have hP:(bs.map Value.bool).toArray[i]?=some v:=hP;rw[vK,zO] at hP;let⟨b,hb,rfl⟩:=ag hP;rw[zG,hb];rfl
  subst e;exact xW hQ
 ·refine⟨.bl (bs.all id),H,?_,?_,q⟩
  ·exact I.kept (t':=tk) λb o' e=>kp b o' (by simp;exact yQ (zX e)) (zT _ e)
  ·show Value.bool _=Value.bool _;have:=range_all bs;simp?[zH,zD];rw[this]
def gg:List D->Option D:=λds=>(oneOf ds).bind λd=>match d with
 | .list es=>(boolsOf es).map λbs=>.bool (bs.all id)
 | _=>none
def Md(hc:X.calm=true)(B:nj X "all" (.builtin "all"))(ha:DA X [e] fs)(he:starEach [e] X.env=(false,eval e X.env)::starEach [] X.env:=by rfl):DE X (.Call (.Name "all" p) [e] [] pos) (aY gg fs) :=
 gP (zp hc) (by
  intro HF H ds vs d Q sm r hg q;let⟨x,hx,hg⟩:=bs hg;rw[fO hx] at r;cases x<;>try cases hg
  let⟨bs,hb,rfl⟩:=ag hg;let⟨v,r',rfl,a,b⟩:=r.cons_inv;rw[b.nil_inv];simp?[Rep] at a;let⟨p,us,rfl,h,rr⟩:=a;rw[g8 hb] at rr;have:=dW rr;subst this;exact⟨p,bs,rfl,sm.seq h,q _ H HF (.refl sm) (by simp[Rep])⟩) B ha (by decide) (by decide) he rfl
abbrev lexLt:=HT.lexLt
def fy:∀a:List Int,lexLt a a=false
 | []=>rfl
 | x::a=>by show HT.lexLt (x::a) (x::a)=false;rw[HT.dk,yK rfl];exact fy a
def dZ:∀ {a b c:List Int},lexLt a b=true->lexLt b c=true->lexLt a c=true
 | [],[],_,h,_=>by cases h
 | [],_::_,[],_,h=>by cases h
 | [],_::_,_::_,_,_=>rfl
 | _::_,[],_,h,_=>by cases h
 | _::_,_::_,[],_,h=>by cases h
 | x::a,y::b,z::c,h1,h2=>by
  have h1:HT.lexLt (x::a) (y::b)=true:=h1;have h2:HT.lexLt (y::b) (z::c)=true:=h2;show HT.lexLt (x::a) (z::c)=true;rw[HT.dk] at h1 h2 ⊢;by_cases e1:x=y
  ·rw[yK e1] at h1;by_cases e2:y=z
   ·rw[yK e2] at h2;rw[yK (e1.trans e2)];exact dZ h1 h2
   ·rw[yM e2] at h2;rw[yM (by lia)];have:=yP h2;exact zZ (by lia)
  ·rw[yM e1] at h1;have q1:=yP h1;by_cases e2:y=z
   ·rw[yM (by lia)];exact zZ (by lia)
   ·rw[yM e2] at h2;have q2:=yP h2;rw[yM (by lia)];exact zZ (by lia)
def gz:∀ {a b:List Int},lexLt a b=false->lexLt b a=false->a=b
 | [],[],_,_=>rfl
 | [],_::_,h,_=>by cases h
 | _::_,[],_,h=>by cases h
 | x::a,y::b,h1,h2=>by
  have h1:HT.lexLt (x::a) (y::b)=false:=h1;have h2:HT.lexLt (y::b) (x::a)=false:=h2;rw[HT.dk] at h1 h2;by_cases e:x=y
  ·rw[yK e] at h1;rw[yK e.symm] at h2;rw[e,gz h1 h2]
  ·rw[yM e] at h1;rw[yM (λz=>e z.symm)] at h2;have:=vU h1;have:=vU h2;lia
def lexLe(a b:List Int):Bool:=!lexLt b a
def wI(a b c:List Int)(h1:lexLe a b=true)(h2:lexLe b c=true):lexLe a c=true:=by
 unfold lexLe at *;rw[yO] at *;cases e:lexLt c a with
 | false=>rfl
 | true =>
  cases e1:lexLt a b with
  | true=>rw[dZ e e1] at h2;cases h2
  | false =>
   have:=gz e1 h1;subst this;rw[e] at h2;cases h2
def wJ(a b:List Int):(lexLe a b||lexLe b a)=true:=by
 unfold lexLe;cases e1:lexLt b a with
 | false=>rfl
 | true =>
  cases e2:lexLt a b with
  | false=>rfl
  | true=>have:=dZ e1 e2;rw[fy] at this;cases this
def o4(h1:lexLe a b=true)(h2:lexLe b a=true):a=b:=by
 unfold lexLe at *;rw[yO] at *;exact gz h2 h1
def qr{α:Type}{le:α->α->Bool}(anti:∀a b,le a b=true->le b a=true->a=b):∀ {l m:List α},l.Perm m->l.Pairwise (λa b=>le a b=true)->m.Pairwise (λa b=>le a b=true)->l=m
 | [],m,p,_,_=>p.nil_eq
 | a::l,[],p,_,_=>by have:=p.length_eq;simp at this
 | a::l,b::m,p,h1,h2=>by
  let⟨h1a,h1b⟩:=List.pairwise_cons.mp h1;let⟨h2a,h2b⟩:=List.pairwise_cons.mp h2;have e:a=b:=by
   have ha:a∈b::m:=p.mem_iff.mp zE;have hb:b∈a::l:=p.mem_iff.mpr zE;rcases List.mem_cons.mp ha with e|ha
   ·exact e
   ·rcases List.mem_cons.mp hb with e|hb
    ·exact e.symm
    ·exact anti a b (h1a b hb) (h2a a ha)
  subst e;rw[qr anti (List.perm_cons a |>.mp p) h1b h2b]
def pP(l:List (List Int)):List (List Int):=l.mergeSort lexLe
def EO(l:List (List Int)):(pP l).Perm l:=List.mergeSort_perm l lexLe
def KR(l:List (List Int)):(pP l).Pairwise (λa b=>lexLe a b=true):=List.pairwise_mergeSort wI wJ l
def E2{l:List (List Int)}(p:l.Perm m)(h:l.Pairwise (λa b=>lexLe a b=true)):l=pP m:=qr (λ_ _=>o4) (p.trans (EO m).symm) h (KR m)
def rk(l:List (List Int))(a:List Int):Int:=((l.countP λb=>lexLt b a:Nat):Int)
def J7(ha:a∈l):lexLt a b=decide (rk l a < rk l b):=by
 unfold rk;have mono:∀ {a b:List Int},lexLt a b=true->(l.countP λc=>lexLt c a)<=l.countP λc=>lexLt c b:=λ{a b} h=>List.countP_mono_left λc _ hc=>dZ hc h;have strict:∀ {a b:List Int}(ha:a∈l),lexLt a b=true->(l.countP λc=>lexLt c a) < l.countP λc=>lexLt c b:=λ{a b} ha h=>by
  have key:∀m:List (List Int),a∈m->(m.countP λc=>lexLt c a) < m.countP λc=>lexLt c b:=λm hm=>by
   induction m with
   | nil=>cases hm
   | cons x m ih =>
    rw[List.countP_cons,List.countP_cons];have mo:(m.countP λc=>lexLt c a)<=m.countP λc=>lexLt c b:=List.countP_mono_left λc _ hc=>dZ hc h;rcases List.mem_cons.mp hm with e|hm
    ·subst e;rw[fy,h];simp?[yN,qP,xG];lia
    ·have:=ih hm;by_cases hx:lexLt x a=true
     ·rw[hx,dZ hx h];simp?[xG];lia
     ·have hx':lexLt x a=false:=by simpa using hx
      rw[hx'];simp?[yN,qP];split<;>lia
  exact key l ha
 cases e:lexLt a b with
 | true=>exact (zZ (by have:=strict ha e;lia)).symm
 | false =>
  refine (zY ?_).symm;cases e2:lexLt b a with
  | true=>have:=mono e2;lia
  | false=>rw[gz e e2];lia
section
variable {prog:Program}{w:World}{A:Around}{E:Value->Shared->Prop}{s:Shared}
def vd:∀ {us ws:List Value}{ns ms:List Int}(i:Nat),IntsAre us ns->IntsAre ws ms->Q (lexLt ns ms) s->W.KatLex prog w A true (decide (ns.length < ms.length)) Q (us.zip ws) i s
 | [],[],_,_,i,.nil,.nil,h=>h
 | [],_::_,_,_,i,.nil,.cons _ _ _,h=>by
  show Q (decide (0 < _+1)) s;rw[zZ (Nat.succ_pos _)];exact h
 | _::_,[],_,_,i,.cons _ _ _,.nil,h=>by
  show Q (decide (_+1 < 0)) s;rw[zY (vF _)];exact h
 | _::us,_::ws,_,_,i,.cons n t r1,.cons m u r2,h=>by
  have h:Q (HT.lexLt (n::_) (m::_)) s:=h;rw[HT.dk] at h;refine W.kat_cons (SeqAt.EqAt.int_int n t m u prog w _ _ ?_);cases e:(n == m) with
  | true =>
   have e':n=m:=eq_of_beq e;rw[yK e'] at h;refine W.kat_yes ?_;have:=vd (i+1) r1 r2 h;simp?[zL,Nat.add_lt_add_iff_right];exact this
  | false =>
   have e':¬ n=m:=λq=>by rw[q] at e;simp at e
   rw[yM e'] at h;refine W.kat_no ?_;by_cases hi:(true&&i == 0)=true
   ·rw[hi];exact oneLt_int h
   ·have hi':(true&&i == 0)=false:=by simpa using hi
    rw[hi'];refine W.kat_one _ _ (lt_int ?_);exact h
end
def ak(ns:List Int):D:=.tuple (ns.map PyData.int)
def intsOf:List D->Option (List Int)
 | []=>some []
 | .int n::r=>(intsOf r).map (n::·)
 | _::_=>none
def dA:∀ {ds:List D}{ns:List Int},intsOf ds=some ns->ds=ns.map PyData.int
 | [],ns,h=>by cases h;rfl
 | d::r,ns,h=>by
  cases d<;>simp?[intsOf] at h<;>try cases h
  let⟨ns',h1,rfl⟩:=ag h;rw[dA h1];rfl
def fA:∀ns:List Int,intsOf (ns.map PyData.int)=some ns
 | []=>rfl
 | n::ns=>by simp[intsOf,fA ns]
def AB:D->Option (List Int)|.tuple ds=>(intsOf ds).bind λns=>if ns=[] then none else some ns|_=>none
def xv(h:AB d=some ns):d=ak ns/\ns≠[]:=by
 cases d<;>try cases h
 let⟨ms,h1,h2⟩:=bs h;split at h2
 ·cases h2
 ·rename_i hn;cases h2;rw[dA h1];exact⟨rfl,hn⟩
def Cr(h:ns≠[]):AB (ak ns)=some ns:=by
 unfold ak AB;simp?[fA,zA];rw[yM h]
def rowsOf:List D->Option (List (List Int))
 | []=>some []
 | d::r=>(AB d).bind λns=>(rowsOf r).map (ns::·)
def nu:∀ {ds:List D}{nss:List (List Int)},rowsOf ds=some nss->ds=nss.map ak/\∀ns∈nss,ns≠[]
 | [],nss,h=>by cases h;exact⟨rfl,λ_ z=>by cases z⟩
 | d::r,nss,h=>by
  let⟨ns,h1,h⟩:=bs h;let⟨rest,h2,rfl⟩:=ag h;let⟨e,hn⟩:=xv h1;let⟨e2,hn2⟩:=nu h2;refine⟨by rw[e,e2];rfl,λm hm=>?_⟩;rcases List.mem_cons.mp hm with q|q
  ·subst q;exact hn
  ·exact hn2 m q
def nX:∀ {nss:List (List Int)},(∀ns∈nss,ns≠[])->rowsOf (nss.map ak)=some nss
 | [],_=>rfl
 | ns::r,h=>by
  simp?[zI,rowsOf,Cr (h ns zE),zA,nX λm hm=>h m (zC _ hm),zB]
structure sP(h:Heap)(v:Value)(ns:List Int):Prop where
 ex:∃ (a:Addr) (o:Obj) (its:Array Value) (n:Nat),v=.ref a/\h.get? a=some o/\o.cls=.type "tuple"/\o.data=.seq its n/\IntsAre its.toList ns
def sP.keep(r:sP h v ns)(k:∀b o,h.get? b=some o->h'.get? b=some o):sP h' v ns:=let ⟨a,o,its,n,e,e1,e2,e3,e4⟩:=r.ex;⟨a,o,its,n,e,k _ _ e1,e2,e3,e4⟩
def wx:∀ {vs:List Value}{nss:List (List Int)},Paired (sP h) vs nss->(∀ns∈nss,ns≠[])->∃fs:List Value,W.KatTups h vs fs/\fs.length=vs.length/\∀f∈fs,∃n t,f=Value.int n t
 | _,_,.nil,_=>⟨[],trivial,rfl,λ_ z=>by cases z⟩
 | _,_,.cons (a:=v) (b:=ns) r p,hn=>by
  let⟨fs,h1,h2,h3⟩:=wx p λm hm=>hn m (zC _ hm);let⟨a,o,its,n,rfl,e1,e2,e3,e4⟩:=r.ex;cases hits:its.toList with
  | nil =>
   rw[hits] at e4;cases e4;exact absurd rfl (hn [] zE)
  | cons f rest =>
   rw[hits] at e4;cases e4 with
   | cons m t e5 =>
    have h0:its[0]?=some (.int m t):=by
     have:its.toList[0]?=some (Value.int m t):=by rw[hits];rfl
     simpa using this
    exact⟨.int m t::fs,W.KatTups.cons e1 e2 e3 h0 h1,by simp[h2],λg hg=>by
     rcases List.mem_cons.mp hg with q|q
     ·exact⟨m,t,q⟩
     ·exact h3 g q⟩
def kn:∀ {l:List α}{m:List β}{i:Nat},Paired R l m->i < l.length->R (l.getD i d) (m.getD i d')
 | _,_,i,.nil,h=>by simp at h
 | _,_,0,.cons r _,_=>r
 | _,_,i+1,.cons _ p,h=>by simpa using kn (i:=i) (d:=d) (d':=d') p (by simpa using h)
def vy(hl:Srt.Coll s.heap l vs)(hp:Paired (sP s.heap) vs nss)(hn:∀ns∈nss,ns≠[])(h64:vs.length < 64)
  (h:∀ (h':Heap) (D:Addr) (c:Nat),(∀b o,s.heap.get? b=some o->h'.get? b=some o)->s.heap.objs.size<=D->h'.get? D=some (seqObj "list" (Srt.outV (λi=>rk nss (nss.getD i [])) vs).toArray c)->Q (.ref D) { s with heap:=h' }) :
  wpAny (model prog w) A (call (.builtin "sorted") [.ref l]) Q E s:=by
 refine Srt.sortedG hl h64 (λi=>rk nss (nss.getD i [])) (tuples' true) (λh2 h' kp Q' q=>?_) (λh2 h' kp i j C hi hj q=>?_) h
 ·have hp':Paired (sP h') vs nss:=Paired.mapP hp λ_ _ r=>r.keep kp;let⟨fs,t,hlen,hf⟩:=wx hp' hn;refine W.kat_kind (s:={ s with heap:=h' }) (T:=.type "int") t (by lia) (λv hv=>?_) (by decide) q;let⟨n,t,rfl⟩:=hf v hv;exact W.Looks.of_pure rfl
 ·have ri:=(kn (d:=Value.none) (d':=[]) hp hi).keep kp;have rj:=(kn (d:=Value.none) (d':=[]) hp hj).keep kp;have hlen:=hp.length;let⟨a,o,its,n,ea,e1,e2,e3,e4⟩:=ri.ex;let⟨b,o',its',n',eb,f1,f2,f3,f4⟩:=rj.ex;unfold W.kas_ask;rw[ea,eb];have hmem:nss.getD i []∈nss:=by
   rw[zG,zK (by lia)];exact qA _
  have q':C (lexLt (nss.getD i []) (nss.getD j [])) { s with heap:=h' }:=by
   rw[J7 hmem];exact q
  refine W.kat_lt (s:={ s with heap:=h' }) e1 e3 f1 f3 ?_;have:=vd (prog:=prog) (w:=w) (A:=A.in1.in1) (s:={ s with heap:=h' }) 0 e4 f4 q';have l1:its.size=(nss.getD i []).length:=by have:=IntsAre.length e4;simpa using this
  have l2:its'.size=(nss.getD j []).length:=by have:=IntsAre.length f4;simpa using this
  rw[l1,l2];exact this
def CP(z:Nat->Int)(l:List α)(d:α):List α:=if l.length < 2 then l else (SP.run (SP.eE z) (W.kas_sort l.length)).toList.map λi=>l.getD i d
def iW(l:List α)(d:α):(List.range l.length).map (λi=>l.getD i d)=l:=by
 apply jG
 ·simp
 ·intro i h1 h2;simp[h2]
def ux(z:Nat->Int)(l:List α)(d:α):(CP z l d).Perm l:=by
 unfold CP;split
 ·exact List.Perm.refl _
 ·rename_i h;have:=((SP.jh (z:=z) (n:=l.length) (by lia)).1).map λi=>l.getD i d;rw[iW] at this;exact this
def HH(nss:List (List Int)):CP (λi=>rk nss (nss.getD i [])) nss []=pP nss:=by
 refine E2 (ux _ _ _) ?_;unfold CP;split
 ·rename_i h
  match nss,h with
  | [],_=>exact List.Pairwise.nil
  | [a],_=>exact List.pairwise_singleton _ _
 ·rename_i h;let⟨hp,hs⟩:=SP.jh (z:=λi=>rk nss (nss.getD i [])) (n:=nss.length) (by lia);rw[jD] at hs ⊢;refine hs.imp_of_mem λ{i j} hi hj hij=>?_;have hj':j < nss.length:=by have:=hp.mem_iff.mp hj;simpa using this
  unfold lexLe;rw[J7 (l:=nss) (a:=nss.getD j []) (by rw[zG,zK hj'];exact qA _)];simp?[yO,xA];lia
def FG{K:W.Frag}(z:Nat->Int)(r:ax K HF ds vs):ax K HF (CP z ds .none) (CP z vs .non):=by
 unfold CP;rw[r.length];split
 ·exact r
 ·rename_i h;let⟨hp,_⟩:=SP.jh (z:=z) (n:=ds.length) (by lia);have key:∀l:List Nat,(∀i∈l,i < ds.length)->ax K HF (l.map λi=>ds.getD i .none) (l.map λi=>vs.getD i .non):=λl=>by
   induction l with
   | nil=>exactλ_=>ax.nil
   | cons i l ih =>
    intro hl;have hi:=hl i zE;let⟨v,e1,e2⟩:=r.getD (zK hi);refine ax.cons ?_ (ih λj hj=>hl j (zC _ hj));dsimp only;rw[zG,zG,e1,zK hi];exact e2
  exact key _ λi hi=>by have:=hp.mem_iff.mp hi;simpa using this
def Di(z:Nat->Int)(r:aM vs us):aM (CP z vs .non) (Srt.outV z us):=by
 unfold CP Srt.outV;rw[r.length];split
 ·exact r
 ·rename_i h;let⟨hp,_⟩:=SP.jh (z:=z) (n:=us.length) (by lia);have key:∀l:List Nat,(∀i∈l,i < vs.length)->aM (l.map λi=>vs.getD i .non) (l.map λi=>us.getD i Value.none):=λl=>by
   induction l with
   | nil=>exactλ_=>.nil
   | cons i l ih =>
    intro hl;have hi:=hl i zE;let⟨v,e1,e2⟩:=r.get (zK hi);refine .cons ?_ (ih λj hj=>hl j (zC _ hj));dsimp only;rw[zG,zG,e1,zK hi];exact e2
  exact key _ λi hi=>by have:=hp.mem_iff.mp hi;rw[r.length];simpa using this
def Ih(z:Nat->Int)(nss:List (List Int)):CP z (nss.map ak) .none=(CP z nss []).map ak:=by
 unfold CP;rw[zD];split
 ·rfl
 ·rename_i h;rw[zM];let⟨hp,_⟩:=SP.jh (z:=z) (n:=nss.length) (by lia);refine yH λi hi=>?_;have hi':i < nss.length:=by have:=hp.mem_iff.mp hi;simpa using this
  simp[hi']
def ug(I:Inv X pins σ H s)(sm:aR HF H):∀ {nss:List (List Int)}{vs:List V}{us:List Value},ax X.K HF (nss.map ak) vs->aM vs us->Paired (sP s.heap) us nss
 | [],_,_,h,r=>by rw[h.nil_inv] at r;cases r;exact .nil
 | ns::nss,_,_,h,r=>by
  let⟨v,vr,rfl,a,b⟩:=h.cons_inv;cases r with
  | cons r rr =>
   refine .cons ?_ (ug I sm b rr);unfold ak at a;simp?[Rep] at a;let⟨p,ws,rfl,hs,rw'⟩:=a;cases r;let⟨its,rv,⟨o,ho,hc,n,hd⟩,_⟩:=I.tuple (aI sm hs);have:ws=ns.map V.int:=by
    have key:∀ {ns:List Int}{ws:List V},ax X.K HF (ns.map PyData.int) ws->ws=ns.map V.int:=λ{ns}=>by
     induction ns with
     | nil=>exactλh=>h.nil_inv
     | cons n ns ih =>
      intro ws h;let⟨v,r,rfl,a,b⟩:=h.cons_inv;simp?[Rep] at a;rw[a,ih b];rfl
    exact key rw'
   subst this;exact⟨p,o,its.toArray,n,rfl,ho,hc,hd,intsAre_of rv⟩
def l5:du X (.builtin "sorted") (λxs H Q=>∃ (HF:Hp) (a:Addr) (vs:List V) (nss:List (List Int)),xs=[.ref a]/\aR HF H/\(fS X.K HF a vs\/gT X.K HF a vs)/\ax X.K HF (nss.map ak) vs/\(∀ns∈nss,ns≠[])/\nss.length < 64 /\
  ∀ (Dn:Addr) (us:List V),H Dn=none->ax X.K HF ((pP nss).map ak) us->Q (.ref Dn) (upd H Dn (.lst us))):=by
 intro pins s σ H xs us Q I r h;let⟨HF,a,vs,nss,rfl,sm,hq,rr,hn,h64,q⟩:=h;let⟨u,rfl,rx⟩:=vals1 r;cases rx;obtain⟨its,rv,pl,hz⟩:∃its:List Value,aM vs its/\Srt.Coll s.heap a its/\vs.length<=sizeLine:=by
  rcases hq with hq|hq
  ·let⟨its,rv,pl,hz⟩:=I.list (sm.seq hq);let⟨o,ho,hc,n,hd⟩:=pl.isList;exact⟨its,rv,⟨o,"list",n,.inl rfl,ho,hc,hd⟩,hz⟩
  ·let⟨its,rv,pl,hz⟩:=I.tuple (aI sm hq);let⟨o,ho,hc,n,hd⟩:=(show s.heap.IsTuple a its.toArray from pl)
   exact⟨its,rv,⟨o,"tuple",n,.inr rfl,ho,hc,hd⟩,hz⟩
 have hl1:=rr.length;rw[zD] at hl1;refine vy pl (ug I sm rr rv) hn (by have:=rv.length;lia) λh' Dn c kp hD e=>?_;have hv:=Di (λi=>rk nss (nss.getD i [])) rv;have hr:=FG (λi=>rk nss (nss.getD i [])) rr;rw[Ih,HH] at hr;refine⟨.ref Dn,_,I.laid (t':=s.toks) (o:=.lst (CP (λi=>rk nss (nss.getD i [])) vs .non)) kp hD ⟨?_,_,c,hv,e⟩,rfl,q Dn _ (I.hok.fresh hD) hr⟩;rw[(ux _ _ _).length_eq];exact hz
def fR:List D->Option (List D):=λds=>(oneOf ds).bind λd=>match d with
 | .list es=>(rowsOf es).bind λnss=>if nss.length < 64 then some ((pP nss).map ak) else none
 | .tuple es=>(rowsOf es).bind λnss=>if nss.length < 64 then some ((pP nss).map ak) else none
 | _=>none
def CS(B:nj X "sorted" (.builtin "sorted"))(ha:DA X [e] fs)(he:starEach [e] X.env=(false,eval e X.env)::starEach [] X.env:=by rfl):DF X (.Call (.Name "sorted" p) [e] [] pos) (jx fR fs) :=
 F1 l5 (by
  intro HF H ds vs d Q sm r hg q;let⟨x,hx,hg⟩:=bs hg;rw[fO hx] at r;have key:∀ (b:Bool) (es:List D),ax X.K HF [if b then .tuple es else .list es] vs->((rowsOf es).bind λnss=>if nss.length < 64 then some ((pP nss).map ak) else none)=some d->(∃ (HF:Hp) (a:Addr) (us:List V) (nss:List (List Int)),vs=[.ref a]/\aR HF H/\(fS X.K HF a us\/gT X.K HF a us)/\ax X.K HF (nss.map ak) us/\(∀ns∈nss,ns≠[])/\nss.length < 64/\∀ (Dn:Addr) (ws:List V),H Dn=none->ax X.K HF ((pP nss).map ak) ws->Q (.ref Dn) (upd H Dn (.lst ws))):=λb es r hg=>by
   let⟨nss,hb,hg⟩:=bs hg;split at hg
   ·rename_i h64;cases hg;let⟨v,r',rfl,a,e0⟩:=r.cons_inv;rw[e0.nil_inv];let⟨e1,e2⟩:=nu hb;obtain⟨p,us,rfl,h,rr⟩:∃p us,v=.ref p/\(fS X.K HF p us\/gT X.K HF p us)/\ax X.K HF es us:=by
     cases b
     ·simp?[yN,qP,Rep] at a;let⟨p,us,rfl,h,rr⟩:=a;exact⟨p,us,rfl,.inl h,rr⟩
     ·simp?[xG,Rep] at a;let⟨p,us,rfl,h,rr⟩:=a;exact⟨p,us,rfl,.inr h,rr⟩
    rw[e1] at rr;exact⟨HF,p,us,nss,rfl,sm,h,rr,e2,h64,λDn ws hD hr=>q Dn ws _ HF (.own sm hD) hD (sm.free hD) aP hr⟩
   ·cases hg
  cases x<;>try cases hg
  ·exact key false _ r hg
  ·exact key true _ r hg) B ha (by decide) (by decide) he rfl
end Dl
namespace En
open PySem PyProof.Rows
open AutoSeq1 (wpAny_loadPart')
def nextT_item(hj:s.heap.IsTupleIter j t k)(ht:s.heap.IsTuple t its)(hv:its[k]?=some v)
  (hQ:∀g,g.IsTupleIter j t (k+1)->Heap.SameBut j s.heap g->Q v { s with heap:=g }):wpAny (model prog w) A (Builtin.SmallTypes.nextOf (.ref j)) Q E s:=by
 let⟨oj,gj,cj,dj⟩:=id hj;let⟨ot,gt,_,nt,dt⟩:=ht;unfold Builtin.SmallTypes.nextOf;refine zU (qC (name:=Str.ofString "__next__") hj.typeIs jQ (qU jQ hj.typeIs F.entry_tuple_iterator_next ?_ (F.args_tuple_iterator_next_1 _)));refine zU (m:=field (.ref j) 0) (qT gj dj (x:=.ref t) rfl ?_);show wpAny _ _ (if (Value.ref t == Value.none)=true then _ else _) _ _ s;rw[yM (show ¬ ((Value.ref t == Value.none)=true) by exact yY)];refine zU (m:=field (.ref j) 1) (qT gj dj (x:=.int k 0) rfl ?_);refine zU (m:=seqItems? (.ref t)) (kA gt dt ?_);simp?[yF,hv];refine zU (wpAny_setField gj dj (by simp) (zV ⟨v,rfl,zV (hQ _ ⟨_,Heap.get?_update_self _ gj (Obj.isFreed_of_fields (Obj.data_mapFields dj _)),(Obj.cls_mapFields ..).trans cj,?_⟩ (Heap.SameBut.update ..))⟩));rw[Obj.data_mapFields dj];simp[rawInt]
def nextT_end{Q:Value->Shared->Prop}(hh:A.handled=none)(hj:s.heap.IsTupleIter j t k)(ht:s.heap.IsTuple t its)(hv:its[k]?=none)
  (hE:∀g x,Heap.ExtBut j s.heap g->(∃o,g.get? x=some o/\o.cls=.type "StopIteration")->E (.ref x) { s with heap:=g }):wpAny (model prog w) A (Builtin.SmallTypes.nextOf (.ref j)) Q E s:=by
 let⟨oj,gj,cj,dj⟩:=id hj;let⟨ot,gt,_,nt,dt⟩:=ht;unfold Builtin.SmallTypes.nextOf;refine zU (qC (name:=Str.ofString "__next__") hj.typeIs jQ (qU jQ hj.typeIs F.entry_tuple_iterator_next ?_ (F.args_tuple_iterator_next_1 _)));refine zU (m:=field (.ref j) 0) (qT gj dj (x:=.ref t) rfl ?_);show wpAny _ _ (if (Value.ref t == Value.none)=true then _ else _) _ _ s;rw[yM (show ¬ ((Value.ref t == Value.none)=true) by exact yY)];refine zU (m:=field (.ref j) 1) (qT gj dj (x:=.int k 0) rfl ?_);refine zU (m:=seqItems? (.ref t)) (kA gt dt ?_);simp?[yF,hv];refine zU (wpAny_rule (zU (wpAny_setField gj dj (by simp) (zU (m:=newExc (.type "StopIteration") []) ?_))));simp?[newExc,newTuple];refine zU (qL (zU (m:=firstArgMember _ _) (wpAny_of_eq (a:=Value.none) (by first|rfl|(simp?[firstArgMember];rfl)) ?_)) (by size_fits));refine qL ?_ (by size_fits);simp?[raiseNew];refine zU (wpAny_handled ?_)
 first|rw[show A.in1.handled=none from hh]|rw[hh]
 exact zU (zV (wpAny_throw (hE _ _ (((Heap.SameBut.update ..).extBut.push _).push _) ⟨_,zW _ rfl,rfl⟩)))
def meets_enumT(t:Addr)(its:Array Value)(n:Nat)(dd:Option Addr)(sl:Array (Option Value)) :
  Meets (Builtin.«enumerate.__new__» ⟨[.type "enumerate",.ref t],[]⟩) (λ_ R s=>s.heap.get? t=some { cls:=.type "tuple",dict:=dd,data:=.seq its n,slots:=sl } /\
   R (.ok (.ret (.ref (s.heap.push { cls:=.type "tuple_iterator",data:=.fields #[.ref t,.int 0 0] }).objs.size)))
    { s with heap:=(s.heap.push { cls:=.type "tuple_iterator",data:=.fields #[.ref t,.int 0 0] }).push { cls:=.type "enumerate",data:=.fields #[.none,.bool false,.ref s.heap.objs.size,rawInt 0,.none,.none] } }) :=
 .of_wp λprog w A R s h=>by
  let⟨hp,g,d,tk,os⟩:=s;let⟨hl,h⟩:=h;have hsub:=sub_enumerate;have hL:Heap.IsTuple (Shared.heap ⟨hp,g,d,tk,os⟩) t its:=⟨_,hl,rfl,n,rfl⟩
  wp_walk using wpAny_loadPart' hl
  refine wpAny_stack_any λst=>zV ?_;split
  ·rename_i c _ _ _ _ _;cases (c == Value.type "enumerate")
   ·wp_walk using wpAny_loadPart' hl,xR hL
    exact⟨_,rfl,h⟩
   ·wp_walk using wpAny_loadPart' hl,xR hL
    exact⟨_,rfl,h⟩
  ·wp_walk using wpAny_loadPart' hl,xR hL
   exact⟨_,rfl,h⟩
def call_enumT(ht:s.heap.IsTuple t its)
  (h:∀h',IsEnum h' (s.heap.objs.size+1) s.heap.objs.size 0 .none->h'.IsTupleIter s.heap.objs.size t 0->h'.objs.size=s.heap.objs.size+2->(∀b o,s.heap.get? b=some o->h'.get? b=some o)->Q (.ref (s.heap.objs.size+1)) { s with heap:=h' }) :
  wpAny (model prog w) A (call (.type "enumerate") [.ref t]) Q E s:=by
 let⟨⟨c,dct,dt,sl⟩,hl,hc,n,hd⟩:=ht;simp only at hc hd;subst hc hd;refine callType_new F.called_enumerate (by decide) (F.typeCall_enumerate_1 _) (F.newCall_enumerate_1 _) (λobj=>F.args_object_init_2 obj _) F.entry_enumerate_new (meets_enumT t its n dct sl) ⟨hl,?_⟩;have hz:(s.heap.push { cls:=.type "tuple_iterator",data:=.fields #[.ref t,.int 0 0] }).objs.size=s.heap.objs.size+1:=by rw[xI]
 have he:=zW (s.heap.push { cls:=.type "tuple_iterator",data:=.fields #[.ref t,.int 0 0] }) (o:={ cls:=.type "enumerate",data:=.fields #[.none,.bool false,.ref s.heap.objs.size,rawInt 0,.none,.none] }) rfl;show _/\_;rw[hz] at he ⊢;refine⟨⟨_,he,rfl⟩,h _ he ⟨_,zT _ (zW _ rfl),rfl,rfl⟩ ?_ λb o x=>zT _ (zT _ x)⟩;show (Heap.push _ _).objs.size=_;rw[xI,hz]
end En
namespace Dl
open PySem L2 PySem.Spec PyProof.Rows
section
variable {ch:List Addr}
def vj(I:Inv X pins σ H s)(hch:∀b∈ch,fN X pins H b)(k:∀b o,b∉ch->s.heap.get? b=some o->h'.get? b=some o){T:Addr}{vals:List Value}{xs:List V}(hT:s.heap.objs.size<=T)(ht:n5 h' T vals.toArray)
  (rv:aM xs vals) (hz:xs.length<=sizeLine):Inv X pins σ (upd H T (.tup xs)) { s with heap:=h',toks:=t' }:=by
 have nT:H T=none:=I.hok.fresh hT;have ne:∀b o,s.heap.get? b=some o->b≠T:=λb o e=>yQ (zP (zX e) hT);have ne2:∀b o,H b=some o->b≠T:=λb o e=>aV e nT;have nch:∀b o,H b=some o->b∉ch:=λb o e z=>by rw[(hch b z).1] at e;cases e
 refine I.step (g':=s.gens) (d':=s.drawn) (ch:=ch) (λb hb=>?_) (λb o _ _ hc e _=>k b o hc e) (λb o _ _ hc e _=>⟨o.slots,k b o hc e⟩) (λb o _ e n=>by rw[aK (ne b o e)];exact n)
  (λb o hc e=>⟨o,k b o hc e⟩) (λb ys e=>by rw[aK (ne2 b _ e)];exact e) (λb o u e=>by rw[aK (ne2 b _ e)];exact e) (.kept (λb u ⟨q,z⟩ e=>k b u (nch b _ z) e) λb u e _=>by rw[aK (ne2 b _ e)];exact e) (λm hm=>?_) (λb u e=>?_) I.bare
 ·let⟨f0,f1,f2,f3,f4,f5⟩:=hch b hb;exact⟨f3,f1,f4,f5⟩
 ·let⟨o,es,ep,ho,r⟩:=hm;exact⟨o,es,ep,k _ o (λz=>(hch _ z).2.1 rfl) ho,r⟩
 ·by_cases hb:b=T
  ·subst hb;rw[aP] at e;cases e;exact⟨hz,vals,rv,ht⟩
  ·rw[aK hb] at e;refine (I.hok b u e).stay (λc v hc q=>k c v ?_ q) (λ_ q=>?_) λc v q _=>?_
   ·rcases hc with z|z
    ·rw[z];exact nch b u e
    ·exact nch c _ z
   all_goals first
    | (rw[aK (ne2 _ _ q)];exact q)
    | exact q
def Oq(I:Inv X pins σ H s)(hf:fN X pins H b)(h:X.K.lookup a=some o):a≠b:=by
 rintro rfl;have hb:=I.ok.mod.kin a o h;rcases hf.2.2.2.1 with z|z
 ·exact I.ok.noex a o hb z
 ·exact absurd (zP (zX (I.ok.bs a o hb).1) z) (qE _)
def LG(I:Inv X pins σ H s)(hf:fN X pins H b)(h:fS X.K H a xs):a≠b:=by
 rcases h with (h|⟨o,h⟩)|⟨o,its,n,h,_⟩
 ·exact aV h hf.1
 ·exact aV h hf.1
 ·exact Oq I hf h
def KH(I:Inv X pins σ H s)(hf:fN X pins H b)(h:gT X.K H a xs):a≠b:=by
 rcases h with (h|⟨o,h⟩)|⟨o,its,n,h,_⟩
 ·exact aV h hf.1
 ·exact aV h hf.1
 ·exact Oq I hf h
end
def PL(sq:Hp->List V->Prop):It:=⟨λi H=>∃xs x,sq H xs/\xs[i]?=some x,λi H v H'=>∃T y,v=.ref T/\H T=none/\H'=upd H T (.tup [.int (i:Nat),y])/\∀xs,sq H xs->xs[i]?=some y,λi H=>∃xs,sq H xs/\xs.length<=i⟩
def bT(k:Nat):List D->List D
 | []=>[]
 | d::ds=>.tuple [.int (k:Nat),d]::bT (k+1) ds
def r8:∀ {ds:List D}{k i:Nat}{d:D},(bT k ds)[i]?=some d->∃x,ds[i]?=some x/\d=.tuple [.int ((k+i:Nat):Int),x]
 | [],k,i,d,h=>by simp[bT] at h
 | x::ds,k,0,d,h=>by simp[bT] at h;exact⟨x,rfl,h.symm⟩
 | x::ds,k,i+1,d,h=>by
  simp?[bT,yX] at h;let⟨y,h1,h2⟩:=r8 h;refine⟨y,by simpa using h1,?_⟩;rw[h2,show k+1+i=k+(i+1) by lia]
def i8:∀ (ds:List D) (k:Nat),(bT k ds).length=ds.length
 | [],k=>rfl
 | x::ds,k=>by simp[bT,i8 ds (k+1)]
def BI{K:W.Frag}(h:sq HF vs)(mo:∀H H',aR H H'->sq H vs->sq H' vs)(r:ax K HF ds vs):qu K (PL sq) HF (bT 0 ds) where
 go:=λi d H₁ HF₁ e s1 s2=>by
  let⟨x,hx,rfl⟩:=r8 e;rw[jC];let⟨v,hv,rv⟩:=r.getD hx;have q:=mo _ _ s2 (mo _ _ s1 h);refine⟨⟨vs,v,q,hv⟩,λy H₂ ⟨T,z,e1,hT,e2,hy⟩=>?_⟩;have:=hy vs q;rw[hv] at this;cases this;subst e1 e2;exact⟨_,.new s2 hT,dU (s2.free hT) (ax.cons (by simp[Rep]) (ax.cons (rv.mono s1) ax.nil))⟩
 stop:=λH₁ HF₁ s1 s2=>⟨vs,mo _ _ s2 (mo _ _ s1 h),by rw[i8,r.length];exact yL _⟩
def Pp(sq1 sq2:Hp->List V->Prop):It:=⟨λi H=>∃xs ys x y,sq1 H xs/\sq2 H ys/\xs[i]?=some x/\ys[i]?=some y,
 λi H v H'=>∃T x y,v=.ref T/\H T=none/\H'=upd H T (.tup [x,y])/\(∀xs,sq1 H xs->xs[i]?=some x)/\∀ys,sq2 H ys->ys[i]?=some y,
 λi H=>∃xs ys,sq1 H xs/\sq2 H ys/\(xs.length<=i\/ys.length<=i)⟩
section
variable {ch:List Addr}
def BR(I:Inv X pins σ H s)(hch:∀b∈ch,fN X pins H b)(k:∀b o,b∉ch->s.heap.get? b=some o->h'.get? b=some o):Inv X pins σ H { s with heap:=h',toks:=t' }:=by
 have nch:∀b o,H b=some o->b∉ch:=λb o e z=>by rw[(hch b z).1] at e;cases e
 refine I.step (g':=s.gens) (d':=s.drawn) (ch:=ch) (λb hb=>?_) (λb o _ _ hc e _=>k b o hc e) (λb o _ _ hc e _=>⟨o.slots,k b o hc e⟩) (λb o _ e n=>n)
  (λb o hc e=>⟨o,k b o hc e⟩) (λb ys e=>e) (λb o u e=>e) (.kept (λb u ⟨q,z⟩ e=>k b u (nch b _ z) e) λb u e _=>e) (λm hm=>?_) (λb u e=>?_) I.bare
 ·let⟨f0,f1,f2,f3,f4,f5⟩:=hch b hb;exact⟨f3,f1,f4,f5⟩
 ·let⟨o,es,ep,ho,r⟩:=hm;exact⟨o,es,ep,k _ o (λz=>(hch _ z).2.1 rfl) ho,r⟩
 ·refine (I.hok b u e).stay (λc v hc q=>k c v ?_ q) (λ_ q=>q) λc v q _=>q;rcases hc with z|z
  ·rw[z];exact nch b u e
  ·exact nch c _ z
end
structure QS(z TI TO i1 i2:Addr):Prop where
 a1:TI≠z
 a2:TO≠z
 a3:i1≠z
 a4:i2≠z
 a5:TI≠TO
 a6:TI≠i1
 a7:TI≠i2
 a8:TO≠i1
 a9:TO≠i2
 a0:i1≠i2
def gK:List D->List D->List D
 | x::xs,y::ys=>.tuple [x,y]::gK xs ys
 | _,_=>[]
def oD:∀ {xs ys:List D}{i:Nat}{d:D},(gK xs ys)[i]?=some d->∃x y,xs[i]?=some x/\ys[i]?=some y/\d=.tuple [x,y]
 | [],_,i,d,h=>by simp[gK] at h
 | _::_,[],i,d,h=>by simp[gK] at h
 | x::xs,y::ys,0,d,h=>by simp[gK] at h;exact⟨x,y,rfl,rfl,h.symm⟩
 | x::xs,y::ys,i+1,d,h=>by
  simp?[gK,yX] at h;let⟨a,b,h1,h2,h3⟩:=oD h;exact⟨a,b,by simpa using h1,by simpa using h2,h3⟩
def lQ:∀ (xs ys:List D),(gK xs ys).length=min xs.length ys.length
 | [],_=>by simp[gK]
 | _::_,[]=>by simp[gK]
 | x::xs,y::ys=>by simp[gK,lQ xs ys]
def DV{K:W.Frag}(h1:sq1 HF vs)(mo1:∀H H',aR H H'->sq1 H vs->sq1 H' vs)(h2:sq2 HF us)(mo2:∀H H',aR H H'->sq2 H us->sq2 H' us)(r1:ax K HF xs vs)(r2:ax K HF ys us) :
  qu K (Pp sq1 sq2) HF (gK xs ys) where
 go:=λi d H₁ HF₁ e s1 s2=>by
  let⟨x,y,hx,hy,rfl⟩:=oD e;let⟨v,hv,rv⟩:=r1.getD hx;let⟨u,hu,ru⟩:=r2.getD hy;have q1:=mo1 _ _ s2 (mo1 _ _ s1 h1);have q2:=mo2 _ _ s2 (mo2 _ _ s1 h2);refine⟨⟨vs,us,v,u,q1,q2,hv,hu⟩,λw H₂ ⟨T,a,b,e1,hT,e2,ha,hb⟩=>?_⟩;have ea:=ha vs q1;have eb:=hb us q2;rw[hv] at ea;rw[hu] at eb;cases ea;cases eb;subst e1 e2;exact⟨_,.new s2 hT,dU (s2.free hT) (ax.cons (rv.mono s1) (ax.cons (ru.mono s1) ax.nil))⟩
 stop:=λH₁ HF₁ s1 s2=>⟨vs,us,mo1 _ _ s2 (mo1 _ _ s1 h1),mo2 _ _ s2 (mo2 _ _ s1 h2),by rw[lQ,r1.length,r2.length];lia⟩
def cut(xs:List α)(lo hi:Option Int):List α:=(xs.drop (HT.bO xs.length 0 lo)).take (HT.bO xs.length xs.length hi - HT.bO xs.length 0 lo)
def nI(xs:List α)(lo hi:Option Int):(cut xs lo hi).length<=xs.length:=by
 unfold cut;rw[jV,qH];lia
def oG{K:W.Frag}(r:ax K H ds vs)(lo hi:Option Int):ax K H (cut ds lo hi) (cut vs lo hi):=by
 unfold cut;rw[r.length];exact (r.drop _).take _
section
def Bz{vl:Value}{lo:Option Int}(ht:IsTup s.heap t its)(hs:s.heap.IsSliceOf sl vl vu .none)(pl:IsPart vl lo)(pu:IsPart vu hi)
  (hw:HT.bO its.size 0 lo=0/\HT.bO its.size its.size hi=its.size) (h:Q (.ref t) s):wpAny (model prog w) A (getItem (.ref t) (.ref sl)) Q E s:=by
 let⟨os,hos,hcs,hds⟩:=id hs;have hTs:s.TypeIs (.ref sl) "slice":=⟨os,hos,hcs⟩
 unfold getItem
 try with_reducible refine xX ?_
 first|refine zU (zV ?_)|skip
 refine zU (wpAny_sequenceKey ht.typeIs (by decide) (zU (qC (name:=Str.ofString "__getitem__") ht.typeIs jE (qU jE ht.typeIs entry_tuple_getitem ?_ (args_tuple_getitem _ _)))));refine zU (m:=Builtin.Tuple.tupleItemsOf (.ref t)) (tupleItemsOf_ ht (zU (vY hTs ?_)));rw[yK (by decide)];refine zU (HT.gQ hs pl pu ?_);show wpAny _ _ (if (((HT.bO its.size 0 lo:Nat):Int) == 0&&(1:Int) == 1&&(HT.bO its.size its.size hi - HT.bO its.size 0 lo) == its.size)=true then _ else _) _ _ s;rw[hw.1,hw.2,yK (by simp)];unfold Builtin.Tuple.tupleIsExact;refine zU (zU (vY ht.typeIs (zV ?_)));rw[yK (by decide)]
 first
  | exact zU (wpAny_rule (zV ⟨_,rfl,zV h⟩))
  | exact zU (wpAny_rule (zU (zV (zV ⟨_,rfl,zV h⟩))))
def Pv(K:W.Frag):V->Option Int->Option Int->Hp->VK->Prop:=λx lo hi H Q=>∃a xs,x=.ref a/\gT K H a xs/\(cut xs lo hi=xs->Q (.ref a) H)/\∀p,H p=none->Q (.ref p) (upd H p (.tup (cut xs lo hi)))
def MM:Ib X (Pv X.K):=by
 intro pins s σ H x v vl vu lo hi sl Q I rx hs pl pu h;let⟨a,xs,rfl,hx,q1,q2⟩:=h;by_cases hw:HT.bO xs.length 0 lo=0/\HT.bO xs.length xs.length hi=xs.length
 ·cases rx;let⟨its,r,ht,hz⟩:=I.tuple hx;have hlen:its.toArray.size=xs.length:=by rw[zH];exact r.length.symm
  refine⟨"tuple",_,PyProof.Rows.slot_tuple_getitem.lookup,ht.typeIs,Bz ht hs pl pu (by rw[hlen];exact hw) ⟨.ref a,H,I,rfl,q1 ?_⟩⟩;unfold cut;rw[hw.1,hw.2,List.drop_zero,Nat.sub_zero,List.take_length]
 ·exact Lq pins s σ H (.ref a) v vl vu lo hi sl Q I rx hs pl pu ⟨a,xs,rfl,hx,hw,q2⟩
def Pt(K:W.Frag):V->Option Int->Option Int->Hp->VK->Prop:=λx lo hi H Q=>∃a xs,x=.ref a/\fS K H a xs/\∀p,H p=none->Q (.ref p) (upd H p (.lst (cut xs lo hi)))
def xl(lo hi:Option Int)(n:Nat):sliceBounds lo hi none n=(((HT.bO n 0 lo:Nat):Int),((HT.bO n n hi:Nat):Int),1):=by
 have h1:(1:Int) > 0:=by lia
 refine Prod.ext ?_ (Prod.ext ?_ rfl)
 ·cases lo with
  | none=>simp[sliceBounds,HT.bO]
  | some x =>
   by_cases h:x < 0
   ·simp?[sliceBounds,HT.bO,kG,h1,xG,yK h];lia
   ·simp?[sliceBounds,HT.bO,kG,h1,xG,yM h];lia
 ·cases hi with
  | none=>simp[sliceBounds,HT.bO]
  | some x =>
   by_cases h:x < 0
   ·simp?[sliceBounds,HT.bO,kG,h1,xG,yK h];lia
   ·simp?[sliceBounds,HT.bO,kG,h1,xG,yM h];lia
def G8:Ib X (Pt X.K):=by
 intro pins s σ H x v vl vu lo hi sl Q I rx hs pl pu h;let⟨a,xs,rfl,hx,q⟩:=h;cases rx;let⟨its,r,p,hz⟩:=I.list hx;have hlen:=r.length;refine⟨"list",_,slot_list_getitem.lookup,p.isList.typeIs,wpAny_getItem_list_slice p.isList hs pl pu .none (by simp) ?_ (by rw[zH];lia)⟩;rw[W.kmk_pick_nat its.toArray (xl lo hi its.toArray.size)];have e:((its.toArray.toList.drop (HT.bO its.toArray.size 0 lo)).take (HT.bO its.toArray.size its.toArray.size hi - HT.bO its.toArray.size 0 lo))=cut its lo hi:=by unfold cut;simp
 rw[e];have rc:aM (cut xs lo hi) (cut its lo hi):=by unfold cut;rw[hlen];exact (r.drop _).take _
 exact⟨.ref s.heap.objs.size,_,I.lnew (t':=s.toks) rc (yC (nI xs lo hi) hz),rfl,q _ I.fresh⟩
def Q1(K:W.Frag)(f:Env->Option (Option Int)):TO:=λσ H Q=>∃HF ρ o,aR HF H/\cS K HF ρ σ/\f ρ=some o/\∀H' HF',bU HF H HF' H'->Q o H'
def DO(X:Cx)(e:Option Expr)(f:Env->Option (Option Int)):Prop:=PO X e (Q1 X.K f)
def gL:Env->Option (Option Int):=λ_=>some none
def gI:D->Option Int|.int i=>some i|_=>none
def pZ(f:Env->Option D):Env->Option (Option Int):=λρ=>(f ρ).bind λd=>(gI d).map some
def Im:DO X none gL:=λpins s σ H Q I ⟨HF,ρ,o,sm,eo,hf,q⟩=>HW pins s σ H Q I (by cases hf;exact q H HF (.refl sm))
def GZ(h:DE X e f):DO X (some e) (pZ f):=λpins s σ H Q I ⟨HF,ρ,o,sm,eo,hf,q⟩=>IB h pins s σ H Q I (by
 let⟨d,hd,hf⟩:=bs hf;let⟨i,hi,rfl⟩:=ag hf;cases d<;>try cases hi
 exact⟨HF,ρ,_,sm,eo,hd,λv H1 HF1 g1 r1=>⟨_,by simpa only[Rep] using r1,q H1 HF1 g1⟩⟩)
variable {lo hi:Option Expr}{fl fh:Env->Option (Option Int)}
def eI(g:D->Option Int->Option Int->Option β)(fa:Env->Option D)(fl fh:Env->Option (Option Int)):Env->Option β:=λρ=>(fa ρ).bind λx=>(fl ρ).bind λl=>(fh ρ).bind λh=>g x l h
end
def f1(g:D->Option D)(f:Env->Option D):Env->Option D:=λρ=>(f ρ).bind g
end Dl
namespace HT
open PySem PyProof.Rows
section
open PySem.SeqAt
open PySem.AutoSeq1 (wpAny_loadPart')
open PySem.MeetsSeq PySem.MeetsSeq2 PySem.MeetsSeq3
end
end HT
namespace Dl
open PySem L2 PySem.Spec PyProof.Rows
def jo:D->Option (List Int)|.tuple ds=>intsOf ds|_=>none
def gZ(h:jo x=some ns):x=.tuple (ns.map PyData.int):=by
 cases x<;>try cases h
 rename_i xs;have h:intsOf xs=some ns:=h;rw[dA h]
def AO(I:Inv X pins σ H s)(sm:aR HF H)(r:Rep X.K HF (.tuple (ns.map PyData.int)) v)(rv:RelV v u):∃a its,u=.ref a/\IsTup s.heap a its/\IntsAre its.toList ns:=by
 have p:sP s.heap u ns:=by
  cases ug (X:=X) (us:=[u]) (vs:=[v]) (nss:=[ns]) I sm (ax.cons r ax.nil) (.cons rv .nil) with
  | cons p _=>exact p
 let⟨a,o,its,n,rfl,e1,e2,e3,e4⟩:=p.ex;exact⟨a,its,rfl,⟨o,e1,e2,n,e3⟩,e4⟩
def M9:D->D->Option Bool:=λx y=>(jo x).bind λns=>(jo y).map λms=>lexLt ns ms
def zr(hu:X.A.units < cLine):eU X (compareOp .Lt) (Kh X.K M9):=by
 intro pins s σ H v1 v2 u1 u2 Q I rx ry h;let⟨HF,x,y,k,sm,r1,r2,hg,q⟩:=h;let⟨ns,h1,hg⟩:=bs hg;let⟨ms,h2,rfl⟩:=ag hg;rw[gZ h1] at r1;rw[gZ h2] at r2;let⟨a,its,rfl,t1,i1⟩:=AO I sm r1 rx;let⟨b,its2,rfl,t2,i2⟩:=AO I sm r2 ry;exact HT.za t1 t2 i1 i2 hu ⟨.bl _,H,I,rfl,q⟩
end Dl
namespace En
open PySem PyProof.Rows
open AutoSeq1 (wpAny_loadPart')
def noFill_tup:fillsNumberSlot (.type "tuple") "mul"=pure false:=PySem.fillsNumberSlot_seq (id:="tuple.__mul__") (r:=some (.builtin "tuple.__rmul__")) F.slot_tuple_mul.lookup (by decide +kernel) F.slot_tuple_rmul.lookup (by decide +kernel)
def repeat_tup:seqRepeat? (.type "tuple")=pure (some (.builtin "tuple.__mul__")):=by
 unfold seqRepeat?;rw[PySem.seqSlot_of (T:="tuple") (name:="__mul__") (id:="tuple.__mul__") F.slot_tuple_mul.lookup (by decide +kernel),PySem.seqSlot_of (T:="tuple") (name:="__rmul__") (id:="tuple.__rmul__") F.slot_tuple_rmul.lookup (by decide +kernel)];rfl
def rmul_tup(a:Int)(t:Tok)(l:Addr)(its:Array Value)(n:Nat)(dd:Option Addr)(sl:Array (Option Value)) :
  Meets (Builtin.«int.__rmul__» ⟨[.int a t,.ref l],[]⟩) (λ_ R s=>s.heap.get? l=some { cls:=.type "tuple",dict:=dd,data:=.seq its n,slots:=sl }/\R (.ok (.ret Value.notImplemented)) s) :=
 .of_wp λprog w A R s h=>by
  let⟨hp,g,d,tk,os⟩:=s;let⟨hl,h⟩:=h
  wp_walk
  exact⟨_,rfl,h⟩
def mulT_same(l:Addr)(its:Array Value)(n:Nat)(dd:Option Addr)(sl:Array (Option Value))(k:Int)(t:Tok)(h1:¬ (decide (k < -(2 ^ 63))||decide (k >= 2 ^ 63))=true)(h2:(its.isEmpty||k == 1)=true) :
  Meets (Builtin.«tuple.__mul__» ⟨[.ref l,.int k t],[]⟩) (λ_ R s=>s.heap.get? l=some { cls:=.type "tuple",dict:=dd,data:=.seq its n,slots:=sl }/\R (.ok (.ret (.ref l))) s) :=
 .of_wp λprog w A R s h=>by
  let⟨hp,g,d,tk,os⟩:=s;let⟨hl,h⟩:=h;have f1:=AutoSeq1.idx_int
  wp_walk using wpAny_loadPart' hl
  rw[yM h1]
  wp_walk using wpAny_loadPart' hl
  exact⟨_,rfl,h⟩
def mulT_none(l:Addr)(its:Array Value)(n:Nat)(dd:Option Addr)(sl:Array (Option Value))(k:Int)(t:Tok)(h1:¬ (decide (k < -(2 ^ 63))||decide (k >= 2 ^ 63))=true)(h2:¬ (its.isEmpty||k == 1)=true)(h3:(decide (k<=0)||its.isEmpty)=true) :
  Meets (Builtin.«tuple.__mul__» ⟨[.ref l,.int k t],[]⟩) (λ_ R s=>s.heap.get? l=some { cls:=.type "tuple",dict:=dd,data:=.seq its n,slots:=sl }/\R (.ok (.ret (.ref s.heap.objs.size))) { s with heap:=s.heap.push { cls:=.type "tuple",data:=.seq #[] } }) :=
 .of_wp λprog w A R s h=>by
  let⟨hp,g,d,tk,os⟩:=s;let⟨hl,h⟩:=h;have f1:=AutoSeq1.idx_int
  wp_walk using wpAny_loadPart' hl
  rw[yM h1]
  wp_walk using wpAny_loadPart' hl
  exact⟨_,rfl,h⟩
def mulT_many(l:Addr)(its:Array Value)(n:Nat)(dd:Option Addr)(sl:Array (Option Value))(k:Int)(t:Tok)(h1:¬ (decide (k < -(2 ^ 63))||decide (k >= 2 ^ 63))=true)(h2:¬ (its.isEmpty||k == 1)=true)(h3:¬ (decide (k<=0)||its.isEmpty)=true)
  (h4:¬ ((its.size:Nat):Int) * k > (2 ^ 63 - 1) / 8) (h5:¬ Builtin.Tuple.tupleTooMany (((its.size:Nat):Int) * k)=true) (hz:((List.replicate k.toNat its).foldl (·++·) #[]).size<=sizeLine) :
  Meets (Builtin.«tuple.__mul__» ⟨[.ref l,.int k t],[]⟩) (λ_ R s=>s.heap.get? l=some { cls:=.type "tuple",dict:=dd,data:=.seq its n,slots:=sl }/\R (.ok (.ret (.ref s.heap.objs.size))) { s with heap:=s.heap.push { cls:=.type "tuple",data:=.seq ((List.replicate k.toNat its).foldl (·++·) #[]) } }) :=
 .of_wp λprog w A R s h=>by
  let⟨hp,g,d,tk,os⟩:=s;let⟨hl,h⟩:=h;have f1:=AutoSeq1.idx_int
  wp_walk using wpAny_loadPart' hl
  rw[yM h1]
  wp_walk using wpAny_loadPart' hl
  rw[yM h4]
  wp_walk using wpAny_loadPart' hl
  exact⟨_,rfl,h⟩
end En
namespace Dl
open PySem L2 PySem.Spec PyProof.Rows
def Kn(K:W.Frag):R2:=λx y H Q=>∃a k xs,x=.ref a/\y=.int k/\gT K H a xs/\-(2 ^ 62)<=k/\k < 2 ^ 62/\xs.length * k.toNat<=sizeLine/\((List.replicate k.toNat xs).flatten=xs->Q (.ref a) H) /\
 ∀p,H p=none->Q (.ref p) (upd H p (.tup (List.replicate k.toNat xs).flatten))
def JH:eU X (binaryOp .Mult) (Kn X.K):=by
 intro pins s σ H x y v u Q I rx ry h;let⟨a,k,xs,rfl,rfl,hq,k1,k2,hz,q1,q2⟩:=h;cases rx;let⟨t,rfl⟩:=ry;let⟨its,r,pl,hzx⟩:=I.tuple hq;have hl:=r.length;let⟨⟨cls,dd,data,sl⟩,ho,hc,n,hd⟩:=id pl;simp only at hc hd;subst hc hd;have b1:¬ (decide (k < -(2 ^ 63))||decide (k >= 2 ^ 63))=true:=by
  simp?[jA,zJ];lia
 refine wpAny_binaryOp_repeat_ref (T:="tuple") (U:="int") (by decide) ⟨_,ho,rfl⟩ (λs'=>vT s' k t) En.noFill_tup F.fills_int_mul vJ En.repeat_tup F.slot_int_index.lookup
  (qV vJ (vT s k t) F.entry_int_rmul (F.args_int_rmul_2 _ _) (En.rmul_tup k t a its.toArray n dd sl) ⟨ho,rfl,⟨_,ho,rfl⟩,?_⟩)
 have hfl:∀m:Nat,List.foldl (λx1 x2=>x1++x2) #[] (List.replicate m its.toArray)=(List.replicate m its).flatten.toArray:=λm=>by
  have:=foldl_rep its m [];rw[xO] at this;exact this
 by_cases h2:(its.toArray.isEmpty||k == 1)=true
 ·refine qV F.slot_tuple_mul ⟨_,ho,rfl⟩ wG (vV _ _) (En.mulT_same a its.toArray n dd sl k t b1 h2) ⟨ho,⟨.ref a,H,I,rfl,q1 ?_⟩⟩;rw[jA] at h2;rcases h2 with h2|h2
  ·have:xs=[]:=by
    have e:its=[]:=by simpa using h2
    rw[e] at hl;exact List.length_eq_zero_iff.mp hl
   rw[this];simp
  ·have:k=1:=eq_of_beq h2;subst this;simp
 ·by_cases h3:(decide (k<=0)||its.toArray.isEmpty)=true
  ·refine qV F.slot_tuple_mul ⟨_,ho,rfl⟩ wG (vV _ _) (En.mulT_none a its.toArray n dd sl k t b1 h2 h3) ⟨ho,?_⟩;have hk0:k.toNat=0:=by
    simp?[jA,zJ] at h3 h2;rcases h3 with h3|h3
    ·lia
    ·exact absurd (.inl h3) h2
   have q3:=q2 s.heap.objs.size I.fresh;rw[hk0] at q3;exact⟨.ref s.heap.objs.size,_,I.laid (t':=s.toks) (o:=.tup []) (λb ob q=>zT _ q) (yL _) ⟨xV _,[],.nil,n5.new _ _⟩,rfl,q3⟩
  ·have hm:its.length * k.toNat<=sizeLine:=by rw[<- hl];exact hz
   have hkn:(k.toNat:Int)=k:=by
    simp?[jA,zJ,not_or] at h3;lia
   have hmi:((its.toArray.size:Nat):Int) * k=((its.length * k.toNat:Nat):Int):=by rw[zH,Int.natCast_mul,hkn]
   have hv:=L2.aM.rep r k.toNat;have hlen2:(List.replicate k.toNat xs).flatten.length<=sizeLine:=by rw[len_rep,Nat.mul_comm];exact hz
   have hs8:(sizeLine:Nat)<=(2 ^ 63 - 1) / 8:=by decide
   have h4:¬ ((its.toArray.size:Nat):Int) * k > (2 ^ 63 - 1) / 8:=by rw[hmi];lia
   have h5:¬ Builtin.Tuple.tupleTooMany (((its.toArray.size:Nat):Int) * k)=true:=by
    unfold Builtin.Tuple.tupleTooMany;rw[hmi];simp?[zJ];lia
   refine qV F.slot_tuple_mul ⟨_,ho,rfl⟩ wG (vV _ _) (En.mulT_many a its.toArray n dd sl k t b1 h2 h3 h4 h5 (by rw[hfl,zH,<- hv.length];exact hlen2)) ⟨ho,?_⟩;rw[hfl];exact⟨.ref s.heap.objs.size,_,I.laid (t':=s.toks) (o:=.tup (List.replicate k.toNat xs).flatten) (λb ob q=>zT _ q) (yL _) ⟨hlen2,_,hv,n5.new _ _⟩,rfl,q2 _ I.fresh⟩
def oZ:D->D->Option D
 | .tuple ds,.int k=>if uv k=true/\ds.length * k.toNat<=sizeLine then some (.tuple (List.replicate k.toNat ds).flatten) else none
 | _,_=>none
def lM{K:W.Frag}(r:ax K HF ds vs):∀k:Nat,ax K HF (List.replicate k ds).flatten (List.replicate k vs).flatten
 | 0=>ax.nil
 | k+1=>by rw[xD,xD,qM,qM];exact r.append (lM r k)
def Er{K:W.Frag}:eB K (Kn K) oZ:=by
 intro HF H x y v1 v2 d Q sm r1 r2 hg q;cases x<;>cases y<;>simp?[oZ] at hg<;>try cases hg
 split at hg
 ·rename_i xs k hh;cases hg;simp?[Rep] at r1 r2;let⟨a,vs,rfl,ha,ra⟩:=r1;have ok:=hh.1;unfold uv at ok;rw[zF] at ok;refine⟨a,k,vs,rfl,r2,aI sm ha,yP ok.1,yP ok.2,by rw[ra.length];exact hh.2,λe=>q _ H HF (.refl sm) ?_,λp hp=>q _ _ _ (.new sm hp) (dU (sm.free hp) (lM ra _))⟩;simp?[Rep];refine⟨a,vs,rfl,ha,?_⟩;have:=lM ra k.toNat;rw[e] at this;exact this
 ·cases hg
end Dl
namespace En
open PySem PyProof.Rows
def call_setT(hh:A.handled=none)(hl:s.heap.IsTuple l its)(hi:IntsAre its.toList ns)(hb:its.size+1 < scanBound)
  (h:∀ (h':Heap) (tk:Nat),h'.SetOf (intKind prog w) s.heap.objs.size (λk'=>(firstMet (λi=>ns.getD i 0) its.size).any (· == k')) (firstMet (λi=>ns.getD i 0) its.size).length->(∀b o,b < s.heap.objs.size->s.heap.get? b=some o->h'.get? b=some o)->Q (.ref s.heap.objs.size) { s with heap:=h',toks:=tk }) :
  wpAny (model prog w) A (call (.type "set") [.ref l]) Q E s:=by
 let⟨c,tl,hmro⟩:=F.called_set.mro;have hmade:=F.called_set.made;have hsub:=F.called_set.sub;refine kZ (codeAny_of_tree ?_);show wpAny _ _ (callAny (.type "set") _) _ _ _;refine zV ⟨vW _ (by decide +kernel),jZ F.entry_type_call ?_⟩;rw[Around.under_plain (weight_type_call_type "set" [.ref l] []) rfl];have h1:=F.called_set.notType;have h2:=F.called_set.canCreate;have hct:=F.typeCall_set_1 (.ref l)
 repeat (any_goals (first|assumption|wp_step))
 refine jR (code_set_new_1 (.ref l) (E:=E) (Q₁:=λobj s1=>∃led:Bool,obj=.ref s.heap.objs.size/\s1={ s with heap:=s.heap.push { cls:=.type "set",dict:=none,data:=.set #[] 0 (.fresh 0 0 led) } }) λled=>⟨led,rfl,rfl⟩) λr s1 hr=>?_;cases r with
 | error e=>exact hr
 | ok fl =>
  cases fl with
  | ret obj =>
   let⟨led,rfl,rfl⟩:=hr;have hS:(s.heap.push { cls:=.type "set",dict:=none,data:=.set #[] 0 (.fresh 0 0 led) }).get? s.heap.objs.size=some { cls:=.type "set",dict:=none,data:=.set #[] 0 (.fresh 0 0 led) }:=by exact zW _ rfl
   have hT:Shared.TypeIs { s with heap:=s.heap.push { cls:=.type "set",dict:=none,data:=.set #[] 0 (.fresh 0 0 led) } } (.ref s.heap.objs.size) "set":=⟨_,hS,rfl⟩
   have hli:=F.called_set.init.lookup;have hbi:=F.called_set.init.bind (.ref s.heap.objs.size)
   repeat (any_goals (first|assumption|wp_step))
   refine jR (vO (R:=wants (λr s2=>r=.none/\∃h' tk,s2={ s with heap:=h',toks:=tk }/\h'.SetOf (intKind prog w) s.heap.objs.size (λk'=>(firstMet (λi=>ns.getD i 0) its.size).any (· == k')) (firstMet (λi=>ns.getD i 0) its.size).length /\
     (∀b o,b < s.heap.objs.size->s.heap.get? b=some o->h'.get? b=some o)) E) F.called_set.init.plain F.entry_set_init (check_set_init_1 hT ?_)) λr2 s2 hr2=>?_
   ·let⟨ol,hol,hcl,nl,hdl⟩:=hl;let⟨ocls,odict,odata,oslots⟩:=ol;simp only at hcl hdl;subst hcl hdl;have hol':(s.heap.push { cls:=.type "set",dict:=none,data:=.set #[] 0 (.fresh 0 0 led) }).get? l=some { cls:=.type "tuple",dict:=odict,data:=.seq its nl,slots:=oslots }:=zT _ hol;have hsls:=F.sub_tuple_set;have hslf:=F.sub_tuple_frozenset;have hne:(Value.type "tuple" == Value.type "dict")=false:=by decide
    have hl1:(s.heap.push { cls:=.type "set",dict:=none,data:=.set #[] 0 (.fresh 0 0 led) }).IsTuple l its:=⟨_,hol',rfl,nl,rfl⟩
    unfold Builtin.«set.__init__» noKeywords Builtin.Frozenset.updateFrom;generalize hPI:pyIter=PI
    wp_walk
    subst hPI;refine xR hl1 (zU (wpAny_runValue ?_));have hlS:l < s.heap.objs.size:=zX hol;have hh3:A.in1.in1.in1.handled=none:=by simp[hh]
    have hneI:l≠(s.heap.push { cls:=.type "set",dict:=none,data:=.set #[] 0 (.fresh 0 0 led) }).objs.size:=by rw[xI];exact yQ (jN hlS)
    have hSf:s.heap.objs.size∉[(s.heap.push { cls:=.type "set",dict:=none,data:=.set #[] 0 (.fresh 0 0 led) }).objs.size,l]:=by
     rw[xI];simp?[zQ,yE,xU,not_or];exact⟨yQ (kH _),jH hlS⟩
    have hval:∀ (i:Nat) (v:Value),its[i]?=some v->∃t,v=.int ((λi=>ns.getD i 0) i) t:=λi v hv=>IntsAre.int_at hi i v (by rw[Array.getElem?_toList];exact hv);refine codeAny_set_update_loopS ((Walks.tuple hh3 _ l hneI its).toS) s.heap.objs.size hSf (λi=>ns.getD i 0) hval hb (its.size - 0) 0 _ (by lia) (xV _) ⟨⟨_,zW _ rfl,rfl,rfl⟩,?ht⟩ ?hS0 ?hR
    case ht=>exact⟨_,zT _ hol',rfl,nl,rfl⟩
    case hS0 =>
     have hget:((s.heap.push { cls:=.type "set",dict:=none,data:=.set #[] 0 (.fresh 0 0 led) }).push { cls:=.type "tuple_iterator",data:=.fields #[.ref l,.int 0 0] }).get? s.heap.objs.size=some { cls:=.type "set",dict:=none,data:=.set #[] 0 (.fresh 0 0 led) }:=by exact zT _ hS
     exact SetOf_congr ((setObjOf_fresh (knd:=intKind prog w) led).setOf hget (by unfold scanBound;lia)) (λ_=>rfl) rfl
    case hR =>
     intro s' hm hS';let⟨h',g',d',tk',os'⟩:=s';have eg:g'=s.gens:=hm.gens;have ed:d'=s.drawn:=hm.drawn;have eo:os'=s.os:=hm.os;subst eg ed eo;show wpAny _ _ _ _ _ _;refine zV ?_;show wpAny _ _ (ret Value.none) _ _ _;refine zV ⟨rfl,h',tk',rfl,hS',λb o hb' e=>?_⟩;refine hm.heap b o ?_ (zT _ (zT _ e));simp?[zQ,yE,xU,not_or];exact⟨yQ hb',by rw[xI];exact yQ (jN hb')⟩
   ·cases r2 with
    | error e=>exact hr2
    | ok fl2 =>
     cases fl2 with
     | ret r =>
      let⟨rfl,h',tk,rfl,hS',hk'⟩:=hr2
      repeat (any_goals (first|assumption|wp_step))
      exact h _ _ hS' hk'
     | _=>exact hr2.elim
  | _=>exact hr.elim
end En
namespace Dl
open PySem L2 PySem.Spec PyProof.Rows
variable {env:PySem.Env}
def many(ns:List Int):Nat:=(firstMet (λi=>ns.getD i 0) ns.length).length
def Cz(hc:X.calm=true):du X (.type "set") (λxs H Q=>∃ (a:Addr) (ns:List Int),xs=[.ref a]/\gT X.K H a (ns.map V.int)/\ns.length+1 < scanBound/\∀q S,H q=none->Q (.ref q) (upd H q (.set S (many ns)))):=by
 intro pins s σ H xs us Q I r h;let⟨a,ns,rfl,hq,hb,q⟩:=h;let⟨u,rfl,rx⟩:=vals1 r;cases rx;let⟨its,rv,pl,hz⟩:=I.tuple hq;have hi:IntsAre its.toArray.toList ns:=intsAre_of rv;have hlen:its.toArray.size=ns.length:=by have:=rv.length;simpa using this.symm
 refine En.call_setT (I.ok.hd hc) (show s.heap.IsTuple a its.toArray from pl) hi (by rw[hlen];exact hb) λh' tk hS hk=>?_;rw[hlen] at hS;exact⟨.ref s.heap.objs.size,_,I.laid (t':=tk) (λb o e=>hk b o (zX e) e) (yL _) (show ej X.prog X.w _ h' _ (.set _ (many ns)) from hS),rfl,q _ _ I.fresh⟩
def Cv:du X (.builtin "len") (λxs H Q=>∃ (a:Addr) (S:Int->Bool) (n:Nat),xs=[.ref a]/\H a=some (.set S n)/\Q (.int n) H):=by
 intro pins s σ H xs us Q I r h;let⟨a,S,n,rfl,hq,q⟩:=h;let⟨u,rfl,rx⟩:=vals1 r;cases rx;let⟨o,es,ep,t,ho,hex,hd,hel,hmem,hlt,hf,hn⟩:=(show s.heap.SetOf (intKind X.prog X.w) a S n from I.hok a _ hq)
 have hfit:((es.size:Nat):Int) < 2 ^ 63:=by unfold scanBound at hlt;lia
 refine call_len_set ho hex hd hf hfit ⟨.int n,H,I.tok _,⟨s.toks+1,by rw[hn]⟩,q⟩
def jj:D->Option D:=λd=>(jo d).bind λns=>if ns.length+1 < scanBound then some (.int (many ns)) else none
def CA(hc:X.calm=true)(B:nj X "len" (.builtin "len"))(C:nj X "set" (.type "set"))(h:DE X e f)(he:starEach [e] X.env=(false,eval e X.env)::starEach [] X.env:=by rfl) :
  DE X (.Call (.Name "len" p) [.Call (.Name "set" p') [e] [] pos'] [] pos) (f1 jj f) :=
 aN (lT Cv B.gl B.mg B.bt (bJ (jm (Cz hc) C.gl C.mg C.bt (bJ h cO he) (by decide) (by decide) he rfl) cO) (by decide) (by decide) rfl rfl) λσ H Q ⟨HF,ρ,d,sm,eo,hf,q⟩=>by
  let⟨x,hx,hf⟩:=bs hf;let⟨ns,h1,hf⟩:=bs hf;split at hf
  ·rename_i hb;cases hf;refine⟨HF,ρ,x,sm,eo,hx,λv1 H1 HF1 g1 r1=>?_⟩;rw[gZ h1] at r1;simp?[Rep] at r1;let⟨a,vs,rfl,hs,rr⟩:=r1;have key:∀ {ns:List Int}{ws:List V},ax X.K HF1 (ns.map PyData.int) ws->ws=ns.map V.int:=λ{ns}=>by
    induction ns with
    | nil=>exactλh=>h.nil_inv
    | cons n ns ih =>
     intro ws h;let⟨v,r,rfl,a,b⟩:=h.cons_inv;simp?[Rep] at a;rw[a,ih b];rfl
   have:=key rr;subst this;refine⟨a,ns,rfl,aI g1.fh hs,hb,λb S hb'=>⟨b,S,_,rfl,aP,q _ _ HF1 (g1.trans (.own g1.fh hb')) (by simp[Rep])⟩⟩
  ·cases hf
def iZ(val:Nat->Int):∀i,(firstMet val i).length=i↔((List.range i).map val).Nodup
 | 0=>by simp[firstMet]
 | i+1=>by
  have hle:=firstMet_length_le val i;rw[firstMet_succ,step_length,List.range_succ,qZ,List.nodup_append];have ha:=firstMet_any val i (val i);have ih:=iZ val i;constructor
  ·intro h;by_cases hin:(firstMet val i).any (· == val i)=true
   ·rw[yK hin] at h;lia
   ·rw[yM hin] at h;refine⟨ih.mp (by lia),by simp,λa hm b hb z=>?_⟩;have hb':b=val i:=by simpa using hb
    subst z hb';rw[ha] at hin;exact hin (List.any_eq_true.mpr ⟨_,hm,by simp⟩)
  ·rintro⟨h1,_,h3⟩;rw[yM ?_]
   ·rw[ih.mpr h1]
   ·rw[ha];intro hin;let⟨x,hx,he⟩:=List.any_eq_true.mp hin;have he':x=val i:=by simpa using he
    exact h3 x hx (val i) (by simp) he'
def zy(ns:List Int):many ns=ns.length↔ns.Nodup:=by
 unfold many;rw[iZ];have:(List.range ns.length).map (λi=>ns.getD i 0)=ns:=iW ns 0;rw[this]
def lY{K:W.Frag}(h:eB K r g)(h':eB K r' g'):eB K (λx y H Q=>r x y H Q\/r' x y H Q) (λx y=>(g x y).or (g' x y)):=by
 intro HF H x y v1 v2 d Q sm r1 r2 hg q;cases e:g x y with
 | some d' =>
  have hg:(g x y).or (g' x y)=some d:=hg;rw[e] at hg;cases hg;exact .inl (h HF H x y v1 v2 d Q sm r1 r2 e q)
 | none =>
  have hg:(g x y).or (g' x y)=some d:=hg;rw[e] at hg;exact .inr (h' HF H x y v1 v2 d Q sm r1 r2 hg q)
def BY{K:W.Frag}:eB K (Eh K) (λx y=>(nq x y).map PyData.list):=by
 intro HF H x y v1 v2 d Q sm r1 r2 hg q;let⟨zs,hg',rfl⟩:=ag hg;clear hg;cases x<;>cases y<;>simp?[nq] at hg'<;>try cases hg'
 let⟨rfl,hz⟩:=dY hg';simp?[Rep] at r1 r2;let⟨a,vs,rfl,ha,ra⟩:=r1;let⟨b,us,rfl,hb,rb⟩:=r2;refine⟨a,b,vs,us,rfl,rfl,sm.seq ha,sm.seq hb,by rw[ra.length,rb.length,<- zN];exact hz,λp hp=>q _ _ _ (.new sm hp) ?_⟩;simp?[Rep];exact⟨p,_,rfl,.inl (.inl aP),(ra.append rb).mono (dM (sm.free hp))⟩
def az:D->D->Option D:=λx y=>((sf (λ_ _=>True) λi j=>.int (i+j)) x y).or ((Jx x y).or ((nq x y).map PyData.list))
def Bk.add(C:Bk X N sc k)(ha:DE X a fa)(hb:DE X b fb):DE X (.BinOp a .Add b pos) (f2 az fa fb):=rG (LN.or (B8.or wM)) (lY Dm (lY Js BY)) ha hb
def ku:D->D->Option D:=sf (λ_ _=>True) λi j=>.int (i - j)
def Bk.sub(C:Bk X N sc k)(ha:DE X a fa)(hb:DE X b fb):DE X (.BinOp a .Sub b pos) (f2 ku fa fb):=rG KM Dm ha hb
def bS:D->D->Option D:=λx y=>((sf nF λi j=>.int (i * j)) x y).or (oZ x y)
def Bk.mul(C:Bk X N sc k)(ha:DE X a fa)(hb:DE X b fb):DE X (.BinOp a .Mult b pos) (f2 bS fa fb):=rG (KG.or JH) (lY ER Er) ha hb
def j9:D->D->Option D:=sf Hw λi j=>.int (i / j)
def Bk.div(C:Bk X N sc k)(ha:DE X a fa)(hb:DE X b fb):DE X (.BinOp a .FloorDiv b pos) (f2 j9 fa fb):=rG JB ER ha hb
def iL:D->D->Option D:=sf (λ_ j=>0 < j) λi j=>.int (i % j)
def Bk.mod(C:Bk X N sc k)(ha:DE X a fa)(hb:DE X b fb):DE X (.BinOp a .Mod b pos) (f2 iL fa fb):=rG K1 ER ha hb
def JY:D->D->Option D:=λx y=>((sf (λ_ _=>True) λi j=>.bool (decide (i < j))) x y).or ((M9 x y).map PyData.bool)
def Bq:D->D->Option D:=sf (λ_ _=>True) λi j=>.bool (decide (i<=j))
def uu:D->D->Option D:=sf (λ_ _=>True) λi j=>.bool (decide (j < i))
def aW:D->D->Option D:=λx y=>(GH x y).map PyData.bool
def bb:D->D->Option D:=λx y=>(GA x y).map PyData.bool
def uP:D->D->Option D:=λx y=>(OO x y).map PyData.bool
def Bk.u64(C:Bk X N sc k):X.A.units+64 < cLine:=C.room.units
def Bk.u66(C:Bk X N sc k):X.A.units+66 < cLine:=by have:=C.room.un;lia
def Bk.lt(C:Bk X N sc k)(ha:DE X a fa)(hb:DE X b fb):DE X (.Compare a [.Lt] [b] pos) (f2 JY fa fb):=fH (FX.or (zr C.room.units0)) (lY iV dq) ha hb (dN _)
def Bk.le(C:Bk X N sc k)(ha:DE X a fa)(hb:DE X b fb):DE X (.Compare a [.LtE] [b] pos) (f2 Bq fa fb):=fH C9 iV ha hb (dN _)
def Bk.gt(C:Bk X N sc k)(ha:DE X a fa)(hb:DE X b fb):DE X (.Compare a [.Gt] [b] pos) (f2 uu fa fb):=fH J4 iV ha hb (dN _)
def Bk.eq(C:Bk X N sc k)(ha:DE X a fa)(hb:DE X b fb):DE X (.Compare a [.Eq] [b] pos) (f2 aW fa fb):=fH (FC C.u64) dq ha hb (dN _)
def Bk.ne(C:Bk X N sc k)(ha:DE X a fa)(hb:DE X b fb):DE X (.Compare a [.NotEq] [b] pos) (f2 bb fa fb):=fH (Gu C.u64) dq ha hb (dN _)
def Bk.isin(C:Bk X N sc k)(ha:DE X a fa)(hb:DE X b fb)(hm:behindInMarks .In b=false:=by rfl):DE X (.Compare a [.In] [b] pos) (f2 uP fa fb):=fH (EE C.u66) dq ha hb hm
def Bk.tlt(C:Bk X N sc k)(ha:DE X a fa)(hb:DE X b fb):DT X (.Compare a [.Lt] [b] pos) (fB (f2 JY fa fb)):=fg (FX.or (zr C.room.units0)) (lY iV dq) ha hb (dN _)
def Bk.tle(C:Bk X N sc k)(ha:DE X a fa)(hb:DE X b fb):DT X (.Compare a [.LtE] [b] pos) (fB (f2 Bq fa fb)):=fg C9 iV ha hb (dN _)
def Bk.tgt(C:Bk X N sc k)(ha:DE X a fa)(hb:DE X b fb):DT X (.Compare a [.Gt] [b] pos) (fB (f2 uu fa fb)):=fg J4 iV ha hb (dN _)
def Bk.teq(C:Bk X N sc k)(ha:DE X a fa)(hb:DE X b fb):DT X (.Compare a [.Eq] [b] pos) (fB (f2 aW fa fb)):=fg (FC C.u64) dq ha hb (dN _)
def Bk.tne(C:Bk X N sc k)(ha:DE X a fa)(hb:DE X b fb):DT X (.Compare a [.NotEq] [b] pos) (fB (f2 bb fa fb)):=fg (Gu C.u64) dq ha hb (dN _)
def Bk.tin(C:Bk X N sc k)(ha:DE X a fa)(hb:DE X b fb)(hm:behindInMarks .In b=false:=by rfl):DT X (.Compare a [.In] [b] pos) (fB (f2 uP fa fb)):=fg (EE C.u66) dq ha hb hm
def oN:D->Option Int->Option Int->Option D|.tuple ds,lo,hi=>some (.tuple (cut ds lo hi))|.list ds,lo,hi=>some (.list (cut ds lo hi))|_,_,_=>none
def Bk.cut(C:Bk X N sc k){lo:Option Expr}{fl:Env->Option (Option Int)}(ha:DE X a fa)(hl:DO X lo fl)(hh:DO X hi fh):DE X (.Subscript a (.Slice lo hi none p2) pos) (eI oN fa fl fh):=aN (vf (MM.or G8) ha hl hh) λσ H Q ⟨HF,ρ,d,sm,eo,hf,q⟩=>by
 let⟨x,hx,hf⟩:=bs hf;let⟨l,hl,hf⟩:=bs hf;let⟨u,hu,hf⟩:=bs hf;refine⟨HF,ρ,x,sm,eo,hx,λv1 H1 HF1 g1 r1=>⟨HF1,ρ,l,g1.fh,eo.mono g1.ff,hl,λH2 HF2 g2=>⟨HF2,ρ,u,g2.fh,eo.mono (g1.ff.trans g2.ff),hu,λH3 HF3 g3=>?_⟩⟩⟩;have G:=(g1.trans g2).trans g3;have r3:=r1.mono (g2.ff.trans g3.ff);cases x<;>try cases hf
 ·simp?[Rep] at r3;let⟨b,vs,rfl,hs,rr⟩:=r3;refine .inr ⟨b,vs,rfl,G.fh.seq hs,λp hp=>q _ _ _ (G.trans (.new G.fh hp)) ?_⟩;simp?[Rep];exact⟨p,_,rfl,.inl (.inl aP),(oG rr l u).mono (dM (G.fh.free hp))⟩
 ·simp?[Rep] at r3;let⟨b,vs,rfl,hs,rr⟩:=r3;refine .inl ⟨b,vs,rfl,aI G.fh hs,λe=>q _ H3 HF3 G ?_,λp hp=>q _ _ _ (G.trans (.new G.fh hp)) (dU (G.fh.free hp) (oG rr l u))⟩;simp?[Rep];refine⟨b,vs,rfl,hs,?_⟩;have:=oG rr l u;rw[e] at this;exact this
def er:D->Option D|.int i=>some (.int (-i))|_=>none
def Bk.neg(C:Bk X N sc k)(ha:DE X a fa):DE X (.UnaryOp .USub a pos) (f1 er fa):=aN (Oi Lp ha) λσ H Q ⟨HF,ρ,d,sm,eo,hf,q⟩=>by
 let⟨x,hx,hf⟩:=bs hf;refine⟨HF,ρ,x,sm,eo,hx,λv1 H1 HF1 g1 r1=>?_⟩;cases x<;>try cases hf
 exact⟨_,by simpa only[Rep] using r1,q _ H1 HF1 g1 (by simp[Rep])⟩
def zq:bootBuiltins "len"=some (.builtin "len"):=by decide +kernel
def p9:bootBuiltins "isinstance"=some (.builtin "isinstance"):=by decide +kernel
def LA:bootBuiltins "int"=some (.type "int"):=by decide +kernel
def wK:bootBuiltins "tuple"=some (.type "tuple"):=by decide +kernel
def HC:bootBuiltins "list"=some (.type "list"):=by decide +kernel
def F5:bootBuiltins "range"=some (.type "range"):=by decide +kernel
def Mf:bootBuiltins "all"=some (.builtin "all"):=by decide +kernel
def Lh:bootBuiltins "set"=some (.type "set"):=by decide +kernel
def Co:bootBuiltins "sorted"=some (.builtin "sorted"):=by decide +kernel
def um:bootBuiltins "enumerate"=some (.type "enumerate"):=by decide +kernel
def K8:bootBuiltins "zip"=some (.type "zip"):=by decide +kernel
abbrev ba(f:Env->Option (List D)):Env->Option D:=λρ=>(f ρ).map PyData.list
abbrev bx:List D->Option D:=λds=>(cK ds).map PyData.tuple
def Bk.locl(C:Bk X N sc k)(h:decide (sc.names.lookup x=some .local)=true):X.env.scope.names.lookup x=some .local:=by
 rcases C.tb x _ (yP h) with q|⟨q,_⟩
 ·exact q
 ·cases q
def isStar:Expr->Bool|.Starred ..=>true|_=>false
def bA(h:isStar e=false):starEach (e::es) env=(false,eval e env)::starEach es env:=by
 cases e<;>first|rfl|cases h
def LM(he:DE X e f)(hs:DA X es g)(h:isStar e=false:=by rfl):DA X (e::es) (aa f g):=Il he hs (bA h)
def pG:swapsWith (.ListComp elt gens scope pos) (some (.Name x py)) line env=pure (env.blockKind == .function&&env.kindOf x == some .local && py.line == pos.line
     &&!(scope.names.any λ(n,k)=>n == x&&(k == .local || k == .cell))):=rfl
def JR(h:env.scope.kind=.function):env.blockKind=.function:=by unfold PySem.Env.blockKind;rw[h];rfl
def Bk.swap(C:Bk X N sc k)(h:decide (sc.names.lookup x=some .local)=true)(h2:(py.line == pos.line&&!(scope.names.any λ(n,k)=>n == x&&(k == .local || k == .cell)))=true) :
  swapsWith (.ListComp elt gens scope pos) (some (.Name x py)) line X.env=pure true:=by
 rw[pG,JR C.kd,show X.env.kindOf x=some .local from C.locl h];rw[Bool.and_assoc,h2];rfl
def Bk.noswap(C:Bk X N sc k)(h:decide (sc.names.lookup x=some .cell)=true) :
  swapsWith (.ListComp elt gens scope pos) (some (.Name x py)) line X.env=pure false:=by
 have q:X.env.kindOf x=some .cell:=by
  rcases C.tb x _ (yP h) with q|⟨q,_⟩
  ·exact q
  ·cases q
 rw[pG,q,JR C.kd];rfl
section
variable {K:W.Frag}
structure gD(K:W.Frag)(x:Str)(st:Stmt)(ps:List Str):Prop where
 ex:∃ (f:Addr) (fd:FuncData),W.nsIn K mainGlobals x=some (some (.ref f))/\Ek K x x st f fd/\Binds K fd ps []
structure xj(K:W.Frag)(mg:Str->Option Value)(x:Str)(st:Stmt)(ps:List Str):Prop where
 ex:∃ (f:Addr) (fd:FuncData),mg x=some (.ref f)/\Ek K x x st f fd/\Binds K fd ps []
def gD.mg{h:Heap}{mg:Str->Option Value}{st:Stmt}(D:gD K x st ps)(X:K.In h)(G:h.Ns mainGlobals mg):xj K mg x st ps:=by
 let⟨f,fd,a,b,c⟩:=D.ex;exact⟨f,fd,W.mg_of X G a,b,c⟩
def mC(st:Stmt)(ps:List Str):Prop:=∀ (x qual:Str) (kV doc pm:Value) (an:Option Addr) (cdv ct:Value) (us:List Value),us.length=ps.length->bindArgs (W.fnOf x qual (fU st) (bG st) (aj st) .none kV doc pm an cdv ct) ⟨us,[]⟩=pure (ps.zip us)
def N7{st:Stmt}{kV:Value}(hb:mC st ps)(a:W.nsIn K mainGlobals x=some (some (.ref f)))(l:K.lookup f=some ⟨oc,od,.func (W.fnOf x x (fU st) (bG st) (aj st) .none kV doc pm an cdv ct),osl⟩)
  (c:W.codeIn K cdv x=true) (k:W.keepIn K (.ref f)=true):gD K x st ps:=⟨f,_,a,FM (st:=st) l c k,(FM (st:=st) l c k).binds λkV doc pm an cdv ct us h=>hb _ _ kV doc pm an cdv ct us h⟩
structure Qu(K:W.Frag)(x:Str)(st:Stmt)(ps:List Str):Prop where
 ex:∃ (f:Addr) (fd:FuncData) (c P:Addr),W.nsIn K mainGlobals x=some (some (.ref f))/\Ek K x x st f fd/\Binds K fd ps []/\fd.code=.ref c/\W.codeHdIn K c P=true
structure Q7(K:W.Frag)(mg:Str->Option Value)(x:Str)(st:Stmt)(ps:List Str):Prop where
 ex:∃ (f:Addr) (fd:FuncData) (c P:Addr),mg x=some (.ref f)/\Ek K x x st f fd/\Binds K fd ps []/\fd.code=.ref c/\W.codeHdIn K c P=true
def Lk{K:W.Frag}(h:(cR.all λx=>match W.nsIn K mainGlobals x with|some none=>true|_=>false)=true):∀x∈cR,W.nsIn K mainGlobals x=some none:=by
 intro x hx;have:=List.all_eq_true.mp h x hx;split at this
 ·assumption
 ·cases this
def yb{K:W.Frag}{H:Hp}{a:Addr}{ns:List Int}{m:List D->Option D}(hS:fS K H a (ns.map V.int))(hT:dP K H)(h:m [.list (ns.map PyData.int)]=some (.bool true)){X:_}:Ow K 1 m [.ref a] H (λv _=>v=.bl true) X:=by
 refine⟨H,[.list (ns.map PyData.int)],.bool true,.refl _,hT,ax.cons ?_ ax.nil,rfl,h,λv H' HF' G r=>by simpa only[Rep] using r⟩;simp?[Rep];refine⟨a,_,rfl,hS,?_⟩;clear h hS hT
 induction ns with
 | nil=>exact ax.nil
 | cons n ns ih=>exact ax.cons (by simp[Rep]) ih
end
def GO(h:isStar e=false)(he:DE X e f)(hs:DA X es g):DA X (e::es) (aa f g):=LM he hs h
def uI:au->Option Out:=λ_=>none
def Nk{st:Stmt}:DS X HF₀ H₀ st uI:=λpins s σ H E I ⟨HF,ρ,o,S,hg,q⟩=>by cases hg
def iu(f:Env->Option D):au->Option Out:=λρ=>(f (aD ρ)).map λ_=>.nx ρ
def G6(hs:swapsWith e none pos.line X.env=pure false)(h:DE X e f):DS X HF₀ H₀ (.Expr e pos) (iu f):=cJ (lJ h hs) λE σ H ⟨HF,ρ,o,S,hg,q⟩=>by
 let⟨d,h,rfl⟩:=ag hg;exact⟨H,aD ρ,d,.refl _,S.all,h,λv H' HF' G r=>q σ H' HF (S.step G.hh) (.refl _)⟩
def M5(t:Env->Option Bool)(gb:au->Option Out):Nat->au->Option Out
 | 0,_=>none
 | n+1,ρ=>(t (aD ρ)).bind λb=>if b=true then (gb ρ).bind fun|.nx ρ'=>M5 t gb n ρ'|.rt d=>some (.rt d) else some (.nx ρ)
def ES(n:Nat)(hp:PassesOwn (model X.prog X.w) X.A X.env X.xe)(hc:DT X c t)(hb:z6 X HF₀ H₀ body gb):DS X HF₀ H₀ (.While c body [] pos) (M5 t gb n) :=
 cJ (F6 hp hc hb) λE σ H ⟨HF,ρ,o,S,hg,q⟩=>by
  refine⟨λm σ' H'=>∃HF' ρ',ij X.K HF₀ H₀ HF' H' ρ' σ'/\aR HF HF'/\M5 t gb m ρ'=some o,⟨n,HF,ρ,S,.refl _,hg⟩,?_⟩;rintro m σ' H' ⟨HF',ρ',S',s',hf⟩;cases m with
  | zero=>cases hf
  | succ m =>
   unfold M5 at hf;let⟨b,hb,hf⟩:=bs hf;refine⟨H',aD ρ',b,.refl _,S'.all,hb,λH1 HF1 G=>?_⟩;cases b with
   | false =>
    rw[yM yY] at hf ⊢;cases hf;exact q σ' H1 HF' (S'.step G.hh) s'
   | true =>
    rw[yK rfl] at hf ⊢;let⟨o1,h2,hf⟩:=bs hf;refine⟨λσ2 H3=>∃HF3 ρ3,ij X.K HF₀ H₀ HF3 H3 ρ3 σ2/\aR HF HF3/\M5 t gb m ρ3=some o,λσ2 H3 ⟨HF3,ρ3,a1,a2,a3⟩=>⟨m,kH _,HF3,ρ3,a1,a2,a3⟩,HF',ρ',o1,S'.step G.hh,h2,?_⟩;cases o1 with
    | nx ρ2=>exactλσ4 H4 HF4 S4 s4=>⟨HF4,ρ2,S4,s'.trans s4,hf⟩
    | rt d=>cases hf;exact q
def Mi:List D->Option D
 | [.int a,.int b]=>some (.int (min a b))
 | [.int a,.int b,.int c]=>some (.int (min (min a b) c))
 | _=>none
def DM(hc:X.calm=true):du X (.builtin "min") (λxs H Q=>(∃a b:Int,xs=[.int a,.int b]/\Q (.int (min a b)) H)\/(∃a b c:Int,xs=[.int a,.int b,.int c]/\Q (.int (min (min a b) c)) H)):=by
 intro pins s σ H xs us Q I r h;have hh:X.A.handled=none:=I.ok.hd hc;rcases h with ⟨a,b,rfl,q⟩|⟨a,b,c,rfl,q⟩
 ·cases r with
  | cons r1 r =>
   cases r with
   | cons r2 r =>
    cases r;let⟨t,rfl⟩:=r1;let⟨u,rfl⟩:=r2;refine min_two_ints hh λh' tk kp=>⟨.int (min a b),H,I.kept (t':=tk) kp,?_,q⟩
    by_cases h:b < a
    ·rw[yK h,show min a b=b by lia];exact⟨_,rfl⟩
    ·rw[yM h,show min a b=a by lia];exact⟨_,rfl⟩
 ·cases r with
  | cons r1 r =>
   cases r with
   | cons r2 r =>
    cases r with
    | cons r3 r =>
     cases r;let⟨t,rfl⟩:=r1;let⟨u,rfl⟩:=r2;let⟨x,rfl⟩:=r3;refine min_three_ints hh λh' tk kp=>⟨.int (min (min a b) c),H,I.kept (t':=tk) kp,?_,q⟩
     by_cases h:b < a
     ·rw[yK h];by_cases h2:c < b
      ·rw[yK h2,show min (min a b) c=c by lia];exact⟨_,rfl⟩
      ·rw[yM h2,show min (min a b) c=b by lia];exact⟨_,rfl⟩
     ·rw[yM h];by_cases h2:c < a
      ·rw[yK h2,show min (min a b) c=c by lia];exact⟨_,rfl⟩
      ·rw[yM h2,show min (min a b) c=a by lia];exact⟨_,rfl⟩
def uR{K:W.Frag}(r:Rep K H d v):∀ {ds:List D}{vs:List V}(j:Nat),ax K H ds vs->ax K H (ds.set j d) (vs.set j v)
 | [],vs,j,h=>by rw[h.nil_inv];exact ax.nil
 | x::ds,vs,j,h=>by
  let⟨u,us,rfl,a,b⟩:=h.cons_inv;cases j with
  | zero=>exact ax.cons r b
  | succ j=>exact ax.cons a (uR r j b)
def Od(i:Nat)(fz:List Nat)(fk f:Env->Option D):au->Option Out:=λρ=>(oM fz f ρ).bind λp=>(fk (aD p.2)).bind λkd=>match kd with
 | .int k=>qk i (λds=>(HZ ds.length k).map λj=>ds.set j p.1) p.2
 | _=>none
def Gw(i:Nat)(fz:List Nat)(hN:X.N[i]?=some x)(hv:Gz X.env.scope x)(hk:DE X e fk)(h:DE X e2 f)(hd:(x == ("__debug__":Str))=false:=by decide)(hcd:(x == ("__classdict__":Str))=false:=by decide)
  (ha:∀v,assign (.Subscript (.Name x px) e spos) X.env v=(do
   let ov <- holding [v] (eval (.Name x px) X.env)
   let iv <- holding [v,ov] (eval e X.env)
   standAt spos
   holding [v,ov,iv] (setItem ov iv v)
   release [v,ov,iv] []):=by intro _;rfl)
  (hs:swapsWithSole [.Subscript (.Name x px) e spos] e2 pos.line X.env=pure false:=by rfl) (hw:swappedStores [.Subscript (.Name x px) e spos] e2 X.env=pure none:=by rfl)
  (h1:(assignEach [.Subscript (.Name x px) e spos] X.env).map (·.2)=[assign (.Subscript (.Name x px) e spos) X.env]:=by rfl):DS X HF₀ H₀ (.Assign [.Subscript (.Name x px) e spos] e2 pos) (Od i fz fk f) :=
 cJ (LD h (Ky (ki hN hv hd hcd) hk set_list ha) hs hw h1) λE σ H ⟨HF,ρ,o,S,hg,q⟩=>by
  let⟨⟨d,ρ'⟩,h1,hg⟩:=bs hg;let⟨kd,h2,hg⟩:=bs hg;cases kd<;>try cases hg
  rename_i k;let⟨ds,es,h3,h4,rfl⟩:=jf hg;let⟨j,hj,rfl⟩:=ag h4;refine mD S h1 λv H1 HF1 s1 S1 s2 r=>?_;let⟨a,vs,e1,e2,e3,e5,e4⟩:=S1.own i ds h3;refine⟨.ref a,e1,H1,aD ρ',.int k,.refl _,S1.all,h2,λkv H2 HF2 G rk=>?_⟩;simp?[Rep] at rk;have S2:=S1.step G.hh;let⟨a',vs',f1,f2,f3,f5,f4⟩:=S2.own i ds h3;rw[e1] at f1;cases f1;exact⟨a,vs',k,j,rfl,rk,f2,by rw[f4.length];exact hj,q σ _ HF1 (S2.mut h3 e1 f2 (uR r j f4)) s1⟩
def Ou:D->Bool|.none=>true|_=>false
def nJ{K:W.Frag}(r:Rep K HF d v):decide (v=.non)=Ou d:=by
 cases d<;>simp?[Rep] at r<;>first
  | (subst r;rfl)
  | (let⟨a,vs,rfl,_⟩:=r;rfl)
  | exact r.elim
def Ff:D->D->Option D:=λx y=>if Ou y=true then some (.bool (Ou x)) else none
def uA:D->D->Option D:=λx y=>if Ou y=true then some (.bool (!Ou x)) else none
def AK{K:W.Frag}:eB K (λx y H Q=>y=.non/\Q (.bl (decide (x=.non))) H) Ff:=by
 intro HF H x y v1 v2 d Q sm r1 r2 hg q;unfold Ff at hg;split at hg
 ·rename_i h;cases hg;have h2:=nJ r2;rw[h,zJ] at h2;refine⟨h2,?_⟩;rw[nJ r1];exact q _ H HF (.refl sm) (by simp[Rep])
 ·cases hg
def wL{K:W.Frag}:eB K (λx y H Q=>y=.non/\Q (.bl (!decide (x=.non))) H) uA:=by
 intro HF H x y v1 v2 d Q sm r1 r2 hg q;unfold uA at hg;split at hg
 ·rename_i h;cases hg;have h2:=nJ r2;rw[h,zJ] at h2;refine⟨h2,?_⟩;rw[nJ r1];exact q _ H HF (.refl sm) (by simp[Rep])
 ·cases hg
def Bk.is0(C:Bk X N sc k)(ha:DE X a fa)(hb:DE X b fb):DE X (.Compare a [.Is] [b] pos) (f2 Ff fa fb):=fH C6 AK ha hb (dN _)
def Bk.not0(C:Bk X N sc k)(ha:DE X a fa)(hb:DE X b fb):DE X (.Compare a [.IsNot] [b] pos) (f2 uA fa fb):=fH AD wL ha hb (dN _)
def Bk.tis0(C:Bk X N sc k)(ha:DE X a fa)(hb:DE X b fb):DT X (.Compare a [.Is] [b] pos) (fB (f2 Ff fa fb)):=fg C6 AK ha hb (dN _)
def Bk.tnot0(C:Bk X N sc k)(ha:DE X a fa)(hb:DE X b fb):DT X (.Compare a [.IsNot] [b] pos) (fB (f2 uA fa fb)):=fg AD wL ha hb (dN _)
def LV(hc:X.calm=true)(B:nj X "min" (.builtin "min"))(he:starEach (e::es) X.env=(false,eval e X.env)::starEach es X.env)(hpl:(backTo pos (starEach es X.env)).any (·.1)=false)(ha:DA X (e::es) fs):DE X (.Call (.Name "min" p) (e::es) [] pos) (aY Mi fs) :=
 gP (DM hc) (by
  intro HF H ds vs d Q sm r hg q;unfold Mi at hg;split at hg
  ·cases hg;let⟨v1,r1,rfl,a1,b1⟩:=r.cons_inv;let⟨v2,r2,rfl,a2,b2⟩:=b1.cons_inv;rw[b2.nil_inv];simp?[Rep] at a1 a2;exact .inl ⟨_,_,by rw[a1,a2],q _ H HF (.refl sm) (by simp[Rep])⟩
  ·cases hg;let⟨v1,r1,rfl,a1,b1⟩:=r.cons_inv;let⟨v2,r2,rfl,a2,b2⟩:=b1.cons_inv;let⟨v3,r3,rfl,a3,b3⟩:=b2.cons_inv;rw[b3.nil_inv];simp?[Rep] at a1 a2 a3;exact .inr ⟨_,_,_,by rw[a1,a2,a3],q _ H HF (.refl sm) (by simp[Rep])⟩
  ·cases hg) B ha (by decide) (by decide) he hpl
section
variable {fl fs:Env->Option (List D)}
def Bg(ds:List D):D->Option (List D)
 | .int k=>if uv k=true/\ds.length * k.toNat<=sizeLine then some (List.replicate k.toNat ds).flatten else none
 | _=>none
def uV(fl:Env->Option (List D))(fb:Env->Option D):Env->Option (List D):=λρ=>(fl ρ).bind λds=>(fb ρ).bind (Bg ds)
def MN(ha:DF X a fl)(hb:DE X b fb):DF X (.BinOp a .Mult b pos) (uV fl fb):=aN (C3 La ha hb) λσ H Q ⟨HF,ρ,d,sm,eo,hf,q⟩=>by
 let⟨ds,hx,hf⟩:=bs hf;let⟨y,hy,hg⟩:=bs hf;refine⟨HF,ρ,ds,sm,eo,hx,λl vs H1 HF1 g1 h0 hn h1 r1=>⟨HF1,ρ,y,g1.fh,eo.mono g1.ff,hy,λv2 H2 HF2 g2 r2=>?_⟩⟩;cases y<;>try cases hg
 rename_i k;have hg:(if uv k=true/\ds.length * k.toNat<=sizeLine then some (List.replicate k.toNat ds).flatten else none)=some d:=hg;split at hg
 ·rename_i hz;cases hg;simp?[Rep] at r2;have r1:=r1.mono g2.ff;have G:=g1.trans g2;have ok:=hz.1;simp?[uv,zF,zJ] at ok;exact⟨l,k,vs,rfl,r2,g2.hh _ _ h1,by lia,by lia,by rw[r1.length];exact hz.2,λp hp=>q p _ _ HF2 (G.trans (.own G.fh hp)) (G.hh.free hp) (G.fh.free hp) aP (lM r1 _)⟩
 ·cases hg
def yy(hc:X.calm=true):du X (.builtin "any") (λxs H Q=>∃ (a:Addr) (bs:List Bool),xs=[.ref a]/\fS X.K H a (bs.map V.bl)/\Q (.bl (bs.any id)) H):=by
 intro pins s σ H xs us Q I r h;let⟨a,bs,rfl,hq,q⟩:=h;let⟨u,rfl,rx⟩:=vals1 r;cases rx;let⟨its,rv,pl,hz⟩:=I.list hq;have hv:=j7 rv;subst hv;have hh:X.A.in1.handled=none:=I.ok.hd hc;refine call_any_walk (qK pl.isList ?_);let⟨o,ho,hcl,n,hd⟩:=pl.isList;have hne:a≠s.heap.objs.size:=yQ (zX ho);refine⟨_,_,_,_,_,_,λi=>bs.getD i false,rfl,Walks.list hh s.heap.objs.size a hne (bs.map Value.bool).toArray,⟨⟨_,zW _ rfl,rfl,rfl⟩,pl.isList.push _⟩,λi v s' Q' E' hP hQ=>?_,λh' tk kp=>?_⟩
 ·have e:v=Value.bool (bs.getD i false):=by
   have hP:(bs.map Value.bool).toArray[i]?=some v:=hP;rw[vK,zO] at hP;let⟨b,hb,rfl⟩:=ag hP;rw[zG,hb];rfl
  subst e;exact xW hQ
 ·refine⟨.bl (bs.any id),H,?_,?_,q⟩
  ·exact I.kept (t':=tk) λb o' e=>kp b o' (by simp;exact yQ (zX e)) (zT _ e)
  ·show Value.bool _=Value.bool _;have:=range_any bs;simp?[zH,zD];rw[this]
end
def MK(hc:X.calm=true)(B:nj X "any" (.builtin "any"))(he:starEach [e] X.env=(false,eval e X.env)::starEach [] X.env)(ha:DA X [e] fs):DE X (.Call (.Name "any" p) [e] [] pos) (aY (λds=>(oneOf ds).bind λd=>match d with
 | .list es=>(boolsOf es).map λbs=>.bool (bs.any id)
 | _=>none) fs) :=
 gP (yy hc) (by
  intro HF H ds vs d Q sm r hg q;let⟨x,hx,hg⟩:=bs hg;rw[fO hx] at r;cases x<;>try cases hg
  let⟨bs,hb,rfl⟩:=ag hg;let⟨v,r',rfl,a,b⟩:=r.cons_inv;rw[b.nil_inv];simp?[Rep] at a;let⟨p,us,rfl,h,rr⟩:=a;rw[g8 hb] at rr;have:=dW rr;subst this;exact⟨p,bs,rfl,sm.seq h,q _ H HF (.refl sm) (by simp[Rep])⟩) B ha (by decide) (by decide) he rfl
def mV(ns:List Int):∀j:Nat,preSum (λi=>ns.getD i 0) j=(ns.take j).sum
 | 0=>by simp[preSum]
 | j+1=>by
  rw[preSum,mV ns j,List.take_add_one,List.sum_append]
  congr 1
  rw[zG];cases ns[j]?<;>simp
def rA(val:Nat->Int)(B:Int)(h:∀i,-B<=val i/\val i<=B):∀j:Nat,-(B * j)<=preSum val j/\preSum val j<=B * j
 | 0=>by simp[preSum]
 | j+1=>by
  have ih:=rA val B h j;have:=h j;rw[preSum];have e:B * ((j+1:Nat):Int)=B * (j:Int)+B:=by rw[Int.natCast_add,Int.mul_add];simp
  rw[e];lia
def J9(ns:List Int):Bool:=decide (ns.length<=1000)&&ns.all λn=>decide (-1000000<=n)&&decide (n<=1000000)
def KC(h:J9 ns=true):ns.length<=1000/\∀i,-1000000<=ns.getD i 0/\ns.getD i 0<=1000000:=by
 unfold J9 at h;rw[zF,zJ,xF] at h;refine⟨h.1,λi=>?_⟩;rw[zG];cases e:ns[i]? with
 | none=>simp
 | some n =>
  have:=h.2 n (qB e);simpa using this
def nV{ns:List Int}{its:List Value}(r:aM (ns.map V.int) its){i:Nat}(h:its.toArray[i]?=some v):∃t,v=.int (ns.getD i 0) t:=by
 rw[vK] at h
 induction ns generalizing its i with
 | nil=>cases r;simp at h
 | cons n ns ih =>
  cases r with
  | cons r1 rr =>
   cases i with
   | zero =>
    simp?[xQ,yJ] at h;subst h;let⟨t,rfl⟩:=r1;exact⟨t,rfl⟩
   | succ i =>
    simp?[yX] at h;exact ih rr h
def zu(hc:X.calm=true):du X (.builtin "sum") (λxs H Q=>∃ (a:Addr) (ns:List Int),xs=[.ref a]/\(fS X.K H a (ns.map V.int)\/gT X.K H a (ns.map V.int))/\J9 ns=true/\Q (.int ns.sum) H):=by
 intro pins s σ H xs us Q I r h;let⟨a,ns,rfl,hq,hok,q⟩:=h;let⟨u,rfl,rx⟩:=vals1 r;cases rx;have hh:X.A.in1.handled=none:=I.ok.hd hc;let⟨hlen,hbd⟩:=KC hok;have hin:∀n:Nat,n<=1000->∀j,j < n->InLong ((λi=>ns.getD i 0) j)/\InLong (preSum (λi=>ns.getD i 0) (j+1)):=λn hn j hj=>by
  have h1:=hbd j;have h2:=rA (λi=>ns.getD i 0) 1000000 hbd (j+1);refine⟨⟨?_,?_⟩,?_,?_⟩
  ·show -(2 ^ 63)<=ns.getD j 0;lia
  ·show ns.getD j 0 < 2 ^ 63;lia
  ·lia
  ·lia
 have hsum:preSum (λi=>ns.getD i 0) ns.length=ns.sum:=by rw[mV,List.take_length]
 rcases hq with hq|hq
 ·let⟨its,rv,pl,hz⟩:=I.list hq;have hl:its.length=ns.length:=by rw[<- rv.length,zD]
  refine call_sum_walk (qK pl.isList ?_);let⟨o,ho,hcl,n,hd⟩:=pl.isList;have hlt:=zX ho;have hne:a≠s.heap.objs.size:=yQ hlt;refine⟨_,_,_,_,_,_,λi=>ns.getD i 0,rfl,Walks.list hh s.heap.objs.size a hne its.toArray,⟨⟨_,zW _ rfl,rfl,rfl⟩,pl.isList.push _⟩,λb hb=>?_,λi v hP=>nV rv hP,by rw[zH,hl];exact hin _ hlen,λh' tk t' kp=>?_⟩
  ·show b < (s.heap.push _).objs.size;rw[xI];simp?[zQ,yE,xU] at hb;rcases hb with rfl|rfl
   ·exact kH _
   ·exact jN hlt
  ·refine⟨.int ns.sum,H,I.kept (t':=tk) λb o' e=>kp b o' (by simp;exact yQ (zX e)) (zT _ e),⟨t',?_⟩,q⟩;rw[zH,hl,hsum]
 ·let⟨its,rv,pl,hz⟩:=I.tuple hq;have pl:s.heap.IsTuple a its.toArray:=pl;have hl:its.length=ns.length:=by rw[<- rv.length,zD]
  refine call_sum_walk (xR pl ?_);let⟨o,ho,hcl,n,hd⟩:=id pl;have hlt:=zX ho;have hne:a≠s.heap.objs.size:=yQ hlt;refine⟨_,_,_,_,_,_,λi=>ns.getD i 0,rfl,Walks.tuple hh s.heap.objs.size a hne its.toArray,⟨⟨_,zW _ rfl,rfl,rfl⟩,pl.push _⟩,λb hb=>?_,λi v hP=>nV rv hP,by rw[zH,hl];exact hin _ hlen,λh' tk t' kp=>?_⟩
  ·show b < (s.heap.push _).objs.size;rw[xI];simp?[zQ,yE,xU] at hb;rcases hb with rfl|rfl
   ·exact kH _
   ·exact jN hlt
  ·refine⟨.int ns.sum,H,I.kept (t':=tk) λb o' e=>kp b o' (by simp;exact yQ (zX e)) (zT _ e),⟨t',?_⟩,q⟩;rw[zH,hl,hsum]
def pV:List D->Option D:=λds=>(cK ds).bind λes=>(intsOf es).bind λns=>if J9 ns=true then some (.int ns.sum) else none
def js{K:W.Frag}:∀ {ns:List Int}{vs:List V},ax K H (ns.map PyData.int) vs->vs=ns.map V.int
 | [],vs,h=>h.nil_inv
 | b::bs,vs,h=>by
  let⟨v,r,rfl,a,c⟩:=h.cons_inv;simp?[Rep] at a;rw[a,js c];rfl
def LJ(hc:X.calm=true)(B:nj X "sum" (.builtin "sum"))(he:starEach [e] X.env=(false,eval e X.env)::starEach [] X.env)(ha:DA X [e] fs):DE X (.Call (.Name "sum" p) [e] [] pos) (aY pV fs) :=
 gP (zu hc) (by
  intro HF H ds vs d Q sm r hg q;let⟨es,h1,hg⟩:=bs hg;let⟨ns,h2,hg⟩:=bs hg;have hg:(if J9 ns=true then some (PyData.int ns.sum) else none)=some d:=hg;split at hg
  ·rename_i hok;cases hg;have e2:=dA h2;subst e2;rcases fY h1 with rfl|rfl
   all_goals
    let⟨v,r',rfl,a,b⟩:=r.cons_inv;rw[b.nil_inv];simp?[Rep] at a;let⟨p,us,rfl,h,rr⟩:=a;have:=js rr;subst this
   ·exact⟨p,ns,rfl,.inr (aI sm h),hok,q _ H HF (.refl sm) (by simp[Rep])⟩
   ·exact⟨p,ns,rfl,.inl (sm.seq h),hok,q _ H HF (.refl sm) (by simp[Rep])⟩
  ·cases hg) B ha (by decide) (by decide) he rfl
def M6(i:Int):Value->Bool|.int a _=>a == i|_=>false
def BQ:GM X "list.index" (λx vs H Q=>∃ (l:Addr) (ns:List Int) (i:Int) (j:Nat),x=.ref l/\vs=[.int i]/\fS X.K H l (ns.map V.int)/\ns[j]?=some i/\(∀m,m < j->ns[m]?≠some i)/\Q (.int j) H):=by
 intro pins s σ H x vs v us Q I rx rv h;let⟨l,ns,i,j,rfl,rfl,hq,hj,hno,q⟩:=h;cases rx;let⟨u,rfl,ru⟩:=rv.one;let⟨t,rfl⟩:=ru;let⟨its,r,pl,hz⟩:=I.list hq;let⟨⟨cls,dd,data,sl⟩,ho,hc,n,hd⟩:=id pl.isList;simp only at hc hd;subst hc hd;have hl:its.length=ns.length:=by rw[<- r.length,zD]
 have hj1:j < ns.length:=(List.getElem?_eq_some_iff.mp hj).1;have hz':ns.length<=sizeLine:=by rw[zD] at hz;exact hz
 have hs63:(sizeLine:Nat) < 2 ^ 62:=by decide
 have at_:∀m (hm:m < its.toArray.size),∃t',its.toArray[m]=.int (ns.getD m 0) t':=λm hm=>nV r (jX hm);refine qV F.slot_list_index ⟨_,ho,rfl⟩ F.entry_list_index (F.args_list_index_2 _ _) (PySem.SeqAt.list_indexAt l its.toArray n dd sl (.int i t) (M6 i) j (by rw[zH,hl];exact hj1) (by lia) ?_ ?_) ⟨ho,?_,?_⟩
 ·let⟨t',e⟩:=at_ j (by rw[zH,hl];exact hj1);rw[e,M6,zG,hj];simp
 ·intro m hm hmj;let⟨t',e⟩:=at_ m hm;have hm':m < ns.length:=by lia
  have:=hno m hmj;rw[e,M6,zG];rw[zK hm'] at this ⊢;simp?[qG,beq_eq_false_iff_ne];exactλh=>this (by rw[h])
 ·intro y hy;let⟨m,hm,rfl⟩:=Array.getElem_of_mem hy;let⟨t',e⟩:=at_ m hm;rw[e];exact PySem.SeqAt.EqAt.int_int _ _ _ _
 ·exact⟨.int j,H,I.tok _,⟨_,rfl⟩,q⟩
def BS(i:Int):List Int->Option Nat
 | []=>none
 | n::ns=>if n=i then some 0 else (BS i ns).map (·+1)
def l6:∀ {ns:List Int}{j:Nat},BS i ns=some j->ns[j]?=some i/\∀m,m < j->ns[m]?≠some i
 | [],j,h=>by cases h
 | n::ns,j,h=>by
  unfold BS at h;split at h
  ·cases h;rename_i e;exact⟨by rw[e];rfl,λm hm=>absurd hm (vF _)⟩
  ·rename_i e;let⟨k,hk,rfl⟩:=ag h;let⟨a,b⟩:=l6 hk;refine⟨by simpa using a,λm hm=>?_⟩;cases m with
   | zero=>simpa using e
   | succ m=>simpa using b m (by lia)
def Pq:D->D->Option D
 | .list es,.int i=>(intsOf es).bind λns=>(BS i ns).map λj=>.int ((j:Nat):Int)
 | _,_=>none
def D9{fo:Env->Option D}(hbase:attributeBase o "index" X.env (eval o X.env)=eval o X.env)
  (hfew:((backTo cpos (starEach [e] X.env)).all (λx=>!x.1)&&(backToKw cpos (keywordEach [] X.env)).all (λx=>x.1.isSome)&&decide ([e].length+([]:List Keyword).length+(if ([]:List Keyword).isEmpty then 0 else 1) < 30))=true)
  (hline:(apos.endLine == cpos.line)=true) (hs:starEach [e] X.env=(false,eval e X.env)::starEach [] X.env) (ho:DE X o fo) (he:DE X e fe):DE X (.Call (.Attribute o "index" apos) [e] [] cpos) (f2 Pq fo fe) :=
 aN (j5 qN PySem.F.slot_list_index PySem.F.type_list_index BQ ho (bJ he cO hs) hbase hfew hline hs rfl) λσ H Q ⟨HF,ρ,d,sm,eo,hf,q⟩=>by
  let⟨x,hx,hf⟩:=bs hf;let⟨y,hy,hg⟩:=bs hf;refine⟨HF,ρ,x,sm,eo,hx,λv1 H1 HF1 g1 r1=>?_⟩;cases x<;>try cases hg
  cases y<;>try cases hg
  rename_i es i;let⟨ns,h1,hg⟩:=bs hg;let⟨j,h2,rfl⟩:=ag hg;have e1:=dA h1;subst e1;simp?[Rep] at r1;let⟨l,us,rfl,hq,rr⟩:=r1;have:=js rr;subst this;refine⟨.inl ⟨rfl,_,g1.fh.seq hq⟩,HF1,ρ,.int i,g1.fh,eo.mono g1.ff,hy,λv2 H2 HF2 g2 r2=>?_⟩;simp?[Rep] at r2;let⟨a,b⟩:=l6 h2;exact⟨l,ns,i,j,rfl,by rw[r2],g2.fh.seq (g2.ff.seq hq),a,b,q _ H2 HF2 (g1.trans g2) (by simp[Rep])⟩
end Dl
namespace Tx
open PySem PySem.SeqAt PyProof.Rows
open PySem.AutoSeq1 (wpAny_loadPart')
open PySem.MeetsSeq PySem.MeetsSeq2 PySem.MeetsSeq3
def wpR(f:Nat->β->Sem (ForInStep β))(I:List Nat->β->Shared->Prop)(Q:β->Shared->Prop)
  (turn:∀x rest b s,I (x::rest) b s->wpAny M A (f x b) (λr s'=>match r with|.yield b'=>I rest b' s'|.done b'=>Q b' s') E s)
  (fin:∀b s,I [] b s->Q b s) (n:Nat) (b:β) (h:I (List.range' 0 n 1) b s):wpAny M A (forIn [:n] b f) Q E s:=by
 have e:forIn [:n] b f=forIn (List.range' 0 n 1) b f:=by
  rw[Std.Legacy.Range.forIn_eq_forIn_range'];simp[Std.Legacy.Range.size]
 rw[e];exact wpAny_forIn_list f I Q turn fin _ b h
def tuple_indexAt(l:Addr)(items:Array Value)(n:Nat)(dd:Option Addr)(sl:Array (Option Value))(x:Value)(e:Value->Bool)(j:Nat)(hj:j < items.size)(h1:e items[j]=true)(h2:∀m (hm:m < items.size),m < j->e items[m]=false) :
  Meets (Builtin.«tuple.index» ⟨[.ref l,x],[]⟩)
   (λA R s=>s.heap.get? l=some { cls:=.type "tuple",dict:=dd,data:=.seq items n,slots:=sl }/\(∀y,y∈items->EqAt A.in1 s y x (e y))/\R (.ok (.ret (.int (j:Nat) s.toks))) { s with toks:=s.toks+1 }) :=
 .of_wp λprog w A R s h=>by
  let⟨hp,g,d,tk,os⟩:=s;let⟨hl,he,h⟩:=h
  wp_walk using wpAny_loadPart' hl,wpR _ (λrest b s'=>s'=⟨hp,g,d,tk,os⟩/\b.1=none/\∃i,i<=j/\rest=List.range' i (items.size - i) 1) _
  case turn =>
   rintro i rest b s' ⟨rfl,hb,i',hi,e1⟩;have hlt:i' < items.size:=by lia
   rw[show items.size - i'=(items.size - (i'+1))+1 by lia,kW] at e1;injection e1 with e2 e3
   subst e2;subst e3;simp?[jX hlt];refine zU (he _ (Array.getElem_mem hlt) prog w _ _ ?_);by_cases hij:i=j
   ·subst hij;rw[h1]
    wp_walk
    exact⟨_,rfl,h⟩
   ·rw[h2 i hlt (by lia)]
    wp_walk
    exact⟨rfl,rfl,i+1,by lia,rfl⟩
  case fin =>
   rintro b s' ⟨rfl,hb,i,hi,e1⟩;have:=jB List.length e1;simp at this;lia
  case h =>
   exact⟨rfl,rfl,0,xV _,by simp⟩
end Tx
namespace Dl
open PySem L2 PySem.Spec PyProof.Rows
def Cw:GM X "tuple.index" (λx vs H Q=>∃ (l:Addr) (ns:List Int) (i:Int) (j:Nat),x=.ref l/\vs=[.int i]/\gT X.K H l (ns.map V.int)/\ns[j]?=some i/\(∀m,m < j->ns[m]?≠some i)/\Q (.int j) H):=by
 intro pins s σ H x vs v us Q I rx rv h;let⟨l,ns,i,j,rfl,rfl,hq,hj,hno,q⟩:=h;cases rx;let⟨u,rfl,ru⟩:=rv.one;let⟨t,rfl⟩:=ru;let⟨its,r,pl,hz⟩:=I.tuple hq;let⟨⟨cls,dd,data,sl⟩,ho,hc,n,hd⟩:=id pl;simp only at hc hd;subst hc hd;have hl:its.length=ns.length:=by rw[<- r.length,zD]
 have hj1:j < ns.length:=(List.getElem?_eq_some_iff.mp hj).1;have at_:∀m (hm:m < its.toArray.size),∃t',its.toArray[m]=.int (ns.getD m 0) t':=λm hm=>nV r (jX hm);refine qV F.slot_tuple_index ⟨_,ho,rfl⟩ F.entry_tuple_index (F.args_tuple_index_2 _ _) (Tx.tuple_indexAt l its.toArray n dd sl (.int i t) (M6 i) j (by rw[zH,hl];exact hj1) ?_ ?_) ⟨ho,?_,?_⟩
 ·let⟨t',e⟩:=at_ j (by rw[zH,hl];exact hj1);rw[e,M6,zG,hj];simp
 ·intro m hm hmj;let⟨t',e⟩:=at_ m hm;have hm':m < ns.length:=by
   rw[zH] at hm;lia
  have:=hno m hmj;rw[e,M6,zG];rw[zK hm'] at this ⊢;simp?[qG,beq_eq_false_iff_ne];exactλh=>this (by rw[h])
 ·intro y hy;let⟨m,hm,rfl⟩:=Array.getElem_of_mem hy;let⟨t',e⟩:=at_ m hm;rw[e];exact PySem.SeqAt.EqAt.int_int _ _ _ _
 ·exact⟨.int j,H,I.tok _,⟨_,rfl⟩,q⟩
def Fk(h:PE X e t)(g:PE X e u):PE X e (λσ H Q=>t σ H Q\/u σ H Q):=λpins s σ H Q I q=>q.elim (h pins s σ H Q I) (g pins s σ H Q I)
def Oa:D->D->Option D
 | .list es,.int i=>(intsOf es).bind λns=>(BS i ns).map λj=>.int ((j:Nat):Int)
 | .tuple es,.int i=>(intsOf es).bind λns=>(BS i ns).map λj=>.int ((j:Nat):Int)
 | _,_=>none
def Bw{fo:Env->Option D}(hbase:attributeBase o "index" X.env (eval o X.env)=eval o X.env)
  (hfew:((backTo cpos (starEach [e] X.env)).all (λx=>!x.1)&&(backToKw cpos (keywordEach [] X.env)).all (λx=>x.1.isSome)&&decide ([e].length+([]:List Keyword).length+(if ([]:List Keyword).isEmpty then 0 else 1) < 30))=true)
  (hline:(apos.endLine == cpos.line)=true) (hs:starEach [e] X.env=(false,eval e X.env)::starEach [] X.env) (ho:DE X o fo) (he:DE X e fe):DE X (.Call (.Attribute o "index" apos) [e] [] cpos) (f2 Oa fo fe) :=
 aN (Fk (D9 hbase hfew hline hs ho he) (j5 PySem.F.plainAttrs_tuple PySem.F.slot_tuple_index PySem.F.type_tuple_index Cw ho (bJ he cO hs) hbase hfew hline hs rfl)) λσ H Q ⟨HF,ρ,d,sm,eo,hf,q⟩=>by
  let⟨x,hx,hf⟩:=bs hf;let⟨y,hy,hg⟩:=bs hf;cases x<;>try cases hg
  ·cases y<;>try cases hg
   rename_i es i;exact .inl ⟨HF,ρ,d,sm,eo,by simp?[f2,hx,hy,zA];exact hg,q⟩
  ·cases y<;>try cases hg
   rename_i es i;let⟨ns,h1,hg⟩:=bs hg;let⟨j,h2,rfl⟩:=ag hg;have e1:=dA h1;subst e1;refine .inr ⟨HF,ρ,_,sm,eo,hx,λv1 H1 HF1 g1 r1=>?_⟩;simp?[Rep] at r1;let⟨l,us,rfl,hq,rr⟩:=r1;have:=js rr;subst this;refine⟨?_,HF1,ρ,.int i,g1.fh,eo.mono g1.ff,hy,λv2 H2 HF2 g2 r2=>?_⟩
   ·first|exact .inr (.inl ⟨rfl,_,aI g1.fh hq⟩)|exact .inl ⟨rfl,_,aI g1.fh hq⟩|exact .inr ⟨rfl,_,aI g1.fh hq⟩
   ·simp?[Rep] at r2;let⟨a,b⟩:=l6 h2;exact⟨l,ns,i,j,rfl,by rw[r2],aI g2.fh (aI g2.ff hq),a,b,q _ H2 HF2 (g1.trans g2) (by simp[Rep])⟩
end Dl
namespace Zp
open PySem PyProof.Rows
def IsI(b:Bool)(h:Heap)(it l:Addr)(k:Nat):Prop:=match b with|true=>h.IsTupleIter it l k|false=>h.IsListIter it l k
def IsS(b:Bool)(h:Heap)(l:Addr)(xs:Array Value):Prop:=match b with|true=>h.IsTuple l xs|false=>h.IsList l xs
def IsI.obj(x:IsI b h it l k):∃o,h.get? it=some o/\∀v,o.data≠.cell v:=by
 cases b
 ·let⟨o,e,_,d⟩:=(show h.IsListIter it l k from x);exact⟨o,e,λv q=>by rw[d] at q;cases q⟩
 ·let⟨o,e,_,d⟩:=(show h.IsTupleIter it l k from x);exact⟨o,e,λv q=>by rw[d] at q;cases q⟩
def IsI.at(x:IsI b h it l k)(e:∀o,h.get? it=some o->h'.get? it=some o):IsI b h' it l k:=by
 cases b
 ·exact Heap.IsListIter.at x e
 ·exact Heap.IsTupleIter.at x e
def IsI.extBut(x:IsI b h it l k)(e:Heap.ExtBut a h h')(n:it≠a):IsI b h' it l k:=x.at λo q=>e it o n q
def IsS.at(x:IsS b h l xs)(e:∀o,h.get? l=some o->h'.get? l=some o):IsS b h' l xs:=by
 cases b
 ·let⟨o,q,r⟩:=(show h.IsList l xs from x);exact⟨o,e o q,r⟩
 ·let⟨o,q,r⟩:=(show h.IsTuple l xs from x);exact⟨o,e o q,r⟩
def IsS.extBut(x:IsS b h l xs)(e:Heap.ExtBut a h h')(n:l≠a):IsS b h' l xs:=x.at λo q=>e l o n q
section
def nxt(hj:IsI b s.heap j t k)(ht:IsS b s.heap t its)(hv:its[k]?=some v)
  (hQ:∀g,IsI b g j t (k+1)->Heap.SameBut j s.heap g->Q v { s with heap:=g }):wpAny (model prog w) A (Builtin.SmallTypes.nextOf (.ref j)) Q E s:=by
 cases b
 ·exact wpAny_nextOf_list_item hj ht hv hQ
 ·exact En.nextT_item hj ht hv hQ
def nxtE{Q:Value->Shared->Prop}(hh:A.handled=none)(hj:IsI b s.heap j t k)(ht:IsS b s.heap t its)(hv:its[k]?=none)
  (hE:∀g x,Heap.ExtBut j s.heap g->(∃o,g.get? x=some o/\o.cls=.type "StopIteration")->E (.ref x) { s with heap:=g }):wpAny (model prog w) A (Builtin.SmallTypes.nextOf (.ref j)) Q E s:=by
 cases b
 ·exact wpAny_nextOf_list_end hh hj ht hv hE
 ·exact En.nextT_end hh hj ht hv hE
structure ZS(b₁ b₂:Bool)(h₀ h:Heap)(z TI TO i j l m:Addr)(xs ys:Array Value)(f:Value)(p q:Nat)(a b:Value):Prop where
 zo:IsZip h z TI TO f
 ti:IsPair h TI (.ref i) (.ref j)
 to:IsPair h TO a b
 wi:IsI b₁ h i l p
 wj:IsI b₂ h j m q
 sl:IsS b₁ h l xs
 sm:IsS b₂ h m ys
 kp:∀c o,c≠z->c≠TO->c≠i->c≠j->h₀.get? c=some o->h.get? c=some o
 sz:h.objs.size=h₀.objs.size
section
variable {z TI TO i j l m:Addr}
def ZS.fl(Z:ZS b₁ b₂ h₀ h z TI TO i j l m xs ys f p q a b)(D:ZipApart z TI TO i j l m)(e:IsZip g z TI TO f')(t:Heap.SameBut z h g):ZS b₁ b₂ h₀ g z TI TO i j l m xs ys f' p q a b :=
 ⟨e,t.extBut _ _ D.TIz Z.ti,t.extBut _ _ D.TOz Z.to,Z.wi.extBut t.extBut D.i1z,Z.wj.extBut t.extBut D.i2z,Z.sl.extBut t.extBut D.l1z,Z.sm.extBut t.extBut D.l2z,λc o n1 n2 n3 n4 r=>t.extBut _ _ n1 (Z.kp c o n1 n2 n3 n4 r),t.1.trans Z.sz⟩
def ZS.fst(Z:ZS b₁ b₂ h₀ h z TI TO i j l m xs ys f p q a b)(D:ZipApart z TI TO i j l m)(e:IsI b₁ g i l (p+1))(t:Heap.SameBut i h g):ZS b₁ b₂ h₀ g z TI TO i j l m xs ys f (p+1) q a b :=
 ⟨t.extBut _ _ D.i1z.symm Z.zo,t.extBut _ _ D.TIi1 Z.ti,t.extBut _ _ D.TOi1 Z.to,e,Z.wj.extBut t.extBut D.i12.symm,Z.sl.extBut t.extBut D.l1i1,Z.sm.extBut t.extBut D.l2i1,λc o n1 n2 n3 n4 r=>t.extBut _ _ n3 (Z.kp c o n1 n2 n3 n4 r),t.1.trans Z.sz⟩
def ZS.snd(Z:ZS b₁ b₂ h₀ h z TI TO i j l m xs ys f p q a b)(D:ZipApart z TI TO i j l m)(e:IsI b₂ g j m (q+1))(t:Heap.SameBut j h g):ZS b₁ b₂ h₀ g z TI TO i j l m xs ys f p (q+1) a b :=
 ⟨t.extBut _ _ D.i2z.symm Z.zo,t.extBut _ _ D.TIi2 Z.ti,t.extBut _ _ D.TOi2 Z.to,Z.wi.extBut t.extBut D.i12,e,Z.sl.extBut t.extBut D.l1i2,Z.sm.extBut t.extBut D.l2i2,λc o n1 n2 n3 n4 r=>t.extBut _ _ n4 (Z.kp c o n1 n2 n3 n4 r),t.1.trans Z.sz⟩
def ZS.put(Z:ZS b₁ b₂ h₀ h z TI TO i j l m xs ys f p q a b)(D:ZipApart z TI TO i j l m)(e:IsPair g TO x y)(t:Heap.SameBut TO h g):ZS b₁ b₂ h₀ g z TI TO i j l m xs ys f p q x y :=
 ⟨t.extBut _ _ D.TOz.symm Z.zo,t.extBut _ _ D.TITO Z.ti,e,Z.wi.extBut t.extBut D.TOi1.symm,Z.wj.extBut t.extBut D.TOi2.symm,Z.sl.extBut t.extBut D.l1TO,Z.sm.extBut t.extBut D.l2TO,λc o n1 n2 n3 n4 r=>t.extBut _ _ n2 (Z.kp c o n1 n2 n3 n4 r),t.1.trans Z.sz⟩
end
variable {z TI TO i j l m:Addr}
def zipN{Q:Value->Shared->Prop}(hn:A.handled=none)(D:ZipApart z TI TO i j l m)(Z:ZS b₁ b₂ s.heap s.heap z TI TO i j l m xs ys .none p q a b)
  (item:∀x y g g',xs[p]?=some x->ys[q]?=some y->ZS b₁ b₂ s.heap g z TI TO i j l m xs ys .ellipsis (p+1) (q+1) x y->IsZip g' z TI TO (rawInt g.objs.size) ->
   Heap.SameBut z (g.push { cls:=.type "tuple",data:=.seq #[x,y] }) g'->Q (.ref g.objs.size) { s with heap:=g' })
  (over:(xs[p]?=none\/ys[q]?=none)->∀g e,(∀c o,c≠z->c≠TO->c≠i->c≠j->s.heap.get? c=some o->g.get? c=some o)->(∃o,g.get? e=some o/\o.cls=.type "StopIteration")->E (.ref e) { s with heap:=g }) :
  wpAny (model prog w) A (Builtin.«zip.__next__» ⟨[.ref z],[]⟩) (λr s'=>∃v,r=.done (.ret v)/\Q v s') E s:=by
 have stop:∀ {g1 g2:Heap}{e:Addr}{c:Addr}{p' q':Nat}{a' b':Value},ZS b₁ b₂ s.heap g1 z TI TO i j l m xs ys .ellipsis p' q' a' b'->(c=i\/c=j)->(xs[p]?=none\/ys[q]?=none)->Heap.ExtBut c g1 g2 ->
   (∃o,g2.get? e=some o/\o.cls=.type "StopIteration")->wpAny (model prog w) A (setField (.ref z) 0 Value.none) (λ_ t=>E (.ref e) t) E { s with heap:=g2 }:=by
  intro g1 g2 e c p' q' a' b' Y hc hv k ⟨o,ho,ht⟩;have cz:z≠c:=hc.elim (λe=>e ▸ D.i1z.symm) λe=>e ▸ D.i2z.symm;have Yz:IsZip g2 z TI TO .ellipsis:=k _ _ cz Y.zo;refine kN Yz (by simp) λg3 _ t=>over hv g3 e (λd u n1 n2 n3 n4 r=>t.extBut _ _ n1 (k _ _ ?_ (Y.kp d u n1 n2 n3 n4 r))) ⟨o,t.extBut _ _ ?_ ho,ht⟩
  ·exact hc.elim (λe=>e ▸ n3) λe=>e ▸ n4
  ·rintro rfl;rw[Yz] at ho;cases ho;simp at ht
 show wpAny _ _ (field (.ref z) 2 >>= _) _ _ _;refine zU (qT Z.zo rfl (x:=.bool false) rfl (zU (qT Z.zo rfl (x:=.ref TI) rfl (zU (kA Z.ti rfl (zU (m:=Builtin.SmallTypes.ownedTupleIsFree _) ?_))))));refine zU (qT Z.zo rfl (x:=.none) rfl (zV ?_));rw[yK rfl];refine zU (wpAny_rule (zU (qT Z.zo rfl (x:=.ref TO) rfl (zU (kN Z.zo (by simp) λg1 e1 t1=>?_)))));have Z1:=Z.fl D (f':=.ellipsis) e1 t1;refine zU ?_;simp?[List.zipIdx_cons,List.zipIdx_nil,List.forIn_cons,List.forIn_nil];refine zU (zU (wpAny_onRaise (zU (m:=Builtin.SmallTypes.nextOf _) ?_)));cases hx:xs[p]? with
 | none=>exact nxtE hn Z1.wi Z1.sl hx λg2 e k o=>stop Z1 (.inl rfl) (.inl hx) k o
 | some x =>
 refine nxt Z1.wi Z1.sl hx λg2 e2 t2=>zV ?_;have Z2:=Z1.fst D e2 t2;refine zU (kA Z2.to rfl (zU (wpAny_updateSeq_pair Z2.to λg3 e3 t3=>zU (wpAny_letGo (zV ?_)))));have Z3:=Z2.put D (x:=x) (y:=b) e3 t3;refine zU (zU (wpAny_onRaise (zU (m:=Builtin.SmallTypes.nextOf _) ?_)));cases hy:ys[q]? with
 | none=>exact nxtE hn Z3.wj Z3.sm hy λg4 e k o=>stop Z3 (.inr rfl) (.inr hy) k o
 | some y =>
 refine nxt Z3.wj Z3.sm hy λg4 e4 t4=>zV ?_;have Z4:=Z3.snd D e4 t4;refine zU (kA Z4.to rfl (zU (wpAny_updateSeq_pair Z4.to λg5 e5 t5=>zU (wpAny_letGo (zV (zV ?_))))));have Z5:=Z4.put D (x:=x) (y:=y) e5 t5;refine zU (kA Z5.to rfl (zU (wpAny_newTuple (zU (m:=Builtin.SmallTypes.ownedTupleHandOut _ _) ?_))));refine zU (kN (zT _ Z5.zo) (by simp) λg6 e6 t6=>kN e6 (by simp) λg7 e7 t7=>zV ⟨_,rfl,?_⟩);exact item x y g5 g7 hx hy Z5 e7 (t6.trans t7)
def nextZ(hn:A.handled=none)(D:ZipApart z TI TO i j l m)
  (qz:IsZip s.heap z TI TO .none) (qI:IsPair s.heap TI (.ref i) (.ref j)) (qO:IsPair s.heap TO a b)
  (p1:IsI b₁ s.heap i l p) (p2:IsI b₂ s.heap j m q) (r1:IsS b₁ s.heap l xs) (r2:IsS b₂ s.heap m ys) (ex:xs[p]?=some x) (ey:ys[q]?=some y)
  (kQ:∀g,IsZip g z TI TO (rawInt s.heap.objs.size)->IsPair g TO x y->IsI b₁ g i l (p+1)->IsI b₂ g j m (q+1)->IsPair g s.heap.objs.size x y->g.objs.size=s.heap.objs.size+1 ->
   (∀c o,c≠z->c≠TO->c≠i->c≠j->s.heap.get? c=some o->g.get? c=some o)->Q (some (.ref s.heap.objs.size)) { s with heap:=g }) :
  wpAny (model prog w) A (pyNext (.ref z)) Q E s:=by
 have ty:s.TypeIs (.ref z) "zip":=⟨_,qz,rfl⟩
 have Z:ZS b₁ b₂ s.heap s.heap z TI TO i j l m xs ys .none p q a b:=⟨qz,qI,qO,p1,p2,r1,r2,λ_ _ _ _ _ _ e=>e,rfl⟩
 refine zU (kJ (qC (name:=Str.ofString "__next__") ty vI (qU vI ty F.entry_zip_next (zipN hn D Z ?_ ?_) (F.args_zip_next_1 _))))
 ·intro x' y' g g' hx hy Y ez t;rw[ex] at hx;rw[ey] at hy;cases hx;cases hy;rw[Y.sz] at ez ⊢;have lt:=zX Y.zo;have up:∀c o,c≠z->g.get? c=some o->g'.get? c=some o:=λc o n e=>t.extBut _ _ n (zT _ e);refine zV (kQ g' ez (up _ _ D.TOz Y.to) (Y.wi.at λo e=>up _ _ D.i1z e) (Y.wj.at λo e=>up _ _ D.i2z e) ?_ (by rw[t.1,xI,Y.sz]) λc o n1 n2 n3 n4 e=>up c o n1 (Y.kp c o n1 n2 n3 n4 e));rw[<- Y.sz];exact t.extBut _ _ (jH lt) (zW _ rfl)
 ·intro no;rw[ex,ey] at no;rcases no with no|no<;>cases no
def nextZE(hn:A.handled=none)(D:ZipApart z TI TO i j l m)
  (qz:IsZip s.heap z TI TO .none) (qI:IsPair s.heap TI (.ref i) (.ref j)) (qO:IsPair s.heap TO a b)
  (p1:IsI b₁ s.heap i l p) (p2:IsI b₂ s.heap j m q) (r1:IsS b₁ s.heap l xs) (r2:IsS b₂ s.heap m ys) (ends:xs[p]?=none\/ys[q]?=none)
  (kQ:∀g,(∀c o,c≠z->c≠TO->c≠i->c≠j->s.heap.get? c=some o->g.get? c=some o)->Q none { s with heap:=g }):wpAny (model prog w) A (pyNext (.ref z)) Q E s:=by
 have ty:s.TypeIs (.ref z) "zip":=⟨_,qz,rfl⟩
 have Z:ZS b₁ b₂ s.heap s.heap z TI TO i j l m xs ys .none p q a b:=⟨qz,qI,qO,p1,p2,r1,r2,λ_ _ _ _ _ _ e=>e,rfl⟩
 refine zU (kJ (qC (name:=Str.ofString "__next__") ty vI (qU vI ty F.entry_zip_next (zipN hn D Z ?_ ?_) (F.args_zip_next_1 _))))
 ·intro x y g g' hx hy;rw[hx,hy] at ends;rcases ends with no|no<;>cases no
 ·rintro _ g e kp ⟨o,ho,ht⟩;exact zU (wpAny_isInstance (T:="StopIteration") (b:=true) ⟨o,ho,ht⟩ isSubtype_stop (zV (kQ _ kp)))
end
abbrev itO(b:Bool)(l:Addr):Obj:={ cls:=.type (if b then "tuple_iterator" else "list_iterator"),data:=.fields #[.ref l,.int 0 0] }
abbrev z1(b:Bool)(h:Heap)(l:Addr):Heap:=h.push (itO b l)
abbrev z2(b c:Bool)(h:Heap)(l m:Addr):Heap:=(z1 b h l).push (itO c m)
abbrev z3(b c:Bool)(h:Heap)(l m:Addr):Heap:=(z2 b c h l m).push { cls:=.type "tuple",data:=.seq #[.ref h.objs.size,.ref (z1 b h l).objs.size] }
abbrev z4(b c:Bool)(h:Heap)(l m:Addr):Heap:=(z3 b c h l m).push { cls:=.type "tuple",data:=.seq #[.none,.none] }
abbrev z5(b c:Bool)(h:Heap)(l m:Addr):Heap:=(z4 b c h l m).push { cls:=.type "zip",data:=.fields #[.none,.bool false,.bool false,.ref (z2 b c h l m).objs.size,.ref (z3 b c h l m).objs.size] }
def IsS.push(x:IsS b h l xs)(o:Obj):IsS b (h.push o) l xs:=x.at λo' e=>zT _ e
def new_zip(b c:Bool)(l m:Addr)(xs ys:Array Value):Meets (Builtin.«zip.__new__» ⟨[.type "zip",.ref l,.ref m],[]⟩) (λ_ R s=>IsS b s.heap l xs/\IsS c s.heap m ys/\R (.ok (.ret (.ref (z4 b c s.heap l m).objs.size))) { s with heap:=z5 b c s.heap l m }) :=
 .of_wp λprog w A R s h=>by
  let⟨hp,g,d,tk,os⟩:=s;let⟨q1,q2,h⟩:=h;have hsub:=sub_zip;cases b<;>cases c
  ·have L1:Heap.IsList (Shared.heap ⟨hp,g,d,tk,os⟩) l xs:=q1;have L2:Heap.IsList (Shared.heap ⟨hp.push { cls:=.type "list_iterator",data:=.fields #[.ref l,.int 0 0] },g,d,tk,os⟩) m ys:=IsS.push (b:=false) q2 _
   wp_walk using qK L1,qK L2
   exact⟨_,rfl,h⟩
  ·have L1:Heap.IsList (Shared.heap ⟨hp,g,d,tk,os⟩) l xs:=q1;have L2:Heap.IsTuple (Shared.heap ⟨hp.push { cls:=.type "list_iterator",data:=.fields #[.ref l,.int 0 0] },g,d,tk,os⟩) m ys:=IsS.push (b:=true) q2 _
   wp_walk using qK L1,xR L2
   exact⟨_,rfl,h⟩
  ·have L1:Heap.IsTuple (Shared.heap ⟨hp,g,d,tk,os⟩) l xs:=q1;have L2:Heap.IsList (Shared.heap ⟨hp.push { cls:=.type "tuple_iterator",data:=.fields #[.ref l,.int 0 0] },g,d,tk,os⟩) m ys:=IsS.push (b:=false) q2 _
   wp_walk using xR L1,qK L2
   exact⟨_,rfl,h⟩
  ·have L1:Heap.IsTuple (Shared.heap ⟨hp,g,d,tk,os⟩) l xs:=q1;have L2:Heap.IsTuple (Shared.heap ⟨hp.push { cls:=.type "tuple_iterator",data:=.fields #[.ref l,.int 0 0] },g,d,tk,os⟩) m ys:=IsS.push (b:=true) q2 _
   wp_walk using xR L1,xR L2
   exact⟨_,rfl,h⟩
def isI_new(e:h.get? it=some (itO b l)):IsI b h it l 0:=by
 cases b
 ·exact⟨_,e,rfl,rfl⟩
 ·exact⟨_,e,rfl,rfl⟩
def call_zip(q1:IsS b s.heap l xs)(q2:IsS c s.heap m ys)
  (h:∀g,IsZip g (s.heap.objs.size+4) (s.heap.objs.size+2) (s.heap.objs.size+3) .none->IsPair g (s.heap.objs.size+2) (.ref s.heap.objs.size) (.ref (s.heap.objs.size+1))->IsPair g (s.heap.objs.size+3) .none .none ->
   IsI b g s.heap.objs.size l 0->IsI c g (s.heap.objs.size+1) m 0->(∀a o,s.heap.get? a=some o->g.get? a=some o)->Q (.ref (s.heap.objs.size+4)) { s with heap:=g }) :
  wpAny (model prog w) A (call (.type "zip") [.ref l,.ref m]) Q E s:=by
 refine callType_new F.called_zip (by decide) (F.typeCall_zip_2 _ _) (F.newCall_zip_2 _ _) (λobj=>F.args_object_init_3 obj _ _) F.entry_zip_new (new_zip b c l m xs ys) ⟨q1,q2,?_⟩;have n1:(z1 b s.heap l).objs.size=s.heap.objs.size+1:=xI ..;have n2:(z2 b c s.heap l m).objs.size=s.heap.objs.size+2:=by rw[xI,n1]
 have n3:(z3 b c s.heap l m).objs.size=s.heap.objs.size+3:=by rw[xI,n2]
 have n4:(z4 b c s.heap l m).objs.size=s.heap.objs.size+4:=by rw[xI,n3]
 have g5:(z5 b c s.heap l m).get? (z4 b c s.heap l m).objs.size=some _:=zW _ rfl;have g4:(z5 b c s.heap l m).get? (z3 b c s.heap l m).objs.size=some _:=zT _ (zW _ rfl);have g3:(z5 b c s.heap l m).get? (z2 b c s.heap l m).objs.size=some _:=zT _ (zT _ (zW _ rfl));have g2:(z5 b c s.heap l m).get? (z1 b s.heap l).objs.size=some (itO c m):=zT _ (zT _ (zT _ (zW _ rfl)));have g1:(z5 b c s.heap l m).get? s.heap.objs.size=some (itO b l):=zT _ (zT _ (zT _ (zT _ (zW _ rfl))));show _/\_;rw[n2,n3,n4] at g5;rw[n1,n2] at g3;rw[n3] at g4;rw[n1] at g2;rw[n4];exact⟨⟨_,g5,rfl⟩,h _ g5 g3 g4 (isI_new g1) (isI_new g2) λa o x=>zT _ (zT _ (zT _ (zT _ (zT _ x))))⟩
end Zp
namespace Dl
open PySem L2 PySem.Spec PyProof.Rows Zp
def rP(K:W.Frag)(b:Bool)(a:Addr)(H:Hp)(xs:List V):Prop:=match b with|true=>gT K H a xs|false=>fS K H a xs
def rP.src(I:Inv X pins σ H s)(h:rP X.K b a H xs):∃its:List Value,aM xs its/\IsS b s.heap a its.toArray/\xs.length<=sizeLine:=by
 cases b
 ·let⟨its,rv,pl,hz⟩:=I.list (show fS X.K H a xs from h);exact⟨its,rv,pl.isList,hz⟩
 ·let⟨its,rv,pl,hz⟩:=I.tuple (show gT X.K H a xs from h);exact⟨its,rv,pl,hz⟩
def rP.ne(I:Inv X pins σ H s)(hf:fN X pins H c)(h:rP X.K b a H xs):a≠c:=by
 cases b
 ·exact LG I hf h
 ·exact KH I hf h
def rP.inj(I:Inv X pins σ H s)(h:rP X.K b a H xs)(h':rP X.K b a H ys):xs=ys:=by
 cases b
 ·exact I.list_inj h h'
 ·exact I.tuple_inj h h'
def rP.mono{K:W.Frag}(e:aR H H')(h:rP K b a H xs):rP K b a H' xs:=by
 cases b
 ·exact e.seq h
 ·exact aI e h
def Ci{K:W.Frag}(b c:Bool)(l1 l2 z TI TO i1 i2:Addr)(Z:QS z TI TO i1 i2) :
  Turn P w K (.Tuple elts k pos) (Pp (rP K b l1) (rP K c l2)) [z,TI,TO,i1,i2] z (λi h=>IsZip h z TI TO .none/\IsPair h TI (.ref i1) (.ref i2)/\(∃a b,IsPair h TO a b)/\IsI b h i1 l1 i/\IsI c h i2 l2 i) where
 mem:=by simp
 obj:=λi h st d hd=>by
  let⟨hz,hTI,⟨a,b',hTO⟩,p1,p2⟩:=st;simp?[zQ,yE,xU] at hd;rcases hd with rfl|rfl|rfl|rfl|rfl
  ·exact⟨_,hz,λv q=>by have q:Data.fields _=Data.cell v:=q;cases q⟩
  ·exact⟨_,hTI,λv q=>by have q:Data.seq _ _=Data.cell v:=q;cases q⟩
  ·exact⟨_,hTO,λv q=>by have q:Data.seq _ _=Data.cell v:=q;cases q⟩
  ·exact p1.obj
  ·exact p2.obj
 keep:=λi h h' st kk=>by
  let⟨hz,hTI,⟨a,b',hTO⟩,h1,h2⟩:=st;exact⟨kk z (by simp) _ hz,kk TI (by simp) _ hTI,⟨a,b',kk TO (by simp) _ hTO⟩,h1.at λo q=>kk i1 (by simp) o q,h2.at λo q=>kk i2 (by simp) o q⟩
 item:=by
  intro X hP hw hK hc i pins s σ H E I hf st hg;subst hP hw hK;let⟨xs,ys,x,y,hq1,hq2,hx,hy⟩:=hg;let⟨its1,rv1,p1,hz1⟩:=hq1.src I;let⟨its2,rv2,p2,hz2⟩:=hq2.src I;let⟨u1,hu1,ru1⟩:=rv1.get hx;let⟨u2,hu2,ru2⟩:=rv2.get hy;have D:ZipApart z TI TO i1 i2 l1 l2:=⟨Z.a1,Z.a2,Z.a3,Z.a4,Z.a5,Z.a6,Z.a7,Z.a8,Z.a9,Z.a0,hq1.ne I (hf z (by simp)),hq1.ne I (hf TO (by simp)),hq1.ne I (hf i1 (by simp)),hq1.ne I (hf i2 (by simp)),hq2.ne I (hf z (by simp)),hq2.ne I (hf TO (by simp)),hq2.ne I (hf i1 (by simp)),hq2.ne I (hf i2 (by simp))⟩
  let⟨hz,hTI,⟨a,b',hTO⟩,h1,h2⟩:=st;refine nextZ (I.ok.hd hc) D hz hTI hTO h1 h2 p1 p2 (x:=u1) (y:=u2) (by simpa using hu1) (by simpa using hu2) λg b1 b2 b3 b4 b5 b6 hk=>⟨.ref s.heap.objs.size,rfl,?_⟩
  have lt:∀ {c:Addr}{o:Obj},s.heap.get? c=some o->s.heap.objs.size≠c:=λe=>jH (zX e);refine wpAny_letOwnedTupleGo_zip (s:={ s with heap:=g }) b1 λg' hz' hs'=>?_;have b5':g'.get? s.heap.objs.size=some { cls:=.type "tuple",data:=.seq #[u1,u2] }:=hs'.extBut _ _ (lt hz) b5;have ht:n5 g' s.heap.objs.size (List.toArray [u1,u2]):=⟨⟨_,b5',rfl,_,rfl⟩,_,b5',rfl⟩
  refine⟨.ref s.heap.objs.size,_,vj (ch:=[z,TI,TO,i1,i2]) (xs:=[x,y]) (t':=s.toks) I hf (λb o hb q=>?_) (yL _) ht (.cons ru1 (.cons ru2 .nil)) (by show 2<=sizeLine;decide),rfl,
   ⟨s.heap.objs.size,x,y,rfl,I.fresh,rfl,λzs hzs=>by rw[hzs.inj I hq1];exact hx,λzs hzs=>by rw[hzs.inj I hq2];exact hy⟩,
   ⟨hz',hs'.extBut _ _ Z.a1 (hk _ _ D.TIz D.TITO D.TIi1 D.TIi2 hTI),⟨_,_,hs'.extBut _ _ Z.a2 b2⟩,b3.extBut hs'.extBut Z.a3,b4.extBut hs'.extBut Z.a4⟩,λb hb=>?_⟩
  ·simp?[zQ,yE,xU,not_or] at hb;exact hs'.extBut _ _ hb.1 (hk b o hb.1 hb.2.2.1 hb.2.2.2.1 hb.2.2.2.2 q)
  ·have:s.heap.objs.size≠b:=by
    simp?[zQ,yE,xU] at hb;let⟨o1,g1,_⟩:=h1.obj;let⟨o2,g2,_⟩:=h2.obj;rcases hb with rfl|rfl|rfl|rfl|rfl
    ·exact lt hz
    ·exact lt hTI
    ·exact lt hTO
    ·exact lt g1
    ·exact lt g2
   rw[aK (jM this)];exact (hf b hb).1
 done:=by
  intro X hP hw hK hc i pins s σ H E I hf st hg;subst hP hw hK;let⟨xs,ys,hq1,hq2,hx⟩:=hg;let⟨its1,rv1,p1,hz1⟩:=hq1.src I;let⟨its2,rv2,p2,hz2⟩:=hq2.src I;have D:ZipApart z TI TO i1 i2 l1 l2:=⟨Z.a1,Z.a2,Z.a3,Z.a4,Z.a5,Z.a6,Z.a7,Z.a8,Z.a9,Z.a0,hq1.ne I (hf z (by simp)),hq1.ne I (hf TO (by simp)),hq1.ne I (hf i1 (by simp)),hq1.ne I (hf i2 (by simp)),hq2.ne I (hf z (by simp)),hq2.ne I (hf TO (by simp)),hq2.ne I (hf i1 (by simp)),hq2.ne I (hf i2 (by simp))⟩
  let⟨hz,hTI,⟨a,b',hTO⟩,h1,h2⟩:=st;have e1:=rv1.length;have e2:=rv2.length;refine nextZE (I.ok.hd hc) D hz hTI hTO h1 h2 p1 p2 (hx.elim (λq=>.inl (by simp;lia)) λq=>.inr (by simp;lia)) λg hk=>⟨rfl,?_⟩
  refine BR (ch:=[z,TI,TO,i1,i2]) (t':=s.toks) I hf λb o hb q=>?_;simp?[zQ,yE,xU,not_or] at hb;exact hk b o hb.1 hb.2.2.1 hb.2.2.2.1 hb.2.2.2.2 q
 self:=λ_ _ _ _ _ st h=>wpAny_pyIter_zip st.1 h
def IU(B:nj X "zip" (.type "zip"))(ha:PA X [l,l'] tl)(hs:starEach [l,l'] X.env=(false,eval l X.env)::starEach [l'] X.env)(hs2:(backTo pos (starEach [l'] X.env)).any (·.1)=false) :
  PI X (.Tuple elts k tp) (.Call (.Name "zip" p) [l,l'] [] pos) (λσ H R=>tl σ H λvs H1=>∃a b,vs=[.ref a,.ref b]/\∃c d xs ys,rP X.K c a H1 xs/\rP X.K d b H1 ys/\R (Pp (rP X.K c a) (rP X.K d b)) H1):=by
 intro pins s σ H R I h;refine Call_ (iT I B.gl B.mg B.bt (qS (bL (ha pos pins s σ H _ I h) λus s1 ⟨vs,H1,I1,r1,q1⟩=>?_) hs hs2));let⟨a,b,e,c,d,xs,ys,hq1,hq2,q⟩:=q1;subst e;let⟨u,u',rfl,rx,ry⟩:=vals2 r1;cases rx;cases ry;let⟨its,rv,pl,hz⟩:=hq1.src I1;let⟨its',rv',pl',hz'⟩:=hq2.src I1;refine call_zip pl pl' λg b1 b2 b3 b4 b5 kp=>wpAny_pyIter_zip (s:={ s1 with heap:=g }) b1 ?_;refine⟨_,_,_,_,H1,rfl,I1.kept (t':=s1.toks) kp,Ci c d a b (s1.heap.objs.size+4) (s1.heap.objs.size+2) (s1.heap.objs.size+3) s1.heap.objs.size (s1.heap.objs.size+1) ?_,⟨b1,b2,⟨_,_,b3⟩,b4,b5⟩,λc hc=>?_,q⟩
 ·constructor<;>(intro z;have z:(_:Nat)=_:=z;lia)
 ·have hge:s1.heap.objs.size<=c:=by
   simp?[zQ,yE,xU] at hc;rcases hc with rfl|rfl|rfl|rfl|rfl
   ·exact jU _ _
   ·exact jU _ _
   ·exact jU _ _
   ·exact yL _
   ·exact jU _ _
  exact I1.fpOk hge (I1.hok.fresh hge)
def NA:List D->Option (List D):=λds=>match ds with
 | [x,y]=>(dI x).bind λxs=>(dI y).map λys=>gK xs ys
 | _=>none
def ze{K:W.Frag}(h:dI d=some xs)(r:Rep K HF d v):∃b a vs,v=.ref a/\rP K b a HF vs/\ax K HF xs vs:=by
 rcases kh h with rfl|rfl
 ·simp?[Rep] at r;let⟨a,vs,rfl,q,rr⟩:=r;exact⟨true,a,vs,rfl,q,rr⟩
 ·simp?[Rep] at r;let⟨a,vs,rfl,q,rr⟩:=r;exact⟨false,a,vs,rfl,q,rr⟩
def eL(fs:Env->Option (List D)):Env->Option (List D):=λρ=>(fs ρ).bind NA
def JG(B:nj X "zip" (.type "zip"))(hs:starEach [l,l'] X.env=(false,eval l X.env)::starEach [l'] X.env)(hs2:(backTo pos (starEach [l'] X.env)).any (·.1)=false)(h:DA X [l,l'] fs) :
  DI X (.Tuple elts k tp) (.Call (.Name "zip" p) [l,l'] [] pos) (eL fs) :=
 tE (IU B h hs hs2) λσ H R ⟨HF,ρ,ds,sm,eo,hf,q⟩=>by
  let⟨x,hx,hf⟩:=bs hf;refine⟨HF,ρ,_,sm,eo,hx,λvs H1 HF1 g1 r1=>?_⟩;unfold NA at hf;split at hf
  ·let⟨xs,h1,hf⟩:=bs hf;let⟨ys,h2,rfl⟩:=ag hf;let⟨v,r',rfl,a,b⟩:=r1.cons_inv;let⟨v',r'',rfl,a',b'⟩:=b.cons_inv;rw[b'.nil_inv];let⟨c,ad,us,rfl,hq,rr⟩:=ze h1 a;let⟨c',ad',us',rfl,hq',rr'⟩:=ze h2 a';exact⟨ad,ad',rfl,c,c',us,us',hq.mono g1.fh,hq'.mono g1.fh,q _ H1 HF1 g1 (DV hq (λ_ _ s h=>h.mono s) hq' (λ_ _ s h=>h.mono s) rr rr')⟩
  ·cases hf
end Dl
namespace Zp
open PySem PyProof.Rows
def IsI.ne(x:IsI b h it l k)(y:IsS b h l xs):l≠it:=by
 rintro rfl;cases b
 ·let⟨o,e,c,d⟩:=(show h.IsListIter l l k from x)
  let⟨o',e',r⟩:=(show h.IsList l xs from y)
  rw[e] at e';cases e';simp_all
 ·let⟨o,e,c,d⟩:=(show h.IsTupleIter l l k from x)
  let⟨o',e',r⟩:=(show h.IsTuple l xs from y)
  rw[e] at e';cases e';simp_all
def drawsI(hn:A.handled=none)(b:Bool)(it l:Addr)(xs:Array Value):Draws prog w A it [it,l] xs.size (λi x=>xs[i]?=some x) (λi h=>IsI b h it l i/\IsS b h l xs) where
 live:=λi h st=>let ⟨o,e,_⟩:=st.1.obj;⟨o,e⟩
 frame:=λi h h' st k=>⟨st.1.at (k it (by simp)),st.2.at (k l (by simp))⟩
 item:=λi s Q E hi st hQ=>nxt st.1 st.2 (v:=xs[i]) (by simp[hi]) λg e t=>hQ _ g s.toks (by simp[hi]) ⟨e,st.2.extBut t.extBut (st.1.ne st.2)⟩ t
 done:=λs Q E st hE=>nxtE hn st.1 st.2 (by simp) hE
def nextE{b₁:Bool}{e it l:Addr}{i:Nat}{items:Array Value}{x old:Value}{Q:Option Value->Shared->Prop}(hn:A.handled=none)
  (qe:IsEnum s.heap e it i old) (qi:IsI b₁ s.heap it l i) (ql:IsS b₁ s.heap l items) (ex:items[i]?=some x) (nei:e≠it)
  (kQ:∀g tk,IsEnumOut g e it ((i:Int)+1) x s.heap.objs.size->IsI b₁ g it l (i+1)->g.get? s.heap.objs.size=some { cls:=.type "tuple",data:=.seq #[.int i tk,x] } ->
   g.objs.size=s.heap.objs.size+1->(∀c o,c≠e->c≠it->s.heap.get? c=some o->g.get? c=some o)->Q (some (.ref s.heap.objs.size)) { s with heap:=g,toks:=tk+1 }) :
  wpAny (model prog w) A (pyNext (.ref e)) Q E s:=by
 have nel:e≠l:=by
  rintro rfl;cases b₁
  ·let⟨o,e1,r⟩:=(show s.heap.IsList e items from ql)
   rw[qe] at e1;cases e1;simp at r
  ·let⟨o,e1,r⟩:=(show s.heap.IsTuple e items from ql)
   rw[qe] at e1;cases e1;simp at r
 have D:Draws prog w A.in1 it [it,l] items.size (λi x=>items[i]?=some x) (λi h=>IsI b₁ h it l i/\IsS b₁ h l items):=drawsI (A:=A.in1) hn b₁ it l items;refine wpAny_pyNext_enum_itemD D qe ⟨qi,ql⟩ (Array.getElem?_eq_some_iff.mp ex).1 nei (by simp[nei,nel]) λy g tk hy a b c d k=>?_;rw[ex] at hy;cases hy;exact kQ g tk a b.1 c d k
end Zp
namespace Dl
open PySem L2 PySem.Spec PyProof.Rows Zp
def oE{K:W.Frag}(b:Bool)(a it e:Addr)(hei:e≠it):Turn P w K (.Tuple elts k pos) (PL (rP K b a)) [e,it] e (λi h=>(∃old,IsEnum h e it i old)/\IsI b h it a i) where
 mem:=by simp
 obj:=λi h st c hc=>by
  let⟨⟨old,he⟩,hi⟩:=st;rcases List.mem_cons.mp hc with z|z
  ·subst z;exact⟨_,he,λv q=>by have q:Data.fields _=Data.cell v:=q;cases q⟩
  ·rw[List.mem_singleton.mp z];exact hi.obj
 keep:=λi h h' st kk=>⟨let ⟨old,he⟩:=st.1;⟨old,kk e (by simp) _ he⟩,st.2.at λo q=>kk it (by simp) o q⟩
 item:=by
  intro X hP hw hK hc i pins s σ H E I hf st hg;subst hP hw hK;let⟨xs,x,hq,hx⟩:=hg;let⟨its,rv,p,hz⟩:=hq.src I;let⟨u,hu,ru⟩:=rv.get hx;let⟨⟨old,he⟩,hi⟩:=st;refine nextE (I.ok.hd hc) he hi p (x:=u) (by simpa using hu) hei λg tk b1 b2 b3 b4 hk=>⟨.ref s.heap.objs.size,rfl,?_⟩
  have lt:∀ {c:Addr}{o:Obj},s.heap.get? c=some o->s.heap.objs.size≠c:=λe=>jH (zX e);have hte:s.heap.objs.size≠e:=lt he;refine wpAny_letOwnedTupleGo_enum (s:={ s with heap:=g,toks:=tk+1 }) b1 λg' he' hs'=>?_;have b3':g'.get? s.heap.objs.size=some { cls:=.type "tuple",data:=.seq #[.int i tk,u] }:=hs'.extBut _ _ hte b3;have ht:n5 g' s.heap.objs.size (List.toArray [Value.int (i:Nat) tk,u]):=⟨⟨_,b3',rfl,_,rfl⟩,_,b3',rfl⟩
  refine⟨.ref s.heap.objs.size,_,vj (ch:=[e,it]) (xs:=[.int (i:Nat),x]) (t':=tk+1) I hf (λc o hb q=>?_) (yL _) ht (.cons ⟨_,rfl⟩ (.cons ru .nil)) (by show 2<=sizeLine;decide),rfl,
   ⟨s.heap.objs.size,x,rfl,I.fresh,rfl,λzs hzs=>by rw[hzs.inj I hq];exact hx⟩,⟨⟨_,he'⟩,b2.extBut hs'.extBut (jM hei)⟩,λc hc'=>?_⟩
  ·simp?[zQ,yE,xU,not_or] at hb;exact hs'.extBut _ _ hb.1 (hk c o hb.1 hb.2 q)
  ·have:s.heap.objs.size≠c:=by
    simp?[zQ,yE,xU] at hc';let⟨o1,g1,_⟩:=hi.obj;rcases hc' with rfl|rfl
    ·exact lt he
    ·exact lt g1
   rw[aK (jM this)];exact (hf c hc').1
 done:=by
  intro X hP hw hK hc i pins s σ H E I hf st hg;subst hP hw hK;let⟨xs,hq,hx⟩:=hg;let⟨its,rv,p,hz⟩:=hq.src I;have hh:X.A.in1.handled=none:=I.ok.hd hc;have hl:=rv.length;let⟨⟨old,he⟩,hi⟩:=st;have hT:s.TypeIs (.ref e) "enumerate":=⟨_,he,rfl⟩
  unfold pyNext;refine zU (kJ (qC (name:=Str.ofString "__next__") hT F.slot_enumerate_next (qU F.slot_enumerate_next hT F.entry_enumerate_next ?_ (F.args_enumerate_next_1 _))));refine zU (m:=field (.ref e) 2) (qT he rfl (x:=.ref it) rfl ?_);refine zU (nxtE hh hi p (by simp;lia) λh1 x k1 hx1=>?_);let⟨o,ho,hc1⟩:=hx1;refine zU (wpAny_isInstance (T:="StopIteration") (b:=true) ⟨o,ho,hc1⟩ isSubtype_stop (zV ⟨rfl,?_⟩));let⟨f0,f1,f2,f3,f4,f5⟩:=hf it (by simp);exact I.turned (t':=s.toks) (λb o hb q=>k1 b o hb q) f0 f1 f3 f4 f5
 self:=λ_ _ _ _ _ st h=>let ⟨_,he⟩:=st.1;wD he h
def HU(B:nj X "enumerate" (.type "enumerate"))(ha:PA X [l] tl)(hs:starEach [l] X.env=[(false,eval l X.env)]):PI X (.Tuple elts k tp) (.Call (.Name "enumerate" p) [l] [] pos) (λσ H R=>tl σ H λvs H1=>∃a,vs=[.ref a]/\∃b xs,rP X.K b a H1 xs/\R (PL (rP X.K b a)) H1):=by
 intro pins s σ H R I h;refine Call_ (iT I B.gl B.mg B.bt (qS (bL (ha pos pins s σ H _ I h) λus s1 ⟨vs,H1,I1,r1,q1⟩=>?_) hs rfl));let⟨a,e,b,xs,hq,q⟩:=q1;subst e;let⟨u,rfl,rx⟩:=vals1 r1;cases rx;have fresh:∀b∈[s1.heap.objs.size+1,s1.heap.objs.size],fN X pins H1 b:=λb hb=>by
  rcases List.mem_cons.mp hb with z|z
  ·subst z;exact I1.fpOk (Nat.le_succ _) (I1.hok.fresh (Nat.le_succ _))
  ·cases List.mem_singleton.mp z;exact I1.fpOk (yL _) I1.fresh
 let⟨its,rv,pl,hz⟩:=hq.src I1;cases b with
 | false =>
  refine call_enumerate_list pl λh' he hit hsz kp=>wD (s:={ s1 with heap:=h' }) he ?_;exact⟨_,_,_,_,H1,rfl,I1.kept (t':=s1.toks) kp,oE false a s1.heap.objs.size (s1.heap.objs.size+1) (Nat.succ_ne_self _),⟨⟨_,he⟩,hit⟩,fresh,q⟩
 | true =>
  refine En.call_enumT (show s1.heap.IsTuple a its.toArray from pl) λh' he hit hsz kp=>wD (s:={ s1 with heap:=h' }) he ?_;exact⟨_,_,_,_,H1,rfl,I1.kept (t':=s1.toks) kp,oE true a s1.heap.objs.size (s1.heap.objs.size+1) (Nat.succ_ne_self _),⟨⟨_,he⟩,hit⟩,fresh,q⟩
def bE(fs:Env->Option (List D)):Env->Option (List D):=λρ=>(fs ρ).bind λds=>(cK ds).map (bT 0)
def IT(B:nj X "enumerate" (.type "enumerate"))(h:DA X [l] fs)(hs:starEach [l] X.env=[(false,eval l X.env)]):DI X (.Tuple elts k tp) (.Call (.Name "enumerate" p) [l] [] pos) (bE fs) :=
 tE (HU B h hs) λσ H R ⟨HF,ρ,ds,sm,eo,hf,q⟩=>by
  let⟨x,hx,hf⟩:=bs hf;let⟨es,h1,rfl⟩:=ag hf;let⟨d,h0,h1⟩:=bs h1;rw[fO h0] at hx;refine⟨HF,ρ,_,sm,eo,hx,λvs H1 HF1 g1 r1=>?_⟩;let⟨v,r',rfl,a,b⟩:=r1.cons_inv;rw[b.nil_inv];let⟨c,ad,us,rfl,hq,rr⟩:=ze h1 a;exact⟨ad,rfl,c,us,hq.mono g1.fh,q _ H1 HF1 g1 (BI hq (λ_ _ s h=>h.mono s) rr)⟩
end Dl
namespace Srt
open PySem PySem.W PySem.Calls PyProof.Rows L2
end Srt
namespace Dl
open PySem L2 PySem.Spec PyProof.Rows
section
structure J1(X:Cx)(qual:Str):Prop where
 ex:∃c P,X.env.code=.ref c/\X.env.qual++"<lambda>"=qual/\W.codeHdIn X.K c P=true/\∀HF,dP X.K HF->HF P=some (.tab qual)
variable {fl te:Env->Option D}{cs:List Nat}
end
end Dl
namespace Srt
open PySem PySem.W PySem.Calls PyProof.Rows L2
end Srt
namespace Dl
open PySem L2 PySem.Spec PyProof.Rows
section
variable {cs:List Nat}
end
def Qa(i j l:Nat):Env->D->Option Env:=λρ d=>match d with
 | .tuple [x,y,z]=>if isFree ρ i=true/\isFree ρ j=true/\isFree ρ l=true then some (((ρ.set i (some x)).set j (some y)).set l (some z)) else none
 | _=>none
def FF(i j l:Nat)(hc:X.calm=true)(hN:X.N.Nodup)(hi:X.N[i]?=some x)(hx:Loc X.env.scope x)(hj:X.N[j]?=some y)(hy:Loc X.env.scope y)(hl:X.N[l]?=some z)(hz:Loc X.env.scope z)
  (hf:X.fn x=true\/X.env.scope.names.lookup x=some .local) (hf':X.fn y=true\/X.env.scope.names.lookup y=some .local) (hf'':X.fn z=true\/X.env.scope.names.lookup z=some .local) :
  DG X (.Tuple [.Name x px,.Name y py,.Name z pz] k pos) (Qa i j l) :=
 oA (y9 hc (fK (eR hN hi hx hf) (fK (eR hN hj hy hf') (fK (eR hN hl hz hf'') tQ)))) λv σ H Q ⟨HF,ρ,d,ρ',sm,eo,r,hf,q⟩=>by
  unfold Qa at hf;split at hf
  ·rename_i x' y' z';split at hf
   ·rename_i hh;cases hf;simp?[Rep] at r;let⟨a,vs,rfl,hs,rr⟩:=r;let⟨v1,r1,rfl,a1,b1⟩:=rr.cons_inv;let⟨v2,r2,rfl,a2,b2⟩:=b1.cons_inv;let⟨v3,r3,rfl,a3,b3⟩:=b2.cons_inv;rw[b3.nil_inv] at hs;exact⟨a,_,rfl,aI sm hs,rfl,v1,_,rfl,v2,_,rfl,v3,_,rfl,rfl,q _ (ja (ja (ja eo a1) a2) a3) (jt (jt (jt eo hh.1) hh.2.1) hh.2.2)⟩
   ·cases hf
  ·cases hf
def pW(d:D):List D->Option Nat
 | []=>none
 | x::xs=>if PyData.eqv x d=true then some 0 else (pW d xs).map (·+1)
def rq:∀ {xs:List D}{j:Nat},pW d xs=some j->j < xs.length/\(∀x,xs[j]?=some x->PyData.eqv x d=true)/\∀m,m < j->∀x,xs[m]?=some x->PyData.eqv x d=false
 | [],j,h=>by cases h
 | x::xs,j,h=>by
  unfold pW at h;split at h
  ·cases h;rename_i e;exact⟨Nat.succ_pos _,λy hy=>by cases hy;exact e,λm hm=>absurd hm (vF _)⟩
  ·rename_i e;let⟨k,hk,rfl⟩:=ag h;let⟨a,b,c⟩:=rq hk;refine⟨by simpa using a,λy hy=>b y (by simpa using hy),λm hm y hy=>?_⟩;cases m with
   | zero=>cases hy;simpa using e
   | succ m=>exact c m (by lia) y (by simpa using hy)
def Ck(hu:X.A.units+66 < cLine):GM X "list.index" (λx vs H Q=>∃ (HF:Hp) (ds:List D) (d:D) (y:V) (j:Nat),aR HF H/\Rep X.K HF (.list ds) x/\vs=[y]/\Rep X.K HF d y/\SeqAt.shaped d=true/\SeqAt.shaped (.list ds)=true/\ds.length<=sizeLine/\pW d ds=some j/\Q (.int j) H):=by
 intro pins s σ H x vs v us Q I rx rv h;let⟨HF,ds,d,y,j,sm,r1,rfl,r2,hd,hl,hz,hj,q⟩:=h;let⟨u,rfl,ru⟩:=rv.one;let⟨as,ra⟩:=cm I sm r1 rx;let⟨bs,rb⟩:=cm I sm r2 ru;have c1:=kE hd;have c2:=kE hl;have d1:=SeqAt.depth_of_shaped hd;simp?[PyData.canLay0] at c2;have m:=Nat.min_le_right (PyData.depthAll ds) d.depth;let⟨hj1,hj2,hj3⟩:=rq hj;cases ra with
 | list h1 h2 h3 h4 =>
  rename_i l o its n as;let⟨cls,dd,data,sl⟩:=o;simp only at h2 h3;subst h2 h3;have hm:=SeqAt.readsAll_map _ _ _ c2 h4;have hlen:its.size=ds.length:=by rw[<- hm];simp
  have hs63:(sizeLine:Nat) < 2 ^ 62:=by decide
  have at_:∀m (hm:m < its.size),ds[m]?=some (SeqAt.readOf s.heap its[m]):=λm hm'=>by
   rw[<- hm,zO,Array.getElem?_toList,jX hm'];rfl
  refine qV F.slot_list_index ⟨_,h1,rfl⟩ F.entry_list_index (F.args_list_index_2 _ _) (PySem.SeqAt.list_indexAt l its n dd sl u (λy=>PyData.eqv (SeqAt.readOf s.heap y) d) j (by rw[hlen];exact hj1) (by lia) ?_ ?_) ⟨h1,?_,?_⟩
  ·exact hj2 _ (at_ j (by rw[hlen];exact hj1))
  ·intro m hm' hmj;exact hj3 m hmj _ (at_ m hm')
  ·exact SeqAt.items_eqAt h4 rb c2 c1 (by lia)
  ·exact⟨.int j,H,I.tok _,⟨_,rfl⟩,q⟩
def O5(x y:D):Option Bool:=match y with
 | .tuple ds=>if SeqAt.shaped x=true/\SeqAt.shaped y=true then some (!ds.any λz=>PyData.eqv z x) else none
 | .list ds=>if SeqAt.shaped x=true/\SeqAt.shaped y=true then some (!ds.any λz=>PyData.eqv z x) else none
 | _=>none
def DB(hu:X.A.units+66 < cLine):eU X (compareOp .NotIn) (Kh X.K O5):=by
 intro pins s σ H v1 v2 u1 u2 Q I rx ry h;let⟨HF,x,y,k,sm,r1,r2,hg,q⟩:=h;let⟨as,ra⟩:=cm I sm r1 rx;let⟨bs,rb⟩:=cm I sm r2 ry;cases y<;>simp?[O5] at hg<;>try cases hg
 all_goals
  split at hg<;>cases hg;rename_i ds hh;have c1:=kE hh.1;have c2:=kE hh.2;have d1:=SeqAt.depth_of_shaped hh.1;simp?[PyData.canLay0] at c2;have m:=Nat.min_le_right (PyData.depthAll ds) x.depth
  first
   | exact SeqAt.notIn_list_reads rb ra c2 c1 (by lia) ⟨.bl _,H,I,rfl,q⟩
   | exact SeqAt.notIn_tuple_reads rb ra c2 c1 (by lia) ⟨.bl _,H,I,rfl,q⟩
def Mn:D->D->Option D:=λx y=>(O5 x y).map PyData.bool
def Bk.notin(C:Bk X N sc k)(ha:DE X a fa)(hb:DE X b fb)(hm:behindInMarks .NotIn b=false:=by rfl):DE X (.Compare a [.NotIn] [b] pos) (f2 Mn fa fb):=fH (DB C.u66) dq ha hb hm
def Bk.tnin(C:Bk X N sc k)(ha:DE X a fa)(hb:DE X b fb)(hm:behindInMarks .NotIn b=false:=by rfl):DT X (.Compare a [.NotIn] [b] pos) (fB (f2 Mn fa fb)):=fg (DB C.u66) dq ha hb hm
structure Qp(h:Heap)(v:Value)(r:List Int):Prop where
 ex:∃ (a:Addr) (o:Obj) (n:Nat) (p:Value) (x y m:Int) (t:Tok),v=.ref a/\r=[x,y,m]/\h.get? a=some o/\o.cls=.type "tuple"/\o.data=.seq #[p,.int m t] n/\sP h p [x,y]
end Dl
namespace HT
open PySem PyProof.Rows
section
open PySem.SeqAt
open PySem.AutoSeq1 (wpAny_loadPart')
open PySem.MeetsSeq PySem.MeetsSeq2 PySem.MeetsSeq3
end
end HT
namespace Dl
open PySem L2 PySem.Spec PyProof.Rows
def ig:List D->Option (List (List Int))
 | []=>some []
 | d::r=>(jo d).bind λns=>(ig r).map (ns::·)
section
variable {fl te:Env->Option D}{cs:List Nat}
end
def strsOf:List D->Option (List Str)
 | []=>some []
 | .str x::r=>(strsOf r).map (x::·)
 | _::_=>none
def mS:∀ {ds:List D}{xs:List Str},strsOf ds=some xs->ds=xs.map PyData.str
 | [],xs,h=>by cases h;rfl
 | d::ds,xs,h=>by
  cases d<;>try cases h
  let⟨ys,h1,rfl⟩:=ag (show (strsOf ds).map _=some xs from h);rw[zI,<- mS h1]
def pM:∀xs:List Str,strsOf (xs.map PyData.str)=some xs
 | []=>rfl
 | x::xs=>by rw[zI,strsOf,pM xs];rfl
def rg{K:W.Frag}:∀ {xs:List Str}{vs:List V},ax K H (xs.map PyData.str) vs->vs=xs.map V.str
 | [],vs,h=>h.nil_inv
 | x::xs,vs,h=>by
  let⟨v,r,rfl,a,c⟩:=h.cons_inv;simp?[Rep] at a;rw[a,rg c];rfl
def lR{K:W.Frag}:∀xs:List Str,ax K H (xs.map PyData.str) (xs.map V.str)
 | []=>ax.nil
 | x::xs=>ax.cons (by simp[Rep]) (lR xs)
def qp:∀ {xs:List Str}{us:List Value},aM (xs.map V.str) us->∃l:List (Str×Tok),us=strValues l/\l.map (·.1)=xs
 | [],us,h=>by cases h;exact⟨[],rfl,rfl⟩
 | x::xs,us,h=>by
  rw[zI] at h;cases h with
  | cons r rr =>
   let⟨t,rfl⟩:=r;let⟨l,rfl,e⟩:=qp rr;exact⟨(x,t)::l,rfl,by rw[zI,e]⟩
def lF:∀l:List (Str×Tok),aM ((l.map (·.1)).map V.str) (strValues l)
 | []=>.nil
 | (x,t)::l=>.cons ⟨t,rfl⟩ (lF l)
def bI:D->D->Option D
 | .str a,.str b=>if a.length+b.length<=sizeLine then some (.str (a++b)) else none
 | _,_=>none
def Du{K:W.Frag}:eB K (λx y H Q=>∃i j,x=.str i/\y=.str j/\i.length+j.length<=sizeLine/\Q (.str (i++j)) H) bI:=by
 intro HF H x y v1 v2 d Q sm r1 r2 hg q;cases x<;>try cases hg
 cases y<;>try cases hg
 rename_i a b;have hg:(if a.length+b.length<=sizeLine then some (PyData.str (a++b)) else none)=some d:=hg;split at hg
 ·rename_i hz;cases hg;simp?[Rep] at r1 r2;exact⟨a,b,r1,r2,hz,q _ H HF (.refl sm) (by simp[Rep])⟩
 ·cases hg
def iM:List D->Option D
 | [.int i]=>if i.natAbs.log2 < 1920 then some (.str (toString i)) else none
 | _=>none
def IR(B:nj X "str" (.type "str"))(ha:DA X [e] fs)(he:starEach [e] X.env=(false,eval e X.env)::starEach [] X.env:=by rfl):DE X (.Call (.Name "str" p) [e] [] pos) (aY iM fs) :=
 mf tZ (by
  intro HF H ds vs d Q sm r hg q;unfold iM at hg;split at hg
  ·rename_i i;split at hg
   ·rename_i hz;cases hg;let⟨v,r',rfl,a,e0⟩:=r.cons_inv;rw[e0.nil_inv];simp?[Rep] at a;subst a;exact⟨i,rfl,hz,q _ H HF (.refl sm) (by simp[Rep])⟩
   ·cases hg
  ·cases hg) B ha (by decide) (by decide) he rfl
def Hs:GM X "str.join" (λx vs H Q=>∃ (sep:Str) (l:Addr) (xs:List Str),x=.str sep/\vs=[.ref l]/\fS X.K H l (xs.map V.str)/\JoinOk sep xs=true/\Q (.str (Txt.join sep xs)) H):=by
 intro pins s σ H x vs v us Q I rx rv h;let⟨sep,l,xs,rfl,rfl,hq,hok,q⟩:=h;let⟨t,rfl⟩:=rx;let⟨u,rfl,ru⟩:=rv.one;cases ru;let⟨its,r,pl,hz⟩:=I.list hq;let⟨m,rfl,em⟩:=qp r;exact SC.join (l:=m) pl.isList em hok λt' k=>⟨.str _,H,I.tok _,⟨t',rfl⟩,q⟩
def dO:D->D->Option D
 | .str sep,.list es=>(strsOf es).bind λxs=>if JoinOk sep xs=true then some (.str (Txt.join sep xs)) else none
 | _,_=>none
def Hu{fo:Env->Option D}(hbase:attributeBase o "join" X.env (eval o X.env)=eval o X.env)
  (hfew:((backTo cpos (starEach [e] X.env)).all (λx=>!x.1)&&(backToKw cpos (keywordEach [] X.env)).all (λx=>x.1.isSome)&&decide ([e].length+([]:List Keyword).length+(if ([]:List Keyword).isEmpty then 0 else 1) < 30))=true)
  (hline:(apos.endLine == cpos.line)=true) (hs:starEach [e] X.env=(false,eval e X.env)::starEach [] X.env) (ho:DE X o fo) (he:DE X e fe):DE X (.Call (.Attribute o "join" apos) [e] [] cpos) (f2 dO fo fe) :=
 aN (j5 PySem.F.plainAttrs_str PySem.F.slot_str_join PySem.F.type_str_join Hs ho (bJ he cO hs) hbase hfew hline hs rfl) λσ H Q ⟨HF,ρ,d,sm,eo,hf,q⟩=>by
  let⟨x,hx,hf⟩:=bs hf;let⟨y,hy,hg⟩:=bs hf;refine⟨HF,ρ,x,sm,eo,hx,λv1 H1 HF1 g1 r1=>?_⟩;cases x<;>try cases hg
  cases y<;>try cases hg
  rename_i sep es;let⟨xs,h1,hg⟩:=bs (show (strsOf es).bind _=some d from hg);split at hg
  ·rename_i hok;cases hg;simp?[Rep] at r1;subst r1;refine⟨rfl,HF1,ρ,.list es,g1.fh,eo.mono g1.ff,hy,λv2 H2 HF2 g2 r2=>?_⟩;rw[mS h1] at r2;simp?[Rep] at r2;let⟨l,us,rfl,hl,rr⟩:=r2;rw[rg rr] at hl;exact⟨sep,l,xs,rfl,rfl,g2.fh.seq hl,hok,q _ H2 HF2 (g1.trans g2) (by simp[Rep])⟩
  ·cases hg
def zd{a b:Str}{t t':Tok}{s:Shared}{Q:Value->Shared->Prop}(hb:(b.length == 0)=false)(ha:a.length<=sizeLine)(hn:(Txt.split a b).length<=sizeLine)
  (q:∀ (l:List (Str×Tok)) (k:Nat),l.map (·.1)=Txt.split a b->Q (.ref s.heap.objs.size) { s with heap:=s.heap.push { cls:=.type "list",data:=.seq (strValues l).toArray },toks:=k }) :
  wpAny (model prog w) A (call (.builtin "str.split") [.str a t,.str b t']) Q E s:=by
 have whole:Txt.split a b=[a]->Q (.ref s.heap.objs.size) { s with heap:=s.heap.push { cls:=.type "list",data:=.seq [Value.str a t].toArray } }:=λe=>q [(a,t)] s.toks (by rw[e];rfl);cases h1:(decide (a.length < b.length)||decide (Builtin.Str.strKind a < Builtin.Str.strKind b)) with
 | true=>exact qV PySem.F.slot_str_split (typeIs_str _ _ _) PySem.F.entry_str_split (PySem.F.args_str_split_2 _ _) (meets_str_split_cannot_occur a b t t' h1) (whole (by unfold Txt.split;rw[yK h1]))
 | false =>
  have n1:¬ (decide (a.length < b.length)||decide (Builtin.Str.strKind a < Builtin.Str.strKind b))=true:=by rw[h1];exact yY
  cases h2:(Builtin.Str.occurrences a b 0 a.length (a.length+1)).isEmpty with
  | true=>exact qV PySem.F.slot_str_split (typeIs_str _ _ _) PySem.F.entry_str_split (PySem.F.args_str_split_2 _ _) (meets_str_split_not_found a b t t' h1 hb h2) (whole (by unfold Txt.split;rw[yM n1,yK h2]))
  | false =>
   have e:Txt.split a b=Builtin.Str.partsBetween a (Builtin.Str.occurrences a b 0 a.length (a.length+1)) b.length:=by unfold Txt.split;rw[yM n1,yM (by rw[h2];exact yY)]
   rw[e] at hn q;refine qV PySem.F.slot_str_split (typeIs_str _ _ _) PySem.F.entry_str_split (PySem.F.args_str_split_2 _ _) (meets_str_split_sep a b t t' h1 hb h2 ha hn) ?_;rw[strsFrom_eq];exact q (numbered s.toks _) _ (numbered_texts _ _)
def F9:GM X "str.split" (λx vs H Q=>∃a b:Str,x=.str a/\vs=[.str b]/\(b.length == 0)=false/\a.length<=sizeLine/\(Txt.split a b).length<=sizeLine/\∀D:Addr,H D=none->Q (.ref D) (upd H D (.lst ((Txt.split a b).map V.str)))):=by
 intro pins s σ H x vs v us Q I rx rv h;let⟨a,b,rfl,rfl,hb,ha,hn,q⟩:=h;let⟨t,rfl⟩:=rx;let⟨u,rfl,ru⟩:=rv.one;let⟨t',rfl⟩:=ru;refine zd hb ha hn λl k e=>?_;have hv:=lF l;rw[e] at hv;refine⟨.ref s.heap.objs.size,_,I.laid (t':=k) (o:=.lst ((Txt.split a b).map V.str)) (λ_ _ z=>zT _ z) (yL _) ⟨by rw[zD];exact hn,_,0,hv,zW _ rfl⟩,rfl,q _ I.fresh⟩
def bq:D->D->Option (List D)
 | .str a,.str b=>if (b.length == 0)=false/\a.length<=sizeLine/\(Txt.split a b).length<=sizeLine then some ((Txt.split a b).map PyData.str) else none
 | _,_=>none
def Fn{fo:Env->Option D}(hbase:attributeBase o "split" X.env (eval o X.env)=eval o X.env)
  (hfew:((backTo cpos (starEach [e] X.env)).all (λx=>!x.1)&&(backToKw cpos (keywordEach [] X.env)).all (λx=>x.1.isSome)&&decide ([e].length+([]:List Keyword).length+(if ([]:List Keyword).isEmpty then 0 else 1) < 30))=true)
  (hline:(apos.endLine == cpos.line)=true) (hs:starEach [e] X.env=(false,eval e X.env)::starEach [] X.env) (ho:DE X o fo) (he:DE X e fe):DF X (.Call (.Attribute o "split" apos) [e] [] cpos) (k6 bq fo fe) :=
 aN (j5 PySem.F.plainAttrs_str PySem.F.slot_str_split PySem.F.type_str_split F9 ho (bJ he cO hs) hbase hfew hline hs rfl) λσ H Q ⟨HF,ρ,d,sm,eo,hf,q⟩=>by
  let⟨x,hx,hf⟩:=bs hf;let⟨y,hy,hg⟩:=bs hf;refine⟨HF,ρ,x,sm,eo,hx,λv1 H1 HF1 g1 r1=>?_⟩;cases x<;>try cases hg
  cases y<;>try cases hg
  rename_i a b;have hg:(if (b.length == 0)=false/\a.length<=sizeLine/\(Txt.split a b).length<=sizeLine then some ((Txt.split a b).map PyData.str) else none)=some d:=hg;split at hg
  ·rename_i hc;cases hg;simp?[Rep] at r1;subst r1;refine⟨rfl,HF1,ρ,.str b,g1.fh,eo.mono g1.ff,hy,λv2 H2 HF2 g2 r2=>?_⟩;simp?[Rep] at r2;subst r2;refine⟨a,b,rfl,rfl,hc.1,hc.2.1,hc.2.2,λD hD=>?_⟩;have g3:=g1.trans g2;exact q D _ _ HF2 (g3.trans (.own g3.fh hD)) (g3.hh.free hD) (g3.fh.free hD) aP (lR _)
  ·cases hg
def Cm:GM X "str.index" (λx vs H Q=>∃ (a b:Str) (i:Nat) (r:List Nat),x=.str a/\vs=[.str b]/\Builtin.Str.occurrences a b 0 a.length 1=i::r/\Q (.int i) H):=by
 intro pins s σ H x vs v us Q I rx rv h;let⟨a,b,i,r,rfl,rfl,ho,q⟩:=h;let⟨t,rfl⟩:=rx;let⟨u,rfl,ru⟩:=rv.one;let⟨t',rfl⟩:=ru;exact SC.index ho ⟨.int i,H,I.tok _,⟨_,rfl⟩,q⟩
def lr:D->D->Option D
 | .str a,.str b=>match Builtin.Str.occurrences a b 0 a.length 1 with|i::_=>some (.int ((i:Nat):Int))|[]=>none
 | _,_=>none
def B4{fo:Env->Option D}(hbase:attributeBase o "index" X.env (eval o X.env)=eval o X.env)
  (hfew:((backTo cpos (starEach [e] X.env)).all (λx=>!x.1)&&(backToKw cpos (keywordEach [] X.env)).all (λx=>x.1.isSome)&&decide ([e].length+([]:List Keyword).length+(if ([]:List Keyword).isEmpty then 0 else 1) < 30))=true)
  (hline:(apos.endLine == cpos.line)=true) (hs:starEach [e] X.env=(false,eval e X.env)::starEach [] X.env) (ho:DE X o fo) (he:DE X e fe):DE X (.Call (.Attribute o "index" apos) [e] [] cpos) (f2 lr fo fe) :=
 aN (j5 PySem.F.plainAttrs_str PySem.F.slot_str_index PySem.F.type_str_index Cm ho (bJ he cO hs) hbase hfew hline hs rfl) λσ H Q ⟨HF,ρ,d,sm,eo,hf,q⟩=>by
  let⟨x,hx,hf⟩:=bs hf;let⟨y,hy,hg⟩:=bs hf;refine⟨HF,ρ,x,sm,eo,hx,λv1 H1 HF1 g1 r1=>?_⟩;cases x<;>try cases hg
  cases y<;>try cases hg
  rename_i a b;simp?[Rep] at r1;subst r1;refine⟨rfl,HF1,ρ,.str b,g1.fh,eo.mono g1.ff,hy,λv2 H2 HF2 g2 r2=>?_⟩;simp?[Rep] at r2;subst r2;cases ho:Builtin.Str.occurrences a b 0 a.length 1 with
  | nil=>simp?[lr,ho] at hg;cases hg
  | cons i r =>
   simp?[lr,ho] at hg;cases hg;exact⟨a,b,i,r,rfl,rfl,ho,q _ H2 HF2 (g1.trans g2) (by simp[Rep])⟩
def NR:D->D->Option Bool
 | .str a,.str b=>some (!(Builtin.Str.occurrences b a 0 b.length 1).isEmpty)
 | _,_=>none
def E8:eU X (compareOp .In) (Kh X.K NR):=by
 intro pins s σ H v1 v2 u1 u2 Q I rx ry h;let⟨HF,x,y,k,sm,r1,r2,hg,q⟩:=h;cases x<;>try cases hg
 cases y<;>try cases hg
 simp?[Rep] at r1 r2;subst r1 r2;exact BN pins s σ H _ _ u1 u2 Q I rx ry ⟨_,_,rfl,rfl,q⟩
def tv:D->D->Option Bool
 | .str a,.str b=>some (!(!(Builtin.Str.occurrences b a 0 b.length 1).isEmpty))
 | _,_=>none
def Eo:eU X (compareOp .NotIn) (Kh X.K tv):=by
 intro pins s σ H v1 v2 u1 u2 Q I rx ry h;let⟨HF,x,y,k,sm,r1,r2,hg,q⟩:=h;cases x<;>try cases hg
 cases y<;>try cases hg
 simp?[Rep] at r1 r2;subst r1 r2;exact ud pins s σ H _ _ u1 u2 Q I rx ry ⟨_,_,rfl,rfl,q⟩
def AG(n d:Nat)(o:Option Int)(hd:d<=n):(match o with|none=>((d:Nat):Int)|some i=>max 0 (min (if i < 0 then i+((n:Nat):Int) else i) ((n:Nat):Int)))=((HT.bO n d o:Nat):Int):=by
 cases o with
 | none=>rfl
 | some v =>
  show max 0 (min (if v < 0 then v+((n:Nat):Int) else v) ((n:Nat):Int))=(((if v < 0 then (v+(n:Int)).toNat else min v.toNat n):Nat):Int)
  by_cases h:v < 0
  ·rw[yK h,yK h];have:v+(n:Int)<=n:=by lia
   lia
  ·rw[yM h,yM h];lia
def uS(lo hi:Option Int)(n:Nat):Builtin.Str.strSliceIndices lo hi 1 n=(List.range (HT.bO n n hi - HT.bO n 0 lo)).map (λk=>HT.bO n 0 lo+k):=by
 have h1:=AG n 0 lo (xV _);have h2:=AG n n hi (yL _);have e:Builtin.Str.strSliceIndices lo hi 1 n=Builtin.Str.strSliceIndices (some ((HT.bO n 0 lo:Nat):Int)) (some ((HT.bO n n hi:Nat):Int)) 1 n:=by
  have l1:=HT.iK n 0 (xV _) lo;have l2:=HT.iK n n (yL _) hi;have a1:max (0:Int) (min ((HT.bO n 0 lo:Nat):Int) (n:Int))=((HT.bO n 0 lo:Nat):Int):=by lia
  have a2:max (0:Int) (min ((HT.bO n n hi:Nat):Int) (n:Int))=((HT.bO n n hi:Nat):Int):=by lia
  have n1:¬ (((HT.bO n 0 lo:Nat):Int) < 0):=by lia
  have n2:¬ (((HT.bO n n hi:Nat):Int) < 0):=by lia
  unfold Builtin.Str.strSliceIndices;simp?[show ((1:Int) > 0)=True from by simp,xG,n1,n2,qP,a1,a2];rw[<- h1,<- h2];cases lo<;>cases hi<;>rfl
 rw[e];rcases Nat.le_total (HT.bO n 0 lo) (HT.bO n n hi) with z|z
 ·exact StrLaws.strSliceIndices_plain z (HT.iK n n (yL _) hi)
 ·have e0:HT.bO n n hi - HT.bO n 0 lo=0:=by lia
  have l1:=HT.iK n 0 (xV _) lo;have l2:=HT.iK n n (yL _) hi;have a1:max (0:Int) (min ((HT.bO n 0 lo:Nat):Int) (n:Int))=((HT.bO n 0 lo:Nat):Int):=by lia
  have a2:max (0:Int) (min ((HT.bO n n hi:Nat):Int) (n:Int))=((HT.bO n n hi:Nat):Int):=by lia
  have n1:¬ (((HT.bO n 0 lo:Nat):Int) < 0):=by lia
  have n2:¬ (((HT.bO n n hi:Nat):Int) < 0):=by lia
  have n3:¬ (((HT.bO n 0 lo:Nat):Int) < ((HT.bO n n hi:Nat):Int)):=by lia
  unfold Builtin.Str.strSliceIndices;simp?[sliceRange,show ((1:Int) > 0)=True from by simp,xG,n1,n2,n3,qP,a1,a2,e0];rfl
def oH(a:Str)(lo hi:Option Int):Str:=⟨(cut a.cps.toList lo hi).toArray⟩
def y8(a:Str)(lo hi:Option Int):(⟨((Builtin.Str.strSliceIndices lo hi 1 a.length).filterMap (a.cps[·]?)).toArray⟩:Str)=oH a lo hi:=by
 unfold oH cut;rw[uS];have hl:a.cps.toList.length=a.length:=by simp[Str.length]
 rw[hl]
 congr 2
 rcases Nat.le_total (HT.bO a.length 0 lo) (HT.bO a.length a.length hi) with z|z
 ·have h:=StrLaws.picks a.cps.toList (HT.bO a.length a.length hi - HT.bO a.length 0 lo) (HT.bO a.length 0 lo) (by
   have:=HT.iK a.length a.length (yL _) hi;lia)
  simpa using h
 ·have e0:HT.bO a.length a.length hi - HT.bO a.length 0 lo=0:=by lia
  rw[e0];simp
def D3(a:Str)(lo hi:Option Int):(oH a lo hi).length<=a.length:=by
 have:=nI a.cps.toList lo hi;simpa [oH,Str.length] using this
def part_of{v:Value}{o:Option Int}(h:IsPart v o):∃l:Option (Int×Tok),v=partValue l/\l.map (·.1)=o:=by
 cases h with
 | none=>exact⟨none,rfl,rfl⟩
 | int i t=>exact⟨some (i,t),rfl,rfl⟩
def Ju(hg:Gl X x)(hm:X.mg x=some (.str i t))(hd:(x == ("__debug__":Str))=false:=by decide):DE X (.Name x pos) (fC (.str i)) :=
 aN (AY (v:=.str i) hg hm ⟨t,rfl⟩ hd) λσ H Q ⟨HF,ρ,d,sm,eo,hf,q⟩=>by cases hf;exact q _ H HF (.refl sm) (by simp[Rep])
def KB:Ib X (λx lo hi H Q=>∃a:Str,x=.str a/\a.length<=sizeLine/\Q (.str (oH a lo hi)) H):=by
 intro pins s σ H x v vl vu lo hi sl Q I rx hs pl pu h;let⟨a,rfl,hz,q⟩:=h;let⟨t,rfl⟩:=rx;let⟨l,rfl,rfl⟩:=part_of pl;let⟨u,rfl,rfl⟩:=part_of pu;refine⟨"str",_,PySem.F.slot_str_getitem.lookup,typeIs_str _ _ _,wpAny_getItem_str_slice (l:=l) (u:=u) (st:=none) hs rfl ?_⟩;have ep:(⟨((slicePicked a l u none).filterMap (a.cps[·]?)).toArray⟩:Str)=oH a (l.map (·.1)) (u.map (·.1)):=y8 a _ _;unfold sliceMade;by_cases hw:((Option.map (λx:Int×Tok=>x.1) none).getD 1 == 1&&(slicePicked a l u none).length == a.length)=true
 ·rw[yK hw];have hlen:(slicePicked a l u none).length=a.length:=by simpa using hw
  have e2:oH a (l.map (·.1)) (u.map (·.1))=a:=by
   have h1:HT.bO a.length a.length (u.map (·.1)) - HT.bO a.length 0 (l.map (·.1))=a.length:=by
    have:(slicePicked a l u none).length=HT.bO a.length a.length (u.map (·.1)) - HT.bO a.length 0 (l.map (·.1)):=by unfold slicePicked;rw[show ((Option.map (λx:Int×Tok=>x.1) none).getD 1:Int)=1 from rfl,uS,zD,zR]
    lia
   have l2:=HT.iK a.length a.length (yL _) (u.map (·.1));unfold oH cut;have hl:a.cps.toList.length=a.length:=by simp[Str.length]
   rw[hl,h1];by_cases h0:a.length=0
   ·have:a.cps.toList=[]:=List.length_eq_zero_iff.mp (by rw[hl];exact h0);cases a with
    | mk c=>simp at this;simp[this]
   ·rw[show HT.bO a.length 0 (l.map (·.1))=0 by lia,List.drop_zero,List.take_of_length_le (by rw[hl];exact yL _)]
  exact⟨.str a,H,I,⟨t,rfl⟩,by rw[e2] at q;exact q⟩
 ·rw[yM hw,ep];exact⟨yC (D3 _ _ _) hz,.str _,H,I.tok _,⟨_,rfl⟩,q⟩
def dz:D->Option Int->Option Int->Option D
 | .str a,lo,hi=>if a.length<=sizeLine then some (.str (oH a lo hi)) else none
 | _,_,_=>none
def HQ{lo hi:Option Expr}{fl fh:Env->Option (Option Int)}(ha:DE X a fa)(hl:DO X lo fl)(hh:DO X hi fh):DE X (.Subscript a (.Slice lo hi none p2) pos) (eI dz fa fl fh):=aN (vf KB ha hl hh) λσ H Q ⟨HF,ρ,d,sm,eo,hf,q⟩=>by
 let⟨x,hx,hf⟩:=bs hf;let⟨l,hl,hf⟩:=bs hf;let⟨u,hu,hf⟩:=bs hf;refine⟨HF,ρ,x,sm,eo,hx,λv1 H1 HF1 g1 r1=>⟨HF1,ρ,l,g1.fh,eo.mono g1.ff,hl,λH2 HF2 g2=>⟨HF2,ρ,u,g2.fh,eo.mono (g1.ff.trans g2.ff),hu,λH3 HF3 g3=>?_⟩⟩⟩;have G:=(g1.trans g2).trans g3;obtain⟨a,rfl⟩:∃a,x=.str a:=by
  cases x<;>first|exact⟨_,rfl⟩|cases hf
 simp?[Rep] at r1;subst r1;have hf:(if a.length<=sizeLine then some (PyData.str (oH a l u)) else none)=some d:=hf;split at hf
 ·rename_i hz;cases hf;exact⟨a,rfl,hz,q _ H3 HF3 G (by simp[Rep])⟩
 ·cases hf
def fj:List D->Option D
 | [.str x]=>if x.length<=sizeLine then some (.int ((x.length:Nat):Int)) else none
 | _=>none
def Iq(B:nj X "len" (.builtin "len"))(ha:DA X [e] fs)(he:starEach [e] X.env=(false,eval e X.env)::starEach [] X.env:=by rfl):DE X (.Call (.Name "len" p) [e] [] pos) (aY fj fs) :=
 gP td (by
  intro HF H ds vs d Q sm r hg q;unfold fj at hg;split at hg
  ·split at hg
   ·rename_i x hz;cases hg;let⟨v,r',rfl,a,e0⟩:=r.cons_inv;rw[e0.nil_inv];simp?[Rep] at a;subst a;exact⟨x,rfl,hz,q _ H HF (.refl sm) (by simp[Rep])⟩
   ·cases hg
  ·cases hg) B ha (by decide) (by decide) he rfl
def zh:D->D->Option D
 | .str z,.int i=>if z.length<=sizeLine then (md z.cps.toList i).map λc=>.str ⟨#[c]⟩ else none
 | _,_=>none
def Hf{K:W.Frag}:eB K KP zh:=by
 intro HF H x y v1 v2 d Q sm r1 r2 hg q;cases x<;>try cases hg
 cases y<;>try cases hg
 rename_i z i;have hg:(if z.length<=sizeLine then (md z.cps.toList i).map λc=>PyData.str ⟨#[c]⟩ else none)=some d:=hg;split at hg
 ·rename_i hz;let⟨c,hc,rfl⟩:=ag hg;simp?[Rep] at r1 r2;exact⟨z,i,c,r1,r2,hz,hc,q _ H HF (.refl sm) (by simp[Rep])⟩
 ·cases hg
def Lr(ha:DE X a fa)(hb:DE X b fb)(hs:nN b:=by intro _ _;rfl):DE X (.Subscript a b pos) (f2 zh fa fb):=aN (J6 EU ha hb hs) (E4 Hf)
def BF:du X (.type "int") (λxs H Q=>∃ (x:Str) (n:Int),xs=[.str x]/\PySem.intText? x=some n/\x.length<=640/\Q (.int n) H):=by
 intro pins s σ H xs us Q I r h;let⟨x,n,rfl,hn,hl,q⟩:=h;let⟨u,rfl,t,rfl⟩:=vals1 r;exact W.KIN.call_text hn hl ⟨.int n,H,I.tok _,⟨_,rfl⟩,q⟩
def ia:List D->Option D
 | [.str x]=>if x.length<=640 then (PySem.intText? x).map PyData.int else none
 | _=>none
def JI(B:nj X "int" (.type "int"))(ha:DA X [e] fs)(he:starEach [e] X.env=(false,eval e X.env)::starEach [] X.env:=by rfl):DE X (.Call (.Name "int" p) [e] [] pos) (aY ia fs) :=
 mf BF (by
  intro HF H ds vs d Q sm r hg q;unfold ia at hg;split at hg
  ·split at hg
   ·rename_i x hz;let⟨n,hn,rfl⟩:=ag hg;let⟨v,r',rfl,a,e0⟩:=r.cons_inv;rw[e0.nil_inv];simp?[Rep] at a;subst a;exact⟨x,n,rfl,hn,hz,q _ H HF (.refl sm) (by simp[Rep])⟩
   ·cases hg
  ·cases hg) B ha (by decide) (by decide) he rfl
def rX:D->D->Option D
 | .str a,.str b=>if (a.length == 0)=false/\(b.length == 0)=false/\a.length+b.length<=sizeLine then some (.str (a++b)) else none
 | _,_=>none
def rO(c d:Str):D->Option D
 | .str a=>if (c == d)=false/\a.length+(a.length+1) * d.length<=16777216 then some (.str (Txt.replace a c d)) else none
 | _=>none
def ya(h:rX x y=some z):∃a b,x=.str a/\y=.str b/\(a.length == 0)=false/\(b.length == 0)=false/\a.length+b.length<=sizeLine/\z=.str (a++b):=by
 cases x<;>try cases h
 cases y<;>try cases h
 rename_i a b;have h:(if (a.length == 0)=false/\(b.length == 0)=false/\a.length+b.length<=sizeLine then some (PyData.str (a++b)) else none)=some z:=h;split at h
 ·rename_i hc;cases h;exact⟨a,b,rfl,rfl,hc.1,hc.2.1,hc.2.2,rfl⟩
 ·cases h
def xn(h:rO c d x=some z):∃a,x=.str a/\(c == d)=false/\a.length+(a.length+1) * d.length<=16777216/\z=.str (Txt.replace a c d):=by
 cases x<;>try cases h
 rename_i a;have h:(if (c == d)=false/\a.length+(a.length+1) * d.length<=16777216 then some (PyData.str (Txt.replace a c d)) else none)=some z:=h;split at h
 ·rename_i hc;cases h;exact⟨a,rfl,hc.1,hc.2,rfl⟩
 ·cases h
def Hr{x c d:Str}{k1 k2:Nat}{p1 p2 p3 p4 apos cpos:Pos}(ha:DE X a fa)(hb:DE X b fb)(hN:X.N[i]?=some x)(hv:Gz X.env.scope x)(hd:(x == ("__debug__":Str))=false)(hcd:(x == ("__classdict__":Str))=false)(hline:(apos.endLine == cpos.line)=true) :
  DA X [.BinOp a .Add b p1,.Call (.Attribute (.Name x p2) "replace" apos) [.Constant (.str c) k1 p3,.Constant (.str d) k2 p4] [] cpos] (aa (f2 rX fa fb) (aa (f1 (rO c d) (ae i)) af)):=by
 intro pos pins s σ H Q I ⟨HF,ρ,ds,sm,eo,hf,q⟩;let⟨z1,h1,hf⟩:=bs hf;let⟨r1,h8,rfl⟩:=ag hf;let⟨z2,h7,h3⟩:=bs h8;cases h3;let⟨v1,h4,h1⟩:=bs h1;let⟨v2,h5,h10⟩:=bs h1;let⟨A1,B1,rfl,rfl,na,nb,hz,rfl⟩:=ya h10;let⟨v3,h6,h9⟩:=bs h7;let⟨C1,rfl,hcd',hz2,rfl⟩:=xn h9;show wpAny _ _ (spliced ((false,eval (.BinOp a .Add b p1) X.env)::(false,eval (.Call (.Attribute (.Name x p2) "replace" apos) [.Constant (.str c) k1 p3,.Constant (.str d) k2 p4] [] cpos) X.env)::[])) _ _ s;refine jI (wpAny_BinOp (bL (ha pins s σ H (λv H1=>∃HF1,bU HF H HF1 H1/\Rep X.K HF1 (.str A1) v) I ⟨HF,ρ,_,sm,eo,h4,λv H1 HF1 g1 r1=>⟨HF1,g1,r1⟩⟩) λu1 s1 ⟨w1,H1,I1,e1,HF1,g1,r1⟩=>?_));refine bL (hb pins s1 σ H1 (λv H2=>∃HF2,bU HF1 H1 HF2 H2/\Rep X.K HF2 (.str B1) v) I1 ⟨HF1,ρ,_,g1.fh,eo.mono g1.ff,h5,λv H2 HF2 g2 r2=>⟨HF2,g2,r2⟩⟩) λu2 s2 ⟨w2,H2,I2,e2,HF2,g2,r2⟩=>?_;simp?[Rep] at r1 r2;subst r1 r2;let⟨t1,rfl⟩:=e1;let⟨t2,rfl⟩:=e2;refine PySem.P.add_str ?_;rw[yM (by rw[na];simp),yM (by rw[nb];simp)];refine⟨by rw[Str.length_append];exact hz,?_⟩;have G:=g1.trans g2;have I3:=I2.tok (s2.toks+1);have eo2:=eo.mono G.ff;refine jI ?_;refine wpAny_Call_method_late rfl rfl hline rfl ?_;have hx:(ρ[i]?).getD none=some (PyData.str C1):=h6;obtain⟨w3,e3,r3⟩:∃v,σ[i]?=some (some v)/\Rep X.K HF2 (.str C1) v:=by
  cases e:ρ[i]? with
  | none=>rw[e] at hx;cases hx
  | some o =>
   rw[e] at hx;have hx:o=some (PyData.str C1):=hx;subst hx;exact eo2.get i _ e
 simp?[Rep] at r3;subst r3;let⟨m,hn,hl⟩:=I3.loc;let⟨u,ru,l⟩:=hl i x _ hN e3 hv;let⟨t3,rfl⟩:=ru;have fin:MethodOn X.prog X.w X.A "replace" cpos (.str C1 t3) (backTo cpos (starEach [.Constant (.str c) k1 p3,.Constant (.str d) k2 p4] X.env)) (λv s₁=>wpAny (model X.prog X.w) X.A (spliced []) (λvs s₂=>(λus s'=>∃xs H',Inv X pins σ H' s'/\aM xs us/\Q xs H') (.str (A1++B1) s2.toks::v::vs) s₂) X.xe s₁) X.xe { s2 with toks:=s2.toks+1 }:=by
  refine⟨"str","str.replace",PySem.F.plainAttrs_str,PySem.F.slot_str_replace,PySem.F.type_str_replace,typeIs_str _ _ _,(λa z=>by cases z),?_⟩;refine Calls.callWith_builtin rfl (Calls.evalArgs_plain (jI (vX (k:=k1) (pos:=p3) (jI (vX (k:=k2) (pos:=p4) (kC ?_))))));refine SC.replace (by simp) (by simp) (by simp) hcd' hz2 λt' k=>?_;refine kC ⟨[.str (A1++B1),.str (Txt.replace C1 c d)],H2,I3.tok _,.cons ⟨_,rfl⟩ (.cons ⟨_,rfl⟩ .nil),q _ H2 HF2 G (ax.cons (by simp[Rep]) (ax.cons (by simp[Rep]) ax.nil))⟩
 rcases l with ⟨hk,hm⟩|⟨hk,c',hc,hcell⟩
 ·exact vS (vN I3.ok.kind hk hn hm fin) hd
 ·rcases hk with hk|hk
  ·exact vS (wpAny_loadName_cell I3.ok.kind hk hc hcell fin) hd
  ·exact vS (wpAny_loadName_free I3.ok.kind hk hc hcell fin hcd) hd
end Dl
namespace Rf
open PySem L2 Dl PySem.Spec PyProof.Rows
variable {env:PySem.Env}
structure Tr where
 e:Expr->Option (Dl.Env->Option D)
 f:Expr->Option (Dl.Env->Option (List D))
 t:Expr->Option (Dl.Env->Option Bool)
structure Sg where
 fn:List (Str×Nat×(List D->Option D))
 int:List (Str×D)
abbrev FE:=Dl.Env->Option D
def yw(G:Sg)(sc:Scope)(N:List Str)(x:Str):Option FE:=match N.idxOf? x with
 | some i=>if wR N sc i x=true then some (ae i) else none
 | none=>if (uk sc x&&!(x == ("__debug__":Str)))=true then (G.int.lookup x).map λn=>fC n else none
def AN:Const->Option FE
 | .int i=>some (fC (.int i))
 | .bool b=>some (fC (.bool b))
 | .none=>some (fC .none)
 | .str x=>some (fC (.str x))
 | _=>none
def NW(T:Tr)(op:UnaryOp)(a:Expr):Option FE:=match op with
 | .USub=>(T.e a).map (f1 er)
 | _=>none
def P1:Operator->Option (D->D->Option D)
 | .Add=>some az
 | .Sub=>some Dl.ku
 | .Mult=>some bS
 | .FloorDiv=>some j9
 | .Mod=>some iL
 | _=>none
def Kx:Expr->Bool
 | .List ..=>true
 | .ListComp ..=>true
 | _=>false
def AA:Expr->Bool
 | .List ..=>true
 | .ListComp ..=>true
 | .BinOp a .Mult _ _=>Kx a
 | .BinOp a .Add b _=>AA a||AA b
 | .Call (.Name x _) _ _ _=>x == ("sorted":Str)||x == ("list":Str)
 | _=>false
def Dy(T:Tr)(whole a:Expr)(op:Operator)(b:Expr):Option FE :=
 if AA whole=true then (T.f whole).map ba else (P1 op).bind λg=>(T.e a).bind λx=>(T.e b).map λy=>f2 g x y
def tG(T:Tr)(op:BoolOp):List Expr->Option FE
 | []=>none
 | [a]=>T.e a
 | a::b::r=>(T.e a).bind λx=>(tG T op (b::r)).map λy=>match op with|.And=>jv x y|.Or=>PQ x y
def NN:CmpOp->Option (D->D->Option D)
 | .Lt=>some JY
 | .LtE=>some Bq
 | .Gt=>some uu
 | .GtE=>none
 | .Eq=>some aW
 | .NotEq=>some bb
 | .In=>some uP
 | .NotIn=>some Mn
 | .Is=>some Ff
 | .IsNot=>some uA
def O3:CmpOp->Option (D->D->Option D)
 | .Lt=>some JY
 | .LtE=>some Bq
 | _=>none
def AX(T:Tr)(a:Expr)(ops:List CmpOp)(cs:List Expr):Option FE:=match ops,cs with
 | [op],[b]=>if behindInMarks op b=false then (NN op).bind λg=>(T.e a).bind λx=>(T.e b).map λy=>f2 g x y else none
 | [op,op'],[b,c]=>if lastMarks [op,op'] [b,c]=false then (O3 op).bind λg=>(O3 op').bind λg'=>(T.e a).bind λx=>(T.e b).bind λy=>(T.e c).map λz=>iS g g' x y z else none
 | _,_=>none
def qb(T:Tr):List Expr->Option (Dl.Env->Option (List D))
 | []=>some af
 | e::es=>if isStar e=false then (T.e e).bind λx=>(qb T es).map λr=>aa x r else none
def Ov(T:Tr):Option Expr->Option (Dl.Env->Option (Option Int))
 | none=>some gL
 | some e=>(T.e e).map pZ
def Bo:Expr->Bool
 | .Slice ..=>true
 | .Tuple ..=>true
 | .Starred ..=>true
 | _=>false
def FH(T:Tr)(a b:Expr):Option FE:=match b with
 | .Slice lo hi none _=>(T.e a).bind λx=>(Ov T lo).bind λl=>(Ov T hi).map λh=>eI oN x l h
 | _=>if Bo b=false then (T.e a).bind λx=>(T.e b).map λy=>f2 bf x y else none
def Qh:List D->Option D:=λds=>(oneOf ds).bind λd=>match d with
 | .list es=>(boolsOf es).map λbs=>.bool (bs.any id)
 | _=>none
def my:Expr->Option Expr
 | .Call (.Name x _) [e] [] _=>if x="set" then some e else none
 | _=>none
def KU(x:Str):Option String:=if x="int" then some "int" else if x="bool" then some "bool" else if x="tuple" then some "tuple" else if x="list" then some "list" else none
def yc(G:Sg)(sc:Scope)(T:Tr)(whole:Expr)(x:Str)(args:List Expr):Option FE :=
 if (uk sc x&&args.all λe=>!isStar e)=true then
  match G.fn.lookup x with
  | some (n,m)=>if (args.isEmpty||x == ("__debug__":Str))=true then none else (qb T args).map λfs=>ah n m fs
  | none =>
   if x="len" then (match args with
    | [e]=>(match my e with
     | some e'=>if (uk sc "set"&&!isStar e')=true then (T.e e').map λy=>f1 jj y else none
     | none=>(qb T args).map λfs=>aY bz fs)
    | _=>none)
   else if x="isinstance" then (match args with
    | [e,.Name y _]=>if uk sc y=true then (KU y).bind λty=>(T.e e).map λz=>Cj ty z else none
    | _=>none)
   else if x="tuple" then (if args.length=1 then (qb T args).map λfs=>aY bx fs else none)
   else if x="all" then (if args.length=1 then (qb T args).map λfs=>aY gg fs else none)
   else if x="any" then (if args.length=1 then (qb T args).map λfs=>aY Qh fs else none)
   else if x="sum" then (if args.length=1 then (qb T args).map λfs=>aY pV fs else none)
   else if x="min" then (if args.isEmpty=true then none else (qb T args).map λfs=>aY Mi fs)
   else if (x == ("list":Str)||x == ("sorted":Str))=true then (T.f whole).map ba
   else none
 else none
def nR:Expr->Bool
 | .Call ..=>true
 | _=>false
def yp(T:Tr)(o:Expr)(m:Str)(apos:Pos)(args:List Expr)(cpos:Pos):Option FE :=
 if (m == ("index":Str)&&apos.endLine == cpos.line&&!nR o)=true then (match args with
  | [e]=>if isStar e=false then (T.e o).bind λx=>(T.e e).map λy=>f2 Oa x y else none
  | _=>none)
 else none
def AH(G:Sg)(sc:Scope)(N:List Str)(T:Tr)(whole:Expr):Option FE:=match whole with
 | .Name x _=>yw G sc N x
 | .Constant c _ _=>AN c
 | .UnaryOp op a _=>NW T op a
 | .BinOp a op b _=>Dy T whole a op b
 | .BoolOp op es _=>tG T op es
 | .Compare a ops cs _=>AX T a ops cs
 | .IfExp c a b _=>(T.t c).bind λz=>(T.e a).bind λx=>(T.e b).map λy=>iD z x y
 | .Tuple es _ _=>(qb T es).map ay
 | .Subscript a b _=>FH T a b
 | .List ..=>(T.f whole).map ba
 | .ListComp ..=>(T.f whole).map ba
 | .Call (.Name x _) args [] _=>yc G sc T whole x args
 | .Call (.Name _ _) _ (_::_) _=>(T.f whole).map ba
 | .Call (.Attribute o m apos) args [] cpos=>yp T o m apos args cpos
 | _=>none
def OE(T:Tr)(op:BoolOp):List Expr->Option (Dl.Env->Option Bool)
 | []=>none
 | [a]=>T.t a
 | a::b::r=>(T.t a).bind λx=>(OE T op (b::r)).map λy=>match op with|.And=>fI x y|.Or=>dE x y
def FK:Expr->Bool
 | .Name ..=>true
 | .Call ..=>true
 | .Subscript ..=>true
 | _=>false
def stepT(T:Tr)(whole:Expr):Option (Dl.Env->Option Bool):=match whole with
 | .Compare a ops cs _=>(AX T a ops cs).map fB
 | .UnaryOp .Not a _=>(T.t a).map bC
 | .BoolOp op es _=>OE T op es
 | _=>if FK whole=true then (T.e whole).map fB else none
def tO:Expr->Bool
 | .Tuple ..=>true
 | _=>false
def NK(sc:Scope)(T:Tr)(tg iter:Expr):Option (Dl.Env->Option (List D)):=match iter with
 | .Call (.Name x _) args [] _ =>
  if x="range" then (match args with|[e]=>if (uk sc "range"&&!isStar e)=true then (qb T args).map bN else none|_=>none)
  else if x="enumerate" then (match args with|[e]=>if (uk sc "enumerate"&&!isStar e&&tO tg)=true then (qb T args).map bE else none|_=>none)
  else if x="zip" then (match args with|[e,e']=>if (uk sc "zip"&&!isStar e&&!isStar e'&&tO tg)=true then (qb T args).map eL else none|_=>none)
  else (T.e iter).map aE
 | .Set ..=>none
 | _=>(T.e iter).map aE
def PD:Expr->Option (List Str)
 | .Name x _=>some [x]
 | .Tuple [.Name x _,.Name y _] _ _=>some [x,y]
 | _=>none
def Pc:Expr->Option (List Str)
 | .Tuple [.Name x _,.Name y _,.Name z _] _ _=>some [x,y,z]
 | tg=>PD tg
def lD(N:List Str)(scope:Scope):List Nat:=(List.range N.length).filter λj=>match N[j]? with|some x=>decide (scope.names.lookup x=some .free)|none=>false
def Lm:Expr->Bool
 | .Set ..=>false
 | _=>true
def JP(B:Tr)(ifs:List Expr):Option (Dl.Env->Option Bool):=match ifs with
 | []=>some λ_=>some true
 | [c]=>B.t c
 | _=>none
def uh(sc:Scope)(N:List Str)(T:Tr)(blk:Scope->List Str->Tr)(elt:Expr)(gens:List Comprehension)(scope:Scope):Option (Dl.Env->Option (List D)):=match gens with
 | [⟨tg,iter,ifs,as⟩] =>
  if as=0 then (Pc tg).bind λxs =>
   if (tP sc scope N (xs++(lD N scope).filterMap λj=>N[j]?) xs.length (lD N scope)&&(List.range xs.length).all λi=>sj (xs++(lD N scope).filterMap λj=>N[j]?) scope i (xs.getD i ""))=true then
    (NK sc T tg iter).bind λfi=>(JP (blk scope (xs++(lD N scope).filterMap λj=>N[j]?)) ifs).bind λtt =>
     ((blk scope (xs++(lD N scope).filterMap λj=>N[j]?)).e elt).map λte=>ao xs.length (lD N scope) fi (match xs with|[_]=>fG 0|[_,_]=>iA 0 1|_=>Qa 0 1 2) tt te
   else none
  else none
 | _=>none
def vh(lam:Option Str)(sc:Scope)(N:List Str)(T:Tr)(blk lmb:Scope->List Str->Tr)(whole:Expr):Option (Dl.Env->Option (List D)):=match whole with
 | .List es _=>(qb T es).map bQ
 | .ListComp elt gens scope _=>uh sc N T blk elt gens scope
 | .BinOp a .Mult b _=>if Kx a=true then (T.f a).bind λx=>(T.e b).map λy=>uV x y else none
 | .BinOp a .Add b _=>(T.e a).bind λx=>(T.e b).map λy=>k6 nq x y
 | .Call (.Name x _) [e] [] _ =>
  if (uk sc x&&!isStar e)=true then
   if x="list" then (qb T [e]).map λfs=>jx cK fs
   else if x="sorted" then (qb T [e]).map λfs=>jx fR fs
   else none
  else none
 | _=>none
def HA:List Str:=["line","word","text","_law_line","_law_word","_law_text_here","_law_spoilt","_law_sign","DIGITS","POINT"]
def rN:Nat->Expr->Bool
 | 0,_=>false
 | n+1,e=>match e with
  | .Constant (.str _) _ _=>true
  | .Name x _=>HA.contains x
  | .BinOp a .Add b _=>rN n a||rN n b
  | .IfExp _ a b _=>rN n a||rN n b
  | .Subscript a (.Slice ..) _=>rN n a
  | .Call (.Attribute _ m _) _ _ _=>m == ("join":Str)
  | .Call (.Name x _) _ _ _=>x == ("str":Str)
  | _=>false
abbrev tx(e:Expr):Bool:=rN 20 e
def Dx(G:Sg)(sc:Scope)(T:Tr)(x:Str)(e:Expr):Option FE :=
 if (uk sc x&&(!isStar e&&(G.fn.lookup x).isNone))=true then
  if (x == ("len":Str)&&tx e)=true then (qb T [e]).map λfs=>aY fj fs
  else if (x == ("str":Str))=true then (qb T [e]).map λfs=>aY iM fs
  else if (x == ("int":Str)&&tx e)=true then (qb T [e]).map λfs=>aY ia fs
  else none
 else none
def FB(T:Tr)(o:Expr)(m:Str)(apos:Pos)(e:Expr)(cpos:Pos):Option FE :=
 if (apos.endLine == cpos.line&&(!nR o&&!isStar e))=true then
  if (m == ("join":Str))=true then (T.e o).bind λx=>(T.e e).map λy=>f2 dO x y
  else if (m == ("split":Str))=true then (T.e o).bind λx=>(T.e e).map λy=>ba (k6 bq x y)
  else if (m == ("index":Str)&&tx o)=true then (T.e o).bind λx=>(T.e e).map λy=>f2 lr x y
  else none
 else none
def Gy(T:Tr)(a b:Expr):Option FE:=match b with
 | .Slice lo hi none _=>(T.e a).bind λx=>(Ov T lo).bind λl=>(Ov T hi).map λh=>eI dz x l h
 | _=>if Bo b=false then (T.e a).bind λx=>(T.e b).map λy=>f2 zh x y else none
def OG:CmpOp->Option (D->D->Option D)
 | .In=>some λx y=>(NR x y).map PyData.bool
 | .NotIn=>some λx y=>(tv x y).map PyData.bool
 | _=>none
def Aq(T:Tr)(a:Expr)(ops:List CmpOp)(cs:List Expr):Option FE:=match ops,cs with
 | [op],[b]=>if (tx b&&!behindInMarks op b)=true then (OG op).bind λg=>(T.e a).bind λx=>(T.e b).map λy=>f2 g x y else none
 | _,_=>none
def Ei(G:Sg)(sc:Scope)(T:Tr)(whole:Expr):Option FE:=match whole with
 | .BinOp a .Add b _=>if (tx a||tx b)=true then (T.e a).bind λx=>(T.e b).map λy=>f2 bI x y else none
 | .Subscript a b _=>if tx a=true then Gy T a b else none
 | .Call (.Name x _) [e] [] _=>Dx G sc T x e
 | .Call (.Attribute o m apos) [e] [] cpos=>FB T o m apos e cpos
 | .Compare a ops cs _=>Aq T a ops cs
 | _=>none
def Dk(G:Sg)(sc:Scope)(N:List Str)(T:Tr)(whole:Expr):Option FE:=match Ei G sc T whole with
 | some f=>some f
 | none=>AH G sc N T whole
def D0(T:Tr)(whole:Expr):Option (Dl.Env->Option Bool):=match whole with
 | .Compare a ops cs _=>(Aq T a ops cs).map fB
 | _=>none
def Gx(T:Tr)(whole:Expr):Option (Dl.Env->Option Bool):=match D0 T whole with
 | some f=>some f
 | none=>stepT T whole
def KN:List Expr->Option (Str×Str)
 | [.Constant (.str p) _ _,.Constant (.str q) _ _]=>some (p,q)
 | _=>none
def Mt:Expr->Option (Str×Str×Pos)
 | .Attribute (.Name x _) m apos=>some (x,m,apos)
 | _=>none
def FY:Expr->Option (Expr×Expr)
 | .BinOp u .Add v _=>some (u,v)
 | _=>none
def Dc:Expr->Option (Expr×List Expr×Pos)
 | .Call f as [] cpos=>some (f,as,cpos)
 | _=>none
def Ew(sc:Scope)(N:List Str)(T:Tr)(whole:Expr):Option (Dl.Env->Option (List D)):=match whole with
 | .List [a,b,c,s,k] _=>(FY s).bind λ(u,v)=>(Dc k).bind λ(f,as,cpos)=>(Mt f).bind λ(x,m,apos)=>(KN as).bind λ(p,q) =>
  if ((m == ("replace":Str)&&apos.endLine == cpos.line)&&(!isStar a&&(!isStar b&&!isStar c)))=true then (N.idxOf? x).bind λi=>if wR N sc i x=true then
   (T.e a).bind λfa=>(T.e b).bind λfb=>(T.e c).bind λfc=>(T.e u).bind λfu=>(T.e v).map λfv=>bQ (aa fa (aa fb (aa fc (aa (f2 rX fu fv) (aa (f1 (rO p q) (ae i)) af))))) else none
  else none
 | _=>none
def FJ(lam:Option Str)(sc:Scope)(N:List Str)(T:Tr)(blk lmb:Scope->List Str->Tr)(whole:Expr):Option (Dl.Env->Option (List D)):=match Ew sc N T whole with
 | some f=>some f
 | none=>vh lam sc N T blk lmb whole
def P7(mg:Str->Option Value)(x:Str):D->Prop
 | .int i=>∃t,mg x=some (.int i t)
 | .str a=>∃t,mg x=some (.str a t)
 | _=>False
def tr(G:Sg):Nat->Option Str->Scope->List Str->Tr
 | 0,_,_,_=>⟨λ_=>none,λ_=>none,λ_=>none⟩
 | n+1,lam,sc,N=>⟨Dk G sc N (tr G n lam sc N),FJ lam sc N (tr G n lam sc N) (tr G n none) (tr G n none),Gx (tr G n lam sc N)⟩
structure MJ(G:Sg)(X:Cx)(j:Nat):Prop where
 fn:∀x n m,G.fn.lookup x=some (n,m)->Gm X.prog X.w X.K X.mg X.base j x n m
 int:∀x i,G.int.lookup x=some i->P7 X.mg x i
 bn:Bn X
structure n8(X:Cx)(tg iter:Expr)(ifs:List Expr)(elt:Expr)(scope:Scope)(f:Dl.Env->Option (List D)):Prop where
 ex:∃ (N':List Str) (t:Nat) (cs:List Nat) (fi:Dl.Env->Option (List D)) (tgt:Dl.Env->D->Option Dl.Env) (tt:Dl.Env->Option Bool) (te:FE),f=ao t cs fi tgt tt te/\eF X scope N' (fE t cs)/\DI X tg iter fi/\(∀x,foldedSetIterable iter X.env x=pure x) /\
  ∀fp s H,DG (aq X scope N' fp s H) tg tgt/\Kd (aq X scope N' fp s H) ifs tt/\DE (aq X scope N' fp s H) elt te
structure bM(X:Cx)(T:Tr):Prop where
 c:∀elt gens scope p f,T.f (.ListComp elt gens scope p)=some f->∃tg iter ifs,gens=[⟨tg,iter,ifs,0⟩]/\n8 X tg iter ifs elt scope f
 e:∀e f,T.e e=some f->DE X e f
 f:∀e f,T.f e=some f->DF X e f
 t:∀e f,T.t e=some f->DT X e f
section
variable {G:Sg}{X:Cx}{N:List Str}{sc:Scope}{k j:Nat}{T:Tr}{pos p:Pos}
def CG(C:Bk X N sc k)(g:MJ G X j)(h:yw G sc N x=some f):DE X (.Name x pos) f:=by
 unfold yw at h;split at h
 ·split at h
  ·cases h;exact C.v _ ‹_›
  ·cases h
 ·split at h
  ·rename_i hg;let⟨n,hn,rfl⟩:=ag h;have z:=g.int x n hn;simp?[zF,yO] at hg;cases n<;>first|exact False.elim z|(let⟨t,ht⟩:=z;first|exact Jp (C.gl hg.1) ht hg.2|exact Ju (C.gl hg.1) ht hg.2)
  ·cases h
def yv(h:AN c=some f):DE X (.Constant c i pos) f:=by
 cases c<;>cases h<;>first|exact K5|exact NU|exact KI|exact Mu
def GU(C:Bk X N sc k)(O:bM X T)(h:NW T op a=some f):DE X (.UnaryOp op a pos) f:=by
 cases op<;>try cases h
 ·let⟨x,hx,rfl⟩:=ag h;exact C.neg (O.e _ _ hx)
def Fw(C:Bk X N sc k)(O:bM X T)(h:Dy T (.BinOp a op b pos) a op b=some f):DE X (.BinOp a op b pos) f:=by
 unfold Dy at h;split at h
 ·let⟨x,hx,rfl⟩:=ag h;exact DF.de (O.f _ _ hx)
 ·let⟨g,hg,h⟩:=bs h;let⟨x,hx,h⟩:=bs h;let⟨y,hy,rfl⟩:=ag h;cases op<;>cases hg
  ·exact C.add (O.e _ _ hx) (O.e _ _ hy)
  ·exact C.sub (O.e _ _ hx) (O.e _ _ hy)
  ·exact C.mul (O.e _ _ hx) (O.e _ _ hy)
  ·exact C.mod (O.e _ _ hx) (O.e _ _ hy)
  ·exact C.div (O.e _ _ hx) (O.e _ _ hy)
def rE(O:bM X T):∀ {es:List Expr}{f:FE},tG T op es=some f->DE X (.BoolOp op es pos) f
 | [],f,h=>by cases h
 | [a],f,h=>KE (O.e _ _ h)
 | a::b::r,f,h=>by
  unfold tG at h;let⟨x,hx,h⟩:=bs h;let⟨y,hy,rfl⟩:=ag h;have ih:=rE O hy;cases op with
  | And=>exact Mg (O.e _ _ hx) ih
  | Or=>exact NZ (O.e _ _ hx) ih
def K0(C:Bk X N sc k)(hg:NN op=some g)(hm:behindInMarks op b=false)(ha:DE X a x)(hb:DE X b y):DE X (.Compare a [op] [b] pos) (f2 g x y)/\DT X (.Compare a [op] [b] pos) (fB (f2 g x y)):=by
 cases op<;>cases hg
 ·exact⟨C.eq ha hb,C.teq ha hb⟩
 ·exact⟨C.ne ha hb,C.tne ha hb⟩
 ·exact⟨C.lt ha hb,C.tlt ha hb⟩
 ·exact⟨C.le ha hb,C.tle ha hb⟩
 ·exact⟨C.gt ha hb,C.tgt ha hb⟩
 ·exact⟨C.is0 ha hb,C.tis0 ha hb⟩
 ·exact⟨C.not0 ha hb,C.tnot0 ha hb⟩
 ·exact⟨C.isin ha hb hm,C.tin ha hb hm⟩
 ·exact⟨C.notin ha hb hm,C.tnin ha hb hm⟩
def Kq(C:Bk X N sc k)(h:O3 op=some g):∃r,eU X (compareOp op) r/\eB X.K r g:=by
 cases op<;>cases h
 ·exact⟨_,FX.or (zr C.room.units0),lY iV dq⟩
 ·exact⟨_,C9,iV⟩
def va(C:Bk X N sc k)(O:bM X T){cs:List Expr}(h:AX T a ops cs=some f):DE X (.Compare a ops cs pos) f/\DT X (.Compare a ops cs pos) (fB f):=by
 unfold AX at h;split at h
 ·split at h
  ·rename_i hm;let⟨g,hg,h⟩:=bs h;let⟨x,hx,h⟩:=bs h;let⟨y,hy,rfl⟩:=ag h;exact K0 C hg hm (O.e _ _ hx) (O.e _ _ hy)
  ·cases h
 ·split at h
  ·rename_i hm;let⟨g,hg,h⟩:=bs h;let⟨g',hg',h⟩:=bs h;let⟨x,hx,h⟩:=bs h;let⟨y,hy,h⟩:=bs h;let⟨z,hz,rfl⟩:=ag h;let⟨r,r1,r2⟩:=Kq C hg;let⟨r',r1',r2'⟩:=Kq C hg';exact⟨Gj r1 r2 r1' r2' (O.e _ _ hx) (O.e _ _ hy) (O.e _ _ hz) hm,DN r1 r2 r1' r2' (O.e _ _ hx) (O.e _ _ hy) (O.e _ _ hz) hm⟩
  ·cases h
 ·cases h
def cB(O:bM X T):∀ {es:List Expr}{fs:Dl.Env->Option (List D)},qb T es=some fs->DA X es fs
 | [],fs,h=>by cases h;exact LQ
 | e::es,fs,h=>by
  unfold qb at h;split at h
  ·rename_i hs;let⟨x,hx,h⟩:=bs h;let⟨r,hr,rfl⟩:=ag h;exact GO hs (O.e _ _ hx) (cB O hr)
  ·cases h
def ur(O:bM X T)(h:Ov T o=some f):DO X o f:=by
 cases o with
 | none=>cases h;exact Im
 | some e=>let⟨x,hx,rfl⟩:=ag h;exact GZ (O.e _ _ hx)
def o7(h:Bo b=false):nN b:=by
 cases b<;>first|(intro _ _;rfl)|cases h
def Dp(C:Bk X N sc k)(O:bM X T)(h:FH T a b=some f):DE X (.Subscript a b pos) f:=by
 unfold FH at h;split at h
 ·let⟨x,hx,h⟩:=bs h;let⟨l,hl,h⟩:=bs h;let⟨u,hu,rfl⟩:=ag h;exact C.cut (O.e _ _ hx) (ur O hl) (ur O hu)
 ·split at h
  ·rename_i hc;let⟨x,hx,h⟩:=bs h;let⟨y,hy,rfl⟩:=ag h;exact Nl (O.e _ _ hx) (O.e _ _ hy) (o7 hc)
  ·cases h
def fF{env:PySem.Env}:∀ {es:List Expr},(es.all λe=>!isStar e)=true->(backTo pos (starEach es env)).any (·.1)=false
 | [],_=>rfl
 | e::es,h=>by
  rw[xS,zF,yO] at h;rw[bA h.1];show (false||(backTo pos (starEach es env)).any (·.1))=false;rw[fF h.2];rfl
def EN(h:my e=some e'):∃p q,e=.Call (.Name "set" p) [e'] [] q:=by
 unfold my at h;split at h
 ·split at h
  ·rename_i hx;cases h;subst hx;exact⟨_,_,rfl⟩
  ·cases h
 ·cases h
def HL(h:KU y=some ty):y∈cR/\bootBuiltins y=some (.type ty)/\y≠"__name__"/\(y == ("__debug__":Str))=false:=by
 unfold KU at h;split at h
 ·rename_i e;cases h;subst e;exact⟨by decide +kernel,by decide +kernel,by decide,by decide⟩
 ·split at h
  ·rename_i e;cases h;subst e;exact⟨by decide +kernel,by decide +kernel,by decide,by decide⟩
  ·split at h
   ·rename_i e;cases h;subst e;exact⟨by decide +kernel,by decide +kernel,by decide,by decide⟩
   ·split at h
    ·rename_i e;cases h;subst e;exact⟨by decide +kernel,by decide +kernel,by decide,by decide⟩
    ·cases h
def LH:bootBuiltins "any"=some (.builtin "any"):=by decide +kernel
def Lo:bootBuiltins "sum"=some (.builtin "sum"):=by decide +kernel
def Lb:bootBuiltins "min"=some (.builtin "min"):=by decide +kernel
def yd(h:l.length=1):∃a,l=[a]:=by
 match l,h with
 | [a],_=>exact⟨a,rfl⟩
def BG(C:Bk X N sc k)(g:MJ G X j)(hjk:j<=k)(O:bM X T)(h:yc G sc T (.Call (.Name x p) args [] pos) x args=some f):DE X (.Call (.Name x p) args [] pos) f:=by
 unfold yc at h;split at h
 ·rename_i hg;rw[zF] at hg;let⟨hg,hs⟩:=hg;have st1:∀ {e:Expr}{es:List Expr},args=e::es->starEach (e::es) X.env=(false,eval e X.env)::starEach es X.env:=λ{e es} q=>by
   subst q;rw[xS,zF,yO] at hs;exact bA hs.1
  have st2:∀ {e:Expr}{es:List Expr},args=e::es->(backTo pos (starEach es X.env)).any (·.1)=false:=λ{e es} q=>by
   subst q;rw[xS,zF] at hs;exact fF hs.2
  split at h
  ·rename_i n m hfn;split at h
   ·cases h
   ·rename_i hne;let⟨fs,hfs,rfl⟩:=ag h;cases args with
    | nil=>exact absurd (by simp) hne
    | cons e es =>
     have hd:(x == ("__debug__":Str))=false:=by simpa using hne
     exact Jj (g.fn x n m hfn) (C.room.mono hjk) (C.gl hg) (cB O hfs) hd (st1 rfl) (st2 rfl)
  ·split at h
   ·rename_i hx;subst hx;split at h
    ·rename_i e;split at h
     ·rename_i e' he';split at h
      ·rename_i hg2;rw[zF,yO] at hg2;let⟨y,hy,rfl⟩:=ag h;let⟨p1,p2,rfl⟩:=EN he';exact CA C.calm (C.blt g.bn hg (by decide +kernel) zq) (C.blt g.bn hg2.1 (by decide +kernel) Lh) (O.e _ _ hy) (bA hg2.2)
      ·cases h
     ·let⟨fs,hfs,rfl⟩:=ag h;exact L3 (C.blt g.bn hg (by decide +kernel) zq) (cB O hfs) (st1 rfl)
    ·cases h
   ·split at h
    ·rename_i hx;subst hx;split at h
     ·rename_i e y py;split at h
      ·rename_i hgy;let⟨ty,hty,h⟩:=bs h;let⟨z,hz,rfl⟩:=ag h;let⟨t1,t2,t3,t4⟩:=HL hty;exact Nc (C.blt g.bn hg (by decide +kernel) p9) (C.blt g.bn hgy t1 t2) (O.e _ _ hz) t3 t4 (st1 rfl)
      ·cases h
     ·cases h
    ·split at h
     ·rename_i hx;subst hx;split at h
      ·rename_i hl;let⟨fs,hfs,rfl⟩:=ag h;let⟨e,rfl⟩:=yd hl;exact Ed (C.blt g.bn hg (by decide +kernel) wK) (cB O hfs) (st1 rfl)
      ·cases h
     ·split at h
      ·rename_i hx;subst hx;split at h
       ·rename_i hl;let⟨fs,hfs,rfl⟩:=ag h;let⟨e,rfl⟩:=yd hl;exact Md C.calm (C.blt g.bn hg (by decide +kernel) Mf) (cB O hfs) (st1 rfl)
       ·cases h
      ·split at h
       ·rename_i hx;subst hx;split at h
        ·rename_i hl;let⟨fs,hfs,rfl⟩:=ag h;let⟨e,rfl⟩:=yd hl;exact MK C.calm (C.blt g.bn hg (by decide +kernel) LH) (st1 rfl) (cB O hfs)
        ·cases h
       ·split at h
        ·rename_i hx;subst hx;split at h
         ·rename_i hl;let⟨fs,hfs,rfl⟩:=ag h;let⟨e,rfl⟩:=yd hl;exact LJ C.calm (C.blt g.bn hg (by decide +kernel) Lo) (st1 rfl) (cB O hfs)
         ·cases h
        ·split at h
         ·rename_i hx;subst hx;split at h
          ·cases h
          ·rename_i hl;let⟨fs,hfs,rfl⟩:=ag h;cases args with
           | nil=>exact absurd rfl hl
           | cons e es =>
            exact LV C.calm (C.blt g.bn hg (by decide +kernel) Lb) (st1 rfl) (st2 rfl) (cB O hfs)
         ·split at h
          ·let⟨y,hy,rfl⟩:=ag h;exact DF.de (O.f _ _ hy)
          ·cases h
 ·cases h
end
section
variable {G:Sg}{X:Cx}{N:List Str}{sc:Scope}{k j:Nat}{T:Tr}{pos p:Pos}
def Je(h:isStar e=false):((backTo cpos (starEach [e] env)).all (λx=>!x.1)&&(backToKw cpos (keywordEach [] env)).all (λx=>x.1.isSome)&&decide ([e].length+([]:List Keyword).length+(if ([]:List Keyword).isEmpty then 0 else 1) < 30))=true:=by
 rw[bA h];rfl
def fW(h:nR o=false):attributeBase o a env w=w:=by
 cases o<;>first|rfl|cases h
def CU(C:Bk X N sc k)(O:bM X T)(h:yp T o m apos args cpos=some f):DE X (.Call (.Attribute o m apos) args [] cpos) f:=by
 unfold yp at h;split at h
 ·rename_i hm;rw[zF,zF,yO] at hm;let⟨⟨hm1,hm⟩,hcl⟩:=hm;have e1:m="index":=eq_of_beq hm1;subst e1;split at h
  ·rename_i e;split at h
   ·rename_i hs;let⟨x,hx,h⟩:=bs h;let⟨y,hy,rfl⟩:=ag h;exact Bw (fW hcl) (Je hs) hm (bA hs) (O.e _ _ hx) (O.e _ _ hy)
   ·cases h
  ·cases h
 ·cases h
def Em(C:Bk X N sc k)(g:MJ G X j)(hjk:j<=k)(O:bM X T)(h:AH G sc N T e=some f):DE X e f:=by
 unfold AH at h;split at h
 ·exact CG C g h
 ·exact yv h
 ·exact GU C O h
 ·exact Fw C O h
 ·exact rE O h
 ·exact (va C O h).1
 ·let⟨z,hz,h⟩:=bs h;let⟨x,hx,h⟩:=bs h;let⟨y,hy,rfl⟩:=ag h;exact Ox (O.t _ _ hz) (O.e _ _ hx) (O.e _ _ hy)
 ·let⟨x,hx,rfl⟩:=ag h;exact Ld (cB O hx)
 ·exact Dp C O h
 ·let⟨x,hx,rfl⟩:=ag h;exact DF.de (O.f _ _ hx)
 ·let⟨x,hx,rfl⟩:=ag h;exact DF.de (O.f _ _ hx)
 ·exact BG C g hjk O h
 ·let⟨x,hx,rfl⟩:=ag h;exact DF.de (O.f _ _ hx)
 ·exact CU C O h
 ·cases h
def F3(O:bM X T):∀ {es:List Expr}{f:Dl.Env->Option Bool},OE T op es=some f->DW X (.BoolOp op es pos) f
 | [],f,h=>by cases h
 | [a],f,h=>by
  cases op with
  | And=>exact GW (O.t _ _ h)
  | Or=>exact KY (O.t _ _ h)
 | a::b::r,f,h=>by
  unfold OE at h;let⟨x,hx,h⟩:=bs h;let⟨y,hy,rfl⟩:=ag h;have ih:=F3 O hy;cases op with
  | And=>exact Lw (O.t _ _ hx) ih
  | Or=>exact Nw (O.t _ _ hx) ih
def FI(C:Bk X N sc k)(O:bM X T)(h:stepT T e=some f):DT X e f:=by
 unfold stepT at h;split at h
 ·let⟨x,hx,rfl⟩:=ag h;exact (va C O hx).2
 ·let⟨x,hx,rfl⟩:=ag h;exact K6 (O.t _ _ hx)
 ·exact DW.dt (F3 O h)
 ·split at h
  ·rename_i hp;let⟨x,hx,rfl⟩:=ag h;refine MV (O.e _ _ hx) ?_;revert hp;cases e<;>first|(intro hp;cases hp;done)|(intro hp _;rfl)
  ·cases h
def MS(h:Lm e=true):∀x,foldedSetIterable e env x=pure x:=by
 cases e<;>first|(intro _;rfl)|cases h
def yj(C:Bk X N sc k)(B:Bn X)(O:bM X T)(h:NK sc T tg iter=some fi):DI X tg iter fi/\∀x,foldedSetIterable iter X.env x=pure x:=by
 unfold NK at h;split at h
 ·refine⟨?_,λ_=>rfl⟩;split at h
  ·rename_i hx;subst hx;split at h
   ·split at h
    ·rename_i hg;rw[zF,yO] at hg;let⟨x,hx,rfl⟩:=ag h;exact Ez (C.blt B hg.1 (by decide +kernel) F5) (cB O hx) (bA hg.2)
    ·cases h
   ·cases h
  ·split at h
   ·rename_i hx;subst hx;split at h
    ·split at h
     ·rename_i hg;simp?[zF,yO] at hg;let⟨x,hx,rfl⟩:=ag h;cases tg<;>first|exact IT (C.blt B hg.1.1 (by decide +kernel) um) (cB O hx) (bA hg.1.2)|exact absurd hg.2 (by simp[tO])
     ·cases h
    ·cases h
   ·split at h
    ·rename_i hx;subst hx;split at h
     ·split at h
      ·rename_i e e' hg;simp?[zF,yO] at hg;let⟨x,hx,rfl⟩:=ag h;cases tg<;>first|exact JG (C.blt B hg.1.1.1 (by decide +kernel) K8) (bA hg.1.1.2) (fF (by simp[hg.1.2])) (cB O hx)|exact absurd hg.2 (by simp[tO])
      ·cases h
     ·cases h
    ·let⟨x,hx,rfl⟩:=ag h;exact Gr (O.e _ _ hx)
 ·cases h
 ·rename_i h1 h2;let⟨x,hx,rfl⟩:=ag h;refine⟨Gr (O.e _ _ hx),MS ?_⟩;cases iter<;>first|rfl|exact absurd rfl (h2 _ _ _)
def Mm(h:PD tg=some xs):(∃x px,tg=.Name x px/\xs=[x])\/∃x px y py m pt,tg=.Tuple [.Name x px,.Name y py] m pt/\xs=[x,y]:=by
 unfold PD at h;split at h
 ·cases h;exact .inl ⟨_,_,rfl,rfl⟩
 ·cases h;exact .inr ⟨_,_,_,_,_,_,rfl,rfl⟩
 ·cases h
def Me(h:Pc tg=some xs):((∃x px,tg=.Name x px/\xs=[x])\/∃x px y py m pt,tg=.Tuple [.Name x px,.Name y py] m pt/\xs=[x,y])\/∃x px y py z pz m pt,tg=.Tuple [.Name x px,.Name y py,.Name z pz] m pt/\xs=[x,y,z]:=by
 unfold Pc at h;split at h
 ·cases h;exact .inr ⟨_,_,_,_,_,_,_,_,rfl,rfl⟩
 ·exact .inl (Mm h)
def rV(C:Bk X N sc k)(B:Bn X)(O:bM X T)(OB:∀scope N' fp s H,Bk (aq X scope N' fp s H) N' scope k->bM (aq X scope N' fp s H) (blk scope N'))
  (h:uh sc N T blk elt [⟨tg,iter,ifs,as⟩] scope=some f):as=0/\n8 X tg iter ifs elt scope f:=by
 unfold uh at h;dsimp only at h;split at h
 ·rename_i has;refine⟨has,?_⟩;let⟨xs,hxs,h⟩:=bs h;split at h
  ·rename_i hok;rw[zF] at hok;let⟨fi,hfi,h⟩:=bs h;let⟨tt,htt,h⟩:=bs h;let⟨te,hte,rfl⟩:=ag h;let⟨S,CB⟩:=C.comp hok.1;let⟨hd,hfold⟩:=yj C B O hfi;refine⟨_,_,_,_,_,_,_,rfl,S,hd,hfold,λfp s H=>?_⟩;have C1:=CB fp s H;have O1:=OB scope _ fp s H C1;refine⟨?_,?_,O1.e _ _ hte⟩
   ·rcases Me hxs with (⟨x,px,rfl,rfl⟩|⟨x,px,y,py,m,pt,rfl,rfl⟩)|⟨x,px,y,py,z,pz,m,pt,htg,rfl⟩
    ·have z:=C1.loc (i:=0) (x:=x) (List.all_eq_true.mp hok.2 0 (by simp));exact AZ 0 z.1 z.2.1 z.2.2.1 z.2.2.2
    ·have z:=C1.loc (i:=0) (x:=x) (List.all_eq_true.mp hok.2 0 (by simp));have w:=C1.loc (i:=1) (x:=y) (List.all_eq_true.mp hok.2 1 (by simp));exact Mr 0 1 C1.calm z.1 z.2.1 z.2.2.1 w.2.1 w.2.2.1 z.2.2.2 w.2.2.2
    ·have z0:=C1.loc (i:=0) (x:=x) (List.all_eq_true.mp hok.2 0 (by simp));have w:=C1.loc (i:=1) (x:=y) (List.all_eq_true.mp hok.2 1 (by simp));have u:=C1.loc (i:=2) (x:=z) (List.all_eq_true.mp hok.2 2 (by simp));subst htg;exact FF 0 1 2 C1.calm z0.1 z0.2.1 z0.2.2.1 w.2.1 w.2.2.1 u.2.1 u.2.2.1 z0.2.2.2 w.2.2.2 u.2.2.2
   ·unfold JP at htt;split at htt
    ·cases htt;exact A4
    ·exact Jc (O1.t _ _ htt)
    ·cases htt
  ·cases h
 ·cases h
def n8.df(hc:X.calm=true)(h:n8 X tg iter ifs elt scope f):DF X (.ListComp elt [⟨tg,iter,ifs,0⟩] scope pos) f:=by
 let⟨N',t,cs,fi,tgt,tt,te,rfl,S,hd,hfold,hY⟩:=h.ex;exact Jt hc S hd hY hfold
def EA(C:Bk X N sc k)(B:Bn X)(hlam:∀q,lam=some q->J1 X q/\j+3<=k)(O:bM X T)
  (OB:∀scope N' fp s H,Bk (aq X scope N' fp s H) N' scope k->bM (aq X scope N' fp s H) (blk scope N'))
  (OL:∀scope N' qual A f c s H,Bk (Ku X A qual scope N' f c s H) N' scope (k - 3)->j<=k - 3->bM (Ku X A qual scope N' f c s H) (lmb scope N')) {e:Expr}{f:Dl.Env->Option (List D)}(h:vh lam sc N T blk lmb e=some f):DF X e f:=by
 unfold vh at h;split at h
 ·let⟨x,hx,rfl⟩:=ag h;exact D6 (cB O hx)
 ·rename_i elt gens scope ps
  match gens,h with
  | [⟨tg,iter,ifs,as⟩],h =>
   let⟨rfl,q⟩:=rV C B O OB h;exact q.df C.calm
 ·split at h
  ·let⟨x,hx,h⟩:=bs h;let⟨y,hy,rfl⟩:=ag h;exact MN (O.f _ _ hx) (O.e _ _ hy)
  ·cases h
 ·let⟨x,hx,h⟩:=bs h;let⟨y,hy,rfl⟩:=ag h;exact KJ (O.e _ _ hx) (O.e _ _ hy)
 ·split at h
  ·rename_i hg;rw[zF,yO] at hg;split at h
   ·rename_i hx;subst hx;let⟨x,hx,rfl⟩:=ag h;exact IV (C.blt B hg.1 (by decide +kernel) HC) (cB O hx) (bA hg.2)
   ·split at h
    ·rename_i hx;subst hx;let⟨x,hx,rfl⟩:=ag h;exact CS (C.blt B hg.1 (by decide +kernel) Co) (cB O hx) (bA hg.2)
    ·cases h
  ·cases h
 ·cases h
def HR(C:Bk X N sc k)(B:Bn X)(O:bM X T)(OB:∀scope N' fp s H,Bk (aq X scope N' fp s H) N' scope k->bM (aq X scope N' fp s H) (blk scope N'))
  {elt:Expr}{gens:List Comprehension}{scope:Scope}{p:Pos}{f:Dl.Env->Option (List D)}(h:vh lam sc N T blk lmb (.ListComp elt gens scope p)=some f):∃tg iter ifs,gens=[⟨tg,iter,ifs,0⟩]/\n8 X tg iter ifs elt scope f:=by
 have h:uh sc N T blk elt gens scope=some f:=h
 match gens,h with
 | [⟨tg,iter,ifs,as⟩],h =>
  let⟨rfl,q⟩:=rV C B O OB h;exact⟨tg,iter,ifs,rfl,q⟩
def Ms:bootBuiltins "str"=some (.type "str"):=by decide +kernel
def C7(C:Bk X N sc k)(g:MJ G X j)(O:bM X T)(h:Dx G sc T x e=some f):DE X (.Call (.Name x p) [e] [] pos) f:=by
 unfold Dx at h;split at h
 ·rename_i hg;simp?[zF,yO] at hg;let⟨hg,hs,_⟩:=hg;split at h
  ·rename_i hc;rw[zF] at hc;obtain rfl:=eq_of_beq hc.1;let⟨fs,hf,rfl⟩:=ag h;exact Iq (C.blt g.bn hg (by decide +kernel) zq) (cB O hf) (bA hs)
  ·split at h
   ·rename_i hc;obtain rfl:=eq_of_beq hc;let⟨fs,hf,rfl⟩:=ag h;exact IR (C.blt g.bn hg (by decide +kernel) Ms) (cB O hf) (bA hs)
   ·split at h
    ·rename_i hc;rw[zF] at hc;obtain rfl:=eq_of_beq hc.1;let⟨fs,hf,rfl⟩:=ag h;exact JI (C.blt g.bn hg (by decide +kernel) LA) (cB O hf) (bA hs)
    ·cases h
 ·cases h
def Fb(O:bM X T)(h:FB T o m apos e cpos=some f):DE X (.Call (.Attribute o m apos) [e] [] cpos) f:=by
 unfold FB at h;split at h
 ·rename_i hg;simp?[zF,yO] at hg;let⟨hl,hc,hs⟩:=hg;split at h
  ·rename_i hm;obtain rfl:=eq_of_beq hm;let⟨x,hx,h⟩:=bs h;let⟨y,hy,rfl⟩:=ag h;exact Hu (fW hc) (Je hs) hl (bA hs) (O.e _ _ hx) (O.e _ _ hy)
  ·split at h
   ·rename_i hm;obtain rfl:=eq_of_beq hm;let⟨x,hx,h⟩:=bs h;let⟨y,hy,rfl⟩:=ag h;exact DF.de (Fn (fW hc) (Je hs) hl (bA hs) (O.e _ _ hx) (O.e _ _ hy))
   ·split at h
    ·rename_i hm;rw[zF] at hm;obtain rfl:=eq_of_beq hm.1;let⟨x,hx,h⟩:=bs h;let⟨y,hy,rfl⟩:=ag h;exact B4 (fW hc) (Je hs) hl (bA hs) (O.e _ _ hx) (O.e _ _ hy)
    ·cases h
 ·cases h
def Gi(O:bM X T)(h:Gy T a b=some f):DE X (.Subscript a b pos) f:=by
 unfold Gy at h;split at h
 ·let⟨x,hx,h⟩:=bs h;let⟨l,hl,h⟩:=bs h;let⟨u,hu,rfl⟩:=ag h;exact HQ (O.e _ _ hx) (ur O hl) (ur O hu)
 ·split at h
  ·rename_i hc;let⟨x,hx,h⟩:=bs h;let⟨y,hy,rfl⟩:=ag h;exact Lr (O.e _ _ hx) (O.e _ _ hy) (o7 hc)
  ·cases h
def LU(hg:OG op=some g)(hm:behindInMarks op b=false)(ha:DE X a x)(hb:DE X b y):DE X (.Compare a [op] [b] pos) (f2 g x y)/\DT X (.Compare a [op] [b] pos) (fB (f2 g x y)):=by
 cases op<;>cases hg
 ·exact⟨fH E8 dq ha hb hm,fg E8 dq ha hb hm⟩
 ·exact⟨fH Eo dq ha hb hm,fg Eo dq ha hb hm⟩
def u6(O:bM X T){cs:List Expr}(h:Aq T a ops cs=some f):DE X (.Compare a ops cs pos) f/\DT X (.Compare a ops cs pos) (fB f):=by
 unfold Aq at h;split at h
 ·split at h
  ·rename_i hm;rw[zF,yO] at hm;let⟨g,hg,h⟩:=bs h;let⟨x,hx,h⟩:=bs h;let⟨y,hy,rfl⟩:=ag h;exact LU hg hm.2 (O.e _ _ hx) (O.e _ _ hy)
  ·cases h
 ·cases h
def Fs(C:Bk X N sc k)(g:MJ G X j)(O:bM X T)(h:Ei G sc T e=some f):DE X e f:=by
 unfold Ei at h;split at h
 ·split at h
  ·let⟨x,hx,h⟩:=bs h;let⟨y,hy,rfl⟩:=ag h;exact rG xw Du (O.e _ _ hx) (O.e _ _ hy)
  ·cases h
 ·split at h
  ·exact Gi O h
  ·cases h
 ·exact C7 C g O h
 ·exact Fb O h
 ·exact (u6 O h).1
 ·cases h
def FP(O:bM X T)(h:D0 T e=some f):DT X e f:=by
 unfold D0 at h;split at h
 ·let⟨x,hx,rfl⟩:=ag h;exact (u6 O hx).2
 ·cases h
def BZ{p q:Str}(h:KN as=some (p,q)):∃k1 p1 k2 p2,as=[.Constant (.str p) k1 p1,.Constant (.str q) k2 p2]:=by
 unfold KN at h;split at h
 ·cases h;exact⟨_,_,_,_,rfl⟩
 ·cases h
def CM(h:Mt e=some (x,m,p)):∃p1,e=.Attribute (.Name x p1) m p:=by
 unfold Mt at h;split at h
 ·cases h;exact⟨_,rfl⟩
 ·cases h
def yi(h:FY e=some (u,v)):∃p,e=.BinOp u .Add v p:=by
 unfold FY at h;split at h
 ·cases h;exact⟨_,rfl⟩
 ·cases h
def zc(h:Dc e=some (f,as,p)):e=.Call f as [] p:=by
 unfold Dc at h;split at h
 ·cases h;rfl
 ·cases h
def Ds(C:Bk X N sc k)(O:bM X T)(h:Ew sc N T e=some f):DF X e f:=by
 unfold Ew at h;split at h
 ·let⟨⟨u,v⟩,n1,h1⟩:=bs h;let⟨⟨g0,as0,cp⟩,n2,h2⟩:=bs h1;let⟨⟨x,m,ap⟩,n3,h3⟩:=bs h2;let⟨⟨p,q⟩,n4,h4⟩:=bs h3;clear h h1 h2 h3;let⟨_,rfl⟩:=yi n1;obtain rfl:=zc n2;let⟨_,rfl⟩:=CM n3;let⟨_,_,_,_,rfl⟩:=BZ n4;clear n1 n2 n3 n4;have h:=h4;clear h4;dsimp only at h;split at h
  ·rename_i hc;simp?[zF,yO] at hc;let⟨⟨hm,hl⟩,h1,h2,h3⟩:=hc;obtain rfl:=eq_of_beq hm;let⟨i,hi,h⟩:=bs h;split at h
   ·rename_i hv;let⟨fa,ha,h⟩:=bs h;let⟨fb,hb,h⟩:=bs h;let⟨fc,hc,h⟩:=bs h;let⟨fu,hu,h⟩:=bs h;let⟨fv,hw,rfl⟩:=ag h;let⟨z1,z2,z3,z4⟩:=C.vis hv;exact D6 (GO h1 (O.e _ _ ha) (GO h2 (O.e _ _ hb) (GO h3 (O.e _ _ hc) (Hr (O.e _ _ hu) (O.e _ _ hw) z1 z2 z3 z4 hl))))
   ·cases h
  ·cases h
 ·cases h
def C2(C:Bk X N sc k)(O:bM X T)(hM:∀f,vh lam sc N T blk lmb e=some f->DF X e f)(h:FJ lam sc N T blk lmb e=some f):DF X e f:=by
 unfold FJ at h;split at h
 ·cases h;exact Ds C O ‹_›
 ·exact hM _ h
def Eb(C:Bk X N sc k)(g:MJ G X j)(O:bM X T)(hM:∀f,AH G sc N T e=some f->DE X e f)(h:Dk G sc N T e=some f):DE X e f:=by
 unfold Dk at h;split at h
 ·cases h;exact Fs C g O ‹_›
 ·exact hM _ h
def Dz(O:bM X T)(hM:∀f,stepT T e=some f->DT X e f)(h:Gx T e=some f):DT X e f:=by
 unfold Gx at h;split at h
 ·cases h;exact FP O ‹_›
 ·exact hM _ h
def Av(n:Nat):∀ {lam:Option Str}{X:Cx}{N:List Str}{sc:Scope}{k:Nat},Bk X N sc k->MJ G X j->j<=k->(∀q,lam=some q->J1 X q/\j+3<=k)->bM X (tr G n lam sc N):=by
 induction n with
 | zero=>intro lam X N sc k C g hjk hlam;exact⟨λ_ _ _ _ _ h=>(by cases h),λ_ _ h=>(by cases h),λ_ _ h=>(by cases h),λ_ _ h=>(by cases h)⟩
 | succ n ih =>
  intro lam X N sc k C g hjk hlam;have O:=ih C g hjk hlam;exact⟨λelt gens scope p f h=>HR (lam:=lam) (lmb:=tr G n none) (p:=p) C g.bn O (λscope N' fp s H C'=>ih C' ⟨g.fn,g.int,g.bn⟩ hjk λq z=>by cases z) h,λe f h=>Eb C g O (λf h=>Em C g hjk O h) h,
   λe f h=>C2 C O (λf h=>EA C g.bn hlam O (λscope N' fp s H C'=>ih C' ⟨g.fn,g.int,g.bn⟩ hjk λq z=>by cases z) (λscope N' qual A f c s H C' hk=>ih C' ⟨g.fn,g.int,g.bn⟩ hk λq z=>by cases z) h) h,
   λe f h=>Dz O (λf h=>FI C O h) h⟩
end
def oo:Nat->Expr->List Str
 | 0,_=>[]
 | n+1,e=>match e with
  | .Name x _=>[x]
  | .UnaryOp _ a _=>oo n a
  | .BinOp a _ b _=>oo n a++oo n b
  | .BoolOp _ es _=>es.flatMap (oo n)
  | .Compare a _ cs _=>oo n a++cs.flatMap (oo n)
  | .IfExp c a b _=>oo n c++(oo n a++oo n b)
  | .Tuple es _ _=>es.flatMap (oo n)
  | .List es _=>es.flatMap (oo n)
  | .Subscript a b _=>oo n a++oo n b
  | .Slice lo hi st _=>(lo.toList++(hi.toList++st.toList)).flatMap (oo n)
  | .Call f args kws _=>oo n f++(args.flatMap (oo n)++kws.flatMap λk=>oo n k.value)
  | .Attribute o _ _=>oo n o
  | .ListComp elt gens _ _=>oo n elt++gens.flatMap λg=>oo n g.iter++g.ifs.flatMap (oo n)
  | .Lambda _ b _ _=>oo n b
  | _=>[]
def pY(N:List Str)(e:Expr):List Nat:=let ns:=oo 60 e;(List.range N.length).filter λj=>match N[j]? with|some x=>ns.contains x|none=>false
abbrev GS:=au->Option Out
def turns:Nat:=1000000
def y4:Expr->Bool
 | .ListComp ..=>true
 | .SetComp ..=>true
 | .DictComp ..=>true
 | _=>false
def E7(sc:Scope)(N:List Str)(T:Tr)(x:Str)(px:Pos)(e:Expr):Option GS :=
 (N.idxOf? x).bind λi=>if sj N sc i x=true then
  (if AA e=true then (match e with
   | .ListComp _ _ scope lp =>
    if (decide (sc.names.lookup x=some .local)&&(px.line == lp.line&&!(scope.names.any λ(n,k)=>n == x&&(k == .local || k == .cell))))=true then (T.f e).map λf=>aX i (pY N e) f
    else if decide (sc.names.lookup x=some .cell)=true then (T.f e).map λf=>aX i (pY N e) f
    else if (px.line == lp.line)=false then (T.f e).map λf=>aX i (pY N e) f
    else none
   | _=>(T.f e).map λf=>aX i (pY N e) f)
  else if y4 e=false then (T.e e).map λf=>aO i (pY N e) f else none) else none
def EY(N:List Str)(sc:Scope)(T:Tr)(e:Expr):Option GS:=match e with
 | .Constant (.str _) _ _=>some dQ
 | .Call (.Attribute (.Name x _) m apos) args [] cpos =>
  (N.idxOf? x).bind λi=>if (wR N sc i x&&apos.endLine == cpos.line&&args.all λe=>!isStar e)=true then
   (if m="append" then (match args with
    | [a]=>(T.e a).map λf=>nv i (pY N a) f
    | _=>none)
   else if m="extend" then (match args with
    | [a]=>(T.f a).map λf=>BM i (pY N a) f
    | _=>none)
   else if m="insert" then (match args with
    | [a,b]=>(T.e a).bind λfk=>(T.e b).map λf=>By i (pY N b) fk f
    | _=>none)
   else none) else none
 | .Call (.Name _ _) _ _ _=>(T.e e).map iu
 | _=>none
def PF(sc:Scope)(N:List Str)(tg:Expr):Option (au->D->Option au):=match tg with
 | .Name x _=>(N.idxOf? x).bind λi=>if sj N sc i x=true then some (v7 i) else none
 | .Tuple [.Name x _,.Name y _] _ _=>(N.idxOf? x).bind λi=>(N.idxOf? y).bind λj=>if (sj N sc i x&&sj N sc j y)=true then some (eQ i j) else none
 | _=>none
def EG(sc:Scope)(N:List Str)(T:Tr)(x:Str)(kx e:Expr):Option GS :=
 (N.idxOf? x).bind λi=>if (wR N sc i x&&!Bo kx)=true then (T.e kx).bind λfk=>(T.e e).map λf=>Od i (pY N e) fk f else none
def FW(sc:Scope)(N:List Str)(T:Tr)(t e:Expr):Option GS:=match t with
 | .Name x px=>E7 sc N T x px e
 | .Subscript v kx _=>(match v with
  | .Name x _=>EG sc N T x kx e
  | _=>none)
 | _=>none
def oW(f:Stmt->Option GS):List Stmt->Option GS
 | []=>some dQ
 | [s]=>f s
 | s::r=>(f s).bind λg=>(oW f r).map λh=>aw g h
def sZ(sc:Scope)(N:List Str)(T:Tr):Nat->Stmt->Option GS
 | 0,_=>none
 | n+1,st=>match st with
  | .Return (some e) _=>(T.e e).map aG
  | .If c a b _=>(T.t c).bind λt=>(oW (sZ sc N T n) a).bind λg=>(oW (sZ sc N T n) b).map λh=>dC t g h
  | .Assign [t] e _=>FW sc N T t e
  | .For tg iter body [] _=>(NK sc T tg iter).bind λfi=>(PF sc N tg).bind λt=>(oW (sZ sc N T n) body).map λg=>dJ (pY N iter) fi t g
  | .While c body [] _=>(T.t c).bind λt=>(oW (sZ sc N T n) body).map λg=>M5 t g turns
  | .Expr e _=>EY N sc T e
  | .Raise ..=>some uI
  | .Pass _=>some dQ
  | _=>none
section
variable {X:Cx}{N:List Str}{sc:Scope}{k:Nat}{T:Tr}{HF₀ H₀:Hp}{pos:Pos}
def gV(H:∀s g,f s=some g->DS X HF₀ H₀ s g):∀ {l:List Stmt}{g:GS},oW f l=some g->z6 X HF₀ H₀ l g
 | [],g,h=>by cases h;exact Hx
 | [s],g,h=>AE (H _ _ h)
 | s::t::r,g,h=>by
  unfold oW at h;let⟨x,hx,h⟩:=bs h;let⟨y,hy,rfl⟩:=ag h;exact FR (H _ _ hx) (gV H hy)
def mI(h:y4 e=false):swapsWith e (some (.Name x px)) line env=pure false:=by
 cases e<;>first|rfl|cases h
def EK(C:Bk X N sc k)(O:bM X T)(h:E7 sc N T x px e=some g):DS X HF₀ H₀ (.Assign [.Name x px] e pos) g:=by
 unfold E7 at h;let⟨i,hi,h⟩:=bs h;split at h
 ·rename_i hloc;let⟨z1,z2,z3,z4⟩:=C.loc hloc;split at h
  ·split at h
   ·rename_i elt gens scope lp hl;split at h
    ·rename_i hc;rw[zF] at hc;let⟨f,hf,rfl⟩:=ag h;let⟨tg,iter,ifs,rfl,q⟩:=O.c _ _ _ _ _ hf;let⟨N',t,cs,fi,tgt,tt,te,rfl,S,hd,hfold,hY⟩:=q.ex;exact GX i _ C.calm S hd hY z1 z2 (C.locl hc.1) (C.swap hc.1 hc.2) hfold
    ·split at h
     ·rename_i hc;let⟨f,hf,rfl⟩:=ag h;exact uj i _ z1 z2 z3 (O.f _ _ hf) (C.noswap hc) z4
     ·split at h
      ·rename_i hc;let⟨f,hf,rfl⟩:=ag h;refine uj i _ z1 z2 z3 (O.f _ _ hf) ?_ z4;rw[pG,hc];simp
      ·cases h
   ·rename_i hl hn;let⟨f,hf,rfl⟩:=ag h;refine uj i _ z1 z2 z3 (O.f _ _ hf) (mI ?_) z4;cases e<;>first|rfl|exact absurd rfl (hn _ _ _ _)|(rename_i hl _;cases hl;done)
  ·split at h
   ·rename_i hc;let⟨f,hf,rfl⟩:=ag h;exact K7 i _ z1 z2 z3 (O.e _ _ hf) (mI hc) z4
   ·cases h
 ·cases h
def yl(h:(es.all λe=>!isStar e)=true)(hl:es.length < 20):((backTo cpos (starEach es env)).all (λx=>!x.1)&&(backToKw cpos (keywordEach [] env)).all (λx=>x.1.isSome)&&decide (es.length+([]:List Keyword).length+(if ([]:List Keyword).isEmpty then 0 else 1) < 30))=true:=by
 have h1:(backTo cpos (starEach es env)).all (λx=>!x.1)=true:=by
  have:=fF (pos:=cpos) (env:=env) h;rw[List.all_eq_not_any_not];simpa using this
 rw[h1];simp[backToKw,keywordEach];lia
def Gc(C:Bk X N sc k)(O:bM X T)(h:EY N sc T e=some g):DS X HF₀ H₀ (.Expr e pos) g:=by
 unfold EY at h;split at h
 ·cases h;exact KS
 ·rename_i x px m apos args cpos;replace h:=bs h;let⟨i,hi,h⟩:=h;split at h
  ·rename_i hv;simp?[zF] at hv;let⟨⟨hv,hline⟩,hs⟩:=hv;let⟨z1,z2,z3,z4⟩:=C.vis hv;split at h
   ·rename_i hm;subst hm;split at h
    ·let⟨f,hf,rfl⟩:=ag h;exact Cf i _ z1 z2 (O.e _ _ hf) z3 z4 (yl hs (by simp)) hline (bA (by simpa using hs))
    ·cases h
   ·split at h
    ·rename_i hm;subst hm;split at h
     ·let⟨f,hf,rfl⟩:=ag h;exact B5 i _ z1 z2 (O.f _ _ hf) z3 z4 (yl hs (by simp)) hline (bA (by simpa using hs))
     ·cases h
    ·split at h
     ·rename_i hm;subst hm;split at h
      ·let⟨fk,hfk,h⟩:=bs h;let⟨f,hf,rfl⟩:=ag h;have hs':=hs;simp?[xS,List.all_nil,Bool.and_true,zF,yO] at hs';exact Cp i _ z1 z2 (O.e _ _ hfk) (O.e _ _ hf) z3 z4 (yl hs (by simp)) hline (bA hs'.1) (bA hs'.2)
      ·cases h
     ·cases h
  ·cases h
 ·let⟨f,hf,rfl⟩:=ag h;exact G6 rfl (O.e _ _ hf)
 ·cases h
def L5(C:Bk X N sc k)(h:PF sc N tg=some t):OP X HF₀ H₀ tg t:=by
 unfold PF at h;split at h
 ·let⟨i,hi,h⟩:=bs h;split at h
  ·rename_i hl;cases h;have z:=C.loc hl;exact Dj i z.1 z.2.1 z.2.2.1 z.2.2.2
  ·cases h
 ·let⟨i,hi,h⟩:=bs h;let⟨j,hj,h⟩:=bs h;split at h
  ·rename_i hl;rw[zF] at hl;cases h;have z:=C.loc hl.1;have w:=C.loc hl.2;exact IZ i j C.calm z.1 z.2.1 z.2.2.1 w.2.1 w.2.2.1 z.2.2.2 w.2.2.2
  ·cases h
 ·cases h
def Da(C:Bk X N sc k)(O:bM X T)(h:EG sc N T x kx e=some g):DS X HF₀ H₀ (.Assign [.Subscript (.Name x px) kx spos] e pos) g:=by
 unfold EG at h;let⟨i,hi,h⟩:=bs h;split at h
 ·rename_i hv;simp?[zF,yO] at hv;let⟨hv,hc⟩:=hv;let⟨z1,z2,z3,z4⟩:=C.vis hv;let⟨fk,hfk,h⟩:=bs h;let⟨f,hf,rfl⟩:=ag h;refine Gw i _ z1 z2 (O.e _ _ hfk) (O.e _ _ hf) z3 z4 (λv=>?_) ?_ ?_ rfl
  ·cases kx<;>first|rfl|cases hc
  ·cases e<;>rfl
  ·rfl
 ·cases h
def DK(C:Bk X N sc k)(O:bM X T)(h:FW sc N T t e=some g):DS X HF₀ H₀ (.Assign [t] e pos) g:=by
 unfold FW at h;split at h
 ·exact EK C O h
 ·split at h
  ·exact Da C O h
  ·cases h
 ·cases h
def sQ(C:Bk X N sc k)(B:Bn X)(O:bM X T):∀ (n:Nat) {st:Stmt}{g:GS},sZ sc N T n st=some g->DS X HF₀ H₀ st g
 | 0,st,g,h=>by cases h
 | n+1,st,g,h=>by
  have ih:=λs g h=>sQ C B O n (st:=s) (g:=g) h;unfold sZ at h;split at h
  ·let⟨f,hf,rfl⟩:=ag h;exact Mp (O.e _ _ hf)
  ·let⟨t,ht,h⟩:=bs h;let⟨a,ha,h⟩:=bs h;let⟨b,hb,rfl⟩:=ag h;exact N3 (O.t _ _ ht) (gV ih ha) (gV ih hb)
  ·exact DK C O h
  ·let⟨fi,hfi,h⟩:=bs h;let⟨t,ht,h⟩:=bs h;let⟨b,hb,rfl⟩:=ag h;let⟨hd,hfold⟩:=yj C B O hfi;exact Lv _ C.pass C.calm hd (L5 C ht) (gV ih hb) hfold
  ·let⟨t,ht,h⟩:=bs h;let⟨b,hb,rfl⟩:=ag h;exact ES _ C.pass (O.t _ _ ht) (gV ih hb)
  ·exact Gc C O h
  ·cases h;exact Nk
  ·cases h;exact HG
  ·cases h
end
section
variable {K:W.Frag}
def lh(P:Program)(w:World)(K:W.Frag)(mg:Str->Option Value)(base:Heap)(j:Nat)(l:List (Str×Nat×(List D->Option D))):Prop:=∀x n m,l.lookup x=some (n,m)->Gm P w K mg base j x n m
def dX(mg:Str->Option Value)(l:List (Str×D)):Prop:=∀x i,l.lookup x=some i->P7 mg x i
def Ph:lh P w K mg base j []:=λ_ _ _ h=>by cases h
def N8(F:Gm P w K mg base j x n m)(h:lh P w K mg base j l):lh P w K mg base j ((x,n,m)::l):=λy n' m' e=>by
 rw[yA] at e;cases q:y == x with
 | true=>rw[q] at e;cases e;rw[eq_of_beq q];exact F
 | false=>rw[q] at e;exact h y n' m' e
def PM:dX mg []:=λ_ _ h=>by cases h
def EW{d:D}(F:P7 mg x d)(h:dX mg l):dX mg ((x,d)::l):=λy i' e=>by
 rw[yA] at e;cases q:y == x with
 | true=>rw[q] at e;cases e;rw[eq_of_beq q];exact F
 | false=>rw[q] at e;exact h y i' e
def JX(F:∃t,mg x=some (.int i t))(h:dX mg l):dX mg ((x,.int i)::l):=EW (d:=.int i) F h
def D4(F:∃t,mg x=some (.str i t))(h:dX mg l):dX mg ((x,.str i)::l):=EW (d:=.str i) F h
def JW{st:Stmt}(C:Bk X N (aj st) j)(B:Bn X)(hf:lh X.prog X.w X.K X.mg X.base j fs)(hi:dX X.mg is)
  (t:oW (sZ (aj st) N (tr ⟨fs,is⟩ 40 none (aj st) N) 40) (bG st)=some g):z6 X HF₀ H₀ (bG st) g :=
 gV (λs g h=>sQ C B (Av (G:=⟨fs,is⟩) 40 C ⟨hf,hi,B⟩ (yL j) λq z=>by cases z) 40 h) t
def Q2{st:Stmt}(D:xj K mg x st ps)(S:cA N ps (aj st))(B:∀x∈cR,mg x=none)(hf:lh P w K mg base j fs)(hi:dX mg is)
  (t:oW (sZ (aj st) N (tr ⟨fs,is⟩ 40 none (aj st) N) 40) (bG st)=some g):Gm P w K mg base (j+1) x ps.length (aU g N.length):=by
 let⟨f,fd,hm,F,hb⟩:=D.ex;exact Q3 F S hb hm λX hP hw hK hm' hb' C _ _ HF H=>by subst hP;subst hw;subst hK;subst hm';subst hb';exact JW C B hf hi t
end
abbrev tW(s:Stmt)(N:List Str)(S:Sg)(l:Option Str):Option GS:=oW (sZ (aj s) N (tr S 40 l (aj s) N) 40) (bG s)
def OV(a:sc.kind=.function:=by rfl)(b:sc.isCoroutine=false:=by rfl)(c:sc.isGenerator=false:=by rfl)(d:N.Nodup:=by decide +kernel)(e:N.take P.length=P:=by rfl)(f:∀x∈P,sc.names.lookup x=some .local \/ sc.names.lookup x=some .cell:=by decide +kernel)(g:∀y∈sc.names,y.2≠.free:=by decide +kernel):cA N P sc:=⟨a,b,c,d,e,f,g⟩
section
variable {K:W.Frag}
end
end Rf
namespace Ex
open PySem L2 PySem.Spec PyProof.Rows
variable {a1 a2 a3 spos:Pos}{caps:L2.St->L2.St}
def qt(x:ej P w H h a o):∃ob,h.get? a=some ob:=by
 cases o with
 | lst xs=>let⟨_,_,_,_,e⟩:=x;exact⟨_,e⟩
 | tup xs=>let⟨_,_,_,⟨_,e,_⟩,_⟩:=x;exact⟨_,e⟩
 | dK kvs=>let⟨_,_,_,_,o,_,_,e,_⟩:=x;exact⟨_,e⟩
 | dT kvs=>let⟨_,_,_,_,o,_,_,e,_⟩:=x;exact⟨_,e⟩
 | set S n=>let⟨o,_,_,_,e,_⟩:=x;exact⟨_,e⟩
 | ins C dx fs=>let⟨_,_,_,e,_⟩:=x;exact⟨_,e⟩
 | own y=>let⟨_,e⟩:=x;exact⟨_,e⟩
 | xd fs=>let⟨_,⟨_,_,_,e,_⟩,_⟩:=x;exact⟨_,e⟩
 | rng lo hi=>let⟨_,_,_,e⟩:=x;exact⟨_,e⟩
 | frz ob u=>let⟨e,_⟩:=x;exact⟨_,e⟩
 | tab q=>let⟨_,e,_⟩:=x;exact⟨_,e⟩
 | cod q=>let⟨_,_,_,_,e0,e,_⟩:=x;cases e0;exact⟨_,e⟩
 | met f y=>exact⟨_,(show h.get? a=some _ from x)⟩
 | ext φ=>let⟨_,⟨_,e⟩,_⟩:=x;exact⟨_,e⟩
structure Cb(P:Program)(w:World)(l:List Env)(H:Hp)(s:Shared)(cls:Value)(ea:Addr)(H':Hp)(s':Shared):Prop where
 os:s'.os=s.os
 bare:AllBare s'.gens
 un:Un (eN l) [] H H' s.heap s'.heap
 hok:mq P w H' s'.heap
 fly:∃B a0,Heap.FlyingW B l ea cls a0 s'.heap/\∀b,b∉eN l->(H' b≠none\/∃o,s.heap.get? b=some o)->∃o,B.get? b=some o
def nS(P:Program)(w:World):G0:=λl H s E e s'=>∃ea cls H',e=.ref ea/\Cb P w l H s cls ea H' s'/\E cls none H'
section
variable {X:Cx}{pins:List (Addr×Obj)}{σ:L2.St}{H H':Hp}{s s':Shared}{cls:Value}{ea:Addr}
def sF(I:Inv X pins σ H s)(hs:X.stack=X.env::X.outer)(hf:X.env.frame=some X.env.locals)(hex:X.ex=[])(hos:s'.os=s.os)(hbr:AllBare s'.gens)(hun:Un (eN X.stack) [] H H' s.heap s'.heap)(hok:mq X.prog X.w H' s'.heap)
  (hst:B.StaysIn s'.heap) (hff:s'.heap.FunFrames B X.stack) (hB:∀b,b∉eN X.stack->(H' b≠none\/∃o,X.s₀.heap.get? b=some o)->∃o,B.get? b=some o) (x1:Heap.FlyingW B X.outer ea cls a0 h')
  (x2:∀b∈eN X.outer,∀o,s'.heap.get? b=some o->(∀vs,o.data≠.fields vs)->∃sl,h'.get? b=some { o with slots:=sl }) :
  Cb X.prog X.w X.outer X.H₀ X.s₀ cls ea H' { s' with heap:=h' }:=by
 have nx:∀b:Addr,b∉X.ex:=λb=>by rw[hex];simp
 have fs:eN X.stack=X.env.locals::eN X.outer:=by rw[hs];unfold eN;rw[jF,hf]
 have neL:∀b o,X.s₀.heap.get? b=some o->b≠X.env.locals:=λb o e=>yQ (zP (zX e) I.ok.above);have out:∀b o,X.s₀.heap.get? b=some o->b∉eN X.outer->b∉eN X.stack:=λb o e hb z=>by
  rw[fs] at z;rcases List.mem_cons.mp z with z|z
  ·exact neL b o e z
  ·exact hb z
 have stk:∀b∈eN X.stack,H' b=none:=λb hb=>by
  let⟨_,o,ho,_⟩:=I.stack.mem hb;exact hun.free b o ho (I.stkFree b hb) (by simp)
 have GI:∀b u,H' b≠none->s'.heap.get? b=some u->h'.get? b=some u:=λb u hn e=>by
  let⟨o,eo⟩:=hB b (λz=>hn (stk b z)) (.inl hn);have:=hst b o eo;rw[e] at this;cases this;exact x1.1 b u eo
 have old:∀b o o2,b∉eN X.stack->X.s₀.heap.get? b=some o->s'.heap.get? b=some o2->h'.get? b=some o2:=λb o o2 hb e e2=>by
  let⟨o3,eo⟩:=hB b hb (.inr ⟨o,e⟩);have:=hst b o3 eo;rw[e2] at this;cases this;exact x1.1 b o2 eo
 have inO:∀b,b∈eN X.outer->b∈eN X.stack:=λb hb=>by rw[fs];exact zC _ hb
 have slotS:∀b∈eN X.outer,∀o,s'.heap.get? b=some o->∃sl,h'.get? b=some { o with slots:=sl }:=λb hb o e=>by
  let⟨_,o2,e2,d2⟩:=hff.mem (inO b hb);rw[e] at e2;cases e2;exact x2 b hb o e d2
 refine⟨hos.trans I.os,hbr,⟨λb o e n hb _=>?_,λb o e n hb _=>?_,λb o e n _=>?_,λb o e _=>?_,λb xs e=>hun.tups b xs (I.base.tups b xs e),λb o u e=>hun.frzs b o u (I.base.frzs b o u e),?_⟩,λa o e=>?_,B,a0,x1,λb hb hh=>?_⟩
 ·have e1:=I.base.keep b o e n hb (nx b);have n1:=I.base.free b o e n (nx b);have hb':=out b o e hb;exact old b o o hb' e (hun.keep b o e1 n1 hb' (by simp))
 ·let⟨sl,e1⟩:=I.base.slot b o e n hb (nx b);have n1:=I.base.free b o e n (nx b);let⟨sl2,e2⟩:=hun.slot b _ e1 n1 (inO b hb) (by simp);let⟨sl3,e3⟩:=slotS b hb _ e2;exact⟨sl3,e3⟩
 ·let⟨o1,e1⟩:=I.base.there b o e (nx b);exact hun.free b o1 e1 (I.base.free b o e n (nx b)) (by simp)
 ·let⟨o1,e1⟩:=I.base.there b o e (nx b);let⟨o2,e2⟩:=hun.there b o1 e1 (by simp);by_cases hb:b∈eN X.outer
  ·let⟨sl,e3⟩:=slotS b hb o2 e2;exact⟨_,e3⟩
  ·exact⟨o2,old b o o2 (out b o e hb) e e2⟩
 ·exact I.base.tbls.trans (hun.tbls.trans (.kept (λb u ⟨q,z⟩ e=>GI b u (by rw[z];simp) e) λ_ _ e _=>e))
 ·refine (hok a o e).stay (λb u hb q=>GI b u ?_ q) (λ_ q=>q) λ_ _ q _=>q;rcases hb with rfl|z
  ·rw[e];simp
  ·rw[z];simp
 ·refine hB b (λz=>?_) hh;rw[fs] at z;rcases List.mem_cons.mp z with z|z
  ·subst z;rcases hh with hn|⟨o,e⟩
   ·exact hn (stk _ (by rw[fs];exact zE))
   ·exact neL _ o e rfl
  ·exact hb z
def Om(hs:X.stack=X.env::X.outer)(hf:X.env.frame=some X.env.locals)(hex:X.ex=[])
  (hxe:∀e s',wpAny (model X.prog X.w) X.A (leaving X.env e) (λ_ s''=>nS X.prog X.w X.outer X.H₀ X.s₀ E' e s'') (λ_ _=>False) s'->X.xe e s') (hE:∀cls H',E cls none H'->E' cls none H'):cq (nS X.prog X.w) X E:=by
 intro pins σ H s e s' I h;let⟨ea,cls,H',rfl,F,hc⟩:=h;let⟨B,a0,hfl,hB⟩:=F.fly;refine hxe _ _ ?_;refine wpAny_leaves_onW (base:=B) (a0:=a0) (cls:=cls) (by rw[I.ok.frames,hs]) hf (by rw[<- hs];exact hfl) λh' x1 x2=>⟨ea,cls,H',rfl,sF I hs hf hex F.os F.bare F.un F.hok hfl.1 hfl.2.2.1 (λb hb hh=>hB b hb (hh.imp id λ⟨o,e⟩=>I.base.there b o e (by rw[hex];simp))) x1 (λb _ o e d=>x2 b o e d),hE _ _ hc⟩
def xk(I:Inv X pins σ H s)(hs:X.stack=X.env::X.outer)(hf:X.env.frame=some X.env.locals)(hex:X.ex=[])
  (hxe:∀e s',wpAny (model X.prog X.w) X.A (leaving X.env e) (λ_ s''=>nS X.prog X.w X.outer X.H₀ X.s₀ E' e s'') (λ_ _=>False) s'->X.xe e s') (hm:Heap.MadeExcOf s.heap s'.heap ea cls args) (ho:s'.os=s.os) (hg:AllBare s'.gens) (hE:E' cls none H):X.xe (.ref ea) s':=by
 have fs:eN X.stack=X.env.locals::eN X.outer:=by rw[hs];unfold eN;rw[jF,hf]
 have hfun:=I.stack;refine hxe _ _ ?_;have hin:∀env∈X.stack,∀b,env.frame=some b->b∈eN X.stack:=λenv he b hb=>List.mem_filterMap.mpr ⟨env,he,hb⟩;refine wpAny_leaves_madeW (base:=W.hideAll s.heap (eN X.stack)) (h:=s.heap) (cls:=cls) (args:=args) (by rw[I.ok.frames,hs]) hf (λb o q=>W.of_hideAll _ q) (by rw[<- hs];exact W.funFrames_hide hfun hin) hm λh' t x1 x2 x3 x4=>⟨ea,cls,H,rfl,?_,hE⟩
 refine sF I hs hf hex ho hg (Un.kept hm.keeps) (I.hok.kept hm.keeps) (λb o q=>hm.keeps b o (W.of_hideAll _ q)) ((W.funFrames_hide hfun hin).of_keeps λb o q _=>⟨o,hm.keeps b o q,rfl⟩) (λb hb hh=>?_) x1 (λb _ o e d=>x4 b o e d);have ⟨o,e⟩:∃o,s.heap.get? b=some o:=by
  rcases hh with hn|h
  ·let⟨u,hu⟩:=Option.ne_none_iff_exists'.mp hn;exact qt (I.hok b u hu)
  ·let⟨o,e⟩:=h;exact I.base.there b o e (by rw[hex];simp)
 exact⟨o,W.hideAll_get _ e hb⟩
end
abbrev KD:List Value:=[.type "ValueError",.type "Exception",.type "BaseException",.type "object"]
def Jf{K:W.Frag}(X:K.In h)(q:W.excIn K C KD "ValueError.__new__"=true) :
  ∃bm N nm qn bs hd sn sub ab col dd k0 k1 k2 k3 k5 mN,h.get? C=some (excClassObj nm qn C N bs bm hd sn sub ab col dd k0 k1 k2 k3 k5 "ValueError.__new__")/\h.Ns N mN/\mN "__init__"=none/\OwnTail h KD bm:=by
 unfold W.excIn at q;split at q
 ·rename_i dd cd sl ho;split at q
  ·rename_i C' bm k0 k1 k2 k3 n k5 hm hsl;simp?[zF,vA,yO] at q;obtain⟨⟨⟨⟨⟨rfl,rfl⟩,hdel⟩,ht⟩,hok⟩,hni⟩:=q;cases cd with
   | mk nm bs mro ns qn hd sn sub ab col del =>
    simp only at hm hdel hok hni;subst hm hdel;cases sl with
    | mk l =>
     simp only at hsl;subst hsl;exact⟨bm,ns,nm,qn,bs,hd,sn,sub,ab,col,dd,k0,k1,k2,k3,k5,_,X _ _ ho,.of_isNs (W.isNs_of_in X hok),W.nsMap_none_of_in X hok hni,W.tail_of_in X ht⟩
  ·cases q
 ·cases q
def DJ(I:Inv X pins σ H s)(hc:X.calm=true)(hg:Gl X x)(hm:X.mg x=some (.ref C))(q:W.excIn X.K C KD "ValueError.__new__"=true)
  (hs:X.stack=X.env::X.outer) (hf:X.env.frame=some X.env.locals) (hex:X.ex=[])
  (hxe:∀e s',wpAny (model X.prog X.w) X.A (leaving X.env e) (λ_ s''=>nS X.prog X.w X.outer X.H₀ X.s₀ E' e s'') (λ_ _=>False) s'->X.xe e s') (hE:E' (.ref C) none H) (hdb:(x == ("__debug__":Str))=false) :
  wpAny (model X.prog X.w) X.A (exec (.Raise (some (.Call (.Name x np) [.Constant (.str t) i p] [] cpos)) none pos) X.env) Q X.xe s:=by
 let⟨bm,N,nm,qn,bs,hd,sn,sub,ab,col,dd,k0,k1,k2,k3,k5,mN,hC,hN,hni,T⟩:=Jf I.kIn q;refine wpAny_Raise_call_subT (C:=C) (nm:=nm) (q:=qn) (N:=N) (bs:=bs) (bm:=bm) (hdct:=hd) (sn:=sn) (sub:=sub) (ab:=ab) (col:=col) (dd:=dd) (k0:=k0) (k1:=k1) (k2:=k2) (k3:=k3) (k5:=k5)
  F.excBase_ValueError (mN:=mN) (T.hasType F.excBase_ValueError.hasBase) (I.ok.hd hc) rfl hni (ju I hg hm ⟨rfl,?_⟩ hdb)
 refine Calls.evalArgs_plain (jI (vX (k:=i) (pos:=p) (kC ⟨rfl,?_,hC,hN,T,λh' e hme=>?_⟩)))
 ·exact yC (show 1<=4000 by lia) (by decide)
 ·exact xk (s:={ s with toks:=s.toks+1 }) (I.tok _) hs hf hex hxe hme rfl I.bare hE
open PySem L2 Dl PySem.Spec PyProof.Rows
def QH(K:W.Frag)(mg:Str->Option Value)(n:Nat)(xm:List D->Option Str):Sp:=λvs H _ E=>∃HF ds c C,aR HF H/\dP K HF/\ax K HF ds vs/\ds.length=n/\xm ds=some c/\mg c=some (.ref C)/\∀H' HF',bU HF H HF' H'->E (.ref C) none H'
structure IK(P:Program)(w:World)(K:W.Frag)(mg:Str->Option Value)(base:Heap)(k:Nat)(x:Str)(n:Nat)(xm:List D->Option Str):Prop where
 ex:∃ (f:Addr) (fd:FuncData) (ps:List Str),nA P w K mg base (nS P w) k f fd ps (QH K mg n xm)/\mg x=some (.ref f)/\W.keepIn K (.ref f)=true/\Binds K fd ps []
def IK.mono{K:W.Frag}{xm:List D->Option Str}(F:IK P w K mg base k x n xm)(h:k<=j):IK P w K mg base j x n xm:=by
 let⟨f,fd,ps,a,b,c,d⟩:=F.ex;exact⟨f,fd,ps,a.mono h,b,c,d⟩
structure Xk(X:Cx)(E:XK):Prop where
 hs:X.stack=X.env::X.outer
 hf:X.env.frame=some X.env.locals
 hex:X.ex=[]
 hxe:∀e s',wpAny (model X.prog X.w) X.A (leaving X.env e) (λ_ s''=>nS X.prog X.w X.outer X.H₀ X.s₀ E e s'') (λ_ _=>False) s'->X.xe e s'
def Xk.pass(hx:Xk X E):cq (nS X.prog X.w) X E:=Om hx.hs hx.hf hx.hex hx.hxe λ_ _ h=>h
def On(K:W.Frag)(mg:Str->Option Value)(E:XK)(xf:Dl.Env->Option Str):TE:=λσ H _=>∃HF ρ c C,aR HF H/\cS K HF ρ σ/\xf ρ=some c/\mg c=some (.ref C)/\∀H' HF',bU HF H HF' H'->E (.ref C) none H'
def pO(X:Cx)(E:XK)(e:Expr)(xf:Dl.Env->Option Str):Prop:=PE X e (On X.K X.mg E xf)
def tX(K:W.Frag)(mg:Str->Option Value)(HF₀ H₀:Hp)(E:XK)(xg:au->Option Str):TS:=λ_ σ H=>∃HF ρ c C,ij K HF₀ H₀ HF H ρ σ/\xg ρ=some c/\mg c=some (.ref C)/\∀H' HF',bU HF₀ H₀ HF' H'->E (.ref C) none H'
def DX(X:Cx)(E:XK)(HF₀ H₀:Hp)(st:Stmt)(xg:au->Option Str):Prop:=PS X st (tX X.K X.mg HF₀ H₀ E xg)
def CN(X:Cx)(E:XK)(HF₀ H₀:Hp)(st:List Stmt)(xg:au->Option Str):Prop:=uc X st (tX X.K X.mg HF₀ H₀ E xg)
def KQ(h:PA X.nox es t):PA X es t:=λpos pins s σ H Q I hw =>
 yZ (h pos pins s σ H Q (I.wish _) hw) (λ_ _ ⟨v,H',I',r,q⟩=>⟨v,H',I'.unwish,r,q⟩) λ_ _ z=>False.elim z
def ME{st:Stmt}(h:PS X.nox st t):PS X st t:=λpins s σ H D I hw =>
 yZ (h pins s σ H D (I.wish _) hw) (λ_ _ q=>q.unwish) λ_ _ z=>False.elim z
def mz(n:Nat)(xm:List D->Option Str)(fs:Dl.Env->Option (List D)):Dl.Env->Option Str:=λρ=>(fs ρ).bind λds=>if ds.length=n then xm ds else none
def Ha{xm:List D->Option Str}{p pos:Pos}(F:IK X.prog X.w X.K X.mg X.base k x n xm)(hr:fQ k X.A)(hx:cq (nS X.prog X.w) X E)(hg:Gl X x)(ha:DA X.nox (e::es) fs)(hdb:(x == ("__debug__":Str))=false:=by decide)
  (he:starEach (e::es) X.env=(false,eval e X.env)::starEach es X.env:=by rfl) (hpl:(backTo pos (starEach es X.env)).any (·.1)=false:=by rfl):pO X E (.Call (.Name x p) (e::es) [] pos) (mz n xm fs):=by
 let⟨f,fd,ps,ok,hm,hk,hb⟩:=F.ex;refine aN (Ar (E:=E) ok hr hg hm hk hb .nil hx (KQ ha) hdb he hpl) λσ H Q ⟨HF,ρ,c,C,sm,eo,hf,hc,q⟩=>?_;let⟨ds,hds,hf⟩:=bs hf;split at hf
 ·rename_i hl;exact⟨HF,ρ,ds,sm,eo,hds,λvs H1 HF1 g1 r1=>⟨HF1,ds,c,C,g1.fh,eo.tb.mono g1.ff,by rw[qF];exact r1,hl,hf,hc,λH' HF' g=>q H' HF' (g1.trans g)⟩⟩
 ·cases hf
def nG(t:Dl.Env->Option Bool)(xa xb:Dl.Env->Option Str):Dl.Env->Option Str:=λρ=>(t ρ).bind λb=>if b=true then xa ρ else xb ρ
def Nu(hc:DT X.nox c t)(ha:pO X E a xa)(hb:pO X E b xb):pO X E (.IfExp c a b pos) (nG t xa xb) :=
 aN (u9 (PT.nox hc) ha hb) λσ H Q ⟨HF,ρ,c,C,sm,eo,hf,hc,q⟩=>by
  let⟨b,h,hf⟩:=bs hf;refine⟨HF,ρ,b,sm,eo,h,λH' HF' G=>?_⟩;cases b with
  | true=>exact nE ⟨HF',ρ,c,C,G.fh,eo.mono G.ff,hf,hc,λH2 HF2 G2=>q H2 HF2 (G.trans G2)⟩
  | false=>exact me ⟨HF',ρ,c,C,G.fh,eo.mono G.ff,hf,hc,λH2 HF2 G2=>q H2 HF2 (G.trans G2)⟩
def vx{K:W.Frag}{D:Ends}(h:tX K mg HF₀ H₀ E (λρ=>xf (aD ρ)) D σ H):On K mg E xf σ H Q:=by
 let⟨HF,ρ,c,C,S,hx,hc,q⟩:=h;exact⟨H,aD ρ,c,C,.refl _,S.all,hx,hc,λH' HF' G=>q H' HF (S.step G.hh).gr⟩
def Lf(h:pO X E e xf)(hs:swapsWith e none pos.line X.env=pure false:=by rfl):DX X E HF₀ H₀ (.Expr e pos) (λρ=>xf (aD ρ)):=cJ (lJ h hs) λD σ H q=>vx q
def K9(h:pO X E e xf):DX X E HF₀ H₀ (.Return (some e) pos) (λρ=>xf (aD ρ)):=cJ (xp h) λD σ H q=>vx q
def ow{st:Stmt}{rest:List Stmt}(h:DX X E HF₀ H₀ st xg):CN X E HF₀ H₀ (st::rest) xg:=λpins s σ H D I q=>by
 refine kU (bL (h pins s σ H ⟨λ_ _=>False,λ_ _=>False,λ_ _=>False,λ_ _=>False⟩ I q) λf s1 z=>?_);cases f with
 | next=>let⟨_,_,_,z⟩:=z;exact z.elim
 | brk=>let⟨_,_,_,z⟩:=z;exact z.elim
 | cont=>let⟨_,_,_,z⟩:=z;exact z.elim
 | ret u=>let⟨_,_,_,_,_,z⟩:=z;exact z.elim
def qa(g:au->Option Out)(xg:au->Option Str):au->Option Str:=λρ=>(g ρ).bind λo=>match o with|.nx ρ'=>xg ρ'|.rt _=>none
def vb{st:Stmt}{rest:List Stmt}(h:DS X.nox HF₀ H₀ st g)(hr:CN X E HF₀ H₀ rest xg):CN X E HF₀ H₀ (st::rest) (qa g xg) :=
 nQ (iC (ME h) hr) λD σ H ⟨HF,ρ,c,C,S,hx,hc,q⟩=>by
  let⟨o,ho,hx⟩:=bs hx;cases o with
  | rt d=>cases hx
  | nx ρ'=>exact⟨HF,ρ,.nx ρ',S,ho,λσ' H' HF' S' _=>⟨HF',ρ',c,C,S',hx,hc,q⟩⟩
def o8(t:Dl.Env->Option Bool)(xa xb:au->Option Str):au->Option Str:=λρ=>(t (aD ρ)).bind λb=>if b=true then xa ρ else xb ρ
def NS(hc:DT X.nox c t)(ha:CN X E HF₀ H₀ a xa)(hb:CN X E HF₀ H₀ b xb):DX X E HF₀ H₀ (.If c a b pos) (o8 t xa xb) :=
 cJ (Ge (PT.nox hc) ha hb) λD σ H ⟨HF,ρ,c,C,S,hx,hc,q⟩=>by
  let⟨b,h,hx⟩:=bs hx;refine⟨H,aD ρ,b,.refl _,S.all,h,λH' HF' G=>?_⟩;cases b with
  | true=>exact nE ⟨HF,ρ,c,C,S.step G.hh,hx,hc,q⟩
  | false=>exact me ⟨HF,ρ,c,C,S.step G.hh,hx,hc,q⟩
def Ea(hk:Xk X E)(hc:X.calm=true)(hg:Gl X x)(hm:X.mg x=some (.ref C))(q:W.excIn X.K C KD "ValueError.__new__"=true)(hdb:(x == ("__debug__":Str))=false:=by decide) :
  DX X E HF₀ H₀ (.Raise (some (.Call (.Name x np) [.Constant (.str t) i p] [] cpos)) none pos) (λ_=>some x):=λpins s σ H D I ⟨HF,ρ,c,C',S,hx,hc',z⟩=>by
 cases hx;rw[hm] at hc';cases hc';exact DJ I hc hg hm q hk.hs hk.hf hk.hex hk.hxe (z H HF S.gr) hdb
def mJ(xg:au->Option Str)(n:Nat)(args:List D):Option Str:=xg (args.map Slot.val++List.replicate (n - args.length) .non)
def uZ{K:W.Frag}(sm:aR HF H)(tb:dP K HF)(rr:ax K HF ds vs):ij K HF H HF H (ds.map Slot.val++List.replicate (N.length - ds.length) .non) (L2.start N vs):=by
 refine⟨.refl sm,λi e h=>?_,λi es h=>?_,λi j es fs a h=>?_,?_,tb⟩
 ·have hi:i < ds.length:=by
   by_cases hi:i < ds.length
   ·exact hi
   ·rw[yS (by simpa using hi),yW] at h;split at h<;>cases h
  rw[yR (by simpa using hi),zO] at h;let⟨d',hd',h⟩:=ag h;cases h;let⟨v,hv,rv⟩:=rr.getD hd';refine⟨v,?_,rv⟩;unfold L2.start;rw[yR (by simpa [rr.length] using hi),zO,hv];rfl
 ·exfalso;by_cases hi:i < ds.length
  ·rw[yR (by simpa using hi),zO] at h;let⟨d',hd',h⟩:=ag h;cases h
  ·rw[yS (by simpa using hi),yW] at h;split at h<;>cases h
 ·exfalso;by_cases hi:i < ds.length
  ·rw[yR (by simpa using hi),zO] at h;let⟨d',hd',h⟩:=ag h;cases h
  ·rw[yS (by simpa using hi),yW] at h;split at h<;>cases h
 ·unfold L2.start;rw[zN,zN,zD,zD,xK,xK,rr.length];exact yL _
def fnX{K:W.Frag}{st:Stmt}(F:Ek K x qual st f fd)(S:cA N ps (aj st))(hb:Binds K fd ps [])(hm:mg x=some (.ref f))
  (body:∀ (X:Cx) (E:XK),X.prog=P->X.w=w->X.K=K->X.mg=mg->X.base=base->Bk X.nox N (aj st) k->X.calm=true->Xk X E->∀HF₀ H₀,CN X E HF₀ H₀ (bG st) xg):IK P w K mg base (k+1) x ps.length (mJ xg N.length):=by
 refine⟨f,fd,ps,?_,hm,F.kp,hb⟩;let⟨oc,od,kV,doc,pm,an,cdv,ct,osl,rfl,lk,hcd⟩:=F.ex;refine De lk hcd S (λvs H Q E ⟨HF,ds,c,C,h1,_,h2,h3,_⟩=>by rw[h2.length,h3]) λA outer s H vs Q E hr ⟨HF,ds,c,C,sm,tb,rr,hl,hd,hc,q⟩=>?_;refine⟨_,body (oS (nS P w) P w K mg base N qual (aj st) f cdv A outer s H E) E rfl rfl rfl rfl rfl ⟨rfl,S.nd,λy kd hy=>.inl hy,rfl,λ_ _=>rfl,hr,rfl,S.kind⟩ rfl ⟨rfl,rfl,rfl,λe s' z=>yZ z (λ_ _ h=>h) λ_ _ h=>h.elim⟩ HF H,?_⟩;exact⟨HF,_,c,C,uZ sm tb rr,hd,hc,q⟩
section
variable {X:Cx}{pins:List (Addr×Obj)}{σ:L2.St}{H H':Hp}{s s':Shared}{cls:Value}{ea:Addr}
def FZ(I:Inv X pins σ H s)(hun:Un (eN X.stack) [] H H' s.heap s'.heap)(hok:mq X.prog X.w H' s'.heap)
  (hst:B.StaysIn s'.heap) (hff:s'.heap.FunFrames B X.stack) (hB:∀b,b∉eN X.stack->(H' b≠none\/∃o,s.heap.get? b=some o)->∃o,B.get? b=some o) (x1:B.StaysIn h') (x2:s'.heap.UpToSlots h') :
  Un (eN X.stack) [] H H' s.heap h'/\mq X.prog X.w H' h':=by
 have stk:∀b∈eN X.stack,H' b=none:=λb hb=>by
  let⟨_,o,ho,_⟩:=I.stack.mem hb;exact hun.free b o ho (I.stkFree b hb) (by simp)
 have GI:∀b u,H' b≠none->s'.heap.get? b=some u->h'.get? b=some u:=λb u hn e=>by
  let⟨o,eo⟩:=hB b (λz=>hn (stk b z)) (.inl hn);have:=hst b o eo;rw[e] at this;cases this;exact x1 b u eo
 have old:∀b o o2,b∉eN X.stack->s.heap.get? b=some o->s'.heap.get? b=some o2->h'.get? b=some o2:=λb o o2 hb e e2=>by
  let⟨o3,eo⟩:=hB b hb (.inr ⟨o,e⟩);have:=hst b o3 eo;rw[e2] at this;cases this;exact x1 b o2 eo
 have slotS:∀b∈eN X.stack,∀o,s'.heap.get? b=some o->∃sl,h'.get? b=some { o with slots:=sl }:=λb hb o e=>by
  let⟨_,o2,e2,d2⟩:=hff.mem hb;rw[e] at e2;cases e2;exact x2 b o e d2
 refine⟨⟨λb o e n hb _=>?_,λb o e n hb _=>?_,λb o e n _=>hun.free b o e n (by simp),λb o e _=>?_,hun.tups,hun.frzs,?_⟩,λa o e=>?_⟩
 ·exact old b o o hb e (hun.keep b o e n hb (by simp))
 ·let⟨sl2,e2⟩:=hun.slot b o e n hb (by simp);let⟨sl3,e3⟩:=slotS b hb _ e2;exact⟨sl3,e3⟩
 ·let⟨o2,e2⟩:=hun.there b o e (by simp);by_cases hb:b∈eN X.stack
  ·let⟨sl,e3⟩:=slotS b hb o2 e2;exact⟨_,e3⟩
  ·exact⟨o2,old b o o2 hb e e2⟩
 ·exact hun.tbls.trans (.kept (λb u ⟨q,z⟩ e=>GI b u (by rw[z];simp) e) λ_ _ e _=>e)
 ·refine (hok a o e).stay (λb u hb q=>GI b u ?_ q) (λ_ q=>q) λ_ _ q _=>q;rcases hb with rfl|z
  ·rw[e];simp
  ·rw[z];simp
def Cb.inv(I:Inv X pins σ H s)(F:Cb X.prog X.w X.stack H s cls ea H' s'):Inv X pins σ H' s':=I.call' F.os F.un F.hok F.bare (λb hb=>absurd hb (by simp))
def Cb.stay(I:Inv X pins σ H s)(F:Cb X.prog X.w X.stack H s cls ea H' s')(hfl:Heap.FlyingW B X.stack ea cls a0 s'.heap)(hB:∀b,b∉eN X.stack->(H' b≠none\/∃o,s.heap.get? b=some o)->∃o,B.get? b=some o)
  (x1:Heap.FlyingW B X.stack ea cls a0 h') (x2:s'.heap.UpToSlots h'):Cb X.prog X.w X.stack H s cls ea H' { s' with heap:=h' }:=by
 let⟨u,k⟩:=FZ I F.un F.hok hfl.1 hfl.2.2.1 hB x1.1 x2;exact⟨F.os,F.bare,u,k,B,a0,x1,hB⟩
def land{M:Model}{E:Value->Shared->Prop}{Q:Unit->Shared->Prop}(I:Inv X pins σ H s)(hs:X.stack=X.env::X.outer)(hf:X.env.frame=some X.env.locals)(F:Cb X.prog X.w X.stack H s cls ea H' s')
  (k:∀h',Cb X.prog X.w X.stack H s cls ea H' { s' with heap:=h' }->Q () { s' with heap:=h' }) :
  wpAny M X.A (noteFrame (.ref ea) X.env) (λ_ s2=>wpAny M X.A (setFlight (.ref ea) none) Q E s2) E s':=by
 let⟨B,a0,hfl,hB⟩:=F.fly;refine wpAny_looks_onW (base:=B) (a0:=a0) (cls:=cls) (by rw[I.ok.frames,hs]) hf (by rw[<- hs];exact hfl) λh4 hh x2=>?_;refine wpAny_landsW (s:={ s' with heap:=h4 }) hh λh5 y1 y2=>k h5 ?_;exact F.stay I hfl hB (by rw[hs];exact y1) (x2.trans y2)
def again{M:Model}{A:Around}{E:Value->Shared->Prop}{Q:Unit->Shared->Prop}(I:Inv X pins σ H s)(F:Cb X.prog X.w X.stack H s cls ea H' s')
  (k:∀h',Cb X.prog X.w X.stack H s cls ea H' { s' with heap:=h' }->Q () { s' with heap:=h' }):wpAny M A (setFlight (.ref ea) none) Q E s':=by
 let⟨B,a0,hfl,hB⟩:=F.fly;exact lands_againW hfl λh5 y1 y2=>k h5 (F.stay I hfl hB y1 y2)
end
abbrev gX(X:Cx)(A':Around):Cx:={ X with A:=A',calm:=false }
def nZ(I:Inv X pins σ H s)(hfr:A'.frames=X.A.frames):Inv (gX X A') pins σ H s :=
 let ok:=I.ok
 ⟨⟨ok.mod,ok.kind,ok.glob,ok.blt,ok.above,ok.inj,ok.has,ok.cab,λz=>(by cases z),hfr.trans ok.frames,ok.stk,ok.exf,ok.bs,ok.bsz,ok.noex,ok.exfs,ok.funs,ok.frf⟩,I.os,I.bare,I.base,I.loc,I.cell,I.free,I.freeC,I.pin,I.hok,I.len⟩
def yx(ok:X.Ok)(I:Inv (gX X A') pins σ H s):Inv X pins σ H s:=⟨ok,I.os,I.bare,I.base,I.loc,I.cell,I.free,I.freeC,I.pin,I.hok,I.len⟩
def xt{t':Nat}(I:Inv X pins σ H s)(hn:h'.Ns X.env.locals m')(hs:Heap.SameBut X.env.locals s.heap h'):Inv X pins (List.replicate X.N.length none) H { s with heap:=h',toks:=t' }:=by
 have neL:∀b o,X.s₀.heap.get? b=some o->b≠X.env.locals:=λb o e=>yQ (zP (zX e) I.ok.above);have kp:∀b o,b≠X.env.locals->s.heap.get? b=some o->h'.get? b=some o:=λb o ne e=>(hs.2 b ne).trans e;have tr:∀b u,H b=some u->b≠X.env.locals:=λb u e z=>by rw[z,I.free] at e;cases e
 refine⟨I.ok,I.os,I.bare,⟨λb o e n hb hx=>kp b o (neL b o e) (I.base.keep b o e n hb hx),λb o e n hb hx=>?_,I.base.free,λb o e hx=>?_,I.base.tups,I.base.frzs,?_⟩,⟨m',hn,λi x v _ h2 _=>?_⟩,λx c e=>?_,I.free,I.freeC,λp hp=>?_,λa o e=>?_,?_⟩
 ·let⟨sl,e1⟩:=I.base.slot b o e n hb hx;exact⟨sl,kp b _ (neL b o e) e1⟩
 ·let⟨o',e1⟩:=I.base.there b o e hx;exact⟨o',kp b _ (neL b o e) e1⟩
 ·exact I.base.tbls.trans (.kept (λb u ⟨q,z⟩ e=>kp b u (tr b _ z) e) λ_ _ e _=>e)
 ·rw[yW] at h2;split at h2<;>cases h2
 ·let⟨v,o,ho,hd⟩:=I.cell x c e;exact⟨v,o,kp c o (I.cne x c e) ho,hd⟩
 ·let⟨e,n,ne,r⟩:=I.pin p hp;exact⟨kp _ _ ne e,n,ne,r⟩
 ·refine (I.hok a o e).stay (λb u hb q=>kp b u ?_ q) (λ_ q=>q) λ_ _ q _=>q;rcases hb with rfl|z
  ·exact tr b _ e
  ·exact tr b _ z
 ·simp
def ExcAt(l:List PySem.Env)(H:Hp)(h:Heap)(ea:Addr)(cls:Value):Prop:=(∃ob vs,h.get? ea=some ob/\ob.cls=cls/\ob.data=.fields vs)/\H ea=none/\ea∉eN l
def L4{rest:List ExceptHandler}{D:Ends}(I:Inv X pins σ H s)(F:Cb X.prog X.w X.stack H s cls ea H' s')(hg:Gl X x)(hm:X.mg x=some (.ref C))(hdb:(x == ("__debug__":Str))=false)
  (hx:W.exmOne X.K cls (.ref C)=some true) (hN:X.N.Nodup) (hi:X.N[i]?=some n) (hl:X.env.kindOf n=some .local) (hsc:X.env.scope.names.lookup n=some .local) (hcl:X.env.cells.lookup n=none)
  (k:∀s2,Inv (gX X (X.A.mark (some (.ref ea)))) pins (σ.set i (some (.ref ea))) H' s2->ExcAt X.stack H' s2.heap ea cls ->
   wpAny (model X.prog X.w) (X.A.mark (some (.ref ea))) (execs (b₀::suite) X.env) (λf s3=>∃u v σ' H3,f=.ret u/\Inv (gX X (X.A.mark (some (.ref ea)))) pins σ' H3 s3/\RelV v u/\D.rt v H3) (λ_ _=>False) s2) :
  wpAny (model X.prog X.w) X.A (handleBy (.ref ea) X.env (.ExceptHandler (some (.Name x np)) (some n) (b₀::suite) pos::rest)) (SP X pins D) X.xe s':=by
 have hfr:(X.A.mark (some (.ref ea))).frames=X.A.frames:=rfl;have I1:=F.inv I;let⟨B,a0,hfl,hB⟩:=F.fly;let⟨ob,hob,hobc⟩:=hfl.there;refine wpAny_handleBy_cons (codeAny_handlers_test ?_) (by intro q;cases q);refine ju (X:=gX X (X.A.mark (some (.ref ea)))) (nZ I1 hfr) hg hm ?_ hdb;have LT:W.Looks (model X.prog X.w) s'.heap (typeOf (.ref ea)) cls:=λA Q E s2 k2 q=>wpAny_typeOf_ref (k2 _ _ hob) (by rw[hobc];exact q);refine (W.exm_one I1.kIn LT hx).here ?_;refine codeAny_handlers_suite_as ?_;refine again I F λh2 F2=>?_;let⟨B2,a2,hfl2,hB2⟩:=F2.fly;let⟨oe,vs,T,oT,ts,he,⟨hec,_⟩,hed,_⟩:=hfl2.2.2.2;refine mF (X:=X) (i:=i) (v:=.ref ea) (F2.inv I) hN hi (.inl hsc) rfl (λs2 I2 hsb=>?_) (.inr hsc);let⟨a,hsb,ha⟩:=hsb;have hal:a=X.env.locals:=by
  rcases ha with h|h
  ·exact h
  ·rw[hcl] at h;cases h
 subst hal;have hne:ea≠X.env.locals:=λz=>by
  let⟨m,⟨o,es,ep,ho,hd,_⟩,_⟩:=(F2.inv I).loc;rw[<- z] at ho;have:oe=o:=by rw[he] at ho;exact xC ho
  rw[<- this,hed] at hd;cases hd
 have hnf:ea∉eN X.stack:=λz=>by
  let⟨_,o2,e2,d2⟩:=hfl2.2.2.1.mem z;have:oe=o2:=by rw[he] at e2;exact xC e2
  exact d2 vs (this ▸ hed)
 have hno:H' ea=none:=by
  cases q:H' ea with
  | none=>rfl
  | some u =>
   let⟨o,eo⟩:=hB2 ea hnf (.inl (by rw[q];simp));rw[hfl2.2.1] at eo;cases eo
 refine yZ (k s2 (nZ I2 hfr) ⟨⟨oe,vs,(hsb.2 ea hne).trans he,hec,hed⟩,hno,hnf⟩) (λf s3 hz=>?_) λ_ _ z=>z.elim;let⟨u,v,σ',H3,rfl,I3,r,d⟩:=hz;have I4:=yx I1.ok I3;let⟨m3,hn3,_⟩:=id I4.loc;exact wpAny_nameGoes hl hn3 (by rw[I4.ok.kind];rfl) λh' m' hns hsb'=>⟨v,_,H3,xt I4 hns hsb',r,d⟩
abbrev fw(X:Cx)(pn:List (Addr×Obj))(xe:Value->Shared->Prop):Cx:={ X with pn:=pn,xe:=xe }
def EJ(ok:X.Ok):(fw X pn xe).Ok :=
 ⟨ok.mod,ok.kind,ok.glob,ok.blt,ok.above,ok.inj,ok.has,ok.cab,ok.hd,ok.frames,ok.stk,ok.exf,ok.bs,ok.bsz,ok.noex,ok.exfs,ok.funs,ok.frf⟩
def z8(I:Inv X pins σ H s)(h:∀p∈pn++pins',p∈X.pn++pins):Inv (fw X pn xe) pins' σ H s :=
 ⟨EJ I.ok,I.os,I.bare,I.base,I.loc,I.cell,I.free,I.freeC,λp hp=>I.pin p (h p hp),I.hok,I.len⟩
def BH(ok:X.Ok)(I:Inv (fw X pn xe) pins' σ H s)(h:∀p∈X.pn++pins,p∈pn++pins'):Inv X pins σ H s :=
 ⟨ok,I.os,I.bare,I.base,I.loc,I.cell,I.free,I.freeC,λp hp=>I.pin p (h p hp),I.hok,I.len⟩
def zz(X:Cx)(i:Nat)(ss:List Stmt)(c:Str)(d:D):Prop:=∀ (pn pins:List (Addr×Obj)) (xe:Value->Shared->Prop) (σ:L2.St) (H:Hp) (s:Shared) (ea C:Addr),X.mg c=some (.ref C)->Inv (gX (fw X pn xe) (X.A.mark (some (.ref ea)))) pins σ H s->σ[i]?=some (some (.ref ea)) ->
 ExcAt X.stack H s.heap ea (.ref C)->wpAny (model X.prog X.w) (X.A.mark (some (.ref ea))) (execs ss X.env) (λf s3=>∃u v σ' H3,f=.ret u/\Inv (gX (fw X pn xe) (X.A.mark (some (.ref ea)))) pins σ' H3 s3/\RelV v u/\∀HF,aR HF H->∃HF3,bU HF H HF3 H3/\Rep X.K HF3 d v) (λ_ _=>False) s
def uz(gb:au->Option Out)(xg:au->Option Str)(fin:Str->Option D):au->Option Out:=λρ=>match gb ρ with
 | some (.rt d)=>some (.rt d)
 | some (.nx _)=>none
 | none=>(xg ρ).bind λc=>(fin c).map Out.rt
def MD{fin:Str->Option D}(hs:X.stack=X.env::X.outer)(hf:X.env.frame=some X.env.locals)
  (hg:Gl X x) (hm:X.mg x=some (.ref CF)) (hdb:(x == ("__debug__":Str))=false) (hN:X.N.Nodup) (hi:X.N[i]?=some n) (hl:X.env.kindOf n=some .local) (hsc:X.env.scope.names.lookup n=some .local) (hcl:X.env.cells.lookup n=none)
  (hok:z6 X.nox HF₀ H₀ body gb) (hx:∀pn xe E,cq (nS X.prog X.w) (fw X pn xe) E->CN (fw X pn xe) E HF₀ H₀ body xg)
  (hfin:∀c d,fin c=some d->(∀C,X.mg c=some (.ref C)->W.exmOne X.K (.ref C) (.ref CF)=some true)/\(∃C,X.mg c=some (.ref C))/\zz X i (b₀::suite) c d) :
  DS X HF₀ H₀ (.Try body [.ExceptHandler (some (.Name x np)) (some n) (b₀::suite) hpos] [] [] pos) (uz gb xg fin):=by
 intro pins s σ H D I ⟨HF,ρ,o,S,hgo,q⟩;refine wpAny_Try_except ?_;unfold uz at hgo;split at hgo
 ·rename_i d hgb;cases hgo;refine yZ (uc.nox hok pins s σ H { D with nx:=λ_ _=>False,bk:=λ_ _=>False,ct:=λ_ _=>False } I ⟨HF,ρ,.rt d,S,hgb,q⟩ |> λ_=>hok pins s σ H { D with nx:=λ_ _=>False,bk:=λ_ _=>False,ct:=λ_ _=>False } (I.wish _) ⟨HF,ρ,.rt d,S,hgb,q⟩) (λf s1 z=>?_) λ_ _ z=>z.elim;cases f with
  | next=>let⟨_,_,_,z⟩:=z;exact z.elim
  | brk=>let⟨_,_,_,z⟩:=z;exact z.elim
  | cont=>let⟨_,_,_,z⟩:=z;exact z.elim
  | ret u=>exact SP.unwish (D:=D) z
 ·cases hgo
 ·let⟨c,hc,hgo⟩:=bs hgo;let⟨d,hd,rfl⟩:=ag hgo;let⟨hex,⟨C,hC⟩,hsu⟩:=hfin c d hd;have hxm:=hex C hC;let E1:XK:=λcls _ H'=>cls=.ref C/\∃HF',bU HF₀ H₀ HF' H';let xeT:Value->Shared->Prop:=λe s1=>∃pins' σ' Hc s0 ea H',e=.ref ea/\Inv (fw X (X.pn++pins) X.xe) pins' σ' Hc s0/\Cb X.prog X.w X.stack Hc s0 (.ref C) ea H' s1/\∃HF',bU HF₀ H₀ HF' H';have hp:cq (nS X.prog X.w) (fw X (X.pn++pins) xeT) E1:=λpins' σ' Hc s0 e s1 Ic hcx=>by
   let⟨ea,cls,H',rfl,F,rfl,HF',G⟩:=hcx;exact⟨pins',σ',Hc,s0,ea,H',rfl,⟨EJ I.ok,Ic.os,Ic.bare,Ic.base,Ic.loc,Ic.cell,Ic.free,Ic.freeC,Ic.pin,Ic.hok,Ic.len⟩,F,HF',G⟩
  have hI:Inv (fw X (X.pn++pins) xeT) [] σ H s:=z8 I λp hp=>by rw[qF] at hp;exact hp
  refine yZ (hx _ _ E1 hp [] s σ H ⟨λ_ _=>False,λ_ _=>False,λ_ _=>False,λ_ _=>False⟩ hI ⟨HF,ρ,c,C,S,hc,hC,λH' HF' G=>⟨rfl,HF',G⟩⟩) (λf s1 z=>?_) λe s1 z=>?_
  ·exfalso;cases f with
   | next=>let⟨_,_,_,z⟩:=z;exact z
   | brk=>let⟨_,_,_,z⟩:=z;exact z
   | cont=>let⟨_,_,_,z⟩:=z;exact z
   | ret u=>let⟨_,_,_,_,_,z⟩:=z;exact z
  ·let⟨pins',σ',Hc,s0,ea,H',rfl,Ic,F,HF',G⟩:=z;refine land (X:=fw X (X.pn++pins) X.xe) Ic hs hf F λh' F'=>?_;refine bL (L4 (X:=fw X (X.pn++pins) X.xe) (D:=⟨λ_ _=>False,λv H3=>D.rt v H3,λ_ _=>False,λ_ _=>False⟩) Ic F' hg hm hdb hxm hN hi hl hsc hcl λs2 I2 hob=>?_) λf s3 z=>?_
   ·have hlen:i < σ'.length:=by rw[Ic.len];exact (List.getElem?_eq_some_iff.mp hi).1
    refine yZ (hsu _ _ _ _ _ _ _ C hC I2 (by simp[hlen]) hob) (λf s3 z=>?_) λ_ _ z=>z;let⟨u,v,σ3,H3,rfl,I3,r,z⟩:=z;let⟨HF3,g3,rp⟩:=z HF' G.fh;exact⟨u,v,σ3,H3,rfl,I3,r,q v H3 HF3 (G.trans g3) rp⟩
   ·cases f with
    | next=>let⟨_,_,_,z⟩:=z;exact z.elim
    | brk=>let⟨_,_,_,z⟩:=z;exact z.elim
    | cont=>let⟨_,_,_,z⟩:=z;exact z.elim
    | ret u =>
     let⟨v,σ3,H3,I3,r,z⟩:=z;exact⟨v,σ3,H3,BH I.ok I3 λp hp=>qJ _ hp,r,z⟩
structure As(P:Program)(w:World)(K:W.Frag)(mg:Str->Option Value)(base:Heap)(k:Nat)(x c:Str)(d:D):Prop where
 ex:∃ (f:Addr) (fd:FuncData) (ps:List Str),mg x=some (.ref f)/\W.keepIn K (.ref f)=true/\Binds K fd ps []/\ps.length=1 /\
  ∀ (A:Around) (outer:List PySem.Env) (s:Shared) (H:Hp) (args:Args) (ea C:Addr),A.depth+3 * k+5 < recursionLimit->A.units+16 * k+200 < cLine->xy P w K mg base A outer s H->BindsTo s fd args (ps.zip [.ref ea])->mg c=some (.ref C)->ExcAt outer H s.heap ea (.ref C) ->
   codeAny (model P w) A (.call (.ref f) args) (λr s'=>∃u,r=.ok (.ret u)/\CE outer P w H s (λv H'=>∀HF,aR HF H->∃HF',bU HF H HF' H'/\Rep K HF' d v) u s') s
def BK(R:As X.prog X.w X.K X.mg X.base k x c d)(hr:fQ k X.A)(hg:Gl X x)(hdb:(x == ("__debug__":Str))=false)(hi:X.N[i]?=some n)(hl:X.env.kindOf n=some .local)(hsc:X.env.scope.names.lookup n=some .local)(hnd:(n == ("__debug__":Str))=false) :
  zz X i [.Return (some (.Call (.Name x p) [.Name n pe] [] cpos)) pos] c d:=by
 let⟨f,fd,ps,hm,hk,hb,hpl,run⟩:=R.ex;intro pn pins xe σ H s ea C hC I hσ hob;have ev:∀ {Q:Value->Shared->Prop},Q (.ref ea) s->wpAny (model X.prog X.w) (X.A.mark (some (.ref ea))) (eval (.Name n pe) X.env) Q (λ_ _=>False) s:=λ{Q} q=>by
  let⟨m,hn,hlo⟩:=I.loc;let⟨u,r,l⟩:=hlo i n (.ref ea) hi hσ (.inl hsc);have r:u=.ref ea:=r;subst r;rcases l with ⟨hk,hm⟩|⟨hk,_⟩
  ·exact vS (vN I.ok.kind hk hn hm q) hnd
  ·have hk:X.env.kindOf n=some .cell\/X.env.kindOf n=some .free:=hk;rw[hl] at hk;rcases hk with hk|hk<;>cases hk
 have key:wpAny (model X.prog X.w) (X.A.mark (some (.ref ea))) (eval (.Call (.Name x p) [.Name n pe] [] cpos) X.env) (EP (gX (fw X pn xe) (X.A.mark (some (.ref ea)))) pins σ (λv H'=>∀HF,aR HF H->∃HF',bU HF H HF' H'/\Rep X.K HF' d v)) (λ_ _=>False) s:=by
  refine qX (ju I hg hm ?_ hdb);refine W.callWith_K (h₀:=X.base) I.ok.mod.kin hk (jI (ev (kC ⟨I.kIn,?_⟩))) rfl rfl;refine kZ (jR (run _ X.stack s H ⟨[.ref ea],[]⟩ ea C hr.dp hr.un I.env0 (by have:=hb s [.ref ea] I.kIn (by simp[hpl]);simpa using this) hC hob) λr s' hq=>?_);let⟨u,rfl,hq⟩:=hq;exact I.after hq
 refine kU (wpAny_Return_some (yZ key (λu s3 z=>?_) λ_ _ z=>z));let⟨v,H3,I3,r,z⟩:=z;exact⟨u,v,σ,H3,rfl,I3,r,z⟩
open PySem PySem.W PySem.Spec PySem.Calls PyProof.Rows
section
variable {K:Frag}{x D:Addr}
def Cg(X:K.In h)(ha:findIn K (.ref D) name=some (some a))(hg:specialIn K a "__get__"=some (some g))(ht:takesIn K a=some true):Looks M h (Builtin.ObjectAttr.find self (.ref D) name) (.bind g a):=by
 refine (looks_findIn X ha).andThen ?_;refine (show Looks M h (Builtin.ObjectAttr.getOf (some a)) (some g) from looks_specialIn X hg).andThen ?_;refine (show Looks M h (Builtin.ObjectAttr.dataDescriptor? (some a) (some g)) (some (g,a)) from (looks_takesIn X ht).andThen .now).andThen ?_;exact Looks.tag .now
def D2(X:K.In s.heap)(L0:Looks (model prog w) s.heap (typeOf (.ref x)) (.ref D))(hm:mroIn K D (.type "object")=some true)
  (h:R (.ok (.ret (.ref D))) s):codeAny (model prog w) A (.call (.builtin "getset_descriptor.__get__") ⟨[.builtin "object.__class__",.ref x,tp],[]⟩) R s:=by
 have LI:Looks (model prog w) s.heap (isInstance (.ref x) (.type "object")) true:=L0.andThen (looks_mroIn X hm);let⟨hh,g,dr,t,os⟩:=s;refine vO KF.slot_gs.plain KF.entry_gs (KF.slot_gs.check _ _ _ _ _ _ _ _ KF.type_class (KF.args_gs _ _ _) ?_);unfold Builtin.«getset_descriptor.__get__» Builtin.Getset_descriptor.descrGet;rw[dga_obj];refine zU (zV ?_);unfold Builtin.Getset_descriptor.descrGetter Builtin.Getset_descriptor.descrCheckInstance Builtin.Getset_descriptor.descrNameAndClass;simp?[KF.owner_class]
 repeat lk
 refine⟨vW _ (by decide +kernel),jZ KF.entry_class ?_⟩;unfold Builtin.«object.__class__» shownTypeOf
 repeat lk
 exact h
def CD(X:K.In s.heap)(ho:s.heap.get? x=some ox)(hcl:ox.cls=.ref D)(hga:findIn K (.ref D) "__getattribute__"=some (some (.builtin "BaseException.__getattribute__")))(hno:findIn K (.ref D) "__getattr__"=some none)
  (ha:findIn K (.ref D) "__class__"=some (some (.builtin "object.__class__"))) (hn:specialIn K (.builtin "object.__class__") "__get__"=some (some (.builtin "getset_descriptor.__get__"))) (htk:takesIn K (.builtin "object.__class__")=some true) (hm:mroIn K D (.type "object")=some true) (hb:subIn K (.ref D) (.type "BaseException")=some true)
  (h:Q (some (.ref D)) { s with toks:=s.toks+1 }):wpAny (model prog w) A (getAttr? (.ref x) "__class__") Q E s:=by
 let⟨hh,g,d,t,os⟩:=s;have L0:Looks (model prog w) hh (typeOf (.ref x)) (.ref D):=hcl ▸ (Looks.ld ho).andThen .now;have L1:=looks_findIn (M:=model prog w) X hga;have L2:=looks_findIn (M:=model prog w) X hno;have LF:=Cg (M:=model prog w) (self:=.ref x) X ha hn htk;have LI:Looks (model prog w) hh (isInstance (.ref x) (.type "BaseException")) true:=L0.andThen (looks_subIn X hb);unfold getAttr? getAttrBy? getAttrBy;refine zU (wpAny_mkText (zU (kJ (xX (zU (L0.at (zU (L1.at ?_))))))));have hx2:(Value.builtin "BaseException.__getattribute__" == Value.builtin "object.__getattribute__")=false:=by decide +kernel
 simp?[hx2,kM,yN,qP];unfold getAttrByItsOwn hookBefore;refine zU ?_;show wpAny _ _ (typeLookup (.ref D) "__getattr__") _ _ _;refine L2.at ?_;refine zU (kJ (xX ?_));show wpAny _ _ (boundAndCalled (.builtin "BaseException.__getattribute__") (.ref x) (.str "__class__" t)) _ _ _;unfold boundAndCalled;refine zU (wpAny_of_eq (F.attr_ValueError.ga.bind (.ref x)) ?_);refine kZ (vO F.attr_ValueError.ga.plain F.entry_bexc_ga ?_);have hk:builtinKind "BaseException.__getattribute__"=some .slot:=by decide +kernel
 have hsplit:splitId "BaseException.__getattribute__"=some ("BaseException","__getattribute__"):=by decide +kernel
 simp?[checkBuiltinCall,hk,hsplit];refine zU (LI.at ?_);simp?[xY,yN,qP];have hargs:argsOk "BaseException.__getattribute__" ⟨[.ref x]++[.str (Str.ofString "__class__") t],[]⟩:=F.args_bexc_ga _ _;have body:∀ {P:Fin->Shared->Prop}{E':Value->Shared->Prop},P (.done (.ret (.ref D))) ⟨hh,g,d,t+1,os⟩->wpAny (model prog w) A.in1 (Builtin.«object.__getattribute__» ⟨[.ref x]++[.str (Str.ofString "__class__") t],[]⟩) P E' ⟨hh,g,d,t+1,os⟩:=λ{P E'} q=>by
  unfold Builtin.«object.__getattribute__»;refine zU (zV ?_);refine zU (zV ?_);refine zU (L0.at ?_);refine zU (LF.at ?_);show wpAny _ _ (holding [.builtin "object.__class__"] (call (.builtin "getset_descriptor.__get__") [.builtin "object.__class__",.ref x,.ref D]) >>= ret) _ _ _;exact zU (xX (kZ (D2 (s:=⟨hh,g,d,t+1,os⟩) X L0 hm (zV q))))
 cases hsig:Manifest.signature? "BaseException.__getattribute__" with
 | none=>exact zV (body (handed_on rfl (zV h)))
 | some sig =>
  have ha':Bind.checkArgs "BaseException.__getattribute__" sig ⟨[.ref x]++[.str (Str.ofString "__class__") t],[]⟩=pure ():=by simpa only[argsOk,hsig] using hargs
  simp?[ha'];exact zV (body (handed_on rfl (zV h)))
structure Iv(K:Frag)(C:Addr):Prop where
 ga:findIn K (.ref C) "__getattribute__"=some (some (.builtin "BaseException.__getattribute__"))
 no:findIn K (.ref C) "__getattr__"=some none
 cl:findIn K (.ref C) "__class__"=some (some (.builtin "object.__class__"))
 hn:specialIn K (.builtin "object.__class__") "__get__"=some (some (.builtin "getset_descriptor.__get__"))
 tk:takesIn K (.builtin "object.__class__")=some true
 ob:mroIn K C (.type "object")=some true
 be:subIn K (.ref C) (.type "BaseException")=some true
 ci:(clsIn K C).isSome=true
def Ee(k:Iv K D):KitX K (.ref x) (.ref D) (λh=>h.get? x=some ox/\ox.cls=.ref D) where
 ty:=λ_ _ _ p=>p.2 ▸ (Looks.ld p.1).andThen .now
 it:=λ_ _ X _=>by
  have hc:=k.ci;unfold clsIn at hc;split at hc
  ·rename_i ho;intro A' Q' E' s' kp q;unfold isType loadHead;exact zU (wpAny_loadPart (kp _ _ (X _ _ ho)) (zV q))
  ·cases hc
 ne:=λh tp dd its n sl X htp=>by
  have hc:=k.ci;refine Bool.eq_false_iff.mpr λq=>?_;have e:D=tp:=Value.ref.inj (beq_iff_eq.mp q);subst e;unfold clsIn at hc;split at hc
  ·rename_i ho;have z:=(X _ _ ho).symm.trans htp;cases z
  ·cases hc
 ca:=λX p q=>CD X p.1 p.2 k.ga k.no k.cl k.hn k.tk k.ob k.be q
def zk(k:Iv K D)(X:K.In s.heap)(ho:s.heap.get? x=some ox)(hc:ox.cls=.ref D)(e:kitOne K (.ref D) c=some b)(h:∀tk,Q (.bool b) { s with toks:=tk }) :
  wpAny (model prog w) A (call (.builtin "isinstance") [.ref x,c]) Q E s:=kia_one (Ee k) X ⟨ho,hc⟩ e (λz=>nomatch z) h
end
abbrev w8(A:Around):Around:={ A with handled:=none }
abbrev Az(P:Program)(w:World)(K:W.Frag)(mg:Str->Option Value)(base:Heap)(N:List Str)(qual:Str)(scope:Scope)(f:Addr)(cdv:Value)(A:Around)(outer:List PySem.Env)(s:Shared)(H:Hp)(pn:List (Addr×Obj)):Cx :=
 fw (gX (oS GE P w K mg base N qual scope f cdv (w8 A) outer s H E0) (A.deeper (envOfC qual scope s.heap.objs.size f cdv))) pn λ_ _=>False
section
variable {K:W.Frag}
def Cu{C:Addr}{st:Stmt}(F:Ek K x qual st f fd)(S:cA N ps (aj st))(h1:ps.length=1)
  (hdp:A.depth < recursionLimit) (e0:xy P w K mg base A outer s H) (hb:BindsTo s fd args (ps.zip [.ref ea])) (ho:s.heap.get? ea=some ob) (hd:ob.data=.fields vs) (hn:H ea=none) (hf:ea∉eN outer)
  (body:∀ (cdv:Value) (s1:Shared),Inv (Az P w K mg base N qual (aj st) f cdv A outer s H [(ea,ob)]) [] (L2.start N [.ref ea]) H s1 ->
   wpAny (model P w) (A.deeper (envOfC qual (aj st) s.heap.objs.size f cdv)) (execs (bG st) (envOfC qual (aj st) s.heap.objs.size f cdv)) (λfl s'=>∃u v σ' H',fl=.ret u/\Inv (Az P w K mg base N qual (aj st) f cdv A outer s H [(ea,ob)]) [] σ' H' s'/\RelV v u/\Q v H') (λ_ _=>False) s1) :
  codeAny (model P w) A (.call (.ref f) args) (λr s'=>∃u,r=.ok (.ret u)/\CE outer P w H s Q u s') s:=by
 let⟨oc,od,kV,doc,pm,an,cdv,ct,osl,rfl,lk,hcd⟩:=F.ex;have KX:K.In s.heap:=e0.mod.kin.keeps λb o e=>(e0.bs b o e).1;have lim:s.heap.NoLimit:=e0.mod.nolimit.keeps λb o e=>(e0.bs b o e).1;have hkind:∀y∈ps.zip [Value.ref ea],(aj st).names.lookup y.1=some .local \/ ((aj st).names.lookup y.1=some .cell/\((cellsFrom (s.heap.objs.size+1) (aj st).names []).lookup y.1).isSome=true):=λ⟨n,v⟩ hy=>by
  rcases S.par n (vG hy).1 with q|q
  ·exact .inl q
  ·exact .inr ⟨q,W.cellsFrom_some _ _ _ (.inl q)⟩
 refine codeAny_call_function hdp (KX _ _ lk) rfl S.co S.gen rfl (W.codeRec_of KX hcd) (hb _ _ _ _ ?_);refine wpAny_newFunctionEnv_cells S.kind hkind λenv he s1 x=>?_;subst he;refine⟨lim.keeps x.toInCall.keep,codeAny_func ?_⟩;have e0':xy P w K mg base (w8 A) outer s H:=⟨e0.frames,e0.mod,e0.bs,e0.bsz,e0.funs,e0.frf,e0.hok,e0.bare⟩
 have I0:Inv (oS GE P w K mg base N qual (aj st) f cdv (w8 A) outer s H E0) [] (L2.start N [.ref ea]) H s1:=rF S rfl e0' (by simp[h1]) (.cons rfl .nil) x;have hlt:ea < s.heap.objs.size:=zX ho;have I1:=I0.pins_of (pins':=[(ea,ob)]) λp hp=>by
  have hp:p=(ea,ob):=by simpa using hp
  subst hp;exact⟨x.toInCall.keep _ _ ho,hn,yQ hlt,hf,λv z=>by rw[hd] at z;cases z⟩
 have I2:Inv (Az P w K mg base N qual (aj st) f cdv A outer s H [(ea,ob)]) [] (L2.start N [.ref ea]) H s1:=z8 (nZ I1 rfl) λp hp=>yD _ (by simpa using hp);refine yZ (body cdv s1 I2) (λfl s' z=>?_) λ_ _ z=>z.elim;let⟨u,v,σ',H',rfl,J,r,q⟩:=z;exact⟨u,rfl,v,H',J.os,J.bare,J.base,J.hok,r,q⟩
end
def L9{i:Nat}{n y:Str}{ea C:Addr}{ob:Obj}{c:Value}{b:Bool}{p p1 p2 pos:Pos}(k:Iv X.K C)(hpn:(ea,ob)∈X.pn)(hcls:ob.cls=.ref C)(hgi:Gl X "isinstance")(hmi:X.mg "isinstance"=none)(hi:X.N[i]?=some n)(hl:X.env.kindOf n=some .local)(hsc:X.env.scope.names.lookup n=some .local)(hnd:(n == ("__debug__":Str))=false)
  (hy:∀ {pins:List (Addr×Obj)}{σ:L2.St}{H:Hp}{s:Shared}{Q:Value->Shared->Prop},Inv X pins σ H s->Q c s->wpAny (model X.prog X.w) X.A (eval (.Name y p2) X.env) Q X.xe s) (e:W.kitOne X.K (.ref C) c=some b) :
  PE X (.Call (.Name "isinstance" p) [.Name n p1,.Name y p2] [] pos) (λσ H Q=>σ[i]?=some (some (.ref ea))/\Q (.bl b) H):=by
 intro pins s σ H Q I ⟨hσ,q⟩;have ev:∀ {Q:Value->Shared->Prop},Q (.ref ea) s->wpAny (model X.prog X.w) X.A (eval (.Name n p1) X.env) Q X.xe s:=λ{Q} q=>by
  let⟨m,hn,hlo⟩:=I.loc;let⟨u,r,l⟩:=hlo i n (.ref ea) hi hσ (.inl hsc);have r:u=.ref ea:=r;subst r;rcases l with ⟨hk,hm⟩|⟨hk,_⟩
  ·exact vS (vN I.ok.kind hk hn hm q) hnd
  ·have hk:X.env.kindOf n=some .cell\/X.env.kindOf n=some .free:=hk;rw[hl] at hk;rcases hk with hk|hk<;>cases hk
 have ho:=(I.pin (ea,ob) (qJ _ hpn)).1;refine qX (iT I hgi hmi (u:=.builtin "isinstance") (by decide +kernel) ?_);refine PyProof.Rows.callWith_builtin1 (jI (ev (jI (hy I (kC ?_))))) rfl rfl;exact zk k I.kIn ho hcls e λtk=>⟨.bl b,H,I.tok tk,rfl,q⟩
def Fm(d:D)(xs:List D):Nat:=xs.countP λx=>PyData.eqv x d
def BW(hu:X.A.units+66 < cLine):GM X "list.count" (λx vs H Q=>∃ (HF:Hp) (ds:List D) (d:D) (y:V),aR HF H/\Rep X.K HF (.list ds) x/\vs=[y]/\Rep X.K HF d y/\SeqAt.shaped d=true/\SeqAt.shaped (.list ds)=true/\Q (.int (Fm d ds)) H):=by
 intro pins s σ H x vs v us Q I rx rv h;let⟨HF,ds,d,y,sm,r1,rfl,r2,hd,hl,q⟩:=h;let⟨u,rfl,ru⟩:=rv.one;let⟨as,ra⟩:=cm I sm r1 rx;let⟨bs,rb⟩:=cm I sm r2 ru;have c1:=kE hd;have c2:=kE hl;have d1:=SeqAt.depth_of_shaped hd;simp?[PyData.canLay0] at c2;have m:=Nat.min_le_right (PyData.depthAll ds) d.depth;cases ra with
 | list h1 h2 h3 h4 =>
  rename_i l o its n as;let⟨cls,dd,data,sl⟩:=o;simp only at h2 h3;subst h2 h3;have hm:=SeqAt.readsAll_map _ _ _ c2 h4;refine qV F.slot_list_count ⟨_,h1,rfl⟩ F.entry_list_count (F.args_list_count_2 _ _) (PySem.SeqAt.list_countAt l its n dd sl u (λy=>PyData.eqv (SeqAt.readOf s.heap y) d)) ⟨h1,?_,?_⟩
  ·exact SeqAt.items_eqAt h4 rb c2 c1 (by lia)
  ·refine⟨.int (Fm d ds),H,I.tok _,⟨s.toks,?_⟩,q⟩;rw[Fm,<- hm,List.countP_map];rfl
def lO(X:Cx)(ea:Addr)(es:List Expr)(bs:List Bool):Prop:=PA X es (λσ H Q=>σ[0]?=some (some (.ref ea))/\Q (bs.map V.bl) H)
def LX:lO X ea [] []:=λpos pins s σ H Q I ⟨_,q⟩=>cO pos pins s σ H Q I q
def JK{bs:List Bool}(h:PE X e (λσ H Q=>σ[0]?=some (some (.ref ea))/\Q (.bl b) H))(hr:lO X ea es bs)(hs:starEach (e::es) X.env=(false,eval e X.env)::starEach es X.env:=by rfl):lO X ea (e::es) (b::bs) :=
 xu (bJ h hr hs) λσ H Q ⟨h0,q⟩=>⟨h0,h0,q⟩
def dW{K:W.Frag}:∀bs:List Bool,ax K H (bs.map PyData.bool) (bs.map V.bl)
 | []=>rfl
 | b::bs=>⟨_,_,rfl,rfl,dW bs⟩
def la(bs:List Bool):SeqAt.shaped (.list (bs.map PyData.bool))=true:=by
 have h:∀bs:List Bool,PyData.canLayAll0 (bs.map PyData.bool)=true/\PyData.depthAll (bs.map PyData.bool)<=1:=λbs=>by
  induction bs with
  | nil=>exact⟨by simp[PyData.canLayAll0],by simp[PyData.depthAll]⟩
  | cons b bs ih=>exact⟨by simp[PyData.canLayAll0,PyData.canLay0,ih.1],by simp[PyData.depthAll,PyData.depth];lia⟩
 have:=h bs;unfold SeqAt.shaped;rw[zF];exact⟨by simp[PyData.canLay0,this.1],by simp[PyData.depth];lia⟩
def Fd(hu:X.A.units+66 < cLine)(hN:X.N=[("_law_e":Str),("_law_flags":Str)])(hl:X.env.scope.names.lookup ("_law_flags":Str)=some .local)
  (h1:lO X ea es1 bs1) (h6:PE X e6 (λσ H Q=>σ[0]?=some (some (.ref ea))/\Q (.bl true) H)) (w6:∀whole,isTrue e6 X.env whole=(do let v <- whole;standAt e6.pos;holding [v] (truthy v)))
  (hc:Fm (.bool true) (bs1.map PyData.bool)=1) (hj:pW (.bool true) (bs1.map PyData.bool)=some j) (hz:bs1.length<=sizeLine) (l1:(c2.endLine == c4.line)=true) (l2:(d2.endLine == d4.line)=true) :
  uc X [.Assign [.Name "_law_flags" a1] (.List es1 a2) a3,
   .If (.BoolOp .Or [.Compare (.Call (.Attribute (.Name "_law_flags" c1) "count" c2) [.Constant (.bool true) i1 c3] [] c4) [.NotEq] [.Constant (.int 1) i2 c5] c6,.UnaryOp .Not e6 c7] c8) bad [] c9,
   .Return (some (.Tuple [.Constant (.str "refused") i3 d1,.Call (.Attribute (.Name "_law_flags" d3) "index" d2) [.Constant (.bool true) i4 d5] [] d4] k1 d6)) d7]
   (λD σ H=>σ.length=2/\σ[0]?=some (some (.ref ea))/\∀v H',(∀HF,aR HF H->∃HF',bU HF H HF' H'/\Rep X.K HF' (.tuple [.str "refused",.int j]) v)->D.rt v H'):=by
 have hnd:X.N.Nodup:=by rw[hN];decide
 have hi:X.N[1]?=some ("_law_flags":Str):=by rw[hN];rfl
 have hlc:Loc X.env.scope ("_law_flags":Str):=.inl hl;have hv:Gz X.env.scope ("_law_flags":Str):=.inl hl;have hbad:uc X bad (λ_ _ _=>False):=λ_ _ _ _ _ _ z=>z.elim;have p1:=uf (pos':=a1) (pos:=a3) hnd hi hlc (Ga (pos:=a2) h1) rfl (.inr hl);have p3:=Ge (pos:=c9) (PW.pt (Ke (pos:=c8) (AC (pos:=c6) Os (j5 (apos:=c2) (cpos:=c4) qN PySem.F.slot_list_count PySem.F.type_list_count (BW hu) (ki (pos:=c1) hi hv) (bJ (Fe (b:=true) (j:=i1) (pos:=c3)) cO) rfl rfl l1) (Gg (i:=1) (j:=i2) (pos:=c5)) (Gp _ (by decide) (by decide))) (EI (pos:=c8) (D1 (pos:=c7) (FO h6 w6))))) hbad sJ;have p4:=xp (pos:=d7) (DU (x1:=k1) (pos:=d6) (bJ (ET (x:="refused") (j:=i3) (pos:=d1)) (bJ (j5 (apos:=d2) (cpos:=d4) qN PySem.F.slot_list_index PySem.F.type_list_index (Ck hu) (ki (pos:=d3) hi hv) (bJ (Fe (b:=true) (j:=i4) (pos:=d5)) cO) rfl rfl l2) cO)));refine nQ (iC p1 (iC p3 (iC p4 sJ))) λD σ H ⟨hlen,h0,q⟩=>?_;refine⟨h0,by rw[zD];lia,λp hp=>?_⟩;have s1:∀v:V,(σ.set 1 (some v))[1]?=some (some v):=λv=>by simp[hlen]
 have s0:∀v:V,(σ.set 1 (some v))[0]?=some (some (.ref ea)):=λv=>by simp[h0]
 let H3:Hp:=upd H p (.lst (bs1.map V.bl));have hsm:aR H H3:=λb o e=>by
  have n1:b≠p:=λz=>by rw[z,hp] at e;cases e
  show upd H p _ b=some o;rw[aK n1];exact e
 have hls:fS X.K H3 p (bs1.map V.bl):=.inl (.inl aP);have hrp:Rep X.K H3 (.list (bs1.map PyData.bool)) (.ref p):=⟨p,_,rfl,hls,dW _⟩
 have hst:SeqAt.shaped (.bool true)=true:=by decide
 refine⟨.ref p,s1 _,.inl ⟨rfl,_,hls⟩,H3,_,.bool true,.bl true,.refl _,hrp,rfl,rfl,hst,la _,?_⟩;rw[hc];refine⟨rfl,?_⟩;refine⟨false,rfl,?_⟩;refine me ?_;refine⟨s0 _,true,rfl,?_⟩;refine me ?_;refine⟨.ref p,s1 _,.inl ⟨rfl,_,hls⟩,H3,_,.bool true,.bl true,j,.refl _,hrp,rfl,rfl,hst,la _,by rw[zD];exact hz,hj,(show 2<=sizeLine by decide),λp4 hp4=>?_⟩;have hp4:H3 p4=none:=hp4;refine q (.ref p4) _ λHF sm=>⟨upd HF p4 (.tup [.str "refused",.int j]),⟨λb o e=>?_,λb o e=>?_,λb o e=>?_,λb o e=>?_⟩,p4,_,rfl,.inl (.inl aP),?_⟩
 ·have e3:=hsm b o e;rw[aK (λz=>by rw[z,hp4] at e3;cases e3)];exact e3
 ·have e3:=hsm b o (sm b o e);rw[aK (λz=>by rw[z,hp4] at e3;cases e3)];exact e
 ·by_cases z:b=p4
  ·subst z;rw[aP] at e ⊢;exact e
  ·rw[aK z] at e ⊢;exact hsm b o (sm b o e)
 ·by_cases z:b=p4
  ·subst z;refine .inr ?_;cases w:H b with
   | none=>rfl
   | some u=>have:=hsm b u w;rw[hp4] at this;cases this
  ·rw[aK z] at e;exact .inl e
 ·exact⟨_,_,rfl,rfl,_,_,rfl,rfl,rfl⟩
def o6{base h h':Heap}{C:Addr}(hb:∀b o,b≠C->h.get? b=some o->(∀vs,o.data≠.fields vs)->∃o',h'.get? b=some o'/\o'.data=o.data):∀ {l:List PySem.Env},C∉eN l->h.FunFrames base l->h'.FunFrames base l
 | [],_,_=>trivial
 | env::rest,hC,⟨a,⟨L,o,e1,e2,e3,e4⟩,r⟩=>by
  have hL:L≠C:=λz=>hC (by subst z;unfold eN;rw[jF,e1];exact zE);let⟨o',f1,f2⟩:=hb L o hL e3 e4;refine⟨a,⟨L,o',e1,e2,f1,by rw[f2];exact e4⟩,o6 hb (λz=>hC ?_) r⟩;unfold eN at z ⊢;rw[jF,e1];exact zC _ z
def mU{B h:Heap}{as:List Addr}:∀ {l:List PySem.Env},h.FunFrames B l->h.FunFrames (W.hideAll B as) l
 | [],_=>trivial
 | env::rest,⟨a,⟨L,o,e1,e2,e3,e4⟩,r⟩=>by
  refine⟨a,⟨L,o,e1,?_,e3,e4⟩,mU r⟩;cases z:(W.hideAll B as).get? L with
  | none=>rfl
  | some o'=>rw[W.of_hideAll _ z] at e2;cases e2
def sd{B:Heap}{as:List Addr}{b:Addr}(h:B.get? b=none):(W.hideAll B as).get? b=none:=by
 cases z:(W.hideAll B as).get? b with
 | none=>rfl
 | some o'=>rw[W.of_hideAll _ z] at h;cases h
section
variable {X:Cx}{pins:List (Addr×Obj)}{σ:L2.St}{H:Hp}{s s':Shared}
def Oo{E:XK}{C:Addr}{m:Str->Option Value}{e:Value}{cenv:PySem.Env}(hk:Xk X E)(I:Inv X pins σ H s)(hC0:X.s₀.heap.get? C=none)(hCf:C∉eN X.stack)(hCH:H C=none)(hns:s.heap.Ns C m)(hce:cenv.frame=X.env.frame)
  (h:nS X.prog X.w X.stack H s E e s') {E0:Value->Shared->Prop} :
  wpAny (model X.prog X.w) X.A (noteFrame e cenv) (λ_ s1=>∃m,s1.heap.Ns C m/\∀h',Heap.SameBut C s1.heap h'->∀ce:PySem.Env,ce.frame=X.env.frame->∀Q:Value->Shared->Prop,wpAny (model X.prog X.w) X.A (PySem.passOn what e ce) Q X.xe { s1 with heap:=h' }) E0 s':=by
 let⟨ea,cls,H',rfl,F,hc⟩:=h;let⟨B,a0,⟨st,be,ff,tr⟩,hB⟩:=F.fly;have hnote:noteFrame (.ref ea) cenv=noteFrame (.ref ea) X.env:=by unfold noteFrame PySem.frameOf;rw[hce]
 rw[hnote];let⟨oC,es,ep,c1,c2,c3,c4⟩:=hns;have c1':s'.heap.get? C=some oC:=F.un.keep C oC c1 hCH hCf (by simp);have hH':H' C=none:=F.un.free C oC c1 hCH (by simp);have notC:∀ {h:Heap}{b:Addr}{o o2:Obj}{vs:Array Value},h.get? C=some o2->o2.data=oC.data->h.get? b=some o->o.data=.fields vs->b≠C:=λ{h b o o2 vs} e1 e2 e3 e4 z=>by
  subst z;rw[e1] at e3;cases e3;rw[e2,c2] at e4;cases e4
 have fl:(W.hideAll B [C]).FlyingW (X.env::X.outer) ea cls a0 s'.heap:=by
  rw[<- hk.hs];let⟨oe,vs,T,oT,ts,t1,t2,t3,t4,t5,t6,t7,t8,t9⟩:=tr;exact⟨λb o z=>st b o (W.of_hideAll _ z),sd be,mU ff,oe,vs,T,oT,ts,t1,t2,t3,t4,sd t5,t6,t7,t8,t9⟩
 refine wpAny_looks_onW (by rw[I.ok.frames,hk.hs]) hk.hf fl λh1 hd up=>?_;let⟨st1,be1,ff1,tr1⟩:=hd;rw[<- hk.hs] at ff1;let⟨sl,c5⟩:=up C oC c1' (by intro vs z;rw[c2] at z;cases z);refine⟨m,⟨_,es,ep,c5,c2,c3,c4⟩,λh2 sb ce hce2 Q=>?_⟩;let⟨oe,vs,T,oT,ts,t1,t2,t3,t4,t5,t6,t7,t8,t9⟩:=tr1;have neE:ea≠C:=notC c5 rfl t1 t3;have neT:T≠C:=notC c5 rfl t7 t8;have g1:h2.get? ea=some oe:=(sb.2 ea neE).trans t1;have g2:h2.get? T=some oT:=(sb.2 T neT).trans t7;have hz:3 < ts.size:=by
  rcases Nat.lt_or_ge 3 ts.size with z|z
  ·exact z
  ·rw[Array.getElem?_eq_none z] at t9;cases t9
 have n0:(Value.ref T == Value.none)=false:=rfl;have n1:(Value.ref T != Value.none)=true:=rfl;have hfr:ce.frame=some X.env.locals:=by rw[hce2,hk.hf]
 unfold PySem.passOn;refine zU (qT g1 t3 t4 ?_);rw[n0];simp?[yN,qP];unfold setFlight;refine zU (zU (qT g1 t3 t4 ?_));rw[n1,yK rfl];refine wpAny_setField g2 t8 hz (wpAny_throw (hk.hxe _ _ ?_));rw[hfr];show wpAny _ X.A (leaving X.env (.ref ea)) _ _ { s' with heap:=h2.update T (Obj.mapFields λa=>a.setIfInBounds 3 (rawInt (X.env.locals:Nat))) };generalize hfu:(Obj.mapFields λa=>a.setIfInBounds 3 (rawInt (X.env.locals:Nat)))=fu;have k1:∃oT' ts',(h2.update T fu).get? T=some oT'/\oT'.data=.fields ts'/\ts'[3]?=some (rawInt (X.env.locals:Nat)):=by
  subst hfu;cases oT with
  | mk cl di da sl =>
   cases t8;refine⟨_,_,Heap.get?_update_self _ g2 rfl,rfl,?_⟩;simp[Array.getElem?_setIfInBounds,hz]
 let⟨oT',ts',k1,k2,k3⟩:=k1;have k4:∀b,b≠T->(h2.update T fu).get? b=h2.get? b:=λb hb=>Heap.get?_update_ne _ _ _ _ hb;have hid:(W.hideAll B [C]).get? C=none:=W.hideAll_none [C] (by simp);have IP:∀b o,(W.hideAll B [C]).get? b=some o->b≠C/\b≠T:=λb o z=>⟨(λy=>by subst y;rw[hid] at z;cases z),(λy=>by subst y;rw[t5] at z;cases z)⟩
 have st3:(W.hideAll B [C]).StaysIn (h2.update T fu):=λb o z=>by rw[k4 b (IP b o z).2,sb.2 b (IP b o z).1];exact st1 b o z
 have notT:∀ {b:Addr}{o:Obj},h1.get? b=some o->(∀vs,o.data≠.fields vs)->b≠T:=λ{b o} z y w=>by subst w;rw[t7] at z;cases z;exact y _ t8
 have ff3:(h2.update T fu).FunFrames (W.hideAll B [C]) X.stack:=o6 (C:=C) (λb o hb z y=>⟨o,by rw[k4 b (notT z y),sb.2 b hb];exact z,rfl⟩) hCf ff1;have tr3:(h2.update T fu).TracedAtW (W.hideAll B [C]) ea cls a0 (rawInt (X.env.locals:Nat)):=⟨oe,vs,T,oT',ts',by rw[k4 ea (jM t6)];exact g1,t2,t3,t4,t5,t6,k1,k2,k3⟩
 unfold leaving;refine zU (wpAny_noteFrame_againW hk.hf tr3 (wpAny_setFlight_noneW st3 ff3 tr3 λh4 st4 ff4 tr4 kp4=>?_));have ff5:h4.FunFrames (W.hideAll B [C]) X.outer:=by rw[hk.hs] at ff4;exact ff4.2.2
 refine⟨ea,cls,H',rfl,sF (s':=s') (h':=h4) I hk.hs hk.hf hk.hex F.os F.bare F.un F.hok (B:=W.hideAll B [C]) fl.1 (by rw[hk.hs];exact fl.2.2.1) (λb hb hh=>?_) ⟨st4,be1,ff5,tr4⟩ (λb hb o z y=>?_),hc⟩
 ·have hne:b≠C:=λw=>by
   subst w;rcases hh with q|⟨o,q⟩
   ·exact q hH'
   ·rw[hC0] at q;cases q
  let⟨o,q⟩:=hB b hb (hh.imp id λ⟨o,e⟩=>I.base.there b o e (by rw[hk.hex];simp));exact⟨o,W.hideAll_get _ q (by simpa using hne)⟩
 ·have hin:b∈eN X.stack:=by rw[hk.hs];unfold eN at hb ⊢;rw[jF,hk.hf];exact zC _ hb
  have hne:b≠C:=λw=>hCf (by rw[<- w];exact hin);let⟨sl2,q⟩:=up b o z y;refine⟨sl2,kp4 b _ ?_ y⟩;rw[k4 b (notT q y),sb.2 b hne];exact q
end
section
variable {X:Cx}{pins:List (Addr×Obj)}{σ σ':L2.St}{H:Hp}{s:Shared}{scope:Scope}{N:List Str}
 {tg iter elt:Expr}{ifs:List Expr}{pos:Pos}{g:TG}{tt:TT}{te:TE}{E:XK}
def DY(h:PG X.nox tg g):PG X tg g:=λpins s σ H v u Q I r hw =>
 yZ (h pins s σ H v u Q (I.wish _) r hw) (λ_ _ ⟨σ',H',I',q⟩=>⟨σ',H',I'.unwish,q⟩) λ_ _ z=>False.elim z
def Aa(h:GK X.nox ifs tt):GK X ifs tt:=λpins s σ H Q I hw =>
 yZ (h pins s σ H Q (I.wish _) hw) (λ_ _ ⟨H',I',q⟩=>⟨H',I'.unwish,q⟩) λ_ _ z=>False.elim z
def D5(h:PI X.nox tg iter wi):PI X tg iter wi:=λpins s σ H R I hw =>
 yZ (h pins s σ H R (I.wish _) hw) (λ_ _ q=>yZ q (λ_ _ ⟨it,fp,tn,J,H',e,I',T,st,f,r⟩=>⟨it,fp,tn,J,H',e,I'.unwish,T,st,f,r⟩) λ_ _ z=>False.elim z) λ_ _ z=>False.elim z
def pR{R:Result->Shared->Prop}{target:Expr}{acc:Value}{env:PySem.Env}(I:Nat->Shared->Prop)
  (turn:∀n s,I n s->wpAny (model prog w) A (pyNext it) (λr s₁=>match r with
   | none=>R (.ok .next) s₁
   | some v=>wpAny (model prog w) A (letOwnedTupleGo target it v) (λ_ s₁'=>wpAny (model prog w) A (assign target env v) (λ_ s₂ =>
     wpAny (model prog w) A (oK ifs env) (λok s₃ =>
      if ok=true then wpAny (model prog w) A (eval elt env) (λx s₄ =>
       wpAny (model prog w) A (call (.builtin "list.append") [acc,x]) (λ_ s₅=>∃m,m < n/\I m s₅) (notedBy (model prog w) A env λx s'=>R (.error x) s') s₄) (notedBy (model prog w) A env λx s'=>R (.error x) s') s₃
      else ∃m,m < n/\I m s₃) (notedBy (model prog w) A env λx s'=>R (.error x) s') s₂) (notedBy (model prog w) A env λx s'=>R (.error x) s') s₁') (notedBy (model prog w) A env λx s'=>R (.error x) s') s₁) (notedBy (model prog w) A env λx s'=>R (.error x) s') s)
  (n:Nat) (h:I n s) :
  codeAny (model prog w) A (.compLoop (.ListComp elt [⟨target,iter,ifs,0⟩] scope pos) 0 it acc env) R s:=by
 refine codeAny_loop rfl I (λn s hI=>?_) n h;show wpAny _ A ((compTurn (.ListComp elt [⟨target,iter,ifs,0⟩] scope pos) 0 it acc env).onRaise (λx=>do noteFrame x env;theTreesLotGoes x)) _ _ s;refine wpAny_noted ?_;rw[compTurn_list];refine zU (kR (zU (bL (turn n s hI) λr s₁ h₁=>?_)));cases r with
 | none=>exact zV h₁
 | some v =>
  refine zU (bL h₁ λ_ s₁' h₁'=>?_);refine zU (bL h₁' λ_ s₂ h₂=>zU (bL h₂ λok s₃ h₃=>?_));cases ok with
  | false=>exact zV ⟨rfl,h₃⟩
  | true =>
   exact zU (zU (bL h₃ λx s₄ h₄=>zU (bL h₄ λ_ s₅ h₅=>zV (zV ⟨rfl,h₅⟩))))
def iG(X:Cx)(pins:List (Addr×Obj))(σ:L2.St)(Q:VK)(acc:Value)(C:Addr)(r:Result)(s5:Shared):Prop:=match r with
 | .ok f=>ue X pins σ Q acc C (.ok f) s5
 | .error e=>∃m,s5.heap.Ns C m/\∀h',Heap.SameBut C s5.heap h'->∀ce:PySem.Env,ce.frame=X.env.frame->∀Q':Value->Shared->Prop,wpAny (model X.prog X.w) X.A (PySem.passOn "comprehension.variables-let-go" e ce) Q' X.xe { s5 with heap:=h' }
def pq(hk:Xk X E)(hc:X.calm=true)(I:Inv X pins σ H s)(T:Turn X.prog X.w X.K tg J fp it tn)(st:tn 0 s.heap)(hf:∀b∈fp,fN X pins H b)(hkd:scope.kind=.function)
  (hfree:∀x∈scope.names,x.2=.free->X.env.kindOf x.1=some .cell\/X.env.kindOf x.1=some .free) (hdup:∀ {x:Str},(x,NameKind.cell)∈scope.names->(x,NameKind.free)∈scope.names->False)
  (hcap:∀ (i:Nat) (x:Str) (v:V),N[i]?=some x->σ'[i]?=some (some v)->scope.names.lookup x=some .free/\∃j:Nat,X.N[j]?=some x/\σ[j]?=some (some v)) (hlen:σ'.length=N.length)
  (hY:∀fp s H xe,cq (nS X.prog X.w) ((aq X scope N fp s H).wish xe) E->PG ((aq X scope N fp s H).wish xe) tg g/\GK ((aq X scope N fp s H).wish xe) ifs tt/\PE ((aq X scope N fp s H).wish xe) elt te)
  (hrd:∀D,H D=none->wU J g tt te D σ' (upd H D (.lst [])) Q) {E':Value->Shared->Prop} :
  wpAny (model X.prog X.w) X.A (newList []) (λacc s₃=>wpAny (model X.prog X.w) X.A (newFunctionEnv scope X.env.globals (gF X.env scope.names []) [] X.env.qual none .none (some X.env)) (λcenv s₄ =>
   codeAny (model X.prog X.w) X.A (.compStart (.ListComp elt [⟨tg,iter,ifs,0⟩] scope pos) 0 (.ref it) acc { cenv with scope:=relabel scope X.env }) (iG X pins σ Q acc cenv.locals) s₄/\cenv.frame=X.env.frame) E' s₃) E' s:=by
 refine qL ?_;have hfl:∀b∈fp,b < s.heap.objs.size:=λb hb=>let ⟨o,e,_⟩:=T.obj _ _ st b hb;zX e;have I3:=I.lnew (ys:=[]) (its:=[]) (t':=s.toks) .nil (xV _);have hD:H s.heap.objs.size=none:=I.fresh;let⟨W,⟨m0,w0⟩,turn⟩:=hrd _ hD;generalize e3:({ s with heap:=s.heap.push { cls:=.type "list",data:=.seq ([]:List Value).toArray },toks:=s.toks }:Shared)=s3 at I3;have e3h:s3.heap=s.heap.push { cls:=.type "list",data:=.seq ([]:List Value).toArray }:=by rw[<- e3]
 generalize hH3:upd H s.heap.objs.size (.lst [])=H3 at I3 w0 turn;have hlt:s.heap.objs.size < s3.heap.objs.size:=by rw[e3h,xI];exact kH _
 have hk3:∀b o,s.heap.get? b=some o->s3.heap.get? b=some o:=λb o e=>by rw[e3h];exact zT _ e
 generalize s.heap.objs.size=D at *;have f3:∀b∈fp,fN X pins H3 b:=λb hb=>by
  let⟨f0,f⟩:=hf b hb;refine⟨?_,f⟩;rw[<- hH3,aK (yQ (hfl b hb))];exact f0
 have st3:tn 0 s3.heap:=T.keep _ _ _ st λb _ o e=>hk3 b o e;refine oU λh4 hns hkp hco=>?_;dsimp only;refine⟨?_,rfl⟩;have I4:=uF (N:=N) (σ':=σ') (fp:=fp) I3 f3 (λb hb=>wC (hfl b hb) hlt) hkd hfree hns hkp hco hdup hcap hlen s3.toks;have fC:∀H',H' s3.heap.objs.size=none->fN X pins H' s3.heap.objs.size:=λH' hn=>I3.fpOk (yL _) hn;have back:∀ {pins':List (Addr×Obj)}{σ5:L2.St}{H5:Hp}{s5:Shared},Inv (aq X scope N fp s3 H3) pins' σ5 H5 s5->Inv X pins σ H5 s5:=λ{pins' σ5 H5 s5} I6=>I3.call' I6.os I6.base I6.hok I6.bare λb hb=>by
  let⟨f0,f1,f2,f4,f5,f6⟩:=f3 b hb;exact⟨f4,f1,f5,f6⟩
 have noC:∀o,s3.heap.get? s3.heap.objs.size≠some o:=λo z=>qE _ (zX z);have hxp:cq (nS X.prog X.w) ((aq X scope N fp s3 H3).wish (notedBy (model X.prog X.w) X.A (cE X scope s3.heap.objs.size) λx s'=>iG X pins σ Q (.ref D) s3.heap.objs.size (.error x) s')) E:=λpins5 σ5 H5 s5 e s' I5 h=>by
  have J5:Inv (aq X scope N fp s3 H3) pins5 σ5 H5 s5:=I5.unwish;let⟨m,hn5,_⟩:=J5.loc;show notedBy (model X.prog X.w) X.A (cE X scope s3.heap.objs.size) (λx s'=>iG X pins σ Q (.ref D) s3.heap.objs.size (.error x) s') e s';refine Oo (C:=s3.heap.objs.size) (m:=m) hk (back J5) ?_ ?_ J5.free hn5 rfl h
  ·cases z:X.s₀.heap.get? s3.heap.objs.size with
   | none=>rfl
   | some o =>
    let⟨o',z'⟩:=I3.base.there _ o z (by rw[hk.hex];simp);exact absurd z' (noC o')
  ·intro z;let⟨_,o,z',_⟩:=I3.stack.mem z;exact noC o z'
 let⟨hg,htt,hte⟩:=hY fp s3 H3 _ hxp;have efp:∀b∈fp,∀H':Hp,H' b=none->fN (aq X scope N fp s3 H3) [] H' b:=λb hb H' hn=>by
  refine⟨hn,(I4.ok.exf b hb).1,I4.ok.exfs b hb,.inl hb,(I4.ok.exf b hb).2,λp hp=>?_⟩;cases hp
 have loop:codeAny (model X.prog X.w) X.A (.compLoop (.ListComp elt [⟨tg,iter,ifs,0⟩] scope pos) 0 (.ref it) (.ref D) (cE X scope s3.heap.objs.size)) (iG X pins σ Q (.ref D) s3.heap.objs.size) { s3 with heap:=h4 }:=by
  refine pR (λn s'=>∃i σ' H',Inv (aq X scope N fp s3 H3) [] σ' H' s'/\tn i s'.heap/\(∀b∈fp,H' b=none)/\W i n σ' H') ?_ m0
   ⟨0,σ',H3,I4,T.keep _ _ _ st3 λb _ o e=>hkp b o e,λb hb=>(f3 b hb).1,w0⟩
  rintro n s5 ⟨i,σ5,H5,I5,st5,fr5,w5⟩;rcases turn i n σ5 H5 w5 with ⟨stop,q⟩|⟨go,step⟩
  ·refine bL (T.done (aq X scope N fp s3 H3) rfl rfl rfl hc i [] s5 σ5 H5 _ I5 (λb hb=>efp b hb H5 (fr5 b hb)) st5 stop) λr s6 ⟨hr,I6⟩=>?_;subst hr;let⟨m,hn6,_⟩:=I6.loc;exact⟨D,H5,m,rfl,rfl,back I6,hn6,fC H5 I6.free,q⟩
  ·refine bL (T.item (aq X scope N fp s3 H3) rfl rfl rfl hc i [] s5 σ5 H5 _ I5 (λb hb=>efp b hb H5 (fr5 b hb)) st5 go) λr s6 ⟨u,hr,h6⟩=>?_;subst hr;refine bL h6 λ_ s7 ⟨x,H7,I7,r7,y7,st7,fr7⟩=>?_;have I7':=I7.pinned (λb hb=>efp b hb H7 (fr7 b hb)) (T.obj _ _ st7);have again:∀ {σ9:L2.St}{H9:Hp}{s9:Shared}{n':Nat},Inv (aq X scope N fp s3 H3) ([]++mH fp s7.heap) σ9 H9 s9->W (i+1) n' σ9 H9->∃i σ' H',Inv (aq X scope N fp s3 H3) [] σ' H' s9/\tn i s9.heap/\(∀b∈fp,H' b=none)/\W i n' σ' H':=λ{σ9 H9 s9 n'} I9 w9=>by
    refine⟨i+1,σ9,H9,I9.unpinned,T.keep _ _ _ st7 λb hb o e=>(I9.pin (b,o) (yD _ (yD _ (dS hb e)))).1,λb hb=>?_,w9⟩;let⟨o,e,d⟩:=T.obj _ _ st7 b hb;exact (I9.pin (b,o) (yD _ (yD _ (dS hb e)))).2.1
   refine bL (hg _ s7 σ5 H7 x u _ (I7'.wish _) r7 (step x H7 y7)) λ_ s8 ⟨σ8,H8,I8,q8⟩=>?_;refine bL (htt _ s8 σ8 H8 _ I8 q8) λok s9 ⟨H9,I9,q9⟩=>?_;cases ok with
   | false =>
    rw[yM (by decide)] at q9;rw[yM (by decide)];let⟨m',hm,w9⟩:=q9;exact⟨m',hm,again I9.unwish w9⟩
   | true =>
    rw[yK rfl] at q9;rw[yK rfl];refine bL (hte _ s9 σ8 H9 _ I9 q9) λy s10 ⟨v,H10,I10,r10,ys,hD10,hz,m',hm,w10⟩=>?_;refine bL (mr (X:=(aq X scope N fp s3 H3).wish (notedBy (model X.prog X.w) X.A (cE X scope s3.heap.objs.size) λx s'=>iG X pins σ Q (.ref D) s3.heap.objs.size (.error x) s')) _ s10 σ8 H10 (.ref D) [v] (.ref D) [y] (λ_ H'=>W (i+1) m' σ8 H') I10 rfl (.cons r10 .nil) ⟨D,ys,v,rfl,rfl,hD10,hz,w10⟩) λ_ s11 ⟨_,H11,I11,_,w11⟩=>?_;exact⟨m',hm,again I11.unwish w11⟩
 exact codeAny_compStart_list loop (T.self _ 0 _ _ _ (T.keep _ _ _ st3 λb _ o e=>hkp b o e) loop)
def lP{env:PySem.Env}(h:∀x∈scope.names,x.2≠.free):relabel scope env=scope:=by
 unfold relabel;cases scope with
 | mk k ns a b c =>
  congr 1
  conv=>rhs;rw[<- List.map_id ns]
  refine yH λx hx=>?_;let⟨n,kd⟩:=x;have hf:(kd == NameKind.free)=false:=by
   cases kd<;>first|rfl|exact absurd rfl (h _ hx)
  simp[hf]
def mw{env:PySem.Env}:∀ {l:List (Str×NameKind)}{acc:List (Str×Addr)},(∀x∈l,x.2≠.free)->gF env l acc=acc
 | [],_,_=>rfl
 | (n,kd)::r,acc,h=>by
  have hf:(kd == NameKind.free)=false:=by
   cases kd<;>first|rfl|exact absurd rfl (h _ zE)
  unfold gF;rw[hf];exact mw λx hx=>h x (zC _ hx)
def Fo{wi:TI}(hk:Xk X E)(hc:X.calm=true)(S:eF X scope N caps)(hnf:∀x∈scope.names,x.2≠.free)(hi:PI X tg iter wi)
  (hY:∀fp s H xe,cq (nS X.prog X.w) ((aq X scope N fp s H).wish xe) E->PG ((aq X scope N fp s H).wish xe) tg g/\GK ((aq X scope N fp s H).wish xe) ifs tt/\PE ((aq X scope N fp s H).wish xe) elt te)
  (hs:∀x,foldedSetIterable iter X.env x=pure x):PE X (.ListComp elt [⟨tg,iter,ifs,0⟩] scope pos) (wz wi g tt te caps):=by
 intro pins s σ H Q I h;refine wpAny_ListComp hnf S.kind S.loc (bL (hi pins s σ H _ I h) λv s1 h1=>bL h1 λitv s2 h2=>?_) hs;let⟨it,fp,tn,J,H2,e,I2,T,st2,f2,rd⟩:=h2;subst e;have key:=pq (iter:=iter) (pos:=pos) (E':=X.xe) hk hc I2 T st2 f2 S.kind S.free S.dup (S.cap σ) (S.len σ) hY rd;rw[lP hnf,mw hnf] at key;refine bL key λacc s3 h3=>bL h3 λcenv s4 h4=>?_;refine jR h4.1 λr s5 h5=>?_;cases r with
 | ok a =>
  let⟨D,H5,m,rfl,_,I5,hn,fC,q⟩:=h5;refine⟨m,hn,λh' sb=>?_⟩;let⟨f0,f1,f2',f3,f4,f5⟩:=fC;exact⟨.ref D,H5,I5.turned (t':=s5.toks) (λb o hb e=>(sb.2 b hb).trans e) f0 f1 f3 f4 f5,rfl,q⟩
 | error e =>
  let⟨m,hn,z⟩:=h5;exact⟨m,hn,λh' sb=>z h' sb _ h4.2 _⟩
end
def Bm(tgt:Dl.Env->D->Option Dl.Env)(tt:Dl.Env->Option Bool)(te:Dl.Env->Option D)(xe:Dl.Env->Option Str)(ρ:Dl.Env):List D->Option Str
 | []=>none
 | d::ds=>(tgt ρ d).bind λρ'=>(tt ρ').bind λb=>if b=true then (match xe ρ' with|some c=>some c|none=>(te ρ').bind λ_=>Bm tgt tt te xe ρ ds) else Bm tgt tt te xe ρ ds
def gh(t:Nat)(cs:List Nat)(fi:Dl.Env->Option (List D))(tgt:Dl.Env->D->Option Dl.Env)(tt:Dl.Env->Option Bool)(te:Dl.Env->Option D)(xe:Dl.Env->Option Str):Dl.Env->Option Str:=λρ=>(fi ρ).bind λds=>if ds.length<=sizeLine then Bm tgt tt te xe (f7 t cs ρ) ds else none
section
variable {X:Cx}{E:XK}{elt iter tg:Expr}{ifs:List Expr}{scope:Scope}{N:List Str}{t:Nat}{cs:List Nat}{fi:Dl.Env->Option (List D)}{tgt:Dl.Env->D->Option Dl.Env}{tt:Dl.Env->Option Bool}{te:Dl.Env->Option D}{xe:Dl.Env->Option Str}{pos:Pos}
def A3:∀σ H Q,On X.K X.mg E (gh t cs fi tgt tt te xe) σ H Q->wz (P9 X.K fi) (M8 X.K tgt) (Hb X.K tt) (λσ H Q=>tD X.K te σ H Q\/On X.K X.mg E xe σ H Q) (fE t cs) σ H Q:=λσ H Q ⟨HF,ρ,c,Cc,sm,eo,hf,hcc,q⟩=>by
 let⟨ds,hx,hf⟩:=bs hf;split at hf;rotate_left
 ·cases hf
 rename_i hz;refine⟨HF,ρ,ds,sm,eo,hx,λJ H1 HF1 g1 it Dn hD=>?_⟩;have eo1:=AV (t:=t) (cs:=cs) (eo.mono g1.ff);have hFD:HF1 Dn=none:=g1.fh.free hD;refine⟨λi m σ' H'=>m+i=ds.length/\∃HF' ys,bU HF1 H1 HF' H'/\HF' Dn=none/\H' Dn=some (.lst ys)/\ys.length<=i/\cS X.K HF' (f7 t cs ρ) σ'/\Bm tgt tt te xe (f7 t cs ρ) (ds.drop i)=some c,
  ⟨ds.length,rfl,HF1,[],.own g1.fh hD,hFD,aP,yL _,eo1,hf⟩,?_⟩
 rintro i m σ' H' ⟨hm,HF',ys,G,hFD',hHD,hys,eo',hc⟩;by_cases hi:i < ds.length
 ·refine .inr ?_;have hd:ds.drop i=ds[i]::ds.drop (i+1):=kP hi;have he:ds[i]?=some ds[i]:=List.getElem?_eq_some_iff.mpr ⟨hi,rfl⟩;generalize ds[i]=d at hd he;rw[hd] at hc;unfold Bm at hc;let⟨ρ',h1,hc⟩:=bs hc;let⟨b,h2,hc⟩:=bs hc;let⟨go,yld⟩:=it.go i d H' HF' he G.ff G.fh;refine⟨go,λx H2 y=>?_⟩;let⟨HF2,G2,rx⟩:=yld x H2 y;refine⟨HF2,_,d,ρ',G2.fh,eo'.mono G2.ff,rx,h1,λσ2 eo2 eo2'=>?_⟩;refine⟨HF2,ρ',b,G2.fh,eo2,h2,λH3 HF3 G3=>?_⟩;have nof:∀HF4 H4,bU HF' H' HF4 H4->HF4 Dn=none:=λHF4 H4 G4=>by
   cases e4:HF4 Dn with
   | none=>rfl
   | some o =>
    rcases G4.nw Dn o e4 with z|z
    ·rw[hFD'] at z;cases z
    ·rw[hHD] at z;cases z
  cases b with
  | false =>
   refine me ⟨m - 1,by lia,by lia,HF3,ys,(G.trans G2).trans G3,nof _ _ (G2.trans G3),(G2.trans G3).hh _ _ hHD,by lia,eo2'.mono G3.ff,by simpa using hc⟩
  | true =>
   rw[yK rfl] at hc;cases hxe:xe ρ' with
   | some c' =>
    rw[hxe] at hc;cases hc;refine nE (.inr ⟨HF3,ρ',c,Cc,G3.fh,eo2.mono G3.ff,hxe,hcc,λH' HF' G4=>q _ _ (((g1.trans G).trans (G2.trans G3)).trans G4)⟩)
   | none =>
    rw[hxe] at hc;let⟨z,h3,hc⟩:=bs hc;refine nE (.inl ⟨HF3,ρ',z,G3.fh,eo2.mono G3.ff,h3,λv H4 HF4 G4 rv=>?_⟩);have GG:=(G2.trans G3).trans G4;have n4:=nof _ _ GG;have h4D:=GG.hh _ _ hHD;refine⟨ys,h4D,by lia,m - 1,by lia,by lia,HF4,ys++[v],?_,n4,aP,by simp;lia,eo2'.mono (G3.ff.trans G4.ff),hc⟩;have G5:=G.trans GG;refine⟨λb o e=>?_,G5.ff,λb o e=>?_,G5.nw⟩
    ·rw[aK (aV e hD)];exact G5.hh b o e
    ·rw[aK (aV e n4)];exact G5.fh b o e
 ·have hi':i=ds.length:=by lia
  subst hi';rw[List.drop_length] at hc;cases hc
def vn(hk:Xk X E)(hc:X.calm=true)(S:eF X scope N (fE t cs))(hnf:∀x∈scope.names,x.2≠.free)(hi:DI X.nox tg iter fi)
  (hY:∀fp s H,DG (aq X scope N fp s H) tg tgt/\Kd (aq X scope N fp s H) ifs tt/\DE (aq X scope N fp s H) elt te)
  (hx:∀fp s H xf,cq (nS X.prog X.w) ((aq X scope N fp s H).wish xf) E->pO ((aq X scope N fp s H).wish xf) E elt xe)
  (hs:∀x,foldedSetIterable iter X.env x=pure x):pO X E (.ListComp elt [⟨tg,iter,ifs,0⟩] scope pos) (gh t cs fi tgt tt te xe) :=
 aN (Fo (g:=M8 X.K tgt) (tt:=Hb X.K tt) (te:=λσ H Q=>tD X.K te σ H Q\/On X.K X.mg E xe σ H Q) hk hc S hnf (D5 hi) (λfp s0 H0 xf hp=>by
  let⟨y1,y2,y3⟩:=hY fp s0 H0;refine⟨DY (X:=(aq X scope N fp s0 H0).wish xf) y1,Aa (X:=(aq X scope N fp s0 H0).wish xf) y2,λpins s σ H Q I h=>?_⟩;rcases h with h|h
  ·exact PE.nox (X:=(aq X scope N fp s0 H0).wish xf) y3 pins s σ H Q I h
  ·exact hx fp s0 H0 xf hp pins s σ H Q I h) hs) A3
def MF{T:String}{p0:Pos}(B:nj X.nox x (.type T))(hl:pO X E l xf)(hn:x≠"__name__":=by decide)(hd:(x == ("__debug__":Str))=false:=by decide)(he:starEach [l] X.env=(false,eval l X.env)::starEach [] X.env:=by rfl):pO X E (.Call (.Name x p0) [l] [] pos) xf :=
 aN (jm (r:=λ_ _ _=>False) (λ_ _ _ _ _ _ _ _ _ h=>h.elim) B.gl B.mg B.bt (bJ hl cO he) hn hd he rfl) λσ H Q h=>h
def qj(a b:Dl.Env->Option Str):Dl.Env->Option Str:=λρ=>match a ρ with
 | some c=>some c
 | none=>b ρ
def Ny{e:Expr}(ha:pO X E e a)(hb:pO X E e b):pO X E e (qj a b):=λpins s σ H Q I ⟨HF,ρ,c,C,sm,eo,hf,q⟩=>by
 unfold qj at hf;split at hf
 ·rename_i c' z;cases hf;exact ha pins s σ H Q I ⟨HF,ρ,c,C,sm,eo,z,q⟩
 ·exact hb pins s σ H Q I ⟨HF,ρ,c,C,sm,eo,hf,q⟩
def Ob{st:Stmt}(ha:DX X E HF₀ H₀ st (λρ=>a (aD ρ)))(hb:DX X E HF₀ H₀ st (λρ=>b (aD ρ))):DX X E HF₀ H₀ st (λρ=>qj a b (aD ρ)):=λpins s σ H D I ⟨HF,ρ,c,C,S,hf,q⟩=>by
 unfold qj at hf;dsimp only at hf;split at hf
 ·rename_i c' z;cases hf;exact ha pins s σ H D I ⟨HF,ρ,c,C,S,z,q⟩
 ·exact hb pins s σ H D I ⟨HF,ρ,c,C,S,hf,q⟩
def Ip{y:Str}{py spos:Pos}(S:eF X.nox scope N caps)(hnf:∀x∈scope.names,x.2≠.free)(hi:pO X E iter xf)(hsw:swapsWith (.ListComp elt [⟨tg,iter,ifs,0⟩] scope pos) (some (.Name y py)) spos.line X.env=pure true)
  (hs:∀x,foldedSetIterable iter X.env x=pure x):DX X E HF₀ H₀ (.Assign [.Name y py] (.ListComp elt [⟨tg,iter,ifs,0⟩] scope pos) spos) (λρ=>xf (aD ρ)):=by
 intro pins s σ H D I h;rw[exec_Assign_Name_used _ _ _ _ hsw];refine zU (kR (zU ?_));show wpAny _ X.A (do let _ <- comprehension (.ListComp elt [⟨tg,iter,ifs,0⟩] scope pos) scope X.env _ (newList []) false (eval iter X.env) (some (assign (.Name y py) X.env))) _ _ s;exact zU (wpAny_comprehension_use rfl hs hnf S.kind S.loc (bL (hi pins s σ H (λ_ _=>False) I (vx h)) λv s1 ⟨_,_,_,_,z⟩=>z.elim))
def Iw{y:Str}{py spos:Pos}(hk:Xk X E)(hc:X.calm=true)(S:eF X scope N (fE t cs))(hnf:∀x∈scope.names,x.2≠.free)(hi:DI X.nox tg iter fi)
  (hY:∀fp s H,DG (aq X scope N fp s H) tg tgt/\Kd (aq X scope N fp s H) ifs tt/\DE (aq X scope N fp s H) elt te)
  (hx:∀fp s H xf,cq (nS X.prog X.w) ((aq X scope N fp s H).wish xf) E->pO ((aq X scope N fp s H).wish xf) E elt xe)
  (hsw:swapsWith (.ListComp elt [⟨tg,iter,ifs,0⟩] scope pos) (some (.Name y py)) spos.line X.env=pure true)
  (hs:∀x,foldedSetIterable iter X.env x=pure x):DX X E HF₀ H₀ (.Assign [.Name y py] (.ListComp elt [⟨tg,iter,ifs,0⟩] scope pos) spos) (λρ=>gh t cs fi tgt tt te xe (aD ρ)):=by
 intro pins s σ H D I h;rw[exec_Assign_Name_used _ _ _ _ hsw];refine zU (kR (zU ?_));show wpAny _ X.A (do let _ <- comprehension (.ListComp elt [⟨tg,iter,ifs,0⟩] scope pos) scope X.env _ (newList []) false (eval iter X.env) (some (assign (.Name y py) X.env))) _ _ s;refine zU (wpAny_comprehension_use rfl hs hnf S.kind S.loc (bL (D5 hi pins s σ H _ I (A3 (X:=X) σ H (λ_ _=>False) (vx h))) λv s1 h1=>bL h1 λitv s2 h2=>?_));let⟨it,fp,tn,J,H2,e,I2,T,st2,f2,rd⟩:=h2;subst e;have key:=pq (iter:=iter) (pos:=pos) (E':=X.xe) hk hc I2 T st2 f2 S.kind S.free S.dup (S.cap σ) (S.len σ) (λfp s0 H0 xf hp=>by
  let⟨y1,y2,y3⟩:=hY fp s0 H0;refine⟨DY (X:=(aq X scope N fp s0 H0).wish xf) y1,Aa (X:=(aq X scope N fp s0 H0).wish xf) y2,λpins s σ H Q I h=>?_⟩;rcases h with h|h
  ·exact PE.nox (X:=(aq X scope N fp s0 H0).wish xf) y3 pins s σ H Q I h
  ·exact hx fp s0 H0 xf hp pins s σ H Q I h) rd
 rw[lP hnf,mw hnf] at key;refine bL key λacc s3 h3=>bL h3 λcenv s4 h4=>?_;refine jR h4.1 λr s5 h5=>?_;cases r with
 | ok a =>
  let⟨D,H5,m,rfl,_,I5,hn,fC,q⟩:=h5;exact q.elim
 | error e =>
  let⟨m,hn,z⟩:=h5;exact⟨m,hn,λh' sb=>z h' sb _ h4.2 _⟩
end
open PySem L2 Dl PySem.Spec PyProof.Rows Rf
abbrev XE:=Dl.Env->Option Str
abbrev XS:=au->Option Str
abbrev XT:=List (Str×Nat×(List D->Option Str))
def zw:XE:=λ_=>none
def jy:XS:=λ_=>none
def gm(x:XE):XS:=λρ=>x (aD ρ)
def Cq(c:Str):XS:=λ_=>some c
def fV(xh:XS)(g:GS)(xr:XS):XS:=λρ=>match xh ρ with
 | some c=>some c
 | none=>qa g xr ρ
def lb(P:Program)(w:World)(K:W.Frag)(mg:Str->Option Value)(base:Heap)(j:Nat)(l:XT):Prop:=∀x n m,l.lookup x=some (n,m)->IK P w K mg base j x n m
def OJ(fx:XT)(sc:Scope)(T:Tr)(x:Str)(a:Expr)(as:List Expr):Option XE:=match fx.lookup x with
 | some (m,xm)=>if (uk sc x&&((a::as).all λe=>!isStar e)&&!(x == ("__debug__":Str)))=true then (qb T (a::as)).map λfs=>mz m xm fs else none
 | none=>none
def GD(fx:XT)(sc:Scope)(N:List Str)(T:Tr):Nat->Expr->Option XE
 | 0,_=>none
 | n+1,e=>match e with
  | .Call (.Name x _) (a::as) [] _=>OJ fx sc T x a as
  | .IfExp c a b _=>(T.t c).bind λt=>match GD fx sc N T n a,GD fx sc N T n b with
   | none,none=>none
   | xa,xb=>some (nG t (xa.getD zw) (xb.getD zw))
  | _=>none
abbrev BL:=Option (Scope->List Str->Tr)
def O0(scope:Scope):Bool:=scope.names.all λx=>!(x.2 == NameKind.free)
def xN(N:List Str)(scope:Scope)(y:Str):List Str:=[y]++(lD N scope).filterMap λj=>N[j]?
def wg(b:Scope->List Str->Tr)(fx:XT)(sc:Scope)(N:List Str)(T:Tr)(elt:Expr)(y:Str)(py:Pos)(iter:Expr)(as:Int)(scope:Scope):Option XE :=
 if ((decide (as=0)&&tP sc scope N (xN N scope y) 1 (lD N scope))&&(sj (xN N scope y) scope 0 y&&O0 scope))=true then (match elt with
  | .Call (.Name x _) (a::r) [] _=>(NK sc T (.Name y py) iter).bind λfi=>((b scope (xN N scope y)).e elt).bind λte=>(OJ fx scope (b scope (xN N scope y)) x a r).map λxe=>gh 1 (lD N scope) fi (fG 0) (λ_=>some true) te xe
  | _=>none) else none
def P4(bl:BL)(fx:XT)(sc:Scope)(N:List Str)(T:Tr)(e:Expr):Option XE:=match e with
 | .ListComp elt [⟨.Name y py,iter,[],as⟩] scope _=>bl.bind λb=>wg b fx sc N T elt y py iter as scope
 | .Call (.Name x _) [.ListComp elt [⟨.Name y py,iter,[],as⟩] scope _] [] _=>if (x == ("tuple":Str)&&uk sc x)=true then bl.bind λb=>wg b fx sc N T elt y py iter as scope else none
 | _=>none
def O8(bl:BL)(fx:XT)(sc:Scope)(N:List Str)(T:Tr)(e:Expr):Option XE:=match P4 bl fx sc N T e with
 | none=>GD fx sc N T 4 e
 | some a=>some (match GD fx sc N T 4 e with|some c=>qj c a|none=>a)
def Qs(sc:Scope)(x:Str)(px:Pos)(scope:Scope)(lp:Pos):Bool:=decide (sc.names.lookup x=some .local)&&(px.line == lp.line&&!(scope.names.any λ(n,k)=>n == x&&(k == .local || k == .cell)))
def O6(bl:BL)(fx:XT)(sc:Scope)(N:List Str)(T:Tr)(x:Str)(px:Pos)(elt:Expr)(y:Str)(py:Pos)(iter:Expr)(as:Int)(scope:Scope)(lp:Pos):Option XE :=
 if Qs sc x px scope lp=true then bl.bind λb=>(wg b fx sc N T elt y py iter as scope).map λa=>match GD fx sc N T 4 iter with|some c=>qj c a|none=>a else none
def pS(f:Stmt->Option XS)(tS:Stmt->Option GS):List Stmt->Option XS
 | []=>none
 | s::r=>match f s,pS f tS r with
  | none,none=>none
  | some xh,none=>some xh
  | none,some xr=>(tS s).map λg=>qa g xr
  | some xh,some xr=>match tS s with
   | some g=>some (fV xh g xr)
   | none=>some xh
def G9(bl:BL)(cl:List Str)(fx:XT)(sc:Scope)(N:List Str)(T:Tr)(tS:Stmt->Option GS):Nat->Stmt->Option XS
 | 0,_=>none
 | n+1,st=>match st with
  | .Return (some e) _=>(O8 bl fx sc N T e).map gm
  | .Assign [.Name x px] (.ListComp elt [⟨.Name y py,iter,[],as⟩] scope lp) _=>(O6 bl fx sc N T x px elt y py iter as scope lp).map gm
  | .Expr e _=>if nR e=true then (GD fx sc N T 4 e).map gm else none
  | .Assign [.Name x _] e _=>(N.idxOf? x).bind λi=>if (sj N sc i x&&!y4 e)=true then (GD fx sc N T 4 e).map gm else none
  | .If c a b _=>(T.t c).bind λt=>match pS (G9 bl cl fx sc N T tS n) tS a,pS (G9 bl cl fx sc N T tS n) tS b with
   | none,none=>none
   | xa,xb=>some (o8 t (xa.getD jy) (xb.getD jy))
  | .Raise (some (.Call (.Name x _) [.Constant (.str _) _ _] [] _)) none _=>if (cl.contains x&&uk sc x&&!(x == ("__debug__":Str)))=true then some (Cq x) else none
  | _=>none
section
variable {tS:Stmt->Option GS}
def N5:pO X E e zw:=λpins s σ H Q I ⟨HF,ρ,c,C,_,_,h,_⟩=>by cases h
def JT{st:List Stmt}:CN X E HF₀ H₀ st jy:=λpins s σ H Q I ⟨HF,ρ,c,C,_,h,_⟩=>by cases h
def DD(C:Bk X.nox N sc k)(O:bM X.nox T)(hx:lb X.prog X.w X.K X.mg X.base k fx)(hp:cq (nS X.prog X.w) X E)(h:OJ fx sc T x a as=some xf):pO X E (.Call (.Name x p) (a::as) [] pos) xf:=by
 unfold OJ at h;split at h
 ·rename_i m xm hl;split at h
  ·rename_i hc;simp?[zF] at hc;let⟨fs,hfs,rfl⟩:=ag h;have hst:isStar a=false/\(as.all λe=>!isStar e)=true:=by
    have:=hc.1.2;rw[xS,zF] at this;exact⟨by simpa using this.1,this.2⟩
   exact Ha (hx x m xm hl) C.room hp (C.gl hc.1.1) (cB O hfs) (by simpa using hc.2) (bA (by simpa using hst.1)) (fF hst.2)
  ·cases h
 ·cases h
def mh(C:Bk X.nox N sc k)(B:Bn X)(O:bM X.nox T)(hx:lb X.prog X.w X.K X.mg X.base k fx)(hp:cq (nS X.prog X.w) X E):∀ (n:Nat) {e:Expr}{xf:XE},GD fx sc N T n e=some xf->pO X E e xf
 | 0,e,xf,h=>by cases h
 | n+1,e,xf,h=>by
  have ih:∀ {e:Expr}{o:Option XE},GD fx sc N T n e=o->pO X E e (o.getD zw):=λ{e o} h=>by
   cases o with
   | none=>exact N5
   | some x=>exact mh C B O hx hp n h
  unfold GD at h;split at h
  ·exact DD C O hx hp h
  ·let⟨t,ht,h⟩:=bs h;split at h
   ·cases h
   ·cases h;exact Nu (O.t _ _ ht) (ih rfl) (ih rfl)
  ·cases h
structure Rc(X:Cx)(E:XK)(elt:Expr)(y:Str)(py:Pos)(iter:Expr)(as:Int)(scope:Scope)(xf:XE):Prop where
 ex:as=0/\∃ (N':List Str) (t:Nat) (cs:List Nat) (fi:Dl.Env->Option (List D)) (tgt:Dl.Env->D->Option Dl.Env) (tt:Dl.Env->Option Bool) (te:Dl.Env->Option D) (xe:XE),xf=gh t cs fi tgt tt te xe/\eF X scope N' (fE t cs)/\(∀x∈scope.names,x.2≠.free)/\DI X.nox (.Name y py) iter fi/\(∀x,foldedSetIterable iter X.env x=pure x) /\
  (∀fp s H,DG (aq X scope N' fp s H) (.Name y py) tgt/\Kd (aq X scope N' fp s H) [] tt/\DE (aq X scope N' fp s H) elt te) /\
  ∀fp s H xg,cq (nS X.prog X.w) ((aq X scope N' fp s H).wish xg) E->pO ((aq X scope N' fp s H).wish xg) E elt xe
def pd(C:Bk X.nox N sc k)(B:Bn X)(O:bM X.nox T)(OB:∀scope N' fp s H,Bk (aq X scope N' fp s H) N' scope k->bM (aq X scope N' fp s H) (b scope N'))(hx:lb X.prog X.w X.K X.mg X.base k fx)
  (h:wg b fx sc N T elt y py iter as scope=some xf):Rc X E elt y py iter as scope xf:=by
 unfold wg at h;split at h
 ·rename_i hc;simp?[zF,zJ] at hc;let⟨⟨h1,h2⟩,h3,h4⟩:=hc;split at h
  ·let⟨fi,hfi,h⟩:=bs h;let⟨te,hte,h⟩:=bs h;let⟨xe,hxe,rfl⟩:=ag h;let⟨S,CB⟩:=C.comp h2;let⟨hd,hfold⟩:=yj C B O hfi;refine⟨h1,_,_,_,_,_,_,_,_,rfl,⟨S.kind,S.free,S.dup,S.loc,S.cap,S.len⟩,λx hm hf=>?_,hd,hfold,λfp s H=>?_,λfp s H xg hp=>?_⟩
   ·have:=List.all_eq_true.mp h4 x hm;rw[hf] at this;cases this
   ·have C1:Bk (aq X scope _ fp s H) _ scope k:=CB fp s H;have z:=C1.loc (i:=0) (x:=y) h3;exact⟨AZ 0 z.1 z.2.1 z.2.2.1 z.2.2.2,A4,(OB scope _ fp s H C1).e _ _ hte⟩
   ·have C1:Bk (aq X scope _ fp s H) _ scope k:=CB fp s H;exact DD (X:=(aq X scope (xN N scope y) fp s H).wish xg) C1 (OB scope _ fp s H C1) hx hp hxe
  ·cases h
 ·cases h
def Mq(C:Bk X.nox N sc k)(B:Bn X)(O:bM X.nox T)(hx:lb X.prog X.w X.K X.mg X.base k fx)(hk:∀b,bl=some b->Xk X E/\∀scope N' fp s H,Bk (aq X scope N' fp s H) N' scope k->bM (aq X scope N' fp s H) (b scope N'))
  (h:P4 bl fx sc N T e=some xf):pO X E e xf:=by
 unfold P4 at h;split at h
 ·let⟨b,rfl,h⟩:=bs h;let⟨k1,k2⟩:=hk b rfl;let⟨rfl,N',t,cs,fi,tgt,tt,te,xe,rfl,S,hnf,hd,hfold,hY,hX⟩:=(pd (E:=E) C B O k2 hx h).ex;exact vn k1 C.calm S hnf hd hY hX hfold
 ·split at h
  ·rename_i hc;rw[zF] at hc;obtain rfl:=eq_of_beq hc.1;let⟨b,rfl,h⟩:=bs h;let⟨k1,k2⟩:=hk b rfl;let⟨rfl,N',t,cs,fi,tgt,tt,te,xe,rfl,S,hnf,hd,hfold,hY,hX⟩:=(pd (E:=E) C B O k2 hx h).ex;exact MF (C.blt B hc.2 (by decide +kernel) wK) (vn k1 C.calm S hnf hd hY hX hfold)
  ·cases h
 ·cases h
def Lc(C:Bk X.nox N sc k)(B:Bn X)(O:bM X.nox T)(hx:lb X.prog X.w X.K X.mg X.base k fx)(hp:cq (nS X.prog X.w) X E)(hk:∀b,bl=some b->Xk X E/\∀scope N' fp s H,Bk (aq X scope N' fp s H) N' scope k->bM (aq X scope N' fp s H) (b scope N'))
  (h:O8 bl fx sc N T e=some xf):pO X E e xf:=by
 unfold O8 at h;split at h
 ·exact mh C B O hx hp 4 h
 ·rename_i a ha;cases h;have z:=Mq C B O hx hk ha;split
  ·rename_i c hc;exact Ny (mh C B O hx hp 4 hc) z
  ·exact z
def L6(C:Bk X.nox N sc k)(B:Bn X)(O:bM X.nox T)(hx:lb X.prog X.w X.K X.mg X.base k fx)(hp:cq (nS X.prog X.w) X E)(hk:∀b,bl=some b->Xk X E/\∀scope N' fp s H,Bk (aq X scope N' fp s H) N' scope k->bM (aq X scope N' fp s H) (b scope N'))
  (h:O6 bl fx sc N T x px elt y py iter as scope lp=some xf):DX X E HF₀ H₀ (.Assign [.Name x px] (.ListComp elt [⟨.Name y py,iter,[],as⟩] scope lp) pos) (gm xf):=by
 unfold O6 at h;split at h
 ·rename_i hs;unfold Qs at hs;rw[zF] at hs;let⟨b,rfl,h⟩:=bs h;let⟨a,ha,rfl⟩:=ag h;let⟨k1,k2⟩:=hk b rfl;let⟨rfl,N',t,cs,fi,tgt,tt,te,xe,rfl,S,hnf,hd,hfold,hY,hX⟩:=(pd (E:=E) C B O k2 hx ha).ex;have z:=Iw (HF₀:=HF₀) (H₀:=H₀) (pos:=lp) (y:=x) (py:=px) (spos:=pos) k1 C.calm S hnf hd hY hX (C.swap hs.1 hs.2) hfold;split
  ·rename_i c hc;exact Ob (Ip (HF₀:=HF₀) (H₀:=H₀) (pos:=lp) (y:=x) (py:=px) (spos:=pos) (⟨S.kind,S.free,S.dup,S.loc,S.cap,S.len⟩:eF X.nox scope N' (fE t cs)) hnf (mh C B O hx hp 4 hc) (C.swap hs.1 hs.2) hfold) z
  ·exact z
 ·cases h
def IM{st:Stmt}{rest:List Stmt}(h1:DX X E HF₀ H₀ st xh)(h2:DS X.nox HF₀ H₀ st g)(h3:CN X E HF₀ H₀ rest xr):CN X E HF₀ H₀ (st::rest) (fV xh g xr):=λpins s σ H D I ⟨HF,ρ,c,C,S,hx,hc,q⟩=>by
 unfold fV at hx;split at hx
 ·rename_i c' hh;cases hx;exact ow h1 pins s σ H D I ⟨HF,ρ,c,C,S,hh,hc,q⟩
 ·exact vb h2 h3 pins s σ H D I ⟨HF,ρ,c,C,S,hx,hc,q⟩
def ui(hf:∀s x,f s=some x->DX X E HF₀ H₀ s x)(ht:∀s g,tS s=some g->DS X.nox HF₀ H₀ s g):∀ {l:List Stmt}{x:XS},pS f tS l=some x->CN X E HF₀ H₀ l x
 | [],x,h=>by cases h
 | s::r,x,h=>by
  have ih:=λx=>ui hf ht (l:=r) (x:=x);unfold pS at h;split at h
  ·cases h
  ·rename_i h1 h2;cases h;exact ow (hf _ _ h1)
  ·rename_i h1 h2;let⟨g,hg,rfl⟩:=ag h;exact vb (ht _ _ hg) (ih _ h2)
  ·rename_i h1 h2;split at h
   ·rename_i g hg;cases h;exact IM (hf _ _ h1) (ht _ _ hg) (ih _ h2)
   ·cases h;exact ow (hf _ _ h1)
def Qt(X:Cx)(E:XK)(HF₀ H₀:Hp)(cl:List Str):Prop:=∀x∈cl,Gl X x->(x == ("__debug__":Str))=false->∀ (np cpos pos p:Pos) (t:Str) (i:Nat),DX X E HF₀ H₀ (.Raise (some (.Call (.Name x np) [.Constant (.str t) i p] [] cpos)) none pos) (Cq x)
def Df(C:Bk X.nox N sc k)(B:Bn X)(O:bM X.nox T)(hx:lb X.prog X.w X.K X.mg X.base k fx)(hp:cq (nS X.prog X.w) X E)(hk:∀b,bl=some b->Xk X E/\∀scope N' fp s H,Bk (aq X scope N' fp s H) N' scope k->bM (aq X scope N' fp s H) (b scope N'))(hr:Qt X E HF₀ H₀ cl)(ht:∀s g,tS s=some g->DS X.nox HF₀ H₀ s g):∀ (n:Nat) {st:Stmt}{x:XS},G9 bl cl fx sc N T tS n st=some x->DX X E HF₀ H₀ st x
 | 0,st,x,h=>by cases h
 | n+1,st,x,h=>by
  have ih:∀ {l:List Stmt}{o:Option XS},pS (G9 bl cl fx sc N T tS n) tS l=o->CN X E HF₀ H₀ l (o.getD jy):=λ{l o} h=>by
   cases o with
   | none=>exact JT
   | some x=>exact ui (λs x h=>Df C B O hx hp hk hr ht n h) ht h
  unfold G9 at h;split at h
  ·let⟨xf,hf,rfl⟩:=ag h;exact K9 (Lc C B O hx hp hk hf)
  ·let⟨xf,hf,rfl⟩:=ag h;exact L6 C B O hx hp hk hf
  ·split at h
   ·rename_i hc;let⟨xf,hf,rfl⟩:=ag h;refine Lf (mh C B O hx hp 4 hf) ?_;rename_i e pos;cases e<;>first|rfl|cases hc
   ·cases h
  ·let⟨i,hi,h⟩:=bs h;split at h
   ·rename_i hl;simp?[zF,yO] at hl;let⟨xf,hf,rfl⟩:=ag h;let⟨z1,z2,z3,z4⟩:=C.loc hl.1;exact cJ (uf z1 z2 z3 (mh C B O hx hp 4 hf) (mI hl.2) z4) λD σ H q=>vx q
   ·cases h
  ·let⟨t,ht',h⟩:=bs h;split at h
   ·cases h
   ·cases h;exact NS (O.t _ _ ht') (ih rfl) (ih rfl)
  ·split at h
   ·rename_i hc;simp?[zF,yO] at hc;cases h;exact hr _ (List.contains_iff_mem.mp hc.1.1) (C.gl hc.1.2) hc.2 _ _ _ _ _ _
   ·cases h
  ·cases h
end
abbrev Qx(st:Stmt)(N:List Str)(S:Sg)(fx:XT)(cl:List Str):Option XS:=pS (G9 (some (tr S 39 none)) cl fx (aj st) N (tr S 40 none (aj st) N) (sZ (aj st) N (tr S 40 none (aj st) N) 40) 10) (sZ (aj st) N (tr S 40 none (aj st) N) 40) (bG st)
def FQ(K:W.Frag)(mg:Str->Option Value)(cl:List Str):Prop:=∀c∈cl,∃C:Addr,mg c=some (.ref C)/\W.excIn K C KD "ValueError.__new__"=true
section
variable {K:W.Frag}
def Kp(C:Bk X.nox N sc j)(B:Bn X)(hf:lh X.prog X.w X.K X.mg X.base j fs)(hi:dX X.mg is)(hx:lb X.prog X.w X.K X.mg X.base j fx)(hp:cq (nS X.prog X.w) X E)(hk:∀b,bl=some b->Xk X E/\∀scope N' fp s H,Bk (aq X scope N' fp s H) N' scope j->bM (aq X scope N' fp s H) (b scope N'))(hr:Qt X E HF₀ H₀ cl)
  (t:pS (G9 bl cl fx sc N (tr ⟨fs,is⟩ 40 none sc N) (sZ sc N (tr ⟨fs,is⟩ 40 none sc N) 40) 10) (sZ sc N (tr ⟨fs,is⟩ 40 none sc N) 40) l=some xg):CN X E HF₀ H₀ l xg:=by
 have O:bM X.nox (tr ⟨fs,is⟩ 40 none sc N):=Av (G:=⟨fs,is⟩) 40 C ⟨hf,hi,B⟩ (yL j) λq z=>by cases z
 have ht:∀s g,sZ sc N (tr ⟨fs,is⟩ 40 none sc N) 40 s=some g->DS X.nox HF₀ H₀ s g:=λs g h=>sQ C B O 40 h;exact ui (λs x h=>Df C B O hx hp hk hr ht 10 h) ht t
def Pa{st:Stmt}(D:xj K mg x st ps)(B:∀x∈cR,mg x=none)(hf:lh P w K mg base j S.fn)(hi:dX mg S.int)(hx:lb P w K mg base j fx)(hc:FQ K mg cl)(t:Qx st N S fx cl=some xg)(F:cA N ps (aj st):=by exact Rf.OV):IK P w K mg base (j+1) x ps.length (mJ xg N.length):=by
 let⟨f,fd,hm,Fu,hb⟩:=D.ex;refine fnX Fu F hb hm λX E hP hw hK hm' hb' C hcalm hk HF H=>?_;subst hP;subst hw;subst hK;subst hm';subst hb';exact Kp C B hf hi hx hk.pass (λb hb=>by
  cases hb;exact⟨hk,λscope N' fp s H C'=>Av (G:=S) 39 C' ⟨hf,hi,B⟩ (yL j) λq z=>by cases z⟩) (λc hcl hg hd np cpos pos p t i=>by
  let⟨Ca,h1,h2⟩:=hc c hcl;exact Ea hk hcalm hg h1 h2 hd) t
def Pu:lb P w K mg base j []:=λ_ _ _ h=>by cases h
def xm(F:IK P w K mg base i x n m)(h:lb P w K mg base j l)(e:i<=j:=by decide):lb P w K mg base j ((x,n,m)::l):=λy n' m' e'=>by
 rw[yA] at e';cases q:y == x with
 | true=>rw[q] at e';cases e';rw[eq_of_beq q];exact F.mono e
 | false=>rw[q] at e';exact h y n' m' e'
end
def Nr(K:W.Frag)(C:Addr):Bool:=W.findIn K (.ref C) "__getattribute__" == some (some (.builtin "BaseException.__getattribute__"))&&(W.findIn K (.ref C) "__getattr__" == some none)&&(W.findIn K (.ref C) "__class__" == some (some (.builtin "object.__class__")))&&(W.specialIn K (.builtin "object.__class__") "__get__" == some (some (.builtin "getset_descriptor.__get__")))&&(W.takesIn K (.builtin "object.__class__") == some true)&&(W.mroIn K C (.type "object") == some true)&&(W.subIn K (.ref C) (.type "BaseException") == some true)&&(W.clsIn K C).isSome
def Oh(K:W.Frag)(F:Addr)(cs:List (Str×Addr)):Bool:=(W.nsIn K mainGlobals "FlowError" == some (some (.ref F)))&&(W.nsIn K mainGlobals "ValueError" == some none)&&cs.all λc=>(W.nsIn K mainGlobals c.1 == some (some (.ref c.2)))&&W.excIn K c.2 KD "ValueError.__new__"&&Nr K c.2&&(W.exmOne K (.ref c.2) (.ref F) == some true)&&(W.kitOne K (.ref c.2) (.type "ValueError") == some true)&&cs.all λd=>W.kitOne K (.ref c.2) (.ref d.2) == some (c.1 == d.1)
structure sO(K:W.Frag)(mg:Str->Option Value)(F:Addr)(cs:List (Str×Addr)):Prop where
 fe:mg "FlowError"=some (.ref F)
 ve:mg "ValueError"=none
 at_:∀c∈cs,mg c.1=some (.ref c.2)
 ex:∀c∈cs,W.excIn K c.2 KD "ValueError.__new__"=true
 ek:∀c∈cs,Iv K c.2
 xm:∀c∈cs,W.exmOne K (.ref c.2) (.ref F)=some true
 kv:∀c∈cs,W.kitOne K (.ref c.2) (.type "ValueError")=some true
 kt:∀c∈cs,∀d∈cs,W.kitOne K (.ref c.2) (.ref d.2)=some (c.1 == d.1)
def Ht{K:W.Frag}{cs:List (Str×Addr)}(X:K.In h)(G:h.Ns mainGlobals mg)(e:Oh K F cs=true):sO K mg F cs:=by
 unfold Oh at e;simp?[zF,xF,vA] at e;let⟨⟨e1,e2⟩,e3⟩:=e;refine⟨W.mg_of X G e1,W.mg_none_of X G e2,λc hc=>W.mg_of X G (e3 c hc).1.1.1.1.1,λc hc=>(e3 c hc).1.1.1.1.2,λc hc=>?_,λc hc=>(e3 c hc).1.1.2,λc hc=>(e3 c hc).1.2,λc hc d hd=>(e3 c hc).2 d hd⟩;have q:=(e3 c hc).1.1.1.2;unfold Nr at q;simp?[zF,vA] at q;exact⟨q.1.1.1.1.1.1.1,q.1.1.1.1.1.1.2,q.1.1.1.1.1.2,q.1.1.1.1.2,q.1.1.1.2,q.1.1.2,q.1.2,q.2⟩
def sO.ok{K:W.Frag}{cs:List (Str×Addr)}(M:sO K mg F cs)(h:(cl.all λc=>(cs.map Prod.fst).contains c)=true):FQ K mg cl:=λc hc=>by
 have:=List.contains_iff_mem.mp (List.all_eq_true.mp h c hc);let⟨q,hq,rfl⟩:=List.mem_map.mp this;exact⟨q.2,M.at_ q hq,M.ex q hq⟩
def OR(sc:Scope):Expr->Option Str
 | .Call (.Name f _) [.Name n _,.Name y _] [] _=>if (f == ("isinstance":Str)&&n == ("_law_e":Str)&&uk sc "isinstance"&&uk sc y)=true then some y else none
 | _=>none
def IE(sc:Scope):List Expr->Option (List Str)
 | []=>some []
 | e::r=>(OR sc e).bind λy=>(IE sc r).map λys=>y::ys
def lK(ns:List Str)(c:Str):Option D:=if ns.contains c=true then (pW (.bool true) (ns.map λn=>.bool (c == n))).map λj=>.tuple [.str "refused",.int ((j:Nat):Int)] else none
section
variable {K:W.Frag}{cs:List (Str×Addr)}
def C5(M:sO X.K X.mg F cs)(hc:c∈cs)(hpn:(ea,ob)∈X.pn)(hcls:ob.cls=.ref c.2)(hsc:IA X sc)(hmi:X.mg "isinstance"=none)(hN:X.N[0]?=some ("_law_e":Str))(hl:X.env.kindOf ("_law_e":Str)=some .local)(hs:X.env.scope.names.lookup ("_law_e":Str)=some .local)
  (hr:OR sc e=some y) (hy:∀ {p2:Pos}{pins:List (Addr×Obj)}{σ:L2.St}{H:Hp}{s:Shared}{Q:Value->Shared->Prop},Gl X y->Inv X pins σ H s->Q v s->wpAny (model X.prog X.w) X.A (eval (.Name y p2) X.env) Q X.xe s) (hk:W.kitOne X.K (.ref c.2) v=some b) :
  PE X e (λσ H Q=>σ[0]?=some (some (.ref ea))/\Q (.bl b) H)/\(∀env whole,isTrue e env whole=(do let v <- whole;standAt e.pos;holding [v] (truthy v)))/\∀es:List Expr,starEach (e::es) X.env=(false,eval e X.env)::starEach es X.env:=by
 unfold OR at hr;split at hr
 ·rename_i f pf n pn y' py pos;split at hr
  ·rename_i hh;cases hr;simp?[zF,vA] at hh;let⟨⟨⟨rfl,rfl⟩,hg⟩,hgy⟩:=hh;have gl:∀ {x:Str},uk sc x=true->Gl X x:=λh=>by
    rcases hsc _ _ (yP h) with q|⟨q,_⟩
    ·exact q
    ·cases q
   exact⟨L9 (M.ek c hc) hpn hcls (gl hg) hmi hN hl hs (by decide) (λ{pins σ H s Q} I q=>hy (gl hgy) I q) hk,λenv whole=>rfl,λes=>rfl⟩
  ·cases hr
 ·cases hr
def A7(M:sO X.K X.mg F cs)(hc:c∈cs)(hpn:(ea,ob)∈X.pn)(hcls:ob.cls=.ref c.2)(hsc:IA X sc)(hmi:X.mg "isinstance"=none)(hN:X.N[0]?=some ("_law_e":Str))(hl:X.env.kindOf ("_law_e":Str)=some .local)(hs:X.env.scope.names.lookup ("_law_e":Str)=some .local)(hd:(cs.all λd=>!(d.1 == ("__debug__":Str)))=true) :
  ∀ {es:List Expr}{ns:List Str},IE sc es=some ns->(ns.all λc=>(cs.map Prod.fst).contains c)=true->lO X ea es (ns.map λn=>c.1 == n)
 | [],ns,h,_=>by cases h;exact LX
 | e::es,ns,h,ha=>by
  unfold IE at h;let⟨y,hy,h⟩:=bs h;let⟨ys,hys,rfl⟩:=ag h;rw[xS,zF] at ha;let⟨d,hdm,rfl⟩:=List.mem_map.mp (List.contains_iff_mem.mp ha.1);have hdb:(d.1 == ("__debug__":Str))=false:=by simpa using List.all_eq_true.mp hd d hdm
  let⟨h1,_,h3⟩:=C5 (v:=.ref d.2) M hc hpn hcls hsc hmi hN hl hs hy (λ{p2 pins σ H s Q} hg I q=>ju I hg (M.at_ d hdm) q hdb) (M.kt c hc d hdm);exact JK h1 (A7 M hc hpn hcls hsc hmi hN hl hs hd hys ha.2) (h3 es)
def B0{A:Around}{env:PySem.Env}(h:A.units+200 < cLine):(A.deeper env).units+66 < cLine:=by
 have:(A.deeper env).units<=A.units+16:=by simp[Around.deeper]
 lia
def N6{st:Stmt}(D:xj K mg "_law_refused" st ["_law_e"])(M:sO K mg F cs)(B:∀x∈cR,mg x=none)
  (hb:bG st=[.Assign [.Name "_law_flags" a1] (.List es1 a2) a3,
   .If (.BoolOp .Or [.Compare (.Call (.Attribute (.Name "_law_flags" c1) "count" c2) [.Constant (.bool true) i1 c3] [] c4) [.NotEq] [.Constant (.int 1) i2 c5] c6,.UnaryOp .Not e6 c7] c8) bad [] c9,
   .Return (some (.Tuple [.Constant (.str "refused") i3 d1,.Call (.Attribute (.Name "_law_flags" d3) "index" d2) [.Constant (.bool true) i4 d5] [] d4] k1 d6)) d7])
  (S:cA [("_law_e":Str),("_law_flags":Str)] ["_law_e"] (aj st)) (r1:IE (aj st) es1=some ns1) (r6:OR (aj st) e6=some "ValueError")
  (s1:(aj st).names.lookup ("_law_e":Str)=some .local) (s2:(aj st).names.lookup ("_law_flags":Str)=some .local) (OK:(ns1.all λc=>(cs.map Prod.fst).contains c&&decide (Fm (.bool true) (ns1.map λn=>.bool (c == n))=1))=true) (hdb:(cs.all λd=>!(d.1 == ("__debug__":Str)))=true) (hz:ns1.length<=sizeLine) (l1:(c2.endLine == c4.line)=true) (l2:(d2.endLine == d4.line)=true) :
  ∀c d,lK ns1 c=some d->As P w K mg base k "_law_refused" c d:=λc d h=>by
 unfold lK at h;split at h
 ·rename_i hc;have hcm:=List.contains_iff_mem.mp hc;let⟨j,hj,rfl⟩:=ag h;have hcc:=List.all_eq_true.mp OK c hcm;rw[zF] at hcc;let⟨q,hq,rfl⟩:=List.mem_map.mp (List.contains_iff_mem.mp hcc.1);have hcnt:=yP hcc.2;let⟨f,fd,hm,Fu,hbd⟩:=D.ex;refine⟨f,fd,["_law_e"],hm,Fu.kp,hbd,rfl,λA outer s H args ea C hdp hun e0 hbt hC hex=>?_⟩;let⟨⟨ob,vs,ho,hcl,hd⟩,hn,hf⟩:=hex;have hCq:C=q.2:=by
   have:=M.at_ q hq;rw[hC] at this;cases this;rfl
  subst hCq;refine Cu (C:=q.2) Fu S rfl (by lia) e0 hbt ho hd hn hf λcdv t1 I=>?_;rw[hb];have hall:∀ {l:List Str},(∀n∈l,n∈ns1)->(l.all λc=>(cs.map Prod.fst).contains c)=true:=λhl=>by
   rw[xF];intro n hn;have:=List.all_eq_true.mp OK n (hl n hn);rw[zF] at this;exact this.1
  let X:Cx:=Az P w K mg base [("_law_e":Str),("_law_flags":Str)] "_law_refused" (aj st) f cdv A outer s H [(ea,ob)];have hpn:(ea,ob)∈X.pn:=List.mem_singleton.mpr rfl;have hsc:IA X (aj st):=λy kd hy=>.inl hy;have hmi:X.mg "isinstance"=none:=B _ (by decide);have f1:=A7 (X:=X) (sc:=aj st) M hq hpn hcl hsc hmi rfl s1 s1 hdb r1 (hall λn hn=>hn);let⟨f6,w6,_⟩:=C5 (X:=X) (sc:=aj st) (v:=.type "ValueError") M hq hpn hcl hsc hmi rfl s1 s1 r6 (λ{p2 pins σ H s Q} hg I q=>iT I hg M.ve (by decide +kernel) q) (M.kv q hq);have main:=Fd (X:=X) (bad:=bad) (j:=j) (a1:=a1) (a2:=a2) (a3:=a3) (c1:=c1) (c2:=c2) (c3:=c3) (c4:=c4) (c5:=c5) (c6:=c6) (c7:=c7) (c8:=c8) (c9:=c9) (d1:=d1) (d2:=d2) (d3:=d3) (d4:=d4) (d5:=d5) (d6:=d6) (d7:=d7) (i1:=i1) (i2:=i2) (i3:=i3) (i4:=i4) (k1:=k1) (B0 (by lia)) rfl s2 f1 f6 (λwhole=>w6 _ whole)
   (by rw[zM];exact hcnt) (by rw[zM];exact hj) (by rw[zD];exact hz) l1 l2
   [] t1 (L2.start [("_law_e":Str),("_law_flags":Str)] [.ref ea]) H ⟨λ_ _=>False,λv H'=>∀HF,aR HF H->∃HF',bU HF H HF' H'/\Rep K HF' (.tuple [.str "refused",.int ((j:Nat):Int)]) v,λ_ _=>False,λ_ _=>False⟩ I ⟨rfl,rfl,λv H' z=>z⟩
  refine bL main λfl s' z=>?_;cases fl with
  | next=>let⟨_,_,_,z⟩:=z;exact z.elim
  | brk=>let⟨_,_,_,z⟩:=z;exact z.elim
  | cont=>let⟨_,_,_,z⟩:=z;exact z.elim
  | ret u =>
   let⟨v,σ',H',J,r,z⟩:=z;exact⟨u,v,σ',H',rfl,J,r,z⟩
 ·cases h
def rS:∀ (names:List (Str×NameKind)) (n:Nat),(names.all λy=>!(y.2 == NameKind.cell))=true->cellsFrom n names []=[]
 | [],_,_=>rfl
 | (x,k)::r,n,h=>by
  rw[xS,zF] at h;unfold cellsFrom;rw[yM (by simpa using h.1)];exact rS r n h.2
def F4:Stmt->Option (Str×Str)
 | .Return (some (.Call (.Name r _) [.Name m _] [] _)) _=>some (r,m)
 | _=>none
def yu(h:F4 s=some (r,m)):∃pr pm pc p,s=.Return (some (.Call (.Name r pr) [.Name m pm] [] pc)) p:=by
 unfold F4 at h;split at h
 ·cases h;exact⟨_,_,_,_,rfl⟩
 ·cases h
def EX:ExceptHandler->Option (Str×Str×Stmt)
 | .ExceptHandler (some (.Name e _)) (some n) [s] _=>some (e,n,s)
 | _=>none
def wX(h:EX x=some (e,n,s)):∃pe p,x=.ExceptHandler (some (.Name e pe)) (some n) [s] p:=by
 unfold EX at h;split at h
 ·cases h;exact⟨_,_,rfl⟩
 ·cases h
def Nn(st:Stmt)(N:List Str)(S:Sg)(fx:XT)(ns:List Str):List Stmt->Option GS
 | [.Try body [x] [] [] _]=>(EX x).bind λ(e,n,s)=>(F4 s).bind λ(r,m) =>
  if (e == ("FlowError":Str)&&r == ("_law_refused":Str)&&m == n&&!(n == ("__debug__":Str))&&uk (aj st) "FlowError"&&uk (aj st) "_law_refused"&&decide ((aj st).names.lookup n=some .local)&&(aj st).names.all (λy=>!(y.2 == NameKind.cell))&&N.contains n)=true then
   (oW (sZ (aj st) N (tr S 40 none (aj st) N) 40) body).map λgb=>uz gb ((pS (G9 none [] fx (aj st) N (tr S 40 none (aj st) N) (sZ (aj st) N (tr S 40 none (aj st) N) 40) 10) (sZ (aj st) N (tr S 40 none (aj st) N) 40) body).getD jy) (lK ns)
  else none
 | _=>none
abbrev Pw(st:Stmt)(N:List Str)(S:Sg)(fx:XT)(ns:List Str):Option GS:=Nn st N S fx ns (bG st)
def NM{st:Stmt}(D:xj K mg x st ps)(B:∀x∈cR,mg x=none)(M:sO K mg F cs)(hf:lh P w K mg base j S.fn)(hi:dX mg S.int)(hx:lb P w K mg base j fx)(R:∀c d,lK ns c=some d->As P w K mg base j "_law_refused" c d)(hns:(ns.all λc=>(cs.map Prod.fst).contains c)=true)(t:Pw st N S fx ns=some g)(FS:cA N ps (aj st):=by exact Rf.OV):Gm P w K mg base (j+1) x ps.length (aU g N.length):=by
 let⟨f,fd,hm,Fu,hb⟩:=D.ex;refine⟨f,fd,ps,?_,hm,Fu.kp,hb⟩;let⟨oc,od,kV,doc,pm,an,cdv,ct,osl,rfl,lk,hcd⟩:=Fu.ex;refine De lk hcd FS (λvs H Q E ⟨HF,ds,d,h1,_,h2,h3,_⟩=>by rw[h2.length,h3]) λA outer s H vs Q E hr ⟨HF,ds,d,sm,tb,rr,hl,hd,q⟩=>?_;have key:∀X:Cx,X=(oS GE P w K mg base N x (aj st) f cdv A outer s H E).nox->Bk X N (aj st) j->∀HF1 H1,z6 X HF1 H1 (bG st) g:=λX hX C HF1 H1=>by
  unfold Pw at t;generalize bG st=bd at t;unfold Nn at t;split at t
  ·rename_i body x0 pt;let⟨⟨e,n,s0⟩,h1,t1⟩:=bs t;let⟨⟨r,m⟩,h2,t2⟩:=bs t1;clear t t1;let⟨pe,ph,rfl⟩:=wX h1;let⟨pr,pm',pc,prt,rfl⟩:=yu h2;clear h1 h2;have t:=t2;clear t2;dsimp only at t;split at t
   ·rename_i hh;simp?[zF,vA,yO,zJ] at hh;obtain⟨⟨⟨⟨⟨⟨⟨⟨rfl,rfl⟩,rfl⟩,hnd⟩,hgF⟩,hgR⟩,hloc⟩,hnc⟩,hNn⟩:=hh;let⟨gb,hgb,rfl⟩:=ag t;let⟨i,hi',hiN⟩:=qQ (List.contains_iff_mem.mp hNn);have hiN':N[i]?=some m:=by rw[zK hi',hiN]
    subst hX;refine AE (MD (i:=i) rfl rfl (C.gl hgF) M.fe (by decide) C.nd hiN' hloc hloc ?_ ?_ ?_ ?_)
    ·show List.lookup m (cellsFrom _ _ [])=none;rw[rS _ _ hnc];rfl
    ·exact Rf.gV (λs g h=>sQ C B (Av (G:=S) 40 C ⟨hf,hi,B⟩ (yL j) λq z=>by cases z) 40 h) hgb
    ·intro pn xe E' hp;have C':Bk (fw (oS GE P w K mg base N x (aj st) f cdv A outer s H E).nox pn xe).nox N (aj st) j:=⟨rfl,FS.nd,λy kd hy=>.inl hy,rfl,λ_ _=>rfl,hr,rfl,FS.kind⟩
     cases hq:pS (G9 none [] fx (aj st) N (tr S 40 none (aj st) N) (sZ (aj st) N (tr S 40 none (aj st) N) 40) 10) (sZ (aj st) N (tr S 40 none (aj st) N) 40) body with
     | none=>exact JT
     | some xg=>exact Kp C' B hf hi hx hp (λb z=>by cases z) (λc hcl=>by cases hcl) hq
    ·intro c d hcd;have hcd':=hcd;unfold lK at hcd';split at hcd'
     ·rename_i hc;let⟨z,hz,rfl⟩:=List.mem_map.mp (List.contains_iff_mem.mp (List.all_eq_true.mp hns c (List.contains_iff_mem.mp hc)));refine⟨λC hC=>?_,⟨z.2,M.at_ z hz⟩,BK (R z.1 d hcd) C.room (C.gl hgR) (by decide) hiN' hloc hloc hnd⟩;have:=M.at_ z hz;rw[show mg z.1=some (.ref C) from hC] at this;cases this;exact M.xm z hz
     ·cases hcd'
   ·cases t
  ·cases t
 unfold aU at hd;let⟨o,ho,hd⟩:=ag hd;refine⟨_,(key _ rfl ⟨rfl,FS.nd,λy kd hy=>.inl hy,rfl,λ_ _=>rfl,hr,rfl,FS.kind⟩ HF H).nox,HF,_,o,uZ sm tb rr,ho,?_⟩;cases o with
 | rt d'=>cases hd;exactλv H' HF' G r=>q v H' HF' G r
 | nx ρ'=>cases hd;exactλσ' H' HF' S' _=>q .non H' HF' S'.gr (by simp[Rep])
end
end Ex
namespace Hd
open PySem L2 Dl PySem.Spec PyProof.Rows
section
variable {K:W.Frag}
def OU{st:Stmt}(hb:mC st ps)(a:W.nsIn K mainGlobals x=some (some (.ref f)))(l:K.lookup f=some (fo x st pm c))(d:W.codeIn K (.ref c) x=true)(k:W.keepIn K (.ref f)=true):gD K x st ps:=N7 hb a l d k
end
section
variable {α:Type}{R:List α->Prop}
def yd(h:∀a,R [a])(us:List α)(e:us.length=1):R us:=by
 let⟨a,rfl⟩:=List.length_eq_one_iff.mp e;exact h a
def MQ(us:List α)(e:us.length=n+1):∃a r,us=a::r/\r.length=n:=by
 cases us with
 | nil=>cases e
 | cons a r=>exact⟨a,r,rfl,by simpa using e⟩
def Of(h:∀a b,R [a,b])(us:List α)(e:us.length=2):R us:=by
 let⟨a,r,rfl,e'⟩:=MQ us e;exact yd (R:=λr=>R (a::r)) (h a) r e'
def OC(h:∀a b c,R [a,b,c])(us:List α)(e:us.length=3):R us:=by
 let⟨a,r,rfl,e'⟩:=MQ us e;exact Of (R:=λr=>R (a::r)) (h a) r e'
def PY(h:∀a b c d,R [a,b,c,d])(us:List α)(e:us.length=4):R us:=by
 let⟨a,r,rfl,e'⟩:=MQ us e;exact OC (R:=λr=>R (a::r)) (h a) r e'
end
section
variable {K:W.Frag}
def f1(f c:Addr)(pm:Value){st:Stmt}(hb:mC st ps:=by exactλ_ _ _ _ _ _ _ _ us hl=>yd (R:=λus=>bindArgs _ ⟨us,[]⟩=pure (List.zip _ us)) (λ_=>rfl) us hl)(a:W.nsIn K mainGlobals x=some (some (.ref f)):=by kernel_rfl)(l:K.lookup f=some (fo x st pm c):=by kernel_rfl)(d:W.codeIn K (.ref c) x=true:=by kernel_rfl)(k:W.keepIn K (.ref f)=true:=by kernel_rfl):gD K x st ps:=OU hb a l d k
def f2(f c:Addr)(pm:Value){st:Stmt}(hb:mC st ps:=by exactλ_ _ _ _ _ _ _ _ us hl=>Of (R:=λus=>bindArgs _ ⟨us,[]⟩=pure (List.zip _ us)) (λ_ _=>rfl) us hl)(a:W.nsIn K mainGlobals x=some (some (.ref f)):=by kernel_rfl)(l:K.lookup f=some (fo x st pm c):=by kernel_rfl)(d:W.codeIn K (.ref c) x=true:=by kernel_rfl)(k:W.keepIn K (.ref f)=true:=by kernel_rfl):gD K x st ps:=OU hb a l d k
def f3(f c:Addr)(pm:Value){st:Stmt}(hb:mC st ps:=by exactλ_ _ _ _ _ _ _ _ us hl=>OC (R:=λus=>bindArgs _ ⟨us,[]⟩=pure (List.zip _ us)) (λ_ _ _=>rfl) us hl)(a:W.nsIn K mainGlobals x=some (some (.ref f)):=by kernel_rfl)(l:K.lookup f=some (fo x st pm c):=by kernel_rfl)(d:W.codeIn K (.ref c) x=true:=by kernel_rfl)(k:W.keepIn K (.ref f)=true:=by kernel_rfl):gD K x st ps:=OU hb a l d k
def f4(f c:Addr)(pm:Value){st:Stmt}(hb:mC st ps:=by exactλ_ _ _ _ _ _ _ _ us hl=>PY (R:=λus=>bindArgs _ ⟨us,[]⟩=pure (List.zip _ us)) (λ_ _ _ _=>rfl) us hl)(a:W.nsIn K mainGlobals x=some (some (.ref f)):=by kernel_rfl)(l:K.lookup f=some (fo x st pm c):=by kernel_rfl)(d:W.codeIn K (.ref c) x=true:=by kernel_rfl)(k:W.keepIn K (.ref f)=true:=by kernel_rfl):gD K x st ps:=OU hb a l d k
end
end Hd
namespace Rg
open PySem L2 Dl Rf Ex PySem.Spec PyProof.Rows
abbrev FT:=List (Str×Nat×(List D->Option D))
def Fq(st:Stmt):List Str:=((aj st).names.filter λy=>y.2 == .local || y.2 == .cell).map (·.1)
structure Ok(P:Program)(w:World)(K:W.Frag)(mg:Str->Option Value)(base:Heap)(is:List (Str×D))(cl:List Str)(j:Nat)(l:FT)(fx:XT):Prop where
 of:lh P w K mg base j l
 ox:lb P w K mg base j fx
 oi:dX mg is
 ob:∀x∈cR,mg x=none
 oc:FQ K mg cl
 os:∃h:Heap,K.In h/\h.Ns mainGlobals mg
section
variable {K:W.Frag}{st:Stmt}{l:FT}
def up(h:Ok P w K mg base is cl j l fx)(e:j<=k):Ok P w K mg base is cl k l fx:=⟨λx n m z=>(h.of x n m z).mono e,λx n m z=>(h.ox x n m z).mono e,h.oi,h.ob,h.oc,h.os⟩
def N2(h:Ok P w K mg base is cl j l fx)(F:Gm P w K mg base j x n m):Ok P w K mg base is cl j ((x,n,m)::l) fx:=⟨N8 F h.of,h.ox,h.oi,h.ob,h.oc,h.os⟩
def PB(h:Ok P w K mg base is cl j l fx)(F:IK P w K mg base j x n m):Ok P w K mg base is cl j l ((x,n,m)::fx):=⟨h.of,xm F h.ox (yL j),h.oi,h.ob,h.oc,h.os⟩
def Pf(h:Ok P w K mg base is cl j l fx)(D:gD K x st ps):xj K mg x st ps:=let ⟨_,a,b⟩:=h.os;D.mg a b
def fst(a:sc.kind=.function:=by kernel_rfl)(b:sc.isCoroutine=false:=by kernel_rfl)(c:sc.isGenerator=false:=by kernel_rfl)(d:N.Nodup:=by decide +kernel)(e:N.take P.length=P:=by kernel_rfl)(f:∀x∈P,sc.names.lookup x=some .local \/ sc.names.lookup x=some .cell:=by decide +kernel)(g:∀y∈sc.names,y.2≠.free:=by decide +kernel):cA N P sc:=⟨a,b,c,d,e,f,g⟩
abbrev Jo(st:Stmt)(n:Nat):List Str:=(Fq st).take n
def on(st:Stmt)(D:gD K x st (Jo st n))(h:Ok P w K mg base is cl j l fx)(t:tW st (Fq st) ⟨l,is⟩ none=some g:=by kernel_rfl)(F:cA (Fq st) (Jo st n) (aj st):=by exact fst)(e:(Jo st n).length=n:=by kernel_rfl)(e':(Fq st).length=k:=by kernel_rfl):Ok P w K mg base is cl (j+1) ((x,n,aU g k)::l) fx:=by
 have:=N2 (up h (Nat.le_succ j)) (Q2 (Pf h D) F h.ob h.of h.oi t);rw[e,e'] at this;exact this
def ox(st:Stmt)(D:gD K x st (Jo st n))(h:Ok P w K mg base is cl j l fx)(t:tW st (Fq st) ⟨l,is⟩ none=some g:=by kernel_rfl)(tx:Qx st (Fq st) ⟨l,is⟩ fx cl=some xg:=by kernel_rfl)(F:cA (Fq st) (Jo st n) (aj st):=by exact fst)(e:(Jo st n).length=n:=by kernel_rfl)(e':(Fq st).length=k:=by kernel_rfl):Ok P w K mg base is cl (j+1) ((x,n,aU g k)::l) ((x,n,mJ xg k)::fx):=by
 have:=Pa (Pf h D) h.ob h.of h.oi h.ox h.oc tx F;rw[e,e'] at this;exact PB (on st D h t F e e') this
def ot(st:Stmt)(D:gD K x st (Jo st n))(M:sO K mg Fa cs)(R:{j:Nat}->∀c d,lK ns c=some d->As P w K mg base j "_law_refused" c d)(h:Ok P w K mg base is cl j l fx)(t:Pw st (Fq st) ⟨l,is⟩ fx ns=some g:=by kernel_rfl)(hns:(ns.all λc=>(cs.map Prod.fst).contains c)=true:=by decide +kernel)(F:cA (Fq st) (Jo st n) (aj st):=by exact fst)(e:(Jo st n).length=n:=by kernel_rfl)(e':(Fq st).length=k:=by kernel_rfl):Ok P w K mg base is cl (j+1) ((x,n,aU g k)::l) fx:=by
 have:=N2 (up h (Nat.le_succ j)) (NM (Pf h D) h.ob M h.of h.oi h.ox R hns t F);rw[e,e'] at this;exact this
end
end Rg
namespace Pg
open PySem L2 Dl PySem.Spec PyProof.Rows
def oJ:au->Option Out:=(aw (dC (dE (bC (fB (Cj "int" (ae 0)))) (fB (Cj "bool" (ae 0)))) (aG (fC (.bool false))) dQ) (aG (iS Bq Bq (ae 1) (ae 0) (ae 2))))
def bu:List D->Option D:=aU oJ 3
def ni:au->Option Out:=(aG (ah 3 bu (aa (ae 0) (aa (fC (.int 0)) (aa (f2 Dl.ku (ae 1) (fC (.int 1))) af)))))
def cQ:List D->Option D:=aU ni 2
def rC:au->Option Out:=(aG (jv (Cj "tuple" (ae 0)) (iS Bq Bq (ae 1) (aY bz (aa (ae 0) af)) (ae 2))))
def bV:List D->Option D:=aU rC 3
def mR:au->Option Out:=(aw (dC (bC (fB (Cj "tuple" (ae 0)))) (aG (fC (.bool false))) dQ) (aw (dC (bC (fB (aY gg (aa (ba (ao 1 [1] (aE (ae 0)) (fG 0) (λ_=>some true) (ah 2 cQ (aa (ae 0) (aa (ae 1) af))))) af)))) (aG (fC (.bool false))) dQ) (aG (f2 aW (f1 jj (ae 0)) (aY bz (aa (ae 0) af))))))
def fX:List D->Option D:=aU mR 2
def u4:au->Option Out:=(aG (jv (ah 3 bV (aa (ae 0) (aa (fC (.int 2)) (aa (fC (.int 2)) af)))) (jv (ah 3 bu (aa (f2 bf (ae 0) (fC (.int 0))) (aa (fC (.int 0)) (aa (fC (.int 9)) af)))) (ah 2 fX (aa (f2 bf (ae 0) (fC (.int 1))) (aa (ae 1) af))))))
def e9:List D->Option D:=aU u4 2
def vm:au->Option Out:=(aw (dC (bC (fB (ah 3 bV (aa (ae 0) (aa (fC (.int 3)) (aa (fC (.int 3)) af)))))) (aG (fC (.bool false))) dQ) (aG (jv (ah 2 cQ (aa (f2 bf (ae 0) (fC (.int 0))) (aa (ae 1) af))) (jv (ah 2 cQ (aa (f2 bf (ae 0) (fC (.int 1))) (aa (ae 2) af))) (ah 3 bu (aa (f2 bf (ae 0) (fC (.int 2))) (aa (fC (.int 1)) (aa (fC (.int 9)) af))))))))
def iY:List D->Option D:=aU vm 3
def m8:au->Option Out:=(aw (dC (dE (bC (fB (ah 3 bV (aa (ae 0) (aa (fC (.int 1)) (aa (fC (.int 4)) af)))))) (bC (fB (ah 3 bV (aa (ae 1) (aa (fC (.int 1)) (aa (fC (.int 4)) af))))))) (aG (fC (.bool false))) dQ) (aw (dC (bC (fB (aY gg (aa (ba (ao 1 [1] (aE (ae 0)) (fG 0) (λ_=>some true) (ah 2 e9 (aa (ae 0) (aa (aY bz (aa (ae 1) af)) af))))) af)))) (aG (fC (.bool false))) dQ) (aw (dC (bC (fB (aY gg (aa (ba (ao 1 [0] (aE (ae 1)) (fG 0) (λ_=>some true) (ah 2 e9 (aa (ae 0) (aa (aY bz (aa (ae 1) af)) af))))) af)))) (aG (fC (.bool false))) dQ) (aG (jv (Cj "tuple" (ae 2)) (aY gg (aa (ba (ao 1 [0,1] (aE (ae 2)) (fG 0) (λ_=>some true) (ah 3 iY (aa (ae 0) (aa (aY bz (aa (ae 1) af)) (aa (aY bz (aa (ae 2) af)) af)))))) af)))))))
def gc:List D->Option D:=aU m8 3
def j6:au->Option Out:=(aw (aX 1 [] (bQ af)) (aw (dJ [0] (bE (aa (ae 0) af)) (eQ 2 3) (BM 1 [2,3] (ao 1 [2] (aE (f2 bf (ae 3) (fC (.int 1)))) (fG 0) (λ_=>some true) (ay (aa (ae 1) (aa (ae 0) af)))))) (aG (ae 1))))
def bP:List D->Option D:=aU j6 4
def hV:au->Option Out:=(aw (dC (dE (bC (fB (ah 3 bV (aa (ae 0) (aa (fC (.int 3)) (aa (fC (.int 3)) af)))))) (bC (fB (ah 3 gc (aa (f2 bf (ae 0) (fC (.int 0))) (aa (f2 bf (ae 0) (fC (.int 1))) (aa (f2 bf (ae 0) (fC (.int 2))) af))))))) (aG (fC (.bool false))) dQ) (aw (aX 1 [0] (ao 1 [] (aE (f2 bf (ae 0) (fC (.int 2)))) (fG 0) (λ_=>some true) (ay (aa (f2 bf (ae 0) (fC (.int 0))) (aa (f2 bf (ae 0) (fC (.int 1))) af))))) (aw (aX 2 [0] (jx fR (aa (ah 1 bP (aa (f2 bf (ae 0) (fC (.int 0))) af)) af))) (aw (aX 3 [0] (jx fR (aa (ba (ao 2 [] (aE (ah 1 bP (aa (f2 bf (ae 0) (fC (.int 1))) af))) (iA 0 1) (λ_=>some true) (ay (aa (ae 1) (aa (ae 0) af))))) af))) (aG (jv (f2 aW (ae 1) (ae 2)) (f2 aW (ae 1) (ae 3))))))))
def bg:List D->Option D:=aU hV 4
def ei:au->Option Out:=(dC (bC (fB (ah 1 bg (aa (ae 0) af)))) uI dQ)
def aC:List D->Option D:=aU ei 1
def cH:au->Option Out:=(dC (bC (fB (ah 3 bu (aa (ae 0) (aa (ae 1) (aa (ae 2) af)))))) uI dQ)
def gq:List D->Option D:=aU cH 3
def cv:au->Option Out:=(iu (ah 3 gq (aa (ae 0) (aa (fC (.int 0)) (aa (f2 Dl.ku (ae 1) (fC (.int 1))) af)))))
def fq:List D->Option D:=aU cv 2
def eM:au->Option Out:=(iu (ah 2 fq (aa (ae 0) (aa (fC (.int 2)) af))))
def lG:List D->Option D:=aU eM 1
def iJ:au->Option Out:=(aw (dC (fB (f2 aW (ae 0) (ba (bQ af)))) (aG (f2 bS (fC (.int 7)) (ae 1))) dQ) (aG (f2 az (f2 bf (ae 0) (f2 iL (ae 1) (aY bz (aa (ae 0) af)))) (f2 bS (fC (.int 6553)) (f2 j9 (ae 1) (aY bz (aa (ae 0) af)))))))
def eu:List D->Option D:=aU iJ 2
def lg:au->Option Out:=(aw (aO 3 [0,1] (f2 iL (f2 az (f2 bS (f2 iL (ah 2 eu (aa (ae 0) (aa (ae 1) af))) (fC (.int 2147483563))) (fC (.int 69069))) (f2 bS (fC (.int 104723)) (f2 az (ae 1) (fC (.int 1))))) (fC (.int 2147483563)))) (aw (aO 3 [3] (f2 iL (f2 az (f2 bS (ae 3) (ae 3)) (f2 j9 (ae 3) (fC (.int 3)))) (fC (.int 2147483399)))) (aG (f2 iL (f2 j9 (f2 iL (f2 az (f2 bS (ae 3) (ae 3)) (f2 j9 (ae 3) (fC (.int 7)))) (fC (.int 2147483647))) (fC (.int 11))) (ae 2)))))
def ai:List D->Option D:=aU lg 4
def j4:au->Option Out:=(aw (aX 3 [] (bQ af)) (aw (dJ [2] (bE (aa (ae 2) af)) (eQ 4 5) (aw (aX 6 [] (bQ af)) (aw (dJ [5] (bE (aa (ae 5) af)) (eQ 7 8) (By 6 [8] (ah 3 ai (aa (ae 0) (aa (f2 az (f2 az (ae 1) (f2 bS (fC (.int 4)) (ae 4))) (ae 7)) (aa (f2 az (aY bz (aa (ae 6) af)) (fC (.int 1))) af)))) (ae 8))) (nv 3 [6] (aY bx (aa (ae 6) af)))))) (aG (ae 3))))
def cG:List D->Option D:=aU j4 9
def eP:au->Option Out:=(aw (dC (fI (fB (f2 uu (ae 2) (fC (.int 3)))) (fB (f2 aW (ah 3 ai (aa (ae 0) (aa (f2 az (ae 1) (fC (.int 64))) (aa (fC (.int 4)) af)))) (fC (.int 0))))) (aw (aO 3 [0,1] (f2 az (fC (.int 1)) (ah 3 ai (aa (ae 0) (aa (f2 az (ae 1) (fC (.int 65))) (aa (fC (.int 2)) af)))))) (aw (aO 4 [3] (ay (aa (ay (aa (ae 3) (aa (ay (aa (fC (.int 1)) (aa (fC (.int 0)) af))) af))) (aa (ay (aa (ae 3) (aa (ay (aa (fC (.int 0)) (aa (fC (.int 1)) af))) af))) af)))) (aG (ay (aa (ay (aa (ay (aa (ae 3) (aa (ay (aa (fC (.int 0)) (aa (fC (.int 1)) af))) af))) (aa (ay (aa (ae 3) (aa (ay (aa (fC (.int 1)) (aa (fC (.int 0)) af))) af))) af))) (aa (ae 4) (aa (ay (aa (ay (aa (fC (.int 0)) (aa (fC (.int 0)) (aa (fC (.int 2)) af)))) (aa (ay (aa (fC (.int 0)) (aa (fC (.int 1)) (aa (fC (.int 2)) af)))) (aa (ay (aa (fC (.int 1)) (aa (fC (.int 0)) (aa (fC (.int 2)) af)))) (aa (ay (aa (fC (.int 1)) (aa (fC (.int 1)) (aa (fC (.int 2)) af)))) af))))) af))))))) dQ) (aw (aO 5 [0,1] (f2 az (fC (.int 1)) (ah 3 ai (aa (ae 0) (aa (ae 1) (aa (fC (.int 3)) af)))))) (aw (aO 6 [0,1] (f2 az (fC (.int 1)) (ah 3 ai (aa (ae 0) (aa (f2 az (ae 1) (fC (.int 1))) (aa (fC (.int 3)) af)))))) (aw (aX 7 [] (bQ af)) (aw (dJ [5,6] (bN (aa (f2 bS (ae 5) (ae 6)) af)) (v7 8) (dC (fI (fB (f2 JY (aY bz (aa (ae 7) af)) (ae 2))) (fB (f2 uu (ah 3 ai (aa (ae 0) (aa (f2 az (f2 az (ae 1) (fC (.int 2))) (ae 8)) (aa (fC (.int 4)) af)))) (fC (.int 0))))) (nv 7 [0,1,6,8] (ay (aa (f2 j9 (ae 8) (ae 6)) (aa (f2 iL (ae 8) (ae 6)) (aa (f2 az (fC (.int 1)) (ah 3 ai (aa (ae 0) (aa (f2 az (f2 az (ae 1) (fC (.int 12))) (ae 8)) (aa (fC (.int 2)) af))))) af))))) dQ)) (aw (aO 9 [0,1,5,7] (ah 3 cG (aa (ae 0) (aa (f2 az (ae 1) (fC (.int 24))) (aa (ba (ao 1 [7] (bN (aa (ae 5) af)) (fG 0) (λ_=>some true) (ba (ao 1 [0] (aE (ae 1)) (fG 0) (fB (f2 aW (f2 bf (ae 0) (fC (.int 0))) (ae 1))) (f2 bf (ae 0) (fC (.int 1))))))) af))))) (aw (aO 10 [0,1,6,7] (ah 3 cG (aa (ae 0) (aa (f2 az (ae 1) (fC (.int 40))) (aa (ba (ao 1 [7] (bN (aa (ae 6) af)) (fG 0) (λ_=>some true) (ba (ao 1 [0] (aE (ae 1)) (fG 0) (fB (f2 aW (f2 bf (ae 0) (fC (.int 1))) (ae 1))) (f2 bf (ae 0) (fC (.int 0))))))) af))))) (aw (aO 11 [0,1,8,9] (aY bx (aa (ba (ao 2 [0,1] (bE (aa (ae 9) af)) (iA 0 1) (λ_=>some true) (ay (aa (ah 3 ai (aa (ae 2) (aa (f2 az (f2 az (ae 3) (fC (.int 56))) (ae 0)) (aa (fC (.int 4)) af)))) (aa (ae 1) af))))) af))) (aw (aO 4 [0,1,8,10] (aY bx (aa (ba (ao 2 [0,1] (bE (aa (ae 10) af)) (iA 0 1) (λ_=>some true) (ay (aa (ah 3 ai (aa (ae 2) (aa (f2 az (f2 az (ae 3) (fC (.int 60))) (ae 0)) (aa (fC (.int 4)) af)))) (aa (ae 1) af))))) af))) (aG (ay (aa (ae 11) (aa (ae 4) (aa (aY bx (aa (ae 7) af)) af))))))))))))))
def dH:List D->Option D:=aU eP 12
def rR:au->Option Out:=(aG (aY pV (aa (ba (ao 2 [2,3] (eL (aa (f2 bf (ae 0) (fC (.int 2))) (aa (ae 1) af))) (iA 0 1) (fB (f2 aW (f2 bf (ae 0) (ae 2)) (ae 3))) (ae 1))) af)))
def gR:List D->Option D:=aU rR 4
def ir:au->Option Out:=(aG (aY gg (aa (ba (ao 2 [0,1,2] (bE (aa (f2 bf (ae 0) (ae 2)) af)) (iA 0 1) (λ_=>some true) (f2 Bq (ah 4 gR (aa (ae 2) (aa (ae 3) (aa (ae 4) (aa (ae 0) af))))) (f2 bf (ae 1) (fC (.int 0)))))) af)))
def dh:List D->Option D:=aU ir 3
def gS:au->Option Out:=(aw (aO 2 [0] (f2 bf (ae 0) (fC (.int 2)))) (aw (dC (bC (fB (ah 3 bV (aa (ae 1) (aa (aY bz (aa (ae 2) af)) (aa (aY bz (aa (ae 2) af)) af)))))) (aG (fC (.bool false))) dQ) (aw (dC (bC (fB (aY gg (aa (ba (ao 2 [] (eL (aa (ae 2) (aa (ae 1) af))) (iA 0 1) (λ_=>some true) (ah 3 bu (aa (ae 1) (aa (fC (.int 0)) (aa (f2 bf (ae 0) (fC (.int 2))) af)))))) af)))) (aG (fC (.bool false))) dQ) (aG (jv (ah 3 dh (aa (ae 0) (aa (ae 1) (aa (fC (.int 0)) af)))) (ah 3 dh (aa (ae 0) (aa (ae 1) (aa (fC (.int 1)) af)))))))))
def aQ:List D->Option D:=aU gS 3
def m9:au->Option Out:=(aG (aY pV (aa (ba (ao 2 [2,3] (eL (aa (ae 1) (aa (f2 bf (ae 0) (fC (.int 2))) af))) (iA 0 1) (fB (f2 aW (f2 bf (ae 1) (ae 2)) (ae 3))) (ae 0))) af)))
def cL:List D->Option D:=aU m9 4
def i6:au->Option Out:=(aw (dJ [] (bN (aa (fC (.int 2)) af)) (v7 2) (dJ [0,2] (bE (aa (f2 bf (ae 0) (ae 2)) af)) (eQ 3 4) (dC (fB (f2 uu (ah 4 cL (aa (ae 0) (aa (ae 1) (aa (ae 2) (aa (ae 3) af))))) (f2 bf (ae 4) (fC (.int 0))))) (aG (fC (.bool false))) dQ))) (aG (fC (.bool true))))
def dB:List D->Option D:=aU i6 5
def iF:au->Option Out:=(aw (aO 3 [] (ay af)) (aw (dJ [2] (bE (aa (f2 bf (ae 2) (fC (.int 2))) af)) (eQ 4 5) (aw (aO 6 [0,1,3,4,5] (f2 az (ae 3) (ay (aa (ah 3 ai (aa (ae 0) (aa (f2 az (ae 1) (ae 4)) (aa (f2 az (f2 bf (ae 5) (fC (.int 2))) (fC (.int 1))) af)))) af)))) (aw (aO 7 [2,6] (ah 2 dB (aa (ae 2) (aa (f2 az (ae 6) (f2 bS (ay (aa (fC (.int 0)) af)) (f2 Dl.ku (aY bz (aa (f2 bf (ae 2) (fC (.int 2))) af)) (aY bz (aa (ae 6) af))))) af)))) (aO 3 [3,6,7] (iD (fB (ae 7)) (ae 6) (f2 az (ae 3) (ay (aa (fC (.int 0)) af)))))))) (aG (ae 3))))
def mZ:List D->Option D:=aU iF 8
open PySem L2 Dl PySem.Spec PyProof.Rows Ex
def pJ:XS:=(o8 (bC (fB (ah 1 bg (aa (ae 0) af)))) (Cq "NoWorld") jy)
def aJ:List D->Option Str:=mJ pJ 1
def pI:XS:=(o8 (bC (fB (ah 3 bu (aa (ae 0) (aa (ae 1) (aa (ae 2) af)))))) (Cq "NoPlace") jy)
def j3:List D->Option Str:=mJ pI 3
def nC:XS:=(gm (mz 3 j3 (aa (ae 0) (aa (fC (.int 0)) (aa (f2 Dl.ku (ae 1) (fC (.int 1))) af)))))
def iQ:List D->Option Str:=mJ nC 2
def qd:XS:=(gm (mz 2 iQ (aa (ae 0) (aa (fC (.int 2)) af))))
def sg:List D->Option Str:=mJ qd 1
open PySem L2 Dl Ex Rf PySem.Spec PyProof.Rows
def ip:au->Option Out:=(aG (f2 dO (fC (.str "")) (ba (ao 1 [] (aE (ae 0)) (fG 0) (λ_=>some true) (f2 bI (ae 0) (fC (.str "\n")))))))
def cC:List D->Option D:=aU ip 1
def ko:au->Option Out:=(aw (aO 1 [0] (ba (k6 bq (ae 0) (fC (.str "\n"))))) (aw (dC (fB (f2 bb (f2 bf (ae 1) (f1 er (fC (.int 1)))) (fC (.str "")))) uI dQ) (aG (eI oN (ae 1) gL (pZ (f1 er (fC (.int 1))))))))
def aH:List D->Option D:=aU ko 2
def vp:XS:=(qa (aO 1 [0] (ba (k6 bq (ae 0) (fC (.str "\n"))))) (o8 (fB (f2 bb (f2 bf (ae 1) (f1 er (fC (.int 1)))) (fC (.str "")))) (Cq "NoText") jy))
def bD:List D->Option Str:=mJ vp 2
def rD:au->Option Out:=(aG (f2 dO (fC (.str " ")) (ba (ao 1 [] (aE (ae 0)) (fG 0) (λ_=>some true) (aY iM (aa (ae 0) af))))))
def eY:List D->Option D:=aU rD 1
def dv:au->Option Out:=(aw (dC (dE (fB (f2 bb (aY fj (aa (ae 0) af)) (fC (.int 1)))) (fB (f2 (λx y=>(tv x y).map PyData.bool) (ae 0) (fC (.str "0123456789"))))) uI dQ) (aG (f2 lr (fC (.str "0123456789")) (ae 0))))
def aA:List D->Option D:=aU dv 1
def dF:XS:=(o8 (dE (fB (f2 bb (aY fj (aa (ae 0) af)) (fC (.int 1)))) (fB (f2 (λx y=>(tv x y).map PyData.bool) (ae 0) (fC (.str "0123456789"))))) (Cq "NoText") jy)
def bo:List D->Option Str:=mJ dF 1
def hJ:au->Option Out:=(aG (aY bx (aa (ba (ao 1 [] (aE (ae 0)) (fG 0) (λ_=>some true) (ah 1 aA (aa (ae 0) af)))) af)))
def bF:List D->Option D:=aU hJ 1
def qc:XS:=(gm (gh 1 [] (aE (ae 0)) (fG 0) (λ_=>some true) (ah 1 aA (aa (ae 0) af)) (mz 1 bo (aa (ae 0) af))))
def cy:List D->Option Str:=mJ qc 1
def nc:au->Option Out:=(aG (iD (fB (f2 aW (aY bz (aa (ae 0) af)) (fC (.int 0)))) (fC (.str ".")) (ah 1 eY (aa (ae 0) af))))
def bZ:List D->Option D:=aU nc 1
def ft:au->Option Out:=(aG (iD (fB (f2 aW (ae 0) (fC (.str ".")))) (ay af) (ah 1 bF (aa (ba (k6 bq (ae 0) (fC (.str " ")))) af))))
def av:List D->Option D:=aU ft 1
def nB:XS:=(gm (nG (fB (f2 aW (ae 0) (fC (.str ".")))) zw (mz 1 cy (aa (ba (k6 bq (ae 0) (fC (.str " ")))) af))))
def aS:List D->Option Str:=mJ nB 1
def mM:au->Option Out:=(aG (aY gg (aa (ba (ao 1 [0] (aE (ae 1)) (fG 0) (λ_=>some true) (ah 2 aQ (aa (ae 1) (aa (ae 0) af))))) af)))
def aL:List D->Option D:=aU mM 2
def wb:au->Option Out:=(aw (iu (ah 1 aC (aa (ae 0) af))) (aw (dC (dE (bC (fB (Cj "list" (ae 1)))) (bC (fB (ah 2 aL (aa (ae 0) (aa (ae 1) af)))))) uI dQ) (aG (ah 1 cC (aa (ba (ao 1 [] (aE (ae 1)) (fG 0) (λ_=>some true) (ah 1 bZ (aa (ae 0) af)))) af)))))
def bw:List D->Option D:=aU wb 2
def sM:XS:=(fV (gm (mz 1 aJ (aa (ae 0) af))) (iu (ah 1 aC (aa (ae 0) af))) (o8 (dE (bC (fB (Cj "list" (ae 1)))) (bC (fB (ah 2 aL (aa (ae 0) (aa (ae 1) af)))))) (Cq "NoPlan") jy))
def b0:List D->Option Str:=mJ sM 2
def uD:au->Option Out:=(aw (iu (ah 1 aC (aa (ae 0) af))) (aw (aX 2 [1] (ao 1 [] (aE (ah 1 aH (aa (ae 1) af))) (fG 0) (λ_=>some true) (ah 1 av (aa (ae 0) af)))) (aw (dC (bC (fB (ah 2 aL (aa (ae 0) (aa (ae 2) af))))) uI dQ) (aG (ae 2)))))
def bh:List D->Option D:=aU uD 3
def tY:XS:=(fV (gm (mz 1 aJ (aa (ae 0) af))) (iu (ah 1 aC (aa (ae 0) af))) (fV (gm (qj (mz 1 bD (aa (ae 1) af)) (gh 1 [] (aE (ah 1 aH (aa (ae 1) af))) (fG 0) (λ_=>some true) (ah 1 av (aa (ae 0) af)) (mz 1 aS (aa (ae 0) af))))) (aX 2 [1] (ao 1 [] (aE (ah 1 aH (aa (ae 1) af))) (fG 0) (λ_=>some true) (ah 1 av (aa (ae 0) af)))) (o8 (bC (fB (ah 2 aL (aa (ae 0) (aa (ae 2) af))))) (Cq "NoText") jy)))
def bH:List D->Option Str:=mJ tY 3
def lN:au->Option Out:=(aw (aX 3 [] (bQ af)) (aw (dJ [2] (bE (aa (ae 2) af)) (eQ 4 5) (aw (aX 6 [] (bQ af)) (aw (dJ [5] (bE (aa (ae 5) af)) (eQ 7 8) (By 6 [8] (ah 3 ai (aa (ae 0) (aa (f2 az (f2 az (ae 1) (f2 bS (fC (.int 4)) (ae 4))) (ae 7)) (aa (f2 az (aY bz (aa (ae 6) af)) (fC (.int 1))) af)))) (ae 8))) (nv 3 [6] (aY bx (aa (ae 6) af)))))) (aG (ae 3))))
def dG:List D->Option D:=aU lN 9
def l8:au->Option Out:=(aw (dC (fI (fB (f2 uu (ae 2) (fC (.int 3)))) (fB (f2 aW (ah 3 ai (aa (ae 0) (aa (f2 az (ae 1) (fC (.int 64))) (aa (fC (.int 4)) af)))) (fC (.int 0))))) (aw (aO 3 [0,1] (f2 az (fC (.int 1)) (ah 3 ai (aa (ae 0) (aa (f2 az (ae 1) (fC (.int 65))) (aa (fC (.int 2)) af)))))) (aw (aO 4 [3] (ay (aa (ay (aa (ae 3) (aa (ay (aa (fC (.int 1)) (aa (fC (.int 0)) af))) af))) (aa (ay (aa (ae 3) (aa (ay (aa (fC (.int 0)) (aa (fC (.int 1)) af))) af))) af)))) (aG (ay (aa (ay (aa (ay (aa (ae 3) (aa (ay (aa (fC (.int 0)) (aa (fC (.int 1)) af))) af))) (aa (ay (aa (ae 3) (aa (ay (aa (fC (.int 1)) (aa (fC (.int 0)) af))) af))) af))) (aa (ae 4) (aa (ay (aa (ay (aa (fC (.int 0)) (aa (fC (.int 0)) (aa (fC (.int 2)) af)))) (aa (ay (aa (fC (.int 0)) (aa (fC (.int 1)) (aa (fC (.int 2)) af)))) (aa (ay (aa (fC (.int 1)) (aa (fC (.int 0)) (aa (fC (.int 2)) af)))) (aa (ay (aa (fC (.int 1)) (aa (fC (.int 1)) (aa (fC (.int 2)) af)))) af))))) af))))))) dQ) (aw (aO 5 [0,1] (f2 az (fC (.int 1)) (ah 3 ai (aa (ae 0) (aa (ae 1) (aa (fC (.int 3)) af)))))) (aw (aO 6 [0,1] (f2 az (fC (.int 1)) (ah 3 ai (aa (ae 0) (aa (f2 az (ae 1) (fC (.int 1))) (aa (fC (.int 3)) af)))))) (aw (aX 7 [] (bQ af)) (aw (dJ [5,6] (bN (aa (f2 bS (ae 5) (ae 6)) af)) (v7 8) (dC (fI (fB (f2 JY (aY bz (aa (ae 7) af)) (ae 2))) (fB (f2 uu (ah 3 ai (aa (ae 0) (aa (f2 az (f2 az (ae 1) (fC (.int 2))) (ae 8)) (aa (fC (.int 4)) af)))) (fC (.int 0))))) (nv 7 [0,1,6,8] (ay (aa (f2 j9 (ae 8) (ae 6)) (aa (f2 iL (ae 8) (ae 6)) (aa (f2 az (fC (.int 1)) (ah 3 ai (aa (ae 0) (aa (f2 az (f2 az (ae 1) (fC (.int 12))) (ae 8)) (aa (fC (.int 2)) af))))) af))))) dQ)) (aw (aO 9 [0,1,5,7] (ah 3 dG (aa (ae 0) (aa (f2 az (ae 1) (fC (.int 24))) (aa (ba (ao 1 [7] (bN (aa (ae 5) af)) (fG 0) (λ_=>some true) (ba (ao 1 [0] (aE (ae 1)) (fG 0) (fB (f2 aW (f2 bf (ae 0) (fC (.int 0))) (ae 1))) (f2 bf (ae 0) (fC (.int 1))))))) af))))) (aw (aO 10 [0,1,6,7] (ah 3 dG (aa (ae 0) (aa (f2 az (ae 1) (fC (.int 40))) (aa (ba (ao 1 [7] (bN (aa (ae 6) af)) (fG 0) (λ_=>some true) (ba (ao 1 [0] (aE (ae 1)) (fG 0) (fB (f2 aW (f2 bf (ae 0) (fC (.int 1))) (ae 1))) (f2 bf (ae 0) (fC (.int 0))))))) af))))) (aw (aO 11 [0,1,8,9] (aY bx (aa (ba (ao 2 [0,1] (bE (aa (ae 9) af)) (iA 0 1) (λ_=>some true) (ay (aa (ah 3 ai (aa (ae 2) (aa (f2 az (f2 az (ae 3) (fC (.int 56))) (ae 0)) (aa (fC (.int 4)) af)))) (aa (ae 1) af))))) af))) (aw (aO 4 [0,1,8,10] (aY bx (aa (ba (ao 2 [0,1] (bE (aa (ae 10) af)) (iA 0 1) (λ_=>some true) (ay (aa (ah 3 ai (aa (ae 2) (aa (f2 az (f2 az (ae 3) (fC (.int 60))) (ae 0)) (aa (fC (.int 4)) af)))) (aa (ae 1) af))))) af))) (aG (ay (aa (ae 11) (aa (ae 4) (aa (aY bx (aa (ae 7) af)) af))))))))))))))
def cW:List D->Option D:=aU l8 12
def nH:au->Option Out:=(aw (dJ [] (bN (aa (fC (.int 2)) af)) (v7 2) (dJ [0,2] (bE (aa (f2 bf (ae 0) (ae 2)) af)) (eQ 3 4) (dC (fB (f2 uu (ah 4 cL (aa (ae 0) (aa (ae 1) (aa (ae 2) (aa (ae 3) af))))) (f2 bf (ae 4) (fC (.int 0))))) (aG (fC (.bool false))) dQ))) (aG (fC (.bool true))))
def cD:List D->Option D:=aU nH 5
def ny:au->Option Out:=(aw (aO 3 [] (ay af)) (aw (dJ [2] (bE (aa (f2 bf (ae 2) (fC (.int 2))) af)) (eQ 4 5) (aw (aO 6 [0,1,3,4,5] (f2 az (ae 3) (ay (aa (ah 3 ai (aa (ae 0) (aa (f2 az (ae 1) (ae 4)) (aa (f2 az (f2 bf (ae 5) (fC (.int 2))) (fC (.int 1))) af)))) af)))) (aw (aO 7 [2,6] (ah 2 cD (aa (ae 2) (aa (f2 az (ae 6) (f2 bS (ay (aa (fC (.int 0)) af)) (f2 Dl.ku (aY bz (aa (f2 bf (ae 2) (fC (.int 2))) af)) (aY bz (aa (ae 6) af))))) af)))) (aO 3 [3,6,7] (iD (fB (ae 7)) (ae 6) (f2 az (ae 3) (ay (aa (fC (.int 0)) af)))))))) (aG (ae 3))))
def bW:List D->Option D:=aU ny 8
def nz:au->Option Out:=(uz (aG (iD (fB (f2 aW (ae 0) (fC (.int 0)))) (ah 2 bw (aa (ae 1) (aa (ae 2) af))) (ah 2 bh (aa (ae 1) (aa (ae 2) af))))) (gm (nG (fB (f2 aW (ae 0) (fC (.int 0)))) (mz 2 b0 (aa (ae 1) (aa (ae 2) af))) (mz 2 bH (aa (ae 1) (aa (ae 2) af))))) (lK ["NoWorld","NoPlan","NoText"]))
def ar:List D->Option D:=aU nz 4
def mT:au->Option Out:=(aG (f2 dO (fC (.str "")) (ba (ao 1 [] (aE (ae 0)) (fG 0) (λ_=>some true) (f2 bI (iD (fB (f2 bb (ae 0) (ay af))) (f2 dO (fC (.str " ")) (ba (ao 1 [] (aE (ae 0)) (fG 0) (λ_=>some true) (aY iM (aa (ae 0) af))))) (fC (.str "."))) (fC (.str "\n")))))))
def eD:List D->Option D:=aU mT 1
def kf:au->Option Out:=(aw (dC (fB (f2 aW (f2 bf (ae 0) (fC (.int 2))) (ay af))) (aG (iD (fB (f2 aW (ae 1) (fC (.str ".")))) (ay af) (fC .none))) dQ) (aw (aO 2 [1] (ba (k6 bq (ae 1) (fC (.str " "))))) (aw (dC (dE (fB (f2 bb (aY bz (aa (ae 2) af)) (aY bz (aa (f2 bf (ae 0) (fC (.int 2))) af)))) (fB (f2 bb (ba (ao 1 [] (aE (ae 2)) (fG 0) (dE (fB (f2 bb (aY fj (aa (ae 0) af)) (fC (.int 1)))) (fB (f2 (λx y=>(tv x y).map PyData.bool) (ae 0) (fC (.str "0123456789"))))) (ae 0))) (ba (bQ af))))) (aG (fC .none)) dQ) (aw (aO 3 [2] (aY bx (aa (ba (ao 1 [] (aE (ae 2)) (fG 0) (λ_=>some true) (aY ia (aa (ae 0) af)))) af))) (aw (aO 4 [0,3] (f2 aW (ba (ao 2 [] (eL (aa (ae 3) (aa (f2 bf (ae 0) (fC (.int 2))) af))) (iA 0 1) (fB (f2 uu (ae 0) (f2 bf (ae 1) (fC (.int 2))))) (ae 0))) (ba (bQ af)))) (aG (iD (fI (fB (ae 4)) (fB (ah 2 cD (aa (ae 0) (aa (ae 3) af))))) (ae 3) (fC .none))))))))
def cf:List D->Option D:=aU kf 5
def iE:au->Option Out:=(aw (aO 2 [1] (ba (k6 bq (ae 1) (fC (.str "\n"))))) (aw (aX 3 [0,2] (ao 1 [0] (aE (eI oN (ae 2) gL (pZ (f1 er (fC (.int 1)))))) (fG 0) (λ_=>some true) (ah 2 cf (aa (ae 1) (aa (ae 0) af))))) (aG (iD (dE (fB (f2 bb (f2 bf (ae 2) (f1 er (fC (.int 1)))) (fC (.str "")))) (fB (f2 uP (fC .none) (ae 3)))) (ay (aa (fC (.str "refused")) (aa (fC (.int 2)) af))) (ae 3)))))
def cn:List D->Option D:=aU iE 4
abbrev qx:List Str:=["_law_script","_law_world_here","_law_plans","_law_text_here","_law_k","_law_place","_law_sign","_law_spoilt","_law_plan_here","_law_bad","_law_line","_law_odd"]
def jr:au->Option Out:=(aw (aO 1 [0] (ah 3 cW (aa (ae 0) (aa (fC (.int 0)) (aa (fC (.int 9)) af))))) (aw (aX 2 [0,1,4] (ao 1 [0,1] (bN (aa (ah 3 ai (aa (ae 0) (aa (fC (.int 69)) (aa (fC (.int 5)) af)))) af)) (fG 0) (λ_=>some true) (ah 3 bW (aa (ae 1) (aa (f2 az (fC (.int 70)) (f2 bS (fC (.int 10)) (ae 0))) (aa (ae 2) af)))))) (aw (aO 3 [2] (ah 1 eD (aa (ae 2) af))) (aw (dC (dE (fB (f2 bb (ah 3 ar (aa (fC (.int 0)) (aa (ae 1) (aa (ae 2) af)))) (ae 3))) (fB (f2 bb (ah 3 ar (aa (fC (.int 1)) (aa (ae 1) (aa (ae 3) af)))) (ae 2)))) (aG (fC (.bool false))) dQ) (aw (dJ [] (bN (aa (fC (.int 6)) af)) (v7 4) (aw (aO 5 [0,3,4] (ah 3 ai (aa (ae 0) (aa (f2 az (fC (.int 120)) (f2 bS (fC (.int 4)) (ae 4))) (aa (f2 az (aY fj (aa (ae 3) af)) (fC (.int 1))) af))))) (aw (aO 6 [0,4] (f2 zh (fC (.str "0129 .-\n")) (ah 3 ai (aa (ae 0) (aa (f2 az (fC (.int 121)) (f2 bS (fC (.int 4)) (ae 4))) (aa (fC (.int 8)) af)))))) (aw (aO 7 [0,3,4,5,6] (f2 bI (f2 bI (eI dz (ae 3) gL (pZ (ae 5))) (ae 6)) (eI dz (ae 3) (pZ (f2 az (ae 5) (ah 3 ai (aa (ae 0) (aa (f2 az (fC (.int 122)) (f2 bS (fC (.int 4)) (ae 4))) (aa (fC (.int 2)) af)))))) gL))) (dC (fB (f2 bb (ah 3 ar (aa (fC (.int 1)) (aa (ae 1) (aa (ae 7) af)))) (ah 2 cn (aa (ae 1) (aa (ae 7) af))))) (aG (fC (.bool false))) dQ))))) (aw (aO 8 [1] (f2 bS (ay (aa (fC (.int 0)) af)) (aY bz (aa (f2 bf (ae 1) (fC (.int 2))) af)))) (aw (dJ [2,8] (aE (ay (aa (fC .none) (aa (aY bx (aa (ae 2) af)) (aa (ae 8) (aa (ba (bQ (aa (fC .none) af))) (aa (ba (bQ (aa (f2 az (ae 8) (ay (aa (fC (.int 0)) af))) af))) (aa (ba (bQ (aa (ae 8) (aa (ba (jx cK (aa (ae 8) af))) af)))) (aa (ba (bQ (aa (f2 bS (ay (aa (fC (.int 9)) af)) (f2 az (aY bz (aa (ae 8) af)) (fC (.int 1)))) af))) af))))))))) (v7 9) (dC (fB (f2 bb (ah 3 ar (aa (fC (.int 0)) (aa (ae 1) (aa (ae 9) af)))) (ay (aa (fC (.str "refused")) (aa (fC (.int 1)) af))))) (aG (fC (.bool false))) dQ)) (aw (aO 10 [8] (ah 1 eD (aa (ba (bQ (aa (ae 8) af))) af))) (aw (aX 11 [10] (bQ (aa (eI dz (ae 10) gL (pZ (f1 er (fC (.int 1))))) (aa (f2 bI (ae 10) (fC (.str "\n"))) (aa (fC (.str "\n")) (aa (f2 rX (fC (.str " ")) (ae 10)) (aa (f1 (rO "\n" " \n") (ae 10)) af))))))) (aw (dJ [10,11] (aE (ba (k6 nq (ae 11) (ba (bQ (aa (f2 bI (ae 10) (eI dz (ae 10) gL (pZ (f1 er (fC (.int 1)))))) (aa (f2 bI (fC (.str "0 ")) (ae 10)) (aa (fC (.str "x\n")) af)))))))) (v7 9) (dC (fB (f2 bb (ah 3 ar (aa (fC (.int 1)) (aa (ae 1) (aa (ae 9) af)))) (ay (aa (fC (.str "refused")) (aa (fC (.int 2)) af))))) (aG (fC (.bool false))) dQ)) (aw (dC (dE (fB (f2 bb (ah 3 ar (aa (fC (.int 1)) (aa (ae 1) (aa (fC (.str "")) af)))) (ba (bQ af)))) (fB (f2 bb (ah 3 ar (aa (fC (.int 0)) (aa (ae 1) (aa (ba (bQ af)) af)))) (fC (.str ""))))) (aG (fC (.bool false))) dQ) (aG (f2 aW (ba (ao 1 [1] (aE (ay (aa (fC (.int 0)) (aa (fC (.int 1)) af)))) (fG 0) (λ_=>some true) (ah 3 ar (aa (ae 0) (aa (eI oN (ae 1) gL (pZ (fC (.int 2)))) (aa (fC (.str "")) af)))))) (ba (uV (bQ (aa (ay (aa (fC (.str "refused")) (aa (fC (.int 0)) af))) af)) (fC (.int 2)))))))))))))))))
def eX:List D->Option D:=aU jr 12
end Pg
namespace K83
open PySem L2 Dl PySem.Spec PyProof.Rows
open Pg Ex Rg
abbrev Ra:List Str:=["NoWorld","NoPlan","NoText"]
abbrev QL:List Str:=["NoPlan","NoText","NoWorld"]
abbrev gi:List (Str×D):=[("MOST_PLACES",.int 4),("MOST",.int 9),("DIGITS",.str "0123456789"),("POINT",.str ".")]
abbrev Ls:FT:=("_law_due",2,cn)::("_law_row",2,cf)::("_law_text",1,eD)::("_law_told",3,ar)::("_law_plan",3,bW)::("_law_fits",2,cD)::("_law_used",4,cL)::("_law_world",3,cW)::("_law_orders",3,dG)::("_law_drawn",3,ai)::("_law_cell",2,eu)::("read_walk",2,bh)::("walk_text",2,bw)::("are_plans",2,aL)::("plan_of_line",1,av)::("plan_line",1,bZ)::("numbers_of",1,bF)::("number_of",1,aA)::("line_of",1,eY)::("lines_of",1,aH)::("text_of_lines",1,cC)::("check_world",1,aC)::("is_plan",2,aQ)::("keeps_amounts",3,dh)::("through",4,gR)::("is_world",1,bg)::("liked_pairs",1,bP)::("are_parts",3,gc)::("is_way",3,iY)::("is_end",2,e9)::("are_likes",2,fX)::("is_long",3,bV)::("is_number",2,cQ)::("is_whole",3,bu)::[]
abbrev Xs:XT:=("read_walk",2,bH)::("walk_text",2,b0)::("plan_of_line",1,aS)::("numbers_of",1,cy)::("number_of",1,bo)::("lines_of",1,bD)::("check_world",1,aJ)::[]
def Ni:Rf.tW (top 48) qx ⟨Ls,gi⟩ none=some jr:=by kernel_rfl
structure L7(K:W.Frag)(mg:Str->Option Value):Prop where
 o:∀P w base,Ok P w K mg base gi QL 34 Ls Xs
 c:xj K mg "law" (top 48) ["_law_script"]
def MT{P:Program}{w:World}{K:W.Frag}{mg:Str->Option Value}{fa:Addr}(D:L7 K mg)(hfa:mg "law"=some (.ref fa)):∃fd:FuncData,(∀ (s:Shared) (v:Value),BindsTo s fd ⟨[v],[]⟩ [("_law_script",v)])/\∀base:Heap,K.In base->base.Ns mainGlobals mg->nA P w K mg base GE 35 fa fd ["_law_script"] (Ow K 1 eX):=by
 let⟨f,fd,hm,F,hb⟩:=D.c.ex;rw[hfa] at hm;cases hm;refine⟨fd,λs v=>?_,λbase _ _=>JU F (Rf.OV (N:=qx)) λX hP hw hK hm' hb' C _ _ HF H=>by subst hP;subst hw;subst hK;subst hm';subst hb';have o:=D.o X.prog X.w X.base;exact Rf.JW C o.ob o.of o.oi Ni⟩;let⟨oc,od,kV,doc,pm,an,cdv,ct,osl,rfl,lk,hcd⟩:=F.ex;exact .of_eq rfl
def walk{l:W.OpenLaw}{q:Program}{loose:List Str}{XP:(Str->Option Value)->Heap->Prop}{YP:World->Heap->Prop}{d:DefRec}{K:Params->W.Frag}{ts:List Addr}(hn:l.most=some 63)(hdf:d.params.defaults=[])(hname:d.name="law")
  (hY:∀ (w:World) (h:Heap),YP w h->(K w.params).In h/\∀P∈ts,h.get? P=some (W.tabObj #[])) (ht:∀w:World,lS (K w.params) ts=true) (hI:∀ (w:World) {h:Heap}{mg:Str->Option Value},(K w.params).In h->h.Ns mainGlobals mg->L7 (K w.params) mg) (main:∀ns:List Int,ns.length<=63->eX [.list (ns.map PyData.int)]=some (.bool true)) :
  W.WalkO q loose XP YP l.row.toRowW d [] (λf vs=>PySem.call f vs) :=
 Fv (n:=63) (k:=35) (x:="_law_script") (CX:=λ_=>GE) (sp:=λw=>Ow (K w.params) 1 eX) hn (by decide) hdf ⟨rfl,by decide,by decide⟩ hY ht (λw mg fa h KX G hmg=>MT (hI w KX G) (by rw[<- hname];exact hmg)) (λ_ _ a ns hl hT hS=>yb hS hT (main ns hl)) λ_ _ _ _ _ z=>z
end K83
namespace Dl
open PySem L2 PySem.Spec PyProof.Rows
def uC:D->Prop|.none=>True|.bool _=>True|.int _=>True|.str x=>PyData.canLay0 (.str x)=true|_=>False
def gu(b:Nat):Nat->D->Prop
 | 0,d=>uC d
 | k+1,d=>uC d\/(∃xs,(d=.list xs\/d=.tuple xs)/\xs.length<=b/\∀x∈xs,gu b k x)
def gu.leaf(h:uC d):gu b k d:=by
 cases k with
 | zero=>exact h
 | succ k=>exact .inl h
def gu.tup(hb:xs.length<=b)(h:∀x∈xs,gu b k x):gu b (k+1) (.tuple xs):=.inr ⟨xs,.inr rfl,hb,h⟩
def gu.lst(hb:xs.length<=b)(h:∀x∈xs,gu b k x):gu b (k+1) (.list xs):=.inr ⟨xs,.inl rfl,hb,h⟩
def gu.of_tup(h:gu b k (.tuple xs)):∃j,k=j+1/\xs.length<=b/\∀x∈xs,gu b j x:=by
 cases k with
 | zero=>cases h
 | succ k =>
  rcases h with h|⟨ys,h|h,h1,h2⟩
  ·cases h
  ·cases h
  ·cases h;exact⟨k,rfl,h1,h2⟩
def gu.mono(hb:b<=b'):∀ {k k':Nat}{d:D},k<=k'->gu b k d->gu b' k' d
 | 0,k',d,_,h=>.leaf h
 | k+1,0,d,hk,h=>by lia
 | k+1,k'+1,d,hk,h=>by
  rcases h with h|⟨xs,h,h1,h2⟩
  ·exact .inl h
  ·exact .inr ⟨xs,h,yC h1 hb,λx hx=>(h2 x hx).mono hb (by lia)⟩
def Bb{b:Nat}:∀ {xs:List D},(∀x∈xs,PyData.canLay0 x=true/\x.depth<=k)->PyData.canLayAll0 xs=true/\PyData.depthAll xs<=k
 | [],_=>⟨by simp[PyData.canLayAll0],by simp[PyData.depthAll]⟩
 | x::xs,h=>by
  let⟨a,c⟩:=Bb (b:=b) (xs:=xs) λy hy=>h y (zC _ hy);let⟨a',c'⟩:=h x zE;exact⟨by simp[PyData.canLayAll0,a,a'],by simp[PyData.depthAll];lia⟩
def gu.lay:∀ {k:Nat}{d:D},gu b k d->PyData.canLay0 d=true/\d.depth<=k:=by
 have lf:∀ {k:Nat}{d:D},uC d->PyData.canLay0 d=true/\d.depth<=k:=λ{k d} h=>by
  cases d<;>simp?[uC] at h<;>first|exact⟨h,by simp[PyData.depth]⟩|exact⟨by simp[PyData.canLay0],by simp[PyData.depth]⟩
 intro k
 induction k with
 | zero=>exactλh=>lf h
 | succ k ih =>
  intro d h;rcases h with h|⟨xs,h,h1,h2⟩
  ·exact lf h
  ·let⟨a,c⟩:=Bb (b:=b) (xs:=xs) λy hy=>ih (h2 y hy);rcases h with rfl|rfl
   ·exact⟨by simp[PyData.canLay0,a],by simp[PyData.depth];lia⟩
   ·exact⟨by simp[PyData.canLay0,a],by simp[PyData.depth];lia⟩
def gu.shaped(h:gu b k d)(hk:k<=64):SeqAt.shaped d=true:=by
 let⟨a,c⟩:=h.lay;simp[SeqAt.shaped,a];lia
def gu.noDict(h:gu b k d):∀kv,d≠.dict kv:=by
 rintro kv rfl;have:=h.lay.1;simp[PyData.canLay0] at this
def iP:D->Bool|.dict _=>false|_=>true
def gu.nd(h:gu b k d):iP d=true:=by
 cases d<;>first|rfl|exact absurd rfl (h.noDict _)
def QA:D->Bool|.int _=>true|.bool _=>true|_=>false
def Qn:D->Bool|.bool _=>true|_=>false
def Kw:D->Bool|.tuple _=>true|_=>false
def kI(h:iP d=true):sT (gk d) "int"=some (QA d):=by cases d<;>first|cases h;done|exact JA _ (by simp[gk])
def kB(h:iP d=true):sT (gk d) "bool"=some (Qn d):=by cases d<;>first|cases h;done|exact Gs _ (by simp[gk])
def kT(h:iP d=true):sT (gk d) "tuple"=some (Kw d):=by cases d<;>first|cases h;done|exact kit_tuple _ (by simp[gk])
def whole(a b:Int):D->Bool|.int i=>decide (a<=i)&&decide (i<=b)|_=>false
def rT:∀ {ds:List D},(∀d∈ds,∃ρ',tgt ρ d=some ρ'/\te ρ'=some (h d))->bp tgt (λ_=>some true) te ρ ds=some (ds.map h)
 | [],_=>rfl
 | d::ds,hh=>by
  let⟨ρ',h1,h2⟩:=hh d zE;have ih:=rT (ds:=ds) λy hy=>hh y (zC _ hy);unfold bp;rw[h1];simp[h2,ih]
def k9:∀ {ds:List D},(∀d∈ds,∃ρ',tgt ρ d=some ρ'/\tt ρ'=some (p d)/\(p d=true->te ρ'=some (h d)))->bp tgt tt te ρ ds=some ((ds.filter p).map h)
 | [],_=>rfl
 | d::ds,hh=>by
  let⟨ρ',h1,h2,h3⟩:=hh d zE;have ih:=k9 (ds:=ds) λy hy=>hh y (zC _ hy);unfold bp;rw[h1];simp?[zA,h2];cases hp:p d with
  | true=>rw[yK rfl,h3 hp];simp[ih,jW,hp]
  | false=>simp[ih,jW,hp]
def mO:∀ds:List D,boolsOf (ds.map λd=>.bool (p d))=some (ds.map p)
 | []=>rfl
 | d::ds=>by simp[boolsOf,mO ds]
def gE(ds:List D):gg [.list (ds.map λd=>.bool (p d))]=some (.bool (ds.all p)):=by
 simp?[gg,oneOf,zA,mO,zB,List.all_map];rfl
def cu(h:ds.length<=4000):small ds=some ds:=yK (yC h (by decide))
def ll{ds:List D}{i:Nat}(h:i < ds.length):md ds (i:Nat)=some (ds.getD i .none):=by
 have:=A8 (xs:=ds) (j:=i) (v:=ds[i]) (List.getElem?_eq_some_iff.mpr ⟨h,rfl⟩);rw[this];simp[List.getD,h]
def AI{ds:List D}(h:0 < ds.length):md ds 0=some (ds.getD 0 .none):=ll (i:=0) h
def uW{ds:List D}(h:1 < ds.length):md ds 1=some (ds.getD 1 .none):=ll (i:=1) h
def JV{ds:List D}(h:2 < ds.length):md ds 2=some (ds.getD 2 .none):=ll (i:=2) h
end Dl
namespace Wm
open PySem L2 Dl PySem.Spec PyProof.Rows Pg
variable {mo:Int}{i7 i5:Nat}{pss:List (List Nat)}{Ps:List (List Int)}
def vo(ha:fa ρ=some (.int a))(hb:fb ρ=some (.int i))(hc:fc ρ=some (.int b)):iS Bq Bq fa fb fc ρ=some (.bool (decide (a<=i)&&decide (i<=b))):=by
 simp?[iS,ha,hb,hc,zA,Bq,sf,xG];by_cases h:a<=i<;>simp[h]
def uy(i j:Int):Dl.ku (.int i) (.int j)=some (.int (i - j)):=rfl
def eC(i j:Int):Dl.az (.int i) (.int j)=some (.int (i+j)):=rfl
def Ap(d:D):Slot.all (.val d)=some d:=rfl
def Bu(ds:List D):Slot.all (.own ds)=some (.list ds):=rfl
def Ba:Slot.all .non=none:=rfl
def z7(d:D):Slot.frz (.val d)=some d:=rfl
def Ax(ds:List D):Slot.frz (.own ds)=none:=rfl
def Be:Slot.frz .non=none:=rfl
local macro_rules|`(tactic| simp! [$ts,*])=>`(tactic| simp only[aU,aw,dC,aG,dQ,dE,fI,bC,fB,gB,Cj,ae,fC,jv,PQ,PH,N4,f1,f2,uy,eC,aa,af,ah,aY,jx,bz,cK,oneOf,dI,aD,Ap,Bu,Ba,z7,Ax,Be,aE,ba,bx,ay,bQ,bf,  zI,yT,xE,xO,zL,xJ,List.replicate,xQ,yX,qG,kG,zA,Option.bind_none,zB,Option.map_none,Nat.reduceAdd,Nat.reduceSub,jC,Nat.sub_self,xG,reduceIte,$ts,*])
def d9(h:iP d=true)(a b:Int):bu [d,.int a,.int b]=some (.bool (whole a b d)):=by
 simp! [bu,oJ,kI h,kB h];cases d<;>simp[QA,Qn,whole];rw[vo rfl rfl rfl]
def iH(h:iP d=true)(n:Int):cQ [d,.int n]=some (.bool (whole 0 (n - 1) d)):=by
 simp! [cQ,ni,d9 h]
def long(a b:Int):D->Bool|.tuple ds=>decide (a<=(ds.length:Int))&&decide ((ds.length:Int)<=b)|_=>false
def dw(h:iP d=true)(a b:Int):bV [d,.int a,.int b]=some (.bool (long a b d)):=by
 simp! [bV,rC,kT h];cases d<;>simp[Kw,long];rw[vo rfl (i:=_) rfl rfl]
def kr:D->Int|.int i=>i|_=>0
def eW(h:whole a b d=true):d=.int (kr d)/\a<=kr d/\kr d<=b:=by
 cases d<;>simp[whole] at h;exact⟨rfl,h⟩
def kl:∀ {ls:List D},ls.all (whole a b)=true->ls=(ls.map kr).map PyData.int
 | [],_=>rfl
 | d::ls,h=>by
  rw[xS,zF] at h;rw[zI,zI,<- (eW h.1).1,<- kl h.2]
def gW(n:Int):D->Bool|.tuple ls=>ls.all (whole 0 (n - 1))&&decide ((ls.map kr).Nodup)|_=>false
def fJ(i j:Int):aW (.int i) (.int j)=some (.bool (decide (i=j))):=by
 simp[aW,GH,SeqAt.shaped,PyData.canLay0,PyData.depth,PyData.eqv];rfl
def Gq(i j:Int):bb (.int i) (.int j)=some (.bool (!decide (i=j))):=by
 simp[bb,GA,SeqAt.shaped,PyData.canLay0,PyData.depth,PyData.eqv];rfl
def CV(h:ls.all (whole a b)=true)(hl:ls.length<=100):f2 aW (f1 jj (λ_=>some (.tuple ls))) (aY bz (aa (λ_=>some (.tuple ls)) af)) []=some (.bool (decide ((ls.map kr).Nodup))):=by
 have e:=kl h;have e1:jj (.tuple ls)=some (.int (many (ls.map kr))):=by
  simp?[jj,jo]
  conv=>lhs;rw[e]
  rw[fA,zA,yK];rw[zD];exact qY (Nat.add_le_add_right hl 1) (by decide)
 simp! [e1,fJ];have:=zy (ls.map kr);rw[zD] at this;simp?[<- this,Int.ofNat_inj,yJ,PyData.bool.injEq]
def Ng(r:Dl.Env)(d:D):fG 0 (none::r) d=some (some d::r):=by simp[fG,isFree]
def cU{cs:List Nat}(hfi:fi ρ=some ds)(hl:ds.length<=4000)(hh:∀d∈ds,te (some d::cs.map λj=>(ρ[j]?).getD none)=some (h d)):ao 1 cs fi (fG 0) (λ_=>some true) te ρ=some (ds.map h):=by
 simp?[ao,hfi,zA,f7,List.replicate,xE,xO];rw[rT (h:=h) λd hd=>⟨_,Ng _ d,hh d hd⟩,zA,cu (by rw[zD];exact hl)]
def k8{cs:List Nat}(hfi:fi ρ=some ds)(hl:ds.length<=4000)
  (hp:∀d∈ds,tt (some d::cs.map λj=>(ρ[j]?).getD none)=some (p d)) (hh:∀d∈ds,p d=true->te (some d::cs.map λj=>(ρ[j]?).getD none)=some (h d)):ao 1 cs fi (fG 0) tt te ρ=some ((ds.filter p).map h):=by
 simp?[ao,hfi,zA,f7,List.replicate,xE,xO];rw[k9 (p:=p) (h:=h) λd hd=>⟨_,Ng _ d,hp d hd,hh d hd⟩,zA,cu (by rw[zD];exact yC (xP _ _) hl)]
def wk(h:gu b k d)(hb:b<=100)(n:Int):fX [d,.int n]=some (.bool (gW n d)):=by
 simp! [fX,mR,kT h.nd];cases d<;>try (simp[Kw,gW];done)
 rename_i ls;let⟨j,rfl,hl,hf⟩:=h.of_tup;have c:=cU (cs:=[1]) (fi:=aE (ae 0)) (te:=(ah 2 cQ (aa (ae 0) (aa (ae 1) af)))) (h:=λx=>.bool (whole 0 (n - 1) x)) (ρ:=[some (.tuple ls),some (.int n)]) rfl (by lia) λx hx=>by simp! [iH (hf x hx).nd]
 simp! [Kw,xY,yN,c,gE];cases e:ls.all (whole 0 (n - 1)) with
 | false=>simp[gW,e]
 | true =>
  have:=CV e (yC hl hb);simp?[f2,f1,aY,aa,af,zA,zB] at this;simp! [gW,e,xY,yN,jK];simp?[bz,cK,oneOf,zA,dI,zB] at this;simp! [this]
def placeOk(n:Int):D->Bool|.tuple ds=>decide (ds.length=2)&&(whole 0 9 (ds.getD 0 .none)&&gW n (ds.getD 1 .none))|_=>false
def ib(g t:Int):D->Bool|.tuple ds=>decide (ds.length=3)&&(whole 0 (g - 1) (ds.getD 0 .none)&&(whole 0 (t - 1) (ds.getD 1 .none)&&whole 1 9 (ds.getD 2 .none)))|_=>false
def oq(n:Nat)(ds:List D):long (n:Int) (n:Int) (.tuple ds)=decide (ds.length=n):=by
 simp?[long];by_cases h:ds.length=n
 ·simp[h]
 ·rw[zY h,Bool.and_eq_false_iff,xA,xA];lia
def getD_mem{ds:List D}{i:Nat}(h:i < ds.length):ds.getD i .none∈ds:=by simp[List.getD,h]
def uQ{b:Nat}(h:gu b k d)(hb:b<=100)(n:Int):e9 [d,.int n]=some (.bool (placeOk n d)):=by
 simp! [e9,u4,dw h.nd];cases d<;>try (simp[long,placeOk];done)
 rename_i ds;let⟨j,rfl,hl,hf⟩:=h.of_tup;rw[show long 2 2 (.tuple ds)=decide (ds.length=2) from oq 2 ds];by_cases e:ds.length=2
 ·have f0:=hf _ (getD_mem (i:=0) (by lia));have f1:=hf _ (getD_mem (i:=1) (by lia));simp! [e,jP,AI (show 0 < ds.length by lia),uW (show 1 < ds.length by lia),d9 f0.nd,wk f1 hb,placeOk];cases whole 0 9 (ds.getD 0 .none)<;>simp
 ·simp[e,placeOk]
def DC{b:Nat}(h:gu b k d)(hb:b<=100)(g t:Int):iY [d,.int g,.int t]=some (.bool (ib g t d)):=by
 simp! [iY,vm,dw h.nd];cases d<;>try (simp[long,ib];done)
 rename_i ds;let⟨j,rfl,hl,hf⟩:=h.of_tup;rw[show long 3 3 (.tuple ds)=decide (ds.length=3) from oq 3 ds];by_cases e:ds.length=3
 ·have f0:=hf _ (getD_mem (i:=0) (by lia));have f1:=hf _ (getD_mem (i:=1) (by lia));have f2':=hf _ (getD_mem (i:=2) (by lia));simp! [e,jP,xY,yN,AI (show 0 < ds.length by lia),uW (show 1 < ds.length by lia),JV (show 2 < ds.length by lia),d9 f2'.nd,iH f0.nd,iH f1.nd,ib];cases whole 0 (g - 1) (ds.getD 0 .none)<;>cases whole 0 (t - 1) (ds.getD 1 .none)<;>simp
 ·simp[e,ib]
def cP:D->List D|.tuple ds=>ds|_=>[]
def l7(d:D):Bool:=long 1 4 d
def hZ(g t w:D):Bool:=l7 g&&(l7 t&&((cP g).all (placeOk (cP t).length)&&((cP t).all (placeOk (cP g).length)&&(Kw w&&(cP w).all (ib (cP g).length (cP t).length)))))
def iR(h:long a b d=true):d=.tuple (cP d):=by cases d<;>first|rfl|cases h
def m5(hg:gu b k g)(ht:gu b k t)(hw:gu b k w)(hb:b<=100):gc [g,t,w]=some (.bool (hZ g t w)):=by
 simp! [gc,m8,dw hg.nd,dw ht.nd,kT hw.nd];unfold hZ l7;cases e1:long 1 4 g with
 | false=>simp
 | true =>
  cases e2:long 1 4 t with
  | false=>simp
  | true =>
   obtain⟨gs,rfl⟩:∃gs,g=.tuple gs:=⟨_,iR e1⟩
   obtain⟨ts,rfl⟩:∃ts,t=.tuple ts:=⟨_,iR e2⟩
   let⟨j,rfl,hgl,hgf⟩:=hg.of_tup;let⟨j',hj,htl,htf⟩:=ht.of_tup;have c1:=cU (cs:=[1]) (fi:=aE (ae 0)) (te:=(ah 2 e9 (aa (ae 0) (aa (aY bz (aa (ae 1) af)) af)))) (h:=λx=>.bool (placeOk ts.length x)) (ρ:=[some (.tuple gs),some (.tuple ts),some w]) rfl (by lia) λx hx=>by simp! [uQ (hgf x hx) hb]
   have c2:=cU (cs:=[0]) (fi:=aE (ae 1)) (te:=(ah 2 e9 (aa (ae 0) (aa (aY bz (aa (ae 1) af)) af)))) (h:=λx=>.bool (placeOk gs.length x)) (ρ:=[some (.tuple gs),some (.tuple ts),some w]) rfl (by lia) λx hx=>by simp! [uQ (htf x hx) hb]
   simp! [xY,yN,c1,gE,cP,jK];cases e3:gs.all (placeOk ts.length) with
   | false=>simp
   | true =>
    simp! [xY,yN,c2,gE,jK];cases e4:ts.all (placeOk gs.length) with
    | false=>simp
    | true =>
     cases hT:Kw w with
     | false=>simp! [xY,yN,kT hw.nd,hT,vM,kM]
     | true =>
     obtain⟨ws,rfl⟩:∃ws,w=.tuple ws:=by cases w<;>first|exact⟨_,rfl⟩|cases hT
     let⟨j2,hj2,hwl,hwf⟩:=hw.of_tup;have c3:=cU (cs:=[0,1]) (fi:=aE (ae 2)) (te:=(ah 3 iY (aa (ae 0) (aa (aY bz (aa (ae 1) af)) (aa (aY bz (aa (ae 2) af)) af))))) (h:=λx=>.bool (ib gs.length ts.length x)) (ρ:=[some (.tuple gs),some (.tuple ts),some (.tuple ws)]) rfl (by lia) λx hx=>by simp! [DC (hwf x hx) hb]
     simp! [xY,yN,c3,gE,jK,kT hw.nd,Kw]
def pH:∀ (a b:List Int),PyData.eqvAll (a.map PyData.int) (b.map PyData.int)=decide (a=b)
 | [],[]=>by simp[PyData.eqvAll]
 | [],_::_=>by simp[PyData.eqvAll]
 | _::_,[]=>by simp[PyData.eqvAll]
 | i::a,j::b=>by
  rw[zI,zI,PyData.eqvAll,pH a b];by_cases h:i=j
  ·subst h;simp[PyData.eqv]
  ·simp[PyData.eqv,h]
def pL:∀ (a b:List (List Int)),PyData.eqvAll (a.map ak) (b.map ak)=decide (a=b)
 | [],[]=>by simp[PyData.eqvAll]
 | [],_::_=>by simp[PyData.eqvAll]
 | _::_,[]=>by simp[PyData.eqvAll]
 | x::a,y::b=>by
  rw[zI,zI,PyData.eqvAll,pL a b,ak,ak,PyData.eqv,pH];by_cases h:x=y
  ·subst h;simp
  ·simp[h]
def jb(i:Int):gu b k (.int i):=.leaf trivial
def Ak(h:r.length<=b):gu b (k+1) (ak r):=.tup (by rw[zD];exact h) λx hx=>by
 let⟨i,_,rfl⟩:=List.mem_map.mp hx;exact jb i
def FN{b k:Nat}{a:List (List Int)}(h:a.length<=b)(hr:∀r∈a,r.length<=b):gu b (k+2) (.list (a.map ak)):=.lst (by rw[zD];exact h) λx hx=>by
 let⟨r,hr',rfl⟩:=List.mem_map.mp hx;exact Ak (hr r hr')
def B3(a:List (List Int)):∃b,a.length<=b/\∀r∈a,r.length<=b:=by
 induction a with
 | nil=>exact⟨0,yL _,λr h=>by cases h⟩
 | cons x a ih =>
  let⟨b,h1,h2⟩:=ih;refine⟨b+1+x.length,by rw[zL];lia,λr hr=>?_⟩;rcases List.mem_cons.mp hr with rfl|hr
  ·lia
  ·have:=h2 r hr;lia
def mP(a:List (List Int)):SeqAt.shaped (.list (a.map ak))=true:=by
 let⟨b,h1,h2⟩:=B3 a;exact (FN (b:=b) (k:=0) h1 h2).shaped (by decide)
def Cn(a b:List (List Int)):aW (.list (a.map ak)) (.list (b.map ak))=some (.bool (decide (a=b))):=by
 simp?[aW,GH,mP,jO,xG,PyData.eqv,pL,zB]
def iU(d:D):List Int:=(cP ((cP d).getD 1 .none)).map kr
def hU(h:placeOk n d=true):∃a ds,d=.tuple ds/\ds.length=2/\ds.getD 0 .none=.int a/\0<=a/\a<=9/\ds.getD 1 .none=.tuple ((iU d).map PyData.int)/\(iU d).Nodup/\∀j∈iU d,0<=j/\j<=n - 1:=by
 cases d<;>simp?[placeOk] at h<;>try cases h
 rename_i ds;simp?[zF,zJ] at h;let⟨h1,h2,h3⟩:=h;have e:iU (.tuple ds)=(cP (ds.getD 1 .none)).map kr:=rfl;rw[e];generalize hl:ds.getD 1 .none=l at h3;cases l<;>simp?[gW] at h3<;>try cases h3
 rename_i ls;simp?[zF,zJ] at h3;let⟨w1,w2,w3⟩:=eW h2;refine⟨_,ds,rfl,h1,w1,w2,w3,?_,h3.2,λj hj=>?_⟩
 ·rw[show cP (.tuple ls)=ls from rfl,<- kl h3.1];exact hl
 ·let⟨x,hx,rfl⟩:=List.mem_map.mp hj;exact (eW (List.all_eq_true.mp h3.1 x hx)).2
def k7(k:Nat):List D->List (List Int)|[]=>[]|p::ps=>(iU p).map (λj=>[((k:Nat):Int),j])++k7 (k+1) ps
def oQ:∀ (n:Nat) {l:List Int},l.Nodup->(∀j∈l,0<=j/\j<=(n:Int) - 1)->l.length<=n:=by
 intro n l hn h;have hs:l.map Int.toNat ⊆ List.range n:=λx hx=>by
  let⟨j,hj,rfl⟩:=List.mem_map.mp hx;have:=h j hj;exact List.mem_range.mpr (by lia)
 have hnd:(l.map Int.toNat).Nodup:=by
  refine List.pairwise_map.mpr (hn.imp_of_mem λ{x y} hx hy hne e=>hne ?_);have:=h x hx;have:=h y hy;lia
 have:=List.Nodup.length_le_of_subset hnd hs;simpa using this
def tj{n:Nat}:∀ {ps:List D}{k:Nat},(∀p∈ps,placeOk n p=true)->(k7 k ps).length<=ps.length * n
 | [],k,_=>xV _
 | p::ps,k,h=>by
  let⟨_,_,_,_,_,_,_,_,hn,hr⟩:=hU (h p zE);have h1:=oQ n hn hr;have h2:=tj (ps:=ps) (k:=k+1) λq hq=>h q (zC _ hq);rw[k7,zN,zD,zL,Nat.succ_mul];lia
def pB:au->Option Out:=BM 1 [2,3] (ao 1 [2] (aE (f2 bf (ae 3) (fC (.int 1)))) (fG 0) (λ_=>some true) (ay (aa (ae 1) (aa (ae 0) af))))
def LS{n:Nat}{p:D}{acc:List D}(hp:placeOk n p=true)(hn:n<=100)(ha:acc.length<=1000):pB [.val x,.own acc,.val (.int (k:Nat)),.val p]=some (.nx [.val x,.own (acc++((iU p).map λj=>ak [((k:Nat):Int),j])),.val (.int (k:Nat)),.val p]):=by
 let⟨a,ds,rfl,hl,_,_,_,h1,hnd,hr⟩:=hU hp;have hb:=oQ n hnd hr;generalize iU (.tuple ds)=ls at *;have c:=cU (cs:=[2]) (fi:=aE (f2 bf (ae 3) (fC (.int 1)))) (te:=ay (aa (ae 1) (aa (ae 0) af))) (h:=λy=>.tuple [.int (k:Nat),y]) (ρ:=[some x,none,some (.int (k:Nat)),some (.tuple ds)]) (ds:=ls.map PyData.int)
  (by simp! [uW (show 1 < ds.length by lia),h1]) (by rw[zD];lia) λy hy=>by
   simp! [cu (show [PyData.int (k:Nat),y].length<=4000 by simp)]
 have hh:hand [2,3] 0 [Slot.val x,.own acc,.val (.int (k:Nat)),.val (.tuple ds)]=[Slot.val x,.own acc,.val (.int (k:Nat)),.val (.tuple ds)]:=rfl;simp?[pB,BM,hh,cc,zI,yT,Slot.frz,c,zA,qk,yX,xQ];rw[yK]
 ·simp?[zB,yV,yU,zM];rfl
 ·simp?[zD];exact yC (show acc.length+ls.length<=1100 by lia) (by decide)
def se{n:Nat}(hn:n<=100):∀ {ps:List D}{k:Nat}{acc:List D}{s2 s3:Slot},(∀p∈ps,placeOk n p=true)->acc.length+ps.length * n<=1000 ->
  ∃t2 t3,eH (eQ 2 3) pB (bT k ps) [.val x,.own acc,s2,s3]=some (.nx [.val x,.own (acc++(k7 k ps).map ak),t2,t3])
 | [],k,acc,s2,s3,_,_=>⟨s2,s3,by simp[bT,eH,k7]⟩
 | p::ps,k,acc,s2,s3,h,hl=>by
  have hp:=h p zE;let⟨_,_,_,_,_,_,_,_,hnd,hr⟩:=hU hp;have hb:=oQ n hnd hr;rw[zL,Nat.succ_mul] at hl;let⟨t2,t3,e⟩:=se hn (x:=x) (ps:=ps) (k:=k+1) (acc:=acc++((iU p).map λj=>ak [((k:Nat):Int),j])) (s2:=.val (.int (k:Nat))) (s3:=.val p) (λq hq=>h q (zC _ hq)) (by rw[zN,zD];lia);refine⟨t2,t3,?_⟩;have hs:eQ 2 3 [.val x,.own acc,s2,s3] (.tuple [.int (k:Nat),p])=some [.val x,.own acc,.val (.int (k:Nat)),.val p]:=rfl;simp?[bT,eH,hs,zA,LS hp hn (show acc.length<=1000 by lia)];rw[e];simp[k7,zM,wF]
def Ab{n:Nat}{ps:List D}(h:∀p∈ps,placeOk n p=true)(hn:n<=100)(hl:ps.length * n<=1000):bP [.tuple ps]=some (.list ((k7 0 ps).map ak)):=by
 let⟨t2,t3,e⟩:=se hn (x:=.tuple ps) (k:=0) (acc:=[]) (s2:=.non) (s3:=.non) h (by simpa using hl);have hs:aX 1 [] (bQ af) [Slot.val (.tuple ps),.non,.non,.non]=some (.nx [.val (.tuple ps),.own [],.non,.non]):=rfl;have hh:hand [0] 0 [Slot.val (.tuple ps),.own [],.non,.non]=[Slot.val (.tuple ps),.own [],.non,.non]:=rfl;have hf:bE (aa (ae 0) af) (cc [Slot.val (.tuple ps),.own [],.non,.non])=some (bT 0 ps):=rfl;simp! [bP,j6,hs,dJ,hh,hf];rw[show BM 1 [2,3] (ao 1 [2] (aE (f2 bf (ae 3) (fC (.int 1)))) (fG 0) (λ_=>some true) (ay (aa (ae 1) (aa (ae 0) af))))=pB from rfl,e];simp! []
def eK(d:D):List Int:=[kr ((cP d).getD 0 .none),kr ((cP d).getD 1 .none)]
def yk(h:ib g t d=true):∃ds c,d=.tuple ds/\ds.length=3/\ds.getD 0 .none=.int (kr (ds.getD 0 .none))/\ds.getD 1 .none=.int (kr (ds.getD 1 .none))/\ds.getD 2 .none=.int c/\1<=c/\c<=9 /\
  0<=kr (ds.getD 0 .none)/\kr (ds.getD 0 .none)<=g - 1/\0<=kr (ds.getD 1 .none)/\kr (ds.getD 1 .none)<=t - 1:=by
 cases d<;>simp?[ib] at h<;>try cases h
 rename_i ds;simp?[zF,zJ] at h;let⟨h1,h2,h3,h4⟩:=h;have a:=eW h2;have b:=eW h3;have c:=eW h4;exact⟨ds,_,rfl,h1,a.1,b.1,c.1,c.2.1,c.2.2,a.2.1,a.2.2,b.2.1,b.2.2⟩
def w4(g t w:D):Bool:=decide ((cP w).map eK=pP (k7 0 (cP g)))&&decide ((cP w).map eK=pP ((k7 0 (cP t)).map List.reverse))
def OA(d:D):Bool:=long 3 3 d&&(hZ ((cP d).getD 0 .none) ((cP d).getD 1 .none) ((cP d).getD 2 .none)&&w4 ((cP d).getD 0 .none) ((cP d).getD 1 .none) ((cP d).getD 2 .none))
def jq:∀ {ps:List D}{k:Nat},∀r∈k7 k ps,∃i j,r=[i,j]
 | [],k,r,h=>by cases h
 | p::ps,k,r,h=>by
  rcases List.mem_append.mp h with h|h
  ·let⟨j,_,rfl⟩:=List.mem_map.mp h;exact⟨_,_,rfl⟩
  ·exact jq r h
def lx(h:∀r∈a,∃i j,r=[i,j])(hl:a.length < 64):fR [.list (a.map ak)]=some ((pP a).map ak):=by
 have:∀ns∈a,ns≠[]:=λns hn=>by let⟨i,j,rfl⟩:=h ns hn;exact List.cons_ne_nil _ _
 simp?[fR,oneOf,zA,nX this,yK hl]
def rm:∀ {a:List (List Int)},(∀r∈a,∃i j,r=[i,j])->bp (iA 0 1) (λ_=>some true) (ay (aa (ae 1) (aa (ae 0) af))) [none,none] (a.map ak)=some ((a.map List.reverse).map ak)
 | [],_=>rfl
 | r::a,h=>by
  let⟨i,j,rfl⟩:=h r zE;have ih:=rm (a:=a) λq hq=>h q (zC _ hq);have e:iA 0 1 [none,none] (ak [i,j])=some [some (.int i),some (.int j)]:=rfl;rw[zI,bp,e,zA,zA,yK rfl,ih];simp! [cu (show [PyData.int j,.int i].length<=4000 by simp)];rfl
def CO{a:List (List Int)}(hfi:fi ρ=some (a.map ak))(hl:a.length<=4000)(h:∀r∈a,∃i j,r=[i,j]):ao 2 [] fi (iA 0 1) (λ_=>some true) (ay (aa (ae 1) (aa (ae 0) af))) ρ=some ((a.map List.reverse).map ak):=by
 simp?[ao,hfi,zA,f7,List.replicate,xE,xO,yT];rw[rm h,zA,cu (by rw[zD,zD];exact hl)]
def wo(h:hZ g t w=true):∃gs ts ws,g=.tuple gs/\t=.tuple ts/\w=.tuple ws/\1<=gs.length/\gs.length<=4/\1<=ts.length/\ts.length<=4/\(∀p∈gs,placeOk ts.length p=true)/\(∀p∈ts,placeOk gs.length p=true)/\∀x∈ws,ib gs.length ts.length x=true:=by
 simp?[hZ,l7,zF] at h;let⟨h1,h2,h3,h4,h5,h6⟩:=h;cases w<;>try cases h5
 rename_i ws;have e1:=iR h1;have e2:=iR h2;generalize cP g=gs at *;generalize cP t=ts at *;subst e1 e2;simp?[long,zF,zJ] at h1 h2;exact⟨gs,ts,ws,rfl,rfl,rfl,by lia,by lia,by lia,by lia,List.all_eq_true.mp h3,List.all_eq_true.mp h4,List.all_eq_true.mp h6⟩
def kj{b:Nat}(h:gu b k d)(hb:b<=100):bg [d]=some (.bool (OA d)):=by
 unfold OA;cases e1:long 3 3 d with
 | false=>simp! [bg,hV,dw h.nd,e1,Bool.not_false,vM]
 | true =>
  obtain⟨ds,rfl⟩:∃ds,d=.tuple ds:=⟨_,iR e1⟩
  let⟨j,rfl,hl,hf⟩:=h.of_tup;rw[show long 3 3 (.tuple ds)=decide (ds.length=3) from oq 3 ds,zJ] at e1;have f0:=hf _ (getD_mem (i:=0) (by lia));have f1:=hf _ (getD_mem (i:=1) (by lia));have f2':=hf _ (getD_mem (i:=2) (by lia));have i0:=AI (show 0 < ds.length by lia);have i1:=uW (show 1 < ds.length by lia);have i2:=JV (show 2 < ds.length by lia);have el:bV [.tuple ds,.int 3,.int 3]=some (.bool true):=by rw[dw rfl,show long 3 3 (.tuple ds)=decide (ds.length=3) from oq 3 ds,zZ e1]
  rw[show cP (.tuple ds)=ds from rfl,jK];generalize hg:ds.getD 0 .none=g at *;generalize ht:ds.getD 1 .none=t at *;generalize hw:ds.getD 2 .none=w at *;cases e2:hZ g t w with
  | false=>simp! [bg,hV,el,i0,i1,i2,m5 f0 f1 f2' hb,e2,Bool.not_false,xY,vM]
  | true =>
   let⟨gs,ts,ws,rfl,rfl,rfl,g1,g4,t1,t4,hG,hT,hW⟩:=wo e2;have hfw:=f2'.of_tup;let⟨j2,_,hwl,_⟩:=hfw;have q1:=tj (k:=0) hG;have q2:=tj (k:=0) hT;have m1:gs.length * ts.length<=16:=vL g4 t4;have m2:ts.length * gs.length<=16:=vL t4 g4;have l1:=Ab hG (by lia) (by lia);have l2:=Ab hT (by lia) (by lia);have s1:=lx (a:=k7 0 gs) jq (by lia);have s2:=lx (a:=(k7 0 ts).map List.reverse) (λr hr=>by
    let⟨q,hq,rfl⟩:=List.mem_map.mp hr;let⟨i,j,rfl⟩:=jq q hq;exact⟨j,i,rfl⟩) (by rw[zD];lia)
   have c1:ao 1 [] (aE (f2 bf (ae 0) (fC (.int 2)))) (fG 0) (λ_=>some true) (ay (aa (f2 bf (ae 0) (fC (.int 0))) (aa (f2 bf (ae 0) (fC (.int 1))) af))) [some (.tuple ds),none,none,none]=some ((ws.map eK).map ak):=by
    rw[cU (ds:=ws) (h:=λx=>ak (eK x)) (by simp! [i2]) (by lia) λx hx=>?_,zM]
    ·rfl
    ·let⟨vs,c,rfl,v3,v0,v1,_⟩:=yk (hW x hx);simp! [AI (show 0 < vs.length by lia),uW (show 1 < vs.length by lia),cu (show [vs.getD 0 PyData.none,vs.getD 1 .none].length<=4000 by simp),ak,eK,cP];rw[<- v0,<- v1]
   have c2:∀x y z,ao 2 [] (aE (ah 1 bP (aa (f2 bf (ae 0) (fC (.int 1))) af))) (iA 0 1) (λ_=>some true) (ay (aa (ae 1) (aa (ae 0) af))) [some (.tuple ds),x,y,z]=some (((k7 0 ts).map List.reverse).map ak):=λx y z =>
    CO (by simp! [i1,l2]) (by lia) jq
   have st1:aX 1 [0] (ao 1 [] (aE (f2 bf (ae 0) (fC (.int 2)))) (fG 0) (λ_=>some true) (ay (aa (f2 bf (ae 0) (fC (.int 0))) (aa (f2 bf (ae 0) (fC (.int 1))) af)))) [Slot.val (.tuple ds),.non,.non,.non]=some (.nx [.val (.tuple ds),.own ((ws.map eK).map ak),.non,.non]):=by
    have hh:hand [0] 0 [Slot.val (.tuple ds),.non,.non,.non]=[Slot.val (.tuple ds),.non,.non,.non]:=rfl;simp?[aX,hh,cc,zI,yT,Slot.frz,c1,zB,yV,yU]
   have st2:aX 2 [0] (jx fR (aa (ah 1 bP (aa (f2 bf (ae 0) (fC (.int 0))) af)) af)) [Slot.val (.tuple ds),.own ((ws.map eK).map ak),.non,.non]=some (.nx [.val (.tuple ds),.own ((ws.map eK).map ak),.own ((pP (k7 0 gs)).map ak),.non]):=by
    have hh:hand [0] 0 [Slot.val (.tuple ds),.own ((ws.map eK).map ak),.non,.non]=[Slot.val (.tuple ds),.own ((ws.map eK).map ak),.non,.non]:=rfl;simp?[aX,hh,cc,zI,yT,Slot.frz];simp! [i0,l1,s1,yV,yU]
   have st3:aX 3 [0] (jx fR (aa (ba (ao 2 [] (aE (ah 1 bP (aa (f2 bf (ae 0) (fC (.int 1))) af))) (iA 0 1) (λ_=>some true) (ay (aa (ae 1) (aa (ae 0) af))))) af)) [Slot.val (.tuple ds),.own ((ws.map eK).map ak),.own ((pP (k7 0 gs)).map ak),.non]
      =some (.nx [.val (.tuple ds),.own ((ws.map eK).map ak),.own ((pP (k7 0 gs)).map ak),.own ((pP ((k7 0 ts).map List.reverse)).map ak)]):=by
    have hh:hand [0] 0 [Slot.val (.tuple ds),.own ((ws.map eK).map ak),.own ((pP (k7 0 gs)).map ak),.non]=[Slot.val (.tuple ds),.own ((ws.map eK).map ak),.own ((pP (k7 0 gs)).map ak),.non]:=rfl;simp?[aX,hh,cc,zI,yT,Slot.frz];simp! [c2,s2,yV,yU]
   simp! [bg,hV,el,i0,i1,i2,m5 f0 f1 f2' hb,e2,xY,yN,st1,st2,st3,Cn,w4,cP,jK];by_cases hq:List.map eK ws=pP (k7 0 gs)<;>simp[hq]
def kz(xs:List D):PyData.eqvAll xs []=xs.isEmpty:=by cases xs<;>simp[PyData.eqvAll]
def zl:SeqAt.shaped (.list [])=true:=by simp[SeqAt.shaped,PyData.canLay0,PyData.canLayAll0,PyData.depth,PyData.depthAll]
def E5(h:∀x∈xs,gu b k x)(hk:k<=60):aW (.list xs) (.list [])=some (.bool xs.isEmpty):=by
 have hs:SeqAt.shaped (.list xs)=true:=(gu.lst (b:=max b xs.length) (k:=k) (Nat.le_max_right _ _) λx hx=>(h x hx).mono (Nat.le_max_left _ _) (yL _)).shaped (by lia);simp?[aW,GH,hs,zl,jO,xG,PyData.eqv,kz,zB]
def gO:small []=some []:=rfl
def fZ(b:Bool):gB (.bool b)=some b:=rfl
def zf(a b:D):small [a,b]=some [a,b]:=rfl
def lE:∀ (ρ:au) (k:Nat),hand [] k ρ=ρ
 | [],k=>rfl
 | s::r,k=>by simp[hand,lE r]
def nW:∀ {ps:List D}{k:Nat}{i j:Int},[i,j]∈k7 k ps↔∃m p,ps[m]?=some p/\i=((k+m:Nat):Int)/\j∈iU p
 | [],k,i,j=>by simp[k7]
 | p::ps,k,i,j=>by
  rw[k7,List.mem_append,nW (ps:=ps)];constructor
  ·rintro (h|⟨m,q,h1,h2,h3⟩)
   ·let⟨y,hy,e⟩:=List.mem_map.mp h;injection e with e1 e2
    injection e2 with e2 _
    exact⟨0,p,rfl,by simpa using e1.symm,e2 ▸ hy⟩
   ·exact⟨m+1,q,by simpa using h1,by rw[h2];congr 1;lia,h3⟩
  ·rintro⟨m,q,h1,h2,h3⟩;cases m with
   | zero =>
    simp at h1;subst h1;exact .inl (List.mem_map.mpr ⟨j,h3,by rw[h2];rfl⟩)
   | succ m=>exact .inr ⟨m,q,by simpa using h1,by rw[h2];congr 1;lia,h3⟩
def rf:∀ {ps:List D}{k:Nat},(∀p∈ps,(iU p).Nodup)->(k7 k ps).Nodup
 | [],k,_=>List.nodup_nil
 | p::ps,k,h=>by
  rw[k7,List.nodup_append];refine⟨List.pairwise_map.mpr ((h p zE).imp λhne e=>hne ?_),rf λq hq=>h q (zC _ hq),?_⟩;rotate_left
  ·injection e with _ e2
   injection e2
  ·rintro a ha b hb rfl;let⟨y,hy,rfl⟩:=List.mem_map.mp ha;let⟨m,q,h1,h2,h3⟩:=nW.mp hb;lia
def NX(h:Dl.lexLt a b=true):lexLe a b=true:=by
 unfold lexLe;cases e:Dl.lexLt b a with
 | false=>rfl
 | true=>have:=dZ h e;rw[fy] at this;cases this
def dc(h:nF i j):Dl.bS (.int i) (.int j)=some (.int (i * j)):=by
 simp?[Dl.bS,sf,yK h,Option.some_or]
def gJ(h:0 < j):Dl.iL (.int i) (.int j)=some (.int (i % j)):=yK h
def iI(h:0 < j/\j < 1073741824):Dl.j9 (.int i) (.int j)=some (.int (i / j)):=yK h
def gf(i j:Int):Dl.uu (.int i) (.int j)=some (.bool (decide (j < i))):=rfl
def tM(i j:Int):Dl.JY (.int i) (.int j)=some (.bool (decide (i < j))):=rfl
def ka(h:-(2 ^ 64) < i/\i < 2 ^ 64):nF i j:=.inl h
def LK(h:-(2 ^ 64) < j/\j < 2 ^ 64):nF i j:=.inr h
def v9(i:Int):Dl.kq (.int i)=true:=rfl
def wq(i:List D):Dl.kq (.tuple i)=false:=rfl
def bY(ns:List Int):D:=.list (ns.map PyData.int)
def MC(k:Int)(hl:ns.length<=63):∃c,eu [bY ns,.int k]=some (.int c):=by
 have heq:aW (.list (ns.map PyData.int)) (.list [])=some (.bool ns.isEmpty):=by
  have:=E5 (b:=0) (k:=0) (xs:=ns.map PyData.int) (λx hx=>by let⟨i,_,rfl⟩:=List.mem_map.mp hx;exact jb i) (by decide);rw[this];cases ns<;>rfl
 by_cases hn:ns=[]
 ·subst hn;refine⟨7 * k,?_⟩;rw[yT,List.isEmpty_nil] at heq;simp! [eu,iJ,bY,gO,heq,List.isEmpty_nil,dc (ka (i:=7) (j:=k) (by decide))]
 ·have hpos:(0:Int) < (ns.length:Int):=by have:=List.length_pos_iff.mpr hn;lia
  have he:ns.isEmpty=false:=by cases ns<;>first|rfl|exact absurd rfl hn
  let⟨j,hj⟩:=kY (vH k (show (ns.length:Int)≠0 by lia));have hlt:=kO k hpos;have hx:md (ns.map PyData.int) (k % (ns.length:Int))=some (.int (ns.getD j 0)):=by
   rw[hj];have:j < (ns.map PyData.int).length:=by rw[zD];lia
   rw[ll this,zG,zO,zG];rw[zK (by lia)];rfl
  refine⟨ns.getD j 0+6553 * (k / (ns.length:Int)),?_⟩;simp! [eu,iJ,bY,gO,heq,he,yN,zD,gJ hpos,hx,iI (i:=k) (j:=(ns.length:Int)) ⟨hpos,by lia⟩,dc (ka (i:=6553) (j:=k / (ns.length:Int)) (by decide))]
def He(k many:Int)(hl:ns.length<=63)(hm:0 < many):∃r,ai [bY ns,.int k,.int many]=some (.int r)/\0<=r/\r < many:=by
 let⟨c,hc⟩:=MC k hl;have m1:∀i:Int,Dl.iL (.int i) (.int 2147483563)=some (.int (i % 2147483563)):=λi=>gJ (by decide);have m2:∀i:Int,Dl.iL (.int i) (.int 2147483399)=some (.int (i % 2147483399)):=λi=>gJ (by decide);have m3:∀i:Int,Dl.iL (.int i) (.int 2147483647)=some (.int (i % 2147483647)):=λi=>gJ (by decide);have d1:∀i:Int,Dl.j9 (.int i) (.int 3)=some (.int (i / 3)):=λi=>iI (by decide);have d2:∀i:Int,Dl.j9 (.int i) (.int 7)=some (.int (i / 7)):=λi=>iI (by decide);have d3:∀i:Int,Dl.j9 (.int i) (.int 11)=some (.int (i / 11)):=λi=>iI (by decide);have u1:∀i:Int,Dl.bS (.int i) (.int 69069)=some (.int (i * 69069)):=λi=>dc (LK (by decide));have u2:∀i:Int,Dl.bS (.int 104723) (.int i)=some (.int (104723 * i)):=λi=>dc (ka (by decide));have b1:∀x:Int,Dl.bS (.int (x % 2147483563)) (.int (x % 2147483563))=some (.int (x % 2147483563 * (x % 2147483563))):=λx=>dc (ka (by
  have:=vH x (show (2147483563:Int)≠0 by decide);have:=kO x (show (0:Int) < 2147483563 by decide);lia))
 have b2:∀x:Int,Dl.bS (.int (x % 2147483399)) (.int (x % 2147483399))=some (.int (x % 2147483399 * (x % 2147483399))):=λx=>dc (ka (by
  have:=vH x (show (2147483399:Int)≠0 by decide);have:=kO x (show (0:Int) < 2147483399 by decide);lia))
 suffices h:∃x,ai [bY ns,.int k,.int many]=some (.int (x % many)) by
  let⟨x,hx⟩:=h;exact⟨_,hx,vH x (show many≠0 by lia),kO x hm⟩
 ·refine⟨(((((c % 2147483563 * 69069+104723 * (k+1)) % 2147483563) * ((c % 2147483563 * 69069+104723 * (k+1)) % 2147483563)+((c % 2147483563 * 69069+104723 * (k+1)) % 2147483563) / 3) % 2147483399) * ((((c % 2147483563 * 69069+104723 * (k+1)) % 2147483563) * ((c % 2147483563 * 69069+104723 * (k+1)) % 2147483563)+((c % 2147483563 * 69069+104723 * (k+1)) % 2147483563) / 3) % 2147483399)+((((c % 2147483563 * 69069+104723 * (k+1)) % 2147483563) * ((c % 2147483563 * 69069+104723 * (k+1)) % 2147483563)+((c % 2147483563 * 69069+104723 * (k+1)) % 2147483563) / 3) % 2147483399) / 7) % 2147483647 / 11,?_⟩;simp! [ai,lg,hc,m1,u1,u2,Dl.aO,v9,yV,yU,b1,d1,m2,b2,d2,m3,d3,gJ (j:=many) hm]
def dr(ns:List Int)(k many:Int):Int:=kr ((ai [bY ns,.int k,.int many]).getD .none)
def dm(k many:Int)(hl:ns.length<=63)(hm:0 < many):ai [bY ns,.int k,.int many]=some (.int (dr ns k many))/\0<=dr ns k many/\dr ns k many < many:=by
 let⟨r,h1,h2⟩:=He k many hl hm;have:dr ns k many=r:=by simp?[dr,h1,qG,kr]
 rw[this];exact⟨h1,h2⟩
def rQ(k many:Int)(hl:ns.length<=63)(hm:0 < many):ai [bY ns,.int k,.int many]=some (.int (dr ns k many)):=(dm k many hl hm).1
def Kr(k many:Int)(hl:ns.length<=63)(hm:0 < many):0<=dr ns k many:=(dm k many hl hm).2.1
def Kt(k many:Int)(hl:ns.length<=63)(hm:0 < many):dr ns k many < many:=(dm k many hl hm).2.2
def cw(r:List Int):D:=.list (r.map PyData.int)
def insI(ds:List Int)(k:Int)(d:Int):List Int:=let j:=if k < 0 then (k+(ds.length:Int)).toNat else min k.toNat ds.length;ds.take j++d::ds.drop j
def BU(ds:List Int)(k d:Int):Bh (ds.map PyData.int) k (.int d)=(insI ds k d).map PyData.int:=by
 simp?[Bh,insI,zD,qZ,zI,List.map_take,List.map_drop]
def insI_perm(ds:List Int)(k d:Int):(insI ds k d).Perm (d::ds):=by
 simp?[insI];refine List.perm_middle.trans ?_;rw[List.take_append_drop]
def oB:au->Option Out:=(By 6 [8] (ah 3 ai (aa (ae 0) (aa (f2 az (f2 az (ae 1) (f2 bS (fC (.int 4)) (ae 4))) (ae 7)) (aa (f2 az (aY bz (aa (ae 6) af)) (fC (.int 1))) af)))) (ae 8))
def Lz{s3:Slot}(hl:ns.length<=63)(ho:order.length<=1000) :
  oB [.val (bY ns),.val (.int a),s2,s3,.val (.int k),s5,.own (order.map PyData.int),.val (.int j),.val (.int x)] =
   some (.nx [.val (bY ns),.val (.int a),s2,s3,.val (.int k),s5,.own ((insI order (dr ns (a+4 * k+j) ((order.length:Int)+1)) x).map PyData.int),.val (.int j),.val (.int x)]):=by
 have h4:Dl.bS (.int 4) (.int k)=some (.int (4 * k)):=dc (ka (by decide));have hd:=dm (ns:=ns) (a+4 * k+j) ((order.length:Int)+1) hl (by lia);have hr:uv (dr ns (a+4 * k+j) ((order.length:Int)+1))=true:=by
  simp?[uv,zF,zJ];lia
 have hz:(order.map PyData.int).length < sizeLine:=by rw[zD];exact qY ho (by decide)
 simp! [oB,By,oM,v9,qk,zD,h4,hd.1];rw[zD] at hz;simp?[hr,hz,jO,xG,zB,BU,yV,yU]
def Dw{s3:Slot}(hl:ns.length<=63):∀ {row order:List Int}{j:Nat}{s7 s8:Slot},order.length+row.length<=1000 ->
  ∃ (o:List Int) (t7 t8:Slot),eH (eQ 7 8) oB (bT j (row.map PyData.int)) [.val (bY ns),.val (.int a),s2,s3,.val (.int k),s5,.own (order.map PyData.int),s7,s8] =
   some (.nx [.val (bY ns),.val (.int a),s2,s3,.val (.int k),s5,.own (o.map PyData.int),t7,t8])/\o.Perm (row++order)
 | [],order,j,s7,s8,_=>⟨order,s7,s8,by simp[bT,eH],by simp⟩
 | x::row,order,j,s7,s8,h=>by
  rw[zL] at h;have hp:=insI_perm order (dr ns (a+4 * k+((j:Nat):Int)) ((order.length:Int)+1)) x;have hlen:=hp.length_eq;rw[zL] at hlen;let⟨o,t7,t8,e,p⟩:=Dw (s2:=s2) (s3:=s3) (s5:=s5) (a:=a) (k:=k) hl (row:=row) (order:=insI order (dr ns (a+4 * k+((j:Nat):Int)) ((order.length:Int)+1)) x) (j:=j+1) (s7:=.val (.int (j:Nat))) (s8:=.val (.int x)) (by lia);refine⟨o,t7,t8,?_,p.trans ?_⟩
  ·have hs:eQ 7 8 [.val (bY ns),.val (.int a),s2,s3,.val (.int k),s5,.own (order.map PyData.int),s7,s8] (.tuple [.int (j:Nat),.int x])=some [.val (bY ns),.val (.int a),s2,s3,.val (.int k),s5,.own (order.map PyData.int),.val (.int (j:Nat)),.val (.int x)]:=rfl;simp?[zI,bT,eH,hs,zA,Lz hl (show order.length<=1000 by lia),e]
  ·refine (hp.append_left row).trans ?_;rw[xE];exact List.perm_middle
def pK:List (List Int)->List (List Int)->Prop|[],[]=>True|a::l,b::m=>a.Perm b/\pK l m|_,_=>False
def rB:au->Option Out:=(aw (aX 6 [] (bQ af)) (aw (dJ [5] (bE (aa (ae 5) af)) (eQ 7 8) oB) (nv 3 [6] (aY bx (aa (ae 6) af)))))
def Mv(hl:ns.length<=63)(hr:row.length<=1000)(hf:found.length<=1000) :
  ∃ (o:List Int) (t7 t8:Slot),rB [.val (bY ns),.val (.int a),.val rows,.own found,.val (.int k),.val (cw row),s6,s7,s8]=some (.nx [.val (bY ns),.val (.int a),.val rows,.own (found++[ak o]),.val (.int k),.val (cw row),.val (cw o),t7,t8])/\o.Perm row:=by
 let⟨o,t7,t8,e,p⟩:=Dw (s2:=.val rows) (s3:=.own found) (s5:=.val (cw row)) (a:=a) (k:=k) hl (row:=row) (order:=[]) (j:=0) (s7:=s7) (s8:=s8) (by simpa using hr);rw[qF] at p;refine⟨o,t7,t8,?_,p⟩;have h1:aX 6 [] (bQ af) [.val (bY ns),.val (.int a),.val rows,.own found,.val (.int k),.val (cw row),s6,s7,s8]=some (.nx [.val (bY ns),.val (.int a),.val rows,.own found,.val (.int k),.val (cw row),.own [],s7,s8]):=by
  simp?[aX,lE,bQ,af,zA,gO,zB,yV,yU]
 have h2:dJ [5] (bE (aa (ae 5) af)) (eQ 7 8) oB [.val (bY ns),.val (.int a),.val rows,.own found,.val (.int k),.val (cw row),.own [],s7,s8]=some (.nx [.val (bY ns),.val (.int a),.val rows,.own found,.val (.int k),.val (cw row),.own (o.map PyData.int),t7,t8]):=by
  have hh:hand [5] 0 [Slot.val (bY ns),.val (.int a),.val rows,.own found,.val (.int k),.val (cw row),.own [],s7,s8]=[Slot.val (bY ns),.val (.int a),.val rows,.own found,.val (.int k),.val (cw row),.own [],s7,s8]:=rfl;have hq:bE (aa (ae 5) af) (cc [Slot.val (bY ns),.val (.int a),.val rows,.own found,.val (.int k),.val (cw row),.own [],s7,s8])=some (bT 0 (row.map PyData.int)):=by
   simp?[cc,zI,yT];simp! [bE,cw]
  simp?[dJ,hh,hq,zA];exact e
 have h3:nv 3 [6] (aY bx (aa (ae 6) af)) [.val (bY ns),.val (.int a),.val rows,.own found,.val (.int k),.val (cw row),.own (o.map PyData.int),t7,t8]=some (.nx [.val (bY ns),.val (.int a),.val rows,.own (found++[ak o]),.val (.int k),.val (cw row),.val (cw o),t7,t8]):=by
  have hz:found.length < sizeLine:=qY hf (by decide);have hh:hand [6] 0 [Slot.val (bY ns),.val (.int a),.val rows,.own found,.val (.int k),.val (cw row),.own (o.map PyData.int),t7,t8]=[Slot.val (bY ns),.val (.int a),.val rows,.own found,.val (.int k),.val (cw row),.val (cw o),t7,t8]:=rfl;simp?[nv,oM,hh,cc,zI,yT];simp! [wq,yN,qk,hz,yV,yU,cw,ak]
 simp?[rB,aw,h1,h2,h3,zA]
def DH{rws:D}(hl:ns.length<=63):∀ {rows:List (List Int)}{found:List D}{k:Nat}{s4 s5 s6 s7 s8:Slot},(∀r∈rows,r.length<=1000)->found.length+rows.length<=1000 ->
  ∃ (os:List (List Int)) (t4 t5 t6 t7 t8:Slot),eH (eQ 4 5) rB (bT k (rows.map cw)) [.val (bY ns),.val (.int a),.val rws,.own found,s4,s5,s6,s7,s8]=some (.nx [.val (bY ns),.val (.int a),.val rws,.own (found++os.map ak),t4,t5,t6,t7,t8])/\pK os rows
 | [],found,k,s4,s5,s6,s7,s8,_,_=>⟨[],s4,s5,s6,s7,s8,by simp[bT,eH],trivial⟩
 | r::rows,found,k,s4,s5,s6,s7,s8,h,hf=>by
  rw[zL] at hf;let⟨o,u7,u8,e1,p1⟩:=Mv (rows:=rws) (a:=a) (k:=((k:Nat):Int)) (s6:=s6) (s7:=s7) (s8:=s8) hl (h r zE) (show found.length<=1000 by lia);let⟨os,t4,t5,t6,t7,t8,e,p⟩:=DH hl (rws:=rws) (a:=a) (rows:=rows) (found:=found++[ak o]) (k:=k+1) (s4:=.val (.int (k:Nat))) (s5:=.val (cw r)) (s6:=.val (cw o)) (s7:=u7) (s8:=u8) (λr' hr'=>h r' (zC _ hr')) (by rw[zN,xB];lia);refine⟨o::os,t4,t5,t6,t7,t8,?_,p1,p⟩;have hs:eQ 4 5 [.val (bY ns),.val (.int a),.val rws,.own found,s4,s5,s6,s7,s8] (.tuple [.int (k:Nat),cw r])=some [.val (bY ns),.val (.int a),.val rws,.own found,.val (.int (k:Nat)),.val (cw r),s6,s7,s8]:=rfl;simp?[zI,bT,eH,hs,zA,e1];rw[e,List.append_assoc];rfl
def v8(hl:ns.length<=63)(hr:∀r∈rows,r.length<=1000)(hn:rows.length<=1000):∃os:List (List Int),cG [bY ns,.int a,.list (rows.map cw)]=some (.list (os.map ak))/\pK os rows:=by
 let⟨os,t4,t5,t6,t7,t8,e,p⟩:=DH hl (rws:=.list (rows.map cw)) (a:=a) (rows:=rows) (found:=[]) (k:=0) (s4:=.non) (s5:=.non) (s6:=.non) (s7:=.non) (s8:=.non) hr (by simpa using hn);refine⟨os,?_,p⟩;rw[xO] at e;have h1:aX 3 [] (bQ af) [.val (bY ns),.val (.int a),.val (.list (rows.map cw)),.non,.non,.non,.non,.non,.non]=some (.nx [.val (bY ns),.val (.int a),.val (.list (rows.map cw)),.own [],.non,.non,.non,.non,.non]):=by
  simp?[aX,lE,bQ,af,zA,gO,zB,yV,yU]
 have h2:dJ [2] (bE (aa (ae 2) af)) (eQ 4 5) rB [.val (bY ns),.val (.int a),.val (.list (rows.map cw)),.own [],.non,.non,.non,.non,.non]=some (.nx [.val (bY ns),.val (.int a),.val (.list (rows.map cw)),.own (os.map ak),t4,t5,t6,t7,t8]):=by
  have hh:hand [2] 0 [Slot.val (bY ns),.val (.int a),.val (.list (rows.map cw)),.own [],.non,.non,.non,.non,.non]=[Slot.val (bY ns),.val (.int a),.val (.list (rows.map cw)),.own [],.non,.non,.non,.non,.non]:=rfl;have hq:bE (aa (ae 2) af) (cc [Slot.val (bY ns),.val (.int a),.val (.list (rows.map cw)),.own [],.non,.non,.non,.non,.non])=some (bT 0 (rows.map cw)):=by
   simp?[cc,zI,yT];simp! [bE]
  simp?[dJ,hh,hq,zA];exact e
 unfold rB oB at h2;simp! [cG,j4,h1,h2]
abbrev Pl:=Int×List Int
abbrev Wy:=Int×Int×Int
def bX(p:Pl):D:=.tuple [.int p.1,ak p.2]
def aF(w:Wy):D:=.tuple [.int w.1,.int w.2.1,.int w.2.2]
def bj(G T:List Pl)(W:List Wy):D:=.tuple [.tuple (G.map bX),.tuple (T.map bX),.tuple (W.map aF)]
def AF(W:List Wy)(i:Int):List Int:=(W.filter λw=>decide (w.1=i)).map λw=>w.2.1
def ofT(W:List Wy)(j:Int):List Int:=(W.filter λw=>decide (w.2.1=j)).map λw=>w.1
abbrev JS(W:List Wy):Prop:=W.Pairwise λa b=>a.1 < b.1\/(a.1=b.1/\a.2.1 < b.2.1)
structure Wd(G T:List Pl)(W:List Wy):Prop where
 g1:1<=G.length
 g4:G.length<=4
 t1:1<=T.length
 t4:T.length<=4
 ga:∀p∈G,0<=p.1/\p.1<=9
 ta:∀p∈T,0<=p.1/\p.1<=9
 gl:∀ (i:Nat) (p:Pl),G[i]?=some p->p.2.Perm (AF W i)
 tl:∀ (j:Nat) (p:Pl),T[j]?=some p->p.2.Perm (ofT W j)
 wr:∀w∈W,(0<=w.1/\w.1 < G.length)/\(0<=w.2.1/\w.2.1 < T.length)/\1<=w.2.2/\w.2.2<=9
 wp:JS W
 wl:W.length<=16
def tw:j∈AF W i↔[i,j]∈W.map λw=>[w.1,w.2.1]:=by
 simp?[AF,List.mem_map,List.mem_filter,zJ,kK,and_true];constructor
 ·rintro⟨w,⟨h1,h2⟩,h3⟩;exact⟨w,h1,h2,h3⟩
 ·rintro⟨w,h1,h2,h3⟩;exact⟨w,⟨h1,h2⟩,h3⟩
def tK:i∈ofT W j↔[i,j]∈W.map λw=>[w.1,w.2.1]:=by
 simp?[ofT,List.mem_map,List.mem_filter,zJ,kK,and_true];constructor
 ·rintro⟨w,⟨h1,h2⟩,h3⟩;exact⟨w,h1,h3,h2⟩
 ·rintro⟨w,h1,h2,h3⟩;exact⟨w,⟨h1,h3⟩,h2⟩
def qm(h:JS W)(i:Int):(AF W i).Nodup:=by
 unfold AF List.Nodup;rw[jD,List.pairwise_filter];refine h.imp λhab ha hb=>?_;rw[zJ] at ha hb;lia
def rY(h:JS W)(i:Int):(ofT W i).Nodup:=by
 unfold ofT List.Nodup;rw[jD,List.pairwise_filter];refine h.imp λhab ha hb=>?_;rw[zJ] at ha hb;lia
def eV(p:Pl):iU (bX p)=p.2:=by
 show ((p.2.map PyData.int).map kr)=p.2;rw[zM];exact List.map_id _
def mQ(ha:0<=p.1/\p.1<=9)(hn:p.2.Nodup)(hr:∀j∈p.2,0<=j/\j < n):placeOk n (bX p)=true:=by
 have e:(p.2.map PyData.int).map kr=p.2:=eV p;have e2:(p.2.map PyData.int).all (whole 0 (n - 1))=true:=by
  rw[xF];intro x hx;let⟨j,hj,rfl⟩:=List.mem_map.mp hx;have:=hr j hj;simp?[whole,zF,zJ];lia
 simp?[placeOk,bX,ak,zL,xJ,vP,vQ,gW,whole,e,e2,ha.1,ha.2,hn,jP,Bool.and_self]
def BO(h:(0<=w.1/\w.1 < g)/\(0<=w.2.1/\w.2.1 < t)/\1<=w.2.2/\w.2.2<=9):ib g t (aF w)=true:=by
 let⟨⟨a,b⟩,⟨c,d⟩,e,f⟩:=h;have b':w.1<=g - 1:=by lia
 have d':w.2.1<=t - 1:=by lia
 simp?[ib,aF,zL,xJ,vP,vQ,whole,a,b',c,d',e,f,jP,Bool.and_self]
def Qg(h:a < c\/(a=c/\b < d)):Dl.lexLt [a,b] [c,d]=true:=by
 show HT.lexLt [a,b] [c,d]=true;rw[HT.dk];by_cases e:a=c
 ·rw[yK e,HT.dk,yM (by lia)];simp?[zJ];lia
 ·rw[yM e];simp?[zJ];lia
def Wd.glike(h:Wd G T W)(hp:p∈G):∃i:Nat,i < G.length/\p.2.Perm (AF W i):=by
 let⟨i,hi,e⟩:=qQ hp;exact⟨i,hi,h.gl i p (by rw[zK hi,e])⟩
def Wd.tlike(h:Wd G T W)(hp:p∈T):∃i:Nat,i < T.length/\p.2.Perm (ofT W i):=by
 let⟨i,hi,e⟩:=qQ hp;exact⟨i,hi,h.tl i p (by rw[zK hi,e])⟩
def Wd.gok(h:Wd G T W):(G.map bX).all (placeOk T.length)=true:=by
 rw[xF];intro x hx;let⟨p,hp,rfl⟩:=List.mem_map.mp hx;let⟨i,hi,q⟩:=h.glike hp;refine mQ (h.ga p hp) (q.nodup_iff.mpr (qm h.wp _)) λj hj=>?_;let⟨w,hw,e⟩:=List.mem_map.mp (tw.mp (q.mem_iff.mp hj));injection e with e1 e2
 injection e2 with e2 _
 have:=(h.wr w hw).2.1;rw[e2] at this;exact this
def Wd.tok(h:Wd G T W):(T.map bX).all (placeOk G.length)=true:=by
 rw[xF];intro x hx;let⟨p,hp,rfl⟩:=List.mem_map.mp hx;let⟨i,hi,q⟩:=h.tlike hp;refine mQ (h.ta p hp) (q.nodup_iff.mpr (rY h.wp _)) λj hj=>?_;let⟨w,hw,e⟩:=List.mem_map.mp (tK.mp (q.mem_iff.mp hj));injection e with e1 e2
 have:=(h.wr w hw).1;rw[e1] at this;exact this
def oz{W:List Wy}{p:Wy->Bool}(h:W.length<=16):(W.filter p).length<=16:=yC (xP _ _) h
def Aj(h:p.2.length<=16):gu 16 2 (bX p):=.tup (by simp?[zL,xJ];lia) λx hx=>by
 rcases List.mem_cons.mp hx with rfl|hx
 ·exact jb _
 ·rw[yI] at hx;subst hx;exact Ak h
def Io(w:Wy):gu 16 1 (aF w):=.tup (by simp?[zL,xJ];lia) λx hx=>by
 simp?[zQ,yE,xU] at hx;rcases hx with rfl|rfl|rfl<;>exact jb _
def Wd.fit(h:Wd G T W):gu 16 4 (bj G T W):=by
 refine .tup (by simp?[zL,xJ];lia) λx hx=>?_;simp?[zQ,yE,xU] at hx;have h4:=h.g4;have h5:=h.t4;have h6:=h.wl;rcases hx with rfl|rfl|rfl
 ·refine .tup (by rw[zD];lia) λx hx=>?_;let⟨p,hp,rfl⟩:=List.mem_map.mp hx;let⟨i,hi,q⟩:=h.glike hp;exact Aj (by rw[q.length_eq,AF,zD];exact oz h.wl)
 ·refine .tup (by rw[zD];lia) λx hx=>?_;let⟨p,hp,rfl⟩:=List.mem_map.mp hx;let⟨i,hi,q⟩:=h.tlike hp;exact Aj (by rw[q.length_eq,ofT,zD];exact oz h.wl)
 ·refine .tup (by rw[zD];lia) λx hx=>?_;let⟨p,hp,rfl⟩:=List.mem_map.mp hx;exact (Io p).mono (yL _) (by decide)
def BJ(h0:0<=c)(h9:c<=9):Wd [(c,[0,1]),(c,[1,0])] [(c,[1,0]),(c,[0,1])] [(0,0,2),(0,1,2),(1,0,2),(1,1,2)] where
 g1:=by simp?[zL,xJ];lia
 g4:=by simp?[zL,xJ];lia
 t1:=by simp?[zL,xJ];lia
 t4:=by simp?[zL,xJ];lia
 ga:=by intro p hp;simp?[zQ,yE,xU] at hp;rcases hp with rfl|rfl<;>exact⟨h0,h9⟩
 ta:=by intro p hp;simp?[zQ,yE,xU] at hp;rcases hp with rfl|rfl<;>exact⟨h0,h9⟩
 gl:=by
  intro i p hp
  match i,hp with
  | 0,hp=>injection hp with hp;subst hp;exact (show List.Perm ([0,1]:List Int) (AF [(0,0,2),(0,1,2),(1,0,2),(1,1,2)] ((0:Nat):Int)) by decide)
  | 1,hp=>injection hp with hp;subst hp;exact (show List.Perm ([1,0]:List Int) (AF [(0,0,2),(0,1,2),(1,0,2),(1,1,2)] ((1:Nat):Int)) by decide)
 tl:=by
  intro i p hp
  match i,hp with
  | 0,hp=>injection hp with hp;subst hp;exact (show List.Perm ([1,0]:List Int) (ofT [(0,0,2),(0,1,2),(1,0,2),(1,1,2)] ((0:Nat):Int)) by decide)
  | 1,hp=>injection hp with hp;subst hp;exact (show List.Perm ([0,1]:List Int) (ofT [(0,0,2),(0,1,2),(1,0,2),(1,1,2)] ((1:Nat):Int)) by decide)
 wr:=show ∀w∈([(0,0,2),(0,1,2),(1,0,2),(1,1,2)]:List Wy),(0<=w.1/\w.1 < ((2:Nat):Int))/\(0<=w.2.1/\w.2.1 < ((2:Nat):Int))/\1<=w.2.2/\w.2.2<=9 by decide
 wp:=by decide
 wl:=by decide
def iw(f:Nat->Int):Nat->List (List Int)->List Pl|_,[]=>[]|k,r::rs=>(f k,r)::iw f (k+1) rs
def gN(f:Nat->Int):∀ (rs:List (List Int)) (k:Nat),(iw f k rs).length=rs.length
 | [],k=>rfl
 | r::rs,k=>by rw[iw,zL,zL,gN f rs]
def gw(f:Nat->Int):∀ {rs:List (List Int)}{k i:Nat}{p:Pl},(iw f k rs)[i]?=some p->∃r,rs[i]?=some r/\p=(f (k+i),r)
 | [],k,i,p,h=>by simp[iw] at h
 | r::rs,k,0,p,h=>by simp[iw] at h;exact⟨r,rfl,h.symm⟩
 | r::rs,k,i+1,p,h=>by
  simp?[iw,yX] at h;let⟨y,h1,h2⟩:=gw f h;exact⟨y,by simpa using h1,by rw[h2];congr 2;lia⟩
def dR:∀ {a b:List (List Int)},pK a b->a.length=b.length
 | [],[],_=>rfl
 | x::a,y::b,h=>by rw[zL,zL,dR h.2]
 | [],_::_,h=>h.elim
 | _::_,[],h=>h.elim
def l4:∀ {a b:List (List Int)}{i:Nat}{r:List Int},pK a b->a[i]?=some r->∃s,b[i]?=some s/\r.Perm s
 | [],[],i,r,_,h=>by simp at h
 | x::a,y::b,0,r,h,e=>by
  simp?[xQ,yJ] at e;subst e;exact⟨y,rfl,h.1⟩
 | x::a,y::b,i+1,r,h,e=>by
  simp?[yX] at e;let⟨s,h1,h2⟩:=l4 h.2 e;exact⟨s,by simpa using h1,h2⟩
 | [],_::_,i,r,h,_=>h.elim
 | _::_,[],i,r,h,_=>h.elim
def jz(W:List Wy)(m:Nat):List (List Int):=(List.range m).map λi=>AF W ((i:Nat):Int)
def ig(W:List Wy)(m:Nat):List (List Int):=(List.range m).map λi=>ofT W ((i:Nat):Int)
def HK(m1:1<=m)(m4:m<=4)(s1:1<=s)(s4:s<=4)(hf:∀k,0<=f k/\f k<=9)(hg:∀k,0<=g k/\g k<=9)
  (hm:pK mine (jz W m)) (hy:pK yours (ig W s)) (wr:∀w∈W,(0<=w.1/\w.1 < m)/\(0<=w.2.1/\w.2.1 < s)/\1<=w.2.2/\w.2.2<=9) (wp:JS W) (wl:W.length<=16):Wd (iw f 0 mine) (iw g 0 yours) W:=by
 have lm:(iw f 0 mine).length=m:=by rw[gN,dR hm,jz,zD,zR]
 have ly:(iw g 0 yours).length=s:=by rw[gN,dR hy,ig,zD,zR]
 have am:∀ {h:Nat->Int}{rs:List (List Int)},(∀k,0<=h k/\h k<=9)->∀p∈iw h 0 rs,0<=p.1/\p.1<=9:=λ{h rs} hh p hp=>by
  let⟨i,hi⟩:=List.mem_iff_getElem?.mp hp;let⟨r,_,rfl⟩:=gw h hi;exact hh _
 refine⟨by lia,by lia,by lia,by lia,am hf,am hg,λi p hp=>?_,λi p hp=>?_,by rw[lm,ly];exact wr,wp,wl⟩
 ·let⟨r,h1,rfl⟩:=gw f hp;let⟨t,h2,h3⟩:=l4 hm h1;rw[jz,zO] at h2;let⟨k,hk,rfl⟩:=Option.map_eq_some_iff.mp h2;have:k=i:=by
   rw[zS] at hk;let⟨h,e⟩:=hk;rw[List.getElem_range] at e;exact e.symm
  subst this;exact h3
 ·let⟨r,h1,rfl⟩:=gw g hp;let⟨t,h2,h3⟩:=l4 hy h1;rw[ig,zO] at h2;let⟨k,hk,rfl⟩:=Option.map_eq_some_iff.mp h2;have:k=i:=by
   rw[zS] at hk;let⟨h,e⟩:=hk;rw[List.getElem_range] at e;exact e.symm
  subst this;exact h3
def eS{i:Nat}{fz:List Nat}{f:Dl.Env->Option D}{ρ ρ':au}{d:D}(hf:f (aD ρ)=some d)(hs:Dl.kq d=false)(hh:hand fz 0 ρ=ρ')(hv:cc ρ'=aD ρ)(hr:ie d=false\/ρ'=ρ:=by first|exact .inr rfl|exact .inl rfl):Dl.aO i fz f ρ=some (.nx (ρ'.set i (.val d))):=by
 rcases hr with hr|hr
 ·simp?[Dl.aO,hf,zA,hs,yN,qP,hh,hv,zB,hr]
 ·subst hr;simp?[Dl.aO,hf,zA,hs,yN,qP,hh,hv,zB,ite_self]
def cI{i:Nat}{fz:List Nat}{f:Dl.Env->Option D}{ρ:au}{d:D}(hf:f (aD ρ)=some d)(hs:Dl.kq d=true):Dl.aO i fz f ρ=some (.nx (ρ.set i (.val d))):=by
 simp?[Dl.aO,hf,zA,hs,xG]
def Ka(w:Wy):bf (aF w) (.int 0)=some (.int w.1):=rfl
def JQ(w:Wy):bf (aF w) (.int 1)=some (.int w.2.1):=rfl
def yt(a b c:D):small [a,b,c]=some [a,b,c]:=rfl
def Ol{a b s:Int}(hs:s=1\/s=2\/s=3)(h:a < b):a / s < b / s\/(a / s=b / s/\a % s < b % s):=by rcases hs with rfl|rfl|rfl<;>lia
def M0{k m s:Int}(hs:s=1\/s=2\/s=3)(hm:m=1\/m=2\/m=3)(h0:0<=k)(h:k < m * s):(0<=k / s/\k / s < m)/\0<=k % s/\k % s < s:=by
 rcases hs with rfl|rfl|rfl<;>rcases hm with rfl|rfl|rfl<;>lia
def lB:au->Option Out:=(dC (fI (fB (f2 JY (aY bz (aa (ae 7) af)) (ae 2))) (fB (f2 uu (ah 3 ai (aa (ae 0) (aa (f2 az (f2 az (ae 1) (fC (.int 2))) (ae 8)) (aa (fC (.int 4)) af)))) (fC (.int 0))))) (nv 7 [0,1,6,8] (ay (aa (f2 j9 (ae 8) (ae 6)) (aa (f2 iL (ae 8) (ae 6)) (aa (f2 az (fC (.int 1)) (ah 3 ai (aa (ae 0) (aa (f2 az (f2 az (ae 1) (fC (.int 12))) (ae 8)) (aa (fC (.int 2)) af))))) af))))) dQ)
abbrev st(ns:List Int)(a mo m s:Int)(x4 x7 x8 x9 x10 x11:Slot):au:=[.val (bY ns),.val (.int a),.val (.int mo),.non,x4,.val (.int m),.val (.int s),x7,x8,x9,x10,x11]
def Jg(ns:List Int)(a mo s k:Int)(W:List Wy):List Wy:=if (W.length:Int) < mo/\0 < dr ns (a+2+k) 4 then W++[(k / s,k % s,1+dr ns (a+12+k) 2)] else W
def KZ{ns:List Int}{a mo m s k:Int}{W:List Wy}(hl:ns.length<=63)(hs:s=1\/s=2\/s=3)(hw:W.length<=9) :
  lB (st ns a mo m s .non (.own (W.map aF)) (.val (.int k)) .non .non .non)=some (.nx (st ns a mo m s .non (.own ((Jg ns a mo s k W).map aF)) (.val (.int k)) .non .non .non)):=by
 have hs0:0 < s:=by lia
 have hz:W.length < sizeLine:=qY hw (by decide);have hd:Dl.j9 (.int k) (.int s)=some (.int (k / s)):=iI ⟨hs0,by lia⟩;have hm:Dl.iL (.int k) (.int s)=some (.int (k % s)):=gJ hs0;have e4:=rQ (ns:=ns) (a+2+k) 4 hl (by decide);have e2:=rQ (ns:=ns) (a+12+k) 2 hl (by decide);have hh:hand [0,1,6,8] 0 (st ns a mo m s .non (.own (W.map aF)) (.val (.int k)) .non .non .non)=st ns a mo m s .non (.own (W.map aF)) (.val (.int k)) .non .non .non:=rfl;have ha:nv 7 [0,1,6,8] (ay (aa (f2 j9 (ae 8) (ae 6)) (aa (f2 iL (ae 8) (ae 6)) (aa (f2 az (fC (.int 1)) (ah 3 ai (aa (ae 0) (aa (f2 az (f2 az (ae 1) (fC (.int 12))) (ae 8)) (aa (fC (.int 2)) af))))) af)))) (st ns a mo m s .non (.own (W.map aF)) (.val (.int k)) .non .non .non)=some (.nx (st ns a mo m s .non (.own ((W++[(k / s,k % s,1+dr ns (a+12+k) 2)]).map aF)) (.val (.int k)) .non .non .non)):=by
  simp?[nv,oM,hh,cc,zI,yT];simp! [wq,yN,qk,hd,hm,e2,yt,zD,hz,yV,yU,qZ];rfl
 by_cases c1:(W.length:Int) < mo
 ·by_cases c2:0 < dr ns (a+2+k) 4
  ·rw[show Jg ns a mo s k W=W++[(k / s,k % s,1+dr ns (a+12+k) 2)] from yK ⟨c1,c2⟩,<- ha];simp! [lB,tM,gf,zD,c1,c2,jP,fZ,e4]
  ·rw[show Jg ns a mo s k W=W from yM λh=>c2 h.2];simp! [lB,tM,gf,zD,c1,c2,jP,vZ,fZ,e4,yN]
 ·rw[show Jg ns a mo s k W=W from yM λh=>c1 h.1];simp! [lB,tM,gf,zD,c1,vZ,fZ,yN]
structure Cs(mo s k:Int)(W:List Wy):Prop where
 mem:∀w∈W,∃j:Int,0<=j/\j < k/\w.1=j / s/\w.2.1=j % s/\1<=w.2.2/\w.2.2<=2
 ris:JS W
 len:(W.length:Int)<=k
 lem:(W.length:Int)<=mo
def Cs.next{ns:List Int}{a mo s k:Int}{W:List Wy}(hl:ns.length<=63)(hs:s=1\/s=2\/s=3)(hk:0<=k)(h:Cs mo s k W):Cs mo s (k+1) (Jg ns a mo s k W):=by
 have old:∀w∈W,∃j:Int,0<=j/\j < k+1/\w.1=j / s/\w.2.1=j % s/\1<=w.2.2/\w.2.2<=2:=λw hw=>by
  let⟨j,a,b,c⟩:=h.mem w hw;exact⟨j,a,by lia,c⟩
 by_cases c:(W.length:Int) < mo/\0 < dr ns (a+2+k) 4
 ·rw[show Jg ns a mo s k W=W++[(k / s,k % s,1+dr ns (a+12+k) 2)] from yK c];have g1:=Kr (ns:=ns) (a+12+k) 2 hl (by decide);have g2:=Kt (ns:=ns) (a+12+k) 2 hl (by decide);refine⟨λw hw=>?_,?_,?_,?_⟩
  ·rcases List.mem_append.mp hw with hw|hw
   ·exact old w hw
   ·rw[yI] at hw;subst hw;exact⟨k,hk,by lia,rfl,rfl,by simp only;lia,by simp only;lia⟩
  ·refine List.pairwise_append.mpr ⟨h.ris,List.pairwise_singleton _ _,λa ha b hb=>?_⟩;rw[yI] at hb;subst hb;let⟨j,_,b,c1,c2,_⟩:=h.mem a ha;rw[c1,c2];exact Ol hs b
  ·have:=h.len;rw[zN,xB];lia
  ·have:=c.1;rw[zN,xB];lia
 ·rw[show Jg ns a mo s k W=W from yM c];exact⟨old,h.ris,by have:=h.len;lia,h.lem⟩
def DQ{ns:List Int}{a mo m s:Int}(hl:ns.length<=63)(hs:s=1\/s=2\/s=3):∀ (n k:Nat) {W:List Wy}{x8:Slot},k+n<=9->Cs mo s k W ->
  ∃W' t8,eH (v7 8) lB ((List.range' k n).map λi=>PyData.int ((i:Nat):Int)) (st ns a mo m s .non (.own (W.map aF)) x8 .non .non .non)=some (.nx (st ns a mo m s .non (.own (W'.map aF)) t8 .non .non .non))/\(n=0/\t8=x8\/∃d,t8=.val d)/\Cs mo s ((k+n:Nat):Int) W'
 | 0,k,W,x8,hk,h=>⟨W,x8,rfl,.inl ⟨rfl,rfl⟩,h⟩
 | n+1,k,W,x8,hk,h=>by
  have h':Cs mo s ((k+1:Nat):Int) (Jg ns a mo s k W):=by
   have:=h.next (ns:=ns) (a:=a) hl hs (by lia)
   rwa [show ((k:Int)+1)=((k+1:Nat):Int) by lia] at this
  let⟨W',t8,e,q,b⟩:=DQ hl hs n (k+1) (W:=Jg ns a mo s k W) (x8:=.val (.int (k:Nat))) (by lia) h';refine⟨W',t8,?_,.inr (q.elim (λz=>⟨_,z.2⟩) id),by rw[show k+(n+1)=k+1+n by lia];exact b⟩;have hsg:∀d,v7 8 (st ns a mo m s .non (.own (W.map aF)) x8 .non .non .non) d=some (st ns a mo m s .non (.own (W.map aF)) (.val d) .non .non .non):=λd=>rfl;rw[kW,zI,eH,hsg,zA,KZ hl hs (by have:=h.len;lia)];exact e
def OG(W:List Wy)(i:Int)(hw:W.length<=20):ao 1 [0] (aE (ae 1)) (fG 0) (fB (f2 aW (f2 bf (ae 0) (fC (.int 0))) (ae 1))) (f2 bf (ae 0) (fC (.int 1))) [some (.int i),some (.list (W.map aF))]=some ((AF W i).map PyData.int):=by
 rw[k8 (ds:=W.map aF) (p:=λd=>decide (kr ((cP d).getD 0 .none)=i)) (h:=λd=>(cP d).getD 1 .none) rfl (by rw[zD];lia) (λd hd=>?_) λd hd _=>?_]
 ·rw[List.filter_map,zM,AF,zM];rfl
 ·let⟨w,_,rfl⟩:=List.mem_map.mp hd;simp! [Ka,fJ,fZ];rfl
 ·let⟨w,_,rfl⟩:=List.mem_map.mp hd;simp! [JQ];rfl
def Q8(W:List Wy)(i:Int)(hw:W.length<=20):ao 1 [0] (aE (ae 1)) (fG 0) (fB (f2 aW (f2 bf (ae 0) (fC (.int 1))) (ae 1))) (f2 bf (ae 0) (fC (.int 0))) [some (.int i),some (.list (W.map aF))]=some ((ofT W i).map PyData.int):=by
 rw[k8 (ds:=W.map aF) (p:=λd=>decide (kr ((cP d).getD 1 .none)=i)) (h:=λd=>(cP d).getD 0 .none) rfl (by rw[zD];lia) (λd hd=>?_) λd hd _=>?_]
 ·rw[List.filter_map,zM,ofT,zM];rfl
 ·let⟨w,_,rfl⟩:=List.mem_map.mp hd;simp! [JQ,fJ,fZ];rfl
 ·let⟨w,_,rfl⟩:=List.mem_map.mp hd;simp! [Ka];rfl
def lL{m:Nat}(hm:m<=1000):uv ((m:Nat):Int)=true:=by
 unfold uv;rw[zF,zJ,zJ];have h1:(0:Int)<=(m:Int):=Int.natCast_nonneg m;have h2:(m:Int)<=1000:=by lia
 exact⟨jT (by decide) h1,Int.lt_of_le_of_lt h2 (by decide)⟩
def uH{j:Int}(h:uv j=true):j8 [.int j]=some ((List.range j.toNat).map λi=>PyData.int ((i:Nat):Int)):=by
 rw[j8,yK h]
def tU{fi:Dl.Env->Option D}{ρ:Dl.Env}(m:Nat)(hm:m<=1000)(h:fi ρ=some (.int (m:Nat))):bN (aa fi af) ρ=some ((List.range m).map λi=>PyData.int ((i:Nat):Int)):=by
 have e:aa fi af ρ=some [.int ((m:Nat):Int)]:=by simp?[aa,af,h,zA,zB]
 have e2:bN (aa fi af) ρ=(aa fi af ρ).bind j8:=rfl;rw[e2,e,zA,uH (lL hm),yF]
def IG{W:List Wy}{m:Nat}{ρ:Dl.Env}(hw:W.length<=20)(hm:m<=1000)(h5:ae i5 ρ=some (.int (m:Nat)))(h7:(ρ[i7]?).getD none=some (.list (W.map aF))) :
  ao 1 [i7] (bN (aa (ae i5) af)) (fG 0) (λ_=>some true) (ba (ao 1 [0] (aE (ae 1)) (fG 0) (fB (f2 aW (f2 bf (ae 0) (fC (.int 0))) (ae 1))) (f2 bf (ae 0) (fC (.int 1))))) ρ=some ((jz W m).map cw):=by
 rw[cU (h:=λd=>cw (AF W (kr d))) (tU m hm h5) (by rw[zD,zR];lia) λd hd=>?_]
 ·rw[jz,zM,zM];rfl
 ·let⟨i,_,rfl⟩:=List.mem_map.mp hd;simp?[zI,yT,h7,ba,OG W _ hw,zB,cw,kr]
def IW{W:List Wy}{m:Nat}{ρ:Dl.Env}(hw:W.length<=20)(hm:m<=1000)(h5:ae i5 ρ=some (.int (m:Nat)))(h7:(ρ[i7]?).getD none=some (.list (W.map aF))) :
  ao 1 [i7] (bN (aa (ae i5) af)) (fG 0) (λ_=>some true) (ba (ao 1 [0] (aE (ae 1)) (fG 0) (fB (f2 aW (f2 bf (ae 0) (fC (.int 1))) (ae 1))) (f2 bf (ae 0) (fC (.int 0))))) ρ=some ((ig W m).map cw):=by
 rw[cU (h:=λd=>cw (ofT W (kr d))) (tU m hm h5) (by rw[zD,zR];lia) λd hd=>?_]
 ·rw[ig,zM,zM];rfl
 ·let⟨i,_,rfl⟩:=List.mem_map.mp hd;simp?[zI,yT,h7,ba,Q8 W _ hw,zB,cw,kr]
def Km(c:Int):Dl.Env->Option D:=(ay (aa (ah 3 ai (aa (ae 2) (aa (f2 az (f2 az (ae 3) (fC (.int c))) (ae 0)) (aa (fC (.int 4)) af)))) (aa (ae 1) af)))
def Nh{ns:List Int}{a:Int}(c:Int)(hl:ns.length<=63):∀ (mine:List (List Int)) (k:Nat),bp (iA 0 1) (λ_=>some true) (Km c) [none,none,some (bY ns),some (.int a)] (bT k (mine.map ak))=some ((iw (λk=>dr ns (a+c+((k:Nat):Int)) 4) k mine).map bX)
 | [],k=>rfl
 | r::mine,k=>by
  have hg:iA 0 1 [none,none,some (bY ns),some (.int a)] (.tuple [.int ((k:Nat):Int),ak r])=some [some (.int ((k:Nat):Int)),some (ak r),some (bY ns),some (.int a)]:=rfl;have he:Km c [some (.int ((k:Nat):Int)),some (ak r),some (bY ns),some (.int a)]=some (bX (dr ns (a+c+((k:Nat):Int)) 4,r)):=by
   simp! [Km,rQ (ns:=ns) (a+c+((k:Nat):Int)) 4 hl (by decide),zf,bX]
  have ih:=Nh (a:=a) c hl mine (k+1);rw[zI,bT,bp,hg];simp?[zA,xG,he,ih,zB,iw,zI]
def i8:∀ (ds:List D) (k:Nat),(bT k ds).length=ds.length
 | [],k=>rfl
 | d::ds,k=>by rw[bT,zL,zL,i8 ds]
def uT{ns:List Int}{a c:Int}{i9:Nat}{ρ:Dl.Env}{mine:List (List Int)}(hl:ns.length<=63)(hm:mine.length<=1000)(h9:ae i9 ρ=some (.list (mine.map ak)))(h0:(ρ[0]?).getD none=some (bY ns))(h1:(ρ[1]?).getD none=some (.int a)) :
  aY bx (aa (ba (ao 2 [0,1] (bE (aa (ae i9) af)) (iA 0 1) (λ_=>some true) (Km c))) af) ρ=some (.tuple ((iw (λk=>dr ns (a+c+((k:Nat):Int)) 4) 0 mine).map bX)):=by
 have hi:bE (aa (ae i9) af) ρ=some (bT 0 (mine.map ak)):=by
  simp?[bE,aa,af,h9,zA,zB,cK,oneOf,dI]
 have hc:ao 2 [0,1] (bE (aa (ae i9) af)) (iA 0 1) (λ_=>some true) (Km c) ρ=some ((iw (λk=>dr ns (a+c+((k:Nat):Int)) 4) 0 mine).map bX):=by
  simp?[ao,hi,zA,f7,zI,yT,h0,h1,List.replicate,xE,xO,Nh c hl];exact cu (by rw[zD,gN];lia)
 simp?[aY,aa,af,ba,hc,zB,zA,bx,cK,oneOf,dI]
def aB{g1 g2:au->Option Out}{ρ ρ':au}(h:g1 ρ=some (.nx ρ')):aw g1 g2 ρ=g2 ρ':=by
 simp?[aw,h,zA]
def ck{g:au->Option Out}{n:Nat}{args:List D}{d:D}(h:g (args.map Slot.val++List.replicate (n - args.length) .non)=some (.rt d)):aU g n args=some d:=by
 simp?[aU,h,zB]
def A6{g:D->D->Option D}{fa fb:Dl.Env->Option D}{ρ:Dl.Env}{a b:D}(ha:fa ρ=some a)(hb:fb ρ=some b):f2 g fa fb ρ=g a b:=by
 simp?[f2,ha,hb,zA]
def KL{ns:List Int}{a mo:Int}{m s:Nat}(m1:m<=3)(s1:s<=3):f2 bS (ae 5) (ae 6) (cc (st ns a mo m s .non (.own []) .non .non .non .non))=some (.int ((m * s:Nat):Int)):=by
 have h:Dl.bS (.int (m:Int)) (.int (s:Int))=some (.int ((m:Int) * (s:Int))):=dc (ka (by lia));rw[A6 (a:=.int (m:Int)) (b:=.int (s:Int)) rfl rfl,h,Int.natCast_mul]
def MO{ns:List Int}{a mo:Int}{m s:Nat}(m1:m<=3)(s1:s<=3)(hms:m * s<=9){W:List Wy}{t8:Slot}(e: eH (v7 8) lB ((List.range' 0 (m * s)).map λi=>PyData.int ((i:Nat):Int)) (st ns a mo m s .non (.own (([]:List Wy).map aF)) .non .non .non .non)=some (.nx (st ns a mo m s .non (.own (W.map aF)) t8 .non .non .non))):dJ [5,6] (bN (aa (f2 bS (ae 5) (ae 6)) af)) (v7 8) lB (st ns a mo m s .non (.own []) .non .non .non .non)=some (.nx (st ns a mo m s .non (.own (W.map aF)) t8 .non .non .non)):=by
 have hh:hand [5,6] 0 (st ns a mo m s .non (.own []) .non .non .non .non)=st ns a mo m s .non (.own []) .non .non .non .non:=rfl;have hr:=tU (fi:=f2 bS (ae 5) (ae 6)) (ρ:=cc (st ns a mo m s .non (.own []) .non .non .non .non)) (m * s) (by lia) (KL m1 s1);rw[yG] at hr;rw[yT] at e;simp?[dJ,hh,hr,zA];exact e
structure Pr(mo:Int)(G T:List Pl)(W:List Wy):Prop where
 g3:G.length<=3
 t3:T.length<=3
 w2:∀w∈W,w.2.2<=2
 ga:∀p∈G,p.1<=3
 ta:∀p∈T,p.1<=3
 wm:(W.length:Int)<=mo
def ua{ns:List Int}{a mo:Int}(hl:ns.length<=63)(hmo:3 < mo)(c:dr ns (a+64) 4=0):∃G T W,dH [bY ns,.int a,.int mo]=some (bj G T W)/\Wd G T W/\Pr mo G T W:=by
 have e64:=rQ (ns:=ns) (a+64) 4 hl (by decide);have e65:=dm (ns:=ns) (a+65) 2 hl (by decide);refine⟨_,_,_,?_,BJ (c:=1+dr ns (a+65) 2) (by lia) (by lia),⟨by simp,by simp,by decide,λp hp=>?_,λp hp=>?_,by simp;lia⟩⟩;rotate_left
 ·simp?[zQ,yE,xU] at hp;rcases hp with rfl|rfl<;>(simp only;lia)
 ·simp?[zQ,yE,xU] at hp;rcases hp with rfl|rfl<;>(simp only;lia)
 have s1:Dl.aO 3 [0,1] (f2 az (fC (.int 1)) (ah 3 ai (aa (ae 0) (aa (f2 az (ae 1) (fC (.int 65))) (aa (fC (.int 2)) af))))) [.val (bY ns),.val (.int a),.val (.int mo),.non,.non,.non,.non,.non,.non,.non,.non,.non]=some (.nx [.val (bY ns),.val (.int a),.val (.int mo),.val (.int (1+dr ns (a+65) 2)),.non,.non,.non,.non,.non,.non,.non,.non]) :=
  cI (d:=.int (1+dr ns (a+65) 2)) (by simp! [e65.1]) rfl
 generalize 1+dr ns (a+65) 2=x at *;have s2:Dl.aO 4 [3] (ay (aa (ay (aa (ae 3) (aa (ay (aa (fC (.int 1)) (aa (fC (.int 0)) af))) af))) (aa (ay (aa (ae 3) (aa (ay (aa (fC (.int 0)) (aa (fC (.int 1)) af))) af))) af))) [.val (bY ns),.val (.int a),.val (.int mo),.val (.int x),.non,.non,.non,.non,.non,.non,.non,.non]=some (.nx [.val (bY ns),.val (.int a),.val (.int mo),.val (.int x),.val (.tuple [bX (x,[1,0]),bX (x,[0,1])]),.non,.non,.non,.non,.non,.non,.non]) :=
  eS (d:=.tuple [bX (x,[1,0]),bX (x,[0,1])]) (by simp! [zf];rfl) rfl rfl rfl
 simp! [dH,eP,gf,e64,c,fJ,jP,fZ,show decide ((3:Int) < mo)=true from zZ hmo,s1,s2,zf,yt,show ∀a b c d:D,small [a,b,c,d]=some [a,b,c,d] fromλ_ _ _ _=>rfl];rfl
def ub{ns:List Int}{a mo:Int}(hl:ns.length<=63)(hm0:0<=mo)(c:¬ (3 < mo/\dr ns (a+64) 4=0)):∃G T W,dH [bY ns,.int a,.int mo]=some (bj G T W)/\Wd G T W/\Pr mo G T W:=by
 have e64:=rQ (ns:=ns) (a+64) 4 hl (by decide);have em:=dm (ns:=ns) a 3 hl (by decide);have es:=dm (ns:=ns) (a+1) 3 hl (by decide);let⟨m,hm⟩:=kY (show 0<=1+dr ns a 3 by lia);let⟨s,hs⟩:=kY (show 0<=1+dr ns (a+1) 3 by lia);have m1:1<=m/\m<=3:=by lia
 have s1:1<=s/\s<=3:=by lia
 have hs':(s:Int)=1\/(s:Int)=2\/(s:Int)=3:=by lia
 have hm':(m:Int)=1\/(m:Int)=2\/(m:Int)=3:=by lia
 have t5:Dl.aO 5 [0,1] (f2 az (fC (.int 1)) (ah 3 ai (aa (ae 0) (aa (ae 1) (aa (fC (.int 3)) af))))) [.val (bY ns),.val (.int a),.val (.int mo),.non,.non,.non,.non,.non,.non,.non,.non,.non]=some (.nx [.val (bY ns),.val (.int a),.val (.int mo),.non,.non,.val (.int (m:Nat)),.non,.non,.non,.non,.non,.non]) :=
  cI (d:=.int (m:Nat)) (by simp! [em.1,hm]) rfl
 have t6:Dl.aO 6 [0,1] (f2 az (fC (.int 1)) (ah 3 ai (aa (ae 0) (aa (f2 az (ae 1) (fC (.int 1))) (aa (fC (.int 3)) af))))) [.val (bY ns),.val (.int a),.val (.int mo),.non,.non,.val (.int (m:Nat)),.non,.non,.non,.non,.non,.non]=some (.nx (st ns a mo m s .non .non .non .non .non .non)) :=
  cI (d:=.int (s:Nat)) (by simp! [es.1,hs]) rfl
 have t7:aX 7 [] (bQ af) (st ns a mo m s .non .non .non .non .non .non)=some (.nx (st ns a mo m s .non (.own []) .non .non .non .non)):=by
  simp?[aX,lE,bQ,af,zA,gO,zB,yV,yU]
 have hms:m * s<=9:=vL m1.2 s1.2;have hms1:1<=m * s:=vL m1.1 s1.1;let⟨W,t8,e,h8,I⟩:=DQ (ns:=ns) (a:=a) (m:=m) (s:=s) hl hs' (m * s) 0 (W:=[]) (x8:=.non) (by lia) (mo:=mo) ⟨λw hw=>(by cases hw),List.Pairwise.nil,by decide,hm0⟩;rw[jC] at I;obtain⟨d8,rfl⟩:∃d,t8=.val d:=h8.elim (λz=>by lia) id;have hlen9:W.length<=9:=by have:=I.len;lia
 have tf:=MO m1.2 s1.2 hms e;unfold lB at tf;have hwl:W.length<=20:=by lia
 have wr:∀w∈W,(0<=w.1/\w.1 < m)/\(0<=w.2.1/\w.2.1 < s)/\1<=w.2.2/\w.2.2<=9:=λw hw=>by
  let⟨j,j0,jk,ea,b,c1,c2⟩:=I.mem w hw;have:=M0 hs' hm' j0 (by rw[<- Int.natCast_mul];exact jk);rw[ea,b];exact⟨this.1,this.2,c1,by lia⟩
 have lenG:∀r∈jz W m,r.length<=1000:=λr hr=>by
  let⟨i,_,rfl⟩:=List.mem_map.mp hr;rw[AF,zD];exact yC (xP _ _) (by lia)
 have lenT:∀r∈ig W s,r.length<=1000:=λr hr=>by
  let⟨i,_,rfl⟩:=List.mem_map.mp hr;rw[ofT,zD];exact yC (xP _ _) (by lia)
 let⟨mine,om,pm⟩:=v8 (ns:=ns) (a:=a+24) (rows:=jz W m) hl lenG (by rw[jz,zD,zR];lia);let⟨yours,oy,py⟩:=v8 (ns:=ns) (a:=a+40) (rows:=ig W s) hl lenT (by rw[ig,zD,zR];lia);have lm:mine.length<=1000:=by rw[dR pm,jz,zD,zR];lia
 have ly:yours.length<=1000:=by rw[dR py,ig,zD,zR];lia
 have t9:Dl.aO 9 [0,1,5,7] (ah 3 cG (aa (ae 0) (aa (f2 az (ae 1) (fC (.int 24))) (aa (ba (ao 1 [7] (bN (aa (ae 5) af)) (fG 0) (λ_=>some true) (ba (ao 1 [0] (aE (ae 1)) (fG 0) (fB (f2 aW (f2 bf (ae 0) (fC (.int 0))) (ae 1))) (f2 bf (ae 0) (fC (.int 1))))))) af)))) (st ns a mo m s .non (.own (W.map aF)) (.val d8) .non .non .non)=some (.nx (st ns a mo m s .non (.val (.list (W.map aF))) (.val d8) (.val (.list (mine.map ak))) .non .non)):=by
  refine (eS (ρ':=st ns a mo m s .non (.val (.list (W.map aF))) (.val d8) .non .non .non) (d:=.list (mine.map ak)) ?_ rfl rfl ?_).trans rfl
  ·have q:=IG (ρ:=aD (st ns a mo m s .non (.own (W.map aF)) (.val d8) .non .non .non)) (i5:=5) (i7:=7) hwl (show m<=1000 by lia) rfl rfl;simp?[ah,aa,af,ba,q,zB,zA];simp! [om]
  ·simp?[st,cc,aD,zI,yT];rfl
 have t10:Dl.aO 10 [0,1,6,7] (ah 3 cG (aa (ae 0) (aa (f2 az (ae 1) (fC (.int 40))) (aa (ba (ao 1 [7] (bN (aa (ae 6) af)) (fG 0) (λ_=>some true) (ba (ao 1 [0] (aE (ae 1)) (fG 0) (fB (f2 aW (f2 bf (ae 0) (fC (.int 1))) (ae 1))) (f2 bf (ae 0) (fC (.int 0))))))) af)))) (st ns a mo m s .non (.val (.list (W.map aF))) (.val d8) (.val (.list (mine.map ak))) .non .non)=some (.nx (st ns a mo m s .non (.val (.list (W.map aF))) (.val d8) (.val (.list (mine.map ak))) (.val (.list (yours.map ak))) .non)):=by
  refine (eS (ρ':=st ns a mo m s .non (.val (.list (W.map aF))) (.val d8) (.val (.list (mine.map ak))) .non .non) (d:=.list (yours.map ak)) ?_ rfl ?_ ?_).trans rfl
  ·have q:=IW (ρ:=aD (st ns a mo m s .non (.val (.list (W.map aF))) (.val d8) (.val (.list (mine.map ak))) .non .non)) (i5:=6) (i7:=7) hwl (show s<=1000 by lia) rfl rfl;simp?[ah,aa,af,ba,q,zB,zA];simp! [oy]
  ·rfl
  ·simp?[st,cc,aD,zI,yT];rfl
 have t11:Dl.aO 11 [0,1,8,9] (aY bx (aa (ba (ao 2 [0,1] (bE (aa (ae 9) af)) (iA 0 1) (λ_=>some true) (Km 56))) af)) (st ns a mo m s .non (.val (.list (W.map aF))) (.val d8) (.val (.list (mine.map ak))) (.val (.list (yours.map ak))) .non)=some (.nx (st ns a mo m s .non (.val (.list (W.map aF))) (.val d8) (.val (.list (mine.map ak))) (.val (.list (yours.map ak))) (.val (.tuple ((iw (λk=>dr ns (a+56+((k:Nat):Int)) 4) 0 mine).map bX))))):=by
  refine (eS (ρ':=st ns a mo m s .non (.val (.list (W.map aF))) (.val d8) (.val (.list (mine.map ak))) (.val (.list (yours.map ak))) .non) (uT hl lm rfl rfl rfl) rfl rfl ?_).trans rfl;simp?[st,cc,aD,zI,yT];rfl
 have t4:∀G:D,Dl.aO 4 [0,1,8,10] (aY bx (aa (ba (ao 2 [0,1] (bE (aa (ae 10) af)) (iA 0 1) (λ_=>some true) (Km 60))) af)) (st ns a mo m s .non (.val (.list (W.map aF))) (.val d8) (.val (.list (mine.map ak))) (.val (.list (yours.map ak))) (.val G))=some (.nx (st ns a mo m s (.val (.tuple ((iw (λk=>dr ns (a+60+((k:Nat):Int)) 4) 0 yours).map bX))) (.val (.list (W.map aF))) (.val d8) (.val (.list (mine.map ak))) (.val (.list (yours.map ak))) (.val G))):=λG=>by
  refine (eS (ρ':=st ns a mo m s .non (.val (.list (W.map aF))) (.val d8) (.val (.list (mine.map ak))) (.val (.list (yours.map ak))) (.val G)) (uT hl ly rfl rfl rfl) rfl rfl ?_).trans rfl;simp?[st,cc,aD,zI,yT];rfl
 refine⟨_,_,W,?_,HK (f:=λk=>dr ns (a+56+((k:Nat):Int)) 4) (g:=λk=>dr ns (a+60+((k:Nat):Int)) 4) m1.1 (by lia) s1.1 (by lia) (λk=>?_) (λk=>?_) pm py wr I.ris (by lia),⟨by rw[gN,dR pm,jz,zD,zR];lia,by rw[gN,dR py,ig,zD,zR];lia,λw hw=>(by let⟨j,_,_,_,_,_,z⟩:=I.mem w hw;exact z),λp hp=>?_,λp hp=>?_,I.lem⟩⟩
 ·unfold Km at t11 t4;have tA:∀g,dC (fI (fB (f2 uu (ae 2) (fC (.int 3)))) (fB (f2 aW (ah 3 ai (aa (ae 0) (aa (f2 az (ae 1) (fC (.int 64))) (aa (fC (.int 4)) af)))) (fC (.int 0))))) g dQ [.val (bY ns),.val (.int a),.val (.int mo),.non,.non,.non,.non,.non,.non,.non,.non,.non]=some (.nx [.val (bY ns),.val (.int a),.val (.int mo),.non,.non,.non,.non,.non,.non,.non,.non,.non]):=λg=>by
   by_cases c1:3 < mo
   ·have c2:¬ dr ns (a+64) 4=0:=λz=>c ⟨c1,z⟩;simp! [gf,e64,c1,c2,fJ,vZ,jP,fZ,yN]
   ·simp! [gf,c1,vZ,fZ,yN]
  refine ck ?_;show eP [.val (bY ns),.val (.int a),.val (.int mo),.non,.non,.non,.non,.non,.non,.non,.non,.non]=_;unfold eP;rw[aB (tA _),aB t5,aB t6,aB t7,aB tf,aB t9,aB t10,aB t11,aB (t4 _)];simp! [yt,bj]
 ·have q:=dm (ns:=ns) (a+56+((k:Nat):Int)) 4 hl (by decide);exact⟨q.2.1,by lia⟩
 ·have q:=dm (ns:=ns) (a+60+((k:Nat):Int)) 4 hl (by decide);exact⟨q.2.1,by lia⟩
 ·let⟨i,hi⟩:=List.getElem?_of_mem hp;let⟨r,_,rfl⟩:=gw _ hi;have q:=dm (ns:=ns) (a+56+((0+i:Nat):Int)) 4 hl (by decide);simp only;lia
 ·let⟨i,hi⟩:=List.getElem?_of_mem hp;let⟨r,_,rfl⟩:=gw _ hi;have q:=dm (ns:=ns) (a+60+((0+i:Nat):Int)) 4 hl (by decide);simp only;lia
def vc{ns:List Int}{a mo:Int}(hl:ns.length<=63)(hm0:0<=mo):∃G T W,dH [bY ns,.int a,.int mo]=some (bj G T W)/\Wd G T W/\Pr mo G T W:=by
 by_cases c:3 < mo/\dr ns (a+64) 4=0
 ·exact ua hl c.1 c.2
 ·exact ub hl hm0 c
def Kl(h:JS W):(W.map λw=>[w.1,w.2.1]).Pairwise λa b=>Dl.lexLt a b=true:=List.pairwise_map.mpr (h.imp λhab=>Qg hab)
def Fy(h:JS W):(W.map λw=>[w.1,w.2.1]).Nodup:=(Kl h).imp λ{a b} hab e=>by
 rw[e,fy] at hab;cases hab
def Fz(h:JS W)(hn:m.Nodup)(hm:∀r,r∈W.map (λw=>[w.1,w.2.1])↔r∈m):W.map (λw=>[w.1,w.2.1])=pP m :=
 E2 ((List.perm_ext_iff_of_nodup (Fy h) hn).mpr hm) ((Kl h).imp λhab=>NX hab)
def Wd.wok(h:Wd G T W):OA (bj G T W)=true:=by
 have hP:(W.map aF).map eK=W.map λw=>[w.1,w.2.1]:=by rw[zM];rfl
 have hpg:∀i j:Int,[i,j]∈W.map (λw=>[w.1,w.2.1])↔[i,j]∈k7 0 (G.map bX):=λi j=>by
  rw[nW];constructor
  ·intro hm;let⟨w,hw,e⟩:=List.mem_map.mp hm;simp?[kK,and_true] at e;have hr:=(h.wr w hw).1;obtain⟨p,hp⟩:∃p,G[i.toNat]?=some p:=⟨G[i.toNat]'(by lia),zK (by lia)⟩
   refine⟨i.toNat,bX p,by rw[zO,hp];rfl,by lia,?_⟩;rw[eV,(h.gl _ p hp).mem_iff,tw,show ((i.toNat:Nat):Int)=i by lia];exact hm
  ·rintro⟨m,p,hp,rfl,hj⟩;rw[zO] at hp;let⟨p',hp',rfl⟩:=Option.map_eq_some_iff.mp hp;rw[eV,(h.gl m p' hp').mem_iff,tw] at hj
   rwa [jC]
 have hpt:∀i j:Int,[i,j]∈W.map (λw=>[w.1,w.2.1])↔[j,i]∈k7 0 (T.map bX):=λi j=>by
  rw[nW];constructor
  ·intro hm;let⟨w,hw,e⟩:=List.mem_map.mp hm;simp?[kK,and_true] at e;have hr:=(h.wr w hw).2.1;obtain⟨p,hp⟩:∃p,T[j.toNat]?=some p:=⟨T[j.toNat]'(by lia),zK (by lia)⟩
   refine⟨j.toNat,bX p,by rw[zO,hp];rfl,by lia,?_⟩;rw[eV,(h.tl _ p hp).mem_iff,tK,show ((j.toNat:Nat):Int)=j by lia];exact hm
  ·rintro⟨m,p,hp,rfl,hj⟩;rw[zO] at hp;let⟨p',hp',rfl⟩:=Option.map_eq_some_iff.mp hp;rw[eV,(h.tl m p' hp').mem_iff,tK] at hj
   rwa [jC]
 have two:∀ {r:List Int},r∈W.map (λw=>[w.1,w.2.1])->∃i j,r=[i,j]:=λhr=>by
  let⟨w,_,rfl⟩:=List.mem_map.mp hr;exact⟨_,_,rfl⟩
 have ng:∀ (L:List Pl),(∀p∈L,p.2.Nodup)->(k7 0 (L.map bX)).Nodup:=λL hL=>rf λp hp=>by
  let⟨p',hp',rfl⟩:=List.mem_map.mp hp;rw[eV];exact hL p' hp'
 have e1:W.map (λw=>[w.1,w.2.1])=pP (k7 0 (G.map bX)):=Fz h.wp (ng G λp hp=>by
   let⟨i,hi,e⟩:=qQ hp;exact (h.gl i p (by rw[zK hi,e])).nodup_iff.mpr (qm h.wp i)) λr=>⟨λhr=>by
   let⟨i,j,rfl⟩:=two hr;exact (hpg i j).mp hr,λhr=>by
   let⟨i,j,rfl⟩:=jq r hr;exact (hpg i j).mpr hr⟩
 have e2:W.map (λw=>[w.1,w.2.1])=pP ((k7 0 (T.map bX)).map List.reverse):=Fz h.wp (by
   exact List.pairwise_map.mpr (List.Pairwise.imp (λ{a b} hne e=>hne (List.reverse_inj.mp e)) (ng T λp hp=>by
    let⟨i,hi,e⟩:=qQ hp;exact (h.tl i p (by rw[zK hi,e])).nodup_iff.mpr (rY h.wp i)))) λr=>⟨λhr=>by
   let⟨i,j,rfl⟩:=two hr;exact List.mem_map.mpr ⟨[j,i],(hpt i j).mp hr,rfl⟩,λhr=>by
   let⟨r',hr',rfl⟩:=List.mem_map.mp hr;let⟨i,j,rfl⟩:=jq r' hr';exact (hpt j i).mpr hr'⟩
 have hw:(W.map aF).all (ib G.length T.length)=true:=by
  rw[xF];intro x hx;let⟨w,hw,rfl⟩:=List.mem_map.mp hx;exact BO (h.wr w hw)
 have hs:∀ {L:List Pl},1<=L.length->L.length<=4->l7 (.tuple (L.map bX))=true:=λ{L} a b=>by
  simp?[l7,long,zD,zF,zJ];lia
 have h3:long 3 3 (bj G T W)=true:=rfl;have hg:=h.gok;have ht:=h.tok;unfold OA w4;rw[h3,jK];simp?[bj,cP,vP,vQ,hP,<- e1,<- e2,jP,Bool.and_true,hZ,hs h.g1 h.g4,hs h.t1 h.t4,zD,hg,ht,hw,Kw]
def sI(b:Bool):Int:=if b then 1 else 0
def sR(b:Bool)(w:Wy):Int:=if b then w.2.1 else w.1
def Qd(b:Bool)(w:Wy):Int:=sR (!b) w
def fD(b:Bool)(G T:List Pl):List Pl:=if b then T else G
def si(G T:List Pl)(W:List Wy):bf (bj G T W) (.int 2)=some (.tuple (W.map aF)):=rfl
def AQ(b:Bool)(w:Wy):bf (aF w) (.int (sI b))=some (.int (sR b w)):=by cases b<;>rfl
def Br(w:Wy):bf (aF w) (.int 2)=some (.int w.2.2):=rfl
def Fc(h:ds[i]?=some d):bf (.tuple ds) (.int ((i:Nat):Int))=some d:=by
 show md ds (i:Nat)=_;exact A8 h
def dy(W:List Wy)(i:Nat):Wy:=W.getD i (0,0,0)
def tH(hk:k < W.length):W[k]=dy W k:=by simp[dy,hk]
def Iu(hk:k < W.length):W[k]?=some (dy W k):=by rw[zK hk,tH hk]
def own(b:Bool)(W:List Wy)(p:Int):List Nat:=(List.range W.length).filter λi=>decide (sR b (dy W i)=p)
def Q6(b:Bool)(W:List Wy)(p o:Int):Nat:=W.findIdx λw=>decide (sR b w=p)&&decide (Qd b w=o)
def Qq(b:Bool)(W:List Wy)(p:Int)(L:List Int):List Nat:=L.map (Q6 b W p)
def IH:i∈own b W p↔i < W.length/\sR b (dy W i)=p:=by simp[own]
abbrev nD(n:Nat):D:=.int ((n:Nat):Int)
def Hy(b:Bool)(W:List Wy)(p:Int):(own b W p).length<=W.length:=by
 unfold own;refine yC (xP _ _) ?_;rw[zR];exact yL _
local macro_rules|`(tactic| dsimp! [$ts,*])=>`(tactic| simp only[ae,fC,f1,f2,aa,af,ah,aY,jx,aE,dI,ba,fB,gB,bC,fI,dE,bE,aD,cc,Ap,Bu,Ba,z7,Ax,Be,zI,yT,xQ,yX,zA,zB,qG,zL,xJ,Nat.reduceAdd,jC,reduceIte,yV,yU,$ts,*])
def oO(R:S->au->Prop)(f:α->D)(st:S->α->S):∀ {l:List α}{s:S}{ρ:au},
  (∀s ρ x,x∈l->R s ρ->∃ρ1 ρ2,tgt ρ (f x)=some ρ1/\gb ρ1=some (.nx ρ2)/\R (st s x) ρ2)->R s ρ->∃ρ',eH tgt gb (l.map f) ρ=some (.nx ρ')/\R (l.foldl st s) ρ'
 | [],s,ρ,_,h=>⟨ρ,rfl,h⟩
 | d::ds,s,ρ,hh,h=>by
  let⟨ρ1,ρ2,e1,e2,h2⟩:=hh s ρ d zE h;let⟨ρ',e3,h3⟩:=oO R f st (λs ρ x hx=>hh s ρ x (zC _ hx)) h2;refine⟨ρ',?_,h3⟩;rw[zI,eH,e1,zA,e2];exact e3
def kb(R:au->Prop)(f:α->D)(q:α->Bool)(out:α->D):∀ {l:List α}{ρ:au},
  (∀ρ x,x∈l->R ρ->∃ρ1,tgt ρ (f x)=some ρ1/\(q x=true->gb ρ1=some (.rt (out x)))/\(q x=false->∃ρ2,gb ρ1=some (.nx ρ2)/\R ρ2))->R ρ ->
  (∀x,l.find? q=some x->eH tgt gb (l.map f) ρ=some (.rt (out x)))/\(l.find? q=none->∃ρ',eH tgt gb (l.map f) ρ=some (.nx ρ')/\R ρ')
 | [],ρ,_,h=>⟨λx hx=>(by cases hx),λ_=>⟨ρ,rfl,h⟩⟩
 | x::l,ρ,hh,h=>by
  let⟨ρ1,e1,e2,e3⟩:=hh ρ x zE h;rw[zI,eH,e1,zA];cases hq:q x with
  | true =>
   rw[vD (by simpa using hq),e2 hq];exact⟨λy hy=>(by cases hy;rfl),λhn=>(by cases hn)⟩
  | false =>
   let⟨ρ2,e4,h2⟩:=e3 hq;rw[kF (by simp[hq]),e4];exact kb R f q out (λρ x hx=>hh ρ x (zC _ hx)) h2
def eO(h:eH tgt gb ds ρ1=o)(hi:fi (cc ρ1)=some ds)(hh:hand fz 0 ρ=ρ1):dJ fz fi tgt gb ρ=o:=by
 simp?[dJ,hh,hi,zA,h]
def Iz(hh:hand fz 0 ρ=ρ')(hf:f (cc ρ')=some ds):aX i fz f ρ=some (.nx (ρ'.set i (.own ds))):=by
 simp?[aX,hh,hf,zB]
def mi(hf:f (cc ρ)=some ds)(hh:hand fz 0 ρ=ρ):aX i fz f ρ=some (.nx (ρ.set i (.own ds))):=Iz hh hf
def yh(hh:hand fz 0 ρ=ρ')(hA:f (aD ρ)=some d)(hF:f (cc ρ')=some d)(hs:Dl.kq d=false)(hr:ie d=false\/ρ'=ρ:=by first|exact .inr rfl|exact .inl rfl):Dl.aO i fz f ρ=some (.nx (ρ'.set i (.val d))):=by
 rcases hr with hr|hr
 ·simp?[Dl.aO,hA,zA,hs,yN,qP,hh,hF,zB,hr]
 ·subst hr;simp?[Dl.aO,hA,zA,hs,yN,qP,hh,hF,zB,ite_self]
def call_of(h:m ds=some d)(hf:fs ρ=some ds)(hn:ds.length=n):ah n m fs ρ=some d:=by
 unfold ah;rw[hf,zA,yK hn,h]
def cons_of(h:f ρ=some d)(hs:fs ρ=some ds):aa f fs ρ=some (d::ds):=by
 unfold aa;rw[h,hs];rfl
def cY(hf:f (aD ρ)=some d):aG f ρ=some (.rt d):=by
 simp?[aG,hf,zB]
def zi(hf:f (aD ρ)=some d):iu f ρ=some (.nx ρ):=by
 simp?[iu,hf,zB]
def ee(h:t (aD ρ)=some false):dC t g dQ ρ=some (.nx ρ):=by
 simp[dC,h,dQ]
def jl(h:t (aD ρ)=some true):dC t g g2 ρ=g ρ:=by
 simp[dC,h]
def mE(h:g1 ρ=some (.rt d)):aw g1 g2 ρ=some (.rt d):=by
 simp?[aw,h,zA]
def lp(cont:S->Bool)(st:S->S):Nat->S->S
 | 0,s=>s
 | n+1,s=>if cont s=true then lp cont st n (st s) else s
def Ly(l:List D):bx [.list l]=some (.tuple l):=rfl
def Jz(l:List D):bz [.tuple l]=some (nD l.length):=rfl
def B9(h:n<=1000):j8 [nD n]=some ((List.range n).map nD):=by
 rw[uH (lL h),yF]
def ym(h:fs ρ=some [nD n])(hn:n<=1000):bN fs ρ=some ((List.range n).map nD):=by
 unfold bN;rw[h,zA,B9 hn]
def sub_int(i j:Int):Dl.ku (.int i) (.int j)=some (.int (i - j)):=uy i j
def E3(h1:uv k=true)(h2:ds.length * k.toNat<=sizeLine):Bg ds (.int k)=some (List.replicate k.toNat ds).flatten:=by
 simp?[Bg];rw[yK (And.intro h1 h2)]
def JZ:∀n,(List.replicate n [PyData.int 0]).flatten=(List.replicate n (0:Int)).map PyData.int
 | 0=>rfl
 | n+1=>by rw[xD,qM,JZ n,xD];rfl
def cV(W:List Wy)(off:List Int)(left:Int)(i:Nat):Int:=min (min (off.getD i 0) (dy W i).2.2) left
def QR(W:List Wy)(off:List Int)(s:Int×List Int)(i:Nat):Int×List Int:=(s.1 - cV W off s.1 i,s.2.set i (cV W off s.1 i))
def Rk(W:List Wy)(off:List Int)(amt:Int)(is:List Nat):List Int:=(is.foldl (QR W off) (amt,List.replicate W.length 0)).2
def mv(b:Bool)(G T:List Pl)(i:Nat):Pl:=(fD b G T).getD i (0,[])
def QU(b:Bool)(G T:List Pl)(W:List Wy)(off s:List Int)(i:Nat):List Int:=List.zipWith (·+·) s (Rk W off (mv b G T i).1 (Qq b W i (mv b G T i).2))
def LW(b:Bool)(G T:List Pl)(W:List Wy)(off:List Int):List Int:=(List.range (fD b G T).length).foldl (QU b G T W off) (List.replicate W.length 0)
def Wd.pl(h:Wd G T W)(b:Bool):(fD b G T).length<=4:=by
 cases b
 ·exact h.g4
 ·exact h.t4
def Hq(h:(xs++ys).length<=4000):Dl.az (.tuple xs) (.tuple ys)=some (.tuple (xs++ys)):=by
 simp?[Dl.az,sf,Jx,cu h,zB,Option.none_or,Option.some_or]
def CL(h:f ρ=some d):ay (aa f af) ρ=some (.tuple [d]):=by
 simp?[ay,aa,af,h,zA,zB];rw[cu (by simp),zB]
def aZ(h:g a b=some c)(ha:fa ρ=some a)(hb:fb ρ=some b):f2 g fa fb ρ=some c:=by rw[A6 ha hb,h]
def Mz(W:List Wy):List Int:=W.map λw=>w.2.2
def Qy(G T:List Pl)(W:List Wy)(c:List Int):List Int:=LW true G T W (LW false G T W c)
def qR(G T:List Pl)(W:List Wy)(c:List Int)(k:Nat):Bool:=decide ((Qy G T W c).getD k 0 < (LW false G T W c).getD k 0)
def Qw(G T:List Pl)(W:List Wy)(c:List Int):Option (Nat×Int):=((List.range W.length).find? (qR G T W c)).map λk=>(k,(Qy G T W c).getD k 0)
def enum_zip:∀ (ds:List D) (k:Nat),bT k ds=(ds.zipIdx k).map λq=>.tuple [nD q.2,q.1]
 | [],k=>rfl
 | d::ds,k=>by rw[bT,enum_zip ds (k+1),List.zipIdx_cons];rfl
def Off(off:List Int):Prop:=∀i,0<=off.getD i 0
def Qr(W:List Wy):Prop:=∀i,0<=(dy W i).2.2
def Wd.lim{G T:List Pl}{W:List Wy}(h:Wd G T W):Qr W:=λi=>by
 by_cases hi:i < W.length
 ·have:=h.wr (dy W i) (by rw[<- tH hi];exact qA hi);lia
 ·simp?[dy,zG];rw[jL (by lia)];simp
def Wd.amt{G T:List Pl}{W:List Wy}(h:Wd G T W)(b:Bool)(i:Nat):0<=(mv b G T i).1:=by
 unfold mv;rw[zG];cases e:(fD b G T)[i]? with
 | none=>simp
 | some p =>
  have hm:=qB e;cases b
  ·exact (h.ga p hm).1
  ·exact (h.ta p hm).1
def wc{l:List Int}{i:Nat}(h:l.length<=i):l.getD i 0=0:=by simp[zG,h]
def Qv(c:List Int):Nat:=(c.map Int.toNat).sum
def yg(a:List Int):SeqAt.shaped (ak a)=true :=
 (gu.tup (b:=a.length) (k:=0) (by simp) λx hx=>by let⟨i,_,rfl⟩:=List.mem_map.mp hx;exact jb _).shaped (by decide)
def vt(a b:List Int):PyData.eqv (ak a) (ak b)=decide (a=b):=by
 rw[ak,ak,PyData.eqv,pH]
def br(h:f ρ=some (.bool b)):fB f ρ=some b:=by
 simp?[fB,h,zA,gB]
def cT(h:t ρ=some b):bC t ρ=some (!b):=by
 simp?[bC,h,zB]
def FU(h:t ρ=some false)(h2:u ρ=some false):dE t u ρ=some false:=by
 simp?[dE,h,zA,h2]
def D7(a b:List Int):bb (ak a) (ak b)=some (.bool (!decide (a=b))):=by
 simp?[bb,GA,yg,jO,xG,vt,zB]
def CK(a b:List (List Int)):bb (.list (a.map ak)) (.list (b.map ak))=some (.bool (!decide (a=b))):=by
 simp?[bb,GA,mP,jO,xG,PyData.eqv,pL,zB]
def eA(hA:f (aD ρ)=some d)(hF:f (cc ρ)=some d)(hh:hand fz 0 ρ=ρ):Dl.aO i fz f ρ=some (.nx (ρ.set i (.val d))):=by
 cases hs:Dl.kq d with
 | true=>exact cI hA hs
 | false=>exact yh hh hA hF hs (.inr rfl)
def qf(h:Wd G T W):aC [bj G T W]=some .none:=by
 have hw:bg [bj G T W]=some (.bool true):=by rw[kj h.fit (by decide),h.wok]
 have hc:(bC (fB (ah 1 bg (aa (ae 0) af)))) (aD [.val (bj G T W)])=some false:=cT (br (call_of hw rfl rfl));have:ei [.val (bj G T W)]=some (.nx [.val (bj G T W)]):=by
  unfold ei;rw[ee hc]
 show (ei [.val (bj G T W)]).map _=_;rw[this];rfl
def pU(h1:a<=i)(h2:i<=b):gq [.int i,.int a,.int b]=some .none:=by
 have hw:bu [.int i,.int a,.int b]=some (.bool true):=by rw[d9 rfl];simp[whole,h1,h2]
 have hc:(bC (fB (ah 3 bu (aa (ae 0) (aa (ae 1) (aa (ae 2) af)))))) (aD [.val (.int i),.val (.int a),.val (.int b)])=some false:=cT (br (call_of hw rfl rfl));have:cH [.val (.int i),.val (.int a),.val (.int b)]=some (.nx [.val (.int i),.val (.int a),.val (.int b)]):=by
  unfold cH;rw[ee hc]
 show (cH [.val (.int i),.val (.int a),.val (.int b)]).map _=_;rw[this];rfl
def oF(h1:0<=i)(h2:i<=n - 1):fq [.int i,.int n]=some .none:=by
 have:cv [.val (.int i),.val (.int n)]=some (.nx [.val (.int i),.val (.int n)]):=by
  unfold cv;exact zi (call_of (pU h1 h2) (cons_of rfl (cons_of rfl (cons_of (aZ (sub_int n 1) rfl rfl) rfl))) rfl)
 show (cv [.val (.int i),.val (.int n)]).map _=_;rw[this];rfl
def tJ(b:Bool):lG [.int (sI b)]=some .none:=by
 have:eM [.val (.int (sI b))]=some (.nx [.val (.int (sI b))]):=by
  unfold eM;exact zi (call_of (oF (n:=2) (i:=sI b) (by cases b<;>decide) (by cases b<;>decide)) rfl rfl)
 show (eM [.val (.int (sI b))]).map _=_;rw[this];rfl
abbrev Sp:=List (Nat×Int)×List Int
def Q4(G T:List Pl)(W:List Wy)(s:Sp):Bool:=(Qw G T W s.2).isSome
def spS(G T:List Pl)(W:List Wy)(s:Sp):Sp:=match Qw G T W s.2 with|some p=>(s.1++[p],s.2.set p.1 p.2)|none=>s
def low(c:List Int)(p:Nat×Int):List Int:=c.set p.1 p.2
structure Rl(W:List Wy)(s:Sp):Prop where
 len:s.2.length=W.length
 off:Off s.2
 eq:s.2=s.1.foldl low (Mz W)
 bd:s.1.length+Qv s.2<=Qv (Mz W)
 mem:∀p∈s.1,p.1 < W.length
def fin(G T:List Pl)(W:List Wy):Sp:=lp (Q4 G T W) (spS G T W) Rf.turns ([],Mz W)
structure Ord(W:List Wy)(π:List Nat):Prop where
 perm:π.Perm (List.range W.length)
 up:π.Pairwise λi j=>(dy W i).2.1 < (dy W j).2.1\/((dy W i).2.1=(dy W j).2.1/\(dy W i).1 < (dy W j).1)
def sr(b:Bool)(W:List Wy)(P:List Int)(p:Int):Int:=((own b W p).map λi=>P.getD i 0).sum
structure Pn(G T:List Pl)(W:List Wy)(P:List Int):Prop where
 len:P.length=W.length
 bd:∀k,k < W.length->0<=P.getD k 0/\P.getD k 0<=(dy W k).2.2
 am:∀ (b:Bool) (i:Nat),i < (fD b G T).length->sr b W P i<=(mv b G T i).1
section
variable {off:List Int}
def qw(h:∀k,k < W.length->P.getD k 0=Q.getD k 0):sr b W P p=sr b W Q p:=by
 unfold sr
 congr 1
 exact yH λk hk=>h k (IH.mp hk).1
end
def mj(G T:List Pl)(W:List Wy)(P:List Int):Bool :=
 ((List.range G.length).all λi=>decide (sr false W P i<=(mv false G T i).1))&&((List.range T.length).all λi=>decide (sr true W P i<=(mv true G T i).1))
def zs(n:Nat):List Int:=List.replicate n 0
def jw(d:Nat->Int)(G T:List Pl)(W:List Wy):Nat->List Int
 | 0=>[]
 | k+1=>if mj G T W ((jw d G T W k++[d k])++zs (W.length - (jw d G T W k++[d k]).length))=true then jw d G T W k++[d k] else jw d G T W k++[0]
section
variable {W:List Wy}{G T:List Pl}{d:Nat->Int}
def gC:mj G T W P=true↔∀ (b:Bool) (i:Nat),i < (fD b G T).length->sr b W P i<=(mv b G T i).1:=by
 unfold mj;rw[zF,xF,xF];constructor
 ·rintro⟨h1,h2⟩ b i hi;cases b
  ·exact yP (h1 i (by simpa [fD] using hi))
  ·exact yP (h2 i (by simpa [fD] using hi))
 ·intro h;exact⟨λi hi=>zZ (h false i (by simpa [fD] using hi)),λi hi=>zZ (h true i (by simpa [fD] using hi))⟩
def lj:∀k,(jw d G T W k).length=k
 | 0=>rfl
 | k+1=>by
  unfold jw;split<;>simp[lj k]
def EH(h:∀k,P.getD k 0=0):sr b W P p=0:=by
 unfold sr;have:((own b W p).map λi=>P.getD i 0)=(own b W p).map λ_=>(0:Int):=yH λk _=>h k;rw[this];generalize own b W p=l
 induction l with
 | nil=>rfl
 | cons a l ih=>simp[ih]
def J0(n k:Nat):(zs n).getD k 0=0:=by
 simp?[zs,zG,yW];split<;>rfl
def D8(l:List Int)(n k:Nat):(l++zs n).getD k 0=l.getD k 0:=by
 by_cases h:k < l.length
 ·simp[zG,yR h]
 ·have h':l.length<=k:=by lia
  have:=J0 n (k - l.length);simp?[zG] at this ⊢;rw[yS h',this];simp[h']
def Qc(l:List Int)(k:Nat):(l++[0]).getD k 0=l.getD k 0:=D8 l 1 k
def Ac(h:Wd G T W):∀k,mj G T W (jw d G T W k)=true
 | 0=>gC.mpr λb i hi=>by
  rw[EH λk=>by simp[jw]];exact h.amt b i
 | k+1=>by
  unfold jw;split
  ·rename_i e;refine gC.mpr λb i hi=>?_;have:=gC.mp e b i hi;rw[qw (Q:=jw d G T W k++[d k]) λj _=>D8 _ _ _] at this;exact this
  ·refine gC.mpr λb i hi=>?_;rw[qw (Q:=jw d G T W k) λj _=>Qc _ _];exact gC.mp (Ac h k) b i hi
def zx(hd:∀k,k < W.length->0<=d k/\d k<=(dy W k).2.2)(hl:Qr W):∀k,k<=W.length->∀j,j < k->0<=(jw d G T W k).getD j 0/\(jw d G T W k).getD j 0<=(dy W j).2.2
 | 0,_,j,hj=>by lia
 | k+1,hk,j,hj=>by
  have ih:=zx hd hl k (by lia) j;have len:(jw d G T W k).length=k:=lj k;have key:∀x,(0<=x/\x<=(dy W k).2.2)->0<=(jw d G T W k++[x]).getD j 0/\(jw d G T W k++[x]).getD j 0<=(dy W j).2.2:=λx hx=>by
   by_cases hjk:j < k
   ·rw[zG,yR (by lia),<- zG];exact ih hjk
   ·have:j=k:=by lia
    subst this;rw[zG,yS (by lia),len];simpa using hx
  unfold jw;split
  ·exact key _ (hd k (by lia))
  ·exact key _ ⟨by lia,hl k⟩
def LL(h:Wd G T W)(hd:∀k,k < W.length->0<=d k/\d k<=(dy W k).2.2):Pn G T W (jw d G T W W.length) where
 len:=lj _
 bd:=zx hd h.lim W.length (yL _)
 am:=gC.mp (Ac h _)
end
section
variable {P off:List Int}
end
def rh{tt:Dl.Env->Option Bool}{te:Dl.Env->Option D}{r:List (Option D)}{x y h:Nat->D}{p:Nat->Bool}:∀ (is:List Nat),
  (∀i∈is,tt (some (x i)::some (y i)::r)=some (p i)/\(p i=true->te (some (x i)::some (y i)::r)=some (h i))) ->
  bp (iA 0 1) tt te (none::none::r) (is.map λi=>.tuple [x i,y i])=some ((is.filter p).map h)
 | [],_=>rfl
 | i::is,hh=>by
  let⟨h1,h2⟩:=hh i zE;have ih:=rh is λj hj=>hh j (zC _ hj);have hg:iA 0 1 (none::none::r) (.tuple [x i,y i])=some (some (x i)::some (y i)::r):=by
   simp?[iA,isFree,xQ,yX,qG,Option.isNone_none,jO,xG,yU,yV]
  rw[zI,bp,hg];simp?[zA,h1];cases hp:p i with
  | true=>simp[h2 hp,ih,hp]
  | false=>simp[ih,hp]
def iO{cs:List Nat}{fi:Dl.Env->Option (List D)}{tt:Dl.Env->Option Bool}{te:Dl.Env->Option D}{ρ:Dl.Env}{n:Nat}{x y h:Nat->D}{p:Nat->Bool}(hfi:fi ρ=some ((List.range n).map λi=>.tuple [x i,y i]))(hl:n<=1000)
  (hh:∀i,i < n->tt (some (x i)::some (y i)::cs.map λj=>(ρ[j]?).getD none)=some (p i)/\(p i=true->te (some (x i)::some (y i)::cs.map λj=>(ρ[j]?).getD none)=some (h i))) :
  ao 2 cs fi (iA 0 1) tt te ρ=some (((List.range n).filter p).map h):=by
 have:=rh (tt:=tt) (te:=te) (r:=cs.map λj=>(ρ[j]?).getD none) (p:=p) (h:=h) (List.range n) λi hi=>hh i (by simpa using hi);simp?[ao,hfi,zA,f7,List.replicate,xE,xO,this];refine cu ?_;rw[zD];refine yC (xP _ _) ?_;rw[zR];lia
def rL{W:List Wy}{P:List Int}(h:P.length=W.length):gK (W.map aF) (P.map PyData.int)=(List.range W.length).map λi=>.tuple [aF (dy W i),.int (P.getD i 0)]:=by
 apply List.ext_getElem?;intro i;by_cases hi:i < W.length
 ·have hz:i < (gK (W.map aF) (P.map PyData.int)).length:=by rw[lQ];simp[h];exact hi
  rw[zK hz];let⟨x,y,e1,e2,e3⟩:=oD (zK hz);rw[zO,Iu hi] at e1;rw[zO,zK (by lia)] at e2;cases e1;have e2:PyData.int P[i]=y:=by simpa using e2
  rw[e3,<- e2];have:i < P.length:=by lia
  simp[hi,this,zG]
 ·rw[jL (by rw[lQ];simp;lia),jL (by simp;lia)]
def Sm(P:List Int):Prop:=∀k,-1000000<=P.getD k 0/\P.getD k 0<=1000000
def AM(hs:Sm P)(hw:W.length<=16)(b:Bool)(p:Int):J9 ((own b W p).map λi=>P.getD i 0)=true:=by
 unfold J9;rw[zF,zJ,xF];refine⟨?_,λx hx=>?_⟩
 ·have:=Hy b W p;rw[zD];lia
 ·let⟨i,_,rfl⟩:=List.mem_map.mp hx;rw[zF,zJ,zJ];exact hs i
def CH(h:Wd G T W)(hp:P.length=W.length)(hs:Sm P)(b:Bool)(p:Int):gR [bj G T W,ak P,.int (sI b),.int p]=some (.int (sr b W P p)):=by
 have hw:=h.wl;refine ck ?_;show rR [.val (bj G T W),.val (ak P),.val (.int (sI b)),.val (.int p)]=_;have hz:eL (aa (f2 bf (ae 0) (fC (.int 2))) (aa (ae 1) af)) [some (bj G T W),some (ak P),some (.int (sI b)),some (.int p)]=some ((List.range W.length).map λi=>.tuple [aF (dy W i),.int (P.getD i 0)]):=by
  rw[<- rL hp];rfl
 have c:ao 2 [2,3] (eL (aa (f2 bf (ae 0) (fC (.int 2))) (aa (ae 1) af))) (iA 0 1) (fB (f2 aW (f2 bf (ae 0) (ae 2)) (ae 3))) (ae 1) [some (bj G T W),some (ak P),some (.int (sI b)),some (.int p)]=some ((own b W p).map λi=>.int (P.getD i 0)):=by
  rw[iO (p:=λi=>decide (sR b (dy W i)=p)) (h:=λi=>.int (P.getD i 0)) hz (by lia) λi hi=>⟨?_,λ_=>rfl⟩]
  ·rfl
  ·show fB (f2 aW (f2 bf (ae 0) (ae 2)) (ae 3)) [some (aF (dy W i)),some (.int (P.getD i 0)),some (.int (sI b)),some (.int p)]=_;exact br (by rw[A6 (a:=.int (sR b (dy W i))) (b:=.int p) (aZ (AQ b _) rfl rfl) rfl,fJ])
 refine cY ?_;have e:((own b W p).map λi=>PyData.int (P.getD i 0))=((own b W p).map λi=>P.getD i 0).map PyData.int:=by rw[zM];rfl
 show aY pV (aa (ba (ao 2 [2,3] (eL (aa (f2 bf (ae 0) (fC (.int 2))) (aa (ae 1) af))) (iA 0 1) (fB (f2 aW (f2 bf (ae 0) (ae 2)) (ae 3))) (ae 1))) af) [some (bj G T W),some (ak P),some (.int (sI b)),some (.int p)]=_;rw[e] at c;simp?[aY,aa,af,ba,c,zB,zA];show pV [.list (((own b W p).map λi=>P.getD i 0).map PyData.int)]=_;simp?[pV,cK,oneOf,dI,zA,fA,AM hs hw b p,xG];rfl
def oX(L:List Pl):bT 0 (L.map bX)=(List.range L.length).map λi=>.tuple [nD i,bX (L.getD i (0,[]))]:=by
 rw[enum_zip];apply jG
 ·simp
 ·intro i h1 h2;have:i < L.length:=by simpa using h2
  simp[this,zG]
def rH(is:List Nat):gg [.list (is.map λi=>.bool (p i))]=some (.bool (is.all p)):=by
 have:∀is:List Nat,boolsOf (is.map λi=>PyData.bool (p i))=some (is.map p):=λis=>by
  induction is with
  | nil=>rfl
  | cons i is ih=>simp[boolsOf,ih]
 simp?[gg,oneOf,zA,this,zB,List.all_map];rfl
def AW(h:Wd G T W)(hp:P.length=W.length)(hs:Sm P)(b:Bool):dh [bj G T W,ak P,.int (sI b)]=some (.bool ((List.range (fD b G T).length).all λi=>decide (sr b W P i<=(mv b G T i).1))):=by
 have hl:=h.pl b;refine ck ?_;show ir [.val (bj G T W),.val (ak P),.val (.int (sI b))]=_;have he:bE (aa (f2 bf (ae 0) (ae 2)) af) [some (bj G T W),some (ak P),some (.int (sI b))]=some ((List.range (fD b G T).length).map λi=>.tuple [nD i,bX (mv b G T i)]):=by
  have:=oX (fD b G T);unfold mv;rw[<- this];cases b<;>rfl
 have c:=iO (cs:=[0,1,2]) (tt:=λ_=>some true) (te:=f2 Bq (ah 4 gR (aa (ae 2) (aa (ae 3) (aa (ae 4) (aa (ae 0) af))))) (f2 bf (ae 1) (fC (.int 0)))) (p:=λ_=>true) (h:=λi=>.bool (decide (sr b W P i<=(mv b G T i).1))) he (by lia) λi hi=>⟨rfl,λ_=>aZ (a:=.int (sr b W P i)) (b:=.int (mv b G T i).1) rfl (call_of (CH h hp hs b i) rfl rfl) rfl⟩
 refine cY ?_;show aY gg (aa (ba (ao 2 [0,1,2] (bE (aa (f2 bf (ae 0) (ae 2)) af)) (iA 0 1) (λ_=>some true) (f2 Bq (ah 4 gR (aa (ae 2) (aa (ae 3) (aa (ae 4) (aa (ae 0) af))))) (f2 bf (ae 1) (fC (.int 0)))))) af) [some (bj G T W),some (ak P),some (.int (sI b))]=_;simp?[aY,aa,af,ba,c,zB,zA];rw[show (List.range (fD b G T).length).filter (λ_=>true)=List.range (fD b G T).length by simp,rH]
def Gh(ha:fa ρ=some (.bool true))(hb:fb ρ=some d):jv fa fb ρ=some d:=by
 simp?[jv,ha,zA,hb]
def IL(ha:fa ρ=some (.bool false)):jv fa fb ρ=some (.bool false):=by
 simp?[jv,ha,zA]
def HM(ha:fa ρ=some (.bool a))(hb:fb ρ=some (.bool b)):jv fa fb ρ=some (.bool (a&&b)):=by
 cases a
 ·exact IL ha
 ·exact Gh ha hb
def zj(h:f ρ=some d):aY g (aa f af) ρ=g [d]:=by
 simp?[aY,aa,af,h,zB,zA]
def l9{l:List α}(h:f ρ=some (.tuple (l.map k))):aY bz (aa f af) ρ=some (nD l.length):=by
 rw[zj h,Jz,zD]
def GF(W:List Wy)(P:List Int):Bool:=(List.range W.length).all λk=>decide (0<=P.getD k 0)&&decide (P.getD k 0<=(dy W k).2.2)
def Ad(b:Bool)(G T:List Pl)(W:List Wy)(P:List Int):Bool:=(List.range (fD b G T).length).all λi=>decide (sr b W P i<=(mv b G T i).1)
def Ma(G T:List Pl)(W:List Wy)(P:List Int):Bool:=GF W P&&(Ad false G T W P&&Ad true G T W P)
def sN(hp:P.length=W.length):Ma G T W P=true↔Pn G T W P:=by
 simp?[Ma,GF,Ad,zF,xF,List.mem_range,zJ];constructor
 ·rintro⟨h1,h2,h3⟩;exact⟨hp,h1,λb=>by cases b<;>assumption⟩
 ·intro p;exact⟨p.bd,p.am false,p.am true⟩
def LR(P:List Int):iP (ak P)=true:=rfl
def mL(h:Wd G T W)(hp:P.length=W.length)(hs:Sm P):aQ [bj G T W,ak P]=some (.bool (Ma G T W P)):=by
 have hw:=h.wl;have hlen:(P.map PyData.int).length=W.length:=by rw[zD,hp]
 refine ck ?_;show gS [.val (bj G T W),.val (ak P),.non]=_;unfold gS;have t1:Dl.aO 2 [0] (f2 bf (ae 0) (fC (.int 2))) [.val (bj G T W),.val (ak P),.non]=some (.nx [.val (bj G T W),.val (ak P),.val (.tuple (W.map aF))]):=eS (d:=.tuple (W.map aF)) rfl rfl rfl rfl;rw[aB t1];have el:bV [ak P,nD W.length,nD W.length]=some (.bool true):=by
  rw[show nD W.length=.int ((W.length:Nat):Int) from rfl,dw (LR P)];simp[long,ak,hp]
 have hl:∀ρ:Dl.Env,ae 2 ρ=some (.tuple (W.map aF))->aY bz (aa (ae 2) af) ρ=some (nD W.length):=λρ hr=>l9 hr;have c1:(bC (fB (ah 3 bV (aa (ae 1) (aa (aY bz (aa (ae 2) af)) (aa (aY bz (aa (ae 2) af)) af)))))) (aD [.val (bj G T W),.val (ak P),.val (.tuple (W.map aF))])=some false :=
  cT (br (call_of el (cons_of rfl (cons_of (hl _ rfl) (cons_of (hl _ rfl) rfl))) rfl))
 rw[aB (ee c1)];have hz:eL (aa (ae 2) (aa (ae 1) af)) [some (bj G T W),some (ak P),some (.tuple (W.map aF))]=some ((List.range W.length).map λi=>.tuple [aF (dy W i),.int (P.getD i 0)]):=by
  rw[<- rL hp];rfl
 have c2:=iO (cs:=[]) (tt:=λ_=>some true) (te:=ah 3 bu (aa (ae 1) (aa (fC (.int 0)) (aa (f2 bf (ae 0) (fC (.int 2))) af)))) (p:=λ_=>true) (h:=λk=>.bool (decide (0<=P.getD k 0)&&decide (P.getD k 0<=(dy W k).2.2))) hz (by lia)
  λi hi=>⟨rfl,λ_=>call_of (d9 (d:=.int (P.getD i 0)) rfl 0 (dy W i).2.2) rfl rfl⟩
 have hall:(fB (aY gg (aa (ba (ao 2 [] (eL (aa (ae 2) (aa (ae 1) af))) (iA 0 1) (λ_=>some true) (ah 3 bu (aa (ae 1) (aa (fC (.int 0)) (aa (f2 bf (ae 0) (fC (.int 2))) af)))))) af))) [some (bj G T W),some (ak P),some (.tuple (W.map aF))]=some (GF W P):=by
  refine br ?_;simp?[aY,aa,af,ba,c2,zB,zA];rw[show (List.range W.length).filter (λ_=>true)=List.range W.length by simp,rH];rfl
 have k0:=AW h hp hs false;have k1:=AW h hp hs true;cases hb:GF W P with
 | false =>
  rw[hb] at hall;refine mE ((jl (cT hall)).trans ?_);rw[Ma,hb];exact cY rfl
 | true =>
  rw[hb] at hall;rw[aB (ee (cT hall)),Ma,hb,jK];exact cY (HM (call_of k0 rfl rfl) (call_of k1 rfl rfl))
def pF(hk:k < W.length):dy W k∈W:=tH hk ▸ qA hk
def Pn.smP(h:Wd G T W)(p:Pn G T W P):Sm P:=λk=>by
 by_cases hk:k < W.length
 ·have:=p.bd k hk;have:=(h.wr _ (pF hk)).2.2.2;lia
 ·rw[zG,jL (by rw[p.len];lia)];simp
def p8(h:Wd G T W)(p:Pn G T W P):aQ [bj G T W,ak P]=some (.bool true):=by
 rw[mL h p.len (p.smP h),(sN p.len).mpr p]
def tup_is(h:fs ρ=some ds)(hl:ds.length<=1000):ay fs ρ=some (.tuple ds):=by
 simp?[ay,h,zA,cu (show ds.length<=4000 by lia),zB]
def rW{cs:List Nat}{fi:Dl.Env->Option (List D)}{te:Dl.Env->Option D}{ρ:Dl.Env}{is:List Nat}{f:Nat->D}(hfi:fi ρ=some (is.map nD))(hl:is.length<=1000)(hh:∀i∈is,te (some (nD i)::cs.map λj=>(ρ[j]?).getD none)=some (f i)):ao 1 cs fi (fG 0) (λ_=>some true) te ρ=some (is.map f):=by
 rw[cU (h:=λd=>f (kr d).toNat) hfi (by rw[zD];lia) λd hd=>?_]
 ·rw[zM];refine jB some (yH λi _=>?_);simp[kr]
 ·let⟨i,hi,rfl⟩:=List.mem_map.mp hd;rw[hh i hi];simp[kr]
def sy(f:Nat->D)(R:Nat->au->Prop):∀ (n k:Nat) (ρ:au),
  (∀j ρ,k<=j->j < k+n->R j ρ->∃ρ1 ρ2,tgt ρ (f j)=some ρ1/\gb ρ1=some (.nx ρ2)/\R (j+1) ρ2)->R k ρ->∃ρ',eH tgt gb ((List.range' k n).map f) ρ=some (.nx ρ')/\R (k+n) ρ'
 | 0,k,ρ,_,h=>⟨ρ,rfl,h⟩
 | n+1,k,ρ,hh,h=>by
  let⟨ρ1,ρ2,e1,e2,h2⟩:=hh k ρ (yL _) (by lia) h;let⟨ρ',e3,h3⟩:=sy f R n (k+1) ρ2 (λj ρ a b=>hh j ρ (by lia) (by lia)) h2;refine⟨ρ',?_,by rw[show k+(n+1)=k+1+n by lia];exact h3⟩;rw[kW,zI,eH,e1,zA,e2];exact e3
def Kj(hl:n<=1000):Dl.bS (.tuple [.int 0]) (nD n)=some (ak (zs n)):=by
 have e:oZ (.tuple [.int 0]) (nD n)=some (ak (zs n)):=by
  show (if uv ((n:Nat):Int)=true/\[PyData.int 0].length * ((n:Nat):Int).toNat<=sizeLine then some (PyData.tuple (List.replicate ((n:Nat):Int).toNat [PyData.int 0]).flatten) else none)=_;have hz:[PyData.int 0].length * n<=sizeLine:=by
   rw[xB,Nat.one_mul];exact yC hl (by decide)
  rw[yF,yK ⟨lL hl,hz⟩,JZ];rfl
 show ((sf nF λi j=>PyData.int (i * j)) (.tuple [.int 0]) (nD n)).or (oZ (.tuple [.int 0]) (nD n))=_;rw[e];rfl
def xc{W:List Wy}{P:List Int}(h:P.length=W.length):gK (P.map PyData.int) (W.map aF)=(List.range W.length).map λi=>.tuple [.int (P.getD i 0),aF (dy W i)]:=by
 have:∀ (a:List Int) (l:List Wy),a.length=l.length->gK (a.map PyData.int) (l.map aF)=(List.range l.length).map λi=>.tuple [.int (a.getD i 0),aF (dy l i)]:=by
  intro a
  induction a with
  | nil=>intro l e;cases l with|nil=>rfl|cons _ _=>simp at e
  | cons x a ih =>
   intro l e;cases l with
   | nil=>simp at e
   | cons w l =>
    rw[zI,zI,gK,ih l (by simpa using e),zL,vC,zI,zM];rfl
 exact this P W h
def wW(h:Wd G T W)(hp:P.length=W.length)(hs:Sm P)(b:Bool)(p:Int):cL [bj G T W,ak P,.int (sI b),.int p]=some (.int (sr b W P p)):=by
 have hw:=h.wl;refine ck ?_;show m9 [.val (bj G T W),.val (ak P),.val (.int (sI b)),.val (.int p)]=_;have hz:eL (aa (ae 1) (aa (f2 bf (ae 0) (fC (.int 2))) af)) [some (bj G T W),some (ak P),some (.int (sI b)),some (.int p)]=some ((List.range W.length).map λi=>.tuple [.int (P.getD i 0),aF (dy W i)]):=by
  rw[<- xc hp];rfl
 have c:ao 2 [2,3] (eL (aa (ae 1) (aa (f2 bf (ae 0) (fC (.int 2))) af))) (iA 0 1) (fB (f2 aW (f2 bf (ae 1) (ae 2)) (ae 3))) (ae 0) [some (bj G T W),some (ak P),some (.int (sI b)),some (.int p)]=some ((own b W p).map λi=>.int (P.getD i 0)):=by
  rw[iO (p:=λi=>decide (sR b (dy W i)=p)) (h:=λi=>.int (P.getD i 0)) hz (by lia) λi hi=>⟨?_,λ_=>rfl⟩]
  ·rfl
  ·show fB (f2 aW (f2 bf (ae 1) (ae 2)) (ae 3)) [some (.int (P.getD i 0)),some (aF (dy W i)),some (.int (sI b)),some (.int p)]=_;exact br (by rw[A6 (a:=.int (sR b (dy W i))) (b:=.int p) (aZ (AQ b _) rfl rfl) rfl,fJ])
 refine cY ?_;have e:((own b W p).map λi=>PyData.int (P.getD i 0))=((own b W p).map λi=>P.getD i 0).map PyData.int:=by rw[zM];rfl
 show aY pV (aa (ba (ao 2 [2,3] (eL (aa (ae 1) (aa (f2 bf (ae 0) (fC (.int 2))) af))) (iA 0 1) (fB (f2 aW (f2 bf (ae 1) (ae 2)) (ae 3))) (ae 0))) af) [some (bj G T W),some (ak P),some (.int (sI b)),some (.int p)]=_;rw[e] at c;simp?[aY,aa,af,ba,c,zB,zA];show pV [.list (((own b W p).map λi=>P.getD i 0).map PyData.int)]=_;simp?[pV,cK,oneOf,dI,zA,fA,AM hs hw b p,xG];rfl
def P5:au->Option Out:=(dJ [0,2] (bE (aa (f2 bf (ae 0) (ae 2)) af)) (eQ 3 4) (dC (fB (f2 uu (ah 4 cL (aa (ae 0) (aa (ae 1) (aa (ae 2) (aa (ae 3) af))))) (f2 bf (ae 4) (fC (.int 0))))) (aG (fC (.bool false))) dQ))
def IY(h:Wd G T W)(hp:P.length=W.length)(hs:Sm P)(b:Bool)(x y:Slot):(Ad b G T W P=false->P5 [.val (bj G T W),.val (ak P),.val (.int (sI b)),x,y]=some (.rt (.bool false)))/\(Ad b G T W P=true->∃x' y',P5 [.val (bj G T W),.val (ak P),.val (.int (sI b)),x,y]=some (.nx [.val (bj G T W),.val (ak P),.val (.int (sI b)),x',y'])):=by
 have hl:=h.pl b;let⟨f1,f2'⟩:=kb (tgt:=eQ 3 4) (gb:=dC (fB (f2 uu (ah 4 cL (aa (ae 0) (aa (ae 1) (aa (ae 2) (aa (ae 3) af))))) (f2 bf (ae 4) (fC (.int 0))))) (aG (fC (.bool false))) dQ)
  (λρ=>∃x y,ρ=[.val (bj G T W),.val (ak P),.val (.int (sI b)),x,y]) (λi:Nat=>.tuple [nD i,bX (mv b G T i)]) (λi=>decide ((mv b G T i).1 < sr b W P i)) (λ_=>.bool false)
  (l:=List.range (fD b G T).length) (ρ:=[.val (bj G T W),.val (ak P),.val (.int (sI b)),x,y])
  (λρ i hi hρ=>by
   let⟨x,y,rfl⟩:=hρ;have c:(fB (f2 uu (ah 4 cL (aa (ae 0) (aa (ae 1) (aa (ae 2) (aa (ae 3) af))))) (f2 bf (ae 4) (fC (.int 0))))) (aD [.val (bj G T W),.val (ak P),.val (.int (sI b)),.val (nD i),.val (bX (mv b G T i))])=some (decide ((mv b G T i).1 < sr b W P i)) :=
    br (aZ (gf _ _) (call_of (wW h hp hs b i) rfl rfl) (aZ (a:=bX (mv b G T i)) (b:=.int 0) rfl rfl rfl))
   refine⟨_,rfl,λhq=>?_,λhq=>?_⟩
   ·rw[hq] at c;exact (jl c).trans (cY rfl)
   ·rw[hq] at c;exact⟨_,ee c,_,_,rfl⟩) ⟨_,_,rfl⟩
 have he:bE (aa (f2 bf (ae 0) (ae 2)) af) (cc [.val (bj G T W),.val (ak P),.val (.int (sI b)),x,y])=some ((List.range (fD b G T).length).map λi=>.tuple [nD i,bX (mv b G T i)]):=by
  have:=oX (fD b G T);unfold mv;rw[<- this];cases b<;>rfl
 have hh:hand [0,2] 0 [Slot.val (bj G T W),.val (ak P),.val (.int (sI b)),x,y]=[Slot.val (bj G T W),.val (ak P),.val (.int (sI b)),x,y]:=rfl;unfold Ad;constructor
 ·intro hk;cases e:(List.range (fD b G T).length).find? λi=>decide ((mv b G T i).1 < sr b W P i) with
  | some i=>exact eO (f1 i e) he hh
  | none =>
   rw[List.find?_eq_none] at e;rw[List.all_eq_false] at hk;let⟨i,hi,hn⟩:=hk;have:=e i hi;simp?[zJ] at this hn;lia
 ·intro hk;have e:(List.range (fD b G T).length).find? (λi=>decide ((mv b G T i).1 < sr b W P i))=none:=by
   rw[List.find?_eq_none];intro i hi;have:=List.all_eq_true.mp hk i hi;simp?[zJ] at this ⊢;lia
  let⟨ρ',e',x',y',rfl⟩:=f2' e;exact⟨x',y',eO e' he hh⟩
def Fj:mj G T W P=(Ad false G T W P&&Ad true G T W P):=rfl
def oh(h:Wd G T W)(hp:P.length=W.length)(hs:Sm P):dB [bj G T W,ak P]=some (.bool (mj G T W P)):=by
 let⟨f1,f2'⟩:=kb (tgt:=v7 2) (gb:=P5)
  (λρ=>∃x y z,ρ=[.val (bj G T W),.val (ak P),x,y,z]) (λb:Bool=>.int (sI b)) (λb=>!(Ad b G T W P)) (λ_=>.bool false)
  (l:=[false,true]) (ρ:=[.val (bj G T W),.val (ak P),.non,.non,.non])
  (λρ b _ hρ=>by
   let⟨x,y,z,rfl⟩:=hρ;let⟨r1,r2⟩:=IY h hp hs b y z;refine⟨_,rfl,λhq=>?_,λhq=>?_⟩
   ·exact r1 (by simpa using hq)
   ·let⟨x',y',e⟩:=r2 (by simpa using hq);exact⟨_,e,_,_,_,rfl⟩) ⟨_,_,_,rfl⟩
 have hr:bN (aa (fC (.int 2)) af) (cc [.val (bj G T W),.val (ak P),.non,.non,.non])=some ([false,true].map λb=>.int (sI b)):=ym (n:=2) rfl (by lia);refine ck ?_;show i6 [.val (bj G T W),.val (ak P),.non,.non,.non]=_;unfold i6;rw[Fj];cases e0:Ad false G T W P with
 | false =>
  have e:[false,true].find? (λb=>!(Ad b G T W P))=some false:=by rw[vD (by simp[e0])]
  exact mE (eO (f1 _ e) hr rfl)
 | true =>
  cases e1:Ad true G T W P with
  | false =>
   have e:[false,true].find? (λb=>!(Ad b G T W P))=some true:=by rw[kF (by simp[e0]),vD (by simp[e1])]
   exact mE (eO (f1 _ e) hr rfl)
  | true =>
   have e:[false,true].find? (λb=>!(Ad b G T W P))=none:=by rw[kF (by simp[e0]),kF (by simp[e1])];rfl
   let⟨ρ',e',x,y,z,rfl⟩:=f2' e;exact (aB (eO e' hr rfl)).trans (cY rfl)
def Sm.app(ha:Sm a)(hb:Sm b):Sm (a++b):=λk=>by
 by_cases hk:k < a.length
 ·have:=ha k
  rwa [show (a++b).getD k 0=a.getD k 0 by simp[yR hk]]
 ·have:=hb (k - a.length)
  rwa [show (a++b).getD k 0=b.getD (k - a.length) 0 by simp[yS (by lia:a.length<=k)]]
def MA(h1:-1000000<=x)(h2:x<=1000000):Sm [x]:=λk=>by
 cases k with
 | zero=>exact⟨h1,h2⟩
 | succ k=>simp
def NO(n:Nat):Sm (zs n):=λk=>by rw[J0];lia
def nL(ns:List Int)(at':Int)(W:List Wy)(k:Nat):Int:=dr ns (at'+(k:Nat)) ((dy W k).2.2+1)
def zv(hl:ns.length<=63)(h:Wd G T W)(hk:k < W.length):0<=nL ns at' W k/\nL ns at' W k<=(dy W k).2.2:=by
 have:=(h.wr _ (pF hk)).2.2;have h1:=Kr (ns:=ns) (at'+(k:Nat)) ((dy W k).2.2+1) hl (by lia);have h2:=Kt (ns:=ns) (at'+(k:Nat)) ((dy W k).2.2+1) hl (by lia);unfold nL;lia
def Qi:au->Option Out:=(aw (aO 6 [0,1,3,4,5] (f2 az (ae 3) (ay (aa (ah 3 ai (aa (ae 0) (aa (f2 az (ae 1) (ae 4)) (aa (f2 az (f2 bf (ae 5) (fC (.int 2))) (fC (.int 1))) af)))) af)))) (aw (aO 7 [2,6] (ah 2 dB (aa (ae 2) (aa (f2 az (ae 6) (f2 bS (ay (aa (fC (.int 0)) af)) (f2 Dl.ku (aY bz (aa (f2 bf (ae 2) (fC (.int 2))) af)) (aY bz (aa (ae 6) af))))) af)))) (aO 3 [3,6,7] (iD (fB (ae 7)) (ae 6) (f2 az (ae 3) (ay (aa (fC (.int 0)) af)))))))
def nK(h:a.length+b.length<=1000):Dl.az (ak a) (ak b)=some (ak (a++b)):=by
 unfold ak;rw[Hq (by simp;lia),qZ]
def jg(h:tc ρ=some true)(ha:fa ρ=some d):iD tc fa fb ρ=some d:=by
 simp?[iD,h,zA,ha]
def ky(h:tc ρ=some false)(ha:fb ρ=some d):iD tc fa fb ρ=some d:=by
 simp?[iD,h,zA,ha]
def LY(hl:ns.length<=63)(h:Wd G T W)(hk:k<=W.length):Sm (jw (nL ns at' W) G T W k):=λj=>by
 by_cases hj:j < k
 ·have:=zx (d:=nL ns at' W) (G:=G) (T:=T) (W:=W) (λk hk=>zv hl h hk) h.lim k hk j hj;have:=(h.wr _ (pF (show j < W.length by lia))).2.2;lia
 ·rw[zG,jL (by rw[lj];lia)];simp
def Hg(hl:ns.length<=63)(h:Wd G T W)(hk:k < W.length)(x y:Slot):∃x' y',Qi [.val (bY ns),.val (.int at'),.val (bj G T W),.val (ak (jw (nL ns at' W) G T W k)),.val (nD k),.val (aF (dy W k)),x,y]=some (.nx [.val (bY ns),.val (.int at'),.val (bj G T W),.val (ak (jw (nL ns at' W) G T W (k+1))),.val (nD k),.val (aF (dy W k)),x',y']):=by
 have hw:=h.wl;have hr:=(h.wr _ (pF hk)).2.2;have hsm:=LY (at':=at') hl h (jS hk);have hfl:=lj (d:=nL ns at' W) (G:=G) (T:=T) (W:=W) k;have hdb:=zv (at':=at') hl h hk;have e2:jw (nL ns at' W) G T W (k+1)=if mj G T W ((jw (nL ns at' W) G T W k++[nL ns at' W k])++zs (W.length - (jw (nL ns at' W) G T W k++[nL ns at' W k]).length))=true then jw (nL ns at' W) G T W k++[nL ns at' W k] else jw (nL ns at' W) G T W k++[0]:=rfl
 rw[e2];clear e2;generalize hf:jw (nL ns at' W) G T W k=f at hsm hfl ⊢;generalize hd:nL ns at' W k=d at hdb ⊢;have ed:∀ρ:Dl.Env,ae 0 ρ=some (bY ns)->ae 1 ρ=some (.int at')->ae 4 ρ=some (nD k)->ae 5 ρ=some (aF (dy W k))->(ah 3 ai (aa (ae 0) (aa (f2 az (ae 1) (ae 4)) (aa (f2 az (f2 bf (ae 5) (fC (.int 2))) (fC (.int 1))) af)))) ρ=some (.int d):=λρ a b c e=>by
  rw[<- hd];exact call_of (rQ (at'+((k:Nat):Int)) ((dy W k).2.2+1) hl (by lia)) (cons_of a (cons_of (aZ (eC at' k) b c) (cons_of (aZ (eC (dy W k).2.2 1) (aZ (Br _) e rfl) rfl) rfl))) rfl
 have em:∀ρ:Dl.Env,ae 0 ρ=some (bY ns)->ae 1 ρ=some (.int at')->ae 3 ρ=some (ak f)->ae 4 ρ=some (nD k)->ae 5 ρ=some (aF (dy W k))->(f2 az (ae 3) (ay (aa (ah 3 ai (aa (ae 0) (aa (f2 az (ae 1) (ae 4)) (aa (f2 az (f2 bf (ae 5) (fC (.int 2))) (fC (.int 1))) af)))) af))) ρ=some (ak (f++[d])):=λρ a b z c e =>
  aZ (nK (a:=f) (b:=[d]) (by simp;lia)) z (CL (ed ρ a b c e))
 have t6:Dl.aO 6 [0,1,3,4,5] (f2 az (ae 3) (ay (aa (ah 3 ai (aa (ae 0) (aa (f2 az (ae 1) (ae 4)) (aa (f2 az (f2 bf (ae 5) (fC (.int 2))) (fC (.int 1))) af)))) af))) [.val (bY ns),.val (.int at'),.val (bj G T W),.val (ak f),.val (nD k),.val (aF (dy W k)),x,y]=some (.nx [.val (bY ns),.val (.int at'),.val (bj G T W),.val (ak f),.val (nD k),.val (aF (dy W k)),.val (ak (f++[d])),y]) :=
  eA (em _ rfl rfl rfl rfl rfl) (em _ rfl rfl rfl rfl rfl) rfl
 have hlen:(f++[d]).length=k+1:=by simp[hfl]
 have hsub:((W.length:Nat):Int) - (((f++[d]).length:Nat):Int)=((W.length - (f++[d]).length:Nat):Int):=by lia
 have hwl:((f++[d])++zs (W.length - (f++[d]).length)).length=W.length:=by simp[zs,hfl];lia
 have hsl:Sm ((f++[d])++zs (W.length - (f++[d]).length)):=(hsm.app (MA (by lia) (by lia))).app (NO _);have ef:∀ρ:Dl.Env,ae 2 ρ=some (bj G T W)->ae 6 ρ=some (ak (f++[d]))->(ah 2 dB (aa (ae 2) (aa (f2 az (ae 6) (f2 bS (ay (aa (fC (.int 0)) af)) (f2 Dl.ku (aY bz (aa (f2 bf (ae 2) (fC (.int 2))) af)) (aY bz (aa (ae 6) af))))) af))) ρ=some (.bool (mj G T W ((f++[d])++zs (W.length - (f++[d]).length)))):=λρ a b=>by
  refine call_of (oh h hwl hsl) (cons_of a (cons_of (aZ (nK ?_) b (aZ (Kj (n:=W.length - (f++[d]).length) (by lia)) (CL rfl) ?_)) rfl)) rfl
  ·rw[<- zN,hwl];lia
  ·rw[show nD (W.length - (f++[d]).length)=.int (((W.length:Nat):Int) - (((f++[d]).length:Nat):Int)) by rw[hsub]];exact aZ (sub_int _ _) (l9 (l:=W) (k:=aF) (aZ (si G T W) a rfl)) (l9 (l:=f++[d]) (k:=PyData.int) b)
 have t7:Dl.aO 7 [2,6] (ah 2 dB (aa (ae 2) (aa (f2 az (ae 6) (f2 bS (ay (aa (fC (.int 0)) af)) (f2 Dl.ku (aY bz (aa (f2 bf (ae 2) (fC (.int 2))) af)) (aY bz (aa (ae 6) af))))) af))) [.val (bY ns),.val (.int at'),.val (bj G T W),.val (ak f),.val (nD k),.val (aF (dy W k)),.val (ak (f++[d])),y]=some (.nx [.val (bY ns),.val (.int at'),.val (bj G T W),.val (ak f),.val (nD k),.val (aF (dy W k)),.val (ak (f++[d])),.val (.bool (mj G T W ((f++[d])++zs (W.length - (f++[d]).length))))]) :=
  eA (ef _ rfl rfl) (ef _ rfl rfl) rfl
 unfold Qi;rw[aB t6,aB t7];have h0:∀ρ:Dl.Env,ae 3 ρ=some (ak f)->(f2 az (ae 3) (ay (aa (fC (.int 0)) af))) ρ=some (ak (f++[0])):=λρ z=>aZ (nK (a:=f) (b:=[0]) (by simp;lia)) z (CL rfl);generalize mj G T W ((f++[d])++zs (W.length - (f++[d]).length))=fb;cases fb with
 | true =>
  rw[yK rfl];exact⟨_,_,eA (jg (br rfl) rfl) (jg (br rfl) rfl) rfl⟩
 | false =>
  rw[yM (by simp)];exact⟨_,_,eA (ky (br rfl) (h0 _ rfl)) (ky (br rfl) (h0 _ rfl)) rfl⟩
def CJ(W:List Wy):bT 0 (W.map aF)=(List.range' 0 W.length).map λi=>.tuple [nD i,aF (dy W i)]:=by
 rw[<- yG,enum_zip];apply jG
 ·simp
 ·intro i h1 h2;have:i < W.length:=by simpa using h2
  simp[tH this]
def wZ(hl:ns.length<=63)(h:Wd G T W):mZ [bY ns,.int at',bj G T W]=some (ak (jw (nL ns at' W) G T W W.length)):=by
 have hw:=h.wl;let⟨ρ',e,x4,x5,x6,x7,rfl⟩:=sy (tgt:=eQ 4 5) (gb:=Qi) (λi=>.tuple [nD i,aF (dy W i)]) (λk ρ=>∃x4 x5 x6 x7,ρ=[.val (bY ns),.val (.int at'),.val (bj G T W),.val (ak (jw (nL ns at' W) G T W k)),x4,x5,x6,x7]) W.length 0 [.val (bY ns),.val (.int at'),.val (bj G T W),.val (ak []),.non,.non,.non,.non]
  (λj ρ _ hj hρ=>by
   let⟨x4,x5,x6,x7,rfl⟩:=hρ;let⟨x',y',e⟩:=Hg (at':=at') hl h (show j < W.length by lia) x6 x7;exact⟨_,_,rfl,e,_,_,_,_,rfl⟩) ⟨_,_,_,_,rfl⟩
 refine ck ?_;show iF [.val (bY ns),.val (.int at'),.val (bj G T W),.non,.non,.non,.non,.non]=_;unfold iF;have t3:Dl.aO 3 [] (ay af) [.val (bY ns),.val (.int at'),.val (bj G T W),.non,.non,.non,.non,.non]=some (.nx [.val (bY ns),.val (.int at'),.val (bj G T W),.val (ak []),.non,.non,.non,.non]) :=
  eA (tup_is (ds:=[]) rfl (by simp)) (tup_is (ds:=[]) rfl (by simp)) rfl
 rw[aB t3];have he:bE (aa (f2 bf (ae 2) (fC (.int 2))) af) (cc [.val (bY ns),.val (.int at'),.val (bj G T W),.val (ak []),.non,.non,.non,.non])=some ((List.range' 0 W.length).map λi=>.tuple [nD i,aF (dy W i)]):=by
  rw[<- CJ];rfl
 rw[jC] at e;exact (aB (eO e he rfl)).trans (cY rfl)
def GR(hl:ns.length<=63)(h:Wd G T W):Pn G T W (jw (nL ns at' W) G T W W.length):=LL h λk hk=>zv hl h hk
def fT:∀ {l:List D},(∀d∈l,PyData.eqv d d=true)->PyData.eqvAll l l=true
 | [],_=>by simp[PyData.eqvAll]
 | d::l,h=>by
  rw[PyData.eqvAll,h d zE,fT λx hx=>h x (zC _ hx)];rfl
def HD(h:∀d∈l,PyData.eqv d d=true):PyData.eqv (.tuple l) (.tuple l)=true:=by
 rw[PyData.eqv,fT h]
def F7(a:List Int):PyData.eqv (ak a) (ak a)=true:=by rw[vt];simp
def K2(a:Int):PyData.eqv (.int a) (.int a)=true:=by
 have:=F7 [a];rw[ak,PyData.eqv,zI,yT,PyData.eqvAll] at this;simp?[zF] at this;exact this.1
def pE(h:Wd G T W):bg [bj G T W]=some (.bool true):=by rw[kj h.fit (by decide),h.wok]
def sm(l:List Nat)(f:Nat->Int):Int:=(l.map f).sum
def ch(m:Nat->Int):Int->List Nat->Nat->Int
 | _,[],_=>0
 | a,q::r,k=>if k=q then min (m q) a else ch m (a - min (m q) a) r k
def up:List Nat->Nat->List Nat
 | [],_=>[]
 | q::r,k=>if k=q then [q] else q::up r k
def lst(b:Bool)(G T:List Pl)(W:List Wy)(i:Nat):List Nat:=Qq b W i (mv b G T i).2
def amt(b:Bool)(G T:List Pl)(i:Nat):Int:=(mv b G T i).1
def vl(P:List Int)(q:Nat):Int:=P.getD q 0
section
variable {G T:List Pl}{W:List Wy}{P X c off:List Int}{b:Bool}{i k q:Nat}
end
section
variable {P X c off:List Int}
end
section
variable {P X c off:List Int}
end
section
variable {P X c off:List Int}
end
def gp(h:f ρ=some ds):ba f ρ=some (.list ds):=by
 simp?[ba,h,zB]
def Al(h:f ρ=some (.tuple ds)):aE f ρ=some ds:=by
 simp?[aE,h,zA,dI]
def Ae(h:f ρ=some (.list ds)):aE f ρ=some ds:=by
 simp?[aE,h,zA,dI]
def km(h:fs ρ=some ds)(hl:ds.length<=1000):bQ fs ρ=some ds:=by
 simp?[bQ,h,zA,cu (show ds.length<=4000 by lia)]
def nil_of(ρ:Dl.Env):ba (bQ af) ρ=some (.list []):=gp (km (ds:=[]) rfl (by simp))
def HS(h:t ρ=some false):fI t u ρ=some false:=by
 simp?[fI,h,zA]
def vg(h:t ρ=some true)(h2:u ρ=some b):fI t u ρ=some b:=by
 simp?[fI,h,zA,h2]
def m7{l:List Nat}:SeqAt.shaped (.list (l.map nD))=true :=
 (gu.lst (b:=l.length) (k:=0) (by simp) λx hx=>by let⟨i,_,rfl⟩:=List.mem_map.mp hx;exact jb _).shaped (by decide)
def CQ(l:List Nat):aW (.list (l.map nD)) (.list [])=some (.bool (decide (l=[]))):=by
 have h0:SeqAt.shaped (.list [])=true:=m7 (l:=[]);have e:(l.map nD).isEmpty=decide (l=[]):=by cases l<;>rfl
 simp?[aW,GH,m7,h0,jO,xG,PyData.eqv,kz,e,zB]
structure Wk(G T G' T':List Pl):Prop where
 len:∀b,(fD b G' T').length=(fD b G T).length
 lik:∀b i,(mv b G' T' i).2=(mv b G T i).2
 gv:∀i,amt false G' T' i<=amt false G T i
 tk:∀i,amt true G T i<=amt true G' T' i
section
variable {P X off:List Int}
end
def ext(l:Int)(r:List Int):List (List Int):=(List.range (l+1).toNat).map λm=>r++[((m:Nat):Int)]
def sh(k q:Nat):Nat:=if q < k then q else q+1
section
variable {G T:List Pl}{W:List Wy}{P X:List Int}{b:Bool}{i k q:Nat}
end
def gz{a c:List Int}(h:lexLt a c=false)(h2:lexLt c a=false):a=c:=o4 (by unfold lexLe;rw[h2];rfl) (by unfold lexLe;rw[h];rfl)
section
open Ex
abbrev Nf:Str:="NoWorld"
abbrev M3:Str:="NoPlan"
structure pQ(m:List D->Option D)(x:List D->Option Str)(ds:List D)(c:Str):Prop where
 n:m ds=none
 x:x ds=some c
structure uw(m:List D->Option D)(x:List D->Option Str)(ds:List D):Prop where
 n:m ds=some .none
 x:x ds=none
section
variable {m:List D->Option D}{x:List D->Option Str}{ds:List D}{c:Str}{n:Nat}{fs:Dl.Env->Option (List D)}{ρ:au}
def E6(h:m ds=none){ρ:Dl.Env}(hf:fs ρ=some ds):ah n m fs ρ=none:=by
 unfold ah;rw[hf,zA,h];simp
def Px(h:x ds=some c){ρ:Dl.Env}(hf:fs ρ=some ds)(hn:ds.length=n):mz n x fs ρ=some c:=by
 unfold mz;rw[hf,zA,yK hn,h]
def QZ(h:x ds=none){ρ:Dl.Env}(hf:fs ρ=some ds):mz n x fs ρ=none:=by
 unfold mz;rw[hf,zA,h];simp
def PZ(h:f (aD ρ)=none):iu f ρ=none:=by
 unfold iu;rw[h];rfl
def pQ.one(B:pQ m x ds c)(hf:fs (aD ρ)=some ds)(hn:ds.length=n):iu (ah n m fs) ρ=none/\gm (mz n x fs) ρ=some c:=⟨PZ (E6 B.n hf),Px B.x hf hn⟩
def uw.one(B:uw m x ds)(hf:fs (aD ρ)=some ds)(hn:ds.length=n):iu (ah n m fs) ρ=some (.nx ρ)/\gm (mz n x fs) ρ=none:=⟨zi (call_of B.n hf hn),QZ B.x hf⟩
def pQ.head(B:pQ m x ds c)(hf:fs (aD ρ)=some ds)(hn:ds.length=n):aw (iu (ah n m fs)) g ρ=none/\fV (gm (mz n x fs)) (iu (ah n m fs)) xr ρ=some c:=by
 let⟨a,b⟩:=B.one hf hn;constructor
 ·unfold aw;rw[a];rfl
 ·unfold fV;rw[b]
def uw.tail(B:uw m x ds)(hf:fs (aD ρ)=some ds)(hn:ds.length=n):aw (iu (ah n m fs)) g ρ=g ρ/\fV (gm (mz n x fs)) (iu (ah n m fs)) xr ρ=xr ρ:=by
 let⟨a,b⟩:=B.one hf hn;constructor
 ·exact aB a
 ·unfold fV qa;rw[b,a];rfl
def runN(h:g (ds.map Slot.val++List.replicate (n - ds.length) .non)=none):aU g n ds=none:=by
 unfold aU;rw[h];rfl
def OY(h:t (aD ρ)=some true):o8 t xa xb ρ=xa ρ:=by
 unfold o8;rw[h,zA,yK rfl]
def HJ(h:t (aD ρ)=some false):o8 t xa xb ρ=xb ρ:=by
 unfold o8;rw[h,zA,yM (by simp)]
end
section
variable {G T:List Pl}{W:List Wy}{P X:List Int}{b:Bool}{i:Nat}
def Nv(h:bg [d]=some (.bool false)):pQ aC aJ [d] Nf:=by
 have c:(bC (fB (ah 1 bg (aa (ae 0) af)))) (aD [.val d])=some true:=cT (b:=false) (br (call_of h rfl rfl));exact⟨runN (jl c),OY c⟩
def P0(h:Wd G T W):uw aC aJ [bj G T W]:=⟨qf h,HJ (cT (b:=true) (br (call_of (pE h) rfl rfl)))⟩
def Rh(hd:iP d=true)(h:whole a e d=true):uw gq j3 [d,.int a,.int e]:=by
 have c:(bC (fB (ah 3 bu (aa (ae 0) (aa (ae 1) (aa (ae 2) af)))))) (aD [.val d,.val (.int a),.val (.int e)])=some false:=cT (b:=true) (br (call_of ((d9 hd a e).trans (by rw[h])) rfl rfl));refine⟨?_,HJ c⟩;show (cH [.val d,.val (.int a),.val (.int e)]).map _=_;rw[show cH [.val d,.val (.int a),.val (.int e)]=some (.nx [.val d,.val (.int a),.val (.int e)]) from ee c];rfl
def okN(hd:iP d=true)(h:whole 0 (n - 1) d=true):uw fq iQ [d,.int n]:=by
 have z:=(Rh hd h).one (ρ:=[.val d,.val (.int n)]) (fs:=aa (ae 0) (aa (fC (.int 0)) (aa (f2 Dl.ku (ae 1) (fC (.int 1))) af))) (n:=3) rfl rfl;refine⟨?_,z.2⟩;show (cv [.val d,.val (.int n)]).map _=_;rw[show cv [.val d,.val (.int n)]=_ from z.1];rfl
def J9(b:Bool):uw lG sg [.int (sI b)]:=by
 have hb:whole 0 (2 - 1) (.int (sI b))=true:=by cases b<;>rfl
 exact⟨tJ b,((okN (n:=2) rfl hb).one (ρ:=[.val (.int (sI b))]) (fs:=aa (ae 0) (aa (fC (.int 2)) af)) (n:=2) rfl rfl).2⟩
def lq(h:Wd G T W)(hd:iP d=true)(hl:long W.length W.length d=false):aQ [bj G T W,d]=some (.bool false):=by
 refine ck ?_;show gS [.val (bj G T W),.val d,.non]=_;unfold gS;have ew:∀ρ:Dl.Env,ae 0 ρ=some (bj G T W)->f2 bf (ae 0) (fC (.int 2)) ρ=some (.tuple (W.map aF)):=λρ a=>aZ (si G T W) a rfl;refine (aB (eA (ew _ rfl) (ew _ rfl) rfl)).trans ?_;have el:∀ρ:Dl.Env,ae 2 ρ=some (.tuple (W.map aF))->aY bz (aa (ae 2) af) ρ=some (nD W.length):=λρ a=>l9 a;refine mE ((jl (cT (b:=false) (br (call_of ((dw hd W.length W.length).trans (by rw[hl])) (cons_of rfl (cons_of (el _ rfl) (cons_of (el _ rfl) rfl))) rfl)))).trans (cY rfl))
def oP{ds:List D}(h:ds.length≠n):long (n:Int) n (.tuple ds)=false:=by
 rw[oq];exact zY h
def Kv{fin:Str->Option D}(h:gb ρ=some (.rt d)):uz gb xg fin ρ=some (.rt d):=by
 unfold uz;rw[h]
def FA{fin:Str->Option D}(h:gb ρ=none)(h2:xg ρ=some c)(h3:fin c=some d):uz gb xg fin ρ=some (.rt d):=by
 unfold uz;rw[h,h2];simp?[zA,h3,zB]
def cN(j:Int):D:=.tuple [.str "refused",.int j]
def LO(b:Bool):PyData.eqv (.bool b) (.bool true)=b:=by cases b<;>simp[PyData.eqv]
def Bc(j:Int):PyData.eqv (cN j) (cN j)=true:=HD λd hd=>by
 simp?[zQ,yE,xU] at hd;rcases hd with rfl|rfl
 ·simp[PyData.eqv]
 ·exact K2 j
def mW(j:Int):∀n:Nat,SeqAt.shaped (.list (List.replicate n (cN j)))=true:=λn=>by
 have h:∀n:Nat,PyData.canLayAll0 (List.replicate n (cN j))=true/\PyData.depthAll (List.replicate n (cN j))<=2:=λn=>by
  have hs:PyData.canLay0 (cN j)=true:=by simp[cN,PyData.canLay0,PyData.canLayAll0];decide +kernel
  have hd:PyData.depth (cN j)<=2:=by simp[cN,PyData.depth,PyData.depthAll]
  induction n with
  | zero=>exact⟨by simp[PyData.canLayAll0],by simp[PyData.depthAll]⟩
  | succ n ih=>exact⟨by simp[xD,PyData.canLayAll0,hs,ih.1],by simp?[xD,PyData.depthAll];lia⟩
 have:=h n;unfold SeqAt.shaped;rw[zF];exact⟨by simp[PyData.canLay0,this.1],by simp[PyData.depth];lia⟩
def Ft(j:Int)(n:Nat):PyData.eqv (.list (List.replicate n (cN j))) (.list (List.replicate n (cN j)))=true:=by
 rw[PyData.eqv];exact fT λd hd=>by rw[List.eq_of_mem_replicate hd];exact Bc j
def CI(j:Int)(n:Nat):aW (.list (List.replicate n (cN j))) (.list (List.replicate n (cN j)))=some (.bool true):=by simp?[aW,GH,mW,jO,xG,Ft,zB]
def lX(a:α):∀n:Nat,(List.replicate n [a]).flatten=List.replicate n a
 | 0=>rfl
 | n+1=>by rw[xD,qM,lX a n,xD];rfl
def Fp(j:Int){n:Nat}(hn:n<=10)(ρ:Dl.Env):ba (uV (bQ (aa (ay (aa (fC (.str "refused")) (aa (fC (.int j)) af))) af)) (fC (.int n))) ρ=some (.list (List.replicate n (cN j))):=by
 refine gp ?_;have hr:bQ (aa (ay (aa (fC (.str "refused")) (aa (fC (.int j)) af))) af) ρ=some [cN j]:=km (cons_of (tup_is rfl (by simp)) rfl) (by simp);have hg:Bg [cN j] (.int ((n:Nat):Int))=some (List.replicate n [cN j]).flatten:=by
  have:=E3 (ds:=[cN j]) (k:=((n:Nat):Int)) (lL (by lia)) (by rw[xB,Nat.one_mul,yF];exact yC hn (by decide));rw[yF] at this;exact this
 have hc:(fC (.int ((n:Nat):Int)):Dl.Env->Option D) ρ=some (.int ((n:Nat):Int)):=rfl;unfold uV;rw[hr,zA,hc,zA,hg,lX]
def Cy{cs:List Nat}{ρ:Dl.Env}{is:List Nat}(hfi:fi ρ=some (is.map nD))(hl:is.length<=1000)(hh:∀i∈is,te (some (nD i)::cs.map λj=>(ρ[j]?).getD none)=some (cN j)):ba (ao 1 cs fi (fG 0) (λ_=>some true) te) ρ=some (.list (List.replicate is.length (cN j))):=by
 rw[gp (rW (f:=λ_=>cN j) hfi hl hh),List.map_const']
end
end
namespace K02M
open Ex
section
variable {G T:List Pl}{W:List Wy}{P:List Int}{d:D}{ds:List D}{w p:D}{c:Str}
def zip_any2(h:ds.length=W.length):gK ds (W.map aF)=(List.range W.length).map λi=>.tuple [ds.getD i .none,aF (dy W i)]:=by
 have:∀ (l:List Wy) (a:List D),a.length=l.length->gK a (l.map aF)=(List.range l.length).map λi=>.tuple [a.getD i .none,aF (dy l i)]:=by
  intro l
  induction l with
  | nil=>intro a e;cases a with|nil=>rfl|cons _ _=>simp at e
  | cons w l ih =>
   intro a e;cases a with
   | nil=>simp at e
   | cons x a =>
    rw[zI,gK,ih a (by simpa using e),zL,vC,zI,zM];rfl
 exact this W ds h
def shaped_ref(j:Int):SeqAt.shaped (cN j)=true:=by
 have:=mW j 1;simp[SeqAt.shaped,cN,PyData.canLay0,PyData.canLayAll0,PyData.depth,PyData.depthAll];decide +kernel
def gNeD_ref(j:Int):bb (cN j) (cN j)=some (.bool false):=by simp?[bb,GA,shaped_ref,jO,xG,Bc,zB];rfl
def refE(j:Int)(ρ:Dl.Env):ay (aa (fC (.str "refused")) (aa (fC (.int j)) af)) ρ=some (cN j):=tup_is (ds:=[.str "refused",.int j]) rfl (by simp)
def noWs(G T:List Pl)(W:List Wy):List D:=[.none,.tuple [.tuple (G.map bX),.tuple (T.map bX)],.tuple [.tuple (T.map bX),.tuple (G.map bX)],.tuple [],.tuple ([.tuple (G.map bX),.tuple (T.map bX),.tuple (W.map aF)]++[])]
def noW_no(h:Wd G T W):∀d∈(noWs G T W).take 4,bg [d]=some (.bool false):=λd hd=>by
 have hf:∀x∈[PyData.tuple (G.map bX),.tuple (T.map bX),.tuple (W.map aF)],gu 16 3 x:=by
  rcases h.fit with z|⟨xs,z,_,z2⟩
  ·exact z.elim
  ·rcases z with z|z
   ·cases z
   ·cases z;exact z2
 have key:∀ {d:D},gu 16 4 d->OA d=false->bg [d]=some (.bool false):=λhf hw=>by rw[kj hf (by decide),hw]
 simp?[noWs,List.take_succ_cons,List.take_zero,zQ,yE,xU] at hd;rcases hd with rfl|rfl|rfl|rfl
 ·exact key (.leaf trivial) rfl
 ·exact key (.tup (by simp) λx hx=>hf x (by simp?[zQ,yE,xU] at hx ⊢;rcases hx with rfl|rfl<;>simp)) rfl
 ·exact key (.tup (by simp) λx hx=>hf x (by simp?[zQ,yE,xU] at hx ⊢;rcases hx with rfl|rfl<;>simp)) rfl
 ·exact key (.tup (by simp) (by simp)) rfl
end
end K02M
abbrev tl(x:Str):List Nat:=x.cps.toList
def tS(l:List Nat):Str:=⟨l.toArray⟩
def bc(l:List Nat):tl (tS l)=l:=by simp[tl,tS]
def uO(x:Str):tS (tl x)=x:=by cases x;simp[tl,tS]
def kg{x y:Str}(h:tl x=tl y):x=y:=by rw[<- uO x,<- uO y,h]
def bK(x:Str):(tl x).length=x.length:=by simp[tl,Str.length]
def oa(x y:Str):tl (x++y)=tl x++tl y:=by
 show (Str.append x y).cps.toList=_;simp[Str.append,tl]
def cM(c:Nat):List Nat->List (List Nat)
 | []=>[[]]
 | x::r=>if x=c then []::cM c r else match cM c r with
  | p::ps=>(x::p)::ps
  | []=>[[x]]
def jn(c:List Nat):List (List Nat)->List Nat
 | []=>[]
 | [p]=>p
 | p::q::r=>p++(c++jn c (q::r))
def lH:∀ {l:List Nat},c∉l->cM c l=[l]
 | [],_=>rfl
 | x::r,h=>by
  have h1:x≠c:=λz=>h (by rw[z];exact zE);rw[cM,yM h1,lH λz=>h (zC _ z)]
def eh:∀ {p r:List Nat},c∉p->cM c (p++c::r)=p::cM c r
 | [],r,_=>by rw[xO,cM,yK rfl]
 | x::p,r,h=>by
  have h1:x≠c:=λz=>h (by rw[z];exact zE);rw[xE,cM,yM h1,eh λz=>h (zC _ z)]
def tR:∀ {ps:List (List Nat)},ps≠[]->(∀p∈ps,c∉p)->cM c (jn [c] ps)=ps
 | [],h,_=>absurd rfl h
 | [p],_,h=>by rw[jn];exact lH (h p zE)
 | p::q::r,_,h=>by
  rw[jn];show cM c (p++c::jn [c] (q::r))=_;rw[eh (h p zE),tR (by simp) λz hz=>h z (zC _ hz)]
def yf:∀l:List Nat,cM c l≠[]
 | []=>by simp[cM]
 | x::r=>by
  unfold cM;split
  ·simp
  ·split<;>simp
def nO(sep:Str):∀ps:List Str,tl (sep.join ps)=jn (tl sep) (ps.map tl)
 | []=>rfl
 | [p]=>rfl
 | p::q::r=>by
  have e:sep.join (p::q::r)=p++sep++sep.join (q::r):=rfl;rw[e,oa,oa,nO sep (q::r),List.append_assoc];rfl
def DL(sep:Str)(ps:List Str):tl (Txt.join sep ps)=jn (tl sep) (ps.map tl):=by
 unfold Txt.join;rw[StrLaws.glued_eq_join,nO]
def Do(x y:Str):Txt.split x y≠[]:=by
 unfold Txt.split;split
 ·simp
 ·split
  ·simp
  ·rw[StrLaws.partsBetween_eq];let⟨p,r,e⟩:=StrLaws.partsFrom_ne x y.length 0 (Builtin.Str.occurrences x y 0 x.length (x.length+1));rw[e];simp
def wt(x:Str)(c:Nat):(Txt.split x ⟨#[c]⟩).map tl=cM c (tl x):=by
 have h:=nO ⟨#[c]⟩ (Txt.split x ⟨#[c]⟩);rw[StrLaws.join_split] at h;rw[h];refine (tR ?_ λp hp=>?_).symm
 ·intro z;exact Do x ⟨#[c]⟩ (List.map_eq_nil_iff.mp z)
 ·let⟨q,hq,rfl⟩:=List.mem_map.mp hp;exact StrLaws.split_free x c q hq
def cZ(x:Str)(c:Nat):Txt.split x ⟨#[c]⟩=(cM c (tl x)).map tS:=by
 rw[<- wt,zM]
 conv=>lhs;rw[<- List.map_id (Txt.split x ⟨#[c]⟩)]
 exact yH λy _=>(uO y).symm
def IC(sep:Str)(ps:List (List Nat)):Txt.join sep (ps.map tS)=tS (jn (tl sep) ps):=by
 refine kg ?_;rw[DL,bc,zM]
 congr 1
 conv=>rhs;rw[<- List.map_id ps]
 exact yH λy _=>bc y
def n9:("\n":Str)=⟨#[10]⟩:=by decide +kernel
def uY:(" ":Str)=⟨#[32]⟩:=by decide +kernel
def NQ:("0123456789":Str)=⟨#[48,49,50,51,52,53,54,55,56,57]⟩:=by decide +kernel
def Ef:(".":Str)=⟨#[46]⟩:=by decide +kernel
def oY:("":Str)=⟨#[]⟩:=by decide +kernel
def Jy{n:Nat}(h:n < 10):((toString (n:Int):String):Str)=⟨#[48+n]⟩:=by
 match n,h with
 | 0,_|1,_|2,_|3,_|4,_|5,_|6,_|7,_|8,_|9,_=>decide +kernel
def gY:∀l:List Nat,(cM c l).length<=l.length+1
 | []=>by simp[cM]
 | x::r=>by
  have ih:=gY (c:=c) r;unfold cM;split
  ·simp;lia
  ·split
   ·rename_i p ps e;rw[e] at ih;simp at ih ⊢;lia
   ·simp
open Ex Rf
def iz:List Nat->Option Nat
 | [c]=>if 48<=c/\c < 58 then some (c - 48) else none
 | _=>none
abbrev pN:Str:="NoText"
def pk(h:iz l=some n):n < 10/\l=[48+n]:=by
 unfold iz at h;split at h
 ·split at h
  ·rename_i c hc;cases h;exact⟨by lia,by congr 1;lia⟩
  ·cases h
 ·cases h
def pb{x:Str}(hz:x.length<=sizeLine):(dE (fB (f2 bb (aY fj (aa (ae 0) af)) (fC (.int 1)))) (fB (f2 (λx y=>(tv x y).map PyData.bool) (ae 0) (fC (.str "0123456789"))))) [some (.str x)]=some (iz (tl x)).isNone:=by
 have e1:(fB (f2 bb (aY fj (aa (ae 0) af)) (fC (.int 1)))) [some (.str x)]=some (!decide (((x.length:Nat):Int)=1)):=by
  have:aY fj (aa (ae 0) af) [some (.str x)]=some (.int ((x.length:Nat):Int)):=by
   show fj [.str x]=_;show (if x.length<=sizeLine then some (PyData.int ((x.length:Nat):Int)) else none)=_;rw[yK hz]
  unfold fB f2;rw[this];rfl
 have e2:(fB (f2 (λx y=>(tv x y).map PyData.bool) (ae 0) (fC (.str "0123456789")))) [some (.str x)]=some (!(!(Builtin.Str.occurrences ("0123456789":Str) x 0 ("0123456789":Str).length 1).isEmpty)):=rfl;unfold dE;rw[e1,zA,e2];by_cases h1:x.length=1
 ·obtain⟨c,rfl⟩:∃c,x=⟨#[c]⟩:=by
   have:(tl x).length=1:=by rw[bK];exact h1
   let⟨c,hc⟩:=List.length_eq_one_iff.mp this;exact⟨c,by rw[<- uO x,hc];rfl⟩
  rw[StrLaws.found_one];have:tl ⟨#[c]⟩=[c]:=rfl;rw[this];have hd:("0123456789":Str).cps.toList=[48,49,50,51,52,53,54,55,56,57]:=by rw[NQ]
  rw[hd];unfold iz;by_cases hc:48<=c/\c < 58
  ·have:c∈[48,49,50,51,52,53,54,55,56,57]:=by
    let⟨a,b⟩:=hc;simp?[zQ,yE,xU];lia
   simp[hc,this];simp[Str.length]
  ·have:c∉[48,49,50,51,52,53,54,55,56,57]:=by
    simp?[zQ,yE,xU];lia
   simp[hc,this]
   try simp[Str.length]
 ·have:iz (tl x)=none:=by
   unfold iz;split
   ·rename_i c hc;exact absurd (by rw[<- bK,hc];rfl) h1
   ·rfl
  rw[this];have h2:¬ (((x.length:Nat):Int)=1):=by lia
  simp[h2]
def HX{n:Nat}(h:n < 10):Builtin.Str.occurrences ("0123456789":Str) (tS [48+n]) 0 ("0123456789":Str).length 1=[n]:=by
 match n,h with
 | 0,_|1,_|2,_|3,_|4,_|5,_|6,_|7,_|8,_|9,_=>decide +kernel
def Ik{n:Nat}(h:n < 10):aA [.str (tS [48+n])]=some (.int ((n:Nat):Int))/\bo [.str (tS [48+n])]=none:=by
 have hd:iz [48+n]=some n:=by
  show (if 48<=48+n/\48+n < 58 then some (48+n - 48) else none)=some n;rw[yK ⟨by lia,by lia⟩]
  congr 1
  lia
 have t:=pb (x:=tS [48+n]) (by rw[<- bK,bc];exact (by decide:1<=sizeLine));rw[bc,hd] at t;constructor
 ·have:dv [Slot.val (.str (tS [48+n]))]=some (.rt (.int ((n:Nat):Int))):=by
   unfold dv aw dC;rw[show aD [Slot.val (PyData.str (tS [48+n]))]=[some (.str (tS [48+n]))] from rfl,t];show aG (f2 lr (fC (.str "0123456789")) (ae 0)) [Slot.val (.str (tS [48+n]))]=_;have e:f2 lr (fC (.str "0123456789")) (ae 0) [some (.str (tS [48+n]))]=some (.int ((n:Nat):Int)):=by
    show lr (.str "0123456789") (.str (tS [48+n]))=_;unfold lr;dsimp only;rw[HX h]
   unfold aG;rw[show aD [Slot.val (PyData.str (tS [48+n]))]=[some (.str (tS [48+n]))] from rfl,e];rfl
  unfold aA aU;rw[show ([PyData.str (tS [48+n])].map Slot.val++List.replicate (1 - [PyData.str (tS [48+n])].length) Slot.non)=[Slot.val (.str (tS [48+n]))] from rfl,this];rfl
 ·show dF [Slot.val (.str (tS [48+n]))]=none;unfold dF o8;rw[show aD [Slot.val (PyData.str (tS [48+n]))]=[some (.str (tS [48+n]))] from rfl,t];rfl
def Aw{x:Str}(hz:x.length<=sizeLine)(h:iz (tl x)=none):pQ aA bo [.str x] pN:=by
 have t:=pb hz;rw[h] at t;constructor
 ·show aU dv 1 [.str x]=none;have:dv [Slot.val (.str x)]=none:=by
   unfold dv aw dC;rw[show aD [Slot.val (PyData.str x)]=[some (.str x)] from rfl,t];rfl
  unfold aU;rw[show ([PyData.str x].map Slot.val++List.replicate (1 - [PyData.str x].length) Slot.non)=[Slot.val (.str x)] from rfl,this];rfl
 ·show dF [Slot.val (.str x)]=some pN;unfold dF o8;rw[show aD [Slot.val (PyData.str x)]=[some (.str x)] from rfl,t];rfl
section
variable {m:List D->Option D}{x:List D->Option Str}{c:Str}
abbrev cF(m:List D->Option D):Dl.Env->Option D:=ah 1 m (aa (ae 0) af)
abbrev cX(x:List D->Option Str):Dl.Env->Option Str:=mz 1 x (aa (ae 0) af)
def Ao(d:D):cF m [some d]=m [d]:=rfl
def J3(d:D):cX x [some d]=x [d]:=rfl
def tL{f:D->D}:∀ {ds:List D},(∀d∈ds,m [d]=some (f d))->bp (fG 0) (λ_=>some true) (cF m) [none] ds=some (ds.map f)
 | [],_=>rfl
 | d::ds,h=>by
  unfold bp;rw[show fG 0 [none] d=some [some d] from rfl,zA,zA,yK rfl,Ao,h d zE,zA,tL λe he=>h e (zC _ he)];rfl
def mG:∀ {ds:List D},(∃d∈ds,m [d]=none)->bp (fG 0) (λ_=>some true) (cF m) [none] ds=none
 | [],⟨d,h,_⟩=>by cases h
 | d::ds,⟨e,he,hm⟩=>by
  unfold bp;rw[show fG 0 [none] d=some [some d] from rfl,zA,zA,yK rfl,Ao];rcases List.mem_cons.mp he with rfl|he
  ·rw[hm];rfl
  ·cases m [d] with
   | none=>rfl
   | some v=>rw[zA,mG ⟨e,he,hm⟩];rfl
def DZ:∀ {ds:List D},(∀d∈ds,x [d]=none)->Bm (fG 0) (λ_=>some true) (cF m) (cX x) [none] ds=none
 | [],_=>rfl
 | d::ds,h=>by
  unfold Bm;rw[show fG 0 [none] d=some [some d] from rfl,zA,zA,yK rfl,J3,h d zE];dsimp only;rw[DZ λe he=>h e (zC _ he)];cases cF m [some d]<;>rfl
def wY:∀ {ds:List D},(∀d∈ds,(∃v,m [d]=some v/\x [d]=none)\/x [d]=some c)->(∃d∈ds,x [d]=some c)->Bm (fG 0) (λ_=>some true) (cF m) (cX x) [none] ds=some c
 | [],_,⟨d,h,_⟩=>by cases h
 | d::ds,h,⟨e,he,hx⟩=>by
  unfold Bm;rw[show fG 0 [none] d=some [some d] from rfl,zA,zA,yK rfl,J3,Ao];rcases h d zE with ⟨v,h1,h2⟩|h1
  ·rw[h2,h1];dsimp only;rw[zA];refine wY (λz hz=>h z (zC _ hz)) ⟨e,?_,hx⟩;rcases List.mem_cons.mp he with rfl|he
   ·rw[h2] at hx;cases hx
   ·exact he
  ·rw[h1]
end
def dD(x:D):D:=match x with
 | .str a=>.int (((iz (tl a)).getD 0:Nat):Int)
 | _=>.none
def A2{a:Str}(hz:a.length<=sizeLine)(h:iz (tl a)=some n):aA [.str a]=some (dD (.str a))/\bo [.str a]=none:=by
 let⟨hn,e⟩:=pk h;have ea:a=tS [48+n]:=by rw[<- e,uO]
 have hd:dD (.str a)=.int ((n:Nat):Int):=by
  show PyData.int (((iz (tl a)).getD 0:Nat):Int)=_;rw[h];rfl
 rw[hd,ea];exact Ik hn
def HI{xs:List Str}(hl:xs.length<=sizeLine)(hz:∀a∈xs,a.length<=sizeLine)(h:∀a∈xs,(iz (tl a)).isSome=true) :
  bF [.list (xs.map PyData.str)]=some (.tuple (xs.map λa=>.int (((iz (tl a)).getD 0:Nat):Int)))/\cy [.list (xs.map PyData.str)]=none:=by
 have key:∀d∈xs.map PyData.str,aA [d]=some (dD d)/\bo [d]=none:=λd hd=>by
  let⟨a,ha,rfl⟩:=List.mem_map.mp hd;let⟨n,hn⟩:=Option.isSome_iff_exists.mp (h a ha);exact A2 (hz a ha) hn
 have e1:=tL (f:=dD) (m:=aA) (ds:=xs.map PyData.str) λd hd=>(key d hd).1;have e2:=DZ (m:=aA) (x:=bo) (ds:=xs.map PyData.str) λd hd=>(key d hd).2;constructor
 ·have:ao 1 [] (aE (ae 0)) (fG 0) (λ_=>some true) (cF aA) [some (.list (xs.map PyData.str))]=some ((xs.map PyData.str).map dD):=by
   show (bp (fG 0) (λ_=>some true) (cF aA) [none] (xs.map PyData.str)).bind small=_;rw[e1,zA];unfold small;rw[yK (by simpa using hl)]
  unfold bF aU hJ aG;show (((aY bx (aa (ba (ao 1 [] (aE (ae 0)) (fG 0) (λ_=>some true) (cF aA))) af) [some (.list (xs.map PyData.str))]).map _).map _)=_;have:aY bx (aa (ba (ao 1 [] (aE (ae 0)) (fG 0) (λ_=>some true) (cF aA))) af) [some (.list (xs.map PyData.str))]=some (.tuple ((xs.map PyData.str).map dD)):=by
   unfold aY aa ba;rw[this];rfl
  rw[this,zM];rfl
 ·show gh 1 [] (aE (ae 0)) (fG 0) (λ_=>some true) (cF aA) (cX bo) [some (.list (xs.map PyData.str))]=none;show (if (xs.map PyData.str).length<=sizeLine then Bm (fG 0) (λ_=>some true) (cF aA) (cX bo) [none] (xs.map PyData.str) else none)=none;rw[e2];split<;>rfl
def ED{xs:List Str}(hl:xs.length<=sizeLine)(hz:∀a∈xs,a.length<=sizeLine)(h:∃a∈xs,iz (tl a)=none):pQ bF cy [.list (xs.map PyData.str)] pN:=by
 have key:∀d∈xs.map PyData.str,(∃v,aA [d]=some v/\bo [d]=none)\/bo [d]=some pN:=λd hd=>by
  let⟨a,ha,rfl⟩:=List.mem_map.mp hd;cases e:iz (tl a) with
  | some n=>exact .inl ⟨_,A2 (hz a ha) e⟩
  | none=>exact .inr (Aw (hz a ha) e).x
 let⟨a,ha,hb⟩:=h;have B:=Aw (hz a ha) hb;have hm:PyData.str a∈xs.map PyData.str:=List.mem_map.mpr ⟨a,ha,rfl⟩;have e1:=mG (m:=aA) ⟨_,hm,B.n⟩;have e2:=wY (m:=aA) (x:=bo) key ⟨_,hm,B.x⟩;constructor
 ·have:ao 1 [] (aE (ae 0)) (fG 0) (λ_=>some true) (cF aA) [some (.list (xs.map PyData.str))]=none:=by
   show (bp (fG 0) (λ_=>some true) (cF aA) [none] (xs.map PyData.str)).bind small=_;rw[e1];rfl
  have:aY bx (aa (ba (ao 1 [] (aE (ae 0)) (fG 0) (λ_=>some true) (cF aA))) af) [some (.list (xs.map PyData.str))]=none:=by
   unfold aY aa ba;rw[this];rfl
  unfold bF aU hJ aG;show (((aY bx (aa (ba (ao 1 [] (aE (ae 0)) (fG 0) (λ_=>some true) (cF aA))) af) [some (.list (xs.map PyData.str))]).map _).map _)=_;rw[this];rfl
 ·show (if (xs.map PyData.str).length<=sizeLine then Bm (fG 0) (λ_=>some true) (cF aA) (cX bo) [none] (xs.map PyData.str) else none)=some pN;rw[e2,yK (by simpa using hl)]
def gU{a:Str}(h:PyData.strOk a=true):SeqAt.shaped (.str a)=true:=by simp[SeqAt.shaped,PyData.canLay0,PyData.depth,h]
def AS(a b:Str):PyData.eqv (.str a) (.str b)=(a == b):=by simp[PyData.eqv]
def eq_str{a b:Str}(ha:PyData.strOk a=true)(hb:PyData.strOk b=true):aW (.str a) (.str b)=some (.bool (a == b)):=by
 unfold aW GH;rw[yK ⟨gU ha,gU hb⟩,AS];rfl
def ne_str{a b:Str}(ha:PyData.strOk a=true)(hb:PyData.strOk b=true):bb (.str a) (.str b)=some (.bool (!(a == b))):=by
 unfold bb GA;rw[yK ⟨gU ha,gU hb⟩,AS];rfl
def lU{x:Str}{c:Nat}(hz:x.length+1<=sizeLine):bq (.str x) (.str ⟨#[c]⟩)=some ((Txt.split x ⟨#[c]⟩).map PyData.str):=by
 show (if ((⟨#[c]⟩:Str).length == 0)=false/\x.length<=sizeLine/\(Txt.split x ⟨#[c]⟩).length<=sizeLine then some ((Txt.split x ⟨#[c]⟩).map PyData.str) else none)=_;refine yK ⟨rfl,by lia,?_⟩;rw[cZ,zD];have:=gY (c:=c) (tl x);rw[bK] at this;lia
def gy:∀ {l p:List Nat},p∈cM c l->p.length<=l.length
 | [],p,h=>by
  rw[cM,yI] at h;rw[h];exact yL _
 | x::r,p,h=>by
  unfold cM at h;split at h
  ·rcases List.mem_cons.mp h with rfl|h
   ·exact xV _
   ·have:=gy h;rw[zL];lia
  ·split at h
   ·rename_i q ps e;rcases List.mem_cons.mp h with rfl|h
    ·have:=gy (c:=c) (l:=r) (p:=q) (by rw[e];exact zE);rw[zL,zL];lia
    ·have:=gy (c:=c) (l:=r) (p:=p) (by rw[e];exact zC _ h);rw[zL];lia
   ·rename_i e;exact absurd e (yf r)
def pD{x a:Str}(h:a∈Txt.split x ⟨#[c]⟩):a.length<=x.length:=by
 rw[cZ] at h;let⟨p,hp,rfl⟩:=List.mem_map.mp h;have:=gy hp;rw[bK] at this;rw[<- bK,bc];exact this
def jc(l:List Nat):Option (List Nat):=if l=[46] then some [] else if (cM 32 l).all (λp=>(iz p).isSome)=true then some ((cM 32 l).map λp=>(iz p).getD 0) else none
def KW(x:Str):(x == (".":Str))=decide (tl x=[46]):=by
 rw[Ef];by_cases h:tl x=[46]
 ·have:x=⟨#[46]⟩:=kg h;rw[this];rfl
 ·rw[zY h];cases e:x == (⟨#[46]⟩:Str) with
  | false=>rfl
  | true=>exact absurd (by rw[eq_of_beq e]) h
def Ay(x:Str)(hk:PyData.strOk x=true)(hz:x.length+1<=sizeLine)(h:tl x≠[46]):av [.str x]=bF [.list ((Txt.split x ⟨#[32]⟩).map PyData.str)]/\aS [.str x]=cy [.list ((Txt.split x ⟨#[32]⟩).map PyData.str)]:=by
 have t:fB (f2 aW (ae 0) (fC (.str "."))) [some (.str x)]=some false:=by
  have e:f2 aW (ae 0) (fC (.str ".")) [some (.str x)]=some (.bool false):=by
   show aW (.str x) (.str ".")=_;rw[eq_str hk (by decide +kernel),KW,zY h]
  unfold fB;rw[e];rfl
 have s:aa (ba (k6 bq (ae 0) (fC (.str " ")))) af [some (.str x)]=some [.list ((Txt.split x ⟨#[32]⟩).map PyData.str)]:=by
  have:k6 bq (ae 0) (fC (.str " ")) [some (.str x)]=some ((Txt.split x ⟨#[32]⟩).map PyData.str):=by
   show bq (.str x) (.str " ")=_;rw[uY];exact lU hz
  unfold aa ba;rw[this];rfl
 constructor
 ·unfold av aU ft aG;show ((iD (fB (f2 aW (ae 0) (fC (.str ".")))) (ay af) (ah 1 bF (aa (ba (k6 bq (ae 0) (fC (.str " ")))) af)) [some (.str x)]).map _).map _=_;unfold iD;rw[t];rw[zA];unfold ah;rw[s,zA,yK (by rfl)];cases bF [.list ((Txt.split x ⟨#[32]⟩).map PyData.str)]<;>rfl
 ·show nG (fB (f2 aW (ae 0) (fC (.str ".")))) zw (mz 1 cy (aa (ba (k6 bq (ae 0) (fC (.str " ")))) af)) [some (.str x)]=_;unfold nG;rw[t,zA,yM (by decide)];unfold mz;rw[s,zA,yK (by rfl)]
def LZ{x:Str}(hk:PyData.strOk x=true)(hz:x.length+1<=sizeLine)(h:jc (tl x)=some ns):av [.str x]=some (.tuple (ns.map λn=>.int ((n:Nat):Int)))/\aS [.str x]=none:=by
 unfold jc at h;split at h
 ·rename_i hp;cases h;have:x=⟨#[46]⟩:=kg hp;subst this;have t:fB (f2 aW (ae 0) (fC (.str "."))) [some (.str ⟨#[46]⟩)]=some true:=by
   have e:f2 aW (ae 0) (fC (.str ".")) [some (.str ⟨#[46]⟩)]=some (.bool true):=by
    show aW (.str ⟨#[46]⟩) (.str ".")=_;rw[eq_str hk (by decide +kernel),KW,zZ hp]
   unfold fB;rw[e];rfl
  constructor
  ·unfold av aU ft aG;show ((iD (fB (f2 aW (ae 0) (fC (.str ".")))) (ay af) (ah 1 bF (aa (ba (k6 bq (ae 0) (fC (.str " ")))) af)) [some (.str ⟨#[46]⟩)]).map _).map _=_;unfold iD;rw[t];rfl
  ·show nG (fB (f2 aW (ae 0) (fC (.str ".")))) zw (mz 1 cy (aa (ba (k6 bq (ae 0) (fC (.str " ")))) af)) [some (.str ⟨#[46]⟩)]=_;unfold nG;rw[t];rfl
 ·rename_i hp;split at h
  ·rename_i ha;cases h;let⟨r1,r2⟩:=Ay x hk hz hp;rw[r1,r2];have hl:(Txt.split x ⟨#[32]⟩).length<=sizeLine:=by
    rw[cZ,zD];have:=gY (c:=32) (tl x);rw[bK] at this;lia
   have:=HI (xs:=Txt.split x ⟨#[32]⟩) hl (λa ha=>by have:=pD ha;lia) λa hm=>by
    rw[cZ] at hm;let⟨p,hp,rfl⟩:=List.mem_map.mp hm;rw[bc];exact List.all_eq_true.mp ha p hp
   refine⟨?_,this.2⟩;rw[this.1,cZ,zM,zM]
   congr 2
  ·cases h
def HE{x:Str}(hk:PyData.strOk x=true)(hz:x.length+1<=sizeLine)(h:jc (tl x)=none):pQ av aS [.str x] pN:=by
 unfold jc at h;split at h
 ·cases h
 ·rename_i hp;split at h
  ·cases h
  ·rename_i ha;let⟨r1,r2⟩:=Ay x hk hz hp;have hl:(Txt.split x ⟨#[32]⟩).length<=sizeLine:=by
    rw[cZ,zD];have:=gY (c:=32) (tl x);rw[bK] at this;lia
   have ⟨p,hp1,hp2⟩:∃p∈cM 32 (tl x),iz p=none:=by
    rw[Bool.not_eq_true,List.all_eq_false] at ha;let⟨p,h1,h2⟩:=ha;exact⟨p,h1,by simpa using h2⟩
   have B:=ED (xs:=Txt.split x ⟨#[32]⟩) hl (λa ha=>by have:=pD ha;lia) ⟨tS p,by rw[cZ];exact List.mem_map.mpr ⟨p,hp1,rfl⟩,by rw[bc];exact hp2⟩;exact⟨by rw[r1];exact B.n,by rw[r2];exact B.x⟩
def lI{α:Type}(xs:List α):cut xs none (some (-1))=xs.dropLast:=by
 unfold cut;have e1:HT.bO xs.length 0 none=0:=rfl;have e2:HT.bO xs.length xs.length (some (-1))=xs.length - 1:=by
  show (if (-1:Int) < 0 then ((-1:Int)+(xs.length:Int)).toNat else min (-1:Int).toNat xs.length)=_;rw[yK (by decide)];lia
 rw[e1,e2,List.drop_zero,Nat.sub_zero,List.dropLast_eq_take]
def tT{α:Type}{xs:List α}{a:α}:md (xs++[a]) (-1)=some a:=by
 unfold md HZ;rw[yM (by decide),yK (by rw[zN];simp;lia)];show (xs++[a])[_]?=_;rw[show ((-1:Int)+((xs++[a]).length:Int)).toNat=xs.length by rw[zN];simp;lia];simp
abbrev sD(l:List Nat):D:=.str (tS l)
abbrev lv(x:Str)(ps:List D):au:=[Slot.val (.str x),Slot.val (.list ps)]
def rM{x:Str}(hz:x.length+1<=sizeLine):aO 1 [0] (ba (k6 bq (ae 0) (fC (.str "\n")))) [Slot.val (.str x),.non]=some (.nx (lv x ((cM 10 (tl x)).map sD))):=by
 have e:∀r,ba (k6 bq (ae 0) (fC (.str "\n"))) (some (.str x)::r)=some (.list ((cM 10 (tl x)).map sD)):=λr=>by
  have:k6 bq (ae 0) (fC (.str "\n")) (some (.str x)::r)=some ((cM 10 (tl x)).map sD):=by
   show bq (.str x) (.str "\n")=_;rw[n9,lU hz,cZ,zM];rfl
  unfold ba;rw[this];rfl
 unfold aO;rw[show aD [Slot.val (.str x),.non]=[some (.str x),none] from rfl,e,zA,yM (by simp[Dl.kq])];rw[show cc (hand [0] 0 [Slot.val (.str x),.non])=[some (.str x),none] from rfl,e];rfl
def Ec{x:Str}{ls:List (List Nat)}(hz:x.length+1<=sizeLine)(h:cM 10 (tl x)=ls++[[]]):aH [.str x]=some (.list (ls.map sD))/\bD [.str x]=none:=by
 have s:=rM hz;rw[h,qZ] at s;have ix:f2 bf (ae 1) (f1 er (fC (.int 1))) [some (.str x),some (.list (ls.map sD++[[]].map sD))]=some (.str (tS [])):=by
  show md (ls.map sD++[sD []]) (-1)=_;exact tT
 have t:fB (f2 bb (f2 bf (ae 1) (f1 er (fC (.int 1)))) (fC (.str ""))) [some (.str x),some (.list (ls.map sD++[[]].map sD))]=some false:=by
  unfold fB;have:f2 bb (f2 bf (ae 1) (f1 er (fC (.int 1)))) (fC (.str "")) [some (.str x),some (.list (ls.map sD++[[]].map sD))]=some (.bool false):=by
   show ((f2 bf (ae 1) (f1 er (fC (.int 1))) [some (.str x),some (.list (ls.map sD++[[]].map sD))]).bind λa=>bb a (.str ""))=_;rw[ix,zA,ne_str (by decide +kernel) (by decide +kernel)];rfl
  rw[this];rfl
 constructor
 ·unfold aH aU;rw[show ([PyData.str x].map Slot.val++List.replicate (2 - [PyData.str x].length) Slot.non)=[Slot.val (.str x),.non] from rfl];unfold ko;unfold aw;rw[s];show Option.map _ ((dC _ uI dQ (lv x (ls.map sD++[[]].map sD))).bind _)=_;unfold dC;rw[show aD (lv x (ls.map sD++[[]].map sD))=[some (.str x),some (.list (ls.map sD++[[]].map sD))] from rfl,t];show some (PyData.list (cut (ls.map sD++[[]].map sD) none (some (-1))))=_;rw[lI];simp
 ·show qa (aO 1 [0] (ba (k6 bq (ae 0) (fC (.str "\n"))))) _ [Slot.val (.str x),.non]=none;unfold qa;rw[s];show o8 _ _ _ (lv x (ls.map sD++[[]].map sD))=none;unfold o8;rw[show aD (lv x (ls.map sD++[[]].map sD))=[some (.str x),some (.list (ls.map sD++[[]].map sD))] from rfl,t];rfl
def Cd{x:Str}{ls:List (List Nat)}{l:List Nat}(hk:PyData.strOk (tS l)=true)(hz:x.length+1<=sizeLine)(h:cM 10 (tl x)=ls++[l])(hl:l≠[]):pQ aH bD [.str x] pN:=by
 have s:=rM hz;rw[h,qZ] at s;have ix:f2 bf (ae 1) (f1 er (fC (.int 1))) [some (.str x),some (.list (ls.map sD++[l].map sD))]=some (.str (tS l)):=by
  show md (ls.map sD++[sD l]) (-1)=_;exact tT
 have hne:(tS l == ("":Str))=false:=by
  cases e:tS l == ("":Str) with
  | false=>rfl
  | true =>
   have:tl (tS l)=[]:=by rw[eq_of_beq e,oY]
   rw[bc] at this;exact absurd this hl
 have t:fB (f2 bb (f2 bf (ae 1) (f1 er (fC (.int 1)))) (fC (.str ""))) [some (.str x),some (.list (ls.map sD++[l].map sD))]=some true:=by
  unfold fB;have:f2 bb (f2 bf (ae 1) (f1 er (fC (.int 1)))) (fC (.str "")) [some (.str x),some (.list (ls.map sD++[l].map sD))]=some (.bool true):=by
   show ((f2 bf (ae 1) (f1 er (fC (.int 1))) [some (.str x),some (.list (ls.map sD++[l].map sD))]).bind λa=>bb a (.str ""))=_;rw[ix,zA,ne_str hk (by decide +kernel),hne];rfl
  rw[this];rfl
 constructor
 ·unfold aH aU;rw[show ([PyData.str x].map Slot.val++List.replicate (2 - [PyData.str x].length) Slot.non)=[Slot.val (.str x),.non] from rfl];unfold ko;unfold aw;rw[s];show Option.map _ ((dC _ uI dQ (lv x (ls.map sD++[l].map sD))).bind _)=_;unfold dC;rw[show aD (lv x (ls.map sD++[l].map sD))=[some (.str x),some (.list (ls.map sD++[l].map sD))] from rfl,t];rfl
 ·show qa (aO 1 [0] (ba (k6 bq (ae 0) (fC (.str "\n"))))) _ [Slot.val (.str x),.non]=some pN;unfold qa;rw[s];show o8 _ _ _ (lv x (ls.map sD++[l].map sD))=some pN;unfold o8;rw[show aD (lv x (ls.map sD++[l].map sD))=[some (.str x),some (.list (ls.map sD++[l].map sD))] from rfl,t];rfl
def gM{te:Dl.Env->Option D}{r:Dl.Env}{f:D->D}:∀ {ds:List D},(∀d∈ds,te (some d::r)=some (f d))->bp (fG 0) (λ_=>some true) te (none::r) ds=some (ds.map f)
 | [],_=>rfl
 | d::ds,h=>by
  unfold bp;rw[show fG 0 (none::r) d=some (some d::r) from rfl,zA,zA,yK rfl,h d zE,zA,gM λe he=>h e (zC _ he)];rfl
def gE{α:Type}(p:α->Bool)(ds:List α):gg [.list (ds.map λd=>.bool (p d))]=some (.bool (ds.all p)):=by
 have:∀ds:List α,boolsOf (ds.map λd=>PyData.bool (p d))=some (ds.map p):=λds=>by
  induction ds with
  | nil=>rfl
  | cons d ds ih=>rw[zI,boolsOf,ih];rfl
 simp?[gg,oneOf,zA,this,zB,List.all_map];rfl
def wV{w:D}{ds:List D}{p:D->Bool}(hz:ds.length<=sizeLine)(h:∀d∈ds,aQ [w,d]=some (.bool (p d))):aL [w,.list ds]=some (.bool (ds.all p)):=by
 have c:ao 1 [0] (aE (ae 1)) (fG 0) (λ_=>some true) (ah 2 aQ (aa (ae 1) (aa (ae 0) af))) [some w,some (.list ds)]=some (ds.map λd=>.bool (p d)):=by
  show (bp (fG 0) (λ_=>some true) (ah 2 aQ (aa (ae 1) (aa (ae 0) af))) [none,some w] ds).bind small=_;rw[gM (f:=λd=>.bool (p d)) λd hd=>h d hd,zA];unfold small;rw[yK (by simpa using hz)]
 have e:aY gg (aa (ba (ao 1 [0] (aE (ae 1)) (fG 0) (λ_=>some true) (ah 2 aQ (aa (ae 1) (aa (ae 0) af))))) af) [some w,some (.list ds)]=some (.bool (ds.all p)):=by
  show ((aa (ba (ao 1 [0] (aE (ae 1)) (fG 0) (λ_=>some true) (ah 2 aQ (aa (ae 1) (aa (ae 0) af))))) af [some w,some (.list ds)]).bind gg)=_;have e2:ba (ao 1 [0] (aE (ae 1)) (fG 0) (λ_=>some true) (ah 2 aQ (aa (ae 1) (aa (ae 0) af)))) [some w,some (.list ds)]=some (.list (ds.map λd=>.bool (p d))):=by
   show (ao 1 [0] (aE (ae 1)) (fG 0) (λ_=>some true) (ah 2 aQ (aa (ae 1) (aa (ae 0) af))) [some w,some (.list ds)]).map PyData.list=_;rw[c];rfl
  show ((ba (ao 1 [0] (aE (ae 1)) (fG 0) (λ_=>some true) (ah 2 aQ (aa (ae 1) (aa (ae 0) af)))) [some w,some (.list ds)]).bind λx=>(af [some w,some (.list ds)]).map (x::·)).bind gg=_;rw[e2];exact gE p ds
 unfold aL aU mM aG;show ((aY gg _ [some w,some (.list ds)]).map _).map _=_;rw[e];rfl
def C0(ls:List (List Nat)):Option (List (List Nat)):=if ls.all (λl=>(jc l).isSome)=true then some (ls.map λl=>(jc l).getD []) else none
abbrev cg(ns:List Nat):D:=.tuple (ns.map λn=>.int ((n:Nat):Int))
def A9{ls:List (List Nat)}(hk:∀l∈ls,PyData.strOk (tS l)=true/\l.length+1<=sizeLine) :
  (∀ps,C0 ls=some ps->bp (fG 0) (λ_=>some true) (cF av) [none] (ls.map sD)=some (ps.map cg)/\Bm (fG 0) (λ_=>some true) (cF av) (cX aS) [none] (ls.map sD)=none) /\
  (C0 ls=none->bp (fG 0) (λ_=>some true) (cF av) [none] (ls.map sD)=none/\Bm (fG 0) (λ_=>some true) (cF av) (cX aS) [none] (ls.map sD)=some pN):=by
 have one:∀l∈ls,∀ns,jc l=some ns->av [sD l]=some (cg ns)/\aS [sD l]=none:=λl hl ns h=>by
  let⟨k1,k2⟩:=hk l hl;exact LZ k1 (by rw[<- bK,bc];exact k2) (by rw[bc];exact h)
 have non:∀l∈ls,jc l=none->pQ av aS [sD l] pN:=λl hl h=>by
  let⟨k1,k2⟩:=hk l hl;exact HE k1 (by rw[<- bK,bc];exact k2) (by rw[bc];exact h)
 constructor
 ·intro ps h;unfold C0 at h;split at h
  ·rename_i ha;cases h;have f:∀l∈ls,av [sD l]=some (cg ((jc l).getD []))/\aS [sD l]=none:=λl hl=>by
    let⟨ns,e⟩:=Option.isSome_iff_exists.mp (List.all_eq_true.mp ha l hl);rw[e];exact one l hl ns e
   refine⟨?_,DZ λd hd=>?_⟩
   ·have:=tL (m:=av) (f:=λd=>match d with|.str a=>cg ((jc (tl a)).getD [])|d=>d) (ds:=ls.map sD) λd hd=>by
     let⟨l,hl,rfl⟩:=List.mem_map.mp hd;rw[(f l hl).1];show _=some (cg ((jc (tl (tS l))).getD []));rw[bc]
    rw[this,zM,zM]
    congr 1
   ·let⟨l,hl,rfl⟩:=List.mem_map.mp hd;exact (f l hl).2
  ·cases h
 ·intro h;unfold C0 at h;split at h
  ·cases h
  ·rename_i ha;obtain⟨l,hl,hp⟩:∃l∈ls,jc l=none:=by
    rw[Bool.not_eq_true,List.all_eq_false] at ha;let⟨l,h1,h2⟩:=ha;exact⟨l,h1,by simpa using h2⟩
   have B:=non l hl hp;have hm:sD l∈ls.map sD:=List.mem_map.mpr ⟨l,hl,rfl⟩;refine⟨mG ⟨_,hm,B.n⟩,wY (λd hd=>?_) ⟨_,hm,B.x⟩⟩;let⟨q,hq,rfl⟩:=List.mem_map.mp hd;cases e:jc q with
   | some ns=>exact .inl ⟨_,one q hq ns e⟩
   | none=>exact .inr (non q hq e).x
abbrev CY:Dl.Env->Option (List D):=ao 1 [] (aE (ah 1 aH (aa (ae 1) af))) (fG 0) (λ_=>some true) (cF av)
abbrev MB:Dl.Env->Option Str:=qj (mz 1 bD (aa (ae 1) af)) (gh 1 [] (aE (ah 1 aH (aa (ae 1) af))) (fG 0) (λ_=>some true) (cF av) (cX aS))
abbrev J2:Dl.Env->Option Bool:=bC (fB (ah 2 aL (aa (ae 0) (aa (ae 2) af))))
section
variable {w:D}{x:Str}{ls:List (List Nat)}
def uG(h:aH [.str x]=some (.list ds)):CY [some w,some (.str x),none]=(bp (fG 0) (λ_=>some true) (cF av) [none] ds).bind small:=by
 have:aE (ah 1 aH (aa (ae 1) af)) [some w,some (.str x),none]=some ds:=by
  show ((ah 1 aH (aa (ae 1) af) [some w,some (.str x),none]).bind dI)=_;show ((if [PyData.str x].length=1 then aH [.str x] else none).bind dI)=_;rw[yK (by rfl),h];rfl
 unfold CY ao;rw[this];rfl
def rz(h:aH [.str x]=some (.list ds))(hz:ds.length<=sizeLine)(h2:bD [.str x]=none):MB [some w,some (.str x),none]=Bm (fG 0) (λ_=>some true) (cF av) (cX aS) [none] ds:=by
 have:aE (ah 1 aH (aa (ae 1) af)) [some w,some (.str x),none]=some ds:=by
  show ((if [PyData.str x].length=1 then aH [.str x] else none).bind dI)=_;rw[yK (by rfl),h];rfl
 have e:mz 1 bD (aa (ae 1) af) [some w,some (.str x),none]=none:=by
  show (if [PyData.str x].length=1 then bD [.str x] else none)=none;rw[yK (by rfl),h2]
 unfold MB qj;rw[e];dsimp only;unfold gh;rw[this,zA,yK hz];rfl
def K3(h:CY [some w,some (.str x),none]=some es):aX 2 [1] CY [Slot.val w,Slot.val (.str x),.non]=some (.nx [Slot.val w,Slot.val (.str x),.own es]):=by
 unfold aX;rw[show cc (hand [1] 0 [Slot.val w,Slot.val (.str x),.non])=[some w,some (.str x),none] from rfl,h];rfl
def Ai(O:uw aC aJ [w]):bh [w,.str x]=aU (aw (aX 2 [1] CY) (aw (dC J2 uI dQ) (aG (ae 2)))) 3 [w,.str x]/\bH [w,.str x]=fV (gm MB) (aX 2 [1] CY) (o8 J2 (Cq "NoText") jy) [Slot.val w,Slot.val (.str x),.non]:=by
 have h:=O.tail (n:=1) (fs:=aa (ae 0) af) (ρ:=[Slot.val w,Slot.val (.str x),.non]) (g:=aw (aX 2 [1] CY) (aw (dC J2 uI dQ) (aG (ae 2)))) (xr:=fV (gm MB) (aX 2 [1] CY) (o8 J2 (Cq "NoText") jy)) rfl rfl;constructor
 ·unfold bh aU;rw[show ([w,PyData.str x].map Slot.val++List.replicate (3 - [w,PyData.str x].length) Slot.non)=[Slot.val w,Slot.val (.str x),.non] from rfl];exact jB _ h.1
 ·exact h.2
def Bj(O:uw aC aJ [w])(h1:CY [some w,some (.str x),none]=none)(h2:MB [some w,some (.str x),none]=some pN):pQ bh bH [w,.str x] pN:=by
 let⟨a,b⟩:=Ai (x:=x) O;constructor
 ·rw[a];refine runN ?_;show aw (aX 2 [1] CY) _ [Slot.val w,Slot.val (.str x),.non]=none;unfold aw;have:aX 2 [1] CY [Slot.val w,Slot.val (.str x),.non]=none:=by
   unfold aX;rw[show cc (hand [1] 0 [Slot.val w,Slot.val (.str x),.non])=[some w,some (.str x),none] from rfl,h1];rfl
  rw[this];rfl
 ·rw[b];unfold fV gm;rw[show aD [Slot.val w,Slot.val (.str x),.non]=[some w,some (.str x),none] from rfl,h2]
def Ig(O:uw aC aJ [w])(B:pQ aH bD [.str x] pN):pQ bh bH [w,.str x] pN:=by
 refine Bj O ?_ ?_
 ·have:aE (ah 1 aH (aa (ae 1) af)) [some w,some (.str x),none]=none:=by
   show ((if [PyData.str x].length=1 then aH [.str x] else none).bind dI)=_;rw[yK (by rfl),B.n];rfl
  unfold CY ao;rw[this];rfl
 ·have e:mz 1 bD (aa (ae 1) af) [some w,some (.str x),none]=some pN:=by
   show (if [PyData.str x].length=1 then bD [.str x] else none)=_;rw[yK (by rfl),B.x]
  unfold MB qj;rw[e]
def IQ(O:uw aC aJ [w])(hl:aH [.str x]=some (.list (ls.map sD))/\bD [.str x]=none)(hz:ls.length<=sizeLine)(hk:∀l∈ls,PyData.strOk (tS l)=true/\l.length+1<=sizeLine)(h:C0 ls=none):pQ bh bH [w,.str x] pN:=by
 let⟨a,b⟩:=(A9 hk).2 h;refine Bj O ?_ ?_
 ·rw[uG hl.1,a];rfl
 ·rw[rz hl.1 (by rw[zD];exact hz) hl.2,b]
def MP(O:uw aC aJ [w])(hl:aH [.str x]=some (.list (ls.map sD))/\bD [.str x]=none)(hz:ls.length<=sizeLine)(hk:∀l∈ls,PyData.strOk (tS l)=true/\l.length+1<=sizeLine)(h:C0 ls=some ps)(ha:aL [w,.list (ps.map cg)]=some (.bool b)) :
  (b=true->bh [w,.str x]=some (.list (ps.map cg))/\bH [w,.str x]=none)/\(b=false->pQ bh bH [w,.str x] pN):=by
 let⟨c1,c2⟩:=(A9 hk).1 ps h;have hps:ps.length<=sizeLine:=by
  unfold C0 at h;split at h
  ·cases h;rw[zD];exact hz
  ·cases h
 have s:=K3 (w:=w) (x:=x) (es:=ps.map cg) (by
  rw[uG hl.1,c1,zA];unfold small;rw[yK (by simpa using hps)])
 have sx:MB [some w,some (.str x),none]=none:=by rw[rz hl.1 (by rw[zD];exact hz) hl.2,c2]
 have t:J2 [some w,some (.str x),some (.list (ps.map cg))]=some (!b):=by
  have:fB (ah 2 aL (aa (ae 0) (aa (ae 2) af))) [some w,some (.str x),some (.list (ps.map cg))]=some b:=by
   refine br ?_;show (if [w,PyData.list (ps.map cg)].length=2 then aL [w,.list (ps.map cg)] else none)=_;rw[yK (by rfl),ha]
  exact cT this
 let⟨a,b'⟩:=Ai (x:=x) O;have xs:bH [w,.str x]=o8 J2 (Cq "NoText") jy [Slot.val w,Slot.val (.str x),.own (ps.map cg)]:=by
  rw[b'];unfold fV gm;rw[show aD [Slot.val w,Slot.val (.str x),.non]=[some w,some (.str x),none] from rfl,sx];dsimp only;unfold qa;rw[s];rfl
 have ms:bh [w,.str x]=((aw (dC J2 uI dQ) (aG (ae 2)) [Slot.val w,Slot.val (.str x),.own (ps.map cg)]).map fun|.rt d=>d|.nx _=>.none):=by
  rw[a];unfold aU;rw[show ([w,PyData.str x].map Slot.val++List.replicate (3 - [w,PyData.str x].length) Slot.non)=[Slot.val w,Slot.val (.str x),.non] from rfl,aB s]
  all_goals (rcases aw (dC J2 uI dQ) (aG (ae 2)) [Slot.val w,Slot.val (.str x),.own (ps.map cg)] with _|(_|_)<;>rfl)
 constructor
 ·intro hb;rw[hb] at t;constructor
  ·rw[ms];unfold aw dC;rw[show aD [Slot.val w,Slot.val (.str x),.own (ps.map cg)]=[some w,some (.str x),some (.list (ps.map cg))] from rfl,t];rfl
  ·rw[xs,HJ t];rfl
 ·intro hb;rw[hb] at t;constructor
  ·rw[ms];unfold aw dC;rw[show aD [Slot.val w,Slot.val (.str x),.own (ps.map cg)]=[some w,some (.str x),some (.list (ps.map cg))] from rfl,t];rfl
  ·rw[xs,OY t];rfl
end
def Ml:cD=dB:=rfl
def Kz:bW=mZ:=rfl
def Jw:cW=dH:=rfl
def OX{n:Nat}(h:n < 10):iM [.int ((n:Nat):Int)]=some (sD [48+n]):=by
 show (if ((n:Nat):Int).natAbs.log2 < 1920 then some (PyData.str (toString ((n:Nat):Int))) else none)=_;rw[yK (by
  have:((n:Nat):Int).natAbs=n:=by simp
  rw[this]
  match n,h with
  | 0,_|1,_|2,_|3,_|4,_|5,_|6,_|7,_|8,_|9,_=>decide),Jy h]
 rfl
def tq{sep:Str}{ps:List (List Nat)}(h:ps.length * 100+ps.length * sep.length<=16777216)(hp:∀p∈ps,p.length<=100):dO (.str sep) (.list (ps.map sD))=some (sD (jn (tl sep) ps)):=by
 have e:strsOf (ps.map sD)=some (ps.map tS):=by
  have:=pM (ps.map tS);rw[zM] at this;exact this
 show ((strsOf (ps.map sD)).bind λxs=>if JoinOk sep xs=true then some (PyData.str (Txt.join sep xs)) else none)=_;rw[e,zA,yK ?_,IC];unfold JoinOk;rw[StrLaws.joinFits (B:=100) (λy hy=>?_) (by rw[zD];exact h)]
 ·rfl
 ·let⟨p,hp',rfl⟩:=List.mem_map.mp hy;rw[<- bK,bc];exact hp p hp'
def eJ(ns:List Nat):List Nat:=if ns=[] then [46] else jn [32] (ns.map λn=>[48+n])
abbrev CW:Dl.Env->Option D:=f2 dO (fC (.str " ")) (ba (ao 1 [] (aE (ae 0)) (fG 0) (λ_=>some true) (aY iM (aa (ae 0) af))))
def Dh{ns:List Nat}(h:∀n∈ns,n < 10)(hl:ns.length<=100):CW [some (cg ns)]=some (sD (jn [32] (ns.map λn=>[48+n]))):=by
 have c:ao 1 [] (aE (ae 0)) (fG 0) (λ_=>some true) (aY iM (aa (ae 0) af)) [some (cg ns)]=some ((ns.map λn=>[48+n]).map sD):=by
  show (bp (fG 0) (λ_=>some true) (aY iM (aa (ae 0) af)) [none] (ns.map λn=>.int ((n:Nat):Int))).bind small=_;rw[gM (f:=λd=>match d with|.int i=>sD [48+i.toNat]|d=>d) λd hd=>by
   let⟨n,hn,rfl⟩:=List.mem_map.mp hd;show iM [.int ((n:Nat):Int)]=some (sD [48+((n:Nat):Int).toNat]);rw[OX (h n hn)];rfl]
  rw[zA];unfold small;rw[yK (by simp?[zD];exact yC hl (by decide)),zM,zM];rfl
 show (((ao 1 [] (aE (ae 0)) (fG 0) (λ_=>some true) (aY iM (aa (ae 0) af)) [some (cg ns)]).map PyData.list).bind λy=>dO (.str " ") y)=_;rw[c];show dO (.str " ") (.list ((ns.map λn=>[48+n]).map sD))=_;rw[tq,uY]
 ·rw[zD,uY];show ns.length * 100+ns.length * 1<=_;lia
 ·intro p hp;let⟨n,_,rfl⟩:=List.mem_map.mp hp;exact (by decide:1<=100)
def Jk{ns:List Nat}(h:∀n∈ns,n < 10)(hl:ns.length<=100):eY [cg ns]=some (sD (jn [32] (ns.map λn=>[48+n]))):=by
 unfold eY aU rD aG;show ((CW [some (cg ns)]).map _).map _=_;rw[Dh h hl];rfl
def BP{ns:List Nat}(h:∀n∈ns,n < 10)(hl:ns.length<=100):bZ [cg ns]=some (sD (eJ ns)):=by
 have t:fB (f2 aW (aY bz (aa (ae 0) af)) (fC (.int 0))) [some (cg ns)]=some (decide (ns=[])):=by
  have e:f2 aW (aY bz (aa (ae 0) af)) (fC (.int 0)) [some (cg ns)]=some (.bool (decide (ns=[]))):=by
   show aW (.int (((ns.map λn=>PyData.int ((n:Nat):Int)).length:Nat):Int)) (.int 0)=_;rw[zD];cases ns with
   | nil=>rfl
   | cons n r =>
    show some (PyData.bool (decide ((((n::r).length:Nat):Int)=0)))=_;rw[zY (by rw[zL];lia),zY (by simp)]
  unfold fB;rw[e];rfl
 unfold bZ aU nc aG;show ((iD (fB (f2 aW (aY bz (aa (ae 0) af)) (fC (.int 0)))) (fC (.str ".")) (ah 1 eY (aa (ae 0) af)) [some (cg ns)]).map _).map _=_;unfold iD;rw[t];by_cases hn:ns=[]
 ·rw[zZ hn];subst hn;show some (PyData.str ".")=_;rw[Ef];rfl
 ·rw[zY hn];show (((if [cg ns].length=1 then eY [cg ns] else none)).map _).map _=_;rw[yK (by rfl),Jk h hl];unfold eJ;rw[yM hn];rfl
def su(ls:List (List Nat)):List Nat:=jn [] (ls.map λl=>l++[10])
def Gv{l:List Nat}(h:l.length<=99):bI (sD l) (.str "\n")=some (sD (l++[10])):=by
 show (if (tS l).length+("\n":Str).length<=sizeLine then some (PyData.str (tS l++("\n":Str))) else none)=_;rw[yK (by
  rw[<- bK,bc,n9];show l.length+1<=sizeLine;exact yC (Nat.succ_le_succ h) (by decide))]
 have:tS l++("\n":Str)=tS (l++[10]):=kg (by rw[oa,bc,bc,n9]);rw[this]
def yq{ls:List (List Nat)}(h:∀l∈ls,l.length<=99)(hl:ls.length<=100):cC [.list (ls.map sD)]=some (sD (su ls)):=by
 have c:ao 1 [] (aE (ae 0)) (fG 0) (λ_=>some true) (f2 bI (ae 0) (fC (.str "\n"))) [some (.list (ls.map sD))]=some ((ls.map λl=>l++[10]).map sD):=by
  show (bp (fG 0) (λ_=>some true) (f2 bI (ae 0) (fC (.str "\n"))) [none] (ls.map sD)).bind small=_;rw[gM (f:=λd=>match d with|.str a=>sD (tl a++[10])|d=>d) λd hd=>by
   let⟨l,hl,rfl⟩:=List.mem_map.mp hd;show bI (sD l) (.str "\n")=some (sD (tl (tS l)++[10]));rw[Gv (h l hl),bc]]
  rw[zA];unfold small;rw[yK (by simp?[zD];exact yC hl (by decide)),zM,zM];rfl
 have j:f2 dO (fC (.str "")) (ba (ao 1 [] (aE (ae 0)) (fG 0) (λ_=>some true) (f2 bI (ae 0) (fC (.str "\n"))))) [some (.list (ls.map sD))]=some (sD (su ls)):=by
  show (((ao 1 [] (aE (ae 0)) (fG 0) (λ_=>some true) (f2 bI (ae 0) (fC (.str "\n"))) [some (.list (ls.map sD))]).map PyData.list).bind λy=>dO (.str "") y)=_;rw[c];show dO (.str "") (.list ((ls.map λl=>l++[10]).map sD))=_;rw[tq,oY]
  ·rfl
  ·rw[zD,oY];show ls.length * 100+ls.length * 0<=_;lia
  ·intro p hp;let⟨l,hl,rfl⟩:=List.mem_map.mp hp;rw[zN];exact Nat.succ_le_succ (h l hl)
 unfold cC aU ip aG;show ((f2 dO (fC (.str "")) (ba (ao 1 [] (aE (ae 0)) (fG 0) (λ_=>some true) (f2 bI (ae 0) (fC (.str "\n"))))) [some (.list (ls.map sD))]).map _).map _=_;rw[j];rfl
def AU:∀ {ls:List (List Nat)},(∀l∈ls,10∉l)->cM 10 (su ls)=ls++[[]]
 | [],_=>rfl
 | [l],h=>by
  show cM 10 (l++10::[])=_;rw[eh (h l zE)];rfl
 | l::q::r,h=>by
  have e:su (l::q::r)=l++10::su (q::r):=by
   show (l++[10])++([]++jn [] ((q::r).map λl=>l++[10]))=_;rw[xO,List.append_assoc];rfl
  rw[e,eh (h l zE),AU λz hz=>h z (zC _ hz)];rfl
def GQ{ns:List Nat}(h:∀n∈ns,n < 10):jc (eJ ns)=some ns:=by
 unfold eJ;split
 ·rename_i e;rw[e];rfl
 ·rename_i hn;have dg:∀n,n < 10->iz [48+n]=some n:=λn hn=>by
   show (if 48<=48+n/\48+n < 58 then some (48+n - 48) else none)=some n;rw[yK ⟨by lia,by lia⟩]
   congr 1
   lia
  have hs:cM 32 (jn [32] (ns.map λn=>[48+n]))=ns.map λn=>[48+n]:=tR (by simpa using hn) λp hp=>by
   let⟨n,_,rfl⟩:=List.mem_map.mp hp;simp;lia
  unfold jc;rw[yM ?_,hs,yK ?_,zM]
  ·congr 1
   conv=>rhs;rw[<- List.map_id ns]
   refine yH λn hm=>?_;show (iz [48+n]).getD 0=n;rw[dg n (h n hm)];rfl
  ·rw[xF];intro p hp;let⟨n,hm,rfl⟩:=List.mem_map.mp hp;rw[dg n (h n hm)];rfl
  ·intro z;have:=jB (cM 32) z;rw[hs] at this;cases ns with
   | nil=>exact hn rfl
   | cons n r =>
    have e:cM 32 [46]=[[46]]:=rfl;rw[e] at this;simp at this;lia
def jd(ns:List Nat):cg ns=ak (ns.map λn=>((n:Nat):Int)):=by
 show PyData.tuple _=PyData.tuple _;rw[zM];rfl
def Jq(ns:List Nat):fB (f2 bb (ae 0) (ay af)) [some (cg ns)]=some (!decide (ns=[])):=by
 have e:f2 bb (ae 0) (ay af) [some (cg ns)]=some (.bool (!decide (ns=[]))):=by
  show bb (cg ns) (ak [])=_;rw[jd,D7];cases ns<;>rfl
 unfold fB;rw[e];rfl
def lW{ns:List Nat}(hl:ns.length<=40):(eJ ns).length<=99:=by
 have key:∀ns:List Nat,(jn [32] (ns.map λn=>[48+n])).length<=2 * ns.length:=λns=>by
  induction ns with
  | nil=>exact yL _
  | cons n r ih =>
   cases r with
   | nil=>show 1<=2;decide
   | cons m r =>
    show ([48+n]++([32]++jn [32] ((m::r).map λn=>[48+n]))).length<=_;rw[zN,zN];simp?[zL,xJ] at ih ⊢;lia
 unfold eJ;split
 ·decide
 ·have:=key ns;lia
def v5{ns:List Nat}(h:∀n∈ns,n < 10):10∉eJ ns:=by
 have key:∀ns:List Nat,(∀n∈ns,n < 10)->10∉jn [32] (ns.map λn=>[48+n]):=λns=>by
  induction ns with
  | nil=>intro _ z;cases z
  | cons n r ih =>
   intro h;cases r with
   | nil=>intro z;have z:10∈[48+n]:=z;simp at z;lia
   | cons m r =>
    intro z;have z:10∈[48+n]++([32]++jn [32] ((m::r).map λn=>[48+n])):=z;rw[List.mem_append,List.mem_append] at z;rcases z with z|z|z
    ·simp at z;lia
    ·simp at z
    ·exact ih (λk hk=>h k (zC _ hk)) z
 unfold eJ;split
 ·decide
 ·exact key ns h
def vi(h:∀ns∈pss,(∀n∈ns,n < 10)/\ns.length<=40)(hl:pss.length<=100):eD [.list (pss.map cg)]=some (sD (su (pss.map eJ))):=by
 have one:∀ns∈pss,f2 bI (iD (fB (f2 bb (ae 0) (ay af))) CW (fC (.str "."))) (fC (.str "\n")) [some (cg ns)]=some (sD (eJ ns++[10])):=λns hm=>by
  let⟨h1,h2⟩:=h ns hm;have e:iD (fB (f2 bb (ae 0) (ay af))) CW (fC (.str ".")) [some (cg ns)]=some (sD (eJ ns)):=by
   unfold iD;rw[Jq];by_cases hn:ns=[]
   ·subst hn;show some (PyData.str ".")=_;rw[Ef];rfl
   ·rw[zY hn];show CW [some (cg ns)]=_;rw[Dh h1 (by lia)];unfold eJ;rw[yM hn]
  show ((iD (fB (f2 bb (ae 0) (ay af))) CW (fC (.str ".")) [some (cg ns)]).bind λa=>bI a (.str "\n"))=_;rw[e];exact Gv (lW h2)
 have c:ao 1 [] (aE (ae 0)) (fG 0) (λ_=>some true) (f2 bI (iD (fB (f2 bb (ae 0) (ay af))) CW (fC (.str "."))) (fC (.str "\n"))) [some (.list (pss.map cg))]=some (((pss.map eJ).map λl=>l++[10]).map sD):=by
  have:bp (fG 0) (λ_=>some true) (f2 bI (iD (fB (f2 bb (ae 0) (ay af))) CW (fC (.str "."))) (fC (.str "\n"))) [none] (pss.map cg)=some (((pss.map eJ).map λl=>l++[10]).map sD):=by
   clear hl
   induction pss with
   | nil=>rfl
   | cons ns r ih =>
    rw[zI];unfold bp;rw[show fG 0 [none] (cg ns)=some [some (cg ns)] from rfl,zA,zA,yK rfl,one ns zE,zA,ih (λz hz=>h z (zC _ hz)) (λz hz=>one z (zC _ hz))];rfl
  show (bp (fG 0) (λ_=>some true) (f2 bI (iD (fB (f2 bb (ae 0) (ay af))) CW (fC (.str "."))) (fC (.str "\n"))) [none] (pss.map cg)).bind small=_;rw[this,zA];unfold small;rw[yK (by simp?[zD];exact yC hl (by decide))]
 have j:f2 dO (fC (.str "")) (ba (ao 1 [] (aE (ae 0)) (fG 0) (λ_=>some true) (f2 bI (iD (fB (f2 bb (ae 0) (ay af))) CW (fC (.str "."))) (fC (.str "\n"))))) [some (.list (pss.map cg))]=some (sD (su (pss.map eJ))):=by
  show (((ao 1 [] (aE (ae 0)) (fG 0) (λ_=>some true) (f2 bI (iD (fB (f2 bb (ae 0) (ay af))) CW (fC (.str "."))) (fC (.str "\n"))) [some (.list (pss.map cg))]).map PyData.list).bind λy=>dO (.str "") y)=_;rw[c];show dO (.str "") (.list (((pss.map eJ).map λl=>l++[10]).map sD))=_;rw[tq,oY]
  ·rfl
  ·rw[zD,zD,oY];show pss.length * 100+pss.length * 0<=_;lia
  ·intro p hp;let⟨l,hl,rfl⟩:=List.mem_map.mp hp;let⟨ns,hm,rfl⟩:=List.mem_map.mp hl;rw[zN];exact Nat.succ_le_succ (lW (h ns hm).2)
 unfold eD aU mT aG;show ((f2 dO (fC (.str "")) (ba (ao 1 [] (aE (ae 0)) (fG 0) (λ_=>some true) (f2 bI (iD (fB (f2 bb (ae 0) (ay af))) CW (fC (.str "."))) (fC (.str "\n"))))) [some (.list (pss.map cg))]).map _).map _=_;rw[j];rfl
abbrev JD:Dl.Env->Option Bool:=dE (bC (fB (Cj "list" (ae 1)))) (bC (fB (ah 2 aL (aa (ae 0) (aa (ae 1) af)))))
abbrev NY:Dl.Env->Option D:=ah 1 cC (aa (ba (ao 1 [] (aE (ae 1)) (fG 0) (λ_=>some true) (cF bZ))) af)
section
variable {w d:D}
def Bp(O:uw aC aJ [w]):bw [w,d]=aU (aw (dC JD uI dQ) (aG NY)) 2 [w,d]/\b0 [w,d]=o8 JD (Cq "NoPlan") jy [Slot.val w,Slot.val d]:=by
 have h:=O.tail (n:=1) (fs:=aa (ae 0) af) (ρ:=[Slot.val w,Slot.val d]) (g:=aw (dC JD uI dQ) (aG NY)) (xr:=o8 JD (Cq "NoPlan") jy) rfl rfl;constructor
 ·unfold bw aU;rw[show ([w,d].map Slot.val++List.replicate (2 - [w,d].length) Slot.non)=[Slot.val w,Slot.val d] from rfl];exact jB _ h.1
 ·exact h.2
def Ks(O:uw aC aJ [w])(t:JD [some w,some d]=some true):pQ bw b0 [w,d] M3:=by
 let⟨a,b⟩:=Bp (d:=d) O;constructor
 ·rw[a];refine runN ?_;show aw (dC JD uI dQ) (aG NY) [Slot.val w,Slot.val d]=none;unfold aw dC;rw[show aD [Slot.val w,Slot.val d]=[some w,some d] from rfl,t];rfl
 ·rw[b,OY t];rfl
def tV(O:uw aC aJ [w])(hd:Cj "list" (ae 1) [some w,some d]=some (.bool false)):pQ bw b0 [w,d] M3:=by
 refine Ks O ?_;have e:=cT (br hd);unfold JD dE;rw[e];rfl
def HY(ds:List D):Cj "list" (ae 1) [some w,some (.list ds)]=some (.bool true):=rfl
def Bt(ha:aL [w,.list ds]=some (.bool b)):JD [some w,some (.list ds)]=some (!b):=by
 have e1:=cT (br (HY (w:=w) ds));have e2:fB (ah 2 aL (aa (ae 0) (aa (ae 1) af))) [some w,some (.list ds)]=some b:=by
  refine br ?_;show (if [w,PyData.list ds].length=2 then aL [w,.list ds] else none)=_;rw[yK (by rfl),ha]
 unfold JD dE;rw[e1];show bC _ _=_;exact cT e2
def z9(O:uw aC aJ [w])(ha:aL [w,.list ds]=some (.bool false)):pQ bw b0 [w,.list ds] M3:=Ks O (Bt ha)
def NL(O:uw aC aJ [w])(h:∀ns∈pss,(∀n∈ns,n < 10)/\ns.length<=40)(hl:pss.length<=100)(ha:aL [w,.list (pss.map cg)]=some (.bool true)) :
  bw [w,.list (pss.map cg)]=some (sD (su (pss.map eJ)))/\b0 [w,.list (pss.map cg)]=none:=by
 let⟨a,b⟩:=Bp (d:=.list (pss.map cg)) O;have t:=Bt ha;have c:bp (fG 0) (λ_=>some true) (cF bZ) [none] (pss.map cg)=some ((pss.map eJ).map sD):=by
  clear ha a b t hl
  induction pss with
  | nil=>rfl
  | cons ns r ih =>
   rw[zI];unfold bp;let⟨h1,h2⟩:=h ns zE;rw[show fG 0 [none] (cg ns)=some [some (cg ns)] from rfl,zA,zA,yK rfl,Ao,BP h1 (by lia),zA,ih λz hz=>h z (zC _ hz)];rfl
 have e:NY [some w,some (.list (pss.map cg))]=some (sD (su (pss.map eJ))):=by
  have l:ba (ao 1 [] (aE (ae 1)) (fG 0) (λ_=>some true) (cF bZ)) [some w,some (.list (pss.map cg))]=some (.list ((pss.map eJ).map sD)):=by
   show ((bp (fG 0) (λ_=>some true) (cF bZ) [none] (pss.map cg)).bind small).map PyData.list=_;rw[c,zA];unfold small;rw[yK (by simp?[zD];exact yC hl (by decide))];rfl
  refine (call_of (yq (ls:=pss.map eJ) (λl hm=>?_) (by rw[zD];exact hl)) ?_ rfl)
  ·let⟨ns,hm',rfl⟩:=List.mem_map.mp hm;exact lW (h ns hm').2
  ·show ((ba (ao 1 [] (aE (ae 1)) (fG 0) (λ_=>some true) (cF bZ)) [some w,some (.list (pss.map cg))]).bind λx=>(af [some w,some (.list (pss.map cg))]).map (x::·))=_;rw[l];rfl
 constructor
 ·rw[a];unfold aU;rw[show ([w,PyData.list (pss.map cg)].map Slot.val++List.replicate (2 - [w,PyData.list (pss.map cg)].length) Slot.non)=[Slot.val w,Slot.val (.list (pss.map cg))] from rfl];unfold aw dC;rw[show aD [Slot.val w,Slot.val (.list (pss.map cg))]=[some w,some (.list (pss.map cg))] from rfl,t];show ((aG NY [Slot.val w,Slot.val (.list (pss.map cg))])).map _=_;unfold aG;rw[show aD [Slot.val w,Slot.val (.list (pss.map cg))]=[some w,some (.list (pss.map cg))] from rfl,e];rfl
 ·rw[b,HJ t];rfl
end
def Hj{n:Nat}(h:n < 10):PySem.intText? (tS [48+n])=some ((n:Nat):Int):=by
 match n,h with
 | 0,_|1,_|2,_|3,_|4,_|5,_|6,_|7,_|8,_|9,_=>decide +kernel
def F0{l:List Nat}(h:iz l=some n):ia [sD l]=some (.int ((n:Nat):Int)):=by
 let⟨hn,rfl⟩:=pk h;show (if (tS [48+n]).length<=640 then (PySem.intText? (tS [48+n])).map PyData.int else none)=_;rw[yK (by rw[<- bK,bc];exact (by decide:1<=640)),Hj hn];rfl
def NP{ps:List (List Nat)}(h:∀p∈ps,p.length<=sizeLine) :
  bp (fG 0) (dE (fB (f2 bb (aY fj (aa (ae 0) af)) (fC (.int 1)))) (fB (f2 (λx y=>(tv x y).map PyData.bool) (ae 0) (fC (.str "0123456789"))))) (ae 0) [none] (ps.map sD)=some ((ps.filter λp=>(iz p).isNone).map sD):=by
 induction ps with
 | nil=>rfl
 | cons p r ih =>
  have ih:=ih λq hq=>h q (zC _ hq);have t:=pb (x:=tS p) (by rw[<- bK,bc];exact h p zE);rw[bc] at t;rw[zI];unfold bp;rw[show fG 0 [none] (sD p)=some [some (.str (tS p))] from rfl,zA,t,zA,jW];cases hb:(iz p).isNone with
  | false =>
   rw[yM (by simp),ih];simp
  | true =>
   rw[yK rfl,ih];simp;rfl
abbrev FD:List Str:=["NoWorld","NoPlan","NoText"]
def sU(h:FD.contains c=true)(hj:pW (.bool true) (FD.map λn=>.bool (c == n))=some j):lK FD c=some (cN j):=by
 unfold lK;rw[yK h,hj];rfl
def Et:lK FD Nf=some (cN 0):=sU (by decide +kernel) (by simp?[FD,zI,pW,LO,show (Nf == ("NoWorld":Str))=true by decide +kernel,xG])
def pw:lK FD M3=some (cN 1):=sU (by decide +kernel) (by simp?[FD,zI,pW,LO,show (M3 == ("NoWorld":Str))=false by decide +kernel,show (M3 == ("NoPlan":Str))=true by decide +kernel,xG,yN,qP,zB])
def xi:lK FD pN=some (cN 2):=sU (by decide +kernel) (by simp?[FD,zI,pW,LO,show (pN == ("NoWorld":Str))=false by decide +kernel,show (pN == ("NoPlan":Str))=false by decide +kernel,show (pN == ("NoText":Str))=true by decide +kernel,xG,yN,qP,zB])
abbrev Jr(k:Int)(w p:D):au:=[Slot.val (.int k),Slot.val w,Slot.val p,.non]
def M1(k:Int)(w p:D):fB (f2 aW (ae 0) (fC (.int 0))) (aD (Jr k w p))=some (decide (k=0)):=br rfl
def Ej(h:bw [w,p]=some d):ar [.int 0,w,p]=some d:=ck (Kv (ρ:=Jr 0 w p) (cY (jg (M1 0 w p) (call_of h rfl rfl))))
def Gn(h:bh [w,p]=some d):ar [.int 1,w,p]=some d:=ck (Kv (ρ:=Jr 1 w p) (cY (ky (M1 1 w p) (call_of h rfl rfl))))
def eZ(B:pQ bw b0 [w,p] c)(hf:lK FD c=some d):ar [.int 0,w,p]=some d:=by
 refine ck (FA (ρ:=Jr 0 w p) ?_ ?_ hf)
 ·unfold aG iD;rw[M1];show (ah 2 bw (aa (ae 1) (aa (ae 2) af)) (aD (Jr 0 w p))).map _=none;rw[E6 B.n rfl];rfl
 ·show nG _ _ _ (aD (Jr 0 w p))=some c;unfold nG;rw[M1,zA,yK (by decide)];exact Px B.x rfl rfl
def je(B:pQ bh bH [w,p] c)(hf:lK FD c=some d):ar [.int 1,w,p]=some d:=by
 refine ck (FA (ρ:=Jr 1 w p) ?_ ?_ hf)
 ·unfold aG iD;rw[M1];show (ah 2 bh (aa (ae 1) (aa (ae 2) af)) (aD (Jr 1 w p))).map _=none;rw[E6 B.n rfl];rfl
 ·show nG _ _ _ (aD (Jr 1 w p))=some c;unfold nG;rw[M1,zA,yM (by decide)];exact Px B.x rfl rfl
def nY(W:List Wy):SeqAt.shaped (.tuple (W.map aF))=true:=by
 have h:∀W:List Wy,PyData.canLayAll0 (W.map aF)=true/\PyData.depthAll (W.map aF)<=2:=λW=>by
  induction W with
  | nil=>exact⟨by simp[PyData.canLayAll0],by simp[PyData.depthAll]⟩
  | cons w r ih =>
   refine⟨?_,?_⟩
   ·rw[zI];simp[PyData.canLayAll0,ih.1,aF,PyData.canLay0]
   ·rw[zI];have:=ih.2;simp[PyData.depthAll,aF,PyData.depth];lia
 let⟨a,b⟩:=h W;simp[SeqAt.shaped,PyData.canLay0,PyData.depth,a];lia
def vv(W:List Wy):aW (.tuple (W.map aF)) (.tuple [])=some (.bool (decide (W=[]))):=by
 have h0:=nY [];have e:PyData.eqv (.tuple (W.map aF)) (.tuple [])=decide (W=[]):=by
  cases W with
  | nil=>simp[PyData.eqv,PyData.eqvAll]
  | cons w r=>simp[PyData.eqv,PyData.eqvAll]
 unfold aW GH;rw[yK ⟨nY W,h0⟩,e];rfl
abbrev JO(w:D)(x:Str):au:=[Slot.val w,Slot.val (.str x),.non,.non,.non]
def Af{x:Str}(hk:PyData.strOk x=true)(w:D):fB (f2 aW (ae 1) (fC (.str "."))) (aD (JO w x))=some (decide (tl x=[46])):=by
 refine br ?_;show aW (.str x) (.str ".")=_;rw[eq_str hk (by decide +kernel),KW]
def GT{x:Str}(hk:PyData.strOk x=true):cf [bj G T [],.str x]=some (if tl x=[46] then .tuple [] else .none):=by
 have t:fB (f2 aW (f2 bf (ae 0) (fC (.int 2))) (ay af)) (aD (JO (bj G T []) x))=some true:=br (show aW (.tuple (([]:List Wy).map aF)) (.tuple [])=some (.bool true) from vv []);unfold cf kf;refine ck ?_;show aw _ _ (JO (bj G T []) x)=_;refine mE ((jl t).trans (cY ?_));by_cases h:tl x=[46]
 ·rw[yK h];exact jg ((Af hk _).trans (by rw[zZ h])) rfl
 ·rw[yM h];exact ky ((Af hk _).trans (by rw[zY h])) rfl
def BC{x:Str}{w:D}(hz:x.length+1<=sizeLine):aO 2 [1] (ba (k6 bq (ae 1) (fC (.str " ")))) (JO w x)=some (.nx [Slot.val w,Slot.val (.str x),Slot.val (.list ((cM 32 (tl x)).map sD)),.non,.non]):=by
 have e:∀r,ba (k6 bq (ae 1) (fC (.str " "))) (some w::some (.str x)::r)=some (.list ((cM 32 (tl x)).map sD)):=λr=>by
  have:k6 bq (ae 1) (fC (.str " ")) (some w::some (.str x)::r)=some ((cM 32 (tl x)).map sD):=by
   show bq (.str x) (.str " ")=_;rw[uY,lU hz,cZ,zM];rfl
  unfold ba;rw[this];rfl
 unfold aO;rw[show aD (JO w x)=[some w,some (.str x),none,none,none] from rfl,e,zA,yM (by simp[Dl.kq])];rw[show cc (hand [1] 0 (JO w x))=[some w,some (.str x),none,none,none] from rfl,e];rfl
def mX{ps:List (List Nat)}(h:∀p∈ps,PyData.strOk (tS p)=true):SeqAt.shaped (.list (ps.map sD))=true:=by
 have key:PyData.canLayAll0 (ps.map sD)=true/\PyData.depthAll (ps.map sD)<=1:=by
  induction ps with
  | nil=>exact⟨by simp[PyData.canLayAll0],by simp[PyData.depthAll]⟩
  | cons p r ih =>
   let⟨a,b⟩:=ih λq hq=>h q (zC _ hq);refine⟨?_,?_⟩
   ·rw[zI];simp[PyData.canLayAll0,PyData.canLay0,a,h p zE]
   ·rw[zI];simp?[PyData.depthAll,PyData.depth];lia
 let⟨a,b⟩:=key;simp[SeqAt.shaped,PyData.canLay0,PyData.depth,a];lia
def DP{ps:List (List Nat)}(h:∀p∈ps,PyData.strOk (tS p)=true):bb (.list (ps.map sD)) (.list [])=some (.bool (!decide (ps=[]))):=by
 have h0:SeqAt.shaped (.list [])=true:=mX (ps:=[]) λ_ z=>by cases z
 have e:(ps.map sD).isEmpty=decide (ps=[]):=by cases ps<;>rfl
 simp?[bb,GA,mX h,h0,jO,xG,PyData.eqv,kz,e,zB]
abbrev Kc(w:D)(x:Str)(ps:List (List Nat)):au:=[Slot.val w,Slot.val (.str x),Slot.val (.list (ps.map sD)),.non,.non]
abbrev Oj:Dl.Env->Option Bool:=dE (fB (f2 bb (aY fj (aa (ae 0) af)) (fC (.int 1)))) (fB (f2 (λx y=>(tv x y).map PyData.bool) (ae 0) (fC (.str "0123456789"))))
def EZ{ps:List (List Nat)}{x:Str}(hk:∀p∈ps,PyData.strOk (tS p)=true/\p.length<=sizeLine)(hl:ps.length<=sizeLine) :
  dE (fB (f2 bb (aY bz (aa (ae 2) af)) (aY bz (aa (f2 bf (ae 0) (fC (.int 2))) af)))) (fB (f2 bb (ba (ao 1 [] (aE (ae 2)) (fG 0) Oj (ae 0))) (ba (bQ af)))) (aD (Kc (bj G T W) x ps))=some (!(decide (ps.length=W.length)&&ps.all λp=>(iz p).isSome)):=by
 have e1:fB (f2 bb (aY bz (aa (ae 2) af)) (aY bz (aa (f2 bf (ae 0) (fC (.int 2))) af))) (aD (Kc (bj G T W) x ps))=some (!decide (ps.length=W.length)):=by
  refine br ?_;show bb (.int (((ps.map sD).length:Nat):Int)) (.int (((W.map aF).length:Nat):Int))=_;rw[zD,zD,Gq]
  congr 2
  simp;lia
 have c:ao 1 [] (aE (ae 2)) (fG 0) Oj (ae 0) (aD (Kc (bj G T W) x ps))=some ((ps.filter λp=>(iz p).isNone).map sD):=by
  show (bp (fG 0) Oj (ae 0) [none] (ps.map sD)).bind small=_;rw[NP λp hp=>(hk p hp).2,zA];unfold small;rw[yK (by rw[zD];exact yC (xP _ _) hl)]
 have e2:fB (f2 bb (ba (ao 1 [] (aE (ae 2)) (fG 0) Oj (ae 0))) (ba (bQ af))) (aD (Kc (bj G T W) x ps))=some (!(ps.all λp=>(iz p).isSome)):=by
  refine br ?_;show (((ao 1 [] (aE (ae 2)) (fG 0) Oj (ae 0) (aD (Kc (bj G T W) x ps))).map PyData.list).bind λa=>bb a (.list []))=_;rw[c];show bb (.list ((ps.filter λp=>(iz p).isNone).map sD)) (.list [])=_;rw[DP λp hp=>(hk p (List.mem_filter.mp hp).1).1]
  congr 3
  rw[kL,decide_eq_true_iff,List.filter_eq_nil_iff,xF];constructor
  ·intro h p hp;have:=h p hp;cases e:iz p with
   | none=>rw[e] at this;exact absurd rfl this
   | some n=>rfl
  ·intro h p hp z;have:=h p hp;cases e:iz p with
   | none=>rw[e] at this;cases this
   | some n=>rw[e] at z;cases z
 unfold dE;rw[e1,zA,e2];cases decide (ps.length=W.length)<;>rfl
abbrev GP(ps:List (List Nat)):List Nat:=ps.map λp=>(iz p).getD 0
def Mx(ns:List Nat):ie (cg ns)=true:=by
 show ke (ns.map λn=>PyData.int ((n:Nat):Int))=true
 induction ns with
 | nil=>simp[ke]
 | cons n r ih=>rw[zI];simp[ke,ie,ih]
def Dt{ps:List (List Nat)}{w:D}{x:Str}(h:∀p∈ps,(iz p).isSome=true)(hl:ps.length<=sizeLine) :
  aO 3 [2] (aY bx (aa (ba (ao 1 [] (aE (ae 2)) (fG 0) (λ_=>some true) (aY ia (aa (ae 0) af)))) af)) (Kc w x ps)=some (.nx [Slot.val w,Slot.val (.str x),Slot.val (.list (ps.map sD)),Slot.val (cg (GP ps)),.non]):=by
 have c:bp (fG 0) (λ_=>some true) (aY ia (aa (ae 0) af)) [none] (ps.map sD)=some ((GP ps).map λn=>.int ((n:Nat):Int)):=by
  rw[gM (f:=λd=>match d with|.str a=>.int (((iz (tl a)).getD 0:Nat):Int)|d=>d) λd hd=>by
   let⟨p,hp,rfl⟩:=List.mem_map.mp hd;let⟨n,hn⟩:=Option.isSome_iff_exists.mp (h p hp);show ia [sD p]=some (.int (((iz (tl (tS p))).getD 0:Nat):Int));rw[F0 hn,bc,hn];rfl]
  rw[zM,zM];rfl
 have e:∀a b r,aY bx (aa (ba (ao 1 [] (aE (ae 2)) (fG 0) (λ_=>some true) (aY ia (aa (ae 0) af)))) af) (a::b::some (.list (ps.map sD))::r)=some (cg (GP ps)):=λa b r=>by
  have l:ba (ao 1 [] (aE (ae 2)) (fG 0) (λ_=>some true) (aY ia (aa (ae 0) af))) (a::b::some (.list (ps.map sD))::r)=some (.list ((GP ps).map λn=>.int ((n:Nat):Int))):=by
   show ((bp (fG 0) (λ_=>some true) (aY ia (aa (ae 0) af)) [none] (ps.map sD)).bind small).map PyData.list=_;rw[c,zA];unfold small;rw[yK (by simp?[zD];exact hl)];rfl
  show (((ba (ao 1 [] (aE (ae 2)) (fG 0) (λ_=>some true) (aY ia (aa (ae 0) af))) (a::b::some (.list (ps.map sD))::r)).bind λx=>(af (a::b::some (.list (ps.map sD))::r)).map (x::·)).bind bx)=_;rw[l];rfl
 unfold aO;rw[show aD (Kc w x ps)=[some w,some (.str x),some (.list (ps.map sD)),none,none] from rfl,e,zA,yM (by simp[Dl.kq])];rw[show cc (hand [2] 0 (Kc w x ps))=[some w,some (.str x),some (.list (ps.map sD)),none,none] from rfl,e,zB,yK (Mx _)];rfl
abbrev iN(ns:List Nat):List Int:=ns.map λn=>((n:Nat):Int)
def iy(G T:List Pl)(W:List Wy)(ns:List Nat):Bool:=decide (ns.length=W.length)&&Ma G T W (iN ns)
def Ko{ns:List Nat}(h:∀n∈ns,n < 10):Sm (iN ns):=λk=>by
 by_cases hk:k < ns.length
 ·have e:(iN ns).getD k 0=((ns[k]:Nat):Int):=by simp[iN,hk]
  have:=h _ (qA hk);rw[e];lia
 ·rw[wc (by simpa using hk)];lia
section
variable {G T:List Pl}{W:List Wy}{ns:List Nat}
def BE(h:Wd G T W)(hn:∀n∈ns,n < 10):aQ [bj G T W,cg ns]=some (.bool (iy G T W ns)):=by
 unfold iy;by_cases hl:ns.length=W.length
 ·rw[jd,mL h (by simpa using hl) (Ko hn),zZ hl,jK]
 ·rw[lq h rfl (oP (by simpa using hl)),zY hl,vM]
def AJ{l:List Nat}(h:jc l=some ns):∀n∈ns,n < 10:=λn hn=>by
 unfold jc at h;split at h
 ·cases h;cases hn
 ·split at h
  ·rename_i ha;cases h;let⟨p,hp,rfl⟩:=List.mem_map.mp hn;let⟨n,e⟩:=Option.isSome_iff_exists.mp (List.all_eq_true.mp ha p hp);rw[e];exact (pk e).1
  ·cases h
def bR(G T:List Pl)(W:List Wy)(l:List Nat):Option (List Nat):=(jc l).bind λns=>if iy G T W ns=true then some ns else none
def ji:Option (List Nat)->D
 | some ns=>cg ns
 | none=>.none
def Mo(h:Wd G T []):iy G T [] []=true:=by
 have p:Pn G T [] []:=⟨rfl,λk hk=>absurd hk (vF k),λb i hi=>h.amt b i⟩
 unfold iy;rw[show iN []=[] from rfl,(sN (G:=G) (T:=T) (W:=[]) (P:=[]) rfl).mpr p];rfl
def so{l:List Nat}(h:jc l=some ns)(hl:l≠[46]):ns=GP (cM 32 l)/\(cM 32 l).all (λp=>(iz p).isSome)=true:=by
 unfold jc at h;rw[yM hl] at h;split at h
 ·rename_i ha;cases h;exact⟨rfl,ha⟩
 ·cases h
def LC(h:Wd G T W){x:Str}(hk:PyData.strOk x=true)(hz:x.length+1<=sizeLine)(hp:∀p∈cM 32 (tl x),PyData.strOk (tS p)=true):cf [bj G T W,.str x]=some (ji (bR G T W (tl x))):=by
 by_cases hW:W=[]
 ·subst hW;rw[GT hk];unfold bR;by_cases e:tl x=[46]
  ·rw[yK e,e];show _=some (ji ((some []).bind _));rw[zA,yK (Mo h)];rfl
  ·rw[yM e];cases hq:jc (tl x) with
   | none=>rfl
   | some ns =>
    let⟨e1,_⟩:=so hq e;have:iy G T [] ns=false:=by
     unfold iy;rw[zY,vM];intro z;rw[e1,zD] at z;exact yf (c:=32) (tl x) (List.length_eq_zero_iff.mp z)
    rw[zA,this];rfl
 have hwl:=h.wl;have hpl:(cM 32 (tl x)).length<=sizeLine:=yC (gY _) (by rw[bK];exact hz);have hpk:∀p∈cM 32 (tl x),PyData.strOk (tS p)=true/\p.length<=sizeLine:=λp hm=>⟨hp p hm,yC (gy hm) (by rw[bK];lia)⟩
 have t0:fB (f2 aW (f2 bf (ae 0) (fC (.int 2))) (ay af)) (aD (JO (bj G T W) x))=some false:=br (show aW (.tuple (W.map aF)) (.tuple [])=some (.bool false) by rw[vv,zY hW]);unfold cf kf;refine ck ?_;show aw _ _ (JO (bj G T W) x)=_;refine (aB (ee t0)).trans ?_;refine (aB (BC hz)).trans ?_;have t1:=EZ (G:=G) (T:=T) (W:=W) (x:=x) hpk hpl;generalize hps:cM 32 (tl x)=ps at *;cases hB:(decide (ps.length=W.length)&&ps.all λp=>(iz p).isSome) with
 | false =>
  rw[hB] at t1;have e:bR G T W (tl x)=none:=by
   unfold bR;cases hq:jc (tl x) with
   | none=>rfl
   | some ns =>
    have:iy G T W ns=false:=by
     unfold iy;rw[zY,vM];intro z;by_cases e:tl x=[46]
     ·rw[e] at hq;cases hq;exact hW (List.length_eq_zero_iff.mp z.symm)
     ·let⟨e1,e2⟩:=so hq e;rw[hps] at e1 e2;rw[e2,Bool.and_true] at hB;rw[e1,zD] at z;exact vU hB z
    rw[zA,this];rfl
  rw[e];exact mE ((jl t1).trans (cY rfl))
 | true =>
  rw[hB] at t1;refine (aB (ee t1)).trans ?_;let⟨hl,ha⟩:=Bool.and_eq_true_iff.mp hB;have hl:=yP hl;have ha:=List.all_eq_true.mp ha;refine (aB (Dt ha hpl)).trans ?_;have hne:tl x≠[46]:=λz=>by
   rw[z] at hps;have:=ha [46] (by rw[<- hps];exact List.mem_singleton.mpr rfl);cases this
  have hq:jc (tl x)=some (GP ps):=by
   unfold jc;rw[yM hne,hps,yK (List.all_eq_true.mpr ha)]
  have hdg:=AJ hq;have hr:bR G T W (tl x)=if iy G T W (GP ps)=true then some (GP ps) else none:=by
   unfold bR;rw[hq,zA]
  generalize hns:GP ps=ns at *;have hnl:ns.length=W.length:=by rw[<- hns,zD];exact hl
  have hil:(iN ns).length=W.length:=by rw[zD];exact hnl
  have hg:∀i,i < W.length->(ns.map λn=>PyData.int ((n:Nat):Int)).getD i .none=nD (ns.getD i 0)/\(iN ns).getD i 0=((ns.getD i 0:Nat):Int):=λi hi=>by
   have:i < ns.length:=by lia
   constructor<;>simp[iN,this]
  have hzp:eL (aa (ae 3) (aa (f2 bf (ae 0) (fC (.int 2))) af)) (aD [Slot.val (bj G T W),Slot.val (.str x),Slot.val (.list (ps.map sD)),Slot.val (cg ns),.non])=some ((List.range W.length).map λi=>.tuple [nD (ns.getD i 0),aF (dy W i)]):=by
   have:(List.range W.length).map (λi=>PyData.tuple [nD (ns.getD i 0),aF (dy W i)])=(List.range W.length).map (λi=>PyData.tuple [(ns.map λn=>PyData.int ((n:Nat):Int)).getD i .none,aF (dy W i)]):=yH λi hi=>by rw[(hg i (List.mem_range.mp hi)).1]
   rw[this,<- K02M.zip_any2 (by simpa using hnl)];rfl
  have c:=iO (cs:=[]) (tt:=fB (f2 uu (ae 0) (f2 bf (ae 1) (fC (.int 2))))) (te:=ae 0) (p:=λi=>decide ((dy W i).2.2 < ((ns.getD i 0:Nat):Int))) (h:=λi=>nD (ns.getD i 0)) hzp (by lia) λi hi=>⟨br (aZ (gf _ _) rfl (aZ (Br (dy W i)) rfl rfl)),λ_=>rfl⟩
  have e4:f2 aW (ba (ao 2 [] (eL (aa (ae 3) (aa (f2 bf (ae 0) (fC (.int 2))) af))) (iA 0 1) (fB (f2 uu (ae 0) (f2 bf (ae 1) (fC (.int 2))))) (ae 0))) (ba (bQ af)) (aD [Slot.val (bj G T W),Slot.val (.str x),Slot.val (.list (ps.map sD)),Slot.val (cg ns),.non])=some (.bool (GF W (iN ns))):=by
   refine aZ ?_ (gp c) (nil_of _);have:=CQ (((List.range W.length).filter λi=>decide ((dy W i).2.2 < ((ns.getD i 0:Nat):Int))).map λi=>ns.getD i 0);rw[zM] at this;refine Eq.trans this ?_
   congr 2
   rw[kL,decide_eq_true_iff,List.map_eq_nil_iff,List.filter_eq_nil_iff];unfold GF;rw[xF];constructor
   ·intro z i hi;have a:=z i hi;have b:=(hg i (List.mem_range.mp hi)).2;simp?[zJ] at a;simp?[zF,zJ];lia
   ·intro z i hi;have a:=z i hi;have b:=(hg i (List.mem_range.mp hi)).2;simp?[zJ];simp?[zF,zJ] at a;lia
  refine (aB (cI (d:=.bool (GF W (iN ns))) e4 rfl)).trans ?_;refine cY ?_;have ef:fB (ah 2 cD (aa (ae 0) (aa (ae 3) af))) (aD [Slot.val (bj G T W),Slot.val (.str x),Slot.val (.list (ps.map sD)),Slot.val (cg ns),Slot.val (.bool (GF W (iN ns)))])=some (mj G T W (iN ns)):=by
   refine br (call_of ?_ rfl rfl);rw[Ml,jd];exact oh h hil (Ko hdg)
  have ok:iy G T W ns=(GF W (iN ns)&&mj G T W (iN ns)):=by
   unfold iy Ma;rw[zZ hnl,jK,Fj]
  rw[hr,ok];cases hbd:GF W (iN ns) with
  | false =>
   rw[hbd] at ef;exact ky (HS (br rfl)) rfl
  | true =>
   rw[hbd] at ef;cases hf:mj G T W (iN ns) with
   | false =>
    rw[hf] at ef;exact ky (vg (br rfl) ef) rfl
   | true =>
    rw[hf] at ef;exact jg (vg (br rfl) ef) rfl
end
structure Gd(l:List Nat):Prop where
 s:∀c∈l,c < 1114112
 n:l.length<=10000
def nM:∀ {l p:List Nat},p∈cM c l->∀y∈p,y∈l
 | [],p,h,y,hy=>by
  rw[List.mem_singleton.mp (show p∈[[]] from h)] at hy;exact hy
 | x::r,p,h,y,hy=>by
  unfold cM at h;split at h
  ·rcases List.mem_cons.mp h with rfl|h
   ·cases hy
   ·exact zC _ (nM h y hy)
  ·split at h
   ·rename_i q qs e;rcases List.mem_cons.mp h with rfl|h
    ·rcases List.mem_cons.mp hy with rfl|hy
     ·exact zE
     ·exact zC _ (nM (c:=c) (l:=r) (p:=q) (by rw[e];exact zE) y hy)
    ·exact zC _ (nM (c:=c) (l:=r) (p:=p) (by rw[e];exact zC _ h) y hy)
   ·rw[List.mem_singleton.mp h] at hy;rw[List.mem_singleton.mp hy];exact zE
def Gd.sk{l:List Nat}(g:Gd l):PyData.strOk (tS l)=true:=by
 show Array.all (List.toArray l) _=true;rw[List.all_toArray,xF];intro c hc;exact zZ (g.s c hc)
def Gd.part{l p:List Nat}(g:Gd l)(h:p∈cM c l):Gd p:=⟨λy hy=>g.s y (nM h y hy),yC (gy h) g.n⟩
def KO:20000<=sizeLine:=by decide
def Gd.z{l:List Nat}(g:Gd l):l.length+1<=sizeLine:=by
 have:=g.n;have:=KO;lia
def Gd.zt{l:List Nat}(g:Gd l):(tS l).length+1<=sizeLine:=by
 rw[<- bK,bc];exact g.z
section
variable {G T:List Pl}{W:List Wy}{l l0:List Nat}{ls:List (List Nat)}
def NH(h:Wd G T W)(g:Gd l):cf [bj G T W,sD l]=some (ji (bR G T W l)):=by
 have:=LC h (x:=tS l) g.sk g.zt (by
  rw[bc];exactλp hp=>(g.part hp).sk)
 rw[bc] at this;exact this
def wH(G T:List Pl)(W:List Wy)(ls:List (List Nat))(l0:List Nat):D:=if (decide (l0=[])&&ls.all λl=>(bR G T W l).isSome)=true then .list (ls.map λl=>ji (bR G T W l)) else cN 2
def oR(h:Wd G T W)(g:Gd l)(e:cM 10 l=ls++[l0]):ar [.int 1,bj G T W,sD l]=some (wH G T W ls l0):=by
 have O:=P0 h;have e':cM 10 (tl (tS l))=ls++[l0]:=by rw[bc];exact e
 have hg:∀q∈ls,Gd q:=λq hq=>g.part (c:=10) (by rw[e];exact qJ _ hq);have hg0:Gd l0:=g.part (c:=10) (by rw[e];exact yD _ (List.mem_singleton.mpr rfl));have hk:∀q∈ls,PyData.strOk (tS q)=true/\q.length+1<=sizeLine:=λq hq=>⟨(hg q hq).sk,(hg q hq).z⟩
 have hls:ls.length<=sizeLine:=by
  have:=gY (c:=10) l;rw[e,zN] at this;have:=g.z;simp at *;lia
 unfold wH;by_cases h0:l0=[]
 ·subst h0;have L:=Ec g.zt e';cases hp:C0 ls with
  | none =>
   have:(ls.all λl=>(bR G T W l).isSome)=false:=by
    unfold C0 at hp;split at hp
    ·cases hp
    ·rename_i ha;rw[Bool.not_eq_true,List.all_eq_false] at ha;let⟨q,h1,h2⟩:=ha;rw[List.all_eq_false];refine⟨q,h1,?_⟩;have:jc q=none:=by simpa using h2
     unfold bR;rw[this];simp
   rw[this,kM,yM (by simp)];exact je (IQ O L hls hk hp) xi
  | some ps =>
   have hps:ps=ls.map λl=>(jc l).getD []:=by
    unfold C0 at hp;split at hp
    ·cases hp;rfl
    ·cases hp
   have hsm:∀q∈ls,(jc q).isSome=true:=by
    unfold C0 at hp;split at hp
    ·rename_i ha;exact List.all_eq_true.mp ha
    ·cases hp
   have hr:∀q∈ls,bR G T W q=if iy G T W ((jc q).getD [])=true then some ((jc q).getD []) else none:=λq hq=>by
    let⟨ns,en⟩:=Option.isSome_iff_exists.mp (hsm q hq);unfold bR;rw[en];rfl
   have hpl:∀ns∈ps,aQ [bj G T W,cg ns]=some (.bool (iy G T W ns)):=λns hn=>by
    rw[hps] at hn;let⟨q,hq,rfl⟩:=List.mem_map.mp hn;let⟨ns,en⟩:=Option.isSome_iff_exists.mp (hsm q hq);rw[en];exact BE h (AJ en)
   have ha:=wV (w:=bj G T W) (ds:=ps.map cg) (p:=λd=>match aQ [bj G T W,d] with|some (.bool b)=>b|_=>false) (by rw[hps,zD,zD];exact hls) (λd hd=>by
    let⟨ns,hn,rfl⟩:=List.mem_map.mp hd;rw[hpl ns hn])
   have hb:((ps.map cg).all λd=>match aQ [bj G T W,d] with|some (.bool b)=>b|_=>false)=ls.all λl=>(bR G T W l).isSome:=by
    rw[kL,xF,xF];constructor
    ·intro z q hq;have hm:(jc q).getD []∈ps:=by rw[hps];exact List.mem_map.mpr ⟨q,hq,rfl⟩
     have:=z _ (List.mem_map.mpr ⟨_,hm,rfl⟩);rw[hpl _ hm] at this;rw[hr q hq,yK this];rfl
    ·intro z d hd;let⟨ns,hn,rfl⟩:=List.mem_map.mp hd;rw[hpl ns hn];rw[hps] at hn;let⟨q,hq,rfl⟩:=List.mem_map.mp hn;have:=z q hq;rw[hr q hq] at this;split at this
     ·rename_i ok;exact ok
     ·cases this
   rw[hb] at ha;let⟨r1,r2⟩:=MP O L hls hk hp ha;cases hB:ls.all λl=>(bR G T W l).isSome with
   | false =>
    rw[zZ rfl,jK,yM (by simp)];exact je (r2 hB) xi
   | true =>
    rw[zZ rfl,jK,yK rfl];have el:ps.map cg=ls.map λl=>ji (bR G T W l):=by
     rw[hps,zM];refine yH λq hq=>?_;have:=List.all_eq_true.mp hB q hq;rw[hr q hq] at this ⊢;split at this
     ·rename_i ok;rw[yK ok];rfl
     ·cases this
    rw[<- el];exact Gn (r1 hB).1
 ·rw[zY h0,vM,yM (by simp)];exact je (Ig O (Cd hg0.sk g.zt e' h0)) xi
end
def Qm(l:List Nat):(tS l == ("":Str))=decide (l=[]):=by
 by_cases h:l=[]
 ·subst h;decide +kernel
 ·rw[zY h];cases e:tS l == ("":Str) with
  | false=>rfl
  | true =>
   have:tl (tS l)=[]:=by rw[eq_of_beq e,oY]
   rw[bc] at this;exact absurd this h
def qo(os:List (Option (List Nat))):SeqAt.shaped (.list (os.map ji))=true:=by
 have one:∀o:Option (List Nat),PyData.canLay0 (ji o)=true/\PyData.depth (ji o)<=2:=λo=>by
  cases o with
  | none=>exact⟨by simp[ji,PyData.canLay0],by simp[ji,PyData.depth]⟩
  | some ns =>
   have:∀ns:List Nat,PyData.canLayAll0 (ns.map λn=>PyData.int ((n:Nat):Int))=true/\PyData.depthAll (ns.map λn=>PyData.int ((n:Nat):Int))<=1:=λns=>by
    induction ns with
    | nil=>exact⟨by simp[PyData.canLayAll0],by simp[PyData.depthAll]⟩
    | cons n r ih =>
     let⟨a,b⟩:=ih;refine⟨?_,?_⟩
     ·rw[zI];simp[PyData.canLayAll0,PyData.canLay0,a]
     ·rw[zI];simp?[PyData.depthAll,PyData.depth];lia
   let⟨a,b⟩:=this ns;refine⟨?_,?_⟩
   ·simp[ji,PyData.canLay0,a]
   ·simp?[ji,PyData.depth];lia
 have key:PyData.canLayAll0 (os.map ji)=true/\PyData.depthAll (os.map ji)<=2:=by
  induction os with
  | nil=>exact⟨by simp[PyData.canLayAll0],by simp[PyData.depthAll]⟩
  | cons o r ih =>
   let⟨a,b⟩:=ih;let⟨c,d⟩:=one o;refine⟨?_,?_⟩
   ·rw[zI];simp[PyData.canLayAll0,a,c]
   ·rw[zI];simp?[PyData.depthAll];lia
 let⟨a,b⟩:=key;simp[SeqAt.shaped,PyData.canLay0,PyData.depth,a];lia
def IS(os:List (Option (List Nat))):uP .none (.list (os.map ji))=some (.bool (!(os.all Option.isSome))):=by
 have hs:SeqAt.shaped .none=true:=by simp[SeqAt.shaped,PyData.canLay0,PyData.depth]
 have e:((os.map ji).any λz=>PyData.eqv z .none)=!(os.all Option.isSome):=by
  rw[List.any_map]
  induction os with
  | nil=>rfl
  | cons o r ih =>
   rw[List.any_cons,ih,xS,Function.comp_apply];cases o with
   | none=>simp[ji,PyData.eqv]
   | some ns=>simp[ji,PyData.eqv]
 simp?[uP,OO,hs,qo,jO,xG,e,zB]
abbrev OW(w:D)(x:Str):au:=[Slot.val w,Slot.val (.str x),.non,.non]
def Jv{x:Str}{w:D}(hz:x.length+1<=sizeLine):aO 2 [1] (ba (k6 bq (ae 1) (fC (.str "\n")))) (OW w x)=some (.nx [Slot.val w,Slot.val (.str x),Slot.val (.list ((cM 10 (tl x)).map sD)),.non]):=by
 have e:∀r,ba (k6 bq (ae 1) (fC (.str "\n"))) (some w::some (.str x)::r)=some (.list ((cM 10 (tl x)).map sD)):=λr=>by
  have:k6 bq (ae 1) (fC (.str "\n")) (some w::some (.str x)::r)=some ((cM 10 (tl x)).map sD):=by
   show bq (.str x) (.str "\n")=_;rw[n9,lU hz,cZ,zM];rfl
  unfold ba;rw[this];rfl
 unfold aO;rw[show aD (OW w x)=[some w,some (.str x),none,none] from rfl,e,zA,yM (by simp[Dl.kq])];rw[show cc (hand [1] 0 (OW w x))=[some w,some (.str x),none,none] from rfl,e];rfl
section
variable {G T:List Pl}{W:List Wy}{l l0:List Nat}{ls:List (List Nat)}
def Mb(h:Wd G T W)(g:Gd l)(e:cM 10 l=ls++[l0]):cn [bj G T W,sD l]=some (wH G T W ls l0):=by
 have hg:∀q∈ls,Gd q:=λq hq=>g.part (c:=10) (by rw[e];exact qJ _ hq);have hg0:Gd l0:=g.part (c:=10) (by rw[e];exact yD _ (List.mem_singleton.mpr rfl));have hls:ls.length<=sizeLine:=by
  have:=gY (c:=10) l;rw[e,zN] at this;have:=g.z;simp at *;lia
 have s:=Jv (w:=bj G T W) g.zt;rw[bc,e,qZ] at s;unfold cn iE;refine ck ?_;show aw _ _ (OW (bj G T W) (tS l))=_;refine (aB s).trans ?_;have c:ao 1 [0] (aE (eI oN (ae 2) gL (pZ (f1 er (fC (.int 1)))))) (fG 0) (λ_=>some true) (ah 2 cf (aa (ae 1) (aa (ae 0) af))) [some (bj G T W),some (.str (tS l)),some (.list (ls.map sD++[l0].map sD)),none]=some ((ls.map (bR G T W)).map ji):=by
  have hc:aE (eI oN (ae 2) gL (pZ (f1 er (fC (.int 1))))) [some (bj G T W),some (.str (tS l)),some (.list (ls.map sD++[l0].map sD)),none]=some (ls.map sD):=by
   refine Ae ?_;show some (PyData.list (cut (ls.map sD++[l0].map sD) none (some (-1))))=_;rw[lI];simp
  unfold ao;rw[hc,zA];show (bp (fG 0) (λ_=>some true) (ah 2 cf (aa (ae 1) (aa (ae 0) af))) [none,some (bj G T W)] (ls.map sD)).bind small=_;rw[gM (f:=λd=>match d with|.str a=>ji (bR G T W (tl a))|d=>d) λd hd=>by
   let⟨q,hq,rfl⟩:=List.mem_map.mp hd;show (if [bj G T W,sD q].length=2 then cf [bj G T W,sD q] else none)=some (ji (bR G T W (tl (tS q))));rw[yK (by rfl),NH h (hg q hq),bc]]
  rw[zA];unfold small;rw[yK (by simp?[zD];exact hls),zM,zM]
  congr 1
 refine (aB (mi (ds:=(ls.map (bR G T W)).map ji) c rfl)).trans ?_;refine cY ?_;show iD _ _ _ [some (bj G T W),some (.str (tS l)),some (.list (ls.map sD++[l0].map sD)),some (.list ((ls.map (bR G T W)).map ji))]=_;have t1:fB (f2 bb (f2 bf (ae 2) (f1 er (fC (.int 1)))) (fC (.str ""))) [some (bj G T W),some (.str (tS l)),some (.list (ls.map sD++[l0].map sD)),some (.list ((ls.map (bR G T W)).map ji))]=some (!decide (l0=[])):=by
  refine br (aZ (a:=sD l0) (b:=.str "") ?_ ?_ rfl)
  ·rw[ne_str hg0.sk (by decide +kernel),Qm]
  ·show md (ls.map sD++[sD l0]) (-1)=_;exact tT
 have t2:fB (f2 uP (fC .none) (ae 3)) [some (bj G T W),some (.str (tS l)),some (.list (ls.map sD++[l0].map sD)),some (.list ((ls.map (bR G T W)).map ji))]=some (!(ls.all λl=>(bR G T W l).isSome)):=by
  refine br (aZ (a:=.none) (b:=.list ((ls.map (bR G T W)).map ji)) ?_ rfl rfl);rw[IS,List.all_map];rfl
 have t:dE (fB (f2 bb (f2 bf (ae 2) (f1 er (fC (.int 1)))) (fC (.str "")))) (fB (f2 uP (fC .none) (ae 3))) [some (bj G T W),some (.str (tS l)),some (.list (ls.map sD++[l0].map sD)),some (.list ((ls.map (bR G T W)).map ji))]=some (!(decide (l0=[])&&ls.all λl=>(bR G T W l).isSome)):=by
  unfold dE;rw[t1,zA,t2];cases decide (l0=[])<;>rfl
 unfold wH;cases hB:(decide (l0=[])&&ls.all λl=>(bR G T W l).isSome) with
 | false =>
  rw[hB] at t;rw[yM (by simp)];exact jg t (K02M.refE 2 _)
 | true =>
  rw[hB] at t;rw[yK rfl,show ls.map (λl=>ji (bR G T W l))=(ls.map (bR G T W)).map ji by rw[zM];rfl];exact ky t rfl
def Ep(h:Wd G T W)(g:Gd l):∃d,ar [.int 1,bj G T W,sD l]=some d/\cn [bj G T W,sD l]=some d/\bb d d=some (.bool false):=by
 obtain⟨ls,l0,e⟩:∃ls l0,cM 10 l=ls++[l0]:=⟨_,_,(List.dropLast_concat_getLast (yf (c:=10) l)).symm⟩
 refine⟨wH G T W ls l0,oR h g e,Mb h g e,?_⟩;unfold wH;split
 ·have hs:=qo (ls.map (bR G T W));rw[zM] at hs;have hq:PyData.eqv (.list (ls.map λl=>ji (bR G T W l))) (.list (ls.map λl=>ji (bR G T W l)))=true:=by
   simp?[PyData.eqv];refine fT λd hd=>?_;let⟨q,_,rfl⟩:=List.mem_map.mp hd;cases bR G T W q with
   | none=>simp[ji,PyData.eqv]
   | some ns =>
    show PyData.eqv (cg ns) (cg ns)=true;rw[jd];exact F7 _
  have hs':SeqAt.shaped (.list (ls.map λl=>ji (bR G T W l)))=true:=hs;simp?[bb,GA,hs',jO,xG,hq,zB,xY]
 ·exact K02M.gNeD_ref 2
end
abbrev nP(P:List Int):List Nat:=P.map Int.toNat
section
variable {G T:List Pl}{W:List Wy}{P:List Int}
def Pn.get(p:Pn G T W P){x:Int}(hx:x∈P):∃k,k < W.length/\x=P.getD k 0:=by
 let⟨k,hk,rfl⟩:=List.mem_iff_getElem.mp hx;exact⟨k,by rw[<- p.len];exact hk,by simp[hk]⟩
def Pn.dig(h:Wd G T W)(p:Pn G T W P){x:Int}(hx:x∈P):0<=x/\x<=9:=by
 let⟨k,hk,rfl⟩:=p.get hx;have:=p.bd k hk;have:=(h.wr _ (pF hk)).2.2.2;lia
def Bi(h:Wd G T W)(p:Pn G T W P):iN (nP P)=P:=by
 unfold iN nP;rw[zM]
 conv=>rhs;rw[<- List.map_id P]
 refine yH λx hx=>?_;have:=p.dig h hx;show ((x.toNat:Nat):Int)=x;lia
def Fg(h:Wd G T W)(p:Pn G T W P):cg (nP P)=ak P:=by rw[jd];exact jB ak (Bi h p)
def sS(h:Wd G T W)(p:Pn G T W P):∀n∈nP P,n < 10:=λn hn=>by
 let⟨x,hx,rfl⟩:=List.mem_map.mp hn;have:=p.dig h hx;lia
def yz(h:Wd G T W)(p:Pn G T W P):(nP P).length<=40:=by
 rw[zD,p.len];have:=h.wl;lia
def Ot(h:Wd G T W)(p:Pn G T W P):iy G T W (nP P)=true:=by
 unfold iy;rw[Bi h p,(sN p.len).mpr p,zD,zZ p.len];rfl
def Bs(h:Wd G T W)(p:Pn G T W P):bR G T W (eJ (nP P))=some (nP P):=by
 unfold bR;rw[GQ (sS h p),zA,yK (Ot h p)]
def Fi:∀ls:List (List Nat),jn [] ls=ls.flatten
 | []=>rfl
 | [l]=>by simp[jn]
 | l::q::r=>by
  show l++([]++jn [] (q::r))=_;rw[xO,Fi (q::r)];rfl
def wa(ls:List (List Nat)):su ls=(ls.map λl=>l++[10]).flatten:=Fi _
def GV{ls:List (List Nat)}(h:∀l∈ls,l.length<=99):(su ls).length<=100 * ls.length:=by
 rw[wa]
 induction ls with
 | nil=>exact yL _
 | cons l r ih =>
  rw[zI,qM,zN,zN,xB,zL];have:=h l zE;have:=ih λq hq=>h q (zC _ hq);lia
def Ji{ls:List (List Nat)}{c:Nat}(h:c∈su ls):c=10\/∃l∈ls,c∈l:=by
 rw[wa,List.mem_flatten] at h;let⟨q,hq,hc⟩:=h;let⟨l,hl,rfl⟩:=List.mem_map.mp hq;rcases List.mem_append.mp hc with hc|hc
 ·exact .inr ⟨l,hl,hc⟩
 ·exact .inl (List.mem_singleton.mp hc)
def Dr{c:Nat}{sep:List Nat}:∀ {ps:List (List Nat)},c∈jn sep ps->c∈sep\/∃p∈ps,c∈p
 | [],h=>by cases h
 | [p],h=>.inr ⟨p,zE,h⟩
 | p::q::r,h=>by
  have h:c∈p++(sep++jn sep (q::r)):=h;rcases List.mem_append.mp h with h|h
  ·exact .inr ⟨p,zE,h⟩
  ·rcases List.mem_append.mp h with h|h
   ·exact .inl h
   ·rcases Dr h with h|⟨z,hz,h⟩
    ·exact .inl h
    ·exact .inr ⟨z,zC _ hz,h⟩
def u5{ns:List Nat}(h:∀n∈ns,n < 10){c:Nat}(hc:c∈eJ ns):c < 58:=by
 unfold eJ at hc;split at hc
 ·rw[List.mem_singleton.mp hc];decide
 ·rcases Dr hc with hc|⟨p,hp,hc⟩
  ·rw[List.mem_singleton.mp hc];decide
  ·let⟨n,hn,rfl⟩:=List.mem_map.mp hp;rw[List.mem_singleton.mp hc];have:=h n hn;lia
def F8(h:∀ns∈pss,(∀n∈ns,n < 10)/\ns.length<=40)(hl:pss.length<=5):(∀c∈su (pss.map eJ),c < 58)/\(su (pss.map eJ)).length<=500:=by
 constructor
 ·intro c hc;rcases Ji hc with rfl|⟨l,hm,hc⟩
  ·decide
  ·let⟨ns,hn,rfl⟩:=List.mem_map.mp hm;exact u5 (h ns hn).1 hc
 ·have:=GV (ls:=pss.map eJ) λl hm=>by
   let⟨ns,hn,rfl⟩:=List.mem_map.mp hm;exact lW (h ns hn).2
  rw[zD] at this;lia
def back(h:Wd G T W)(hp:∀P∈Ps,Pn G T W P):(Ps.map nP).map cg=Ps.map ak:=by
 rw[zM];exact yH λP hP=>Fg h (hp P hP)
def FL(h:Wd G T W)(hp:∀P∈Ps,Pn G T W P)(hl:Ps.length<=5):ar [.int 0,bj G T W,.list (Ps.map ak)]=some (sD (su ((Ps.map nP).map eJ))):=by
 have hh:∀ns∈Ps.map nP,(∀n∈ns,n < 10)/\ns.length<=40:=λns hn=>by
  let⟨P,hP,rfl⟩:=List.mem_map.mp hn;exact⟨sS h (hp P hP),yz h (hp P hP)⟩
 have ha:=wV (w:=bj G T W) (ds:=Ps.map ak) (p:=λ_=>true) (by rw[zD];exact yC hl (by decide)) (λd hd=>by
  let⟨P,hP,rfl⟩:=List.mem_map.mp hd;exact p8 h (hp P hP))
 rw[show (Ps.map ak).all (λ_=>true)=true by simp,<- back h hp] at ha;rw[<- back h hp];exact Ej (NL (P0 h) hh (by rw[zD];lia) ha).1
def Eu(h:Wd G T W)(hp:∀P∈Ps,Pn G T W P)(hl:Ps.length<=5):ar [.int 1,bj G T W,sD (su ((Ps.map nP).map eJ))]=some (.list (Ps.map ak)):=by
 have hh:∀ns∈Ps.map nP,(∀n∈ns,n < 10)/\ns.length<=40:=λns hn=>by
  let⟨P,hP,rfl⟩:=List.mem_map.mp hn;exact⟨sS h (hp P hP),yz h (hp P hP)⟩
 let⟨g1,g2⟩:=F8 hh (by rw[zD];exact hl);have e:cM 10 (su ((Ps.map nP).map eJ))=(Ps.map nP).map eJ++[[]]:=AU λl hm=>by
  let⟨ns,hn,rfl⟩:=List.mem_map.mp hm;exact v5 (hh ns hn).1
 rw[oR h ⟨λc hc=>by have:=g1 c hc;lia,by lia⟩ e];have hr:∀l∈(Ps.map nP).map eJ,∃P∈Ps,l=eJ (nP P)/\bR G T W l=some (nP P):=λl hm=>by
  let⟨ns,hn,rfl⟩:=List.mem_map.mp hm;let⟨P,hP,rfl⟩:=List.mem_map.mp hn;exact⟨P,hP,rfl,Bs h (hp P hP)⟩
 unfold wH;rw[yK ?_]
 ·congr 2
  rw[zM,zM];refine yH λP hP=>?_;show ji (bR G T W (eJ (nP P)))=ak P;rw[Bs h (hp P hP)];exact Fg h (hp P hP)
 ·rw[zZ rfl,jK,xF];intro l hm;let⟨P,_,_,e⟩:=hr l hm;rw[e];rfl
end
section
variable {G T:List Pl}{W:List Wy}{l l0 q:List Nat}{ls:List (List Nat)}
def iX(h:Wd G T W)(g:Gd l)(e:cM 10 l=ls++[l0])(hb:l0≠[]\/∃q∈ls,bR G T W q=none):ar [.int 1,bj G T W,sD l]=some (cN 2):=by
 rw[oR h g e];unfold wH;rw[yM];intro z;let⟨z1,z2⟩:=Bool.and_eq_true_iff.mp z;rcases hb with hb|⟨q,hq,hb⟩
 ·exact hb (yP z1)
 ·have:=List.all_eq_true.mp z2 q hq;rw[hb] at this;cases this
def tN(h1:q≠[46]){p:List Nat}(h2:p∈cM 32 q)(h3:iz p=none):jc q=none:=by
 unfold jc;rw[yM h1,yM];intro z;have:=List.all_eq_true.mp z p h2;rw[h3] at this;cases this
def nU(h:jc q=none):bR G T W q=none:=by
 unfold bR;rw[h];rfl
def we:bR G T W []=none:=nU (tN (by decide) (p:=[]) zE rfl)
def IX:bR G T W (32::q)=none:=nU (tN (by simp) (p:=[]) (by rw[cM,yK rfl];exact zE) rfl)
def sG(c:Nat):∀q:List Nat,[]∈cM c (q++[c])
 | []=>by
  rw[xO,cM,yK rfl];exact zE
 | x::r=>by
  have ih:=sG c r;rw[xE,cM];split
  ·exact zC _ ih
  ·split
   ·rename_i p ps e;rw[e] at ih;rcases List.mem_cons.mp ih with z|z
    ·cases r with
     | nil =>
      rw[xO,cM,yK rfl] at e;cases e;exact zC _ zE
     | cons y r =>
      by_cases hy:y=c
      ·rw[xE,cM,yK hy] at e;injection e with e1 e2
       have:=sG c r;rw[e2] at this;exact zC _ this
      ·rw[xE,cM,yM hy] at e;split at e
       ·injection e with e1 e2
        rw[<- e1] at z;cases z
       ·injection e with e1 e2
        rw[<- e1] at z;cases z
    ·exact zC _ z
   ·rename_i e;rw[e] at ih;cases ih
def Gf(hq:q≠[]):bR G T W (q++[32])=none:=nU (tN (λz=>by
 have:=jB List.length z;rw[zN] at this;exact hq (List.length_eq_zero_iff.mp (by simpa using this))) (sG 32 q) rfl)
abbrev z0(n:Nat):List Nat:=List.replicate n 0
def B6:bR G T W (48::32::eJ (z0 W.length))=none:=by
 have hs:cM 32 (48::32::eJ (z0 W.length))=[48]::cM 32 (eJ (z0 W.length)):=by
  have:=eh (c:=32) (p:=[48]) (r:=eJ (z0 W.length)) (by decide);exact this
 have hl:W.length<=(cM 32 (eJ (z0 W.length))).length:=by
  by_cases hW:W.length=0
  ·lia
  ·have hn:z0 W.length≠[]:=λz=>hW (by have:=jB List.length z;simpa using this);unfold eJ;rw[yM hn,tR (by simpa using hn) λp hp=>by
    let⟨n,hm,rfl⟩:=List.mem_map.mp hp;simp;lia]
   simp
 unfold bR;cases hq:jc (48::32::eJ (z0 W.length)) with
 | none=>rfl
 | some ns =>
  let⟨e1,_⟩:=so hq (by simp);have:iy G T W ns=false:=by
   unfold iy;rw[zY,vM];intro z;rw[e1,zD,hs,zL] at z;lia
  rw[zA,this];rfl
def MX:bR G T W [120]=none:=nU (tN (by decide) (p:=[120]) zE rfl)
def MZ(ns:List Nat):eJ ns≠[]:=by
 unfold eJ;split
 ·simp
 ·cases ns with
  | nil=>contradiction
  | cons n r =>
   cases r with
   | nil=>exact List.cons_ne_nil _ _
   | cons m r=>exact List.cons_ne_nil _ _
structure Ln(q:List Nat):Prop where
 f:10∉q
 n:q≠[]
 s:∀c∈q,c < 58
 l:q.length<=99
def Nz(h:Wd G T W):Ln (eJ (z0 W.length)):=by
 have hz:∀n∈z0 W.length,n < 10:=λn hn=>by rw[List.eq_of_mem_replicate hn];decide
 exact⟨v5 hz,MZ _,λc hc=>u5 hz hc,lW (by rw[xK];have:=h.wl;lia)⟩
def Ln.gd(L:Ln q)(a b:List Nat)(ha:∀c∈a,c < 1114112)(hb:∀c∈b,c < 1114112)(hl:a.length+b.length<=500):Gd (a++(q++b)):=by
 refine⟨λc hc=>?_,?_⟩
 ·rcases List.mem_append.mp hc with hc|hc
  ·exact ha c hc
  ·rcases List.mem_append.mp hc with hc|hc
   ·have:=L.s c hc;lia
   ·exact hb c hc
 ·rw[zN,zN];have:=L.l;lia
def OT(q:List Nat):List (List Nat):=[q,q++[10]++[10],[10],[32]++(q++[10]),q++[32,10],q++[10]++q,[48,32]++(q++[10]),[120,10]]
def JL(h:Wd G T W):∀l∈OT (eJ (z0 W.length)),ar [.int 1,bj G T W,sD l]=some (cN 2):=by
 have L:=Nz h;have hm:=B6 (G:=G) (T:=T) (W:=W);generalize eJ (z0 W.length)=q at L hm;have s0:cM 10 ([]:List Nat)=[[]]:=rfl;have s1:∀r,cM 10 (q++10::r)=q::cM 10 r:=λr=>eh L.f;intro l hl;simp?[OT,zQ,yE,xU] at hl;rcases hl with rfl|rfl|rfl|rfl|rfl|rfl|rfl|rfl
 ·have g:=L.gd [] [] (by simp) (by simp) (by simp);rw[xO,qF] at g;exact iX h g (ls:=[]) (lH L.f) (.inl L.n)
 ·have g:=L.gd [] [10,10] (by simp) (by simp) (by simp);rw[xO] at g;rw[List.append_assoc];exact iX h g (ls:=[q,[]]) (l0:=[]) (by rw[show ([10]++[10]:List Nat)=10::[10] from rfl,s1];rfl) (.inr ⟨[],by simp,we⟩)
 ·exact iX h ⟨by simp,by simp⟩ (ls:=[[]]) (l0:=[]) rfl (.inr ⟨[],by simp,we⟩)
 ·have g:=L.gd [32] [10] (by simp) (by simp) (by simp);exact iX h g (ls:=[32::q]) (l0:=[]) (by
   have:=eh (c:=10) (p:=32::q) (r:=[]) (by simp;exact L.f);exact this) (.inr ⟨32::q,by simp,IX⟩)
 ·have g:=L.gd [] [32,10] (by simp) (by simp) (by simp);rw[xO] at g;exact iX h g (ls:=[q++[32]]) (l0:=[]) (by
   have:=eh (c:=10) (p:=q++[32]) (r:=[]) (by simp;exact L.f);rw[List.append_assoc] at this;exact this) (.inr ⟨q++[32],by simp,Gf L.n⟩)
 ·have g:=L.gd [] ([10]++q) (by simp) (λc hc=>by
   rcases List.mem_append.mp hc with hc|hc
   ·rw[List.mem_singleton.mp hc];decide
   ·have:=L.s c hc;lia) (by have:=L.l;simp;lia)
  rw[xO] at g;rw[List.append_assoc];exact iX h g (ls:=[q]) (l0:=q) (by
   show cM 10 (q++10::q)=_;rw[s1,lH L.f];rfl) (.inl L.n)
 ·have g:=L.gd [48,32] [10] (by simp) (by simp) (by simp);exact iX h g (ls:=[48::32::q]) (l0:=[]) (by
   have:=eh (c:=10) (p:=48::32::q) (r:=[]) (by simp;exact L.f);exact this) (.inr ⟨48::32::q,by simp,hm⟩)
 ·exact iX h ⟨by simp,by simp⟩ (ls:=[[120]]) (l0:=[]) rfl (.inr ⟨[120],by simp,MX⟩)
def o5{a b:List Nat}(h:a.length+b.length<=20000):bI (sD a) (sD b)=some (sD (a++b)):=by
 show (if (tS a).length+(tS b).length<=sizeLine then some (PyData.str (tS a++tS b)) else none)=_;rw[yK (by rw[<- bK,<- bK,bc,bc];exact yC h KO)];have:tS a++tS b=tS (a++b):=kg (by rw[oa,bc,bc,bc]);rw[this]
def Jm{a b:List Nat}(ha:a≠[])(hb:b≠[])(h:a.length+b.length<=20000):rX (sD a) (sD b)=some (sD (a++b)):=by
 have hne:∀x:List Nat,x≠[]->((tS x).length == 0)=false:=λx hx=>by
  rw[<- bK,bc];cases x with
  | nil=>exact absurd rfl hx
  | cons _ _=>rfl
 show (if ((tS a).length == 0)=false/\((tS b).length == 0)=false/\(tS a).length+(tS b).length<=sizeLine then some (PyData.str (tS a++tS b)) else none)=_;rw[yK ⟨hne a ha,hne b hb,by rw[<- bK,<- bK,bc,bc];exact yC h KO⟩];have:tS a++tS b=tS (a++b):=kg (by rw[oa,bc,bc,bc]);rw[this]
def sv{a:List Nat}(h:a.length<=20000)(lo hi:Option Int):dz (sD a) lo hi=some (sD (cut a lo hi)):=by
 show (if (tS a).length<=sizeLine then some (PyData.str (oH (tS a) lo hi)) else none)=_;rw[yK (by rw[<- bK,bc];exact yC h KO)];rfl
def IJ(L:Ln q):rO "\n" " \n" (sD (q++[10]))=some (sD (q++[32,10])):=by
 have hl:(tS (q++[10])).length<=100:=by
  rw[<- bK,bc,zN];exact Nat.succ_le_succ L.l
 have e2:(" \n":Str)=⟨#[32,10]⟩:=by decide +kernel
 show (if (("\n":Str) == (" \n":Str))=false/\(tS (q++[10])).length+((tS (q++[10])).length+1) * (" \n":Str).length<=16777216 then some (PyData.str (Txt.replace (tS (q++[10])) "\n" " \n")) else none)=_;rw[yK ⟨by decide +kernel,by
  rw[e2];show _+_ * 2<=_;lia⟩]
 congr 2
 refine kg ?_;rw[n9,StrLaws.replace_one,nO,wt,bc,bc,e2];have:cM 10 (q++[10])=[q,[]]:=by
  have:=eh (c:=10) (p:=q) (r:=[]) L.f;exact this
 rw[this];show q++([32,10]++[])=_;rfl
def EF{ds:List D}(hz:ds.length<=sizeLine)(hp:∀d∈ds,∃b:Bool,aQ [bj G T W,d]=some (.bool b)){d0:D}(hd:d0∈ds)(h0:aQ [bj G T W,d0]=some (.bool false)):aL [bj G T W,.list ds]=some (.bool false):=by
 rw[wV (p:=λd=>match aQ [bj G T W,d] with|some (.bool b)=>b|_=>false) hz λd hd=>by
  let⟨b,e⟩:=hp d hd;rw[e]]
 congr 2
 rw[List.all_eq_false];refine⟨d0,hd,?_⟩;rw[h0];simp
def BB(Ps:List (List Int))(n:Nat):List D:=[.none,.tuple (Ps.map ak),ak (zs n),.list [.none],.list [ak (zs n++[0])],.list [ak (zs n),.list ((zs n).map PyData.int)],.list [.tuple (List.replicate (n+1) (.int 9))]]
def Jd(h:Wd G T W)(Ps:List (List Int)):∀d∈BB Ps W.length,ar [.int 0,bj G T W,d]=some (cN 1):=by
 have O:=P0 h;have one:∀d,aQ [bj G T W,d]=some (.bool false)->ar [.int 0,bj G T W,.list [d]]=some (cN 1):=λd e=>eZ (z9 O (EF (ds:=[d]) (d0:=d) (by rw[xB];exact yC (by decide) KO) (λx hx=>by rw[List.mem_singleton.mp hx];exact⟨_,e⟩) (List.mem_singleton.mpr rfl) e)) pw;intro d hd;simp?[BB,zQ,yE,xU] at hd;rcases hd with rfl|rfl|rfl|rfl|rfl|rfl|rfl
 ·exact eZ (tV O rfl) pw
 ·exact eZ (tV O rfl) pw
 ·exact eZ (tV O rfl) pw
 ·exact one _ (lq h rfl rfl)
 ·exact one _ (lq h rfl (oP (by simp[zs])))
 ·have hs:Sm (zs W.length):=λk=>by
   have:(zs W.length).getD k 0=0:=by
    unfold zs;by_cases hk:k < W.length
    ·simp[hk]
    ·rw[wc (by simpa using hk)]
   rw[this];lia
  have e2:aQ [bj G T W,.list ((zs W.length).map PyData.int)]=some (.bool false):=lq h rfl rfl;refine eZ (z9 O (EF (ds:=[ak (zs W.length),.list ((zs W.length).map PyData.int)]) (d0:=.list ((zs W.length).map PyData.int)) (yC (by simp) KO) (λx hx=>?_) (by simp) e2)) pw;simp?[zQ,yE,xU] at hx;rcases hx with rfl|rfl
  ·exact⟨_,mL h (by simp[zs]) hs⟩
  ·exact⟨_,e2⟩
 ·exact one _ (lq h rfl (oP (by simp)))
def Qe{d p:D}(h:bg [d]=some (.bool false)):pQ bw b0 [d,p] Nf :=
 let z:=(Nv h).head (ρ:=[.val d,.val p]) (fs:=aa (ae 0) af) rfl rfl
 ⟨runN z.1,z.2⟩
def P2{d p:D}(h:bg [d]=some (.bool false)):pQ bh bH [d,p] Nf :=
 let z:=(Nv h).head (ρ:=[.val d,.val p,.non]) (fs:=aa (ae 0) af) rfl rfl
 ⟨runN z.1,z.2⟩
end
namespace K83M
section
variable {G T:List Pl}{W:List Wy}{ns:List Int}{t:List Nat}
def O7:au->Option Out:=(aw (aO 5 [0,3,4] (ah 3 ai (aa (ae 0) (aa (f2 az (fC (.int 120)) (f2 bS (fC (.int 4)) (ae 4))) (aa (f2 az (aY fj (aa (ae 3) af)) (fC (.int 1))) af))))) (aw (aO 6 [0,4] (f2 zh (fC (.str "0129 .-\n")) (ah 3 ai (aa (ae 0) (aa (f2 az (fC (.int 121)) (f2 bS (fC (.int 4)) (ae 4))) (aa (fC (.int 8)) af)))))) (aw (aO 7 [0,3,4,5,6] (f2 bI (f2 bI (eI dz (ae 3) gL (pZ (ae 5))) (ae 6)) (eI dz (ae 3) (pZ (f2 az (ae 5) (ah 3 ai (aa (ae 0) (aa (f2 az (fC (.int 122)) (f2 bS (fC (.int 4)) (ae 4))) (aa (fC (.int 2)) af)))))) gL))) (dC (fB (f2 bb (ah 3 ar (aa (fC (.int 1)) (aa (ae 1) (aa (ae 7) af)))) (ah 2 cn (aa (ae 1) (aa (ae 7) af))))) (aG (fC (.bool false))) dQ))))
abbrev M7(s w:D)(x2:Slot)(t:List Nat)(x4 x5 x6 x7:Slot):au:=[.val s,.val w,x2,.val (sD t),x4,x5,x6,x7,.non,.non,.non,.non]
def QM{r:Int}(h0:0<=r)(h1:r < 8):∃c,c < 100/\zh (.str "0129 .-\n") (.int r)=some (sD [c]):=by
 have e:("0129 .-\n":Str).cps.toList=[48,49,50,57,32,46,45,10]:=by decide +kernel
 have key:zh (.str "0129 .-\n") (.int r)=(md [48,49,50,57,32,46,45,10] r).map λc=>.str ⟨#[c]⟩:=by
  show (if ("0129 .-\n":Str).length<=sizeLine then (md ("0129 .-\n":Str).cps.toList r).map λc=>PyData.str ⟨#[c]⟩ else none)=_;rw[yK (by decide +kernel),e]
 rw[key];obtain⟨k,rfl⟩:∃k:Nat,r=((k:Nat):Int):=⟨r.toNat,by lia⟩
 have hk:k < 8:=by lia
 match k,hk with
 | 0,_=>exact⟨48,by decide,rfl⟩
 | 1,_=>exact⟨49,by decide,rfl⟩
 | 2,_=>exact⟨50,by decide,rfl⟩
 | 3,_=>exact⟨57,by decide,rfl⟩
 | 4,_=>exact⟨32,by decide,rfl⟩
 | 5,_=>exact⟨46,by decide,rfl⟩
 | 6,_=>exact⟨45,by decide,rfl⟩
 | 7,_=>exact⟨10,by decide,rfl⟩
def Ah{xs:List Nat}{lo hi:Option Int}{c:Nat}(h:c∈cut xs lo hi):c∈xs:=by
 unfold cut at h;exact List.mem_of_mem_drop (List.mem_of_mem_take h)
def Hn(hl:ns.length<=63)(h:Wd G T W)(ht:∀c∈t,c < 58)(hn:t.length<=500)(x2 x5 x6 x7:Slot)(k:Nat)(hk:k < 6):∃y5 y6 y7,O7 (M7 (bY ns) (bj G T W) x2 t (.val (nD k)) x5 x6 x7)=some (.nx (M7 (bY ns) (bj G T W) x2 t (.val (nD k)) y5 y6 y7)):=by
 have hc:∀a:Int,∀ρ:Dl.Env,ae 4 ρ=some (nD k)->f2 az (fC (.int a)) (f2 bS (fC (.int 4)) (ae 4)) ρ=some (.int (a+4 * ((k:Nat):Int))):=λa ρ e=>aZ (eC _ _) rfl (aZ (dc (by
  match k,hk with
  | 0,_|1,_|2,_|3,_|4,_|5,_=>decide)) rfl e)
 let⟨d5,p5,q5⟩:=dm (ns:=ns) (120+4 * ((k:Nat):Int)) ((t.length:Int)+1) hl (by lia);let⟨d6,p6,q6⟩:=dm (ns:=ns) (121+4 * ((k:Nat):Int)) 8 hl (by lia);let⟨d7,p7,q7⟩:=dm (ns:=ns) (122+4 * ((k:Nat):Int)) 2 hl (by lia);generalize dr ns (120+4 * ((k:Nat):Int)) ((t.length:Int)+1)=r5 at *;generalize dr ns (121+4 * ((k:Nat):Int)) 8=r6 at *;generalize dr ns (122+4 * ((k:Nat):Int)) 2=r7 at *;let⟨c,hc8,e8⟩:=QM p6 q6;have hlen:fj [sD t]=some (.int ((t.length:Nat):Int)):=by
  show (if (tS t).length<=sizeLine then some (PyData.int (((tS t).length:Nat):Int)) else none)=_;rw[<- bK,bc,yK (by have:=KO;lia)]
 unfold O7;refine⟨.val (.int r5),.val (sD [c]),.val (sD ((cut t none (some r5)++[c])++cut t (some (r5+r7)) none)),?_⟩;refine (aB (cI (d:=.int r5) (call_of d5 (cons_of rfl (cons_of (hc 120 _ rfl) (cons_of (aZ (eC _ _) ((zj (d:=sD t) rfl).trans hlen) rfl) rfl))) rfl) rfl)).trans ?_;refine (aB (cI (d:=sD [c]) (aZ e8 rfl (call_of d6 (cons_of rfl (cons_of (hc 121 _ rfl) (cons_of rfl rfl))) rfl)) rfl)).trans ?_;have l1:=nI t none (some r5);have l2:=nI t (some (r5+r7)) none;have e7:f2 bI (f2 bI (eI dz (ae 3) gL (pZ (ae 5))) (ae 6)) (eI dz (ae 3) (pZ (f2 az (ae 5) (ah 3 ai (aa (ae 0) (aa (f2 az (fC (.int 122)) (f2 bS (fC (.int 4)) (ae 4))) (aa (fC (.int 2)) af)))))) gL) (aD (M7 (bY ns) (bj G T W) x2 t (.val (nD k)) (.val (.int r5)) (.val (sD [c])) x7))=some (sD ((cut t none (some r5)++[c])++cut t (some (r5+r7)) none)):=by
  refine aZ (a:=sD (cut t none (some r5)++[c])) (b:=sD (cut t (some (r5+r7)) none)) (o5 (by rw[zN,xB];lia)) (aZ (a:=sD (cut t none (some r5))) (b:=sD [c]) (o5 (by rw[xB];lia)) ?_ rfl) ?_
  ·show dz (sD t) none (some r5)=_;exact sv (by lia) _ _
  ·have eb:f2 az (ae 5) (ah 3 ai (aa (ae 0) (aa (f2 az (fC (.int 122)) (f2 bS (fC (.int 4)) (ae 4))) (aa (fC (.int 2)) af)))) (aD (M7 (bY ns) (bj G T W) x2 t (.val (nD k)) (.val (.int r5)) (.val (sD [c])) x7))=some (.int (r5+r7)):=aZ (eC _ _) rfl (call_of d7 (cons_of rfl (cons_of (hc 122 _ rfl) (cons_of rfl rfl))) rfl);unfold eI pZ;rw[eb];show dz (sD t) (some (r5+r7)) none=_;exact sv (by lia) _ _
 refine (aB (cI (d:=sD ((cut t none (some r5)++[c])++cut t (some (r5+r7)) none)) e7 rfl)).trans ?_;have g:Gd ((cut t none (some r5)++[c])++cut t (some (r5+r7)) none):=by
  refine⟨λy hy=>?_,?_⟩
  ·rcases List.mem_append.mp hy with hy|hy
   ·rcases List.mem_append.mp hy with hy|hy
    ·have:=ht y (Ah hy);lia
    ·rw[List.mem_singleton.mp hy];lia
   ·have:=ht y (Ah hy);lia
  ·rw[zN,zN,xB];lia
 let⟨d,e1,e2,e3⟩:=Ep h g;exact ee (br (aZ e3 (call_of e1 rfl rfl) (call_of e2 rfl rfl)))
def Q0:au->Option Out:=dC (fB (f2 bb (ah 3 ar (aa (fC (.int 0)) (aa (ae 1) (aa (ae 9) af)))) (ay (aa (fC (.str "refused")) (aa (fC (.int 1)) af))))) (aG (fC (.bool false))) dQ
def Ri:au->Option Out:=dC (fB (f2 bb (ah 3 ar (aa (fC (.int 1)) (aa (ae 1) (aa (ae 9) af)))) (ay (aa (fC (.str "refused")) (aa (fC (.int 2)) af))))) (aG (fC (.bool false))) dQ
def Nq{n:Nat}(hl:n<=1000):Dl.bS (.tuple [.int 9]) (nD n)=some (.tuple (List.replicate n (.int 9))):=by
 have e:oZ (.tuple [.int 9]) (nD n)=some (.tuple (List.replicate n (.int 9))):=by
  show (if uv ((n:Nat):Int)=true/\[PyData.int 9].length * ((n:Nat):Int).toNat<=sizeLine then some (PyData.tuple (List.replicate ((n:Nat):Int).toNat [PyData.int 9]).flatten) else none)=_;have hz:[PyData.int 9].length * n<=sizeLine:=by
   rw[xB,Nat.one_mul];exact yC hl (by decide)
  rw[yF,yK ⟨lL hl,hz⟩,lX]
 show ((sf nF λi j=>PyData.int (i * j)) (.tuple [.int 9]) (nD n)).or (oZ (.tuple [.int 9]) (nD n))=_;rw[e];rfl
def PU(n:Nat):cg (z0 n)=ak (zs n):=by
 rw[jd];unfold zs;rw[List.map_replicate];rfl
abbrev OF(s w x2:D)(t:List Nat)(x4 x5 x6 x7:Slot)(p:D)(x9 x10 x11:Slot):au:=[.val s,.val w,.val x2,.val (sD t),x4,x5,x6,x7,.val p,x9,x10,x11]
def JJ{ρ:Dl.Env}{n:Nat}(hn:n<=16)(h2:ae 2 ρ=some (.list (Ps.map ak)))(h8:ae 8 ρ=some (ak (zs n))) :
  aE (ay (aa (fC .none) (aa (aY bx (aa (ae 2) af)) (aa (ae 8) (aa (ba (bQ (aa (fC .none) af))) (aa (ba (bQ (aa (f2 az (ae 8) (ay (aa (fC (.int 0)) af))) af))) (aa (ba (bQ (aa (ae 8) (aa (ba (jx cK (aa (ae 8) af))) af)))) (aa (ba (bQ (aa (f2 bS (ay (aa (fC (.int 9)) af)) (f2 az (aY bz (aa (ae 8) af)) (fC (.int 1)))) af))) af)))))))) ρ=some (BB Ps n):=by
 have l1:∀ {f:Dl.Env->Option D}{d:D},f ρ=some d->ba (bQ (aa f af)) ρ=some (.list [d]):=λe=>gp (km (cons_of e rfl) (by simp));have e8:aY bz (aa (ae 8) af) ρ=some (nD n):=by
  have:=l9 (l:=zs n) (k:=PyData.int) h8;rw[show (zs n).length=n by simp[zs]] at this;exact this
 refine Al (tup_is (ds:=BB Ps n) (cons_of rfl (cons_of ((zj h2).trans (Ly _)) (cons_of h8 (cons_of (l1 rfl) (cons_of (l1 (aZ (nK (a:=zs n) (b:=[0]) (by simp[zs];lia)) h8 (CL rfl))) (cons_of (gp (km (cons_of h8 (cons_of (gp ?_) rfl)) (by simp))) (cons_of (l1 (aZ (Nq (n:=n+1) (by lia)) (CL rfl) (aZ (eC ((n:Nat):Int) 1) e8 rfl))) rfl))))))) (by simp[BB]));unfold jx;rw[cons_of h8 rfl];rfl
def Ij{ρ:Dl.Env}{q:List Nat}(L:Ln q)(h10:ae 10 ρ=some (sD (q++[10]))) :
  bQ (aa (eI dz (ae 10) gL (pZ (f1 er (fC (.int 1))))) (aa (f2 bI (ae 10) (fC (.str "\n"))) (aa (fC (.str "\n")) (aa (f2 rX (fC (.str " ")) (ae 10)) (aa (f1 (rO "\n" " \n") (ae 10)) af))))) ρ=some (([q,q++[10]++[10],[10],[32]++(q++[10]),q++[32,10]]:List (List Nat)).map sD):=by
 have hq:=L.l;have hl:(q++[10]).length<=100:=by rw[zN];exact Nat.succ_le_succ hq
 have e1:eI dz (ae 10) gL (pZ (f1 er (fC (.int 1)))) ρ=some (sD q):=by
  unfold eI;rw[h10];show dz (sD (q++[10])) none (some (-1))=_;rw[sv (by lia),lI];simp
 refine km (cons_of e1 (cons_of (aZ (a:=sD (q++[10])) (b:=sD [10]) (o5 (by rw[xB];lia)) h10 (by rw[n9];rfl)) (cons_of (by rw[n9];rfl) (cons_of (aZ (a:=sD [32]) (b:=sD (q++[10])) (Jm (by simp) (by simp) (by rw[xB];lia)) (by rw[uY];rfl) h10) (cons_of ?_ rfl))))) (by simp);unfold f1;rw[h10];exact IJ L
def Jh{ρ:Dl.Env}{q:List Nat}(L:Ln q)(h10:ae 10 ρ=some (sD (q++[10])))(h11:ae 11 ρ=some (.list (([q,q++[10]++[10],[10],[32]++(q++[10]),q++[32,10]]:List (List Nat)).map sD))) :
  aE (ba (k6 nq (ae 11) (ba (bQ (aa (f2 bI (ae 10) (eI dz (ae 10) gL (pZ (f1 er (fC (.int 1)))))) (aa (f2 bI (fC (.str "0 ")) (ae 10)) (aa (fC (.str "x\n")) af))))))) ρ=some ((OT q).map sD):=by
 have hq:=L.l;have hl:(q++[10]).length<=100:=by rw[zN];exact Nat.succ_le_succ hq
 have e1:eI dz (ae 10) gL (pZ (f1 er (fC (.int 1)))) ρ=some (sD q):=by
  unfold eI;rw[h10];show dz (sD (q++[10])) none (some (-1))=_;rw[sv (by lia),lI];simp
 have z0':("0 ":Str)=⟨#[48,32]⟩:=by decide +kernel
 have x0':("x\n":Str)=⟨#[120,10]⟩:=by decide +kernel
 have e3:ba (bQ (aa (f2 bI (ae 10) (eI dz (ae 10) gL (pZ (f1 er (fC (.int 1)))))) (aa (f2 bI (fC (.str "0 ")) (ae 10)) (aa (fC (.str "x\n")) af)))) ρ=some (.list (([q++[10]++q,[48,32]++(q++[10]),[120,10]]:List (List Nat)).map sD)):=by
  refine gp (km (cons_of (aZ (a:=sD (q++[10])) (b:=sD q) (o5 (by lia)) h10 e1) (cons_of (aZ (a:=sD [48,32]) (b:=sD (q++[10])) (o5 (by simp at hl ⊢;lia)) (by rw[z0'];rfl) h10) (cons_of (by rw[x0'];rfl) rfl))) (by simp))
 refine Ae (gp ?_);unfold k6;rw[h11,zA,e3,zA];show small _=_;exact cu (by simp)
def main(ns:List Int)(hl:ns.length<=63):eX [.list (ns.map PyData.int)]=some (.bool true):=by
 let⟨G,T,W,ew,h,_⟩:=vc (ns:=ns) (a:=0) (mo:=9) hl (by decide);have hw:=h.wl;let⟨d69,p69,q69⟩:=dm (ns:=ns) 69 5 hl (by decide);obtain⟨r,hr⟩:∃r:Nat,dr ns 69 5=((r:Nat):Int):=⟨_,(Int.toNat_of_nonneg p69).symm⟩
 rw[hr] at d69 q69;have hun:=K02M.noW_no h (.tuple [.tuple (G.map bX),.tuple (T.map bX)]) (by simp[K02M.noWs]);obtain⟨Ps,ePs⟩:∃Ps:List (List Int),Ps=(List.range r).map λi=>jw (nL ns (70+10 * ((i:Nat):Int)) W) G T W W.length:=⟨_,rfl⟩
 have hp:∀P∈Ps,Pn G T W P:=λP hP=>by
  rw[ePs] at hP;let⟨i,_,rfl⟩:=List.mem_map.mp hP;exact GR hl h
 have hPl:Ps.length<=5:=by
  rw[ePs,zD,zR];lia
 have hh:∀ns∈Ps.map nP,(∀n∈ns,n < 10)/\ns.length<=40:=λns hn=>by
  let⟨P,hP,rfl⟩:=List.mem_map.mp hn;exact⟨sS h (hp P hP),yz h (hp P hP)⟩
 have et:=vi hh (by rw[zD];lia);rw[back h hp] at et;let⟨ht,hn⟩:=F8 hh (by rw[zD];exact hPl);have t0:=FL h hp hPl;have t1:=Eu h hp hPl;generalize su ((Ps.map nP).map eJ)=t at et ht hn t0 t1;have gt:Gd t:=⟨λc hc=>by have:=ht c hc;lia,by lia⟩
 have ec:ao 1 [0,1] (bN (aa (ah 3 ai (aa (ae 0) (aa (fC (.int 69)) (aa (fC (.int 5)) af)))) af)) (fG 0) (λ_=>some true) (ah 3 bW (aa (ae 1) (aa (f2 az (fC (.int 70)) (f2 bS (fC (.int 10)) (ae 0))) (aa (ae 2) af)))) [some (bY ns),some (bj G T W),none,none,none,none,none,none,none,none,none,none]=some (Ps.map ak):=by
  have hrg:bN (aa (ah 3 ai (aa (ae 0) (aa (fC (.int 69)) (aa (fC (.int 5)) af)))) af) [some (bY ns),some (bj G T W),none,none,none,none,none,none,none,none,none,none]=some ((List.range r).map nD):=ym (cons_of (call_of d69 rfl rfl) rfl) (by lia);have hpl:∀i∈List.range r,ah 3 bW (aa (ae 1) (aa (f2 az (fC (.int 70)) (f2 bS (fC (.int 10)) (ae 0))) (aa (ae 2) af))) [some (nD i),some (bY ns),some (bj G T W)]=some (ak (jw (nL ns (70+10 * ((i:Nat):Int)) W) G T W W.length)):=λi hi=>by
   have hi:i < 5:=by have:=List.mem_range.mp hi;lia
   have hm:nF 10 ((i:Nat):Int):=by
    match i,hi with
    | 0,_|1,_|2,_|3,_|4,_=>decide
   have ep:bW [bY ns,.int (70+10 * ((i:Nat):Int)),bj G T W]=some (ak (jw (nL ns (70+10 * ((i:Nat):Int)) W) G T W W.length)):=by rw[Kz];exact wZ hl h
   exact call_of ep (cons_of rfl (cons_of (aZ (eC _ _) rfl (aZ (dc hm) rfl rfl)) (cons_of rfl rfl))) rfl
  refine (rW (cs:=[0,1]) hrg (by rw[zR];lia) hpl).trans ?_;rw[ePs,zM];rfl
 unfold eX;refine ck ?_;show jr [.val (bY ns),.non,.non,.non,.non,.non,.non,.non,.non,.non,.non,.non]=_;unfold jr;have ew':cW [bY ns,.int 0,.int 9]=some (bj G T W):=by rw[Jw];exact ew
 refine (aB (eA (call_of ew' rfl rfl) (call_of ew' rfl rfl) rfl)).trans ?_;refine (aB (mi ec rfl)).trans ?_;refine (aB (cI (d:=sD t) (call_of et rfl rfl) rfl)).trans ?_;have nst:∀l:List Nat,Gd l->bb (sD l) (sD l)=some (.bool false):=λl g=>by
  rw[ne_str g.sk g.sk];simp
 have nr:∀Ps:List (List Int),bb (.list (Ps.map ak)) (.list (Ps.map ak))=some (.bool false):=λPs=>by
  rw[CK,zZ rfl];rfl
 refine (aB (ee (FU (br (aZ (nst t gt) (call_of t0 rfl rfl) rfl)) (br (aZ (nr Ps) (call_of t1 rfl rfl) rfl))))).trans ?_;let⟨ρ',f6,x4,x5,x6,x7,rfl⟩:=sy (tgt:=v7 4) (gb:=O7) nD (λ_ ρ=>∃x4 x5 x6 x7,ρ=M7 (bY ns) (bj G T W) (.own (Ps.map ak)) t x4 x5 x6 x7) 6 0 (M7 (bY ns) (bj G T W) (.own (Ps.map ak)) t .non .non .non .non)
  (λj ρ _ hj hρ=>by
   let⟨x4,x5,x6,x7,rfl⟩:=hρ;let⟨y5,y6,y7,e⟩:=Hn hl h ht hn (.own (Ps.map ak)) x5 x6 x7 j (by lia);exact⟨_,_,rfl,e,_,_,_,_,rfl⟩) ⟨_,_,_,_,rfl⟩
 rw[<- yG] at f6;refine (aB (eO f6 (ym (n:=6) rfl (by decide)) rfl)).trans ?_;have ez:∀ρ:Dl.Env,ae 1 ρ=some (bj G T W)->f2 bS (ay (aa (fC (.int 0)) af)) (aY bz (aa (f2 bf (ae 1) (fC (.int 2))) af)) ρ=some (ak (zs W.length)):=λρ h1=>aZ (Kj (by lia)) (CL rfl) (l9 (l:=W) (k:=aF) (aZ (si G T W) h1 rfl));refine (aB (eA (ez _ rfl) (ez _ rfl) rfl)).trans ?_;let⟨ρ',f9,x9,rfl⟩:=oO (tgt:=v7 9) (gb:=Q0) (R:=λ(_:Unit) ρ=>∃x9,ρ=OF (bY ns) (bj G T W) (.list (Ps.map ak)) t x4 x5 x6 x7 (ak (zs W.length)) x9 .non .non) (λd:D=>d) (λs _=>s)
  (l:=BB Ps W.length) (s:=()) (ρ:=OF (bY ns) (bj G T W) (.list (Ps.map ak)) t x4 x5 x6 x7 (ak (zs W.length)) .non .non .non)
  (λ_ ρ d hd hρ=>by
   let⟨x9,rfl⟩:=hρ;exact⟨_,_,rfl,ee (br (aZ (K02M.gNeD_ref 1) (call_of (Jd h Ps d hd) rfl rfl) (K02M.refE 1 _))),_,rfl⟩) ⟨_,rfl⟩
 rw[List.map_id'] at f9;refine (aB (eO f9 (JJ hw rfl rfl) rfl)).trans ?_;have hz:∀n∈z0 W.length,n < 10:=λn hn=>by rw[List.eq_of_mem_replicate hn];decide
 have el:=vi (pss:=[z0 W.length]) (λns hn=>by
  rw[List.mem_singleton.mp hn];exact⟨hz,by rw[xK];lia⟩) (by simp)
 have L:=Nz h;have od:=JL h;rw[show [z0 W.length].map cg=[ak (zs W.length)] by rw[List.map_singleton,PU],show su ([z0 W.length].map eJ)=eJ (z0 W.length)++[10] from rfl] at el;generalize eJ (z0 W.length)=q at el L od;refine (aB (cI (d:=sD (q++[10])) (call_of el (cons_of (gp (km (cons_of rfl rfl) (by simp))) rfl) rfl) rfl)).trans ?_;refine (aB (mi (Ij L rfl) rfl)).trans ?_;let⟨ρ',fo,x9,rfl⟩:=oO (tgt:=v7 9) (gb:=Ri) (R:=λ(_:Unit) ρ=>∃x9,ρ=OF (bY ns) (bj G T W) (.list (Ps.map ak)) t x4 x5 x6 x7 (ak (zs W.length)) x9 (.val (sD (q++[10]))) (.val (.list (([q,q++[10]++[10],[10],[32]++(q++[10]),q++[32,10]]:List (List Nat)).map sD)))) sD (λs _=>s)
  (l:=OT q) (s:=()) (ρ:=OF (bY ns) (bj G T W) (.list (Ps.map ak)) t x4 x5 x6 x7 (ak (zs W.length)) x9 (.val (sD (q++[10]))) (.val (.list (([q,q++[10]++[10],[10],[32]++(q++[10]),q++[32,10]]:List (List Nat)).map sD))))
  (λ_ ρ l hm hρ=>by
   let⟨x9,rfl⟩:=hρ;exact⟨_,_,rfl,ee (br (aZ (K02M.gNeD_ref 2) (call_of (od l hm) rfl rfl) (K02M.refE 2 _))),_,rfl⟩) ⟨_,rfl⟩
 refine (aB (eO fo (Jh L rfl rfl) rfl)).trans ?_;have u1:=Eu (Ps:=[]) h (λ_ z=>by cases z) (by decide);have u0:=FL (Ps:=[]) h (λ_ z=>by cases z) (by decide);have hem:(PyData.str "":D)=sD []:=by rw[oY];rfl
 have fem:∀ρ:Dl.Env,fC (.str "") ρ=some (sD []):=λρ=>by rw[hem];rfl
 refine (aB (ee (FU (br (aZ (nr []) (call_of u1 (cons_of rfl (cons_of rfl (cons_of (fem _) rfl))) rfl) (nil_of _))) (br (aZ (nst [] ⟨by simp,by simp⟩) (call_of u0 (cons_of rfl (cons_of rfl (cons_of (nil_of _) rfl))) rfl) (fem _)))))).trans ?_;refine cY (aZ (CI 0 2) (Cy (is:=[0,1]) (j:=0) (Al (tup_is (ds:=[nD 0,nD 1]) rfl (by simp))) (by simp) λi hi=>?_) (Fp 0 (n:=2) (by decide) _));have hi:i=0\/i=1:=by simpa using hi
 rcases hi with rfl|rfl
 ·exact call_of (eZ (Qe (p:=.str "") hun) Et) rfl rfl
 ·exact call_of (je (P2 (p:=.str "") hun) Et) rfl rfl
end
end K83M
end Wm
namespace K83
open PySem L2 Dl PySem.Spec PyProof.Rows Pg Hd PySem.W Rg
def main(ns:List Int)(h:ns.length<=63):eX [.list (ns.map PyData.int)]=some (.bool true):=Wm.K83M.main ns h
def ins(P:Params){h:Heap}{mg:Str->Option Value}(X:(Kf P).In h)(G:h.Ns mainGlobals mg):L7 (Kf P) mg:=⟨λ_ _ _=>by
 have B:∀x∈cR,mg x=none:=λx hx=>mg_none_of X G (Dl.Lk (by kernel_rfl) x hx);have M:Ex.sO (Kf P) mg Rb QJ:=Ex.Ht X G (by kernel_rfl);refine on (top 47) (f2 272 271 mY) ?_;refine on (top 46) (f2 267 266 mY) ?_;refine on (top 45) (f1 262 261 mY) ?_;refine ot (top 44) (f3 257 256 mY) M (ns:=Ra) (Ex.N6 (st:=top 43) ((f1 250 249 mY).mg X G) M B rfl Rf.OV rfl rfl rfl rfl (by decide +kernel) (by decide +kernel) (by decide) rfl rfl) ?_;refine on (top 42) (f3 243 242 mY) ?_;refine on (top 41) (f2 236 235 mY) ?_;refine on (top 40) (f4 229 228 mY) ?_;refine on (top 39) (f3 224 223 mY) ?_;refine on (top 38) (f3 219 218 mY) ?_;refine on (top 37) (f3 212 211 mY) ?_;refine on (top 36) (f2 205 204 mY) ?_;refine ox (top 34) (f2 198 197 GJ) ?_;refine ox (top 33) (f2 193 192 GJ) ?_;refine on (top 32) (f2 188 187 GJ) ?_;refine ox (top 31) (f1 183 182 GJ) ?_;refine on (top 30) (f1 176 175 GJ) ?_;refine ox (top 27) (f1 169 168 GC) ?_;refine ox (top 26) (f1 164 163 GC) ?_;refine on (top 25) (f1 157 156 GC) ?_;refine ox (top 24) (f1 152 151 GC) ?_;refine on (top 23) (f1 145 144 GC) ?_;refine ox (top 20) (f1 140 139 m6) ?_;refine on (top 19) (f2 133 132 m6) ?_;refine on (top 18) (f3 128 127 m6) ?_;refine on (top 17) (f4 123 122 m6) ?_;refine on (top 16) (f1 118 117 m6) ?_;refine on (top 15) (f1 113 112 m6) ?_;refine on (top 14) (f3 108 107 m6) ?_;refine on (top 13) (f3 103 102 m6) ?_;refine on (top 12) (f2 96 95 m6) ?_;refine on (top 11) (f2 89 88 m6) ?_;refine on (top 10) (f3 84 83 m6) ?_;refine on (top 9) (f2 77 76 m6) ?_;refine on (top 8) (f3 70 69 m6) ?_;exact⟨Rf.Ph,Ex.Pu,(Rf.JX ⟨257,mg_of X G (by kernel_rfl)⟩ (Rf.JX ⟨259,mg_of X G (by kernel_rfl)⟩ (Rf.D4 ⟨355,mg_of X G (by kernel_rfl)⟩ (Rf.D4 ⟨392,mg_of X G (by kernel_rfl)⟩ Rf.PM)))),B,M.ok (by decide +kernel),⟨_,X,G⟩⟩,gD.mg (f1 277 276 mY) X G⟩
def OK(w:World):lS (Kf w.params) []=true:=by kernel_rfl
end K83
open PySem PySem.W PyProof.Rows
theorem PySem.Challenge.cw_stillflow_k83_walks_as_texts_holds : PySem.Challenge.rw_stillflow_k83_walks_as_texts.Holds := by
 refine holds_law K83.Pe λk1=>?_
 refine holds_open (XP:=XL K83.vw []) (YP:=K83.hk.says) K83.left K83.hk.of K83.hk.keeps (λs e=>xl_of s (Bool.and_eq_true_iff.mp e).1) XL.keeps (by rfl) (by rfl) (by rfl) (λs e=>recFacts_of (Bool.and_eq_true_iff.mp e).2) (by rfl) k1 (by decide +kernel) ⟨rfl,rfl,rfl,rfl,rfl,by decide +kernel⟩ ?hw ?hc
 case hw=>w_witness2
 case hc=>exact K83.walk (l:=PySem.Challenge.rw_stillflow_k83_walks_as_texts) (K:=K83.Kf) (ts:=[]) rfl rfl rfl (λw h Y=>⟨Y.1,Y.2⟩) K83.OK (λw=>K83.ins w.params) K83.main
