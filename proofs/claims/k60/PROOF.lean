import PyProof.Rows.All
import Wide.All
import OpenK.AllK
import Wide.FinOn
import PyProof.EqAt
import PyProof.EqKinds
import PyProof.TupleCall
import Lean
import PyProof.Draws
import PyProof.ListRange
import KE.KIsAll
import PySem.Challenge.RW_stillflow_k60_papers
set_option Elab.async false
set_option linter.all false
set_option maxRecDepth 100000
set_option maxHeartbeats 4000000
abbrev _root_.zA:=@Option.bind_some
abbrev _root_.zB:=@Option.map_some
abbrev _root_.zC:=@List.mem_cons_of_mem
abbrev _root_.zD:=@List.length_map
abbrev _root_.zE:=@List.mem_cons_self
abbrev _root_.zF:=@Bool.and_eq_true
abbrev _root_.zG:=@List.getD_eq_getElem?_getD
abbrev _root_.zH:=@List.size_toArray
abbrev _root_.zI:=@List.map_cons
abbrev _root_.zJ:=@decide_eq_true_eq
abbrev _root_.zK:=@List.getElem?_eq_getElem
abbrev _root_.zL:=@List.length_cons
abbrev _root_.zM:=@List.map_map
abbrev _root_.zN:=@List.length_append
abbrev _root_.zO:=@List.getElem?_map
abbrev _root_.zP:=@Nat.lt_of_lt_of_le
abbrev _root_.zQ:=@List.mem_cons
abbrev _root_.zR:=@List.length_range
abbrev _root_.zS:=@List.mem_range
abbrev _root_.zT:=@List.getElem?_eq_some_iff
abbrev _root_.zU:=@PySem.Heap.get?_push_of_some
abbrev _root_.zV:=@PySem.wpAny_bind
abbrev _root_.zW:=@PySem.wpAny_pure
abbrev _root_.zX:=@PySem.Heap.get?_push_size
abbrev _root_.zY:=@PySem.Heap.lt_size
abbrev _root_.zZ:=@decide_eq_false
abbrev _root_.yA:=@decide_eq_true
abbrev _root_.yB:=@List.lookup_cons
abbrev _root_.yC:=@List.length_set
abbrev _root_.yD:=@Nat.le_trans
abbrev _root_.yE:=@List.mem_append_right
abbrev _root_.yF:=@List.not_mem_nil
abbrev _root_.yG:=@Int.toNat_natCast
abbrev _root_.yH:=@List.range_eq_range'
abbrev _root_.yI:=@List.map_congr_left
abbrev _root_.yJ:=@List.foldl_cons
abbrev _root_.yK:=@List.mem_singleton
abbrev _root_.yL:=@Option.some.injEq
abbrev _root_.yM:=@if_pos
abbrev _root_.yN:=@Nat.le_refl
abbrev _root_.yO:=@if_neg
abbrev _root_.yP:=@Bool.false_eq_true
abbrev _root_.yQ:=@Bool.not_eq_true'
abbrev _root_.yR:=@of_decide_eq_true
abbrev _root_.yS:=@Nat.ne_of_lt
abbrev _root_.yT:=@List.getElem?_append_left
abbrev _root_.yU:=@List.getElem?_append_right
abbrev _root_.yV:=@List.map_nil
abbrev _root_.yW:=@List.set_cons_zero
abbrev _root_.yX:=@List.set_cons_succ
abbrev _root_.yY:=@List.getElem?_replicate
abbrev _root_.yZ:=@List.getElem?_cons_succ
abbrev _root_.xA:=@Bool.false_ne_true
abbrev _root_.xB:=@PySem.wpAny_mono
abbrev _root_.xC:=@decide_eq_false_iff_not
abbrev _root_.xD:=@List.length_singleton
abbrev _root_.xE:=@Option.some.inj
abbrev _root_.xF:=@List.replicate_succ
abbrev _root_.xG:=@List.cons_append
abbrev _root_.xH:=@List.all_eq_true
abbrev _root_.xI:=@if_true
abbrev _root_.xJ:=@List.getElem?_set
abbrev _root_.xK:=@PySem.Heap.size_push
abbrev _root_.xM:=@List.length_nil
abbrev _root_.xN:=@List.length_replicate
abbrev _root_.xO:=@PySem.Heap.get?_update_other
abbrev _root_.xP:=@List.nil_append
abbrev _root_.xQ:=@List.length_filter_le
abbrev _root_.xR:=@List.getElem?_cons_zero
abbrev _root_.xS:=@PySem.wpAny_pyIter_tuple
abbrev _root_.xU:=@List.all_cons
abbrev _root_.xV:=@or_false
abbrev _root_.xW:=@Nat.zero_le
abbrev _root_.xX:=@PySem.wpAny_truthy_bool
abbrev _root_.xY:=@PySem.wpAny_holding
abbrev _root_.xZ:=@Bool.not_true
abbrev _root_.qA:=@Int.le_refl
abbrev _root_.qB:=@List.getElem_mem
abbrev _root_.qC:=@List.mem_of_getElem?
abbrev _root_.qD:=@PySem.wpAny_callSpecial?_slot
abbrev _root_.qE:=@Array.getD_eq_getD_getElem?
abbrev _root_.qF:=@Nat.lt_irrefl
abbrev _root_.qG:=@List.append_nil
abbrev _root_.qH:=@Option.getD_some
abbrev _root_.qJ:=@List.length_drop
abbrev _root_.qK:=@List.mem_append_left
abbrev _root_.qL:=@PySem.wpAny_pyIter_list
abbrev _root_.qM:=@PySem.wpAny_newObj_type
abbrev _root_.qN:=@List.flatten_cons
abbrev _root_.qP:=@PySem.F.plainAttrs_list
abbrev _root_.qQ:=@if_false
abbrev _root_.qS:=@List.getElem_of_mem
abbrev _root_.qT:=@PyProof.Rows.callWith_type1
abbrev _root_.qU:=@PySem.wpAny_field
abbrev _root_.qV:=@PySem.sizeLine_eq
abbrev _root_.qX:=@PySem.wpAny_call_entry
abbrev _root_.qY:=@PySem.call_meets
abbrev _root_.qZ:=@PySem.wpAny_Call_Name_kw
abbrev _root_.jA:=@Nat.lt_of_le_of_lt
abbrev _root_.jB:=@List.map_append
abbrev _root_.jC:=@Bool.or_eq_true
abbrev _root_.jD:=@congrArg
abbrev _root_.jE:=@Nat.zero_add
abbrev _root_.jF:=@List.pairwise_map
abbrev _root_.jG:=@PyProof.Rows.slot_tuple_getitem
abbrev _root_.jH:=@List.filterMap_cons
abbrev _root_.jI:=@List.ext_getElem
abbrev _root_.jJ:=@Nat.ne_of_gt
abbrev _root_.jK:=@PySem.Calls.spliced_cons
abbrev _root_.jL:=@PySem.wpAny_passesOwn
abbrev _root_.jM:=@Bool.true_and
abbrev _root_.jN:=@List.getElem?_eq_none
abbrev _root_.jO:=@Ne.symm
abbrev _root_.jP:=@Nat.lt_succ_of_lt
abbrev _root_.jQ:=@and_self
abbrev _root_.jR:=@decide_true
abbrev _root_.jS:=@PySem.F.slot_tuple_iterator_next
abbrev _root_.jT:=@PySem.codeAny_mono
abbrev _root_.jU:=@Nat.le_of_lt
abbrev _root_.jV:=@Int.le_trans
abbrev _root_.jW:=@Nat.le_add_right
abbrev _root_.jX:=@List.length_take
abbrev _root_.jY:=@List.filter_cons
abbrev _root_.jZ:=@List.mem_of_find?_eq_some
abbrev _root_.kA:=@Array.getElem?_eq_getElem
abbrev _root_.kC:=@PySem.mem_of_lookup
abbrev _root_.kE:=@PyProof.Rows.listUpdate_at
abbrev _root_.kF:=@List.sum_cons
abbrev _root_.kH:=@PyProof.Rows.get?_update_seq
abbrev _root_.kJ:=@PySem.codeAny_builtin
abbrev _root_.kK:=@List.filter_map
abbrev _root_.kL:=@PySem.wpAny_seqItems
abbrev _root_.kM:=@PySem.Calls.spliced_nil
abbrev _root_.kN:=@PySem.SeqAt.canLay_of_shaped
abbrev _root_.kO:=@List.take_of_length_le
abbrev _root_.kP:=@List.find?_cons_of_neg
abbrev _root_.kU:=@List.findIdx_lt_length_of_exists
abbrev _root_.kX:=@Option.getD_none
abbrev _root_.kY:=@Nat.lt_succ_self
abbrev _root_.kZ:=@PySem.wpAny_newList
abbrev _root_.vA:=@PySem.wpAny_attempt
abbrev _root_.vB:=@List.getElem?_set_ne
abbrev _root_.vC:=@List.nodup_cons
abbrev _root_.vD:=@List.cons.injEq
abbrev _root_.vE:=@Bool.eq_iff_iff
abbrev _root_.vF:=@Bool.and_false
abbrev _root_.vG:=@PySem.wpAny_setField_rec
abbrev _root_.vH:=@Int.emod_lt_of_pos
abbrev _root_.vI:=@List.drop_eq_getElem_cons
abbrev _root_.vJ:=@List.reverse_cons
abbrev _root_.vK:=@List.foldl_append
abbrev _root_.vL:=@List.findIdx_cons
abbrev _root_.vM:=@PySem.wpAny_standAt
abbrev _root_.vN:=@PySem.F.args_tuple_add_2
abbrev _root_.vO:=@PySem.wpAny_execs_cons
abbrev _root_.vP:=@List.range'_succ
abbrev _root_.vQ:=@PySem.F.entry_tuple_add
abbrev _root_.vR:=@List.pairwise_singleton
abbrev _root_.vS:=@Int.eq_ofNat_of_zero_le
abbrev _root_.vT:=@PySem.wpAny_call
abbrev _root_.vU:=@beq_iff_eq
abbrev _root_.vV:=@PyProof.Rows.listItems_at
abbrev _root_.vW:=@PySem.F.slot_tuple_add
abbrev _root_.vX:=@List.range_succ_eq_map
abbrev _root_.vY:=@List.getElem?_set_self
abbrev _root_.vZ:=@List.find?_cons_of_pos
abbrev _root_.wA:=@PySem.wpAny_execs_nil
abbrev _root_.wC:=@Nat.not_lt_zero
abbrev _root_.wD:=@List.range_succ
abbrev _root_.wF:=@List.of_mem_zip
abbrev _root_.wG:=@List.find?_some
abbrev _root_.wH:=@Int.emod_nonneg
abbrev _root_.wI:=@PySem.F.slot_zip_next
abbrev _root_.wJ:=@PySem.F.slot_int_rmul
abbrev _root_.wK:=@List.getElem?_toArray
abbrev _root_.wL:=@Nat.mul_le_mul
abbrev _root_.wM:=@Bool.false_and
abbrev _root_.wN:=@PySem.wpAny_loadName_local
abbrev _root_.wQ:=@PySem.codeAny_call_builtin
abbrev _root_.wR:=@List.mem_of_mem_drop
abbrev _root_.wU:=@List.getD_cons_zero
abbrev _root_.wV:=@List.getD_cons_succ
abbrev _root_.wW:=@Array.length_toList
abbrev _root_.wX:=@PySem.wpAny_rule
abbrev _root_.wY:=@PySem.wpAny_Name
abbrev _root_.wZ:=@PySem.typeIs_int
abbrev _root_.Za:=@of_decide_eq_false
abbrev _root_.Zb:=@Option.isNone_none
abbrev _root_.Zc:=@List.find?_eq_none
abbrev _root_.Zd:=@PySem.F.args_tuple_mul_2
abbrev _root_.Ze:=@PySem.Code.quiet_builtin
abbrev _root_.Zf:=@PySem.Calls.Constant_str
abbrev _root_.Zg:=@PySem.wpAny_typeOf
abbrev _root_.Zh:=@decide_false
abbrev _root_.Zi:=@PySem.concat_meets
abbrev _root_.Zj:=@Nat.lt_trans
abbrev _root_.Zk:=@PySem.wpAny_pyIter_enum
abbrev _root_.Zl:=@List.nodup_append
abbrev _root_.Zm:=@Function.comp_def
abbrev _root_.Zn:=@PySem.F.entry_tuple_mul
local macro_rules|`(tactic|simp?[$t,*] $[$l:location]?)=>`(tactic|simp only[$t,*] $[$l]?)
local macro_rules|`(tactic|let ⟨$a,*⟩:=$e)=>do
 let rec f(n:Nat)(t:Lean.Syntax):Lean.MacroM (Lean.TSyntax `rcasesPat):=match n with
 |0=>Lean.Macro.throwUnsupported
 |n+1=>match t with
  |`(⟨$b,*⟩)=>do
    let c<-b.getElems.mapM fun x=>do `(Lean.Parser.Tactic.rcasesPatLo|$(<-f n x):rcasesPat)
    `(rcasesPat|⟨$c,*⟩)
  |`($x:ident)=>`(rcasesPat|$x:ident)
  |_=>`(rcasesPat|_)
 `(tactic|obtain $(<-f 9 (<-`(⟨$a,*⟩))):rcasesPat:=$e)
local macro_rules|`(tactic|lia)=>`(tactic|omega)
local macro_rules|`(def $i:declId $s:optDeclSig $v:declVal)=>`(noncomputable def $i:declId $s:optDeclSig $v:declVal)
local macro_rules|`(abbrev $i:declId $s:optDeclSig $v:declVal)=>`(noncomputable abbrev $i:declId $s:optDeclSig $v:declVal)
namespace L2
open PySem
def gQ(s:Stmt):Arguments:=match s with
 | .FunctionDef _ a _ _ _ _ _ _ _ _=>a
 | _=>{ posonlyargs:=[],args:=[],vararg:=none,kwonlyargs:=[],kw_defaults:=[],kwarg:=none,defaults:=[] }
def bF(s:Stmt):List Stmt:=match s with
 | .FunctionDef _ _ b _ _ _ _ _ _ _=>b
 | _=>[]
def ao(s:Stmt):Scope:=match s with
 | .FunctionDef _ _ _ _ _ _ sc _ _ _=>sc
 | _=>{ kind:=.function,names:=[],isGenerator:=false,isCoroutine:=false }
end L2
namespace Hd
open PySem L2 PySem.Spec PyProof.Rows
variable {N:Nat}
def en(P:Params)(x:String)(t:Nat)(v:Value):DictEntry:=⟨PyData.keyHash P (Str.ofString x),.str (Str.ofString x) t,v⟩
def fo(x:Str)(st:Stmt)(pm:Value)(c:Addr):Obj:=⟨.type "function",none,.func (W.fnOf x x (gQ st) (bF st) (ao st) .none .none .none pm none (.ref c) .none),#[]⟩
def co(vs:List Value):Obj:=⟨.type "code",none,.fields vs.toArray,#[]⟩
def SB(n:Nat):Value:=if n=0 then .none else .ref n
def eS(x:Str)(t l n a b c d e f u:Nat):Obj:=co [.str x t,.str x (t+1),.str "/claim/cut.py" (t+2),.int l 0,.int n 0,.int 0 0,.int 0 0,.int 3 0,SB a,.bool true,.int 181 0,SB b,SB c,SB d,SB e,SB f,.int u 0,.int l 0,.str "/claim/cut.py" (u+1)]
def SF(x:Str)(C ns m t u:Nat)(bs up subs:List Value):Obj:=⟨.type "type",none,.cls { name:=x,bases:=bs,mro:=.ref C::(up++[.type "ValueError",.type "Exception",.type "BaseException",.type "object"]),ns:=ns,qualname:=x,subclasses:=subs },#[some (.ref m),none,some (.str x t),some (.str x u),some (.builtin "ValueError.__new__"),some (.bool true)]⟩
open PySem PySem.W L2
structure Acc where
 a:Nat
 t:Nat
 nm:Value
 es:List DictEntry
 ts:List Value
 os:List Obj
def Pd(q:NameKind)(sc:Scope):List Str:=sc.names.filterMap λ(x,k)=>if k=q then some x else none
def Sa:Nat->List Str->List Value
 | _,[]=>[]
 | t,x::l=>.str x t::Sa (t+1) l
def Nx(vs:List Value):Obj:=⟨.type "tuple",none,.seq vs.toArray,#[]⟩
def S6:Obj:=⟨.none,none,.fields #[],#[]⟩
def Tc(x:Str)(st:Stmt):Obj:=⟨.none,none,.func { name:=x,qualname:=x,params:=gQ st,body:=.stmts (bF st),scope:=ao st,globals:=0,closure:=[],defaults:=.none,kwdefaults:=.none },#[]⟩
def Xc(P:Params)(k:Nat)(st:Stmt):Acc->Acc
 | ⟨a,t,nm,es,ts,os⟩=>match st with
  | .FunctionDef x args _ _ _ _ sc _ _ pos =>
   if k=0 then ⟨a+5,t+6,nm,⟨PyData.keyHash P x,.str x (t+5),.ref (a+4)⟩::es,.ref (a+3)::.int 0 0::.int pos.line 0::ts,
    fo x st nm (a+3)::eS x t pos.line args.args.length a (a+1) 0 0 0 (a+2) (t+3)::Tc x st::S6::Nx []::os⟩
   else
    let m:=(Pd .local sc).length;let n:=m+(Pd .cell sc).length
    ⟨a+7,t+6+n,nm,⟨PyData.keyHash P x,.str x (t+5+n),.ref (a+6)⟩::es,.ref (a+5)::.int 0 0::.int pos.line 0::ts,
    fo x st nm (a+5)::eS x t pos.line args.args.length a (a+1) 0 (a+2) (a+3) (a+4) (t+3+n)::Tc x st::Nx (Sa (t+3+m) (Pd .cell sc))::Nx (Sa (t+3) (Pd .local sc))::S6::Nx []::os⟩
  | .Assign [.Name x _] (.Constant c _ _) _ =>
   let v:=match c with|.int i=>Value.int i t|.str y=>.str y t|_=>.none
   if k=2 then ⟨a,t+2,v,es,ts,os⟩ else ⟨a,t+2,nm,⟨PyData.keyHash P x,.str x (t+1),v⟩::es,ts,os⟩
  | _=>⟨a,t,nm,es,ts,os⟩
def Uw(P:Params):List Nat->List Stmt->Acc->Acc
 | k::ks,st::r,A=>Uw P ks r (Xc P k st A)
 | _,_,A=>A
def VV:Heap->Acc->Heap
 | ⟨⟨o0::o1::o2::⟨c3,d3,.dict ⟨e0::es⟩ n,s3⟩::r⟩,lf⟩,A=>⟨⟨o0::o1::o2::⟨c3,d3,.dict ⟨{ e0 with val:=A.nm }::(es++A.es.reverse)⟩ (n+A.es.length),s3⟩ ::
   (r.modify 8 (fun|⟨c,d,.fields ⟨vs⟩,s⟩=>⟨c,d,.fields ⟨vs++A.ts.reverse⟩,s⟩|o=>o)++A.os.reverse)⟩,lf⟩
 | h,_=>h
def U3(s:Shared)(A:Acc):Shared:={ s with heap:=VV s.heap A,toks:=A.t }
section
variable (p:Program) (w:World)
abbrev DR:=behindTheImports p
abbrev MU:PySem.Env:={ scope:=p.main.scope,locals:=3,globals:=3,cells:=[],code:=.ref 13,frame:=some 14 }
abbrev Eh:Code:=.body (DR p) (MU p)
def MB(i:Nat):Pos:=if i=0 then default else ((DR p).getD (i - 1) (.Pass default)).pos
abbrev NM:List Frame:=[topFrame default]
def S0:Shared:=(fencedOpening treeTable p w 6000).getD {}
def Sb:Shared:=((topGo treeTable p w 11 (some (.ref 6)) 12 (S0 p w) (topStub p)).map (·.1)).getD {}
abbrev Tb(n i j:Nat)(s:Shared):=segRun treeTable p w 11 (some (.ref 6)) 1 n s (piecesOf (((DR p).drop i).take (j - i)) (MU p) (Eh p) (MB p i) NM)
def Sc(n j:Nat):Shared:=((Tb p w n 0 j (Sb p w)).map (·.2.1)).getD {}
def SA(n j:Nat)(A:Acc)(ks:List Nat)(m:Nat):Shared:=U3 (Sc p w n j) (Uw w.params (ks.take m) ((DR p).drop j) A)
end
def Ow{p q:Program}{loose:List Str}{Xt:Shared->Bool}{α:Type}{Yf:Shared->α}{Ya:World->α}{g0:Bool}{s1:World->Shared}{M:Nat}
  (ho:∀w,fencedOpening treeTable p w 6000=some (S0 p w)) (hs:∀w,((S0 p w).heap.isNs mainGlobals&&(S0 p w).gens.size == 0,(S0 p w).heap.objs.size,(S0 p w).heap.nsMap mainGlobals "__annotations__")=(true,11,some (.ref 6)))
  (hr:∀w,topRun treeTable p w 11 (some (.ref 6)) M (S0 p w) (topStub p)=some (s1 w)) (hM:M<=6000)
  (hl:∀w,(staticsOk (importedModules p.main.body) (S0 p w).heap (s1 w).heap&&namesBound p (s1 w).heap&&gensDone (s1 w)&&laidKept (S0 p w).heap (s1 w).heap)=true)
  (hk:∀w,openSeen q loose (importedModules p.main.body) Xt g0 (s1 w)=openGood q loose) (hy:∀w,Yf (s1 w)=Ya w):LeftO p q loose Xt Yf Ya 6000 g0:=λw=>by
 have r:=topRun_mono (6000 - M) _ _ _ _ (hr w);rw[show M+(6000 - M)=6000 by lia] at r;have e:=hs w;simp?[Prod.mk.injEq] at e;have t:openEnds treeTable p w 6000=some (s1 w):=by
  unfold openEnds;rw[ho w,zA];unfold topFrom;rw[e.1,e.2.1,e.2.2];dsimp only;rw[r,zA,hl w]
 rw[t,zB,hk w,hy w]
def RG{p:Program}{w:World}{r:Shared}(a:topGo treeTable p w 11 (some (.ref 6)) 12 (S0 p w) (topStub p)=some (Sb p w,⟨denote treeTable (.body (DR p) (MU p)),Eh p,default,NM⟩))
  (b:segRun treeTable p w 11 (some (.ref 6)) 1 1 (Sb p w) (blockOf (DR p) (MU p) (Eh p) default NM)=some (.next,Sb p w,Eh p,MB p 0))
  (k:topRun treeTable p w 11 (some (.ref 6)) N (Sb p w) (restOf (DR p) (MU p) (Eh p) (MB p 0) NM)=some r):topRun treeTable p w 11 (some (.ref 6)) (12+(1+N)) (S0 p w) (topStub p)=some r:=go_top a (piece_block b k)
def VL{p:Program}{w:World}{n N i j:Nat}{s s' r:Shared}(h:Tb p w n i j s=some (.next,s',Eh p,MB p j))(XB:i<=j)(k:topRun treeTable p w 11 (some (.ref 6)) N s' (restOf ((DR p).drop j) (MU p) (Eh p) (MB p j) NM)=some r) :
  topRun treeTable p w 11 (some (.ref 6)) (n+N) s (restOf ((DR p).drop i) (MU p) (Eh p) (MB p i) NM)=some r:=by
 have e:(DR p).drop i=((DR p).drop i).take (j - i)++(DR p).drop j:=by
  have:=List.take_append_drop (j - i) ((DR p).drop i);rw[List.drop_drop,show i+(j - i)=j by lia] at this;exact this.symm
 rw[e];exact piece_app h k
end Hd
namespace K60
open PySem L2 PySem.Spec PyProof.Rows Hd PySem.W
abbrev top(i:Nat):Stmt:=PySem.Challenge.pw_stillflow_k60_papers.main.body.getD i (.Pass ⟨0,0,0,0⟩)
def vw:Program:=W.view PySem.Challenge.pw_stillflow_k60_papers [1,2,3,4,5,6,8,9,10,11,12,13,14,15,16,17,18,19,20,21,22,23,24,26,27,28,29,30,31,33,34,35,36,37,38,39,41,42,43,44,45,46,47,48,49,51,52,53,54,55,56,57,58,59,60,61,62,63,64,65,66,67,68,69,70,71]
abbrev W6:Addr:=24
abbrev WA:List (Str×Addr):=[("NoWorld",37),("NoPlan",49),("NoPlace",61),("TooMany",73),("Nothing",85)]
def n0:Value:=(.str "stillflow.worlds" 287)
def Jm:Value:=(.str "stillflow.flows" 402)
def GR:Value:=(.str "stillflow.finding" 448)
def By:Value:=(.str "stillflow.papers" 511)
def iX:Value:=(.str "law_stillflow_k60_papers" 585)
def Kf(P:Params):W.Frag:=[(3,⟨.type "dict",none,.dict #[en P "__name__" 165 (.str "law_stillflow_k60_papers" 585),en P "__doc__" 166 .none,en P "__package__" 167 .none,en P "__loader__" 168 (.builtin "__main__.__loader__#opaque"),en P "__spec__" 169 .none,en P "__annotations__" 170 (.ref 6),en P "__builtins__" 171 (.ref 4),en P "__file__" 173 (.str "/claim/cut.py" 172),en P "__cached__" 174 .none,en P "FlowError" 206 (.ref 24),en P "NoWorld" 222 (.ref 37),en P "NoPlan" 238 (.ref 49),en P "NoPlace" 254 (.ref 61),en P "TooMany" 270 (.ref 73),en P "Nothing" 286 (.ref 85),en P "MOST_PLACES" 290 (.int 4 289),en P "MOST" 292 (.int 9 291),en P "is_whole" 301 (.ref 94),en P "is_number" 309 (.ref 101),en P "is_long" 318 (.ref 108),en P "are_likes" 324 (.ref 113),en P "is_end" 332 (.ref 120),en P "is_way" 341 (.ref 127),en P "are_parts" 347 (.ref 132),en P "liked_pairs" 353 (.ref 137),en P "is_world" 359 (.ref 142),en P "through" 365 (.ref 147),en P "keeps_amounts" 371 (.ref 152),en P "is_plan" 377 (.ref 157),en P "check_world" 384 (.ref 164),en P "check_plan" 392 (.ref 171),en P "replaced" 401 (.ref 178),en P "ways_of" 409 (.ref 183),en P "chosen_by" 415 (.ref 188),en P "wants_more" 421 (.ref 193),en P "why_kept" 430 (.ref 200),en P "first_leaving" 439 (.ref 207),en P "is_still" 447 (.ref 214),en P "chosen_by_all" 455 (.ref 219),en P "limits" 461 (.ref 224),en P "lowered" 470 (.ref 231),en P "refused" 482 (.ref 238),en P "steps" 492 (.ref 245),en P "capped" 503 (.ref 252),en P "givers_best" 510 (.ref 259),en P "paper" 519 (.ref 266),en P "has_row_form" 527 (.ref 273),en P "is_row" 535 (.ref 280),en P "follows" 546 (.ref 287),en P "caps_behind" 552 (.ref 292),en P "caps_of" 560 (.ref 299),en P "holds" 568 (.ref 306),en P "shows" 578 (.ref 313),en P "is_within" 584 (.ref 318),en P "_law_cell" 594 (.ref 325),en P "_law_drawn" 604 (.ref 332),en P "_law_orders" 619 (.ref 339),en P "_law_world" 625 (.ref 344),en P "_law_used" 631 (.ref 349),en P "_law_fits" 642 (.ref 356),en P "_law_plans" 648 (.ref 361),en P "_law_plan" 662 (.ref 368),en P "_law_wants" 676 (.ref 375),en P "_law_why" 688 (.ref 382),en P "_law_rests" 694 (.ref 387),en P "_law_choice" 708 (.ref 394),en P "_law_ends" 714 (.ref 399),en P "_law_refused" 722 (.ref 406),en P "_law_caps" 728 (.ref 411),en P "_law_is_row" 738 (.ref 418),en P "_law_paper" 744 (.ref 423),en P "_law_told" 755 (.ref 430),en P "_law_known_one" 761 (.ref 435),en P "_law_stands" 767 (.ref 440),en P "law" 774 (.ref 447)] 75,#[]⟩),
 (23,⟨.type "dict",none,.dict #[en P "__module__" 196 (.str "stillflow.errors" 187),en P "__firstlineno__" 200 (.int 2 199),en P "__static_attributes__" 201 (.ref 22),en P "__weakref__" 203 (.ref 25),en P "__doc__" 204 .none] 3,#[]⟩),
 (24,SF "FlowError" 24 23 15 189 197 [(.type "ValueError")] [] [(.ref 37),(.ref 49),(.ref 61),(.ref 73),(.ref 85)]),
 (36,⟨.type "dict",none,.dict #[en P "__module__" 214 (.str "stillflow.errors" 187),en P "__firstlineno__" 218 (.int 4 217),en P "__static_attributes__" 219 (.ref 35),en P "__doc__" 220 .none] 2,#[]⟩),
 (37,SF "NoWorld" 37 36 28 207 215 [(.ref 24)] [(.ref 24)] []),
 (48,⟨.type "dict",none,.dict #[en P "__module__" 230 (.str "stillflow.errors" 187),en P "__firstlineno__" 234 (.int 6 233),en P "__static_attributes__" 235 (.ref 47),en P "__doc__" 236 .none] 2,#[]⟩),
 (49,SF "NoPlan" 49 48 40 223 231 [(.ref 24)] [(.ref 24)] []),
 (60,⟨.type "dict",none,.dict #[en P "__module__" 246 (.str "stillflow.errors" 187),en P "__firstlineno__" 250 (.int 8 249),en P "__static_attributes__" 251 (.ref 59),en P "__doc__" 252 .none] 2,#[]⟩),
 (61,SF "NoPlace" 61 60 52 239 247 [(.ref 24)] [(.ref 24)] []),
 (72,⟨.type "dict",none,.dict #[en P "__module__" 262 (.str "stillflow.errors" 187),en P "__firstlineno__" 266 (.int 10 265),en P "__static_attributes__" 267 (.ref 71),en P "__doc__" 268 .none] 2,#[]⟩),
 (73,SF "TooMany" 73 72 64 255 263 [(.ref 24)] [(.ref 24)] []),
 (84,⟨.type "dict",none,.dict #[en P "__module__" 278 (.str "stillflow.errors" 187),en P "__firstlineno__" 282 (.int 12 281),en P "__static_attributes__" 283 (.ref 83),en P "__doc__" 284 .none] 2,#[]⟩),
 (85,SF "Nothing" 85 84 76 271 279 [(.ref 24)] [(.ref 24)] []),
 (93,eS "is_whole" 293 17 3 88 89 0 90 91 92 299),
 (94,fo "is_whole" (top 10) n0 93),
 (100,eS "is_number" 302 21 2 95 96 0 97 98 99 307),
 (101,fo "is_number" (top 11) n0 100),
 (107,eS "is_long" 310 23 3 102 103 0 104 105 106 316),
 (108,fo "is_long" (top 12) n0 107),
 (112,eS "are_likes" 319 25 2 109 110 0 0 0 111 322),
 (113,fo "are_likes" (top 13) n0 112),
 (119,eS "is_end" 325 31 2 114 115 0 116 117 118 330),
 (120,fo "is_end" (top 14) n0 119),
 (126,eS "is_way" 333 33 3 121 122 0 123 124 125 339),
 (127,fo "is_way" (top 15) n0 126),
 (131,eS "are_parts" 342 37 3 128 129 0 0 0 130 345),
 (132,fo "are_parts" (top 16) n0 131),
 (136,eS "liked_pairs" 348 45 1 133 134 0 0 0 135 351),
 (137,fo "liked_pairs" (top 17) n0 136),
 (141,eS "is_world" 354 50 1 138 139 0 0 0 140 357),
 (142,fo "is_world" (top 18) n0 141),
 (146,eS "through" 360 57 4 143 144 0 0 0 145 363),
 (147,fo "through" (top 19) n0 146),
 (151,eS "keeps_amounts" 366 59 3 148 149 0 0 0 150 369),
 (152,fo "keeps_amounts" (top 20) n0 151),
 (156,eS "is_plan" 372 61 2 153 154 0 0 0 155 375),
 (157,fo "is_plan" (top 21) n0 156),
 (163,eS "check_world" 378 68 1 158 159 0 160 161 162 382),
 (164,fo "check_world" (top 22) n0 163),
 (170,eS "check_plan" 385 71 2 165 166 0 167 168 169 390),
 (171,fo "check_plan" (top 23) n0 170),
 (177,eS "replaced" 393 75 3 172 173 0 174 175 176 399),
 (178,fo "replaced" (top 24) n0 177),
 (182,eS "ways_of" 404 78 3 179 180 0 0 0 181 407),
 (183,fo "ways_of" (top 26) Jm 182),
 (187,eS "chosen_by" 410 83 4 184 185 0 0 0 186 413),
 (188,fo "chosen_by" (top 27) Jm 187),
 (192,eS "wants_more" 416 90 4 189 190 0 0 0 191 419),
 (193,fo "wants_more" (top 28) Jm 192),
 (199,eS "why_kept" 422 97 3 194 195 0 196 197 198 428),
 (200,fo "why_kept" (top 29) Jm 199),
 (206,eS "first_leaving" 431 105 2 201 202 0 203 204 205 437),
 (207,fo "first_leaving" (top 30) Jm 206),
 (213,eS "is_still" 440 110 2 208 209 0 210 211 212 445),
 (214,fo "is_still" (top 31) Jm 213),
 (218,eS "chosen_by_all" 450 113 3 215 216 0 0 0 217 453),
 (219,fo "chosen_by_all" (top 33) GR 218),
 (223,eS "limits" 456 119 1 220 221 0 0 0 222 459),
 (224,fo "limits" (top 34) GR 223),
 (230,eS "lowered" 462 121 3 225 226 0 227 228 229 468),
 (231,fo "lowered" (top 35) GR 230),
 (237,eS "refused" 471 123 2 232 233 0 234 235 236 480),
 (238,fo "refused" (top 36) GR 237),
 (244,eS "steps" 483 130 1 239 240 0 241 242 243 490),
 (245,fo "steps" (top 37) GR 244),
 (251,eS "capped" 493 139 2 246 247 0 248 249 250 501),
 (252,fo "capped" (top 38) GR 251),
 (258,eS "givers_best" 504 144 1 253 254 0 255 256 257 508),
 (259,fo "givers_best" (top 39) GR 258),
 (265,eS "paper" 513 148 1 260 261 0 262 263 264 517),
 (266,fo "paper" (top 41) By 265),
 (272,eS "has_row_form" 520 151 2 267 268 0 269 270 271 525),
 (273,fo "has_row_form" (top 42) By 272),
 (279,eS "is_row" 528 153 2 274 275 0 276 277 278 533),
 (280,fo "is_row" (top 43) By 279),
 (286,eS "follows" 536 156 3 281 282 0 283 284 285 544),
 (287,fo "follows" (top 44) By 286),
 (291,eS "caps_behind" 547 160 2 288 289 0 0 0 290 550),
 (292,fo "caps_behind" (top 45) By 291),
 (298,eS "caps_of" 553 169 2 293 294 0 295 296 297 558),
 (299,fo "caps_of" (top 46) By 298),
 (305,eS "holds" 561 172 2 300 301 0 302 303 304 566),
 (306,fo "holds" (top 47) By 305),
 (312,eS "shows" 569 174 3 307 308 0 309 310 311 576),
 (313,fo "shows" (top 48) By 312),
 (317,eS "is_within" 579 180 3 314 315 0 0 0 316 582),
 (318,fo "is_within" (top 49) By 317),
 (324,eS "_law_cell" 587 186 2 319 320 0 321 322 323 592),
 (325,fo "_law_cell" (top 51) iX 324),
 (331,eS "_law_drawn" 595 190 3 326 327 0 328 329 330 602),
 (332,fo "_law_drawn" (top 52) iX 331),
 (338,eS "_law_orders" 605 194 3 333 334 0 335 336 337 617),
 (339,fo "_law_orders" (top 53) iX 338),
 (343,eS "_law_world" 620 202 3 340 341 0 0 0 342 623),
 (344,fo "_law_world" (top 54) iX 343),
 (348,eS "_law_used" 626 218 4 345 346 0 0 0 347 629),
 (349,fo "_law_used" (top 55) iX 348),
 (355,eS "_law_fits" 632 220 2 350 351 0 352 353 354 640),
 (356,fo "_law_fits" (top 56) iX 355),
 (360,eS "_law_plans" 643 226 1 357 358 0 0 0 359 646),
 (361,fo "_law_plans" (top 57) iX 360),
 (367,eS "_law_plan" 649 234 3 362 363 0 364 365 366 660),
 (368,fo "_law_plan" (top 58) iX 367),
 (374,eS "_law_wants" 663 241 5 369 370 0 371 372 373 674),
 (375,fo "_law_wants" (top 59) iX 374),
 (381,eS "_law_why" 677 249 3 376 377 0 378 379 380 686),
 (382,fo "_law_why" (top 60) iX 381),
 (386,eS "_law_rests" 689 256 2 383 384 0 0 0 385 692),
 (387,fo "_law_rests" (top 61) iX 386),
 (393,eS "_law_choice" 695 258 4 388 389 0 390 391 392 706),
 (394,fo "_law_choice" (top 62) iX 393),
 (398,eS "_law_ends" 709 267 3 395 396 0 0 0 397 712),
 (399,fo "_law_ends" (top 63) iX 398),
 (405,eS "_law_refused" 715 272 1 400 401 0 402 403 404 720),
 (406,fo "_law_refused" (top 64) iX 405),
 (410,eS "_law_caps" 723 278 2 407 408 0 0 0 409 726),
 (411,fo "_law_caps" (top 65) iX 410),
 (417,eS "_law_is_row" 729 291 2 412 413 0 414 415 416 736),
 (418,fo "_law_is_row" (top 66) iX 417),
 (422,eS "_law_paper" 739 298 3 419 420 0 0 0 421 742),
 (423,fo "_law_paper" (top 67) iX 422),
 (429,eS "_law_told" 745 311 4 424 425 0 426 427 428 753),
 (430,fo "_law_told" (top 68) iX 429),
 (434,eS "_law_known_one" 756 320 0 431 432 0 0 0 433 759),
 (435,fo "_law_known_one" (top 69) iX 434),
 (439,eS "_law_stands" 762 324 1 436 437 0 0 0 438 765),
 (440,fo "_law_stands" (top 70) iX 439),
 (446,eS "law" 768 354 1 441 442 0 443 444 445 772),
 (447,fo "law" (top 71) iX 446)]
def hk:W.Hook:=W.kmHook Kf [3,23,24,36,37,48,49,60,61,72,73,84,85,93,94,100,101,107,108,112,113,119,120,126,127,131,132,136,137,141,142,146,147,151,152,156,157,163,164,170,171,177,178,182,183,187,188,192,193,199,200,206,207,213,214,218,219,223,224,230,231,237,238,244,245,251,252,258,259,265,266,272,273,279,280,286,287,291,292,298,299,305,306,312,313,317,318,324,325,331,332,338,339,343,344,348,349,355,356,360,361,367,368,374,375,381,382,386,387,393,394,398,399,405,406,410,411,417,418,422,423,429,430,434,435,439,440,446,447] (λ_=>rfl) [180]
abbrev pp:=PySem.Challenge.pw_stillflow_k60_papers
abbrev A0:Acc:=⟨88,287,.str "stillflow.errors" 187,[],[],[]⟩
abbrev ks:List Nat:=[2,3,3,1,1,1,0,1,1,0,0,0,0,0,0,1,1,1,2,0,0,0,1,1,1,2,0,0,1,1,1,1,1,2,1,1,1,1,0,1,1,1,0,2,1,1,1,0,0,1,0,1,1,1,0,1,0,1,0,1,0,1,0,0,1]
abbrev cs(w:World):Shared:=Sc pp w 1261 7
abbrev sa(w:World)(m:Nat):Shared:=SA pp w 1261 7 A0 ks m
def o0(w:World):fencedOpening treeTable pp w 6000=some (S0 pp w):=by kernel_rfl
def o1(w:World):((S0 pp w).heap.isNs mainGlobals&&(S0 pp w).gens.size == 0,(S0 pp w).heap.objs.size,(S0 pp w).heap.nsMap mainGlobals "__annotations__")=(true,11,some (.ref 6)):=by kernel_rfl
def o2(w:World):topGo treeTable pp w 11 (some (.ref 6)) 12 (S0 pp w) (topStub pp)=some (Sb pp w,⟨denote treeTable (.body (DR pp) (MU pp)),Eh pp,default,NM⟩):=by kernel_rfl
def o3(w:World):segRun treeTable pp w 11 (some (.ref 6)) 1 1 (Sb pp w) (blockOf (DR pp) (MU pp) (Eh pp) default NM)=some (.next,Sb pp w,Eh pp,MB pp 0):=by kernel_rfl
def q0(w:World):Tb pp w 1261 0 7 (Sb pp w)=some (.next,cs w,Eh pp,MB pp 7):=by kernel_rfl
def q1(w:World):cs w=sa w 0:=by kernel_rfl
def r0(w:World):Tb pp w 852 7 40 (sa w 0)=some (.next,sa w 33,Eh pp,MB pp 40):=by kernel_rfl
def r1(w:World):Tb pp w 917 40 72 (sa w 33)=some (.next,sa w 65,Eh pp,MB pp 72):=by kernel_rfl
abbrev fs(w:World):Shared:=sa w 65
def q2(w:World):topRun treeTable pp w 11 (some (.ref 6)) 3 (fs w) (restOf ((DR pp).drop 72) (MU pp) (Eh pp) (MB pp 72) NM)=some (fs w):=by kernel_rfl
def rl(w:World):topRun treeTable pp w 11 (some (.ref 6)) (12+(1+(1261+(852+(917+3))))) (S0 pp w) (topStub pp)=some (fs w):=RG (o2 w) (o3 w) (VL (i:=0) (q0 w) (by decide) (by rw[q1 w];exact (VL (r0 w) (by decide) (VL (r1 w) (by decide) (q2 w)))))
abbrev sn(w:World):=openSeen vw [] (importedModules pp.main.body) (λs=>xlAt vw [] s&&recOk [] s) true (fs w)
abbrev gd:=openGood vw []
def l0(w:World):(staticsOk (importedModules pp.main.body) (S0 pp w).heap (fs w).heap&&namesBound pp (fs w).heap&&gensDone (fs w)&&laidKept (S0 pp w).heap (fs w).heap)=true:=by kernel_rfl
def Wu(w:World):(sn w).1=gd.1:=by kernel_rfl
def WE(w:World):(sn w).2.1=gd.2.1:=by kernel_rfl
def WO(w:World):(sn w).2.2.1=gd.2.2.1:=by kernel_rfl
def WS(w:World):(sn w).2.2.2.1=gd.2.2.2.1:=by kernel_rfl
def Wz(w:World):(sn w).2.2.2.2.1=gd.2.2.2.2.1:=by kernel_rfl
def WT(w:World):(sn w).2.2.2.2.2.1=gd.2.2.2.2.2.1:=by kernel_rfl
def W9(w:World):(sn w).2.2.2.2.2.2=gd.2.2.2.2.2.2:=by kernel_rfl
def WI(w:World):hk.obs (fs w)=hk.val w:=by kernel_rfl
def left:LeftO pp vw [] (λs=>xlAt vw [] s&&recOk [] s) hk.obs hk.val 6000:=Ow o0 o1 rl (by decide) l0 (λw=>Prod.ext (Wu w) (Prod.ext (WE w) (Prod.ext (WO w) (Prod.ext (WS w) (Prod.ext (Wz w) (Prod.ext (WT w) (W9 w))))))) WI
def Ve:PySem.Challenge.rw_stillflow_k60_papers.wellSaid=true:=by kernel_rfl
end K60
namespace L2
open PySem PySem.Spec PyProof.Rows
abbrev DQ:=Sum Int Str
def PX:DQ->Value->Bool
 | .inl k,v=>Value.isInt k v
 | .inr x,v=>Value.isStrOf x v
def V7(w:World):DQ->Int
 | .inl k=>hashInt k
 | .inr x=>hashStr w x
def cA:∀ {k:DQ}{v:Value},PX k v=true->(∃i t,k=Sum.inl i/\v=Value.int i t)\/(∃x t,k=Sum.inr x/\v=Value.str x t)
 | .inl i,v,h=>by
  let⟨t,e⟩:=Value.isInt_shape (k:=i) (v:=v) h;exact .inl ⟨i,t,rfl,e⟩
 | .inr x,v,h=>by
  let⟨t,e⟩:=Value.isStrOf_shape (x:=x) (v:=v) h;exact .inr ⟨x,t,rfl,e⟩
def Sd(a b:Int):decide ((Sum.inl a:DQ)=Sum.inl b)=(a == b):=by
 by_cases e:a=b
 ·subst e;simp
 ·have h:¬ (Sum.inl a:DQ)=Sum.inl b:=λq=>e (Sum.inl.inj q);rw[zZ h];exact (beq_eq_false_iff_ne.mpr e).symm
def Si(a b:Str):decide ((Sum.inr a:DQ)=Sum.inr b)=decide (a=b):=by
 by_cases e:a=b
 ·subst e;simp
 ·have h:¬ (Sum.inr a:DQ)=Sum.inr b:=λq=>e (Sum.inr.inj q);rw[zZ h,zZ e]
def QO(a:Int)(b:Str):decide ((Sum.inl a:DQ)=Sum.inr b)=false:=zZ (λq=>nomatch q)
def QU(a:Str)(b:Int):decide ((Sum.inr a:DQ)=Sum.inl b)=false:=zZ (λq=>nomatch q)
def Gw(prog:Program)(w:World):PySem.KeyKind prog w DQ where
 is:=PX
 hash:=V7 w
 inj:=λv a b ha hb=>by
  rcases cA ha with ⟨i,t,rfl,rfl⟩|⟨x,t,rfl,rfl⟩
  ·rcases cA hb with ⟨j,u,rfl,e⟩|⟨y,u,rfl,e⟩
   ·injection e with e1 _;rw[e1]
   ·exact nomatch e
  ·rcases cA hb with ⟨j,u,rfl,e⟩|⟨y,u,rfl,e⟩
   ·exact nomatch e
   ·injection e with e1 _;rw[e1]
 byValue:=λk v h=>by
  rcases cA h with ⟨i,t,rfl,rfl⟩|⟨x,t,rfl,rfl⟩<;>rfl
 pyHash:=λhv h=>by
  rcases cA hv with ⟨i,t,rfl,rfl⟩|⟨x,t,rfl,rfl⟩
  ·exact wpAny_pyHash_int h
  ·exact wpAny_pyHash_str h
 eqBool:=λhu hv h=>by
  rcases cA hu with ⟨i,t,rfl,rfl⟩|⟨x,t,rfl,rfl⟩
  ·rcases cA hv with ⟨j,u,rfl,rfl⟩|⟨y,u,rfl,rfl⟩
   ·rw[Sd] at h;exact wpAny_eqBool_int h
   ·rw[QO] at h;exact SeqAt.EqAt.int_str i t y u _ _ _ _ h
  ·rcases cA hv with ⟨j,u,rfl,rfl⟩|⟨y,u,rfl,rfl⟩
   ·rw[QU] at h;exact SeqAt.EqAt.str_int x t j u _ _ _ _ h
   ·rw[Si] at h;exact wpAny_eqBool_str h
 «strs»:=λk x t v h=>by
  rcases cA h with ⟨i,u,rfl,e⟩|⟨y,u,rfl,e⟩
  ·exact nomatch e
  ·injection e with e1 _
   subst e1;cases v<;>rfl
inductive V where
 | Xe|bl (b:Bool)|int (i:Int)|str (x:Str)|byt (b:Array UInt8)|flt (b:UInt64)|ref (a:Addr)|ty (n:String)
 deriving DecidableEq
def RelV:V->Value->Prop
 | .Xe,u=>u=Value.none
 | .bl b,u=>u=Value.bool b
 | .int i,u=>∃t,u=Value.int i t
 | .str x,u=>∃t,u=Value.str x t
 | .byt b,u=>∃t,u=Value.bytes b t
 | .flt b,u=>∃t,u=Value.float b t
 | .ref a,u=>u=Value.ref a
 | .ty n,u=>u=Value.type n
abbrev aS:List V->List Value->Prop:=Paired RelV
def aS.length(r:aS xs us):xs.length=us.length:=Paired.length r
def aS.get:∀ {xs:List V}{us:List Value}{i:Nat}{x:V},aS xs us->xs[i]?=some x->∃u,us[i]?=some u/\RelV x u
 | _,_,_,_,.nil,e=>by simp at e
 | _,_,0,_,.cons r _,e=>by simp at e;subst e;exact⟨_,rfl,r⟩
 | _,_,i+1,x,.cons _ t,e=>by
  let⟨u,h1,h2⟩:=aS.get (i:=i) (x:=x) t (by simpa using e);exact⟨u,by simpa using h1,h2⟩
def aS.set(r:RelV x u):∀ {xs:List V}{us:List Value}(i:Nat),aS xs us->aS (xs.set i x) (us.set i u)
 | _,_,_,.nil=>.nil
 | _,_,0,.cons _ t=>.cons r t
 | _,_,i+1,.cons q t=>.cons q (aS.set r i t)
def aS.append:∀ {xs ys:List V}{us ws:List Value},aS xs us->aS ys ws->aS (xs++ys) (us++ws)
 | _,_,_,_,.nil,s=>s
 | _,_,_,_,.cons r t,s=>.cons r (aS.append t s)
def aS.take:∀ {xs:List V}{us:List Value}(n:Nat),aS xs us->aS (xs.take n) (us.take n)
 | _,_,0,_=>.nil
 | _,_,_+1,.nil=>.nil
 | _,_,n+1,.cons r t=>.cons r (aS.take n t)
def aS.drop:∀ {xs:List V}{us:List Value}(n:Nat),aS xs us->aS (xs.drop n) (us.drop n)
 | _,_,0,r=>r
 | _,_,_+1,.nil=>.nil
 | _,_,n+1,.cons _ t=>aS.drop n t
def Ux:Option V->Option Value->Prop
 | some v,some u=>RelV v u
 | none,none=>True
 | _,_=>False
def KV:List (κ×V)->List (κ×Value)->Prop:=Paired λ(p:κ×V) (q:κ×Value)=>p.1=q.1/\RelV p.2 q.2
def kV:DQ->V
 | .inl i=>.int i
 | .inr x=>.str x
inductive HO where
  | lst (xs:List V)
  | tup (xs:List V)
  | dK (X0:List (DQ×V))|dT (X0:List (List DQ×V))
  | set (S:Int->Bool) (n:Nat)
  | ins (C dx:Addr) (fs:List (Str×V))
  | own (x:Addr)
  | xd (fs:List (Str×V))
  | met (f x:Addr)
  | rng (lo hi:Int)
  | X3 (o:Obj) (u:HO)
  | tab (q:Str)
 | ZO (q:Str)
  | ext (φ:Heap->Prop)
abbrev Hp:=Addr->Option HO
def upd(H:Hp)(a:Addr)(o:HO):Hp:=λb=>if b=a then some o else H b
def aO:upd H a o a=some o:=by unfold upd;rw[yM rfl]
def aG(h:b≠a):upd H a o b=H b:=by unfold upd;rw[yO h]
def ba{H:Hp}{a b:Addr}{o:HO}(h:H a=some o)(h':H b=none):a≠b:=by
 intro e;subst e;rw[h] at h';cases h'
def tI(h:Heap)(a:Addr)(its:Array Value):Prop:=IsTup h a its/\∃o,h.get? a=some o/\o.dict=none
def tI.new(h:Heap)(its:Array Value):tI (h.push { cls:=.type "tuple",data:=.seq its }) h.objs.size its:=⟨IsTup.new _ _,_,zX _ rfl,rfl⟩
section
variable (P:Program) (w:World)
def f9(H:Hp)(h:Heap)(a:Addr):HO->Prop
 | .lst xs=>xs.length<=sizeLine/\∃ (its:List Value) (n:Nat),aS xs its/\h.get? a=some { cls:=.type "list",data:=.seq its.toArray n }
 | .tup xs=>xs.length<=sizeLine/\∃its:List Value,aS xs its/\tI h a its.toArray
 | .dK X0=>X0.length<=sizeLine/\(a == sysModules)=false/\∃vs,KV X0 vs/\h.DictOf (Gw P w) a vs
 | .dT X0=>X0.length<=sizeLine/\(a == sysModules)=false/\∃xs:List (List DQ×Addr×Value),
   Paired (λ(p:List DQ×V) (q:List DQ×Addr×Value)=>p.1=q.1/\H q.2.1=some (.tup (p.1.map kV))/\RelV p.2 q.2.2) X0 xs /\
   ∃o es ep,h.get? a=some o/\o.ExactDict/\o.data=.dict es ep/\es.toList=xs.map (entryOfKey (tupleKind (Gw P w)))/\(xs.map (·.1)).Nodup
 | .set S n=>h.SetOf (intKind P w) a S n
 | .ins C dx fs=>H dx=some (.own a)/\fs.length<=1000/\dx≠a/\h.get? a=some (W.instObj C dx) /\
   ∃mA,h.Ns1 dx mA/\(∀f,Ux (fs.lookup f) (mA f))/\PySem.Within mA (fs.map (·.1))
 | .own _=>∃o,h.get? a=some o
 | .xd fs=>∃mA,h.Ns1 a mA/\∀f,Ux (fs.lookup f) (mA f)
 | .rng lo hi=>∃t u v,h.get? a=some { cls:=.type "range",data:=.fields #[.int lo t,.int hi u,.int 1 v] }
 | .X3 o u=>h.get? a=some o/\f9 H h a u
 | .tab q=>∃ps:Array Value,h.get? a=some { cls:=.none,data:=.fields ps }/\TriplesOk ps.toList/\∀pos v,codeAmong pos ps.toList=some v->∃c,v=.ref c/\H c=some (.ZO q)
 | .ZO q=>h.CodeRec (.ref a) q
 | .met f x=>h.get? a=some (W.methodObj (.ref f) (.ref x))
 | .ext φ=>φ h/\(∃o,h.get? a=some o)/\∀h1 h2:Heap,φ h1->(∀o,h1.get? a=some o->h2.get? a=some o)->φ h2
def pK(H:Hp)(h:Heap):Prop:=∀a o,H a=some o->f9 P w H h a o
end
def f9.lt(x:f9 P w H h a o):a < h.objs.size:=by
 cases o with
 | lst xs=>let⟨_,_,_,_,e⟩:=x;exact zY e
 | tup xs=>let⟨_,_,_,p⟩:=x;exact p.1.lt
 | dK X0=>let⟨_,_,_,_,o,_,_,e,_⟩:=x;exact zY e
 | dT X0=>let⟨_,_,_,_,o,_,_,e,_⟩:=x;exact zY e
 | set S n=>let⟨o,_,_,_,e,_⟩:=x;exact zY e
 | ins C dx fs=>let⟨_,_,_,e,_⟩:=x;exact zY e
 | own y=>let⟨_,e⟩:=x;exact zY e
 | xd fs=>let⟨_,⟨_,_,_,e,_⟩,_⟩:=x;exact zY e
 | rng lo hi=>let⟨_,_,_,e⟩:=x;exact zY e
 | X3 ob u=>let⟨e,_⟩:=x;exact zY e
 | tab q=>let⟨_,e,_⟩:=x;exact zY e
 | ZO q=>let⟨_,_,_,_,e0,e,_⟩:=x;cases e0;exact zY e
 | met f y=>exact zY (show h.get? a=some _ from x)
 | ext φ=>let⟨_,⟨_,e⟩,_⟩:=x;exact zY e
def Paired.adf:∀ {aeo:List α}{aep:List β},Paired F aeo aep->(∀a b,F a b->G a b)->Paired G aeo aep
 | _,_,.nil,_=>.nil
 | _,_,.cons r t,f=>.cons (f _ _ r) (Paired.adf t f)
def Wq:HO->Prop
 | .tup _=>True
 | .ZO _=>True
 | _=>False
def f9.XU(x:f9 P w H h a o)(k:∀b u,(b=a\/H b=some (.own a))->h.get? b=some u->h'.get? b=some u)
  (ho:∀b,H b=some (.own a)->H' b=some (.own a)) (ht:∀b u,H b=some u->Wq u->H' b=some u):f9 P w H' h' a o:=by
 induction o with
 | lst xs=>let⟨z,its,n,r,e⟩:=x;exact⟨z,its,n,r,k _ _ (.inl rfl) e⟩
 | tup xs=>let⟨z,its,r,⟨ob,e,c⟩,o2,e2,d2⟩:=x;exact⟨z,its,r,⟨ob,k _ _ (.inl rfl) e,c⟩,o2,k _ _ (.inl rfl) e2,d2⟩
 | dK X0=>let⟨z,y,vs,r,ob,es,ep,e,c⟩:=x;exact⟨z,y,vs,r,ob,es,ep,k _ _ (.inl rfl) e,c⟩
 | dT X0 =>
  let⟨z,y,xs,r,ob,es,ep,e,c⟩:=x;exact⟨z,y,xs,Paired.adf r λp q z=>⟨z.1,ht _ _ z.2.1 trivial,z.2.2⟩,ob,es,ep,k _ _ (.inl rfl) e,c⟩
 | set S n=>let⟨ob,es,ep,t,e,c⟩:=x;exact⟨ob,es,ep,t,k _ _ (.inl rfl) e,c⟩
 | ins C dx fs =>
  let⟨d,z,ne,e,mA,⟨od,es,ep,e2,c⟩,r⟩:=x;exact⟨ho _ d,z,ne,k _ _ (.inl rfl) e,mA,⟨od,es,ep,k _ _ (.inr d) e2,c⟩,r⟩
 | own y=>let⟨ob,e⟩:=x;exact⟨ob,k _ _ (.inl rfl) e⟩
 | xd fs=>let⟨mA,⟨od,es,ep,e,c⟩,r⟩:=x;exact⟨mA,⟨od,es,ep,k _ _ (.inl rfl) e,c⟩,r⟩
 | rng lo hi=>let⟨t,u,v,e⟩:=x;exact⟨t,u,v,k _ _ (.inl rfl) e⟩
 | X3 ob u ih=>let⟨e,q⟩:=x;exact⟨k _ _ (.inl rfl) e,ih q⟩
 | tab q=>let⟨ps,e,t,c⟩:=x;exact⟨ps,k a _ (.inl rfl) e,t,λpos v z=>let ⟨c0,z1,z2⟩:=c pos v z;⟨c0,z1,ht _ _ z2 trivial⟩⟩
 | ZO q=>let⟨c,oc,vs,t,e0,e,r⟩:=x;cases e0;exact⟨_,oc,vs,t,rfl,k _ _ (.inl rfl) e,r⟩
 | met f y =>
  have e:h.get? a=some (W.methodObj (.ref f) (.ref y)):=x;show h'.get? a=some (W.methodObj (.ref f) (.ref y));exact k a _ (.inl rfl) e
 | ext φ=>let⟨p,⟨o,e⟩,st⟩:=x;exact⟨st _ _ p λo q=>k _ _ (.inl rfl) q,⟨o,k _ _ (.inl rfl) e⟩,st⟩
def pK.lt(x:pK P w H h)(e:H a=some o):a < h.objs.size:=(x a o e).lt
def pK.fresh(x:pK P w H h)(e:h.objs.size<=a):H a=none:=by
 cases q:H a with
 | none=>rfl
 | some u=>exact absurd (zP (x.lt q) e) (qF _)
def pK.kept(x:pK P w H h)(k:∀b u,h.get? b=some u->h'.get? b=some u):pK P w H h':=λa o e =>
 (x a o e).XU (λb u _ q=>k b u q) (λ_ q=>q) λ_ _ q _=>q
def pK.laid(x:pK P w H h)(k:∀b u,h.get? b=some u->h'.get? b=some u)(hp:h.objs.size<=a)(new:f9 P w (upd H a o) h' a o):pK P w (upd H a o) h':=λb u e=>by
 have hn:=x.fresh hp;by_cases hb:b=a
 ·subst hb;rw[aO] at e;cases e;exact new
 ·rw[aG hb] at e;exact (x b u e).XU (λc v _ q=>k c v q) (λc q=>by rw[aG (ba q hn)];exact q) λc xs q _=>by rw[aG (ba q hn)];exact q
def Rd(H:Hp)(a:Addr)(u:HO):Prop:=H a=some u\/∃o,H a=some (.X3 o u)
def Rd.ok(r:Rd H a u)(x:pK P w H h):f9 P w H h a u:=by
 rcases r with r|⟨o,r⟩
 ·exact x a u r
 ·let⟨_,q⟩:=x a _ r;exact q
def Tp:Option HO->Prop
 | some (.lst _)=>True
 | some (.dK _)=>True
 | some (.dT _)=>True
 | some (.set _ _)=>True
 | some (.ins _ _ _)=>True
 | some (.ext _)=>True
 | _=>False
def pK.write(ok:pK P w H h)(mu:Tp (H x))(he:e=x\/H e=some (.own x))(k:∀b u,b≠e->h.get? b=some u->h'.get? b=some u)(heo:∃u,h'.get? e=some u)
  (new:f9 P w (upd H x o') h' x o'):pK P w (upd H x o') h':=λb u q=>by
 have aeq:∀c y,H c=some (.own y)->c≠x:=λc y r z=>by subst z;rw[r] at mu;exact mu
 have ajf:∀c u,H c=some u->Wq u->c≠x:=λc u r hr z=>by subst z;rw[r] at mu;cases u<;>first|exact mu|exact hr
 by_cases hb:b=x
 ·subst hb;rw[aO] at q;cases q;exact new
 ·rw[aG hb] at q;by_cases hbe:b=e
  ·have q':H b=some (.own x):=by
    rcases he with z|z
    ·exact absurd (hbe.trans z) hb
    ·rw[hbe];exact z
   rw[q] at q';cases q';let⟨v,hv⟩:=heo;exact⟨v,by rw[hbe];exact hv⟩
  ·refine (ok b u q).XU (λc v hc r=>k c v ?_ r) (λc r=>by rw[aG (aeq c b r)];exact r) λc xs r hr=>by rw[aG (ajf c xs r hr)];exact r
   rcases hc with rfl|hc
   ·exact hbe
   ·rintro rfl;rcases he with z|z
    ·exact aeq c b hc z
    ·rw[hc] at z;cases z;exact hb rfl
def UO:HO->Prop
 | .tab _=>True
 | .ZO _=>True
 | _=>False
def UO.abc(h:UO u):¬ Tp (some u):=by cases u<;>first|exactλz=>z|exact h.elim
structure PQ(H H':Hp)(h h':Heap):Prop where
 st:∀b u,H b=some u->UO u->H' b=some u
 gr:∀b q ps,H b=some (.tab q)->h.get? b=some { cls:=.none,data:=.fields ps }->∃more:Array Value,h'.get? b=some { cls:=.none,data:=.fields (ps++more) }
def PQ.kept(k:∀b u,(∃q,H b=some (.tab q))->h.get? b=some u->h'.get? b=some u)(st:∀b u,H b=some u->UO u->H' b=some u):PQ H H' h h' :=
 ⟨st,λb q ps e z=>⟨#[],by rw[Array.append_empty];exact k b _ ⟨q,e⟩ z⟩⟩
def PQ.trans(a:PQ H H1 h h1)(b:PQ H1 H2 h1 h2):PQ H H2 h h2 :=
 ⟨λc u q t=>b.st c u (a.st c u q t) t,λc q ps e z=>by
  let⟨m1,z1⟩:=a.gr c q ps e z;let⟨m2,z2⟩:=b.gr c q _ (a.st c _ e trivial) z1;exact⟨m1++m2,by rw[z2,Array.append_assoc]⟩⟩
structure Un(fs ex:List Addr)(H H':Hp)(h h':Heap):Prop where
 keep:∀b o,h.get? b=some o->H b=none->b∉fs->b∉ex->h'.get? b=some o
 slot:∀b o,h.get? b=some o->H b=none->b∈fs->b∉ex->∃sl,h'.get? b=some { o with slots:=sl }
 free:∀b o,h.get? b=some o->H b=none->b∉ex->H' b=none
 there:∀b o,h.get? b=some o->b∉ex->∃o',h'.get? b=some o'
 Yc:∀b xs,H b=some (.tup xs)->H' b=some (.tup xs)
 X4:∀b o u,H b=some (.X3 o u)->H' b=some (.X3 o u)
 XW:PQ H H' h h'
def Un.any(u:Un fs ex H H1 h h1)(q:h.get? b=some ob)(n:H b=none)(hx:b∉ex):∃sl,h1.get? b=some { ob with slots:=sl }:=by
 by_cases hb:b∈fs
 ·exact u.slot b ob q n hb hx
 ·exact⟨ob.slots,u.keep b ob q n hb hx⟩
def Un.kept(k:∀b u,h.get? b=some u->h'.get? b=some u):Un fs ex H H h h' :=
 ⟨λb ob q _ _ _=>k b ob q,λb ob q _ _ _=>⟨ob.slots,k b ob q⟩,λ_ _ _ n _=>n,λb ob q _=>⟨ob,k b ob q⟩,λ_ _ q=>q,λ_ _ _ q=>q,.kept (λb u _ e=>k b u e) λ_ _ e _=>e⟩
def Un.refl:Un fs ex H H h h:=Un.kept λ_ _ q=>q
def Un.laid(k:∀b u,h.get? b=some u->h'.get? b=some u)(hp:h.objs.size<=a)(hn:H a=none):Un fs ex H (upd H a o) h h' where
 keep:=λb u q _ _ _=>k b u q
 slot:=λb u q _ _ _=>⟨u.slots,k b u q⟩
 free:=λb u q n _=>by rw[aG (yS (zP (zY q) hp))];exact n
 there:=λb u q _=>⟨u,k b u q⟩
 Yc:=λb xs q=>by rw[aG (ba q hn)];exact q
 X4:=λb u xs q=>by rw[aG (ba q hn)];exact q
 XW:=.kept (λb u _ e=>k b u e) λb u q _=>by rw[aG (ba q hn)];exact q
def Un.write(mu:Tp (H x))(he:e=x\/H e=some (.own x))(k:∀b u,b≠e->h.get? b=some u->h'.get? b=some u)(heo:∃u,h'.get? e=some u):Un fs ex H (upd H x o) h h':=by
 have hx:∀b,H b=none->b≠x:=λb n z=>by subst z;rw[n] at mu;exact mu
 have hb:∀b,H b=none->b≠e:=λb n z=>by
  subst z;rcases he with r|r
  ·exact hx b n r
  ·rw[n] at r;cases r
 have hm:∀b u,H b=some u->¬ Tp (some u)->b≠x:=λb u q nm z=>by subst z;rw[q] at mu;exact nm mu
 refine⟨λb u q n _ _=>k b u (hb b n) q,λb u q n _ _=>⟨u.slots,k b u (hb b n) q⟩,λb u q n _=>by rw[aG (hx b n)];exact n,λb u q _=>?_,
  λb xs q=>by rw[aG (hm b _ q λz=>z)];exact q,λb u xs q=>by rw[aG (hm b _ q λz=>z)];exact q,.kept (λb u z e=>k b u (λr=>by subst r;rcases he with r|r<;>first|(subst r;rcases z with ⟨q,z⟩;rw[z] at mu;exact mu)|(rcases z with ⟨q,z⟩;rw[z] at r;cases r)) e) λb u q nm=>by rw[aG (hm b _ q (nm.abc))];exact q⟩
 by_cases hbe:b=e
 ·subst hbe;exact heo
 ·exact⟨u,k b u hbe q⟩
def M0(h:Heap)(H:Hp):List Addr:=(List.range h.objs.size).filter λa=>(H a).isSome
def AH(h:Heap)(H:Hp):Heap:=W.hideAll h (M0 h H)
def Hn(h:Heap)(H:Hp):(AH h H).objs.size=h.objs.size:=W.hideAll_size _ _
def K6(e:h.get? b=some o)(n:H b=none):(AH h H).get? b=some o :=
 W.hideAll_get _ e λhm=>by
  have q:(H b).isSome=true:=(List.mem_filter.mp hm).2;rw[n] at q;simp at q
def Pp(e:(AH h H).get? b=some o):h.get? b=some o/\H b=none:=by
 have e':h.get? b=some o:=W.of_hideAll (M0 h H) e;refine⟨e',?_⟩;cases q:H b with
 | none=>rfl
 | some x =>
  have hm:b∈M0 h H:=List.mem_filter.mpr ⟨List.mem_range.mpr (zY e'),by simp[q]⟩;have z:(AH h H).get? b=none:=W.hideAll_none (M0 h H) hm;rw[z] at e;cases e
def UN(mg:Str->Option Value)(base:Heap):Prop:=∃bm o,mg "__builtins__"=some (.ref bm)/\bm≠builtinsNs/\bm≠mainGlobals/\base.get? bm=some o/\o.cls=.type "module"/\o.dict=some builtinsNs/\o.data=.plain
structure Mod(K:W.Frag)(mg:Str->Option Value)(base:Heap):Prop where
 kin:K.In base
 glob:base.Ns mainGlobals mg
 blt:∃mb,base.Ns builtinsNs mb/\∀x:Str,x≠"__name__"->mb x=bootBuiltins x
 nolimit:base.NoLimit
 bmd:UN mg base
structure Cx where
 prog:Program
 w:World
 K:W.Frag
 mg:Str->Option Value
 base:Heap
 A:Around
 N:List Str
 Xn:Shared
 Xg:Hp
 env:Env
 outer:List Env
 stack:List Env
 ex:List Addr
 fn:Str->Bool
 calm:Bool
 pn:List (Addr×Obj)
 xe:Value->Shared->Prop
def iV(l:List Env):List Addr:=l.filterMap (·.frame)
abbrev Cx.fs(X:Cx):List Addr:=iV X.outer
def MT(sc:Scope)(x:Str):Prop:=sc.names.lookup x=some .local \/ sc.names.lookup x=some .cell\/sc.names.lookup x=some .free
def Loc(sc:Scope)(x:Str):Prop:=sc.names.lookup x=some .local \/ sc.names.lookup x=some .cell
def Look(env:Env)(h:Heap)(m:Str->Option Value)(x:Str)(u:Value):Prop :=
 (env.kindOf x=some .local /\ m x=some u)\/((env.kindOf x=some .cell\/env.kindOf x=some .free)/\∃c,env.cells.lookup x=some c/\h.IsCell c (some u))
structure Cx.Ok(X:Cx):Prop where
 mod:Mod X.K X.mg X.base
 kind:X.env.scope.kind=.function
 glob:X.env.globals=mainGlobals
 blt:X.env.builtins=builtinsNs
 above:X.Xn.heap.objs.size<=X.env.locals
 inj:∀x y c,X.env.cells.lookup x=some c->X.env.cells.lookup y=some c->x=y
 has:∀x,(X.env.kindOf x=some .cell\/X.env.kindOf x=some .free)->∃c,X.env.cells.lookup x=some c
 cab:∀x c,X.fn x=true->X.env.cells.lookup x=some c->X.Xn.heap.objs.size<=c
 hd:X.calm=true->X.A.handled=none
 frames:X.A.frames=some X.stack
 stk:X.stack=X.outer\/(X.stack=X.env::X.outer/\X.env.frame=some X.env.locals)
 exf:∀b∈X.ex,b≠X.env.locals/\∀x c,X.env.cells.lookup x=some c->c≠b
 bs:∀b o,X.base.get? b=some o->X.Xn.heap.get? b=some o/\X.Xg b=none
 bsz:X.base.objs.size<=X.Xn.heap.objs.size
 YY:∀b o,X.base.get? b=some o->b∉X.ex
 Zr:∀b∈X.ex,b∉X.fs
 X5:X.Xn.heap.FunFrames X.base X.outer
 frf:∀b∈X.fs,X.Xg b=none
structure Inv(X:Cx)(pins:List (Addr×Obj))(σ:List (Option V))(H:Hp)(s:Shared):Prop where
 ok:X.Ok
 os:s.os=X.Xn.os
 bare:AllBare s.gens
 base:Un X.fs X.ex X.Xg H X.Xn.heap s.heap
 loc:∃m,s.heap.Ns X.env.locals m/\∀ (i:Nat) (x:Str) (v:V),X.N[i]?=some x->σ[i]?=some (some v)->MT X.env.scope x->∃u,RelV v u/\Look X.env s.heap m x u
 cell:∀x c,X.env.cells.lookup x=some c->∃v,s.heap.IsCell c v
 free:H X.env.locals=none
 Xo:∀x c,X.env.cells.lookup x=some c->H c=none
 pin:∀p∈X.pn++pins,s.heap.get? p.1=some p.2/\H p.1=none/\p.1≠X.env.locals/\p.1∉X.fs/\∀v,p.2.data≠.cell v
 Xi:pK X.prog X.w H s.heap
 len:σ.length=X.N.length
def Cx.Ok.ajg{X:Cx}(ok:X.Ok)(e:X.base.get? b=some o):b∉X.fs:=λhb=>by
 have:=(ok.X5.mem hb).1;rw[e] at this;cases this
def Inv.bs{X:Cx}{s:Shared}(I:Inv X pins σ H s):∀b o,X.base.get? b=some o->s.heap.get? b=some o/\H b=none:=λb o e =>
 ⟨I.base.keep b o (I.ok.bs b o e).1 (I.ok.bs b o e).2 (I.ok.ajg e) (I.ok.YY b o e),I.base.free b o (I.ok.bs b o e).1 (I.ok.bs b o e).2 (I.ok.YY b o e)⟩
def Inv.bk(I:Inv X pins σ H s):∀b o,X.base.get? b=some o->s.heap.get? b=some o:=λb o e=>(I.bs b o e).1
def Inv.mod(I:Inv X pins σ H s):Mod X.K X.mg X.base:=I.ok.mod
def Inv.YV(I:Inv X pins σ H s):X.K.In s.heap:=I.ok.mod.kin.keeps I.bk
def Inv.nolimit(I:Inv X pins σ H s):s.heap.NoLimit:=I.ok.mod.nolimit.keeps I.bk
def Inv.lt(I:Inv X pins σ H s):X.env.locals < s.heap.objs.size:=let ⟨_,hn,_⟩:=I.loc;hn.lt
def Inv.sz(I:Inv X pins σ H s):X.Xn.heap.objs.size<=s.heap.objs.size:=yD I.ok.above (jU I.lt)
def Inv.ajh(I:Inv X pins σ H s)(h:s.heap.objs.size<=a):a∉X.fs:=λhb=>by
 let⟨_,o,ho,_⟩:=I.ok.X5.mem hb;exact absurd (zP (zY ho) (yD I.sz h)) (qF _)
def Inv.cne(I:Inv X pins σ H s):∀x c,X.env.cells.lookup x=some c->c≠X.env.locals:=λx c e z=>by
 let⟨v,o,ho,hd⟩:=I.cell x c e;let⟨m,⟨o',es,ep,YI,hd',_⟩,_⟩:=I.loc;rw[z,YI] at ho;cases ho;rw[hd'] at hd;cases hd
def Inv.X5(I:Inv X pins σ H s):s.heap.FunFrames X.base X.outer:=by
 have all:∀ (l:List Env),(∀b∈iV l,b∈X.fs)->X.Xn.heap.FunFrames X.base l->s.heap.FunFrames X.base l:=by
  intro l
  induction l with
  | nil=>intro _ _;trivial
  | cons env r ih =>
   intro hs hl;let⟨hk,⟨L,o,hf,hn,ho,hd⟩,hr⟩:=hl;have hL:L∈X.fs:=hs L (by unfold iV;rw[jH,hf];exact zE);let⟨sl,e⟩:=I.base.slot L o ho (I.ok.frf L hL) hL λz=>I.ok.Zr L z hL;exact⟨hk,⟨L,_,hf,hn,e,hd⟩,ih (λb hb=>hs b (by unfold iV;rw[jH,hf];exact zC _ hb)) hr⟩
 exact all X.outer (λ_ hb=>hb) I.ok.X5
def Inv.stack(I:Inv X pins σ H s):s.heap.FunFrames X.base X.stack:=by
 rcases I.ok.stk with e|⟨e,hf⟩
 ·rw[e];exact I.X5
 ·rw[e];let⟨m,hn,_⟩:=I.loc;refine .cons (by rw[I.ok.kind];decide) hf hn ?_ I.X5;exact Heap.get?_none_of_le (yD I.ok.bsz I.ok.above)
def Inv.Zs(I:Inv X pins σ H s):∀b∈iV X.stack,b∈X.env.locals::X.fs:=λb hb=>by
 rcases I.ok.stk with e|⟨e,hf⟩
 ·rw[e] at hb;exact zC _ hb
 ·rw[e] at hb;unfold iV at hb;rw[jH,hf] at hb;exact hb
def Inv.X6(I:Inv X pins σ H s):∀b∈iV X.stack,H b=none:=λb hb=>by
 rcases List.mem_cons.mp (I.Zs b hb) with e|hb
 ·rw[e];exact I.free
 ·let⟨_,o,ho,_⟩:=I.ok.X5.mem hb;exact I.base.free b o ho (I.ok.frf b hb) λz=>I.ok.Zr b z hb
def Inv.step{g':Array GenState}{t':Nat}{d':Drawn}{ch:List Addr}(I:Inv X pins σ H s)
  (Yr:∀b∈ch,(b∈X.ex\/X.Xn.heap.objs.size<=b)/\b≠X.env.locals/\(∀x c,X.env.cells.lookup x=some c->c≠b)/\∀p∈X.pn++pins,p.1≠b)
  (keep:∀b o,b≠X.env.locals->b∉X.fs->b∉ch->s.heap.get? b=some o->H b=none->h'.get? b=some o)
  (slot:∀b o,b≠X.env.locals->b∈X.fs->b∉ch->s.heap.get? b=some o->H b=none->∃sl,h'.get? b=some { o with slots:=sl }) (free:∀b o,b∉ch->s.heap.get? b=some o->H b=none->H' b=none)
  (there:∀b o,b∉ch->s.heap.get? b=some o->∃o',h'.get? b=some o')
  (Yc:∀b xs,H b=some (.tup xs)->H' b=some (.tup xs)) (X4:∀b o u,H b=some (.X3 o u)->H' b=some (.X3 o u)) (XW:PQ H H' s.heap h')
  (ns:∀m,s.heap.Ns X.env.locals m->h'.Ns X.env.locals m) (Xi:pK X.prog X.w H' h') (hg:AllBare g') :
  Inv X pins σ H' { s with heap:=h',gens:=g',drawn:=d',toks:=t' }:=by
 have neL:∀b o,X.Xn.heap.get? b=some o->b≠X.env.locals:=λb o e=>yS (zP (zY e) I.ok.above);have neC:∀b o,X.Xn.heap.get? b=some o->b∉X.ex->b∉ch:=λb o e hx hb=>by
  rcases (Yr b hb).1 with z|z
  ·exact hx z
  ·exact absurd (zP (zY e) z) (qF _)
 have cellK:∀x c,X.env.cells.lookup x=some c->∀v,s.heap.IsCell c v->h'.IsCell c v:=λx c e v ⟨o,ho,hd⟩=>by
  have Z7:c∉ch:=λz=>(Yr c z).2.2.1 x c e rfl;by_cases hc:c∈X.fs
  ·let⟨sl,q⟩:=slot c o (I.cne x c e) hc Z7 ho (I.Xo x c e);exact⟨_,q,hd⟩
  ·exact⟨o,keep c o (I.cne x c e) hc Z7 ho (I.Xo x c e),hd⟩
 refine⟨I.ok,I.os,hg,⟨λb o e n hb hx=>?_,λb o e n hb hx=>?_,λb o e n hx=>?_,λb o e hx=>?_,λb xs e=>Yc b xs (I.base.Yc b xs e),λb o xs e=>X4 b o xs (I.base.X4 b o xs e),I.base.XW.trans XW⟩,?_,λx c e=>?_,?_,λx c e=>?_,λp hp=>?_,Xi,I.len⟩
 ·exact keep b o (neL b o e) hb (neC b o e hx) (I.base.keep b o e n hb hx) (I.base.free b o e n hx)
 ·let⟨sl,e1⟩:=I.base.slot b o e n hb hx;let⟨sl',e2⟩:=slot b _ (neL b o e) hb (neC b o e hx) e1 (I.base.free b o e n hx);exact⟨sl',e2⟩
 ·let⟨o',e1⟩:=I.base.there b o e hx;exact free b o' (neC b o e hx) e1 (I.base.free b o e n hx)
 ·let⟨o',e1⟩:=I.base.there b o e hx;exact there b o' (neC b o e hx) e1
 ·let⟨m,hn,hl⟩:=I.loc;refine⟨m,ns m hn,λi x v e1 e2 e3=>?_⟩;let⟨u,r,l⟩:=hl i x v e1 e2 e3;refine⟨u,r,?_⟩;rcases l with l|⟨k,c,e,z⟩
  ·exact .inl l
  ·exact .inr ⟨k,c,e,cellK x c e _ z⟩
 ·let⟨v,z⟩:=I.cell x c e;exact⟨v,cellK x c e v z⟩
 ·let⟨m,⟨o,_,_,ho,_⟩,_⟩:=I.loc;exact free _ o (λz=>(Yr _ z).2.1 rfl) ho I.free
 ·let⟨v,o,ho,hd⟩:=I.cell x c e;exact free c o (λz=>(Yr c z).2.2.1 x c e rfl) ho (I.Xo x c e)
 ·let⟨e,n,ne,nf,d⟩:=I.pin p hp;have Z7:p.1∉ch:=λz=>(Yr p.1 z).2.2.2 p hp rfl;exact⟨keep p.1 p.2 ne nf Z7 e n,free p.1 p.2 Z7 e n,ne,nf,d⟩
def Inv.un{t':Nat}(I:Inv X pins σ H s)(u:Un X.fs [] H H' s.heap h')(Xi:pK X.prog X.w H' h'):Inv X pins σ H' { s with heap:=h',toks:=t' }:=by
 let⟨m,⟨o,es,ep,ho,r⟩,_⟩:=id I.loc;let⟨sl,hL⟩:=u.any ho I.free (by simp);exact I.step (g':=s.gens) (d':=s.drawn) (ch:=[]) (λ_ z=>nomatch z) (λb o _ hb _ e n=>u.keep b o e n hb (by simp)) (λb o _ hb _ e n=>u.slot b o e n hb (by simp)) (λb o _ e n=>u.free b o e n (by simp)) (λb o _ e=>u.there b o e (by simp)) u.Yc u.X4 u.XW (λm' hm=>by
  let⟨o',es',ep',YI,r'⟩:=hm;rw[ho] at YI;cases YI;exact⟨_,es',ep',hL,r'⟩) Xi I.bare
def Inv.call{t':Nat}{d':Drawn}{ch:List Addr}(I:Inv X pins σ H s)(u:Un (iV X.stack) ch H H' s.heap h')(Xi:pK X.prog X.w H' h')(hg:AllBare g')
  (Yr:∀b∈ch,(b∈X.ex\/X.Xn.heap.objs.size<=b)/\b≠X.env.locals/\(∀x c,X.env.cells.lookup x=some c->c≠b)/\∀p∈X.pn++pins,p.1≠b) :
  Inv X pins σ H' { s with heap:=h',gens:=g',drawn:=d',toks:=t' }:=by
 let⟨m,⟨o,es,ep,ho,r⟩,_⟩:=id I.loc;let⟨sl,hL⟩:=u.any ho I.free λz=>(Yr _ z).2.1 rfl;exact I.step (ch:=ch) Yr (λb o hL hb hc e n=>u.keep b o e n (λz=>(List.mem_cons.mp (I.Zs b z)).elim hL hb) hc) (λb o _ _ hc e n=>u.any e n hc) (λb o hc e n=>u.free b o e n hc) (λb o hc e=>u.there b o e hc) u.Yc u.X4 u.XW (λm' hm=>by
  let⟨o',es',ep',YI,r'⟩:=hm;rw[ho] at YI;cases YI;exact⟨_,es',ep',hL,r'⟩) Xi hg
def Inv.turned{t':Nat}(I:Inv X pins σ H s)(k:∀b o,b≠it->s.heap.get? b=some o->h'.get? b=some o)(hn:H it=none)(hL:it≠X.env.locals)
  (h1:it∈X.ex\/X.Xn.heap.objs.size<=it) (h2:∀x c,X.env.cells.lookup x=some c->c≠it) (h3:∀p∈X.pn++pins,p.1≠it):Inv X pins σ H { s with heap:=h',toks:=t' }:=by
 have nit:∀b u,H b=some u->b≠it:=λb u e z=>by rw[z,hn] at e;cases e
 refine I.step (g':=s.gens) (d':=s.drawn) (ch:=[it]) (λb hb=>?_) (λb o _ _ hc e _=>k b o (λz=>hc (by simp[z])) e) (λb o _ _ hc e _=>⟨o.slots,k b o (λz=>hc (by simp[z])) e⟩) (λ_ _ _ _ n=>n)
  (λb o hc e=>⟨o,k b o (λz=>hc (by simp[z])) e⟩) (λ_ _ e=>e) (λ_ _ _ e=>e) (.kept (λb u z e=>k b u (λr=>by subst r;rcases z with ⟨q,z⟩;rw[hn] at z;cases z) e) λ_ _ e _=>e) (λm hm=>?_) (λb u e=>?_) I.bare
 ·have e:b=it:=by simpa using hb
  subst e;exact⟨h1,hL,h2,h3⟩
 ·let⟨o,es,ep,ho,r⟩:=hm;exact⟨o,es,ep,k _ o (jO hL) ho,r⟩
 ·refine (I.Xi b u e).XU (λc v hc q=>k c v ?_ q) (λ_ q=>q) λ_ _ q _=>q;rcases hc with z|z
  ·rw[z];exact nit b u e
  ·exact nit c _ z
def Inv.tok(I:Inv X pins σ H s)(t:Nat):Inv X pins σ H { s with toks:=t }:=I.un (h':=s.heap) (t':=t) Un.refl I.Xi
def Inv.kept{t':Nat}(I:Inv X pins σ H s)(k:∀b u,s.heap.get? b=some u->h'.get? b=some u):Inv X pins σ H { s with heap:=h',toks:=t' }:=I.un (Un.kept k) (I.Xi.kept k)
def Inv.laid{t':Nat}(I:Inv X pins σ H s)(k:∀b u,s.heap.get? b=some u->h'.get? b=some u)(hp:s.heap.objs.size<=a)(new:f9 X.prog X.w (upd H a o) h' a o) :
  Inv X pins σ (upd H a o) { s with heap:=h',toks:=t' }:=I.un (Un.laid k hp (I.Xi.fresh hp)) (I.Xi.laid k hp new)
def Inv.write{t':Nat}(I:Inv X pins σ H s)(mu:Tp (H x))(he:e=x\/H e=some (.own x))(k:∀b u,b≠e->s.heap.get? b=some u->h'.get? b=some u)(heo:∃u,h'.get? e=some u)
  (new:f9 X.prog X.w (upd H x o) h' x o):Inv X pins σ (upd H x o) { s with heap:=h',toks:=t' }:=I.un (Un.write mu he k heo) (I.Xi.write mu he k heo new)
def Inv.YO(I:Inv X pins σ H s)(h:∀p∈pins',s.heap.get? p.1=some p.2/\H p.1=none/\p.1≠X.env.locals/\p.1∉X.fs/\∀v,p.2.data≠.cell v):Inv X pins' σ H s :=
 ⟨I.ok,I.os,I.bare,I.base,I.loc,I.cell,I.free,I.Xo,λp hp=>(List.mem_append.mp hp).elim (λz=>I.pin p (qK _ z)) (h p),I.Xi,I.len⟩
def BS{N:List Str}(hN:N.Nodup){i j:Nat}(a:N[i]?=some x)(b:N[j]?=some x):i=j:=by
 let⟨h1,e1⟩:=List.getElem?_eq_some_iff.mp a;let⟨h2,e2⟩:=List.getElem?_eq_some_iff.mp b;exact (List.getElem_inj hN).mp (e1.trans e2.symm)
def qo{M:Model}{A:Around}{E:Value->Shared->Prop}{i:Nat}{Q:Unit->Shared->Prop}(I:Inv X pins σ H s)(hN:X.N.Nodup)(hi:X.N[i]?=some x)(hx:Loc X.env.scope x)(r:RelV v u)
  (h:∀s',Inv X pins (σ.set i (some v)) H s'->(∃a,Heap.SameBut a s.heap s'.heap/\(a=X.env.locals\/X.env.cells.lookup x=some a))->Q () s') (hf:X.fn x=true\/X.env.scope.names.lookup x=some .local:=by first|exact .inl rfl|exact .inr rfl|assumption):wpAny M A (storeName X.env x u) Q E s:=by
 let⟨m,hn,hl⟩:=id I.loc;have YZ:(X.env.scope.kind == .class||(X.env.scope.kind == .module&&X.env.locals != X.env.globals))=false:=by rw[I.ok.kind];rfl
 have aer:i < σ.length:=by rw[I.len];exact (List.getElem?_eq_some_iff.mp hi).1
 have cne:=I.cne;have tracked:∀ {a:Addr}{h':Heap},(∃o,s.heap.get? a=some o/\H a=none)->Heap.SameBut a s.heap h'->pK X.prog X.w H h':=λ{a h'} ha hs b ob e=>by
  let⟨_,_,X7⟩:=ha;refine (I.Xi b ob e).XU (λc w' hc q=>(hs.2 c ?_).trans q) (λ_ q=>q) λ_ _ q _=>q;rintro rfl;rcases hc with rfl|hc
  ·rw[X7] at e;cases e
  ·rw[X7] at hc;cases hc
 rcases hx with hk|hk
 ·refine wpAny_storeName_local hk hn (λh' hn' hs=>?_) YZ;let⟨oL,_,_,hoL,_⟩:=id hn;refine h _ ⟨I.ok,I.os,I.bare,⟨λb o e n hb hx=>?_,λb o e n hb hx=>?_,I.base.free,λb o e hx=>?_,I.base.Yc,I.base.X4,I.base.XW.trans (.kept (λb u z e=>(hs.2 b (λr=>by rcases z with ⟨q,z⟩;rw[r,I.free] at z;cases z)).trans e) λ_ _ e _=>e)⟩,⟨_,hn',λj y v' e1 e2 e3=>?_⟩,λy c e=>?_,I.free,I.Xo,λp hp=>?_,tracked ⟨oL,hoL,I.free⟩ hs,by simpa using I.len⟩ ⟨_,hs,.inl rfl⟩
  ·exact (hs.2 b (yS (zP (zY e) I.ok.above))).trans (I.base.keep b o e n hb hx)
  ·let⟨sl,e1⟩:=I.base.slot b o e n hb hx;exact⟨sl,(hs.2 b (yS (zP (zY e) I.ok.above))).trans e1⟩
  ·let⟨o',e1⟩:=I.base.there b o e hx;exact⟨o',(hs.2 b (yS (zP (zY e) I.ok.above))).trans e1⟩
  ·by_cases hj:j=i
   ·subst hj;rw[hi] at e1;cases e1;rw[vY aer] at e2;cases e2;exact⟨u,r,.inl ⟨hk,by simp⟩⟩
   ·rw[vB (jO hj)] at e2;let⟨u',r',q⟩:=hl j y v' e1 e2 e3;refine⟨u',r',?_⟩;rcases q with ⟨k,e⟩|⟨k,c,e,z⟩
    ·refine .inl ⟨k,?_⟩;have:y≠x:=λe=>hj (BS hN e1 (e ▸ hi));simp[this,e]
    ·exact .inr ⟨k,c,e,z.sameBut hs (cne y c e)⟩
  ·let⟨w',z⟩:=I.cell y c e;exact⟨w',z.sameBut hs (cne y c e)⟩
  ·let⟨e,n,ne,nf,d⟩:=I.pin p hp;exact⟨(hs.2 p.1 ne).trans e,n,ne,nf,d⟩
 ·have hfn:X.fn x=true:=by
   rcases hf with z|z
   ·exact z
   ·rw[z] at hk;cases hk
  let⟨c,hc⟩:=I.ok.has x (.inl hk);let⟨w',z⟩:=I.cell x c hc;refine wpAny_storeName_cell I.ok.kind hk hc z (λh' Ym hs=>?_);let⟨oc,hoc,ajk⟩:=id z;refine h { s with heap:=h' } ⟨I.ok,I.os,I.bare,⟨λb o e n hb hx=>?_,λb o e n hb hx=>?_,I.base.free,λb o e hx=>?_,I.base.Yc,I.base.X4,I.base.XW.trans (.kept (λb u z e=>(hs.2 b (λr=>by rcases z with ⟨q,z⟩;rw[r,I.Xo x c hc] at z;cases z)).trans e) λ_ _ e _=>e)⟩,⟨m,hn.sameBut hs (jO (cne x c hc)),λj y v' e1 e2 e3=>?_⟩,λy c' e=>?_,I.free,I.Xo,λp hp=>?_,tracked ⟨oc,hoc,I.Xo x c hc⟩ hs,by simpa using I.len⟩ ⟨c,hs,.inr hc⟩
  ·exact (hs.2 b (yS (zP (zY e) (I.ok.cab x c hfn hc)))).trans (I.base.keep b o e n hb hx)
  ·let⟨sl,e1⟩:=I.base.slot b o e n hb hx;exact⟨sl,(hs.2 b (yS (zP (zY e) (I.ok.cab x c hfn hc)))).trans e1⟩
  ·let⟨o',e1⟩:=I.base.there b o e hx;exact⟨o',(hs.2 b (yS (zP (zY e) (I.ok.cab x c hfn hc)))).trans e1⟩
  ·by_cases hj:j=i
   ·subst hj;rw[hi] at e1;cases e1;rw[vY aer] at e2;cases e2;exact⟨u,r,.inr ⟨.inl hk,c,hc,Ym⟩⟩
   ·rw[vB (jO hj)] at e2;let⟨u',r',q⟩:=hl j y v' e1 e2 e3;refine⟨u',r',?_⟩;rcases q with q|⟨k,c',e,z'⟩
    ·exact .inl q
    ·refine .inr ⟨k,c',e,z'.sameBut hs ?_⟩;rintro rfl;exact hj (BS hN e1 (I.ok.inj _ _ _ e hc ▸ hi))
  ·by_cases hcc:c'=c
   ·subst hcc;exact⟨_,Ym⟩
   ·let⟨w2,z2⟩:=I.cell y c' e;exact⟨w2,z2.sameBut hs hcc⟩
  ·let⟨e,n,ne,nf,d⟩:=I.pin p hp;refine⟨(hs.2 p.1 ?_).trans e,n,ne,nf,d⟩;intro q;rw[q,hoc] at e;have q':oc=p.2:=xE e;exact d w' (by rw[<- q'];exact ajk)
def C4{M:Model}{A:Around}{E:Value->Shared->Prop}(I:Inv X pins σ H s)(hN:X.N.Nodup)(hi:X.N[i]?=some x)(hx:Loc X.env.scope x)(r:RelV v u)
  (h:∀s',Inv X pins (σ.set i (some v)) H s'->Q () s') (hf:X.fn x=true\/X.env.scope.names.lookup x=some .local:=by first|exact .inl rfl|exact .inr rfl|assumption):wpAny M A (storeName X.env x u) Q E s :=
 qo I hN hi hx r (λs' I' _=>h s' I') hf
def Inv.aay{ch:List Addr}(I:Inv X pins σ H s)(ho:s'.os=s.os)(u:Un (iV X.stack) ch H H' s.heap s'.heap)(Xi:pK X.prog X.w H' s'.heap)(hg:AllBare s'.gens)
  (Yr:∀b∈ch,(b∈X.ex\/X.Xn.heap.objs.size<=b)/\b≠X.env.locals/\(∀x c,X.env.cells.lookup x=some c->c≠b)/\∀p∈X.pn++pins,p.1≠b):Inv X pins σ H' s':=by
 let⟨h',g',d',t',o'⟩:=s';have e:o'=s.os:=ho;subst e;exact I.call (g':=g') (t':=t') (d':=d') u Xi hg Yr
abbrev XK:=Value->Option Addr->Hp->Prop
abbrev St:=List (Option V)
abbrev VK:=V->Hp->Prop
abbrev TE:=St->Hp->VK->Prop
abbrev TT:=St->Hp->(Bool->Hp->Prop)->Prop
abbrev TA:=St->Hp->(List V->Hp->Prop)->Prop
structure Ends where
 nx:St->Hp->Prop
 rt:VK
 bk:St->Hp->Prop:=λ_ _=>False
 ct:St->Hp->Prop:=λ_ _=>False
abbrev TS:=Ends->St->Hp->Prop
def EP(X:Cx)(pins:List (Addr×Obj))(σ:St)(Q:VK)(u:Value)(s':Shared):Prop:=∃v H',Inv X pins σ H' s'/\RelV v u/\Q v H'
def TP(X:Cx)(pins:List (Addr×Obj))(σ:St)(Q:Bool->Hp->Prop)(b:Bool)(s':Shared):Prop:=∃H',Inv X pins σ H' s'/\Q b H'
def AP(X:Cx)(pins:List (Addr×Obj))(σ:St)(Q:List V->Hp->Prop)(us:List Value)(s':Shared):Prop:=∃vs H',Inv X pins σ H' s'/\aS vs us/\Q vs H'
def SP(X:Cx)(pins:List (Addr×Obj))(D:Ends)(f:Flow)(s':Shared):Prop :=
 match f with
 | .next=>∃σ' H',Inv X pins σ' H' s'/\D.nx σ' H'
 | .brk=>∃σ' H',Inv X pins σ' H' s'/\D.bk σ' H'
 | .cont=>∃σ' H',Inv X pins σ' H' s'/\D.ct σ' H'
 | .ret u=>∃v σ' H',Inv X pins σ' H' s'/\RelV v u/\D.rt v H'
def PE(X:Cx)(e:Expr)(t:TE):Prop :=
 ∀ (pins:List (Addr×Obj)) (s:Shared) (σ:St) (H:Hp) (Q:VK),Inv X pins σ H s->t σ H Q->wpAny (model X.prog X.w) X.A (eval e X.env) (EP X pins σ Q) X.xe s
def PT(X:Cx)(e:Expr)(t:TT):Prop :=
 ∀ (pins:List (Addr×Obj)) (s:Shared) (σ:St) (H:Hp) (Q:Bool->Hp->Prop),Inv X pins σ H s->t σ H Q->wpAny (model X.prog X.w) X.A (isTrue e X.env (eval e X.env)) (TP X pins σ Q) X.xe s
def PW(X:Cx)(e:Expr)(t:TT):Prop :=
 ∀ (whole:Sem Value) (pins:List (Addr×Obj)) (s:Shared) (σ:St) (H:Hp) (Q:Bool->Hp->Prop),Inv X pins σ H s->t σ H Q->wpAny (model X.prog X.w) X.A (isTrue e X.env whole) (TP X pins σ Q) X.xe s
def PW.pt(h:PW X e t):PT X e t:=h _
def PA(X:Cx)(es:List Expr)(t:TA):Prop :=
 ∀ (pos:Pos) (pins:List (Addr×Obj)) (s:Shared) (σ:St) (H:Hp) (Q:List V->Hp->Prop),Inv X pins σ H s->t σ H Q->wpAny (model X.prog X.w) X.A (spliced (backTo pos (starEach es X.env))) (AP X pins σ Q) X.xe s
def PS(X:Cx)(st:Stmt)(t:TS):Prop :=
 ∀ (pins:List (Addr×Obj)) (s:Shared) (σ:St) (H:Hp) (D:Ends),Inv X pins σ H s->t D σ H->wpAny (model X.prog X.w) X.A (exec st X.env) (SP X pins D) X.xe s
def Bf(X:Cx)(st:List Stmt)(t:TS):Prop :=
 ∀ (pins:List (Addr×Obj)) (s:Shared) (σ:St) (H:Hp) (D:Ends),Inv X pins σ H s->t D σ H->wpAny (model X.prog X.w) X.A (execs st X.env) (SP X pins D) X.xe s
def cN(h:wpAny M A t Q E s)(hQ:∀a s,Q a s->Q' a s):wpAny M A t Q' E s:=xB h hQ λ_ _ x=>x
section
def Uk(i:Nat):TE:=λσ H Q=>∃v,σ[i]?=some (some v)/\Q v H
def tC(v:V):TE:=λ_ H Q=>Q v H
def kg(hN:X.N[i]?=some x)(hv:MT X.env.scope x)(hd:(x == ("__debug__":Str))=false:=by decide)(XM:(x == ("__classdict__":Str))=false:=by decide):PE X (.Name x pos) (Uk i):=by
 intro pins s σ H Q I h;let⟨v,e,h⟩:=h;let⟨m,hn,hl⟩:=I.loc;let⟨u,r,l⟩:=hl i x v hN e hv;have fin:EP X pins σ Q u s:=⟨v,H,I,r,h⟩
 rcases l with ⟨hk,hm⟩|⟨hk,c,hc,abF⟩
 ·exact wY (wN I.ok.kind hk hn hm fin) hd
 ·rcases hk with hk|hk
  ·exact wY (wpAny_loadName_cell I.ok.kind hk hc abF fin) hd
  ·exact wY (wpAny_loadName_free I.ok.kind hk hc abF fin XM) hd
def Fq{i j pos}:PE X (.Constant (.int i) j pos) (tC (.int i)):=λ_ _ _ H _ I h=>wpAny_Constant_int ⟨.int i,H,I.tok _,⟨_,rfl⟩,h⟩
def Ls{b j pos}:PE X (.Constant (.bool b) j pos) (tC (.bl b)):=λ_ _ _ H _ I h=>Constant_bool ⟨.bl b,H,I,rfl,h⟩
def RD{j pos}:PE X (.Constant .none j pos) (tC .Xe):=λ_ _ _ H _ I h=>Constant_none ⟨.Xe,H,I,rfl,h⟩
def Ld{x j pos}:PE X (.Constant (.str x) j pos) (tC (.str x)):=λ_ _ _ H _ I h=>Zf ⟨.str x,H,I.tok _,⟨_,rfl⟩,h⟩
def Gl(X:Cx)(x:Str):Prop:=X.env.kindOf x=some .globalImplicit
def ll{E:Value->Shared->Prop}{pos:Pos}(I:Inv X pins σ H s)(hg:Gl X x)(hm:X.mg x=some u)(h:Q u s)
  (hd:(x == ("__debug__":Str))=false:=by decide):wpAny (model X.prog X.w) X.A (eval (.Name x pos) X.env) Q E s :=
 Calls.Name_function_global I.ok.kind hg (Calls.loadGlobal_global (by rw[I.ok.glob];exact I.mod.glob.keeps I.bk) hm h) hd
def k7{E:Value->Shared->Prop}{pos:Pos}(I:Inv X pins σ H s)(hg:Gl X x)(hm:X.mg x=none)(hv:bootBuiltins x=some u)(h:Q u s)
  (hn:x≠"__name__":=by decide) (hd:(x == ("__debug__":Str))=false:=by decide):wpAny (model X.prog X.w) X.A (eval (.Name x pos) X.env) Q E s:=by
 let⟨mb,h1,h2⟩:=I.mod.blt;exact Calls.Name_function_global I.ok.kind hg (Calls.loadGlobal_builtin (by rw[I.ok.glob];exact I.mod.glob.keeps I.bk) hm (by rw[I.ok.blt];exact h1.keeps I.bk) ((h2 x hn).trans hv) h) hd
def Oy(hg:Gl X x)(hm:X.mg x=some u)(r:RelV v u)(hd:(x == ("__debug__":Str))=false:=by decide):PE X (.Name x pos) (tC v) :=
 λ_ _ _ H _ I h=>ll I hg hm ⟨v,H,I,r,h⟩ hd
def N8(hg:Gl X x)(hm:X.mg x=none)(hv:bootBuiltins x=some u)(r:RelV v u)(hn:x≠"__name__":=by decide)(hd:(x == ("__debug__":Str))=false:=by decide):PE X (.Name x pos) (tC v) :=
 λ_ _ _ H _ I h=>k7 I hg hm hv ⟨v,H,I,r,h⟩ hn hd
def Dy(b:Expr)(h:op≠.In)(h2:op≠.NotIn):behindInMarks op b=false:=by
 have e1:(op == CmpOp.In)=false:=by cases op<;>first|rfl|exact absurd rfl h
 have e2:(op == CmpOp.NotIn)=false:=by cases op<;>first|rfl|exact absurd rfl h2
 cases b<;>simp[behindInMarks,e1,e2]
def tB(t:TE):TT:=λσ H Q=>t σ H λx H1=>∃c,x=.bl c/\Q c H1
def L5(h:PE X e t)(he:∀whole,isTrue e X.env whole=(do let v <- whole;standAt e.pos;holding [v] (truthy v)):=by intro _;rfl):PT X e (tB t):=by
 intro pins s σ H Q I hw;refine isTrue_plain (cN (h pins s σ H _ I hw) λv s1 ⟨x,H1,I1,r1,q1⟩=>?_) (he _);let⟨d,rfl,q⟩:=q1;cases r1;exact xX ⟨H1,I1,q⟩
variable {rest:List Expr}
def UW(t u:TT):TT:=λσ H Q=>t σ H λc H1=>if c=true then u σ H1 Q else Q false H1
def WB(t u:TT):TT:=λσ H Q=>t σ H λc H1=>if c=true then Q true H1 else u σ H1 Q
def VZ(t:TT):TT:=λσ H Q=>t σ H λc H1=>Q (!c) H1
def Os(ha:PT X a tA):PW X (.BoolOp .And [a] pos) tA:=by
 intro wh pins s σ H Q I h;refine isTrue_and (cN (ha pins s σ H Q I h) λc s1 e=>?_);cases c with
 | true=>exact isTrue_and_nil e
 | false=>exact e
def K0(ha:PT X a tA):PW X (.BoolOp .Or [a] pos) tA:=by
 intro wh pins s σ H Q I h;refine isTrue_or (cN (ha pins s σ H Q I h) λc s1 e=>?_);cases c with
 | false=>exact isTrue_or_nil e
 | true=>exact e
def Rc(ha:PT X a tA)(hb:PW X (.BoolOp .And (b::rest) pos) tB'):PW X (.BoolOp .And (a::b::rest) pos) (UW tA tB'):=by
 intro wh pins s σ H Q I h;refine isTrue_and (cN (ha pins s σ H _ I h) λc s1 ⟨H1,I1,q1⟩=>?_);cases c with
 | true=>exact hb wh pins s1 σ H1 Q I1 q1
 | false=>exact⟨H1,I1,q1⟩
def PV(ha:PT X a tA)(hb:PW X (.BoolOp .Or (b::rest) pos) tB'):PW X (.BoolOp .Or (a::b::rest) pos) (WB tA tB'):=by
 intro wh pins s σ H Q I h;refine isTrue_or (cN (ha pins s σ H _ I h) λc s1 ⟨H1,I1,q1⟩=>?_);cases c with
 | true=>exact⟨H1,I1,q1⟩
 | false=>exact hb wh pins s1 σ H1 Q I1 q1
def Ki(ha:PT X a tA):PT X (.UnaryOp .Not a pos) (VZ tA):=by
 intro pins s σ H Q I h;exact isTrue_not (ha pins s σ H (λc H1=>Q (!c) H1) I h)
def Te(ta tb:TE):TE:=λσ H Q=>ta σ H λx H1=>∃c,x=.bl c/\if c=true then tb σ H1 Q else Q (.bl false) H1
def VI(ta tb:TE):TE:=λσ H Q=>ta σ H λx H1=>∃c,x=.bl c/\if c=true then Q (.bl true) H1 else tb σ H1 Q
def Q0{op}(h:PE X a t):PE X (.BoolOp op [a] pos) t:=λpins s σ H Q I hw=>BoolOp_one (h pins s σ H Q I hw)
def Qe(ha:PE X a ta)(hb:PE X (.BoolOp .And (b::rest) pos) tb):PE X (.BoolOp .And (a::b::rest) pos) (Te ta tb):=by
 intro pins s σ H Q I h;refine BoolOp_and (cN (ha pins s σ H _ I h) λv s1 ⟨x,H1,I1,r1,q1⟩=>?_);let⟨c,rfl,q1⟩:=q1;cases r1;refine xX ?_;cases c with
 | true=>exact hb pins s1 σ H1 Q I1 q1
 | false=>exact⟨.bl false,H1,I1,rfl,q1⟩
def Ly(ha:PE X a ta)(hb:PE X (.BoolOp .Or (b::rest) pos) tb):PE X (.BoolOp .Or (a::b::rest) pos) (VI ta tb):=by
 intro pins s σ H Q I h;refine BoolOp_or (cN (ha pins s σ H _ I h) λv s1 ⟨x,H1,I1,r1,q1⟩=>?_);let⟨c,rfl,q1⟩:=q1;cases r1;refine xX ?_;cases c with
 | false=>exact hb pins s1 σ H1 Q I1 q1
 | true=>exact⟨.bl true,H1,I1,rfl,q1⟩
def WV(t:TT)(ta tb:TE):TE:=λσ H Q=>t σ H λc H1=>if c=true then ta σ H1 Q else tb σ H1 Q
def Cw(hc:PT X c tA)(ha:PE X a ta)(hb:PE X b tb):PE X (.IfExp c a b pos) (WV tA ta tb):=by
 intro pins s σ H Q I h;refine wpAny_IfExp (cN (hc pins s σ H _ I h) λd s1 ⟨H1,I1,q1⟩=>?_);cases d with
 | true=>exact ha pins s1 σ H1 Q I1 q1
 | false=>exact hb pins s1 σ H1 Q I1 q1
end
def iW(K:W.Frag)(H:Hp)(a:Addr)(xs:List V):Prop :=
 Rd H a (.lst xs) \/
  ∃ (o:Obj) (its:Array Value) (n:Nat),K.lookup a=some o/\o.cls=.type "list"/\o.dict=none/\o.data=.seq its n/\its.size<=sizeLine/\aS xs its.toList
def lG(K:W.Frag)(H:Hp)(a:Addr)(xs:List V):Prop :=
 Rd H a (.tup xs) \/
  ∃ (o:Obj) (its:Array Value) (n:Nat),K.lookup a=some o/\o.cls=.type "tuple"/\o.dict=none/\o.data=.seq its n/\its.size<=sizeLine/\aS xs its.toList
def Wa:Value->Option V
 | .none=>some .Xe
 | .bool b=>some (.bl b)
 | .int i _=>some (.int i)
 | .str x _=>some (.str x)
 | .bytes b _=>some (.byt b)
 | .float b _=>some (.flt b)
 | .ref a=>some (.ref a)
 | .type n=>some (.ty n)
 | _=>none
def RelV.abs(r:RelV x u):Wa u=some x:=by
 cases x with
 | Xe=>cases r;rfl
 | bl _=>cases r;rfl
 | int _=>let⟨t,rfl⟩:=r;rfl
 | str _=>let⟨t,rfl⟩:=r;rfl
 | byt _=>let⟨t,rfl⟩:=r;rfl
 | flt _=>let⟨t,rfl⟩:=r;rfl
 | ref _=>cases r;rfl
 | ty _=>cases r;rfl
def RelV.inj(r:RelV x u)(q:RelV y u):x=y:=xE (r.abs.symm.trans q.abs)
def aS.inj:∀ {xs ys:List V}{us:List Value},aS xs us->aS ys us->xs=ys
 | _,_,_,.nil,.nil=>rfl
 | _,_,_,.cons r t,.cons r' t'=>by rw[r.inj r',aS.inj t t']
def iW.of{K:W.Frag}(h:H a=some (.lst xs)):iW K H a xs:=.inl (.inl h)
def Inv.list(I:Inv X pins σ H s)(h:iW X.K H a xs):∃its:List Value,aS xs its/\PlainL s.heap a its.toArray/\xs.length<=sizeLine:=by
 rcases h with h|⟨o,its,n,hk,hc,hd,hs,hz,r⟩
 ·let⟨z,its,n,r,e⟩:=h.ok I.Xi;exact⟨its,r,⟨_,n,e,rfl,rfl,rfl⟩,z⟩
 ·refine⟨its.toList,r,⟨o,n,I.YV a o hk,hc,hd,by simpa using hs⟩,?_⟩;have e:=r.length;simp?[wW] at e;lia
def Inv.tuple(I:Inv X pins σ H s)(h:lG X.K H a xs):∃its:List Value,aS xs its/\IsTup s.heap a its.toArray/\xs.length<=sizeLine:=by
 rcases h with h|⟨o,its,n,hk,hc,_,hs,hz,r⟩
 ·let⟨z,its,r,p⟩:=h.ok I.Xi;exact⟨its,r,p.1,z⟩
 ·refine⟨its.toList,r,⟨o,I.YV a o hk,hc,n,by simpa using hs⟩,?_⟩;have e:=r.length;simp?[wW] at e;lia
def Inv.Y0(I:Inv X pins σ H s)(h:iW X.K H a xs)(h':iW X.K H a ys):xs=ys:=by
 let⟨its,r,⟨o,n,e,_,_,d⟩,_⟩:=I.list h;let⟨its',r',⟨o',n',e',_,_,d'⟩,_⟩:=I.list h';rw[e] at e';cases e';rw[d] at d';injection d' with d1 _
 have:its=its':=by simpa using jD Array.toList d1
 subst this;exact r.inj r'
def Inv.YJ(I:Inv X pins σ H s)(h:lG X.K H a xs)(h':lG X.K H a ys):xs=ys:=by
 let⟨its,r,⟨o,e,_,n,d⟩,_⟩:=I.tuple h;let⟨its',r',⟨o',e',_,n',d'⟩,_⟩:=I.tuple h';rw[e] at e';cases e';rw[d] at d';injection d' with d1 _
 have:its=its':=by simpa using jD Array.toList d1
 subst this;exact r.inj r'
abbrev Cx.X8(X:Cx)(E:Value->Shared->Prop):Cx:={ X with xe:=E }
abbrev Cx.XN(X:Cx):Cx:=X.X8 λ_ _=>False
def Cx.Ok.X8{X:Cx}(ok:X.Ok)(E:Value->Shared->Prop):(X.X8 E).Ok :=
 ⟨ok.mod,ok.kind,ok.glob,ok.blt,ok.above,ok.inj,ok.has,ok.cab,ok.hd,ok.frames,ok.stk,ok.exf,ok.bs,ok.bsz,ok.YY,ok.Zr,ok.X5,ok.frf⟩
def Cx.Ok.Xu{X:Cx}{E:Value->Shared->Prop}(ok:(X.X8 E).Ok):X.Ok :=
 ⟨ok.mod,ok.kind,ok.glob,ok.blt,ok.above,ok.inj,ok.has,ok.cab,ok.hd,ok.frames,ok.stk,ok.exf,ok.bs,ok.bsz,ok.YY,ok.Zr,ok.X5,ok.frf⟩
def Inv.X8(I:Inv X pins σ H s)(E:Value->Shared->Prop):Inv (X.X8 E) pins σ H s:=⟨I.ok.X8 E,I.os,I.bare,I.base,I.loc,I.cell,I.free,I.Xo,I.pin,I.Xi,I.len⟩
def Inv.Xu(I:Inv (X.X8 E) pins σ H s):Inv X pins σ H s:=⟨I.ok.Xu,I.os,I.bare,I.base,I.loc,I.cell,I.free,I.Xo,I.pin,I.Xi,I.len⟩
def SP.Xu{D:Ends}(h:SP (X.X8 E) pins D f s'):SP X pins D f s':=by
 cases f with
 | next=>let⟨σ',H',I,q⟩:=h;exact⟨σ',H',I.Xu,q⟩
 | brk=>let⟨σ',H',I,q⟩:=h;exact⟨σ',H',I.Xu,q⟩
 | cont=>let⟨σ',H',I,q⟩:=h;exact⟨σ',H',I.Xu,q⟩
 | ret u=>let⟨v,σ',H',I,r,q⟩:=h;exact⟨v,σ',H',I.Xu,r,q⟩
def PT.XN(h:PT X.XN e t):PT X e t:=λpins s σ H Q I hw =>
 xB (h pins s σ H Q (I.X8 _) hw) (λ_ _ ⟨H',I',q⟩=>⟨H',I'.Xu,q⟩) λ_ _ z=>False.elim z
def Bf.XN{st:List Stmt}(h:Bf X.XN st t):Bf X st t:=λpins s σ H D I hw =>
 xB (h pins s σ H D (I.X8 _) hw) (λ_ _ q=>q.Xu) λ_ _ z=>False.elim z
section
variable {st:Stmt}{rest:List Stmt}
def KG:TS:=λD σ H=>D.nx σ H
def Vc(t u:TS):TS:=λD σ H=>t { D with nx:=u D } σ H
def Af:Bf X [] KG:=λ_ _ σ H _ I h=>wA ⟨σ,H,I,h⟩
def ja(h1:PS X st t)(h2:Bf X rest u):Bf X (st::rest) (Vc t u):=by
 intro pins s σ H D I h;refine vO (cN (h1 pins s σ H { D with nx:=u D } I h) λf s1 q=>?_);cases f with
 | next =>
  let⟨σ',H',I',q⟩:=q;exact h2 pins s1 σ' H' D I' q
 | ret v=>exact q
 | brk=>exact q
 | cont=>exact q
def Ny(h1:PS X st t):Bf X [st] t:=by
 intro pins s σ H D I h;refine vO (cN (h1 pins s σ H D I h) λf s1 q=>?_);cases f with
 | next=>exact wA q
 | ret v=>exact q
 | brk=>exact q
 | cont=>exact q
def NF:PS X (.Pass pos) KG:=λ_ _ σ H _ I h=>wpAny_Pass ⟨σ,H,I,h⟩
def Inv.quiet(I:Inv X pins σ H s):interactive X.env=false:=by simp[interactive,I.ok.kind]
def R1{x j pos pos'}:PS X (.Expr (.Constant (.str x) j pos) pos') KG:=λ_ s σ H _ I h=>wpAny_Expr (Zf (show SP X _ _ .next { s with toks:=s.toks+1 } from ⟨σ,H,I.tok _,h⟩)) I.quiet
def TQ(te:TE):TS:=λD σ H=>te σ H λ_ H1=>D.nx σ H1
def oV(he:PE X e te)(hs:swapsWith e none pos.line X.env=pure false:=by rfl):PS X (.Expr e pos) (TQ te):=by
 intro pins s σ H D I h;exact wpAny_Expr_any (cN (he pins s σ H _ I h) λv s1 ⟨x,H1,I1,r1,q1⟩=>⟨σ,H1,I1,q1⟩) I.quiet hs
def Vu(te:TE):TS:=λD σ H=>te σ H D.rt
def Ef(he:PE X e te):PS X (.Return (some e) pos) (Vu te):=by
 intro pins s σ H D I h;exact wpAny_Return_some (cN (he pins s σ H _ I h) λv s1 ⟨x,H1,I1,r1,q1⟩=>⟨x,σ,H1,I1,r1,q1⟩)
def V3(c:TT)(t u:TS):TS:=λD σ H=>c σ H λb H1=>if b=true then t D σ H1 else u D σ H1
def Mv(hc:PT X c tc)(ha:Bf X a t)(hb:Bf X b u):PS X (.If c a b pos) (V3 tc t u):=by
 intro pins s σ H D I h;refine wpAny_If (cN (hc pins s σ H _ I h) λd s1 ⟨H1,I1,q1⟩=>?_);cases d with
 | true=>exact ha pins s1 σ H1 D I1 q1
 | false=>exact hb pins s1 σ H1 D I1 q1
end
abbrev TG:=V->St->Hp->(St->Hp->Prop)->Prop
abbrev Ub:=List V->St->Hp->(St->Hp->Prop)->Prop
def PG(X:Cx)(target:Expr)(t:TG):Prop :=
 ∀ (pins:List (Addr×Obj)) (s:Shared) (σ:St) (H:Hp) (v:V) (u:Value) (Q:St->Hp->Prop),Inv X pins σ H s->RelV v u->t v σ H Q ->
  wpAny (model X.prog X.w) X.A (assign target X.env u) (λ_ s'=>∃σ' H',Inv X pins σ' H' s'/\Q σ' H') X.xe s
def UF(X:Cx)(ts:List Expr)(t:Ub):Prop :=
 ∀ (pins:List (Addr×Obj)) (s:Shared) (σ:St) (H:Hp) (vs:List V) (us:List Value) (Q:St->Hp->Prop),Inv X pins σ H s->aS vs us->t vs σ H Q ->
  wpAny (model X.prog X.w) X.A (assignInOrder ((assignEach ts X.env).map (·.2)) us) (λ_ s'=>∃σ' H',Inv X pins σ' H' s'/\Q σ' H') X.xe s
abbrev Ua:=V->V->V->Hp->(Hp->Prop)->Prop
def Ud(X:Cx)(t:Ua):Prop :=
 ∀ (pins:List (Addr×Obj)) (s:Shared) (σ:St) (H:Hp) (o i v:V) (ov iv u:Value) (Q:Hp->Prop),Inv X pins σ H s->RelV o ov->RelV i iv->RelV v u->t o i v H Q ->
  wpAny (model X.prog X.w) X.A (setItem ov iv u) (λ_ s'=>∃H',Inv X pins σ H' s'/\Q H') X.xe s
def BM(i:Nat):TG:=λv σ H Q=>Q (σ.set i (some v)) H
def eC(hN:X.N.Nodup)(hi:X.N[i]?=some x)(hx:Loc X.env.scope x)(hf:X.fn x=true\/X.env.scope.names.lookup x=some .local:=by first|exact .inl rfl|exact .inr rfl|assumption):PG X (.Name x pos) (BM i):=by
 intro pins s σ H v u Q I r h;exact wpAny_assign_Name (C4 I hN hi hx r (λs' I'=>⟨_,H,I',h⟩) hf)
def Vg:Ub:=λvs σ H Q=>vs=[]/\Q σ H
def TC(t:TG)(u:Ub):Ub:=λvs σ H Q=>∃v r,vs=v::r/\t v σ H λσ' H'=>u r σ' H' Q
def sS:UF X [] Vg:=by
 intro pins s σ H vs us Q I r h;let⟨e,h⟩:=h;subst e;cases r;exact assignInOrder_nil ⟨σ,H,I,h⟩
def ej(h1:PG X e t)(h2:UF X es u)
  (hs:(assignEach (e::es) X.env).map (·.2)=assign e X.env::(assignEach es X.env).map (·.2):=by rfl):UF X (e::es) (TC t u):=by
 intro pins s σ H vs us Q I r h;let⟨v,vr,e1,h⟩:=h;subst e1;cases r with
 | cons r rr =>
  rw[hs];refine assignInOrder_cons (cN (h1 pins s σ H _ _ _ I r h) λ_ s1 ⟨σ1,H1,I1,q1⟩=>?_);exact h2 pins s1 σ1 H1 _ _ Q I1 rr q1
def VN(K:W.Frag)(n:Nat)(t:Ub):TG:=λv σ H Q=>∃a xs,v=.ref a/\lG K H a xs/\xs.length=n/\t xs σ H Q
def A3{k:Nat}(hc:X.calm=true)(h:UF X es t)
  (hn:(assignEach es X.env).length=n:=by rfl) (YQ:(assignEach es X.env).findIdx? (·.1)=none:=by rfl):PG X (.Tuple es k pos) (VN X.K n t):=by
 intro pins s σ H v u Q I r hw;let⟨a,xs,e1,hq,hl,hw⟩:=hw;subst e1;cases r;let⟨its,rv,ht,hz⟩:=I.tuple hq;refine assign_Tuple_tuple (I.ok.hd hc) ht (by simp[hn,<- hl,rv.length]) YQ λh' hx=>?_;have I1:Inv X pins σ H { s with heap:=h' }:=I.kept (t':=s.toks) λb o e=>hx b o (yS (zY e)) e;exact h pins _ σ H xs _ Q I1 (by simpa using rv) hw
def dy(to ti:TE)(t:Ua):TG:=λv σ H Q=>to σ H λo H1=>ti σ H1 λi H2=>t o i v H2 λH3=>Q σ H3
def Qd(ho:PE X o to)(hi:PE X i ti)(hs:Ud X t)
  (ha:∀v,assign (.Subscript o i pos) X.env v=(do
   let ov <- holding [v] (eval o X.env)
   let iv <- holding [v,ov] (eval i X.env)
   standAt pos
   holding [v,ov,iv] (setItem ov iv v)
   release [v,ov,iv] []):=by intro _;rfl):PG X (.Subscript o i pos) (dy to ti t):=by
 intro pins s σ H v u Q I r h;rw[ha];refine zV (xY (cN (ho pins s σ H _ I h) λov s1 ⟨x,H1,I1,r1,q1⟩=>?_));refine zV (xY (cN (hi pins s1 σ H1 _ I1 q1) λiv s2 ⟨y,H2,I2,r2,q2⟩=>?_));refine zV (vM (zV (xY (cN (hs pins s2 σ H2 x y v ov iv u _ I2 r1 r2 r q2) λ_ s3 ⟨H3,I3,q3⟩=>?_))));exact wpAny_release ⟨σ,H3,I3,q3⟩
def Kb(te:TE)(g:TG):TS:=λD σ H=>te σ H λx H1=>g x σ H1 D.nx
def KY(he:PE X e te)(hg:PG X tg g)(hs:swapsWithSole [tg] e pos.line X.env=pure false:=by rfl)(hw:swappedStores [tg] e X.env=pure none:=by rfl)
  (h1:(assignEach [tg] X.env).map (·.2)=[assign tg X.env]:=by rfl):PS X (.Assign [tg] e pos) (Kb te g):=by
 intro pins s σ H D I h;refine wpAny_Assign_stores (cN (he pins s σ H _ I h) λv s1 ⟨x,H1,I1,r1,q1⟩=>?_) hs hw;rw[h1];exact cN (hg pins s1 σ H1 x v _ I1 r1 q1) λ_ s2 q=>q
def uV(hN:X.N.Nodup)(hi:X.N[i]?=some x)(hx:Loc X.env.scope x)(he:PE X e te)(hs:swapsWith e (some (.Name x pos')) pos.line X.env=pure false:=by rfl)(hf:X.fn x=true\/X.env.scope.names.lookup x=some .local:=by first|exact .inl rfl|exact .inr rfl|assumption) :
  PS X (.Assign [.Name x pos'] e pos) (Kb te (BM i)):=by
 intro pins s σ H D I h;refine wpAny_Assign_Name (cN (he pins s σ H _ I h) λv s1 ⟨y,H1,I1,r1,q1⟩=>?_) hs;exact C4 I1 hN hi hx r1 (λs2 I2=>⟨_,H1,I2,q1⟩) hf
def QS(c:TT)(tb:TS):TS:=λD σ H=>∃W:Nat->St->Hp->Prop,(∃m,W m σ H)/\∀m σ H,W m σ H ->
 c σ H λb H1=>if b=true then ∃N:St->Hp->Prop,(∀σ' H',N σ' H'->∃m',m' < m/\W m' σ' H')/\tb { D with nx:=N,ct:=N,bk:=D.nx } σ H1 else D.nx σ H1
def Mm(hp:PassesOwn (model X.prog X.w) X.A X.env X.xe)(hc:PT X c tc)(hb:Bf X body tb):PS X (.While c body [] pos) (QS tc tb):=by
 intro pins s σ H D I h;let⟨W,⟨m0,w0⟩,turn⟩:=h;refine wpAny_While (codeAny_whileLoop (λn s'=>∃σ' H',Inv X pins σ' H' s'/\W n σ' H') ?_ m0 ⟨σ,H,I,w0⟩);rintro n s1 ⟨σ1,H1,I1,w1⟩;refine jL hp (cN (hc pins s1 σ1 H1 _ I1 (turn n σ1 H1 w1)) λb s2 ⟨H2,I2,q2⟩=>?_);cases b with
 | true =>
  let⟨N,hN,q2⟩:=q2;rw[yM rfl];refine jL hp (cN (hb pins s2 σ1 H2 _ I2 q2) λf s3 q3=>?_);cases f with
  | next =>
   let⟨Zt,H3,I3,n3⟩:=q3;let⟨m',hm,w3⟩:=hN Zt H3 n3;exact⟨m',hm,Zt,H3,I3,w3⟩
  | cont =>
   let⟨Zt,H3,I3,n3⟩:=q3;let⟨m',hm,w3⟩:=hN Zt H3 n3;exact⟨m',hm,Zt,H3,I3,w3⟩
  | brk=>exact q3
  | ret v=>exact q3
 | false =>
  rw[yO xA];exact wA ⟨σ1,H2,I2,q2⟩
structure It where
 go:Nat->Hp->Prop
 yld:Nat->Hp->V->Hp->Prop
 stop:Nat->Hp->Prop
def dz(X:Cx)(pins:List (Addr×Obj))(H:Hp)(b:Addr):Prop :=
 H b=none/\b≠X.env.locals/\b∉X.fs/\(b∈X.ex\/X.Xn.heap.objs.size<=b)/\(∀x c,X.env.cells.lookup x=some c->c≠b)/\∀p∈X.pn++pins,p.1≠b
def Inv.Ys(I:Inv X pins σ H s)(hb:s.heap.objs.size<=b)(hn:H' b=none):dz X pins H' b:=by
 refine⟨hn,jJ (zP I.lt hb),I.ajh hb,.inr (yD I.sz hb),λx c e z=>?_,λp hp z=>?_⟩
 ·let⟨v,q⟩:=I.cell x c e;exact absurd (zP q.lt (by rw[z];exact hb)) (qF _)
 ·exact absurd (zP (zY (I.pin p hp).1) (by rw[z];exact hb)) (qF _)
structure Turn(P:Program)(w:World)(K:W.Frag)(tg:Expr)(J:It)(fp:List Addr)(it:Addr)(tn:Nat->Heap->Prop):Prop where
 mem:it∈fp
 obj:∀i h,tn i h->∀b∈fp,∃o,h.get? b=some o/\∀v,o.data≠.cell v
 keep:∀i h h',tn i h->(∀b∈fp,∀o,h.get? b=some o->h'.get? b=some o)->tn i h'
 item:∀ (X:Cx),X.prog=P->X.w=w->X.K=K->X.calm=true->∀ (i:Nat) (pins:List (Addr×Obj)) (s:Shared) (σ:St) (H:Hp) (E:Value->Shared->Prop),Inv X pins σ H s->(∀b∈fp,dz X pins H b)->tn i s.heap->J.go i H ->
  wpAny (model P w) X.A (pyNext (.ref it)) (λr s1=>∃u,r=some u /\
   wpAny (model P w) X.A (letOwnedTupleGo tg (.ref it) u) (λ_ s2=>∃x H',Inv X pins σ H' s2/\RelV x u/\J.yld i H x H'/\tn (i+1) s2.heap/\∀b∈fp,H' b=none) E s1) E s
 done:∀ (X:Cx),X.prog=P->X.w=w->X.K=K->X.calm=true->∀ (i:Nat) (pins:List (Addr×Obj)) (s:Shared) (σ:St) (H:Hp) (E:Value->Shared->Prop),Inv X pins σ H s->(∀b∈fp,dz X pins H b)->tn i s.heap->J.stop i H ->
  wpAny (model P w) X.A (pyNext (.ref it)) (λr s1=>r=none/\Inv X pins σ H s1) E s
 self:∀ (A:Around) (i:Nat) (s:Shared) (Q:Value->Shared->Prop) (E:Value->Shared->Prop),tn i s.heap->Q (.ref it) s->wpAny (model P w) A (pyIter (.ref it)) Q E s
abbrev TI:=St->Hp->(It->Hp->Prop)->Prop
def Wb(X:Cx)(pins:List (Addr×Obj))(σ:St)(tg:Expr)(R:It->Hp->Prop)(itv:Value)(s2:Shared):Prop :=
 ∃ (it:Addr) (fp:List Addr) (tn:Nat->Heap->Prop) (J:It) (H':Hp),itv=.ref it/\Inv X pins σ H' s2/\Turn X.prog X.w X.K tg J fp it tn/\tn 0 s2.heap/\(∀b∈fp,dz X pins H' b)/\R J H'
def PI(X:Cx)(tg iter:Expr)(wi:TI):Prop :=
 ∀ (pins:List (Addr×Obj)) (s:Shared) (σ:St) (H:Hp) (R:It->Hp->Prop),Inv X pins σ H s->wi σ H R ->
  wpAny (model X.prog X.w) X.A (eval iter X.env) (λv s1=>wpAny (model X.prog X.w) X.A (pyIter v) (Wb X pins σ tg R) X.xe s1) X.xe s
def JR(ho:s.heap.get? it=some o)(hc:o.cls=.type n)(hd:o.data=.fields vs)
  (hn:["enumerate","zip","dict_itemiterator","dict_reverseitemiterator","odict_iterator","itertools.zip_longest","itertools.pairwise"].contains n=false) (hQ:Q () s):wpAny M A (letOwnedTupleGo tg (.ref it) u) Q E s:=by
 unfold letOwnedTupleGo;cases tg<;>first
  | exact zW hQ
  | (cases u<;>first
    | exact zW hQ
    | (refine zV (wpAny_load ho ?_)
       rw[hc,hd];show wpAny M A (if (["enumerate","zip","dict_itemiterator","dict_reverseitemiterator","odict_iterator","itertools.zip_longest","itertools.pairwise"].contains n&&vs[0]? == some (rawInt _))=true then _ else _) Q E s;rw[yO (by intro h;rw[hn,wM] at h;cases h)];exact zW hQ))
def U8(K:W.Frag)(a:Addr):It :=
 ⟨λi H=>∃xs x,iW K H a xs/\xs[i]?=some x,λi H x H'=>H'=H/\∀xs,iW K H a xs->xs[i]?=some x,λi H=>∃xs,iW K H a xs/\xs.length<=i⟩
def VF(K:W.Frag)(a:Addr):It :=
 ⟨λi H=>∃xs x,lG K H a xs/\xs[i]?=some x,λi H x H'=>H'=H/\∀xs,lG K H a xs->xs[i]?=some x,λi H=>∃xs,lG K H a xs/\xs.length<=i⟩
def UL(lo:Int)(n:Nat):It:=⟨λi _=>i < n,λi H x H'=>H'=H/\x=.int (lo+i),λi _=>n<=i⟩
def Iu{K:W.Frag}(a it:Addr):Turn P w K tg (U8 K a) [it] it (λi h=>h.IsListIter it a i) where
 mem:=by simp
 obj:=λi h st b hb=>by
  have e:b=it:=by simpa using hb
  subst e;let⟨o,e,c,d⟩:=st;exact⟨o,e,λv z=>by rw[d] at z;cases z⟩
 keep:=λi h h' st k=>st.at λo e=>k it (by simp) o e
 item:=by
  intro X hP hw hK hc i pins s σ H E I hf st hg;subst hP hw hK;let⟨xs,x,hq,hx⟩:=hg;let⟨its,rv,p,hz⟩:=I.list hq;let⟨u,hu,ru⟩:=rv.get hx;let⟨f0,f1,f2,f3,f4,f5⟩:=hf it (by simp);refine wpAny_pyNext_list_item st p.isList (x:=u) (by simpa using hu) λh' XX sb=>?_;have I1:Inv X pins σ H { s with heap:=h' }:=I.turned (t':=s.toks) (λb o hb e=>(sb.2 b hb).trans e) f0 f1 f3 f4 f5;let⟨o,e,c,d⟩:=id XX;exact⟨u,rfl,JR (s:={ s with heap:=h' }) e c d (by decide) ⟨x,H,I1,ru,⟨rfl,λys hy=>by rw[I.Y0 hy hq];exact hx⟩,XX,λb hb=>(hf b hb).1⟩⟩
 done:=by
  intro X hP hw hK hc i pins s σ H E I hf st hg;subst hP hw hK;let⟨xs,hq,hx⟩:=hg;let⟨its,rv,p,hz⟩:=I.list hq;let⟨f0,f1,f2,f3,f4,f5⟩:=hf it (by simp);have hl:=rv.length;exact wpAny_pyNext_list_end (I.ok.hd hc) st p.isList (by simp;lia) λh' eb=>⟨rfl,I.turned (t':=s.toks) (λb o hb e=>eb b o hb e) f0 f1 f3 f4 f5⟩
 self:=λ_ _ _ _ _ st h=>wpAny_pyIter_listiter st h
def Ff{K:W.Frag}(a it:Addr):Turn P w K tg (VF K a) [it] it (λi h=>h.IsTupleIter it a i) where
 mem:=by simp
 obj:=λi h st b hb=>by
  have e:b=it:=by simpa using hb
  subst e;let⟨o,e,c,d⟩:=st;exact⟨o,e,λv z=>by rw[d] at z;cases z⟩
 keep:=λi h h' st k=>st.at λo e=>k it (by simp) o e
 item:=by
  intro X hP hw hK hc i pins s σ H E I hf st hg;subst hP hw hK;let⟨xs,x,hq,hx⟩:=hg;let⟨its,rv,p,hz⟩:=I.tuple hq;let⟨u,hu,ru⟩:=rv.get hx;let⟨f0,f1,f2,f3,f4,f5⟩:=hf it (by simp);refine wpAny_pyNext_tuple_item st (show s.heap.IsTuple a its.toArray from p) (x:=u) (by simpa using hu) λh' XX sb=>?_;have I1:Inv X pins σ H { s with heap:=h' }:=I.turned (t':=s.toks) (λb o hb e=>(sb.2 b hb).trans e) f0 f1 f3 f4 f5;let⟨o,e,c,d⟩:=id XX;exact⟨u,rfl,JR (s:={ s with heap:=h' }) e c d (by decide) ⟨x,H,I1,ru,⟨rfl,λys hy=>by rw[I.YJ hy hq];exact hx⟩,XX,λb hb=>(hf b hb).1⟩⟩
 done:=by
  intro X hP hw hK hc i pins s σ H E I hf st hg;subst hP hw hK;let⟨xs,hq,hx⟩:=hg;let⟨its,rv,p,hz⟩:=I.tuple hq;let⟨f0,f1,f2,f3,f4,f5⟩:=hf it (by simp);have hl:=rv.length;exact wpAny_pyNext_tuple_end (I.ok.hd hc) st (show s.heap.IsTuple a its.toArray from p) (by simp;lia) λh' eb=>⟨rfl,I.turned (t':=s.toks) (λb o hb e=>eb b o hb e) f0 f1 f3 f4 f5⟩
 self:=λ_ _ _ _ _ st h=>wpAny_pyIter_tupleiter st h
def EC{K:W.Frag}(it:Addr)(lo:Int)(n:Nat):Turn P w K tg (UL lo n) [it] it (λi h=>IsRangeIter h it (lo+(i:Nat) * 1) ((n:Int) - (i:Nat)) 1) where
 mem:=by simp
 obj:=λi h st b hb=>by
  have e:b=it:=by simpa using hb
  subst e;exact⟨_,st,λv z=>by
   have z':Data.fields _=Data.cell v:=z;cases z'⟩
 keep:=λi h h' st k=>k it (by simp) _ st
 item:=by
  intro X hP hw hK hc i pins s σ H E I hf st hg;subst hP hw hK;let⟨f0,f1,f2,f3,f4,f5⟩:=hf it (by simp);have W:=Walks.range (prog:=X.prog) (w:=X.w) (I.ok.hd hc) it lo 1 n;refine W.item i s _ _ hg st λv h' tk hv XX kk=>?_;let⟨t,rfl⟩:=hv;have I1:Inv X pins σ H { s with heap:=h',toks:=tk }:=I.turned (λb o hb e=>kk b o (by simpa using hb) e) f0 f1 f3 f4 f5;refine⟨_,rfl,JR (s:={ s with heap:=h',toks:=tk }) (n:="range_iterator") XX rfl rfl (by decide) ⟨.int (lo+i),H,I1,⟨t,?_⟩,⟨rfl,rfl⟩,XX,λb hb=>(hf b hb).1⟩⟩;rw[Int.mul_one]
 done:=by
  intro X hP hw hK hc i pins s σ H E I hf st hg;subst hP hw hK;let⟨f0,f1,f2,f3,f4,f5⟩:=hf it (by simp);exact wpAny_pyNext_range_end (I.ok.hd hc) st (by have:n<=i:=hg;lia) λh' eb=>⟨rfl,I.turned (t':=s.toks) (λb o hb e=>eb b o hb e) f0 f1 f3 f4 f5⟩
 self:=λ_ _ _ _ _ st h=>wpAny_pyIter_rangeiter st h
def JH{lo:Int}{t u v:Tok}{tk:Nat}(I:Inv X pins σ H s)(h1:-(2 ^ 62)<=lo)(h2:lo < 2 ^ 62)(h3:-(2 ^ 62)<=hi)(h4:hi < 2 ^ 62)
  (q:R (UL lo (hi - lo).toNat) H):wpAny (model X.prog X.w) X.A (pyIter (.ref s.heap.objs.size)) (Wb X pins σ tg R) E { s with heap:=s.heap.push { cls:=.type "range",data:=.fields #[.int lo t,.int hi u,.int 1 v] },toks:=tk }:=by
 refine wpAny_pyIter_range (IsRange.new ..) (small_one h1 h2 h3 h4) ?_;have I1:Inv X pins σ H { s with heap:=s.heap.push { cls:=.type "range",data:=.fields #[.int lo t,.int hi u,.int 1 v] },toks:=tk }:=I.kept λb o e=>zU _ e;refine⟨(s.heap.push { cls:=.type "range",data:=.fields #[.int lo t,.int hi u,.int 1 v] }).objs.size,[(s.heap.push { cls:=.type "range",data:=.fields #[.int lo t,.int hi u,.int 1 v] }).objs.size],_,_,H,rfl,
  I1.kept (t':=tk) λb o e=>zU _ e,EC _ lo (hi - lo).toNat,?_,λb hb=>?_,q⟩
 ·have e1:lo+((0:Nat):Int) * 1=lo:=by simp
  have e2:(((hi - lo).toNat:Nat):Int) - ((0:Nat):Int)=Builtin.Range.rangeSize lo hi 1:=by rw[rangeSize_one];split<;>lia
  show IsRangeIter _ _ (lo+((0:Nat):Int) * 1) ((((hi - lo).toNat:Nat):Int) - ((0:Nat):Int)) 1;rw[e1,e2];exact zX _ rfl
 ·have e:b=(s.heap.push { cls:=.type "range",data:=.fields #[.int lo t,.int hi u,.int 1 v] }).objs.size:=by simpa using hb
  subst e;exact I1.Ys (yN _) (I1.Xi.fresh (yN _))
def SS(ta:TA):TI:=λσ H R=>ta σ H λvs H1=>∃j:Int,vs=[.int j]/\-(2 ^ 62)<=j/\j < 2 ^ 62/\R (UL 0 j.toNat) H1
def Jf(hg:Gl X "range")(hm:X.mg "range"=none)(ha:PA X [a] ta)(hs:starEach [a] X.env=[(false,eval a X.env)]:=by rfl):PI X tg (.Call (.Name "range" p) [a] [] pos) (SS ta):=by
 intro pins s σ H R I h;refine Call_ (k7 I hg hm boot_range (qT (cN (ha pos pins s σ H _ I h) λus s1 ⟨vs,H1,I1,r1,q1⟩=>?_) hs rfl));let⟨j,e,q1,q2,q⟩:=q1;subst e;cases r1 with
 | cons r rr =>
  cases rr;let⟨t,rfl⟩:=r;exact call_range_1 (JH I1 (by lia) (by lia) q1 q2 (by simpa using q))
def VT(wi:TI)(g:TG)(tb:TS):TS:=λD σ H=>wi σ H λJ H1=>∃W:Nat->Nat->St->Hp->Prop,(∃m,W 0 m σ H1)/\∀i m σ H,W i m σ H ->
 (J.stop i H/\D.nx σ H)\/(J.go i H/\∃N:St->Hp->Prop,(∀σ' H',N σ' H'->∃m',m' < m/\W (i+1) m' σ' H')/\∀x H',J.yld i H x H'->g x σ H' λZP H2=>tb { D with nx:=N,ct:=N,bk:=D.nx } ZP H2)
def qp(fp:List Addr)(h:Heap):List (Addr×Obj):=fp.filterMap λb=>(h.get? b).map λo=>(b,o)
def fK(hb:b∈fp)(e:h.get? b=some o):(b,o)∈qp fp h:=List.mem_filterMap.mpr ⟨b,hb,by rw[e];rfl⟩
def Ik(hp:p∈qp fp h):p.1∈fp/\h.get? p.1=some p.2:=by
 let⟨b,hb,e⟩:=List.mem_filterMap.mp hp;cases q:h.get? b with
 | none=>rw[q] at e;cases e
 | some o =>
  rw[q] at e;have e':(b,o)=p:=xE e;subst e';exact⟨hb,q⟩
def Inv.pinned(I:Inv X pins σ H s)(hf:∀b∈fp,dz X pins H b)(ho:∀b∈fp,∃o,s.heap.get? b=some o/\∀v,o.data≠.cell v):Inv X (pins++qp fp s.heap) σ H s :=
 I.YO λp hp=>(List.mem_append.mp hp).elim (λz=>I.pin p (yE _ z)) λz=>by
  let⟨hb,e⟩:=Ik z;let⟨f0,f1,f2,_⟩:=hf p.1 hb;let⟨o,e',d⟩:=ho p.1 hb;rw[e] at e';cases e';exact⟨e,f0,f1,f2,d⟩
def Inv.XF(I:Inv X (pins++pl) σ H s):Inv X pins σ H s:=I.YO λp hp=>I.pin p (yE _ (qK _ hp))
def Rp{pos:Pos}(hp:PassesOwn (model X.prog X.w) X.A X.env X.xe)(hc:X.calm=true)(hi:PI X tg iter wi)(hg:PG X tg g)(hb:Bf X body tb)
  (hs:∀x,foldedSetIterable iter X.env x=pure x:=by intro _;rfl):PS X (.For tg iter body [] pos) (VT wi g tb):=by
 intro pins s σ H D I h;refine wpAny_For (cN (hi pins s σ H _ I h) λv s1 h1=>cN h1 λitv s2 h2=>?_) hs;let⟨it,fp,tn,J,H2,e,I2,T,st2,f2,W,⟨m0,w0⟩,turn⟩:=h2;subst e;have adk:∀ {H':Hp},(∀b∈fp,H' b=none)->∀b∈fp,dz X pins H' b:=λhn b hb=>⟨hn b hb,(f2 b hb).2⟩
 refine codeAny_forLoop_any (λn s'=>∃i σ' H',Inv X pins σ' H' s'/\tn i s'.heap/\(∀b∈fp,H' b=none)/\W i n σ' H') ?_ m0 ⟨0,σ,H2,I2,st2,λb hb=>(f2 b hb).1,w0⟩;rintro n s3 ⟨i,Zt,H3,I3,st3,fr3,w3⟩;rcases turn i n Zt H3 w3 with ⟨stop,qn⟩|⟨go,N,hN,step⟩
 ·refine jL hp (cN (T.done X rfl rfl rfl hc i pins s3 Zt H3 X.xe I3 (adk fr3) st3 stop) λr s4 ⟨hr,I4⟩=>?_);subst hr;exact wA ⟨Zt,H3,I4,qn⟩
 ·refine jL hp (cN (T.item X rfl rfl rfl hc i pins s3 Zt H3 X.xe I3 (adk fr3) st3 go) λr s4 ⟨u,hr,h4⟩=>?_);subst hr;refine jL hp (cN h4 λ_ s5 ⟨x,H5,I5,r5,y5,st5,fr5⟩=>?_);have I5':=I5.pinned (adk fr5) (T.obj _ _ st5);refine jL hp (cN (hg _ s5 Zt H5 x u _ I5' r5 (step x H5 y5)) λ_ s6 ⟨σ6,H6,I6,q6⟩=>?_);refine jL hp (cN (hb _ s6 σ6 H6 _ I6 q6) λf s7 q7=>?_);have again:∀ {σ7:St}{H7:Hp},Inv X (pins++qp fp s5.heap) σ7 H7 s7->N σ7 H7->∃m,m < n/\∃i σ' H',Inv X pins σ' H' s7/\tn i s7.heap/\(∀b∈fp,H' b=none)/\W i m σ' H':=λ{σ7 H7} I7 n7=>by
   let⟨m',hm,w7⟩:=hN σ7 H7 n7;refine⟨m',hm,i+1,σ7,H7,I7.XF,T.keep _ _ _ st5 λb hb o e=>(I7.pin (b,o) (yE _ (yE _ (fK hb e)))).1,λb hb=>?_,w7⟩;let⟨o,e,d⟩:=T.obj _ _ st5 b hb;exact (I7.pin (b,o) (yE _ (yE _ (fK hb e)))).2.1
  cases f with
  | next=>let⟨σ7,H7,I7,n7⟩:=q7;exact again I7 n7
  | cont=>let⟨σ7,H7,I7,n7⟩:=q7;exact again I7 n7
  | brk=>let⟨σ7,H7,I7,q7⟩:=q7;exact⟨σ7,H7,I7.XF,q7⟩
  | ret v=>let⟨x7,σ7,H7,I7,r7,q7⟩:=q7;exact⟨x7,σ7,H7,I7.XF,r7,q7⟩
abbrev R2:=V->V->Hp->VK->Prop
def jz(X:Cx)(f:Value->Value->Sem Value)(r:R2):Prop :=
 ∀ (pins:List (Addr×Obj)) (s:Shared) (σ:St) (H:Hp) (x y:V) (v u:Value) (Q:VK),Inv X pins σ H s->RelV x v->RelV y u->r x y H Q ->
  wpAny (model X.prog X.w) X.A (f v u) (EP X pins σ Q) X.xe s
def V8(X:Cx)(f:Value->Sem Value)(r:V->Hp->VK->Prop):Prop :=
 ∀ (pins:List (Addr×Obj)) (s:Shared) (σ:St) (H:Hp) (x:V) (v:Value) (Q:VK),Inv X pins σ H s->RelV x v->r x H Q ->
  wpAny (model X.prog X.w) X.A (f v) (EP X pins σ Q) X.xe s
def gD(X:Cx)(f:Value)(r:List V->Hp->VK->Prop):Prop :=
 ∀ (pins:List (Addr×Obj)) (s:Shared) (σ:St) (H:Hp) (xs:List V) (us:List Value) (Q:VK),Inv X pins σ H s->aS xs us->r xs H Q ->
  wpAny (model X.prog X.w) X.A (call f us) (EP X pins σ Q) X.xe s
def S8(r:R2)(ta tb:TE):TE:=λσ H Q=>ta σ H λx H1=>tb σ H1 λy H2=>r x y H2 Q
def W5(r:V->Hp->VK->Prop)(ta:TE):TE:=λσ H Q=>ta σ H λx H1=>r x H1 Q
def rI(C:Int->Int->Prop)(g:Int->Int->V):R2:=λx y H Q=>∃i j,x=.int i/\y=.int j/\C i j/\Q (g i j) H
def Ni(g:Int->Int->V):R2:=λx y H Q=>∃i j,x=.int i/\y=.int j/\Q (g i j) H
def rU(g:Int->V):V->Hp->VK->Prop:=λx H Q=>∃i,x=.int i/\Q (g i) H
def R8(ha:PE X a ta)(hb:PE X b tb){pins:List (Addr×Obj)}{σ:St}{R:V->V->Hp->Prop}(I:Inv X pins σ H s)
  (h:ta σ H λx H1=>tb σ H1 λy H2=>R x y H2) {Q:Value->Shared->Prop}{f:Value->Value->Sem Value}
  (hf:∀v u s2 x y H2,Inv X pins σ H2 s2->RelV x v->RelV y u->R x y H2->wpAny (model X.prog X.w) X.A (f v u) Q X.xe s2) :
  wpAny (model X.prog X.w) X.A (eval a X.env) (λv Xl=>wpAny (model X.prog X.w) X.A (eval b X.env) (λu abg=>wpAny (model X.prog X.w) X.A (f v u) Q X.xe abg) X.xe Xl) X.xe s:=by
 refine cN (ha pins s σ H _ I h) λv s1 ⟨x,H1,I1,r1,q1⟩=>?_;refine cN (hb pins s1 σ H1 _ I1 q1) λu s2 ⟨y,H2,I2,r2,q2⟩=>?_;exact hf v u s2 x y H2 I2 r1 r2 q2
def FC(ho:jz X (binaryOp op) r)(ha:PE X a ta)(hb:PE X b tb):PE X (.BinOp a op b pos) (S8 r ta tb):=by
 intro pins s σ H Q I h;exact wpAny_BinOp (R8 ha hb I h λv u s2 x y H2 I2 rx ry q=>ho pins s2 σ H2 x y v u Q I2 rx ry q)
def P8(ho:V8 X (unaryOp op) r)(ha:PE X a ta):PE X (.UnaryOp op a pos) (W5 r ta):=by
 intro pins s σ H Q I h;exact UnaryOp_ (cN (ha pins s σ H _ I h) λv s1 ⟨x,H1,I1,r1,q1⟩=>ho pins s1 σ H1 x v Q I1 r1 q1)
def VH{f:Value->Value->Sem Value}{C:Int->Int->Prop}{g:Int->Int->Int}
  (rule:∀ (i j:Int) (t u:Tok) (s:Shared) (Q:Value->Shared->Prop) (E:Value->Shared->Prop),C i j->Q (.int (g i j) s.toks) { s with toks:=s.toks+1 }->wpAny (model X.prog X.w) X.A (f (.int i t) (.int j u)) Q E s) :
  jz X f (rI C λi j=>.int (g i j)):=by
 intro pins s σ H x y v u Q I rx ry h;let⟨i,j,rfl,rfl,hc,q⟩:=h;let⟨t,rfl⟩:=rx;let⟨t',rfl⟩:=ry;exact rule i j t t' s _ _ hc ⟨.int (g i j),H,I.tok _,⟨_,rfl⟩,q⟩
def TH{f:Value->Value->Sem Value}{g:Int->Int->Int}
  (rule:∀ (i j:Int) (t u:Tok) (s:Shared) (Q:Value->Shared->Prop) (E:Value->Shared->Prop),Q (.int (g i j) s.toks) { s with toks:=s.toks+1 }->wpAny (model X.prog X.w) X.A (f (.int i t) (.int j u)) Q E s) :
  jz X f (Ni λi j=>.int (g i j)):=by
 intro pins s σ H x y v u Q I rx ry h;let⟨i,j,rfl,rfl,q⟩:=h;let⟨t,rfl⟩:=rx;let⟨t',rfl⟩:=ry;exact rule i j t t' s _ _ ⟨.int (g i j),H,I.tok _,⟨_,rfl⟩,q⟩
def Sy{f:Value->Value->Sem Value}{g:Int->Int->Bool}
  (rule:∀ (i j:Int) (t u:Tok) (s:Shared) (Q:Value->Shared->Prop) (E:Value->Shared->Prop),Q (.bool (g i j)) s->wpAny (model X.prog X.w) X.A (f (.int i t) (.int j u)) Q E s) :
  jz X f (Ni λi j=>.bl (g i j)):=by
 intro pins s σ H x y v u Q I rx ry h;let⟨i,j,rfl,rfl,q⟩:=h;let⟨t,rfl⟩:=rx;let⟨t',rfl⟩:=ry;exact rule i j t t' s _ _ ⟨.bl (g i j),H,I,rfl,q⟩
def NK(i j:Int):Prop:=0 < j/\j < 1073741824
def wu(i j:Int):Prop:=(-(2 ^ 64) < i/\i < 2 ^ 64)\/(-(2 ^ 64) < j/\j < 2 ^ 64)
def wu.ok(h:wu i j):IntMulOk i j:=by
 rcases h with ⟨h1,h2⟩|⟨h1,h2⟩
 ·exact .of_left (intBits_le_64 h1 h2)
 ·exact .of_right (intBits_le_64 h1 h2)
def Ro:jz X (binaryOp .Add) (Ni λi j=>.int (i+j)):=TH λ_ _ _ _ _ _ _ q=>add_int q
def Qr:jz X (binaryOp .Sub) (Ni λi j=>.int (i - j)):=TH λ_ _ _ _ _ _ _ q=>sub_int q
def Qi:jz X (binaryOp .Mult) (rI wu λi j=>.int (i * j)):=VH λ_ _ _ _ _ _ _ hc q=>mul_int q hc.ok
def O8:jz X (binaryOp .FloorDiv) (rI NK λi j=>.int (i / j)):=VH λi j _ _ _ _ _ hc q=>by
 have h1:(0:Int) < j:=hc.1;have h2:j < 1073741824:=hc.2;exact floordiv_int (by lia) (by rw[Int.fdiv_eq_ediv_of_nonneg i (by lia)];exact q) (.inl (PyProof.noPylong_small (by lia)))
def QB:jz X (binaryOp .Mod) (rI (λ_ j=>0 < j) λi j=>.int (i % j)):=VH λi j _ _ _ _ _ hc q=>by
 have h1:(0:Int) < j:=hc;exact mod_int' (by lia) (by rw[Int.fmod_eq_emod_of_nonneg i (by lia)];exact q)
def Ww{f:Value->Sem Value}{g:Int->Int}
  (rule:∀ (i:Int) (t:Tok) (s:Shared) (Q:Value->Shared->Prop) (E:Value->Shared->Prop),Q (.int (g i) s.toks) { s with toks:=s.toks+1 }->wpAny (model X.prog X.w) X.A (f (.int i t)) Q E s) :
  V8 X f (rU λi=>.int (g i)):=by
 intro pins s σ H x v Q I rx h;let⟨i,rfl,q⟩:=h;let⟨t,rfl⟩:=rx;exact rule i t s _ _ ⟨.int (g i),H,I.tok _,⟨_,rfl⟩,q⟩
def KB:V8 X (unaryOp .USub) (rU λi=>.int (-i)):=Ww λ_ _ _ _ _ q=>neg_int q
def oW:V->V->Bool
 | .Xe,.Xe=>true|.Xe,.int _=>true|.int _,.Xe=>true|.Xe,.bl _=>true|.bl _,.Xe=>true|.Xe,.str _=>true|.str _,.Xe=>true
 | .int _,.int _=>true|.bl _,.bl _=>true|.str _,.str _=>true|.byt _,.byt _=>true
 | .int _,.str _=>true|.str _,.int _=>true|.bl _,.str _=>true|.str _,.bl _=>true
 | _,_=>false
def WQ:R2:=λx y H Q=>oW x y=true/\Q (.bl (!decide (x=y))) H
def Og:decide (V.int i=V.int j)=(i == j):=by
 rw[vE];simp
def Q9:decide (V.bl i=V.bl j)=(i == j):=by
 rw[vE];simp
def NN:decide (V.str i=V.str j)=(i == j):=by
 rw[vE];simp
def Pf:decide (V.byt i=V.byt j)=(i.toList == j.toList):=by
 rw[vE];cases i;cases j;simp
def dB(I:Inv X pins σ H s)(q:Q (.bl k) H)(e:k=k'):EP X pins σ Q (.bool k') s:=by
 subst e;exact⟨.bl k,H,I,rfl,q⟩
def Us:jz X (compareOp .NotEq) WQ:=by
 intro pins s σ H x y v u Q I rx ry h;let⟨hs,q⟩:=h;cases x with
 | Xe =>
  cases rx;cases y with
  | Xe=>cases ry;exact PySem.EqNone.ne_none_none (dB I q (by simp))
  | bl j=>cases ry;exact PySem.EqNone.ne_none_bool (dB I q (by simp))
  | int j=>let⟨t',rfl⟩:=ry;exact PySem.EqNone.ne_none_int (dB I q (by simp))
  | str j=>let⟨t',rfl⟩:=ry;exact PySem.EqNone.ne_none_str (dB I q (by simp))
  | _=>exact absurd (show false=true from hs) xA
 | bl i =>
  cases rx;cases y with
  | Xe=>cases ry;exact PySem.EqNone.ne_bool_none (dB I q (by simp))
  | bl j=>cases ry;exact ne_bool (dB I q (jD not Q9))
  | str j=>let⟨t',rfl⟩:=ry;exact PySem.EqMixed.ne_bool_str (dB I q (by simp))
  | _=>exact absurd (show false=true from hs) xA
 | int i =>
  let⟨t,rfl⟩:=rx;cases y with
  | Xe=>cases ry;exact PySem.EqNone.ne_int_none (dB I q (by simp))
  | int j=>let⟨t',rfl⟩:=ry;exact ne_int (dB I q (jD not Og))
  | str j=>let⟨t',rfl⟩:=ry;exact PySem.EqMixed.ne_int_str (dB I q (by simp))
  | _=>exact absurd (show false=true from hs) xA
 | str i =>
  let⟨t,rfl⟩:=rx;cases y with
  | Xe=>cases ry;exact PySem.EqNone.ne_str_none (dB I q (by simp))
  | bl j=>cases ry;exact PySem.EqMixed.ne_str_bool (dB I q (by simp))
  | int j=>let⟨t',rfl⟩:=ry;exact PySem.EqMixed.ne_str_int (dB I q (by simp))
  | str j=>let⟨t',rfl⟩:=ry;exact ne_str (dB I q (jD not NN))
  | _=>exact absurd (show false=true from hs) xA
 | byt i =>
  let⟨t,rfl⟩:=rx;cases y with
  | byt j=>let⟨t',rfl⟩:=ry;exact W.ne_bytes (dB I q (jD not Pf))
  | _=>exact absurd (show false=true from hs) xA
 | _=>cases y<;>exact absurd (show false=true from hs) xA
def Ma:jz X (compareOp .Lt) (Ni λi j=>.bl (decide (i < j))):=Sy λ_ _ _ _ _ _ _ q=>lt_int q
def Jv:jz X (compareOp .LtE) (Ni λi j=>.bl (decide (i<=j))):=Sy λ_ _ _ _ _ _ _ q=>le_int q
def PH:jz X (compareOp .Gt) (Ni λi j=>.bl (decide (j < i))):=Sy λ_ _ _ _ _ _ _ q=>gt_int q
def Ju:jz X (compareOp .Is) (λx y H Q=>y=.Xe/\Q (.bl (decide (x=.Xe))) H):=by
 intro pins s σ H x y v u Q I rx ry h;let⟨rfl,q⟩:=h;cases ry;refine is_none_gen (dB I q ?_);cases x<;>first
  | (cases rx;rfl)
  | (let⟨t,rfl⟩:=rx;rfl)
def Gm:jz X (compareOp .IsNot) (λx y H Q=>y=.Xe/\Q (.bl (!decide (x=.Xe))) H):=by
 intro pins s σ H x y v u Q I rx ry h;let⟨rfl,q⟩:=h;cases ry;refine isnot_none_gen (dB I q ?_);cases x<;>first
  | (cases rx;rfl)
  | (let⟨t,rfl⟩:=rx;rfl)
def isObj:HO->Bool
 | .lst _=>true
 | .ins _ _ _=>true
 | _=>false
def xt(I:Inv X pins σ H s)(h:H a=some o)(p:isObj o=true):∃ob,s.heap.get? a=some ob/\ob.cls≠.type "tuple":=by
 cases o with
 | lst xs =>
  obtain⟨_,its,n,_,e⟩:xs.length<=sizeLine/\∃ (its:List Value) (n:Nat),aS xs its/\s.heap.get? a=some { cls:=.type "list",data:=.seq its.toArray n }:=I.Xi a _ h;exact⟨_,e,(by show Value.type "list"≠.type "tuple";decide +kernel)⟩
 | ins C dx fs =>
  have x:=I.Xi a _ h;let⟨_,_,_,e,_⟩:=x;exact⟨_,e,(by show Value.ref C≠.type "tuple";exactλz=>by cases z)⟩
 | _=>exact absurd (show false=true from p) xA
def jz.or(h:jz X f r)(h':jz X f r'):jz X f (λx y H Q=>r x y H Q\/r' x y H Q):=by
 intro pins s σ H x y v u Q I rx ry q;rcases q with q|q
 ·exact h pins s σ H x y v u Q I rx ry q
 ·exact h' pins s σ H x y v u Q I rx ry q
def eE(b:Expr)(h:op≠.In:=by decide)(h2:op≠.NotIn:=by decide):behindInMarks op b=false:=by
 have e1:(op == CmpOp.In)=false:=by cases op<;>first|rfl|exact absurd rfl h
 have e2:(op == CmpOp.NotIn)=false:=by cases op<;>first|rfl|exact absurd rfl h2
 cases b<;>simp[behindInMarks,e1,e2]
def OR(ho:jz X (compareOp op) r)(ha:PE X a ta)(hb:PE X b tb)(hm:behindInMarks op b=false):PE X (.Compare a [op] [b] pos) (S8 r ta tb):=by
 intro pins s σ H Q I h;exact wpAny_Compare1 (R8 ha hb I h λv u s2 x y H2 I2 rx ry q=>ho pins s2 σ H2 x y v u Q I2 rx ry q) hm
def PM(t:TE):TT:=λσ H Q=>t σ H λx H'=>∃k,x=.bl k/\Q k H'
def Gi(ho:jz X (compareOp op) r)(ha:PE X a ta)(hb:PE X b tb)(hm:behindInMarks op b=false):PT X (.Compare a [op] [b] pos) (PM (S8 r ta tb)):=by
 intro pins s σ H Q I h;refine wpAny_isTrue_Compare1 (cN (ha pins s σ H _ I h) λv s1 ⟨x,H1,I1,r1,q1⟩=>cN (hb pins s1 σ H1 _ I1 q1) λu s2 ⟨y,H2,I2,r2,q2⟩ =>
  cN (ho pins s2 σ H2 x y v u _ I2 r1 r2 q2) λc s3 ⟨z,H3,I3,r3,k,e,q3⟩=>?_) hm
 subst e;cases r3;exact xX ⟨H3,I3,q3⟩
def Ee(r r':R2)(ta tb tc:TE):TE:=λσ H Q=>ta σ H λx H1=>tb σ H1 λy H2=>r x y H2 λz H3=>∃k,z=.bl k /\
 (if k=true then tc σ H3 λw' H4=>r' y w' H4 Q else Q (.bl false) H3)
def Lw(ho:jz X (compareOp op) r)(YI:jz X (compareOp ZQ) r')(ha:PE X a ta)(hb:PE X b tb)(hc:PE X c tc)
  (hm:lastMarks [op,ZQ] [b,c]=false:=by with_unfolding_all rfl):PE X (.Compare a [op,ZQ] [b,c] pos) (Ee r r' ta tb tc):=by
 intro pins s σ H Q I h;refine Compare_chain (cN (ha pins s σ H _ I h) λv s1 ⟨x,H1,I1,r1,q1⟩=>chain_link (cN (hb pins s1 σ H1 _ I1 q1) λu s2 ⟨y,H2,I2,r2,q2⟩ =>
  cN (ho pins s2 σ H2 x y v u _ I2 r1 r2 q2) λd s3 ⟨z,H3,I3,r3,k,e,q3⟩=>?_)) hm
 subst e;cases r3;refine xX ?_;cases k with
 | false=>exact ite_ff ⟨.bl false,H3,I3,rfl,q3⟩
 | true=>exact ite_tt (chain_last (cN (hc pins s3 σ H3 _ I3 q3) λw' s4 ⟨z',H4,I4,r4,q4⟩=>YI pins s4 σ H4 y z' u w' Q I4 r2 r4 q4))
def LN(ho:jz X (compareOp op) r)(YI:jz X (compareOp ZQ) r')(ha:PE X a ta)(hb:PE X b tb)(hc:PE X c tc)
  (hm:lastMarks [op,ZQ] [b,c]=false:=by with_unfolding_all rfl):PT X (.Compare a [op,ZQ] [b,c] pos) (PM (Ee r r' ta tb tc)):=by
 intro pins s σ H Q I h;refine isTrue_chain (cN (ha pins s σ H _ I h) λv s1 ⟨x,H1,I1,r1,q1⟩=>test_link (cN (hb pins s1 σ H1 _ I1 q1) λu s2 ⟨y,H2,I2,r2,q2⟩ =>
  cN (ho pins s2 σ H2 x y v u _ I2 r1 r2 q2) λd s3 ⟨z,H3,I3,r3,k,e,q3⟩=>?_)) hm
 subst e;cases r3;refine xX ?_;cases k with
 | false =>
  let⟨k',e',q'⟩:=q3;cases e';exact ite_ff ⟨H3,I3,q'⟩
 | true =>
  refine ite_tt (test_last (cN (hc pins s3 σ H3 _ I3 q3) λw' s4 ⟨z',H4,I4,r4,q4⟩=>cN (YI pins s4 σ H4 y z' u w' _ I4 r2 r4 q4) λd' s5 ⟨z2,H5,I5,r5,k2,e2,q5⟩=>?_));subst e2;cases r5;exact xX ⟨H5,I5,q5⟩
def uq:(sizeLine:Nat) < 2 ^ 63:=by rw[qV];decide
def vals1(r:aS [x] us):∃u,us=[u]/\RelV x u:=by
 cases r with
 | cons r1 r2=>cases r2;exact⟨_,rfl,r1⟩
def vals2(r:aS [x,y] us):∃u w',us=[u,w']/\RelV x u/\RelV y w':=by
 cases r with
 | cons r1 r2 =>
  cases r2 with
  | cons r3 r4=>cases r4;exact⟨_,_,rfl,r1,r3⟩
section
variable {K:W.Frag}
end
structure ft(k:Nat)(A:Around):Prop where
 hd:A.handled=none
 dp:A.depth+3 * k+5 < recursionLimit
 un:A.units+16 * k+200 < cLine
def ft.mono(r:ft k A)(h:j<=k):ft j A:=⟨r.hd,by have:=r.dp;lia,by have:=r.un;lia⟩
def ft.deeper(r:ft (k+1) A)(env:Env):ft k (A.deeper env) :=
 ⟨r.hd,by have:=r.dp;show A.depth+1+3 * k+5 < _;lia,by have:=r.un;show A.units+3+16 * k+200 < _;lia⟩
def ft.in1(r:ft (k+1) A):ft k A.in1 :=
 ⟨r.hd,by have:=r.dp;show A.depth+3 * k+5 < _;lia,by have:=r.un;show A.units+1+16 * k+200 < _;lia⟩
def ft.depth(r:ft k A):A.depth < recursionLimit:=by have:=r.dp;lia
def ft.units(r:ft k A):A.units+64 < cLine:=by have:=r.un;lia
def Tn:TA:=λ_ H Q=>Q [] H
def Tj(ta:TE)(tr:TA):TA:=λσ H Q=>ta σ H λx H1=>tr σ H1 λxs H2=>Q (x::xs) H2
def fE:PA X [] Tn:=λ_ _ _ _ H Q I h=>kM ⟨[],H,I,.nil,h⟩
def cL(ha:PE X e te)(hr:PA X es t)(hs:starEach (e::es) X.env=(false,eval e X.env)::starEach es X.env:=by rfl):PA X (e::es) (Tj te t):=by
 intro pos pins s σ H Q I h;rw[hs];show wpAny _ _ (spliced ((false,eval e X.env)::backTo pos (starEach es X.env))) _ _ s;refine jK (cN (ha pins s σ H _ I h) λu s1 ⟨x,H1,I1,r1,q1⟩=>?_);exact cN (hr pos pins s1 σ H1 _ I1 q1) λus s2 ⟨xs,H2,I2,r2,q2⟩=>⟨x::xs,H2,I2,.cons r1 r2,q2⟩
def Vw(t:TA):TE:=λσ H Q=>t σ H λxs H1=>xs.length<=sizeLine/\∀p,H1 p=none->Q (.ref p) (upd H1 p (.tup xs))
def U5(t:TA):TE:=λσ H Q=>t σ H λxs H1=>xs.length<=sizeLine/\∀p,H1 p=none->Q (.ref p) (upd H1 p (.lst xs))
def Kc{x1}(h:PA X es t):PE X (.Tuple es x1 pos) (Vw t):=by
 intro pins s σ H Q I hq;refine wpAny_Tuple_spliced (cN (h pos pins s σ H _ I hq) λus s1 ⟨xs,H1,I1,r,z,q⟩=>⟨by rw[<- r.length];exact z,?_⟩);have hf:H1 s1.heap.objs.size=none:=I1.Xi.fresh (yN _);refine⟨.ref s1.heap.objs.size,upd H1 s1.heap.objs.size (.tup xs),I1.laid (t':=s1.toks) (λb u e=>zU _ e) (yN _) ?_,rfl,q _ hf⟩;exact⟨z,us,r,⟨_,zX _ rfl,rfl,_,rfl⟩,_,zX _ rfl,rfl⟩
def Fm(h:PA X es t):PE X (.List es pos) (U5 t):=by
 intro pins s σ H Q I hq;refine wpAny_List_spliced (cN (h pos pins s σ H _ I hq) λus s1 ⟨xs,H1,I1,r,z,q⟩=>⟨by rw[<- r.length];exact z,?_⟩);have hf:H1 s1.heap.objs.size=none:=I1.Xi.fresh (yN _);refine⟨.ref s1.heap.objs.size,upd H1 s1.heap.objs.size (.lst xs),I1.laid (t':=s1.toks) (λb u e=>zU _ e) (yN _) ?_,rfl,q _ hf⟩;exact⟨z,us,0,r,zX _ rfl⟩
abbrev Sp:=List V->Hp->VK->XK->Prop
abbrev Nc:=List Env->Hp->Shared->XK->Value->Shared->Prop
structure Et(P:Program)(w:World)(K:W.Frag)(mg:Str->Option Value)(base:Heap)(A:Around)(outer:List Env)(s:Shared)(H:Hp):Prop where
 frames:A.frames=some outer
 mod:Mod K mg base
 bs:∀b o,base.get? b=some o->s.heap.get? b=some o/\H b=none
 bsz:base.objs.size<=s.heap.objs.size
 X5:s.heap.FunFrames base outer
 frf:∀b∈iV outer,H b=none
 Xi:pK P w H s.heap
 bare:AllBare s.gens
def CE(outer:List Env)(P:Program)(w:World)(H:Hp)(s:Shared)(Q:VK)(u:Value)(s':Shared):Prop :=
 ∃v H',s'.os=s.os/\AllBare s'.gens/\Un (iV outer) [] H H' s.heap s'.heap/\pK P w H' s'.heap/\RelV v u/\Q v H'
def CR(CX:Nc)(outer:List Env)(P:Program)(w:World)(H:Hp)(s:Shared)(Q:VK)(E:XK)(r:Result)(s':Shared):Prop :=
 match r with
 | .ok (.ret u)=>CE outer P w H s Q u s'
 | .ok _=>False
 | .error e=>CX outer H s E e s'
structure pY(P:Program)(w:World)(K:W.Frag)(mg:Str->Option Value)(base:Heap)(CX:Nc)(k:Nat)(f:Addr)(fd:FuncData)(ps:List Str)(sp:Sp):Prop where
 len:∀vs H Q E,sp vs H Q E->vs.length=ps.length
 run:∀ (A:Around) (outer:List Env) (s:Shared) (H:Hp) (args:Args) (us:List Value) (vs:List V) (Q:VK) (E:XK),ft k A->Et P w K mg base A outer s H->BindsTo s fd args (ps.zip us)->aS vs us->sp vs H Q E ->
  codeAny (model P w) A (.call (.ref f) args) (CR CX outer P w H s Q E) s
def pY.mono{K:W.Frag}(F:pY P w K mg base CX j f fd ps sp)(h:j<=k) :
  pY P w K mg base CX k f fd ps sp:=⟨F.len,λA outer s H args us vs Q E hr=>F.run A outer s H args us vs Q E (hr.mono h)⟩
def Inv.aes(I:Inv X pins σ H s):Et X.prog X.w X.K X.mg X.base X.A X.stack s H :=
 ⟨I.ok.frames,I.ok.mod,I.bs,yD I.ok.bsz I.sz,I.stack,I.X6,I.Xi,I.bare⟩
def Inv.after(I:Inv X pins σ H s)(h:CE X.stack X.prog X.w H s Q u s'):EP X pins σ Q u s':=by
 let⟨v,H',os,bare,un,Xi,r,q⟩:=h;let⟨hh,g,d,t,os'⟩:=s';obtain rfl:os'=s.os:=os;exact⟨v,H',I.call (h':=hh) (g':=g) (d':=d) (t':=t) (ch:=[]) un Xi bare (λb z=>absurd z (by simp)),r,q⟩
def PB(sp:Sp)(dvs:List V)(E:XK)(t:TA):TE:=λσ H Q=>t σ H λvs H1=>sp (vs++dvs) H1 Q E
def Binds(K:W.Frag)(fd:FuncData)(ps:List Str)(ds:List Value):Prop :=
 ∀ (s:Shared) (us:List Value),K.In s.heap->(us++ds).length=ps.length->BindsTo s fd ⟨us,[]⟩ (ps.zip (us++ds))
def Binds.all{K:W.Frag}(h:∀us:List Value,us.length=ps.length->bindArgs fd ⟨us,[]⟩=pure (ps.zip us)):Binds K fd ps []:=λs us _ hl=>by
 rw[qG] at hl ⊢;exact .of_eq (h us hl)
def fI(CX:Nc)(X:Cx)(E:XK):Prop:=∀ (pins:List (Addr×Obj)) (σ:St) (H:Hp) (s:Shared) (e:Value) (s':Shared),Inv X pins σ H s->CX X.stack H s E e s'->X.xe e s'
def MR(F:pY X.prog X.w X.K X.mg X.base CX k f fd ps sp)(hr:ft k X.A)(hb:Binds X.K fd ps ds)(hd:aS dvs ds)(hx:fI CX X E)
  (I:Inv X pins σ H s) (r:aS vs us) (h:sp (vs++dvs) H Q E):wpAny (model X.prog X.w) X.A (call (.ref f) us) (EP X pins σ Q) X.xe s:=by
 have r2:aS (vs++dvs) (us++ds):=r.append hd;have hl:(us++ds).length=ps.length:=by rw[<- r2.length];exact F.len _ _ _ _ h
 refine vT (jT (F.run X.A X.stack s H ⟨us,[]⟩ (us++ds) (vs++dvs) Q E hr I.aes (hb s us I.YV hl) r2 h) λr s' hq=>?_);cases r with
 | error e=>exact hx pins σ H s e s' I hq
 | ok fl =>
  cases fl with
  | ret u=>exact I.after hq
  | next=>exact False.elim hq
  | brk=>exact False.elim hq
  | cont=>exact False.elim hq
def F7(F:pY X.prog X.w X.K X.mg X.base CX k f fd ps sp)(hr:ft k X.A)(hg:Gl X x)(hm:X.mg x=some (.ref f))(hk:W.keepIn X.K (.ref f)=true)(hb:Binds X.K fd ps ds)(hd:aS dvs ds)(hx:fI CX X E)
  (ha:PA X (e::es) t) (XH:(x == ("__debug__":Str))=false:=by decide) (he:starEach (e::es) X.env=(false,eval e X.env)::starEach es X.env:=by rfl) (Yb:(backTo pos (starEach es X.env)).any (·.1)=false:=by rfl) :
  PE X (.Call (.Name x p) (e::es) [] pos) (PB sp dvs E t):=by
 intro pins s σ H Q I h;refine qZ (ll I hg hm ?_ XH);refine W.callWith_K (h₀:=X.base) I.ok.mod.kin hk (cN (ha pos pins s σ H _ I h) λus s1 ⟨vs,H1,I1,r,q⟩=>⟨I1.YV,?_⟩) he Yb;exact MR F hr hb hd hx I1 r q
def JE(F:pY X.prog X.w X.K X.mg X.base CX k f fd ps sp)(hr:ft k X.A)(hg:Gl X x)(hm:X.mg x=some (.ref f))(hk:W.keepIn X.K (.ref f)=true)(hb:Binds X.K fd ps ds)(hd:aS dvs ds)(hx:fI CX X E)
  (XH:(x == ("__debug__":Str))=false:=by decide):PE X (.Call (.Name x p) [] [] pos) (PB sp dvs E Tn):=by
 intro pins s σ H Q I h;refine qZ (ll I hg hm ?_ XH);exact W.callWith_K0 I.YV hk (MR (us:=[]) F hr hb hd hx I .nil h)
structure dq(N P:List Str)(sc:Scope):Prop where
 kind:sc.kind=.function
 co:sc.isCoroutine=false
 gen:sc.isGenerator=false
 nd:N.Nodup
 pre:N.take P.length=P
 par:∀x∈P,sc.names.lookup x=some .local \/ sc.names.lookup x=some .cell
 adm:∀y∈sc.names,y.2≠.free
def yx{kindOf:Str->Option NameKind}:∀ {binds:List (Str×Value)}{m:Str->Option Value},(∀v,(x,v)∉binds)->bindL kindOf binds m x=m x
 | [],_,_=>rfl
 | (n,v)::r,m,h=>by
  unfold bindL;rw[yx λw hw=>h w (zC _ hw)];split
  ·have:x≠n:=by rintro rfl;exact h v zE
   simp[this]
  ·rfl
def zt{kindOf:Str->Option NameKind}:∀ {binds:List (Str×Value)}{m:Str->Option Value},(∀v,(x,v)∉binds)->bindC kindOf binds m x=m x
 | [],_,_=>rfl
 | (n,v)::r,m,h=>by
  unfold bindC;rw[zt λw hw=>h w (zC _ hw)];split
  ·rfl
  ·have:x≠n:=by rintro rfl;exact h v zE
   simp[this]
def xx{kindOf:Str->Option NameKind}:∀ {P:List Str}{vs:List Value}{i:Nat}{m:Str->Option Value},P.Nodup->P[i]?=some x->vs[i]?=some v->kindOf x=some .local ->
  bindL kindOf (P.zip vs) m x=some v
 | [],_,_,_,_,h,_,_=>by simp at h
 | _::_,[],_,_,_,_,h,_=>by simp at h
 | p::P,w::vs,0,m,nd,h1,h2,hk=>by
  simp at h1 h2;subst h1;subst h2;show bindL kindOf ((p,w)::P.zip vs) m p=_;unfold bindL;rw[yx λv hv=>(List.nodup_cons.mp nd).1 (wF hv).1,yM hk];simp
 | p::P,w::vs,i+1,m,nd,h1,h2,hk=>by
  show bindL kindOf ((p,w)::P.zip vs) m x=_;unfold bindL;exact xx (i:=i) (List.nodup_cons.mp nd).2 (by simpa using h1) (by simpa using h2) hk
def zq{kindOf:Str->Option NameKind}:∀ {P:List Str}{vs:List Value}{i:Nat}{m:Str->Option Value},P.Nodup->P[i]?=some x->vs[i]?=some v->kindOf x≠some .local ->
  bindC kindOf (P.zip vs) m x=some v
 | [],_,_,_,_,h,_,_=>by simp at h
 | _::_,[],_,_,_,_,h,_=>by simp at h
 | p::P,w::vs,0,m,nd,h1,h2,hk=>by
  simp at h1 h2;subst h1;subst h2;show bindC kindOf ((p,w)::P.zip vs) m p=_;unfold bindC;rw[zt λv hv=>(List.nodup_cons.mp nd).1 (wF hv).1,yO hk];simp
 | p::P,w::vs,i+1,m,nd,h1,h2,hk=>by
  show bindC kindOf ((p,w)::P.zip vs) m x=_;unfold bindC;exact zq (i:=i) (List.nodup_cons.mp nd).2 (by simpa using h1) (by simpa using h2) hk
def start(N:List Str)(vs:List V):St:=vs.map some++List.replicate (N.length - vs.length) none
def uz(CX:Nc)(P:Program)(w:World)(K:W.Frag)(mg:Str->Option Value)(base:Heap)(N:List Str)(qual:Str)(scope:Scope)(f:Addr)(cd:Value)(A:Around)(outer:List Env)(s:Shared)(H:Hp)(E:XK):Cx where
 prog:=P
 w:=w
 K:=K
 mg:=mg
 base:=base
 A:=A.deeper (envOfC qual scope s.heap.objs.size f cd)
 N:=N
 Xn:=s
 Xg:=H
 env:=envOfC qual scope s.heap.objs.size f cd
 outer:=outer
 stack:=envOfC qual scope s.heap.objs.size f cd::outer
 ex:=[]
 calm:=true
 fn:=λ_=>true
 pn:=[]
 xe:=λe s'=>wpAny (model P w) (A.deeper (envOfC qual scope s.heap.objs.size f cd)) (leaving (envOfC qual scope s.heap.objs.size f cd) e) (λ_ YA=>CX outer H s E e YA) (λe' YA=>CX outer H s E e' YA) s'
def tT{sc:Scope}{n:Nat}(h:sc.names.lookup x=some .cell):∃c,(cellsFrom n sc.names []).lookup x=some c:=by
 have q:=W.cellsFrom_some sc.names n [] (.inl h);exact Option.isSome_iff_exists.mp q
def yp{CX:Nc}{K:W.Frag}{mg:Str->Option Value}{ps:List Str}{scope:Scope}{cd:Value}{A:Around}{outer:List Env}{s:Shared}{E:XK}{us:List Value}{vs:List V}
  (S:dq N ps scope) (hd:A.handled=none) (e0:Et P w K mg base A outer s H) (hl:vs.length=ps.length) (r:aS vs us)
  (x:InCallC s s.heap.objs.size (bindL (envOfC qual scope s.heap.objs.size f cd).kindOf (ps.zip us) λ_=>none) (cellsFrom (s.heap.objs.size+1) scope.names []) (bindC (envOfC qual scope s.heap.objs.size f cd).kindOf (ps.zip us) λ_=>none) s1) :
  Inv (uz CX P w K mg base N qual scope f cd A outer s H E) [] (start N vs) H s1:=by
 have Yb:ps.length<=N.length:=by have:=jD List.length S.pre;rw[jX] at this;lia
 let⟨h1,tk,rfl,hk⟩:=x.done;have noA:∀b:Addr,b∉(uz CX P w K mg base N qual scope f cd A outer s H E).ex:=λb z=>absurd (show b∈([]:List Addr) from z) (by simp);refine⟨⟨e0.mod,S.kind,rfl,rfl,yN _,λy z c h1 h2=>?_,λy hy=>?_,λy c _ h=>?_,λ_=>hd,Around.frames_deeper e0.frames,.inr ⟨rfl,rfl⟩,λb z=>absurd z (noA b),e0.bs,e0.bsz,λb _ _=>noA b,λb z=>absurd z (noA b),e0.X5,e0.frf⟩,
  rfl,e0.bare,Un.kept hk,⟨_,x.toInCall.ns,λi y v h1 h2 h3=>?_⟩,λy c h=>⟨_,x.cell y c h⟩,e0.Xi.fresh (yN _),λy c h=>?_,λp hp=>absurd (show p∈([]:List (Addr×Obj)) from hp) (by simp),e0.Xi.kept hk,?_⟩
 ·exact name_of_addr x.apart (kC h1) (kC h2)
 ·have hy:scope.names.lookup y=some .cell\/scope.names.lookup y=some .free:=hy;rcases hy with hy|hy
  ·exact tT hy
  ·exact absurd rfl (S.adm _ (kC hy))
 ·exact jU (x.above y c (kC h))
 ·have hi:i < vs.length:=by
   unfold start at h2;by_cases hi:i < vs.length
   ·exact hi
   ·rw[yU (by simpa using hi)] at h2;rw[yY] at h2;split at h2<;>cases h2
  have ha:vs[i]?=some v:=by
   unfold start at h2;rw[yT (by simpa using hi),zO] at h2;cases e:vs[i]? with
   | none=>rw[e] at h2;cases h2
   | some a=>rw[e] at h2;cases h2;rfl
  let⟨u,hu,rv⟩:=r.get ha;have hp:ps[i]?=some y:=by
   rw[<- S.pre,List.getElem?_take_of_lt (by lia)];exact h1
  have ndP:ps.Nodup:=by rw[<- S.pre];exact S.nd.sublist (List.take_sublist _ _)
  refine⟨u,rv,?_⟩;rcases S.par y (qC hp) with k|k
  ·exact .inl ⟨k,xx ndP hp hu k⟩
  ·let⟨c,e⟩:=tT (n:=s.heap.objs.size+1) k;refine .inr ⟨.inl k,c,e,?_⟩;have q:=x.cell y c e;rw[zq ndP hp hu (by show scope.names.lookup y≠_;rw[k];decide)] at q;exact q
 ·exact e0.Xi.fresh (jU (x.above y c (kC h)))
 ·unfold start;show _=N.length;rw[zN,zD,xN];lia
def JA{K:W.Frag}{kV:Value}
  {Zu:Array (Option Value)}{N ps:List Str}{sp:Sp}(lk:K.lookup f=some ⟨oc,od,.func (W.fnOf name qual params body scope dV kV doc pm an Xy ct),Zu⟩) (XM:W.codeIn K Xy qual=true) (S:dq N ps scope)
  (len:∀vs H Q E,sp vs H Q E->vs.length=ps.length)
  (aet:∀ (A:Around) (outer:List Env) (s:Shared) (H:Hp) (vs:List V) (Q:VK) (E:XK),ft k (A.deeper (envOfC qual scope s.heap.objs.size f Xy))->sp vs H Q E ->
   ∃t,Bf (uz CX P w K mg base N qual scope f Xy A outer s H E) body t/\t { nx:=λ_ H'=>Q .Xe H',rt:=Q } (start N vs) H) :
  pY P w K mg base CX (k+1) f (W.fnOf name qual params body scope dV kV doc pm an Xy ct) ps sp:=by
 refine⟨len,λA outer s H args us vs Q E hr e0 hb r hsp=>?_⟩;have hl:=len _ _ _ _ hsp;have KX:K.In s.heap:=e0.mod.kin.keeps λb o e=>(e0.bs b o e).1;have lim:s.heap.NoLimit:=e0.mod.nolimit.keeps λb o e=>(e0.bs b o e).1;have aaA:∀y∈ps.zip us,scope.names.lookup y.1=some .local \/ (scope.names.lookup y.1=some .cell/\((cellsFrom (s.heap.objs.size+1) scope.names []).lookup y.1).isSome=true):=λ⟨n,v⟩ hy=>by
  rcases S.par n (wF hy).1 with q|q
  ·exact .inl q
  ·exact .inr ⟨q,W.cellsFrom_some _ _ _ (.inl q)⟩
 refine codeAny_call_function hr.depth (KX _ _ lk) rfl S.co S.gen rfl (W.codeRec_of KX XM) (hb _ _ _ _ ?_);refine wpAny_newFunctionEnv_cells S.kind aaA λenv he s1 x=>?_;subst he;refine⟨lim.keeps x.toInCall.keep,codeAny_func ?_⟩;let⟨t,ht,hq⟩:=aet A outer s H vs Q E (hr.deeper _) hsp;have I:Inv (uz CX P w K mg base N qual scope f Xy A outer s H E) [] (start N vs) H s1:=yp S hr.hd e0 hl r x;refine xB (ht [] s1 (start N vs) H _ I hq) (λfl s' hs=>?_) λe s' hs=>hs;have fin:∀ {σ':St}{H':Hp}{v:V}{u:Value},Inv (uz CX P w K mg base N qual scope f Xy A outer s H E) [] σ' H' s'->RelV v u->Q v H'->CE outer P w H s Q u s' :=
  λ{σ' H' v u} J rv q=>⟨v,H',J.os,J.bare,J.base,J.Xi,rv,q⟩
 cases fl with
 | ret u =>
  let⟨v,σ',H',J,rv,q⟩:=hs;exact fin J rv q
 | next =>
  let⟨σ',H',J,q⟩:=hs;exact fin (v:=V.Xe) (u:=Value.none) J rfl q
 | brk =>
  let⟨_,_,_,q⟩:=hs;exact False.elim q
 | cont =>
  let⟨_,_,_,q⟩:=hs;exact False.elim q
section
variable {id T:String}
def UQ(r:List V->Hp->VK->Prop)(t:TA):TE:=λσ H Q=>t σ H λvs H1=>r vs H1 Q
def pC(hc:gD X (.builtin id) r)(hg:Gl X x)(hm:X.mg x=none)(hv:bootBuiltins x=some (.builtin id))(ha:PA X (e::es) t)(hn:x≠"__name__":=by decide)(XH:(x == ("__debug__":Str))=false:=by decide)
  (he:starEach (e::es) X.env=(false,eval e X.env)::starEach es X.env:=by rfl) (Yb:(backTo pos (starEach es X.env)).any (·.1)=false:=by rfl):PE X (.Call (.Name x p) (e::es) [] pos) (UQ r t):=by
 intro pins s σ H Q I h;refine qZ (k7 I hg hm hv ?_ hn XH);exact PyProof.Rows.callWith_builtin1 (cN (ha pos pins s σ H _ I h) λus s1 ⟨vs,H1,I1,r1,q1⟩=>hc pins s1 σ H1 vs us Q I1 r1 q1) he Yb
def zf(hc:gD X (.type T) r)(hg:Gl X x)(hm:X.mg x=none)(hv:bootBuiltins x=some (.type T))(ha:PA X (e::es) t)(hn:x≠"__name__":=by decide)(XH:(x == ("__debug__":Str))=false:=by decide)
  (he:starEach (e::es) X.env=(false,eval e X.env)::starEach es X.env:=by rfl) (Yb:(backTo pos (starEach es X.env)).any (·.1)=false:=by rfl):PE X (.Call (.Name x p) (e::es) [] pos) (UQ r t):=by
 intro pins s σ H Q I h;refine qZ (k7 I hg hm hv ?_ hn XH);exact qT (cN (ha pos pins s σ H _ I h) λus s1 ⟨vs,H1,I1,r1,q1⟩=>hc pins s1 σ H1 vs us Q I1 r1 q1) he Yb
end
end L2
namespace HT
open PySem PyProof.Rows
def lexLt:List Int->List Int->Bool
 | [],[]=>false
 | [],_::_=>true
 | _::_,[]=>false
 | x::xs,y::ys=>if x=y then lexLt xs ys else decide (x < y)
def fF(x y:Int)(xs ys:List Int):lexLt (x::xs) (y::ys)=if x=y then lexLt xs ys else decide (x < y):=rfl
section
open PySem.SeqAt
open PySem.AutoSeq1 (wpAny_loadPart')
open PySem.MeetsSeq PySem.MeetsSeq2 PySem.MeetsSeq3
end
def Oq(ht:IsTup s.heap t vs.toArray)(hb:IsTup s.heap b ws.toArray)(hv:vs≠[])
  (h1:ws=[]->Q (.ref t) s) (h2:ws≠[]->Q (.ref s.heap.objs.size) { s with heap:=s.heap.push { cls:=.type "tuple",data:=.seq (vs++ws).toArray } })
  (ZR:vs.length+ws.length<=sizeLine):wpAny (model prog w) A (binaryOp .Add (.ref t) (.ref b)) Q E s:=by
 let⟨⟨cls,dd,data,sl⟩,ho,hc,n,hd⟩:=id ht;let⟨⟨aeu,dd2,data2,sl2⟩,ho2,Z8,n2,hd2⟩:=id hb;simp only at hc hd Z8 hd2;subst hc hd Z8 hd2;have e:vs.toArray++ws.toArray=(vs++ws).toArray:=by simp
 by_cases hw:ws=[]
 ·exact Zi ⟨_,ho,rfl⟩ ⟨_,ho2,rfl⟩ noFill_tuple_add seq_tuple_add vW vQ (vN _ _)
   (tuple_addW1 t b vs.toArray ws.toArray n n2 dd dd2 sl sl2 (by simpa using hv) (by simp[hw])) ⟨ho,ho2,h1 hw⟩
 ·refine Zi ⟨_,ho,rfl⟩ ⟨_,ho2,rfl⟩ noFill_tuple_add seq_tuple_add vW vQ (vN _ _)
   (tuple_addW2 t b vs.toArray ws.toArray n n2 dd dd2 sl sl2 (by simpa using hv) (by simpa using hw) (by rw[zH,zH];exact ZR)) ⟨ho,ho2,?_⟩
  rw[e];exact h2 hw
def eH(n d:Nat):Option Int->Nat
 | none=>d
 | some v=>if v < 0 then (v+(n:Int)).toNat else min v.toNat n
def Cg(n d:Nat):eH n d none=d:=rfl
def Gu(n d k:Nat):eH n d (some (k:Int))=min k n:=by
 show (if (k:Int) < 0 then ((k:Int)+(n:Int)).toNat else min (k:Int).toNat n)=min k n;rw[yO (by lia),yG]
def Rb(n d:Nat)(hd:d<=n)(o:Option Int):eH n d o<=n:=by
 cases o with
 | none=>exact hd
 | some v =>
  show (if v < 0 then (v+(n:Int)).toNat else min v.toNat n)<=n;by_cases hv:v < 0
  ·rw[yM hv];lia
  ·rw[yO hv];exact Nat.min_le_right _ _
def FV(v:Int)(n d:Nat):(if v < 0 then max (v+(n:Int)) 0 else min v (n:Int))=((eH n d (some v):Nat):Int):=by
 show (if v < 0 then max (v+(n:Int)) 0 else min v (n:Int))=(((if v < 0 then (v+(n:Int)).toNat else min v.toNat n):Nat):Int)
 by_cases hv:v < 0
 ·simp?[yM hv];lia
 ·simp?[yO hv];lia
def Es(lo hi:Option Int)(n:Nat):Builtin.Slice.sliceAdjust lo hi 1 (n:Int)=(((eH n 0 lo:Nat):Int),((eH n n hi:Nat):Int)):=by
 have h1:¬ ((1:Int) < 0):=by lia
 unfold Builtin.Slice.sliceAdjust;simp?[h1,qQ];refine Prod.ext ?_ ?_
 ·cases lo with
  | none=>rfl
  | some v=>exact FV v n 0
 ·cases hi with
  | none=>rfl
  | some v=>exact FV v n n
def E3(i j:Nat):Builtin.Slice.slicePlaces (i:Int) (j:Int) 1=j - i:=by
 unfold Builtin.Slice.slicePlaces;have h1:(1:Int) > 0:=by lia
 simp?[h1,xI,Int.ediv_one];split<;>lia
def uS(p:IsPart v o)(h:Q o s):wpAny (model prog w) A (Builtin.Slice.slicePartIndex v) Q E s:=by
 cases p with
 | none=>exact slicePart_none h
 | int i t=>exact slicePart_int h
def jw{vl:Value}{lo hi:Option Int}{n:Nat}{Q:Int×Int×Nat->Shared->Prop}(hs:s.heap.IsSliceOf sl vl vu .none)(pl:IsPart vl lo)(pu:IsPart vu hi)
  (h:Q (((eH n 0 lo:Nat):Int),1,eH n n hi - eH n 0 lo) s):wpAny (model prog w) A (Builtin.Slice.sliceApplied (.ref sl) (pure (n:Int))) Q E s:=by
 let⟨os,hos,hcs,hds⟩:=id hs;unfold Builtin.Slice.sliceApplied Builtin.Slice.sliceFields;refine zV (zV (qU hos hds (x:=vl) rfl (zV (qU hos hds (x:=vu) rfl (zV (qU hos hds (x:=.none) rfl (zW ?_)))))));refine zV (slicePart_none ?_);show wpAny _ _ (if ((1:Int) == 0)=true then _ else _) _ _ s;rw[yO (by decide)];refine zV (uS pl (zV (uS pu (zV (zW ?_)))));show wpAny _ _ (match Builtin.Slice.sliceAdjust lo hi 1 (n:Int) with|(lo,hi)=>pure (lo,(1:Int),Builtin.Slice.slicePlaces lo hi 1)) _ _ s;rw[Es lo hi n];show wpAny _ _ (pure (((eH n 0 lo:Nat):Int),(1:Int),Builtin.Slice.slicePlaces ((eH n 0 lo:Nat):Int) ((eH n n hi:Nat):Int) 1)) _ _ s;rw[E3];exact zW h
def Lp(xs:Array Value)(i k:Nat):((List.range k).filterMap λ(m:Nat)=>xs[((i:Int)+(m:Int) * 1).toNat]?).toArray=((xs.toList.drop i).take k).toArray:=by
 have e:(λ(m:Nat)=>xs[((i:Int)+(m:Int) * 1).toNat]?)=λm=>xs[i+m]?:=by
  funext m;have:((i:Int)+(m:Int) * 1).toNat=i+m:=by lia
  rw[this]
 rw[e];have:=pick_run xs i k;rw[List.filterMap_map] at this;have e2:((λx=>xs[x]?) ∘ λx=>i+x)=λm=>xs[i+m]?:=rfl;rw[e2] at this;rw[this]
def oN{items:Array Value}{vl:Value}{lo:Option Int}(ht:IsTup s.heap t items)(hs:s.heap.IsSliceOf sl vl vu .none)(pl:IsPart vl lo)(pu:IsPart vu hi)
  (hw:¬ (eH items.size 0 lo=0/\eH items.size items.size hi=items.size))
  (h:Q (.ref s.heap.objs.size) { s with heap:=s.heap.push { cls:=.type "tuple",data:=.seq ((items.toList.drop (eH items.size 0 lo)).take (eH items.size items.size hi - eH items.size 0 lo)).toArray } })
  (ZR:items.size<=sizeLine):wpAny (model prog w) A (getItem (.ref t) (.ref sl)) Q E s:=by
 have ZT:sizeOk (.seq ((items.toList.drop (eH items.size 0 lo)).take (eH items.size items.size hi - eH items.size 0 lo)).toArray):=by
  show ((items.toList.drop (eH items.size 0 lo)).take (eH items.size items.size hi - eH items.size 0 lo)).toArray.size<=sizeLine;rw[zH,jX,qJ,wW];lia
 have hj:eH items.size items.size hi<=items.size:=Rb _ _ (yN _) hi;let⟨os,hos,hcs,hds⟩:=id hs;have hTs:s.TypeIs (.ref sl) "slice":=⟨os,hos,hcs⟩
 unfold getItem
 try with_reducible refine xY ?_
 first|refine zV (zW ?_)|skip
 refine zV (wpAny_sequenceKey ht.typeIs (by decide) ?_);refine zV (qD (name:=Str.ofString "__getitem__") ht.typeIs jG
  (qX jG ht.typeIs entry_tuple_getitem ?_ (args_tuple_getitem _ _)))
 show wpAny _ _ (Builtin.Tuple.tupleItemsOf (.ref t) >>= _) _ _ s;refine zV (tupleItemsOf_ ht ?_);refine zV (Zg hTs ?_);rw[yM (by decide)];refine zV (jw hs pl pu ?_);have hno:¬ ((((eH items.size 0 lo:Nat):Int) == 0&&(1:Int) == 1&&(eH items.size items.size hi - eH items.size 0 lo) == items.size)=true):=by
  intro q;rw[zF,zF] at q;have q1:((eH items.size 0 lo:Nat):Int)=0:=eq_of_beq q.1.1;have q2:eH items.size items.size hi - eH items.size 0 lo=items.size:=eq_of_beq q.2;exact hw ⟨by lia,by lia⟩
 show wpAny _ _ (if (((eH items.size 0 lo:Nat):Int) == 0&&(1:Int) == 1&&(eH items.size items.size hi - eH items.size 0 lo) == items.size)=true then _ else _) _ _ s;rw[yO hno,Lp]
 first
  | exact zV (m:=Builtin.Tuple.tupleExact _) (qM (zW ⟨_,rfl,zW h⟩) ZT)
  | exact zV (m:=Builtin.Tuple.tupleExact _) (qM (zV (zW (zW ⟨_,rfl,zW h⟩))) ZT)
  | exact zV (zV (m:=Builtin.Tuple.tupleExact _) (qM (zW (zW ⟨_,rfl,zW h⟩)) ZT))
  | exact zV (zV (m:=Builtin.Tuple.tupleExact _) (qM (zW ⟨_,rfl,zW h⟩) ZT))
end HT
namespace L2
open PySem PySem.Spec PyProof.Rows
abbrev TO:=St->Hp->(Option Int->Hp->Prop)->Prop
def PO(X:Cx)(e:Option Expr)(t:TO):Prop :=
 ∀ (pins:List (Addr×Obj)) (s:Shared) (σ:St) (H:Hp) (Q:Option Int->Hp->Prop),Inv X pins σ H s->t σ H Q ->
  wpAny (model X.prog X.w) X.A (evalPart e X.env) (λu s'=>∃o H',Inv X pins σ H' s'/\IsPart u o/\Q o H') X.xe s
def OZ:TO:=λ_ H Q=>Q none H
def Tg(t:TE):TO:=λσ H Q=>t σ H λx H1=>∃i,x=.int i/\Q (some i) H1
def intsAre_of:∀ {us:List Value},aS (ns.map V.int) us->IntsAre us ns:=by
 induction ns with
 | nil=>intro us r;rw[yV] at r;cases r;exact .nil
 | cons n ns ih =>
  intro us r;rw[zI] at r;cases r with
  | cons r1 r2 =>
   let⟨t,e⟩:=r1;subst e;exact .cons n t (ih r2)
section
variable {lo hi:Option Expr}
def N6:PO X none OZ:=by
 intro pins s σ H Q I h;rw[evalPart_none];exact zW ⟨none,H,I,.none,h⟩
def GH(h:PE X e te):PO X (some e) (Tg te):=by
 intro pins s σ H Q I hw;rw[evalPart_some];refine cN (h pins s σ H _ I hw) λu s1 ⟨x,H1,I1,r1,q1⟩=>?_;let⟨i,rfl,q⟩:=q1;let⟨t,rfl⟩:=r1;exact⟨some i,H1,I1,.int i t,q⟩
def PJ(X:Cx)(r:V->Option Int->Option Int->Hp->VK->Prop):Prop :=
 ∀ (pins:List (Addr×Obj)) (s:Shared) (σ:St) (H:Hp) (x:V) (v vl vu:Value) (lo hi:Option Int) (sl:Addr) (Q:VK),Inv X pins σ H s->RelV x v->s.heap.IsSliceOf sl vl vu .none->IsPart vl lo->IsPart vu hi->r x lo hi H Q ->
  ∃T id,typeLookup (.type T) "__getitem__"=pure (some (.builtin id))/\s.TypeIs v T/\wpAny (model X.prog X.w) X.A (getItem v (.ref sl)) (EP X pins σ Q) X.xe s
def PJ.or(h:PJ X r)(h':PJ X r'):PJ X (λx lo hi H Q=>r x lo hi H Q\/r' x lo hi H Q):=by
 intro pins s σ H x v vl vu lo hi sl Q I rx hs pl pu q;rcases q with q|q
 ·exact h pins s σ H x v vl vu lo hi sl Q I rx hs pl pu q
 ·exact h' pins s σ H x v vl vu lo hi sl Q I rx hs pl pu q
def W0(r:V->Option Int->Option Int->Hp->VK->Prop)(te:TE)(tl th:TO):TE:=λσ H Q=>te σ H λx H1=>tl σ H1 λl H2=>th σ H2 λu H3=>r x l u H3 Q
def Lg(hr:PJ X r)(he:PE X e te)(hl:PO X lo tl)(hu:PO X hi th):PE X (.Subscript e (.Slice lo hi none p2) pos) (W0 r te tl th):=by
 intro pins s σ H Q I h;refine Subscript_ (cN (he pins s σ H _ I h) λv s1 ⟨x,H1,I1,r1,q1⟩=>?_);refine wpAny_Slice (cN (hl pins s1 σ H1 _ I1 q1) λvl s2 ⟨l,H2,I2,pl,q2⟩=>cN (hu pins s2 σ H2 _ I2 q2) λvu s3 ⟨u,H3,I3,pu,q3⟩=>?_);rw[evalPart_none];refine zW ?_;have I4:Inv X pins σ H3 { s3 with heap:=s3.heap.push { cls:=.type "slice",data:=.fields #[vl,vu,.none] } }:=I3.kept (t':=s3.toks) λb ob q=>zU _ q;let⟨T,id,hT,ht,hg⟩:=hr pins { s3 with heap:=s3.heap.push { cls:=.type "slice",data:=.fields #[vl,vu,.none] } } σ H3 x v vl vu l u s3.heap.objs.size Q I4 r1 (Heap.IsSliceOf.new ..) pl pu q3;show wpAny (model X.prog X.w) X.A (subscriptTail e (.Slice lo hi none p2) v (.ref s3.heap.objs.size)) (EP X pins σ Q) X.xe { s3 with heap:=s3.heap.push { cls:=.type "slice",data:=.fields #[vl,vu,.none] } };exact tail_any (ops:=[.ref s3.heap.objs.size,v]) ht hT hg (by with_unfolding_all rfl)
def NB(xs:List V)(lo hi:Option Int):List V:=(xs.drop (HT.eH xs.length 0 lo)).take (HT.eH xs.length xs.length hi - HT.eH xs.length 0 lo)
def BU(xs:List V)(lo hi:Option Int):(NB xs lo hi).length<=xs.length:=by
 unfold NB;rw[jX,qJ];lia
def VM(K:W.Frag):V->Option Int->Option Int->Hp->VK->Prop:=λx lo hi H Q=>∃a xs,x=.ref a/\lG K H a xs /\
 ¬ (HT.eH xs.length 0 lo=0/\HT.eH xs.length xs.length hi=xs.length)/\∀p,H p=none->Q (.ref p) (upd H p (.tup (NB xs lo hi)))
def Q3:PJ X (VM X.K):=by
 intro pins s σ H x v vl vu lo hi sl Q I rx hs pl pu h;let⟨a,xs,rfl,hx,hw,q⟩:=h;cases rx;let⟨its,r,ht,hz⟩:=I.tuple hx;have hlen:its.toArray.size=xs.length:=by rw[zH];exact r.length.symm
 refine⟨"tuple",_,PyProof.Rows.slot_tuple_getitem.lookup,ht.typeIs,?_⟩;refine HT.oN ht hs pl pu (by rw[hlen];exact hw) ?_ (by rw[hlen];exact hz);rw[hlen];refine⟨.ref s.heap.objs.size,_,I.laid (t':=s.toks) (o:=.tup (NB xs lo hi)) (λb ob q=>zU _ q) (yN _) ?_,rfl,q _ (I.Xi.fresh (yN _))⟩;exact⟨yD (BU xs lo hi) hz,_,(r.drop (HT.eH xs.length 0 lo)).take (HT.eH xs.length xs.length hi - HT.eH xs.length 0 lo),tI.new _ _⟩
def Th(K:W.Frag):R2:=λx y H Q=>∃a b xs ys,x=.ref a/\y=.ref b/\lG K H a xs/\lG K H b ys/\xs≠[]/\xs.length+ys.length<=sizeLine /\
 (ys=[]->Q (.ref a) H)/\(ys≠[]->∀p,H p=none->Q (.ref p) (upd H p (.tup (xs++ys))))
def aS.Yn(r:aS xs us):us=[]↔xs=[]:=by
 cases r with
 | nil=>simp
 | cons _ _=>simp
def NY:jz X (binaryOp .Add) (Th X.K):=by
 intro pins s σ H x y v u Q I rx ry h;let⟨a,b,xs,ys,rfl,rfl,ha,hb,hx,hz,q1,q2⟩:=h;cases rx;cases ry;let⟨its,r1,p1,_⟩:=I.tuple ha;let⟨Yd,r2,p2,_⟩:=I.tuple hb;refine HT.Oq p1 p2 (λz=>hx (r1.Yn.mp z)) (λz=>⟨.ref a,H,I,rfl,q1 (r2.Yn.mp z)⟩) (λz=>?_) (by rw[<- r1.length,<- r2.length];exact hz);refine⟨.ref s.heap.objs.size,_,I.laid (t':=s.toks) (o:=.tup (xs++ys)) (λb ob q=>zU _ q) (yN _) ?_,rfl,q2 (λw=>z (r2.Yn.mpr w)) _ (I.Xi.fresh (yN _))⟩;exact⟨by rw[zN];exact hz,_,r1.append r2,tI.new _ _⟩
end
def Ig(n:Nat)(i:Int):Option Nat:=if 0<=i then (if i < n then some i.toNat else none) else if -(n:Int)<=i then some (i+n).toNat else none
def tY(xs:List α)(i:Int):Option α:=(Ig xs.length i).bind λj=>xs[j]?
def F9(h:Ig n i=some j):seqIndex? i n=some j/\j < n/\-(n:Int)<=i/\i < n:=by
 unfold Ig at h;by_cases h0:0<=i
 ·rw[yM h0] at h;by_cases h1:i < n
  ·rw[yM h1] at h;have e:i.toNat=j:=xE h;exact⟨by rw[seqIndex_of h0 h1,e],by lia,by lia,h1⟩
  ·rw[yO h1] at h;cases h
 ·rw[yO h0] at h;by_cases h1:-(n:Int)<=i
  ·rw[yM h1] at h;have e:(i+n).toNat=j:=xE h;exact⟨by rw[seqIndex_neg (by lia) h1,e],by lia,h1,by lia⟩
  ·rw[yO h1] at h;cases h
def Ad(h:tY xs i=some v):∃j,seqIndex? i xs.length=some j/\xs[j]?=some v/\j < xs.length/\-(xs.length:Int)<=i/\i < xs.length:=by
 unfold tY at h;cases e:Ig xs.length i with
 | none=>rw[e] at h;cases h
 | some j =>
  rw[e] at h;let⟨h1,h2,h3,h4⟩:=F9 e;exact⟨j,h1,h,h2,h3,h4⟩
def A4{α:Type}{xs:List α}{j:Nat}{v:α}(h:xs[j]?=some v):tY xs (j:Int)=some v:=by
 have hj:j < xs.length:=(List.getElem?_eq_some_iff.mp h).1;have e:Ig xs.length (j:Int)=some j:=by
  unfold Ig;rw[yM (by lia),yM (by lia)];simp
 unfold tY;rw[e];exact h
def JV(xs:List α)(v:α):tY (xs++[v]) (-1)=some v:=by
 have hl:(xs++[v]).length=xs.length+1:=by simp
 have e:Ig (xs++[v]).length (-1)=some xs.length:=by
  unfold Ig;rw[hl,yO (by decide),yM (by lia)]
  congr 1
  lia
 unfold tY;rw[e];show (xs++[v])[xs.length]?=some v;simp
def AO(b:Expr):Prop:=∀o i,subscripted b false o i=operate [o,i] (getItem o i)
def M3(X:Cx)(r:R2):Prop :=
 ∀ (value slice:Expr) (pins:List (Addr×Obj)) (s:Shared) (σ:St) (H:Hp) (x y:V) (v u:Value) (Q:VK),Inv X pins σ H s->RelV x v->RelV y u->r x y H Q ->
  subscripted slice false v u=operate [v,u] (getItem v u)->wpAny (model X.prog X.w) X.A (subscriptTail value slice v u) (EP X pins σ Q) X.xe s
def Ws(X:Cx)(id:String)(r:V->List V->Hp->VK->Prop):Prop :=
 ∀ (pins:List (Addr×Obj)) (s:Shared) (σ:St) (H:Hp) (x:V) (xs:List V) (v:Value) (us:List Value) (Q:VK),Inv X pins σ H s->RelV x v->aS xs us->r x xs H Q ->
  wpAny (model X.prog X.w) X.A (call (.builtin id) (v::us)) (EP X pins σ Q) X.xe s
section
def M3.or(h:M3 X r)(h':M3 X r'):M3 X (λx y H Q=>r x y H Q\/r' x y H Q):=by
 intro value slice pins s σ H x y v u Q I rx ry q hs;rcases q with q|q
 ·exact h value slice pins s σ H x y v u Q I rx ry q hs
 ·exact h' value slice pins s σ H x y v u Q I rx ry q hs
def Tt(hr:M3 X r)(ha:PE X a ta)(hb:PE X b tb)(hs:AO b):PE X (.Subscript a b pos) (S8 r ta tb):=by
 intro pins s σ H Q I h;exact Subscript_ (R8 ha hb I h λv u s2 x y H2 I2 rx ry q=>hr a b pins s2 σ H2 x y v u Q I2 rx ry q (hs _ _))
def T4(K:W.Frag):R2:=λx y H Q=>∃p xs i v,x=.ref p/\y=.int i/\iW K H p xs/\tY xs i=some v/\Q v H
def SK(K:W.Frag):R2:=λx y H Q=>∃p xs i v,x=.ref p/\y=.int i/\lG K H p xs/\tY xs i=some v/\Q v H
def SQ:R2:=λx y H Q=>∃z i c,x=.str z/\y=.int i/\z.length<=sizeLine/\tY z.cps.toList i=some c/\Q (.str ⟨#[c]⟩) H
def N7:M3 X (T4 X.K):=by
 intro value slice pins s σ H x y v u Q I rx ry h hs;let⟨p,xs,i,z,rfl,rfl,hq,he,q⟩:=h;cases rx;let⟨t,rfl⟩:=ry;let⟨its,r,pl,hz⟩:=I.list hq;let⟨j,h1,h2,h3,h4,h5⟩:=Ad he;let⟨w,ew,rw'⟩:=r.get h2;have hl:=r.length;have hn:=uq;have fin:EP X pins σ Q w s:=⟨z,H,I,rw',q⟩
 by_cases h0:0<=i
 ·have hj:i.toNat=j:=by
   rw[seqIndex_of h0 h5] at h1;exact xE h1
  exact item_listR pl.isList h0 (by lia) (by rw[hj];simpa using ew) fin hs
 ·have hj:(i+(its.toArray.size:Int)).toNat=j:=by
   rw[seqIndex_neg (by lia) h4] at h1;rw[zH,<- hl];exact xE h1
  exact subscriptTail_builtinR (x:=w) pl.isList.typeIs slot_list_getitem.lookup
   (wpAny_getItem_list_neg (Q:=λr s'=>r=w/\EP X pins σ Q r s') pl.isList (by lia) (by rw[zH]<;>lia) (by lia) (by rw[hj];simpa using ew) ⟨rfl,fin⟩) hs
def uD:M3 X (SK X.K):=by
 intro value slice pins s σ H x y v u Q I rx ry h hs;let⟨p,xs,i,z,rfl,rfl,hq,he,q⟩:=h;cases rx;let⟨t,rfl⟩:=ry;let⟨its,r,pl,hz⟩:=I.tuple hq;let⟨j,h1,h2,h3,h4,h5⟩:=Ad he;let⟨w,ew,rw'⟩:=r.get h2;have hl:=r.length;have hn:=uq;have fin:EP X pins σ Q w s:=⟨z,H,I,rw',q⟩
 exact subscriptTail_builtinR (x:=w) pl.typeIs slot_tuple_getitem.lookup
  (getItem_tuple (j:=j) (Q:=λr s'=>r=w/\EP X pins σ Q r s') pl (by lia) (by lia) (by rw[zH,<- hl];exact h1) (by simpa using ew) ⟨rfl,fin⟩) hs
def Rn:M3 X SQ:=by
 intro value slice pins s σ H x y v u Q I rx ry h hs;let⟨z,i,c,rfl,rfl,hz,he,q⟩:=h;let⟨t,rfl⟩:=rx;let⟨t',rfl⟩:=ry;let⟨j,h1,h2,h3,h4,h5⟩:=Ad he;have hl:z.cps.toList.length=z.length:=by simp[Str.length]
 rw[hl] at h1 h4 h5;have hn:=uq;exact tail_any (typeIs_str s z t) slot_str_getitem.lookup (getItem_str (c:=c) (by
  have e1:decide (i < -(2 ^ 63:Int))=false:=zZ (by lia);have e2:decide (i >= 2 ^ 63)=false:=zZ (by lia);rw[e1,e2,Bool.or_false]) (by rw[h1];simpa using h2) ⟨.str ⟨#[c]⟩,H,I.tok _,⟨_,rfl⟩,q⟩) hs
def Wn(K:W.Frag):R2:=λx y H Q=>T4 K x y H Q\/SK K x y H Q\/SQ x y H Q
def RZ:M3 X (Wn X.K):=N7.or (uD.or Rn)
def Eg(its:List Value)(n j:Nat)(u:Value):Obj.mapSeq (·.setIfInBounds j u) { cls:=.type "list",data:=.seq its.toArray n }={ cls:=.type "list",data:=.seq (its.set j u).toArray n }:=by
 simp[Obj.mapSeq]
def Inv.lst(I:Inv X pins σ H s)(h:H p=some (.lst xs)) :
  ∃ (its:List Value) (n:Nat),aS xs its/\s.heap.get? p=some { cls:=.type "list",data:=.seq its.toArray n }/\xs.length<=sizeLine:=by
 let⟨z,its,n,r,e⟩:=I.Xi p _ h;exact⟨its,n,r,e,z⟩
def Inv.adp{ys:List V}{its its':List Value}{n n':Nat}{f:Obj->Obj}(I:Inv X pins σ H s)(h:H p=some (.lst xs))
  (ho:s.heap.get? p=some { cls:=.type "list",data:=.seq its.toArray n }) (hf:f { cls:=.type "list",data:=.seq its.toArray n }={ cls:=.type "list",data:=.seq its'.toArray n' }) (r:aS ys its') (hz:ys.length<=sizeLine) (t:Nat) :
  Inv X pins σ (upd H p (.lst ys)) { s with heap:=s.heap.update p f,toks:=t }:=by
 have e:(s.heap.update p f).get? p=some { cls:=.type "list",data:=.seq its'.toArray n' }:=by
  rw[Heap.get?_update_self f ho (by rw[hf]<;>rfl),hf]
 refine I.write (x:=p) (e:=p) (by rw[h];trivial) (.inl rfl) (λb u hb q=>(xO _ _ (jO hb)).trans q) ⟨_,e⟩ ?_;exact⟨hz,its',n',r,e⟩
def SY:V->V->V->Hp->(Hp->Prop)->Prop:=λo i v H Q=>∃p xs k j,o=.ref p/\i=.int k/\H p=some (.lst xs)/\Ig xs.length k=some j/\Q (upd H p (.lst (xs.set j v)))
def set_list:Ud X SY:=by
 intro pins s σ H o i v ov iv u Q I ro ri rv h;let⟨p,xs,k,j,rfl,rfl,hp,hj,q⟩:=h;cases ro;let⟨t,rfl⟩:=ri;let⟨its,n,r,ho,hz⟩:=I.lst hp;let⟨h1,h2,h3,h4⟩:=F9 hj;have hl:=r.length;have hn:=uq;have I':Inv X pins σ (upd H p (.lst (xs.set j v))) { s with heap:=s.heap.update p (Obj.mapSeq (·.setIfInBounds j u)) } :=
  I.adp hp ho (Eg its n j u) (r.set rv j) (by rw[yC];exact hz) s.toks
 by_cases h0:0<=k
 ·have hk:k.toNat=j:=by
   rw[seqIndex_of h0 h4] at h1;exact xE h1
  exact W.ki_setAt ho h0 (by lia) (by rw[zH,<- hl];exact h4) (by rw[hk];exact⟨_,I',q⟩)
 ·have hk:(k+(its.toArray.size:Int)).toNat=j:=by
   rw[seqIndex_neg (by lia) h3] at h1;rw[zH,<- hl];exact xE h1
  exact W.ki_setBack ho (by lia) (by rw[zH,<- hl];exact h3) (by lia) (by rw[hk];exact⟨_,I',q⟩)
def As:gD X (.builtin "len") (λxs H Q=>∃p ys,xs=[.ref p]/\(iW X.K H p ys\/lG X.K H p ys)/\Q (.int ys.length) H):=by
 intro pins s σ H xs us Q I r h;let⟨p,ys,rfl,hq,q⟩:=h;let⟨u,rfl,rx⟩:=vals1 r;cases rx;have hn:=uq;rcases hq with hq|hq
 ·let⟨its,r',pl,hz⟩:=I.list hq;have hlen:=r'.length;exact Calls.call_len_list pl.isList (by simp?[zH]<;>lia) ⟨.int ys.length,H,I.tok _,⟨s.toks+1,by rw[zH,hlen]⟩,q⟩
 ·let⟨its,r',pl,hz⟩:=I.tuple hq;have hlen:=r'.length;exact len_tuple pl (by simp?[zH]<;>lia) ⟨.int ys.length,H,I.tok _,⟨s.toks+1,by rw[zH,hlen]⟩,q⟩
def xc:gD X (.type "tuple") (λxs H Q=>∃p ys,xs=[.ref p]/\((iW X.K H p ys/\∀l,H l=none->Q (.ref l) (upd H l (.tup ys)))\/(lG X.K H p ys/\Q (.ref p) H))):=by
 intro pins s σ H xs us Q I r h;let⟨p,ys,rfl,h⟩:=h;let⟨u,rfl,rx⟩:=vals1 r;cases rx;rcases h with ⟨hq,q⟩|⟨hq,q⟩
 ·let⟨its,r',pl,hz⟩:=I.list hq;have hlen:=r'.length;refine call_tuple_list pl.isList (λh' kp=>?_) (by simp?[zH]<;>lia);have I1:Inv X pins σ H { s with heap:=h' }:=I.kept (t':=s.toks) kp;have I2:Inv X pins σ (upd H h'.objs.size (.tup ys)) { s with heap:=h'.push { cls:=.type "tuple",data:=.seq its.toArray } } :=
   I1.laid (t':=s.toks) (λb o e=>zU _ e) (yN _) (show f9 X.prog X.w _ _ _ (.tup ys) from ⟨hz,its,r',tI.new _ _⟩)
  exact⟨.ref h'.objs.size,_,I2,rfl,q _ (I1.Xi.fresh (yN _))⟩
 ·let⟨its,r',pl,hz⟩:=I.tuple hq;exact call_tuple_same pl ⟨.ref p,H,I,rfl,q⟩
def Wr(K:W.Frag)(T:String)(x:V)(H:Hp):Prop:=match x with
 | .str _=>T="str"
 | .int _=>T="int"
 | .ref p=>(T="list"/\∃xs,iW K H p xs)\/(T="tuple"/\∃xs,lG K H p xs) \/
   (T="dict"/\((∃X0,H p=some (.dK X0))\/∃X0,H p=some (.dT X0)))\/(T="set"/\∃S n,H p=some (.set S n))
 | _=>False
def QV(I:Inv X pins σ H s)(r:RelV x v)(ty:Wr X.K T x H) :
  s.TypeIs v T/\∀a,v=.ref a->∃ob,s.heap.get? a=some ob/\ob.dict=none:=by
 cases x with
 | str z =>
  let⟨t,rfl⟩:=r;cases (show T="str" from ty);exact⟨typeIs_str s z t,λ_ e=>nomatch e⟩
 | int i =>
  let⟨t,rfl⟩:=r;cases (show T="int" from ty);exact⟨wZ s i t,λ_ e=>nomatch e⟩
 | ref p =>
  cases r;rcases ty with ⟨rfl,xs,hq⟩|⟨rfl,xs,hq⟩|⟨rfl,hk⟩|⟨rfl,S,n,hk⟩
  ·let⟨its,_,pl,_⟩:=I.list hq;refine⟨pl.isList.typeIs,λa e=>?_⟩;cases e;let⟨o,n,e,c,hd,_⟩:=pl;exact⟨o,e,hd⟩
  ·rcases hq with hq|⟨o,its,n,hk,hc,hd,_⟩
   ·let⟨_,_,_,⟨o,e1,e2,_⟩,o2,e3,e4⟩:=hq.ok I.Xi;exact⟨⟨o,e1,e2⟩,λa e=>by cases e;exact⟨o2,e3,e4⟩⟩
   ·exact⟨⟨o,I.YV p o hk,hc⟩,λa e=>by cases e;exact⟨o,I.YV _ o hk,hd⟩⟩
  ·have z:∃o,s.heap.get? p=some o/\o.ExactDict:=by
    rcases hk with ⟨X0,hk⟩|⟨X0,hk⟩
    ·let⟨_,_,_,_,o,_,_,e,ex,_⟩:=I.Xi p _ hk;exact⟨o,e,ex⟩
    ·let⟨_,_,_,_,o,_,_,e,ex,_⟩:=I.Xi p _ hk;exact⟨o,e,ex⟩
   let⟨o,e,ex⟩:=z;refine⟨⟨o,e,ex.1⟩,λa e2=>?_⟩;cases e2;exact⟨o,e,ex.2.1⟩
  ·let⟨o,_,_,_,e,ex,_⟩:=I.Xi p _ hk;refine⟨⟨o,e,ex.1⟩,λa e2=>?_⟩;cases e2;exact⟨o,e,ex.2.1⟩
 | _=>exact False.elim ty
def WH(K:W.Frag)(T:String)(r:V->List V->Hp->VK->Prop)(to:TE)(t:TA):TE:=λσ H Q=>to σ H λx H1=>Wr K T x H1/\t σ H1 λxs H2=>r x xs H2 Q
variable {T id:String}
def uR(pa:PlainAttrs T)(slot:Slot T name id)(hty:typeOf (.builtin id)=pure (.type "method_descriptor"))(hm:Ws X id r)(ho:PE X o to)(ha:PA X (e::es) t)
  (YK:attributeBase o name X.env (eval o X.env)=eval o X.env:=by rfl)
  (Yi:((backTo cpos (starEach (e::es) X.env)).all (λx=>!x.1)&&(backToKw cpos (keywordEach [] X.env)).all (λx=>x.1.isSome)
   &&decide ((e::es).length+([]:List Keyword).length+(if ([]:List Keyword).isEmpty then 0 else 1) < 30))=true:=by rfl)
  (Xv:(apos.endLine == cpos.line)=true:=by rfl) (hs:starEach (e::es) X.env=(false,eval e X.env)::starEach es X.env:=by rfl) (adq:(backTo cpos (starEach es X.env)).any (·.1)=false:=by rfl) :
  PE X (.Call (.Attribute o name apos) (e::es) [] cpos) (WH X.K T r to t):=by
 intro pins s σ H Q I h;refine wpAny_Call_method_late YK Yi Xv rfl (cN (ho pins s σ H _ I h) λv s1 ⟨x,H1,I1,r1,ty,q1⟩=>?_);let⟨h1,h2⟩:=QV I1 r1 ty;refine⟨T,id,pa,slot,hty,h1,h2,?_⟩;have hA:=ha cpos pins s1 σ H1 _ I1 q1;rw[hs] at hA ⊢;refine Calls.callWith_builtin (by show (false||(backTo cpos (starEach es X.env)).any (·.1))=false;rw[adq]<;>rfl) (Calls.evalArgs_plain ?_);exact cN hA λus s2 ⟨vs,H2,I2,r2,q2⟩=>hm pins s2 σ H2 x vs v us Q I2 r1 r2 q2
/- xs.append(e),list.index on a aev tuple .. are Ws facts of 06m -/
end
def Ss(X:Cx)(id:String)(r:V->List V->Hp->VK->Prop):Prop :=
 ∀ (pins:List (Addr×Obj)) (s:Shared) (σ:St) (H:Hp) (x:V) (xs:List V) (v:Value) (us:List Value) (Q:VK),Inv X pins σ H s->RelV x v->aS xs us->r x xs H Q ->
  wpAny (model X.prog X.w) X.A (call (.builtin id) (v::us)) (EP X pins σ Q) X.xe s
def aS.one:∀ {x:V}{us:List Value},aS [x] us->∃u,us=[u]/\RelV x u
 | _,_,.cons r .nil=>⟨_,rfl,r⟩
def aS.two:∀ {x y:V}{us:List Value},aS [x,y] us->∃u v,us=[u,v]/\RelV x u/\RelV y v
 | _,_,_,.cons r (.cons q .nil)=>⟨_,_,rfl,r,q⟩
def aS.reverse(h:aS xs us):aS xs.reverse us.reverse:=by
 induction h with
 | nil=>exact .nil
 | cons r t ih=>rw[vJ,vJ];exact aS.append ih (.cons r .nil)
def aS.rep(h:aS xs us):∀k:Nat,aS (List.replicate k xs).flatten (List.replicate k us).flatten
 | 0=>.nil
 | k+1=>by
  rw[xF,xF,qN,qN];exact aS.append h (aS.rep h k)
def foldl_rep(its:List Value):∀ (k:Nat) (acc:List Value),
  List.foldl (λx1 x2=>x1++x2) acc.toArray (List.replicate k its.toArray)=(acc++(List.replicate k its).flatten).toArray
 | 0,acc=>by simp
 | k+1,acc=>by
  have e:acc.toArray++its.toArray=(acc++its).toArray:=by simp
  have e2:(acc++its)++(List.replicate k its).flatten=acc++(List.replicate (k+1) its).flatten:=by
   rw[xF,qN,List.append_assoc]
  rw[<- e2,<- foldl_rep its k (acc++its),<- e,xF,yJ]
section
variable {xs ys zs:List V}
def Inv.ads{its its':List Value}{n:Nat}{f:Array Value->Array Value}{t':Nat}(I:Inv X pins σ H s)(hH:H l=some (.lst xs))
  (e:s.heap.get? l=some { cls:=.type "list",data:=.seq its.toArray n }) (hf:f its.toArray=its'.toArray) (hv:aS ys its') (hz:ys.length<=sizeLine) :
  Inv X pins σ (upd H l (.lst ys)) { s with heap:=s.heap.update l (Obj.mapSeq f),toks:=t' }:=by
 have q:=PySem.IsL.update e f;rw[hf] at q;refine I.write (x:=l) (e:=l) (by rw[hH];exact trivial) (.inl rfl) (λb' u hb hu=>(xO s.heap (Obj.mapSeq f) (jO hb)).trans hu) ⟨_,q⟩ ?_;exact⟨hz,its',_,hv,q⟩
def Inv.abk{t':Nat}(I:Inv X pins σ H s)(hv:aS ys its)(hz:ys.length<=sizeLine) :
  Inv X pins σ (upd H s.heap.objs.size (.lst ys)) { s with heap:=s.heap.push { cls:=.type "list",data:=.seq its.toArray },toks:=t' } :=
 I.laid (λ_ _ q=>zU _ q) (yN _) ⟨hz,its,0,hv,zX _ rfl⟩
def Inv.fresh(I:Inv X pins σ H s):H s.heap.objs.size=none:=I.Xi.fresh (yN _)
def Inv.aaB(I:Inv X pins σ H s)(hH:H l=some (.lst xs)):xs.length<=sizeLine/\∃ (its:List Value) (n:Nat),aS xs its/\xs.length=its.length/\s.heap.get? l=some { cls:=.type "list",data:=.seq its.toArray n }:=by
 let⟨z,its,n,r,e⟩:=I.Xi l _ hH;exact⟨z,its,n,r,r.length,e⟩
def Dd(h:n<=sizeLine):Builtin.List.listTooLong n=false:=by
 unfold Builtin.List.listTooLong;exact zZ (by lia)
end
def On:V->List V->Hp->VK->Prop:=λx vs H Q=>∃l xs y,x=.ref l/\vs=[y]/\H l=some (.lst xs)/\xs.length < sizeLine/\Q .Xe (upd H l (.lst (xs++[y])))
def yu:Ss X "list.append" On:=by
 intro pins s σ H x vs v us Q I rx rv h;let⟨l,xs,y,rfl,rfl,hH,hz,q⟩:=h;cases rx;let⟨u,rfl,ru⟩:=rv.one;let⟨z,its,n,r,hl,e⟩:=I.aaB hH;refine qY F.slot_list_append ⟨_,e,rfl⟩ F.entry_list_append (F.args_list_append_2 _ _) (PySem.list_append l its.toArray n u (by rw[zH];lia)) ⟨e,?_⟩;refine⟨.Xe,_,I.ads (its':=its++[u]) hH e (by simp) (r.append (.cons ru .nil)) ?_,rfl,q⟩;rw[zN,xD];lia
def Po:V->List V->Hp->VK->Prop:=λx vs H Q=>∃l b xs zs,x=.ref l/\vs=[.ref b]/\H l=some (.lst xs)/\H b=some (.lst zs)/\xs.length+zs.length<=sizeLine/\Q .Xe (upd H l (.lst (xs++zs)))
def HX:Ss X "list.extend" Po:=by
 intro pins s σ H x vs v us Q I rx rv h;let⟨l,b,xs,zs,rfl,rfl,hH,hB,hz,q⟩:=h;cases rx;let⟨u,rfl,ru⟩:=rv.one;cases ru;let⟨z,its,n,r,hl,e⟩:=I.aaB hH;let⟨z2,Yd,n2,r2,hl2,e2⟩:=I.aaB hB;have ZR:its.toArray.size+Yd.toArray.size<=sizeLine:=by rw[zH,zH];lia
 have aaC:¬ (!its.toArray.isEmpty&&Builtin.List.listTooLong (its.toArray.size+Yd.toArray.size))=true:=by
  rw[Dd ZR,vF];exact xA
 refine qY F.slot_list_extend ⟨_,e,rfl⟩ F.entry_list_extend (F.args_list_extend_2 _ _)
  (AutoSeq1.list_extend_list_list_0 l its.toArray n b Yd.toArray n2 aaC (by rw[zH];lia) (by lia)) ⟨e,e2,?_⟩
 refine⟨.Xe,_,I.ads (its':=its++Yd) hH e (by simp) (r.append r2) ?_,rfl,q⟩;rw[zN];lia
def Vf:R2:=λx y H Q=>∃l k xs,x=.ref l/\y=.int k/\H l=some (.lst xs)/\-(2 ^ 63)<=k/\k < 2 ^ 63/\xs.length * k.toNat<=sizeLine /\
 ∀p,H p=none->Q (.ref p) (upd H p (.lst (List.replicate k.toNat xs).flatten))
def len_rep(xs:List α)(k:Nat):(List.replicate k xs).flatten.length=k * xs.length:=by
 induction k with
 | zero=>simp
 | succ k ih=>rw[xF,qN,zN,ih,Nat.succ_mul,Nat.add_comm]
def QL:jz X (binaryOp .Mult) Vf:=by
 intro pins s σ H x y v u Q I rx ry h;let⟨l,k,xs,rfl,rfl,hH,h1,h2,hz,q⟩:=h;cases rx;let⟨t,rfl⟩:=ry;let⟨z,its,n,r,hl,e⟩:=I.aaB hH;have hlen:its.toArray.size * k.toNat<=sizeLine:=by rw[zH,<- hl];exact hz
 have aaD:¬ its.toArray.size * k.toNat > (2 ^ 63 - 1) / 8:=by
  have:(sizeLine:Nat)<=(2 ^ 63 - 1) / 8:=by decide
  lia
 have Zv:¬ (!Builtin.List.listFitsIndex k)=true:=by
  rw[fitsIndex_both h1 h2];exact xA
 have aaC:¬ Builtin.List.listTooLong (its.toArray.size * k.toNat)=true:=by
  rw[Dd hlen];exact xA
 have ajq:List.foldl (λx1 x2=>x1++x2) #[] (List.replicate (if its.toArray.isEmpty=true then 0 else k.toNat) its.toArray)=(List.replicate k.toNat its).flatten.toArray:=by
  have f0:∀m:Nat,List.foldl (λx1 x2=>x1++x2) #[] (List.replicate m its.toArray)=(List.replicate m its).flatten.toArray:=λm=>by
   have:=foldl_rep its m [];rw[xP] at this;exact this
  rw[f0];cases its with
  | nil=>simp
  | cons a r'=>rw[yO (by simp)]
 refine wpAny_binaryOp_repeat_ref (T:="list") (U:="int") (by decide) ⟨_,e,rfl⟩ (λs'=>wZ s' k t) noFill_list_mul F.fills_int_mul wJ repeat_list F.slot_int_index.lookup
  (qY wJ (wZ s k t) F.entry_int_rmul (F.args_int_rmul_2 _ _) (int___rmul___int_list k t l its.toArray n)
   ⟨e,rfl,⟨_,e,rfl⟩,qY F.slot_list_mul ⟨_,e,rfl⟩ F.entry_list_mul (F.args_list_mul_2 _ _) (AutoListH.list___mul___list_int_3 l its.toArray n k t Zv aaD aaC) ⟨e,?_⟩⟩)
 rw[ajq];exact⟨.ref _,_,I.abk (t':=s.toks) (r.rep k.toNat) (by rw[len_rep,Nat.mul_comm];exact hz),rfl,q _ I.fresh⟩
end L2
namespace Att
open PySem PySem.W PySem.Calls PyProof.Rows
variable {n:Nat}
def Yj:∀ (ns:List Int) (vs:List Value),WellAll P h vs (ns.map WData.int)->IntsAre vs ns:=by
 intro ns
 induction ns with
 | nil =>
  intro vs w;rw[yV] at w;cases w;exact .nil
 | cons n ns ih =>
  intro vs w;rw[zI] at w;cases w with
  | cons a b =>
   cases a;exact .cons _ _ (ih _ b)
def Z9{l:OpenLaw}(hn:l.most=some n){P:Params}{h:Heap}{args:List WData}{vals:List Value}
  (abl:l.row.toRowW.claim.pre args=true) (hwl:WellAll P h vals args) :
  ∃a vs ns,vals=[Value.ref a]/\args=[WData.list (ns.map WData.int)]/\h.get? a=some { cls:=.type "list",data:=.seq vs.toArray }/\IntsAre vs ns/\ns.length<=n:=by
 have hsh:WShape.hasAll [] args [.list .int]=true:=(pre_splitW abl).1;have hc:l.pre.holds [] { args:=args }=true:=(pre_splitW abl).2;let⟨d,r,rfl,h1,h2⟩:=hasAllW_cons hsh;obtain rfl:=hasAllW_nil h2;let⟨xs,rfl,h3⟩:=hasW_list h1;let⟨ns,rfl⟩:=items_int h3;have hlen:ns.length<=n:=by
  unfold OpenLaw.pre at hc;have h4:(WTm.not (.lt (.lit (.int (n:Int))) (.len (.arg 0)))).holds [] { args:=[.list (ns.map .int)] }=true:=by
   have h4:=(holds_andW hc).1;rw[hn] at h4;exact h4
  have h5:=condW_of h4 (w_not (w_lt w_lit (w_len_list (w_arg rfl))));rw[zD] at h5;refine Nat.le_of_not_lt λq=>?_;have q':(n:Int) < ((ns.length:Nat):Int):=by lia
  first
   | (rw[yA q'] at h5;exact absurd h5 (by decide))
   | (simp at h5;lia)
 cases hwl with
 | cons w1 w2 =>
  cases w2;cases w1 with
  | list ho Ye=>exact⟨_,_,ns,rfl,rfl,ho,Yj ns _ Ye,hlen⟩
def aaa(l:OpenLaw)(args:List WData):l.row.toRowW.claim.post args (.bool true) args=true :=
 postW_of (r:=l.row.toRowW) (X:=(true == true))
  (show WShape.has [] (.bool true) .bool=true by first|rfl|decide|simp[WShape.has,WShape.arms,WShape.armsAll])
  (show (WTm.eq .res (.lit (.bool true))).value [] { args:=args,res:=some (.bool true),after:=args }=some (.bool (true == true)) from w_eq_bool (w_res rfl) w_lit) rfl
def Y1{l:OpenLaw}{q:Program}{loose:List Str}{XP:(Str->Option Value)->Heap->Prop}{YP:World->Heap->Prop}{d:DefRec}
  (hn:l.most=some n) (hdf:d.params.defaults=[])
  (call:∀ (w:World) (Xn Xl:Shared) (mg mb:Str->Option Value) (fa:Addr) (o:Obj) (pm cd doc:Value) (a:Addr) (vs:List Value) (ns:List Int),
   Ground q loose [] XP w Xn mg mb Xl.heap->YP w Xl.heap ->
   Xl.heap.get? fa=some o->o.data=.func (docDef d.name d.params d.body d.scope pm cd doc)->Xl.heap.CodeRec cd d.name->mg d.name=some (.ref fa) ->
   Xl.heap.get? a=some { cls:=.type "list",data:=.seq vs.toArray }->IntsAre vs ns->ns.length<=n->Xl.gens=#[] ->
   codeAny (model l.prog w) callerA (.call (.ref fa) ⟨[.ref a],[]⟩) (λr s'=>r=.ok (.ret (.bool true))/\OldK Xl.heap s'.heap/\s'.os=Xl.os/\AllBare s'.gens) Xl) :
  WalkO q loose XP YP l.row.toRowW d [] (λf vs=>PySem.call f vs):=by
 intro w Xn Xl mg mb G Y fa o pm cd doc dV kV ho hd XM hD hmg hg args vals as abl amf hrd hwl hlo;obtain rfl:dV=.none:=Dflts.none hD hdf;obtain rfl:kV=.none:=Dflts.noKw hD;let⟨a,vs,ns,rfl,rfl,adt,hints,hlen⟩:=Z9 hn abl hwl;refine enter_call (jT (call w Xn Xl mg mb fa o pm cd doc a vs ns G Y ho (fd_plain hd) XM hmg adt hints hlen hg) λr s' hq=>?_);let⟨rfl,h2,h3,h4⟩:=hq;exact⟨.inl ⟨.bool true,.bool true,[],rfl,λ_=>rfl,.bool true,aaa l _,λ_=>⟨List.Pairwise.nil,λ_ hm=>(nomatch hm)⟩⟩,h2,h3,h4⟩
section
variable {K:Frag}
end
end Att
namespace L2
open PySem PySem.Spec PyProof.Rows
variable {B:Prop}
def xo:∀ {vs:List Value}{ns:List Int},IntsAre vs ns->aS (ns.map V.int) vs
 | _,_,.nil=>.nil
 | _,_,.cons n t h=>.cons ⟨t,rfl⟩ (xo h)
abbrev MX:Nc:=λ_ _ _ _ _ _=>False
abbrev E0:XK:=λ_ _ _=>False
def PR:fI MX X E0:=λ_ _ _ _ _ _ _ h=>h.elim
structure Kx(K:W.Frag)(x qual:Str)(st:Stmt)(f:Addr)(fd:FuncData):Prop where
 ex:∃ (oc:Value) (od:Option Addr) (kV doc pm:Value) (an:Option Addr) (Xy ct:Value) (Zu:Array (Option Value)),
  fd=W.fnOf x qual (gQ st) (bF st) (ao st) .none kV doc pm an Xy ct/\K.lookup f=some ⟨oc,od,.func fd,Zu⟩/\W.codeIn K Xy qual=true
 kp:W.keepIn K (.ref f)=true
section
variable {K:W.Frag}
def Kx.binds{st:Stmt}(F:Kx K x qual st f fd)
  (h:∀ (kV doc pm:Value) (an:Option Addr) (Xy ct:Value) (us:List Value),us.length=ps.length->bindArgs (W.fnOf x qual (gQ st) (bF st) (ao st) .none kV doc pm an Xy ct) ⟨us,[]⟩=pure (ps.zip us)):Binds K fd ps []:=by
 let⟨oc,od,kV,doc,pm,an,Xy,ct,Zu,rfl,lk,XM⟩:=F.ex;exact .all (h kV doc pm an Xy ct)
def A8{st:Stmt}{kV:Value}(l:K.lookup f=some ⟨oc,od,.func (W.fnOf x qual (gQ st) (bF st) (ao st) .none kV doc pm an Xy ct),Zu⟩)
  (c:W.codeIn K Xy qual=true) (k:W.keepIn K (.ref f)=true):Kx K x qual st f (W.fnOf x qual (gQ st) (bF st) (ao st) .none kV doc pm an Xy ct):=⟨⟨oc,od,kV,doc,pm,an,Xy,ct,Zu,rfl,l,c⟩,k⟩
end
def pv(i:Nat){pos:Pos}(hN:X.N[i]?=some x:=by rfl)(hv:MT X.env.scope x:=by first|exact Or.inl rfl|exact Or.inr (Or.inl rfl)|exact Or.inr (Or.inr rfl))(hd:(x == ("__debug__":Str))=false:=by decide)
  (XM:(x == ("__classdict__":Str))=false:=by decide):PE X (.Name x pos) (Uk i):=kg hN hv hd XM
def sf{A B:Prop}(h:B):if false=true then A else B:=by
 rw[yO xA];exact h
def wo{A B:Prop}(h:A):if true=true then A else B:=by
 rw[yM rfl];exact h
def aY(H H':Hp):Prop:=∀b o,H b=some o->H' b=some o
def aY.refl(H:Hp):aY H H:=λ_ _ h=>h
def aY.trans(a:aY H H1)(b:aY H1 H2):aY H H2:=λc o h=>b c o (a c o h)
def aY.free(e:aY H H')(h:H' l=Option.none):H l=Option.none:=by
 cases q:H l with
 | none=>rfl
 | some o =>
  rw[e l o q] at h;cases h
def aY.seq{K:W.Frag}(e:aY H H')(h:iW K H a xs):iW K H' a xs:=by
 rcases h with (h|⟨o,h⟩)|h
 ·exact .inl (.inl (e _ _ h))
 ·exact .inl (.inr ⟨o,e _ _ h⟩)
 ·exact .inr h
def cD:∀ (names:List (Str×NameKind)) (n:Nat) (acc:List (Str×Addr)),cellsFrom n names acc=cellsFrom n names []++acc
 | [],_,_=>rfl
 | (name,kind)::r,n,acc=>by
  unfold cellsFrom;split
  ·rw[cD r (n+1) ((name,n)::acc),cD r (n+1) [(name,n)]];simp
  ·exact cD r n acc
def lD:∀ {l m:List (Str×α)},(l++m).lookup x=some c->l.lookup x=some c\/(l.lookup x=none/\m.lookup x=some c)
 | [],_,h=>.inr ⟨rfl,h⟩
 | (k,v)::r,m,h=>by
  have ih:=@lD α x c r m;rw[xG,yB] at h;rw[yB];cases e:x == k with
  | true=>rw[e] at h;exact .inl h
  | false=>rw[e] at h;exact ih h
def lE:∀ {l m:List (Str×α)},l.lookup x=some c->(l++m).lookup x=some c
 | [],_,h=>by cases h
 | (k,v)::r,m,h=>by
  have ih:=@lE α x c r m;rw[yB] at h;rw[xG,yB];cases e:x == k with
  | true=>rw[e] at h;exact h
  | false=>rw[e] at h;exact ih h
def jm:∀ {l m:List (Str×α)},l.lookup x=none->(l++m).lookup x=m.lookup x
 | [],_,_=>rfl
 | (k,v)::r,m,h=>by
  have ih:=@jm α x r m;rw[yB] at h;rw[xG,yB];cases e:x == k with
  | true=>rw[e] at h;cases h
  | false=>rw[e] at h;exact ih h
def ir:∀ (names:List (Str×NameKind)) (n:Nat) (x:Str) (c:Addr),(x,c)∈cellsFrom n names []->(x,NameKind.cell)∈names
 | [],_,_,_,h=>by cases h
 | (name,kind)::r,n,x,c,h=>by
  unfold cellsFrom at h;split at h
  ·rename_i hk;rw[cD] at h;rcases List.mem_append.mp h with h|h
   ·exact zC _ (ir r _ x c h)
   ·have:(x,c)=(name,n):=by simpa using h
    cases this;have:kind=.cell:=by simpa using hk
    subst this;exact zE
  ·exact zC _ (ir r n x c h)
def gm(env:Env):List (Str×NameKind)->List (Str×Addr)->List (Str×Addr)
 | [],acc=>acc
 | (n,k)::r,acc=>if k == .free then gm env r ((n,(env.cells.lookup n).getD 0)::acc) else gm env r acc
def nE(env:Env):∀ (names:List (Str×NameKind)) (acc:List (Str×Addr)),(∀x∈names,x.2=.free->∃c,env.cells.lookup x.1=some c) ->
  (forIn names acc (λ(p:Str×NameKind) (cs:List (Str×Addr))=>(if p.2 == .free then (do let a <- cellOf env p.1;pure (.yield ((p.1,a)::cs))) else pure (.yield cs):Sem (ForInStep (List (Str×Addr))))))=pure (gm env names acc)
 | [],acc,_=>rfl
 | (n,k)::r,acc,h=>by
  rw[List.forIn_cons];have hr:=λx hx=>h x (zC _ hx);unfold gm;by_cases hk:k=.free
  ·let⟨c,hc⟩:=h (n,k) zE hk;subst hk;have e1:cellOf env n=pure c:=by
    have Ym:env.cells.lookup n=some c:=hc;unfold cellOf;rw[Ym]
   have Ym:env.cells.lookup n=some c:=hc;simp?[beq_self_eq_true,xI,e1,pure_bind,Ym,qH];exact nE env r _ hr
  ·have hb:(k == NameKind.free)=false:=by simpa using hk
   simp?[hb,yP,qQ,pure_bind];exact nE env r _ hr
def nV{env:Env}(h:∀x∈scope.names,x.2=.free->∃c,env.cells.lookup x.1=some c):closureFor scope env=pure (gm env scope.names []):=by
 have:=nE env scope.names [] h;unfold closureFor;exact (bind_pure _).trans this
def mw{env:Env}:∀ {names:List (Str×NameKind)}{acc:List (Str×Addr)},(∀x∈names,x.2=.free->∃c,env.cells.lookup x.1=some c)->(∀x c,(x,c)∈acc->env.cells.lookup x=some c) ->
  ∀x c,(x,c)∈gm env names acc->env.cells.lookup x=some c
 | [],acc,_,ha,x,c,hm=>ha x c hm
 | (n,k)::r,acc,h,ha,x,c,hm=>by
  unfold gm at hm;have hr:=λx hx=>h x (zC _ hx);split at hm
  ·rename_i hk;have Yo:k=.free:=by simpa using hk
   let⟨c',hc⟩:=h (n,k) zE Yo;have hc:env.cells.lookup n=some c':=hc;refine mw hr (λy d hy=>?_) x c hm;rcases List.mem_cons.mp hy with e|hy
   ·cases e;rw[hc];rfl
   ·exact ha y d hy
  ·exact mw hr ha x c hm
def gY{env:Env}:∀ {names:List (Str×NameKind)}{acc:List (Str×Addr)}{x:Str},(names.lookup x=some .free\/∃c,acc.lookup x=some c)->∃c,(gm env names acc).lookup x=some c
 | [],acc,x,h=>by
  rcases h with h|h
  ·cases h
  ·exact h
 | (n,k)::r,acc,x,h=>by
  unfold gm;split
  ·rename_i hk;refine gY ?_;rcases h with h|⟨c,h⟩
   ·rw[yB] at h;cases e:x == n with
    | true=>exact .inr ⟨_,by rw[yB,e]⟩
    | false=>rw[e] at h;exact .inl h
   ·refine .inr ?_;rw[yB];cases e:x == n with
    | true=>exact⟨_,rfl⟩
    | false=>exact⟨c,h⟩
  ·rename_i hk;refine gY ?_;rcases h with h|h
   ·rw[yB] at h;cases e:x == n with
    | true =>
     rw[e] at h;cases h;exact absurd rfl hk
    | false=>rw[e] at h;exact .inl h
   ·exact .inr h
def oO{env:Env}:∀ {names:List (Str×NameKind)}{x:Str}{k:NameKind},names.lookup x=some k ->
  (names.map λ(n,k)=>if (k == NameKind.free&&env.scope.kind == .function&&env.kindOf n == some .cell) then (n,NameKind.cell) else (n,k)).lookup x=some (if (k == NameKind.free&&env.scope.kind == .function&&env.kindOf x == some .cell) then NameKind.cell else k)
 | [],_,_,h=>by cases h
 | (n,k)::r,x,k',h=>by
  have ih:=@oO env r x k';rw[zI];dsimp only;cases hx:x == n with
  | true =>
   have e:x=n:=by simpa using hx
   subst e;rw[yB,hx] at h;cases h;split<;>simp[yB, *]
  | false =>
   rw[yB,hx] at h;have ih:=ih h;split
   ·rw[yB,hx];exact ih
   ·rw[yB,hx];exact ih
def rP{env:Env}:∀ {names:List (Str×NameKind)}{x:Str},names.lookup x=none ->
  (names.map λ(n,k)=>if (k == NameKind.free&&env.scope.kind == .function&&env.kindOf n == some .cell) then (n,NameKind.cell) else (n,k)).lookup x=none
 | [],_,h=>rfl
 | (n,k)::r,x,h=>by
  have ih:=@rP env r x;rw[zI];dsimp only;cases hx:x == n with
  | true=>rw[yB,hx] at h;cases h
  | false =>
   rw[yB,hx] at h;split
   ·rw[yB,hx];exact ih h
   ·rw[yB,hx];exact ih h
def gw(X:Cx)(scope:Scope)(C:Addr):Env :=
 { scope:=relabel scope X.env,locals:=C,globals:=X.env.globals,cells:=cellsFrom (C+1) scope.names (gm X.env scope.names []),qual:=X.env.qual,func:=none,code:=X.env.code,frame:=X.env.frame,builtins:=X.env.builtins }
def bq(X:Cx)(scope:Scope)(N:List Str)(fp:List Addr)(s:Shared)(H:Hp):Cx :=
 { X with N:=N,Xn:=s,Xg:=H,env:=gw X scope s.heap.objs.size,outer:=X.stack,ex:=fp,fn:=λx=>decide (scope.names.lookup x=some .cell),pn:=[],xe:=λ_ _=>False }
def EH{M:Model}{A:Around}{E:Value->Shared->Prop}{globals:Addr}{cl:List (Str×Addr)}{qual:Str}{env:Env}
  (hQ:∀h',h'.Ns s.heap.objs.size (λ_=>none)->(∀b o,s.heap.get? b=some o->h'.get? b=some o)->CellsOk h' (s.heap.objs.size+1) (cellsFrom (s.heap.objs.size+1) scope.names []) ->
   Q { scope:=scope,locals:=s.heap.objs.size,globals:=globals,cells:=cellsFrom (s.heap.objs.size+1) scope.names cl,qual:=qual,func:=none,code:=env.code,frame:=env.frame,builtins:=env.builtins } { s with heap:=h' }) :
  wpAny M A (newFunctionEnv scope globals cl [] qual none .none (some env)) Q E s:=by
 simp?[newFunctionEnv,Option.isSome_some,xI];refine zV (wpAny_alloc ?_);refine zV (wpAny_layCells _ (λname kind cells=>by cases hkc:kind == NameKind.cell<;>simp[hkc]) _ _ _ _ ?_);have ok:=cellsFrom_ok scope.names (s.heap.push { cls:=.type "dict",data:=.dict #[] }) (s.heap.objs.size+1) [] ⟨λ_ _ hm=>(nomatch hm),List.Pairwise.nil⟩ (by rw[xK];exact yN _);rw[xK] at ok;rw[show ({ s with heap:=s.heap.push { cls:=.type "dict",data:=.dict #[] } }:Shared).heap.objs.size=s.heap.objs.size+1 from xK ..];rw[List.forIn_nil];refine zV (zW (zW ?_));exact hQ _ ((Heap.Ns.new s.heap (.type "dict")).keeps (pushCells_keeps _ _)) (λb o e=>pushCells_keeps _ _ b o (zU _ e)) ok
section
variable {X:Cx}{pins:List (Addr×Obj)}{σ σ':St}{H:Hp}{s:Shared}{fp:List Addr}{scope:Scope}{N:List Str}{h4:Heap}
def mh(ok:X.Ok)(X7:∀x∈scope.names,x.2=.free->X.env.kindOf x.1=some .cell\/X.env.kindOf x.1=some .free):∀x∈scope.names,x.2=.free->∃c,X.env.cells.lookup x.1=some c :=
 λx hx hk=>ok.has x.1 (X7 x hx hk)
def qc(h:scope.names.lookup x=some k):(gw X scope C).kindOf x=some k\/(k=.free/\(gw X scope C).kindOf x=some .cell):=by
 have q:=oO (env:=X.env) h;have q':(gw X scope C).kindOf x=some (if (k == NameKind.free&&X.env.scope.kind == .function&&X.env.kindOf x == some .cell) then NameKind.cell else k):=q;rw[q'];split
 ·rename_i hc;have:k=.free:=by
   simp?[zF,vU] at hc;exact hc.1.1
  exact .inr ⟨this,rfl⟩
 ·exact .inl rfl
def m8(h:(gw X scope C).kindOf x=some k):scope.names.lookup x=some k\/(k=.cell/\scope.names.lookup x=some .free):=by
 cases e:scope.names.lookup x with
 | none =>
  have q:(gw X scope C).kindOf x=none:=rP (env:=X.env) e;rw[q] at h;cases h
 | some k' =>
  rcases qc (X:=X) (C:=C) e with q|⟨q,q'⟩
  ·rw[q] at h;cases h;exact .inl rfl
  ·rw[q'] at h;cases h;subst q;exact .inr ⟨rfl,rfl⟩
def JS(I:Inv X pins σ H s)(hf:∀b∈fp,dz X pins H b)(XO:∀b∈fp,b < s.heap.objs.size)(hk:scope.kind=.function)
  (X7:∀x∈scope.names,x.2=.free->X.env.kindOf x.1=some .cell\/X.env.kindOf x.1=some .free)
  (ZU:h4.Ns s.heap.objs.size (λ_=>none)) (X9:∀b o,s.heap.get? b=some o->h4.get? b=some o) (hco:CellsOk h4 (s.heap.objs.size+1) (cellsFrom (s.heap.objs.size+1) scope.names []))
  (adu:∀ {x:Str},(x,NameKind.cell)∈scope.names->(x,NameKind.free)∈scope.names->False) (aaD:∀ (i:Nat) (x:Str) (v:V),N[i]?=some x->σ'[i]?=some (some v)->scope.names.lookup x=some .free/\∃j:Nat,X.N[j]?=some x/\σ[j]?=some (some v)) (hlen:σ'.length=N.length) (t':Nat) :
  Inv (bq X scope N fp s H) [] σ' H { s with heap:=h4,toks:=t' }:=by
 have XJ:=mh I.ok X7;have clx:∀x c,(gm X.env scope.names []).lookup x=some c->X.env.cells.lookup x=some c:=λx c e=>mw XJ (λ_ _ z=>by cases z) x c (mem_of_lookup e);have look:∀x c,(gw X scope s.heap.objs.size).cells.lookup x=some c->(x,c)∈cellsFrom (s.heap.objs.size+1) scope.names []\/X.env.cells.lookup x=some c:=λx c e=>by
  have e:(cellsFrom (s.heap.objs.size+1) scope.names (gm X.env scope.names [])).lookup x=some c:=e;rw[cD] at e;rcases lD e with q|⟨_,q⟩
  ·exact .inl (mem_of_lookup q)
  ·exact .inr (clx x c q)
 have old:∀x c,X.env.cells.lookup x=some c->c < s.heap.objs.size:=λx c e=>let ⟨_,q⟩:=I.cell x c e;q.lt;have new:∀x c,(x,c)∈cellsFrom (s.heap.objs.size+1) scope.names []->s.heap.objs.size < c:=λx c e=>(hco.empty x c e).2;refine⟨⟨I.ok.mod,?_,I.ok.glob,I.ok.blt,yN _,?_,?_,?_,I.ok.hd,I.ok.frames,.inl rfl,?_,I.bs,yD I.ok.bsz I.sz,?_,?_,I.stack,I.X6⟩,rfl,I.bare,Un.kept X9,⟨_,ZU,?_⟩,?_,I.Xi.fresh (yN _),?_,
  λp hp=>absurd (show p∈([]:List (Addr×Obj)) from hp) (by simp),I.Xi.kept X9,hlen⟩
 ·show (relabel scope X.env).kind=_;exact hk
 ·intro x y c e1 e2;rcases look x c e1 with a|a<;>rcases look y c e2 with b|b
  ·exact name_of_addr hco.apart a b
  ·exact absurd (Zj (new x c a) (old y c b)) (qF _)
  ·exact absurd (Zj (new y c b) (old x c a)) (qF _)
  ·exact I.ok.inj x y c a b
 ·intro x hx;show ∃c,(cellsFrom (s.heap.objs.size+1) scope.names (gm X.env scope.names [])).lookup x=some c;refine Option.isSome_iff_exists.mp (W.cellsFrom_some _ _ _ ?_);rcases hx with hx|hx
  ·rcases m8 hx with q|⟨_,q⟩
   ·exact .inl q
   ·exact .inr (Option.isSome_iff_exists.mpr (gY (.inl q)))
  ·rcases m8 hx with q|⟨q,_⟩
   ·exact .inr (Option.isSome_iff_exists.mpr (gY (.inl q)))
   ·cases q
 ·intro x c hfn e;have hfn:scope.names.lookup x=some .cell:=yR hfn;have e:(cellsFrom (s.heap.objs.size+1) scope.names (gm X.env scope.names [])).lookup x=some c:=e;let⟨c',Ym⟩:=tT (n:=s.heap.objs.size+1) hfn;rw[cD,lE Ym] at e;cases e;exact jU (new x c (mem_of_lookup Ym))
 ·intro b hb;refine⟨yS (XO b hb),λx c e z=>?_⟩;rcases look x c e with a|a
  ·exact absurd (Zj (new x c a) (by rw[z];exact XO b hb)) (qF _)
  ·exact (hf b hb).2.2.2.2.1 x c a z
 ·intro b o e hb;let⟨f0,f1,f2,f3,f4,f5⟩:=hf b hb;rcases f3 with z|z
  ·exact I.ok.YY b o e z
  ·exact absurd (zP (zY (I.ok.bs b o e).1) z) (qF _)
 ·intro b hb hz;let⟨f0,f1,f2,f3,f4,f5⟩:=hf b hb;rcases List.mem_cons.mp (I.Zs b hz) with z|z
  ·exact f1 z
  ·exact f2 z
 ·intro i x v e1 e2 e3;let⟨ZV,j,hj,hv⟩:=aaD i x v e1 e2;have hm:(x,NameKind.free)∈scope.names:=mem_of_lookup ZV;let⟨m,hn,hl⟩:=I.loc;have kx:=X7 _ hm rfl;let⟨u,ru,lk⟩:=hl j x v hj hv (kx.elim (λk=>.inr (.inl k)) λk=>.inr (.inr k));refine⟨u,ru,.inr ⟨?_,?_⟩⟩
  ·rcases qc (X:=X) (C:=s.heap.objs.size) ZV with q|⟨_,q⟩
   ·exact .inr q
   ·exact .inl q
  ·rcases lk with ⟨k,_⟩|⟨_,c,ec,ic⟩
   ·have k:X.env.kindOf x=some .local:=k;rcases kx with k'|k'<;>· rw[k] at k';cases k'
   ·let⟨c',Ym⟩:=gY (env:=X.env) (acc:=[]) (.inl ZV);have e':=clx x c' Ym;rw[ec] at e';cases e';refine⟨c,?_,ic.keeps X9⟩;show (cellsFrom (s.heap.objs.size+1) scope.names (gm X.env scope.names [])).lookup x=some c;rw[cD];cases eo:(cellsFrom (s.heap.objs.size+1) scope.names []).lookup x with
    | none=>rw[jm eo];exact Ym
    | some d =>
     have hcm:=ir _ _ _ _ (mem_of_lookup eo);exact (adu hcm hm).elim
 ·intro x c e;rcases look x c e with a|a
  ·exact⟨_,(hco.empty x c a).1⟩
  ·let⟨v,q⟩:=I.cell x c a;exact⟨v,q.keeps X9⟩
 ·intro x c e;rcases look x c e with a|a
  ·exact I.Xi.fresh (jU (new x c a))
  ·exact I.Xo x c a
end
abbrev Cs(ifs:List Expr)(env:Env):Sem Bool:=forIn ifs true λc r=>if r=true then do let ok <- isTrue c env (eval c env);pure (ForInStep.yield ok) else pure (ForInStep.yield r)
def SG(X:Cx)(ifs:List Expr)(t:TT):Prop :=
 ∀ (pins:List (Addr×Obj)) (s:Shared) (σ:St) (H:Hp) (Q:Bool->Hp->Prop),Inv X pins σ H s->t σ H Q->wpAny (model X.prog X.w) X.A (Cs ifs X.env) (TP X pins σ Q) X.xe s
def N2:SG X [] (λ_ H Q=>Q true H):=λ_ _ _ H _ I h=>wpAny_tests_nil ⟨H,I,h⟩
def M9(h:PT X c t):SG X [c] t:=λpins s σ H Q I q=>wpAny_tests_one (h pins s σ H Q I q)
def Aq{R:Result->Shared->Prop}{elt target iter:Expr}{ifs:List Expr}{scope:Scope}{pos:Pos}{acc:Value}{env:Env}(I:Nat->Shared->Prop)
  (turn:∀n s,I n s->wpAny (model prog w) A (pyNext it) (λr Xl=>match r with
   | none=>R (.ok .next) Xl
   | some v=>wpAny (model prog w) A (letOwnedTupleGo target it v) (λ_ abJ=>wpAny (model prog w) A (assign target env v) (λ_ abg =>
     wpAny (model prog w) A (Cs ifs env) (λok aaF =>
      if ok=true then wpAny (model prog w) A (eval elt env) (λx abm =>
       wpAny (model prog w) A (call (.builtin "list.append") [acc,x]) (λ_ aey=>∃m,m < n/\I m aey) (λ_ _=>False) abm) (λ_ _=>False) aaF
      else ∃m,m < n/\I m aaF) (λ_ _=>False) abg) (λ_ _=>False) abJ) (λ_ _=>False) Xl) (λ_ _=>False) s)
  (n:Nat) (h:I n s) :
  codeAny (model prog w) A (.compLoop (.ListComp elt [⟨target,iter,ifs,0⟩] scope pos) 0 it acc env) R s:=by
 refine codeAny_loop rfl I (λn s hI=>?_) n h;show wpAny _ A ((compTurn (.ListComp elt [⟨target,iter,ifs,0⟩] scope pos) 0 it acc env).onRaise (λx=>do noteFrame x env;theTreesLotGoes x)) _ _ s;refine wpAny_noted ?_;rw[compTurn_list];refine zV (vM (zV (xB (turn n s hI) (λr Xl aez=>?_) λ_ _ h'=>h'.elim)));cases r with
 | none=>exact zW aez
 | some v =>
  refine zV (xB aez (λ_ abJ aeA=>?_) λ_ _ h'=>h'.elim);refine zV (xB aeA (λ_ abg ajs=>zV (xB ajs (λok aaF aeB=>?_) λ_ _ h'=>h'.elim)) λ_ _ h'=>h'.elim);cases ok with
  | false=>exact zW ⟨rfl,aeB⟩
  | true =>
   exact zV (zV (xB aeB (λx abm ajt=>zV (xB ajt (λ_ aey aju=>zW (zW ⟨rfl,aju⟩)) λ_ _ h'=>h'.elim)) λ_ _ h'=>h'.elim))
def Ha(X:Cx)(pins:List (Addr×Obj))(σ:St)(Q:VK)(acc:Value)(C:Addr)(r:Result)(s5:Shared):Prop :=
 ∃ (D:Addr) (H5:Hp) (m:Str->Option Value),acc=.ref D/\r=.ok .next/\Inv X pins σ H5 s5/\s5.heap.Ns C m/\dz X pins H5 C/\Q (.ref D) H5
def Jx(J:It)(g:TG)(tt:TT)(te:TE)(D:Addr)(σ0:St)(H0:Hp)(Q:VK):Prop :=
 ∃W:Nat->Nat->St->Hp->Prop,(∃m,W 0 m σ0 H0)/\∀i m σ H,W i m σ H ->
  (J.stop i H/\Q (.ref D) H)\/(J.go i H/\∀x H',J.yld i H x H'->g x σ H' λZP H2=>tt ZP H2 λb H3 =>
   if b=true then te ZP H3 λv H4=>∃ys,H4 D=some (.lst ys)/\ys.length < sizeLine/\∃m',m' < m/\W (i+1) m' ZP (upd H4 D (.lst (ys++[v])))
   else ∃m',m' < m/\W (i+1) m' ZP H3)
section
variable {X:Cx}{pins:List (Addr×Obj)}{σ σ':St}{H:Hp}{s:Shared}{scope:Scope}{N:List Str}
 {tg iter elt:Expr}{ifs:List Expr}{pos:Pos}{g:TG}{tt:TT}{te:TE}
def xv(hc:X.calm=true)(I:Inv X pins σ H s)(T:Turn X.prog X.w X.K tg J fp it tn)(st:tn 0 s.heap)(hf:∀b∈fp,dz X pins H b)(hk:scope.kind=.function)
  (X7:∀x∈scope.names,x.2=.free->X.env.kindOf x.1=some .cell\/X.env.kindOf x.1=some .free) (adu:∀ {x:Str},(x,NameKind.cell)∈scope.names->(x,NameKind.free)∈scope.names->False)
  (aaD:∀ (i:Nat) (x:Str) (v:V),N[i]?=some x->σ'[i]?=some (some v)->scope.names.lookup x=some .free/\∃j:Nat,X.N[j]?=some x/\σ[j]?=some (some v)) (hlen:σ'.length=N.length)
  (hY:∀fp s H,PG (bq X scope N fp s H) tg g/\SG (bq X scope N fp s H) ifs tt/\PE (bq X scope N fp s H) elt te)
  (hrd:∀D,H D=none->Jx J g tt te D σ' (upd H D (.lst [])) Q) {E:Value->Shared->Prop} :
  wpAny (model X.prog X.w) X.A (newList []) (λacc aaF=>wpAny (model X.prog X.w) X.A (newFunctionEnv scope X.env.globals (gm X.env scope.names []) [] X.env.qual none .none (some X.env)) (λaaG abm =>
   codeAny (model X.prog X.w) X.A (.compStart (.ListComp elt [⟨tg,iter,ifs,0⟩] scope pos) 0 (.ref it) acc { aaG with scope:=relabel scope X.env }) (Ha X pins σ Q acc aaG.locals) abm) E aaF) E s:=by
 refine qM ?_;have XO:∀b∈fp,b < s.heap.objs.size:=λb hb=>let ⟨o,e,_⟩:=T.obj _ _ st b hb;zY e;have I3:=I.abk (ys:=[]) (its:=[]) (t':=s.toks) .nil (xW _);have hD:H s.heap.objs.size=none:=I.fresh;let⟨W,⟨m0,w0⟩,turn⟩:=hrd _ hD;generalize e3:({ s with heap:=s.heap.push { cls:=.type "list",data:=.seq ([]:List Value).toArray },toks:=s.toks }:Shared)=s3 at I3;have e3h:s3.heap=s.heap.push { cls:=.type "list",data:=.seq ([]:List Value).toArray }:=by rw[<- e3]
 generalize hH3:upd H s.heap.objs.size (.lst [])=H3 at I3 w0 turn;have Xw:s.heap.objs.size < s3.heap.objs.size:=by rw[e3h,xK];exact kY _
 have hk3:∀b o,s.heap.get? b=some o->s3.heap.get? b=some o:=λb o e=>by rw[e3h];exact zU _ e
 generalize s.heap.objs.size=D at *;have f3:∀b∈fp,dz X pins H3 b:=λb hb=>by
  let⟨f0,f⟩:=hf b hb;refine⟨?_,f⟩;rw[<- hH3,aG (yS (XO b hb))];exact f0
 have st3:tn 0 s3.heap:=T.keep _ _ _ st λb _ o e=>hk3 b o e;refine EH λh4 ZU hkp hco=>?_;dsimp only;have I4:=JS (N:=N) (σ':=σ') (fp:=fp) I3 f3 (λb hb=>Zj (XO b hb) Xw) hk X7 ZU hkp hco adu aaD hlen s3.toks;have fC:∀H',H' s3.heap.objs.size=none->dz X pins H' s3.heap.objs.size:=λH' hn=>I3.Ys (yN _) hn;let⟨hg,htt,hte⟩:=hY fp s3 H3;have efp:∀b∈fp,∀H':Hp,H' b=none->dz (bq X scope N fp s3 H3) [] H' b:=λb hb H' hn=>by
  refine⟨hn,(I4.ok.exf b hb).1,I4.ok.Zr b hb,.inl hb,(I4.ok.exf b hb).2,λp hp=>?_⟩;cases hp
 have loop:codeAny (model X.prog X.w) X.A (.compLoop (.ListComp elt [⟨tg,iter,ifs,0⟩] scope pos) 0 (.ref it) (.ref D) (gw X scope s3.heap.objs.size)) (Ha X pins σ Q (.ref D) s3.heap.objs.size) { s3 with heap:=h4 }:=by
  refine Aq (λn s'=>∃i σ' H',Inv (bq X scope N fp s3 H3) [] σ' H' s'/\tn i s'.heap/\(∀b∈fp,H' b=none)/\W i n σ' H') ?_ m0
   ⟨0,σ',H3,I4,T.keep _ _ _ st3 λb _ o e=>hkp b o e,λb hb=>(f3 b hb).1,w0⟩
  rintro n s5 ⟨i,σ5,H5,I5,st5,fr5,w5⟩;rcases turn i n σ5 H5 w5 with ⟨stop,q⟩|⟨go,step⟩
  ·refine cN (T.done (bq X scope N fp s3 H3) rfl rfl rfl hc i [] s5 σ5 H5 _ I5 (λb hb=>efp b hb H5 (fr5 b hb)) st5 stop) λr s6 ⟨hr,I6⟩=>?_;subst hr;let⟨m,hn6,_⟩:=I6.loc;refine⟨D,H5,m,rfl,rfl,I3.aay I6.os I6.base I6.Xi I6.bare (λb hb=>?_),hn6,fC H5 I6.free,q⟩;let⟨f0,f1,f2,f4,f5,f6⟩:=f3 b hb;exact⟨f4,f1,f5,f6⟩
  ·refine cN (T.item (bq X scope N fp s3 H3) rfl rfl rfl hc i [] s5 σ5 H5 _ I5 (λb hb=>efp b hb H5 (fr5 b hb)) st5 go) λr s6 ⟨u,hr,h6⟩=>?_;subst hr;refine cN h6 λ_ s7 ⟨x,H7,I7,r7,y7,st7,fr7⟩=>?_;have I7':=I7.pinned (λb hb=>efp b hb H7 (fr7 b hb)) (T.obj _ _ st7);have again:∀ {pl:List (Addr×Obj)}{σ9:St}{H9:Hp}{s9:Shared}{n':Nat},Inv (bq X scope N fp s3 H3) ([]++qp fp s7.heap) σ9 H9 s9->W (i+1) n' σ9 H9->∃i σ' H',Inv (bq X scope N fp s3 H3) [] σ' H' s9/\tn i s9.heap/\(∀b∈fp,H' b=none)/\W i n' σ' H':=λ{pl σ9 H9 s9 n'} I9 w9=>by
    refine⟨i+1,σ9,H9,I9.XF,T.keep _ _ _ st7 λb hb o e=>(I9.pin (b,o) (yE _ (yE _ (fK hb e)))).1,λb hb=>?_,w9⟩;let⟨o,e,d⟩:=T.obj _ _ st7 b hb;exact (I9.pin (b,o) (yE _ (yE _ (fK hb e)))).2.1
   refine cN (hg _ s7 σ5 H7 x u _ I7' r7 (step x H7 y7)) λ_ s8 ⟨σ8,H8,I8,q8⟩=>?_;refine cN (htt _ s8 σ8 H8 _ I8 q8) λok s9 ⟨H9,I9,q9⟩=>?_;cases ok with
   | false =>
    rw[yO (by decide)] at q9;rw[yO (by decide)];let⟨m',hm,w9⟩:=q9;exact⟨m',hm,again (pl:=[]) I9 w9⟩
   | true =>
    rw[yM rfl] at q9;rw[yM rfl];refine cN (hte _ s9 σ8 H9 _ I9 q9) λy s10 ⟨v,H10,I10,r10,ys,ajy,hz,m',hm,w10⟩=>?_;refine cN (yu (X:=bq X scope N fp s3 H3) _ s10 σ8 H10 (.ref D) [v] (.ref D) [y] (λ_ H'=>W (i+1) m' σ8 H') I10 rfl (.cons r10 .nil) ⟨D,ys,v,rfl,rfl,ajy,hz,w10⟩) λ_ s11 ⟨_,H11,I11,_,w11⟩=>?_;exact⟨m',hm,again (pl:=[]) I11 w11⟩
 exact codeAny_compStart_list loop (T.self _ 0 _ _ _ (T.keep _ _ _ st3 λb _ o e=>hkp b o e) loop)
end
def MM(wi:TI)(g:TG)(tt:TT)(te:TE)(XQ:St->St):TE:=λσ H Q=>wi σ H λJ H1=>∀D,H1 D=none->Jx J g tt te D (XQ σ) (upd H1 D (.lst [])) Q
structure kb(X:Cx)(scope:Scope)(N:List Str)(XQ:St->St):Prop where
 kind:scope.kind=.function
 free:∀x∈scope.names,x.2=.free->X.env.kindOf x.1=some .cell\/X.env.kindOf x.1=some .free
 dup:∀ {x:Str},(x,NameKind.cell)∈scope.names->(x,NameKind.free)∈scope.names->False
 loc:∀x∈scope.names,x.2=.local -> scope.names.lookup x.1=some .local
 cap:∀ (σ:St) (i:Nat) (x:Str) (v:V),N[i]?=some x->(XQ σ)[i]?=some (some v)->scope.names.lookup x=some .free/\∃j:Nat,X.N[j]?=some x/\σ[j]?=some (some v)
 len:∀σ:St,(XQ σ).length=N.length
section
variable {X:Cx}{scope:Scope}{N:List Str}{XQ:St->St}{tg iter elt:Expr}{ifs:List Expr}{pos:Pos}{wi:TI}{g:TG}{tt:TT}{te:TE}
def Oa(hc:X.calm=true)(S:kb X scope N XQ)(hi:PI X tg iter wi)
  (hY:∀fp s H,PG (bq X scope N fp s H) tg g/\SG (bq X scope N fp s H) ifs tt/\PE (bq X scope N fp s H) elt te)
  (hs:∀x,foldedSetIterable iter X.env x=pure x:=by intro _;rfl):PE X (.ListComp elt [⟨tg,iter,ifs,0⟩] scope pos) (MM wi g tt te XQ):=by
 intro pins s σ H Q I h;rw[eval_ListComp];refine wpAny_comprehension_free (use:=none) rfl hs (nV (mh I.ok S.free)) S.kind S.loc (cN (hi pins s σ H _ I h) λv s1 h1=>cN h1 λitv s2 h2=>?_);let⟨it,fp,tn,J,H2,e,I2,T,st2,f2,rd⟩:=h2;subst e;refine cN (xv (iter:=iter) (pos:=pos) (E:=X.xe) hc I2 T st2 f2 S.kind S.free S.dup (S.cap σ) (S.len σ) hY rd) λacc s3 h3=>cN h3 λaaG s4 h4=>?_;refine jT h4 λr s5 h5=>?_;let⟨D,H5,m,rfl,rfl,I5,hn,fC,q⟩:=h5;refine⟨m,hn,λh' sb=>?_⟩;let⟨f0,f1,YD,f3,f4,f5⟩:=fC;exact⟨.ref D,H5,I5.turned (t':=s5.toks) (λb o hb e=>(sb.2 b hb).trans e) f0 f1 f3 f4 f5,rfl,q⟩
def NJ(hc:X.calm=true)(S:kb X scope N XQ)(hi:PI X tg iter wi)
  (hY:∀fp s H,PG (bq X scope N fp s H) tg g/\SG (bq X scope N fp s H) ifs tt/\PE (bq X scope N fp s H) elt te)
  (hN:X.N.Nodup) (hiy:X.N[i]?=some y) (hy:X.env.scope.names.lookup y=some .local)
  (hsw:swapsWith (.ListComp elt [⟨tg,iter,ifs,0⟩] scope pos) (some (.Name y py)) Yt.line X.env=pure true)
  (hs:∀x,foldedSetIterable iter X.env x=pure x:=by intro _;rfl):PS X (.Assign [.Name y py] (.ListComp elt [⟨tg,iter,ifs,0⟩] scope pos) Yt) (Kb (MM wi g tt te XQ) (BM i)):=by
 intro pins s σ H D I h;rw[exec_Assign_Name_used _ _ _ _ hsw];refine zV (vM (zV ?_));show wpAny _ X.A (do let _ <- comprehension (.ListComp elt [⟨tg,iter,ifs,0⟩] scope pos) scope X.env _ (newList []) false (eval iter X.env) (some (assign (.Name y py) X.env))) _ _ s;refine zV (xB (wpAny_comprehension_free (use:=some (assign (.Name y py) X.env)) (Q:=λ_ s'=>SP X pins D .next s') rfl hs (nV (mh I.ok S.free)) S.kind S.loc
  (cN (hi pins s σ H _ I h) λv s1 h1=>cN h1 λitv s2 h2=>?_)) (λ_ s' hq=>zW (zW hq)) λ_ _ e=>e)
 let⟨it,fp,tn,J,H2,e,I2,T,st2,f2,rd⟩:=h2;subst e;refine cN (xv (iter:=iter) (pos:=pos) (E:=X.xe) hc I2 T st2 f2 S.kind S.free S.dup (S.cap σ) (S.len σ) hY rd) λacc s3 h3=>cN h3 λaaG s4 h4=>?_;refine jT h4 λr s5 h5=>?_;let⟨D',H5,m,rfl,rfl,I5,hn,fC,q⟩:=h5;show wpAny _ X.A (assign (.Name y py) X.env (.ref D')) _ _ _;refine wpAny_assign_Name (qo (v:=.ref D') I5 hN hiy (.inl hy) rfl (λs6 I6 ⟨a,sa,ha⟩=>?_) (.inr hy));let⟨f0,f1,YD,f3,f4,f5⟩:=fC;have XA:aaG.locals≠a:=by
  rcases ha with z|z
  ·rw[z];exact f1
  ·exactλw=>f4 y a z w.symm
 refine⟨m,hn.sameBut sa XA,λh' sb=>?_⟩;exact⟨_,H5,I6.turned (t':=s6.toks) (λb o hb e=>(sb.2 b hb).trans e) f0 f1 f3 f4 f5,q⟩
end
abbrev Vh(X:Cx)(qual:Str)(scope:Scope)(f c L:Addr):Env:=W.envX qual scope L f (.ref c) (gm X.env scope.names [])
def nu(X:Cx)(A:Around)(qual:Str)(scope:Scope)(N:List Str)(f c:Addr)(s:Shared)(H:Hp):Cx where
 prog:=X.prog
 w:=X.w
 K:=X.K
 mg:=X.mg
 base:=X.base
 A:=A.deeper (Vh X qual scope f c s.heap.objs.size)
 N:=N
 Xn:=s
 Xg:=H
 env:=Vh X qual scope f c s.heap.objs.size
 outer:=X.stack
 stack:=Vh X qual scope f c s.heap.objs.size::X.stack
 ex:=[]
 fn:=λ_=>false
 calm:=true
 pn:=[]
 xe:=λ_ _=>False
def Of(I:Inv X pins σ H s)(hd:A.handled=none)(hA:A.frames=some X.stack)(S:kb X scope N XQ)(hnc:∀x∈scope.names,x.2≠.cell)(hN0:N[0]?=some p)(hp:scope.names.lookup p=some .local)(hNd:N.Nodup)(r:RelV v u)
  (ZU:h1.Ns s.heap.objs.size (λx=>[(p,u)].reverse.lookup x)) (X9:∀b o,s.heap.get? b=some o->h1.get? b=some o) (t':Nat) :
  Inv (nu X A qual scope N f c s H) [] ((XQ σ).set 0 (some v)) H { s with heap:=h1,toks:=t' }:=by
 have XJ:=mh I.ok S.free;have clx:∀x c,(gm X.env scope.names []).lookup x=some c->X.env.cells.lookup x=some c:=λx c e=>mw XJ (λ_ _ z=>by cases z) x c (mem_of_lookup e);have noA:∀b:Addr,b∉(nu X A qual scope N f c s H).ex:=λb z=>absurd (show b∈([]:List Addr) from z) (by simp);refine⟨⟨I.ok.mod,S.kind,rfl,rfl,yN _,λx y d e1 e2=>I.ok.inj x y d (clx x d e1) (clx y d e2),λx hx=>?_,λx d z=>?_,λ_=>hd,Around.frames_deeper hA,.inr ⟨rfl,rfl⟩,λb z=>absurd z (noA b),I.bs,yD I.ok.bsz I.sz,λb _ _=>noA b,λb z=>absurd z (noA b),I.stack,I.X6⟩,
  rfl,I.bare,Un.kept X9,⟨_,ZU,λi x w e1 e2 e3=>?_⟩,λx d e=>?_,I.Xi.fresh (yN _),λx d e=>I.Xo x d (clx x d e),λq hq=>absurd (show q∈([]:List (Addr×Obj)) from hq) (by simp),I.Xi.kept X9,?_⟩
 ·rcases hx with hx|hx
  ·exact absurd rfl (hnc _ (mem_of_lookup (show scope.names.lookup x=some .cell from hx)))
  ·exact gY (.inl hx)
 ·cases z
 ·cases i with
  | zero =>
   have e1:N[0]?=some x:=e1;rw[hN0] at e1;cases e1;have hl:0 < (XQ σ).length:=by rw[S.len];exact (List.getElem?_eq_some_iff.mp hN0).1
   rw[vY hl] at e2;cases e2;exact⟨u,r,.inl ⟨hp,by simp⟩⟩
  | succ i =>
   have e2':(XQ σ)[i+1]?=some (some w):=by
    rw[vB (by lia)] at e2;exact e2
   let⟨ZV,j,hj,hv⟩:=S.cap σ (i+1) x w e1 e2';have hm:(x,NameKind.free)∈scope.names:=mem_of_lookup ZV;let⟨m,hn,hl⟩:=I.loc;have kx:=S.free _ hm rfl;let⟨u',ru,lk⟩:=hl j x w hj hv (kx.elim (λk=>.inr (.inl k)) λk=>.inr (.inr k));refine⟨u',ru,.inr ⟨.inr ZV,?_⟩⟩;rcases lk with ⟨k,_⟩|⟨_,c',ec,ic⟩
   ·have k:X.env.kindOf x=some .local:=k;rcases kx with k'|k'<;>· rw[k] at k';cases k'
   ·let⟨c'',Ym⟩:=gY (env:=X.env) (acc:=[]) (.inl ZV);have e':=clx x c'' Ym;rw[ec] at e';cases e';exact⟨c',Ym,ic.keeps X9⟩
 ·let⟨w,q⟩:=I.cell x d (clx x d e);exact⟨w,q.keeps X9⟩
 ·rw[yC];exact S.len σ
def Ms(I:Inv X pins σ H s)(hr:ft (k+1) A)(hA:A.frames=some X.stack)(S:kb X scope N XQ)(hnc:∀x∈scope.names,x.2≠.cell)
  (hN0:N[0]?=some p) (hp:scope.names.lookup p=some .local) (hNd:N.Nodup) (hco:scope.isCoroutine=false) (adx:scope.isGenerator=false)
  (hf:s.heap.get? f=some (W.kla_obj name qual params body scope (gm X.env scope.names []) pm c Y2)) (ady:H c=some (.ZO qual)) (hb:bindArgs (W.kla_fn name qual params body scope (gm X.env scope.names []) pm (.ref c) Y2) ⟨[u],[]⟩=pure [(p,u)])
  (r:RelV v u) (hY:PE (nu X A qual scope N f c s H) body te) (q:te ((XQ σ).set 0 (some v)) H Q) :
  wpAny (model X.prog X.w) A (call (.ref f) [u]) (EP X pins σ Q) (λ_ _=>False) s:=by
 have XM:s.heap.CodeRec (.ref c) qual:=I.Xi c _ ady;refine vT (W.kla_callFunE hr.depth hf rfl hco adx rfl XM ?_);rw[hb];refine zW (wpAny_newFunctionEnv hnc (λy hy=>?_) (λh1 ZU hsb=>⟨?_,?_⟩) S.kind)
 ·rw[List.mem_singleton.mp hy];exact hp
 ·exact I.nolimit.fresh _ hsb
 ·have hk1:∀b o,s.heap.get? b=some o->h1.get? b=some o:=λb o e=>hsb.extBut b o (yS (zY e)) (zU _ e);have I1:=Of (qual:=qual) (f:=f) (c:=c) I hr.hd hA S hnc hN0 hp hNd r ZU hk1 (s.toks+[(p,u)].length);refine W.kla_codeExpr (xB (hY [] _ _ H Q I1 q) (λw s' ⟨v',H',I',r',q'⟩=>?_) λe s' h=>False.elim h);exact⟨v',H',I.aay I'.os I'.base I'.Xi I'.bare (λb z=>absurd (show b∈([]:List Addr) from z) (by simp)),r',q'⟩
def Er{pos:Pos}(l:List Value)(h:TriplesOk l)(e:codeAmong pos' (l++[rawInt pos.line,rawInt pos.col,c])=some v):codeAmong pos' l=some v\/v=c:=by
 fun_induction TriplesOk l with
 | case1 =>
  simp?[xP,codeAmong,rawInt] at e;split at e
  ·cases e;exact .inr rfl
  ·cases e
 | case2 a t b u x rest ih =>
  simp?[xG,codeAmong] at e ⊢;split at e
  ·rename_i hc;rw[yM hc];exact .inl e
  ·rename_i hc;rw[yO hc];exact ih h e
 | case3 l h1 h2=>exact h.elim
def Mn(I:Inv X pins σ H s)(S:kb X scope N XQ)(hq:X.env.qual++"<lambda>"=qual)(ZW:X.env.code=.ref c)(C:W.CodeHd X.base c P)(hT:H P=some (.tab qual))(hB:UN X.mg X.base)
  (adz:defaultsOf params X.env=([],[]))
  (h:∀ (f c':Addr) (pm Y2:Value) (s':Shared) (H':Hp),Inv X pins σ H' s'->s'.heap.get? f=some (W.kla_obj "<lambda>" qual params body scope (gm X.env scope.names []) pm c' Y2)->H' f=none->H' c'=some (.ZO qual)->aY H H'->dz X pins H' f->(∀b,H' b≠none->H b≠none\/H' b=some (.ZO qual))->Q (.ref f) s') :
  wpAny (model X.prog X.w) X.A (eval (.Lambda params body scope Yu) X.env) Q X.xe s:=by
 have XJ:=nV (mh I.ok S.free);have hCs:=C.keeps I.bk;have hg:s.heap.Ns mainGlobals X.mg:=by
  let⟨o,es,ep,e,r⟩:=I.ok.mod.glob;exact⟨o,es,ep,I.bk _ _ e,r⟩
 have hPn:X.base.get? P=none:=by
  cases e:X.base.get? P with
  | none=>rfl
  | some o=>rw[(I.bs P o e).2] at hT;cases hT
 let⟨ps,hP,ht,hco⟩:=I.Xi P _ hT;have hb:s.heap.BuiltinsAt X.mg P:=by
  let⟨bm,o,b1,b2,b3,b4,b5⟩:=hB;exact⟨bm,o,b1,b2,b3,(λz=>by rw[z,hPn] at b4;cases b4),I.bk _ _ b4,b5⟩
 refine W.kla_eval adz ?_;rw[hq];cases hf:codeAmong Yu ps.toList with
 | some cv =>
  let⟨c',rfl,Ym⟩:=hco Yu cv hf;refine W.kla_makeFunctionHit XJ I.ok.glob hg ZW hCs hP ht hf hb λY2 h' tk kp hz=>?_;have kp2:∀b o,s.heap.get? b=some o->(h'.push (W.kla_obj "<lambda>" qual params body scope (gm X.env scope.names []) ((X.mg "__name__").getD .none) c' Y2)).get? b=some o:=λb o e=>zU _ (kp b o e);have hn:H h'.objs.size=none:=I.Xi.fresh hz;exact h _ c' _ Y2 _ H (I.kept (t':=tk) kp2) (zX _ rfl) hn Ym (.refl _) (I.Ys hz hn) λb z=>.inl z
 | none =>
  have hgP:mainGlobals≠P:=λz=>by
   let⟨o,es,ep,e,r⟩:=I.ok.mod.glob;rw[z,hPn] at e;cases e
  refine W.kla_makeFunction XJ I.ok.glob hg ZW hCs hP ht hf hgP hb λc' Y2 h' tk hx hc1 Z8 hcr hP'=>?_;have hn:H c'=none:=I.Xi.fresh hc1;have hz:s.heap.objs.size<=h'.objs.size:=jU (jA hc1 Z8);have nP:∀ {b:Addr}{u:HO},H b=some u->(∀q,u≠.tab q)->b≠P:=λ{b u} e XA z=>by subst z;rw[hT] at e;cases e;exact XA _ rfl
  have kp:∀b o,b≠P->s.heap.get? b=some o->(h'.push (W.kla_obj "<lambda>" qual params body scope (gm X.env scope.names []) ((X.mg "__name__").getD .none) c' Y2)).get? b=some o:=λb o hb e=>zU _ (hx b o hb e);have hPc:P≠c':=λz=>by rw[<- z,hT] at hn;cases hn
  have up:∀b u,H b=some u->upd H c' (.ZO qual) b=some u:=λb u e=>by rw[aG (ba e hn)];exact e
  have un:Un X.fs [] H (upd H c' (.ZO qual)) s.heap (h'.push (W.kla_obj "<lambda>" qual params body scope (gm X.env scope.names []) ((X.mg "__name__").getD .none) c' Y2)):=by
   refine⟨λb o e n _ _=>kp b o (λz=>by rw[z,hT] at n;cases n) e,λb o e n _ _=>⟨o.slots,kp b o (λz=>by rw[z,hT] at n;cases n) e⟩,λb o e n _=>?_,λb o e _=>?_,λb xs e=>up b _ e,λb o u e=>up b _ e,⟨λb u e _=>up b u e,λb q ps' e z=>?_⟩⟩
   ·rw[aG (yS (zP (zY e) hc1))];exact n
   ·by_cases hb:b=P
    ·subst hb;exact⟨_,zU _ hP'⟩
    ·exact⟨o,kp b o hb e⟩
   ·by_cases hb:b=P
    ·subst hb;rw[hP] at z;cases z;exact⟨_,zU _ hP'⟩
    ·exact⟨#[],by rw[Array.append_empty];exact kp b _ hb z⟩
  have Xi:pK X.prog X.w (upd H c' (.ZO qual)) (h'.push (W.kla_obj "<lambda>" qual params body scope (gm X.env scope.names []) ((X.mg "__name__").getD .none) c' Y2)):=by
   intro b u e;by_cases hbc:b=c'
   ·subst hbc;rw[aO] at e;cases e;let⟨c0,oc,vs,t,e0,e1,r⟩:=hcr;exact⟨c0,oc,vs,t,e0,zU _ e1,r⟩
   ·rw[aG hbc] at e;by_cases hb:b=P
    ·subst hb;rw[hT] at e;cases e;refine⟨_,zU _ hP',?_,λpos v hv=>?_⟩
     ·have:=TriplesOk_snoc Yu.line Yu.col (.ref c') ps.toList ht;simpa using this
     ·have hv':codeAmong pos (ps.toList++[rawInt Yu.line,rawInt Yu.col,.ref c'])=some v:=by simpa using hv
      rcases Er ps.toList ht hv' with z|z
      ·let⟨c0,z1,z2⟩:=hco pos v z;exact⟨c0,z1,up _ _ z2⟩
      ·exact⟨c',z,aO⟩
    ·exact (I.Xi b u e).XU (λd o hd eo=>kp d o (by
      rcases hd with rfl|hd
      ·exact hb
      ·exact nP hd λq z=>by cases z) eo) (λd hd=>up d _ hd) λd o hd _=>up d _ hd
  have I':=I.un (t':=tk) un Xi;have hnf:upd H c' (.ZO qual) h'.objs.size=none:=by
   rw[aG (jJ Z8)];exact I.Xi.fresh hz
  refine h _ c' _ Y2 _ _ I' (zX _ rfl) hnf aO up (I.Ys hz hnf) λb z=>?_;by_cases hbc:b=c'
  ·subst hbc;exact .inr aO
  ·rw[aG hbc] at z;exact .inl z
end L2
namespace Dl
open PySem L2 PySem.Spec PyProof.Rows
variable {gi:Int->Int->Int}
abbrev D:=PyData
mutual
def Rep(K:W.Frag)(H:Hp):D->V->Prop
 | .none,v=>v=.Xe
 | .bool b,v=>v=.bl b
 | .int i,v=>v=.int i
 | .str x,v=>v=.str x
 | .tuple ds,v=>∃a vs,v=.ref a/\lG K H a vs/\aC K H ds vs
 | .list ds,v=>∃a vs,v=.ref a/\iW K H a vs/\aC K H ds vs
 | .dict _,_=>False
def aC(K:W.Frag)(H:Hp):List D->List V->Prop
 | [],vs=>vs=[]
 | d::ds,vs=>∃v r,vs=v::r/\Rep K H d v/\aC K H ds r
end
def aR{K:W.Frag}(e:aY H H')(h:lG K H a xs):lG K H' a xs:=by
 rcases h with (h|⟨o,h⟩)|h
 ·exact .inl (.inl (e _ _ h))
 ·exact .inl (.inr ⟨o,e _ _ h⟩)
 ·exact .inr h
mutual
theorem Rep.mono{K:W.Frag}{H H':Hp}(e:aY H H'):∀ {d:D}{v:V},Rep K H d v->Rep K H' d v
 | .none,_,h=>h
 | .bool _,_,h=>h
 | .int _,_,h=>h
 | .str _,_,h=>h
 | .tuple ds,_,h=>by
  simp?[Rep] at h ⊢;let⟨a,vs,rfl,q,r⟩:=h;exact⟨a,vs,rfl,aR e q,aC.mono e r⟩
 | .list ds,_,h=>by
  simp?[Rep] at h ⊢;let⟨a,vs,rfl,q,r⟩:=h;exact⟨a,vs,rfl,e.seq q,aC.mono e r⟩
 | .dict _,_,h=>h
theorem aC.mono{K:W.Frag}{H H':Hp}(e:aY H H'):∀ {ds:List D}{vs:List V},aC K H ds vs->aC K H' ds vs
 | [],_,h=>h
 | d::ds,_,h=>by
  simp?[aC] at h ⊢;let⟨v,r,rfl,a,b⟩:=h;exact⟨v,r,rfl,Rep.mono e a,aC.mono e b⟩
end
section
variable {K:W.Frag}
def aC.nil:aC K H [] []:=by simp[aC]
def aC.cons(a:Rep K H d v)(b:aC K H ds vs):aC K H (d::ds) (v::vs):=by
 simp?[aC];exact⟨v,vs,rfl,a,b⟩
def aC.cons_inv(h:aC K H (d::ds) vs):∃v r,vs=v::r/\Rep K H d v/\aC K H ds r:=by simpa only[aC] using h
def aC.nil_inv(h:aC K H [] vs):vs=[]:=by simpa only[aC] using h
def aC.length:∀ {ds:List D}{vs:List V},aC K H ds vs->vs.length=ds.length
 | [],_,h=>by rw[h.nil_inv];rfl
 | d::ds,_,h=>by let⟨v,r,rfl,_,b⟩:=h.cons_inv;simp[aC.length b]
def aC.get:∀ {ds:List D}{vs:List V}{i:Nat}{v:V},aC K H ds vs->vs[i]?=some v->∃d,ds[i]?=some d/\Rep K H d v
 | [],_,i,v,h,e=>by rw[h.nil_inv] at e;simp at e
 | d::ds,_,i,v,h,e=>by
  let⟨v',r,rfl,a,b⟩:=h.cons_inv;cases i with
  | zero=>simp at e;subst e;exact⟨d,rfl,a⟩
  | succ i=>simp at e;let⟨d',h1,h2⟩:=aC.get b e;exact⟨d',by simpa using h1,h2⟩
def aC.getD:∀ {ds:List D}{vs:List V}{i:Nat}{d:D},aC K H ds vs->ds[i]?=some d->∃v,vs[i]?=some v/\Rep K H d v
 | [],_,i,d,h,e=>by simp at e
 | d::ds,_,i,d',h,e=>by
  let⟨v',r,rfl,a,b⟩:=h.cons_inv;cases i with
  | zero=>simp at e;subst e;exact⟨v',rfl,a⟩
  | succ i=>simp at e;let⟨v,h1,h2⟩:=aC.getD b e;exact⟨v,by simpa using h1,h2⟩
def aC.append:∀ {ds es:List D}{vs us:List V},aC K H ds vs->aC K H es us->aC K H (ds++es) (vs++us)
 | [],_,_,_,h,g=>by rw[h.nil_inv];exact g
 | d::ds,_,_,_,h,g=>by let⟨v,r,rfl,a,b⟩:=h.cons_inv;exact aC.cons a (aC.append b g)
def aC.take:∀ {ds:List D}{vs:List V}(n:Nat),aC K H ds vs->aC K H (ds.take n) (vs.take n)
 | [],_,n,h=>by rw[h.nil_inv];simp[aC]
 | d::ds,_,0,h=>by simp[aC]
 | d::ds,_,n+1,h=>by let⟨v,r,rfl,a,b⟩:=h.cons_inv;exact aC.cons a (aC.take n b)
def aC.drop:∀ {ds:List D}{vs:List V}(n:Nat),aC K H ds vs->aC K H (ds.drop n) (vs.drop n)
 | [],_,n,h=>by rw[h.nil_inv];simp[aC]
 | d::ds,_,0,h=>h
 | d::ds,_,n+1,h=>by let⟨v,r,rfl,a,b⟩:=h.cons_inv;exact aC.drop n b
def aC.reverse:∀ {ds:List D}{vs:List V},aC K H ds vs->aC K H ds.reverse vs.reverse
 | [],_,h=>by rw[h.nil_inv];simp[aC]
 | d::ds,_,h=>by
  let⟨v,r,rfl,a,b⟩:=h.cons_inv;rw[vJ,vJ];exact aC.append (aC.reverse b) (aC.cons a aC.nil)
end
structure b9(HF H Xh H':Hp):Prop where
 hh:aY H H'
 ff:aY HF Xh
 fh:aY Xh H'
 nw:∀a o,Xh a=some o->HF a=some o\/H a=none
def b9.refl(s:aY HF H):b9 HF H HF H:=⟨.refl _,.refl _,s,λ_ _ e=>.inl e⟩
def b9.trans(a:b9 HF H Xj H1)(b:b9 Xj H1 Xz H2):b9 HF H Xz H2 :=
 ⟨a.hh.trans b.hh,a.ff.trans b.ff,b.fh,λx o e=>(b.nw x o e).elim (λz=>a.nw x o z) λz=>.inr (a.hh.free z)⟩
def eh(h:H p=none):aY H (upd H p o):=λb u e=>by rw[aG (ba e h)];exact e
def b9.new(s:aY HF H)(h:H p=none):b9 HF H (upd HF p o) (upd H p o):=by
 have hf:HF p=none:=s.free h;refine⟨eh h,eh hf,λb u e=>?_,λb u e=>?_⟩
 ·by_cases hb:b=p
  ·subst hb;rw[aO] at e ⊢;exact e
  ·rw[aG hb] at e ⊢;exact s b u e
 ·by_cases hb:b=p
  ·subst hb;exact .inr h
  ·rw[aG hb] at e;exact .inl e
def b9.own(s:aY HF H)(h:H p=none):b9 HF H HF (upd H p o) :=
 ⟨eh h,.refl _,λb u e=>by rw[aG (ba (s b u e) h)];exact s b u e,λ_ _ e=>.inl e⟩
def b9.freeze(g:b9 HF H Xj H1)(h:H p=none)(h1:H1 p=some o)(hf:Xj p=none):b9 HF H (upd Xj p o) H1 :=
 ⟨g.hh,g.ff.trans (eh hf),λb u e=>by
  by_cases hb:b=p
  ·subst hb;rw[aO] at e;rw[h1,<- e]
  ·rw[aG hb] at e;exact g.fh b u e,λb u e=>by
  by_cases hb:b=p
  ·subst hb;exact .inr h
  ·rw[aG hb] at e;exact g.nw b u e⟩
def lP:List Str:=["ways_of","turned_order","fairest"]
def fA(K:W.Frag)(HF:Hp):Prop:=∀ (f:Addr) (oc:Value) (od:Option Addr) (fd:FuncData) (sl:Array (Option Value)) (c P:Addr),K.lookup f=some ⟨oc,od,.func fd,sl⟩->fd.qualname∈lP->fd.code=.ref c->W.codeHdIn K c P=true->HF P=some (.tab (fd.qualname++".<locals>."++"<lambda>"))
def fA.mono{K:W.Frag}(h:fA K HF)(e:aY HF Xh):fA K Xh:=λf oc od fd sl c P a b d q=>e _ _ (h f oc od fd sl c P a b d q)
abbrev Env:=List (Option D)
structure du(K:W.Frag)(HF:Hp)(ρ:Env)(σ:L2.St):Prop where
 get:∀ (i:Nat) (d:D),ρ[i]?=some (some d)->∃v,σ[i]?=some (some v)/\Rep K HF d v
 len:ρ.length<=σ.length
 tb:fA K HF
def du.mono{K:W.Frag}(h:du K HF ρ σ)(e:aY HF Xh):du K Xh ρ σ:=⟨λi d q=>let ⟨v,a,b⟩:=h.get i d q;⟨v,a,b.mono e⟩,h.len,h.tb.mono e⟩
def tD(K:W.Frag)(f:Env->Option D):TE:=λσ H Q=>∃HF ρ d,aY HF H/\du K HF ρ σ/\f ρ=some d/\∀v H' Xh,b9 HF H Xh H'->Rep K Xh d v->Q v H'
def DE(X:Cx)(e:Expr)(f:Env->Option D):Prop:=PE X e (tD X.K f)
def tF(K:W.Frag)(f:Env->Option (List D)):TE:=λσ H Q=>∃HF ρ ds,aY HF H/\du K HF ρ σ/\f ρ=some ds /\
 ∀a vs H' Xh,b9 HF H Xh H'->H a=none->Xh a=none->H' a=some (.lst vs)->aC K Xh ds vs->Q (.ref a) H'
def DF(X:Cx)(e:Expr)(f:Env->Option (List D)):Prop:=PE X e (tF X.K f)
def QC(K:W.Frag)(f:Env->Option Bool):TT:=λσ H Q=>∃HF ρ b,aY HF H/\du K HF ρ σ/\f ρ=some b/\∀H' Xh,b9 HF H Xh H'->Q b H'
def DT(X:Cx)(e:Expr)(f:Env->Option Bool):Prop:=PT X e (QC X.K f)
def Va(K:W.Frag)(f:Env->Option (List D)):TA:=λσ H Q=>∃HF ρ ds,aY HF H/\du K HF ρ σ/\f ρ=some ds/\∀vs H' Xh,b9 HF H Xh H'->aC K Xh ds vs->Q vs H'
def DA(X:Cx)(es:List Expr)(f:Env->Option (List D)):Prop:=PA X es (Va X.K f)
def bo(h:PE X e t)(i:∀σ H Q,t' σ H Q->t σ H Q):PE X e t':=λpins s σ H Q I q=>h pins s σ H Q I (i σ H Q q)
def AA(h:PT X e t)(i:∀σ H Q,t' σ H Q->t σ H Q):PT X e t':=λpins s σ H Q I q=>h pins s σ H Q I (i σ H Q q)
def Ek(h:PA X e t)(i:∀σ H Q,t' σ H Q->t σ H Q):PA X e t':=λpos pins s σ H Q I q=>h pos pins s σ H Q I (i σ H Q q)
def bs(h:x.bind f=some b):∃a,x=some a/\f a=some b:=by
 cases x with
 | none=>cases h
 | some a=>exact⟨a,rfl,h⟩
def DF.de(h:DF X e f):DE X e (λρ=>(f ρ).map PyData.list):=bo h λσ H Q ⟨HF,ρ,d,sm,eo,hf,q⟩=>by
 have hf:(f ρ).map PyData.list=some d:=hf;cases e1:f ρ with
 | none=>rw[e1] at hf;cases hf
 | some ds =>
  rw[e1] at hf;obtain rfl:PyData.list ds=d:=xE hf;refine⟨HF,ρ,ds,sm,eo,e1,λa vs H' Xh g ha hf' h' r=>q _ _ (upd Xh a (.lst vs)) (g.freeze ha h' hf') ?_⟩;simp?[Rep];exact⟨a,vs,rfl,.inl (.inl aO),r.mono (eh hf')⟩
def ae(i:Nat):Env->Option D:=λρ=>(ρ[i]?).getD none
def Sv(i:Nat)(hN:X.N[i]?=some x)(hv:MT X.env.scope x)(hd:(x == ("__debug__":Str))=false:=by decide)(XM:(x == ("__classdict__":Str))=false:=by decide):DE X (.Name x pos) (ae i) :=
 bo (kg hN hv hd XM) λσ H Q ⟨HF,ρ,d,sm,eo,hf,q⟩=>by
  have hf:(ρ[i]?).getD none=some d:=hf;cases e:ρ[i]? with
  | none=>rw[e] at hf;cases hf
  | some o =>
   rw[e] at hf;have hf:o=some d:=hf;subst hf;let⟨v,a,b⟩:=eo.get i d e;exact⟨v,a,q v H HF (.refl sm) b⟩
def fC(d:D):Env->Option D:=λ_=>some d
def QF{i j pos}:DE X (.Constant (.int i) j pos) (fC (.int i)):=bo Fq λσ H Q ⟨HF,ρ,d,sm,eo,hf,q⟩=>by cases hf;exact q _ H HF (.refl sm) (by simp[Rep])
def TF{b j pos}:DE X (.Constant (.bool b) j pos) (fC (.bool b)):=bo Ls λσ H Q ⟨HF,ρ,d,sm,eo,hf,q⟩=>by cases hf;exact q _ H HF (.refl sm) (by simp[Rep])
def Ql{j pos}:DE X (.Constant .none j pos) (fC .none):=bo RD λσ H Q ⟨HF,ρ,d,sm,eo,hf,q⟩=>by cases hf;exact q _ H HF (.refl sm) (by simp[Rep])
def RW{x j pos}:DE X (.Constant (.str x) j pos) (fC (.str x)):=bo Ld λσ H Q ⟨HF,ρ,d,sm,eo,hf,q⟩=>by cases hf;exact q _ H HF (.refl sm) (by simp[Rep])
def O0(hg:Gl X x)(hm:X.mg x=some (.int i t))(hd:(x == ("__debug__":Str))=false:=by decide):DE X (.Name x pos) (fC (.int i)) :=
 bo (Oy (v:=.int i) hg hm ⟨t,rfl⟩ hd) λσ H Q ⟨HF,ρ,d,sm,eo,hf,q⟩=>by cases hf;exact q _ H HF (.refl sm) (by simp[Rep])
def gR(K:W.Frag)(r:R2)(g:D->D->Option D):Prop:=∀HF H x y v1 v2 d Q,aY HF H->Rep K HF x v1->Rep K HF y v2->g x y=some d->(∀v H' Xh,b9 HF H Xh H'->Rep K Xh d v->Q v H')->r v1 v2 H Q
def f2(g:D->D->Option D)(f1 f2:Env->Option D):Env->Option D:=λρ=>(f1 ρ).bind λx=>(f2 ρ).bind λy=>g x y
def Om{X:Cx}{fa fb:Env->Option D}(hr:gR X.K r g):∀σ H Q,tD X.K (f2 g fa fb) σ H Q->S8 r (tD X.K fa) (tD X.K fb) σ H Q:=λσ H Q ⟨HF,ρ,d,sm,eo,hf,q⟩=>by
 let⟨x,hx,hf⟩:=bs hf;let⟨y,hy,hg⟩:=bs hf;exact⟨HF,ρ,x,sm,eo,hx,λv1 H1 Xj g1 r1=>⟨Xj,ρ,y,g1.fh,eo.mono g1.ff,hy,λv2 H2 Xz g2 r2=>hr Xz H2 x y v1 v2 d Q g2.fh (r1.mono g2.ff) r2 hg λv H' Xh g3 r3=>q v H' Xh ((g1.trans g2).trans g3) r3⟩⟩
def CK(ho:jz X (binaryOp op) r)(hr:gR X.K r g)(ha:DE X a fa)(hb:DE X b fb):DE X (.BinOp a op b pos) (f2 g fa fb):=bo (FC ho ha hb) (Om hr)
def nY(ho:jz X (compareOp op) r)(hr:gR X.K r g)(ha:DE X a fa)(hb:DE X b fb)(hm:behindInMarks op b=false):DE X (.Compare a [op] [b] pos) (f2 g fa fb):=bo (OR ho ha hb hm) (Om hr)
def zv(C:Int->Int->Prop)[∀i j,Decidable (C i j)](g:Int->Int->D):D->D->Option D
 | .int i,.int j=>if C i j then some (g i j) else none
 | _,_=>none
def La{K:W.Frag}{C:Int->Int->Prop}[∀i j,Decidable (C i j)]:gR K (rI C λi j=>.int (gi i j)) (zv C λi j=>.int (gi i j)):=by
 intro HF H x y v1 v2 d Q sm r1 r2 hg q;cases x<;>cases y<;>simp?[zv] at hg<;>try cases hg
 rename_i i j;simp?[Rep] at r1 r2;by_cases hc:C i j
 ·rw[yM hc] at hg;cases hg;exact⟨i,j,r1,r2,hc,q _ H HF (.refl sm) (by simp[Rep])⟩
 ·rw[yO hc] at hg;cases hg
def JN{K:W.Frag}:gR K (Ni λi j=>.int (gi i j)) (zv (λ_ _=>True) λi j=>.int (gi i j)):=by
 intro HF H x y v1 v2 d Q sm r1 r2 hg q;cases x<;>cases y<;>simp?[zv] at hg<;>try cases hg
 rename_i i j;simp?[Rep] at r1 r2;exact⟨i,j,r1,r2,q _ H HF (.refl sm) (by simp[Rep])⟩
def ma{K:W.Frag}{gi:Int->Int->Bool}:gR K (Ni λi j=>.bl (gi i j)) (zv (λ_ _=>True) λi j=>.bool (gi i j)):=by
 intro HF H x y v1 v2 d Q sm r1 r2 hg q;cases x<;>cases y<;>simp?[zv] at hg<;>try cases hg
 rename_i i j;simp?[Rep] at r1 r2;exact⟨i,j,r1,r2,q _ H HF (.refl sm) (by simp[Rep])⟩
noncomputable instance (i j:Int):Decidable (wu i j):=by unfold wu;infer_instance
noncomputable instance (i j:Int):Decidable (NK i j):=by unfold NK;infer_instance
section
variable {X:Cx}{a b c:Expr}{fa fb fc:Env->Option D}{pos:Pos}{rest:List Expr}
def gy(fa fb:Env->Option D):Env->Option D:=λρ=>(fa ρ).bind fun|.bool true=>fb ρ|.bool false=>some (.bool false)|_=>none
def VG(fa fb:Env->Option D):Env->Option D:=λρ=>(fa ρ).bind fun|.bool true=>some (.bool true)|.bool false=>fb ρ|_=>none
def TX:D->Option D|.bool b=>some (.bool (!b))|_=>none
def VD(fa:Env->Option D):Env->Option D:=λρ=>(fa ρ).bind TX
def Qh{op}(h:DE X a fa):DE X (.BoolOp op [a] pos) fa:=Q0 h
def RM(ha:DE X a fa)(hb:DE X (.BoolOp .And (b::rest) pos) fb):DE X (.BoolOp .And (a::b::rest) pos) (gy fa fb):=bo (Qe ha hb) λσ H Q ⟨HF,ρ,d,sm,eo,hf,q⟩=>by
 let⟨x,hx,hf⟩:=bs hf;refine⟨HF,ρ,x,sm,eo,hx,λv1 H1 Xj g1 r1=>?_⟩;cases x<;>try cases hf
 rename_i k;simp?[Rep] at r1;refine⟨k,r1,?_⟩;cases k with
 | true=>exact wo ⟨Xj,ρ,d,g1.fh,eo.mono g1.ff,hf,λv H' Xh g r=>q v H' Xh (g1.trans g) r⟩
 | false=>cases hf;exact sf (q _ H1 Xj g1 (by simp[Rep]))
def TL(ha:DE X a fa)(hb:DE X (.BoolOp .Or (b::rest) pos) fb):DE X (.BoolOp .Or (a::b::rest) pos) (VG fa fb):=bo (Ly ha hb) λσ H Q ⟨HF,ρ,d,sm,eo,hf,q⟩=>by
 let⟨x,hx,hf⟩:=bs hf;refine⟨HF,ρ,x,sm,eo,hx,λv1 H1 Xj g1 r1=>?_⟩;cases x<;>try cases hf
 rename_i k;simp?[Rep] at r1;refine⟨k,r1,?_⟩;cases k with
 | false=>exact sf ⟨Xj,ρ,d,g1.fh,eo.mono g1.ff,hf,λv H' Xh g r=>q v H' Xh (g1.trans g) r⟩
 | true=>cases hf;exact wo (q _ H1 Xj g1 (by simp[Rep]))
def gB:D->Option Bool|.bool b=>some b|_=>none
def fB(f:Env->Option D):Env->Option Bool:=λρ=>(f ρ).bind gB
def EN:∀σ H (Q:Bool->Hp->Prop),QC X.K (fB f) σ H Q->tD X.K f σ H λx H1=>∃c,x=.bl c/\Q c H1:=λσ H Q ⟨HF,ρ,k,sm,eo,hf,q⟩=>by
 let⟨x,hx,hf⟩:=bs hf;refine⟨HF,ρ,x,sm,eo,hx,λv1 H1 Xj g1 r1=>?_⟩;cases x<;>try cases hf
 simp?[Rep] at r1;exact⟨_,r1,q H1 Xj g1⟩
def Sx(h:DE X a f)(he:∀whole,isTrue a X.env whole=(do let v <- whole;standAt a.pos;holding [v] (truthy v)):=by intro _;rfl):DT X a (fB f):=AA (L5 h he) EN
def nF(ho:jz X (compareOp op) r)(hr:gR X.K r g)(ha:DE X a fa)(hb:DE X b fb)(hm:behindInMarks op b=false):DT X (.Compare a [op] [b] pos) (fB (f2 g fa fb)) :=
 AA (Gi ho ha hb hm) λσ H Q h=>Om hr σ H _ (EN σ H Q h)
def gq(fa fb:Env->Option Bool):Env->Option Bool:=λρ=>(fa ρ).bind fun|true=>fb ρ|false=>some false
def iM(fa fb:Env->Option Bool):Env->Option Bool:=λρ=>(fa ρ).bind fun|true=>some true|false=>fb ρ
def bJ(fa:Env->Option Bool):Env->Option Bool:=λρ=>(fa ρ).map (!·)
variable {ta tb:Env->Option Bool}
def DW(X:Cx)(e:Expr)(f:Env->Option Bool):Prop:=PW X e (QC X.K f)
def Jz(h:PW X e t)(i:∀σ H Q,t' σ H Q->t σ H Q):PW X e t':=λwh pins s σ H Q I q=>h wh pins s σ H Q I (i σ H Q q)
def DW.dt(h:DW X a ta):DT X a ta:=PW.pt h
def M7(ha:DT X a ta):DW X (.BoolOp .And [a] pos) ta:=Os ha
def Qy(ha:DT X a ta):DW X (.BoolOp .Or [a] pos) ta:=K0 ha
def Q8(ha:DT X a ta)(hb:DW X (.BoolOp .And (b::rest) pos) tb):DW X (.BoolOp .And (a::b::rest) pos) (gq ta tb):=Jz (Rc ha hb) λσ H Q ⟨HF,ρ,d,sm,eo,hf,q⟩=>by
 let⟨x,hx,hf⟩:=bs hf;refine⟨HF,ρ,x,sm,eo,hx,λH1 Xj g1=>?_⟩;cases x with
 | true=>exact wo ⟨Xj,ρ,d,g1.fh,eo.mono g1.ff,hf,λH' Xh g=>q H' Xh (g1.trans g)⟩
 | false=>cases hf;exact sf (q H1 Xj g1)
def Ta(ha:DT X a ta)(hb:DW X (.BoolOp .Or (b::rest) pos) tb):DW X (.BoolOp .Or (a::b::rest) pos) (iM ta tb):=Jz (PV ha hb) λσ H Q ⟨HF,ρ,d,sm,eo,hf,q⟩=>by
 let⟨x,hx,hf⟩:=bs hf;refine⟨HF,ρ,x,sm,eo,hx,λH1 Xj g1=>?_⟩;cases x with
 | false=>exact sf ⟨Xj,ρ,d,g1.fh,eo.mono g1.ff,hf,λH' Xh g=>q H' Xh (g1.trans g)⟩
 | true=>cases hf;exact wo (q H1 Xj g1)
def QG(ha:DT X a ta):DT X (.UnaryOp .Not a pos) (bJ ta):=AA (Ki ha) λσ H Q ⟨HF,ρ,d,sm,eo,hf,q⟩=>by
 have hf:(ta ρ).map (!·)=some d:=hf;cases e:ta ρ with
 | none=>rw[e] at hf;cases hf
 | some k=>rw[e] at hf;cases hf;exact⟨HF,ρ,k,sm,eo,e,λH1 Xj g1=>q H1 Xj g1⟩
def DN(tc:Env->Option Bool)(fa fb:Env->Option D):Env->Option D:=λρ=>(tc ρ).bind fun|true=>fa ρ|false=>fb ρ
def Uv(hc:DT X c ta)(ha:DE X a fa)(hb:DE X b fb):DE X (.IfExp c a b pos) (DN ta fa fb):=bo (Cw hc ha hb) λσ H Q ⟨HF,ρ,d,sm,eo,hf,q⟩=>by
 let⟨x,hx,hf⟩:=bs hf;refine⟨HF,ρ,x,sm,eo,hx,λH1 Xj g1=>?_⟩;cases x with
 | true=>exact wo ⟨Xj,ρ,d,g1.fh,eo.mono g1.ff,hf,λv H' Xh g r=>q v H' Xh (g1.trans g) r⟩
 | false=>exact sf ⟨Xj,ρ,d,g1.fh,eo.mono g1.ff,hf,λv H' Xh g r=>q v H' Xh (g1.trans g) r⟩
def dW(g g':D->D->Option D)(fa fb fc:Env->Option D):Env->Option D:=λρ=>(fa ρ).bind λx=>(fb ρ).bind λy=>(g x y).bind fun|.bool true=>(fc ρ).bind λz=>g' y z|.bool false=>some (.bool false)|_=>none
def GA(hr:gR X.K r g)(YL:gR X.K r' g'):∀σ H Q,tD X.K (dW g g' fa fb fc) σ H Q->Ee r r' (tD X.K fa) (tD X.K fb) (tD X.K fc) σ H Q:=λσ H Q ⟨HF,ρ,d,sm,eo,hf,q⟩=>by
 let⟨x,hx,hf⟩:=bs hf;let⟨y,hy,hf⟩:=bs hf;let⟨z,hz,hf⟩:=bs hf;refine⟨HF,ρ,x,sm,eo,hx,λv1 H1 Xj g1 r1=>⟨Xj,ρ,y,g1.fh,eo.mono g1.ff,hy,λv2 H2 Xz g2 r2=>hr Xz H2 x y v1 v2 z _ g2.fh (r1.mono g2.ff) r2 hz λv3 H3 X1 g3 r3=>?_⟩⟩;cases z<;>try cases hf
 rename_i k;simp?[Rep] at r3;refine⟨k,r3,?_⟩;have G:=(g1.trans g2).trans g3;cases k with
 | false=>cases hf;exact sf (q _ H3 X1 G (by simp[Rep]))
 | true =>
  let⟨w,hw,hg⟩:=bs hf;exact wo ⟨X1,ρ,w,G.fh,eo.mono G.ff,hw,λv4 H4 YR g4 r4=>YL YR H4 y w v2 v4 d Q g4.fh (r2.mono (g3.ff.trans g4.ff)) r4 hg λv H' Xh g5 r5=>q v H' Xh ((G.trans g4).trans g5) r5⟩
def Mz(ho:jz X (compareOp op) r)(hr:gR X.K r g)(YI:jz X (compareOp ZQ) r')(YL:gR X.K r' g')(ha:DE X a fa)(hb:DE X b fb)(hc:DE X c fc)
  (hm:lastMarks [op,ZQ] [b,c]=false:=by with_unfolding_all rfl):DE X (.Compare a [op,ZQ] [b,c] pos) (dW g g' fa fb fc):=bo (Lw ho YI ha hb hc hm) (GA hr YL)
def J8(ho:jz X (compareOp op) r)(hr:gR X.K r g)(YI:jz X (compareOp ZQ) r')(YL:gR X.K r' g')(ha:DE X a fa)(hb:DE X b fb)(hc:DE X c fc)
  (hm:lastMarks [op,ZQ] [b,c]=false:=by with_unfolding_all rfl):DT X (.Compare a [op,ZQ] [b,c] pos) (fB (dW g g' fa fb fc)) :=
 AA (LN ho YI ha hb hc hm) λσ H Q h=>GA hr YL σ H _ (EN σ H Q h)
def ag:Env->Option (List D):=λ_=>some []
def aa(f:Env->Option D)(g:Env->Option (List D)):Env->Option (List D):=λρ=>(f ρ).bind λx=>(g ρ).map (x::·)
def Lj:DA X [] ag:=Ek fE λσ H Q ⟨HF,ρ,d,sm,eo,hf,q⟩=>by cases hf;exact q [] H HF (.refl sm) aC.nil
def Gx(he:DE X e f)(hs:DA X es g)(YQ:starEach (e::es) X.env=(false,eval e X.env)::starEach es X.env:=by rfl):DA X (e::es) (aa f g) :=
 Ek (cL he hs YQ) λσ H Q ⟨HF,ρ,d,sm,eo,hf,q⟩=>by
  let⟨x,hx,hf⟩:=bs hf;have hf:(g ρ).map (x::·)=some d:=hf;cases e1:g ρ with
  | none=>rw[e1] at hf;cases hf
  | some xs =>
   rw[e1] at hf;cases hf;exact⟨HF,ρ,x,sm,eo,hx,λv1 H1 Xj g1 r1=>⟨Xj,ρ,xs,g1.fh,eo.mono g1.ff,e1,λvs H2 Xz g2 r2=>q (v1::vs) H2 Xz (g1.trans g2) (aC.cons (r1.mono g2.ff) r2)⟩⟩
variable {es:List Expr}{fs:Env->Option (List D)}
def small(ds:List D):Option (List D):=if ds.length<=sizeLine then some ds else none
def fO{ds es:List D}(h:small ds=some es):es=ds/\ds.length<=sizeLine:=by
 unfold small at h;split at h
 ·cases h;exact⟨rfl,‹_›⟩
 ·cases h
def aH(g:Env->Option (List D)):Env->Option D:=λρ=>(g ρ).bind λds=>(small ds).map PyData.tuple
def bZ(g:Env->Option (List D)):Env->Option (List D):=λρ=>(g ρ).bind small
def QN{x1}(h:DA X es fs):DE X (.Tuple es x1 pos) (aH fs):=bo (Kc h) λσ H Q ⟨HF,ρ,d,sm,eo,hf,q⟩=>by
 let⟨ds,hx,hf⟩:=bs hf;have hf:(small ds).map PyData.tuple=some d:=hf;cases e:small ds with
 | none=>rw[e] at hf;cases hf
 | some es' =>
  rw[e] at hf;cases hf;let⟨rfl,hz⟩:=fO e;refine⟨HF,ρ,_,sm,eo,hx,λvs H1 Xj g1 r1=>⟨by rw[r1.length];exact hz,λp hp=>q _ _ (upd Xj p (.tup vs)) (g1.trans (.new g1.fh hp)) ?_⟩⟩;simp?[Rep];exact⟨p,vs,rfl,.inl (.inl aO),r1.mono (eh (g1.fh.free hp))⟩
def QQ(h:DA X es fs):DF X (.List es pos) (bZ fs):=bo (Fm h) λσ H Q ⟨HF,ρ,d,sm,eo,hf,q⟩=>by
 let⟨ds,hx,hf⟩:=bs hf;let⟨rfl,hz⟩:=fO hf;exact⟨HF,ρ,_,sm,eo,hx,λvs H1 Xj g1 r1=>⟨by rw[r1.length];exact hz,λp hp=>q p vs _ Xj (g1.trans (.own g1.fh hp)) (g1.hh.free hp) (g1.fh.free hp) aO r1⟩⟩
def av:D->D->Option D
 | .tuple ds,.int i=>tY ds i
 | .list ds,.int i=>tY ds i
 | _,_=>none
def Dz{K:W.Frag}(r:aC K HF ds vs)(h:tY ds i=some d):∃v,tY vs i=some v/\Rep K HF d v:=by
 unfold tY at h ⊢;rw[r.length];let⟨j,hj,h⟩:=bs h;let⟨v,a,b⟩:=r.getD h;exact⟨v,by rw[hj];exact a,b⟩
def Sq{K:W.Frag}:gR K (Wn K) av:=by
 intro HF H x y v1 v2 d Q sm r1 r2 hg q;cases x<;>cases y<;>simp?[av] at hg<;>try cases hg
 ·simp?[Rep] at r1 r2;let⟨a,vs,rfl,hs,r⟩:=r1;let⟨v,hv,rv⟩:=Dz r hg;exact .inl ⟨a,vs,_,v,rfl,r2,sm.seq hs,hv,q v H HF (.refl sm) rv⟩
 ·simp?[Rep] at r1 r2;let⟨a,vs,rfl,hs,r⟩:=r1;let⟨v,hv,rv⟩:=Dz r hg;exact .inr (.inl ⟨a,vs,_,v,rfl,r2,aR sm hs,hv,q v H HF (.refl sm) rv⟩)
def SV(ha:DE X a fa)(hb:DE X b fb)(hs:AO b:=by intro _ _;rfl):DE X (.Subscript a b pos) (f2 av fa fb):=bo (Tt RZ ha hb hs) (Om Sq)
mutual
theorem eW{pins:List (Addr×Obj)}{σ:L2.St}{H HF:Hp}{s:Shared}(I:Inv X pins σ H s)(sm:aY HF H):∀ {d:D}{v:V}{u:Value},Rep X.K HF d v->RelV v u->∃as,Reads s.heap u d as
 | .none,_,_,h,r=>by simp?[Rep] at h;subst h;cases r;exact⟨_,.none⟩
 | .bool b,_,_,h,r=>by simp?[Rep] at h;subst h;cases r;exact⟨_,.bool b⟩
 | .int i,_,_,h,r=>by simp?[Rep] at h;subst h;let⟨t,rfl⟩:=r;exact⟨_,.int i t⟩
 | .str i,_,_,h,r=>by simp?[Rep] at h;subst h;let⟨t,rfl⟩:=r;exact⟨_,.str i t⟩
 | .tuple ds,_,_,h,r=>by
  simp?[Rep] at h;let⟨a,vs,rfl,hs,rr⟩:=h;cases r;let⟨its,rv,⟨o,ho,hc,n,hd⟩,_⟩:=I.tuple (aR sm hs);let⟨as,q⟩:=qx I sm rr rv;exact⟨as,.tuple ho hc hd (by simpa using q)⟩
 | .list ds,_,_,h,r=>by
  simp?[Rep] at h;let⟨a,vs,rfl,hs,rr⟩:=h;cases r;let⟨its,rv,pl,_⟩:=I.list (sm.seq hs);let⟨o,ho,hc,n,hd⟩:=pl.isList;let⟨as,q⟩:=qx I sm rr rv;exact⟨_,.list ho hc hd (by simpa using q)⟩
 | .dict _,_,_,h,r=>by simp?[Rep] at h
theorem qx{pins:List (Addr×Obj)}{σ:L2.St}{H HF:Hp}{s:Shared}(I:Inv X pins σ H s)(sm:aY HF H):∀ {ds:List D}{vs:List V}{us:List Value},aC X.K HF ds vs->aS vs us->∃as,ReadsAll s.heap us ds as
 | [],_,_,h,r=>by rw[h.nil_inv] at r;cases r;exact⟨_,.nil⟩
 | d::ds,_,_,h,r=>by
  let⟨v,vr,rfl,a,b⟩:=h.cons_inv;cases r with
  | cons r rr =>
   let⟨as,q⟩:=eW I sm a r;let⟨bs,p⟩:=qx I sm b rr;exact⟨_,.cons q p⟩
end
def VB(K:W.Frag)(g:D->D->Option Bool):R2:=λv1 v2 H Q=>∃HF x y k,aY HF H/\Rep K HF x v1/\Rep K HF y v2/\g x y=some k/\Q (.bl k) H
def Bv{K:W.Frag}:gR K (VB K g) (λx y=>(g x y).map PyData.bool):=by
 intro HF H x y v1 v2 d Q sm r1 r2 hg q;have hg:(g x y).map PyData.bool=some d:=hg;cases e:g x y with
 | none=>rw[e] at hg;cases hg
 | some k=>rw[e] at hg;cases hg;exact⟨HF,x,y,k,sm,r1,r2,e,q _ H HF (.refl sm) (by simp[Rep])⟩
def MZ(x y:D):Option Bool:=if SeqAt.shaped x=true/\SeqAt.shaped y=true then some (PyData.eqv x y) else none
def Nn(x y:D):Option Bool:=if SeqAt.shaped x=true/\SeqAt.shaped y=true then some (!PyData.eqv x y) else none
def LQ(hu:X.A.units+64 < cLine):jz X (compareOp .Eq) (VB X.K MZ):=by
 intro pins s σ H v1 v2 u1 u2 Q I rx ry h;let⟨HF,x,y,k,sm,r1,r2,hg,q⟩:=h;unfold MZ at hg;split at hg<;>cases hg;rename_i hh;let⟨as,ra⟩:=eW I sm r1 rx;let⟨bs,rb⟩:=eW I sm r2 ry;exact eq_dataH ra rb hh.1 hh.2 hu ⟨.bl _,H,I,rfl,q⟩
def MK(hu:X.A.units+64 < cLine):jz X (compareOp .NotEq) (VB X.K Nn):=by
 intro pins s σ H v1 v2 u1 u2 Q I rx ry h;let⟨HF,x,y,k,sm,r1,r2,hg,q⟩:=h;unfold Nn at hg;split at hg<;>cases hg;rename_i hh;let⟨as,ra⟩:=eW I sm r1 rx;let⟨bs,rb⟩:=eW I sm r2 ry;exact ne_dataH ra rb hh.1 hh.2 hu ⟨.bl _,H,I,rfl,q⟩
def items:D->Option (List D)|.tuple ds=>some ds|.list ds=>some ds|_=>none
end
def Uu(K:W.Frag)(n:Nat)(m:List D->Option D):Sp:=λvs H Q _=>∃HF ds d,aY HF H/\fA K HF/\aC K HF ds vs/\ds.length=n/\m ds=some d/\∀v H' Xh,b9 HF H Xh H'->Rep K Xh d v->Q v H'
structure dG(P:Program)(w:World)(K:W.Frag)(mg:Str->Option Value)(base:Heap)(k:Nat)(x:Str)(n:Nat)(m:List D->Option D):Prop where
 ex:∃ (f:Addr) (fd:FuncData) (ps:List Str),pY P w K mg base MX k f fd ps (Uu K n m)/\mg x=some (.ref f)/\W.keepIn K (.ref f)=true/\Binds K fd ps []
def dG.mono{K:W.Frag}(F:dG P w K mg base k x n m)(h:k<=j):dG P w K mg base j x n m:=by
 let⟨f,fd,ps,a,b,c,d⟩:=F.ex;exact⟨f,fd,ps,a.mono h,b,c,d⟩
def aj(n:Nat)(m:List D->Option D)(fs:Env->Option (List D)):Env->Option D:=λρ=>(fs ρ).bind λds=>if ds.length=n then m ds else none
def OY(F:dG X.prog X.w X.K X.mg X.base k x n m)(hr:ft k X.A)(hg:Gl X x)(ha:DA X (e::es) fs)(XH:(x == ("__debug__":Str))=false:=by decide)
  (he:starEach (e::es) X.env=(false,eval e X.env)::starEach es X.env:=by rfl) (Yb:(backTo pos (starEach es X.env)).any (·.1)=false:=by rfl):DE X (.Call (.Name x p) (e::es) [] pos) (aj n m fs):=by
 let⟨f,fd,ps,ok,hm,hk,hb⟩:=F.ex;refine bo (F7 (E:=E0) ok hr hg hm hk hb .nil PR ha XH he Yb) λσ H Q ⟨HF,ρ,d,sm,eo,hf,q⟩=>?_;let⟨ds,hx,hf⟩:=bs hf;split at hf
 ·rename_i hl;exact⟨HF,ρ,ds,sm,eo,hx,λvs H1 Xj g1 r1=>⟨Xj,ds,d,g1.fh,eo.tb.mono g1.ff,by rw[qG];exact r1,hl,hf,λv H' Xh g r=>q v H' Xh (g1.trans g) r⟩⟩
 ·cases hf
def JU(K:W.Frag)(r:List V->Hp->VK->Prop)(g:List D->Option D):Prop:=∀HF H ds vs d Q,aY HF H->aC K HF ds vs->g ds=some d->(∀v H' Xh,b9 HF H Xh H'->Rep K Xh d v->Q v H')->r vs H Q
def bu(g:List D->Option D)(fs:Env->Option (List D)):Env->Option D:=λρ=>(fs ρ).bind g
def To{X:Cx}{fs:Env->Option (List D)}(hs:JU X.K r g):∀σ H Q,tD X.K (bu g fs) σ H Q->UQ r (Va X.K fs) σ H Q:=λσ H Q ⟨HF,ρ,d,sm,eo,hf,q⟩=>by
 let⟨ds,hx,hf⟩:=bs hf;exact⟨HF,ρ,ds,sm,eo,hx,λvs H1 Xj g1 r1=>hs Xj H1 ds vs d Q g1.fh r1 hf λv H' Xh g2 r2=>q v H' Xh (g1.trans g2) r2⟩
def P1(K:W.Frag)(r:List V->Hp->VK->Prop)(g:List D->Option (List D)):Prop:=∀HF H ds vs es Q,aY HF H->aC K HF ds vs->g ds=some es ->
 (∀a us H' Xh,b9 HF H Xh H'->H a=none->Xh a=none->H' a=some (.lst us)->aC K Xh es us->Q (.ref a) H')->r vs H Q
def wg(g:List D->Option (List D))(fs:Env->Option (List D)):Env->Option (List D):=λρ=>(fs ρ).bind g
def T9{X:Cx}{fs:Env->Option (List D)}(hs:P1 X.K r g):∀σ H Q,tF X.K (wg g fs) σ H Q->UQ r (Va X.K fs) σ H Q:=λσ H Q ⟨HF,ρ,d,sm,eo,hf,q⟩=>by
 let⟨ds,hx,hf⟩:=bs hf;exact⟨HF,ρ,ds,sm,eo,hx,λvs H1 Xj g1 r1=>hs Xj H1 ds vs d Q g1.fh r1 hf λa us H' Xh g2 ha hf' h' r2=>q a us H' Xh (g1.trans g2) (g1.hh.free ha) hf' h' r2⟩
structure vg(X:Cx)(x:Str)(v:Value):Prop where
 gl:Gl X x
 mg:X.mg x=none
 bt:bootBuiltins x=some v
def jv{id:String}(hc:gD X (.builtin id) r)(hs:JU X.K r g)(B:vg X x (.builtin id))(ha:DA X (e::es) fs)(hn:x≠"__name__":=by decide)(XH:(x == ("__debug__":Str))=false:=by decide)
  (he:starEach (e::es) X.env=(false,eval e X.env)::starEach es X.env:=by rfl) (Yb:(backTo pos (starEach es X.env)).any (·.1)=false:=by rfl):DE X (.Call (.Name x p) (e::es) [] pos) (bu g fs) :=
 bo (pC hc B.gl B.mg B.bt ha hn XH he Yb) (To hs)
def Me{id:String}(hc:gD X (.builtin id) r)(hs:P1 X.K r g)(B:vg X x (.builtin id))(ha:DA X (e::es) fs)(hn:x≠"__name__":=by decide)(XH:(x == ("__debug__":Str))=false:=by decide)
  (he:starEach (e::es) X.env=(false,eval e X.env)::starEach es X.env:=by rfl) (Yb:(backTo pos (starEach es X.env)).any (·.1)=false:=by rfl):DF X (.Call (.Name x p) (e::es) [] pos) (wg g fs) :=
 bo (pC hc B.gl B.mg B.bt ha hn XH he Yb) (T9 hs)
def HV(hc:gD X (.type T) r)(hs:JU X.K r g)(B:vg X x (.type T))(ha:DA X (e::es) fs)(hn:x≠"__name__":=by decide)(XH:(x == ("__debug__":Str))=false:=by decide)
  (he:starEach (e::es) X.env=(false,eval e X.env)::starEach es X.env:=by rfl) (Yb:(backTo pos (starEach es X.env)).any (·.1)=false:=by rfl):DE X (.Call (.Name x p) (e::es) [] pos) (bu g fs) :=
 bo (zf hc B.gl B.mg B.bt ha hn XH he Yb) (To hs)
def hJ:D->Option (List D)|.tuple ds=>some ds|.list ds=>some ds|_=>none
def oneOf:List D->Option D|[d]=>some d|_=>none
def iw(h:oneOf ds=some d):ds=[d]:=by
 cases ds with
 | nil=>cases h
 | cons x r=>cases r with
  | nil=>cases h;rfl
  | cons _ _=>cases h
def nI(h:hJ d=some ds):d=.tuple ds\/d=.list ds:=by
 cases d<;>cases h
 ·exact .inr rfl
 ·exact .inl rfl
def fy:List D->Option (List D):=λds=>(oneOf ds).bind hJ
def md{ds es:List D}(h:fy ds=some es):ds=[.tuple es]\/ds=[.list es]:=by
 let⟨d,h1,h2⟩:=bs h;rw[iw h1];rcases nI h2 with rfl|rfl
 ·exact .inl rfl
 ·exact .inr rfl
def bz:List D->Option D:=λds=>(fy ds).map λes=>.int es.length
def ah{α β:Type}{x:Option α}{f:α->β}{b:β}(h:x.map f=some b):∃a,x=some a/\f a=b:=by
 cases x with
 | none=>cases h
 | some a=>exact⟨a,rfl,xE h⟩
def O9{K:W.Frag}:JU K (λxs H Q=>∃p ys,xs=[.ref p]/\(iW K H p ys\/lG K H p ys)/\Q (.int ys.length) H) bz:=by
 intro HF H ds vs d Q sm r hg q;let⟨es,h1,rfl⟩:=ah hg;rcases md h1 with rfl|rfl
 all_goals
  let⟨v,r',rfl,a,b⟩:=r.cons_inv;rw[b.nil_inv];simp?[Rep] at a;let⟨p,us,rfl,h,rr⟩:=a
 ·exact⟨p,us,rfl,.inr (aR sm h),q _ H HF (.refl sm) (by simp[Rep,rr.length])⟩
 ·exact⟨p,us,rfl,.inl (sm.seq h),q _ H HF (.refl sm) (by simp[Rep,rr.length])⟩
def Rz(B:vg X "len" (.builtin "len"))(ha:DA X [e] fs)(he:starEach [e] X.env=(false,eval e X.env)::starEach [] X.env:=by rfl):DE X (.Call (.Name "len" p) [e] [] pos) (bu bz fs) :=
 jv As O9 B ha (by decide) (by decide) he rfl
def fM{K:W.Frag}(h:HF l=none)(r:aC K HF ds vs):Rep K (upd HF l (.tup vs)) (.tuple ds) (.ref l):=by
 simp?[Rep];exact⟨l,vs,rfl,.inl (.inl aO),r.mono (eh h)⟩
def HS{K:W.Frag}:JU K (λxs H Q=>∃p ys,xs=[.ref p]/\((iW K H p ys/\∀l,H l=none->Q (.ref l) (upd H l (.tup ys)))\/(lG K H p ys/\Q (.ref p) H))) (λds=>(fy ds).map PyData.tuple):=by
 intro HF H ds vs d Q sm r hg q;let⟨es,h1,rfl⟩:=ah hg;rcases md h1 with rfl|rfl
 all_goals
  let⟨v,r',rfl,a,b⟩:=r.cons_inv;rw[b.nil_inv];have a':=a;simp?[Rep] at a;let⟨p,us,rfl,h,rr⟩:=a
 ·exact⟨p,us,rfl,.inr ⟨aR sm h,q _ H HF (.refl sm) a'⟩⟩
 ·exact⟨p,us,rfl,.inl ⟨sm.seq h,λl hl=>q _ _ _ (.new sm hl) (fM (sm.free hl) rr)⟩⟩
def Kt(B:vg X "tuple" (.type "tuple"))(ha:DA X [e] fs)(he:starEach [e] X.env=(false,eval e X.env)::starEach [] X.env:=by rfl):DE X (.Call (.Name "tuple" p) [e] [] pos) (bu (λds=>(fy ds).map PyData.tuple) fs) :=
 HV xc HS B ha (by decide) (by decide) he rfl
def fH:D->String|.none=>"NoneType" | .bool _=>"bool" | .int _=>"int" | .str _=>"str" | .tuple _=>"tuple" | .list _=>"list" | .dict _=>"dict"
def sg(a b:String):Option Bool:=if ((Value.type a) == (Value.type b))=true then some true else if W.kitMeta b=true then (fastBuiltinMro a).map (·.contains (Value.type b)) else none
def O7:∀a∈["NoneType","bool","int","str","tuple","list"],sg a "int"=some (a == "int"||a == "bool"):=by decide +kernel
def MI:∀a∈["NoneType","bool","int","str","tuple","list"],sg a "bool"=some (a == "bool"):=by decide +kernel
def kit_tuple:∀a∈["NoneType","bool","int","str","tuple","list"],sg a "tuple"=some (a == "tuple"):=by decide +kernel
def JK:∀a∈["NoneType","bool","int","str","tuple","list"],sg a "list"=some (a == "list"):=by decide +kernel
def Ky{A:Around}{E:Value->Shared->Prop}(I:Inv X pins σ H s)(sm:aY HF H)(r:Rep X.K HF d v)(rv:RelV v u)
  (e:sg (fH d) T=some k) (h:∀tk,Q (.bool k) { s with toks:=tk }):wpAny (model X.prog X.w) A (call (.builtin "isinstance") [u,.type T]) Q E s:=by
 have e':W.kitOne X.K (.type (fH d)) (.type T)=some k:=e;cases d<;>simp?[Rep] at r
 ·subst r;cases rv;exact W.kia_one W.kitx_none I.YV True.intro e' (λz=>nomatch z) h
 ·subst r;cases rv;exact W.kia_one W.kitx_bool I.YV True.intro e' (λz=>nomatch z) h
 ·subst r;let⟨t,rfl⟩:=rv;exact W.kia_one W.kitx_int I.YV True.intro e' (λz=>nomatch z) h
 ·subst r;let⟨t,rfl⟩:=rv;exact W.kia_one W.kitx_str I.YV True.intro e' (λz=>nomatch z) h
 ·let⟨a,vs,rfl,hs,rr⟩:=r;cases rv;let⟨its,rv,pl,_⟩:=I.list (sm.seq hs);let⟨o,ho,hc,n,hd⟩:=pl.isList;exact W.kia_one W.kitx_list I.YV ⟨o,ho,hc⟩ e' (λz=>nomatch z) h
 ·let⟨a,vs,rfl,hs,rr⟩:=r;cases rv;let⟨its,rv,⟨o,ho,hc,n,hd⟩,_⟩:=I.tuple (aR sm hs);exact W.kia_one W.kitx_tuple I.YV ⟨o,ho,hc⟩ e' (λz=>nomatch z) h
def AS(T:String)(f:Env->Option D):Env->Option D:=λρ=>(f ρ).bind λd=>(sg (fH d) T).map PyData.bool
def SM(B:vg X "isinstance" (.builtin "isinstance"))(C:vg X xT (.type T))(h:DE X e f)(hn:xT≠"__name__":=by decide)(hd:(xT == ("__debug__":Str))=false:=by decide)
  (he:starEach [e,.Name xT pT] X.env=(false,eval e X.env)::starEach [.Name xT pT] X.env:=by rfl):DE X (.Call (.Name "isinstance" p) [e,.Name xT pT] [] pos) (AS T f):=by
 have hc:gD X (.builtin "isinstance") (λxs H Q=>∃HF d v k,xs=[v,.ty T]/\aY HF H/\Rep X.K HF d v/\sg (fH d) T=some k/\Q (.bl k) H):=by
  intro pins s σ H xs us Q I r h;let⟨HF,d,v,k,rfl,sm,rp,hk,q⟩:=h;cases r with
  | cons ra rr =>
   cases rr with
   | cons rb rn =>
    cases rn;cases rb;exact Ky I sm rp ra hk λtk=>⟨.bl k,H,I.tok _,rfl,q⟩
 refine bo (pC hc B.gl B.mg B.bt (cL h (cL (N8 (v:=.ty T) C.gl C.mg C.bt rfl hn hd) fE) he) (by decide) (by decide) he rfl) λσ H Q ⟨HF,ρ,d,sm,eo,hf,q⟩=>?_;let⟨x,hx,hf⟩:=bs hf;let⟨k,hk,rfl⟩:=ah hf;exact⟨HF,ρ,x,sm,eo,hx,λv1 H1 Xj g1 r1=>⟨Xj,x,v1,k,rfl,g1.fh,r1,hk,q _ H1 Xj g1 (by simp[Rep])⟩⟩
def Mq:D->D->Option D
 | .tuple xs,.tuple ys=>(small (xs++ys)).map PyData.tuple
 | _,_=>none
def F6(K:W.Frag):R2:=λx y H Q=>∃a b xs ys,x=.ref a/\y=.ref b/\lG K H a xs/\lG K H b ys/\xs.length+ys.length<=sizeLine /\
 (xs=[]->Q (.ref b) H)/\(ys=[]->Q (.ref a) H)/\(∀p,H p=none->Q (.ref p) (upd H p (.tup (xs++ys))))
def Im:jz X (binaryOp .Add) (F6 X.K):=by
 intro pins s σ H x y v u Q I rx ry h;let⟨a,b,xs,ys,rfl,rfl,ha,hb,hz,q0,q1,q2⟩:=h;by_cases hx:xs=[]
 ·cases rx;cases ry;let⟨its,r1,p1,_⟩:=I.tuple ha;let⟨Yd,r2,p2,_⟩:=I.tuple hb;let⟨⟨cls,dd,data,sl⟩,ho,hc,n,hd⟩:=id p1;let⟨⟨aeu,dd2,data2,sl2⟩,ho2,Z8,n2,hd2⟩:=id p2;simp only at hc hd Z8 hd2;subst hc hd Z8 hd2;have e:its=[]:=(L2.aS.Yn r1).mpr hx;exact Zi ⟨_,ho,rfl⟩ ⟨_,ho2,rfl⟩ noFill_tuple_add seq_tuple_add vW vQ (vN _ _)
   (tuple_addW0 a b its.toArray Yd.toArray n n2 dd dd2 sl sl2 (by simp[e])) ⟨ho,ho2,⟨.ref b,H,I,rfl,q0 hx⟩⟩
 ·exact NY pins s σ H _ _ v u Q I rx ry ⟨a,b,xs,ys,rfl,rfl,ha,hb,hx,hz,q1,λ_ p hp=>q2 p hp⟩
def O3{K:W.Frag}:gR K (F6 K) Mq:=by
 intro HF H x y v1 v2 d Q sm r1 r2 hg q;cases x<;>cases y<;>simp?[Mq] at hg<;>try cases hg
 rename_i xs ys;let⟨es,h1,rfl⟩:=ah hg;let⟨rfl,hz⟩:=fO h1;have r1':=r1;have r2':=r2;simp?[Rep] at r1 r2;let⟨a,vs,rfl,ha,ra⟩:=r1;let⟨b,us,rfl,hb,rb⟩:=r2;refine⟨a,b,vs,us,rfl,rfl,aR sm ha,aR sm hb,by rw[ra.length,rb.length,<- zN];exact hz,λe=>?_,λe=>?_,λp hp=>q _ _ _ (.new sm hp) (fM (sm.free hp) (ra.append rb))⟩
 ·have:xs=[]:=by have:=ra.length;rw[e] at this;exact List.length_eq_zero_iff.mp this.symm
  subst this;exact q _ H HF (.refl sm) r2'
 ·have:ys=[]:=by have:=rb.length;rw[e] at this;exact List.length_eq_zero_iff.mp this.symm
  subst this;rw[qG] at q;exact q _ H HF (.refl sm) r1'
structure xu(K:W.Frag)(J:It)(HF:Hp)(ds:List D):Prop where
 go:∀i d XI Xp,ds[i]?=some d->aY HF Xp->aY Xp XI->J.go i XI/\∀x Zw,J.yld i XI x Zw->∃abL,b9 Xp XI abL Zw/\Rep K abL d x
 stop:∀XI Xp,aY HF Xp->aY Xp XI->J.stop ds.length XI
def Wo(K:W.Frag)(f:Env->Option (List D)):TI:=λσ H R=>∃HF ρ ds,aY HF H/\du K HF ρ σ/\f ρ=some ds/\∀J H' Xh,b9 HF H Xh H'->xu K J Xh ds->R J H'
def DI(X:Cx)(tg iter:Expr)(f:Env->Option (List D)):Prop:=PI X tg iter (Wo X.K f)
def Hq{K:W.Frag}(h:iW K HF a vs)(r:aC K HF ds vs):xu K (U8 K a) HF ds where
 go:=λi d XI Xp e s1 s2=>by
  let⟨v,hv,rv⟩:=r.getD e;have q:=s2.seq (s1.seq h);refine⟨⟨vs,v,q,hv⟩,λx Zw ⟨e2,hy⟩=>⟨Xp,by rw[e2];exact .refl s2,?_⟩⟩;have:=hy vs q;rw[hv] at this;cases this;exact rv.mono s1
 stop:=λXI Xp s1 s2=>⟨vs,s2.seq (s1.seq h),by rw[r.length];exact yN _⟩
def K4{K:W.Frag}(h:lG K HF a vs)(r:aC K HF ds vs):xu K (VF K a) HF ds where
 go:=λi d XI Xp e s1 s2=>by
  let⟨v,hv,rv⟩:=r.getD e;have q:=aR s2 (aR s1 h);refine⟨⟨vs,v,q,hv⟩,λx Zw ⟨e2,hy⟩=>⟨Xp,by rw[e2];exact .refl s2,?_⟩⟩;have:=hy vs q;rw[hv] at this;cases this;exact rv.mono s1
 stop:=λXI Xp s1 s2=>⟨vs,aR s2 (aR s1 h),by rw[r.length];exact yN _⟩
def ES{K:W.Frag}{lo:Int}:xu K (UL lo n) HF ((List.range n).map λi=>PyData.int (lo+(i:Nat))) where
 go:=λi d XI Xp e s1 s2=>by
  rw[zO] at e;let⟨j,hj,rfl⟩:=ah e;let⟨hi,hj'⟩:=List.getElem?_eq_some_iff.mp hj;have YB:i < n:=by simpa using hi
  have:j=i:=by rw[<- hj'];simp
  subst this;exact⟨YB,λx Zw ⟨e2,hx⟩=>⟨Xp,by rw[e2];exact .refl s2,by simp[Rep,hx]⟩⟩
 stop:=λXI Xp s1 s2=>by
  show n<=_;simp
section
variable {X:Cx}{tg l e:Expr}{f:Env->Option D}{fs:Env->Option (List D)}{pos p:Pos}
def AE(h:PI X tg l t)(i:∀σ H R,t' σ H R->t σ H R):PI X tg l t':=λpins s σ H R I q=>h pins s σ H R I (i σ H R q)
def RO(hl:PE X l tl):PI X tg l (λσ H R=>tl σ H λx H1=>∃a,x=.ref a/\((∃xs,iW X.K H1 a xs/\R (U8 X.K a) H1)\/∃xs,lG X.K H1 a xs/\R (VF X.K a) H1)):=by
 intro pins s σ H R I h;refine cN (hl pins s σ H _ I h) λv s1 ⟨x,H1,I1,r1,q1⟩=>?_;let⟨a,e,q⟩:=q1;subst e;cases r1;rcases q with ⟨xs,hq,q⟩|⟨xs,hq,q⟩
 ·let⟨its,rv,pl,hz⟩:=I1.list hq;refine qL pl.isList ⟨s1.heap.objs.size,[s1.heap.objs.size],_,_,H1,rfl,I1.kept (t':=s1.toks) λb o e=>zU _ e,Iu a _,⟨_,zX _ rfl,rfl,rfl⟩,λb hb=>?_,q⟩;cases List.mem_singleton.mp hb;exact I1.Ys (yN _) I1.fresh
 ·let⟨its,rv,pl,hz⟩:=I1.tuple hq;refine xS (show s1.heap.IsTuple a its.toArray from pl) ⟨s1.heap.objs.size,[s1.heap.objs.size],_,_,H1,rfl,I1.kept (t':=s1.toks) λb o e=>zU _ e,Ff a _,⟨_,zX _ rfl,rfl,rfl⟩,λb hb=>?_,q⟩;cases List.mem_singleton.mp hb;exact I1.Ys (yN _) I1.fresh
def bI(f:Env->Option D):Env->Option (List D):=λρ=>(f ρ).bind hJ
def MF(h:DE X l f):DI X tg l (bI f):=AE (RO h) λσ H R ⟨HF,ρ,ds,sm,eo,hf,q⟩=>by
 let⟨x,hx,hf⟩:=bs hf;refine⟨HF,ρ,x,sm,eo,hx,λv1 H1 Xj g1 r1=>?_⟩;rcases nI hf with rfl|rfl
 ·simp?[Rep] at r1;let⟨a,vs,rfl,hs,rr⟩:=r1;exact⟨a,rfl,.inr ⟨vs,aR g1.fh hs,q _ H1 Xj g1 (K4 hs rr)⟩⟩
 ·simp?[Rep] at r1;let⟨a,vs,rfl,hs,rr⟩:=r1;exact⟨a,rfl,.inl ⟨vs,g1.fh.seq hs,q _ H1 Xj g1 (Hq hs rr)⟩⟩
def Da(i:Int):Bool:=decide (-(2 ^ 62)<=i)&&decide (i < 2 ^ 62)
def nz:List D->Option (List D)
 | [.int j]=>if Da j then some ((List.range j.toNat).map λi=>PyData.int ((i:Nat):Int)) else none
 | _=>none
def Cf(h:nz ds=some es):∃j,ds=[.int j]/\Da j=true/\es=(List.range j.toNat).map λi=>PyData.int ((i:Nat):Int):=by
 unfold nz at h;split at h
 ·split at h
  ·cases h;exact⟨_,rfl,‹_›,rfl⟩
  ·cases h
 ·cases h
def bj(fs:Env->Option (List D)):Env->Option (List D):=λρ=>(fs ρ).bind nz
def KI(B:vg X "range" (.type "range"))(h:DA X [e] fs)(hs:starEach [e] X.env=[(false,eval e X.env)]:=by rfl):DI X tg (.Call (.Name "range" p) [e] [] pos) (bj fs) :=
 AE (Jf B.gl B.mg h hs) λσ H R ⟨HF,ρ,ds,sm,eo,hf,q⟩=>by
  let⟨x,hx,hf⟩:=bs hf;let⟨j,rfl,hj,rfl⟩:=Cf hf;refine⟨HF,ρ,_,sm,eo,hx,λvs H1 Xj g1 r1=>?_⟩;let⟨v,r,rfl,a,b⟩:=r1.cons_inv;rw[b.nil_inv];simp?[Rep] at a;subst a;unfold Da at hj;rw[zF] at hj;refine⟨j,rfl,yR hj.1,yR hj.2,q _ H1 Xj g1 ?_⟩;have:=ES (K:=X.K) (HF:=Xj) (lo:=0) (n:=j.toNat);simpa using this
def UT(K:W.Frag)(f:Env->D->Option Env):TG:=λv σ H Q=>∃HF ρ d ρ',aY HF H/\du K HF ρ σ/\Rep K HF d v/\f ρ d=some ρ'/\∀σ',du K HF ρ' σ'->du K HF ρ σ'->Q σ' H
def DG(X:Cx)(tg:Expr)(f:Env->D->Option Env):Prop:=PG X tg (UT X.K f)
def ub(h:PG X tg t)(i:∀v σ H Q,t' v σ H Q->t v σ H Q):PG X tg t':=λpins s σ H v u Q I r q=>h pins s σ H v u Q I r (i v σ H Q q)
def isFree(ρ:Env)(i:Nat):Bool:=((ρ[i]?).getD none).isNone
def ke{K:W.Frag}(eo:du K HF ρ σ)(r:Rep K HF d v):du K HF (ρ.set i (some d)) (σ.set i (some v)):=by
 refine⟨λj e h=>?_,by rw[yC,yC];exact eo.len,eo.tb⟩;rw[xJ] at h ⊢;by_cases XB:i=j
 ·rw[yM XB] at h ⊢;by_cases hl:i < ρ.length
  ·rw[yM hl] at h;cases h;rw[yM (zP hl eo.len)];exact⟨v,rfl,r⟩
  ·rw[yO hl] at h;cases h
 ·rw[yO XB] at h ⊢;exact eo.get j e h
def mP{K:W.Frag}(eo:du K HF ρ σ)(hf:isFree ρ i=true):du K HF ρ (σ.set i (some v)):=by
 refine⟨λj e h=>?_,by rw[yC];exact eo.len,eo.tb⟩;have XB:i≠j:=by
  intro z;subst z;unfold isFree at hf;rw[h] at hf;cases hf
 rw[xJ,yO XB];exact eo.get j e h
def fG(i:Nat):Env->D->Option Env:=λρ d=>if isFree ρ i=true then some (ρ.set i (some d)) else none
def OC(i:Nat)(hN:X.N.Nodup)(hi:X.N[i]?=some x)(hx:Loc X.env.scope x)(hf:X.fn x=true\/X.env.scope.names.lookup x=some .local:=by first|exact .inl rfl|exact .inr rfl|assumption):DG X (.Name x pos) (fG i) :=
 ub (eC hN hi hx hf) λv σ H Q ⟨HF,ρ,d,ρ',sm,eo,r,hf,q⟩=>by
  unfold fG at hf;split at hf
  ·cases hf;exact q _ (ke eo r) (mP eo ‹_›)
  ·cases hf
def gE(i j:Nat):Env->D->Option Env:=λρ d=>match d with
 | .tuple [x,y]=>if isFree ρ i=true/\isFree ρ j=true then some ((ρ.set i (some x)).set j (some y)) else none
 | _=>none
def RU(i j:Nat){px py:Pos}{k:Nat}(hc:X.calm=true)(hN:X.N.Nodup)(hi:X.N[i]?=some x)(hx:Loc X.env.scope x)(hj:X.N[j]?=some y)(hy:Loc X.env.scope y)
  (hf:X.fn x=true\/X.env.scope.names.lookup x=some .local:=by first|exact .inl rfl|exact .inr rfl|assumption) (hf':X.fn y=true\/X.env.scope.names.lookup y=some .local:=by first|exact .inl rfl|exact .inr rfl|assumption) :
  DG X (.Tuple [.Name x px,.Name y py] k pos) (gE i j) :=
 ub (A3 hc (ej (eC hN hi hx hf) (ej (eC hN hj hy hf') sS))) λv σ H Q ⟨HF,ρ,d,ρ',sm,eo,r,hf,q⟩=>by
  unfold gE at hf;split at hf
  ·rename_i x' y';split at hf
   ·rename_i hh;cases hf;simp?[Rep] at r;let⟨a,vs,rfl,hs,rr⟩:=r;let⟨v1,r1,rfl,a1,b1⟩:=rr.cons_inv;let⟨v2,r2,rfl,a2,b2⟩:=b1.cons_inv;rw[b2.nil_inv] at hs;exact⟨a,_,rfl,aR sm hs,rfl,v1,_,rfl,v2,_,rfl,rfl,q _ (ke (ke eo a1) a2) (mP (mP eo hh.1) hh.2)⟩
   ·cases hf
  ·cases hf
def et(tgt:Env->D->Option Env)(tt:Env->Option Bool)(te:Env->Option D)(ρ:Env):List D->Option (List D)
 | []=>some []
 | d::ds=>(tgt ρ d).bind λρ'=>(tt ρ').bind λb=>if b=true then (te ρ').bind λx=>(et tgt tt te ρ ds).map (x::·) else et tgt tt te ρ ds
def TM(X:Cx)(ifs:List Expr)(f:Env->Option Bool):Prop:=SG X ifs (QC X.K f)
def OG:TM X [] (λ_=>some true):=λpins s σ H Q I ⟨HF,ρ,b,sm,eo,hf,q⟩=>N2 pins s σ H Q I (by cases hf;exact q H HF (.refl sm))
def OT(h:DT X c t):TM X [c] t:=M9 h
def l5(t:Nat)(cs:List Nat)(σ:L2.St):L2.St:=List.replicate t none++cs.map λj=>(σ[j]?).getD none
def gH(t:Nat)(cs:List Nat)(ρ:Env):Env:=List.replicate t none++cs.map λj=>(ρ[j]?).getD none
def GC{K:W.Frag}{cs:List Nat}(eo:du K HF ρ σ):du K HF (gH t cs ρ) (l5 t cs σ):=by
 refine⟨λi d h=>?_,by simp[gH,l5],eo.tb⟩;unfold gH at h;unfold l5;by_cases hi:i < t
 ·rw[yT (by simpa using hi),yY,yM hi] at h;cases h
 ·rw[yU (by simpa using hi),zO,xN] at h;rw[yU (by simpa using hi),zO,xN];let⟨j,hj,h⟩:=ah h;rw[hj];cases e:ρ[j]? with
  | none=>rw[e] at h;cases h
  | some o =>
   rw[e] at h;have h:o=some d:=h;subst h;let⟨v,a,b⟩:=eo.get j d e;exact⟨v,by show some ((σ[j]?).getD none)=_;rw[a];rfl,b⟩
def ax(t:Nat)(cs:List Nat)(fi:Env->Option (List D))(tgt:Env->D->Option Env)(tt:Env->Option Bool)(te:Env->Option D):Env->Option (List D):=λρ=>(fi ρ).bind λds=>(et tgt tt te (gH t cs ρ) ds).bind small
variable {elt iter:Expr}{ifs:List Expr}{scope:Scope}{N:List Str}{t:Nat}{cs:List Nat}{fi:Env->Option (List D)}{tgt:Env->D->Option Env}{tt:Env->Option Bool}{te:Env->Option D}
def L7:∀σ H Q,tF X.K (ax t cs fi tgt tt te) σ H Q->MM (Wo X.K fi) (UT X.K tgt) (QC X.K tt) (tD X.K te) (l5 t cs) σ H Q:=λσ H Q ⟨HF,ρ,out,sm,eo,hf,q⟩=>by
 let⟨ds,hx,hf⟩:=bs hf;let⟨amC,ho,hf⟩:=bs hf;let⟨rfl,hz⟩:=fO hf;refine⟨HF,ρ,ds,sm,eo,hx,λJ H1 Xj g1 it Dn hD=>?_⟩;have eo1:=GC (t:=t) (cs:=cs) (eo.mono g1.ff);have hFD:Xj Dn=none:=g1.fh.free hD;refine⟨λi m σ' H'=>m+i=ds.length/\∃Xh xs ys rest,b9 Xj H1 Xh H'/\Xh Dn=none/\H' Dn=some (.lst ys)/\aC X.K Xh xs ys/\du X.K Xh (gH t cs ρ) σ'/\et tgt tt te (gH t cs ρ) (ds.drop i)=some rest/\xs++rest=out,
  ⟨ds.length,rfl,Xj,[],[],out,.own g1.fh hD,hFD,aO,aC.nil,eo1,ho,rfl⟩,?_⟩
 rintro i m σ' H' ⟨hm,Xh,xs,ys,rest,G,aeF,hHD,rr,eo',hc,aaH⟩;by_cases hi:i < ds.length
 ·refine .inr ?_;have hd:ds.drop i=ds[i]::ds.drop (i+1):=vI hi;have he:ds[i]?=some ds[i]:=List.getElem?_eq_some_iff.mpr ⟨hi,rfl⟩;generalize ds[i]=d at hd he;rw[hd] at hc;unfold et at hc;let⟨ρ',h1,hc⟩:=bs hc;let⟨b,h2,hc⟩:=bs hc;let⟨go,yld⟩:=it.go i d H' Xh he G.ff G.fh;refine⟨go,λx H2 y=>?_⟩;let⟨Xz,G2,rx⟩:=yld x H2 y;refine⟨Xz,_,d,ρ',G2.fh,eo'.mono G2.ff,rx,h1,λZP eo2 aeG=>?_⟩;refine⟨Xz,ρ',b,G2.fh,eo2,h2,λH3 X1 G3=>?_⟩;have nof:∀YR H4,b9 Xh H' YR H4->YR Dn=none:=λYR H4 G4=>by
   cases e4:YR Dn with
   | none=>rfl
   | some o =>
    rcases G4.nw Dn o e4 with z|z
    ·rw[aeF] at z;cases z
    ·rw[hHD] at z;cases z
  cases b with
  | false =>
   refine sf ⟨m - 1,by lia,by lia,X1,xs,ys,rest,(G.trans G2).trans G3,nof _ _ (G2.trans G3),(G2.trans G3).hh _ _ hHD,rr.mono (G2.trans G3).ff,aeG.mono G3.ff,by simpa using hc,aaH⟩
  | true =>
   rw[yM rfl] at hc;let⟨z,h3,hc⟩:=bs hc;let⟨abN,h4,rfl⟩:=ah hc;refine wo ⟨X1,ρ',z,G3.fh,eo2.mono G3.ff,h3,λv H4 YR G4 rv=>?_⟩;have GG:=(G2.trans G3).trans G4;have n4:=nof _ _ GG;have h4D:=GG.hh _ _ hHD;have hlen:ys.length < sizeLine:=by
    have e1:=rr.length;have e2:out.length=xs.length+(abN.length+1):=by rw[<- aaH];simp
    lia
   refine⟨ys,h4D,hlen,m - 1,by lia,by lia,YR,xs++[z],ys++[v],abN,?_,n4,aO,(rr.mono GG.ff).append (aC.cons rv aC.nil),aeG.mono (G3.ff.trans G4.ff),h4,by simp[<- aaH]⟩;have G5:=G.trans GG;refine⟨λb o e=>?_,G5.ff,λb o e=>?_,G5.nw⟩
   ·rw[aG (ba e hD)];exact G5.hh b o e
   ·rw[aG (ba e n4)];exact G5.fh b o e
 ·have YB:i=ds.length:=by lia
  subst YB;rw[List.drop_length] at hc;cases hc;rw[qG] at aaH;subst aaH;exact .inl ⟨it.stop H' Xh G.ff G.fh,q Dn ys H' Xh (g1.trans G) (g1.hh.free hD) aeF hHD rr⟩
def O5(hc:X.calm=true)(S:kb X scope N (l5 t cs))(hi:DI X tg iter fi)
  (hY:∀fp s H,DG (bq X scope N fp s H) tg tgt/\TM (bq X scope N fp s H) ifs tt/\DE (bq X scope N fp s H) elt te)
  (hs:∀x,foldedSetIterable iter X.env x=pure x:=by intro _;rfl):DF X (.ListComp elt [⟨tg,iter,ifs,0⟩] scope pos) (ax t cs fi tgt tt te):=bo (Oa (g:=UT X.K tgt) (tt:=QC X.K tt) (te:=tD X.K te) hc S hi hY hs) L7
end
inductive Slot where
 | Xe|val (d:D)|own (ds:List D)
abbrev au:=List Slot
def Slot.all:Slot->Option D|.Xe=>none|.val d=>some d|.own ds=>some (.list ds)
def Slot.X3:Slot->Option D|.val d=>some d|_=>none
def Slot.aab:Slot->Slot|.own ds=>.val (.list ds)|s=>s
def aJ(ρ:au):Env:=ρ.map Slot.all
def bK(ρ:au):Env:=ρ.map Slot.X3
def hand(fz:List Nat):Nat->au->au
 | _,[]=>[]
 | k,s::r=>(if fz.contains k=true then s.aab else s)::hand fz (k+1) r
def jn(fz:List Nat):∀ (ρ:au) (k i:Nat),(hand fz k ρ)[i]?=(ρ[i]?).map λs=>if fz.contains (k+i)=true then s.aab else s
 | [],k,i=>by simp[hand]
 | s::r,k,0=>by simp[hand]
 | s::r,k,i+1=>by
  simp?[hand,yZ];rw[jn fz r (k+1) i,Nat.add_assoc,Nat.add_comm 1 i]
def Dw(fz:List Nat):∀ (ρ:au) (k:Nat),(hand fz k ρ).length=ρ.length
 | [],k=>rfl
 | s::r,k=>by simp[hand,Dw fz r (k+1)]
structure lC(K:W.Frag)(Xf Xg HF H:Hp)(ρ:au)(σ:L2.St):Prop where
 gr:b9 Xf Xg HF H
 val:∀ (i:Nat) (d:D),ρ[i]?=some (.val d)->∃v,σ[i]?=some (some v)/\Rep K HF d v
 own:∀ (i:Nat) (ds:List D),ρ[i]?=some (.own ds)->∃a vs,σ[i]?=some (some (.ref a))/\H a=some (.lst vs)/\HF a=none/\Xg a=none/\aC K HF ds vs
 inj:∀ (i j:Nat) (ds es:List D) (a:Addr),ρ[i]?=some (.own ds)->ρ[j]?=some (.own es)->σ[i]?=some (some (.ref a))->σ[j]?=some (some (.ref a))->i=j
 len:ρ.length<=σ.length
 tb:fA K HF
section
variable {K:W.Frag}
def lC.all(S:lC K Xf Xg HF H ρ σ):du K H (aJ ρ) σ:=by
 refine⟨λi d h=>?_,by simpa [aJ] using S.len,S.tb.mono S.gr.fh⟩;unfold aJ at h;rw[zO] at h;let⟨s,hs,h⟩:=ah h;cases s with
 | Xe=>cases h
 | val e=>cases h;let⟨v,a,b⟩:=S.val i _ hs;exact⟨v,a,b.mono S.gr.fh⟩
 | own ds =>
  cases h;let⟨a,vs,e1,e2,e3,_,e4⟩:=S.own i ds hs;exact⟨.ref a,e1,by simp?[Rep];exact⟨a,vs,rfl,iW.of e2,e4.mono S.gr.fh⟩⟩
def lC.X3(S:lC K Xf Xg HF H ρ σ):du K HF (bK ρ) σ:=by
 refine⟨λi d h=>?_,by simpa [bK] using S.len,S.tb⟩;unfold bK at h;rw[zO] at h;let⟨s,hs,h⟩:=ah h;cases s with
 | Xe=>cases h
 | val e=>cases h;exact S.val i _ hs
 | own ds=>cases h
def lC.grow(S:lC K Xf Xg HF H ρ σ)(g:b9 HF H Xh H'):lC K Xf Xg Xh H' ρ σ where
 gr:=S.gr.trans g
 val:=λi d h=>let ⟨v,a,b⟩:=S.val i d h;⟨v,a,b.mono g.ff⟩
 own:=λi ds h=>by
  let⟨a,vs,e1,e2,e3,e5,e4⟩:=S.own i ds h;refine⟨a,vs,e1,g.hh _ _ e2,?_,e5,e4.mono g.ff⟩;cases e:Xh a with
  | none=>rfl
  | some o =>
   rcases g.nw a o e with z|z
   ·rw[e3] at z;cases z
   ·rw[e2] at z;cases z
 inj:=S.inj
 len:=S.len
 tb:=S.tb.mono g.ff
def lC.step(S:lC K Xf Xg HF H ρ σ)(g:aY H H'):lC K Xf Xg HF H' ρ σ:=S.grow ⟨g,.refl _,S.gr.fh.trans g,λ_ _ e=>.inl e⟩
def lC.hand(S:lC K Xf Xg HF H ρ σ)(fz:List Nat):∃Xj,aY HF Xj/\lC K Xf Xg Xj H (hand fz 0 ρ) σ:=by
 let P:Addr->Prop:=λa=>∃i ds,fz.contains i=true/\ρ[i]?=some (.own ds)/\σ[i]?=some (some (.ref a));have cl:=Classical.propDecidable;let Xj:Hp:=λa=>if P a then H a else HF a
 have hP:∀a,P a->HF a=none/\Xg a=none:=λa ⟨i,ds,_,h1,h2⟩=>by
  let⟨a',vs,e1,e2,e3,e5,e4⟩:=S.own i ds h1;rw[h2] at e1;cases e1;exact⟨e3,e5⟩
 have s1:aY HF Xj:=λb o e=>by
  show (if P b then H b else HF b)=some o;by_cases h:P b
  ·rw[(hP b h).1] at e;cases e
  ·rw[yO h];exact e
 have s2:aY Xj H:=λb o e=>by
  have e:(if P b then H b else HF b)=some o:=e;by_cases h:P b
  ·rw[yM h] at e;exact e
  ·rw[yO h] at e;exact S.gr.fh b o e
 refine⟨Xj,s1,⟨S.gr.hh,S.gr.ff.trans s1,s2,λb o e=>?_⟩,λi d h=>?_,λi ds h=>?_,λi j ds es a h1 h2=>?_,by rw[Dw];exact S.len,S.tb.mono s1⟩
 ·have e:(if P b then H b else HF b)=some o:=e;by_cases h:P b
  ·exact .inr (hP b h).2
  ·rw[yO h] at e;exact S.gr.nw b o e
 ·rw[jn] at h;let⟨s,hs,h⟩:=ah h;rw[jE] at h;cases s with
  | Xe=>split at h<;>cases h
  | val e =>
   have:Slot.val e=Slot.val d:=by split at h<;>exact h
   cases this;let⟨v,a,b⟩:=S.val i _ hs;exact⟨v,a,b.mono s1⟩
  | own ds =>
   split at h
   ·rename_i hc;cases h;let⟨a,vs,e1,e2,e3,e5,e4⟩:=S.own i ds hs;refine⟨.ref a,e1,?_⟩;simp?[Rep];refine⟨a,vs,rfl,.inl (.inl ?_),e4.mono s1⟩;show (if P a then H a else HF a)=_;rw[yM ⟨i,ds,hc,hs,e1⟩];exact e2
   ·cases h
 ·rw[jn] at h;let⟨s,hs,h⟩:=ah h;rw[jE] at h;cases s with
  | Xe=>split at h<;>cases h
  | val e=>split at h<;>cases h
  | own es =>
   split at h
   ·cases h
   ·rename_i hc;cases h;let⟨a,vs,e1,e2,e3,e5,e4⟩:=S.own i ds hs;refine⟨a,vs,e1,e2,?_,e5,e4.mono s1⟩;show (if P a then H a else HF a)=none;rw[yO ?_]
    ·exact e3
    ·rintro⟨j,es,hj,h1,h2⟩;have:=S.inj i j ds es a hs h1 e1 h2;subst this;exact hc hj
 ·rw[jn] at h1 h2;let⟨s,hs,h1⟩:=ah h1;let⟨s',Yp,h2⟩:=ah h2;rw[jE] at h1 h2;cases s with
  | Xe=>split at h1<;>cases h1
  | val e=>split at h1<;>cases h1
  | own xs =>
   cases s' with
   | Xe=>split at h2<;>cases h2
   | val e=>split at h2<;>cases h2
   | own ys=>exact S.inj i j _ _ a hs Yp
def lC.Yk(S:lC K Xf Xg HF H ρ σ)(r:Rep K HF d v):lC K Xf Xg HF H (ρ.set i (.val d)) (σ.set i (some v)):=by
 have ne:∀ {j:Nat}{s:Slot},(ρ.set i (.val d))[j]?=some s->(∀e,s≠.val e)->i≠j/\ρ[j]?=some s:=λ{j s} h hn=>by
  rw[xJ] at h;by_cases XB:i=j
  ·rw[yM XB] at h;split at h
   ·cases h;exact absurd rfl (hn _)
   ·cases h
  ·rw[yO XB] at h;exact⟨XB,h⟩
 refine⟨S.gr,λj e h=>?_,λj ds h=>?_,λj k ds es a h1 h2 h3 h4=>?_,by rw[yC,yC];exact S.len,S.tb⟩
 ·rw[xJ] at h ⊢;by_cases XB:i=j
  ·rw[yM XB] at h ⊢;split at h
   ·rename_i hl;cases h;rw[yM (zP hl S.len)];exact⟨v,rfl,r⟩
   ·cases h
  ·rw[yO XB] at h ⊢;exact S.val j e h
 ·let⟨XB,h⟩:=ne h λe z=>by cases z
  rw[xJ,yO XB];exact S.own j ds h
 ·let⟨n1,h1⟩:=ne h1 λe z=>by cases z
  let⟨n2,h2⟩:=ne h2 λe z=>by cases z
  rw[xJ,yO n1] at h3;rw[xJ,yO n2] at h4;exact S.inj j k ds es a h1 h2 h3 h4
def lC.ajC(S:lC K Xf Xg HF H ρ σ)(hs:aY H H')(h1:H' a=some (.lst vs))(h2:HF a=none)(h3:Xg a=none)(r:aC K HF ds vs)
  (fr:∀j es,i≠j->ρ[j]?=some (.own es)->σ[j]?≠some (some (.ref a))):lC K Xf Xg HF H' (ρ.set i (.own ds)) (σ.set i (some (.ref a))):=by
 have S:=S.step hs;refine⟨S.gr,λj e h=>?_,λj es h=>?_,λj k xs ys b e1 e2 e3 e4=>?_,by rw[yC,yC];exact S.len,S.tb⟩
 ·rw[xJ] at h ⊢;by_cases XB:i=j
  ·rw[yM XB] at h;split at h<;>cases h
  ·rw[yO XB] at h ⊢;exact S.val j e h
 ·rw[xJ] at h ⊢;by_cases XB:i=j
  ·rw[yM XB] at h ⊢;split at h
   ·rename_i hl;cases h;rw[yM (zP hl S.len)];exact⟨a,vs,rfl,h1,h2,h3,r⟩
   ·cases h
  ·rw[yO XB] at h ⊢;exact S.own j es h
 ·rw[xJ] at e1 e2 e3 e4;by_cases XB:i=j
  ·by_cases hik:i=k
   ·exact XB.symm.trans hik
   ·rw[yM XB] at e1 e3;rw[yO hik] at e2 e4;split at e3
    ·cases e3;exact absurd e4 (fr k ys hik e2)
    ·cases e3
  ·by_cases hik:i=k
   ·rw[yO XB] at e1 e3;rw[yM hik] at e2 e4;split at e4
    ·cases e4;exact absurd e3 (fr j xs XB e1)
    ·cases e4
   ·rw[yO XB] at e1 e3;rw[yO hik] at e2 e4;exact S.inj j k xs ys b e1 e2 e3 e4
end
inductive Out where
 | nx (ρ:au)|rt (d:D)
def G1(K:W.Frag)(Xf Xg HF:Hp)(E:Ends):Out->Prop
 | .nx ρ'=>∀σ' H' Xh,lC K Xf Xg Xh H' ρ' σ'->aY HF Xh->E.nx σ' H'
 | .rt d=>∀v H' Xh,b9 Xf Xg Xh H'->Rep K Xh d v->E.rt v H'
def tS(K:W.Frag)(Xf Xg:Hp)(g:au->Option Out):TS:=λE σ H=>∃HF ρ o,lC K Xf Xg HF H ρ σ/\g ρ=some o/\G1 K Xf Xg HF E o
def DS(X:Cx)(Xf Xg:Hp)(st:Stmt)(g:au->Option Out):Prop:=PS X st (tS X.K Xf Xg g)
def FI(X:Cx)(Xf Xg:Hp)(st:List Stmt)(g:au->Option Out):Prop:=Bf X st (tS X.K Xf Xg g)
section
variable {X:Cx}{Xf Xg:Hp}{st:Stmt}{rest:List Stmt}{g g1 g2:au->Option Out}{e:Expr}{pos:Pos}
def cT(h:PS X st t)(i:∀E σ H,t' E σ H->t E σ H):PS X st t':=λpins s σ H E I q=>h pins s σ H E I (i E σ H q)
def sT(h:Bf X rest t)(i:∀E σ H,t' E σ H->t E σ H):Bf X rest t':=λpins s σ H E I q=>h pins s σ H E I (i E σ H q)
def dP:au->Option Out:=λρ=>some (.nx ρ)
def ar(g1 g2:au->Option Out):au->Option Out:=λρ=>(g1 ρ).bind fun|.nx ρ'=>g2 ρ'|.rt d=>some (.rt d)
def G1.mono{K:W.Frag}(s:aY HF Xh)(h:G1 K Xf Xg HF E o):G1 K Xf Xg Xh E o:=by
 cases o with
 | nx ρ'=>exactλσ' H' Xz S s2=>h σ' H' Xz S (s.trans s2)
 | rt d=>exact h
def NL:FI X Xf Xg [] dP:=sT Af λE σ H ⟨HF,ρ,o,S,hg,q⟩=>by cases hg;exact q σ H HF S (.refl _)
def L6(h1:DS X Xf Xg st g1)(h2:FI X Xf Xg rest g2):FI X Xf Xg (st::rest) (ar g1 g2):=sT (ja h1 h2) λE σ H ⟨HF,ρ,o,S,hg,q⟩=>by
 let⟨o1,h,hg⟩:=bs hg;refine⟨HF,ρ,o1,S,h,?_⟩;cases o1 with
 | nx ρ'=>exactλσ' H' Xh S' s=>⟨Xh,ρ',o,S',hg,q.mono s⟩
 | rt d=>cases hg;exact q
def Gq(h1:DS X Xf Xg st g1):FI X Xf Xg [st] g1:=Ny h1
def NR:DS X Xf Xg (.Pass pos) dP:=cT NF λE σ H ⟨HF,ρ,o,S,hg,q⟩=>by cases hg;exact q σ H HF S (.refl _)
def Qu{x j pos pos'}:DS X Xf Xg (.Expr (.Constant (.str x) j pos) pos') dP:=cT R1 λE σ H ⟨HF,ρ,o,S,hg,q⟩=>by cases hg;exact q σ H HF S (.refl _)
def dZ(t:Env->Option Bool)(g1 g2:au->Option Out):au->Option Out:=λρ=>(t (aJ ρ)).bind λb=>if b=true then g1 ρ else g2 ρ
def TR(hc:DT X c t)(ha:FI X Xf Xg a g1)(hb:FI X Xf Xg b g2):DS X Xf Xg (.If c a b pos) (dZ t g1 g2):=cT (Mv hc ha hb) λE σ H ⟨HF,ρ,o,S,hg,q⟩=>by
 let⟨b,h,hg⟩:=bs hg;refine⟨H,aJ ρ,b,.refl _,S.all,h,λH' Xh G=>?_⟩;cases b with
 | true=>exact wo ⟨HF,ρ,o,S.step G.hh,hg,q⟩
 | false=>exact sf ⟨HF,ρ,o,S.step G.hh,hg,q⟩
def Cp:∀ (ρ:au) (k n:Nat),k+ρ.length<=n->bK (hand (List.range n) k ρ)=aJ ρ
 | [],k,n,h=>rfl
 | s::r,k,n,h=>by
  have hk:(List.range n).contains k=true:=by simp at h ⊢;lia
  have ih:=Cp r (k+1) n (by simp at h;lia);unfold bK aJ at ih ⊢;rw[hand,yM hk,zI,zI,ih];cases s<;>rfl
def aV(f:Env->Option D):au->Option Out:=λρ=>(f (aJ ρ)).map Out.rt
def RT(h:DE X e f):DS X Xf Xg (.Return (some e) pos) (aV f):=cT (Ef h) λE σ H ⟨HF,ρ,o,S,hg,q⟩=>by
 let⟨d,h,rfl⟩:=ah hg;let⟨Xj,s1,S1⟩:=S.hand (List.range ρ.length);refine⟨Xj,aJ ρ,d,S1.gr.fh,?_,h,λv H' Xh G r=>q v H' Xh (S1.gr.trans G) r⟩;have:=S1.X3;rw[Cp ρ 0 ρ.length (by lia)] at this;exact this
def oW:D->Bool|.none=>true|.bool _=>true|.int _=>true|.str _=>true|_=>false
def BY{K:W.Frag}(h:oW d=true)(r:Rep K HF d v):Rep K Xh d v:=by
 cases d<;>cases h<;>(simp?[Rep] at r ⊢;exact r)
mutual
def gF:D->Bool
 | .tuple ds=>lN ds
 | .list _=>false
 | .dict _=>false
 | _=>true
def lN:List D->Bool
 | []=>true
 | d::ds=>gF d&&lN ds
end
mutual
theorem BH{K:W.Frag}{H1 H2:Hp}(ht:∀a xs,lG K H1 a xs->lG K H2 a xs):∀ {d:D}{v:V},gF d=true->Rep K H1 d v->Rep K H2 d v
 | .none,_,_,r=>by simp?[Rep] at r ⊢;exact r
 | .bool _,_,_,r=>by simp?[Rep] at r ⊢;exact r
 | .int _,_,_,r=>by simp?[Rep] at r ⊢;exact r
 | .str _,_,_,r=>by simp?[Rep] at r ⊢;exact r
 | .tuple ds,v,h,r=>by
  simp?[gF] at h;simp?[Rep] at r ⊢;let⟨a,vs,e,q,rr⟩:=r;exact⟨a,vs,e,ht _ _ q,yy ht h rr⟩
 | .list _,_,h,_=>by simp[gF] at h
 | .dict _,_,h,_=>by simp[gF] at h
theorem yy{K:W.Frag}{H1 H2:Hp}(ht:∀a xs,lG K H1 a xs->lG K H2 a xs):∀ {ds:List D}{vs:List V},lN ds=true->aC K H1 ds vs->aC K H2 ds vs
 | [],_,_,r=>by simp?[aC] at r ⊢;exact r
 | d::ds,vs,h,r=>by
  simp?[lN,zF] at h;simp?[aC] at r ⊢;let⟨v,r',e,a,b⟩:=r;exact⟨v,r',e,BH ht h.1 a,yy ht h.2 b⟩
end
def lC.back{K:W.Frag}(S:lC K Xf Xg HF H ρ σ)(S1:lC K Xf Xg Xj H YE σ)(s1:aY HF Xj)(G:b9 Xj H Xh H'):∃Xz,aY HF Xz/\lC K Xf Xg Xz H' ρ σ/\(∀d v,gF d=true->Rep K Xh d v->Rep K Xz d v)/\∀b o,Xz b=some o->Xh b=some o:=by
 have cl:=Classical.propDecidable;let O:Addr->Prop:=λa=>∃ (i:Nat) (ds:List D),ρ[i]?=some (Slot.own ds)/\σ[i]?=some (some (V.ref a));let Xz:Hp:=λa=>if O a then none else Xh a
 have hO:∀a,O a->HF a=none/\∃vs,H a=some (.lst vs):=λa ⟨i,ds,h1,h2⟩=>by
  let⟨a',vs,e1,e2,e3,_,_⟩:=S.own i ds h1;rw[h2] at e1;cases e1;exact⟨e3,vs,e2⟩
 have h2:∀a,¬ O a->Xz a=Xh a:=λa n=>yO n;have h3:∀a,O a->Xz a=none:=λa n=>yM n;have sa:aY HF Xz:=λb o e=>by
  have nb:¬ O b:=λz=>by rw[(hO b z).1] at e;cases e
  rw[h2 b nb];exact G.ff b o (s1 b o e)
 have sb:∀b o,Xz b=some o->Xh b=some o:=λb o e=>by
  by_cases z:O b
  ·rw[h3 b z] at e;cases e
  ·rwa [h2 b z] at e
 have g2:=S1.gr.trans G;refine⟨Xz,sa,⟨⟨g2.hh,S.gr.ff.trans sa,λb o e=>G.fh b o (sb b o e),λb o e=>g2.nw b o (sb b o e)⟩,λi d h=>?_,λi ds h=>?_,S.inj,S.len,S.tb.mono sa⟩,λd v hn r=>BH (λa xs q=>?_) hn r,sb⟩
 ·let⟨v,e1,r⟩:=S.val i d h;exact⟨v,e1,r.mono sa⟩
 ·let⟨a,vs,e1,e2,e3,e5,e4⟩:=S.own i ds h;exact⟨a,vs,e1,G.hh _ _ e2,h3 a ⟨i,ds,h,e1⟩,e5,e4.mono sa⟩
 ·have nt:∀o,Xh a=some o->(∀vs,o≠.lst vs)->Xz a=some o:=λo e XA=>by
   by_cases z:O a
   ·let⟨_,vs,e2⟩:=hO a z;have:=G.hh _ _ e2;rw[G.fh a o e] at this;cases this;exact absurd rfl (XA vs)
   ·rw[h2 a z];exact e
  rcases q with (q|⟨o,q⟩)|q
  ·exact .inl (.inl (nt _ q λvs z=>by cases z))
  ·exact .inl (.inr ⟨o,nt _ q λvs z=>by cases z⟩)
  ·exact .inr q
def aD(i:Nat)(fz:List Nat)(f:Env->Option D):au->Option Out:=λρ=>(f (aJ ρ)).bind λd=>if oW d=true then some (.nx (ρ.set i (.val d))) else (f (bK (hand fz 0 ρ))).map λd'=>.nx ((if gF d'=true then ρ else hand fz 0 ρ).set i (.val d'))
def SL:∀E σ H,tS X.K Xf Xg (aD i fz f) E σ H->Kb (tD X.K f) (BM i) E σ H:=λE σ H ⟨HF,ρ,o,S,hg,q⟩=>by
 let⟨d,h,hg⟩:=bs hg;split at hg
 ·rename_i hs;cases hg;exact⟨H,aJ ρ,d,.refl _,S.all,h,λv H' Xh G r=>q _ H' HF ((S.step G.hh).Yk (BY hs r)) (.refl _)⟩
 ·let⟨d',h',rfl⟩:=ah hg;let⟨Xj,s1,S1⟩:=S.hand fz;refine⟨Xj,_,d',S1.gr.fh,S1.X3,h',λv H' Xh G r=>?_⟩;by_cases hn:gF d'=true
  ·rw[yM hn] at q;let⟨Xz,s2,S2,hb,_⟩:=S.back S1 s1 G;exact q _ H' Xz (S2.Yk (hb d' v hn r)) s2
  ·rw[yO hn] at q;exact q _ H' Xh ((S1.grow G).Yk r) (s1.trans G.ff)
def QH(i:Nat)(fz:List Nat)(hN:X.N.Nodup)(hi:X.N[i]?=some x)(hx:Loc X.env.scope x)(he:DE X e f)(hs:swapsWith e (some (.Name x pos')) pos.line X.env=pure false:=by rfl)
  (hf:X.fn x=true\/X.env.scope.names.lookup x=some .local:=by first|exact .inl rfl|exact .inr rfl|assumption):DS X Xf Xg (.Assign [.Name x pos'] e pos) (aD i fz f):=cT (uV hN hi hx he hs hf) SL
def aU(i:Nat)(fz:List Nat)(f:Env->Option (List D)):au->Option Out:=λρ=>(f (bK (hand fz 0 ρ))).map λds=>.nx ((hand fz 0 ρ).set i (.own ds))
def Mr:∀E σ H,tS X.K Xf Xg (aU i fz f) E σ H->Kb (tF X.K f) (BM i) E σ H:=λE σ H ⟨HF,ρ,o,S,hg,q⟩=>by
 let⟨ds,h,rfl⟩:=ah hg;let⟨Xj,s1,S1⟩:=S.hand fz;refine⟨Xj,_,ds,S1.gr.fh,S1.X3,h,λa vs H' Xh G ha hf h' r=>q _ H' Xh ?_ (s1.trans G.ff)⟩;have S2:=S1.grow G;refine S2.ajC (.refl _) h' hf (S1.gr.hh.free ha) r λj es _ hj z=>?_;let⟨b,us,e1,e2,_⟩:=S1.own j es hj;rw[e1] at z;cases z;rw[ha] at e2;cases e2
def Bp(i:Nat)(fz:List Nat)(hN:X.N.Nodup)(hi:X.N[i]?=some x)(hx:Loc X.env.scope x)(he:DF X e f)(hs:swapsWith e (some (.Name x pos')) pos.line X.env=pure false:=by rfl)
  (hf:X.fn x=true\/X.env.scope.names.lookup x=some .local:=by first|exact .inl rfl|exact .inr rfl|assumption):DS X Xf Xg (.Assign [.Name x pos'] e pos) (aU i fz f):=cT (uV hN hi hx he hs hf) Mr
def M8(i:Nat)(fz:List Nat){cs:List Nat}
  (hc:X.calm=true) (S:kb X scope N (l5 t cs)) (hi:DI X tg iter fi)
  (hY:∀fp s H,DG (bq X scope N fp s H) tg tgt/\TM (bq X scope N fp s H) ifs tt/\DE (bq X scope N fp s H) elt te)
  (hN:X.N.Nodup) (hiy:X.N[i]?=some y) (hy:X.env.scope.names.lookup y=some .local)
  (hsw:swapsWith (.ListComp elt [⟨tg,iter,ifs,0⟩] scope pos) (some (.Name y py)) Yt.line X.env=pure true)
  (hs:∀x,foldedSetIterable iter X.env x=pure x:=by intro _;rfl):DS X Xf Xg (.Assign [.Name y py] (.ListComp elt [⟨tg,iter,ifs,0⟩] scope pos) Yt) (aU i fz (ax t cs fi tgt tt te)) :=
 cT (NJ (g:=UT X.K tgt) (tt:=QC X.K tt) (te:=tD X.K te) hc S hi hY hN hiy hy hsw hs) λE σ H q=>by
  have:=Mr E σ H q;exact L7 σ H _ this
def WJ(K:W.Frag)(Xf Xg:Hp)(f:au->D->Option au):TG:=λv σ H Q=>∃HF ρ d ρ',lC K Xf Xg HF H ρ σ/\Rep K HF d v/\f ρ d=some ρ'/\∀σ',lC K Xf Xg HF H ρ' σ'->Q σ' H
def UM(X:Cx)(Xf Xg:Hp)(tg:Expr)(f:au->D->Option au):Prop:=PG X tg (WJ X.K Xf Xg f)
def iZ(i:Nat):au->D->Option au:=λρ d=>some (ρ.set i (.val d))
def JM(i:Nat)(hN:X.N.Nodup)(hi:X.N[i]?=some x)(hx:Loc X.env.scope x)(hf:X.fn x=true\/X.env.scope.names.lookup x=some .local:=by first|exact .inl rfl|exact .inr rfl|assumption):UM X Xf Xg (.Name x pos) (iZ i) :=
 ub (eC hN hi hx hf) λv σ H Q ⟨HF,ρ,d,ρ',S,r,hf,q⟩=>by cases hf;exact q _ (S.Yk r)
def fj(i j:Nat):au->D->Option au:=λρ d=>match d with
 | .tuple [x,y]=>some ((ρ.set i (.val x)).set j (.val y))
 | _=>none
def OQ(i j:Nat){px py:Pos}{k:Nat}(hc:X.calm=true)(hN:X.N.Nodup)(hi:X.N[i]?=some x)(hx:Loc X.env.scope x)(hj:X.N[j]?=some y)(hy:Loc X.env.scope y)
  (hf:X.fn x=true\/X.env.scope.names.lookup x=some .local:=by first|exact .inl rfl|exact .inr rfl|assumption) (hf':X.fn y=true\/X.env.scope.names.lookup y=some .local:=by first|exact .inl rfl|exact .inr rfl|assumption) :
  UM X Xf Xg (.Tuple [.Name x px,.Name y py] k pos) (fj i j) :=
 ub (A3 hc (ej (eC hN hi hx hf) (ej (eC hN hj hy hf') sS))) λv σ H Q ⟨HF,ρ,d,ρ',S,r,hf,q⟩=>by
  unfold fj at hf;split at hf
  ·cases hf;simp?[Rep] at r;let⟨a,vs,rfl,hs,rr⟩:=r;let⟨v1,r1,rfl,a1,b1⟩:=rr.cons_inv;let⟨v2,r2,rfl,a2,b2⟩:=b1.cons_inv;rw[b2.nil_inv] at hs;exact⟨a,_,rfl,aR S.gr.fh hs,rfl,v1,_,rfl,v2,_,rfl,rfl,q _ ((S.Yk a1).Yk a2)⟩
  ·cases hf
def cJ(tgt:au->D->Option au)(gb:au->Option Out):List D->au->Option Out
 | [],ρ=>some (.nx ρ)
 | d::ds,ρ=>(tgt ρ d).bind λYE=>(gb YE).bind fun|.nx YF=>cJ tgt gb ds YF|.rt v=>some (.rt v)
def dC(fz:List Nat)(fi:Env->Option (List D))(tgt:au->D->Option au)(gb:au->Option Out):au->Option Out:=λρ=>(fi (bK (hand fz 0 ρ))).bind λds=>cJ tgt gb ds (hand fz 0 ρ)
def Q7(fz:List Nat)(hp:PassesOwn (model X.prog X.w) X.A X.env X.xe)(hc:X.calm=true)(hi:DI X tg iter fi)(hg:UM X Xf Xg tg tgt)(hb:FI X Xf Xg body gb)
  (hs:∀x,foldedSetIterable iter X.env x=pure x:=by intro _;rfl):DS X Xf Xg (.For tg iter body [] pos) (dC fz fi tgt gb):=cT (Rp hp hc hi hg hb hs) λE σ H ⟨HF,ρ,o,S,hg,q⟩=>by
 let⟨ds,h,hg⟩:=bs hg;let⟨Xj,s1,S1⟩:=S.hand fz;refine⟨Xj,_,ds,S1.gr.fh,S1.X3,h,λJ H2 Xz G it=>?_⟩;refine⟨λi m σ' H'=>m+i=ds.length/\∃Xh ρ',lC X.K Xf Xg Xh H' ρ' σ'/\aY Xz Xh/\cJ tgt gb (ds.drop i) ρ'=some o,⟨ds.length,rfl,Xz,_,S1.grow G,.refl _,hg⟩,?_⟩;rintro i m σ' H' ⟨hm,Xh,ρ',S',s',hf⟩;by_cases hi:i < ds.length
 ·refine .inr ?_;have hd:ds.drop i=ds[i]::ds.drop (i+1):=vI hi;have he:ds[i]?=some ds[i]:=List.getElem?_eq_some_iff.mpr ⟨hi,rfl⟩;generalize ds[i]=d at hd he;rw[hd] at hf;unfold cJ at hf;let⟨YE,h1,hf⟩:=bs hf;let⟨o1,h2,hf⟩:=bs hf;let⟨go,yld⟩:=it.go i d H' Xh he s' S'.gr.fh;refine⟨go,λZP H3=>∃X1 ρ3,lC X.K Xf Xg X1 H3 ρ3 ZP/\aY Xz X1/\cJ tgt gb (ds.drop (i+1)) ρ3=some o,λZP H3 ⟨X1,ρ3,a1,a2,a3⟩=>⟨m - 1,by lia,by lia,X1,ρ3,a1,a2,a3⟩,λx H3 y=>?_⟩;let⟨X1,G3,rx⟩:=yld x H3 y;refine⟨X1,ρ',d,YE,S'.grow G3,rx,h1,λZP S2=>⟨X1,YE,o1,S2,h2,?_⟩⟩;cases o1 with
  | nx YF=>exactλσ4 H4 YR S4 s4=>⟨YR,YF,S4,(s'.trans G3.ff).trans s4,hf⟩
  | rt d=>cases hf;exact q
 ·have YB:i=ds.length:=by lia
  subst YB;rw[List.drop_length] at hf;cases hf;exact .inl ⟨it.stop H' Xh s' S'.gr.fh,q σ' H' Xh S' ((s1.trans G.ff).trans s')⟩
end
def Oo(X:Cx)(sc:Scope):Prop:=∀x k,sc.names.lookup x=some k->X.env.kindOf x=some k\/(k=.free/\X.env.kindOf x=some .cell)
structure Bk(X:Cx)(N:List Str)(sc:Scope)(k:Nat):Prop where
 n:X.N=N
 nd:N.Nodup
 tb:Oo X sc
 calm:X.calm=true
 fn:∀x,sc.names.lookup x=some .cell->X.fn x=true
 room:ft k X.A
 xe:X.xe=λ_ _=>False
 kd:X.env.scope.kind=.function
def cP:List Str:=["len","isinstance","int","bool","tuple","list","range","all","any","set","sorted","enumerate","zip","sum","min","max","reversed","abs","dict","str","type","iter","next"]
def Bn(X:Cx):Prop:=∀x∈cP,X.mg x=none
def Bq(sc:Scope)(x:Str):Bool:=decide (sc.names.lookup x=some .globalImplicit)
def Hm(N:List Str)(sc:Scope)(i:Nat)(x:Str):Bool:=decide (N[i]?=some x)&&(decide (sc.names.lookup x=some .local)||decide (sc.names.lookup x=some .cell)||decide (sc.names.lookup x=some .free))&&!(x == ("__debug__":Str))&&!(x == ("__classdict__":Str))
def tG(N:List Str)(sc:Scope)(i:Nat)(x:Str):Bool:=decide (N[i]?=some x)&&(decide (sc.names.lookup x=some .local)||decide (sc.names.lookup x=some .cell))
def Bk.gl(C:Bk X N sc k)(h:Bq sc x=true):Gl X x:=by
 rcases C.tb x _ (yR h) with q|⟨q,_⟩
 ·exact q
 ·cases q
def Bk.vis(C:Bk X N sc k)(h:Hm N sc i x=true):X.N[i]?=some x/\MT X.env.scope x/\(x == ("__debug__":Str))=false/\(x == ("__classdict__":Str))=false:=by
 unfold Hm at h;simp?[zF,jC,zJ,yQ] at h;let⟨⟨⟨h1,h2⟩,h3⟩,h4⟩:=h;refine⟨by rw[C.n];exact h1,?_,h3,h4⟩;rcases h2 with (h2|h2)|h2
 ·rcases C.tb x _ h2 with q|⟨q,_⟩
  ·exact .inl q
  ·cases q
 ·rcases C.tb x _ h2 with q|⟨q,_⟩
  ·exact .inr (.inl q)
  ·cases q
 ·rcases C.tb x _ h2 with q|⟨_,q⟩
  ·exact .inr (.inr q)
  ·exact .inr (.inl q)
def Bk.loc(C:Bk X N sc k)(h:tG N sc i x=true):X.N.Nodup/\X.N[i]?=some x/\Loc X.env.scope x/\(X.fn x=true\/X.env.scope.names.lookup x=some .local):=by
 unfold tG at h;simp?[zF,jC,zJ] at h;let⟨h1,h2⟩:=h;refine⟨by rw[C.n];exact C.nd,by rw[C.n];exact h1,?_⟩;rcases h2 with h2|h2
 ·rcases C.tb x _ h2 with q|⟨q,_⟩
  ·exact⟨.inl q,.inr q⟩
  ·cases q
 ·rcases C.tb x _ h2 with q|⟨q,_⟩
  ·exact⟨.inr q,.inl (C.fn x h2)⟩
  ·cases q
def Bk.blt(C:Bk X N sc k)(B:Bn X)(h:Bq sc x=true)(hm:x∈cP)(hv:bootBuiltins x=some v):vg X x v:=⟨C.gl h,B x hm,hv⟩
def Bk.v(C:Bk X N sc k)(i:Nat)(h:Hm N sc i x=true):DE X (.Name x pos) (ae i):=let ⟨a,b,c,d⟩:=C.vis h;Sv i a b c d
def Bk.pass(C:Bk X N sc k):PassesOwn (model X.prog X.w) X.A X.env X.xe:=by rw[C.xe];exact PassesOwn.never
def qk(sc scope:Scope)(N N':List Str)(t:Nat)(cs:List Nat):Bool :=
 decide (scope.kind=.function)&&scope.names.all (λp=>(!decide (p.2=NameKind.free)||decide (sc.names.lookup p.1=some .cell)||decide (sc.names.lookup p.1=some .free))&&(!decide (p.2=NameKind.local)||decide (scope.names.lookup p.1=some .local)))
  &&scope.names.all (λp=>!decide (p.2=NameKind.cell)||!scope.names.any λq=>decide (q.1=p.1)&&decide (q.2=NameKind.free))
  &&decide (N'.length=t+cs.length)&&decide (N'.drop t=cs.filterMap λj=>N[j]?)&&cs.all (λj=>decide (j < N.length))&&(N'.drop t).all (λx=>decide (scope.names.lookup x=some .free))&&decide N'.Nodup
def filterMap_get(N:List α):∀ (cs:List Nat),(∀j∈cs,j < N.length)->∀ (i:Nat),(cs.filterMap λj=>N[j]?)[i]?=(cs[i]?).bind λj=>N[j]?
 | [],_,i=>by simp
 | c::cs,h,i=>by
  have hc:=h c zE;rw[jH,zK hc];cases i with
  | zero=>simp[hc]
  | succ i =>
   simp?[yZ];exact filterMap_get N cs (λj hj=>h j (zC _ hj)) i
def Bk.comp(C:Bk X N sc k){cs:List Nat}(h:qk sc scope N N' t cs=true):kb X scope N' (l5 t cs)/\∀fp s H,Bk (bq X scope N' fp s H) N' scope k:=by
 unfold qk at h;simp?[zF,zJ,xH,jC,yQ,xC] at h;obtain⟨⟨⟨⟨⟨⟨⟨h1,h2⟩,h3⟩,h4⟩,h5⟩,h6⟩,h7⟩,h8⟩:=h;refine⟨⟨h1,λx hx hk=>?_,λ{x} a b=>?_,λx hx hk=>?_,λσ i x v e1 e2=>?_,λσ=>?_⟩,λfp s H=>⟨rfl,h8,λx k hx=>qc hx,C.calm,λx hx=>yA hx,C.room,rfl,h1⟩⟩
 ·rcases (h2 x hx).1 with (q|q)|q
  ·exact absurd hk q
  ·rcases C.tb _ _ q with z|⟨z,_⟩
   ·exact .inl z
   ·cases z
  ·rcases C.tb _ _ q with z|⟨_,z⟩
   ·exact .inr z
   ·exact .inl z
 ·rcases h3 _ a with q|q
  ·exact q rfl
  ·have:(scope.names.any λq=>decide (q.1=x)&&decide (q.2=NameKind.free))=true:=List.any_eq_true.mpr ⟨_,b,by simp⟩;rw[this] at q;cases q
 ·rcases (h2 x hx).2 with q|q
  ·exact absurd hk q
  ·exact q
 ·unfold l5 at e2;by_cases hi:i < t
  ·rw[yT (by simpa using hi),yY,yM hi] at e2;cases e2
  ·rw[yU (by simpa using hi),zO,xN] at e2;let⟨j,hj,e2⟩:=ah e2;have e3:(N'.drop t)[i - t]?=some x:=by rw[List.getElem?_drop];rw[show t+(i - t)=i by lia];exact e1
   refine⟨h7 x (qC e3),j,?_,?_⟩
   ·rw[h5,filterMap_get N cs h6,hj] at e3;rw[C.n];exact e3
   ·cases e:σ[j]? with
    | none=>rw[e] at e2;cases e2
    | some o=>rw[e] at e2;have e2:o=some v:=e2;rw[e2]
 ·unfold l5;rw[zN,xN,zD,h4]
def bf(g:au->Option Out)(n:Nat)(args:List D):Option D:=(g (args.map Slot.val++List.replicate (n - args.length) .Xe)).map fun|.rt d=>d|.nx _=>.none
def Px{K:W.Frag}{st:Stmt}(F:Kx K x qual st f fd)(S:dq N ps (ao st))
  (body:∀X:Cx,X.prog=P->X.w=w->X.K=K->X.mg=mg->X.base=base->Bk X N (ao st) k->X.env.code=fd.code->X.env.qual=qual++".<locals>."->∀Xf Xg,FI X Xf Xg (bF st) g):pY P w K mg base MX (k+1) f fd ps (Uu K ps.length (bf g N.length)):=by
 let⟨oc,od,kV,doc,pm,an,Xy,ct,Zu,rfl,lk,XM⟩:=F.ex;refine JA lk XM S (λvs H Q E ⟨HF,ds,d,h1,_,h2,h3,_⟩=>by rw[h2.length,h3]) λA outer s H vs Q E hr ⟨HF,ds,d,sm,tb,rr,hl,hd,q⟩=>?_;refine⟨_,(body (uz MX P w K mg base N qual (ao st) f Xy A outer s H E).XN rfl rfl rfl rfl rfl ⟨rfl,S.nd,λy kd hy=>.inl hy,rfl,λ_ _=>rfl,hr,rfl,S.kind⟩ rfl rfl HF H).XN,?_⟩;unfold bf at hd;let⟨o,ho,hd⟩:=ah hd;have Yb:ps.length<=N.length:=by have:=jD List.length S.pre;rw[jX] at this;lia
 refine⟨HF,_,o,⟨.refl sm,λi e h=>?_,λi es h=>?_,λi j es fs a h=>?_,?_,tb⟩,ho,?_⟩
 ·have hi:i < ds.length:=by
   by_cases hi:i < ds.length
   ·exact hi
   ·rw[yU (by simpa using hi),yY] at h;split at h<;>cases h
  rw[yT (by simpa using hi),zO] at h;let⟨d',hd',h⟩:=ah h;cases h;let⟨v,hv,rv⟩:=rr.getD hd';refine⟨v,?_,rv⟩;unfold L2.start;rw[yT (by simpa [rr.length] using hi),zO,hv];rfl
 ·exfalso;by_cases hi:i < ds.length
  ·rw[yT (by simpa using hi),zO] at h;let⟨d',hd',h⟩:=ah h;cases h
  ·rw[yU (by simpa using hi),yY] at h;split at h<;>cases h
 ·exfalso;by_cases hi:i < ds.length
  ·rw[yT (by simpa using hi),zO] at h;let⟨d',hd',h⟩:=ah h;cases h
  ·rw[yU (by simpa using hi),yY] at h;split at h<;>cases h
 ·unfold L2.start;rw[zN,zN,zD,zD,xN,xN,rr.length];exact yN _
 ·cases o with
  | rt d'=>cases hd;exactλv H' Xh G r=>q v H' Xh G r
  | nx ρ'=>cases hd;exactλσ' H' Xh S' _=>q .Xe H' Xh S'.gr (by simp[Rep])
def Wi{K:W.Frag}{st:Stmt}(F:Kx K x qual st f fd)(S:dq N ps (ao st))(hb:Binds K fd ps [])(hm:mg x=some (.ref f))
  (body:∀X:Cx,X.prog=P->X.w=w->X.K=K->X.mg=mg->X.base=base->Bk X N (ao st) k->X.env.code=fd.code->X.env.qual=qual++".<locals>."->∀Xf Xg,FI X Xf Xg (bF st) g):dG P w K mg base (k+1) x ps.length (bf g N.length):=⟨f,fd,ps,Px F S body,hm,F.kp,hb⟩
def mZ(fz:List Nat)(f:Env->Option D)(ρ:au):Option (D×au):=(f (aJ ρ)).bind λd=>if oW d=true then some (d,ρ) else (f (bK (hand fz 0 ρ))).map λd'=>(d',hand fz 0 ρ)
def qj{K:W.Frag}(S:lC K Xf Xg HF H ρ σ)(h:mZ fz f ρ=some (d,ρ'))
  (q:∀v H' Xh,aY HF Xh->lC K Xf Xg Xh H' ρ' σ->aY H H'->Rep K Xh d v->Q v H'):tD K f σ H Q:=by
 let⟨d1,h1,h⟩:=bs h;split at h
 ·rename_i hs;cases h;exact⟨H,aJ ρ,d,.refl _,S.all,h1,λv H' Xh G r=>q v H' HF (.refl _) (S.step G.hh) G.hh (BY hs r)⟩
 ·let⟨d2,h2,h⟩:=ah h;cases h;let⟨Xj,s1,S1⟩:=S.hand fz;exact⟨Xj,_,d,S1.gr.fh,S1.X3,h2,λv H' Xh G r=>q v H' Xh (s1.trans G.ff) (S1.grow G) G.hh r⟩
def sD(i:Nat)(m:List D->Option (List D))(ρ:au):Option Out:=match ρ[i]? with
 | some (.own ds)=>(m ds).map λes=>.nx (ρ.set i (.own es))
 | _=>none
def mF(h:sD i m ρ=some o):∃ds es,ρ[i]?=some (.own ds)/\m ds=some es/\o=.nx (ρ.set i (.own es)):=by
 unfold sD at h;split at h
 ·rename_i ds hd;let⟨es,h1,h2⟩:=ah h;exact⟨ds,es,hd,h1,h2.symm⟩
 ·cases h
def lC.mut{K:W.Frag}(S:lC K Xf Xg HF H ρ σ)(h:ρ[i]?=some (.own ds))(ha:σ[i]?=some (some (.ref a)))(hH:H a=some (.lst vs))(r:aC K HF es us) :
  lC K Xf Xg HF (upd H a (.lst us)) (ρ.set i (.own es)) σ:=by
 let⟨a',vs',e1,e2,e3,e5,e4⟩:=S.own i ds h;rw[ha] at e1;cases e1;have hl:i < ρ.length:=(List.getElem?_eq_some_iff.mp h).1;have gr:b9 Xf Xg HF (upd H a (.lst us)):=⟨λb o e=>by rw[aG (ba e e5)];exact S.gr.hh b o e,S.gr.ff,λb o e=>by rw[aG (ba e e3)];exact S.gr.fh b o e,S.gr.nw⟩
 refine⟨gr,λj d hj=>?_,λj xs hj=>?_,λj k xs ys b f1 f2 f3 f4=>?_,by rw[yC];exact S.len,S.tb⟩
 ·rw[xJ] at hj;by_cases XB:i=j
  ·rw[yM XB] at hj;split at hj<;>cases hj
  ·rw[yO XB] at hj;exact S.val j d hj
 ·rw[xJ] at hj;by_cases XB:i=j
  ·subst XB;rw[yM rfl,yM hl] at hj;cases hj;exact⟨a,us,ha,aO,e3,e5,r⟩
  ·rw[yO XB] at hj;let⟨b,ws,f1,f2,f3,f5,f4⟩:=S.own j xs hj;refine⟨b,ws,f1,?_,f3,f5,f4⟩;rw[aG]
   ·exact f2
   ·rintro rfl;exact XB (S.inj i j ds xs b h hj ha f1)
 ·have old:∀ {j:Nat}{xs:List D},(ρ.set i (.own es))[j]?=some (.own xs)->∃ys,ρ[j]?=some (.own ys):=λ{j xs} hj=>by
   rw[xJ] at hj;by_cases XB:i=j
   ·subst XB;exact⟨ds,h⟩
   ·rw[yO XB] at hj;exact⟨xs,hj⟩
  let⟨xs',g1⟩:=old f1;let⟨ys',g2⟩:=old f2;exact S.inj j k xs' ys' b g1 g2 f3 f4
def jc(i:Nat)(fz:List Nat)(f:Env->Option D):au->Option Out:=λρ=>(mZ fz f ρ).bind λp=>sD i (λds=>if ds.length < sizeLine then some (ds++[p.1]) else none) p.2
def Iv(i:Nat)(fz:List Nat)(hN:X.N[i]?=some x)(hv:MT X.env.scope x)(h:DE X e f)(hd:(x == ("__debug__":Str))=false:=by decide)(XM:(x == ("__classdict__":Str))=false:=by decide)
  (Yi:((backTo cpos (starEach [e] X.env)).all (λx=>!x.1)&&(backToKw cpos (keywordEach [] X.env)).all (λx=>x.1.isSome)&&decide ([e].length+([]:List Keyword).length+(if ([]:List Keyword).isEmpty then 0 else 1) < 30))=true:=by rfl)
  (Xv:(apos.endLine == cpos.line)=true:=by rfl) (hs:starEach [e] X.env=(false,eval e X.env)::starEach [] X.env:=by rfl) :
  DS X Xf Xg (.Expr (.Call (.Attribute (.Name x px) "append" apos) [e] [] cpos) pos) (jc i fz f) :=
 cT (oV (uR qP PySem.F.slot_list_append PySem.F.type_list_append yu (kg hN hv hd XM) (cL h fE hs) rfl Yi Xv hs rfl)) λE σ H ⟨HF,ρ,o,S,hg,q⟩=>by
  let⟨⟨d,ρ'⟩,h1,hg⟩:=bs hg;let⟨ds,es,h2,h3,rfl⟩:=mF hg;have Zx:∃ds',ρ[i]?=some (.own ds'):=by
   let⟨d1,_,h1⟩:=bs h1;split at h1
   ·cases h1;exact⟨ds,h2⟩
   ·let⟨d2,_,h1⟩:=ah h1;cases h1;rw[jn] at h2;let⟨s,hs,h2⟩:=ah h2;cases s with
    | Xe=>split at h2<;>cases h2
    | val _=>split at h2<;>cases h2
    | own xs=>exact⟨xs,hs⟩
  let⟨ds',Zx⟩:=Zx;let⟨a,vs,e1,e2,e3,e5,e4⟩:=S.own i ds' Zx;refine⟨.ref a,e1,.inl ⟨rfl,vs,iW.of e2⟩,qj S h1 λv H' Xh s1 S' sh r=>?_⟩;let⟨a',vs',f1,f2,f3,f5,f4⟩:=S'.own i ds h2;rw[e1] at f1;cases f1;split at h3
  ·rename_i hz;cases h3;exact⟨a,vs',v,rfl,rfl,f2,by rw[f4.length];exact hz,q σ _ Xh (S'.mut h2 e1 f2 (f4.append (aC.cons r aC.nil))) s1⟩
  ·cases h3
def z6(K:W.Frag)(o:Obj):Option (Addr×Str):=match o.data with
 | .func fd=>if lP.contains fd.qualname=true then (match fd.code with
   | .ref c=>(match K.lookup c with
    | some ⟨_,_,.fields vs,_⟩=>(match (vs[11]?:Option Value) with
     | some (.ref P)=>if W.codeHdIn K c P=true then some (P,fd.qualname++".<locals>."++"<lambda>") else none
     | _=>none)
    | _=>none)
   | _=>none) else none
 | _=>none
def iS(K:W.Frag):List (Addr×Str):=K.filterMap λp=>z6 K p.2
def pw(K:W.Frag)(ts:List Addr):Bool:=(iS K).all λp=>ts.contains p.1&&(K.lookup p.1).isNone&&decide ((iS K).lookup p.1=some p.2)
def Cm{K:W.Frag}(h:z6 K o=some (P,q)):∃c,W.codeHdIn K c P=true:=by
 unfold z6 at h;split at h
 ·split at h
  ·split at h
   ·split at h
    ·split at h
     ·split at h
      ·cases h;exact⟨_,‹_›⟩
      ·cases h
     ·cases h
    ·cases h
   ·cases h
  ·cases h
 ·cases h
def BZ{K:W.Frag}(h:(P,q)∈iS K):∃c,W.codeHdIn K c P=true:=by
 let⟨p,_,e⟩:=List.mem_filterMap.mp h;exact Cm e
def Fp{K:W.Frag}(a:K.lookup f=some ⟨oc,od,.func fd,sl⟩)(b:fd.qualname∈lP)(d:fd.code=.ref c)(e:W.codeHdIn K c P=true) :
  (P,fd.qualname++".<locals>."++"<lambda>")∈iS K:=by
 refine List.mem_filterMap.mpr ⟨(f,_),W.mem_of_lookupK a,?_⟩;have e':=e;unfold W.codeHdIn at e';unfold z6;simp?[d,List.contains_iff_mem,b,xI];split at e'
 ·rename_i vs sl' hl;simp?[hl];simp?[zF] at e';have e1:=e'.1.1.1.1.1;split at e1
  ·rename_i P' hv;have:P'=P:=by simpa using e1
   subst this;simp?[hv,e,xI]
  ·cases e1
 ·cases e'
def Jr:∀ {l:List (Addr×α)},l.lookup b=some q->(b,q)∈l
 | [],e=>by cases e
 | (c,x)::r,e=>by
  rw[yB] at e;cases h:b == c with
  | true=>rw[h] at e;cases e;rw[eq_of_beq h];exact zE
  | false=>rw[h] at e;exact zC _ (Jr e)
def gJ(K:W.Frag)(h0:Hp):Hp:=λb=>match (iS K).lookup b with|some q=>some (.tab q)|none=>h0 b
def Hx{K:W.Frag}(h:pw K ts=true):fA K (gJ K h0):=λf oc od fd sl c P a b d e=>by
 have hm:=Fp a b d e;have:=List.all_eq_true.mp h _ hm;simp?[zF,zJ] at this;unfold gJ;rw[this.2]
def Hu{w:World}{K:W.Frag}{CX:Nc}{k:Nat}{fa:Addr}{fd:FuncData}{sp:Sp}{vs:List Value}{ns:List Int}
  (KX:K.In Xl.heap) (ZU:Xl.heap.Ns mainGlobals mg) (hb:Xl.heap.Ns builtinsNs mb) (hbb:∀x:Str,x≠"__name__"->mb x=bootBuiltins x) (abo:Xl.heap.NoLimit) (hbm:UN mg Xl.heap) (hg:Xl.gens=#[])
  (ht:pw K ts=true) (hts:∀P∈ts,Xl.heap.get? P=some (W.tabObj #[]))
  (ha:Xl.heap.get? a=some { cls:=.type "list",data:=.seq vs.toArray }) (hi:IntsAre vs ns) (hl:ns.length<=sizeLine) (hr:ft k callerA)
  (F:∀base:Heap,K.In base->base.Ns mainGlobals mg->pY P w K mg base CX k fa fd [x] sp) (aeH:∀ (s:Shared) (u:Value),BindsTo s fd ⟨[u],[]⟩ [(x,u)])
  (hsp:∀H:Hp,fA K H->iW K H a (ns.map V.int)->sp [.ref a] H (λv _=>v=.bl true) λ_ _ _=>False)
  (hCX:∀H e s',CX [] H Xl (λ_ _ _=>False) e s'->False) :
  codeAny (model P w) callerA (.call (.ref fa) ⟨[.ref a],[]⟩) (λr s'=>r=.ok (.ret (.bool true))/\OldK Xl.heap s'.heap/\s'.os=Xl.os/\AllBare s'.gens) Xl:=by
 have rv:=xo hi;have ajH:=hi.length;have tabAt:∀b q,(iS K).lookup b=some q->Xl.heap.get? b=some (W.tabObj #[])/\K.lookup b=none/\∃c,W.CodeHd Xl.heap c b:=λb q e=>by
  have hm:=Jr e;have:=List.all_eq_true.mp ht _ hm;simp?[zF,zJ,List.contains_iff_mem,Option.isNone_iff_eq_none] at this;let⟨c,hc⟩:=BZ hm;exact⟨hts b this.1.1,this.1.2,c,W.codeHd_of_K KX hc⟩
 have aT:(iS K).lookup a=none:=by
  cases e:(iS K).lookup a with
  | none=>rfl
  | some q=>have:=(tabAt a q e).1;rw[ha] at this;cases this
 have core:∀h0:Hp,iW K (gJ K h0) a (ns.map V.int)->pK P w (gJ K h0) Xl.heap->(∀b,h0 b≠none->b=a)->(h0 a≠none->K.lookup a=none)->(∀b,h0 b=none\/∃o xs,h0 b=some (.X3 o (.lst xs))) ->
   codeAny (model P w) callerA (.call (.ref fa) ⟨[.ref a],[]⟩) (λr s'=>r=.ok (.ret (.bool true))/\OldK Xl.heap s'.heap/\s'.os=Xl.os/\AllBare s'.gens) Xl:=by
  intro h0 hS Xi hA hK hO;have look:∀b u,gJ K h0 b=some u->(∃q,(iS K).lookup b=some q/\u=.tab q)\/(b=a/\h0 b=some u):=λb u e=>by
   unfold gJ at e;split at e
   ·rename_i q hq;cases e;exact .inl ⟨q,hq,rfl⟩
   ·exact .inr ⟨hA b (by rw[e];simp),e⟩
  have o7:∀ {b:Addr}{o:Obj},Xl.heap.get? b=some o->gJ K h0 b=none->(AH Xl.heap (gJ K h0)).get? b=some o:=λe n=>K6 e n;have noA:∀ {b:Addr}{o:Obj},Xl.heap.get? b=some o->(∀vs n,o.data≠.seq vs n)->(∀vs,o.data≠.fields vs)->gJ K h0 b=none:=λ{b o} e d d2=>by
   cases q:gJ K h0 b with
   | none=>rfl
   | some u =>
    rcases look b u q with ⟨q',z,_⟩|⟨z,_⟩
    ·rw[(tabAt b q' z).1] at e;cases e;exact absurd rfl (d2 _)
    ·subst z;rw[ha] at e;cases e;exact absurd rfl (d _ _)
  have nsK:∀ {b:Addr}{m:Str->Option Value},Xl.heap.Ns b m->(AH Xl.heap (gJ K h0)).Ns b m:=λ{b m} ⟨o,es,ep,e,d,r⟩=>⟨o,es,ep,o7 e (noA e (λ_ _ z=>by rw[d] at z;cases z) λ_ z=>by rw[d] at z;cases z),d,r⟩
  have hKb:K.In (AH Xl.heap (gJ K h0)):=λb o e=>o7 (KX b o e) (by
   cases q:gJ K h0 b with
   | none=>rfl
   | some u =>
    rcases look b u q with ⟨q',z,_⟩|⟨z,z2⟩
    ·rw[(tabAt b q' z).2.1] at e;cases e
    ·subst z;rw[hK (by rw[z2];simp)] at e;cases e)
  have hM:Mod K mg (AH Xl.heap (gJ K h0)):=⟨hKb,nsK ZU,⟨mb,nsK hb,hbb⟩,let ⟨mc,h1,h2⟩:=abo;⟨mc,nsK h1,h2⟩,
   let ⟨bm,o,b1,b2,b3,b4,b5,b6,b7⟩:=hbm;⟨bm,o,b1,b2,b3,o7 b4 (noA b4 (λ_ _ z=>by rw[b7] at z;cases z) λ_ z=>by rw[b7] at z;cases z),b5,b6,b7⟩⟩
  have e0:Et P w K mg (AH Xl.heap (gJ K h0)) callerA [] Xl (gJ K h0):=⟨rfl,hM,λb o e=>Pp e,Nat.le_of_eq (Hn _ _),trivial,λb hb=>absurd (show b∈([]:List Addr) from hb) (by simp),Xi,.of_eq hg⟩
  refine jT ((F _ hKb (nsK ZU)).run callerA [] Xl (gJ K h0) ⟨[.ref a],[]⟩ [.ref a] [.ref a] _ _ hr e0 (aeH Xl (.ref a)) (.cons rfl .nil) (hsp _ (Hx ht) hS)) λr s' h=>?_;cases r with
  | error e=>exact (hCX _ e s' h).elim
  | ok fl =>
   cases fl with
   | next=>exact False.elim h
   | brk=>exact False.elim h
   | cont=>exact False.elim h
   | ret u =>
    let⟨v,H',os,bare,un,ajI,r',q⟩:=h;have q':v=.bl true:=q;subst q';obtain rfl:u=Value.bool true:=r';have key:∀b o,Xl.heap.get? b=some o->s'.heap.get? b=some o\/(isCodeTable Xl.heap b/\o=W.tabObj #[]/\∃ps,s'.heap.get? b=some (W.tabObj ps)):=λb o e=>by
     cases q:gJ K h0 b with
     | none=>exact .inl (un.keep b o e q (by intro z;exact absurd (show b∈([]:List Addr) from z) (by simp)) (by simp))
     | some u =>
      rcases look b u q with ⟨q',z,rfl⟩|⟨z,z2⟩
      ·let⟨t1,_,c,t3⟩:=tabAt b q' z;let⟨more,m1⟩:=un.XW.gr b q' #[] q t1;rw[e] at t1;cases t1;exact .inr ⟨(t3.tab e).isCodeTable,rfl,_,m1⟩
      ·rcases hO b with z3|⟨ob,xs,z3⟩
       ·rw[z2] at z3;cases z3
       ·rw[z2] at z3;cases z3;have z4:=un.X4 b ob _ q;let⟨e1,_⟩:=Xi b _ q;let⟨e2,_⟩:=ajI b _ z4;rw[e] at e1;cases e1;exact .inl e2
    refine⟨rfl,⟨λb o e=>?_,λb o e=>?_⟩,os,bare⟩
    ·rcases key b o e with z|⟨t,rfl,ps,z⟩
     ·exact .inl z
     ·exact .inr (.inl ⟨t,rfl,#[],ps,rfl,by rw[Array.empty_append];exact z⟩)
    ·rcases key b o e with z|⟨_,_,ps,z⟩
     ·exact⟨o,z⟩
     ·exact⟨_,z⟩
 have hoT:∀ (h0:Hp) b q,(iS K).lookup b=some q->f9 P w (gJ K h0) Xl.heap b (.tab q):=λh0 b q e=>⟨#[],(tabAt b q e).1,trivial,λpos v z=>by cases z⟩
 cases hk:K.lookup a with
 | some o =>
  have e:=KX a o hk;rw[ha] at e;cases e;refine core (λ_=>none) (.inr ⟨_,vs.toArray,_,hk,rfl,rfl,rfl,by rw[zH,ajH];exact hl,by simpa using rv⟩) (λb u z=>?_) (λb z=>absurd rfl z) (λz=>absurd rfl z) λ_=>.inl rfl;unfold gJ at z;split at z
  ·rename_i q hq;cases z;exact hoT _ b q hq
  ·cases z
 | none =>
  refine core (λb=>if b=a then some (.X3 { cls:=.type "list",data:=.seq vs.toArray } (.lst (ns.map V.int))) else none) (.inl (.inr ⟨{ cls:=.type "list",data:=.seq vs.toArray },?_⟩)) (λb u z=>?_) (λb z=>?_) (λ_=>hk) λb=>?_
  ·unfold gJ;rw[aT];exact yM rfl
  ·unfold gJ at z;split at z
   ·rename_i q hq;cases z;exact hoT _ b q hq
   ·by_cases hb:b=a
    ·replace z:=(yM hb).symm.trans z;cases z;subst hb;exact⟨ha,by rw[zD];exact hl,vs,_,rv,ha⟩
    ·replace z:=(yO hb).symm.trans z;cases z
  ·by_cases hb:b=a
   ·exact hb
   ·exact absurd (yO hb) z
  ·by_cases hb:b=a
   ·exact .inr ⟨_,_,yM hb⟩
   ·exact .inl (yO hb)
def LL{l:W.OpenLaw}{n k:Nat}{q:Program}{loose:List Str}{XP:(Str->Option Value)->Heap->Prop}{YP:World->Heap->Prop}{d:DefRec}{K:Params->W.Frag}{CX:World->Nc}{sp:World->Sp}{x:Str}{ts:List Addr}
  (hn:l.most=some n) (hn2:n<=sizeLine) (hdf:d.params.defaults=[]) (hr:ft k callerA)
  (hY:∀ (w:World) (h:Heap),YP w h->(K w.params).In h/\∀P∈ts,h.get? P=some (W.tabObj #[])) (ht:∀w:World,pw (K w.params) ts=true)
  (F:∀ (w:World) (mg:Str->Option Value) (fa:Addr) (h:Heap),(K w.params).In h->h.Ns mainGlobals mg->mg d.name=some (.ref fa) ->
   ∃fd:FuncData,(∀ (s:Shared) (u:Value),BindsTo s fd ⟨[u],[]⟩ [(x,u)]) /\
    ∀base:Heap,(K w.params).In base->base.Ns mainGlobals mg->pY l.prog w (K w.params) mg base (CX w) k fa fd [x] (sp w))
  (hsp:∀ (w:World) (H:Hp) (a:Addr) (ns:List Int),ns.length<=n->fA (K w.params) H->iW (K w.params) H a (ns.map V.int)->sp w [.ref a] H (λv _=>v=.bl true) λ_ _ _=>False)
  (hCX:∀ (w:World) (H:Hp) (s:Shared) (e:Value) (s':Shared),CX w [] H s (λ_ _ _=>False) e s'->False) :
  W.WalkO q loose XP YP l.row.toRowW d [] (λf vs=>PySem.call f vs):=by
 refine Att.Y1 hn hdf λw Xn Xl mg mb fa o pm cd doc a vs ns G Y ho hd XM hmg adt hints hlen hg=>?_;let⟨KX,hts⟩:=hY w _ Y;let⟨fd,hb,hF⟩:=F w mg fa _ KX G.T.g hmg;have hbm:UN mg Xl.heap:=by
  let⟨bm,ob,b1,b2,b3,b4,b5,b6⟩:=G.T.bmain;refine⟨bm,ob,b1,b2,λz=>?_,b3,b4,b5,b6⟩;let⟨o',es,ep,e1,e2,_⟩:=G.T.g;rw[<- z,b3] at e1;cases e1;rw[b6] at e2;cases e2
 exact Hu KX G.T.g G.T.b G.T.builtins G.T.nolimit hbm hg (ht w) hts adt hints (yD hlen hn2) hr hF hb (λH hT hS=>hsp w H a ns hlen hT hS) λH e s'=>hCX w H Xl e s'
end Dl
namespace SP
open PySem PySem.W PyProof.Rows
def run(lt:Nat->Nat->Bool):KasT α->α
 | .ret a=>a
 | .ask i j k=>run lt (k (lt i j))
def jb(lt:Nat->Nat->Bool)(f:α->KasT β):∀t:KasT α,run lt (t.bind f)=run lt (f (run lt t))
 | .ret a=>rfl
 | .ask i j k=>by
  show run lt ((k (lt i j)).bind f)=run lt (f (run lt (k (lt i j))));exact jb lt f (k (lt i j))
def LA(n:Nat):KasT α->Prop
 | .ret _=>True
 | .ask i j k=>i < n/\j < n/\∀b,LA n (k b)
def wp_run(hc:∀i j C,i < n->j < n->C (lt i j) s->cmp i j C s):∀ (t:KasT α) {Q:α->Shared->Prop},LA n t->Q (run lt t) s->t.kasWp cmp Q s
 | .ret a,Q,_,h=>h
 | .ask i j k,Q,b,h=>hc i j _ b.1 b.2.1 (wp_run hc (k (lt i j)) (b.2.2 _) h)
def tP(n:Nat)(R:α->Prop):KasT α->Prop
 | .ret a=>R a
 | .ask i j k=>i < n/\j < n/\∀b,tP n R (k b)
def pN:∀ {t:KasT α},tP n R t->(∀a,R a->LA n (f a))->LA n (t.bind f)
 | .ret a,b,h=>h a b
 | .ask i j k,b,h=>⟨b.1,b.2.1,λc=>pN (b.2.2 c) h⟩
def kc:∀ {t:KasT α},tP n R t->(∀a,R a->tP n S (f a))->tP n S (t.bind f)
 | .ret a,b,h=>h a b
 | .ask i j k,b,h=>⟨b.1,b.2.1,λc=>kc (b.2.2 c) h⟩
def Bd(n:Nat)(p:Array Nat):Prop:=∀a,p.getD a 0 < n
def Bd.perm(h:Bd n p)(e:q.Perm p):Bd n q:=by
 intro a;rw[qE];cases ha:q[a]? with
 | none=>have:=h p.size;rw[qE] at this;simpa using this
 | some x =>
  have hx:x∈q:=Array.mem_of_getElem? ha;have hx':x∈p:=e.mem_iff.mp hx;let⟨i,hi,rfl⟩:=Array.mem_iff_getElem.mp hx';have:=h i;rw[qE] at this;simpa [hi] using this
def KN(h:Bd n p):∀f m,tP n (λ_=>True) (kas_asc p f m)
 | 0,m=>trivial
 | f+1,m=>⟨h _,h _,λc=>by
  dsimp only;split
  ·trivial
  ·exact KN h f (m+1)⟩
def BR(h:Bd n p)(i j:Nat):Bd n (kas_rev p i j):=h.perm (mirror_perm _ _ _ _)
def Bs:∀ (f:Nat) {p:Array Nat}(h:Bd n p) (m q:Nat),tP n (λr=>Bd n r.1) (kas_desc f p m q)
 | 0,p,h,m,q=>h
 | f+1,p,h,m,q=>⟨h _,h _,λc=>by
  dsimp only;split
  ·split
   ·exact Bs f (BR h _ _) (m+1) 0
   ·exact Bs f h (m+1) 0
  ·exact⟨h _,h _,λd=>by
    dsimp only;split
    ·exact h
    ·exact Bs f h (m+1) (q+1)⟩⟩
def G9(h:Bd n p)(m nrem:Nat):tP n (λr=>Bd n r.2) (kas_tail3 m nrem p):=kc (KN (BR h 0 m) _ _) λ_ _=>BR h 0 m
def tJ(h:Bd n p)(m nrem:Nat):tP n (λr=>Bd n r.2) (kas_descPart m nrem p):=kc (Bs _ h _ _) λr hr=>by
 split
 ·exact G9 (BR hr _ _) _ _
 ·exact G9 hr _ _
def OS(h:Bd n p)(nrem:Nat):tP n (λr=>Bd n r.2) (kas_count nrem p):=kc (KN h _ _) λm _=>by
 split
 ·exact h
 ·split
  ·exact⟨h _,h _,λc=>by
    dsimp only;split
    ·exact h
    ·exact tJ (BR h _ _) _ _⟩
  ·exact tJ h _ _
def z8(h:Bd n p)(k:Nat):∀f l r,tP n (λ_=>True) (kas_place p k f l r)
 | 0,l,r=>trivial
 | f+1,l,r=>by
  unfold kas_place;split
  ·trivial
  ·exact⟨h _,h _,λc=>by
    dsimp only;split
    ·exact z8 h k f _ _
    ·exact z8 h k f _ _⟩
def PZ:∀ (f:Nat) {p:Array Nat}(h:Bd n p) (k:Nat),LA n (kas_bin f p k)
 | 0,p,h,k=>trivial
 | f+1,p,h,k=>pN (z8 h k _ _ _) λl _=>PZ f (h.perm (bubble_perm _ _ _)) (k+1)
def J7(h1:1<=n):LA n (kas_sort n):=by
 have h:Bd n (List.toArray (List.range n)):=λa=>by
  rw[qE];by_cases ha:a < n
  ·simp[ha]
  ·simp[ha];lia
 refine pN (OS h n) λr hr=>?_;split
 ·exact PZ _ hr _
 ·trivial
section
variable (z:Nat->Int)
def Z(p:Array Nat)(a:Nat):Int:=z (p.getD a 0)
def fT:Nat->Nat->Bool:=λi j=>decide (z i < z j)
def oP(h:p[a]?=q[b]?):Z z p a=Z z q b:=by
 unfold Z;rw[qE,qE,h]
def KE(hj:j<=p.size)(k:Nat):Z z (kas_rev p i j) k=if i<=k/\k < j then Z z p (i+j - 1 - k) else Z z p k:=by
 have e:=getElem?_mirror_all (xs:=p) (i:=i) hj k;unfold kas_rev;by_cases h1:i<=k/\k < j
 ·rw[yM h1] at e ⊢;exact oP z e
 ·rw[yO h1] at e ⊢;exact oP z e
def Kv(hs:src < p.size)(hd:d<=src)(k:Nat):Z z (bubble p src d) k=if k=src - d then Z z p src else if src - d < k/\k<=src then Z z p (k - 1) else Z z p k:=by
 have e:=getElem?_bubble hs d hd k;by_cases h1:k=src - d
 ·rw[yM h1] at e ⊢;exact oP z e
 ·rw[yO h1] at e ⊢;by_cases h2:src - d < k/\k<=src
  ·rw[yM h2] at e ⊢;exact oP z e
  ·rw[yO h2] at e ⊢;exact oP z e
def Up(p:Array Nat)(n:Nat):Prop:=∀a b,a<=b->b < n->Z z p a<=Z z p b
def Dn(p:Array Nat)(n:Nat):Prop:=∀a b,a<=b->b < n->Z z p b<=Z z p a
variable {z}
def Nf(h:Up z p n)(hn:1<=n)(h1:Z z p (n - 1)<=Z z p n):Up z p (n+1):=by
 intro a b Yv hb;by_cases hbn:b < n
 ·exact h a b Yv hbn
 ·have e:b=n:=by lia
  subst e;by_cases ha:a=b
  ·subst ha;exact qA _
  ·exact jV (h a (b - 1) (by lia) (by lia)) h1
def Vl:∀ (f n:Nat),1<=n->Up z p n->n<=run (fT z) (kas_asc p f n)/\run (fT z) (kas_asc p f n)<=n+f/\Up z p (run (fT z) (kas_asc p f n))/\(run (fT z) (kas_asc p f n) < n+f->Z z p (run (fT z) (kas_asc p f n)) < Z z p (run (fT z) (kas_asc p f n) - 1))
 | 0,n,hn,h=>⟨yN _,yN _,h,λq=>absurd q (qF _)⟩
 | f+1,n,hn,h=>by
  unfold kas_asc;show n<=run (fT z) (if fT z (p.getD n 0) (p.getD (n - 1) 0)=true then .ret n else kas_asc p f (n+1))/\run (fT z) (if fT z (p.getD n 0) (p.getD (n - 1) 0)=true then .ret n else kas_asc p f (n+1))<=n+(f+1)/\Up z p (run (fT z) (if fT z (p.getD n 0) (p.getD (n - 1) 0)=true then .ret n else kas_asc p f (n+1)))/\(run (fT z) (if fT z (p.getD n 0) (p.getD (n - 1) 0)=true then .ret n else kas_asc p f (n+1)) < n+(f+1)->Z z p (run (fT z) (if fT z (p.getD n 0) (p.getD (n - 1) 0)=true then .ret n else kas_asc p f (n+1))) < Z z p (run (fT z) (if fT z (p.getD n 0) (p.getD (n - 1) 0)=true then .ret n else kas_asc p f (n+1)) - 1))
  by_cases hc:fT z (p.getD n 0) (p.getD (n - 1) 0)=true
  ·rw[yM hc];exact⟨yN _,jW _ _,h,λ_=>yR hc⟩
  ·rw[yO hc];have h1:Z z p (n - 1)<=Z z p n:=by
    have:¬ (Z z p n < Z z p (n - 1)):=λq=>hc (yA q);lia
   let⟨a,b,c,d⟩:=Vl f (n+1) (by lia) (Nf h hn h1);exact⟨by lia,by lia,c,λq=>d (by lia)⟩
def EM(hj:j<=p.size)(h:∀a b,i<=a->a < j->i<=b->b < j->Z z p a=Z z p b)(k:Nat):Z z (kas_rev p i j) k=Z z p k:=by
 rw[KE z hj];split
 ·rename_i hk;exact h _ _ (by lia) (by lia) hk.1 hk.2
 ·rfl
def KO(e:∀k,Z z q k=Z z p k)(h:Dn z p n):Dn z q n:=λa b Yv hb=>by rw[e,e];exact h a b Yv hb
def RN(hn:n<=p.size)(h:Dn z p n):Up z (kas_rev p 0 n) n:=by
 intro a b Yv hb;rw[KE z hn,KE z hn,yM ⟨xW _,by lia⟩,yM ⟨xW _,hb⟩];exact h _ _ (by lia) (by lia)
def oK(p:Array Nat)(i j:Nat):(kas_rev p i j).size=p.size:=mirror_size _ _ _ _
def pH(p:Array Nat)(i j:Nat):(kas_rev p i j).Perm p:=mirror_perm _ _ _ _
structure Q4(z:Nat->Int)(Xx p:Array Nat)(n q nrem:Nat):Prop where
 perm:p.Perm Xx
 size:p.size=Xx.size
 le:n<=nrem
 qn:q+1<=n
 dn:Dn z p n
 eq:∀a b,n - (q+1)<=a->a < n->n - (q+1)<=b->b < n->Z z p a=Z z p b
def NC(hz:nrem<=Xx.size):∀ (f:Nat) (p:Array Nat) (n q:Nat),n+f<=nrem->Q4 z Xx p n q nrem ->
  let r:=run (fT z) (kas_desc f p n q);Q4 z Xx r.1 r.2.1 r.2.2 nrem
 | 0,p,n,q,hn,h=>h
 | f+1,p,n,q,hn,h=>by
  intro r;have hr:r=run (fT z) (if fT z (p.getD n 0) (p.getD (n - 1) 0)=true then (if q > 0 then kas_desc f (kas_rev p (n - (q+1)) n) (n+1) 0 else kas_desc f p (n+1) 0)
   else .ask (p.getD (n - 1) 0) (p.getD n 0) λd=>if d=true then .ret (p,n,q) else kas_desc f p (n+1) (q+1)):=rfl
  have hq:=h.qn;by_cases hc:fT z (p.getD n 0) (p.getD (n - 1) 0)=true
  ·rw[yM hc] at hr;have Xw:Z z p n < Z z p (n - 1):=yR hc;have step:∀p':Array Nat,p'.Perm Xx->p'.size=Xx.size->(∀k,Z z p' k=Z z p k)->Q4 z Xx p' (n+1) 0 nrem:=λp' a1 a2 a3=>by
    refine⟨a1,a2,by lia,by lia,λa b Yv hb=>?_,λa b h1 h2 h3 h4=>by rw[show a=b by lia]⟩;rw[a3,a3];by_cases hbn:b < n
    ·exact h.dn a b Yv hbn
    ·have e:b=n:=by lia
     subst e;by_cases ha:a=b
     ·subst ha;exact qA _
     ·exact jV (Int.le_of_lt Xw) (h.dn a (b - 1) (by lia) (by lia))
   by_cases hq0:q > 0
   ·rw[yM hq0] at hr;rw[hr];exact NC hz f _ (n+1) 0 (by lia) (step _ ((pH _ _ _).trans h.perm) (by rw[oK,h.size]) (EM (by rw[h.size];lia) h.eq))
   ·rw[yO hq0] at hr;rw[hr];exact NC hz f p (n+1) 0 (by lia) (step p h.perm h.size λ_=>rfl)
  ·rw[yO hc] at hr;have hge:Z z p (n - 1)<=Z z p n:=by
    have:¬ (Z z p n < Z z p (n - 1)):=λq=>hc (yA q);lia
   have YL:r=run (fT z) (if fT z (p.getD (n - 1) 0) (p.getD n 0)=true then .ret (p,n,q) else kas_desc f p (n+1) (q+1)):=hr;by_cases hd:fT z (p.getD (n - 1) 0) (p.getD n 0)=true
   ·rw[yM hd] at YL;rw[YL];exact h
   ·rw[yO hd] at YL;rw[YL];have heq:Z z p n=Z z p (n - 1):=by
     have:¬ (Z z p (n - 1) < Z z p n):=λq=>hd (yA q);lia
    refine NC hz f p (n+1) (q+1) (by lia) ⟨h.perm,h.size,by lia,by lia,λa b Yv hb=>?_,λa b h1 h2 h3 h4=>?_⟩
    ·by_cases hbn:b < n
     ·exact h.dn a b Yv hbn
     ·have e:b=n:=by lia
      subst e;by_cases ha:a=b
      ·subst ha;exact qA _
      ·rw[heq];exact h.dn a (b - 1) (by lia) (by lia)
    ·have key:∀c,n+1 - (q+1+1)<=c->c < n+1->Z z p c=Z z p (n - 1):=λc c1 c2=>by
      by_cases hcn:c < n
      ·exact h.eq c (n - 1) (by lia) hcn (by lia) (by lia)
      ·have e:c=n:=by lia
       subst e;exact heq
     rw[key a h1 h2,key b h3 h4]
structure UA(z:Nat->Int)(Xx:Array Nat)(nrem:Nat)(r:Nat×Array Nat):Prop where
 perm:r.2.Perm Xx
 size:r.2.size=Xx.size
 ge:1<=r.1
 le:r.1<=nrem
 up:Up z r.2 r.1
def tail3(hz:nrem<=Xx.size)(h1:1<=n)(hn:n<=nrem)(hp:p.Perm Xx)(hs:p.size=Xx.size)(hd:Dn z p n):UA z Xx nrem (run (fT z) (kas_tail3 n nrem p)):=by
 unfold kas_tail3;rw[jb];let⟨a,b,c,_⟩:=Vl (nrem - n) n h1 (RN (by lia) hd);exact⟨(pH _ _ _).trans hp,by show (kas_rev p 0 n).size=_;rw[oK,hs],by show 1<=run _ (kas_asc _ _ _);lia,by show run _ (kas_asc _ _ _)<=nrem;lia,c⟩
def descPart(hz:nrem<=Xx.size)(h1:1<=n)(hn:n < nrem)(hp:p.Perm Xx)(hs:p.size=Xx.size)(hd:Dn z p n)(Xw:Z z p n<=Z z p (n - 1)):UA z Xx nrem (run (fT z) (kas_descPart n nrem p)):=by
 unfold kas_descPart;rw[jb];have D:=NC (z:=z) hz (nrem - (n+1)) p (n+1) 0 (by lia) ⟨hp,hs,by lia,by lia,λa b Yv hb=>by
  by_cases hbn:b < n
  ·exact hd a b Yv hbn
  ·have e:b=n:=by lia
   subst e;by_cases ha:a=b
   ·subst ha;exact qA _
   ·exact jV Xw (hd a (b - 1) (by lia) (by lia)),λa b h1 h2 h3 h4=>by rw[show a=b by lia]⟩
 dsimp only at D;generalize run (fT z) (kas_desc (nrem - (n+1)) p (n+1) 0)=r at D;have hq:=D.qn;split
 ·exact tail3 hz (by lia) D.le ((pH _ _ _).trans D.perm) (by rw[oK,D.size]) (KO (EM (by have:=D.size;have:=D.le;lia) D.eq) D.dn)
 ·exact tail3 hz (by lia) D.le D.perm D.size D.dn
def count(hz:nrem<=p.size)(h1:1<=nrem):UA z p nrem (run (fT z) (kas_count nrem p)):=by
 unfold kas_count;rw[jb];let⟨a,b,c,d⟩:=Vl (z:=z) (p:=p) (nrem - 1) 1 (yN _) (λx y hxy hy=>by rw[show x=y by lia];exact qA _);generalize run (fT z) (kas_asc p (nrem - 1) 1)=n at a b c d;split
 ·exact⟨Array.Perm.refl _,rfl,a,by show n<=nrem;lia,c⟩
 ·rename_i XA;have Xw:n < nrem:=by
   have:n≠nrem:=λe=>XA (by simp[e]);lia
  have hd:=d (by lia);split
  ·rename_i hn1;show UA z p nrem (run (fT z) (if fT z (p.getD 0 0) (p.getD (n - 1) 0)=true then .ret (n,p) else kas_descPart n nrem (kas_rev p 0 n)));by_cases hc:fT z (p.getD 0 0) (p.getD (n - 1) 0)=true
   ·rw[yM hc];exact⟨Array.Perm.refl _,rfl,a,by show n<=nrem;lia,c⟩
   ·rw[yO hc];have hge:Z z p (n - 1)<=Z z p 0:=by
     have:¬ (Z z p 0 < Z z p (n - 1)):=λq=>hc (yA q);lia
    have all:∀x,x < n->Z z p x=Z z p 0:=λx hx=>by
     have e1:=c 0 x (xW _) hx;have e2:=c x (n - 1) (by lia) (by lia);lia
    have same:=EM (z:=z) (p:=p) (i:=0) (j:=n) (by lia) λx y _ hx _ hy=>by rw[all x hx,all y hy]
    refine descPart hz (by lia) Xw (pH _ _ _) (by rw[oK]) (λx y hxy hy=>?_) ?_
    ·rw[same,same,all x (by lia),all y hy];exact qA _
    ·rw[same,same];lia
  ·exact descPart hz (by lia) Xw (Array.Perm.refl _) rfl (λx y hxy hy=>by rw[show x=y by lia];exact qA _) (by lia)
def place(hu:Up z p k):∀ (f l r:Nat),r - l<=f->l<=r->r<=k->(∀a,a < l->Z z p a<=Z z p k)->(∀a,r<=a->a < k->Z z p k<=Z z p a) ->
  let m:=run (fT z) (kas_place p k f l r);m<=k/\(∀a,a < m->Z z p a<=Z z p k)/\(∀a,m<=a->a < k->Z z p k<=Z z p a)
 | 0,l,r,hf,hl,hr,h1,h2=>by
  intro m;have e:l=r:=by lia
  subst e;exact⟨hr,h1,h2⟩
 | f+1,l,r,hf,hl,hr,h1,h2=>by
  intro m;have hm:m=run (fT z) (if l >= r then .ret l else .ask (p.getD k 0) (p.getD ((l+r) / 2) 0) λc=>if c=true then kas_place p k f l ((l+r) / 2) else kas_place p k f ((l+r) / 2+1) r):=rfl;by_cases hlr:l >= r
  ·rw[yM hlr] at hm;rw[hm];have e:l=r:=by lia
   subst e;exact⟨hr,h1,h2⟩
  ·rw[yO hlr] at hm;have YC:m=run (fT z) (if fT z (p.getD k 0) (p.getD ((l+r) / 2) 0)=true then kas_place p k f l ((l+r) / 2) else kas_place p k f ((l+r) / 2+1) r):=hm;by_cases hc:fT z (p.getD k 0) (p.getD ((l+r) / 2) 0)=true
   ·rw[yM hc] at YC;rw[YC];have Xw:Z z p k < Z z p ((l+r) / 2):=yR hc;exact place hu f l ((l+r) / 2) (by lia) (by lia) (by lia) h1 λa ha hak=>jV (Int.le_of_lt Xw) (hu _ a ha hak)
   ·rw[yO hc] at YC;rw[YC];have hge:Z z p ((l+r) / 2)<=Z z p k:=by
     have:¬ (Z z p k < Z z p ((l+r) / 2)):=λq=>hc (yA q);lia
    exact place hu f ((l+r) / 2+1) r (by lia) (by lia) hr (λa ha=>jV (hu a ((l+r) / 2) (by lia) (by lia)) hge) h2
def bin:∀ (f:Nat) (p:Array Nat) (k:Nat),p.Perm Xx->p.size=Xx.size->k+f<=Xx.size->Up z p k ->
  (run (fT z) (kas_bin f p k)).Perm Xx/\(run (fT z) (kas_bin f p k)).size=Xx.size/\Up z (run (fT z) (kas_bin f p k)) (k+f)
 | 0,p,k,hp,hs,hk,hu=>⟨hp,hs,hu⟩
 | f+1,p,k,hp,hs,hk,hu=>by
  unfold kas_bin;rw[jb];have P:=place hu k 0 k (by lia) (by lia) (yN _) (λa ha=>absurd ha (wC _)) λa ha hak=>absurd ha (by lia);dsimp only at P;generalize run (fT z) (kas_place p k k 0 k)=l at P;let⟨p1,p2,p3⟩:=P;have zb:=Kv z (p:=p) (src:=k) (d:=k - l) (by lia) (by lia);have e:k - (k - l)=l:=by lia
  rw[e] at zb;let⟨q1,q2,q3⟩:=bin f (bubble p k (k - l)) (k+1) ((bubble_perm _ _ _).trans hp) (by rw[bubble_size,hs]) (by lia) λa b Yv hb=>by
   rw[zb,zb];by_cases ha1:a=l
   ·rw[yM ha1];by_cases hb1:b=l
    ·rw[yM hb1];exact qA _
    ·rw[yO hb1];rw[yM (by lia)];exact p3 _ (by lia) (by lia)
   ·rw[yO ha1];by_cases hb1:b=l
    ·rw[yM hb1,yO (by lia)];exact p2 a (by lia)
    ·rw[yO hb1];by_cases ha2:l < a/\a<=k
     ·rw[yM ha2,yM (by lia)];exact hu _ _ (by lia) (by lia)
     ·rw[yO ha2];by_cases hb2:l < b/\b<=k
      ·rw[yM hb2];exact hu _ _ (by lia) (by lia)
      ·rw[yO hb2];exact hu _ _ Yv (by lia)
  exact⟨q1,q2,by rw[show k+(f+1)=k+1+f by lia];exact q3⟩
def kn(h1:1<=n):(run (fT z) (kas_sort n)).toList.Perm (List.range n)/\((run (fT z) (kas_sort n)).toList.map z).Pairwise (·<=·):=by
 have ZR:(List.toArray (List.range n)).size=n:=by simp
 have C:=count (z:=z) (p:=List.toArray (List.range n)) (nrem:=n) (by lia) h1;have fin:∀p:Array Nat,p.Perm (List.toArray (List.range n))->p.size=n->Up z p n->p.toList.Perm (List.range n)/\(p.toList.map z).Pairwise (·<=·):=λp a b c=>by
  refine⟨by have:=a.toList;simpa using this,?_⟩;rw[List.pairwise_iff_getElem];intro i j hi hj XB;have YB:i < n:=by simpa [b] using hi
  have hj':j < n:=by simpa [b] using hj
  have:=c i j (jU XB) hj';unfold Z at this;have e1:p.getD i 0=p[i]:=by simp[Array.getD,b,YB]
  have e2:p.getD j 0=p[j]:=by simp[Array.getD,b,hj']
  rw[e1,e2] at this;simpa using this
 unfold kas_sort;rw[jb];generalize run (fT z) (kas_count n (List.toArray (List.range n)))=r at C;let⟨k,p⟩:=r;have hs:=C.size;rw[ZR] at hs;split
 ·rename_i Xw;have hge:=C.ge;have e:max k 1=k:=by have:1<=k:=hge;lia
  rw[e];let⟨q1,q2,q3⟩:=bin (z:=z) (n - k) p k C.perm C.size (by rw[ZR];have:k < n:=Xw;lia) C.up;refine fin _ q1 (by rw[q2,ZR]) ?_;rw[show k+(n - k)=n by have:k < n:=Xw;lia] at q3;exact q3
 ·rename_i ajJ;have hle:=C.le;have e:k=n:=by have h3:k<=n:=hle;have h4:¬ k < n:=ajJ;lia
  subst e;exact fin p C.perm hs C.up
end
end SP
namespace Srt
open PySem PySem.W PySem.Calls PyProof.Rows
def Xs(z:Nat->Int)(vs:List Value):List Value:=if vs.length < 2 then vs else (SP.run (SP.fT z) (kas_sort vs.length)).toList.map λi=>vs.getD i Value.none
def Y3(z:Nat->Int)(vs:List Value):(Xs z vs).length=vs.length:=by
 unfold Xs;split
 ·rfl
 ·rename_i h;have:=(SP.kn (z:=z) (n:=vs.length) (by lia)).1.length_eq;simpa using this
def Zy{P:PySem.Fin->Shared->Prop}(ho:s.heap.get? a=some (seqObj "list" vs.toArray n))(h64:vs.length < 64)(z:Nat->Int)(κ:SortKind)
  (hk:2<=vs.length->∀h':Heap,(∀b o,b≠a->s.heap.get? b=some o->h'.get? b=some o)->∀Q':SortKind->Shared->Prop,Q' κ { s with heap:=h' }->wpAny (model prog w) A (keyKind' vs.toArray) Q' (λ_ _=>False) { s with heap:=h' })
  (Xw:2<=vs.length->∀h':Heap,(∀b o,b≠a->s.heap.get? b=some o->h'.get? b=some o)->∀i j C,i < vs.length->j < vs.length->C (SP.fT z i j) { s with heap:=h' }->kas_ask prog w A κ vs i j C { s with heap:=h' })
  (h:∀ (h':Heap) (c:Nat),(∀b o,b≠a->s.heap.get? b=some o->h'.get? b=some o)->h'.get? a=some (seqObj "list" (Xs z vs).toArray c)->P (.done (.ret .none)) { s with heap:=h' }) :
  wpAny (model prog w) A (Builtin.«list.sort» ⟨[.ref a],[]⟩) P E s:=by
 rw[list_sort_plain];have ha:a < s.heap.objs.size:=zY ho;have Zz:vs.length<=sizeLine:=by rw[qV];lia
 refine zV (vV ho rfl (zV (kE ho rfl ?_ (by simpa using Zz) (xW _))));obtain⟨e1,ho1⟩:∃e,(s.heap.update a (Obj.mapSeq λ_=>(#[]:Array Value))).get? a=some (seqObj "list" #[] e):=⟨_,kH ho λ_=>#[]⟩
 have kp1:∀b o,b≠a->s.heap.get? b=some o->(s.heap.update a (Obj.mapSeq λ_=>(#[]:Array Value))).get? b=some o:=λb o hb e=>(xO _ _ (jO hb)).trans e;refine zV (seqEpoch_at ho1 rfl (zV (wpAny_newTuple ?_ (by simpa using Zz))));refine zV (kZ (xY ?_) (xW _));have ho3:(((s.heap.update a (Obj.mapSeq λ_=>(#[]:Array Value))).push (seqObj "tuple" vs.toArray 0)).push (seqObj "list" #[] 0)).get? a=some (seqObj "list" #[] e1):=zU _ (zU _ ho1);have kp3:∀b o,b≠a->s.heap.get? b=some o->(((s.heap.update a (Obj.mapSeq λ_=>(#[]:Array Value))).push (seqObj "tuple" vs.toArray 0)).push (seqObj "list" #[] 0)).get? b=some o:=λb o hb e=>zU _ (zU _ (kp1 b o hb e));show wpAny _ A _ P E { s with heap:=((s.heap.update a (Obj.mapSeq λ_=>(#[]:Array Value))).push (seqObj "tuple" vs.toArray 0)).push (seqObj "list" #[] 0) };generalize ((s.heap.update a (Obj.mapSeq λ_=>(#[]:Array Value))).push (seqObj "tuple" vs.toArray 0)).push (seqObj "list" #[] 0)=h3 at ho3 kp3;clear ho1 kp1;dsimp only;have fin:∀XX:SortSt,(arrOf XX).map (·.2)=(Xs z vs).toArray->failedOf XX=none ->
   wpAny (model prog w) A (do
    let sorted:=(arrOf XX).map (·.2);let touched:=(<- seqEpoch a) != e1
    Builtin.List.listUpdate (.ref a) λ_=>sorted
    if let some e:=failedOf XX then rule "list.sort.comparison-raised";throw e
    if touched then rule "list.sort.modified";raiseError "ValueError" "list modified during sort"
    ret .none) P E { s with heap:=h3 }:=λXX h1 h2=>by
  dsimp only;rw[h1,h2];refine zV (seqEpoch_at ho3 rfl ?_);refine zV (kE ho3 rfl ?_ (xW _) (by show (Xs z vs).toArray.size<=_;rw[zH,Y3];lia));obtain⟨c,hc⟩:∃c,(h3.update a (Obj.mapSeq λ_=>(Xs z vs).toArray)).get? a=some (seqObj "list" (Xs z vs).toArray c):=⟨_,kH ho3 λ_=>(Xs z vs).toArray⟩
  have q:=h _ c (λb o hb e=>(xO _ _ (jO hb)).trans (kp3 b o hb e)) hc;simp?[bne_self_eq_false,yP,qQ];exact zW q
 by_cases h2:vs.toArray.size < 2
 ·rw[yM h2,yM h2];refine zV (zW ?_);rw[StateT.run_pure];refine zV (zW (fin _ ?_ rfl));have h2':vs.length < 2:=by simpa using h2
  unfold Xs;rw[yM h2'];show ((vs.toArray.zip vs.toArray).map (·.2))=vs.toArray;apply Array.toList_inj.mp;simp?[Array.toList_map,Array.toList_zip];exact List.map_snd_zip (yN _)
 ·rw[yO h2,yO h2];have h2':2<=vs.length:=by
   have:¬ vs.length < 2:=by simpa using h2
   lia
  refine zV (xB (hk h2' h3 kp3 (λκ' s'=>κ'=κ/\s'={ s with heap:=h3 }) ⟨rfl,rfl⟩) (λκ' s' hs=>?_) λ_ _ x=>x.elim);let⟨rfl,rfl⟩:=hs;refine zV (xB (kat_run (Q:=λXX s'=>s'={ s with heap:=h3 }/\(arrOf XX).map (·.2)=(Xs z vs).toArray/\failedOf XX=none) (G:=λp s'=>s'={ s with heap:=h3 }/\p=SP.run (SP.fT z) (kas_sort vs.length))
   rfl h2' h64 (λp XX s' a1 a2 a3 a4=>⟨a4.1,?_,a3⟩) (SP.wp_run (Xw h2' h3 kp3) (kas_sort vs.length) (SP.J7 (by lia)) ⟨rfl,rfl⟩)) ?_ λ_ _ e=>e)
  ·rw[kat_snds rfl a2,a4.2];unfold Xs;rw[yO (by lia)]
  ·rintro⟨⟨⟩,XX⟩ s' ⟨hs,h4,h5⟩;subst hs;exact fin XX h4 h5
def abp(h:Heap)(l:Addr)(vs:List Value):Prop:=∃ (o:Obj) (T:String) (n:Nat),(T="list"\/T="tuple")/\h.get? l=some o/\o.cls=.type T/\o.data=.seq vs.toArray n
def aaI(hl:abp s.heap l vs)
  (h:Q vs { s with heap:=(s.heap.push (seqObj "list" #[] 0)).update s.heap.objs.size (Obj.mapSeq (·++vs.toArray)) }) (ZR:vs.length<=sizeLine):wpAny (model prog w) A (collect (.ref l)) Q E s:=by
 let⟨o,T,n,hT,ho,hc,hd⟩:=hl;unfold collect;refine zV (wpAny_runValue (kJ entry_proto_collect' ?_));show wpAny _ _ (do again (.builtin "list.__iadd__" ⟨[<- newList [],.ref l],[]⟩)) _ _ s;refine zV (kZ (zW ⟨Ze _ (by decide +kernel),kJ entry_list_iadd' ?_⟩));show wpAny _ _ (Builtin.List.listExtendWith (.ref s.heap.objs.size) (.ref l) (.ref s.heap.objs.size)) _ _ { s with heap:=s.heap.push (seqObj "list" #[] 0) };unfold Builtin.List.listExtendWith;have YI:(s.heap.push (seqObj "list" #[] 0)).get? l=some o:=zU _ ho;refine zV (Zg (T:=T) ⟨o,YI,hc⟩ ?_);rw[yM (by rcases hT with rfl|rfl<;>simp)];refine zV (vV YI hd (zV (vV (xs:=#[]) (n:=0) (zX _ rfl) rfl ?_)));rw[yO (by simp)];refine zV (kE (xs:=#[]) (n:=0) (zX _ rfl) rfl ?_ (xW _) (by show (#[]++vs.toArray).size<=sizeLine+1;simp?[Array.size_append,zH,xM];lia));refine zW ?_;refine zV (wpAny_load (kH (zX _ rfl) _) ?_);show wpAny _ _ (pure ((#[]:Array Value)++vs.toArray).toList) Q E _;rw[show ((#[]:Array Value)++vs.toArray).toList=vs by simp];exact zW h
def abq{s:Shared}{Q:Value->Shared->Prop}(hl:abp s.heap l vs)(h64:vs.length < 64)(z:Nat->Int)(κ:SortKind)
  (hk:2<=vs.length->∀h':Heap,(∀b o,s.heap.get? b=some o->h'.get? b=some o)->∀Q':SortKind->Shared->Prop,Q' κ { s with heap:=h' }->wpAny (model prog w) A.in1.in1 (keyKind' vs.toArray) Q' (λ_ _=>False) { s with heap:=h' })
  (Xw:2<=vs.length->∀h':Heap,(∀b o,s.heap.get? b=some o->h'.get? b=some o)->∀i j C,i < vs.length->j < vs.length->C (SP.fT z i j) { s with heap:=h' }->kas_ask prog w A.in1.in1 κ vs i j C { s with heap:=h' })
  (h:∀ (h':Heap) (D:Addr) (c:Nat),(∀b o,s.heap.get? b=some o->h'.get? b=some o)->s.heap.objs.size<=D->h'.get? D=some (seqObj "list" (Xs z vs).toArray c)->Q (.ref D) { s with heap:=h' }) :
  wpAny (model prog w) A (call (.builtin "sorted") [.ref l]) Q E s:=by
 have Zz:vs.length<=sizeLine:=by rw[qV];lia
 refine Calls.call_function_entry kind_sorted plain_sorted entry_sorted (args_sorted1 _) ?_;unfold Builtin.«sorted»;refine zV (m:=checkCount "sorted" 1 1 _) (zW (zV (aaI hl ?_ Zz)));refine zV (kZ ?_ (by simpa using Zz));have ZR:((s.heap.push (seqObj "list" #[] 0)).update s.heap.objs.size (Obj.mapSeq (·++vs.toArray))).objs.size=s.heap.objs.size+1:=by rw[Heap.size_update,size_push']
 have kp:∀b o,s.heap.get? b=some o->(((s.heap.push (seqObj "list" #[] 0)).update s.heap.objs.size (Obj.mapSeq (·++vs.toArray))).push (seqObj "list" vs.toArray 0)).get? b=some o:=λb o e =>
  zU _ ((xO _ _ (jJ (zY e))).trans (zU _ e))
 have hoD:(((s.heap.push (seqObj "list" #[] 0)).update s.heap.objs.size (Obj.mapSeq (·++vs.toArray))).push (seqObj "list" vs.toArray 0)).get? (s.heap.objs.size+1)=some (seqObj "list" vs.toArray 0):=by
  rw[<- ZR];exact zX _ rfl
 show wpAny _ _ _ _ _ { s with heap:=((s.heap.push (seqObj "list" #[] 0)).update s.heap.objs.size (Obj.mapSeq (·++vs.toArray))).push (seqObj "list" vs.toArray 0) };rw[ZR];generalize ((s.heap.push (seqObj "list" #[] 0)).update s.heap.objs.size (Obj.mapSeq (·++vs.toArray))).push (seqObj "list" vs.toArray 0)=h1 at kp hoD;have kk:∀h':Heap,(∀b o,b≠s.heap.objs.size+1->h1.get? b=some o->h'.get? b=some o)->∀b o,s.heap.get? b=some o->h'.get? b=some o:=λh' q b o e=>q b o (yS (jP (zY e))) (kp b o e);refine zV (xY (qX slot_list_sort ⟨_,hoD,rfl⟩ entry_list_sort (Zy hoD h64 z κ (λa h' q=>hk a h' (kk h' q)) (λa h' q=>Xw a h' (kk h' q)) λh' c q e=>⟨_,rfl,?_⟩) (args_list_sort _)));exact zW ⟨_,rfl,h h' _ c (kk h' q) (by lia) e⟩
end Srt
namespace Dl
open PySem L2 PySem.Spec PyProof.Rows
def HI(i:Nat)(fz:List Nat)(f:Env->Option (List D)):au->Option Out:=λρ=>(f (bK (hand fz 0 ρ))).bind λus=>sD i (λds=>if ds.length+us.length<=sizeLine then some (ds++us) else none) (hand fz 0 ρ)
def Ii(i:Nat)(fz:List Nat)(hN:X.N[i]?=some x)(hv:MT X.env.scope x)(h:DF X e f)(hd:(x == ("__debug__":Str))=false:=by decide)(XM:(x == ("__classdict__":Str))=false:=by decide)
  (Yi:((backTo cpos (starEach [e] X.env)).all (λx=>!x.1)&&(backToKw cpos (keywordEach [] X.env)).all (λx=>x.1.isSome)&&decide ([e].length+([]:List Keyword).length+(if ([]:List Keyword).isEmpty then 0 else 1) < 30))=true:=by rfl)
  (Xv:(apos.endLine == cpos.line)=true:=by rfl) (hs:starEach [e] X.env=(false,eval e X.env)::starEach [] X.env:=by rfl) :
  DS X Xf Xg (.Expr (.Call (.Attribute (.Name x px) "extend" apos) [e] [] cpos) pos) (HI i fz f) :=
 cT (oV (uR qP PySem.F.slot_list_extend PySem.F.type_list_extend HX (kg hN hv hd XM) (cL h fE hs) rfl Yi Xv hs rfl)) λE σ H ⟨HF,ρ,o,S,hg,q⟩=>by
  let⟨us,h1,hg⟩:=bs hg;let⟨ds,es,h2,h3,rfl⟩:=mF hg;let⟨Xj,s1,S1⟩:=S.hand fz;let⟨a,vs,e1,e2,e3,e5,e4⟩:=S1.own i ds h2;refine⟨.ref a,e1,.inl ⟨rfl,vs,iW.of e2⟩,Xj,_,us,S1.gr.fh,S1.X3,h1,λb ws H' Xh G hb hf h' r=>?_⟩;have S2:=S1.grow G;let⟨a',vs',f1,f2,f3,f5,f4⟩:=S2.own i ds h2;rw[e1] at f1;cases f1;split at h3
  ·rename_i hz;cases h3;exact⟨a,b,vs',ws,rfl,rfl,f2,h',by rw[f4.length,r.length];exact hz,q σ _ Xh (S2.mut h2 e1 f2 (f4.append r)) (s1.trans G.ff)⟩
  ·cases h3
def G6(ds:List D)(k:Int)(d:D):List D:=let j:=if k < 0 then (k+(ds.length:Int)).toNat else min k.toNat ds.length;ds.take j++d::ds.drop j
def NZ:V->List V->Hp->VK->Prop:=λx vs H Q=>∃l xs k y,x=.ref l/\vs=[.int k,y]/\H l=some (.lst xs)/\xs.length < sizeLine/\-(2 ^ 62)<=k/\k < 2 ^ 62 /\
 Q .Xe (upd H l (.lst (xs.take (if k < 0 then (k+(xs.length:Int)).toNat else min k.toNat xs.length)++y::xs.drop (if k < 0 then (k+(xs.length:Int)).toNat else min k.toNat xs.length))))
def IU:Ss X "list.insert" NZ:=by
 intro pins s σ H x vs v us Q I rx rv h;let⟨l,xs,k,y,rfl,rfl,hH,hz,k1,k2,q⟩:=h;cases rx;let⟨u1,u2,rfl,⟨t,rfl⟩,ru⟩:=L2.aS.two rv;let⟨z,its,n,r,hl,e⟩:=I.aaB hH;have Zv:¬(!Builtin.List.listFitsIndex k)=true:=by
  have:Builtin.List.listFitsIndex k=true:=by
   unfold Builtin.List.listFitsIndex;simp?[zF,zJ];lia
  rw[this];simp
 refine qY F.slot_list_insert ⟨_,e,rfl⟩ F.entry_list_insert (F.args_list_insert_3 _ _ _) (AutoListH.list_insert_list_int_val_1 l its.toArray n k t u2 Zv (by rw[zH];lia)) ⟨e,?_⟩;have hlen:its.length=xs.length:=hl.symm;refine⟨.Xe,_,I.ads (its':=its.take (if k < 0 then (k+(xs.length:Int)).toNat else min k.toNat xs.length)++u2::its.drop (if k < 0 then (k+(xs.length:Int)).toNat else min k.toNat xs.length)) hH e ?_ ((r.take _).append (.cons ru (r.drop _))) ?_,rfl,q⟩
 ·dsimp only;rw[zH,hlen];apply Array.toList_inj.mp;simp;exact kO (by rw[qJ,hlen];exact yN _)
 ·rw[zN,zL,jX,qJ];lia
def JI(i:Nat)(fz:List Nat)(fk f:Env->Option D):au->Option Out:=λρ=>(fk (aJ ρ)).bind λkd=>match kd with
 | .int k=>(mZ fz f ρ).bind λp=>sD i (λds=>if Da k=true/\ds.length < sizeLine then some (G6 ds k p.1) else none) p.2
 | _=>none
def IG(i:Nat)(fz:List Nat)(hN:X.N[i]?=some x)(hv:MT X.env.scope x)(hk:DE X e fk)(h:DE X e2 f)(hd:(x == ("__debug__":Str))=false:=by decide)(XM:(x == ("__classdict__":Str))=false:=by decide)
  (Yi:((backTo cpos (starEach [e,e2] X.env)).all (λx=>!x.1)&&(backToKw cpos (keywordEach [] X.env)).all (λx=>x.1.isSome)&&decide ([e,e2].length+([]:List Keyword).length+(if ([]:List Keyword).isEmpty then 0 else 1) < 30))=true:=by rfl)
  (Xv:(apos.endLine == cpos.line)=true:=by rfl) (hs:starEach [e,e2] X.env=(false,eval e X.env)::starEach [e2] X.env:=by rfl) (hs2:starEach [e2] X.env=(false,eval e2 X.env)::starEach [] X.env:=by rfl) :
  DS X Xf Xg (.Expr (.Call (.Attribute (.Name x px) "insert" apos) [e,e2] [] cpos) pos) (JI i fz fk f) :=
 cT (oV (uR qP PySem.F.slot_list_insert PySem.F.type_list_insert IU (kg hN hv hd XM) (cL hk (cL h fE hs2) hs) rfl Yi Xv hs (by rw[hs2];rfl))) λE σ H ⟨HF,ρ,o,S,hg,q⟩=>by
  let⟨kd,hkd,hg⟩:=bs hg;cases kd<;>try cases hg
  rename_i k;let⟨⟨d,ρ'⟩,h1,hg⟩:=bs hg;let⟨ds,es,h2,h3,rfl⟩:=mF hg;have Zx:∃ds',ρ[i]?=some (.own ds'):=by
   let⟨d1,_,h1⟩:=bs h1;split at h1
   ·cases h1;exact⟨ds,h2⟩
   ·let⟨d2,_,h1⟩:=ah h1;cases h1;rw[jn] at h2;let⟨s,hs,h2⟩:=ah h2;cases s with
    | Xe=>split at h2<;>cases h2
    | val _=>split at h2<;>cases h2
    | own xs=>exact⟨xs,hs⟩
  let⟨ds',Zx⟩:=Zx;let⟨a,vs,e1,e2,e3,e5,e4⟩:=S.own i ds' Zx;refine⟨.ref a,e1,.inl ⟨rfl,vs,iW.of e2⟩,H,aJ ρ,_,.refl _,S.all,hkd,λvk Hk HFk Gk rk=>?_⟩;simp?[Rep] at rk;subst rk;refine qj (S.step Gk.hh) h1 λv H' Xh s1 S' sh r=>?_;let⟨a',vs',f1,f2,f3,f5,f4⟩:=S'.own i ds h2;rw[e1] at f1;cases f1;split at h3
  ·rename_i hz;cases h3;have ok:=hz.1;unfold Da at ok;rw[zF] at ok;refine⟨a,vs',k,v,rfl,rfl,f2,by rw[f4.length];exact hz.2,yR ok.1,yR ok.2,q σ _ Xh (S'.mut h2 e1 f2 ?_) s1⟩;unfold G6;rw[f4.length];exact (f4.take _).append (aC.cons r (f4.drop _))
  ·cases h3
def iu:D->D->Option (List D)
 | .list xs,.list ys=>small (xs++ys)
 | _,_=>none
def Kw(K:W.Frag):R2:=λx y H Q=>∃a b xs ys,x=.ref a/\y=.ref b/\iW K H a xs/\iW K H b ys/\xs.length+ys.length<=sizeLine/\∀p,H p=none->Q (.ref p) (upd H p (.lst (xs++ys)))
def va:jz X (binaryOp .Add) (Kw X.K):=by
 intro pins s σ H x y v u Q I rx ry h;let⟨a,b,xs,ys,rfl,rfl,ha,hb,hz,q⟩:=h;cases rx;cases ry;let⟨its,r1,p1,_⟩:=I.list ha;let⟨Yd,r2,p2,_⟩:=I.list hb;let⟨⟨cls,dd,data,sl⟩,ho,hc,n,hd⟩:=id p1.isList;let⟨⟨aeu,dd2,data2,sl2⟩,ho2,Z8,n2,hd2⟩:=id p2.isList;simp only at hc hd Z8 hd2;subst hc hd Z8 hd2;refine Zi ⟨_,ho,rfl⟩ ⟨_,ho2,rfl⟩ noFill_list_add seq_list_add PySem.F.slot_list_add PySem.F.entry_list_add (PySem.F.args_list_add_2 _ _) (list_addW a b its.toArray Yd.toArray n n2 dd dd2 sl sl2 (by rw[zH,zH,<- r1.length,<- r2.length];exact hz)) ⟨ho,ho2,?_⟩;have e:its.toArray++Yd.toArray=(its++Yd).toArray:=by simp
 rw[e];exact⟨.ref s.heap.objs.size,_,I.abk (t':=s.toks) (r1.append r2) (by rw[zN];exact hz),rfl,q _ I.fresh⟩
def MY(g:D->D->Option (List D))(f1 f2:Env->Option D):Env->Option (List D):=λρ=>(f1 ρ).bind λx=>(f2 ρ).bind λy=>g x y
def Qm(ha:DE X a fa)(hb:DE X b fb):DF X (.BinOp a .Add b pos) (MY iu fa fb):=bo (FC va ha hb) λσ H Q ⟨HF,ρ,d,sm,eo,hf,q⟩=>by
 let⟨x,hx,hf⟩:=bs hf;let⟨y,hy,hg⟩:=bs hf;refine⟨HF,ρ,x,sm,eo,hx,λv1 H1 Xj g1 r1=>⟨Xj,ρ,y,g1.fh,eo.mono g1.ff,hy,λv2 H2 Xz g2 r2=>?_⟩⟩;have r1:=r1.mono g2.ff;cases x<;>cases y<;>simp?[iu] at hg<;>try cases hg
 rename_i xs ys;let⟨rfl,hz⟩:=fO hg;simp?[Rep] at r1 r2;let⟨a,vs,rfl,ha,ra⟩:=r1;let⟨b,us,rfl,hb,rb⟩:=r2;have G:=g1.trans g2;exact⟨a,b,vs,us,rfl,rfl,g2.fh.seq ha,g2.fh.seq hb,by rw[ra.length,rb.length,<- zN];exact hz,λp hp=>q p _ _ Xz (G.trans (.own G.fh hp)) (G.hh.free hp) (G.fh.free hp) aO (ra.append rb)⟩
def boolsOf:List D->Option (List Bool)
 | []=>some []
 | .bool b::r=>(boolsOf r).map (b::·)
 | _::_=>none
def j9:∀ {ds:List D}{bs:List Bool},boolsOf ds=some bs->ds=bs.map PyData.bool
 | [],bs,h=>by cases h;rfl
 | d::r,bs,h=>by
  cases d<;>simp?[boolsOf] at h<;>try cases h
  let⟨bs',h1,rfl⟩:=ah h;rw[j9 h1];rfl
def fN{K:W.Frag}:∀ {bs:List Bool}{vs:List V},aC K H (bs.map PyData.bool) vs->vs=bs.map V.bl
 | [],vs,h=>h.nil_inv
 | b::bs,vs,h=>by
  let⟨v,r,rfl,a,c⟩:=h.cons_inv;simp?[Rep] at a;rw[a,fN c];rfl
def ny:∀ {bs:List Bool}{us:List Value},aS (bs.map V.bl) us->us=bs.map Value.bool
 | [],us,h=>by cases h;rfl
 | b::bs,us,h=>by
  cases h with
  | cons r rr=>cases r;rw[ny rr];rfl
def range_all(bs:List Bool):(List.range bs.length).all (λi=>bs.getD i false)=bs.all id:=by
 induction bs with
 | nil=>rfl
 | cons b bs ih=>rw[zL,vX,xU,List.all_map,xU];simpa [Zm] using jD (b&&·) ih
def range_any(bs:List Bool):(List.range bs.length).any (λi=>bs.getD i false)=bs.any id:=by
 induction bs with
 | nil=>rfl
 | cons b bs ih=>rw[zL,vX,List.any_cons,List.any_map,List.any_cons];simpa [Zm] using jD (b||·) ih
def Fs(hc:X.calm=true):gD X (.builtin "all") (λxs H Q=>∃ (a:Addr) (bs:List Bool),xs=[.ref a]/\iW X.K H a (bs.map V.bl)/\Q (.bl (bs.all id)) H):=by
 intro pins s σ H xs us Q I r h;let⟨a,bs,rfl,hq,q⟩:=h;let⟨u,rfl,rx⟩:=vals1 r;cases rx;let⟨its,rv,pl,hz⟩:=I.list hq;have hv:=ny rv;subst hv;have hh:X.A.in1.handled=none:=I.ok.hd hc;refine call_all_walk (qL pl.isList ?_);let⟨o,ho,XJ,n,hd⟩:=pl.isList;have XA:a≠s.heap.objs.size:=yS (zY ho);refine⟨_,_,_,_,_,_,λi=>bs.getD i false,rfl,Walks.list hh s.heap.objs.size a XA (bs.map Value.bool).toArray,⟨⟨_,zX _ rfl,rfl,rfl⟩,pl.isList.push _⟩,λi v s' Q' E' hP hQ=>?_,λh' tk kp=>?_⟩
 ·have e:v=Value.bool (bs.getD i false):=by
   have hP:(bs.map Value.bool).toArray[i]?=some v:=hP;rw[wK,zO] at hP;let⟨b,hb,rfl⟩:=ah hP;rw[zG,hb];rfl
  subst e;exact xX hQ
 ·refine⟨.bl (bs.all id),H,?_,?_,q⟩
  ·exact I.kept (t':=tk) λb o' e=>kp b o' (by simp;exact yS (zY e)) (zU _ e)
  ·show Value.bool _=Value.bool _;have:=range_all bs;simp?[zH,zD];rw[this]
def jl:List D->Option D:=λds=>(oneOf ds).bind λd=>match d with
 | .list es=>(boolsOf es).map λbs=>.bool (bs.all id)
 | _=>none
def RI(hc:X.calm=true)(B:vg X "all" (.builtin "all"))(ha:DA X [e] fs)(he:starEach [e] X.env=(false,eval e X.env)::starEach [] X.env:=by rfl):DE X (.Call (.Name "all" p) [e] [] pos) (bu jl fs) :=
 jv (Fs hc) (by
  intro HF H ds vs d Q sm r hg q;let⟨x,hx,hg⟩:=bs hg;rw[iw hx] at r;cases x<;>try cases hg
  let⟨bs,hb,rfl⟩:=ah hg;let⟨v,r',rfl,a,b⟩:=r.cons_inv;rw[b.nil_inv];simp?[Rep] at a;let⟨p,us,rfl,h,rr⟩:=a;rw[j9 hb] at rr;have:=fN rr;subst this;exact⟨p,bs,rfl,sm.seq h,q _ H HF (.refl sm) (by simp[Rep])⟩) B ha (by decide) (by decide) he rfl
abbrev lexLt:=HT.lexLt
def ie:∀a:List Int,lexLt a a=false
 | []=>rfl
 | x::a=>by show HT.lexLt (x::a) (x::a)=false;rw[HT.fF,yM rfl];exact ie a
def fP:∀ {a b c:List Int},lexLt a b=true->lexLt b c=true->lexLt a c=true
 | [],[],_,h,_=>by cases h
 | [],_::_,[],_,h=>by cases h
 | [],_::_,_::_,_,_=>rfl
 | _::_,[],_,h,_=>by cases h
 | _::_,_::_,[],_,h=>by cases h
 | x::a,y::b,z::c,h1,h2=>by
  have h1:HT.lexLt (x::a) (y::b)=true:=h1;have h2:HT.lexLt (y::b) (z::c)=true:=h2;show HT.lexLt (x::a) (z::c)=true;rw[HT.fF] at h1 h2 ⊢;by_cases e1:x=y
  ·rw[yM e1] at h1;by_cases e2:y=z
   ·rw[yM e2] at h2;rw[yM (e1.trans e2)];exact fP h1 h2
   ·rw[yO e2] at h2;rw[yO (by lia)];have:=yR h2;exact yA (by lia)
  ·rw[yO e1] at h1;have q1:=yR h1;by_cases e2:y=z
   ·rw[yO (by lia)];exact yA (by lia)
   ·rw[yO e2] at h2;have q2:=yR h2;rw[yO (by lia)];exact yA (by lia)
def jd:∀ {a b:List Int},lexLt a b=false->lexLt b a=false->a=b
 | [],[],_,_=>rfl
 | [],_::_,h,_=>by cases h
 | _::_,[],_,h=>by cases h
 | x::a,y::b,h1,h2=>by
  have h1:HT.lexLt (x::a) (y::b)=false:=h1;have h2:HT.lexLt (y::b) (x::a)=false:=h2;rw[HT.fF] at h1 h2;by_cases e:x=y
  ·rw[yM e] at h1;rw[yM e.symm] at h2;rw[e,jd h1 h2]
  ·rw[yO e] at h1;rw[yO (λz=>e z.symm)] at h2;have:=Za h1;have:=Za h2;lia
def lexLe(a b:List Int):Bool:=!lexLt b a
def DH(a b c:List Int)(h1:lexLe a b=true)(h2:lexLe b c=true):lexLe a c=true:=by
 unfold lexLe at *;rw[yQ] at *;cases e:lexLt c a with
 | false=>rfl
 | true =>
  cases e1:lexLt a b with
  | true=>rw[fP e e1] at h2;cases h2
  | false =>
   have:=jd e1 h1;subst this;rw[e] at h2;cases h2
def DJ(a b:List Int):(lexLe a b||lexLe b a)=true:=by
 unfold lexLe;cases e1:lexLt b a with
 | false=>rfl
 | true =>
  cases e2:lexLt a b with
  | false=>rfl
  | true=>have:=fP e1 e2;rw[ie] at this;cases this
def uK(h1:lexLe a b=true)(h2:lexLe b a=true):a=b:=by
 unfold lexLe at *;rw[yQ] at *;exact jd h2 h1
def xp{α:Type}{le:α->α->Bool}(aeL:∀a b,le a b=true->le b a=true->a=b):∀ {l m:List α},l.Perm m->l.Pairwise (λa b=>le a b=true)->m.Pairwise (λa b=>le a b=true)->l=m
 | [],m,p,_,_=>p.nil_eq
 | a::l,[],p,_,_=>by have:=p.length_eq;simp at this
 | a::l,b::m,p,h1,h2=>by
  let⟨h1a,h1b⟩:=List.pairwise_cons.mp h1;let⟨h2a,h2b⟩:=List.pairwise_cons.mp h2;have e:a=b:=by
   have ha:a∈b::m:=p.mem_iff.mp zE;have hb:b∈a::l:=p.mem_iff.mpr zE;rcases List.mem_cons.mp ha with e|ha
   ·exact e
   ·rcases List.mem_cons.mp hb with e|hb
    ·exact e.symm
    ·exact aeL a b (h1a b hb) (h2a a ha)
  subst e;rw[xp aeL (List.perm_cons a |>.mp p) h1b h2b]
def vc(l:List (List Int)):List (List Int):=l.mergeSort lexLe
def K9(l:List (List Int)):(vc l).Perm l:=List.mergeSort_perm l lexLe
def Qt(l:List (List Int)):(vc l).Pairwise (λa b=>lexLe a b=true):=List.pairwise_mergeSort DH DJ l
def Lm{l:List (List Int)}(p:l.Perm m)(h:l.Pairwise (λa b=>lexLe a b=true)):l=vc m:=xp (λ_ _=>uK) (p.trans (K9 m).symm) h (Qt m)
def rk(l:List (List Int))(a:List Int):Int:=((l.countP λb=>lexLt b a:Nat):Int)
def PL(ha:a∈l):lexLt a b=decide (rk l a < rk l b):=by
 unfold rk;have mono:∀ {a b:List Int},lexLt a b=true->(l.countP λc=>lexLt c a)<=l.countP λc=>lexLt c b:=λ{a b} h=>List.countP_mono_left λc _ hc=>fP hc h;have strict:∀ {a b:List Int}(ha:a∈l),lexLt a b=true->(l.countP λc=>lexLt c a) < l.countP λc=>lexLt c b:=λ{a b} ha h=>by
  have key:∀m:List (List Int),a∈m->(m.countP λc=>lexLt c a) < m.countP λc=>lexLt c b:=λm hm=>by
   induction m with
   | nil=>cases hm
   | cons x m ih =>
    rw[List.countP_cons,List.countP_cons];have mo:(m.countP λc=>lexLt c a)<=m.countP λc=>lexLt c b:=List.countP_mono_left λc _ hc=>fP hc h;rcases List.mem_cons.mp hm with e|hm
    ·subst e;rw[ie,h];simp?[yP,qQ,xI];lia
    ·have:=ih hm;by_cases hx:lexLt x a=true
     ·rw[hx,fP hx h];simp?[xI];lia
     ·have hx':lexLt x a=false:=by simpa using hx
      rw[hx'];simp?[yP,qQ];split<;>lia
  exact key l ha
 cases e:lexLt a b with
 | true=>exact (yA (by have:=strict ha e;lia)).symm
 | false =>
  refine (zZ ?_).symm;cases e2:lexLt b a with
  | true=>have:=mono e2;lia
  | false=>rw[jd e e2];lia
section
variable {prog:Program}{w:World}{A:Around}{E:Value->Shared->Prop}{s:Shared}
def CI:∀ {us ws:List Value}{ns ms:List Int}(i:Nat),IntsAre us ns->IntsAre ws ms->Q (lexLt ns ms) s->W.KatLex prog w A true (decide (ns.length < ms.length)) Q (us.zip ws) i s
 | [],[],_,_,i,.nil,.nil,h=>h
 | [],_::_,_,_,i,.nil,.cons _ _ _,h=>by
  show Q (decide (0 < _+1)) s;rw[yA (Nat.succ_pos _)];exact h
 | _::_,[],_,_,i,.cons _ _ _,.nil,h=>by
  show Q (decide (_+1 < 0)) s;rw[zZ (wC _)];exact h
 | _::us,_::ws,_,_,i,.cons n t r1,.cons m u r2,h=>by
  have h:Q (HT.lexLt (n::_) (m::_)) s:=h;rw[HT.fF] at h;refine W.kat_cons (SeqAt.EqAt.int_int n t m u prog w _ _ ?_);cases e:(n == m) with
  | true =>
   have e':n=m:=eq_of_beq e;rw[yM e'] at h;refine W.kat_yes ?_;have:=CI (i+1) r1 r2 h;simp?[zL,Nat.add_lt_add_iff_right];exact this
  | false =>
   have e':¬ n=m:=λq=>by rw[q] at e;simp at e
   rw[yO e'] at h;refine W.kat_no ?_;by_cases hi:(true&&i == 0)=true
   ·rw[hi];exact oneLt_int h
   ·have YB:(true&&i == 0)=false:=by simpa using hi
    rw[YB];refine W.kat_one _ _ (lt_int ?_);exact h
end
def af(ns:List Int):D:=.tuple (ns.map PyData.int)
def intsOf:List D->Option (List Int)
 | []=>some []
 | .int n::r=>(intsOf r).map (n::·)
 | _::_=>none
def eQ:∀ {ds:List D}{ns:List Int},intsOf ds=some ns->ds=ns.map PyData.int
 | [],ns,h=>by cases h;rfl
 | d::r,ns,h=>by
  cases d<;>simp?[intsOf] at h<;>try cases h
  let⟨ns',h1,rfl⟩:=ah h;rw[eQ h1];rfl
def cX:∀ns:List Int,intsOf (ns.map PyData.int)=some ns
 | []=>rfl
 | n::ns=>by simp[intsOf,cX ns]
def Gh:D->Option (List Int)|.tuple ds=>(intsOf ds).bind λns=>if ns=[] then none else some ns|_=>none
def Eo(h:Gh d=some ns):d=af ns/\ns≠[]:=by
 cases d<;>try cases h
 let⟨ms,h1,h2⟩:=bs h;split at h2
 ·cases h2
 ·rename_i hn;cases h2;rw[eQ h1];exact⟨rfl,hn⟩
def IH(h:ns≠[]):Gh (af ns)=some ns:=by
 unfold af Gh;simp?[cX,zA];rw[yO h]
def rowsOf:List D->Option (List (List Int))
 | []=>some []
 | d::r=>(Gh d).bind λns=>(rowsOf r).map (ns::·)
def rY:∀ {ds:List D}{Xm:List (List Int)},rowsOf ds=some Xm->ds=Xm.map af/\∀ns∈Xm,ns≠[]
 | [],Xm,h=>by cases h;exact⟨rfl,λ_ z=>by cases z⟩
 | d::r,Xm,h=>by
  let⟨ns,h1,h⟩:=bs h;let⟨rest,h2,rfl⟩:=ah h;let⟨e,hn⟩:=Eo h1;let⟨e2,hn2⟩:=rY h2;refine⟨by rw[e,e2];rfl,λm hm=>?_⟩;rcases List.mem_cons.mp hm with q|q
  ·subst q;exact hn
  ·exact hn2 m q
def tv:∀ {Xm:List (List Int)},(∀ns∈Xm,ns≠[])->rowsOf (Xm.map af)=some Xm
 | [],_=>rfl
 | ns::r,h=>by
  simp?[zI,rowsOf,IH (h ns zE),zA,tv λm hm=>h m (zC _ hm),zB]
structure B8(h:Heap)(v:Value)(ns:List Int):Prop where
 ex:∃ (a:Addr) (o:Obj) (its:Array Value) (n:Nat),v=.ref a/\h.get? a=some o/\o.cls=.type "tuple"/\o.data=.seq its n/\IntsAre its.toList ns
def B8.keep(r:B8 h v ns)(k:∀b o,h.get? b=some o->h'.get? b=some o):B8 h' v ns:=let ⟨a,o,its,n,e,e1,e2,e3,e4⟩:=r.ex;⟨a,o,its,n,e,k _ _ e1,e2,e3,e4⟩
def Dx:∀ {vs:List Value}{Xm:List (List Int)},Paired (B8 h) vs Xm->(∀ns∈Xm,ns≠[])->∃fs:List Value,W.KatTups h vs fs/\fs.length=vs.length/\∀f∈fs,∃n t,f=Value.int n t
 | _,_,.nil,_=>⟨[],trivial,rfl,λ_ z=>by cases z⟩
 | _,_,.cons (a:=v) (b:=ns) r p,hn=>by
  let⟨fs,h1,h2,h3⟩:=Dx p λm hm=>hn m (zC _ hm);let⟨a,o,its,n,rfl,e1,e2,e3,e4⟩:=r.ex;cases hits:its.toList with
  | nil =>
   rw[hits] at e4;cases e4;exact absurd rfl (hn [] zE)
  | cons f rest =>
   rw[hits] at e4;cases e4 with
   | cons m t e5 =>
    have h0:its[0]?=some (.int m t):=by
     have:its.toList[0]?=some (Value.int m t):=by rw[hits];rfl
     simpa using this
    exact⟨.int m t::fs,W.KatTups.cons e1 e2 e3 h0 h1,by simp[h2],λg hg=>by
     rcases List.mem_cons.mp hg with q|q
     ·exact⟨m,t,q⟩
     ·exact h3 g q⟩
def nR:∀ {l:List α}{m:List β}{i:Nat},Paired R l m->i < l.length->R (l.getD i d) (m.getD i d')
 | _,_,i,.nil,h=>by simp at h
 | _,_,0,.cons r _,_=>r
 | _,_,i+1,.cons _ p,h=>by simpa using nR (i:=i) (d:=d) (d':=d') p (by simpa using h)
def Dc(hl:Srt.abp s.heap l vs)(hp:Paired (B8 s.heap) vs Xm)(hn:∀ns∈Xm,ns≠[])(h64:vs.length < 64)
  (h:∀ (h':Heap) (D:Addr) (c:Nat),(∀b o,s.heap.get? b=some o->h'.get? b=some o)->s.heap.objs.size<=D->h'.get? D=some (seqObj "list" (Srt.Xs (λi=>rk Xm (Xm.getD i [])) vs).toArray c)->Q (.ref D) { s with heap:=h' }) :
  wpAny (model prog w) A (call (.builtin "sorted") [.ref l]) Q E s:=by
 refine Srt.abq hl h64 (λi=>rk Xm (Xm.getD i [])) (tuples' true) (λh2 h' kp Q' q=>?_) (λh2 h' kp i j C hi hj q=>?_) h
 ·have hp':Paired (B8 h') vs Xm:=Paired.adf hp λ_ _ r=>r.keep kp;let⟨fs,t,hlen,hf⟩:=Dx hp' hn;refine W.kat_kind (s:={ s with heap:=h' }) (T:=.type "int") t (by lia) (λv hv=>?_) (by decide) q;let⟨n,t,rfl⟩:=hf v hv;exact W.Looks.of_pure rfl
 ·have ri:=(nR (d:=Value.none) (d':=[]) hp hi).keep kp;have rj:=(nR (d:=Value.none) (d':=[]) hp hj).keep kp;have hlen:=hp.length;let⟨a,o,its,n,ea,e1,e2,e3,e4⟩:=ri.ex;let⟨b,o',its',n',eb,f1,f2,f3,f4⟩:=rj.ex;unfold W.kas_ask;rw[ea,eb];have aaJ:Xm.getD i []∈Xm:=by
   rw[zG,zK (by lia)];exact qB _
  have q':C (lexLt (Xm.getD i []) (Xm.getD j [])) { s with heap:=h' }:=by
   rw[PL aaJ];exact q
  refine W.kat_lt (s:={ s with heap:=h' }) e1 e3 f1 f3 ?_;have:=CI (prog:=prog) (w:=w) (A:=A.in1.in1) (s:={ s with heap:=h' }) 0 e4 f4 q';have l1:its.size=(Xm.getD i []).length:=by have:=IntsAre.length e4;simpa using this
  have l2:its'.size=(Xm.getD j []).length:=by have:=IntsAre.length f4;simpa using this
  rw[l1,l2];exact this
def Bz(z:Nat->Int)(l:List α)(d:α):List α:=if l.length < 2 then l else (SP.run (SP.fT z) (W.kas_sort l.length)).toList.map λi=>l.getD i d
def me(l:List α)(d:α):(List.range l.length).map (λi=>l.getD i d)=l:=by
 apply jI
 ·simp
 ·intro i h1 h2;simp[h2]
def n6(z:Nat->Int)(l:List α)(d:α):(Bz z l d).Perm l:=by
 unfold Bz;split
 ·exact List.Perm.refl _
 ·rename_i h;have:=((SP.kn (z:=z) (n:=l.length) (by lia)).1).map λi=>l.getD i d;rw[me] at this;exact this
def NS(Xm:List (List Int)):Bz (λi=>rk Xm (Xm.getD i [])) Xm []=vc Xm:=by
 refine Lm (n6 _ _ _) ?_;unfold Bz;split
 ·rename_i h
  match Xm,h with
  | [],_=>exact List.Pairwise.nil
  | [a],_=>exact vR _ _
 ·rename_i h;let⟨hp,hs⟩:=SP.kn (z:=λi=>rk Xm (Xm.getD i [])) (n:=Xm.length) (by lia);rw[jF] at hs ⊢;refine hs.imp_of_mem λ{i j} hi hj XB=>?_;have hj':j < Xm.length:=by have:=hp.mem_iff.mp hj;simpa using this
  unfold lexLe;rw[PL (l:=Xm) (a:=Xm.getD j []) (by rw[zG,zK hj'];exact qB _)];simp?[yQ,xC];lia
def C8{K:W.Frag}(z:Nat->Int)(r:aC K HF ds vs):aC K HF (Bz z ds .none) (Bz z vs .Xe):=by
 unfold Bz;rw[r.length];split
 ·exact r
 ·rename_i h;let⟨hp,_⟩:=SP.kn (z:=z) (n:=ds.length) (by lia);have key:∀l:List Nat,(∀i∈l,i < ds.length)->aC K HF (l.map λi=>ds.getD i .none) (l.map λi=>vs.getD i .Xe):=λl=>by
   induction l with
   | nil=>exactλ_=>aC.nil
   | cons i l ih =>
    intro hl;have hi:=hl i zE;let⟨v,e1,e2⟩:=r.getD (zK hi);refine aC.cons ?_ (ih λj hj=>hl j (zC _ hj));dsimp only;rw[zG,zG,e1,zK hi];exact e2
  exact key _ λi hi=>by have:=hp.mem_iff.mp hi;simpa using this
def BI(z:Nat->Int)(r:aS vs us):aS (Bz z vs .Xe) (Srt.Xs z us):=by
 unfold Bz Srt.Xs;rw[r.length];split
 ·exact r
 ·rename_i h;let⟨hp,_⟩:=SP.kn (z:=z) (n:=us.length) (by lia);have key:∀l:List Nat,(∀i∈l,i < vs.length)->aS (l.map λi=>vs.getD i .Xe) (l.map λi=>us.getD i Value.none):=λl=>by
   induction l with
   | nil=>exactλ_=>.nil
   | cons i l ih =>
    intro hl;have hi:=hl i zE;let⟨v,e1,e2⟩:=r.get (zK hi);refine .cons ?_ (ih λj hj=>hl j (zC _ hj));dsimp only;rw[zG,zG,e1,zK hi];exact e2
  exact key _ λi hi=>by have:=hp.mem_iff.mp hi;rw[r.length];simpa using this
def N9(z:Nat->Int)(Xm:List (List Int)):Bz z (Xm.map af) .none=(Bz z Xm []).map af:=by
 unfold Bz;rw[zD];split
 ·rfl
 ·rename_i h;rw[zM];let⟨hp,_⟩:=SP.kn (z:=z) (n:=Xm.length) (by lia);refine yI λi hi=>?_;have YB:i < Xm.length:=by have:=hp.mem_iff.mp hi;simpa using this
  simp[YB]
def He(I:Inv X pins σ H s)(sm:aY HF H):∀ {Xm:List (List Int)}{vs:List V}{us:List Value},aC X.K HF (Xm.map af) vs->aS vs us->Paired (B8 s.heap) us Xm
 | [],_,_,h,r=>by rw[h.nil_inv] at r;cases r;exact .nil
 | ns::Xm,_,_,h,r=>by
  let⟨v,vr,rfl,a,b⟩:=h.cons_inv;cases r with
  | cons r rr =>
   refine .cons ?_ (He I sm b rr);unfold af at a;simp?[Rep] at a;let⟨p,ws,rfl,hs,rw'⟩:=a;cases r;let⟨its,rv,⟨o,ho,hc,n,hd⟩,_⟩:=I.tuple (aR sm hs);have:ws=ns.map V.int:=by
    have key:∀ {ns:List Int}{ws:List V},aC X.K HF (ns.map PyData.int) ws->ws=ns.map V.int:=λ{ns}=>by
     induction ns with
     | nil=>exactλh=>h.nil_inv
     | cons n ns ih =>
      intro ws h;let⟨v,r,rfl,a,b⟩:=h.cons_inv;simp?[Rep] at a;rw[a,ih b];rfl
    exact key rw'
   subst this;exact⟨p,o,its.toArray,n,rfl,ho,hc,hd,intsAre_of rv⟩
def pP:gD X (.builtin "sorted") (λxs H Q=>∃ (HF:Hp) (a:Addr) (vs:List V) (Xm:List (List Int)),xs=[.ref a]/\aY HF H/\(iW X.K HF a vs\/lG X.K HF a vs)/\aC X.K HF (Xm.map af) vs/\(∀ns∈Xm,ns≠[])/\Xm.length < 64 /\
  ∀ (Dn:Addr) (us:List V),H Dn=none->aC X.K HF ((vc Xm).map af) us->Q (.ref Dn) (upd H Dn (.lst us))):=by
 intro pins s σ H xs us Q I r h;let⟨HF,a,vs,Xm,rfl,sm,hq,rr,hn,h64,q⟩:=h;let⟨u,rfl,rx⟩:=vals1 r;cases rx;obtain⟨its,rv,pl,hz⟩:∃its:List Value,aS vs its/\Srt.abp s.heap a its/\vs.length<=sizeLine:=by
  rcases hq with hq|hq
  ·let⟨its,rv,pl,hz⟩:=I.list (sm.seq hq);let⟨o,ho,hc,n,hd⟩:=pl.isList;exact⟨its,rv,⟨o,"list",n,.inl rfl,ho,hc,hd⟩,hz⟩
  ·let⟨its,rv,pl,hz⟩:=I.tuple (aR sm hq);let⟨o,ho,hc,n,hd⟩:=(show s.heap.IsTuple a its.toArray from pl)
   exact⟨its,rv,⟨o,"tuple",n,.inr rfl,ho,hc,hd⟩,hz⟩
 have hl1:=rr.length;rw[zD] at hl1;refine Dc pl (He I sm rr rv) hn (by have:=rv.length;lia) λh' Dn c kp hD e=>?_;have hv:=BI (λi=>rk Xm (Xm.getD i [])) rv;have hr:=C8 (λi=>rk Xm (Xm.getD i [])) rr;rw[N9,NS] at hr;refine⟨.ref Dn,_,I.laid (t':=s.toks) (o:=.lst (Bz (λi=>rk Xm (Xm.getD i [])) vs .Xe)) kp hD ⟨?_,_,c,hv,e⟩,rfl,q Dn _ (I.Xi.fresh hD) hr⟩;rw[(n6 _ _ _).length_eq];exact hz
def iA:List D->Option (List D):=λds=>(oneOf ds).bind λd=>match d with
 | .list es=>(rowsOf es).bind λXm=>if Xm.length < 64 then some ((vc Xm).map af) else none
 | .tuple es=>(rowsOf es).bind λXm=>if Xm.length < 64 then some ((vc Xm).map af) else none
 | _=>none
def Je(B:vg X "sorted" (.builtin "sorted"))(ha:DA X [e] fs)(he:starEach [e] X.env=(false,eval e X.env)::starEach [] X.env:=by rfl):DF X (.Call (.Name "sorted" p) [e] [] pos) (wg iA fs) :=
 Me pP (by
  intro HF H ds vs d Q sm r hg q;let⟨x,hx,hg⟩:=bs hg;rw[iw hx] at r;have key:∀ (b:Bool) (es:List D),aC X.K HF [if b then .tuple es else .list es] vs->((rowsOf es).bind λXm=>if Xm.length < 64 then some ((vc Xm).map af) else none)=some d->(∃ (HF:Hp) (a:Addr) (us:List V) (Xm:List (List Int)),vs=[.ref a]/\aY HF H/\(iW X.K HF a us\/lG X.K HF a us)/\aC X.K HF (Xm.map af) us/\(∀ns∈Xm,ns≠[])/\Xm.length < 64/\∀ (Dn:Addr) (ws:List V),H Dn=none->aC X.K HF ((vc Xm).map af) ws->Q (.ref Dn) (upd H Dn (.lst ws))):=λb es r hg=>by
   let⟨Xm,hb,hg⟩:=bs hg;split at hg
   ·rename_i h64;cases hg;let⟨v,r',rfl,a,e0⟩:=r.cons_inv;rw[e0.nil_inv];let⟨e1,e2⟩:=rY hb;obtain⟨p,us,rfl,h,rr⟩:∃p us,v=.ref p/\(iW X.K HF p us\/lG X.K HF p us)/\aC X.K HF es us:=by
     cases b
     ·simp?[yP,qQ,Rep] at a;let⟨p,us,rfl,h,rr⟩:=a;exact⟨p,us,rfl,.inl h,rr⟩
     ·simp?[xI,Rep] at a;let⟨p,us,rfl,h,rr⟩:=a;exact⟨p,us,rfl,.inr h,rr⟩
    rw[e1] at rr;exact⟨HF,p,us,Xm,rfl,sm,h,rr,e2,h64,λDn ws hD hr=>q Dn ws _ HF (.own sm hD) hD (sm.free hD) aO hr⟩
   ·cases hg
  cases x<;>try cases hg
  ·exact key false _ r hg
  ·exact key true _ r hg) B ha (by decide) (by decide) he rfl
end Dl
namespace En
open PySem PyProof.Rows
open AutoSeq1 (wpAny_loadPart')
def ZA(hj:s.heap.IsTupleIter j t k)(ht:s.heap.IsTuple t its)(hv:its[k]?=some v)
  (hQ:∀g,g.IsTupleIter j t (k+1)->Heap.SameBut j s.heap g->Q v { s with heap:=g }):wpAny (model prog w) A (Builtin.SmallTypes.nextOf (.ref j)) Q E s:=by
 let⟨oj,gj,cj,dj⟩:=id hj;let⟨ot,gt,_,nt,dt⟩:=ht;unfold Builtin.SmallTypes.nextOf;refine zV (qD (name:=Str.ofString "__next__") hj.typeIs jS (qX jS hj.typeIs F.entry_tuple_iterator_next ?_ (F.args_tuple_iterator_next_1 _)));refine zV (m:=field (.ref j) 0) (qU gj dj (x:=.ref t) rfl ?_);show wpAny _ _ (if (Value.ref t == Value.none)=true then _ else _) _ _ s;rw[yO (show ¬ ((Value.ref t == Value.none)=true) by exact xA)];refine zV (m:=field (.ref j) 1) (qU gj dj (x:=.int k 0) rfl ?_);refine zV (m:=seqItems? (.ref t)) (kL gt dt ?_);simp?[yG,hv];refine zV (wpAny_setField gj dj (by simp) (zW ⟨v,rfl,zW (hQ _ ⟨_,Heap.get?_update_self _ gj (Obj.isFreed_of_fields (Obj.data_mapFields dj _)),(Obj.cls_mapFields ..).trans cj,?_⟩ (Heap.SameBut.update ..))⟩));rw[Obj.data_mapFields dj];simp[rawInt]
def aae{Q:Value->Shared->Prop}(hh:A.handled=none)(hj:s.heap.IsTupleIter j t k)(ht:s.heap.IsTuple t its)(hv:its[k]?=none)
  (hE:∀g x,Heap.ExtBut j s.heap g->(∃o,g.get? x=some o/\o.cls=.type "StopIteration")->E (.ref x) { s with heap:=g }):wpAny (model prog w) A (Builtin.SmallTypes.nextOf (.ref j)) Q E s:=by
 let⟨oj,gj,cj,dj⟩:=id hj;let⟨ot,gt,_,nt,dt⟩:=ht;unfold Builtin.SmallTypes.nextOf;refine zV (qD (name:=Str.ofString "__next__") hj.typeIs jS (qX jS hj.typeIs F.entry_tuple_iterator_next ?_ (F.args_tuple_iterator_next_1 _)));refine zV (m:=field (.ref j) 0) (qU gj dj (x:=.ref t) rfl ?_);show wpAny _ _ (if (Value.ref t == Value.none)=true then _ else _) _ _ s;rw[yO (show ¬ ((Value.ref t == Value.none)=true) by exact xA)];refine zV (m:=field (.ref j) 1) (qU gj dj (x:=.int k 0) rfl ?_);refine zV (m:=seqItems? (.ref t)) (kL gt dt ?_);simp?[yG,hv];refine zV (wX (zV (wpAny_setField gj dj (by simp) (zV (m:=newExc (.type "StopIteration") []) ?_))));simp?[newExc,newTuple];refine zV (qM (zV (m:=firstArgMember _ _) (wpAny_of_eq (a:=Value.none) (by first|rfl|(simp?[firstArgMember];rfl)) ?_)) (by size_fits));refine qM ?_ (by size_fits);simp?[raiseNew];refine zV (wpAny_handled ?_)
 first|rw[show A.in1.handled=none from hh]|rw[hh]
 exact zV (zW (wpAny_throw (hE _ _ (((Heap.SameBut.update ..).extBut.push _).push _) ⟨_,zX _ rfl,rfl⟩)))
def Y4(t:Addr)(its:Array Value)(n:Nat)(dd:Option Addr)(sl:Array (Option Value)) :
  Meets (Builtin.«enumerate.__new__» ⟨[.type "enumerate",.ref t],[]⟩) (λ_ R s=>s.heap.get? t=some { cls:=.type "tuple",dict:=dd,data:=.seq its n,slots:=sl } /\
   R (.ok (.ret (.ref (s.heap.push { cls:=.type "tuple_iterator",data:=.fields #[.ref t,.int 0 0] }).objs.size)))
    { s with heap:=(s.heap.push { cls:=.type "tuple_iterator",data:=.fields #[.ref t,.int 0 0] }).push { cls:=.type "enumerate",data:=.fields #[.none,.bool false,.ref s.heap.objs.size,rawInt 0,.none,.none] } }) :=
 .of_wp λprog w A R s h=>by
  let⟨hp,g,d,tk,os⟩:=s;let⟨hl,h⟩:=h;have abt:=sub_enumerate;have hL:Heap.IsTuple (Shared.heap ⟨hp,g,d,tk,os⟩) t its:=⟨_,hl,rfl,n,rfl⟩
  wp_walk using wpAny_loadPart' hl
  refine wpAny_stack_any λst=>zW ?_;split
  ·rename_i c _ _ _ _ _;cases (c == Value.type "enumerate")
   ·wp_walk using wpAny_loadPart' hl,xS hL
    exact⟨_,rfl,h⟩
   ·wp_walk using wpAny_loadPart' hl,xS hL
    exact⟨_,rfl,h⟩
  ·wp_walk using wpAny_loadPart' hl,xS hL
   exact⟨_,rfl,h⟩
def ZC(ht:s.heap.IsTuple t its)
  (h:∀h',IsEnum h' (s.heap.objs.size+1) s.heap.objs.size 0 .none->h'.IsTupleIter s.heap.objs.size t 0->h'.objs.size=s.heap.objs.size+2->(∀b o,s.heap.get? b=some o->h'.get? b=some o)->Q (.ref (s.heap.objs.size+1)) { s with heap:=h' }) :
  wpAny (model prog w) A (call (.type "enumerate") [.ref t]) Q E s:=by
 let⟨⟨c,dct,dt,sl⟩,hl,hc,n,hd⟩:=ht;simp only at hc hd;subst hc hd;refine callType_new F.called_enumerate (by decide) (F.typeCall_enumerate_1 _) (F.newCall_enumerate_1 _) (λobj=>F.args_object_init_2 obj _) F.entry_enumerate_new (Y4 t its n dct sl) ⟨hl,?_⟩;have hz:(s.heap.push { cls:=.type "tuple_iterator",data:=.fields #[.ref t,.int 0 0] }).objs.size=s.heap.objs.size+1:=by rw[xK]
 have he:=zX (s.heap.push { cls:=.type "tuple_iterator",data:=.fields #[.ref t,.int 0 0] }) (o:={ cls:=.type "enumerate",data:=.fields #[.none,.bool false,.ref s.heap.objs.size,rawInt 0,.none,.none] }) rfl;show _/\_;rw[hz] at he ⊢;refine⟨⟨_,he,rfl⟩,h _ he ⟨_,zU _ (zX _ rfl),rfl,rfl⟩ ?_ λb o x=>zU _ (zU _ x)⟩;show (Heap.push _ _).objs.size=_;rw[xK,hz]
end En
namespace Dl
open PySem L2 PySem.Spec PyProof.Rows
section
variable {ch:List Addr}
def CP(I:Inv X pins σ H s)(Yr:∀b∈ch,dz X pins H b)(k:∀b o,b∉ch->s.heap.get? b=some o->h'.get? b=some o){T:Addr}{vals:List Value}{xs:List V}(hT:s.heap.objs.size<=T)(ht:tI h' T vals.toArray)
  (rv:aS xs vals) (hz:xs.length<=sizeLine):Inv X pins σ (upd H T (.tup xs)) { s with heap:=h',toks:=t' }:=by
 have nT:H T=none:=I.Xi.fresh hT;have ne:∀b o,s.heap.get? b=some o->b≠T:=λb o e=>yS (zP (zY e) hT);have ne2:∀b o,H b=some o->b≠T:=λb o e=>ba e nT;have Z7:∀b o,H b=some o->b∉ch:=λb o e z=>by rw[(Yr b z).1] at e;cases e
 refine I.step (g':=s.gens) (d':=s.drawn) (ch:=ch) (λb hb=>?_) (λb o _ _ hc e _=>k b o hc e) (λb o _ _ hc e _=>⟨o.slots,k b o hc e⟩) (λb o _ e n=>by rw[aG (ne b o e)];exact n)
  (λb o hc e=>⟨o,k b o hc e⟩) (λb ys e=>by rw[aG (ne2 b _ e)];exact e) (λb o u e=>by rw[aG (ne2 b _ e)];exact e) (.kept (λb u ⟨q,z⟩ e=>k b u (Z7 b _ z) e) λb u e _=>by rw[aG (ne2 b _ e)];exact e) (λm hm=>?_) (λb u e=>?_) I.bare
 ·let⟨f0,f1,f2,f3,f4,f5⟩:=Yr b hb;exact⟨f3,f1,f4,f5⟩
 ·let⟨o,es,ep,ho,r⟩:=hm;exact⟨o,es,ep,k _ o (λz=>(Yr _ z).2.1 rfl) ho,r⟩
 ·by_cases hb:b=T
  ·subst hb;rw[aO] at e;cases e;exact⟨hz,vals,rv,ht⟩
  ·rw[aG hb] at e;refine (I.Xi b u e).XU (λc v hc q=>k c v ?_ q) (λ_ q=>?_) λc v q _=>?_
   ·rcases hc with z|z
    ·rw[z];exact Z7 b u e
    ·exact Z7 c _ z
   all_goals first
    | (rw[aG (ne2 _ _ q)];exact q)
    | exact q
def Ur(I:Inv X pins σ H s)(hf:dz X pins H b)(h:X.K.lookup a=some o):a≠b:=by
 rintro rfl;have hb:=I.ok.mod.kin a o h;rcases hf.2.2.2.1 with z|z
 ·exact I.ok.YY a o hb z
 ·exact absurd (zP (zY (I.ok.bs a o hb).1) z) (qF _)
def Rh(I:Inv X pins σ H s)(hf:dz X pins H b)(h:iW X.K H a xs):a≠b:=by
 rcases h with (h|⟨o,h⟩)|⟨o,its,n,h,_⟩
 ·exact ba h hf.1
 ·exact ba h hf.1
 ·exact Ur I hf h
def Qj(I:Inv X pins σ H s)(hf:dz X pins H b)(h:lG X.K H a xs):a≠b:=by
 rcases h with (h|⟨o,h⟩)|⟨o,its,n,h,_⟩
 ·exact ba h hf.1
 ·exact ba h hf.1
 ·exact Ur I hf h
end
def VE(sq:Hp->List V->Prop):It:=⟨λi H=>∃xs x,sq H xs/\xs[i]?=some x,λi H v H'=>∃T y,v=.ref T/\H T=none/\H'=upd H T (.tup [.int (i:Nat),y])/\∀xs,sq H xs->xs[i]?=some y,λi H=>∃xs,sq H xs/\xs.length<=i⟩
def bP(k:Nat):List D->List D
 | []=>[]
 | d::ds=>.tuple [.int (k:Nat),d]::bP (k+1) ds
def zr:∀ {ds:List D}{k i:Nat}{d:D},(bP k ds)[i]?=some d->∃x,ds[i]?=some x/\d=.tuple [.int ((k+i:Nat):Int),x]
 | [],k,i,d,h=>by simp[bP] at h
 | x::ds,k,0,d,h=>by simp[bP] at h;exact⟨x,rfl,h.symm⟩
 | x::ds,k,i+1,d,h=>by
  simp?[bP,yZ] at h;let⟨y,h1,h2⟩:=zr h;refine⟨y,by simpa using h1,?_⟩;rw[h2,show k+1+i=k+(i+1) by lia]
def mz:∀ (ds:List D) (k:Nat),(bP k ds).length=ds.length
 | [],k=>rfl
 | x::ds,k=>by simp[bP,mz ds (k+1)]
def HD{K:W.Frag}(h:sq HF vs)(mo:∀H H',aY H H'->sq H vs->sq H' vs)(r:aC K HF ds vs):xu K (VE sq) HF (bP 0 ds) where
 go:=λi d XI Xp e s1 s2=>by
  let⟨x,hx,rfl⟩:=zr e;rw[jE];let⟨v,hv,rv⟩:=r.getD hx;have q:=mo _ _ s2 (mo _ _ s1 h);refine⟨⟨vs,v,q,hv⟩,λy Zw ⟨T,z,e1,hT,e2,hy⟩=>?_⟩;have:=hy vs q;rw[hv] at this;cases this;subst e1 e2;exact⟨_,.new s2 hT,fM (s2.free hT) (aC.cons (by simp[Rep]) (aC.cons (rv.mono s1) aC.nil))⟩
 stop:=λXI Xp s1 s2=>⟨vs,mo _ _ s2 (mo _ _ s1 h),by rw[mz,r.length];exact yN _⟩
def Vm(sq1 sq2:Hp->List V->Prop):It:=⟨λi H=>∃xs ys x y,sq1 H xs/\sq2 H ys/\xs[i]?=some x/\ys[i]?=some y,
 λi H v H'=>∃T x y,v=.ref T/\H T=none/\H'=upd H T (.tup [x,y])/\(∀xs,sq1 H xs->xs[i]?=some x)/\∀ys,sq2 H ys->ys[i]?=some y,
 λi H=>∃xs ys,sq1 H xs/\sq2 H ys/\(xs.length<=i\/ys.length<=i)⟩
section
variable {ch:List Addr}
def HP(I:Inv X pins σ H s)(Yr:∀b∈ch,dz X pins H b)(k:∀b o,b∉ch->s.heap.get? b=some o->h'.get? b=some o):Inv X pins σ H { s with heap:=h',toks:=t' }:=by
 have Z7:∀b o,H b=some o->b∉ch:=λb o e z=>by rw[(Yr b z).1] at e;cases e
 refine I.step (g':=s.gens) (d':=s.drawn) (ch:=ch) (λb hb=>?_) (λb o _ _ hc e _=>k b o hc e) (λb o _ _ hc e _=>⟨o.slots,k b o hc e⟩) (λb o _ e n=>n)
  (λb o hc e=>⟨o,k b o hc e⟩) (λb ys e=>e) (λb o u e=>e) (.kept (λb u ⟨q,z⟩ e=>k b u (Z7 b _ z) e) λb u e _=>e) (λm hm=>?_) (λb u e=>?_) I.bare
 ·let⟨f0,f1,f2,f3,f4,f5⟩:=Yr b hb;exact⟨f3,f1,f4,f5⟩
 ·let⟨o,es,ep,ho,r⟩:=hm;exact⟨o,es,ep,k _ o (λz=>(Yr _ z).2.1 rfl) ho,r⟩
 ·refine (I.Xi b u e).XU (λc v hc q=>k c v ?_ q) (λ_ q=>q) λc v q _=>q;rcases hc with z|z
  ·rw[z];exact Z7 b u e
  ·exact Z7 c _ z
end
structure WM(z TI TO i1 i2:Addr):Prop where
 a1:TI≠z
 a2:TO≠z
 a3:i1≠z
 a4:i2≠z
 a5:TI≠TO
 a6:TI≠i1
 a7:TI≠i2
 a8:TO≠i1
 a9:TO≠i2
 a0:i1≠i2
def hZ:List D->List D->List D
 | x::xs,y::ys=>.tuple [x,y]::hZ xs ys
 | _,_=>[]
def uc:∀ {xs ys:List D}{i:Nat}{d:D},(hZ xs ys)[i]?=some d->∃x y,xs[i]?=some x/\ys[i]?=some y/\d=.tuple [x,y]
 | [],_,i,d,h=>by simp[hZ] at h
 | _::_,[],i,d,h=>by simp[hZ] at h
 | x::xs,y::ys,0,d,h=>by simp[hZ] at h;exact⟨x,y,rfl,rfl,h.symm⟩
 | x::xs,y::ys,i+1,d,h=>by
  simp?[hZ,yZ] at h;let⟨a,b,h1,h2,h3⟩:=uc h;exact⟨a,b,by simpa using h1,by simpa using h2,h3⟩
def pq:∀ (xs ys:List D),(hZ xs ys).length=min xs.length ys.length
 | [],_=>by simp[hZ]
 | _::_,[]=>by simp[hZ]
 | x::xs,y::ys=>by simp[hZ,pq xs ys]
def Kg{K:W.Frag}(h1:sq1 HF vs)(mo1:∀H H',aY H H'->sq1 H vs->sq1 H' vs)(h2:sq2 HF us)(mo2:∀H H',aY H H'->sq2 H us->sq2 H' us)(r1:aC K HF xs vs)(r2:aC K HF ys us) :
  xu K (Vm sq1 sq2) HF (hZ xs ys) where
 go:=λi d XI Xp e s1 s2=>by
  let⟨x,y,hx,hy,rfl⟩:=uc e;let⟨v,hv,rv⟩:=r1.getD hx;let⟨u,hu,ru⟩:=r2.getD hy;have q1:=mo1 _ _ s2 (mo1 _ _ s1 h1);have q2:=mo2 _ _ s2 (mo2 _ _ s1 h2);refine⟨⟨vs,us,v,u,q1,q2,hv,hu⟩,λw Zw ⟨T,a,b,e1,hT,e2,ha,hb⟩=>?_⟩;have ea:=ha vs q1;have eb:=hb us q2;rw[hv] at ea;rw[hu] at eb;cases ea;cases eb;subst e1 e2;exact⟨_,.new s2 hT,fM (s2.free hT) (aC.cons (rv.mono s1) (aC.cons (ru.mono s1) aC.nil))⟩
 stop:=λXI Xp s1 s2=>⟨vs,us,mo1 _ _ s2 (mo1 _ _ s1 h1),mo2 _ _ s2 (mo2 _ _ s1 h2),by rw[pq,r1.length,r2.length];lia⟩
def cut(xs:List α)(lo hi:Option Int):List α:=(xs.drop (HT.eH xs.length 0 lo)).take (HT.eH xs.length xs.length hi - HT.eH xs.length 0 lo)
def Gb(xs:List α)(lo hi:Option Int):(cut xs lo hi).length<=xs.length:=by
 unfold cut;rw[jX,qJ];lia
def ug{K:W.Frag}(r:aC K H ds vs)(lo hi:Option Int):aC K H (cut ds lo hi) (cut vs lo hi):=by
 unfold cut;rw[r.length];exact (r.drop _).take _
section
def Hs{vl:Value}{lo:Option Int}(ht:IsTup s.heap t its)(hs:s.heap.IsSliceOf sl vl vu .none)(pl:IsPart vl lo)(pu:IsPart vu hi)
  (hw:HT.eH its.size 0 lo=0/\HT.eH its.size its.size hi=its.size) (h:Q (.ref t) s):wpAny (model prog w) A (getItem (.ref t) (.ref sl)) Q E s:=by
 let⟨os,hos,hcs,hds⟩:=id hs;have hTs:s.TypeIs (.ref sl) "slice":=⟨os,hos,hcs⟩
 unfold getItem
 try with_reducible refine xY ?_
 first|refine zV (zW ?_)|skip
 refine zV (wpAny_sequenceKey ht.typeIs (by decide) (zV (qD (name:=Str.ofString "__getitem__") ht.typeIs jG (qX jG ht.typeIs entry_tuple_getitem ?_ (args_tuple_getitem _ _)))));refine zV (m:=Builtin.Tuple.tupleItemsOf (.ref t)) (tupleItemsOf_ ht (zV (Zg hTs ?_)));rw[yM (by decide)];refine zV (HT.jw hs pl pu ?_);show wpAny _ _ (if (((HT.eH its.size 0 lo:Nat):Int) == 0&&(1:Int) == 1&&(HT.eH its.size its.size hi - HT.eH its.size 0 lo) == its.size)=true then _ else _) _ _ s;rw[hw.1,hw.2,yM (by simp)];unfold Builtin.Tuple.tupleIsExact;refine zV (zV (Zg ht.typeIs (zW ?_)));rw[yM (by decide)]
 first
  | exact zV (wX (zW ⟨_,rfl,zW h⟩))
  | exact zV (wX (zV (zW (zW ⟨_,rfl,zW h⟩))))
def Vq(K:W.Frag):V->Option Int->Option Int->Hp->VK->Prop:=λx lo hi H Q=>∃a xs,x=.ref a/\lG K H a xs/\(cut xs lo hi=xs->Q (.ref a) H)/\∀p,H p=none->Q (.ref p) (upd H p (.tup (cut xs lo hi)))
def Sj:PJ X (Vq X.K):=by
 intro pins s σ H x v vl vu lo hi sl Q I rx hs pl pu h;let⟨a,xs,rfl,hx,q1,q2⟩:=h;by_cases hw:HT.eH xs.length 0 lo=0/\HT.eH xs.length xs.length hi=xs.length
 ·cases rx;let⟨its,r,ht,hz⟩:=I.tuple hx;have hlen:its.toArray.size=xs.length:=by rw[zH];exact r.length.symm
  refine⟨"tuple",_,PyProof.Rows.slot_tuple_getitem.lookup,ht.typeIs,Hs ht hs pl pu (by rw[hlen];exact hw) ⟨.ref a,H,I,rfl,q1 ?_⟩⟩;unfold cut;rw[hw.1,hw.2,List.drop_zero,Nat.sub_zero,List.take_length]
 ·exact Q3 pins s σ H (.ref a) v vl vu lo hi sl Q I rx hs pl pu ⟨a,xs,rfl,hx,hw,q2⟩
def Vp(K:W.Frag):V->Option Int->Option Int->Hp->VK->Prop:=λx lo hi H Q=>∃a xs,x=.ref a/\iW K H a xs/\∀p,H p=none->Q (.ref p) (upd H p (.lst (cut xs lo hi)))
def Ec(lo hi:Option Int)(n:Nat):sliceBounds lo hi none n=(((HT.eH n 0 lo:Nat):Int),((HT.eH n n hi:Nat):Int),1):=by
 have h1:(1:Int) > 0:=by lia
 refine Prod.ext ?_ (Prod.ext ?_ rfl)
 ·cases lo with
  | none=>simp[sliceBounds,HT.eH]
  | some x =>
   by_cases h:x < 0
   ·simp?[sliceBounds,HT.eH,kX,h1,xI,yM h];lia
   ·simp?[sliceBounds,HT.eH,kX,h1,xI,yO h];lia
 ·cases hi with
  | none=>simp[sliceBounds,HT.eH]
  | some x =>
   by_cases h:x < 0
   ·simp?[sliceBounds,HT.eH,kX,h1,xI,yM h];lia
   ·simp?[sliceBounds,HT.eH,kX,h1,xI,yO h];lia
def Nm:PJ X (Vp X.K):=by
 intro pins s σ H x v vl vu lo hi sl Q I rx hs pl pu h;let⟨a,xs,rfl,hx,q⟩:=h;cases rx;let⟨its,r,p,hz⟩:=I.list hx;have hlen:=r.length;refine⟨"list",_,slot_list_getitem.lookup,p.isList.typeIs,wpAny_getItem_list_slice p.isList hs pl pu .none (by simp) ?_ (by rw[zH];lia)⟩;rw[W.kmk_pick_nat its.toArray (Ec lo hi its.toArray.size)];have e:((its.toArray.toList.drop (HT.eH its.toArray.size 0 lo)).take (HT.eH its.toArray.size its.toArray.size hi - HT.eH its.toArray.size 0 lo))=cut its lo hi:=by unfold cut;simp
 rw[e];have rc:aS (cut xs lo hi) (cut its lo hi):=by unfold cut;rw[hlen];exact (r.drop _).take _
 exact⟨.ref s.heap.objs.size,_,I.abk (t':=s.toks) rc (yD (Gb xs lo hi) hz),rfl,q _ I.fresh⟩
def WX(K:W.Frag)(f:Env->Option (Option Int)):TO:=λσ H Q=>∃HF ρ o,aY HF H/\du K HF ρ σ/\f ρ=some o/\∀H' Xh,b9 HF H Xh H'->Q o H'
def DO(X:Cx)(e:Option Expr)(f:Env->Option (Option Int)):Prop:=PO X e (WX X.K f)
def cZ:Env->Option (Option Int):=λ_=>some none
def gI:D->Option Int|.int i=>some i|_=>none
def mC(f:Env->Option D):Env->Option (Option Int):=λρ=>(f ρ).bind λd=>(gI d).map some
def Ob:DO X none cZ:=λpins s σ H Q I ⟨HF,ρ,o,sm,eo,hf,q⟩=>N6 pins s σ H Q I (by cases hf;exact q H HF (.refl sm))
def Nb(h:DE X e f):DO X (some e) (mC f):=λpins s σ H Q I ⟨HF,ρ,o,sm,eo,hf,q⟩=>GH h pins s σ H Q I (by
 let⟨d,hd,hf⟩:=bs hf;let⟨i,hi,rfl⟩:=ah hf;cases d<;>try cases hi
 exact⟨HF,ρ,_,sm,eo,hd,λv H1 Xj g1 r1=>⟨_,by simpa only[Rep] using r1,q H1 Xj g1⟩⟩)
variable {lo hi:Option Expr}{fl fh:Env->Option (Option Int)}
def cF(g:D->Option Int->Option Int->Option β)(fa:Env->Option D)(fl fh:Env->Option (Option Int)):Env->Option β:=λρ=>(fa ρ).bind λx=>(fl ρ).bind λl=>(fh ρ).bind λh=>g x l h
end
def uh:∀ {l:List α},(∀x∈l,f x=g x)->l.filterMap f=l.filterMap g
 | [],_=>rfl
 | x::l,h=>by rw[jH,jH,h x zE,uh λy hy=>h y (zC _ hy)]
def JF(xs:List Value):((List.range xs.length).filterMap λ(k:Nat)=>xs.toArray[(((xs.length:Nat):Int) - 1+(k:Int) * (-1)).toNat]?)=xs.reverse:=by
 have e:∀k∈List.range xs.length,xs.toArray[(((xs.length:Nat):Int) - 1+(k:Int) * (-1)).toNat]?=xs.reverse[k]?:=λk hk=>by
  have Yo:k < xs.length:=by simpa using hk
  have:(((xs.length:Nat):Int) - 1+(k:Int) * (-1)).toNat=xs.length - 1 - k:=by lia
  rw[this,wK,List.getElem?_reverse Yo]
 rw[uh e];have:=xs.length_reverse;apply List.ext_getElem?;intro i;have key:∀ (l:List Value),(List.range l.length).filterMap (λ(k:Nat)=>l[k]?)=l:=λl=>by
  induction l with
  | nil=>rfl
  | cons x l ih =>
   rw[zL,vX,jH];simp?[xR];rw[List.filterMap_map]
   congr 1
 have k2:=key xs.reverse;rw[List.length_reverse] at k2;rw[k2]
def f1(g:D->Option D)(f:Env->Option D):Env->Option D:=λρ=>(f ρ).bind g
end Dl
namespace HT
open PySem PyProof.Rows
section
open PySem.SeqAt
open PySem.AutoSeq1 (wpAny_loadPart')
open PySem.MeetsSeq PySem.MeetsSeq2 PySem.MeetsSeq3
end
end HT
namespace Dl
open PySem L2 PySem.Spec PyProof.Rows
def sV:D->Option (List Int)|.tuple ds=>intsOf ds|_=>none
def Aj(h:sV x=some ns):x=.tuple (ns.map PyData.int):=by
 cases x<;>try cases h
 rename_i xs;have h:intsOf xs=some ns:=h;rw[eQ h]
end Dl
namespace En
open PySem PyProof.Rows
open AutoSeq1 (wpAny_loadPart')
def ZD:fillsNumberSlot (.type "tuple") "mul"=pure false:=PySem.fillsNumberSlot_seq (id:="tuple.__mul__") (r:=some (.builtin "tuple.__rmul__")) F.slot_tuple_mul.lookup (by decide +kernel) F.slot_tuple_rmul.lookup (by decide +kernel)
def ZE:seqRepeat? (.type "tuple")=pure (some (.builtin "tuple.__mul__")):=by
 unfold seqRepeat?;rw[PySem.seqSlot_of (T:="tuple") (name:="__mul__") (id:="tuple.__mul__") F.slot_tuple_mul.lookup (by decide +kernel),PySem.seqSlot_of (T:="tuple") (name:="__rmul__") (id:="tuple.__rmul__") F.slot_tuple_rmul.lookup (by decide +kernel)];rfl
def aaK(a:Int)(t:Tok)(l:Addr)(its:Array Value)(n:Nat)(dd:Option Addr)(sl:Array (Option Value)) :
  Meets (Builtin.«int.__rmul__» ⟨[.int a t,.ref l],[]⟩) (λ_ R s=>s.heap.get? l=some { cls:=.type "tuple",dict:=dd,data:=.seq its n,slots:=sl }/\R (.ok (.ret Value.notImplemented)) s) :=
 .of_wp λprog w A R s h=>by
  let⟨hp,g,d,tk,os⟩:=s;let⟨hl,h⟩:=h
  wp_walk
  exact⟨_,rfl,h⟩
def aaf(l:Addr)(its:Array Value)(n:Nat)(dd:Option Addr)(sl:Array (Option Value))(k:Int)(t:Tok)(h1:¬ (decide (k < -(2 ^ 63))||decide (k >= 2 ^ 63))=true)(h2:(its.isEmpty||k == 1)=true) :
  Meets (Builtin.«tuple.__mul__» ⟨[.ref l,.int k t],[]⟩) (λ_ R s=>s.heap.get? l=some { cls:=.type "tuple",dict:=dd,data:=.seq its n,slots:=sl }/\R (.ok (.ret (.ref l))) s) :=
 .of_wp λprog w A R s h=>by
  let⟨hp,g,d,tk,os⟩:=s;let⟨hl,h⟩:=h;have f1:=AutoSeq1.idx_int
  wp_walk using wpAny_loadPart' hl
  rw[yO h1]
  wp_walk using wpAny_loadPart' hl
  exact⟨_,rfl,h⟩
def aag(l:Addr)(its:Array Value)(n:Nat)(dd:Option Addr)(sl:Array (Option Value))(k:Int)(t:Tok)(h1:¬ (decide (k < -(2 ^ 63))||decide (k >= 2 ^ 63))=true)(h2:¬ (its.isEmpty||k == 1)=true)(h3:(decide (k<=0)||its.isEmpty)=true) :
  Meets (Builtin.«tuple.__mul__» ⟨[.ref l,.int k t],[]⟩) (λ_ R s=>s.heap.get? l=some { cls:=.type "tuple",dict:=dd,data:=.seq its n,slots:=sl }/\R (.ok (.ret (.ref s.heap.objs.size))) { s with heap:=s.heap.push { cls:=.type "tuple",data:=.seq #[] } }) :=
 .of_wp λprog w A R s h=>by
  let⟨hp,g,d,tk,os⟩:=s;let⟨hl,h⟩:=h;have f1:=AutoSeq1.idx_int
  wp_walk using wpAny_loadPart' hl
  rw[yO h1]
  wp_walk using wpAny_loadPart' hl
  exact⟨_,rfl,h⟩
def aah(l:Addr)(its:Array Value)(n:Nat)(dd:Option Addr)(sl:Array (Option Value))(k:Int)(t:Tok)(h1:¬ (decide (k < -(2 ^ 63))||decide (k >= 2 ^ 63))=true)(h2:¬ (its.isEmpty||k == 1)=true)(h3:¬ (decide (k<=0)||its.isEmpty)=true)
  (h4:¬ ((its.size:Nat):Int) * k > (2 ^ 63 - 1) / 8) (h5:¬ Builtin.Tuple.tupleTooMany (((its.size:Nat):Int) * k)=true) (hz:((List.replicate k.toNat its).foldl (·++·) #[]).size<=sizeLine) :
  Meets (Builtin.«tuple.__mul__» ⟨[.ref l,.int k t],[]⟩) (λ_ R s=>s.heap.get? l=some { cls:=.type "tuple",dict:=dd,data:=.seq its n,slots:=sl }/\R (.ok (.ret (.ref s.heap.objs.size))) { s with heap:=s.heap.push { cls:=.type "tuple",data:=.seq ((List.replicate k.toNat its).foldl (·++·) #[]) } }) :=
 .of_wp λprog w A R s h=>by
  let⟨hp,g,d,tk,os⟩:=s;let⟨hl,h⟩:=h;have f1:=AutoSeq1.idx_int
  wp_walk using wpAny_loadPart' hl
  rw[yO h1]
  wp_walk using wpAny_loadPart' hl
  rw[yO h4]
  wp_walk using wpAny_loadPart' hl
  exact⟨_,rfl,h⟩
end En
namespace Dl
open PySem L2 PySem.Spec PyProof.Rows
def P4(K:W.Frag):R2:=λx y H Q=>∃a k xs,x=.ref a/\y=.int k/\lG K H a xs/\-(2 ^ 62)<=k/\k < 2 ^ 62/\xs.length * k.toNat<=sizeLine/\((List.replicate k.toNat xs).flatten=xs->Q (.ref a) H) /\
 ∀p,H p=none->Q (.ref p) (upd H p (.tup (List.replicate k.toNat xs).flatten))
def Pk:jz X (binaryOp .Mult) (P4 X.K):=by
 intro pins s σ H x y v u Q I rx ry h;let⟨a,k,xs,rfl,rfl,hq,k1,k2,hz,q1,q2⟩:=h;cases rx;let⟨t,rfl⟩:=ry;let⟨its,r,pl,hzx⟩:=I.tuple hq;have hl:=r.length;let⟨⟨cls,dd,data,sl⟩,ho,hc,n,hd⟩:=id pl;simp only at hc hd;subst hc hd;have b1:¬ (decide (k < -(2 ^ 63))||decide (k >= 2 ^ 63))=true:=by
  simp?[jC,zJ];lia
 refine wpAny_binaryOp_repeat_ref (T:="tuple") (U:="int") (by decide) ⟨_,ho,rfl⟩ (λs'=>wZ s' k t) En.ZD F.fills_int_mul wJ En.ZE F.slot_int_index.lookup
  (qY wJ (wZ s k t) F.entry_int_rmul (F.args_int_rmul_2 _ _) (En.aaK k t a its.toArray n dd sl) ⟨ho,rfl,⟨_,ho,rfl⟩,?_⟩)
 have XO:∀m:Nat,List.foldl (λx1 x2=>x1++x2) #[] (List.replicate m its.toArray)=(List.replicate m its).flatten.toArray:=λm=>by
  have:=foldl_rep its m [];rw[xP] at this;exact this
 by_cases h2:(its.toArray.isEmpty||k == 1)=true
 ·refine qY F.slot_tuple_mul ⟨_,ho,rfl⟩ Zn (Zd _ _) (En.aaf a its.toArray n dd sl k t b1 h2) ⟨ho,⟨.ref a,H,I,rfl,q1 ?_⟩⟩;rw[jC] at h2;rcases h2 with h2|h2
  ·have:xs=[]:=by
    have e:its=[]:=by simpa using h2
    rw[e] at hl;exact List.length_eq_zero_iff.mp hl
   rw[this];simp
  ·have:k=1:=eq_of_beq h2;subst this;simp
 ·by_cases h3:(decide (k<=0)||its.toArray.isEmpty)=true
  ·refine qY F.slot_tuple_mul ⟨_,ho,rfl⟩ Zn (Zd _ _) (En.aag a its.toArray n dd sl k t b1 h2 h3) ⟨ho,?_⟩;have hk0:k.toNat=0:=by
    simp?[jC,zJ] at h3 h2;rcases h3 with h3|h3
    ·lia
    ·exact absurd (.inl h3) h2
   have q3:=q2 s.heap.objs.size I.fresh;rw[hk0] at q3;exact⟨.ref s.heap.objs.size,_,I.laid (t':=s.toks) (o:=.tup []) (λb ob q=>zU _ q) (yN _) ⟨xW _,[],.nil,tI.new _ _⟩,rfl,q3⟩
  ·have hm:its.length * k.toNat<=sizeLine:=by rw[<- hl];exact hz
   have hkn:(k.toNat:Int)=k:=by
    simp?[jC,zJ,not_or] at h3;lia
   have hmi:((its.toArray.size:Nat):Int) * k=((its.length * k.toNat:Nat):Int):=by rw[zH,Int.natCast_mul,hkn]
   have hv:=L2.aS.rep r k.toNat;have abS:(List.replicate k.toNat xs).flatten.length<=sizeLine:=by rw[len_rep,Nat.mul_comm];exact hz
   have hs8:(sizeLine:Nat)<=(2 ^ 63 - 1) / 8:=by decide
   have h4:¬ ((its.toArray.size:Nat):Int) * k > (2 ^ 63 - 1) / 8:=by rw[hmi];lia
   have h5:¬ Builtin.Tuple.tupleTooMany (((its.toArray.size:Nat):Int) * k)=true:=by
    unfold Builtin.Tuple.tupleTooMany;rw[hmi];simp?[zJ];lia
   refine qY F.slot_tuple_mul ⟨_,ho,rfl⟩ Zn (Zd _ _) (En.aah a its.toArray n dd sl k t b1 h2 h3 h4 h5 (by rw[XO,zH,<- hv.length];exact abS)) ⟨ho,?_⟩;rw[XO];exact⟨.ref s.heap.objs.size,_,I.laid (t':=s.toks) (o:=.tup (List.replicate k.toNat xs).flatten) (λb ob q=>zU _ q) (yN _) ⟨abS,_,hv,tI.new _ _⟩,rfl,q2 _ I.fresh⟩
def C5:D->D->Option D
 | .tuple ds,.int k=>if Da k=true/\ds.length * k.toNat<=sizeLine then some (.tuple (List.replicate k.toNat ds).flatten) else none
 | _,_=>none
def o6{K:W.Frag}(r:aC K HF ds vs):∀k:Nat,aC K HF (List.replicate k ds).flatten (List.replicate k vs).flatten
 | 0=>aC.nil
 | k+1=>by rw[xF,xF,qN,qN];exact r.append (o6 r k)
def KD{K:W.Frag}:gR K (P4 K) C5:=by
 intro HF H x y v1 v2 d Q sm r1 r2 hg q;cases x<;>cases y<;>simp?[C5] at hg<;>try cases hg
 split at hg
 ·rename_i xs k hh;cases hg;simp?[Rep] at r1 r2;let⟨a,vs,rfl,ha,ra⟩:=r1;have ok:=hh.1;unfold Da at ok;rw[zF] at ok;refine⟨a,k,vs,rfl,r2,aR sm ha,yR ok.1,yR ok.2,by rw[ra.length];exact hh.2,λe=>q _ H HF (.refl sm) ?_,λp hp=>q _ _ _ (.new sm hp) (fM (sm.free hp) (o6 ra _))⟩;simp?[Rep];refine⟨a,vs,rfl,ha,?_⟩;have:=o6 ra k.toNat;rw[e] at this;exact this
 ·cases hg
end Dl
namespace En
open PySem PyProof.Rows
def aaj(hh:A.handled=none)(hl:s.heap.IsTuple l its)(hi:IntsAre its.toList ns)(hb:its.size+1 < scanBound)
  (h:∀ (h':Heap) (tk:Nat),h'.SetOf (intKind prog w) s.heap.objs.size (λk'=>(firstMet (λi=>ns.getD i 0) its.size).any (· == k')) (firstMet (λi=>ns.getD i 0) its.size).length->(∀b o,b < s.heap.objs.size->s.heap.get? b=some o->h'.get? b=some o)->Q (.ref s.heap.objs.size) { s with heap:=h',toks:=tk }) :
  wpAny (model prog w) A (call (.type "set") [.ref l]) Q E s:=by
 let⟨c,tl,amT⟩:=F.called_set.mro;have als:=F.called_set.made;have abt:=F.called_set.sub;refine vT (codeAny_of_tree ?_);show wpAny _ _ (callAny (.type "set") _) _ _ _;refine zW ⟨Ze _ (by decide +kernel),kJ F.entry_type_call ?_⟩;rw[Around.under_plain (weight_type_call_type "set" [.ref l] []) rfl];have h1:=F.called_set.notType;have h2:=F.called_set.canCreate;have hct:=F.typeCall_set_1 (.ref l)
 repeat (any_goals (first|assumption|wp_step))
 refine jT (code_set_new_1 (.ref l) (E:=E) (Q₁:=λobj s1=>∃led:Bool,obj=.ref s.heap.objs.size/\s1={ s with heap:=s.heap.push { cls:=.type "set",dict:=none,data:=.set #[] 0 (.fresh 0 0 led) } }) λled=>⟨led,rfl,rfl⟩) λr s1 hr=>?_;cases r with
 | error e=>exact hr
 | ok fl =>
  cases fl with
  | ret obj =>
   let⟨led,rfl,rfl⟩:=hr;have hS:(s.heap.push { cls:=.type "set",dict:=none,data:=.set #[] 0 (.fresh 0 0 led) }).get? s.heap.objs.size=some { cls:=.type "set",dict:=none,data:=.set #[] 0 (.fresh 0 0 led) }:=by exact zX _ rfl
   have hT:Shared.TypeIs { s with heap:=s.heap.push { cls:=.type "set",dict:=none,data:=.set #[] 0 (.fresh 0 0 led) } } (.ref s.heap.objs.size) "set":=⟨_,hS,rfl⟩
   have hli:=F.called_set.init.lookup;have hbi:=F.called_set.init.bind (.ref s.heap.objs.size)
   repeat (any_goals (first|assumption|wp_step))
   refine jT (wQ (R:=wants (λr s2=>r=.none/\∃h' tk,s2={ s with heap:=h',toks:=tk }/\h'.SetOf (intKind prog w) s.heap.objs.size (λk'=>(firstMet (λi=>ns.getD i 0) its.size).any (· == k')) (firstMet (λi=>ns.getD i 0) its.size).length /\
     (∀b o,b < s.heap.objs.size->s.heap.get? b=some o->h'.get? b=some o)) E) F.called_set.init.plain F.entry_set_init (check_set_init_1 hT ?_)) λr2 s2 hr2=>?_
   ·let⟨ol,hol,XJ,nl,hdl⟩:=hl;let⟨amU,aeM,alx,adF⟩:=ol;simp only at XJ hdl;subst XJ hdl;have aeN:(s.heap.push { cls:=.type "set",dict:=none,data:=.set #[] 0 (.fresh 0 0 led) }).get? l=some { cls:=.type "tuple",dict:=aeM,data:=.seq its nl,slots:=adF }:=zU _ hol;have amV:=F.sub_tuple_set;have amW:=F.sub_tuple_frozenset;have XA:(Value.type "tuple" == Value.type "dict")=false:=by decide
    have hl1:(s.heap.push { cls:=.type "set",dict:=none,data:=.set #[] 0 (.fresh 0 0 led) }).IsTuple l its:=⟨_,aeN,rfl,nl,rfl⟩
    unfold Builtin.«set.__init__» noKeywords Builtin.Frozenset.updateFrom;generalize hPI:pyIter=PI
    wp_walk
    subst hPI;refine xS hl1 (zV (wpAny_runValue ?_));have hlS:l < s.heap.objs.size:=zY hol;have hh3:A.in1.in1.in1.handled=none:=by simp[hh]
    have ajN:l≠(s.heap.push { cls:=.type "set",dict:=none,data:=.set #[] 0 (.fresh 0 0 led) }).objs.size:=by rw[xK];exact yS (jP hlS)
    have hSf:s.heap.objs.size∉[(s.heap.push { cls:=.type "set",dict:=none,data:=.set #[] 0 (.fresh 0 0 led) }).objs.size,l]:=by
     rw[xK];simp?[zQ,yF,xV,not_or];exact⟨yS (kY _),jJ hlS⟩
    have ajO:∀ (i:Nat) (v:Value),its[i]?=some v->∃t,v=.int ((λi=>ns.getD i 0) i) t:=λi v hv=>IntsAre.int_at hi i v (by rw[Array.getElem?_toList];exact hv);refine codeAny_set_update_loopS ((Walks.tuple hh3 _ l ajN its).toS) s.heap.objs.size hSf (λi=>ns.getD i 0) ajO hb (its.size - 0) 0 _ (by lia) (xW _) ⟨⟨_,zX _ rfl,rfl,rfl⟩,?ht⟩ ?hS0 ?hR
    case ht=>exact⟨_,zU _ aeN,rfl,nl,rfl⟩
    case hS0 =>
     have ajP:((s.heap.push { cls:=.type "set",dict:=none,data:=.set #[] 0 (.fresh 0 0 led) }).push { cls:=.type "tuple_iterator",data:=.fields #[.ref l,.int 0 0] }).get? s.heap.objs.size=some { cls:=.type "set",dict:=none,data:=.set #[] 0 (.fresh 0 0 led) }:=by exact zU _ hS
     exact SetOf_congr ((setObjOf_fresh (knd:=intKind prog w) led).setOf ajP (by unfold scanBound;lia)) (λ_=>rfl) rfl
    case hR =>
     intro s' hm hS';let⟨h',g',d',tk',os'⟩:=s';have eg:g'=s.gens:=hm.gens;have ed:d'=s.drawn:=hm.drawn;have eo:os'=s.os:=hm.os;subst eg ed eo;show wpAny _ _ _ _ _ _;refine zW ?_;show wpAny _ _ (ret Value.none) _ _ _;refine zW ⟨rfl,h',tk',rfl,hS',λb o Y5 e=>?_⟩;refine hm.heap b o ?_ (zU _ (zU _ e));simp?[zQ,yF,xV,not_or];exact⟨yS Y5,by rw[xK];exact yS (jP Y5)⟩
   ·cases r2 with
    | error e=>exact hr2
    | ok fl2 =>
     cases fl2 with
     | ret r =>
      let⟨rfl,h',tk,rfl,hS',Yo⟩:=hr2
      repeat (any_goals (first|assumption|wp_step))
      exact h _ _ hS' Yo
     | _=>exact hr2.elim
  | _=>exact hr.elim
end En
namespace Dl
open PySem L2 PySem.Spec PyProof.Rows
def many(ns:List Int):Nat:=(firstMet (λi=>ns.getD i 0) ns.length).length
def IS(hc:X.calm=true):gD X (.type "set") (λxs H Q=>∃ (a:Addr) (ns:List Int),xs=[.ref a]/\lG X.K H a (ns.map V.int)/\ns.length+1 < scanBound/\∀q S,H q=none->Q (.ref q) (upd H q (.set S (many ns)))):=by
 intro pins s σ H xs us Q I r h;let⟨a,ns,rfl,hq,hb,q⟩:=h;let⟨u,rfl,rx⟩:=vals1 r;cases rx;let⟨its,rv,pl,hz⟩:=I.tuple hq;have hi:IntsAre its.toArray.toList ns:=intsAre_of rv;have hlen:its.toArray.size=ns.length:=by have:=rv.length;simpa using this.symm
 refine En.aaj (I.ok.hd hc) (show s.heap.IsTuple a its.toArray from pl) hi (by rw[hlen];exact hb) λh' tk hS hk=>?_;rw[hlen] at hS;exact⟨.ref s.heap.objs.size,_,I.laid (t':=tk) (λb o e=>hk b o (zY e) e) (yN _) (show f9 X.prog X.w _ h' _ (.set _ (many ns)) from hS),rfl,q _ _ I.fresh⟩
def IL:gD X (.builtin "len") (λxs H Q=>∃ (a:Addr) (S:Int->Bool) (n:Nat),xs=[.ref a]/\H a=some (.set S n)/\Q (.int n) H):=by
 intro pins s σ H xs us Q I r h;let⟨a,S,n,rfl,hq,q⟩:=h;let⟨u,rfl,rx⟩:=vals1 r;cases rx;let⟨o,es,ep,t,ho,hex,hd,hel,aaJ,Xw,hf,hn⟩:=(show s.heap.SetOf (intKind X.prog X.w) a S n from I.Xi a _ hq)
 have Zv:((es.size:Nat):Int) < 2 ^ 63:=by unfold scanBound at Xw;lia
 refine call_len_set ho hex hd hf Zv ⟨.int n,H,I.tok _,⟨s.toks+1,by rw[hn]⟩,q⟩
def mJ:D->Option D:=λd=>(sV d).bind λns=>if ns.length+1 < scanBound then some (.int (many ns)) else none
def IT(hc:X.calm=true)(B:vg X "len" (.builtin "len"))(C:vg X "set" (.type "set"))(h:DE X e f)(he:starEach [e] X.env=(false,eval e X.env)::starEach [] X.env:=by rfl) :
  DE X (.Call (.Name "len" p) [.Call (.Name "set" p') [e] [] pos'] [] pos) (f1 mJ f) :=
 bo (pC IL B.gl B.mg B.bt (cL (zf (IS hc) C.gl C.mg C.bt (cL h fE he) (by decide) (by decide) he rfl) fE) (by decide) (by decide) rfl rfl) λσ H Q ⟨HF,ρ,d,sm,eo,hf,q⟩=>by
  let⟨x,hx,hf⟩:=bs hf;let⟨ns,h1,hf⟩:=bs hf;split at hf
  ·rename_i hb;cases hf;refine⟨HF,ρ,x,sm,eo,hx,λv1 H1 Xj g1 r1=>?_⟩;rw[Aj h1] at r1;simp?[Rep] at r1;let⟨a,vs,rfl,hs,rr⟩:=r1;have key:∀ {ns:List Int}{ws:List V},aC X.K Xj (ns.map PyData.int) ws->ws=ns.map V.int:=λ{ns}=>by
    induction ns with
    | nil=>exactλh=>h.nil_inv
    | cons n ns ih =>
     intro ws h;let⟨v,r,rfl,a,b⟩:=h.cons_inv;simp?[Rep] at a;rw[a,ih b];rfl
   have:=key rr;subst this;refine⟨a,ns,rfl,aR g1.fh hs,hb,λb S Y5=>⟨b,S,_,rfl,aO,q _ _ Xj (g1.trans (.own g1.fh Y5)) (by simp[Rep])⟩⟩
  ·cases hf
def mj(val:Nat->Int):∀i,(firstMet val i).length=i↔((List.range i).map val).Nodup
 | 0=>by simp[firstMet]
 | i+1=>by
  have hle:=firstMet_length_le val i;rw[firstMet_succ,step_length,wD,jB,Zl];have ha:=firstMet_any val i (val i);have ih:=mj val i;constructor
  ·intro h;by_cases hin:(firstMet val i).any (· == val i)=true
   ·rw[yM hin] at h;lia
   ·rw[yO hin] at h;refine⟨ih.mp (by lia),by simp,λa hm b hb z=>?_⟩;have Y5:b=val i:=by simpa using hb
    subst z Y5;rw[ha] at hin;exact hin (List.any_eq_true.mpr ⟨_,hm,by simp⟩)
  ·rintro⟨h1,_,h3⟩;rw[yO ?_]
   ·rw[ih.mpr h1]
   ·rw[ha];intro hin;let⟨x,hx,he⟩:=List.any_eq_true.mp hin;have he':x=val i:=by simpa using he
    exact h3 x hx (val i) (by simp) he'
def Fz(ns:List Int):many ns=ns.length↔ns.Nodup:=by
 unfold many;rw[mj];have:(List.range ns.length).map (λi=>ns.getD i 0)=ns:=me ns 0;rw[this]
def DZ{K:W.Frag}(h:gR K r g)(h':gR K r' g'):gR K (λx y H Q=>r x y H Q\/r' x y H Q) (λx y=>(g x y).or (g' x y)):=by
 intro HF H x y v1 v2 d Q sm r1 r2 hg q;cases e:g x y with
 | some d' =>
  have hg:(g x y).or (g' x y)=some d:=hg;rw[e] at hg;cases hg;exact .inl (h HF H x y v1 v2 d Q sm r1 r2 e q)
 | none =>
  have hg:(g x y).or (g' x y)=some d:=hg;rw[e] at hg;exact .inr (h' HF H x y v1 v2 d Q sm r1 r2 hg q)
def HY{K:W.Frag}:gR K (Kw K) (λx y=>(iu x y).map PyData.list):=by
 intro HF H x y v1 v2 d Q sm r1 r2 hg q;let⟨zs,hg',rfl⟩:=ah hg;clear hg;cases x<;>cases y<;>simp?[iu] at hg'<;>try cases hg'
 let⟨rfl,hz⟩:=fO hg';simp?[Rep] at r1 r2;let⟨a,vs,rfl,ha,ra⟩:=r1;let⟨b,us,rfl,hb,rb⟩:=r2;refine⟨a,b,vs,us,rfl,rfl,sm.seq ha,sm.seq hb,by rw[ra.length,rb.length,<- zN];exact hz,λp hp=>q _ _ _ (.new sm hp) ?_⟩;simp?[Rep];exact⟨p,_,rfl,.inl (.inl aO),(ra.append rb).mono (eh (sm.free hp))⟩
def aA:D->D->Option D:=λx y=>((zv (λ_ _=>True) λi j=>.int (i+j)) x y).or ((Mq x y).or ((iu x y).map PyData.list))
def Bk.add(C:Bk X N sc k)(ha:DE X a fa)(hb:DE X b fb):DE X (.BinOp a .Add b pos) (f2 aA fa fb):=CK (Ro.or (Im.or va)) (DZ JN (DZ O3 HY)) ha hb
def dy:D->D->Option D:=zv (λ_ _=>True) λi j=>.int (i - j)
def Bk.sub(C:Bk X N sc k)(ha:DE X a fa)(hb:DE X b fb):DE X (.BinOp a .Sub b pos) (f2 dy fa fb):=CK Qr JN ha hb
def dH:D->D->Option D:=λx y=>((zv wu λi j=>.int (i * j)) x y).or (C5 x y)
def Bk.mul(C:Bk X N sc k)(ha:DE X a fa)(hb:DE X b fb):DE X (.BinOp a .Mult b pos) (f2 dH fa fb):=CK (Qi.or Pk) (DZ La KD) ha hb
def oi:D->D->Option D:=zv NK λi j=>.int (i / j)
def Bk.div(C:Bk X N sc k)(ha:DE X a fa)(hb:DE X b fb):DE X (.BinOp a .FloorDiv b pos) (f2 oi fa fb):=CK O8 La ha hb
def mT:D->D->Option D:=zv (λ_ j=>0 < j) λi j=>.int (i % j)
def Bk.mod(C:Bk X N sc k)(ha:DE X a fa)(hb:DE X b fb):DE X (.BinOp a .Mod b pos) (f2 mT fa fb):=CK QB La ha hb
def v5:D->D->Option D:=zv (λ_ _=>True) λi j=>.bool (decide (i < j))
def rT:D->D->Option D:=zv (λ_ _=>True) λi j=>.bool (decide (i<=j))
def EV:D->D->Option D:=zv (λ_ _=>True) λi j=>.bool (decide (j < i))
def bh:D->D->Option D:=λx y=>(MZ x y).map PyData.bool
def gf:D->D->Option D:=λx y=>(Nn x y).map PyData.bool
def Bk.u64(C:Bk X N sc k):X.A.units+64 < cLine:=C.room.units
def Bk.lt(C:Bk X N sc k)(ha:DE X a fa)(hb:DE X b fb):DE X (.Compare a [.Lt] [b] pos) (f2 v5 fa fb):=nY Ma ma ha hb (eE _)
def Bk.le(C:Bk X N sc k)(ha:DE X a fa)(hb:DE X b fb):DE X (.Compare a [.LtE] [b] pos) (f2 rT fa fb):=nY Jv ma ha hb (eE _)
def Bk.gt(C:Bk X N sc k)(ha:DE X a fa)(hb:DE X b fb):DE X (.Compare a [.Gt] [b] pos) (f2 EV fa fb):=nY PH ma ha hb (eE _)
def Bk.eq(C:Bk X N sc k)(ha:DE X a fa)(hb:DE X b fb):DE X (.Compare a [.Eq] [b] pos) (f2 bh fa fb):=nY (LQ C.u64) Bv ha hb (eE _)
def Bk.ne(C:Bk X N sc k)(ha:DE X a fa)(hb:DE X b fb):DE X (.Compare a [.NotEq] [b] pos) (f2 gf fa fb):=nY (MK C.u64) Bv ha hb (eE _)
def Bk.tlt(C:Bk X N sc k)(ha:DE X a fa)(hb:DE X b fb):DT X (.Compare a [.Lt] [b] pos) (fB (f2 v5 fa fb)):=nF Ma ma ha hb (eE _)
def Bk.tle(C:Bk X N sc k)(ha:DE X a fa)(hb:DE X b fb):DT X (.Compare a [.LtE] [b] pos) (fB (f2 rT fa fb)):=nF Jv ma ha hb (eE _)
def Bk.tgt(C:Bk X N sc k)(ha:DE X a fa)(hb:DE X b fb):DT X (.Compare a [.Gt] [b] pos) (fB (f2 EV fa fb)):=nF PH ma ha hb (eE _)
def Bk.teq(C:Bk X N sc k)(ha:DE X a fa)(hb:DE X b fb):DT X (.Compare a [.Eq] [b] pos) (fB (f2 bh fa fb)):=nF (LQ C.u64) Bv ha hb (eE _)
def Bk.tne(C:Bk X N sc k)(ha:DE X a fa)(hb:DE X b fb):DT X (.Compare a [.NotEq] [b] pos) (fB (f2 gf fa fb)):=nF (MK C.u64) Bv ha hb (eE _)
def bw:D->Option Int->Option Int->Option D|.tuple ds,lo,hi=>some (.tuple (cut ds lo hi))|.list ds,lo,hi=>some (.list (cut ds lo hi))|_,_,_=>none
def Bk.cut(C:Bk X N sc k){lo:Option Expr}{fl:Env->Option (Option Int)}(ha:DE X a fa)(hl:DO X lo fl)(hh:DO X hi fh):DE X (.Subscript a (.Slice lo hi none p2) pos) (cF bw fa fl fh):=bo (Lg (Sj.or Nm) ha hl hh) λσ H Q ⟨HF,ρ,d,sm,eo,hf,q⟩=>by
 let⟨x,hx,hf⟩:=bs hf;let⟨l,hl,hf⟩:=bs hf;let⟨u,hu,hf⟩:=bs hf;refine⟨HF,ρ,x,sm,eo,hx,λv1 H1 Xj g1 r1=>⟨Xj,ρ,l,g1.fh,eo.mono g1.ff,hl,λH2 Xz g2=>⟨Xz,ρ,u,g2.fh,eo.mono (g1.ff.trans g2.ff),hu,λH3 X1 g3=>?_⟩⟩⟩;have G:=(g1.trans g2).trans g3;have r3:=r1.mono (g2.ff.trans g3.ff);cases x<;>try cases hf
 ·simp?[Rep] at r3;let⟨b,vs,rfl,hs,rr⟩:=r3;refine .inr ⟨b,vs,rfl,G.fh.seq hs,λp hp=>q _ _ _ (G.trans (.new G.fh hp)) ?_⟩;simp?[Rep];exact⟨p,_,rfl,.inl (.inl aO),(ug rr l u).mono (eh (G.fh.free hp))⟩
 ·simp?[Rep] at r3;let⟨b,vs,rfl,hs,rr⟩:=r3;refine .inl ⟨b,vs,rfl,aR G.fh hs,λe=>q _ H3 X1 G ?_,λp hp=>q _ _ _ (G.trans (.new G.fh hp)) (fM (G.fh.free hp) (ug rr l u))⟩;simp?[Rep];refine⟨b,vs,rfl,hs,?_⟩;have:=ug rr l u;rw[e] at this;exact this
def Hr:D->Option D|.int i=>some (.int (-i))|_=>none
def Bk.neg(C:Bk X N sc k)(ha:DE X a fa):DE X (.UnaryOp .USub a pos) (f1 Hr fa):=bo (P8 KB ha) λσ H Q ⟨HF,ρ,d,sm,eo,hf,q⟩=>by
 let⟨x,hx,hf⟩:=bs hf;refine⟨HF,ρ,x,sm,eo,hx,λv1 H1 Xj g1 r1=>?_⟩;cases x<;>try cases hf
 exact⟨_,by simpa only[Rep] using r1,q _ H1 Xj g1 (by simp[Rep])⟩
def Mx:bootBuiltins "len"=some (.builtin "len"):=by decide +kernel
def we:bootBuiltins "isinstance"=some (.builtin "isinstance"):=by decide +kernel
def MQ:bootBuiltins "tuple"=some (.type "tuple"):=by decide +kernel
def Mh:bootBuiltins "range"=some (.type "range"):=by decide +kernel
def RL:bootBuiltins "all"=some (.builtin "all"):=by decide +kernel
def QT:bootBuiltins "set"=some (.type "set"):=by decide +kernel
def y4:bootBuiltins "sorted"=some (.builtin "sorted"):=by decide +kernel
def Br:bootBuiltins "enumerate"=some (.type "enumerate"):=by decide +kernel
def QJ:bootBuiltins "zip"=some (.type "zip"):=by decide +kernel
abbrev cq(f:Env->Option (List D)):Env->Option D:=λρ=>(f ρ).map PyData.list
abbrev b8:List D->Option D:=λds=>(fy ds).map PyData.tuple
def Bk.aeQ(C:Bk X N sc k)(h:decide (sc.names.lookup x=some .local)=true):X.env.scope.names.lookup x=some .local:=by
 rcases C.tb x _ (yR h) with q|⟨q,_⟩
 ·exact q
 ·cases q
def isStar:Expr->Bool|.Starred ..=>true|_=>false
def bX{env:PySem.Env}(h:isStar e=false):starEach (e::es) env=(false,eval e env)::starEach es env:=by
 cases e<;>first|rfl|cases h
def Rm(he:DE X e f)(hs:DA X es g)(h:isStar e=false:=by rfl):DA X (e::es) (aa f g):=Gx he hs (bX h)
def u3{env:PySem.Env}:swapsWith (.ListComp elt gens scope pos) (some (.Name x py)) line env=pure (env.blockKind == .function&&env.kindOf x == some .local && py.line == pos.line
     &&!(scope.names.any λ(n,k)=>n == x&&(k == .local || k == .cell))):=rfl
def Pu{env:PySem.Env}(h:env.scope.kind=.function):env.blockKind=.function:=by unfold PySem.Env.blockKind;rw[h];rfl
def Bk.swap(C:Bk X N sc k)(h:decide (sc.names.lookup x=some .local)=true)(h2:(py.line == pos.line&&!(scope.names.any λ(n,k)=>n == x&&(k == .local || k == .cell)))=true) :
  swapsWith (.ListComp elt gens scope pos) (some (.Name x py)) line X.env=pure true:=by
 rw[u3,Pu C.kd,show X.env.kindOf x=some .local from C.aeQ h];rw[Bool.and_assoc,h2];rfl
def Bk.adG(C:Bk X N sc k)(h:decide (sc.names.lookup x=some .cell)=true) :
  swapsWith (.ListComp elt gens scope pos) (some (.Name x py)) line X.env=pure false:=by
 have q:X.env.kindOf x=some .cell:=by
  rcases C.tb x _ (yR h) with q|⟨q,_⟩
  ·exact q
  ·cases q
 rw[u3,q,Pu C.kd];rfl
section
variable {K:W.Frag}
structure aI(K:W.Frag)(x:Str)(st:Stmt)(ps:List Str):Prop where
 ex:∃ (f:Addr) (fd:FuncData),W.nsIn K mainGlobals x=some (some (.ref f))/\Kx K x x st f fd/\Binds K fd ps []
structure bA(K:W.Frag)(mg:Str->Option Value)(x:Str)(st:Stmt)(ps:List Str):Prop where
 ex:∃ (f:Addr) (fd:FuncData),mg x=some (.ref f)/\Kx K x x st f fd/\Binds K fd ps []
def aI.mg{h:Heap}{mg:Str->Option Value}{st:Stmt}(D:aI K x st ps)(X:K.In h)(G:h.Ns mainGlobals mg):bA K mg x st ps:=by
 let⟨f,fd,a,b,c⟩:=D.ex;exact⟨f,fd,W.mg_of X G a,b,c⟩
def ig(st:Stmt)(ps:List Str):Prop:=∀ (x qual:Str) (kV doc pm:Value) (an:Option Addr) (Xy ct:Value) (us:List Value),us.length=ps.length->bindArgs (W.fnOf x qual (gQ st) (bF st) (ao st) .none kV doc pm an Xy ct) ⟨us,[]⟩=pure (ps.zip us)
def T1{st:Stmt}{kV:Value}(hb:ig st ps)(a:W.nsIn K mainGlobals x=some (some (.ref f)))(l:K.lookup f=some ⟨oc,od,.func (W.fnOf x x (gQ st) (bF st) (ao st) .none kV doc pm an Xy ct),Zu⟩)
  (c:W.codeIn K Xy x=true) (k:W.keepIn K (.ref f)=true):aI K x st ps:=⟨f,_,a,A8 (st:=st) l c k,(A8 (st:=st) l c k).binds λkV doc pm an Xy ct us h=>hb _ _ kV doc pm an Xy ct us h⟩
structure yk(K:W.Frag)(x:Str)(st:Stmt)(ps:List Str):Prop where
 ex:∃ (f:Addr) (fd:FuncData) (c P:Addr),W.nsIn K mainGlobals x=some (some (.ref f))/\Kx K x x st f fd/\Binds K fd ps []/\fd.code=.ref c/\W.codeHdIn K c P=true
structure OO(K:W.Frag)(mg:Str->Option Value)(x:Str)(st:Stmt)(ps:List Str):Prop where
 ex:∃ (f:Addr) (fd:FuncData) (c P:Addr),mg x=some (.ref f)/\Kx K x x st f fd/\Binds K fd ps []/\fd.code=.ref c/\W.codeHdIn K c P=true
def yk.mg{h:Heap}{mg:Str->Option Value}{st:Stmt}(D:yk K x st ps)(X:K.In h)(G:h.Ns mainGlobals mg):OO K mg x st ps:=by
 let⟨f,fd,c,P,a,b⟩:=D.ex;exact⟨f,fd,c,P,W.mg_of X G a,b⟩
def N4(K:W.Frag)(c:Addr):Addr:=match K.lookup c with
 | some ⟨_,_,.fields vs,_⟩=>(match (vs[11]?:Option Value) with|some (.ref P)=>P|_=>0)
 | _=>0
def Tf{st:Stmt}{kV:Value}(hb:ig st ps)(a:W.nsIn K mainGlobals x=some (some (.ref f)))(l:K.lookup f=some ⟨oc,od,.func (W.fnOf x x (gQ st) (bF st) (ao st) .none kV doc pm an (.ref c) ct),Zu⟩)
  (cd:W.codeIn K (.ref c) x=true) (k:W.keepIn K (.ref f)=true) (hh:W.codeHdIn K c (N4 K c)=true):yk K x st ps:=⟨f,_,c,N4 K c,a,A8 (st:=st) l cd k,(A8 (st:=st) l cd k).binds λkV doc pm an Xy ct us h=>hb _ _ kV doc pm an Xy ct us h,rfl,hh⟩
def QW{K:W.Frag}(h:(cP.all λx=>match W.nsIn K mainGlobals x with|some none=>true|_=>false)=true):∀x∈cP,W.nsIn K mainGlobals x=some none:=by
 intro x hx;have:=List.all_eq_true.mp h x hx;split at this
 ·assumption
 ·cases this
def Eu{K:W.Frag}{H:Hp}{a:Addr}{ns:List Int}{m:List D->Option D}(hS:iW K H a (ns.map V.int))(hT:fA K H)(h:m [.list (ns.map PyData.int)]=some (.bool true)){X:_}:Uu K 1 m [.ref a] H (λv _=>v=.bl true) X:=by
 refine⟨H,[.list (ns.map PyData.int)],.bool true,.refl _,hT,aC.cons ?_ aC.nil,rfl,h,λv H' Xh G r=>by simpa only[Rep] using r⟩;simp?[Rep];refine⟨a,_,rfl,hS,?_⟩;clear h hS hT
 induction ns with
 | nil=>exact aC.nil
 | cons n ns ih=>exact aC.cons (by simp[Rep]) ih
end
def UV(h:isStar e=false)(he:DE X e f)(hs:DA X es g):DA X (e::es) (aa f g):=Rm he hs h
def SW:au->Option Out:=λ_=>none
def SU{st:Stmt}:DS X Xf Xg st SW:=λpins s σ H E I ⟨HF,ρ,o,S,hg,q⟩=>by cases hg
def mS(f:Env->Option D):au->Option Out:=λρ=>(f (aJ ρ)).map λ_=>.nx ρ
def Ng(hs:swapsWith e none pos.line X.env=pure false)(h:DE X e f):DS X Xf Xg (.Expr e pos) (mS f):=cT (oV h hs) λE σ H ⟨HF,ρ,o,S,hg,q⟩=>by
 let⟨d,h,rfl⟩:=ah hg;exact⟨H,aJ ρ,d,.refl _,S.all,h,λv H' Xh G r=>q σ H' HF (S.step G.hh) (.refl _)⟩
def Oj(t:Env->Option Bool)(gb:au->Option Out):Nat->au->Option Out
 | 0,_=>none
 | n+1,ρ=>(t (aJ ρ)).bind λb=>if b=true then (gb ρ).bind fun|.nx ρ'=>Oj t gb n ρ'|.rt d=>some (.rt d) else some (.nx ρ)
def Lb(n:Nat)(hp:PassesOwn (model X.prog X.w) X.A X.env X.xe)(hc:DT X c t)(hb:FI X Xf Xg body gb):DS X Xf Xg (.While c body [] pos) (Oj t gb n) :=
 cT (Mm hp hc hb) λE σ H ⟨HF,ρ,o,S,hg,q⟩=>by
  refine⟨λm σ' H'=>∃Xh ρ',lC X.K Xf Xg Xh H' ρ' σ'/\aY HF Xh/\Oj t gb m ρ'=some o,⟨n,HF,ρ,S,.refl _,hg⟩,?_⟩;rintro m σ' H' ⟨Xh,ρ',S',s',hf⟩;cases m with
  | zero=>cases hf
  | succ m =>
   unfold Oj at hf;let⟨b,hb,hf⟩:=bs hf;refine⟨H',aJ ρ',b,.refl _,S'.all,hb,λH1 Xj G=>?_⟩;cases b with
   | false =>
    rw[yO xA] at hf ⊢;cases hf;exact q σ' H1 Xh (S'.step G.hh) s'
   | true =>
    rw[yM rfl] at hf ⊢;let⟨o1,h2,hf⟩:=bs hf;refine⟨λZP H3=>∃X1 ρ3,lC X.K Xf Xg X1 H3 ρ3 ZP/\aY HF X1/\Oj t gb m ρ3=some o,λZP H3 ⟨X1,ρ3,a1,a2,a3⟩=>⟨m,kY _,X1,ρ3,a1,a2,a3⟩,Xh,ρ',o1,S'.step G.hh,h2,?_⟩;cases o1 with
    | nx YF=>exactλσ4 H4 YR S4 s4=>⟨YR,YF,S4,s'.trans s4,hf⟩
    | rt d=>cases hf;exact q
def uN:List D->Option D
 | [.int a,.int b]=>some (.int (min a b))
 | [.int a,.int b,.int c]=>some (.int (min (min a b) c))
 | _=>none
def J6(hc:X.calm=true):gD X (.builtin "min") (λxs H Q=>(∃a b:Int,xs=[.int a,.int b]/\Q (.int (min a b)) H)\/(∃a b c:Int,xs=[.int a,.int b,.int c]/\Q (.int (min (min a b) c)) H)):=by
 intro pins s σ H xs us Q I r h;have hh:X.A.handled=none:=I.ok.hd hc;rcases h with ⟨a,b,rfl,q⟩|⟨a,b,c,rfl,q⟩
 ·cases r with
  | cons r1 r =>
   cases r with
   | cons r2 r =>
    cases r;let⟨t,rfl⟩:=r1;let⟨u,rfl⟩:=r2;refine min_two_ints hh λh' tk kp=>⟨.int (min a b),H,I.kept (t':=tk) kp,?_,q⟩
    by_cases h:b < a
    ·rw[yM h,show min a b=b by lia];exact⟨_,rfl⟩
    ·rw[yO h,show min a b=a by lia];exact⟨_,rfl⟩
 ·cases r with
  | cons r1 r =>
   cases r with
   | cons r2 r =>
    cases r with
    | cons r3 r =>
     cases r;let⟨t,rfl⟩:=r1;let⟨u,rfl⟩:=r2;let⟨x,rfl⟩:=r3;refine min_three_ints hh λh' tk kp=>⟨.int (min (min a b) c),H,I.kept (t':=tk) kp,?_,q⟩
     by_cases h:b < a
     ·rw[yM h];by_cases h2:c < b
      ·rw[yM h2,show min (min a b) c=c by lia];exact⟨_,rfl⟩
      ·rw[yO h2,show min (min a b) c=b by lia];exact⟨_,rfl⟩
     ·rw[yO h];by_cases h2:c < a
      ·rw[yM h2,show min (min a b) c=c by lia];exact⟨_,rfl⟩
      ·rw[yO h2,show min (min a b) c=a by lia];exact⟨_,rfl⟩
def B6{K:W.Frag}(r:Rep K H d v):∀ {ds:List D}{vs:List V}(j:Nat),aC K H ds vs->aC K H (ds.set j d) (vs.set j v)
 | [],vs,j,h=>by rw[h.nil_inv];exact aC.nil
 | x::ds,vs,j,h=>by
  let⟨u,us,rfl,a,b⟩:=h.cons_inv;cases j with
  | zero=>exact aC.cons r b
  | succ j=>exact aC.cons a (B6 r j b)
def AW(i:Nat)(fz:List Nat)(fk f:Env->Option D):au->Option Out:=λρ=>(mZ fz f ρ).bind λp=>(fk (aJ p.2)).bind λkd=>match kd with
 | .int k=>sD i (λds=>(Ig ds.length k).map λj=>ds.set j p.1) p.2
 | _=>none
def MP(i:Nat)(fz:List Nat)(hN:X.N[i]?=some x)(hv:MT X.env.scope x)(hk:DE X e fk)(h:DE X e2 f)(hd:(x == ("__debug__":Str))=false:=by decide)(XM:(x == ("__classdict__":Str))=false:=by decide)
  (ha:∀v,assign (.Subscript (.Name x px) e Yt) X.env v=(do
   let ov <- holding [v] (eval (.Name x px) X.env)
   let iv <- holding [v,ov] (eval e X.env)
   standAt Yt
   holding [v,ov,iv] (setItem ov iv v)
   release [v,ov,iv] []):=by intro _;rfl)
  (hs:swapsWithSole [.Subscript (.Name x px) e Yt] e2 pos.line X.env=pure false:=by rfl) (hw:swappedStores [.Subscript (.Name x px) e Yt] e2 X.env=pure none:=by rfl)
  (h1:(assignEach [.Subscript (.Name x px) e Yt] X.env).map (·.2)=[assign (.Subscript (.Name x px) e Yt) X.env]:=by rfl):DS X Xf Xg (.Assign [.Subscript (.Name x px) e Yt] e2 pos) (AW i fz fk f) :=
 cT (KY h (Qd (kg hN hv hd XM) hk set_list ha) hs hw h1) λE σ H ⟨HF,ρ,o,S,hg,q⟩=>by
  let⟨⟨d,ρ'⟩,h1,hg⟩:=bs hg;let⟨kd,h2,hg⟩:=bs hg;cases kd<;>try cases hg
  rename_i k;let⟨ds,es,h3,h4,rfl⟩:=mF hg;let⟨j,hj,rfl⟩:=ah h4;refine qj S h1 λv H1 Xj s1 S1 s2 r=>?_;let⟨a,vs,e1,e2,e3,e5,e4⟩:=S1.own i ds h3;refine⟨.ref a,e1,H1,aJ ρ',.int k,.refl _,S1.all,h2,λkv H2 Xz G rk=>?_⟩;simp?[Rep] at rk;have S2:=S1.step G.hh;let⟨a',vs',f1,f2,f3,f5,f4⟩:=S2.own i ds h3;rw[e1] at f1;cases f1;exact⟨a,vs',k,j,rfl,rk,f2,by rw[f4.length];exact hj,q σ _ Xj (S2.mut h3 e1 f2 (B6 r j f4)) s1⟩
def Ut:D->Bool|.none=>true|_=>false
def sH{K:W.Frag}(r:Rep K HF d v):decide (v=.Xe)=Ut d:=by
 cases d<;>simp?[Rep] at r<;>first
  | (subst r;rfl)
  | (let⟨a,vs,rfl,_⟩:=r;rfl)
  | exact r.elim
def uF:D->D->Option D:=λx y=>if Ut y=true then some (.bool (Ut x)) else none
def lJ:D->D->Option D:=λx y=>if Ut y=true then some (.bool (!Ut x)) else none
def Gv{K:W.Frag}:gR K (λx y H Q=>y=.Xe/\Q (.bl (decide (x=.Xe))) H) uF:=by
 intro HF H x y v1 v2 d Q sm r1 r2 hg q;unfold uF at hg;split at hg
 ·rename_i h;cases hg;have h2:=sH r2;rw[h,zJ] at h2;refine⟨h2,?_⟩;rw[sH r1];exact q _ H HF (.refl sm) (by simp[Rep])
 ·cases hg
def DL{K:W.Frag}:gR K (λx y H Q=>y=.Xe/\Q (.bl (!decide (x=.Xe))) H) lJ:=by
 intro HF H x y v1 v2 d Q sm r1 r2 hg q;unfold lJ at hg;split at hg
 ·rename_i h;cases hg;have h2:=sH r2;rw[h,zJ] at h2;refine⟨h2,?_⟩;rw[sH r1];exact q _ H HF (.refl sm) (by simp[Rep])
 ·cases hg
def Bk.is0(C:Bk X N sc k)(ha:DE X a fa)(hb:DE X b fb):DE X (.Compare a [.Is] [b] pos) (f2 uF fa fb):=nY Ju Gv ha hb (eE _)
def Bk.ajR(C:Bk X N sc k)(ha:DE X a fa)(hb:DE X b fb):DE X (.Compare a [.IsNot] [b] pos) (f2 lJ fa fb):=nY Gm DL ha hb (eE _)
def Bk.ajS(C:Bk X N sc k)(ha:DE X a fa)(hb:DE X b fb):DT X (.Compare a [.Is] [b] pos) (fB (f2 uF fa fb)):=nF Ju Gv ha hb (eE _)
def Bk.aeR(C:Bk X N sc k)(ha:DE X a fa)(hb:DE X b fb):DT X (.Compare a [.IsNot] [b] pos) (fB (f2 lJ fa fb)):=nF Gm DL ha hb (eE _)
def Rt(hc:X.calm=true)(B:vg X "min" (.builtin "min"))(he:starEach (e::es) X.env=(false,eval e X.env)::starEach es X.env)(Yb:(backTo pos (starEach es X.env)).any (·.1)=false)(ha:DA X (e::es) fs):DE X (.Call (.Name "min" p) (e::es) [] pos) (bu uN fs) :=
 jv (J6 hc) (by
  intro HF H ds vs d Q sm r hg q;unfold uN at hg;split at hg
  ·cases hg;let⟨v1,r1,rfl,a1,b1⟩:=r.cons_inv;let⟨v2,r2,rfl,a2,b2⟩:=b1.cons_inv;rw[b2.nil_inv];simp?[Rep] at a1 a2;exact .inl ⟨_,_,by rw[a1,a2],q _ H HF (.refl sm) (by simp[Rep])⟩
  ·cases hg;let⟨v1,r1,rfl,a1,b1⟩:=r.cons_inv;let⟨v2,r2,rfl,a2,b2⟩:=b1.cons_inv;let⟨v3,r3,rfl,a3,b3⟩:=b2.cons_inv;rw[b3.nil_inv];simp?[Rep] at a1 a2 a3;exact .inr ⟨_,_,_,by rw[a1,a2,a3],q _ H HF (.refl sm) (by simp[Rep])⟩
  ·cases hg) B ha (by decide) (by decide) he Yb
section
variable {fl fs:Env->Option (List D)}
def Di(ds:List D):D->Option (List D)
 | .int k=>if Da k=true/\ds.length * k.toNat<=sizeLine then some (List.replicate k.toNat ds).flatten else none
 | _=>none
def lQ(fl:Env->Option (List D))(fb:Env->Option D):Env->Option (List D):=λρ=>(fl ρ).bind λds=>(fb ρ).bind (Di ds)
def Sl(ha:DF X a fl)(hb:DE X b fb):DF X (.BinOp a .Mult b pos) (lQ fl fb):=bo (FC QL ha hb) λσ H Q ⟨HF,ρ,d,sm,eo,hf,q⟩=>by
 let⟨ds,hx,hf⟩:=bs hf;let⟨y,hy,hg⟩:=bs hf;refine⟨HF,ρ,ds,sm,eo,hx,λl vs H1 Xj g1 h0 hn h1 r1=>⟨Xj,ρ,y,g1.fh,eo.mono g1.ff,hy,λv2 H2 Xz g2 r2=>?_⟩⟩;cases y<;>try cases hg
 rename_i k;have hg:(if Da k=true/\ds.length * k.toNat<=sizeLine then some (List.replicate k.toNat ds).flatten else none)=some d:=hg;split at hg
 ·rename_i hz;cases hg;simp?[Rep] at r2;have r1:=r1.mono g2.ff;have G:=g1.trans g2;have ok:=hz.1;simp?[Da,zF,zJ] at ok;exact⟨l,k,vs,rfl,r2,g2.hh _ _ h1,by lia,by lia,by rw[r1.length];exact hz.2,λp hp=>q p _ _ Xz (G.trans (.own G.fh hp)) (G.hh.free hp) (G.fh.free hp) aO (o6 r1 _)⟩
 ·cases hg
def E2(hc:X.calm=true):gD X (.builtin "any") (λxs H Q=>∃ (a:Addr) (bs:List Bool),xs=[.ref a]/\iW X.K H a (bs.map V.bl)/\Q (.bl (bs.any id)) H):=by
 intro pins s σ H xs us Q I r h;let⟨a,bs,rfl,hq,q⟩:=h;let⟨u,rfl,rx⟩:=vals1 r;cases rx;let⟨its,rv,pl,hz⟩:=I.list hq;have hv:=ny rv;subst hv;have hh:X.A.in1.handled=none:=I.ok.hd hc;refine call_any_walk (qL pl.isList ?_);let⟨o,ho,XJ,n,hd⟩:=pl.isList;have XA:a≠s.heap.objs.size:=yS (zY ho);refine⟨_,_,_,_,_,_,λi=>bs.getD i false,rfl,Walks.list hh s.heap.objs.size a XA (bs.map Value.bool).toArray,⟨⟨_,zX _ rfl,rfl,rfl⟩,pl.isList.push _⟩,λi v s' Q' E' hP hQ=>?_,λh' tk kp=>?_⟩
 ·have e:v=Value.bool (bs.getD i false):=by
   have hP:(bs.map Value.bool).toArray[i]?=some v:=hP;rw[wK,zO] at hP;let⟨b,hb,rfl⟩:=ah hP;rw[zG,hb];rfl
  subst e;exact xX hQ
 ·refine⟨.bl (bs.any id),H,?_,?_,q⟩
  ·exact I.kept (t':=tk) λb o' e=>kp b o' (by simp;exact yS (zY e)) (zU _ e)
  ·show Value.bool _=Value.bool _;have:=range_any bs;simp?[zH,zD];rw[this]
end
def Sh(hc:X.calm=true)(B:vg X "any" (.builtin "any"))(he:starEach [e] X.env=(false,eval e X.env)::starEach [] X.env)(ha:DA X [e] fs):DE X (.Call (.Name "any" p) [e] [] pos) (bu (λds=>(oneOf ds).bind λd=>match d with
 | .list es=>(boolsOf es).map λbs=>.bool (bs.any id)
 | _=>none) fs) :=
 jv (E2 hc) (by
  intro HF H ds vs d Q sm r hg q;let⟨x,hx,hg⟩:=bs hg;rw[iw hx] at r;cases x<;>try cases hg
  let⟨bs,hb,rfl⟩:=ah hg;let⟨v,r',rfl,a,b⟩:=r.cons_inv;rw[b.nil_inv];simp?[Rep] at a;let⟨p,us,rfl,h,rr⟩:=a;rw[j9 hb] at rr;have:=fN rr;subst this;exact⟨p,bs,rfl,sm.seq h,q _ H HF (.refl sm) (by simp[Rep])⟩) B ha (by decide) (by decide) he rfl
def rD(ns:List Int):∀j:Nat,preSum (λi=>ns.getD i 0) j=(ns.take j).sum
 | 0=>by simp[preSum]
 | j+1=>by
  rw[preSum,rD ns j,List.take_add_one,List.sum_append]
  congr 1
  rw[zG];cases ns[j]?<;>simp
def yg(val:Nat->Int)(B:Int)(h:∀i,-B<=val i/\val i<=B):∀j:Nat,-(B * j)<=preSum val j/\preSum val j<=B * j
 | 0=>by simp[preSum]
 | j+1=>by
  have ih:=yg val B h j;have:=h j;rw[preSum];have e:B * ((j+1:Nat):Int)=B * (j:Int)+B:=by rw[Int.natCast_add,Int.mul_add];simp
  rw[e];lia
def PN(ns:List Int):Bool:=decide (ns.length<=1000)&&ns.all λn=>decide (-1000000<=n)&&decide (n<=1000000)
def Qf(h:PN ns=true):ns.length<=1000/\∀i,-1000000<=ns.getD i 0/\ns.getD i 0<=1000000:=by
 unfold PN at h;rw[zF,zJ,xH] at h;refine⟨h.1,λi=>?_⟩;rw[zG];cases e:ns[i]? with
 | none=>simp
 | some n =>
  have:=h.2 n (qC e);simpa using this
def td{ns:List Int}{its:List Value}(r:aS (ns.map V.int) its){i:Nat}(h:its.toArray[i]?=some v):∃t,v=.int (ns.getD i 0) t:=by
 rw[wK] at h
 induction ns generalizing its i with
 | nil=>cases r;simp at h
 | cons n ns ih =>
  cases r with
  | cons r1 rr =>
   cases i with
   | zero =>
    simp?[xR,yL] at h;subst h;let⟨t,rfl⟩:=r1;exact⟨t,rfl⟩
   | succ i =>
    simp?[yZ] at h;exact ih rr h
def Ft(hc:X.calm=true):gD X (.builtin "sum") (λxs H Q=>∃ (a:Addr) (ns:List Int),xs=[.ref a]/\(iW X.K H a (ns.map V.int)\/lG X.K H a (ns.map V.int))/\PN ns=true/\Q (.int ns.sum) H):=by
 intro pins s σ H xs us Q I r h;let⟨a,ns,rfl,hq,Xi,q⟩:=h;let⟨u,rfl,rx⟩:=vals1 r;cases rx;have hh:X.A.in1.handled=none:=I.ok.hd hc;let⟨hlen,hbd⟩:=Qf Xi;have hin:∀n:Nat,n<=1000->∀j,j < n->InLong ((λi=>ns.getD i 0) j)/\InLong (preSum (λi=>ns.getD i 0) (j+1)):=λn hn j hj=>by
  have h1:=hbd j;have h2:=yg (λi=>ns.getD i 0) 1000000 hbd (j+1);refine⟨⟨?_,?_⟩,?_,?_⟩
  ·show -(2 ^ 63)<=ns.getD j 0;lia
  ·show ns.getD j 0 < 2 ^ 63;lia
  ·lia
  ·lia
 have aeS:preSum (λi=>ns.getD i 0) ns.length=ns.sum:=by rw[rD,List.take_length]
 rcases hq with hq|hq
 ·let⟨its,rv,pl,hz⟩:=I.list hq;have hl:its.length=ns.length:=by rw[<- rv.length,zD]
  refine call_sum_walk (qL pl.isList ?_);let⟨o,ho,XJ,n,hd⟩:=pl.isList;have Xw:=zY ho;have XA:a≠s.heap.objs.size:=yS Xw;refine⟨_,_,_,_,_,_,λi=>ns.getD i 0,rfl,Walks.list hh s.heap.objs.size a XA its.toArray,⟨⟨_,zX _ rfl,rfl,rfl⟩,pl.isList.push _⟩,λb hb=>?_,λi v hP=>td rv hP,by rw[zH,hl];exact hin _ hlen,λh' tk t' kp=>?_⟩
  ·show b < (s.heap.push _).objs.size;rw[xK];simp?[zQ,yF,xV] at hb;rcases hb with rfl|rfl
   ·exact kY _
   ·exact jP Xw
  ·refine⟨.int ns.sum,H,I.kept (t':=tk) λb o' e=>kp b o' (by simp;exact yS (zY e)) (zU _ e),⟨t',?_⟩,q⟩;rw[zH,hl,aeS]
 ·let⟨its,rv,pl,hz⟩:=I.tuple hq;have pl:s.heap.IsTuple a its.toArray:=pl;have hl:its.length=ns.length:=by rw[<- rv.length,zD]
  refine call_sum_walk (xS pl ?_);let⟨o,ho,XJ,n,hd⟩:=id pl;have Xw:=zY ho;have XA:a≠s.heap.objs.size:=yS Xw;refine⟨_,_,_,_,_,_,λi=>ns.getD i 0,rfl,Walks.tuple hh s.heap.objs.size a XA its.toArray,⟨⟨_,zX _ rfl,rfl,rfl⟩,pl.push _⟩,λb hb=>?_,λi v hP=>td rv hP,by rw[zH,hl];exact hin _ hlen,λh' tk t' kp=>?_⟩
  ·show b < (s.heap.push _).objs.size;rw[xK];simp?[zQ,yF,xV] at hb;rcases hb with rfl|rfl
   ·exact kY _
   ·exact jP Xw
  ·refine⟨.int ns.sum,H,I.kept (t':=tk) λb o' e=>kp b o' (by simp;exact yS (zY e)) (zU _ e),⟨t',?_⟩,q⟩;rw[zH,hl,aeS]
def vy:List D->Option D:=λds=>(fy ds).bind λes=>(intsOf es).bind λns=>if PN ns=true then some (.int ns.sum) else none
def mO{K:W.Frag}:∀ {ns:List Int}{vs:List V},aC K H (ns.map PyData.int) vs->vs=ns.map V.int
 | [],vs,h=>h.nil_inv
 | b::bs,vs,h=>by
  let⟨v,r,rfl,a,c⟩:=h.cons_inv;simp?[Rep] at a;rw[a,mO c];rfl
def Rj(hc:X.calm=true)(B:vg X "sum" (.builtin "sum"))(he:starEach [e] X.env=(false,eval e X.env)::starEach [] X.env)(ha:DA X [e] fs):DE X (.Call (.Name "sum" p) [e] [] pos) (bu vy fs) :=
 jv (Ft hc) (by
  intro HF H ds vs d Q sm r hg q;let⟨es,h1,hg⟩:=bs hg;let⟨ns,h2,hg⟩:=bs hg;have hg:(if PN ns=true then some (PyData.int ns.sum) else none)=some d:=hg;split at hg
  ·rename_i Xi;cases hg;have e2:=eQ h2;subst e2;rcases md h1 with rfl|rfl
   all_goals
    let⟨v,r',rfl,a,b⟩:=r.cons_inv;rw[b.nil_inv];simp?[Rep] at a;let⟨p,us,rfl,h,rr⟩:=a;have:=mO rr;subst this
   ·exact⟨p,ns,rfl,.inr (aR sm h),Xi,q _ H HF (.refl sm) (by simp[Rep])⟩
   ·exact⟨p,ns,rfl,.inl (sm.seq h),Xi,q _ H HF (.refl sm) (by simp[Rep])⟩
  ·cases hg) B ha (by decide) (by decide) he rfl
def SE(i:Int):Value->Bool|.int a _=>a == i|_=>false
def HN:Ss X "list.index" (λx vs H Q=>∃ (l:Addr) (ns:List Int) (i:Int) (j:Nat),x=.ref l/\vs=[.int i]/\iW X.K H l (ns.map V.int)/\ns[j]?=some i/\(∀m,m < j->ns[m]?≠some i)/\Q (.int j) H):=by
 intro pins s σ H x vs v us Q I rx rv h;let⟨l,ns,i,j,rfl,rfl,hq,hj,hno,q⟩:=h;cases rx;let⟨u,rfl,ru⟩:=rv.one;let⟨t,rfl⟩:=ru;let⟨its,r,pl,hz⟩:=I.list hq;let⟨⟨cls,dd,data,sl⟩,ho,hc,n,hd⟩:=id pl.isList;simp only at hc hd;subst hc hd;have hl:its.length=ns.length:=by rw[<- r.length,zD]
 have hj1:j < ns.length:=(List.getElem?_eq_some_iff.mp hj).1;have hz':ns.length<=sizeLine:=by rw[zD] at hz;exact hz
 have ajU:(sizeLine:Nat) < 2 ^ 62:=by decide
 have at_:∀m (hm:m < its.toArray.size),∃t',its.toArray[m]=.int (ns.getD m 0) t':=λm hm=>td r (kA hm);refine qY F.slot_list_index ⟨_,ho,rfl⟩ F.entry_list_index (F.args_list_index_2 _ _) (PySem.SeqAt.list_indexAt l its.toArray n dd sl (.int i t) (SE i) j (by rw[zH,hl];exact hj1) (by lia) ?_ ?_) ⟨ho,?_,?_⟩
 ·let⟨t',e⟩:=at_ j (by rw[zH,hl];exact hj1);rw[e,SE,zG,hj];simp
 ·intro m hm hmj;let⟨t',e⟩:=at_ m hm;have YC:m < ns.length:=by lia
  have:=hno m hmj;rw[e,SE,zG];rw[zK YC] at this ⊢;simp?[qH,beq_eq_false_iff_ne];exactλh=>this (by rw[h])
 ·intro y hy;let⟨m,hm,rfl⟩:=Array.getElem_of_mem hy;let⟨t',e⟩:=at_ m hm;rw[e];exact PySem.SeqAt.EqAt.int_int _ _ _ _
 ·exact⟨.int j,H,I.tok _,⟨_,rfl⟩,q⟩
def Cb(i:Int):List Int->Option Nat
 | []=>none
 | n::ns=>if n=i then some 0 else (Cb i ns).map (·+1)
def pQ:∀ {ns:List Int}{j:Nat},Cb i ns=some j->ns[j]?=some i/\∀m,m < j->ns[m]?≠some i
 | [],j,h=>by cases h
 | n::ns,j,h=>by
  unfold Cb at h;split at h
  ·cases h;rename_i e;exact⟨by rw[e];rfl,λm hm=>absurd hm (wC _)⟩
  ·rename_i e;let⟨k,hk,rfl⟩:=ah h;let⟨a,b⟩:=pQ hk;refine⟨by simpa using a,λm hm=>?_⟩;cases m with
   | zero=>simpa using e
   | succ m=>simpa using b m (by lia)
def Vn:D->D->Option D
 | .list es,.int i=>(intsOf es).bind λns=>(Cb i ns).map λj=>.int ((j:Nat):Int)
 | _,_=>none
def Kq{fo:Env->Option D}(YK:attributeBase o "index" X.env (eval o X.env)=eval o X.env)
  (Yi:((backTo cpos (starEach [e] X.env)).all (λx=>!x.1)&&(backToKw cpos (keywordEach [] X.env)).all (λx=>x.1.isSome)&&decide ([e].length+([]:List Keyword).length+(if ([]:List Keyword).isEmpty then 0 else 1) < 30))=true)
  (Xv:(apos.endLine == cpos.line)=true) (hs:starEach [e] X.env=(false,eval e X.env)::starEach [] X.env) (ho:DE X o fo) (he:DE X e fe):DE X (.Call (.Attribute o "index" apos) [e] [] cpos) (f2 Vn fo fe) :=
 bo (uR qP PySem.F.slot_list_index PySem.F.type_list_index HN ho (cL he fE hs) YK Yi Xv hs rfl) λσ H Q ⟨HF,ρ,d,sm,eo,hf,q⟩=>by
  let⟨x,hx,hf⟩:=bs hf;let⟨y,hy,hg⟩:=bs hf;refine⟨HF,ρ,x,sm,eo,hx,λv1 H1 Xj g1 r1=>?_⟩;cases x<;>try cases hg
  cases y<;>try cases hg
  rename_i es i;let⟨ns,h1,hg⟩:=bs hg;let⟨j,h2,rfl⟩:=ah hg;have e1:=eQ h1;subst e1;simp?[Rep] at r1;let⟨l,us,rfl,hq,rr⟩:=r1;have:=mO rr;subst this;refine⟨.inl ⟨rfl,_,g1.fh.seq hq⟩,Xj,ρ,.int i,g1.fh,eo.mono g1.ff,hy,λv2 H2 Xz g2 r2=>?_⟩;simp?[Rep] at r2;let⟨a,b⟩:=pQ h2;exact⟨l,ns,i,j,rfl,by rw[r2],g2.fh.seq (g2.ff.seq hq),a,b,q _ H2 Xz (g1.trans g2) (by simp[Rep])⟩
end Dl
namespace Tx
open PySem PySem.SeqAt PyProof.Rows
open PySem.AutoSeq1 (wpAny_loadPart')
open PySem.MeetsSeq PySem.MeetsSeq2 PySem.MeetsSeq3
def wpR(f:Nat->β->Sem (ForInStep β))(I:List Nat->β->Shared->Prop)(Q:β->Shared->Prop)
  (turn:∀x rest b s,I (x::rest) b s->wpAny M A (f x b) (λr s'=>match r with|.yield b'=>I rest b' s'|.done b'=>Q b' s') E s)
  (fin:∀b s,I [] b s->Q b s) (n:Nat) (b:β) (h:I (List.range' 0 n 1) b s):wpAny M A (forIn [:n] b f) Q E s:=by
 have e:forIn [:n] b f=forIn (List.range' 0 n 1) b f:=by
  rw[Std.Legacy.Range.forIn_eq_forIn_range'];simp[Std.Legacy.Range.size]
 rw[e];exact wpAny_forIn_list f I Q turn fin _ b h
def YG(l:Addr)(items:Array Value)(n:Nat)(dd:Option Addr)(sl:Array (Option Value))(x:Value)(e:Value->Bool)(j:Nat)(hj:j < items.size)(h1:e items[j]=true)(h2:∀m (hm:m < items.size),m < j->e items[m]=false) :
  Meets (Builtin.«tuple.index» ⟨[.ref l,x],[]⟩)
   (λA R s=>s.heap.get? l=some { cls:=.type "tuple",dict:=dd,data:=.seq items n,slots:=sl }/\(∀y,y∈items->EqAt A.in1 s y x (e y))/\R (.ok (.ret (.int (j:Nat) s.toks))) { s with toks:=s.toks+1 }) :=
 .of_wp λprog w A R s h=>by
  let⟨hp,g,d,tk,os⟩:=s;let⟨hl,he,h⟩:=h
  wp_walk using wpAny_loadPart' hl,wpR _ (λrest b s'=>s'=⟨hp,g,d,tk,os⟩/\b.1=none/\∃i,i<=j/\rest=List.range' i (items.size - i) 1) _
  case turn =>
   rintro i rest b s' ⟨rfl,hb,i',hi,e1⟩;have Xw:i' < items.size:=by lia
   rw[show items.size - i'=(items.size - (i'+1))+1 by lia,vP] at e1;injection e1 with e2 e3
   subst e2;subst e3;simp?[kA Xw];refine zV (he _ (Array.getElem_mem Xw) prog w _ _ ?_);by_cases XB:i=j
   ·subst XB;rw[h1]
    wp_walk
    exact⟨_,rfl,h⟩
   ·rw[h2 i Xw (by lia)]
    wp_walk
    exact⟨rfl,rfl,i+1,by lia,rfl⟩
  case fin =>
   rintro b s' ⟨rfl,hb,i,hi,e1⟩;have:=jD List.length e1;simp at this;lia
  case h =>
   exact⟨rfl,rfl,0,xW _,by simp⟩
end Tx
namespace Dl
open PySem L2 PySem.Spec PyProof.Rows
def IQ:Ss X "tuple.index" (λx vs H Q=>∃ (l:Addr) (ns:List Int) (i:Int) (j:Nat),x=.ref l/\vs=[.int i]/\lG X.K H l (ns.map V.int)/\ns[j]?=some i/\(∀m,m < j->ns[m]?≠some i)/\Q (.int j) H):=by
 intro pins s σ H x vs v us Q I rx rv h;let⟨l,ns,i,j,rfl,rfl,hq,hj,hno,q⟩:=h;cases rx;let⟨u,rfl,ru⟩:=rv.one;let⟨t,rfl⟩:=ru;let⟨its,r,pl,hz⟩:=I.tuple hq;let⟨⟨cls,dd,data,sl⟩,ho,hc,n,hd⟩:=id pl;simp only at hc hd;subst hc hd;have hl:its.length=ns.length:=by rw[<- r.length,zD]
 have hj1:j < ns.length:=(List.getElem?_eq_some_iff.mp hj).1;have at_:∀m (hm:m < its.toArray.size),∃t',its.toArray[m]=.int (ns.getD m 0) t':=λm hm=>td r (kA hm);refine qY F.slot_tuple_index ⟨_,ho,rfl⟩ F.entry_tuple_index (F.args_tuple_index_2 _ _) (Tx.YG l its.toArray n dd sl (.int i t) (SE i) j (by rw[zH,hl];exact hj1) ?_ ?_) ⟨ho,?_,?_⟩
 ·let⟨t',e⟩:=at_ j (by rw[zH,hl];exact hj1);rw[e,SE,zG,hj];simp
 ·intro m hm hmj;let⟨t',e⟩:=at_ m hm;have YC:m < ns.length:=by
   rw[zH] at hm;lia
  have:=hno m hmj;rw[e,SE,zG];rw[zK YC] at this ⊢;simp?[qH,beq_eq_false_iff_ne];exactλh=>this (by rw[h])
 ·intro y hy;let⟨m,hm,rfl⟩:=Array.getElem_of_mem hy;let⟨t',e⟩:=at_ m hm;rw[e];exact PySem.SeqAt.EqAt.int_int _ _ _ _
 ·exact⟨.int j,H,I.tok _,⟨_,rfl⟩,q⟩
def Ly(h:PE X e t)(g:PE X e u):PE X e (λσ H Q=>t σ H Q\/u σ H Q):=λpins s σ H Q I q=>q.elim (h pins s σ H Q I) (g pins s σ H Q I)
def nU:D->D->Option D
 | .list es,.int i=>(intsOf es).bind λns=>(Cb i ns).map λj=>.int ((j:Nat):Int)
 | .tuple es,.int i=>(intsOf es).bind λns=>(Cb i ns).map λj=>.int ((j:Nat):Int)
 | _,_=>none
def Ho{fo:Env->Option D}(YK:attributeBase o "index" X.env (eval o X.env)=eval o X.env)
  (Yi:((backTo cpos (starEach [e] X.env)).all (λx=>!x.1)&&(backToKw cpos (keywordEach [] X.env)).all (λx=>x.1.isSome)&&decide ([e].length+([]:List Keyword).length+(if ([]:List Keyword).isEmpty then 0 else 1) < 30))=true)
  (Xv:(apos.endLine == cpos.line)=true) (hs:starEach [e] X.env=(false,eval e X.env)::starEach [] X.env) (ho:DE X o fo) (he:DE X e fe):DE X (.Call (.Attribute o "index" apos) [e] [] cpos) (f2 nU fo fe) :=
 bo (Ly (Kq YK Yi Xv hs ho he) (uR PySem.F.plainAttrs_tuple PySem.F.slot_tuple_index PySem.F.type_tuple_index IQ ho (cL he fE hs) YK Yi Xv hs rfl)) λσ H Q ⟨HF,ρ,d,sm,eo,hf,q⟩=>by
  let⟨x,hx,hf⟩:=bs hf;let⟨y,hy,hg⟩:=bs hf;cases x<;>try cases hg
  ·cases y<;>try cases hg
   rename_i es i;exact .inl ⟨HF,ρ,d,sm,eo,by simp?[f2,hx,hy,zA];exact hg,q⟩
  ·cases y<;>try cases hg
   rename_i es i;let⟨ns,h1,hg⟩:=bs hg;let⟨j,h2,rfl⟩:=ah hg;have e1:=eQ h1;subst e1;refine .inr ⟨HF,ρ,_,sm,eo,hx,λv1 H1 Xj g1 r1=>?_⟩;simp?[Rep] at r1;let⟨l,us,rfl,hq,rr⟩:=r1;have:=mO rr;subst this;refine⟨?_,Xj,ρ,.int i,g1.fh,eo.mono g1.ff,hy,λv2 H2 Xz g2 r2=>?_⟩
   ·first|exact .inr (.inl ⟨rfl,_,aR g1.fh hq⟩)|exact .inl ⟨rfl,_,aR g1.fh hq⟩|exact .inr ⟨rfl,_,aR g1.fh hq⟩
   ·simp?[Rep] at r2;let⟨a,b⟩:=pQ h2;exact⟨l,ns,i,j,rfl,by rw[r2],aR g2.fh (aR g2.ff hq),a,b,q _ H2 Xz (g1.trans g2) (by simp[Rep])⟩
end Dl
namespace Zp
open PySem PyProof.Rows
def XR(b:Bool)(h:Heap)(it l:Addr)(k:Nat):Prop:=match b with|true=>h.IsTupleIter it l k|false=>h.IsListIter it l k
def X2(b:Bool)(h:Heap)(l:Addr)(xs:Array Value):Prop:=match b with|true=>h.IsTuple l xs|false=>h.IsList l xs
def XR.obj(x:XR b h it l k):∃o,h.get? it=some o/\∀v,o.data≠.cell v:=by
 cases b
 ·let⟨o,e,_,d⟩:=(show h.IsListIter it l k from x);exact⟨o,e,λv q=>by rw[d] at q;cases q⟩
 ·let⟨o,e,_,d⟩:=(show h.IsTupleIter it l k from x);exact⟨o,e,λv q=>by rw[d] at q;cases q⟩
def XR.at(x:XR b h it l k)(e:∀o,h.get? it=some o->h'.get? it=some o):XR b h' it l k:=by
 cases b
 ·exact Heap.IsListIter.at x e
 ·exact Heap.IsTupleIter.at x e
def XR.extBut(x:XR b h it l k)(e:Heap.ExtBut a h h')(n:it≠a):XR b h' it l k:=x.at λo q=>e it o n q
def X2.at(x:X2 b h l xs)(e:∀o,h.get? l=some o->h'.get? l=some o):X2 b h' l xs:=by
 cases b
 ·let⟨o,q,r⟩:=(show h.IsList l xs from x);exact⟨o,e o q,r⟩
 ·let⟨o,q,r⟩:=(show h.IsTuple l xs from x);exact⟨o,e o q,r⟩
def X2.extBut(x:X2 b h l xs)(e:Heap.ExtBut a h h')(n:l≠a):X2 b h' l xs:=x.at λo q=>e l o n q
section
def nxt(hj:XR b s.heap j t k)(ht:X2 b s.heap t its)(hv:its[k]?=some v)
  (hQ:∀g,XR b g j t (k+1)->Heap.SameBut j s.heap g->Q v { s with heap:=g }):wpAny (model prog w) A (Builtin.SmallTypes.nextOf (.ref j)) Q E s:=by
 cases b
 ·exact wpAny_nextOf_list_item hj ht hv hQ
 ·exact En.ZA hj ht hv hQ
def abu{Q:Value->Shared->Prop}(hh:A.handled=none)(hj:XR b s.heap j t k)(ht:X2 b s.heap t its)(hv:its[k]?=none)
  (hE:∀g x,Heap.ExtBut j s.heap g->(∃o,g.get? x=some o/\o.cls=.type "StopIteration")->E (.ref x) { s with heap:=g }):wpAny (model prog w) A (Builtin.SmallTypes.nextOf (.ref j)) Q E s:=by
 cases b
 ·exact wpAny_nextOf_list_end hh hj ht hv hE
 ·exact En.aae hh hj ht hv hE
structure ZS(Xq XC:Bool)(h₀ h:Heap)(z TI TO i j l m:Addr)(xs ys:Array Value)(f:Value)(p q:Nat)(a b:Value):Prop where
 zo:IsZip h z TI TO f
 ti:IsPair h TI (.ref i) (.ref j)
 to:IsPair h TO a b
 wi:XR Xq h i l p
 wj:XR XC h j m q
 sl:X2 Xq h l xs
 sm:X2 XC h m ys
 kp:∀c o,c≠z->c≠TO->c≠i->c≠j->h₀.get? c=some o->h.get? c=some o
 sz:h.objs.size=h₀.objs.size
section
variable {z TI TO i j l m:Addr}
def ZS.fl(Z:ZS Xq XC h₀ h z TI TO i j l m xs ys f p q a b)(D:ZipApart z TI TO i j l m)(e:IsZip g z TI TO f')(t:Heap.SameBut z h g):ZS Xq XC h₀ g z TI TO i j l m xs ys f' p q a b :=
 ⟨e,t.extBut _ _ D.TIz Z.ti,t.extBut _ _ D.TOz Z.to,Z.wi.extBut t.extBut D.i1z,Z.wj.extBut t.extBut D.i2z,Z.sl.extBut t.extBut D.l1z,Z.sm.extBut t.extBut D.l2z,λc o n1 n2 n3 n4 r=>t.extBut _ _ n1 (Z.kp c o n1 n2 n3 n4 r),t.1.trans Z.sz⟩
def ZS.fst(Z:ZS Xq XC h₀ h z TI TO i j l m xs ys f p q a b)(D:ZipApart z TI TO i j l m)(e:XR Xq g i l (p+1))(t:Heap.SameBut i h g):ZS Xq XC h₀ g z TI TO i j l m xs ys f (p+1) q a b :=
 ⟨t.extBut _ _ D.i1z.symm Z.zo,t.extBut _ _ D.TIi1 Z.ti,t.extBut _ _ D.TOi1 Z.to,e,Z.wj.extBut t.extBut D.i12.symm,Z.sl.extBut t.extBut D.l1i1,Z.sm.extBut t.extBut D.l2i1,λc o n1 n2 n3 n4 r=>t.extBut _ _ n3 (Z.kp c o n1 n2 n3 n4 r),t.1.trans Z.sz⟩
def ZS.snd(Z:ZS Xq XC h₀ h z TI TO i j l m xs ys f p q a b)(D:ZipApart z TI TO i j l m)(e:XR XC g j m (q+1))(t:Heap.SameBut j h g):ZS Xq XC h₀ g z TI TO i j l m xs ys f p (q+1) a b :=
 ⟨t.extBut _ _ D.i2z.symm Z.zo,t.extBut _ _ D.TIi2 Z.ti,t.extBut _ _ D.TOi2 Z.to,Z.wi.extBut t.extBut D.i12,e,Z.sl.extBut t.extBut D.l1i2,Z.sm.extBut t.extBut D.l2i2,λc o n1 n2 n3 n4 r=>t.extBut _ _ n4 (Z.kp c o n1 n2 n3 n4 r),t.1.trans Z.sz⟩
def ZS.put(Z:ZS Xq XC h₀ h z TI TO i j l m xs ys f p q a b)(D:ZipApart z TI TO i j l m)(e:IsPair g TO x y)(t:Heap.SameBut TO h g):ZS Xq XC h₀ g z TI TO i j l m xs ys f p q x y :=
 ⟨t.extBut _ _ D.TOz.symm Z.zo,t.extBut _ _ D.TITO Z.ti,e,Z.wi.extBut t.extBut D.TOi1.symm,Z.wj.extBut t.extBut D.TOi2.symm,Z.sl.extBut t.extBut D.l1TO,Z.sm.extBut t.extBut D.l2TO,λc o n1 n2 n3 n4 r=>t.extBut _ _ n2 (Z.kp c o n1 n2 n3 n4 r),t.1.trans Z.sz⟩
end
variable {z TI TO i j l m:Addr}
def aeU{Q:Value->Shared->Prop}(hn:A.handled=none)(D:ZipApart z TI TO i j l m)(Z:ZS Xq XC s.heap s.heap z TI TO i j l m xs ys .none p q a b)
  (item:∀x y g g',xs[p]?=some x->ys[q]?=some y->ZS Xq XC s.heap g z TI TO i j l m xs ys .ellipsis (p+1) (q+1) x y->IsZip g' z TI TO (rawInt g.objs.size) ->
   Heap.SameBut z (g.push { cls:=.type "tuple",data:=.seq #[x,y] }) g'->Q (.ref g.objs.size) { s with heap:=g' })
  (over:(xs[p]?=none\/ys[q]?=none)->∀g e,(∀c o,c≠z->c≠TO->c≠i->c≠j->s.heap.get? c=some o->g.get? c=some o)->(∃o,g.get? e=some o/\o.cls=.type "StopIteration")->E (.ref e) { s with heap:=g }) :
  wpAny (model prog w) A (Builtin.«zip.__next__» ⟨[.ref z],[]⟩) (λr s'=>∃v,r=.done (.ret v)/\Q v s') E s:=by
 have stop:∀ {g1 g2:Heap}{e:Addr}{c:Addr}{p' q':Nat}{a' b':Value},ZS Xq XC s.heap g1 z TI TO i j l m xs ys .ellipsis p' q' a' b'->(c=i\/c=j)->(xs[p]?=none\/ys[q]?=none)->Heap.ExtBut c g1 g2 ->
   (∃o,g2.get? e=some o/\o.cls=.type "StopIteration")->wpAny (model prog w) A (setField (.ref z) 0 Value.none) (λ_ t=>E (.ref e) t) E { s with heap:=g2 }:=by
  intro g1 g2 e c p' q' a' b' Y hc hv k ⟨o,ho,ht⟩;have cz:z≠c:=hc.elim (λe=>e ▸ D.i1z.symm) λe=>e ▸ D.i2z.symm;have Yz:IsZip g2 z TI TO .ellipsis:=k _ _ cz Y.zo;refine vG Yz (by simp) λg3 _ t=>over hv g3 e (λd u n1 n2 n3 n4 r=>t.extBut _ _ n1 (k _ _ ?_ (Y.kp d u n1 n2 n3 n4 r))) ⟨o,t.extBut _ _ ?_ ho,ht⟩
  ·exact hc.elim (λe=>e ▸ n3) λe=>e ▸ n4
  ·rintro rfl;rw[Yz] at ho;cases ho;simp at ht
 show wpAny _ _ (field (.ref z) 2 >>= _) _ _ _;refine zV (qU Z.zo rfl (x:=.bool false) rfl (zV (qU Z.zo rfl (x:=.ref TI) rfl (zV (kL Z.ti rfl (zV (m:=Builtin.SmallTypes.ownedTupleIsFree _) ?_))))));refine zV (qU Z.zo rfl (x:=.none) rfl (zW ?_));rw[yM rfl];refine zV (wX (zV (qU Z.zo rfl (x:=.ref TO) rfl (zV (vG Z.zo (by simp) λg1 e1 t1=>?_)))));have Z1:=Z.fl D (f':=.ellipsis) e1 t1;refine zV ?_;simp?[List.zipIdx_cons,List.zipIdx_nil,List.forIn_cons,List.forIn_nil];refine zV (zV (wpAny_onRaise (zV (m:=Builtin.SmallTypes.nextOf _) ?_)));cases hx:xs[p]? with
 | none=>exact abu hn Z1.wi Z1.sl hx λg2 e k o=>stop Z1 (.inl rfl) (.inl hx) k o
 | some x =>
 refine nxt Z1.wi Z1.sl hx λg2 e2 t2=>zW ?_;have Z2:=Z1.fst D e2 t2;refine zV (kL Z2.to rfl (zV (wpAny_updateSeq_pair Z2.to λg3 e3 t3=>zV (wpAny_letGo (zW ?_)))));have Z3:=Z2.put D (x:=x) (y:=b) e3 t3;refine zV (zV (wpAny_onRaise (zV (m:=Builtin.SmallTypes.nextOf _) ?_)));cases hy:ys[q]? with
 | none=>exact abu hn Z3.wj Z3.sm hy λg4 e k o=>stop Z3 (.inr rfl) (.inr hy) k o
 | some y =>
 refine nxt Z3.wj Z3.sm hy λg4 e4 t4=>zW ?_;have Z4:=Z3.snd D e4 t4;refine zV (kL Z4.to rfl (zV (wpAny_updateSeq_pair Z4.to λg5 e5 t5=>zV (wpAny_letGo (zW (zW ?_))))));have Z5:=Z4.put D (x:=x) (y:=y) e5 t5;refine zV (kL Z5.to rfl (zV (wpAny_newTuple (zV (m:=Builtin.SmallTypes.ownedTupleHandOut _ _) ?_))));refine zV (vG (zU _ Z5.zo) (by simp) λg6 e6 t6=>vG e6 (by simp) λg7 e7 t7=>zW ⟨_,rfl,?_⟩);exact item x y g5 g7 hx hy Z5 e7 (t6.trans t7)
def aeV(hn:A.handled=none)(D:ZipApart z TI TO i j l m)
  (qz:IsZip s.heap z TI TO .none) (qI:IsPair s.heap TI (.ref i) (.ref j)) (qO:IsPair s.heap TO a b)
  (p1:XR Xq s.heap i l p) (p2:XR XC s.heap j m q) (r1:X2 Xq s.heap l xs) (r2:X2 XC s.heap m ys) (ex:xs[p]?=some x) (ey:ys[q]?=some y)
  (kQ:∀g,IsZip g z TI TO (rawInt s.heap.objs.size)->IsPair g TO x y->XR Xq g i l (p+1)->XR XC g j m (q+1)->IsPair g s.heap.objs.size x y->g.objs.size=s.heap.objs.size+1 ->
   (∀c o,c≠z->c≠TO->c≠i->c≠j->s.heap.get? c=some o->g.get? c=some o)->Q (some (.ref s.heap.objs.size)) { s with heap:=g }) :
  wpAny (model prog w) A (pyNext (.ref z)) Q E s:=by
 have ty:s.TypeIs (.ref z) "zip":=⟨_,qz,rfl⟩
 have Z:ZS Xq XC s.heap s.heap z TI TO i j l m xs ys .none p q a b:=⟨qz,qI,qO,p1,p2,r1,r2,λ_ _ _ _ _ _ e=>e,rfl⟩
 refine zV (vA (qD (name:=Str.ofString "__next__") ty wI (qX wI ty F.entry_zip_next (aeU hn D Z ?_ ?_) (F.args_zip_next_1 _))))
 ·intro x' y' g g' hx hy Y ez t;rw[ex] at hx;rw[ey] at hy;cases hx;cases hy;rw[Y.sz] at ez ⊢;have lt:=zY Y.zo;have up:∀c o,c≠z->g.get? c=some o->g'.get? c=some o:=λc o n e=>t.extBut _ _ n (zU _ e);refine zW (kQ g' ez (up _ _ D.TOz Y.to) (Y.wi.at λo e=>up _ _ D.i1z e) (Y.wj.at λo e=>up _ _ D.i2z e) ?_ (by rw[t.1,xK,Y.sz]) λc o n1 n2 n3 n4 e=>up c o n1 (Y.kp c o n1 n2 n3 n4 e));rw[<- Y.sz];exact t.extBut _ _ (jJ lt) (zX _ rfl)
 ·intro no;rw[ex,ey] at no;rcases no with no|no<;>cases no
def adI(hn:A.handled=none)(D:ZipApart z TI TO i j l m)
  (qz:IsZip s.heap z TI TO .none) (qI:IsPair s.heap TI (.ref i) (.ref j)) (qO:IsPair s.heap TO a b)
  (p1:XR Xq s.heap i l p) (p2:XR XC s.heap j m q) (r1:X2 Xq s.heap l xs) (r2:X2 XC s.heap m ys) (ends:xs[p]?=none\/ys[q]?=none)
  (kQ:∀g,(∀c o,c≠z->c≠TO->c≠i->c≠j->s.heap.get? c=some o->g.get? c=some o)->Q none { s with heap:=g }):wpAny (model prog w) A (pyNext (.ref z)) Q E s:=by
 have ty:s.TypeIs (.ref z) "zip":=⟨_,qz,rfl⟩
 have Z:ZS Xq XC s.heap s.heap z TI TO i j l m xs ys .none p q a b:=⟨qz,qI,qO,p1,p2,r1,r2,λ_ _ _ _ _ _ e=>e,rfl⟩
 refine zV (vA (qD (name:=Str.ofString "__next__") ty wI (qX wI ty F.entry_zip_next (aeU hn D Z ?_ ?_) (F.args_zip_next_1 _))))
 ·intro x y g g' hx hy;rw[hx,hy] at ends;rcases ends with no|no<;>cases no
 ·rintro _ g e kp ⟨o,ho,ht⟩;exact zV (wpAny_isInstance (T:="StopIteration") (b:=true) ⟨o,ho,ht⟩ isSubtype_stop (zW (kQ _ kp)))
end
abbrev itO(b:Bool)(l:Addr):Obj:={ cls:=.type (if b then "tuple_iterator" else "list_iterator"),data:=.fields #[.ref l,.int 0 0] }
abbrev z1(b:Bool)(h:Heap)(l:Addr):Heap:=h.push (itO b l)
abbrev z2(b c:Bool)(h:Heap)(l m:Addr):Heap:=(z1 b h l).push (itO c m)
abbrev z3(b c:Bool)(h:Heap)(l m:Addr):Heap:=(z2 b c h l m).push { cls:=.type "tuple",data:=.seq #[.ref h.objs.size,.ref (z1 b h l).objs.size] }
abbrev z4(b c:Bool)(h:Heap)(l m:Addr):Heap:=(z3 b c h l m).push { cls:=.type "tuple",data:=.seq #[.none,.none] }
abbrev z5(b c:Bool)(h:Heap)(l m:Addr):Heap:=(z4 b c h l m).push { cls:=.type "zip",data:=.fields #[.none,.bool false,.bool false,.ref (z2 b c h l m).objs.size,.ref (z3 b c h l m).objs.size] }
def X2.push(x:X2 b h l xs)(o:Obj):X2 b (h.push o) l xs:=x.at λo' e=>zU _ e
def abv(b c:Bool)(l m:Addr)(xs ys:Array Value):Meets (Builtin.«zip.__new__» ⟨[.type "zip",.ref l,.ref m],[]⟩) (λ_ R s=>X2 b s.heap l xs/\X2 c s.heap m ys/\R (.ok (.ret (.ref (z4 b c s.heap l m).objs.size))) { s with heap:=z5 b c s.heap l m }) :=
 .of_wp λprog w A R s h=>by
  let⟨hp,g,d,tk,os⟩:=s;let⟨q1,q2,h⟩:=h;have abt:=sub_zip;cases b<;>cases c
  ·have L1:Heap.IsList (Shared.heap ⟨hp,g,d,tk,os⟩) l xs:=q1;have L2:Heap.IsList (Shared.heap ⟨hp.push { cls:=.type "list_iterator",data:=.fields #[.ref l,.int 0 0] },g,d,tk,os⟩) m ys:=X2.push (b:=false) q2 _
   wp_walk using qL L1,qL L2
   exact⟨_,rfl,h⟩
  ·have L1:Heap.IsList (Shared.heap ⟨hp,g,d,tk,os⟩) l xs:=q1;have L2:Heap.IsTuple (Shared.heap ⟨hp.push { cls:=.type "list_iterator",data:=.fields #[.ref l,.int 0 0] },g,d,tk,os⟩) m ys:=X2.push (b:=true) q2 _
   wp_walk using qL L1,xS L2
   exact⟨_,rfl,h⟩
  ·have L1:Heap.IsTuple (Shared.heap ⟨hp,g,d,tk,os⟩) l xs:=q1;have L2:Heap.IsList (Shared.heap ⟨hp.push { cls:=.type "tuple_iterator",data:=.fields #[.ref l,.int 0 0] },g,d,tk,os⟩) m ys:=X2.push (b:=false) q2 _
   wp_walk using xS L1,qL L2
   exact⟨_,rfl,h⟩
  ·have L1:Heap.IsTuple (Shared.heap ⟨hp,g,d,tk,os⟩) l xs:=q1;have L2:Heap.IsTuple (Shared.heap ⟨hp.push { cls:=.type "tuple_iterator",data:=.fields #[.ref l,.int 0 0] },g,d,tk,os⟩) m ys:=X2.push (b:=true) q2 _
   wp_walk using xS L1,xS L2
   exact⟨_,rfl,h⟩
def ZX(e:h.get? it=some (itO b l)):XR b h it l 0:=by
 cases b
 ·exact⟨_,e,rfl,rfl⟩
 ·exact⟨_,e,rfl,rfl⟩
def aaL(q1:X2 b s.heap l xs)(q2:X2 c s.heap m ys)
  (h:∀g,IsZip g (s.heap.objs.size+4) (s.heap.objs.size+2) (s.heap.objs.size+3) .none->IsPair g (s.heap.objs.size+2) (.ref s.heap.objs.size) (.ref (s.heap.objs.size+1))->IsPair g (s.heap.objs.size+3) .none .none ->
   XR b g s.heap.objs.size l 0->XR c g (s.heap.objs.size+1) m 0->(∀a o,s.heap.get? a=some o->g.get? a=some o)->Q (.ref (s.heap.objs.size+4)) { s with heap:=g }) :
  wpAny (model prog w) A (call (.type "zip") [.ref l,.ref m]) Q E s:=by
 refine callType_new F.called_zip (by decide) (F.typeCall_zip_2 _ _) (F.newCall_zip_2 _ _) (λobj=>F.args_object_init_3 obj _ _) F.entry_zip_new (abv b c l m xs ys) ⟨q1,q2,?_⟩;have n1:(z1 b s.heap l).objs.size=s.heap.objs.size+1:=xK ..;have n2:(z2 b c s.heap l m).objs.size=s.heap.objs.size+2:=by rw[xK,n1]
 have n3:(z3 b c s.heap l m).objs.size=s.heap.objs.size+3:=by rw[xK,n2]
 have n4:(z4 b c s.heap l m).objs.size=s.heap.objs.size+4:=by rw[xK,n3]
 have g5:(z5 b c s.heap l m).get? (z4 b c s.heap l m).objs.size=some _:=zX _ rfl;have g4:(z5 b c s.heap l m).get? (z3 b c s.heap l m).objs.size=some _:=zU _ (zX _ rfl);have g3:(z5 b c s.heap l m).get? (z2 b c s.heap l m).objs.size=some _:=zU _ (zU _ (zX _ rfl));have g2:(z5 b c s.heap l m).get? (z1 b s.heap l).objs.size=some (itO c m):=zU _ (zU _ (zU _ (zX _ rfl)));have g1:(z5 b c s.heap l m).get? s.heap.objs.size=some (itO b l):=zU _ (zU _ (zU _ (zU _ (zX _ rfl))));show _/\_;rw[n2,n3,n4] at g5;rw[n1,n2] at g3;rw[n3] at g4;rw[n1] at g2;rw[n4];exact⟨⟨_,g5,rfl⟩,h _ g5 g3 g4 (ZX g1) (ZX g2) λa o x=>zU _ (zU _ (zU _ (zU _ (zU _ x))))⟩
end Zp
namespace Dl
open PySem L2 PySem.Spec PyProof.Rows Zp
def zd(K:W.Frag)(b:Bool)(a:Addr)(H:Hp)(xs:List V):Prop:=match b with|true=>lG K H a xs|false=>iW K H a xs
def zd.src(I:Inv X pins σ H s)(h:zd X.K b a H xs):∃its:List Value,aS xs its/\X2 b s.heap a its.toArray/\xs.length<=sizeLine:=by
 cases b
 ·let⟨its,rv,pl,hz⟩:=I.list (show iW X.K H a xs from h);exact⟨its,rv,pl.isList,hz⟩
 ·let⟨its,rv,pl,hz⟩:=I.tuple (show lG X.K H a xs from h);exact⟨its,rv,pl,hz⟩
def zd.ne(I:Inv X pins σ H s)(hf:dz X pins H c)(h:zd X.K b a H xs):a≠c:=by
 cases b
 ·exact Rh I hf h
 ·exact Qj I hf h
def zd.inj(I:Inv X pins σ H s)(h:zd X.K b a H xs)(h':zd X.K b a H ys):xs=ys:=by
 cases b
 ·exact I.Y0 h h'
 ·exact I.YJ h h'
def zd.mono{K:W.Frag}(e:aY H H')(h:zd K b a H xs):zd K b a H' xs:=by
 cases b
 ·exact e.seq h
 ·exact aR e h
def Iz{K:W.Frag}(b c:Bool)(l1 l2 z TI TO i1 i2:Addr)(Z:WM z TI TO i1 i2) :
  Turn P w K (.Tuple elts k pos) (Vm (zd K b l1) (zd K c l2)) [z,TI,TO,i1,i2] z (λi h=>IsZip h z TI TO .none/\IsPair h TI (.ref i1) (.ref i2)/\(∃a b,IsPair h TO a b)/\XR b h i1 l1 i/\XR c h i2 l2 i) where
 mem:=by simp
 obj:=λi h st d hd=>by
  let⟨hz,hTI,⟨a,b',hTO⟩,p1,p2⟩:=st;simp?[zQ,yF,xV] at hd;rcases hd with rfl|rfl|rfl|rfl|rfl
  ·exact⟨_,hz,λv q=>by have q:Data.fields _=Data.cell v:=q;cases q⟩
  ·exact⟨_,hTI,λv q=>by have q:Data.seq _ _=Data.cell v:=q;cases q⟩
  ·exact⟨_,hTO,λv q=>by have q:Data.seq _ _=Data.cell v:=q;cases q⟩
  ·exact p1.obj
  ·exact p2.obj
 keep:=λi h h' st kk=>by
  let⟨hz,hTI,⟨a,b',hTO⟩,h1,h2⟩:=st;exact⟨kk z (by simp) _ hz,kk TI (by simp) _ hTI,⟨a,b',kk TO (by simp) _ hTO⟩,h1.at λo q=>kk i1 (by simp) o q,h2.at λo q=>kk i2 (by simp) o q⟩
 item:=by
  intro X hP hw hK hc i pins s σ H E I hf st hg;subst hP hw hK;let⟨xs,ys,x,y,YM,YN,hx,hy⟩:=hg;let⟨ajW,rv1,p1,hz1⟩:=YM.src I;let⟨Yd,rv2,p2,hz2⟩:=YN.src I;let⟨u1,hu1,ru1⟩:=rv1.get hx;let⟨u2,hu2,ru2⟩:=rv2.get hy;have D:ZipApart z TI TO i1 i2 l1 l2:=⟨Z.a1,Z.a2,Z.a3,Z.a4,Z.a5,Z.a6,Z.a7,Z.a8,Z.a9,Z.a0,YM.ne I (hf z (by simp)),YM.ne I (hf TO (by simp)),YM.ne I (hf i1 (by simp)),YM.ne I (hf i2 (by simp)),YN.ne I (hf z (by simp)),YN.ne I (hf TO (by simp)),YN.ne I (hf i1 (by simp)),YN.ne I (hf i2 (by simp))⟩
  let⟨hz,hTI,⟨a,b',hTO⟩,h1,h2⟩:=st;refine aeV (I.ok.hd hc) D hz hTI hTO h1 h2 p1 p2 (x:=u1) (y:=u2) (by simpa using hu1) (by simpa using hu2) λg b1 b2 b3 b4 b5 b6 hk=>⟨.ref s.heap.objs.size,rfl,?_⟩
  have lt:∀ {c:Addr}{o:Obj},s.heap.get? c=some o->s.heap.objs.size≠c:=λe=>jJ (zY e);refine wpAny_letOwnedTupleGo_zip (s:={ s with heap:=g }) b1 λg' hz' Yp=>?_;have b5':g'.get? s.heap.objs.size=some { cls:=.type "tuple",data:=.seq #[u1,u2] }:=Yp.extBut _ _ (lt hz) b5;have ht:tI g' s.heap.objs.size (List.toArray [u1,u2]):=⟨⟨_,b5',rfl,_,rfl⟩,_,b5',rfl⟩
  refine⟨.ref s.heap.objs.size,_,CP (ch:=[z,TI,TO,i1,i2]) (xs:=[x,y]) (t':=s.toks) I hf (λb o hb q=>?_) (yN _) ht (.cons ru1 (.cons ru2 .nil)) (by show 2<=sizeLine;decide),rfl,
   ⟨s.heap.objs.size,x,y,rfl,I.fresh,rfl,λzs hzs=>by rw[hzs.inj I YM];exact hx,λzs hzs=>by rw[hzs.inj I YN];exact hy⟩,
   ⟨hz',Yp.extBut _ _ Z.a1 (hk _ _ D.TIz D.TITO D.TIi1 D.TIi2 hTI),⟨_,_,Yp.extBut _ _ Z.a2 b2⟩,b3.extBut Yp.extBut Z.a3,b4.extBut Yp.extBut Z.a4⟩,λb hb=>?_⟩
  ·simp?[zQ,yF,xV,not_or] at hb;exact Yp.extBut _ _ hb.1 (hk b o hb.1 hb.2.2.1 hb.2.2.2.1 hb.2.2.2.2 q)
  ·have:s.heap.objs.size≠b:=by
    simp?[zQ,yF,xV] at hb;let⟨o1,g1,_⟩:=h1.obj;let⟨o2,g2,_⟩:=h2.obj;rcases hb with rfl|rfl|rfl|rfl|rfl
    ·exact lt hz
    ·exact lt hTI
    ·exact lt hTO
    ·exact lt g1
    ·exact lt g2
   rw[aG (jO this)];exact (hf b hb).1
 done:=by
  intro X hP hw hK hc i pins s σ H E I hf st hg;subst hP hw hK;let⟨xs,ys,YM,YN,hx⟩:=hg;let⟨ajW,rv1,p1,hz1⟩:=YM.src I;let⟨Yd,rv2,p2,hz2⟩:=YN.src I;have D:ZipApart z TI TO i1 i2 l1 l2:=⟨Z.a1,Z.a2,Z.a3,Z.a4,Z.a5,Z.a6,Z.a7,Z.a8,Z.a9,Z.a0,YM.ne I (hf z (by simp)),YM.ne I (hf TO (by simp)),YM.ne I (hf i1 (by simp)),YM.ne I (hf i2 (by simp)),YN.ne I (hf z (by simp)),YN.ne I (hf TO (by simp)),YN.ne I (hf i1 (by simp)),YN.ne I (hf i2 (by simp))⟩
  let⟨hz,hTI,⟨a,b',hTO⟩,h1,h2⟩:=st;have e1:=rv1.length;have e2:=rv2.length;refine adI (I.ok.hd hc) D hz hTI hTO h1 h2 p1 p2 (hx.elim (λq=>.inl (by simp;lia)) λq=>.inr (by simp;lia)) λg hk=>⟨rfl,?_⟩
  refine HP (ch:=[z,TI,TO,i1,i2]) (t':=s.toks) I hf λb o hb q=>?_;simp?[zQ,yF,xV,not_or] at hb;exact hk b o hb.1 hb.2.2.1 hb.2.2.2.1 hb.2.2.2.2 q
 self:=λ_ _ _ _ _ st h=>wpAny_pyIter_zip st.1 h
def OJ(B:vg X "zip" (.type "zip"))(ha:PA X [l,l'] tl)(hs:starEach [l,l'] X.env=(false,eval l X.env)::starEach [l'] X.env)(hs2:(backTo pos (starEach [l'] X.env)).any (·.1)=false) :
  PI X (.Tuple elts k tp) (.Call (.Name "zip" p) [l,l'] [] pos) (λσ H R=>tl σ H λvs H1=>∃a b,vs=[.ref a,.ref b]/\∃c d xs ys,zd X.K c a H1 xs/\zd X.K d b H1 ys/\R (Vm (zd X.K c a) (zd X.K d b)) H1):=by
 intro pins s σ H R I h;refine Call_ (k7 I B.gl B.mg B.bt (qT (cN (ha pos pins s σ H _ I h) λus s1 ⟨vs,H1,I1,r1,q1⟩=>?_) hs hs2));let⟨a,b,e,c,d,xs,ys,YM,YN,q⟩:=q1;subst e;let⟨u,u',rfl,rx,ry⟩:=vals2 r1;cases rx;cases ry;let⟨its,rv,pl,hz⟩:=YM.src I1;let⟨its',rv',pl',hz'⟩:=YN.src I1;refine aaL pl pl' λg b1 b2 b3 b4 b5 kp=>wpAny_pyIter_zip (s:={ s1 with heap:=g }) b1 ?_;refine⟨_,_,_,_,H1,rfl,I1.kept (t':=s1.toks) kp,Iz c d a b (s1.heap.objs.size+4) (s1.heap.objs.size+2) (s1.heap.objs.size+3) s1.heap.objs.size (s1.heap.objs.size+1) ?_,⟨b1,b2,⟨_,_,b3⟩,b4,b5⟩,λc hc=>?_,q⟩
 ·constructor<;>(intro z;have z:(_:Nat)=_:=z;lia)
 ·have hge:s1.heap.objs.size<=c:=by
   simp?[zQ,yF,xV] at hc;rcases hc with rfl|rfl|rfl|rfl|rfl
   ·exact jW _ _
   ·exact jW _ _
   ·exact jW _ _
   ·exact yN _
   ·exact jW _ _
  exact I1.Ys hge (I1.Xi.fresh hge)
def QI:List D->Option (List D):=λds=>match ds with
 | [x,y]=>(hJ x).bind λxs=>(hJ y).map λys=>hZ xs ys
 | _=>none
def Fb{K:W.Frag}(h:hJ d=some xs)(r:Rep K HF d v):∃b a vs,v=.ref a/\zd K b a HF vs/\aC K HF xs vs:=by
 rcases nI h with rfl|rfl
 ·simp?[Rep] at r;let⟨a,vs,rfl,q,rr⟩:=r;exact⟨true,a,vs,rfl,q,rr⟩
 ·simp?[Rep] at r;let⟨a,vs,rfl,q,rr⟩:=r;exact⟨false,a,vs,rfl,q,rr⟩
def cO(fs:Env->Option (List D)):Env->Option (List D):=λρ=>(fs ρ).bind QI
def Pj(B:vg X "zip" (.type "zip"))(hs:starEach [l,l'] X.env=(false,eval l X.env)::starEach [l'] X.env)(hs2:(backTo pos (starEach [l'] X.env)).any (·.1)=false)(h:DA X [l,l'] fs) :
  DI X (.Tuple elts k tp) (.Call (.Name "zip" p) [l,l'] [] pos) (cO fs) :=
 AE (OJ B h hs hs2) λσ H R ⟨HF,ρ,ds,sm,eo,hf,q⟩=>by
  let⟨x,hx,hf⟩:=bs hf;refine⟨HF,ρ,_,sm,eo,hx,λvs H1 Xj g1 r1=>?_⟩;unfold QI at hf;split at hf
  ·let⟨xs,h1,hf⟩:=bs hf;let⟨ys,h2,rfl⟩:=ah hf;let⟨v,r',rfl,a,b⟩:=r1.cons_inv;let⟨v',r'',rfl,a',b'⟩:=b.cons_inv;rw[b'.nil_inv];let⟨c,ad,us,rfl,hq,rr⟩:=Fb h1 a;let⟨c',ad',us',rfl,hq',rr'⟩:=Fb h2 a';exact⟨ad,ad',rfl,c,c',us,us',hq.mono g1.fh,hq'.mono g1.fh,q _ H1 Xj g1 (Kg hq (λ_ _ s h=>h.mono s) hq' (λ_ _ s h=>h.mono s) rr rr')⟩
  ·cases hf
end Dl
namespace Zp
open PySem PyProof.Rows
def XR.ne(x:XR b h it l k)(y:X2 b h l xs):l≠it:=by
 rintro rfl;cases b
 ·let⟨o,e,c,d⟩:=(show h.IsListIter l l k from x)
  let⟨o',e',r⟩:=(show h.IsList l xs from y)
  rw[e] at e';cases e';simp_all
 ·let⟨o,e,c,d⟩:=(show h.IsTupleIter l l k from x)
  let⟨o',e',r⟩:=(show h.IsTuple l xs from y)
  rw[e] at e';cases e';simp_all
def adK(hn:A.handled=none)(b:Bool)(it l:Addr)(xs:Array Value):Draws prog w A it [it,l] xs.size (λi x=>xs[i]?=some x) (λi h=>XR b h it l i/\X2 b h l xs) where
 live:=λi h st=>let ⟨o,e,_⟩:=st.1.obj;⟨o,e⟩
 frame:=λi h h' st k=>⟨st.1.at (k it (by simp)),st.2.at (k l (by simp))⟩
 item:=λi s Q E hi st hQ=>nxt st.1 st.2 (v:=xs[i]) (by simp[hi]) λg e t=>hQ _ g s.toks (by simp[hi]) ⟨e,st.2.extBut t.extBut (st.1.ne st.2)⟩ t
 done:=λs Q E st hE=>abu hn st.1 st.2 (by simp) hE
def aeX{Xq:Bool}{e it l:Addr}{i:Nat}{items:Array Value}{x old:Value}{Q:Option Value->Shared->Prop}(hn:A.handled=none)
  (qe:IsEnum s.heap e it i old) (qi:XR Xq s.heap it l i) (ql:X2 Xq s.heap l items) (ex:items[i]?=some x) (nei:e≠it)
  (kQ:∀g tk,IsEnumOut g e it ((i:Int)+1) x s.heap.objs.size->XR Xq g it l (i+1)->g.get? s.heap.objs.size=some { cls:=.type "tuple",data:=.seq #[.int i tk,x] } ->
   g.objs.size=s.heap.objs.size+1->(∀c o,c≠e->c≠it->s.heap.get? c=some o->g.get? c=some o)->Q (some (.ref s.heap.objs.size)) { s with heap:=g,toks:=tk+1 }) :
  wpAny (model prog w) A (pyNext (.ref e)) Q E s:=by
 have nel:e≠l:=by
  rintro rfl;cases Xq
  ·let⟨o,e1,r⟩:=(show s.heap.IsList e items from ql)
   rw[qe] at e1;cases e1;simp at r
  ·let⟨o,e1,r⟩:=(show s.heap.IsTuple e items from ql)
   rw[qe] at e1;cases e1;simp at r
 have D:Draws prog w A.in1 it [it,l] items.size (λi x=>items[i]?=some x) (λi h=>XR Xq h it l i/\X2 Xq h l items):=adK (A:=A.in1) hn Xq it l items;refine wpAny_pyNext_enum_itemD D qe ⟨qi,ql⟩ (Array.getElem?_eq_some_iff.mp ex).1 nei (by simp[nei,nel]) λy g tk hy a b c d k=>?_;rw[ex] at hy;cases hy;exact kQ g tk a b.1 c d k
end Zp
namespace Dl
open PySem L2 PySem.Spec PyProof.Rows Zp
def ud{K:W.Frag}(b:Bool)(a it e:Addr)(hei:e≠it):Turn P w K (.Tuple elts k pos) (VE (zd K b a)) [e,it] e (λi h=>(∃old,IsEnum h e it i old)/\XR b h it a i) where
 mem:=by simp
 obj:=λi h st c hc=>by
  let⟨⟨old,he⟩,hi⟩:=st;rcases List.mem_cons.mp hc with z|z
  ·subst z;exact⟨_,he,λv q=>by have q:Data.fields _=Data.cell v:=q;cases q⟩
  ·rw[List.mem_singleton.mp z];exact hi.obj
 keep:=λi h h' st kk=>⟨let ⟨old,he⟩:=st.1;⟨old,kk e (by simp) _ he⟩,st.2.at λo q=>kk it (by simp) o q⟩
 item:=by
  intro X hP hw hK hc i pins s σ H E I hf st hg;subst hP hw hK;let⟨xs,x,hq,hx⟩:=hg;let⟨its,rv,p,hz⟩:=hq.src I;let⟨u,hu,ru⟩:=rv.get hx;let⟨⟨old,he⟩,hi⟩:=st;refine aeX (I.ok.hd hc) he hi p (x:=u) (by simpa using hu) hei λg tk b1 b2 b3 b4 hk=>⟨.ref s.heap.objs.size,rfl,?_⟩
  have lt:∀ {c:Addr}{o:Obj},s.heap.get? c=some o->s.heap.objs.size≠c:=λe=>jJ (zY e);have hte:s.heap.objs.size≠e:=lt he;refine wpAny_letOwnedTupleGo_enum (s:={ s with heap:=g,toks:=tk+1 }) b1 λg' he' Yp=>?_;have b3':g'.get? s.heap.objs.size=some { cls:=.type "tuple",data:=.seq #[.int i tk,u] }:=Yp.extBut _ _ hte b3;have ht:tI g' s.heap.objs.size (List.toArray [Value.int (i:Nat) tk,u]):=⟨⟨_,b3',rfl,_,rfl⟩,_,b3',rfl⟩
  refine⟨.ref s.heap.objs.size,_,CP (ch:=[e,it]) (xs:=[.int (i:Nat),x]) (t':=tk+1) I hf (λc o hb q=>?_) (yN _) ht (.cons ⟨_,rfl⟩ (.cons ru .nil)) (by show 2<=sizeLine;decide),rfl,
   ⟨s.heap.objs.size,x,rfl,I.fresh,rfl,λzs hzs=>by rw[hzs.inj I hq];exact hx⟩,⟨⟨_,he'⟩,b2.extBut Yp.extBut (jO hei)⟩,λc Ym=>?_⟩
  ·simp?[zQ,yF,xV,not_or] at hb;exact Yp.extBut _ _ hb.1 (hk c o hb.1 hb.2 q)
  ·have:s.heap.objs.size≠c:=by
    simp?[zQ,yF,xV] at Ym;let⟨o1,g1,_⟩:=hi.obj;rcases Ym with rfl|rfl
    ·exact lt he
    ·exact lt g1
   rw[aG (jO this)];exact (hf c Ym).1
 done:=by
  intro X hP hw hK hc i pins s σ H E I hf st hg;subst hP hw hK;let⟨xs,hq,hx⟩:=hg;let⟨its,rv,p,hz⟩:=hq.src I;have hh:X.A.in1.handled=none:=I.ok.hd hc;have hl:=rv.length;let⟨⟨old,he⟩,hi⟩:=st;have hT:s.TypeIs (.ref e) "enumerate":=⟨_,he,rfl⟩
  unfold pyNext;refine zV (vA (qD (name:=Str.ofString "__next__") hT F.slot_enumerate_next (qX F.slot_enumerate_next hT F.entry_enumerate_next ?_ (F.args_enumerate_next_1 _))));refine zV (m:=field (.ref e) 2) (qU he rfl (x:=.ref it) rfl ?_);refine zV (abu hh hi p (by simp;lia) λh1 x k1 hx1=>?_);let⟨o,ho,hc1⟩:=hx1;refine zV (wpAny_isInstance (T:="StopIteration") (b:=true) ⟨o,ho,hc1⟩ isSubtype_stop (zW ⟨rfl,?_⟩));let⟨f0,f1,f2,f3,f4,f5⟩:=hf it (by simp);exact I.turned (t':=s.toks) (λb o hb q=>k1 b o hb q) f0 f1 f3 f4 f5
 self:=λ_ _ _ _ _ st h=>let ⟨_,he⟩:=st.1;Zk he h
def N1(B:vg X "enumerate" (.type "enumerate"))(ha:PA X [l] tl)(hs:starEach [l] X.env=[(false,eval l X.env)]):PI X (.Tuple elts k tp) (.Call (.Name "enumerate" p) [l] [] pos) (λσ H R=>tl σ H λvs H1=>∃a,vs=[.ref a]/\∃b xs,zd X.K b a H1 xs/\R (VE (zd X.K b a)) H1):=by
 intro pins s σ H R I h;refine Call_ (k7 I B.gl B.mg B.bt (qT (cN (ha pos pins s σ H _ I h) λus s1 ⟨vs,H1,I1,r1,q1⟩=>?_) hs rfl));let⟨a,e,b,xs,hq,q⟩:=q1;subst e;let⟨u,rfl,rx⟩:=vals1 r1;cases rx;have fresh:∀b∈[s1.heap.objs.size+1,s1.heap.objs.size],dz X pins H1 b:=λb hb=>by
  rcases List.mem_cons.mp hb with z|z
  ·subst z;exact I1.Ys (Nat.le_succ _) (I1.Xi.fresh (Nat.le_succ _))
  ·cases List.mem_singleton.mp z;exact I1.Ys (yN _) I1.fresh
 let⟨its,rv,pl,hz⟩:=hq.src I1;cases b with
 | false =>
  refine call_enumerate_list pl λh' he hit ZR kp=>Zk (s:={ s1 with heap:=h' }) he ?_;exact⟨_,_,_,_,H1,rfl,I1.kept (t':=s1.toks) kp,ud false a s1.heap.objs.size (s1.heap.objs.size+1) (Nat.succ_ne_self _),⟨⟨_,he⟩,hit⟩,fresh,q⟩
 | true =>
  refine En.ZC (show s1.heap.IsTuple a its.toArray from pl) λh' he hit ZR kp=>Zk (s:={ s1 with heap:=h' }) he ?_;exact⟨_,_,_,_,H1,rfl,I1.kept (t':=s1.toks) kp,ud true a s1.heap.objs.size (s1.heap.objs.size+1) (Nat.succ_ne_self _),⟨⟨_,he⟩,hit⟩,fresh,q⟩
def bQ(fs:Env->Option (List D)):Env->Option (List D):=λρ=>(fs ρ).bind λds=>(fy ds).map (bP 0)
def OI(B:vg X "enumerate" (.type "enumerate"))(h:DA X [l] fs)(hs:starEach [l] X.env=[(false,eval l X.env)]):DI X (.Tuple elts k tp) (.Call (.Name "enumerate" p) [l] [] pos) (bQ fs) :=
 AE (N1 B h hs) λσ H R ⟨HF,ρ,ds,sm,eo,hf,q⟩=>by
  let⟨x,hx,hf⟩:=bs hf;let⟨es,h1,rfl⟩:=ah hf;let⟨d,h0,h1⟩:=bs h1;rw[iw h0] at hx;refine⟨HF,ρ,_,sm,eo,hx,λvs H1 Xj g1 r1=>?_⟩;let⟨v,r',rfl,a,b⟩:=r1.cons_inv;rw[b.nil_inv];let⟨c,ad,us,rfl,hq,rr⟩:=Fb h1 a;exact⟨ad,rfl,c,us,hq.mono g1.fh,q _ H1 Xj g1 (HD hq (λ_ _ s h=>h.mono s) rr)⟩
end Dl
namespace Srt
open PySem PySem.W PySem.Calls PyProof.Rows L2
def dz.at(h:dz X pins H b)(e:H' b=none):dz X pins H' b:=⟨e,h.2⟩
def Yq{g:Array Value->Array Value}(I:Inv X pins σ H s)(f:dz X pins H b):Inv X pins σ H { s with heap:=s.heap.update b (Obj.mapSeq g) }:=by
 let⟨f0,f1,f2,f3,f4,f5⟩:=f;exact I.turned (t':=s.toks) (h':=s.heap.update b (Obj.mapSeq g)) (λc o hc e=>(xO _ _ (jO hc)).trans e) f0 f1 f3 f4 f5
def ZY(I:Inv X (pins++qp fp h) σ H' s')(hb:b∈fp)(e:h.get? b=some o):s'.heap.get? b=some o/\H' b=none :=
 let q:=I.pin (b,o) (yE _ (yE _ (fK hb e)));⟨q.1,q.2.1⟩
def ZF(I:Inv X pins σ H s)(ho:s.heap.get? a=some (seqObj "list" vs.toArray n))(fa:dz X pins H a)(h64:vs.length < 64)
  (J:List Value->Hp->Prop) (j0:J [] H)
  (step:∀us v,vs[us.length]?=some v->∀pl s' H',Inv X (pins++pl) σ H' s'->J us H'->wpAny (model X.prog X.w) A (call f [v]) (λu YA=>∃H'',Inv X (pins++pl) σ H'' YA/\J (us++[u]) H'') (λ_ _=>False) s')
  (fin:∀us H',us.length=vs.length->J us H'->∃ (z:Nat->Int) (κ:SortKind),(2<=vs.length->∀s',Inv X pins σ H' s'->(∀Q':SortKind->Shared->Prop,Q' κ s'->wpAny (model X.prog X.w) A (keyKind' us.toArray) Q' (λ_ _=>False) s') /\
    ∀i j C,i < vs.length->j < vs.length->C (SP.fT z i j) s'->kas_ask X.prog X.w A κ us i j C s') /\
   ∀s' c,Inv X pins σ H' s'->dz X pins H' a->s'.heap.get? a=some (seqObj "list" (Xs z vs).toArray c)->P (.done (.ret .none)) s') :
  wpAny (model X.prog X.w) A (ksk_tree a f false) P E s:=by
 have Zz:vs.length<=sizeLine:=by rw[qV];lia
 unfold ksk_tree;refine zV (vV ho rfl ?_);refine zV (kE ho rfl ?_ (by simpa using Zz) (xW _));obtain⟨e1,ho1⟩:∃e,(s.heap.update a (Obj.mapSeq λ_=>(#[]:Array Value))).get? a=some (seqObj "list" #[] e):=⟨_,kH ho λ_=>#[]⟩
 have I1:=Yq (g:=λ_=>(#[]:Array Value)) I fa;refine zV (seqEpoch_at ho1 rfl ?_);refine zV (wpAny_newTuple ?_ (by simpa using Zz));refine zV (kZ ?_ (xW _));refine xY ?_;have ho3:(((s.heap.update a (Obj.mapSeq λ_=>(#[]:Array Value))).push (seqObj "tuple" vs.toArray 0)).push (seqObj "list" #[] 0)).get? a=some (seqObj "list" #[] e1):=zU _ (zU _ ho1);have hk3:(((s.heap.update a (Obj.mapSeq λ_=>(#[]:Array Value))).push (seqObj "tuple" vs.toArray 0)).push (seqObj "list" #[] 0)).get? ((s.heap.update a (Obj.mapSeq λ_=>(#[]:Array Value))).push (seqObj "tuple" vs.toArray 0)).objs.size=some (seqObj "list" #[] 0):=zX _ rfl;have I3:=(I1.kept (t':=s.toks) (h':=((s.heap.update a (Obj.mapSeq λ_=>(#[]:Array Value))).push (seqObj "tuple" vs.toArray 0)).push (seqObj "list" #[] 0)) λb o e=>zU _ (zU _ e))
 have I2:=(I1.kept (t':=s.toks) (h':=(s.heap.update a (Obj.mapSeq λ_=>(#[]:Array Value))).push (seqObj "tuple" vs.toArray 0)) λb o e=>zU _ e)
 have fk:dz X pins H ((s.heap.update a (Obj.mapSeq λ_=>(#[]:Array Value))).push (seqObj "tuple" vs.toArray 0)).objs.size:=I2.Ys (yN _) (I2.Xi.fresh (yN _));have hka:((s.heap.update a (Obj.mapSeq λ_=>(#[]:Array Value))).push (seqObj "tuple" vs.toArray 0)).objs.size≠a:=by
  have Xw:=zY ho1;rw[xK];exact jJ (jP Xw)
 show wpAny _ A _ P E { s with heap:=((s.heap.update a (Obj.mapSeq λ_=>(#[]:Array Value))).push (seqObj "tuple" vs.toArray 0)).push (seqObj "list" #[] 0) };generalize ((s.heap.update a (Obj.mapSeq λ_=>(#[]:Array Value))).push (seqObj "tuple" vs.toArray 0)).objs.size=kS at hk3 fk hka;generalize e3:({ s with heap:=((s.heap.update a (Obj.mapSeq λ_=>(#[]:Array Value))).push (seqObj "tuple" vs.toArray 0)).push (seqObj "list" #[] 0) }:Shared)=s3 at I3;have ho3:s3.heap.get? a=some (seqObj "list" #[] e1):=by rw[<- e3];exact ho3
 have hk3:s3.heap.get? kS=some (seqObj "list" #[] 0):=by rw[<- e3];exact hk3
 clear e3 I2 I1 ho1 ho;unfold ksk_rest;refine zV (wX ?_)
 first
  | rw[List.forIn_toArray]
  | (rw[<- Array.forIn_toList];simp?[List.toList_toArray])
  | rw[<- Array.forIn_toList]
 refine zV (ksk_fold (λi s'=>∃us H' e,us.length=i/\Inv X pins σ H' s'/\H' a=none/\H' kS=none/\s'.heap.get? a=some (seqObj "list" #[] e1)/\s'.heap.get? kS=some (seqObj "list" us.toArray e)/\J us H') vs 0 s3
  ⟨[],H,0,rfl,I3,fa.1,fk.1,ho3,hk3,j0⟩ ?step ?done)
 case step =>
  rintro j x s' hx ⟨us,H',e,hu,I',ha',Yo,hoa,Xi,j'⟩;have hu:us.length=j:=by lia
  have hj:j < vs.length:=(List.getElem?_eq_some_iff.mp hx).1;have Ip:=I'.pinned (fp:=[a,kS]) (λb hb=>by
   rcases List.mem_cons.mp hb with rfl|hb
   ·exact dz.at fa ha'
   ·rw[List.mem_singleton.mp hb];exact dz.at fk Yo) (λb hb=>by
   rcases List.mem_cons.mp hb with rfl|hb
   ·exact⟨_,hoa,λv z=>by cases z⟩
   ·rw[List.mem_singleton.mp hb];exact⟨_,Xi,λv z=>by cases z⟩)
  refine zV (vA (xB (step us x (by rw[hu];exact hx) _ s' H' Ip j') (λu YA he=>?_) λ_ _ hF=>hF.elim));let⟨H'',I'',j''⟩:=he
  try dsimp only
  let⟨ga,na⟩:=ZY I'' (b:=a) zE hoa;let⟨gk,nk⟩:=ZY I'' (b:=kS) (zC _ zE) Xi;have I4:=I''.XF;obtain⟨c2,Z8⟩:∃c2,(YA.heap.update kS (Obj.mapSeq (·.push u))).get? kS=some (seqObj "list" (us.toArray.push u) c2):=⟨_,kH gk (·.push u)⟩
  refine zV (kE gk rfl ?_ (by rw[zH,qV];lia) (yD (Nat.le_of_eq (Array.size_push ..)) (by rw[zH,qV];lia)));refine zW ⟨rfl,us++[u],H'',c2,by rw[zN,hu];simp,Yq I4 (dz.at fk nk),na,nk,(xO _ _ hka).trans ga,?_,j''⟩;rw[Z8];simp
 case done =>
  rintro s' ⟨us,H',e,hu,I',ha',Yo,hoa,Xi,j'⟩;have hu:us.length=vs.length:=by lia
  try dsimp only
  refine zV (vV Xi rfl ?_);let⟨z,κ,hz,hP⟩:=fin us H' hu j';have last:∀XX:SortSt,(arrOf XX).map (·.2)=(Xs z vs).toArray->failedOf XX=none->wpAny (model X.prog X.w) A (ksk_tail a false e1 (.ref kS) XX) P E s':=λXX h1 h2=>by
   unfold ksk_tail
   try dsimp only
   rw[h1,h2];have na1:(s'.heap.update kS (Obj.mapSeq λ_=>(#[]:Array Value))).get? a=some (seqObj "list" #[] e1):=(xO _ _ hka).trans hoa;have I5:=Yq (g:=λ_=>(#[]:Array Value)) I' (dz.at fk Yo);have I6:=Yq (s:={ s' with heap:=s'.heap.update kS (Obj.mapSeq λ_=>(#[]:Array Value)) }) (g:=λ_=>(Xs z vs).toArray) I5 (dz.at fa ha');refine zV (kE Xi rfl ?_ (by rw[zH,qV];lia) (xW _));refine zV (wpAny_letGo ?_);refine zV (seqEpoch_at na1 rfl ?_);refine zV (kE na1 rfl ?_ (xW _) (by
    simp?[yP,qQ];show (Xs z vs).toArray.size<=_;rw[zH,Y3];lia))
   obtain⟨c,hc⟩:∃c,((s'.heap.update kS (Obj.mapSeq λ_=>(#[]:Array Value))).update a (Obj.mapSeq λ_=>(Xs z vs).toArray)).get? a=some (seqObj "list" (Xs z vs).toArray c):=⟨_,kH na1 λ_=>(Xs z vs).toArray⟩
   simp?[bne_self_eq_false,yP,qQ];exact zW (hP _ c I6 (dz.at fa ha') hc)
  unfold ksk_end
  try dsimp only
  simp?[yP,qQ];by_cases h2:vs.toArray.size < 2
  ·rw[yM h2,yM h2];refine zV (zW ?_);rw[StateT.run_pure];refine zV (zW (last _ ?_ rfl));have h2':vs.length < 2:=by simpa using h2
   unfold Xs;rw[yM h2'];show ((us.toArray.zip vs.toArray).map (·.2))=vs.toArray;apply Array.toList_inj.mp;simp?[Array.toList_map,Array.toList_zip];exact List.map_snd_zip (by rw[hu];exact yN _)
  ·rw[yO h2,yO h2];have h2':2<=vs.length:=by
    have:¬ vs.length < 2:=by simpa using h2
    lia
   let⟨hk,Xw⟩:=hz h2' s' I';refine zV (xB (hk (λκ' YA=>κ'=κ/\YA=s') ⟨rfl,rfl⟩) (λκ' YA hs=>?_) λ_ _ x=>x.elim);let⟨rfl,rfl⟩:=hs;refine zV (xB (kat_run (Q:=λXX s2=>s2=YA/\(arrOf XX).map (·.2)=(Xs z vs).toArray/\failedOf XX=none) (G:=λp s2=>s2=YA/\p=SP.run (SP.fT z) (kas_sort vs.length))
    hu h2' h64 (λp XX s2 a1 a2 a3 a4=>⟨a4.1,?_,a3⟩) (SP.wp_run Xw (kas_sort vs.length) (SP.J7 (by lia)) ⟨rfl,rfl⟩)) ?_ λ_ _ e=>e)
   ·rw[kat_snds hu a2,a4.2];unfold Xs;rw[yO (by lia)]
   ·rintro⟨⟨⟩,XX⟩ s2 ⟨hs,h4,h5⟩;subst hs;exact last XX h4 h5
def sortedK{l:Value}{f:Addr}{Q:Value->Shared->Prop}(I:Inv X pins σ H s)(h64:vs.length < 64)
  (aj1:∀ {Q':List Value->Shared->Prop},(∀h':Heap,(∀b o,s.heap.get? b=some o->h'.get? b=some o)->Q' vs { s with heap:=h' })->wpAny (model X.prog X.w) A.in1 (collect l) Q' E s)
  (J:List Value->Hp->Prop) (j0:J [] H)
  (step:∀us v,vs[us.length]?=some v->∀pl s' H',Inv X (pins++pl) σ H' s'->J us H'->wpAny (model X.prog X.w) A.in1.in1 (call (.ref f) [v]) (λu YA=>∃H'',Inv X (pins++pl) σ H'' YA/\J (us++[u]) H'') (λ_ _=>False) s')
  (fin:∀us H',us.length=vs.length->J us H'->∃ (z:Nat->Int) (κ:SortKind),(2<=vs.length->∀s',Inv X pins σ H' s'->(∀Q':SortKind->Shared->Prop,Q' κ s'->wpAny (model X.prog X.w) A.in1.in1 (keyKind' us.toArray) Q' (λ_ _=>False) s') /\
    ∀i j C,i < vs.length->j < vs.length->C (SP.fT z i j) s'->kas_ask X.prog X.w A.in1.in1 κ us i j C s') /\
   ∀s' D c,Inv X pins σ H' s'->dz X pins H' D->s'.heap.get? D=some (seqObj "list" (Xs z vs).toArray c)->Q (.ref D) s') :
  wpAny (model X.prog X.w) A (call (.builtin "sorted") [l] [(Str.ofString "key",.ref f)]) Q E s:=by
 have Zz:vs.length<=sizeLine:=by rw[qV];lia
 refine call_function_entry_kw kind_sorted plain_sorted entry_sorted (ksk_s1 _ _) ?_;unfold Builtin.«sorted»;refine zV (m:=checkCount "sorted" 1 1 _) (zW (zV (aj1 λh1 kp=>?_)));refine zV (kZ ?_ (by simpa using Zz));have I1:=I.kept (t':=s.toks) kp;have fD:dz X pins H h1.objs.size:=I1.Ys (yN _) (I1.Xi.fresh (yN _));have hoD:(h1.push (seqObj "list" vs.toArray 0)).get? h1.objs.size=some (seqObj "list" vs.toArray 0):=zX _ rfl;have I2:=I1.kept (t':=s.toks) (h':=h1.push (seqObj "list" vs.toArray 0)) λb o e=>zU _ e;show wpAny _ _ _ _ _ { s with heap:=h1.push (seqObj "list" vs.toArray 0) };refine zV (xY (wpAny_call_entry_kw slot_list_sort ⟨_,hoD,rfl⟩ entry_list_sort ?body (ksk_l1 _ _)))
 case body =>
  show wpAny (model X.prog X.w) A.in1.in1 (Builtin.«list.sort» ⟨[.ref h1.objs.size],[(Str.ofString "key",.ref f)]⟩) _ _ _;rw[ksk_t1];refine ZF I2 hoD fD h64 J j0 step λus H' hu j'=>?_;let⟨z,κ,hz,hP⟩:=fin us H' hu j';exact⟨z,κ,hz,λs' c I' f' e=>⟨_,rfl,zW ⟨_,rfl,hP s' _ c I' f' e⟩⟩⟩
end Srt
namespace Dl
open PySem L2 PySem.Spec PyProof.Rows
def _root_.L2.Inv.aeZ(I:Inv X pins σ H s)(f:dz X pins H b)(ho:f9 X.prog X.w (upd H b o) s.heap b o):Inv X pins σ (upd H b o) s:=by
 let⟨f0,f1,f2,f3,f4,f5⟩:=f;have up:∀c u,H c=some u->upd H b o c=some u:=λc u e=>by rw[aG (ba e f0)];exact e
 refine⟨I.ok,I.os,I.bare,⟨I.base.keep,I.base.slot,λc oc e n hx=>?_,I.base.there,λc xs e=>up c _ (I.base.Yc c xs e),λc oc u e=>up c _ (I.base.X4 c oc u e),⟨λc u e t=>up c u (I.base.XW.st c u e t),I.base.XW.gr⟩⟩,I.loc,I.cell,?_,λx c e=>?_,λp hp=>?_,λc u e=>?_,I.len⟩
 ·have XA:c≠b:=λz=>by
   rcases f3 with g|g
   ·exact hx (z ▸ g)
   ·exact absurd (zP (zY e) (z ▸ g)) (qF _)
  rw[aG XA];exact I.base.free c oc e n hx
 ·rw[aG (jO f1)];exact I.free
 ·rw[aG (f4 x c e)];exact I.Xo x c e
 ·let⟨e,n,r⟩:=I.pin p hp;exact⟨e,by rw[aG (f5 p hp)];exact n,r⟩
 ·by_cases hc:c=b
  ·subst hc;rw[aO] at e;cases e;exact ho
  ·rw[aG hc] at e;exact (I.Xi c u e).XU (λd w _ q=>q) (λd q=>up d _ q) λd w q _=>up d _ q
def BV(scope:Scope)(N':List Str)(p:Str):Bool:=scope.names.all (λq=>!decide (q.2=NameKind.cell))&&decide (N'[0]?=some p)&&decide (scope.names.lookup p=some .local)&&decide (scope.isCoroutine=false)&&decide (scope.isGenerator=false)
section
def RQ(C:Bk X N sc (k+3))(hA:ft (k+1) A)(hk:scope.kind=.function)(YS:N'.Nodup)(hl:BV scope N' p=true):Bk (nu X A qual scope N' f c s H) N' scope k where
 n:=rfl
 nd:=YS
 tb:=λx kd hx=>.inl hx
 calm:=rfl
 fn:=λx hx=>by
  unfold BV at hl;simp?[zF,xH,yQ,xC] at hl;exact absurd rfl (hl.1.1.1.1 _ (mem_of_lookup hx))
 room:=hA.deeper _
 xe:=rfl
 kd:=hk
structure Cr(X:Cx)(qual:Str):Prop where
 ex:∃c P,X.env.code=.ref c/\X.env.qual++"<lambda>"=qual/\W.codeHdIn X.K c P=true/\∀HF,fA X.K HF->HF P=some (.tab qual)
def nv(te:Env->Option D)(ρ:Env):List D->Option (List D)
 | []=>some []
 | d::ds=>(te (ρ.set 0 (some d))).bind λx=>(nv te ρ ds).map (x::·)
def y0:∀ {ds ks:List D},nv te ρ ds=some ks->ks.length=ds.length
 | [],ks,h=>by cases h;rfl
 | d'::ds,ks,h=>by
  unfold nv at h;let⟨y,h1,h⟩:=bs h;let⟨ys,h2,rfl⟩:=ah h;simp[y0 h2]
def CJ:∀ {ds ks:List D}{i:Nat}{d:D},nv te ρ ds=some ks->ds[i]?=some d->∃x,te (ρ.set 0 (some d))=some x/\ks[i]?=some x
 | [],ks,i,d,h,e=>by simp at e
 | d'::ds,ks,i,d,h,e=>by
  unfold nv at h;let⟨y,h1,h⟩:=bs h;let⟨ys,h2,rfl⟩:=ah h;cases i with
  | zero=>simp at e;subst e;exact⟨y,h1,rfl⟩
  | succ i=>let⟨x,a,b⟩:=CJ h2 (by simpa using e);exact⟨x,a,by simpa using b⟩
def qm(cs:List Nat)(fl te:Env->Option D):Env->Option (List D):=λρ=>(fl ρ).bind λl=>match l with
 | .list ds=>(nv te (gH 1 cs ρ) ds).bind λks=>(intsOf ks).bind λzs=>if ds.length < 64 then some (Bz (λi=>zs.getD i 0) ds .none) else none
 | _=>none
def Mg{K:W.Frag}{cs:List Nat}(eo:du K HF ρ σ)(r:Rep K HF d v):du K HF ((gH 1 cs ρ).set 0 (some d)) ((l5 1 cs σ).set 0 (some v)):=ke (GC eo) r
def oI{K:W.Frag}:∀ {ks:List D}{zs:List Int}{X0:List V}{us:List Value},intsOf ks=some zs->aC K HF ks X0->aS X0 us->IntsAre us zs
 | [],zs,X0,us,h,r,v=>by
  cases h;rw[r.nil_inv] at v;cases v;exact .nil
 | d::ks,zs,X0,us,h,r,v=>by
  cases d<;>simp?[intsOf] at h<;>try cases h
  rename_i i;let⟨ys,h2,rfl⟩:=ah h;let⟨w,ws,rfl,a,b⟩:=r.cons_inv;simp?[Rep] at a;subst a;cases v with
  | cons r1 r2 =>
   let⟨t,rfl⟩:=r1;exact .cons i t (oI h2 b r2)
def lq:∀ {us:List Value}{zs:List Int}{i:Nat},IntsAre us zs->i < us.length->∃t,us.getD i Value.none=.int (zs.getD i 0) t
 | _,_,i,.nil,h=>by simp at h
 | _,_,0,.cons n t r,h=>⟨t,rfl⟩
 | _,_,i+1,.cons n t r,h=>by
  let⟨t',e⟩:=lq (i:=i) r (by simpa using h);exact⟨t',by simpa using e⟩
variable {fl te:Env->Option D}{cs:List Nat}
def Bk.ae0(C:Bk X N sc (k+3))(B:vg X "sorted" (.builtin "sorted"))(L:Cr X qual)(ok:qk sc scope N N' 1 cs=true)(hl:BV scope N' p=true)
  (hb:∀ (cl:List (Str×Addr)) (pm Y2 u:Value) (c:Addr),bindArgs (W.kla_fn "<lambda>" qual params body scope cl pm (.ref c) Y2) ⟨[u],[]⟩=pure [(p,u)]) (adz:defaultsOf params X.env=([],[])) (h:DE X l fl)
  (hY:∀A f c s H,Bk (nu X A qual scope N' f c s H) N' scope k->DE (nu X A qual scope N' f c s H) body te)
  (YQ:starEach [l] X.env=(false,eval l X.env)::starEach [] X.env) (he:backTo pos (starEach [l] X.env)=(false,eval l X.env)::backTo pos (starEach [] X.env)) (Yb:(backTo pos (starEach [l] X.env)).any (·.1)=false) :
  DF X (.Call (.Name "sorted" p0) [l] [⟨some "key",.Lambda params body scope Yu,adM⟩] pos) (qm cs fl te):=by
 let⟨S,_⟩:=C.comp ok;have YS:N'.Nodup:=by
  unfold qk at ok;simp?[zF,zJ] at ok;exact ok.2
 have hl':=hl;unfold BV at hl';simp?[zF,xH,yQ,xC,zJ] at hl';obtain⟨⟨⟨⟨hnc,hN0⟩,hp⟩,hco⟩,adx⟩:=hl';let⟨cc,P,ZW,ae1,hhd,gJ⟩:=L.ex;intro pins s σ H Q I ⟨HF,ρ,out,sm,eo,hf,q⟩;let⟨ld,hld,hf⟩:=bs hf;cases ld<;>try cases hf
 rename_i ds;let⟨ks,hks,hf⟩:=bs hf;let⟨zs,hzs,hf⟩:=bs hf;split at hf<;>cases hf;rename_i h64;refine qZ (k7 I B.gl B.mg B.bt ?_ (by decide) (by decide));refine PyProof.Rows.callWith_kw (e:=l) (rest:=[]) (kws:=[⟨some "key",.Lambda params body scope Yu,adM⟩]) ?_ he Yb rfl rfl;refine cN (Gx h Lj YQ pos pins s σ H _ I ⟨HF,ρ,[.list ds],sm,eo,by simp[aa,ag,hld],λvs H1 Xj g1 r1=>(⟨Xj,g1,r1⟩:∃Xj,b9 HF H Xj H1/\aC X.K Xj [.list ds] vs)⟩) λus s1 ⟨vs,H1,I1,rv,Xj,g1,r1⟩=>?_;let⟨v,vr,rfl,a1,b1⟩:=r1.cons_inv;rw[b1.nil_inv] at rv;let⟨u,rfl,rx⟩:=vals1 rv;simp?[Rep] at a1;let⟨la,ws,rfl,hq,rr⟩:=a1;cases rx;have hT1:H1 P=some (.tab qual):=g1.fh _ _ (gJ Xj (eo.tb.mono g1.ff));show wpAny _ _ (evalAll ((do let v <- eval (.Lambda params body scope Yu) X.env;standAt pos;pure v)::[])) _ _ s1;refine wpAny_evalAll_cons (zV ?_);refine Mn (P:=P) I1 S ae1 ZW (W.codeHd_of_K I1.ok.mod.kin hhd) hT1 I1.ok.mod.bmd adz λf c' pm Y2 s2 H2 I2 hfo hfn ady s12 fp2 _=>?_;refine zV (vM (zW (wpAny_evalAll_nil ?_)));show wpAny _ _ (call (.builtin "sorted") [.ref la] [(Str.ofString "key",.ref f)]) _ _ s2;have Ip:=I2.pinned (fp:=[f]) (λb hb=>by rw[List.mem_singleton.mp hb];exact fp2) (λb hb=>by rw[List.mem_singleton.mp hb];exact⟨_,hfo,λv z=>by cases z⟩);have g2:b9 Xj H1 Xj H2:=⟨s12,.refl _,g1.fh.trans s12,λ_ _ e=>.inl e⟩
 let⟨its,rvi,pl,hz⟩:=Ip.list (s12.seq (g1.fh.seq hq));have hlen:its.length=ds.length:=by rw[<- rvi.length,rr.length]
 have hkl:=y0 hks;have hR:ft (k+1) X.A.in1.in1:=C.room.in1.in1;refine Srt.sortedK (vs:=its) Ip (by lia) (λ{Q'} hQ=>?_) (λus H'=>∃Xh X0,b9 Xj H2 Xh H'/\aC X.K Xh (ks.take us.length) X0/\aS X0 us) ⟨Xj,[],.refl g2.fh,by simpa using aC.nil,.nil⟩ (λus x hx pl' s3 H3 I3 ⟨X1,X0,g3,rk,rvk⟩=>?_) λus H3 hu ⟨X1,X0,g3,rk,rvk⟩=>?_
 ·refine collect_list pl.isList (hQ _ λb o e=>?_) (by rw[qV];lia);exact (xO _ _ (jJ (zY e))).trans (zU _ e)
 ·have hi:us.length < its.length:=(List.getElem?_eq_some_iff.mp hx).1;obtain⟨w,hw⟩:∃w,ws[us.length]?=some w:=⟨_,zK (by rw[rvi.length];exact hi)⟩
  let⟨x',hx',rw'⟩:=rvi.get hw;rw[hx] at hx';cases hx';let⟨d,hd,rd⟩:=rr.get hw;let⟨kd,hkd,hki⟩:=CJ hks hd;have aj5:s3.heap.get? f=some (W.kla_obj "<lambda>" qual params body scope (gm X.env scope.names []) pm c' Y2) :=
   (I3.pin (f,_) (yE _ (qK _ (yE _ (fK zE hfo))))).1
  refine xB (Ms (Q:=λv H4=>∃YR,b9 X1 H3 YR H4/\Rep X.K YR kd v) (te:=tD X.K te) I3 hR I3.ok.frames S hnc hN0 hp YS hco adx aj5 (g3.hh _ _ ady) (hb _ _ _ _ _) rw' (hY _ _ _ _ _ (RQ C hR S.kind YS hl))
   ⟨X1,_,kd,g3.fh,Mg (eo.mono (g1.ff.trans g3.ff)) (rd.mono g3.ff),hkd,λv H4 YR g4 r4=>⟨YR,g4,r4⟩⟩) (λu s4 ⟨v4,H4,I4,r4,YR,g4,rp⟩=>⟨H4,I4,YR,X0++[v4],g3.trans g4,?_,rvk.append (.cons r4 .nil)⟩) λ_ _ e=>e
  rw[zN,xD,List.take_add_one,hki];exact (rk.mono g4.ff).append (aC.cons rp aC.nil)
 ·have Yo:ks.take us.length=ks:=kO (by lia);rw[Yo] at rk;have ia:=oI hzs rk rvk;refine⟨λi=>zs.getD i 0,oneType',λh2 s3 I3=>⟨λQ' q'=>?_,λi j Cc hi hj q'=>?_⟩,λs3 Dn c I3 fD e=>?_⟩
  ·rw[PyProof.Rows.ksk_kind (keys:=us.toArray) (kz:=zs) (by simpa using ia) (by simpa [hu] using h2)];exact zW q'
  ·let⟨t1,e1⟩:=lq ia (i:=i) (by lia);let⟨t2,e2⟩:=lq ia (i:=j) (by lia);unfold W.kas_ask;rw[e1,e2];exact W.kat_lt_int q'
  ·have hv:=BI (λi=>zs.getD i 0) rvi;have hr:=C8 (λi=>zs.getD i 0) rr;have hnD:H3 Dn=none:=fD.1;have I4:=Inv.aeZ (o:=.lst (Bz (λi=>zs.getD i 0) ws .Xe)) I3 fD ⟨by rw[(n6 _ _ _).length_eq];exact hz,_,c,hv,e⟩;have G:=(g1.trans g2).trans g3;refine⟨.ref Dn,_,I4.XF,rfl,q Dn _ _ X1 (G.trans (.own G.fh hnD)) (G.hh.free hnD) (G.fh.free hnD) aO (hr.mono g3.ff)⟩
end
end Dl
namespace Srt
open PySem PySem.W PySem.Calls PyProof.Rows L2
end Srt
namespace Dl
open PySem L2 PySem.Spec PyProof.Rows
section
variable {cs:List Nat}
end
def VY(i j l:Nat):Env->D->Option Env:=λρ d=>match d with
 | .tuple [x,y,z]=>if isFree ρ i=true/\isFree ρ j=true/\isFree ρ l=true then some (((ρ.set i (some x)).set j (some y)).set l (some z)) else none
 | _=>none
def LS(i j l:Nat)(hc:X.calm=true)(hN:X.N.Nodup)(hi:X.N[i]?=some x)(hx:Loc X.env.scope x)(hj:X.N[j]?=some y)(hy:Loc X.env.scope y)(hl:X.N[l]?=some z)(hz:Loc X.env.scope z)
  (hf:X.fn x=true\/X.env.scope.names.lookup x=some .local) (hf':X.fn y=true\/X.env.scope.names.lookup y=some .local) (aj7:X.fn z=true\/X.env.scope.names.lookup z=some .local) :
  DG X (.Tuple [.Name x px,.Name y py,.Name z pz] k pos) (VY i j l) :=
 ub (A3 hc (ej (eC hN hi hx hf) (ej (eC hN hj hy hf') (ej (eC hN hl hz aj7) sS)))) λv σ H Q ⟨HF,ρ,d,ρ',sm,eo,r,hf,q⟩=>by
  unfold VY at hf;split at hf
  ·rename_i x' y' z';split at hf
   ·rename_i hh;cases hf;simp?[Rep] at r;let⟨a,vs,rfl,hs,rr⟩:=r;let⟨v1,r1,rfl,a1,b1⟩:=rr.cons_inv;let⟨v2,r2,rfl,a2,b2⟩:=b1.cons_inv;let⟨v3,r3,rfl,a3,b3⟩:=b2.cons_inv;rw[b3.nil_inv] at hs;exact⟨a,_,rfl,aR sm hs,rfl,v1,_,rfl,v2,_,rfl,v3,_,rfl,rfl,q _ (ke (ke (ke eo a1) a2) a3) (mP (mP (mP eo hh.1) hh.2.1) hh.2.2)⟩
   ·cases hf
  ·cases hf
def Ai(d:D):List D->Option Nat
 | []=>none
 | x::xs=>if PyData.eqv x d=true then some 0 else (Ai d xs).map (·+1)
def ye:∀ {xs:List D}{j:Nat},Ai d xs=some j->j < xs.length/\(∀x,xs[j]?=some x->PyData.eqv x d=true)/\∀m,m < j->∀x,xs[m]?=some x->PyData.eqv x d=false
 | [],j,h=>by cases h
 | x::xs,j,h=>by
  unfold Ai at h;split at h
  ·cases h;rename_i e;exact⟨Nat.succ_pos _,λy hy=>by cases hy;exact e,λm hm=>absurd hm (wC _)⟩
  ·rename_i e;let⟨k,hk,rfl⟩:=ah h;let⟨a,b,c⟩:=ye hk;refine⟨by simpa using a,λy hy=>b y (by simpa using hy),λm hm y hy=>?_⟩;cases m with
   | zero=>cases hy;simpa using e
   | succ m=>exact c m (by lia) y (by simpa using hy)
def IB(hu:X.A.units+66 < cLine):Ss X "list.index" (λx vs H Q=>∃ (HF:Hp) (ds:List D) (d:D) (y:V) (j:Nat),aY HF H/\Rep X.K HF (.list ds) x/\vs=[y]/\Rep X.K HF d y/\SeqAt.shaped d=true/\SeqAt.shaped (.list ds)=true/\ds.length<=sizeLine/\Ai d ds=some j/\Q (.int j) H):=by
 intro pins s σ H x vs v us Q I rx rv h;let⟨HF,ds,d,y,j,sm,r1,rfl,r2,hd,hl,hz,hj,q⟩:=h;let⟨u,rfl,ru⟩:=rv.one;let⟨as,ra⟩:=eW I sm r1 rx;let⟨bs,rb⟩:=eW I sm r2 ru;have c1:=kN hd;have c2:=kN hl;have d1:=SeqAt.depth_of_shaped hd;simp?[PyData.canLay0] at c2;have m:=Nat.min_le_right (PyData.depthAll ds) d.depth;let⟨hj1,hj2,hj3⟩:=ye hj;cases ra with
 | list h1 h2 h3 h4 =>
  rename_i l o its n as;let⟨cls,dd,data,sl⟩:=o;simp only at h2 h3;subst h2 h3;have hm:=SeqAt.readsAll_map _ _ _ c2 h4;have hlen:its.size=ds.length:=by rw[<- hm];simp
  have ajU:(sizeLine:Nat) < 2 ^ 62:=by decide
  have at_:∀m (hm:m < its.size),ds[m]?=some (SeqAt.readOf s.heap its[m]):=λm YC=>by
   rw[<- hm,zO,Array.getElem?_toList,kA YC];rfl
  refine qY F.slot_list_index ⟨_,h1,rfl⟩ F.entry_list_index (F.args_list_index_2 _ _) (PySem.SeqAt.list_indexAt l its n dd sl u (λy=>PyData.eqv (SeqAt.readOf s.heap y) d) j (by rw[hlen];exact hj1) (by lia) ?_ ?_) ⟨h1,?_,?_⟩
  ·exact hj2 _ (at_ j (by rw[hlen];exact hj1))
  ·intro m YC hmj;exact hj3 m hmj _ (at_ m YC)
  ·exact SeqAt.items_eqAt h4 rb c2 c1 (by lia)
  ·exact⟨.int j,H,I.tok _,⟨_,rfl⟩,q⟩
def II:List D->Option D
 | [.int a,.int b]=>some (.int (max a b))
 | _=>none
def Kh(hc:X.calm=true):gD X (.builtin "max") (λxs H Q=>∃a b:Int,xs=[.int a,.int b]/\Q (.int (max a b)) H):=by
 intro pins s σ H xs us Q I r h;have hh:X.A.handled=none:=I.ok.hd hc;let⟨a,b,rfl,q⟩:=h;cases r with
 | cons r1 r =>
  cases r with
  | cons r2 r =>
   cases r;let⟨t,rfl⟩:=r1;let⟨u,rfl⟩:=r2;refine max_two_ints hh λh' tk kp=>⟨.int (max a b),H,I.kept (t':=tk) kp,?_,q⟩
   by_cases h:b > a
   ·rw[yM h,show max a b=b by lia];exact⟨_,rfl⟩
   ·rw[yO h,show max a b=a by lia];exact⟨_,rfl⟩
def QR(hc:X.calm=true)(B:vg X "max" (.builtin "max"))(he:starEach (e::es) X.env=(false,eval e X.env)::starEach es X.env)(Yb:(backTo pos (starEach es X.env)).any (·.1)=false)(ha:DA X (e::es) fs):DE X (.Call (.Name "max" p) (e::es) [] pos) (bu II fs) :=
 jv (Kh hc) (by
  intro HF H ds vs d Q sm r hg q;unfold II at hg;split at hg
  ·cases hg;let⟨v1,r1,rfl,a1,b1⟩:=r.cons_inv;let⟨v2,r2,rfl,a2,b2⟩:=b1.cons_inv;rw[b2.nil_inv];simp?[Rep] at a1 a2;exact⟨_,_,by rw[a1,a2],q _ H HF (.refl sm) (by simp[Rep])⟩
  ·cases hg) B ha (by decide) (by decide) he Yb
structure We(h:Heap)(v:Value)(r:List Int):Prop where
 ex:∃ (a:Addr) (o:Obj) (n:Nat) (p:Value) (x y m:Int) (t:Tok),v=.ref a/\r=[x,y,m]/\h.get? a=some o/\o.cls=.type "tuple"/\o.data=.seq #[p,.int m t] n/\B8 h p [x,y]
end Dl
namespace HT
open PySem PyProof.Rows
section
open PySem.SeqAt
open PySem.AutoSeq1 (wpAny_loadPart')
open PySem.MeetsSeq PySem.MeetsSeq2 PySem.MeetsSeq3
end
end HT
namespace Dl
open PySem L2 PySem.Spec PyProof.Rows
def lx:List D->Option (List (List Int))
 | []=>some []
 | d::r=>(sV d).bind λns=>(lx r).map (ns::·)
section
variable {fl te:Env->Option D}{cs:List Nat}
end
def G7:Expr->Bool
 | .Call ..=>true
 | .Subscript ..=>true
 | .Name ..=>true
 | _=>false
def qr(i j l:Nat)(fz:List Nat)(f:Env->Option D):au->Option Out:=λρ=>(f (bK (hand fz 0 ρ))).bind λd=>match d with
 | .tuple [x,y,z]=>some (.nx ((((if gF (.tuple [x,y,z])=true then ρ else hand fz 0 ρ).set i (.val x)).set j (.val y)).set l (.val z)))
 | _=>none
def Kk(i j l:Nat)(fz:List Nat)(hc:X.calm=true)(hN:X.N.Nodup)(hi:X.N[i]?=some x)(hx:Loc X.env.scope x)(hj:X.N[j]?=some y)(hy:Loc X.env.scope y)(hl:X.N[l]?=some z)(hz:Loc X.env.scope z)(hp:G7 e=true)(he:DE X e f)
  (h1:X.fn x=true\/X.env.scope.names.lookup x=some .local) (h2:X.fn y=true\/X.env.scope.names.lookup y=some .local) (h3:X.fn z=true\/X.env.scope.names.lookup z=some .local):DS X Xf Xg (.Assign [.Tuple [.Name x px,.Name y py,.Name z pz] m pt] e pos) (qr i j l fz f) :=
 cT (KY he (A3 hc (ej (eC hN hi hx h1) (ej (eC hN hj hy h2) (ej (eC hN hl hz h3) sS)))) (by cases e<;>first|rfl|cases hp) (by cases e<;>first|rfl|cases hp)) λE σ H ⟨HF,ρ,o,S,hg,q⟩=>by
  unfold qr at hg;let⟨d,h,hg⟩:=bs hg;split at hg
  ·rename_i u v t;cases hg;let⟨Xj,s1,S1⟩:=S.hand fz;refine⟨Xj,_,.tuple [u,v,t],S1.gr.fh,S1.X3,h,λw H' Xh G r=>?_⟩;simp?[Rep] at r;let⟨a,vs,rfl,hs,rr⟩:=r;let⟨v1,r1,rfl,a1,b1⟩:=rr.cons_inv;let⟨v2,r2,rfl,a2,b2⟩:=b1.cons_inv;let⟨v3,r3,rfl,a3,b3⟩:=b2.cons_inv;rw[b3.nil_inv] at hs;refine⟨a,_,rfl,aR G.fh hs,rfl,v1,_,rfl,v2,_,rfl,v3,_,rfl,rfl,?_⟩;by_cases hn:gF (.tuple [u,v,t])=true
   ·rw[yM hn] at q;let⟨Xz,s2,S2,hb,_⟩:=S.back S1 s1 G;simp?[gF,lN,zF,Bool.and_true] at hn;exact q _ H' Xz (((S2.Yk (hb u v1 hn.1 a1)).Yk (hb v v2 hn.2.1 a2)).Yk (hb t v3 hn.2.2 a3)) s2
   ·rw[yO hn] at q;exact q _ H' Xh ((((S1.grow G).Yk a1).Yk a2).Yk a3) (s1.trans G.ff)
  ·cases hg
def Iw(its:List Value):slicePick its.toArray none none (some (-1))=its.reverse.toArray:=by
 rw[<- JF its];unfold slicePick;have e:sliceBounds none none (some (-1)) its.toArray.size=(((its.length:Nat):Int) - 1,-1,-1):=rfl;rw[e];unfold sliceRange;have e2:((if (-1:Int) > 0 then (if ((its.length:Nat):Int) - 1 < -1 then (-1 - (((its.length:Nat):Int) - 1)+-1 - 1) / -1 else 0) else (if ((its.length:Nat):Int) - 1 > -1 then (((its.length:Nat):Int) - 1 - -1 - -1 - 1) / (- -1) else 0)):Int).toNat=its.length:=by
  rw[yO (by decide)];simp?[Int.neg_neg,Int.ediv_one];split<;>lia
 simp?[e2];rw[List.filterMap_map]
 congr 1
 refine uh λk _=>?_;show its.toArray[(((its.length:Nat):Int) - 1+(-1) * (k:Int)).toNat]?=_;rw[Int.mul_comm]
def Pe(ha:PE X a ta):PE X (.Subscript a (.Slice none none (some (.UnaryOp .USub (.Constant (.int 1) j p4) p3)) p2) pos) (λσ H Q=>ta σ H λx H1=>∃b xs,x=.ref b/\iW X.K H1 b xs/\∀p,H1 p=none->Q (.ref p) (upd H1 p (.lst xs.reverse))):=by
 intro pins s σ H Q I h;refine Subscript_ (cN (ha pins s σ H _ I h) λv s1 ⟨x,H1,I1,r1,b,xs,e,hq,q⟩=>?_);subst e;cases r1;refine wpAny_Slice ?_;rw[evalPart_none];refine zW (zW ?_);have YQ:=GH (X:=X) (P8 (op:=.USub) KB (Fq (X:=X) (i:=1) (j:=j) (pos:=p4)) (pos:=p3)) pins s1 σ H1 (λo H'=>o=some (-1)/\H'=H1) I1 ⟨1,rfl,-1,rfl,rfl,rfl⟩;refine cN YQ λvst s2 ⟨o,H2,I2,Qo,e1,e2⟩=>?_;subst e1 e2;cases Qo with
 | int _ tk =>
 have I4:Inv X pins σ H2 { s2 with heap:=s2.heap.push { cls:=.type "slice",data:=.fields #[.none,.none,.int (-1) tk] } }:=I2.kept (t':=s2.toks) λb ob q=>zU _ q;let⟨its',r',ht',hz⟩:=I4.list hq;refine tail_any (ops:=[.ref b,.ref s2.heap.objs.size]) ht'.isList.typeIs slot_list_getitem.lookup (wpAny_getItem_list_slice ht'.isList (Heap.IsSliceOf.new ..) .none .none (.int _ _) (by decide) ?_ (by rw[zH,<- r'.length];exact hz)) (by with_unfolding_all rfl);rw[Iw];have hv:aS xs.reverse its'.reverse:=L2.aS.reverse r';exact⟨.ref _,_,I4.laid (t':=s2.toks) (o:=.lst xs.reverse) (λb ob q=>zU _ q) (yN _) ⟨by rw[List.length_reverse];exact hz,_,0,hv,zX _ rfl⟩,rfl,q _ I4.fresh⟩
def GO:D->Option D|.list ds=>some (.list ds.reverse)|_=>none
def NP(ha:DE X a fa):DE X (.Subscript a (.Slice none none (some (.UnaryOp .USub (.Constant (.int 1) j p4) p3)) p2) pos) (f1 GO fa):=bo (Pe ha) λσ H Q ⟨HF,ρ,d,sm,eo,hf,q⟩=>by
 let⟨x,hx,hf⟩:=bs hf;refine⟨HF,ρ,x,sm,eo,hx,λv1 H1 Xj g1 r1=>?_⟩;cases x<;>try cases hf
 simp?[Rep] at r1;let⟨b,vs,rfl,hs,rr⟩:=r1;refine⟨b,vs,rfl,g1.fh.seq hs,λp hp=>q _ _ _ (g1.trans (.new g1.fh hp)) ?_⟩;simp?[Rep];exact⟨p,_,rfl,.inl (.inl aO),rr.reverse.mono (eh (g1.fh.free hp))⟩
def MG(F:dG X.prog X.w X.K X.mg X.base k x n m)(hr:ft k X.A)(hg:Gl X x)(XH:(x == ("__debug__":Str))=false):DE X (.Call (.Name x p) [] [] pos) (aj n m ag):=by
 let⟨f,fd,ps,ok,hm,hk,hb⟩:=F.ex;refine bo (JE (E:=E0) ok hr hg hm hk hb .nil PR XH) λσ H Q ⟨HF,ρ,d,sm,eo,hf,q⟩=>?_;have hf:(if ([]:List D).length=n then m [] else none)=some d:=hf;split at hf
 ·rename_i hl;exact⟨HF,[],d,sm,eo.tb,.nil,hl,hf,q⟩
 ·cases hf
end Dl
namespace Rf
open PySem L2 Dl PySem.Spec PyProof.Rows
structure Tr where
 e:Expr->Option (Dl.Env->Option D)
 f:Expr->Option (Dl.Env->Option (List D))
 t:Expr->Option (Dl.Env->Option Bool)
structure Sg where
 fn:List (Str×Nat×(List D->Option D))
 int:List (Str×Int)
abbrev FE:=Dl.Env->Option D
def EW(G:Sg)(sc:Scope)(N:List Str)(x:Str):Option FE:=match N.idxOf? x with
 | some i=>if Hm N sc i x=true then some (ae i) else none
 | none=>if (Bq sc x&&!(x == ("__debug__":Str)))=true then (G.int.lookup x).map λn=>fC (.int n) else none
def Gz:Const->Option FE
 | .int i=>some (fC (.int i))
 | .bool b=>some (fC (.bool b))
 | .none=>some (fC .none)
 | .str x=>some (fC (.str x))
 | _=>none
def TJ(T:Tr)(op:UnaryOp)(a:Expr):Option FE:=match op with
 | .USub=>(T.e a).map (f1 Hr)
 | _=>none
def VP:Operator->Option (D->D->Option D)
 | .Add=>some aA
 | .Sub=>some Dl.dy
 | .Mult=>some dH
 | .FloorDiv=>some oi
 | .Mod=>some mT
 | _=>none
def Qb:Expr->Bool
 | .List ..=>true
 | .ListComp ..=>true
 | _=>false
def Gg:Expr->Bool
 | .List ..=>true
 | .ListComp ..=>true
 | .BinOp a .Mult _ _=>Qb a
 | .BinOp a .Add b _=>Gg a||Gg b
 | .Call (.Name x _) _ _ _=>x == ("sorted":Str)||x == ("list":Str)
 | _=>false
def JX(T:Tr)(whole a:Expr)(op:Operator)(b:Expr):Option FE :=
 if Gg whole=true then (T.f whole).map cq else (VP op).bind λg=>(T.e a).bind λx=>(T.e b).map λy=>f2 g x y
def AG(T:Tr)(op:BoolOp):List Expr->Option FE
 | []=>none
 | [a]=>T.e a
 | a::b::r=>(T.e a).bind λx=>(AG T op (b::r)).map λy=>match op with|.And=>gy x y|.Or=>VG x y
def Ts:CmpOp->Option (D->D->Option D)
 | .Lt=>some v5
 | .LtE=>some rT
 | .Gt=>some EV
 | .GtE=>none
 | .Eq=>some bh
 | .NotEq=>some gf
 | .In=>none
 | .NotIn=>none
 | .Is=>some uF
 | .IsNot=>some lJ
def U4:CmpOp->Option (D->D->Option D)
 | .Lt=>some v5
 | .LtE=>some rT
 | _=>none
def GM(T:Tr)(a:Expr)(ops:List CmpOp)(cs:List Expr):Option FE:=match ops,cs with
 | [op],[b]=>if behindInMarks op b=false then (Ts op).bind λg=>(T.e a).bind λx=>(T.e b).map λy=>f2 g x y else none
 | [op,ZQ],[b,c]=>if lastMarks [op,ZQ] [b,c]=false then (U4 op).bind λg=>(U4 ZQ).bind λg'=>(T.e a).bind λx=>(T.e b).bind λy=>(T.e c).map λz=>dW g g' x y z else none
 | _,_=>none
def Bx(T:Tr):List Expr->Option (Dl.Env->Option (List D))
 | []=>some ag
 | e::es=>if isStar e=false then (T.e e).bind λx=>(Bx T es).map λr=>aa x r else none
def V4(T:Tr):Option Expr->Option (Dl.Env->Option (Option Int))
 | none=>some cZ
 | some e=>(T.e e).map mC
def My:Expr->Bool
 | .Slice ..=>true
 | .Tuple ..=>true
 | .Starred ..=>true
 | _=>false
def uQ:Expr->Bool
 | .UnaryOp .USub (.Constant (.int 1) _ _) _=>true
 | _=>false
def LU(T:Tr)(a b:Expr):Option FE:=match b with
 | .Slice lo hi none _=>(T.e a).bind λx=>(V4 T lo).bind λl=>(V4 T hi).map λh=>cF bw x l h
 | .Slice none none (some s) _=>if uQ s=true then (T.e a).map λx=>f1 GO x else none
 | _=>if My b=false then (T.e a).bind λx=>(T.e b).map λy=>f2 av x y else none
def MJ:List D->Option D:=λds=>(oneOf ds).bind λd=>match d with
 | .list es=>(boolsOf es).map λbs=>.bool (bs.any id)
 | _=>none
def qf:Expr->Option Expr
 | .Call (.Name x _) [e] [] _=>if x="set" then some e else none
 | _=>none
def Qv(x:Str):Option String:=if x="int" then some "int" else if x="bool" then some "bool" else if x="tuple" then some "tuple" else if x="list" then some "list" else none
def EX(T:Tr)(x:Str)(args:List Expr):Option FE :=
 if x="max" then (if args.isEmpty=true then none else (Bx T args).map λfs=>bu II fs)
 else none
def Ew(G:Sg)(sc:Scope)(T:Tr)(whole:Expr)(x:Str)(args:List Expr):Option FE :=
 if (Bq sc x&&args.all λe=>!isStar e)=true then
  match G.fn.lookup x with
  | some (n,m)=>if (x == ("__debug__":Str))=true then none else (Bx T args).map λfs=>aj n m fs
  | none =>
   if x="len" then (match args with
    | [e]=>(match qf e with
     | some e'=>if (Bq sc "set"&&!isStar e')=true then (T.e e').map λy=>f1 mJ y else none
     | none=>(Bx T args).map λfs=>bu bz fs)
    | _=>none)
   else if x="isinstance" then (match args with
    | [e,.Name y _]=>if Bq sc y=true then (Qv y).bind λty=>(T.e e).map λz=>AS ty z else none
    | _=>none)
   else if x="tuple" then (if args.length=1 then (Bx T args).map λfs=>bu b8 fs else none)
   else if x="all" then (if args.length=1 then (Bx T args).map λfs=>bu jl fs else none)
   else if x="any" then (if args.length=1 then (Bx T args).map λfs=>bu MJ fs else none)
   else if x="sum" then (if args.length=1 then (Bx T args).map λfs=>bu vy fs else none)
   else if x="min" then (if args.isEmpty=true then none else (Bx T args).map λfs=>bu uN fs)
   else if (x == ("list":Str)||x == ("sorted":Str))=true then (T.f whole).map cq
   else EX T x args
 else none
def A9:Expr->Bool
 | .Call ..=>true
 | _=>false
def EO(T:Tr)(o:Expr)(m:Str)(apos:Pos)(args:List Expr)(cpos:Pos):Option FE :=
 if (m == ("index":Str)&&apos.endLine == cpos.line&&!A9 o)=true then (match args with
  | [e]=>if isStar e=false then (T.e o).bind λx=>(T.e e).map λy=>f2 nU x y else none
  | _=>none)
 else none
def KR(G:Sg)(sc:Scope)(N:List Str)(T:Tr)(whole:Expr):Option FE:=match whole with
 | .Name x _=>EW G sc N x
 | .Constant c _ _=>Gz c
 | .UnaryOp op a _=>TJ T op a
 | .BinOp a op b _=>JX T whole a op b
 | .BoolOp op es _=>AG T op es
 | .Compare a ops cs _=>GM T a ops cs
 | .IfExp c a b _=>(T.t c).bind λz=>(T.e a).bind λx=>(T.e b).map λy=>DN z x y
 | .Tuple es _ _=>(Bx T es).map aH
 | .Subscript a b _=>LU T a b
 | .List ..=>(T.f whole).map cq
 | .ListComp ..=>(T.f whole).map cq
 | .Call (.Name x _) args [] _=>Ew G sc T whole x args
 | .Call (.Name _ _) _ (_::_) _=>(T.f whole).map cq
 | .Call (.Attribute o m apos) args [] cpos=>EO T o m apos args cpos
 | _=>none
def UB(T:Tr)(op:BoolOp):List Expr->Option (Dl.Env->Option Bool)
 | []=>none
 | [a]=>T.t a
 | a::b::r=>(T.t a).bind λx=>(UB T op (b::r)).map λy=>match op with|.And=>gq x y|.Or=>iM x y
def LY:Expr->Bool
 | .Name ..=>true
 | .Call ..=>true
 | .Subscript ..=>true
 | _=>false
def stepT(T:Tr)(whole:Expr):Option (Dl.Env->Option Bool):=match whole with
 | .Compare a ops cs _=>(GM T a ops cs).map fB
 | .UnaryOp .Not a _=>(T.t a).map bJ
 | .BoolOp op es _=>UB T op es
 | _=>if LY whole=true then (T.e whole).map fB else none
def A1:Expr->Bool
 | .Tuple ..=>true
 | _=>false
def UH(sc:Scope)(T:Tr)(tg iter:Expr):Option (Dl.Env->Option (List D)):=match iter with
 | .Call (.Name x _) args [] _ =>
  if x="range" then (match args with|[e]=>if (Bq sc "range"&&!isStar e)=true then (Bx T args).map bj else none|_=>none)
  else if x="enumerate" then (match args with|[e]=>if (Bq sc "enumerate"&&!isStar e&&A1 tg)=true then (Bx T args).map bQ else none|_=>none)
  else if x="zip" then (match args with|[e,e']=>if (Bq sc "zip"&&!isStar e&&!isStar e'&&A1 tg)=true then (Bx T args).map cO else none|_=>none)
  else (T.e iter).map bI
 | .Set ..=>none
 | _=>(T.e iter).map bI
def Vy:Expr->Option (List Str)
 | .Name x _=>some [x]
 | .Tuple [.Name x _,.Name y _] _ _=>some [x,y]
 | _=>none
def Vb:Expr->Option (List Str)
 | .Tuple [.Name x _,.Name y _,.Name z _] _ _=>some [x,y,z]
 | tg=>Vy tg
def lV(N:List Str)(scope:Scope):List Nat:=(List.range N.length).filter λj=>match N[j]? with|some x=>decide (scope.names.lookup x=some .free)|none=>false
def Q1:Expr->Bool
 | .Set ..=>false
 | _=>true
def Pr(B:Tr)(ifs:List Expr):Option (Dl.Env->Option Bool):=match ifs with
 | []=>some λ_=>some true
 | [c]=>B.t c
 | _=>none
def Bj(sc:Scope)(N:List Str)(T:Tr)(blk:Scope->List Str->Tr)(elt:Expr)(gens:List Comprehension)(scope:Scope):Option (Dl.Env->Option (List D)):=match gens with
 | [⟨tg,iter,ifs,as⟩] =>
  if as=0 then (Vb tg).bind λxs =>
   if (qk sc scope N (xs++(lV N scope).filterMap λj=>N[j]?) xs.length (lV N scope)&&(List.range xs.length).all λi=>tG (xs++(lV N scope).filterMap λj=>N[j]?) scope i (xs.getD i ""))=true then
    (UH sc T tg iter).bind λfi=>(Pr (blk scope (xs++(lV N scope).filterMap λj=>N[j]?)) ifs).bind λtt =>
     ((blk scope (xs++(lV N scope).filterMap λj=>N[j]?)).e elt).map λte=>ax xs.length (lV N scope) fi (match xs with|[_]=>fG 0|[_,_]=>gE 0 1|_=>VY 0 1 2) tt te
   else none
  else none
 | _=>none
def Ll:Arguments->Option Str
 | ⟨[],[⟨x,none,_⟩],none,[],[],none,[]⟩=>if x="number" then some x else if x="plan" then some x else none
 | _=>none
def zy(lam:Option Str)(sc:Scope)(N:List Str)(T:Tr)(lmb:Scope->List Str->Tr)(l:Expr)(params:Arguments)(body:Expr)(scope:Scope):Option (Dl.Env->Option (List D)) :=
 if (lam.isSome&&Bq sc "sorted"&&!isStar l)=true then
  (Ll params).bind λp =>
   if (qk sc scope N (p::(lV N scope).filterMap λj=>N[j]?) 1 (lV N scope)&&BV scope (p::(lV N scope).filterMap λj=>N[j]?) p)=true then
    (T.e l).bind λfl=>((lmb scope (p::(lV N scope).filterMap λj=>N[j]?)).e body).map λte=>qm (lV N scope) fl te
   else none
 else none
def GB(lam:Option Str)(sc:Scope)(N:List Str)(T:Tr)(blk lmb:Scope->List Str->Tr)(whole:Expr):Option (Dl.Env->Option (List D)):=match whole with
 | .List es _=>(Bx T es).map bZ
 | .ListComp elt gens scope _=>Bj sc N T blk elt gens scope
 | .BinOp a .Mult b _=>if Qb a=true then (T.f a).bind λx=>(T.e b).map λy=>lQ x y else none
 | .BinOp a .Add b _=>(T.e a).bind λx=>(T.e b).map λy=>MY iu x y
 | .Call (.Name x _) [l] [⟨some ky,.Lambda params body scope _,_⟩] _=>if (x == ("sorted":Str)&&ky == ("key":Str))=true then zy lam sc N T lmb l params body scope else none
 | .Call (.Name x _) [e] [] _ =>
  if (Bq sc x&&!isStar e)=true then
   if x="sorted" then (Bx T [e]).map λfs=>wg iA fs
   else none
  else none
 | _=>none
def tr(G:Sg):Nat->Option Str->Scope->List Str->Tr
 | 0,_,_,_=>⟨λ_=>none,λ_=>none,λ_=>none⟩
 | n+1,lam,sc,N=>⟨KR G sc N (tr G n lam sc N),GB lam sc N (tr G n lam sc N) (tr G n none) (tr G n none),stepT (tr G n lam sc N)⟩
structure Uq(G:Sg)(X:Cx)(j:Nat):Prop where
 fn:∀x n m,G.fn.lookup x=some (n,m)->dG X.prog X.w X.K X.mg X.base j x n m
 int:∀x i,G.int.lookup x=some i->∃t,X.mg x=some (.int i t)
 bn:Bn X
structure tL(X:Cx)(tg iter:Expr)(ifs:List Expr)(elt:Expr)(scope:Scope)(f:Dl.Env->Option (List D)):Prop where
 ex:∃ (N':List Str) (t:Nat) (cs:List Nat) (fi:Dl.Env->Option (List D)) (tgt:Dl.Env->D->Option Dl.Env) (tt:Dl.Env->Option Bool) (te:FE),f=ax t cs fi tgt tt te/\kb X scope N' (l5 t cs)/\DI X tg iter fi/\(∀x,foldedSetIterable iter X.env x=pure x) /\
  ∀fp s H,DG (bq X scope N' fp s H) tg tgt/\TM (bq X scope N' fp s H) ifs tt/\DE (bq X scope N' fp s H) elt te
structure dS(X:Cx)(T:Tr):Prop where
 c:∀elt gens scope p f,T.f (.ListComp elt gens scope p)=some f->∃tg iter ifs,gens=[⟨tg,iter,ifs,0⟩]/\tL X tg iter ifs elt scope f
 e:∀e f,T.e e=some f->DE X e f
 f:∀e f,T.f e=some f->DF X e f
 t:∀e f,T.t e=some f->DT X e f
section
variable {G:Sg}{X:Cx}{N:List Str}{sc:Scope}{k j:Nat}{T:Tr}{pos p:Pos}
def IY(C:Bk X N sc k)(g:Uq G X j)(h:EW G sc N x=some f):DE X (.Name x pos) f:=by
 unfold EW at h;split at h
 ·split at h
  ·cases h;exact C.v _ ‹_›
  ·cases h
 ·split at h
  ·rename_i hg;let⟨n,hn,rfl⟩:=ah h;let⟨t,ht⟩:=g.int x n hn;simp?[zF,yQ] at hg;exact O0 (C.gl hg.1) ht hg.2
  ·cases h
def EU(h:Gz c=some f):DE X (.Constant c i pos) f:=by
 cases c<;>cases h<;>first|exact QF|exact TF|exact Ql|exact RW
def M6(C:Bk X N sc k)(O:dS X T)(h:TJ T op a=some f):DE X (.UnaryOp op a pos) f:=by
 cases op<;>try cases h
 ·let⟨x,hx,rfl⟩:=ah h;exact C.neg (O.e _ _ hx)
def LM(C:Bk X N sc k)(O:dS X T)(h:JX T (.BinOp a op b pos) a op b=some f):DE X (.BinOp a op b pos) f:=by
 unfold JX at h;split at h
 ·let⟨x,hx,rfl⟩:=ah h;exact DF.de (O.f _ _ hx)
 ·let⟨g,hg,h⟩:=bs h;let⟨x,hx,h⟩:=bs h;let⟨y,hy,rfl⟩:=ah h;cases op<;>cases hg
  ·exact C.add (O.e _ _ hx) (O.e _ _ hy)
  ·exact C.sub (O.e _ _ hx) (O.e _ _ hy)
  ·exact C.mul (O.e _ _ hx) (O.e _ _ hy)
  ·exact C.mod (O.e _ _ hx) (O.e _ _ hy)
  ·exact C.div (O.e _ _ hx) (O.e _ _ hy)
def ym(O:dS X T):∀ {es:List Expr}{f:FE},AG T op es=some f->DE X (.BoolOp op es pos) f
 | [],f,h=>by cases h
 | [a],f,h=>Qh (O.e _ _ h)
 | a::b::r,f,h=>by
  unfold AG at h;let⟨x,hx,h⟩:=bs h;let⟨y,hy,rfl⟩:=ah h;have ih:=ym O hy;cases op with
  | And=>exact RM (O.e _ _ hx) ih
  | Or=>exact TL (O.e _ _ hx) ih
def QA(C:Bk X N sc k)(hg:Ts op=some g)(hm:behindInMarks op b=false)(ha:DE X a x)(hb:DE X b y):DE X (.Compare a [op] [b] pos) (f2 g x y)/\DT X (.Compare a [op] [b] pos) (fB (f2 g x y)):=by
 cases op<;>cases hg
 ·exact⟨C.eq ha hb,C.teq ha hb⟩
 ·exact⟨C.ne ha hb,C.tne ha hb⟩
 ·exact⟨C.lt ha hb,C.tlt ha hb⟩
 ·exact⟨C.le ha hb,C.tle ha hb⟩
 ·exact⟨C.gt ha hb,C.tgt ha hb⟩
 ·exact⟨C.is0 ha hb,C.ajS ha hb⟩
 ·exact⟨C.ajR ha hb,C.aeR ha hb⟩
def Qa(h:U4 op=some g):∃r,jz X (compareOp op) r/\gR X.K r g:=by
 cases op<;>cases h
 ·exact⟨_,Ma,ma⟩
 ·exact⟨_,Jv,ma⟩
def Cy(C:Bk X N sc k)(O:dS X T){cs:List Expr}(h:GM T a ops cs=some f):DE X (.Compare a ops cs pos) f/\DT X (.Compare a ops cs pos) (fB f):=by
 unfold GM at h;split at h
 ·split at h
  ·rename_i hm;let⟨g,hg,h⟩:=bs h;let⟨x,hx,h⟩:=bs h;let⟨y,hy,rfl⟩:=ah h;exact QA C hg hm (O.e _ _ hx) (O.e _ _ hy)
  ·cases h
 ·split at h
  ·rename_i hm;let⟨g,hg,h⟩:=bs h;let⟨g',hg',h⟩:=bs h;let⟨x,hx,h⟩:=bs h;let⟨y,hy,h⟩:=bs h;let⟨z,hz,rfl⟩:=ah h;let⟨r,r1,r2⟩:=Qa (X:=X) hg;let⟨r',r1',r2'⟩:=Qa (X:=X) hg';exact⟨Mz r1 r2 r1' r2' (O.e _ _ hx) (O.e _ _ hy) (O.e _ _ hz) hm,J8 r1 r2 r1' r2' (O.e _ _ hx) (O.e _ _ hy) (O.e _ _ hz) hm⟩
  ·cases h
 ·cases h
def dX(O:dS X T):∀ {es:List Expr}{fs:Dl.Env->Option (List D)},Bx T es=some fs->DA X es fs
 | [],fs,h=>by cases h;exact Lj
 | e::es,fs,h=>by
  unfold Bx at h;split at h
  ·rename_i hs;let⟨x,hx,h⟩:=bs h;let⟨r,hr,rfl⟩:=ah h;exact UV hs (O.e _ _ hx) (dX O hr)
  ·cases h
def MN(O:dS X T)(h:V4 T o=some f):DO X o f:=by
 cases o with
 | none=>cases h;exact Ob
 | some e=>let⟨x,hx,rfl⟩:=ah h;exact Nb (O.e _ _ hx)
def E6(h:My b=false):AO b:=by
 cases b<;>first|(intro _ _;rfl)|cases h
def HB(h:uQ e=true):∃j p4 p3,e=.UnaryOp .USub (.Constant (.int 1) j p4) p3:=by
 unfold uQ at h;split at h
 ·exact⟨_,_,_,rfl⟩
 ·cases h
def JQ(C:Bk X N sc k)(O:dS X T)(h:LU T a b=some f):DE X (.Subscript a b pos) f:=by
 unfold LU at h;split at h
 ·let⟨x,hx,h⟩:=bs h;let⟨l,hl,h⟩:=bs h;let⟨u,hu,rfl⟩:=ah h;exact C.cut (O.e _ _ hx) (MN O hl) (MN O hu)
 ·split at h
  ·rename_i hm;let⟨x,hx,rfl⟩:=ah h;let⟨_,_,_,rfl⟩:=HB hm;exact NP (O.e _ _ hx)
  ·cases h
 ·split at h
  ·rename_i hc;let⟨x,hx,h⟩:=bs h;let⟨y,hy,rfl⟩:=ah h;exact SV (O.e _ _ hx) (O.e _ _ hy) (E6 hc)
  ·cases h
def eD{env:PySem.Env}:∀ {es:List Expr},(es.all λe=>!isStar e)=true->(backTo pos (starEach es env)).any (·.1)=false
 | [],_=>rfl
 | e::es,h=>by
  rw[xU,zF,yQ] at h;rw[bX h.1];show (false||(backTo pos (starEach es env)).any (·.1))=false;rw[eD h.2];rfl
def K7(h:qf e=some e'):∃p q,e=.Call (.Name "set" p) [e'] [] q:=by
 unfold qf at h;split at h
 ·split at h
  ·rename_i hx;cases h;subst hx;exact⟨_,_,rfl⟩
  ·cases h
 ·cases h
def NW(h:Qv y=some ty):y∈cP/\bootBuiltins y=some (.type ty)/\y≠"__name__"/\(y == ("__debug__":Str))=false:=by
 unfold Qv at h;split at h
 ·rename_i e;cases h;subst e;exact⟨by decide +kernel,by decide +kernel,by decide,by decide⟩
 ·split at h
  ·rename_i e;cases h;subst e;exact⟨by decide +kernel,by decide +kernel,by decide,by decide⟩
  ·split at h
   ·rename_i e;cases h;subst e;exact⟨by decide +kernel,by decide +kernel,by decide,by decide⟩
   ·split at h
    ·rename_i e;cases h;subst e;exact⟨by decide +kernel,by decide +kernel,by decide,by decide⟩
    ·cases h
def Ri:bootBuiltins "any"=some (.builtin "any"):=by decide +kernel
def Q2:bootBuiltins "sum"=some (.builtin "sum"):=by decide +kernel
def QD:bootBuiltins "max"=some (.builtin "max"):=by decide +kernel
def QM:bootBuiltins "min"=some (.builtin "min"):=by decide +kernel
def Ey(h:l.length=1):∃a,l=[a]:=by
 match l,h with
 | [a],_=>exact⟨a,rfl⟩
def HQ(C:Bk X N sc k)(g:Uq G X j)(O:dS X T)(hg:Bq sc x=true)(hs:args.all (λe=>!isStar e)=true)(h:EX T x args=some f):DE X (.Call (.Name x p) args [] pos) f:=by
 have st1:∀ {e:Expr}{es:List Expr},args=e::es->starEach (e::es) X.env=(false,eval e X.env)::starEach es X.env:=λ{e es} q=>by
  subst q;rw[xU,zF,yQ] at hs;exact bX hs.1
 have st2:∀ {e:Expr}{es:List Expr},args=e::es->(backTo pos (starEach es X.env)).any (·.1)=false:=λ{e es} q=>by
  subst q;rw[xU,zF] at hs;exact eD hs.2
 unfold EX at h;split at h
 ·rename_i hx;subst hx;split at h
  ·cases h
  ·rename_i hl;let⟨fs,YW,rfl⟩:=ah h;cases args with
   | nil=>exact absurd rfl hl
   | cons e es =>
    exact QR C.calm (C.blt g.bn hg (by decide +kernel) QD) (st1 rfl) (st2 rfl) (dX O YW)
 ·cases h
def Hz(C:Bk X N sc k)(g:Uq G X j)(hjk:j<=k)(O:dS X T)(h:Ew G sc T (.Call (.Name x p) args [] pos) x args=some f):DE X (.Call (.Name x p) args [] pos) f:=by
 unfold Ew at h;split at h
 ·rename_i hg;rw[zF] at hg;let⟨hg,hs⟩:=hg;have st1:∀ {e:Expr}{es:List Expr},args=e::es->starEach (e::es) X.env=(false,eval e X.env)::starEach es X.env:=λ{e es} q=>by
   subst q;rw[xU,zF,yQ] at hs;exact bX hs.1
  have st2:∀ {e:Expr}{es:List Expr},args=e::es->(backTo pos (starEach es X.env)).any (·.1)=false:=λ{e es} q=>by
   subst q;rw[xU,zF] at hs;exact eD hs.2
  split at h
  ·rename_i n m hfn;split at h
   ·cases h
   ·rename_i XA;let⟨fs,YW,rfl⟩:=ah h;cases args with
    | nil =>
     cases YW;exact MG (g.fn x n m hfn) (C.room.mono hjk) (C.gl hg) (by simpa using XA)
    | cons e es =>
     have hd:(x == ("__debug__":Str))=false:=by simpa using XA
     exact OY (g.fn x n m hfn) (C.room.mono hjk) (C.gl hg) (dX O YW) hd (st1 rfl) (st2 rfl)
  ·split at h
   ·rename_i hx;subst hx;split at h
    ·rename_i e;split at h
     ·rename_i e' he';split at h
      ·rename_i hg2;rw[zF,yQ] at hg2;let⟨y,hy,rfl⟩:=ah h;let⟨p1,p2,rfl⟩:=K7 he';exact IT C.calm (C.blt g.bn hg (by decide +kernel) Mx) (C.blt g.bn hg2.1 (by decide +kernel) QT) (O.e _ _ hy) (bX hg2.2)
      ·cases h
     ·let⟨fs,YW,rfl⟩:=ah h;exact Rz (C.blt g.bn hg (by decide +kernel) Mx) (dX O YW) (st1 rfl)
    ·cases h
   ·split at h
    ·rename_i hx;subst hx;split at h
     ·rename_i e y py;split at h
      ·rename_i hgy;let⟨ty,hty,h⟩:=bs h;let⟨z,hz,rfl⟩:=ah h;let⟨t1,t2,t3,t4⟩:=NW hty;exact SM (C.blt g.bn hg (by decide +kernel) we) (C.blt g.bn hgy t1 t2) (O.e _ _ hz) t3 t4 (st1 rfl)
      ·cases h
     ·cases h
    ·split at h
     ·rename_i hx;subst hx;split at h
      ·rename_i hl;let⟨fs,YW,rfl⟩:=ah h;let⟨e,rfl⟩:=Ey hl;exact Kt (C.blt g.bn hg (by decide +kernel) MQ) (dX O YW) (st1 rfl)
      ·cases h
     ·split at h
      ·rename_i hx;subst hx;split at h
       ·rename_i hl;let⟨fs,YW,rfl⟩:=ah h;let⟨e,rfl⟩:=Ey hl;exact RI C.calm (C.blt g.bn hg (by decide +kernel) RL) (dX O YW) (st1 rfl)
       ·cases h
      ·split at h
       ·rename_i hx;subst hx;split at h
        ·rename_i hl;let⟨fs,YW,rfl⟩:=ah h;let⟨e,rfl⟩:=Ey hl;exact Sh C.calm (C.blt g.bn hg (by decide +kernel) Ri) (st1 rfl) (dX O YW)
        ·cases h
       ·split at h
        ·rename_i hx;subst hx;split at h
         ·rename_i hl;let⟨fs,YW,rfl⟩:=ah h;let⟨e,rfl⟩:=Ey hl;exact Rj C.calm (C.blt g.bn hg (by decide +kernel) Q2) (st1 rfl) (dX O YW)
         ·cases h
        ·split at h
         ·rename_i hx;subst hx;split at h
          ·cases h
          ·rename_i hl;let⟨fs,YW,rfl⟩:=ah h;cases args with
           | nil=>exact absurd rfl hl
           | cons e es =>
            exact Rt C.calm (C.blt g.bn hg (by decide +kernel) QM) (st1 rfl) (st2 rfl) (dX O YW)
         ·split at h
          ·let⟨y,hy,rfl⟩:=ah h;exact DF.de (O.f _ _ hy)
          ·exact HQ C g O hg hs h
 ·cases h
end
section
variable {G:Sg}{X:Cx}{N:List Str}{sc:Scope}{k j:Nat}{T:Tr}{pos p:Pos}
def VR{env:PySem.Env}(h:isStar e=false):((backTo cpos (starEach [e] env)).all (λx=>!x.1)&&(backToKw cpos (keywordEach [] env)).all (λx=>x.1.isSome)&&decide ([e].length+([]:List Keyword).length+(if ([]:List Keyword).isEmpty then 0 else 1) < 30))=true:=by
 rw[bX h];rfl
def o7{env:PySem.Env}(h:A9 o=false):attributeBase o a env w=w:=by
 cases o<;>first|rfl|cases h
def Jg(C:Bk X N sc k)(O:dS X T)(h:EO T o m apos args cpos=some f):DE X (.Call (.Attribute o m apos) args [] cpos) f:=by
 unfold EO at h;split at h
 ·rename_i hm;rw[zF,zF,yQ] at hm;let⟨⟨hm1,hm⟩,XJ⟩:=hm;have e1:m="index":=eq_of_beq hm1;subst e1;split at h
  ·rename_i e;split at h
   ·rename_i hs;let⟨x,hx,h⟩:=bs h;let⟨y,hy,rfl⟩:=ah h;exact Ho (o7 XJ) (VR hs) hm (bX hs) (O.e _ _ hx) (O.e _ _ hy)
   ·cases h
  ·cases h
 ·cases h
def KA(C:Bk X N sc k)(g:Uq G X j)(hjk:j<=k)(O:dS X T)(h:KR G sc N T e=some f):DE X e f:=by
 unfold KR at h;split at h
 ·exact IY C g h
 ·exact EU h
 ·exact M6 C O h
 ·exact LM C O h
 ·exact ym O h
 ·exact (Cy C O h).1
 ·let⟨z,hz,h⟩:=bs h;let⟨x,hx,h⟩:=bs h;let⟨y,hy,rfl⟩:=ah h;exact Uv (O.t _ _ hz) (O.e _ _ hx) (O.e _ _ hy)
 ·let⟨x,hx,rfl⟩:=ah h;exact QN (dX O hx)
 ·exact JQ C O h
 ·let⟨x,hx,rfl⟩:=ah h;exact DF.de (O.f _ _ hx)
 ·let⟨x,hx,rfl⟩:=ah h;exact DF.de (O.f _ _ hx)
 ·exact Hz C g hjk O h
 ·let⟨x,hx,rfl⟩:=ah h;exact DF.de (O.f _ _ hx)
 ·exact Jg C O h
 ·cases h
def Mf(O:dS X T):∀ {es:List Expr}{f:Dl.Env->Option Bool},UB T op es=some f->DW X (.BoolOp op es pos) f
 | [],f,h=>by cases h
 | [a],f,h=>by
  cases op with
  | And=>exact M7 (O.t _ _ h)
  | Or=>exact Qy (O.t _ _ h)
 | a::b::r,f,h=>by
  unfold UB at h;let⟨x,hx,h⟩:=bs h;let⟨y,hy,rfl⟩:=ah h;have ih:=Mf O hy;cases op with
  | And=>exact Q8 (O.t _ _ hx) ih
  | Or=>exact Ta (O.t _ _ hx) ih
def LW(C:Bk X N sc k)(O:dS X T)(h:stepT T e=some f):DT X e f:=by
 unfold stepT at h;split at h
 ·let⟨x,hx,rfl⟩:=ah h;exact (Cy C O hx).2
 ·let⟨x,hx,rfl⟩:=ah h;exact QG (O.t _ _ hx)
 ·exact DW.dt (Mf O h)
 ·split at h
  ·rename_i hp;let⟨x,hx,rfl⟩:=ah h;refine Sx (O.e _ _ hx) ?_;revert hp;cases e<;>first|(intro hp;cases hp;done)|(intro hp _;rfl)
  ·cases h
def Sr{env:PySem.Env}(h:Q1 e=true):∀x,foldedSetIterable e env x=pure x:=by
 cases e<;>first|(intro _;rfl)|cases h
def K2(C:Bk X N sc k)(B:Bn X)(O:dS X T)(h:UH sc T tg iter=some fi):DI X tg iter fi/\∀x,foldedSetIterable iter X.env x=pure x:=by
 unfold UH at h;split at h
 ·refine⟨?_,λ_=>rfl⟩;split at h
  ·rename_i hx;subst hx;split at h
   ·split at h
    ·rename_i hg;rw[zF,yQ] at hg;let⟨x,hx,rfl⟩:=ah h;exact KI (C.blt B hg.1 (by decide +kernel) Mh) (dX O hx) (bX hg.2)
    ·cases h
   ·cases h
  ·split at h
   ·rename_i hx;subst hx;split at h
    ·split at h
     ·rename_i hg;simp?[zF,yQ] at hg;let⟨x,hx,rfl⟩:=ah h;cases tg<;>first|exact OI (C.blt B hg.1.1 (by decide +kernel) Br) (dX O hx) (bX hg.1.2)|exact absurd hg.2 (by simp[A1])
     ·cases h
    ·cases h
   ·split at h
    ·rename_i hx;subst hx;split at h
     ·split at h
      ·rename_i e e' hg;simp?[zF,yQ] at hg;let⟨x,hx,rfl⟩:=ah h;cases tg<;>first|exact Pj (C.blt B hg.1.1.1 (by decide +kernel) QJ) (bX hg.1.1.2) (eD (by simp[hg.1.2])) (dX O hx)|exact absurd hg.2 (by simp[A1])
      ·cases h
     ·cases h
    ·let⟨x,hx,rfl⟩:=ah h;exact MF (O.e _ _ hx)
 ·cases h
 ·rename_i h1 h2;let⟨x,hx,rfl⟩:=ah h;refine⟨MF (O.e _ _ hx),Sr ?_⟩;cases iter<;>first|rfl|exact absurd rfl (h2 _ _ _)
def RP(h:Vy tg=some xs):(∃x px,tg=.Name x px/\xs=[x])\/∃x px y py m pt,tg=.Tuple [.Name x px,.Name y py] m pt/\xs=[x,y]:=by
 unfold Vy at h;split at h
 ·cases h;exact .inl ⟨_,_,rfl,rfl⟩
 ·cases h;exact .inr ⟨_,_,_,_,_,_,rfl,rfl⟩
 ·cases h
def RJ(h:Vb tg=some xs):((∃x px,tg=.Name x px/\xs=[x])\/∃x px y py m pt,tg=.Tuple [.Name x px,.Name y py] m pt/\xs=[x,y])\/∃x px y py z pz m pt,tg=.Tuple [.Name x px,.Name y py,.Name z pz] m pt/\xs=[x,y,z]:=by
 unfold Vb at h;split at h
 ·cases h;exact .inr ⟨_,_,_,_,_,_,_,_,rfl,rfl⟩
 ·exact .inl (RP h)
def zm(C:Bk X N sc k)(B:Bn X)(O:dS X T)(OB:∀scope N' fp s H,Bk (bq X scope N' fp s H) N' scope k->dS (bq X scope N' fp s H) (blk scope N'))
  (h:Bj sc N T blk elt [⟨tg,iter,ifs,as⟩] scope=some f):as=0/\tL X tg iter ifs elt scope f:=by
 unfold Bj at h;dsimp only at h;split at h
 ·rename_i has;refine⟨has,?_⟩;let⟨xs,hxs,h⟩:=bs h;split at h
  ·rename_i Xi;rw[zF] at Xi;let⟨fi,Yw,h⟩:=bs h;let⟨tt,htt,h⟩:=bs h;let⟨te,hte,rfl⟩:=ah h;let⟨S,CB⟩:=C.comp Xi.1;let⟨hd,Yx⟩:=K2 C B O Yw;refine⟨_,_,_,_,_,_,_,rfl,S,hd,Yx,λfp s H=>?_⟩;have C1:=CB fp s H;have O1:=OB scope _ fp s H C1;refine⟨?_,?_,O1.e _ _ hte⟩
   ·rcases RJ hxs with (⟨x,px,rfl,rfl⟩|⟨x,px,y,py,m,pt,rfl,rfl⟩)|⟨x,px,y,py,z,pz,m,pt,htg,rfl⟩
    ·have z:=C1.loc (i:=0) (x:=x) (List.all_eq_true.mp Xi.2 0 (by simp));exact OC 0 z.1 z.2.1 z.2.2.1 z.2.2.2
    ·have z:=C1.loc (i:=0) (x:=x) (List.all_eq_true.mp Xi.2 0 (by simp));have w:=C1.loc (i:=1) (x:=y) (List.all_eq_true.mp Xi.2 1 (by simp));exact RU 0 1 C1.calm z.1 z.2.1 z.2.2.1 w.2.1 w.2.2.1 z.2.2.2 w.2.2.2
    ·have z0:=C1.loc (i:=0) (x:=x) (List.all_eq_true.mp Xi.2 0 (by simp));have w:=C1.loc (i:=1) (x:=y) (List.all_eq_true.mp Xi.2 1 (by simp));have u:=C1.loc (i:=2) (x:=z) (List.all_eq_true.mp Xi.2 2 (by simp));subst htg;exact LS 0 1 2 C1.calm z0.1 z0.2.1 z0.2.2.1 w.2.1 w.2.2.1 u.2.1 u.2.2.1 z0.2.2.2 w.2.2.2 u.2.2.2
   ·unfold Pr at htt;split at htt
    ·cases htt;exact OG
    ·exact OT (O1.t _ _ htt)
    ·cases htt
  ·cases h
 ·cases h
def tL.df(hc:X.calm=true)(h:tL X tg iter ifs elt scope f):DF X (.ListComp elt [⟨tg,iter,ifs,0⟩] scope pos) f:=by
 let⟨N',t,cs,fi,tgt,tt,te,rfl,S,hd,Yx,hY⟩:=h.ex;exact O5 hc S hd hY Yx
def Le(h:Ll a=some x):∃px,a=⟨[],[⟨x,none,px⟩],none,[],[],none,[]⟩/\(x="number"\/x="plan"):=by
 unfold Ll at h;split at h
 ·split at h
  ·cases h;exact⟨_,rfl,.inl ‹_›⟩
  ·split at h
   ·cases h;exact⟨_,rfl,.inr ‹_›⟩
   ·cases h
 ·cases h
def bind1{x q:Str}{px:Pos}{body:Expr}{scope:Scope}{cl:List (Str×Addr)}{pm Y2 u:Value}{c:Addr}(h:x="number"\/x="plan") :
  bindArgs (W.kla_fn "<lambda>" q ⟨[],[⟨x,none,px⟩],none,[],[],none,[]⟩ body scope cl pm (.ref c) Y2) ⟨[u],[]⟩=pure [(x,u)]:=by
 rcases h with rfl|rfl<;>rfl
def Fh{lam:Option Str}(C:Bk X N sc k)(B:Bn X)(ZH:∀q,lam=some q->Cr X q/\j+3<=k)(O:dS X T){lmb:Scope->List Str->Tr}
  (OL:∀scope N' qual A f c s H,Bk (nu X A qual scope N' f c s H) N' scope (k - 3)->j<=k - 3->dS (nu X A qual scope N' f c s H) (lmb scope N')) {l body:Expr}{params:Arguments}{scope:Scope}{p0 Yu adM:Pos}{f:Dl.Env->Option (List D)}
  (h:zy lam sc N T lmb l params body scope=some f):DF X (.Call (.Name "sorted" p0) [l] [⟨some "key",.Lambda params body scope Yu,adM⟩] pos) f:=by
 unfold zy at h;split at h
 ·rename_i hg;simp?[zF,yQ] at hg;let⟨⟨hl,hg⟩,hs⟩:=hg;let⟨q,rfl⟩:=Option.isSome_iff_exists.mp hl;let⟨L,hk⟩:=ZH q rfl;let⟨x,hx,h2⟩:=bs h;clear h;let⟨px,rfl,hpx⟩:=Le hx;split at h2
  ·rename_i Xi;rw[zF] at Xi;let⟨fl,XO,h⟩:=bs h2;let⟨te,hte,rfl⟩:=ah h;obtain⟨k',rfl⟩:∃k',k=k'+3:=⟨k - 3,by lia⟩
   exact Bk.ae0 (p:=x) C (C.blt B hg (by decide +kernel) y4) L Xi.1 Xi.2 (λ_ _ _ _ _=>bind1 hpx) rfl (O.e _ _ XO) (λA f c s H C'=>(OL scope _ q A f c s H C' (by lia)).e _ _ hte) (bX hs) (by rw[bX hs];rfl) (eD (by simp[hs]))
  ·cases h2
 ·cases h
def KL(C:Bk X N sc k)(B:Bn X)(ZH:∀q,lam=some q->Cr X q/\j+3<=k)(O:dS X T)
  (OB:∀scope N' fp s H,Bk (bq X scope N' fp s H) N' scope k->dS (bq X scope N' fp s H) (blk scope N'))
  (OL:∀scope N' qual A f c s H,Bk (nu X A qual scope N' f c s H) N' scope (k - 3)->j<=k - 3->dS (nu X A qual scope N' f c s H) (lmb scope N')) {e:Expr}{f:Dl.Env->Option (List D)}(h:GB lam sc N T blk lmb e=some f):DF X e f:=by
 unfold GB at h;split at h
 ·let⟨x,hx,rfl⟩:=ah h;exact QQ (dX O hx)
 ·rename_i elt gens scope ps
  match gens,h with
  | [⟨tg,iter,ifs,as⟩],h =>
   let⟨rfl,q⟩:=zm C B O OB h;exact q.df C.calm
 ·split at h
  ·let⟨x,hx,h⟩:=bs h;let⟨y,hy,rfl⟩:=ah h;exact Sl (O.f _ _ hx) (O.e _ _ hy)
  ·cases h
 ·let⟨x,hx,h⟩:=bs h;let⟨y,hy,rfl⟩:=ah h;exact Qm (O.e _ _ hx) (O.e _ _ hy)
 ·split at h
  ·rename_i hk;rw[zF] at hk;have e1:=eq_of_beq hk.1;have e2:=eq_of_beq hk.2;subst e1 e2;exact Fh C B ZH O OL h
  ·cases h
 ·split at h
  ·rename_i hg;rw[zF,yQ] at hg;split at h
   ·rename_i hx;subst hx;let⟨x,hx,rfl⟩:=ah h;exact Je (C.blt B hg.1 (by decide +kernel) y4) (dX O hx) (bX hg.2)
   ·cases h
  ·cases h
 ·cases h
def N0(C:Bk X N sc k)(B:Bn X)(O:dS X T)(OB:∀scope N' fp s H,Bk (bq X scope N' fp s H) N' scope k->dS (bq X scope N' fp s H) (blk scope N'))
  {elt:Expr}{gens:List Comprehension}{scope:Scope}{p:Pos}{f:Dl.Env->Option (List D)}(h:GB lam sc N T blk lmb (.ListComp elt gens scope p)=some f):∃tg iter ifs,gens=[⟨tg,iter,ifs,0⟩]/\tL X tg iter ifs elt scope f:=by
 have h:Bj sc N T blk elt gens scope=some f:=h
 match gens,h with
 | [⟨tg,iter,ifs,as⟩],h =>
  let⟨rfl,q⟩:=zm C B O OB h;exact⟨tg,iter,ifs,rfl,q⟩
def Ga(n:Nat):∀ {lam:Option Str}{X:Cx}{N:List Str}{sc:Scope}{k:Nat},Bk X N sc k->Uq G X j->j<=k->(∀q,lam=some q->Cr X q/\j+3<=k)->dS X (tr G n lam sc N):=by
 induction n with
 | zero=>intro lam X N sc k C g hjk ZH;exact⟨λ_ _ _ _ _ h=>(by cases h),λ_ _ h=>(by cases h),λ_ _ h=>(by cases h),λ_ _ h=>(by cases h)⟩
 | succ n ih =>
  intro lam X N sc k C g hjk ZH;have O:=ih C g hjk ZH;exact⟨λelt gens scope p f h=>N0 (lam:=lam) (lmb:=tr G n none) (p:=p) C g.bn O (λscope N' fp s H C'=>ih C' ⟨g.fn,g.int,g.bn⟩ hjk λq z=>by cases z) h,λe f h=>KA C g hjk O h,
   λe f h=>KL C g.bn ZH O (λscope N' fp s H C'=>ih C' ⟨g.fn,g.int,g.bn⟩ hjk λq z=>by cases z) (λscope N' qual A f c s H C' hk=>ih C' ⟨g.fn,g.int,g.bn⟩ hk λq z=>by cases z) h,
   λe f h=>LW C O h⟩
end
def tQ:Nat->Expr->List Str
 | 0,_=>[]
 | n+1,e=>match e with
  | .Name x _=>[x]
  | .UnaryOp _ a _=>tQ n a
  | .BinOp a _ b _=>tQ n a++tQ n b
  | .BoolOp _ es _=>es.flatMap (tQ n)
  | .Compare a _ cs _=>tQ n a++cs.flatMap (tQ n)
  | .IfExp c a b _=>tQ n c++(tQ n a++tQ n b)
  | .Tuple es _ _=>es.flatMap (tQ n)
  | .List es _=>es.flatMap (tQ n)
  | .Subscript a b _=>tQ n a++tQ n b
  | .Slice lo hi st _=>(lo.toList++(hi.toList++st.toList)).flatMap (tQ n)
  | .Call f args kws _=>tQ n f++(args.flatMap (tQ n)++kws.flatMap λk=>tQ n k.value)
  | .Attribute o _ _=>tQ n o
  | .ListComp elt gens _ _=>tQ n elt++gens.flatMap λg=>tQ n g.iter++g.ifs.flatMap (tQ n)
  | .Lambda _ b _ _=>tQ n b
  | _=>[]
def tZ(N:List Str)(e:Expr):List Nat:=let ns:=tQ 60 e;(List.range N.length).filter λj=>match N[j]? with|some x=>ns.contains x|none=>false
abbrev GS:=au->Option Out
def turns:Nat:=1000000
def E5:Expr->Bool
 | .ListComp ..=>true
 | .SetComp ..=>true
 | .DictComp ..=>true
 | _=>false
def Lo(sc:Scope)(N:List Str)(T:Tr)(x:Str)(px:Pos)(e:Expr):Option GS :=
 (N.idxOf? x).bind λi=>if tG N sc i x=true then
  (if Gg e=true then (match e with
   | .ListComp _ _ scope lp =>
    if (decide (sc.names.lookup x=some .local)&&(px.line == lp.line&&!(scope.names.any λ(n,k)=>n == x&&(k == .local || k == .cell))))=true then (T.f e).map λf=>aU i (tZ N e) f
    else if decide (sc.names.lookup x=some .cell)=true then (T.f e).map λf=>aU i (tZ N e) f
    else if (px.line == lp.line)=false then (T.f e).map λf=>aU i (tZ N e) f
    else none
   | _=>(T.f e).map λf=>aU i (tZ N e) f)
  else if E5 e=false then (T.e e).map λf=>aD i (tZ N e) f else none) else none
def Lk(N:List Str)(sc:Scope)(T:Tr)(e:Expr):Option GS:=match e with
 | .Constant (.str _) _ _=>some dP
 | .Call (.Attribute (.Name x _) m apos) args [] cpos =>
  (N.idxOf? x).bind λi=>if (Hm N sc i x&&apos.endLine == cpos.line&&args.all λe=>!isStar e)=true then
   (if m="append" then (match args with
    | [a]=>(T.e a).map λf=>jc i (tZ N a) f
    | _=>none)
   else if m="extend" then (match args with
    | [a]=>(T.f a).map λf=>HI i (tZ N a) f
    | _=>none)
   else if m="insert" then (match args with
    | [a,b]=>(T.e a).bind λfk=>(T.e b).map λf=>JI i (tZ N b) fk f
    | _=>none)
   else none) else none
 | .Call (.Name _ _) _ _ _=>(T.e e).map mS
 | _=>none
def Vz(sc:Scope)(N:List Str)(tg:Expr):Option (au->D->Option au):=match tg with
 | .Name x _=>(N.idxOf? x).bind λi=>if tG N sc i x=true then some (iZ i) else none
 | .Tuple [.Name x _,.Name y _] _ _=>(N.idxOf? x).bind λi=>(N.idxOf? y).bind λj=>if (tG N sc i x&&tG N sc j y)=true then some (fj i j) else none
 | _=>none
def KS(sc:Scope)(N:List Str)(T:Tr)(x:Str)(kx e:Expr):Option GS :=
 (N.idxOf? x).bind λi=>if (Hm N sc i x&&!My kx)=true then (T.e kx).bind λfk=>(T.e e).map λf=>AW i (tZ N e) fk f else none
def Au(sc:Scope)(N:List Str)(T:Tr)(x y z:Str)(e:Expr):Option GS :=
 (N.idxOf? x).bind λi=>(N.idxOf? y).bind λj=>(N.idxOf? z).bind λl=>if (((tG N sc i x&&tG N sc j y)&&tG N sc l z)&&G7 e)=true then (T.e e).map λf=>qr i j l (tZ N e) f else none
def sr(f:Stmt->Option GS):List Stmt->Option GS
 | []=>some dP
 | [s]=>f s
 | s::r=>(f s).bind λg=>(sr f r).map λh=>ar g h
def yh(sc:Scope)(N:List Str)(T:Tr):Nat->Stmt->Option GS
 | 0,_=>none
 | n+1,st=>match st with
  | .Return (some e) _=>(T.e e).map aV
  | .If c a b _=>(T.t c).bind λt=>(sr (yh sc N T n) a).bind λg=>(sr (yh sc N T n) b).map λh=>dZ t g h
  | .Assign [.Name x px] e _=>Lo sc N T x px e
  | .Assign [.Subscript (.Name x _) kx _] e _=>KS sc N T x kx e
  | .Assign [.Tuple [.Name x _,.Name y _,.Name z _] _ _] e _=>Au sc N T x y z e
  | .For tg iter body [] _=>(UH sc T tg iter).bind λfi=>(Vz sc N tg).bind λt=>(sr (yh sc N T n) body).map λg=>dC (tZ N iter) fi t g
  | .While c body [] _=>(T.t c).bind λt=>(sr (yh sc N T n) body).map λg=>Oj t g turns
  | .Expr e _=>Lk N sc T e
  | .Raise ..=>some SW
  | .Pass _=>some dP
  | _=>none
section
variable {X:Cx}{N:List Str}{sc:Scope}{k:Nat}{T:Tr}{Xf Xg:Hp}{pos:Pos}
def ix(H:∀s g,f s=some g->DS X Xf Xg s g):∀ {l:List Stmt}{g:GS},sr f l=some g->FI X Xf Xg l g
 | [],g,h=>by cases h;exact NL
 | [s],g,h=>Gq (H _ _ h)
 | s::t::r,g,h=>by
  unfold sr at h;let⟨x,hx,h⟩:=bs h;let⟨y,hy,rfl⟩:=ah h;exact L6 (H _ _ hx) (ix H hy)
def qs{env:PySem.Env}(h:E5 e=false):swapsWith e (some (.Name x px)) line env=pure false:=by
 cases e<;>first|rfl|cases h
def K3(C:Bk X N sc k)(O:dS X T)(h:Lo sc N T x px e=some g):DS X Xf Xg (.Assign [.Name x px] e pos) g:=by
 unfold Lo at h;let⟨i,hi,h⟩:=bs h;split at h
 ·rename_i aal;let⟨z1,z2,z3,z4⟩:=C.loc aal;split at h
  ·split at h
   ·rename_i elt gens scope lp hl;split at h
    ·rename_i hc;rw[zF] at hc;let⟨f,hf,rfl⟩:=ah h;let⟨tg,iter,ifs,rfl,q⟩:=O.c _ _ _ _ _ hf;let⟨N',t,cs,fi,tgt,tt,te,rfl,S,hd,Yx,hY⟩:=q.ex;exact M8 i _ C.calm S hd hY z1 z2 (C.aeQ hc.1) (C.swap hc.1 hc.2) Yx
    ·split at h
     ·rename_i hc;let⟨f,hf,rfl⟩:=ah h;exact Bp i _ z1 z2 z3 (O.f _ _ hf) (C.adG hc) z4
     ·split at h
      ·rename_i hc;let⟨f,hf,rfl⟩:=ah h;refine Bp i _ z1 z2 z3 (O.f _ _ hf) ?_ z4;rw[u3,hc];simp
      ·cases h
   ·rename_i hl hn;let⟨f,hf,rfl⟩:=ah h;refine Bp i _ z1 z2 z3 (O.f _ _ hf) (qs ?_) z4;cases e<;>first|rfl|exact absurd rfl (hn _ _ _ _)|(rename_i hl _;cases hl;done)
  ·split at h
   ·rename_i hc;let⟨f,hf,rfl⟩:=ah h;exact QH i _ z1 z2 z3 (O.e _ _ hf) (qs hc) z4
   ·cases h
 ·cases h
def EK{env:PySem.Env}(h:(es.all λe=>!isStar e)=true)(hl:es.length < 20):((backTo cpos (starEach es env)).all (λx=>!x.1)&&(backToKw cpos (keywordEach [] env)).all (λx=>x.1.isSome)&&decide (es.length+([]:List Keyword).length+(if ([]:List Keyword).isEmpty then 0 else 1) < 30))=true:=by
 have h1:(backTo cpos (starEach es env)).all (λx=>!x.1)=true:=by
  have:=eD (pos:=cpos) (env:=env) h;rw[List.all_eq_not_any_not];simpa using this
 rw[h1];simp[backToKw,keywordEach];lia
def Mt(C:Bk X N sc k)(O:dS X T)(h:Lk N sc T e=some g):DS X Xf Xg (.Expr e pos) g:=by
 unfold Lk at h;split at h
 ·cases h;exact Qu
 ·rename_i x px m apos args cpos;replace h:=bs h;let⟨i,hi,h⟩:=h;split at h
  ·rename_i hv;simp?[zF] at hv;let⟨⟨hv,Xv⟩,hs⟩:=hv;let⟨z1,z2,z3,z4⟩:=C.vis hv;split at h
   ·rename_i hm;subst hm;split at h
    ·let⟨f,hf,rfl⟩:=ah h;exact Iv i _ z1 z2 (O.e _ _ hf) z3 z4 (EK hs (by simp)) Xv (bX (by simpa using hs))
    ·cases h
   ·split at h
    ·rename_i hm;subst hm;split at h
     ·let⟨f,hf,rfl⟩:=ah h;exact Ii i _ z1 z2 (O.f _ _ hf) z3 z4 (EK hs (by simp)) Xv (bX (by simpa using hs))
     ·cases h
    ·split at h
     ·rename_i hm;subst hm;split at h
      ·let⟨fk,hfk,h⟩:=bs h;let⟨f,hf,rfl⟩:=ah h;have Yp:=hs;simp?[xU,List.all_nil,Bool.and_true,zF,yQ] at Yp;exact IG i _ z1 z2 (O.e _ _ hfk) (O.e _ _ hf) z3 z4 (EK hs (by simp)) Xv (bX Yp.1) (bX Yp.2)
      ·cases h
     ·cases h
  ·cases h
 ·let⟨f,hf,rfl⟩:=ah h;exact Ng rfl (O.e _ _ hf)
 ·cases h
def RB(C:Bk X N sc k)(h:Vz sc N tg=some t):UM X Xf Xg tg t:=by
 unfold Vz at h;split at h
 ·let⟨i,hi,h⟩:=bs h;split at h
  ·rename_i hl;cases h;have z:=C.loc hl;exact JM i z.1 z.2.1 z.2.2.1 z.2.2.2
  ·cases h
 ·let⟨i,hi,h⟩:=bs h;let⟨j,hj,h⟩:=bs h;split at h
  ·rename_i hl;rw[zF] at hl;cases h;have z:=C.loc hl.1;have w:=C.loc hl.2;exact OQ i j C.calm z.1 z.2.1 z.2.2.1 w.2.1 w.2.2.1 z.2.2.2 w.2.2.2
  ·cases h
 ·cases h
def Fx(C:Bk X N sc k)(O:dS X T)(h:Au sc N T x y z e=some g):DS X Xf Xg (.Assign [.Tuple [.Name x px,.Name y py,.Name z pz] m pt] e pos) g:=by
 unfold Au at h;let⟨i,hi,h⟩:=bs h;let⟨j,hj,h⟩:=bs h;let⟨l,hl',h⟩:=bs h;split at h
 ·rename_i hl;rw[zF,zF,zF] at hl;let⟨f,hf,rfl⟩:=ah h;have z:=C.loc hl.1.1.1;have w:=C.loc hl.1.1.2;have u:=C.loc hl.1.2;exact Kk i j l _ C.calm z.1 z.2.1 z.2.2.1 w.2.1 w.2.2.1 u.2.1 u.2.2.1 hl.2 (O.e _ _ hf) z.2.2.2 w.2.2.2 u.2.2.2
 ·cases h
def Jw(C:Bk X N sc k)(O:dS X T)(h:KS sc N T x kx e=some g):DS X Xf Xg (.Assign [.Subscript (.Name x px) kx Yt] e pos) g:=by
 unfold KS at h;let⟨i,hi,h⟩:=bs h;split at h
 ·rename_i hv;simp?[zF,yQ] at hv;let⟨hv,hc⟩:=hv;let⟨z1,z2,z3,z4⟩:=C.vis hv;let⟨fk,hfk,h⟩:=bs h;let⟨f,hf,rfl⟩:=ah h;refine MP i _ z1 z2 (O.e _ _ hfk) (O.e _ _ hf) z3 z4 (λv=>?_) ?_ ?_ rfl
  ·cases kx<;>first|rfl|cases hc
  ·cases e<;>rfl
  ·rfl
 ·cases h
def ue(C:Bk X N sc k)(B:Bn X)(O:dS X T):∀ (n:Nat) {st:Stmt}{g:GS},yh sc N T n st=some g->DS X Xf Xg st g
 | 0,st,g,h=>by cases h
 | n+1,st,g,h=>by
  have ih:=λs g h=>ue C B O n (st:=s) (g:=g) h;unfold yh at h;split at h
  ·let⟨f,hf,rfl⟩:=ah h;exact RT (O.e _ _ hf)
  ·let⟨t,ht,h⟩:=bs h;let⟨a,ha,h⟩:=bs h;let⟨b,hb,rfl⟩:=ah h;exact TR (O.t _ _ ht) (ix ih ha) (ix ih hb)
  ·exact K3 C O h
  ·exact Jw C O h
  ·exact Fx C O h
  ·let⟨fi,Yw,h⟩:=bs h;let⟨t,ht,h⟩:=bs h;let⟨b,hb,rfl⟩:=ah h;let⟨hd,Yx⟩:=K2 C B O Yw;exact Q7 _ C.pass C.calm hd (RB C ht) (ix ih hb) Yx
  ·let⟨t,ht,h⟩:=bs h;let⟨b,hb,rfl⟩:=ah h;exact Lb _ C.pass (O.t _ _ ht) (ix ih hb)
  ·exact Mt C O h
  ·cases h;exact SU
  ·cases h;exact NR
  ·cases h
end
section
variable {K:W.Frag}
def jg(P:Program)(w:World)(K:W.Frag)(mg:Str->Option Value)(base:Heap)(j:Nat)(l:List (Str×Nat×(List D->Option D))):Prop:=∀x n m,l.lookup x=some (n,m)->dG P w K mg base j x n m
def il(mg:Str->Option Value)(l:List (Str×Int)):Prop:=∀x i,l.lookup x=some i->∃t,mg x=some (.int i t)
def bB:jg P w K mg base j []:=λ_ _ _ h=>by cases h
def T2(F:dG P w K mg base j x n m)(h:jg P w K mg base j l):jg P w K mg base j ((x,n,m)::l):=λy n' m' e=>by
 rw[yB] at e;cases q:y == x with
 | true=>rw[q] at e;cases e;rw[eq_of_beq q];exact F
 | false=>rw[q] at e;exact h y n' m' e
def bD:il mg []:=λ_ _ h=>by cases h
def F0(F:∃t,mg x=some (.int i t))(h:il mg l):il mg ((x,i)::l):=λy i' e=>by
 rw[yB] at e;cases q:y == x with
 | true=>rw[q] at e;cases e;rw[eq_of_beq q];exact F
 | false=>rw[q] at e;exact h y i' e
def Pz{st:Stmt}(C:Bk X N (ao st) j)(B:Bn X)(hf:jg X.prog X.w X.K X.mg X.base j fs)(hi:il X.mg is)
  (t:sr (yh (ao st) N (tr ⟨fs,is⟩ 40 none (ao st) N) 40) (bF st)=some g):FI X Xf Xg (bF st) g :=
 ix (λs g h=>ue C B (Ga (G:=⟨fs,is⟩) 40 C ⟨hf,hi,B⟩ (yN j) λq z=>by cases z) 40 h) t
def WY{st:Stmt}(D:bA K mg x st ps)(S:dq N ps (ao st))(B:∀x∈cP,mg x=none)(hf:jg P w K mg base j fs)(hi:il mg is)
  (t:sr (yh (ao st) N (tr ⟨fs,is⟩ 40 none (ao st) N) 40) (bF st)=some g):dG P w K mg base (j+1) x ps.length (bf g N.length):=by
 let⟨f,fd,hm,F,hb⟩:=D.ex;exact Wi F S hb hm λX hP hw hK YC Y5 C _ _ HF H=>by subst hP;subst hw;subst hK;subst YC;subst Y5;exact Pz C B hf hi t
def WC{st:Stmt}(D:OO K mg x st ps)(S:dq N ps (ao st))(B:∀x∈cP,mg x=none)(hf:jg P w K mg base j fs)(hi:il mg is)
  (hq:x∈lP/\x++".<locals>."++"<lambda>"=q) (t:sr (yh (ao st) N (tr ⟨fs,is⟩ 40 (some q) (ao st) N) 40) (bF st)=some g):dG P w K mg base (j+4) x ps.length (bf g N.length):=by
 let⟨f,fd,c,P',hm,F,hb,hc,hh⟩:=D.ex;refine Wi (k:=j+3) F S hb hm λX hP hw hK YC Y5 C h1 h2 HF H=>?_;subst hP;subst hw;subst hK;subst YC;subst Y5;have L:Cr X q:=by
  refine⟨c,P',by rw[h1,hc],by rw[h2];exact hq.2,hh,λHF tb=>?_⟩;let⟨oc,od,kV,doc,pm,an,Xy,ct,Zu,rfl,lk,_⟩:=F.ex;have:=tb f oc od _ Zu c P' lk hq.1 hc hh;rw[<- hq.2];exact this
 exact ix (λs g h=>ue C B (Ga (G:=⟨fs,is⟩) (j:=j) 40 C ⟨hf,hi,B⟩ (jW _ _) λq' z=>by cases z;exact⟨L,yN _⟩) 40 h) t
end
abbrev tW(s:Stmt)(N:List Str)(S:Sg)(l:Option Str):Option GS:=sr (yh (ao s) N (tr S 40 l (ao s) N) 40) (bF s)
def SJ(a:sc.kind=.function:=by rfl)(b:sc.isCoroutine=false:=by rfl)(c:sc.isGenerator=false:=by rfl)(d:N.Nodup:=by decide +kernel)(e:N.take P.length=P:=by rfl)(f:∀x∈P,sc.names.lookup x=some .local \/ sc.names.lookup x=some .cell:=by decide +kernel)(g:∀y∈sc.names,y.2≠.free:=by decide +kernel):dq N P sc:=⟨a,b,c,d,e,f,g⟩
section
variable {K:W.Frag}
def fm(F:dG P w K mg base i x n m)(h:jg P w K mg base j l)(e:i<=j:=by decide):jg P w K mg base j ((x,n,m)::l):=T2 (F.mono e) h
def gp{st:Stmt}(D:bA K mg x st ps)(B:∀x∈cP,mg x=none)(hf:jg P w K mg base j S.fn)(hi:il mg S.int)(t:tW st N S none=some g)(F:dq N ps (ao st):=by exact Rf.SJ):dG P w K mg base (j+1) x ps.length (bf g N.length):=WY D F B hf hi t
def W8{st:Stmt}(D:OO K mg x st ps)(B:∀x∈cP,mg x=none)(hf:jg P w K mg base j S.fn)(hi:il mg S.int)(t:tW st N S (some q)=some g)(F:dq N ps (ao st):=by exact Rf.SJ)(hq:x∈lP/\x++".<locals>."++"<lambda>"=q:=by decide +kernel):dG P w K mg base (j+4) x ps.length (bf g N.length):=WC D F B hf hi hq t
end
end Rf
namespace Ex
open PySem L2 PySem.Spec PyProof.Rows
variable {rest:List Stmt}
def xt(x:f9 P w H h a o):∃ob,h.get? a=some ob:=by
 cases o with
 | lst xs=>let⟨_,_,_,_,e⟩:=x;exact⟨_,e⟩
 | tup xs=>let⟨_,_,_,⟨_,e,_⟩,_⟩:=x;exact⟨_,e⟩
 | dK X0=>let⟨_,_,_,_,o,_,_,e,_⟩:=x;exact⟨_,e⟩
 | dT X0=>let⟨_,_,_,_,o,_,_,e,_⟩:=x;exact⟨_,e⟩
 | set S n=>let⟨o,_,_,_,e,_⟩:=x;exact⟨_,e⟩
 | ins C dx fs=>let⟨_,_,_,e,_⟩:=x;exact⟨_,e⟩
 | own y=>let⟨_,e⟩:=x;exact⟨_,e⟩
 | xd fs=>let⟨_,⟨_,_,_,e,_⟩,_⟩:=x;exact⟨_,e⟩
 | rng lo hi=>let⟨_,_,_,e⟩:=x;exact⟨_,e⟩
 | X3 ob u=>let⟨e,_⟩:=x;exact⟨_,e⟩
 | tab q=>let⟨_,e,_⟩:=x;exact⟨_,e⟩
 | ZO q=>let⟨_,_,_,_,e0,e,_⟩:=x;cases e0;exact⟨_,e⟩
 | met f y=>exact⟨_,(show h.get? a=some _ from x)⟩
 | ext φ=>let⟨_,⟨_,e⟩,_⟩:=x;exact⟨_,e⟩
structure Iq(P:Program)(w:World)(l:List Env)(H:Hp)(s:Shared)(cls:Value)(ea:Addr)(H':Hp)(s':Shared):Prop where
 os:s'.os=s.os
 bare:AllBare s'.gens
 un:Un (iV l) [] H H' s.heap s'.heap
 Xi:pK P w H' s'.heap
 fly:∃B a0,Heap.FlyingW B l ea cls a0 s'.heap/\∀b,b∉iV l->(H' b≠none\/∃o,s.heap.get? b=some o)->∃o,B.get? b=some o
def Fc(P:Program)(w:World):Nc:=λl H s E e s'=>∃ea cls H',e=.ref ea/\Iq P w l H s cls ea H' s'/\E cls none H'
section
variable {X:Cx}{pins:List (Addr×Obj)}{σ:L2.St}{H H':Hp}{s s':Shared}{cls:Value}{ea:Addr}
def FU(I:Inv X pins σ H s)(hs:X.stack=X.env::X.outer)(hf:X.env.frame=some X.env.locals)(hex:X.ex=[])(hos:s'.os=s.os)(hbr:AllBare s'.gens)(YX:Un (iV X.stack) [] H H' s.heap s'.heap)(Xi:pK X.prog X.w H' s'.heap)
  (YQ:B.StaysIn s'.heap) (hff:s'.heap.FunFrames B X.stack) (hB:∀b,b∉iV X.stack->(H' b≠none\/∃o,s.heap.get? b=some o)->∃o,B.get? b=some o) (x1:Heap.FlyingW B X.outer ea cls a0 h') (x2:s'.heap.UpToSlots h') :
  Iq X.prog X.w X.outer X.Xg X.Xn cls ea H' { s' with heap:=h' }:=by
 have nx:∀b:Addr,b∉X.ex:=λb=>by rw[hex];simp
 have fs:iV X.stack=X.env.locals::iV X.outer:=by rw[hs];unfold iV;rw[jH,hf]
 have neL:∀b o,X.Xn.heap.get? b=some o->b≠X.env.locals:=λb o e=>yS (zP (zY e) I.ok.above);have out:∀b o,X.Xn.heap.get? b=some o->b∉iV X.outer->b∉iV X.stack:=λb o e hb z=>by
  rw[fs] at z;rcases List.mem_cons.mp z with z|z
  ·exact neL b o e z
  ·exact hb z
 have stk:∀b∈iV X.stack,H' b=none:=λb hb=>by
  let⟨_,o,ho,_⟩:=I.stack.mem hb;exact YX.free b o ho (I.X6 b hb) (by simp)
 have M0:∀b u,H' b≠none->s'.heap.get? b=some u->h'.get? b=some u:=λb u hn e=>by
  let⟨o,eo⟩:=hB b (λz=>hn (stk b z)) (.inl hn);have:=YQ b o eo;rw[e] at this;cases this;exact x1.1 b u eo
 have old:∀b o o2,b∉iV X.stack->s.heap.get? b=some o->s'.heap.get? b=some o2->h'.get? b=some o2:=λb o o2 hb e e2=>by
  let⟨o3,eo⟩:=hB b hb (.inr ⟨o,e⟩);have:=YQ b o3 eo;rw[e2] at this;cases this;exact x1.1 b o2 eo
 have inO:∀b,b∈iV X.outer->b∈iV X.stack:=λb hb=>by rw[fs];exact zC _ hb
 have Y6:∀b∈iV X.outer,∀o,s'.heap.get? b=some o->∃sl,h'.get? b=some { o with slots:=sl }:=λb hb o e=>by
  let⟨_,o2,e2,d2⟩:=hff.mem (inO b hb);rw[e] at e2;cases e2;exact x2 b o e d2
 refine⟨hos.trans I.os,hbr,⟨λb o e n hb _=>?_,λb o e n hb _=>?_,λb o e n _=>?_,λb o e _=>?_,λb xs e=>YX.Yc b xs (I.base.Yc b xs e),λb o u e=>YX.X4 b o u (I.base.X4 b o u e),?_⟩,λa o e=>?_,B,a0,x1,λb hb hh=>?_⟩
 ·have e1:=I.base.keep b o e n hb (nx b);have n1:=I.base.free b o e n (nx b);have Y5:=out b o e hb;exact old b o o Y5 e1 (YX.keep b o e1 n1 Y5 (by simp))
 ·let⟨sl,e1⟩:=I.base.slot b o e n hb (nx b);have n1:=I.base.free b o e n (nx b);let⟨sl2,e2⟩:=YX.slot b _ e1 n1 (inO b hb) (by simp);let⟨sl3,e3⟩:=Y6 b hb _ e2;exact⟨sl3,e3⟩
 ·let⟨o1,e1⟩:=I.base.there b o e (nx b);exact YX.free b o1 e1 (I.base.free b o e n (nx b)) (by simp)
 ·let⟨o1,e1⟩:=I.base.there b o e (nx b);let⟨o2,e2⟩:=YX.there b o1 e1 (by simp);by_cases hb:b∈iV X.outer
  ·let⟨sl,e3⟩:=Y6 b hb o2 e2;exact⟨_,e3⟩
  ·exact⟨o2,old b o1 o2 (out b o e hb) e1 e2⟩
 ·exact I.base.XW.trans (YX.XW.trans (.kept (λb u ⟨q,z⟩ e=>M0 b u (by rw[z];simp) e) λ_ _ e _=>e))
 ·refine (Xi a o e).XU (λb u hb q=>M0 b u ?_ q) (λ_ q=>q) λ_ _ q _=>q;rcases hb with rfl|z
  ·rw[e];simp
  ·rw[z];simp
 ·refine hB b (λz=>?_) (hh.imp id λ⟨o,e⟩=>I.base.there b o e (nx b));rw[fs] at z;rcases List.mem_cons.mp z with z|z
  ·subst z;rcases hh with hn|⟨o,e⟩
   ·exact hn (stk _ (by rw[fs];exact zE))
   ·exact neL _ o e rfl
  ·exact hb z
def Uo(hs:X.stack=X.env::X.outer)(hf:X.env.frame=some X.env.locals)(hex:X.ex=[])
  (hxe:∀e s',wpAny (model X.prog X.w) X.A (leaving X.env e) (λ_ YA=>Fc X.prog X.w X.outer X.Xg X.Xn E' e YA) (λ_ _=>False) s'->X.xe e s') (hE:∀cls H',E cls none H'->E' cls none H'):fI (Fc X.prog X.w) X E:=by
 intro pins σ H s e s' I h;let⟨ea,cls,H',rfl,F,hc⟩:=h;let⟨B,a0,XO,hB⟩:=F.fly;refine hxe _ _ ?_;refine wpAny_leaves_onW (base:=B) (a0:=a0) (cls:=cls) (by rw[I.ok.frames,hs]) hf (by rw[<- hs];exact XO) λh' x1 x2=>⟨ea,cls,H',rfl,FU I hs hf hex F.os F.bare F.un F.Xi XO.1 XO.2.2.1 hB x1 x2,hE _ _ hc⟩
def Eb(I:Inv X pins σ H s)(hs:X.stack=X.env::X.outer)(hf:X.env.frame=some X.env.locals)(hex:X.ex=[])
  (hxe:∀e s',wpAny (model X.prog X.w) X.A (leaving X.env e) (λ_ YA=>Fc X.prog X.w X.outer X.Xg X.Xn E' e YA) (λ_ _=>False) s'->X.xe e s') (hm:Heap.MadeExcOf s.heap s'.heap ea cls args) (ho:s'.os=s.os) (hg:AllBare s'.gens) (hE:E' cls none H):X.xe (.ref ea) s':=by
 have fs:iV X.stack=X.env.locals::iV X.outer:=by rw[hs];unfold iV;rw[jH,hf]
 have ae3:=I.stack;refine hxe _ _ ?_;have hin:∀env∈X.stack,∀b,env.frame=some b->b∈iV X.stack:=λenv he b hb=>List.mem_filterMap.mpr ⟨env,he,hb⟩;refine wpAny_leaves_madeW (base:=W.hideAll s.heap (iV X.stack)) (h:=s.heap) (cls:=cls) (args:=args) (by rw[I.ok.frames,hs]) hf (λb o q=>W.of_hideAll _ q) (by rw[<- hs];exact W.funFrames_hide ae3 hin) hm λh' t x1 x2 x3 x4=>⟨ea,cls,H,rfl,?_,hE⟩
 refine FU I hs hf hex ho hg (Un.kept hm.keeps) (I.Xi.kept hm.keeps) (λb o q=>hm.keeps b o (W.of_hideAll _ q)) ((W.funFrames_hide ae3 hin).of_keeps λb o q _=>⟨o,hm.keeps b o q,rfl⟩) (λb hb hh=>?_) x1 x4;have ⟨o,e⟩:∃o,s.heap.get? b=some o:=by
  rcases hh with hn|h
  ·let⟨u,hu⟩:=Option.ne_none_iff_exists'.mp hn;exact xt (I.Xi b u hu)
  ·exact h
 exact⟨o,W.hideAll_get _ e hb⟩
end
abbrev Qg:List Value:=[.type "ValueError",.type "Exception",.type "BaseException",.type "object"]
def OW{K:W.Frag}(X:K.In h)(q:W.excIn K C Qg "ValueError.__new__"=true) :
  ∃bm N nm qn bs hd sn sub ab col dd k0 k1 k2 k3 k5 mN,h.get? C=some (excClassObj nm qn C N bs bm hd sn sub ab col dd k0 k1 k2 k3 k5 "ValueError.__new__")/\h.Ns N mN/\mN "__init__"=none/\OwnTail h Qg bm:=by
 unfold W.excIn at q;split at q
 ·rename_i dd cd sl ho;split at q
  ·rename_i C' bm k0 k1 k2 k3 n k5 hm Zz;simp?[zF,vU,yQ] at q;obtain⟨⟨⟨⟨⟨rfl,rfl⟩,ae4⟩,ht⟩,Xi⟩,hni⟩:=q;cases cd with
   | mk nm bs mro ns qn hd sn sub ab col del =>
    simp only at hm ae4 Xi hni;subst hm ae4;cases sl with
    | mk l =>
     simp only at Zz;subst Zz;exact⟨bm,ns,nm,qn,bs,hd,sn,sub,ab,col,dd,k0,k1,k2,k3,k5,_,X _ _ ho,.of_isNs (W.isNs_of_in X Xi),W.nsMap_none_of_in X Xi hni,W.tail_of_in X ht⟩
  ·cases q
 ·cases q
def J3(I:Inv X pins σ H s)(hc:X.calm=true)(hg:Gl X x)(hm:X.mg x=some (.ref C))(q:W.excIn X.K C Qg "ValueError.__new__"=true)
  (hs:X.stack=X.env::X.outer) (hf:X.env.frame=some X.env.locals) (hex:X.ex=[])
  (hxe:∀e s',wpAny (model X.prog X.w) X.A (leaving X.env e) (λ_ YA=>Fc X.prog X.w X.outer X.Xg X.Xn E' e YA) (λ_ _=>False) s'->X.xe e s') (hE:E' (.ref C) none H) (XH:(x == ("__debug__":Str))=false) :
  wpAny (model X.prog X.w) X.A (exec (.Raise (some (.Call (.Name x np) [.Constant (.str t) i p] [] cpos)) none pos) X.env) Q X.xe s:=by
 let⟨bm,N,nm,qn,bs,hd,sn,sub,ab,col,dd,k0,k1,k2,k3,k5,mN,hC,hN,hni,T⟩:=OW I.YV q;refine wpAny_Raise_call_subT (C:=C) (nm:=nm) (q:=qn) (N:=N) (bs:=bs) (bm:=bm) (hdct:=hd) (sn:=sn) (sub:=sub) (ab:=ab) (col:=col) (dd:=dd) (k0:=k0) (k1:=k1) (k2:=k2) (k3:=k3) (k5:=k5)
  F.excBase_ValueError (mN:=mN) (T.hasType F.excBase_ValueError.hasBase) (I.ok.hd hc) rfl hni (ll I hg hm ⟨rfl,?_⟩ XH)
 refine Calls.evalArgs_plain (jK (Zf (k:=i) (pos:=p) (kM ⟨rfl,?_,hC,hN,T,λh' e hme=>?_⟩)))
 ·exact yD (show 1<=4000 by lia) (by decide)
 ·exact Eb (s:={ s with toks:=s.toks+1 }) (I.tok _) hs hf hex hxe hme rfl I.bare hE
open PySem L2 Dl PySem.Spec PyProof.Rows
def Wx(K:W.Frag)(mg:Str->Option Value)(n:Nat)(xm:List D->Option Str):Sp:=λvs H _ E=>∃HF ds c C,aY HF H/\fA K HF/\aC K HF ds vs/\ds.length=n/\xm ds=some c/\mg c=some (.ref C)/\∀H' Xh,b9 HF H Xh H'->E (.ref C) none H'
structure GP(P:Program)(w:World)(K:W.Frag)(mg:Str->Option Value)(base:Heap)(k:Nat)(x:Str)(n:Nat)(xm:List D->Option Str):Prop where
 ex:∃ (f:Addr) (fd:FuncData) (ps:List Str),pY P w K mg base (Fc P w) k f fd ps (Wx K mg n xm)/\mg x=some (.ref f)/\W.keepIn K (.ref f)=true/\Binds K fd ps []
def GP.mono{K:W.Frag}{xm:List D->Option Str}(F:GP P w K mg base k x n xm)(h:k<=j):GP P w K mg base j x n xm:=by
 let⟨f,fd,ps,a,b,c,d⟩:=F.ex;exact⟨f,fd,ps,a.mono h,b,c,d⟩
structure Xk(X:Cx)(E:XK):Prop where
 hs:X.stack=X.env::X.outer
 hf:X.env.frame=some X.env.locals
 hex:X.ex=[]
 hxe:∀e s',wpAny (model X.prog X.w) X.A (leaving X.env e) (λ_ YA=>Fc X.prog X.w X.outer X.Xg X.Xn E e YA) (λ_ _=>False) s'->X.xe e s'
def Xk.pass(hx:Xk X E):fI (Fc X.prog X.w) X E:=Uo hx.hs hx.hf hx.hex hx.hxe λ_ _ h=>h
def Wp(K:W.Frag)(mg:Str->Option Value)(E:XK)(xf:Dl.Env->Option Str):TE:=λσ H _=>∃HF ρ c C,aY HF H/\du K HF ρ σ/\xf ρ=some c/\mg c=some (.ref C)/\∀H' Xh,b9 HF H Xh H'->E (.ref C) none H'
def Jo(X:Cx)(E:XK)(e:Expr)(xf:Dl.Env->Option Str):Prop:=PE X e (Wp X.K X.mg E xf)
def tX(K:W.Frag)(mg:Str->Option Value)(Xf Xg:Hp)(E:XK)(xg:au->Option Str):TS:=λ_ σ H=>∃HF ρ c C,lC K Xf Xg HF H ρ σ/\xg ρ=some c/\mg c=some (.ref C)/\∀H' Xh,b9 Xf Xg Xh H'->E (.ref C) none H'
def DX(X:Cx)(E:XK)(Xf Xg:Hp)(st:Stmt)(xg:au->Option Str):Prop:=PS X st (tX X.K X.mg Xf Xg E xg)
def Jc(X:Cx)(E:XK)(Xf Xg:Hp)(st:List Stmt)(xg:au->Option Str):Prop:=Bf X st (tX X.K X.mg Xf Xg E xg)
def Qs(h:PA X.XN es t):PA X es t:=λpos pins s σ H Q I hw =>
 xB (h pos pins s σ H Q (I.X8 _) hw) (λ_ _ ⟨v,H',I',r,q⟩=>⟨v,H',I'.Xu,r,q⟩) λ_ _ z=>False.elim z
def R6{st:Stmt}(h:PS X.XN st t):PS X st t:=λpins s σ H D I hw =>
 xB (h pins s σ H D (I.X8 _) hw) (λ_ _ q=>q.Xu) λ_ _ z=>False.elim z
def AV(n:Nat)(xm:List D->Option Str)(fs:Dl.Env->Option (List D)):Dl.Env->Option Str:=λρ=>(fs ρ).bind λds=>if ds.length=n then xm ds else none
def Nr{xm:List D->Option Str}{p pos:Pos}(F:GP X.prog X.w X.K X.mg X.base k x n xm)(hr:ft k X.A)(hx:fI (Fc X.prog X.w) X E)(hg:Gl X x)(ha:DA X.XN (e::es) fs)(XH:(x == ("__debug__":Str))=false:=by decide)
  (he:starEach (e::es) X.env=(false,eval e X.env)::starEach es X.env:=by rfl) (Yb:(backTo pos (starEach es X.env)).any (·.1)=false:=by rfl):Jo X E (.Call (.Name x p) (e::es) [] pos) (AV n xm fs):=by
 let⟨f,fd,ps,ok,hm,hk,hb⟩:=F.ex;refine bo (F7 (E:=E) ok hr hg hm hk hb .nil hx (Qs ha) XH he Yb) λσ H Q ⟨HF,ρ,c,C,sm,eo,hf,hc,q⟩=>?_;let⟨ds,hds,hf⟩:=bs hf;split at hf
 ·rename_i hl;exact⟨HF,ρ,ds,sm,eo,hds,λvs H1 Xj g1 r1=>⟨Xj,ds,c,C,g1.fh,eo.tb.mono g1.ff,by rw[qG];exact r1,hl,hf,hc,λH' Xh g=>q H' Xh (g1.trans g)⟩⟩
 ·cases hf
def Fe(t:Dl.Env->Option Bool)(xa xb:Dl.Env->Option Str):Dl.Env->Option Str:=λρ=>(t ρ).bind λb=>if b=true then xa ρ else xb ρ
def S9(hc:DT X.XN c t)(ha:Jo X E a xa)(hb:Jo X E b xb):Jo X E (.IfExp c a b pos) (Fe t xa xb) :=
 bo (Cw (PT.XN hc) ha hb) λσ H Q ⟨HF,ρ,c,C,sm,eo,hf,hc,q⟩=>by
  let⟨b,h,hf⟩:=bs hf;refine⟨HF,ρ,b,sm,eo,h,λH' Xh G=>?_⟩;cases b with
  | true=>exact wo ⟨Xh,ρ,c,C,G.fh,eo.mono G.ff,hf,hc,λH2 Xz G2=>q H2 Xz (G.trans G2)⟩
  | false=>exact sf ⟨Xh,ρ,c,C,G.fh,eo.mono G.ff,hf,hc,λH2 Xz G2=>q H2 Xz (G.trans G2)⟩
def LR{K:W.Frag}{D:Ends}(h:tX K mg Xf Xg E (λρ=>xf (aJ ρ)) D σ H):Wp K mg E xf σ H Q:=by
 let⟨HF,ρ,c,C,S,hx,hc,q⟩:=h;exact⟨H,aJ ρ,c,C,.refl _,S.all,hx,hc,λH' Xh G=>q H' HF (S.step G.hh).gr⟩
def QP(h:Jo X E e xf)(hs:swapsWith e none pos.line X.env=pure false:=by rfl):DX X E Xf Xg (.Expr e pos) (λρ=>xf (aJ ρ)):=cT (oV h hs) λD σ H q=>LR q
def QK(h:Jo X E e xf):DX X E Xf Xg (.Return (some e) pos) (λρ=>xf (aJ ρ)):=cT (Ef h) λD σ H q=>LR q
def tU{st:Stmt}(h:DX X E Xf Xg st xg):Jc X E Xf Xg (st::rest) xg:=λpins s σ H D I q=>by
 refine vO (cN (h pins s σ H ⟨λ_ _=>False,λ_ _=>False,λ_ _=>False,λ_ _=>False⟩ I q) λf s1 z=>?_);cases f with
 | next=>let⟨_,_,_,z⟩:=z;exact z.elim
 | brk=>let⟨_,_,_,z⟩:=z;exact z.elim
 | cont=>let⟨_,_,_,z⟩:=z;exact z.elim
 | ret u=>let⟨_,_,_,_,_,z⟩:=z;exact z.elim
def KW(g:au->Option Out)(xg:au->Option Str):au->Option Str:=λρ=>(g ρ).bind λo=>match o with|.nx ρ'=>xg ρ'|.rt _=>none
def CC{st:Stmt}(h:DS X.XN Xf Xg st g)(hr:Jc X E Xf Xg rest xg):Jc X E Xf Xg (st::rest) (KW g xg) :=
 sT (ja (R6 h) hr) λD σ H ⟨HF,ρ,c,C,S,hx,hc,q⟩=>by
  let⟨o,ho,hx⟩:=bs hx;cases o with
  | rt d=>cases hx
  | nx ρ'=>exact⟨HF,ρ,.nx ρ',S,ho,λσ' H' Xh S' _=>⟨Xh,ρ',c,C,S',hx,hc,q⟩⟩
def LX(t:Dl.Env->Option Bool)(xa xb:au->Option Str):au->Option Str:=λρ=>(t (aJ ρ)).bind λb=>if b=true then xa ρ else xb ρ
def Tz(hc:DT X.XN c t)(ha:Jc X E Xf Xg a xa)(hb:Jc X E Xf Xg b xb):DX X E Xf Xg (.If c a b pos) (LX t xa xb) :=
 cT (Mv (PT.XN hc) ha hb) λD σ H ⟨HF,ρ,c,C,S,hx,hc,q⟩=>by
  let⟨b,h,hx⟩:=bs hx;refine⟨H,aJ ρ,b,.refl _,S.all,h,λH' Xh G=>?_⟩;cases b with
  | true=>exact wo ⟨HF,ρ,c,C,S.step G.hh,hx,hc,q⟩
  | false=>exact sf ⟨HF,ρ,c,C,S.step G.hh,hx,hc,q⟩
def Kr(hk:Xk X E)(hc:X.calm=true)(hg:Gl X x)(hm:X.mg x=some (.ref C))(q:W.excIn X.K C Qg "ValueError.__new__"=true)(XH:(x == ("__debug__":Str))=false:=by decide) :
  DX X E Xf Xg (.Raise (some (.Call (.Name x np) [.Constant (.str t) i p] [] cpos)) none pos) (λ_=>some x):=λpins s σ H D I ⟨HF,ρ,c,C',S,hx,Ym,z⟩=>by
 cases hx;rw[hm] at Ym;cases Ym;exact J3 I hc hg hm q hk.hs hk.hf hk.hex hk.hxe (z H HF S.gr) XH
def uX(xg:au->Option Str)(n:Nat)(args:List D):Option Str:=xg (args.map Slot.val++List.replicate (n - args.length) .Xe)
def Co{K:W.Frag}(sm:aY HF H)(tb:fA K HF)(rr:aC K HF ds vs):lC K HF H HF H (ds.map Slot.val++List.replicate (N.length - ds.length) .Xe) (L2.start N vs):=by
 refine⟨.refl sm,λi e h=>?_,λi es h=>?_,λi j es fs a h=>?_,?_,tb⟩
 ·have hi:i < ds.length:=by
   by_cases hi:i < ds.length
   ·exact hi
   ·rw[yU (by simpa using hi),yY] at h;split at h<;>cases h
  rw[yT (by simpa using hi),zO] at h;let⟨d',hd',h⟩:=ah h;cases h;let⟨v,hv,rv⟩:=rr.getD hd';refine⟨v,?_,rv⟩;unfold L2.start;rw[yT (by simpa [rr.length] using hi),zO,hv];rfl
 ·exfalso;by_cases hi:i < ds.length
  ·rw[yT (by simpa using hi),zO] at h;let⟨d',hd',h⟩:=ah h;cases h
  ·rw[yU (by simpa using hi),yY] at h;split at h<;>cases h
 ·exfalso;by_cases hi:i < ds.length
  ·rw[yT (by simpa using hi),zO] at h;let⟨d',hd',h⟩:=ah h;cases h
  ·rw[yU (by simpa using hi),yY] at h;split at h<;>cases h
 ·unfold L2.start;rw[zN,zN,zD,zD,xN,xN,rr.length];exact yN _
def fnX{K:W.Frag}{st:Stmt}(F:Kx K x qual st f fd)(S:dq N ps (ao st))(hb:Binds K fd ps [])(hm:mg x=some (.ref f))
  (body:∀ (X:Cx) (E:XK),X.prog=P->X.w=w->X.K=K->X.mg=mg->X.base=base->Bk X.XN N (ao st) k->X.calm=true->Xk X E->∀Xf Xg,Jc X E Xf Xg (bF st) xg):GP P w K mg base (k+1) x ps.length (uX xg N.length):=by
 refine⟨f,fd,ps,?_,hm,F.kp,hb⟩;let⟨oc,od,kV,doc,pm,an,Xy,ct,Zu,rfl,lk,XM⟩:=F.ex;refine JA lk XM S (λvs H Q E ⟨HF,ds,c,C,h1,_,h2,h3,_⟩=>by rw[h2.length,h3]) λA outer s H vs Q E hr ⟨HF,ds,c,C,sm,tb,rr,hl,hd,hc,q⟩=>?_;refine⟨_,body (uz (Fc P w) P w K mg base N qual (ao st) f Xy A outer s H E) E rfl rfl rfl rfl rfl ⟨rfl,S.nd,λy kd hy=>.inl hy,rfl,λ_ _=>rfl,hr,rfl,S.kind⟩ rfl ⟨rfl,rfl,rfl,λe s' z=>xB z (λ_ _ h=>h) λ_ _ h=>h.elim⟩ HF H,?_⟩;exact⟨HF,_,c,C,Co sm tb rr,hd,hc,q⟩
section
variable {X:Cx}{pins:List (Addr×Obj)}{σ:L2.St}{H H':Hp}{s s':Shared}{cls:Value}{ea:Addr}
def Mb(I:Inv X pins σ H s)(YX:Un (iV X.stack) [] H H' s.heap s'.heap)(Xi:pK X.prog X.w H' s'.heap)
  (YQ:B.StaysIn s'.heap) (hff:s'.heap.FunFrames B X.stack) (hB:∀b,b∉iV X.stack->(H' b≠none\/∃o,s.heap.get? b=some o)->∃o,B.get? b=some o) (x1:B.StaysIn h') (x2:s'.heap.UpToSlots h') :
  Un (iV X.stack) [] H H' s.heap h'/\pK X.prog X.w H' h':=by
 have stk:∀b∈iV X.stack,H' b=none:=λb hb=>by
  let⟨_,o,ho,_⟩:=I.stack.mem hb;exact YX.free b o ho (I.X6 b hb) (by simp)
 have M0:∀b u,H' b≠none->s'.heap.get? b=some u->h'.get? b=some u:=λb u hn e=>by
  let⟨o,eo⟩:=hB b (λz=>hn (stk b z)) (.inl hn);have:=YQ b o eo;rw[e] at this;cases this;exact x1 b u eo
 have old:∀b o o2,b∉iV X.stack->s.heap.get? b=some o->s'.heap.get? b=some o2->h'.get? b=some o2:=λb o o2 hb e e2=>by
  let⟨o3,eo⟩:=hB b hb (.inr ⟨o,e⟩);have:=YQ b o3 eo;rw[e2] at this;cases this;exact x1 b o2 eo
 have Y6:∀b∈iV X.stack,∀o,s'.heap.get? b=some o->∃sl,h'.get? b=some { o with slots:=sl }:=λb hb o e=>by
  let⟨_,o2,e2,d2⟩:=hff.mem hb;rw[e] at e2;cases e2;exact x2 b o e d2
 refine⟨⟨λb o e n hb _=>?_,λb o e n hb _=>?_,λb o e n _=>YX.free b o e n (by simp),λb o e _=>?_,YX.Yc,YX.X4,?_⟩,λa o e=>?_⟩
 ·exact old b o o hb e (YX.keep b o e n hb (by simp))
 ·let⟨sl2,e2⟩:=YX.slot b o e n hb (by simp);let⟨sl3,e3⟩:=Y6 b hb _ e2;exact⟨sl3,e3⟩
 ·let⟨o2,e2⟩:=YX.there b o e (by simp);by_cases hb:b∈iV X.stack
  ·let⟨sl,e3⟩:=Y6 b hb o2 e2;exact⟨_,e3⟩
  ·exact⟨o2,old b o o2 hb e e2⟩
 ·exact YX.XW.trans (.kept (λb u ⟨q,z⟩ e=>M0 b u (by rw[z];simp) e) λ_ _ e _=>e)
 ·refine (Xi a o e).XU (λb u hb q=>M0 b u ?_ q) (λ_ q=>q) λ_ _ q _=>q;rcases hb with rfl|z
  ·rw[e];simp
  ·rw[z];simp
def Iq.inv(I:Inv X pins σ H s)(F:Iq X.prog X.w X.stack H s cls ea H' s'):Inv X pins σ H' s':=I.aay F.os F.un F.Xi F.bare (λb hb=>absurd hb (by simp))
def Iq.XU(I:Inv X pins σ H s)(F:Iq X.prog X.w X.stack H s cls ea H' s')(XO:Heap.FlyingW B X.stack ea cls a0 s'.heap)(hB:∀b,b∉iV X.stack->(H' b≠none\/∃o,s.heap.get? b=some o)->∃o,B.get? b=some o)
  (x1:Heap.FlyingW B X.stack ea cls a0 h') (x2:s'.heap.UpToSlots h'):Iq X.prog X.w X.stack H s cls ea H' { s' with heap:=h' }:=by
 let⟨u,k⟩:=Mb I F.un F.Xi XO.1 XO.2.2.1 hB x1.1 x2;exact⟨F.os,F.bare,u,k,B,a0,x1,hB⟩
def land{M:Model}{E:Value->Shared->Prop}{Q:Unit->Shared->Prop}(I:Inv X pins σ H s)(hs:X.stack=X.env::X.outer)(hf:X.env.frame=some X.env.locals)(F:Iq X.prog X.w X.stack H s cls ea H' s')
  (k:∀h',Iq X.prog X.w X.stack H s cls ea H' { s' with heap:=h' }->Q () { s' with heap:=h' }) :
  wpAny M X.A (noteFrame (.ref ea) X.env) (λ_ s2=>wpAny M X.A (setFlight (.ref ea) none) Q E s2) E s':=by
 let⟨B,a0,XO,hB⟩:=F.fly;refine wpAny_looks_onW (base:=B) (a0:=a0) (cls:=cls) (by rw[I.ok.frames,hs]) hf (by rw[<- hs];exact XO) λh4 hh x2=>?_;refine wpAny_landsW (s:={ s' with heap:=h4 }) hh λh5 y1 y2=>k h5 ?_;exact F.XU I XO hB (by rw[hs];exact y1) (x2.trans y2)
def again{M:Model}{A:Around}{E:Value->Shared->Prop}{Q:Unit->Shared->Prop}(I:Inv X pins σ H s)(F:Iq X.prog X.w X.stack H s cls ea H' s')
  (k:∀h',Iq X.prog X.w X.stack H s cls ea H' { s' with heap:=h' }->Q () { s' with heap:=h' }):wpAny M A (setFlight (.ref ea) none) Q E s':=by
 let⟨B,a0,XO,hB⟩:=F.fly;exact lands_againW XO λh5 y1 y2=>k h5 (F.XU I XO hB y1 y2)
end
abbrev j5(X:Cx)(A':Around):Cx:={ X with A:=A',calm:=false }
def tE(I:Inv X pins σ H s)(ZV:A'.frames=X.A.frames):Inv (j5 X A') pins σ H s :=
 let ok:=I.ok
 ⟨⟨ok.mod,ok.kind,ok.glob,ok.blt,ok.above,ok.inj,ok.has,ok.cab,λz=>(by cases z),ZV.trans ok.frames,ok.stk,ok.exf,ok.bs,ok.bsz,ok.YY,ok.Zr,ok.X5,ok.frf⟩,I.os,I.bare,I.base,I.loc,I.cell,I.free,I.Xo,I.pin,I.Xi,I.len⟩
def EZ(ok:X.Ok)(I:Inv (j5 X A') pins σ H s):Inv X pins σ H s:=⟨ok,I.os,I.bare,I.base,I.loc,I.cell,I.free,I.Xo,I.pin,I.Xi,I.len⟩
def Ei{t':Nat}(I:Inv X pins σ H s)(hn:h'.Ns X.env.locals m')(hs:Heap.SameBut X.env.locals s.heap h'):Inv X pins (List.replicate X.N.length none) H { s with heap:=h',toks:=t' }:=by
 have neL:∀b o,X.Xn.heap.get? b=some o->b≠X.env.locals:=λb o e=>yS (zP (zY e) I.ok.above);have kp:∀b o,b≠X.env.locals->s.heap.get? b=some o->h'.get? b=some o:=λb o ne e=>(hs.2 b ne).trans e;have tr:∀b u,H b=some u->b≠X.env.locals:=λb u e z=>by rw[z,I.free] at e;cases e
 refine⟨I.ok,I.os,I.bare,⟨λb o e n hb hx=>kp b o (neL b o e) (I.base.keep b o e n hb hx),λb o e n hb hx=>?_,I.base.free,λb o e hx=>?_,I.base.Yc,I.base.X4,?_⟩,⟨m',hn,λi x v _ h2 _=>?_⟩,λx c e=>?_,I.free,I.Xo,λp hp=>?_,λa o e=>?_,?_⟩
 ·let⟨sl,e1⟩:=I.base.slot b o e n hb hx;exact⟨sl,kp b _ (neL b o e) e1⟩
 ·let⟨o',e1⟩:=I.base.there b o e hx;exact⟨o',kp b _ (neL b o e) e1⟩
 ·exact I.base.XW.trans (.kept (λb u ⟨q,z⟩ e=>kp b u (tr b _ z) e) λ_ _ e _=>e)
 ·rw[yY] at h2;split at h2<;>cases h2
 ·let⟨v,o,ho,hd⟩:=I.cell x c e;exact⟨v,o,kp c o (I.cne x c e) ho,hd⟩
 ·let⟨e,n,ne,r⟩:=I.pin p hp;exact⟨kp _ _ ne e,n,ne,r⟩
 ·refine (I.Xi a o e).XU (λb u hb q=>kp b u ?_ q) (λ_ q=>q) λ_ _ q _=>q;rcases hb with rfl|z
  ·exact tr b _ e
  ·exact tr b _ z
 ·simp
def ExcAt(l:List PySem.Env)(H:Hp)(h:Heap)(ea:Addr)(cls:Value):Prop:=(∃ob vs,h.get? ea=some ob/\ob.cls=cls/\ob.data=.fields vs)/\H ea=none/\ea∉iV l
def RA{rest:List ExceptHandler}{D:Ends}(I:Inv X pins σ H s)(F:Iq X.prog X.w X.stack H s cls ea H' s')(hg:Gl X x)(hm:X.mg x=some (.ref C))(XH:(x == ("__debug__":Str))=false)
  (hx:W.exmOne X.K cls (.ref C)=some true) (hN:X.N.Nodup) (hi:X.N[i]?=some n) (hl:X.env.kindOf n=some .local) (Y7:X.env.scope.names.lookup n=some .local) (XJ:X.env.cells.lookup n=none)
  (k:∀s2,Inv (j5 X (X.A.mark (some (.ref ea)))) pins (σ.set i (some (.ref ea))) H' s2->ExcAt X.stack H' s2.heap ea cls ->
   wpAny (model X.prog X.w) (X.A.mark (some (.ref ea))) (execs (adN::aaN) X.env) (λf s3=>∃u v σ' H3,f=.ret u/\Inv (j5 X (X.A.mark (some (.ref ea)))) pins σ' H3 s3/\RelV v u/\D.rt v H3) (λ_ _=>False) s2) :
  wpAny (model X.prog X.w) X.A (handleBy (.ref ea) X.env (.ExceptHandler (some (.Name x np)) (some n) (adN::aaN) pos::rest)) (SP X pins D) X.xe s':=by
 have ZV:(X.A.mark (some (.ref ea))).frames=X.A.frames:=rfl;have I1:=F.inv I;let⟨B,a0,XO,hB⟩:=F.fly;let⟨ob,hob,akd⟩:=XO.there;refine wpAny_handleBy_cons (codeAny_handlers_test ?_) (by intro q;cases q);refine ll (X:=j5 X (X.A.mark (some (.ref ea)))) (tE I1 ZV) hg hm ?_ XH;have LT:W.Looks (model X.prog X.w) s'.heap (typeOf (.ref ea)) cls:=λA Q E s2 k2 q=>wpAny_typeOf_ref (k2 _ _ hob) (by rw[akd];exact q);refine (W.exm_one I1.YV LT hx).here ?_;refine codeAny_handlers_suite_as ?_;refine again I F λh2 F2=>?_;let⟨B2,a2,adO,hB2⟩:=F2.fly;let⟨oe,vs,T,oT,ts,he,⟨hec,_⟩,hed,_⟩:=adO.2.2.2;refine qo (X:=X) (i:=i) (v:=.ref ea) (F2.inv I) hN hi (.inl Y7) rfl (λs2 I2 hsb=>?_) (.inr Y7);let⟨a,hsb,ha⟩:=hsb;have hal:a=X.env.locals:=by
  rcases ha with h|h
  ·exact h
  ·rw[XJ] at h;cases h
 subst hal;have XA:ea≠X.env.locals:=λz=>by
  let⟨m,⟨o,es,ep,ho,hd,_⟩,_⟩:=(F2.inv I).loc;rw[<- z] at ho;have:oe=o:=by rw[he] at ho;exact xE ho
  rw[<- this,hed] at hd;cases hd
 have hnf:ea∉iV X.stack:=λz=>by
  let⟨_,o2,e2,d2⟩:=adO.2.2.1.mem z;have:oe=o2:=by rw[he] at e2;exact xE e2
  exact d2 vs (this ▸ hed)
 have hno:H' ea=none:=by
  cases q:H' ea with
  | none=>rfl
  | some u =>
   let⟨o,eo⟩:=hB2 ea hnf (.inl (by rw[q];simp));rw[adO.2.1] at eo;cases eo
 refine xB (k s2 (tE I2 ZV) ⟨⟨oe,vs,(hsb.2 ea XA).trans he,hec,hed⟩,hno,hnf⟩) (λf s3 hz=>?_) λ_ _ z=>z.elim;let⟨u,v,σ',H3,rfl,I3,r,d⟩:=hz;have I4:=EZ I1.ok I3;let⟨m3,hn3,_⟩:=id I4.loc;exact wpAny_nameGoes hl hn3 (by rw[I4.ok.kind];rfl) λh' m' ZU akf=>⟨v,_,H3,Ei I4 ZU akf,r,d⟩
abbrev hV(X:Cx)(pn:List (Addr×Obj))(xe:Value->Shared->Prop):Cx:={ X with pn:=pn,xe:=xe }
def K1(ok:X.Ok):(hV X pn xe).Ok :=
 ⟨ok.mod,ok.kind,ok.glob,ok.blt,ok.above,ok.inj,ok.has,ok.cab,ok.hd,ok.frames,ok.stk,ok.exf,ok.bs,ok.bsz,ok.YY,ok.Zr,ok.X5,ok.frf⟩
def FK(I:Inv X pins σ H s)(h:∀p∈pn++pins',p∈X.pn++pins):Inv (hV X pn xe) pins' σ H s :=
 ⟨K1 I.ok,I.os,I.bare,I.base,I.loc,I.cell,I.free,I.Xo,λp hp=>I.pin p (h p hp),I.Xi,I.len⟩
def HA(ok:X.Ok)(I:Inv (hV X pn xe) pins' σ H s)(h:∀p∈X.pn++pins,p∈pn++pins'):Inv X pins σ H s :=
 ⟨ok,I.os,I.bare,I.base,I.loc,I.cell,I.free,I.Xo,λp hp=>I.pin p (h p hp),I.Xi,I.len⟩
def FH(X:Cx)(i:Nat)(ss:List Stmt)(c:Str)(d:D):Prop:=∀ (pn pins:List (Addr×Obj)) (xe:Value->Shared->Prop) (σ:L2.St) (H:Hp) (s:Shared) (ea C:Addr),X.mg c=some (.ref C)->Inv (j5 (hV X pn xe) (X.A.mark (some (.ref ea)))) pins σ H s->σ[i]?=some (some (.ref ea)) ->
 ExcAt X.stack H s.heap ea (.ref C)->wpAny (model X.prog X.w) (X.A.mark (some (.ref ea))) (execs ss X.env) (λf s3=>∃u v σ' H3,f=.ret u/\Inv (j5 (hV X pn xe) (X.A.mark (some (.ref ea)))) pins σ' H3 s3/\RelV v u/\∀HF,aY HF H->∃X1,b9 HF H X1 H3/\Rep X.K X1 d v) (λ_ _=>False) s
def BF(gb:au->Option Out)(xg:au->Option Str)(fin:Str->Option D):au->Option Out:=λρ=>match gb ρ with
 | some (.rt d)=>some (.rt d)
 | some (.nx _)=>none
 | none=>(xg ρ).bind λc=>(fin c).map Out.rt
def R5{fin:Str->Option D}(hs:X.stack=X.env::X.outer)(hf:X.env.frame=some X.env.locals)
  (hg:Gl X x) (hm:X.mg x=some (.ref CF)) (XH:(x == ("__debug__":Str))=false) (hN:X.N.Nodup) (hi:X.N[i]?=some n) (hl:X.env.kindOf n=some .local) (Y7:X.env.scope.names.lookup n=some .local) (XJ:X.env.cells.lookup n=none)
  (Xi:FI X.XN Xf Xg body gb) (hx:∀pn xe E,fI (Fc X.prog X.w) (hV X pn xe) E->Jc (hV X pn xe) E Xf Xg body xg)
  (akg:∀c d,fin c=some d->(∀C,X.mg c=some (.ref C)->W.exmOne X.K (.ref C) (.ref CF)=some true)/\(∃C,X.mg c=some (.ref C))/\FH X i (adN::aaN) c d) :
  DS X Xf Xg (.Try body [.ExceptHandler (some (.Name x np)) (some n) (adN::aaN) ZI] [] [] pos) (BF gb xg fin):=by
 intro pins s σ H D I ⟨HF,ρ,o,S,hgo,q⟩;refine wpAny_Try_except ?_;unfold BF at hgo;split at hgo
 ·rename_i d hgb;cases hgo;refine xB (Bf.XN Xi pins s σ H { D with nx:=λ_ _=>False,bk:=λ_ _=>False,ct:=λ_ _=>False } I ⟨HF,ρ,.rt d,S,hgb,q⟩ |> λ_=>Xi pins s σ H { D with nx:=λ_ _=>False,bk:=λ_ _=>False,ct:=λ_ _=>False } (I.X8 _) ⟨HF,ρ,.rt d,S,hgb,q⟩) (λf s1 z=>?_) λ_ _ z=>z.elim;cases f with
  | next=>let⟨_,_,_,z⟩:=z;exact z.elim
  | brk=>let⟨_,_,_,z⟩:=z;exact z.elim
  | cont=>let⟨_,_,_,z⟩:=z;exact z.elim
  | ret u=>exact SP.Xu (D:=D) z
 ·cases hgo
 ·let⟨c,hc,hgo⟩:=bs hgo;let⟨d,hd,rfl⟩:=ah hgo;let⟨hex,⟨C,hC⟩,hsu⟩:=akg c d hd;have hxm:=hex C hC;let E1:XK:=λcls _ H'=>cls=.ref C/\∃Xh,b9 Xf Xg Xh H';let xeT:Value->Shared->Prop:=λe s1=>∃pins' σ' Hc s0 ea H',e=.ref ea/\Inv (hV X (X.pn++pins) X.xe) pins' σ' Hc s0/\Iq X.prog X.w X.stack Hc s0 (.ref C) ea H' s1/\∃Xh,b9 Xf Xg Xh H';have hp:fI (Fc X.prog X.w) (hV X (X.pn++pins) xeT) E1:=λpins' σ' Hc s0 e s1 Ic hcx=>by
   let⟨ea,cls,H',rfl,F,rfl,Xh,G⟩:=hcx;exact⟨pins',σ',Hc,s0,ea,H',rfl,⟨K1 I.ok,Ic.os,Ic.bare,Ic.base,Ic.loc,Ic.cell,Ic.free,Ic.Xo,Ic.pin,Ic.Xi,Ic.len⟩,F,Xh,G⟩
  have hI:Inv (hV X (X.pn++pins) xeT) [] σ H s:=FK I λp hp=>by rw[qG] at hp;exact hp
  refine xB (hx _ _ E1 hp [] s σ H ⟨λ_ _=>False,λ_ _=>False,λ_ _=>False,λ_ _=>False⟩ hI ⟨HF,ρ,c,C,S,hc,hC,λH' Xh G=>⟨rfl,Xh,G⟩⟩) (λf s1 z=>?_) λe s1 z=>?_
  ·exfalso;cases f with
   | next=>let⟨_,_,_,z⟩:=z;exact z
   | brk=>let⟨_,_,_,z⟩:=z;exact z
   | cont=>let⟨_,_,_,z⟩:=z;exact z
   | ret u=>let⟨_,_,_,_,_,z⟩:=z;exact z
  ·let⟨pins',σ',Hc,s0,ea,H',rfl,Ic,F,Xh,G⟩:=z;refine land (X:=hV X (X.pn++pins) X.xe) Ic hs hf F λh' F'=>?_;refine cN (RA (X:=hV X (X.pn++pins) X.xe) (D:=⟨λ_ _=>False,λv H3=>D.rt v H3,λ_ _=>False,λ_ _=>False⟩) Ic F' hg hm XH hxm hN hi hl Y7 XJ λs2 I2 hob=>?_) λf s3 z=>?_
   ·have hlen:i < σ'.length:=by rw[Ic.len];exact (List.getElem?_eq_some_iff.mp hi).1
    refine xB (hsu _ _ _ _ _ _ _ C hC I2 (by simp[hlen]) hob) (λf s3 z=>?_) λ_ _ z=>z;let⟨u,v,Zt,H3,rfl,I3,r,z⟩:=z;let⟨X1,g3,rp⟩:=z Xh G.fh;exact⟨u,v,Zt,H3,rfl,I3,r,q v H3 X1 (G.trans g3) rp⟩
   ·cases f with
    | next=>let⟨_,_,_,z⟩:=z;exact z.elim
    | brk=>let⟨_,_,_,z⟩:=z;exact z.elim
    | cont=>let⟨_,_,_,z⟩:=z;exact z.elim
    | ret u =>
     let⟨v,Zt,H3,I3,r,z⟩:=z;exact⟨v,Zt,H3,HA I.ok I3 λp hp=>qK _ hp,r,z⟩
structure F8(P:Program)(w:World)(K:W.Frag)(mg:Str->Option Value)(base:Heap)(k:Nat)(x c:Str)(d:D):Prop where
 ex:∃ (f:Addr) (fd:FuncData) (ps:List Str),mg x=some (.ref f)/\W.keepIn K (.ref f)=true/\Binds K fd ps []/\ps.length=1 /\
  ∀ (A:Around) (outer:List PySem.Env) (s:Shared) (H:Hp) (args:Args) (ea C:Addr),A.depth+3 * k+5 < recursionLimit->A.units+16 * k+200 < cLine->Et P w K mg base A outer s H->BindsTo s fd args (ps.zip [.ref ea])->mg c=some (.ref C)->ExcAt outer H s.heap ea (.ref C) ->
   codeAny (model P w) A (.call (.ref f) args) (λr s'=>∃u,r=.ok (.ret u)/\CE outer P w H s (λv H'=>∀HF,aY HF H->∃Xh,b9 HF H Xh H'/\Rep K Xh d v) u s') s
def HH(R:F8 X.prog X.w X.K X.mg X.base k x c d)(hr:ft k X.A)(hg:Gl X x)(XH:(x == ("__debug__":Str))=false)(hi:X.N[i]?=some n)(hl:X.env.kindOf n=some .local)(Y7:X.env.scope.names.lookup n=some .local)(YS:(n == ("__debug__":Str))=false) :
  FH X i [.Return (some (.Call (.Name x p) [.Name n pe] [] cpos)) pos] c d:=by
 let⟨f,fd,ps,hm,hk,hb,Yb,run⟩:=R.ex;intro pn pins xe σ H s ea C hC I hσ hob;have ev:∀ {Q:Value->Shared->Prop},Q (.ref ea) s->wpAny (model X.prog X.w) (X.A.mark (some (.ref ea))) (eval (.Name n pe) X.env) Q (λ_ _=>False) s:=λ{Q} q=>by
  let⟨m,hn,hlo⟩:=I.loc;let⟨u,r,l⟩:=hlo i n (.ref ea) hi hσ (.inl Y7);have r:u=.ref ea:=r;subst r;rcases l with ⟨hk,hm⟩|⟨hk,_⟩
  ·exact wY (wN I.ok.kind hk hn hm q) YS
  ·have hk:X.env.kindOf n=some .cell\/X.env.kindOf n=some .free:=hk;rw[hl] at hk;rcases hk with hk|hk<;>cases hk
 have key:wpAny (model X.prog X.w) (X.A.mark (some (.ref ea))) (eval (.Call (.Name x p) [.Name n pe] [] cpos) X.env) (EP (j5 (hV X pn xe) (X.A.mark (some (.ref ea)))) pins σ (λv H'=>∀HF,aY HF H->∃Xh,b9 HF H Xh H'/\Rep X.K Xh d v)) (λ_ _=>False) s:=by
  refine qZ (ll I hg hm ?_ XH);refine W.callWith_K (h₀:=X.base) I.ok.mod.kin hk (jK (ev (kM ⟨I.YV,?_⟩))) rfl rfl;refine vT (jT (run _ X.stack s H ⟨[.ref ea],[]⟩ ea C hr.dp hr.un I.aes (by have:=hb s [.ref ea] I.YV (by simp[Yb]);simpa using this) hC hob) λr s' hq=>?_);let⟨u,rfl,hq⟩:=hq;exact I.after hq
 refine vO (wpAny_Return_some (xB key (λu s3 z=>?_) λ_ _ z=>z));let⟨v,H3,I3,r,z⟩:=z;exact⟨u,v,σ,H3,rfl,I3,r,z⟩
open PySem PySem.W PySem.Spec PySem.Calls PyProof.Rows
section
variable {K:Frag}{x D:Addr}
def Iy(X:K.In h)(ha:findIn K (.ref D) name=some (some a))(hg:specialIn K a "__get__"=some (some g))(ht:takesIn K a=some true):Looks M h (Builtin.ObjectAttr.find self (.ref D) name) (.bind g a):=by
 refine (looks_findIn X ha).andThen ?_;refine (show Looks M h (Builtin.ObjectAttr.getOf (some a)) (some g) from looks_specialIn X hg).andThen ?_;refine (show Looks M h (Builtin.ObjectAttr.dataDescriptor? (some a) (some g)) (some (g,a)) from (looks_takesIn X ht).andThen .now).andThen ?_;exact Looks.tag .now
def Km(X:K.In s.heap)(L0:Looks (model prog w) s.heap (typeOf (.ref x)) (.ref D))(hm:mroIn K D (.type "object")=some true)
  (h:R (.ok (.ret (.ref D))) s):codeAny (model prog w) A (.call (.builtin "getset_descriptor.__get__") ⟨[.builtin "object.__class__",.ref x,tp],[]⟩) R s:=by
 have LI:Looks (model prog w) s.heap (isInstance (.ref x) (.type "object")) true:=L0.andThen (looks_mroIn X hm);let⟨hh,g,dr,t,os⟩:=s;refine wQ KF.slot_gs.plain KF.entry_gs (KF.slot_gs.check _ _ _ _ _ _ _ _ KF.type_class (KF.args_gs _ _ _) ?_);unfold Builtin.«getset_descriptor.__get__» Builtin.Getset_descriptor.descrGet;rw[dga_obj];refine zV (zW ?_);unfold Builtin.Getset_descriptor.descrGetter Builtin.Getset_descriptor.descrCheckInstance Builtin.Getset_descriptor.descrNameAndClass;simp?[KF.owner_class]
 repeat lk
 refine⟨Ze _ (by decide +kernel),kJ KF.entry_class ?_⟩;unfold Builtin.«object.__class__» shownTypeOf
 repeat lk
 exact h
def IW(X:K.In s.heap)(ho:s.heap.get? x=some ox)(XJ:ox.cls=.ref D)(hga:findIn K (.ref D) "__getattribute__"=some (some (.builtin "BaseException.__getattribute__")))(hno:findIn K (.ref D) "__getattr__"=some none)
  (ha:findIn K (.ref D) "__class__"=some (some (.builtin "object.__class__"))) (hn:specialIn K (.builtin "object.__class__") "__get__"=some (some (.builtin "getset_descriptor.__get__"))) (htk:takesIn K (.builtin "object.__class__")=some true) (hm:mroIn K D (.type "object")=some true) (hb:subIn K (.ref D) (.type "BaseException")=some true)
  (h:Q (some (.ref D)) { s with toks:=s.toks+1 }):wpAny (model prog w) A (getAttr? (.ref x) "__class__") Q E s:=by
 let⟨hh,g,d,t,os⟩:=s;have L0:Looks (model prog w) hh (typeOf (.ref x)) (.ref D):=XJ ▸ (Looks.ld ho).andThen .now;have L1:=looks_findIn (M:=model prog w) X hga;have L2:=looks_findIn (M:=model prog w) X hno;have LF:=Iy (M:=model prog w) (self:=.ref x) X ha hn htk;have LI:Looks (model prog w) hh (isInstance (.ref x) (.type "BaseException")) true:=L0.andThen (looks_subIn X hb);unfold getAttr? getAttrBy? getAttrBy;refine zV (wpAny_mkText (zV (vA (xY (zV (L0.at (zV (L1.at ?_))))))));have hx2:(Value.builtin "BaseException.__getattribute__" == Value.builtin "object.__getattribute__")=false:=by decide +kernel
 simp?[hx2,vF,yP,qQ];unfold getAttrByItsOwn hookBefore;refine zV ?_;show wpAny _ _ (typeLookup (.ref D) "__getattr__") _ _ _;refine L2.at ?_;refine zV (vA (xY ?_));show wpAny _ _ (boundAndCalled (.builtin "BaseException.__getattribute__") (.ref x) (.str "__class__" t)) _ _ _;unfold boundAndCalled;refine zV (wpAny_of_eq (F.attr_ValueError.ga.bind (.ref x)) ?_);refine vT (wQ F.attr_ValueError.ga.plain F.entry_bexc_ga ?_);have hk:builtinKind "BaseException.__getattribute__"=some .slot:=by decide +kernel
 have adQ:splitId "BaseException.__getattribute__"=some ("BaseException","__getattribute__"):=by decide +kernel
 simp?[checkBuiltinCall,hk,adQ];refine zV (LI.at ?_);simp?[xZ,yP,qQ];have ae6:argsOk "BaseException.__getattribute__" ⟨[.ref x]++[.str (Str.ofString "__class__") t],[]⟩:=F.args_bexc_ga _ _;have body:∀ {P:Fin->Shared->Prop}{E':Value->Shared->Prop},P (.done (.ret (.ref D))) ⟨hh,g,d,t+1,os⟩->wpAny (model prog w) A.in1 (Builtin.«object.__getattribute__» ⟨[.ref x]++[.str (Str.ofString "__class__") t],[]⟩) P E' ⟨hh,g,d,t+1,os⟩:=λ{P E'} q=>by
  unfold Builtin.«object.__getattribute__»;refine zV (zW ?_);refine zV (zW ?_);refine zV (L0.at ?_);refine zV (LF.at ?_);show wpAny _ _ (holding [.builtin "object.__class__"] (call (.builtin "getset_descriptor.__get__") [.builtin "object.__class__",.ref x,.ref D]) >>= ret) _ _ _;exact zV (xY (vT (Km (s:=⟨hh,g,d,t+1,os⟩) X L0 hm (zW q))))
 cases aki:Manifest.signature? "BaseException.__getattribute__" with
 | none=>exact zW (body (handed_on rfl (zW h)))
 | some sig =>
  have ha':Bind.checkArgs "BaseException.__getattribute__" sig ⟨[.ref x]++[.str (Str.ofString "__class__") t],[]⟩=pure ():=by simpa only[argsOk,aki] using ae6
  simp?[ha'];exact zW (body (handed_on rfl (zW h)))
structure Ol(K:Frag)(C:Addr):Prop where
 ga:findIn K (.ref C) "__getattribute__"=some (some (.builtin "BaseException.__getattribute__"))
 no:findIn K (.ref C) "__getattr__"=some none
 cl:findIn K (.ref C) "__class__"=some (some (.builtin "object.__class__"))
 hn:specialIn K (.builtin "object.__class__") "__get__"=some (some (.builtin "getset_descriptor.__get__"))
 tk:takesIn K (.builtin "object.__class__")=some true
 ob:mroIn K C (.type "object")=some true
 be:subIn K (.ref C) (.type "BaseException")=some true
 ci:(clsIn K C).isSome=true
def Ku(k:Ol K D):KitX K (.ref x) (.ref D) (λh=>h.get? x=some ox/\ox.cls=.ref D) where
 ty:=λ_ _ _ p=>p.2 ▸ (Looks.ld p.1).andThen .now
 it:=λ_ _ X _=>by
  have hc:=k.ci;unfold clsIn at hc;split at hc
  ·rename_i ho;intro A' Q' E' s' kp q;unfold isType loadHead;exact zV (wpAny_loadPart (kp _ _ (X _ _ ho)) (zW q))
  ·cases hc
 ne:=λh tp dd its n sl X htp=>by
  have hc:=k.ci;refine Bool.eq_false_iff.mpr λq=>?_;have e:D=tp:=Value.ref.inj (beq_iff_eq.mp q);subst e;unfold clsIn at hc;split at hc
  ·rename_i ho;have z:=(X _ _ ho).symm.trans htp;cases z
  ·cases hc
 ca:=λX p q=>IW X p.1 p.2 k.ga k.no k.cl k.hn k.tk k.ob k.be q
def Fg(k:Ol K D)(X:K.In s.heap)(ho:s.heap.get? x=some ox)(hc:ox.cls=.ref D)(e:kitOne K (.ref D) c=some b)(h:∀tk,Q (.bool b) { s with toks:=tk }) :
  wpAny (model prog w) A (call (.builtin "isinstance") [.ref x,c]) Q E s:=kia_one (Ku k) X ⟨ho,hc⟩ e (λz=>nomatch z) h
end
abbrev D4(A:Around):Around:={ A with handled:=none }
abbrev Gf(P:Program)(w:World)(K:W.Frag)(mg:Str->Option Value)(base:Heap)(N:List Str)(qual:Str)(scope:Scope)(f:Addr)(Xy:Value)(A:Around)(outer:List PySem.Env)(s:Shared)(H:Hp)(pn:List (Addr×Obj)):Cx :=
 hV (j5 (uz MX P w K mg base N qual scope f Xy (D4 A) outer s H E0) (A.deeper (envOfC qual scope s.heap.objs.size f Xy))) pn λ_ _=>False
section
variable {K:W.Frag}
def IK{C:Addr}{st:Stmt}(F:Kx K x qual st f fd)(S:dq N ps (ao st))(h1:ps.length=1)
  (hdp:A.depth < recursionLimit) (e0:Et P w K mg base A outer s H) (hb:BindsTo s fd args (ps.zip [.ref ea])) (ho:s.heap.get? ea=some ob) (hd:ob.data=.fields vs) (hn:H ea=none) (hf:ea∉iV outer)
  (body:∀ (Xy:Value) (s1:Shared),Inv (Gf P w K mg base N qual (ao st) f Xy A outer s H [(ea,ob)]) [] (L2.start N [.ref ea]) H s1 ->
   wpAny (model P w) (A.deeper (envOfC qual (ao st) s.heap.objs.size f Xy)) (execs (bF st) (envOfC qual (ao st) s.heap.objs.size f Xy)) (λfl s'=>∃u v σ' H',fl=.ret u/\Inv (Gf P w K mg base N qual (ao st) f Xy A outer s H [(ea,ob)]) [] σ' H' s'/\RelV v u/\Q v H') (λ_ _=>False) s1) :
  codeAny (model P w) A (.call (.ref f) args) (λr s'=>∃u,r=.ok (.ret u)/\CE outer P w H s Q u s') s:=by
 let⟨oc,od,kV,doc,pm,an,Xy,ct,Zu,rfl,lk,XM⟩:=F.ex;have KX:K.In s.heap:=e0.mod.kin.keeps λb o e=>(e0.bs b o e).1;have lim:s.heap.NoLimit:=e0.mod.nolimit.keeps λb o e=>(e0.bs b o e).1;have aaA:∀y∈ps.zip [Value.ref ea],(ao st).names.lookup y.1=some .local \/ ((ao st).names.lookup y.1=some .cell/\((cellsFrom (s.heap.objs.size+1) (ao st).names []).lookup y.1).isSome=true):=λ⟨n,v⟩ hy=>by
  rcases S.par n (wF hy).1 with q|q
  ·exact .inl q
  ·exact .inr ⟨q,W.cellsFrom_some _ _ _ (.inl q)⟩
 refine codeAny_call_function hdp (KX _ _ lk) rfl S.co S.gen rfl (W.codeRec_of KX XM) (hb _ _ _ _ ?_);refine wpAny_newFunctionEnv_cells S.kind aaA λenv he s1 x=>?_;subst he;refine⟨lim.keeps x.toInCall.keep,codeAny_func ?_⟩;have e0':Et P w K mg base (D4 A) outer s H:=⟨e0.frames,e0.mod,e0.bs,e0.bsz,e0.X5,e0.frf,e0.Xi,e0.bare⟩
 have I0:Inv (uz MX P w K mg base N qual (ao st) f Xy (D4 A) outer s H E0) [] (L2.start N [.ref ea]) H s1:=yp S rfl e0' (by simp[h1]) (.cons rfl .nil) x;have Xw:ea < s.heap.objs.size:=zY ho;have I1:=I0.YO (pins':=[(ea,ob)]) λp hp=>by
  have hp:p=(ea,ob):=by simpa using hp
  subst hp;exact⟨x.toInCall.keep _ _ ho,hn,yS Xw,hf,λv z=>by rw[hd] at z;cases z⟩
 have I2:Inv (Gf P w K mg base N qual (ao st) f Xy A outer s H [(ea,ob)]) [] (L2.start N [.ref ea]) H s1:=FK (tE I1 rfl) λp hp=>yE _ (by simpa using hp);refine xB (body Xy s1 I2) (λfl s' z=>?_) λ_ _ z=>z.elim;let⟨u,v,σ',H',rfl,J,r,q⟩:=z;exact⟨u,rfl,v,H',J.os,J.bare,J.base,J.Xi,r,q⟩
end
def RE{i:Nat}{n y:Str}{ea C:Addr}{ob:Obj}{c:Value}{b:Bool}{p p1 p2 pos:Pos}(k:Ol X.K C)(hpn:(ea,ob)∈X.pn)(YZ:ob.cls=.ref C)(hgi:Gl X "isinstance")(hmi:X.mg "isinstance"=none)(hi:X.N[i]?=some n)(hl:X.env.kindOf n=some .local)(Y7:X.env.scope.names.lookup n=some .local)(YS:(n == ("__debug__":Str))=false)
  (hy:∀ {pins:List (Addr×Obj)}{σ:L2.St}{H:Hp}{s:Shared}{Q:Value->Shared->Prop},Inv X pins σ H s->Q c s->wpAny (model X.prog X.w) X.A (eval (.Name y p2) X.env) Q X.xe s) (e:W.kitOne X.K (.ref C) c=some b) :
  PE X (.Call (.Name "isinstance" p) [.Name n p1,.Name y p2] [] pos) (λσ H Q=>σ[i]?=some (some (.ref ea))/\Q (.bl b) H):=by
 intro pins s σ H Q I ⟨hσ,q⟩;have ev:∀ {Q:Value->Shared->Prop},Q (.ref ea) s->wpAny (model X.prog X.w) X.A (eval (.Name n p1) X.env) Q X.xe s:=λ{Q} q=>by
  let⟨m,hn,hlo⟩:=I.loc;let⟨u,r,l⟩:=hlo i n (.ref ea) hi hσ (.inl Y7);have r:u=.ref ea:=r;subst r;rcases l with ⟨hk,hm⟩|⟨hk,_⟩
  ·exact wY (wN I.ok.kind hk hn hm q) YS
  ·have hk:X.env.kindOf n=some .cell\/X.env.kindOf n=some .free:=hk;rw[hl] at hk;rcases hk with hk|hk<;>cases hk
 have ho:=(I.pin (ea,ob) (qK _ hpn)).1;refine qZ (k7 I hgi hmi (u:=.builtin "isinstance") (by decide +kernel) ?_);refine PyProof.Rows.callWith_builtin1 (jK (ev (jK (hy I (kM ?_))))) rfl rfl;exact Fg k I.YV ho YZ e λtk=>⟨.bl b,H,I.tok tk,rfl,q⟩
def LB(d:D)(xs:List D):Nat:=xs.countP λx=>PyData.eqv x d
def HW(hu:X.A.units+66 < cLine):Ss X "list.count" (λx vs H Q=>∃ (HF:Hp) (ds:List D) (d:D) (y:V),aY HF H/\Rep X.K HF (.list ds) x/\vs=[y]/\Rep X.K HF d y/\SeqAt.shaped d=true/\SeqAt.shaped (.list ds)=true/\Q (.int (LB d ds)) H):=by
 intro pins s σ H x vs v us Q I rx rv h;let⟨HF,ds,d,y,sm,r1,rfl,r2,hd,hl,q⟩:=h;let⟨u,rfl,ru⟩:=rv.one;let⟨as,ra⟩:=eW I sm r1 rx;let⟨bs,rb⟩:=eW I sm r2 ru;have c1:=kN hd;have c2:=kN hl;have d1:=SeqAt.depth_of_shaped hd;simp?[PyData.canLay0] at c2;have m:=Nat.min_le_right (PyData.depthAll ds) d.depth;cases ra with
 | list h1 h2 h3 h4 =>
  rename_i l o its n as;let⟨cls,dd,data,sl⟩:=o;simp only at h2 h3;subst h2 h3;have hm:=SeqAt.readsAll_map _ _ _ c2 h4;refine qY F.slot_list_count ⟨_,h1,rfl⟩ F.entry_list_count (F.args_list_count_2 _ _) (PySem.SeqAt.list_countAt l its n dd sl u (λy=>PyData.eqv (SeqAt.readOf s.heap y) d)) ⟨h1,?_,?_⟩
  ·exact SeqAt.items_eqAt h4 rb c2 c1 (by lia)
  ·refine⟨.int (LB d ds),H,I.tok _,⟨s.toks,?_⟩,q⟩;rw[LB,<- hm,List.countP_map];rfl
def mL(X:Cx)(ea:Addr)(es:List Expr)(bs:List Bool):Prop:=PA X es (λσ H Q=>σ[0]?=some (some (.ref ea))/\Q (bs.map V.bl) H)
def Rv:mL X ea [] []:=λpos pins s σ H Q I ⟨_,q⟩=>fE pos pins s σ H Q I q
def Pm{bs:List Bool}(h:PE X e (λσ H Q=>σ[0]?=some (some (.ref ea))/\Q (.bl b) H))(hr:mL X ea es bs)(hs:starEach (e::es) X.env=(false,eval e X.env)::starEach es X.env:=by rfl):mL X ea (e::es) (b::bs) :=
 Ek (cL h hr hs) λσ H Q ⟨h0,q⟩=>⟨h0,h0,q⟩
def fN{K:W.Frag}:∀bs:List Bool,aC K H (bs.map PyData.bool) (bs.map V.bl)
 | []=>rfl
 | b::bs=>⟨_,_,rfl,rfl,fN bs⟩
def oo(bs:List Bool):SeqAt.shaped (.list (bs.map PyData.bool))=true:=by
 have h:∀bs:List Bool,PyData.canLayAll0 (bs.map PyData.bool)=true/\PyData.depthAll (bs.map PyData.bool)<=1:=λbs=>by
  induction bs with
  | nil=>exact⟨by simp[PyData.canLayAll0],by simp[PyData.depthAll]⟩
  | cons b bs ih=>exact⟨by simp[PyData.canLayAll0,PyData.canLay0,ih.1],by simp[PyData.depthAll,PyData.depth];lia⟩
 have:=h bs;unfold SeqAt.shaped;rw[zF];exact⟨by simp[PyData.canLay0,this.1],by simp[PyData.depth];lia⟩
def Lq{a1 a2 a3 b6:Pos}(hu:X.A.units+66 < cLine)(hN:X.N=[("_law_e":Str),("_law_flags":Str)])(hl:X.env.scope.names.lookup ("_law_flags":Str)=some .local)
  (h1:mL X ea es1 bs1) (h2:mL X ea es2 bs2) (h6:PE X e6 (λσ H Q=>σ[0]?=some (some (.ref ea))/\Q (.bl true) H)) (w6:∀whole,isTrue e6 X.env whole=(do let v <- whole;standAt e6.pos;holding [v] (truthy v)))
  (hc:LB (.bool true) ((bs1++bs2).map PyData.bool)=1) (hj:Ai (.bool true) ((bs1++bs2).map PyData.bool)=some j) (hz:bs1.length+bs2.length<=sizeLine) (l1:(c2.endLine == c4.line)=true) (l2:(d2.endLine == d4.line)=true) :
  Bf X [.Assign [.Name "_law_flags" a1] (.List es1 a2) a3,.Assign [.Name "_law_flags" b1] (.BinOp (.Name "_law_flags" b2) .Add (.List es2 b3) b4) b5,
   .If (.BoolOp .Or [.Compare (.Call (.Attribute (.Name "_law_flags" c1) "count" c2) [.Constant (.bool true) i1 c3] [] c4) [.NotEq] [.Constant (.int 1) i2 c5] c6,.UnaryOp .Not e6 c7] c8) bad [] c9,
   .Return (some (.Tuple [.Constant (.str "refused") i3 d1,.Call (.Attribute (.Name "_law_flags" d3) "index" d2) [.Constant (.bool true) i4 d5] [] d4] k1 d6)) d7]
   (λD σ H=>σ.length=2/\σ[0]?=some (some (.ref ea))/\∀v H',(∀HF,aY HF H->∃Xh,b9 HF H Xh H'/\Rep X.K Xh (.tuple [.str "refused",.int j]) v)->D.rt v H'):=by
 have YS:X.N.Nodup:=by rw[hN];decide
 have hi:X.N[1]?=some ("_law_flags":Str):=by rw[hN];rfl
 have hlc:Loc X.env.scope ("_law_flags":Str):=.inl hl;have hv:MT X.env.scope ("_law_flags":Str):=.inl hl;have akk:Bf X bad (λ_ _ _=>False):=λ_ _ _ _ _ _ z=>z.elim;have p1:=uV (pos':=a1) (pos:=a3) YS hi hlc (Fm (pos:=a2) h1) rfl (.inr hl);have p2:=uV (pos':=b1) (pos:=b5) YS hi hlc (FC (pos:=b4) va (kg (pos:=b2) hi hv) (Fm (pos:=b3) h2)) rfl (.inr hl);have p3:=Mv (pos:=c9) (PW.pt (PV (pos:=c8) (Gi (pos:=c6) Us (uR (apos:=c2) (cpos:=c4) qP PySem.F.slot_list_count PySem.F.type_list_count (HW hu) (kg (pos:=c1) hi hv) (cL (Ls (b:=true) (j:=i1) (pos:=c3)) fE) rfl rfl l1) (Fq (i:=1) (j:=i2) (pos:=c5)) (Dy _ (by decide) (by decide))) (K0 (pos:=c8) (Ki (pos:=c7) (L5 h6 w6))))) akk Af;have p4:=Ef (pos:=d7) (Kc (x1:=k1) (pos:=d6) (cL (Ld (x:="refused") (j:=i3) (pos:=d1)) (cL (uR (apos:=d2) (cpos:=d4) qP PySem.F.slot_list_index PySem.F.type_list_index (IB hu) (kg (pos:=d3) hi hv) (cL (Ls (b:=true) (j:=i4) (pos:=d5)) fE) rfl rfl l2) fE)));refine sT (ja p1 (ja p2 (ja p3 (ja p4 Af)))) λD σ H ⟨hlen,h0,q⟩=>?_;refine⟨h0,by rw[zD];lia,λp hp=>?_⟩;have s1:∀v:V,(σ.set 1 (some v))[1]?=some (some v):=λv=>by simp[hlen]
 have s0:∀v:V,(σ.set 1 (some v))[0]?=some (some (.ref ea)):=λv=>by simp[h0]
 refine⟨.ref p,s1 _,s0 _,by rw[zD];lia,λp2 hp2=>⟨p,p2,bs1.map V.bl,bs2.map V.bl,rfl,rfl,.inl (.inl ?_),.inl (.inl aO),by rw[zD,zD];exact hz,λp3 hp3=>?_⟩⟩
 ·rw[aG (λz=>by rw[z] at hp2 ;rw[aO] at hp2;cases hp2)];exact aO
 have t1:∀v w:V,((σ.set 1 (some w)).set 1 (some v))[1]?=some (some v):=λv w=>by simp[hlen]
 have t0:∀v w:V,((σ.set 1 (some w)).set 1 (some v))[0]?=some (some (.ref ea)):=λv w=>by simp[h0]
 let H3:Hp:=upd (upd (upd H p (.lst (bs1.map V.bl))) p2 (.lst (bs2.map V.bl))) p3 (.lst (bs1.map V.bl++bs2.map V.bl));have hsm:aY H H3:=λb o e=>by
  have n1:b≠p:=λz=>by rw[z,hp] at e;cases e
  have e1:upd H p (.lst (bs1.map V.bl)) b=some o:=by rw[aG n1];exact e
  have n2:b≠p2:=λz=>by rw[z,hp2] at e1;cases e1
  have e2:upd (upd H p (.lst (bs1.map V.bl))) p2 (.lst (bs2.map V.bl)) b=some o:=by rw[aG n2];exact e1
  have n3:b≠p3:=λz=>by rw[z,hp3] at e2;cases e2
  show upd _ p3 _ b=some o;rw[aG n3];exact e2
 have hls:iW X.K H3 p3 ((bs1++bs2).map V.bl):=by
  rw[jB];exact .inl (.inl aO)
 have hrp:Rep X.K H3 (.list ((bs1++bs2).map PyData.bool)) (.ref p3):=⟨p3,_,rfl,hls,fN _⟩
 have YQ:SeqAt.shaped (.bool true)=true:=by decide
 refine⟨.ref p3,t1 _ _,.inl ⟨rfl,_,hls⟩,H3,_,.bool true,.bl true,.refl _,hrp,rfl,rfl,YQ,oo _,?_⟩;rw[hc];refine⟨rfl,?_⟩;refine⟨false,rfl,?_⟩;refine sf ?_;refine⟨t0 _ _,true,rfl,?_⟩;refine sf ?_;refine⟨.ref p3,t1 _ _,.inl ⟨rfl,_,hls⟩,H3,_,.bool true,.bl true,j,.refl _,hrp,rfl,rfl,YQ,oo _,by rw[zD,zN];exact hz,hj,(show 2<=sizeLine by decide),λp4 hp4=>?_⟩;have hp4:H3 p4=none:=hp4;refine q (.ref p4) _ λHF sm=>⟨upd HF p4 (.tup [.str "refused",.int j]),⟨λb o e=>?_,λb o e=>?_,λb o e=>?_,λb o e=>?_⟩,p4,_,rfl,.inl (.inl aO),?_⟩
 ·have e3:=hsm b o e;rw[aG (λz=>by rw[z,hp4] at e3;cases e3)];exact e3
 ·have e3:=hsm b o (sm b o e);rw[aG (λz=>by rw[z,hp4] at e3;cases e3)];exact e
 ·by_cases z:b=p4
  ·subst z;rw[aO] at e ⊢;exact e
  ·rw[aG z] at e ⊢;exact hsm b o (sm b o e)
 ·by_cases z:b=p4
  ·subst z;refine .inr ?_;cases w:H b with
   | none=>rfl
   | some u=>have:=hsm b u w;rw[hp4] at this;cases this
  ·rw[aG z] at e;exact .inl e
 ·exact⟨_,_,rfl,rfl,_,_,rfl,rfl,rfl⟩
open PySem L2 Dl PySem.Spec PyProof.Rows Rf
abbrev XE:=Dl.Env->Option Str
abbrev XS:=au->Option Str
abbrev XT:=List (Str×Nat×(List D->Option Str))
def Pb:XE:=λ_=>none
def oX:XS:=λ_=>none
def nW(x:XE):XS:=λρ=>x (aJ ρ)
def Uh(c:Str):XS:=λ_=>some c
def iH(xh:XS)(g:GS)(xr:XS):XS:=λρ=>match xh ρ with
 | some c=>some c
 | none=>KW g xr ρ
def Ab(P:Program)(w:World)(K:W.Frag)(mg:Str->Option Value)(base:Heap)(j:Nat)(l:XT):Prop:=∀x n m,l.lookup x=some (n,m)->GP P w K mg base j x n m
def Vd(fx:XT)(sc:Scope)(T:Tr)(x:Str)(a:Expr)(as:List Expr):Option XE:=match fx.lookup x with
 | some (m,xm)=>if (Bq sc x&&((a::as).all λe=>!isStar e)&&!(x == ("__debug__":Str)))=true then (Bx T (a::as)).map λfs=>AV m xm fs else none
 | none=>none
def L9(hl:Jo X E a xf)(hm:behindInMarks op b=false):Jo X E (.Compare a [op] [b] pos) xf:=λpins s σ H Q I h=>wpAny_Compare1 (cN (hl pins s σ H (λ_ _=>False) I h) λu s1 ⟨_,_,_,_,z⟩=>z.elim) hm
def MW(fx:XT)(sc:Scope)(N:List Str)(T:Tr):Nat->Expr->Option XE
 | 0,_=>none
 | n+1,e=>match e with
  | .Call (.Name x _) (a::as) [] _=>Vd fx sc T x a as
  | .Compare a [.Eq] [_] _=>MW fx sc N T n a
  | .Compare a [.IsNot] [_] _=>MW fx sc N T n a
  | .IfExp c a b _=>(T.t c).bind λt=>match MW fx sc N T n a,MW fx sc N T n b with
   | none,none=>none
   | xa,xb=>some (Fe t (xa.getD Pb) (xb.getD Pb))
  | _=>none
def vt(f:Stmt->Option XS)(tS:Stmt->Option GS):List Stmt->Option XS
 | []=>none
 | s::r=>match f s,vt f tS r with
  | none,none=>none
  | some xh,none=>some xh
  | none,some xr=>(tS s).map λg=>KW g xr
  | some xh,some xr=>match tS s with
   | some g=>some (iH xh g xr)
   | none=>some xh
def Nq(cl:List Str)(fx:XT)(sc:Scope)(N:List Str)(T:Tr)(tS:Stmt->Option GS):Nat->Stmt->Option XS
 | 0,_=>none
 | n+1,st=>match st with
  | .Return (some e) _=>(MW fx sc N T 4 e).map nW
  | .Expr e _=>if A9 e=true then (MW fx sc N T 4 e).map nW else none
  | .Assign [.Name x _] e _=>(N.idxOf? x).bind λi=>if (tG N sc i x&&!E5 e)=true then (MW fx sc N T 4 e).map nW else none
  | .If c a b _=>(T.t c).bind λt=>match vt (Nq cl fx sc N T tS n) tS a,vt (Nq cl fx sc N T tS n) tS b with
   | none,none=>none
   | xa,xb=>some (LX t (xa.getD oX) (xb.getD oX))
  | .Raise (some (.Call (.Name x _) [.Constant (.str _) _ _] [] _)) none _=>if (cl.contains x&&Bq sc x&&!(x == ("__debug__":Str)))=true then some (Uh x) else none
  | _=>none
section
variable {tS:Stmt->Option GS}
def TY:Jo X E e Pb:=λpins s σ H Q I ⟨HF,ρ,c,C,_,_,h,_⟩=>by cases h
def Pv{st:List Stmt}:Jc X E Xf Xg st oX:=λpins s σ H Q I ⟨HF,ρ,c,C,_,h,_⟩=>by cases h
def QE(C:Bk X.XN N sc k)(O:dS X.XN T)(hx:Ab X.prog X.w X.K X.mg X.base k fx)(hp:fI (Fc X.prog X.w) X E)(h:Vd fx sc T x a as=some xf):Jo X E (.Call (.Name x p) (a::as) [] pos) xf:=by
 unfold Vd at h;split at h
 ·rename_i m xm hl;split at h
  ·rename_i hc;simp?[zF] at hc;let⟨fs,YW,rfl⟩:=ah h;have YQ:isStar a=false/\(as.all λe=>!isStar e)=true:=by
    have:=hc.1.2;rw[xU,zF] at this;exact⟨by simpa using this.1,this.2⟩
   exact Nr (hx x m xm hl) C.room hp (C.gl hc.1.1) (dX O YW) (by simpa using hc.2) (bX (by simpa using YQ.1)) (eD YQ.2)
  ·cases h
 ·cases h
def pX(C:Bk X.XN N sc k)(B:Bn X)(O:dS X.XN T)(hx:Ab X.prog X.w X.K X.mg X.base k fx)(hp:fI (Fc X.prog X.w) X E):∀ (n:Nat) {e:Expr}{xf:XE},MW fx sc N T n e=some xf->Jo X E e xf
 | 0,e,xf,h=>by cases h
 | n+1,e,xf,h=>by
  have ih:∀ {e:Expr}{o:Option XE},MW fx sc N T n e=o->Jo X E e (o.getD Pb):=λ{e o} h=>by
   cases o with
   | none=>exact TY
   | some x=>exact pX C B O hx hp n h
  unfold MW at h;split at h
  ·exact QE C O hx hp h
  ·exact L9 (pX C B O hx hp n h) (eE _)
  ·exact L9 (pX C B O hx hp n h) (Dy _ (by decide) (by decide))
  ·let⟨t,ht,h⟩:=bs h;split at h
   ·cases h
   ·cases h;exact S9 (O.t _ _ ht) (ih rfl) (ih rfl)
  ·cases h
def OA{st:Stmt}(h1:DX X E Xf Xg st xh)(h2:DS X.XN Xf Xg st g)(h3:Jc X E Xf Xg rest xr):Jc X E Xf Xg (st::rest) (iH xh g xr):=λpins s σ H D I ⟨HF,ρ,c,C,S,hx,hc,q⟩=>by
 unfold iH at hx;split at hx
 ·rename_i c' hh;cases hx;exact tU h1 pins s σ H D I ⟨HF,ρ,c,C,S,hh,hc,q⟩
 ·exact CC h2 h3 pins s σ H D I ⟨HF,ρ,c,C,S,hx,hc,q⟩
def Bo(hf:∀s x,f s=some x->DX X E Xf Xg s x)(ht:∀s g,tS s=some g->DS X.XN Xf Xg s g):∀ {l:List Stmt}{x:XS},vt f tS l=some x->Jc X E Xf Xg l x
 | [],x,h=>by cases h
 | s::r,x,h=>by
  have ih:=λx=>Bo hf ht (l:=r) (x:=x);unfold vt at h;split at h
  ·cases h
  ·rename_i h1 h2;cases h;exact tU (hf _ _ h1)
  ·rename_i h1 h2;let⟨g,hg,rfl⟩:=ah h;exact CC (ht _ _ hg) (ih _ h2)
  ·rename_i h1 h2;split at h
   ·rename_i g hg;cases h;exact OA (hf _ _ h1) (ht _ _ hg) (ih _ h2)
   ·cases h;exact tU (hf _ _ h1)
def Wf(X:Cx)(E:XK)(Xf Xg:Hp)(cl:List Str):Prop:=∀x∈cl,Gl X x->(x == ("__debug__":Str))=false->∀ (np cpos pos p:Pos) (t:Str) (i:Nat),DX X E Xf Xg (.Raise (some (.Call (.Name x np) [.Constant (.str t) i p] [] cpos)) none pos) (Uh x)
def JB(C:Bk X.XN N sc k)(B:Bn X)(O:dS X.XN T)(hx:Ab X.prog X.w X.K X.mg X.base k fx)(hp:fI (Fc X.prog X.w) X E)(hr:Wf X E Xf Xg cl)(ht:∀s g,tS s=some g->DS X.XN Xf Xg s g):∀ (n:Nat) {st:Stmt}{x:XS},Nq cl fx sc N T tS n st=some x->DX X E Xf Xg st x
 | 0,st,x,h=>by cases h
 | n+1,st,x,h=>by
  have ih:∀ {l:List Stmt}{o:Option XS},vt (Nq cl fx sc N T tS n) tS l=o->Jc X E Xf Xg l (o.getD oX):=λ{l o} h=>by
   cases o with
   | none=>exact Pv
   | some x=>exact Bo (λs x h=>JB C B O hx hp hr ht n h) ht h
  unfold Nq at h;split at h
  ·let⟨xf,hf,rfl⟩:=ah h;exact QK (pX C B O hx hp 4 hf)
  ·split at h
   ·rename_i hc;let⟨xf,hf,rfl⟩:=ah h;refine QP (pX C B O hx hp 4 hf) ?_;rename_i e pos;cases e<;>first|rfl|cases hc
   ·cases h
  ·let⟨i,hi,h⟩:=bs h;split at h
   ·rename_i hl;simp?[zF,yQ] at hl;let⟨xf,hf,rfl⟩:=ah h;let⟨z1,z2,z3,z4⟩:=C.loc hl.1;exact cT (uV z1 z2 z3 (pX C B O hx hp 4 hf) (qs hl.2) z4) λD σ H q=>LR q
   ·cases h
  ·let⟨t,ht',h⟩:=bs h;split at h
   ·cases h
   ·cases h;exact Tz (O.t _ _ ht') (ih rfl) (ih rfl)
  ·split at h
   ·rename_i hc;simp?[zF,yQ] at hc;cases h;exact hr _ (List.contains_iff_mem.mp hc.1.1) (C.gl hc.1.2) hc.2 _ _ _ _ _ _
   ·cases h
  ·cases h
end
abbrev Rr(st:Stmt)(N:List Str)(S:Sg)(fx:XT)(cl:List Str):Option XS:=vt (Nq cl fx (ao st) N (tr S 40 none (ao st) N) (yh (ao st) N (tr S 40 none (ao st) N) 40) 10) (yh (ao st) N (tr S 40 none (ao st) N) 40) (bF st)
def P7(K:W.Frag)(mg:Str->Option Value)(cl:List Str):Prop:=∀c∈cl,∃C:Addr,mg c=some (.ref C)/\W.excIn K C Qg "ValueError.__new__"=true
section
variable {K:W.Frag}
def P9(C:Bk X.XN N sc j)(B:Bn X)(hf:jg X.prog X.w X.K X.mg X.base j fs)(hi:il X.mg is)(hx:Ab X.prog X.w X.K X.mg X.base j fx)(hp:fI (Fc X.prog X.w) X E)(hr:Wf X E Xf Xg cl)
  (t:vt (Nq cl fx sc N (tr ⟨fs,is⟩ 40 none sc N) (yh sc N (tr ⟨fs,is⟩ 40 none sc N) 40) 10) (yh sc N (tr ⟨fs,is⟩ 40 none sc N) 40) l=some xg):Jc X E Xf Xg l xg:=by
 have O:dS X.XN (tr ⟨fs,is⟩ 40 none sc N):=Ga (G:=⟨fs,is⟩) 40 C ⟨hf,hi,B⟩ (yN j) λq z=>by cases z
 have ht:∀s g,yh sc N (tr ⟨fs,is⟩ 40 none sc N) 40 s=some g->DS X.XN Xf Xg s g:=λs g h=>ue C B O 40 h;exact Bo (λs x h=>JB C B O hx hp hr ht 10 h) ht t
def HJ{st:Stmt}(D:bA K mg x st ps)(B:∀x∈cP,mg x=none)(hf:jg P w K mg base j S.fn)(hi:il mg S.int)(hx:Ab P w K mg base j fx)(hc:P7 K mg cl)(t:Rr st N S fx cl=some xg)(F:dq N ps (ao st):=by exact Rf.SJ):GP P w K mg base (j+1) x ps.length (uX xg N.length):=by
 let⟨f,fd,hm,Fu,hb⟩:=D.ex;refine fnX Fu F hb hm λX E hP hw hK YC Y5 C ae9 hk HF H=>?_;subst hP;subst hw;subst hK;subst YC;subst Y5;exact P9 C B hf hi hx hk.pass (λc XJ hg hd np cpos pos p t i=>by
  let⟨Ca,h1,h2⟩:=hc c XJ;exact Kr hk ae9 hg h1 h2 hd) t
def ED:Ab P w K mg base j []:=λ_ _ _ h=>by cases h
def xm(F:GP P w K mg base i x n m)(h:Ab P w K mg base j l)(e:i<=j:=by decide):Ab P w K mg base j ((x,n,m)::l):=λy n' m' e'=>by
 rw[yB] at e';cases q:y == x with
 | true=>rw[q] at e';cases e';rw[eq_of_beq q];exact F.mono e
 | false=>rw[q] at e';exact h y n' m' e'
end
def S7(K:W.Frag)(C:Addr):Bool:=W.findIn K (.ref C) "__getattribute__" == some (some (.builtin "BaseException.__getattribute__"))&&(W.findIn K (.ref C) "__getattr__" == some none)&&(W.findIn K (.ref C) "__class__" == some (some (.builtin "object.__class__")))&&(W.specialIn K (.builtin "object.__class__") "__get__" == some (some (.builtin "getset_descriptor.__get__")))&&(W.takesIn K (.builtin "object.__class__") == some true)&&(W.mroIn K C (.type "object") == some true)&&(W.subIn K (.ref C) (.type "BaseException") == some true)&&(W.clsIn K C).isSome
def Ug(K:W.Frag)(F:Addr)(cs:List (Str×Addr)):Bool:=(W.nsIn K mainGlobals "FlowError" == some (some (.ref F)))&&(W.nsIn K mainGlobals "ValueError" == some none)&&cs.all λc=>(W.nsIn K mainGlobals c.1 == some (some (.ref c.2)))&&W.excIn K c.2 Qg "ValueError.__new__"&&S7 K c.2&&(W.exmOne K (.ref c.2) (.ref F) == some true)&&(W.kitOne K (.ref c.2) (.type "ValueError") == some true)&&cs.all λd=>W.kitOne K (.ref c.2) (.ref d.2) == some (c.1 == d.1)
structure B0(K:W.Frag)(mg:Str->Option Value)(F:Addr)(cs:List (Str×Addr)):Prop where
 fe:mg "FlowError"=some (.ref F)
 ve:mg "ValueError"=none
 at_:∀c∈cs,mg c.1=some (.ref c.2)
 ex:∀c∈cs,W.excIn K c.2 Qg "ValueError.__new__"=true
 ek:∀c∈cs,Ol K c.2
 xm:∀c∈cs,W.exmOne K (.ref c.2) (.ref F)=some true
 kv:∀c∈cs,W.kitOne K (.ref c.2) (.type "ValueError")=some true
 kt:∀c∈cs,∀d∈cs,W.kitOne K (.ref c.2) (.ref d.2)=some (c.1 == d.1)
def NH{K:W.Frag}{cs:List (Str×Addr)}(X:K.In h)(G:h.Ns mainGlobals mg)(e:Ug K F cs=true):B0 K mg F cs:=by
 unfold Ug at e;simp?[zF,xH,vU] at e;let⟨⟨e1,e2⟩,e3⟩:=e;refine⟨W.mg_of X G e1,W.mg_none_of X G e2,λc hc=>W.mg_of X G (e3 c hc).1.1.1.1.1,λc hc=>(e3 c hc).1.1.1.1.2,λc hc=>?_,λc hc=>(e3 c hc).1.1.2,λc hc=>(e3 c hc).1.2,λc hc d hd=>(e3 c hc).2 d hd⟩;have q:=(e3 c hc).1.1.1.2;unfold S7 at q;simp?[zF,vU] at q;exact⟨q.1.1.1.1.1.1.1,q.1.1.1.1.1.1.2,q.1.1.1.1.1.2,q.1.1.1.1.2,q.1.1.1.2,q.1.1.2,q.1.2,q.2⟩
def B0.ok{K:W.Frag}{cs:List (Str×Addr)}(M:B0 K mg F cs)(h:(cl.all λc=>(cs.map Prod.fst).contains c)=true):P7 K mg cl:=λc hc=>by
 have:=List.contains_iff_mem.mp (List.all_eq_true.mp h c hc);let⟨q,hq,rfl⟩:=List.mem_map.mp this;exact⟨q.2,M.at_ q hq,M.ex q hq⟩
def UP(sc:Scope):Expr->Option Str
 | .Call (.Name f _) [.Name n _,.Name y _] [] _=>if (f == ("isinstance":Str)&&n == ("_law_e":Str)&&Bq sc "isinstance"&&Bq sc y)=true then some y else none
 | _=>none
def Lr(sc:Scope):List Expr->Option (List Str)
 | []=>some []
 | e::r=>(UP sc e).bind λy=>(Lr sc r).map λys=>y::ys
def nS(ns:List Str)(c:Str):Option D:=if ns.contains c=true then (Ai (.bool true) (ns.map λn=>.bool (c == n))).map λj=>.tuple [.str "refused",.int ((j:Nat):Int)] else none
section
variable {K:W.Frag}{cs:List (Str×Addr)}
def Jt(M:B0 X.K X.mg F cs)(hc:c∈cs)(hpn:(ea,ob)∈X.pn)(YZ:ob.cls=.ref c.2)(Y7:Oo X sc)(hmi:X.mg "isinstance"=none)(hN:X.N[0]?=some ("_law_e":Str))(hl:X.env.kindOf ("_law_e":Str)=some .local)(hs:X.env.scope.names.lookup ("_law_e":Str)=some .local)
  (hr:UP sc e=some y) (hy:∀ {p2:Pos}{pins:List (Addr×Obj)}{σ:L2.St}{H:Hp}{s:Shared}{Q:Value->Shared->Prop},Gl X y->Inv X pins σ H s->Q v s->wpAny (model X.prog X.w) X.A (eval (.Name y p2) X.env) Q X.xe s) (hk:W.kitOne X.K (.ref c.2) v=some b) :
  PE X e (λσ H Q=>σ[0]?=some (some (.ref ea))/\Q (.bl b) H)/\(∀env whole,isTrue e env whole=(do let v <- whole;standAt e.pos;holding [v] (truthy v)))/\∀es:List Expr,starEach (e::es) X.env=(false,eval e X.env)::starEach es X.env:=by
 unfold UP at hr;split at hr
 ·rename_i f pf n pn y' py pos;split at hr
  ·rename_i hh;cases hr;simp?[zF,vU] at hh;let⟨⟨⟨rfl,rfl⟩,hg⟩,hgy⟩:=hh;have gl:∀ {x:Str},Bq sc x=true->Gl X x:=λh=>by
    rcases Y7 _ _ (yR h) with q|⟨q,_⟩
    ·exact q
    ·cases q
   exact⟨RE (M.ek c hc) hpn YZ (gl hg) hmi hN hl hs (by decide) (λ{pins σ H s Q} I q=>hy (gl hgy) I q) hk,λenv whole=>rfl,λes=>rfl⟩
  ·cases hr
 ·cases hr
def A2(M:B0 X.K X.mg F cs)(hc:c∈cs)(hpn:(ea,ob)∈X.pn)(YZ:ob.cls=.ref c.2)(Y7:Oo X sc)(hmi:X.mg "isinstance"=none)(hN:X.N[0]?=some ("_law_e":Str))(hl:X.env.kindOf ("_law_e":Str)=some .local)(hs:X.env.scope.names.lookup ("_law_e":Str)=some .local)(hd:(cs.all λd=>!(d.1 == ("__debug__":Str)))=true) :
  ∀ {es:List Expr}{ns:List Str},Lr sc es=some ns->(ns.all λc=>(cs.map Prod.fst).contains c)=true->mL X ea es (ns.map λn=>c.1 == n)
 | [],ns,h,_=>by cases h;exact Rv
 | e::es,ns,h,ha=>by
  unfold Lr at h;let⟨y,hy,h⟩:=bs h;let⟨ys,hys,rfl⟩:=ah h;rw[xU,zF] at ha;let⟨d,hdm,rfl⟩:=List.mem_map.mp (List.contains_iff_mem.mp ha.1);have XH:(d.1 == ("__debug__":Str))=false:=by simpa using List.all_eq_true.mp hd d hdm
  let⟨h1,_,h3⟩:=Jt (v:=.ref d.2) M hc hpn YZ Y7 hmi hN hl hs hy (λ{p2 pins σ H s Q} hg I q=>ll I hg (M.at_ d hdm) q XH) (M.kt c hc d hdm);exact Pm h1 (A2 M hc hpn YZ Y7 hmi hN hl hs hd hys ha.2) (h3 es)
def HZ{A:Around}{env:PySem.Env}(h:A.units+200 < cLine):(A.deeper env).units+66 < cLine:=by
 have:(A.deeper env).units<=A.units+16:=by simp[Around.deeper]
 lia
def TZ{st:Stmt}{a1 a2 a3:Pos}(D:bA K mg "_law_refused" st ["_law_e"])(M:B0 K mg F cs)(B:∀x∈cP,mg x=none)
  (hb:bF st=[.Assign [.Name "_law_flags" a1] (.List es1 a2) a3,.Assign [.Name "_law_flags" b1] (.BinOp (.Name "_law_flags" b2) .Add (.List es2 b3) b4) b5,
   .If (.BoolOp .Or [.Compare (.Call (.Attribute (.Name "_law_flags" c1) "count" c2) [.Constant (.bool true) i1 c3] [] c4) [.NotEq] [.Constant (.int 1) i2 c5] c6,.UnaryOp .Not e6 c7] c8) bad [] c9,
   .Return (some (.Tuple [.Constant (.str "refused") i3 d1,.Call (.Attribute (.Name "_law_flags" d3) "index" d2) [.Constant (.bool true) i4 d5] [] d4] k1 d6)) d7])
  (S:dq [("_law_e":Str),("_law_flags":Str)] ["_law_e"] (ao st)) (r1:Lr (ao st) es1=some ns1) (r2:Lr (ao st) es2=some ns2) (r6:UP (ao st) e6=some "ValueError")
  (s1:(ao st).names.lookup ("_law_e":Str)=some .local) (s2:(ao st).names.lookup ("_law_flags":Str)=some .local) (UK:((ns1++ns2).all λc=>(cs.map Prod.fst).contains c&&decide (LB (.bool true) ((ns1++ns2).map λn=>.bool (c == n))=1))=true) (XH:(cs.all λd=>!(d.1 == ("__debug__":Str)))=true) (hz:ns1.length+ns2.length<=sizeLine) (l1:(c2.endLine == c4.line)=true) (l2:(d2.endLine == d4.line)=true) :
  ∀c d,nS (ns1++ns2) c=some d->F8 P w K mg base k "_law_refused" c d:=λc d h=>by
 unfold nS at h;split at h
 ·rename_i hc;have hcm:=List.contains_iff_mem.mp hc;let⟨j,hj,rfl⟩:=ah h;have hcc:=List.all_eq_true.mp UK c hcm;rw[zF] at hcc;let⟨q,hq,rfl⟩:=List.mem_map.mp (List.contains_iff_mem.mp hcc.1);have akm:=yR hcc.2;let⟨f,fd,hm,Fu,hbd⟩:=D.ex;refine⟨f,fd,["_law_e"],hm,Fu.kp,hbd,rfl,λA outer s H args ea C hdp YX e0 hbt hC hex=>?_⟩;let⟨⟨ob,vs,ho,XJ,hd⟩,hn,hf⟩:=hex;have hCq:C=q.2:=by
   have:=M.at_ q hq;rw[hC] at this;cases this;rfl
  subst hCq;refine IK (C:=q.2) Fu S rfl (by lia) e0 hbt ho hd hn hf λXy t1 I=>?_;rw[hb];have Ye:∀ {l:List Str},(∀n∈l,n∈ns1++ns2)->(l.all λc=>(cs.map Prod.fst).contains c)=true:=λhl=>by
   rw[xH];intro n hn;have:=List.all_eq_true.mp UK n (hl n hn);rw[zF] at this;exact this.1
  let X:Cx:=Gf P w K mg base [("_law_e":Str),("_law_flags":Str)] "_law_refused" (ao st) f Xy A outer s H [(ea,ob)];have hpn:(ea,ob)∈X.pn:=List.mem_singleton.mpr rfl;have Y7:Oo X (ao st):=λy kd hy=>.inl hy;have hmi:X.mg "isinstance"=none:=B _ (by decide);have f1:=A2 (X:=X) (sc:=ao st) M hq hpn XJ Y7 hmi rfl s1 s1 XH r1 (Ye λn hn=>qK _ hn);have f2:=A2 (X:=X) (sc:=ao st) M hq hpn XJ Y7 hmi rfl s1 s1 XH r2 (Ye λn hn=>yE _ hn);let⟨f6,w6,_⟩:=Jt (X:=X) (sc:=ao st) (v:=.type "ValueError") M hq hpn XJ Y7 hmi rfl s1 s1 r6 (λ{p2 pins σ H s Q} hg I q=>k7 I hg M.ve (by decide +kernel) q) (M.kv q hq);have main:=Lq (X:=X) (bad:=bad) (j:=j) (a1:=a1) (a2:=a2) (a3:=a3) (b1:=b1) (b2:=b2) (b3:=b3) (b4:=b4) (b5:=b5) (b6:=b5) (c1:=c1) (c2:=c2) (c3:=c3) (c4:=c4) (c5:=c5) (c6:=c6) (c7:=c7) (c8:=c8) (c9:=c9) (d1:=d1) (d2:=d2) (d3:=d3) (d4:=d4) (d5:=d5) (d6:=d6) (d7:=d7) (i1:=i1) (i2:=i2) (i3:=i3) (i4:=i4) (k1:=k1) (HZ (by lia)) rfl s2 f1 f2 f6 (λwhole=>w6 _ whole)
   (by rw[<- jB,zM];exact akm) (by rw[<- jB,zM];exact hj) (by rw[zD,zD];exact hz) l1 l2
   [] t1 (L2.start [("_law_e":Str),("_law_flags":Str)] [.ref ea]) H ⟨λ_ _=>False,λv H'=>∀HF,aY HF H->∃Xh,b9 HF H Xh H'/\Rep K Xh (.tuple [.str "refused",.int ((j:Nat):Int)]) v,λ_ _=>False,λ_ _=>False⟩ I ⟨rfl,rfl,λv H' z=>z⟩
  refine cN main λfl s' z=>?_;cases fl with
  | next=>let⟨_,_,_,z⟩:=z;exact z.elim
  | brk=>let⟨_,_,_,z⟩:=z;exact z.elim
  | cont=>let⟨_,_,_,z⟩:=z;exact z.elim
  | ret u =>
   let⟨v,σ',H',J,r,z⟩:=z;exact⟨u,v,σ',H',rfl,J,r,z⟩
 ·cases h
def zi:∀ (names:List (Str×NameKind)) (n:Nat),(names.all λy=>!(y.2 == NameKind.cell))=true->cellsFrom n names []=[]
 | [],_,_=>rfl
 | (x,k)::r,n,h=>by
  rw[xU,zF] at h;unfold cellsFrom;rw[yO (by simpa using h.1)];exact zi r n h.2
def SZ(st:Stmt)(N:List Str)(S:Sg)(fx:XT)(ns:List Str):List Stmt->Option GS
 | [.Try body [.ExceptHandler (some (.Name e _)) (some n) [.Return (some (.Call (.Name r _) [.Name m _] [] _)) _] _] [] [] _] =>
  if (e == ("FlowError":Str)&&r == ("_law_refused":Str)&&m == n&&!(n == ("__debug__":Str))&&Bq (ao st) "FlowError"&&Bq (ao st) "_law_refused"&&decide ((ao st).names.lookup n=some .local)&&(ao st).names.all (λy=>!(y.2 == NameKind.cell))&&N.contains n)=true then
   (sr (yh (ao st) N (tr S 40 none (ao st) N) 40) body).map λgb=>BF gb ((vt (Nq [] fx (ao st) N (tr S 40 none (ao st) N) (yh (ao st) N (tr S 40 none (ao st) N) 40) 10) (yh (ao st) N (tr S 40 none (ao st) N) 40) body).getD oX) (nS ns)
  else none
 | _=>none
abbrev Vr(st:Stmt)(N:List Str)(S:Sg)(fx:XT)(ns:List Str):Option GS:=SZ st N S fx ns (bF st)
def Tq{st:Stmt}(D:bA K mg x st ps)(B:∀x∈cP,mg x=none)(M:B0 K mg F cs)(hf:jg P w K mg base j S.fn)(hi:il mg S.int)(hx:Ab P w K mg base j fx)(R:∀c d,nS ns c=some d->F8 P w K mg base j "_law_refused" c d)(ZU:(ns.all λc=>(cs.map Prod.fst).contains c)=true)(t:Vr st N S fx ns=some g)(FS:dq N ps (ao st):=by exact Rf.SJ):dG P w K mg base (j+1) x ps.length (bf g N.length):=by
 let⟨f,fd,hm,Fu,hb⟩:=D.ex;refine⟨f,fd,ps,?_,hm,Fu.kp,hb⟩;let⟨oc,od,kV,doc,pm,an,Xy,ct,Zu,rfl,lk,XM⟩:=Fu.ex;refine JA lk XM FS (λvs H Q E ⟨HF,ds,d,h1,_,h2,h3,_⟩=>by rw[h2.length,h3]) λA outer s H vs Q E hr ⟨HF,ds,d,sm,tb,rr,hl,hd,q⟩=>?_;have key:∀X:Cx,X=(uz MX P w K mg base N x (ao st) f Xy A outer s H E).XN->Bk X N (ao st) j->∀Xj H1,FI X Xj H1 (bF st) g:=λX hX C Xj H1=>by
  unfold Vr at t;generalize bF st=bd at t;unfold SZ at t;split at t
  ·rename_i body e pe n r pr m pm' pc prt ph pt;split at t
   ·rename_i hh;simp?[zF,vU,yQ,zJ] at hh;obtain⟨⟨⟨⟨⟨⟨⟨⟨rfl,rfl⟩,rfl⟩,YS⟩,hgF⟩,hgR⟩,aal⟩,hnc⟩,hNn⟩:=hh;let⟨gb,hgb,rfl⟩:=ah t;let⟨i,YB,hiN⟩:=qS (List.contains_iff_mem.mp hNn);have afc:N[i]?=some m:=by rw[zK YB,hiN]
    subst hX;refine Gq (R5 (i:=i) rfl rfl (C.gl hgF) M.fe (by decide) C.nd afc aal aal ?_ ?_ ?_ ?_)
    ·show List.lookup m (cellsFrom _ _ [])=none;rw[zi _ _ hnc];rfl
    ·exact Rf.ix (λs g h=>ue C B (Ga (G:=S) 40 C ⟨hf,hi,B⟩ (yN j) λq z=>by cases z) 40 h) hgb
    ·intro pn xe E' hp;have C':Bk (hV (uz MX P w K mg base N x (ao st) f Xy A outer s H E).XN pn xe).XN N (ao st) j:=⟨rfl,FS.nd,λy kd hy=>.inl hy,rfl,λ_ _=>rfl,hr,rfl,FS.kind⟩
     cases hq:vt (Nq [] fx (ao st) N (tr S 40 none (ao st) N) (yh (ao st) N (tr S 40 none (ao st) N) 40) 10) (yh (ao st) N (tr S 40 none (ao st) N) 40) body with
     | none=>exact Pv
     | some xg=>exact P9 C' B hf hi hx hp (λc XJ=>by cases XJ) hq
    ·intro c d XM;have adS:=XM;unfold nS at adS;split at adS
     ·rename_i hc;let⟨z,hz,rfl⟩:=List.mem_map.mp (List.contains_iff_mem.mp (List.all_eq_true.mp ZU c (List.contains_iff_mem.mp hc)));refine⟨λC hC=>?_,⟨z.2,M.at_ z hz⟩,HH (R z.1 d XM) C.room (C.gl hgR) (by decide) afc aal aal YS⟩;have:=M.at_ z hz;rw[show mg z.1=some (.ref C) from hC] at this;cases this;exact M.xm z hz
     ·cases adS
   ·cases t
  ·cases t
 unfold bf at hd;let⟨o,ho,hd⟩:=ah hd;refine⟨_,(key _ rfl ⟨rfl,FS.nd,λy kd hy=>.inl hy,rfl,λ_ _=>rfl,hr,rfl,FS.kind⟩ HF H).XN,HF,_,o,Co sm tb rr,ho,?_⟩;cases o with
 | rt d'=>cases hd;exactλv H' Xh G r=>q v H' Xh G r
 | nx ρ'=>cases hd;exactλσ' H' Xh S' _=>q .Xe H' Xh S'.gr (by simp[Rep])
end
end Ex
namespace Hd
open PySem L2 Dl PySem.Spec PyProof.Rows
section
variable {K:W.Frag}
def SH{st:Stmt}(hb:ig st ps)(a:W.nsIn K mainGlobals x=some (some (.ref f)))(l:K.lookup f=some (fo x st pm c))(d:W.codeIn K (.ref c) x=true)(k:W.keepIn K (.ref f)=true):aI K x st ps:=T1 hb a l d k
def WG{st:Stmt}(hb:ig st ps)(a:W.nsIn K mainGlobals x=some (some (.ref f)))(l:K.lookup f=some (fo x st pm c))(d:W.codeIn K (.ref c) x=true)(k:W.keepIn K (.ref f)=true)(hh:W.codeHdIn K c (N4 K c)=true):yk K x st ps:=Tf hb a l d k hh
end
section
variable {α:Type}{R:List α->Prop}
def len0{R:List Value->Prop}(h:R []):∀us:List Value,us.length=0->R us
 | [],_=>h
def Ey(h:∀a,R [a])(us:List α)(e:us.length=1):R us:=by
 let⟨a,rfl⟩:=List.length_eq_one_iff.mp e;exact h a
def Pc(us:List α)(e:us.length=n+1):∃a r,us=a::r/\r.length=n:=by
 cases us with
 | nil=>cases e
 | cons a r=>exact⟨a,r,rfl,by simpa using e⟩
def Uc(h:∀a b,R [a,b])(us:List α)(e:us.length=2):R us:=by
 let⟨a,r,rfl,e'⟩:=Pc us e;exact Ey (R:=λr=>R (a::r)) (h a) r e'
def Sw(h:∀a b c,R [a,b,c])(us:List α)(e:us.length=3):R us:=by
 let⟨a,r,rfl,e'⟩:=Pc us e;exact Uc (R:=λr=>R (a::r)) (h a) r e'
def Ue(h:∀a b c d,R [a,b,c,d])(us:List α)(e:us.length=4):R us:=by
 let⟨a,r,rfl,e'⟩:=Pc us e;exact Sw (R:=λr=>R (a::r)) (h a) r e'
def VC(h:∀a b c d f,R [a,b,c,d,f])(us:List α)(e:us.length=5):R us:=by
 let⟨a,r,rfl,e'⟩:=Pc us e;exact Ue (R:=λr=>R (a::r)) (h a) r e'
end
section
variable {K:W.Frag}
def f0(f c:Addr)(pm:Value){st:Stmt}(hb:ig st ps:=by exactλ_ _ _ _ _ _ _ _ us hl=>len0 (R:=λus=>bindArgs _ ⟨us,[]⟩=pure (List.zip _ us)) rfl us hl)(a:W.nsIn K mainGlobals x=some (some (.ref f)):=by kernel_rfl)(l:K.lookup f=some (fo x st pm c):=by kernel_rfl)(d:W.codeIn K (.ref c) x=true:=by kernel_rfl)(k:W.keepIn K (.ref f)=true:=by kernel_rfl):aI K x st ps:=SH hb a l d k
def f1(f c:Addr)(pm:Value){st:Stmt}(hb:ig st ps:=by exactλ_ _ _ _ _ _ _ _ us hl=>Ey (R:=λus=>bindArgs _ ⟨us,[]⟩=pure (List.zip _ us)) (λ_=>rfl) us hl)(a:W.nsIn K mainGlobals x=some (some (.ref f)):=by kernel_rfl)(l:K.lookup f=some (fo x st pm c):=by kernel_rfl)(d:W.codeIn K (.ref c) x=true:=by kernel_rfl)(k:W.keepIn K (.ref f)=true:=by kernel_rfl):aI K x st ps:=SH hb a l d k
def f2(f c:Addr)(pm:Value){st:Stmt}(hb:ig st ps:=by exactλ_ _ _ _ _ _ _ _ us hl=>Uc (R:=λus=>bindArgs _ ⟨us,[]⟩=pure (List.zip _ us)) (λ_ _=>rfl) us hl)(a:W.nsIn K mainGlobals x=some (some (.ref f)):=by kernel_rfl)(l:K.lookup f=some (fo x st pm c):=by kernel_rfl)(d:W.codeIn K (.ref c) x=true:=by kernel_rfl)(k:W.keepIn K (.ref f)=true:=by kernel_rfl):aI K x st ps:=SH hb a l d k
def f3(f c:Addr)(pm:Value){st:Stmt}(hb:ig st ps:=by exactλ_ _ _ _ _ _ _ _ us hl=>Sw (R:=λus=>bindArgs _ ⟨us,[]⟩=pure (List.zip _ us)) (λ_ _ _=>rfl) us hl)(a:W.nsIn K mainGlobals x=some (some (.ref f)):=by kernel_rfl)(l:K.lookup f=some (fo x st pm c):=by kernel_rfl)(d:W.codeIn K (.ref c) x=true:=by kernel_rfl)(k:W.keepIn K (.ref f)=true:=by kernel_rfl):aI K x st ps:=SH hb a l d k
def l3(f c:Addr)(pm:Value){st:Stmt}(hb:ig st ps:=by exactλ_ _ _ _ _ _ _ _ us hl=>Sw (R:=λus=>bindArgs _ ⟨us,[]⟩=pure (List.zip _ us)) (λ_ _ _=>rfl) us hl)(a:W.nsIn K mainGlobals x=some (some (.ref f)):=by kernel_rfl)(l:K.lookup f=some (fo x st pm c):=by kernel_rfl)(d:W.codeIn K (.ref c) x=true:=by kernel_rfl)(k:W.keepIn K (.ref f)=true:=by kernel_rfl)(hh:W.codeHdIn K c (N4 K c)=true:=by kernel_rfl):yk K x st ps:=WG hb a l d k hh
def f4(f c:Addr)(pm:Value){st:Stmt}(hb:ig st ps:=by exactλ_ _ _ _ _ _ _ _ us hl=>Ue (R:=λus=>bindArgs _ ⟨us,[]⟩=pure (List.zip _ us)) (λ_ _ _ _=>rfl) us hl)(a:W.nsIn K mainGlobals x=some (some (.ref f)):=by kernel_rfl)(l:K.lookup f=some (fo x st pm c):=by kernel_rfl)(d:W.codeIn K (.ref c) x=true:=by kernel_rfl)(k:W.keepIn K (.ref f)=true:=by kernel_rfl):aI K x st ps:=SH hb a l d k
def f5(f c:Addr)(pm:Value){st:Stmt}(hb:ig st ps:=by exactλ_ _ _ _ _ _ _ _ us hl=>VC (R:=λus=>bindArgs _ ⟨us,[]⟩=pure (List.zip _ us)) (λ_ _ _ _ _=>rfl) us hl)(a:W.nsIn K mainGlobals x=some (some (.ref f)):=by kernel_rfl)(l:K.lookup f=some (fo x st pm c):=by kernel_rfl)(d:W.codeIn K (.ref c) x=true:=by kernel_rfl)(k:W.keepIn K (.ref f)=true:=by kernel_rfl):aI K x st ps:=SH hb a l d k
end
end Hd
namespace Pg
open PySem L2 Dl PySem.Spec PyProof.Rows
abbrev DY:List Str:=["thing","least","most"]
def nH:au->Option Out:=(ar (dZ (iM (bJ (fB (AS "int" (ae 0)))) (fB (AS "bool" (ae 0)))) (aV (fC (.bool false))) dP) (aV (dW rT rT (ae 1) (ae 0) (ae 2))))
def aX:List D->Option D:=bf nH 3
abbrev CL:List Str:=["thing","many"]
def mf:au->Option Out:=(aV (aj 3 aX (aa (ae 0) (aa (fC (.int 0)) (aa (f2 Dl.dy (ae 1) (fC (.int 1))) ag)))))
def bH:List D->Option D:=bf mf 2
abbrev HU:List Str:=["thing","least","most"]
def pZ:au->Option Out:=(aV (gy (AS "tuple" (ae 0)) (dW rT rT (ae 1) (bu bz (aa (ae 0) ag)) (ae 2))))
def bg:List D->Option D:=bf pZ 3
abbrev CN:List Str:=["thing","many"]
def lS:au->Option Out:=(ar (dZ (bJ (fB (AS "tuple" (ae 0)))) (aV (fC (.bool false))) dP) (ar (dZ (bJ (fB (bu jl (aa (cq (ax 1 [1] (bI (ae 0)) (fG 0) (λ_=>some true) (aj 2 bH (aa (ae 0) (aa (ae 1) ag))))) ag)))) (aV (fC (.bool false))) dP) (aV (f2 bh (f1 mJ (ae 0)) (bu bz (aa (ae 0) ag))))))
def gu:List D->Option D:=bf lS 2
abbrev MA:List Str:=["thing","many"]
def uk:au->Option Out:=(aV (gy (aj 3 bg (aa (ae 0) (aa (fC (.int 2)) (aa (fC (.int 2)) ag)))) (gy (aj 3 aX (aa (f2 av (ae 0) (fC (.int 0))) (aa (fC (.int 0)) (aa (fC (.int 9)) ag)))) (aj 2 gu (aa (f2 av (ae 0) (fC (.int 1))) (aa (ae 1) ag))))))
def gc:List D->Option D:=bf uk 2
abbrev JD:List Str:=["thing","givers","takers"]
def uE:au->Option Out:=(ar (dZ (bJ (fB (aj 3 bg (aa (ae 0) (aa (fC (.int 3)) (aa (fC (.int 3)) ag)))))) (aV (fC (.bool false))) dP) (aV (gy (aj 2 bH (aa (f2 av (ae 0) (fC (.int 0))) (aa (ae 1) ag))) (gy (aj 2 bH (aa (f2 av (ae 0) (fC (.int 1))) (aa (ae 2) ag))) (aj 3 aX (aa (f2 av (ae 0) (fC (.int 2))) (aa (fC (.int 1)) (aa (fC (.int 9)) ag))))))))
def jy:List D->Option D:=bf uE 3
abbrev Dv:List Str:=["givers","takers","ways"]
def lZ:au->Option Out:=(ar (dZ (iM (bJ (fB (aj 3 bg (aa (ae 0) (aa (fC (.int 1)) (aa (fC (.int 4)) ag)))))) (bJ (fB (aj 3 bg (aa (ae 1) (aa (fC (.int 1)) (aa (fC (.int 4)) ag))))))) (aV (fC (.bool false))) dP) (ar (dZ (bJ (fB (bu jl (aa (cq (ax 1 [1] (bI (ae 0)) (fG 0) (λ_=>some true) (aj 2 gc (aa (ae 0) (aa (bu bz (aa (ae 1) ag)) ag))))) ag)))) (aV (fC (.bool false))) dP) (ar (dZ (bJ (fB (bu jl (aa (cq (ax 1 [0] (bI (ae 1)) (fG 0) (λ_=>some true) (aj 2 gc (aa (ae 0) (aa (bu bz (aa (ae 1) ag)) ag))))) ag)))) (aV (fC (.bool false))) dP) (aV (gy (AS "tuple" (ae 2)) (bu jl (aa (cq (ax 1 [0,1] (bI (ae 2)) (fG 0) (λ_=>some true) (aj 3 jy (aa (ae 0) (aa (bu bz (aa (ae 1) ag)) (aa (bu bz (aa (ae 2) ag)) ag)))))) ag)))))))
def gx:List D->Option D:=bf lZ 3
abbrev vh:List Str:=["places","pairs","number","place"]
def iT:au->Option Out:=(ar (aU 1 [] (bZ ag)) (ar (dC [0] (bQ (aa (ae 0) ag)) (fj 2 3) (HI 1 [2,3] (ax 1 [2] (bI (f2 av (ae 3) (fC (.int 1)))) (fG 0) (λ_=>some true) (aH (aa (ae 1) (aa (ae 0) ag)))))) (aV (ae 1))))
def bN:List D->Option D:=bf iT 4
abbrev EY:List Str:=["thing","joined","by_givers","by_takers"]
def ik:au->Option Out:=(ar (dZ (iM (bJ (fB (aj 3 bg (aa (ae 0) (aa (fC (.int 3)) (aa (fC (.int 3)) ag)))))) (bJ (fB (aj 3 gx (aa (f2 av (ae 0) (fC (.int 0))) (aa (f2 av (ae 0) (fC (.int 1))) (aa (f2 av (ae 0) (fC (.int 2))) ag))))))) (aV (fC (.bool false))) dP) (ar (aU 1 [0] (ax 1 [] (bI (f2 av (ae 0) (fC (.int 2)))) (fG 0) (λ_=>some true) (aH (aa (f2 av (ae 0) (fC (.int 0))) (aa (f2 av (ae 0) (fC (.int 1))) ag))))) (ar (aU 2 [0] (wg iA (aa (aj 1 bN (aa (f2 av (ae 0) (fC (.int 0))) ag)) ag))) (ar (aU 3 [0] (wg iA (aa (cq (ax 2 [] (bI (aj 1 bN (aa (f2 av (ae 0) (fC (.int 1))) ag))) (gE 0 1) (λ_=>some true) (aH (aa (ae 1) (aa (ae 0) ag))))) ag))) (aV (gy (f2 bh (ae 1) (ae 2)) (f2 bh (ae 1) (ae 3))))))))
def bL:List D->Option D:=bf ik 4
abbrev nr:List Str:=["world"]
abbrev zq0:=(aa (ae 0) ag)
abbrev zq1:=(aj 1 bL zq0)
abbrev zq2:=(fB zq1)
abbrev zq3:=(bJ zq2)
def ee:au->Option Out:=(dZ zq3 SW dP)
def aZ:List D->Option D:=bf ee 1
def dg:au->Option Out:=(dZ (bJ (fB (aj 3 aX (aa (ae 0) (aa (ae 1) (aa (ae 2) ag)))))) SW dP)
def iU:List D->Option D:=bf dg 3
def cQ:au->Option Out:=(mS (aj 3 iU (aa (ae 0) (aa (fC (.int 0)) (aa (f2 Dl.dy (ae 1) (fC (.int 1))) ag)))))
def g8:List D->Option D:=bf cQ 2
abbrev zq4:=(aa (fC (.int 2)) ag)
def gK:au->Option Out:=(mS (aj 2 g8 (aa (ae 0) zq4)))
def oS:List D->Option D:=bf gK 1
abbrev EG:List Str:=["parts","number","part"]
abbrev zq5:=(aa (ae 2) ag)
def nM:au->Option Out:=(aV (f2 aA (f2 aA (cF bw (ae 0) cZ (mC (ae 1))) (aH zq5)) (cF bw (ae 0) (mC (f2 aA (ae 1) (fC (.int 1)))) cZ)))
def lj:List D->Option D:=bf nM 3
abbrev Hy:List Str:=["world","side","place","ways","likes","own"]
def mn:au->Option Out:=(ar (aD 3 [0] (f2 av (ae 0) (fC (.int 2)))) (ar (aD 4 [0,1,2] (f2 av (f2 av (f2 av (ae 0) (ae 1)) (ae 2)) (fC (.int 1)))) (ar (aU 5 [1,2,3] (ax 2 [1,2] (bQ (aa (ae 3) ag)) (gE 0 1) (fB (f2 bh (f2 av (ae 1) (ae 2)) (ae 3))) (ae 0))) (aV (cq (qm [1,3,4] (ae 5) (f2 nU (ae 3) (f2 av (f2 av (ae 2) (ae 0)) (f2 Dl.dy (fC (.int 1)) (ae 1))))))))))
def fQ:List D->Option D:=bf mn 6
abbrev DK:List Str:=["world","side","place","offers","chosen","left","number"]
def iK:au->Option Out:=(ar (aU 4 [0] (ax 1 [] (bI (f2 av (ae 0) (fC (.int 2)))) (fG 0) (λ_=>some true) (fC (.int 0)))) (ar (aD 5 [0,1,2] (f2 av (f2 av (f2 av (ae 0) (ae 1)) (ae 2)) (fC (.int 0)))) (ar (dC [0,1,2] (bI (aj 3 fQ (aa (ae 0) (aa (ae 1) (aa (ae 2) ag))))) (iZ 6) (ar (AW 4 [0,3,5,6] (ae 6) (bu uN (aa (f2 av (ae 3) (ae 6)) (aa (f2 av (f2 av (f2 av (ae 0) (fC (.int 2))) (ae 6)) (fC (.int 2))) (aa (ae 5) ag))))) (aD 5 [4,5,6] (f2 Dl.dy (ae 5) (f2 av (ae 4) (ae 6)))))) (aV (bu b8 (aa (ae 4) ag))))))
def eN:List D->Option D:=bf iK 7
abbrev sx:List Str:=["world","side","offers","sums","place","chosen"]
def eA:au->Option Out:=(ar (aU 3 [0] (ax 1 [] (bI (f2 av (ae 0) (fC (.int 2)))) (fG 0) (λ_=>some true) (fC (.int 0)))) (ar (dC [0,1] (bj (aa (bu bz (aa (f2 av (ae 0) (ae 1)) ag)) ag)) (iZ 4) (ar (aD 5 [0,1,2,4] (aj 4 eN (aa (ae 0) (aa (ae 1) (aa (ae 4) (aa (ae 2) ag)))))) (aU 3 [3,5] (ax 2 [] (cO (aa (ae 3) (aa (ae 5) ag))) (gE 0 1) (λ_=>some true) (f2 aA (ae 0) (ae 1)))))) (aV (bu b8 (aa (ae 3) ag)))))
def aN:List D->Option D:=bf eA 6
abbrev JP:List Str:=["world"]
abbrev zq6:=(f2 av (ae 0) (fC (.int 2)))
abbrev zq7:=(ax 1 [] (bI zq6) (fG 0) (λ_=>some true) zq6)
abbrev zq8:=(cq zq7)
abbrev zq9:=(aa zq8 ag)
abbrev afd:=(bu b8 zq9)
def uu:au->Option Out:=(aV afd)
def jj:List D->Option D:=bf uu 1
abbrev HG:List Str:=["caps","way","cap"]
abbrev aaP:=(aa (ae 1) zq5)
abbrev adU:=(aa (ae 0) aaP)
def qb:au->Option Out:=(aV (aj 3 lj adU))
def dk:List D->Option D:=bf qb 3
abbrev Ht:List Str:=["world","caps","given","kept","way","many"]
def mv:au->Option Out:=(ar (aD 2 [0,1] (aj 3 aN (aa (ae 0) (aa (fC (.int 0)) (aa (ae 1) ag))))) (ar (aD 3 [0,2] (aj 3 aN (aa (ae 0) (aa (fC (.int 1)) (aa (ae 2) ag))))) (ar (dC [3] (bQ (aa (ae 3) ag)) (fj 4 5) (dZ (fB (f2 v5 (ae 5) (f2 av (ae 2) (ae 4)))) (aV (aH (aa (ae 4) (aa (ae 5) ag)))) dP)) (aV (fC .none)))))
def gU:List D->Option D:=bf mv 6
abbrev NG:List Str:=["world","rows","caps","row"]
abbrev aaQ:=(bZ ag)
abbrev aaR:=(aj 1 jj zq0)
abbrev afe:=(aa (ae 0) zq5)
abbrev aff:=(aj 2 gU afe)
abbrev afg:=(aD 3 [0,2] aff)
abbrev afh:=(fB (f2 lJ (ae 3) (fC .none)))
abbrev ZJ:=(f2 av (ae 3) (fC (.int 0)))
abbrev adV:=(f2 av (ae 3) (fC (.int 1)))
abbrev afi:=(aa adV ag)
abbrev akn:=(aa ZJ afi)
abbrev ako:=(aa (ae 2) akn)
abbrev akp:=(aj 3 dk ako)
abbrev afj:=(aD 2 [2,3] akp)
def sN:au->Option Out:=(ar (aU 1 [] aaQ) (ar (aD 2 [0] aaR) (ar afg (ar (Oj afh (ar (jc 1 [3] (ae 3)) (ar afj afg)) Rf.turns) (aV (ae 1))))))
def j6:List D->Option D:=bf sN 4
abbrev JC:List Str:=["world","rows","caps","way","cap"]
abbrev YT:=(bI (ae 1))
abbrev abz:=(aa (ae 4) ag)
abbrev afk:=(aa (ae 3) abz)
abbrev adW:=(aj 3 dk (aa (ae 2) afk))
abbrev aaS:=(aV (ae 2))
def oY:au->Option Out:=(ar (aD 2 [0] aaR) (ar (dC [1] YT (fj 3 4) (aD 2 [2,3,4] adW)) aaS))
def lK:List D->Option D:=bf oY 5
abbrev xj:List Str:=["world"]
abbrev ZK:=(mS (aj 1 aZ zq0))
def fU:au->Option Out:=(ar ZK (aV (aj 3 aN (aa (ae 0) (aa (fC (.int 0)) (aa (aj 2 lK (aa (ae 0) (aa (aj 1 j6 zq0) ag))) ag))))))
def d9:List D->Option D:=bf fU 1
abbrev B1:List Str:=["_law_script","_law_k"]
def iB:au->Option Out:=(ar (dZ (fB (f2 bh (ae 0) (cq (bZ ag)))) (aV (f2 dH (fC (.int 7)) (ae 1))) dP) (aV (f2 aA (f2 av (ae 0) (f2 mT (ae 1) (bu bz (aa (ae 0) ag)))) (f2 dH (fC (.int 6553)) (f2 oi (ae 1) (bu bz (aa (ae 0) ag)))))))
def eF:List D->Option D:=bf iB 2
abbrev AN:List Str:=["_law_script","_law_k","_law_many","_law_cell_here"]
def ka:au->Option Out:=(ar (aD 3 [0,1] (f2 mT (f2 aA (f2 dH (f2 mT (aj 2 eF (aa (ae 0) (aa (ae 1) ag))) (fC (.int 2147483563))) (fC (.int 69069))) (f2 dH (fC (.int 104723)) (f2 aA (ae 1) (fC (.int 1))))) (fC (.int 2147483563)))) (ar (aD 3 [3] (f2 mT (f2 aA (f2 dH (ae 3) (ae 3)) (f2 oi (ae 3) (fC (.int 3)))) (fC (.int 2147483399)))) (aV (f2 mT (f2 oi (f2 mT (f2 aA (f2 dH (ae 3) (ae 3)) (f2 oi (ae 3) (fC (.int 7)))) (fC (.int 2147483647))) (fC (.int 11))) (ae 2)))))
def ak:List D->Option D:=bf ka 4
abbrev vz:List Str:=["_law_script","_law_at","_law_rows","_law_found","_law_k","_law_row","_law_order","_law_j","_law_one"]
def iR:au->Option Out:=(ar (aU 3 [] (bZ ag)) (ar (dC [2] (bQ (aa (ae 2) ag)) (fj 4 5) (ar (aU 6 [] (bZ ag)) (ar (dC [5] (bQ (aa (ae 5) ag)) (fj 7 8) (JI 6 [8] (aj 3 ak (aa (ae 0) (aa (f2 aA (f2 aA (ae 1) (f2 dH (fC (.int 4)) (ae 4))) (ae 7)) (aa (f2 aA (bu bz (aa (ae 6) ag)) (fC (.int 1))) ag)))) (ae 8))) (jc 3 [6] (bu b8 (aa (ae 6) ag)))))) (aV (ae 3))))
def bS:List D->Option D:=bf iR 9
abbrev Bh:List Str:=["_law_script","_law_at","_law_most","_law_each","_law_takers","_law_many","_law_size","_law_ways","_law_k","_law_mine","_law_yours","_law_givers"]
def eX:au->Option Out:=(ar (dZ (gq (fB (f2 EV (ae 2) (fC (.int 3)))) (fB (f2 bh (aj 3 ak (aa (ae 0) (aa (f2 aA (ae 1) (fC (.int 64))) (aa (fC (.int 4)) ag)))) (fC (.int 0))))) (ar (aD 3 [0,1] (f2 aA (fC (.int 1)) (aj 3 ak (aa (ae 0) (aa (f2 aA (ae 1) (fC (.int 65))) (aa (fC (.int 2)) ag)))))) (ar (aD 4 [3] (aH (aa (aH (aa (ae 3) (aa (aH (aa (fC (.int 1)) (aa (fC (.int 0)) ag))) ag))) (aa (aH (aa (ae 3) (aa (aH (aa (fC (.int 0)) (aa (fC (.int 1)) ag))) ag))) ag)))) (aV (aH (aa (aH (aa (aH (aa (ae 3) (aa (aH (aa (fC (.int 0)) (aa (fC (.int 1)) ag))) ag))) (aa (aH (aa (ae 3) (aa (aH (aa (fC (.int 1)) (aa (fC (.int 0)) ag))) ag))) ag))) (aa (ae 4) (aa (aH (aa (aH (aa (fC (.int 0)) (aa (fC (.int 0)) (aa (fC (.int 2)) ag)))) (aa (aH (aa (fC (.int 0)) (aa (fC (.int 1)) (aa (fC (.int 2)) ag)))) (aa (aH (aa (fC (.int 1)) (aa (fC (.int 0)) (aa (fC (.int 2)) ag)))) (aa (aH (aa (fC (.int 1)) (aa (fC (.int 1)) (aa (fC (.int 2)) ag)))) ag))))) ag))))))) dP) (ar (aD 5 [0,1] (f2 aA (fC (.int 1)) (aj 3 ak (aa (ae 0) (aa (ae 1) (aa (fC (.int 3)) ag)))))) (ar (aD 6 [0,1] (f2 aA (fC (.int 1)) (aj 3 ak (aa (ae 0) (aa (f2 aA (ae 1) (fC (.int 1))) (aa (fC (.int 3)) ag)))))) (ar (aU 7 [] (bZ ag)) (ar (dC [5,6] (bj (aa (f2 dH (ae 5) (ae 6)) ag)) (iZ 8) (dZ (gq (fB (f2 v5 (bu bz (aa (ae 7) ag)) (ae 2))) (fB (f2 EV (aj 3 ak (aa (ae 0) (aa (f2 aA (f2 aA (ae 1) (fC (.int 2))) (ae 8)) (aa (fC (.int 4)) ag)))) (fC (.int 0))))) (jc 7 [0,1,6,8] (aH (aa (f2 oi (ae 8) (ae 6)) (aa (f2 mT (ae 8) (ae 6)) (aa (f2 aA (fC (.int 1)) (aj 3 ak (aa (ae 0) (aa (f2 aA (f2 aA (ae 1) (fC (.int 12))) (ae 8)) (aa (fC (.int 2)) ag))))) ag))))) dP)) (ar (aD 9 [0,1,5,7] (aj 3 bS (aa (ae 0) (aa (f2 aA (ae 1) (fC (.int 24))) (aa (cq (ax 1 [7] (bj (aa (ae 5) ag)) (fG 0) (λ_=>some true) (cq (ax 1 [0] (bI (ae 1)) (fG 0) (fB (f2 bh (f2 av (ae 0) (fC (.int 0))) (ae 1))) (f2 av (ae 0) (fC (.int 1))))))) ag))))) (ar (aD 10 [0,1,6,7] (aj 3 bS (aa (ae 0) (aa (f2 aA (ae 1) (fC (.int 40))) (aa (cq (ax 1 [7] (bj (aa (ae 6) ag)) (fG 0) (λ_=>some true) (cq (ax 1 [0] (bI (ae 1)) (fG 0) (fB (f2 bh (f2 av (ae 0) (fC (.int 1))) (ae 1))) (f2 av (ae 0) (fC (.int 0))))))) ag))))) (ar (aD 11 [0,1,8,9] (bu b8 (aa (cq (ax 2 [0,1] (bQ (aa (ae 9) ag)) (gE 0 1) (λ_=>some true) (aH (aa (aj 3 ak (aa (ae 2) (aa (f2 aA (f2 aA (ae 3) (fC (.int 56))) (ae 0)) (aa (fC (.int 4)) ag)))) (aa (ae 1) ag))))) ag))) (ar (aD 4 [0,1,8,10] (bu b8 (aa (cq (ax 2 [0,1] (bQ (aa (ae 10) ag)) (gE 0 1) (λ_=>some true) (aH (aa (aj 3 ak (aa (ae 2) (aa (f2 aA (f2 aA (ae 3) (fC (.int 60))) (ae 0)) (aa (fC (.int 4)) ag)))) (aa (ae 1) ag))))) ag))) (aV (aH (aa (ae 11) (aa (ae 4) (aa (bu b8 (aa (ae 7) ag)) ag))))))))))))))
def cU:List D->Option D:=bf eX 12
abbrev xk:List Str:=["_law_world_here","_law_side","_law_place","_law_offers","_law_found","_law_left","_law_other","_law_way"]
def fW:au->Option Out:=(ar (aU 4 [3] (lQ (bZ (aa (fC (.int 0)) ag)) (bu bz (aa (ae 3) ag)))) (ar (aD 5 [0,1,2] (f2 av (f2 av (f2 av (ae 0) (ae 1)) (ae 2)) (fC (.int 0)))) (ar (dC [0,1,2] (bI (f2 av (f2 av (f2 av (ae 0) (ae 1)) (ae 2)) (fC (.int 1)))) (iZ 6) (dC [3] (bj (aa (bu bz (aa (ae 3) ag)) ag)) (iZ 7) (dZ (gq (fB (f2 bh (f2 av (f2 av (f2 av (ae 0) (fC (.int 2))) (ae 7)) (ae 1)) (ae 2))) (fB (f2 bh (f2 av (f2 av (f2 av (ae 0) (fC (.int 2))) (ae 7)) (f2 Dl.dy (fC (.int 1)) (ae 1))) (ae 6)))) (ar (AW 4 [0,3,5,7] (ae 7) (bu uN (aa (ae 5) (aa (f2 av (ae 3) (ae 7)) (aa (f2 av (f2 av (f2 av (ae 0) (fC (.int 2))) (ae 7)) (fC (.int 2))) ag))))) (aD 5 [4,5,7] (f2 Dl.dy (ae 5) (f2 av (ae 4) (ae 7))))) dP))) (aV (bu b8 (aa (ae 4) ag))))))
def cE:List D->Option D:=bf fW 8
abbrev CW:List Str:=["_law_world_here","_law_side","_law_offers","_law_found","_law_place"]
def iI:au->Option Out:=(ar (aU 3 [2] (lQ (bZ (aa (fC (.int 0)) ag)) (bu bz (aa (ae 2) ag)))) (ar (dC [0,1] (bj (aa (bu bz (aa (f2 av (ae 0) (ae 1)) ag)) ag)) (iZ 4) (aU 3 [0,1,2,3,4] (ax 2 [] (cO (aa (ae 3) (aa (aj 4 cE (aa (ae 0) (aa (ae 1) (aa (ae 4) (aa (ae 2) ag))))) ag))) (gE 0 1) (λ_=>some true) (f2 aA (ae 0) (ae 1))))) (aV (bu b8 (aa (ae 3) ag)))))
def br:List D->Option D:=bf iI 5
abbrev Ir:List Str:=["world","plan","side","place"]
def qq:au->Option Out:=(aV (bu vy (aa (cq (ax 2 [2,3] (cO (aa (f2 av (ae 0) (fC (.int 2))) (aa (ae 1) ag))) (gE 0 1) (fB (f2 bh (f2 av (ae 0) (ae 2)) (ae 3))) (ae 1))) ag)))
def dM:List D->Option D:=bf qq 4
abbrev sC:List Str:=["world","plan","side"]
def gC:au->Option Out:=(aV (bu jl (aa (cq (ax 2 [0,1,2] (bQ (aa (f2 av (ae 0) (ae 2)) ag)) (gE 0 1) (λ_=>some true) (f2 rT (aj 4 dM (aa (ae 2) (aa (ae 3) (aa (ae 4) (aa (ae 0) ag))))) (f2 av (ae 1) (fC (.int 0)))))) ag)))
def da:List D->Option D:=bf gC 3
abbrev Jh:List Str:=["world","thing","ways"]
def gW:au->Option Out:=(ar (aD 2 [0] (f2 av (ae 0) (fC (.int 2)))) (ar (dZ (bJ (fB (aj 3 bg (aa (ae 1) (aa (bu bz (aa (ae 2) ag)) (aa (bu bz (aa (ae 2) ag)) ag)))))) (aV (fC (.bool false))) dP) (ar (dZ (bJ (fB (bu jl (aa (cq (ax 2 [] (cO (aa (ae 2) (aa (ae 1) ag))) (gE 0 1) (λ_=>some true) (aj 3 aX (aa (ae 1) (aa (fC (.int 0)) (aa (f2 av (ae 0) (fC (.int 2))) ag)))))) ag)))) (aV (fC (.bool false))) dP) (aV (gy (aj 3 da (aa (ae 0) (aa (ae 1) (aa (fC (.int 0)) ag)))) (aj 3 da (aa (ae 0) (aa (ae 1) (aa (fC (.int 1)) ag)))))))))
def dc:List D->Option D:=bf gW 3
abbrev pJ:List Str:=["world","plan"]
abbrev Yl:=(aa (ae 1) ag)
abbrev Yy:=(aa (ae 0) Yl)
abbrev akq:=(aj 2 dc Yy)
abbrev akr:=(fB akq)
abbrev abA:=(bJ akr)
def eY:au->Option Out:=(ar ZK (dZ abA SW dP))
def cW:List D->Option D:=bf eY 2
abbrev AF:List Str:=["world","plan","side","way","place","own","less_liked"]
def gL:au->Option Out:=(ar (aD 4 [0,2,3] (f2 av (f2 av (f2 av (ae 0) (fC (.int 2))) (ae 3)) (ae 2))) (ar (dZ (fB (f2 v5 (aj 4 dM (aa (ae 0) (aa (ae 1) (aa (ae 2) (aa (ae 4) ag))))) (f2 av (f2 av (f2 av (ae 0) (ae 2)) (ae 4)) (fC (.int 0))))) (aV (fC (.bool true))) dP) (ar (aD 5 [0,2,4] (aj 3 fQ (aa (ae 0) (aa (ae 2) (aa (ae 4) ag))))) (ar (aD 6 [3,5] (cF bw (ae 5) (mC (f2 aA (f2 nU (ae 5) (ae 3)) (fC (.int 1)))) cZ)) (aV (bu Rf.MJ (aa (cq (ax 1 [1] (bI (ae 6)) (fG 0) (λ_=>some true) (f2 EV (f2 av (ae 1) (ae 0)) (fC (.int 0))))) ag)))))))
def e8:List D->Option D:=bf gL 7
abbrev EI:List Str:=["world","plan","way"]
abbrev afl:=(f2 av (ae 1) (ae 2))
abbrev adX:=(f2 av zq6 (ae 2))
abbrev aks:=(f2 bh afl (f2 av adX (fC (.int 2))))
abbrev afm:=(fB aks)
abbrev afn:=(aa (fC (.int 0)) zq5)
abbrev akt:=(aa (ae 1) afn)
abbrev aku:=(aa (ae 0) akt)
abbrev akv:=(aj 4 e8 aku)
abbrev akw:=(fB akv)
abbrev afo:=(bJ akw)
abbrev akx:=(aa (ae 1) (aa (fC (.int 1)) zq5))
abbrev aky:=(aa (ae 0) akx)
abbrev akz:=(aj 4 e8 aky)
abbrev akA:=(fB akz)
abbrev afp:=(bJ akA)
abbrev ZL:=(aV (fC .none))
def k9:au->Option Out:=(ar (dZ afm (aV (fC (.str "full"))) dP) (ar (dZ afo (aV (fC (.str "giver"))) dP) (ar (dZ afp (aV (fC (.str "taker"))) dP) ZL)))
def j8:List D->Option D:=bf k9 3
abbrev si:List Str:=["world","plan","way"]
abbrev aaT:=(bu bz Yl)
abbrev afq:=(aa aaT ag)
abbrev adY:=(bj afq)
abbrev akB:=(aj 3 j8 adU)
abbrev akC:=(f2 uF akB (fC .none))
abbrev adZ:=(fB akC)
def eB:au->Option Out:=(ar (dC [1] adY (iZ 2) (dZ adZ aaS dP)) ZL)
def eu:List D->Option D:=bf eB 3
abbrev FA:List Str:=["world","plan"]
def lh:au->Option Out:=(aV (f2 uF (aj 2 eu Yy) (fC .none)))
def k6:List D->Option D:=bf lh 2
abbrev CY:List Str:=["_law_world_here","_law_plan_here","_law_side","_law_place"]
def l6:au->Option Out:=(aV (bu vy (aa (cq (ax 2 [2,3] (cO (aa (ae 1) (aa (f2 av (ae 0) (fC (.int 2))) ag))) (gE 0 1) (fB (f2 bh (f2 av (ae 1) (ae 2)) (ae 3))) (ae 0))) ag)))
def gh:List D->Option D:=bf l6 4
abbrev CH:List Str:=["_law_world_here","_law_plan_here","_law_side","_law_place","_law_row"]
abbrev afr:=(f2 av (ae 0) (ae 2))
abbrev afs:=(aa afr ag)
abbrev akD:=(bQ afs)
abbrev aan:=(aa (ae 3) ag)
abbrev aft:=(aa (ae 2) aan)
abbrev ad0:=(aa (ae 1) aft)
abbrev akE:=(aa (ae 0) ad0)
abbrev afu:=(aj 4 gh akE)
abbrev akF:=(f2 av (ae 4) (fC (.int 0)))
abbrev akG:=(f2 EV afu akF)
abbrev ad1:=(fB akG)
abbrev Yg:=(aV (fC (.bool false)))
abbrev akH:=(dZ ad1 Yg dP)
abbrev afv:=(dC [0,2] akD (fj 3 4) akH)
abbrev abB:=(aV (fC (.bool true)))
def iL:au->Option Out:=(ar (dC [] (bj zq4) (iZ 2) afv) abB)
def dE:List D->Option D:=bf iL 5
abbrev BQ:List Str:=["_law_script","_law_at","_law_world_here","_law_found","_law_k","_law_way","_law_more","_law_fit"]
abbrev afw:=(f2 av (ae 2) (fC (.int 2)))
abbrev ad2:=(aa afw ag)
abbrev YU:=(aa (fC (.int 0)) ag)
abbrev aao:=(aH YU)
def iy:au->Option Out:=(ar (aD 3 [] (aH ag)) (ar (dC [2] (bQ ad2) (fj 4 5) (ar (aD 6 [0,1,3,4,5] (f2 aA (ae 3) (aH (aa (aj 3 ak (aa (ae 0) (aa (f2 aA (ae 1) (ae 4)) (aa (f2 aA (f2 av (ae 5) (fC (.int 2))) (fC (.int 1))) ag)))) ag)))) (ar (aD 7 [2,6] (aj 2 dE (aa (ae 2) (aa (f2 aA (ae 6) (f2 dH aao (f2 Dl.dy (bu bz ad2) (bu bz (aa (ae 6) ag))))) ag)))) (aD 3 [3,6,7] (DN (fB (ae 7)) (ae 6) (f2 aA (ae 3) aao)))))) (aV (ae 3))))
def iG:List D->Option D:=bf iy 8
abbrev FX:List Str:=["world"]
def sX:au->Option Out:=(ar ZK (aV (aj 1 j6 zq0)))
def ku:List D->Option D:=bf sX 1
abbrev uZ:List Str:=["world","thing"]
abbrev afx:=(aa zq6 ag)
abbrev afy:=(bu bz afx)
abbrev afz:=(aa afy ag)
abbrev ad3:=(aa (fC (.int 9)) ag)
abbrev abC:=(aa (fC (.int 0)) ad3)
def cM:au->Option Out:=(aV (gy (aj 3 bg (aa (ae 1) (aa (fC (.int 2)) zq4))) (gy (aj 2 bH (aa (f2 av (ae 1) (fC (.int 0))) afz)) (aj 3 aX (aa (f2 av (ae 1) (fC (.int 1))) abC)))))
def bW:List D->Option D:=bf cM 2
abbrev ID:List Str:=["world","caps","row","given","kept"]
def mr:au->Option Out:=(ar (aD 3 [0,1] (aj 3 aN (aa (ae 0) (aa (fC (.int 0)) Yl)))) (ar (aD 4 [0,3] (aj 3 aN (aa (ae 0) (aa (fC (.int 1)) aan)))) (aV (dW rT v5 (f2 av (ae 4) (f2 av (ae 2) (fC (.int 0)))) (f2 av (ae 2) (fC (.int 1))) (f2 av (ae 3) (f2 av (ae 2) (fC (.int 0))))))))
def mD:List D->Option D:=bf mr 5
abbrev vm:List Str:=["world","rows","caps","row"]
abbrev afA:=(bJ (fB (AS "list" (ae 1))))
abbrev ad4:=(aj 2 bW (aa (ae 1) zq0))
abbrev akI:=(ax 1 [0] YT (fG 0) (λ_=>some true) ad4)
abbrev akJ:=(cq akI)
abbrev ad5:=(aa akJ ag)
abbrev akK:=(aa (ae 0) aft)
abbrev akL:=(aj 3 mD akK)
abbrev akM:=(fB akL)
abbrev akN:=(bJ akM)
abbrev akO:=(dZ akN ZL dP)
abbrev afB:=(ar akO afj)
def bT:au->Option Out:=(ar (dZ (iM afA (bJ (fB (bu jl ad5)))) ZL dP) (ar (aD 2 [0] aaR) (ar (dC [1] YT (iZ 3) afB) aaS)))
def cH:List D->Option D:=bf bT 4
abbrev xn:List Str:=["world","rows"]
def mE:au->Option Out:=(ar ZK (aV (aj 2 cH Yy)))
def ck:List D->Option D:=bf mE 2
abbrev GQ:List Str:=["world","rows"]
def sG:au->Option Out:=(aV (f2 lJ (aj 2 ck Yy) (fC .none)))
def kj:List D->Option D:=bf sG 2
abbrev Hg:List Str:=["world","plan","rows","caps"]
def sQ:au->Option Out:=(ar (mS (aj 2 cW Yy)) (ar (aD 3 [0,2] (aj 2 cH afe)) (ar (dZ (iM (fB (f2 uF (ae 3) (fC .none))) (bJ (fB (aj 2 k6 Yy)))) Yg dP) (aV (f2 bh (ae 1) (aj 3 aN (aa (ae 0) (aa (fC (.int 0)) aan))))))))
def kh:List D->Option D:=bf sQ 4
abbrev BC:List Str:=["world","thing","caps"]
abbrev ad6:=(bu bz zq5)
abbrev akP:=(ax 2 [] (cO aaP) (gE 0 1) (λ_=>some true) (f2 rT (ae 0) (ae 1)))
abbrev akQ:=(cq akP)
abbrev afC:=(aa akQ ag)
def eJ:au->Option Out:=(ar ZK (ar (dZ (iM abA (fB (f2 gf aaT ad6))) Yg dP) (aV (bu jl afC))))
def eM:List D->Option D:=bf eJ 3
open PySem L2 Dl PySem.Spec PyProof.Rows Ex
def ml:XS:=(LX zq3 (Uh "NoWorld") oX)
def bO:List D->Option Str:=uX ml 1
abbrev akR:=(AV 1 bO zq0)
abbrev ad7:=(nW akR)
def mU:XS:=(iH ad7 ZK (LX abA (Uh "NoPlan") oX))
def dJ:List D->Option Str:=uX mU 2
abbrev AY:List Str:=["_law_world_here","_law_plan_here","_law_side","_law_place","_law_other","_law_row","_law_many","_law_way"]
abbrev abX:=(f2 av afr (ae 3))
abbrev afD:=(f2 av abX (fC (.int 0)))
abbrev afE:=(f2 v5 afu afD)
abbrev abY:=(fB afE)
abbrev abZ:=(f2 av abX (fC (.int 1)))
abbrev ab0:=(aa (ae 1) afx)
abbrev afF:=(f2 av (ae 7) (ae 2))
abbrev afG:=(f2 bh afF (ae 3))
abbrev ab1:=(fB afG)
abbrev afH:=(f2 EV (ae 6) (fC (.int 0)))
abbrev ab2:=(fB afH)
abbrev afI:=(f2 Dl.dy (fC (.int 1)) (ae 2))
abbrev afJ:=(f2 av (ae 7) afI)
abbrev afK:=(f2 nU (ae 5) afJ)
abbrev afL:=(f2 nU (ae 5) (ae 4))
abbrev afM:=(f2 EV afK afL)
abbrev afN:=(fB afM)
abbrev afO:=(gq ab2 afN)
abbrev ab3:=(gq ab1 afO)
abbrev ab4:=(dZ ab3 abB dP)
def gT:au->Option Out:=(ar (dZ abY abB dP) (ar (aD 5 [0,2,3] abZ) (ar (dC [0,1] (cO ab0) (fj 6 7) ab4) Yg)))
def eV:List D->Option D:=bf gT 8
abbrev E8:List Str:=["_law_world_here","_law_plan_here","_law_way","_law_giver","_law_taker","_law_limit"]
abbrev afP:=(f2 bh afl (ae 5))
abbrev ab5:=(fB afP)
abbrev afQ:=(aa (fC (.int 0)) afk)
abbrev afR:=(aa (ae 1) afQ)
abbrev afS:=(aa (ae 0) afR)
abbrev afT:=(aj 5 eV afS)
abbrev afU:=(fB afT)
abbrev ab6:=(bJ afU)
abbrev afV:=(aa (fC (.int 1)) (aa (ae 4) aan))
abbrev afW:=(aa (ae 1) afV)
abbrev afX:=(aa (ae 0) afW)
abbrev afY:=(aj 5 eV afX)
abbrev ab7:=(fB afY)
def kl:au->Option Out:=(ar (qr 3 4 5 [0,2] adX) (ar (dZ ab5 (aV (fC (.str "full"))) dP) (ar (dZ ab6 (aV (fC (.str "giver"))) dP) (aV (DN ab7 (fC .none) (fC (.str "taker")))))))
def ki:List D->Option D:=bf kl 6
abbrev Ag:List Str:=["_law_world_here","_law_plan_here"]
abbrev afZ:=(aa (ae 1) (aa (ae 2) zq0))
abbrev af0:=(aj 3 ki afZ)
abbrev af1:=(f2 uF af0 (fC .none))
abbrev ab8:=(fB af1)
abbrev Y8:=(cq aaQ)
def gO:au->Option Out:=(aV (f2 bh (cq (ax 1 [0,1] adY (fG 0) ab8 (ae 0))) Y8))
def gS:List D->Option D:=bf gO 2
abbrev af2:=(aj 3 aX adU)
abbrev af3:=(fB af2)
abbrev aaU:=(bJ af3)
def u5:XS:=(LX aaU (Uh "NoPlace") oX)
def m9:List D->Option Str:=uX u5 3
abbrev aaV:=(aa (fC (.int 0)) (aa (f2 Dl.dy (ae 1) (fC (.int 1))) ag))
def su:XS:=(nW (AV 3 m9 (aa (ae 0) aaV)))
def l7:List D->Option Str:=uX su 2
def wx:XS:=(nW (AV 2 l7 (aa (ae 0) zq4)))
def zw:List D->Option Str:=uX wx 1
def BE:XS:=ad7
def oQ:List D->Option Str:=uX BE 1
abbrev JT:List Str:=["world","thing"]
def oq:au->Option Out:=(ar ZK (aV (aj 2 bW Yy)))
def oH:List D->Option D:=bf oq 2
def tw:XS:=ad7
def eK:List D->Option Str:=uX tw 2
def Ce:XS:=(nW (AV 2 eK Yy))
def pG:List D->Option Str:=uX Ce 2
def C3:XS:=(nW (AV 2 dJ Yy))
def pE:List D->Option Str:=uX C3 4
abbrev vp:List Str:=["_law_world_here","_law_row","_law_part","_law_high"]
abbrev af4:=(f2 Dl.dy afy (fC (.int 1)))
abbrev ab9:=(aa af4 ad3)
abbrev af5:=(aH ab9)
abbrev aca:=(aa af5 ag)
abbrev acb:=(aa (ae 1) aca)
abbrev af6:=(AS "int" (ae 2))
abbrev af7:=(fB af6)
abbrev af8:=(bJ af7)
abbrev af9:=(AS "bool" (ae 2))
abbrev aga:=(fB af9)
abbrev agb:=(dW rT rT (fC (.int 0)) (ae 2) (ae 3))
abbrev agc:=(fB agb)
abbrev agd:=(bJ agc)
abbrev age:=(iM aga agd)
abbrev acd:=(iM af8 age)
abbrev ace:=(dZ acd Yg dP)
def fX:au->Option Out:=(ar (dZ (iM (bJ (fB (AS "tuple" (ae 1)))) (fB (f2 gf aaT (fC (.int 2))))) Yg dP) (ar (dC [0,1] (cO acb) (fj 2 3) ace) abB))
def cG:List D->Option D:=bf fX 4
abbrev Cu:List Str:=["_law_world_here","_law_rows","_law_caps_here","_law_row","_law_offers","_law_some"]
abbrev agf:=(cF bw (ae 2) cZ (mC ZJ))
abbrev agg:=(f2 aA agf (aH afi))
abbrev agh:=(mC (f2 aA ZJ (fC (.int 1))))
abbrev agi:=(cF bw (ae 2) agh cZ)
abbrev acf:=(f2 aA agg agi)
def iz:au->Option Out:=(ar (dZ afA ZL dP) (ar (aD 2 [0] afd) (ar (dC [1] YT (iZ 3) (ar (dZ (bJ (fB (aj 2 cG (aa (ae 0) aan)))) ZL dP) (ar (aD 4 [0,2] (aj 3 br (aa (ae 0) afn))) (ar (aD 5 [0,4] (aj 3 br (aa (ae 0) (aa (fC (.int 1)) abz)))) (ar (dZ (bJ (fB (dW rT v5 (f2 av (ae 5) ZJ) adV (f2 av (ae 4) ZJ)))) ZL dP) (aD 2 [2,3] acf)))))) aaS)))
def gn:List D->Option D:=bf iz 6
abbrev Av:List Str:=["_law_script","_law_at","_law_world_here","_law_rows","_law_caps_here","_law_k","_law_offers","_law_some","_law_ways","_law_way"]
abbrev aaW:=(aa (fC (.int 8)) ag)
abbrev acg:=(f2 aA (ae 1) (f2 dH (fC (.int 2)) (ae 5)))
abbrev ach:=(aa (ae 8) ag)
abbrev aci:=(f1 Hr (fC (.int 1)))
def gP:au->Option Out:=(ar (aU 3 [] aaQ) (ar (aD 4 [2,9] (bu b8 (aa (cq (ax 1 [] (bI afw) (fG 0) (λ_=>some true) zq6)) ag))) (ar (dC [] (bj aaW) (iZ 5) (ar (aD 6 [2,4] (aj 3 br (aa (ae 2) (aa (fC (.int 0)) abz)))) (ar (aD 7 [2,6] (aj 3 br (aa (ae 2) (aa (fC (.int 1)) (aa (ae 6) ag))))) (ar (aU 8 [4,6,7,9] (ax 1 [6,7] (bj (aa (bu bz abz) ag)) (fG 0) (fB (f2 v5 (f2 av (ae 2) (ae 0)) (f2 av (ae 1) (ae 0)))) (ae 0))) (ar (dZ (fB (f2 bh (ae 8) Y8)) (aV (ae 3)) dP) (ar (aD 9 [0,1,5,8] (f2 av (ae 8) (aj 3 ak (aa (ae 0) (aa acg (aa (bu bz ach) ag)))))) (ar (jc 3 [0,1,5,6,7,9] (aH (aa (ae 9) (aa (f2 aA (f2 av (ae 7) (ae 9)) (aj 3 ak (aa (ae 0) (aa (f2 aA acg (fC (.int 1))) (aa (f2 Dl.dy (f2 av (ae 6) (ae 9)) (f2 av (ae 7) (ae 9))) ag))))) ag)))) (aD 4 [3,4,9] (f2 aA (f2 aA (cF bw (ae 4) cZ (mC (ae 9))) (aH (aa (f2 av (f2 av (ae 3) aci) (fC (.int 1))) ag))) (cF bw (ae 4) (mC (f2 aA (ae 9) (fC (.int 1)))) cZ)))))))))) (aV (ae 3)))))
def gM:List D->Option D:=bf gP 10
abbrev sd:List Str:=["_law_way","_law_world_here","_law_plan_here","_law_rows","_law_e"]
abbrev acj:=(fB (f2 bh (ae 0) (fC (.int 0))))
abbrev ZZ:=(aa (ae 1) aan)
abbrev ack:=(dZ acj (aV (aj 2 kj ZZ)) dP)
abbrev acm:=(fB (f2 bh (ae 0) (fC (.int 1))))
abbrev acn:=(dZ acm (aV (aj 2 ck ZZ)) dP)
abbrev aco:=(fB (f2 bh (ae 0) (fC (.int 2))))
def lu:au->Option Out:=(BF (ar ack (ar acn (aV (DN aco (aj 3 kh ad0) (aj 1 ku Yl))))) (iH (LX acj (nW (AV 2 pG ZZ)) oX) ack (iH (LX acm (nW (AV 2 eK ZZ)) oX) acn (nW (Fe aco (AV 3 pE ad0) (AV 1 oQ Yl))))) (nS ["NoWorld","NoPlan","NoPlace","TooMany","Nothing"]))
def az:List D->Option D:=bf lu 5
abbrev pU:List Str:=["_law_world_here","_law_rows"]
abbrev agj:=(aa (fC (.int 1)) (aa aao ag))
abbrev acp:=(aH agj)
abbrev aaX:=(aa (fC (.int 1)) ag)
abbrev Z0:=(aa (fC (.int 0)) aaX)
abbrev acq:=(aa (aH Z0) ag)
abbrev agk:=(aa (fC (.int 1)) YU)
abbrev acr:=(aH agk)
abbrev acs:=(aa acr ag)
abbrev acu:=(aa (fC (.int 10)) ag)
abbrev agl:=(aa (fC (.int 0)) YU)
abbrev acv:=(aH agl)
abbrev agm:=(aa (ae 1) (aa (fC .none) zq0))
abbrev acw:=(aa (fC (.int 0)) agm)
def dN:au->Option Out:=(ar (aD 0 [] (aH (aa (aH (aa acp (aa acp ag))) (aa (aH (aa (aH (aa (fC (.int 1)) acq)) ag)) (aa (aH (aa (aH (aa (fC (.int 0)) Z0)) (aa (aH (aa (fC (.int 1)) Z0)) ag))) ag))))) (ar (aU 1 [] (bZ (aa Y8 (aa (cq (bZ acs)) (aa (cq (bZ (aa (aH (aa (fC (.int 1)) aaX)) ag))) (aa (cq (bZ (aa (aH (aa (fC (.int 1)) acu)) ag))) (aa (cq (bZ (aa acv ag))) (aa (cq (bZ (aa (aH (aa (fC (.int 2)) YU)) ag))) (aa (cq (bZ (aa acr acs))) ag))))))))) (aV (f2 bh (cq (ax 1 [0] YT (fG 0) (λ_=>some true) (aj 4 az acw))) (cq (bZ (aa (fC (.bool true)) (aa (fC (.bool true)) (aa (fC (.bool false)) (aa (fC (.bool false)) (aa (fC (.bool false)) (aa (fC (.bool false)) (aa (fC (.bool false)) ag)))))))))))))
def dO:List D->Option D:=bf dN 2
abbrev w8:List Str:=["_law_script","_law_world_here","_law_rows","_law_at","_law_odds","_law_odd","_law_some","_law_caps_here","_law_row","_law_plan_here","_law_due","_law_near"]
abbrev agn:=(aa (fC (.int 100)) zq4)
abbrev ago:=(aa (ae 0) agn)
abbrev agp:=(aj 3 ak ago)
abbrev agq:=(f2 bh agp (fC (.int 0)))
abbrev acx:=(fB agq)
abbrev agr:=(aa (ae 0) (aa (fC (.int 70)) Yl))
abbrev ags:=(aj 3 gM agr)
abbrev acy:=(aa (fC .none) ag)
abbrev agt:=(aa (fC .none) acy)
abbrev agu:=(aa (ae 1) agt)
abbrev agv:=(aa (fC (.int 3)) agu)
abbrev agw:=(aj 4 az agv)
abbrev acz:=(DN acx ags agw)
abbrev agx:=(aa (fC (.int 101)) zq4)
abbrev agy:=(aa (ae 0) agx)
abbrev agz:=(aj 3 ak agy)
abbrev agA:=(f2 bh agz (fC (.int 0)))
abbrev aaY:=(fB agA)
abbrev agB:=(f2 aA ad6 (fC (.int 1)))
abbrev agC:=(aa agB ag)
abbrev agD:=(aa (fC (.int 102)) agC)
abbrev agE:=(aa (ae 0) agD)
abbrev agF:=(aj 3 ak agE)
abbrev agG:=(aD 3 [0,2] agF)
abbrev agH:=(f2 av (ae 1) (fC (.int 2)))
abbrev agI:=(aa agH ag)
abbrev agJ:=(bu bz agI)
abbrev agK:=(aa agJ YU)
abbrev agL:=(aH agK)
abbrev agM:=(aa (fC (.int 0)) acu)
abbrev agN:=(aH agM)
abbrev agO:=(aa (fC (.bool true)) YU)
abbrev agP:=(aH agO)
abbrev agQ:=(aa (fC (.int 1)) zq4)
abbrev agR:=(aa (fC (.int 0)) agQ)
abbrev agS:=(aH agR)
abbrev agT:=(aa agS acq)
abbrev agU:=(aa (fC .none) agT)
abbrev agV:=(aa (cq (bZ Z0)) agU)
abbrev agW:=(aa agP agV)
abbrev agX:=(aa agN agW)
abbrev agY:=(aa agL agX)
abbrev agZ:=(aa acv agY)
abbrev acA:=(bZ agZ)
abbrev ag0:=(aU 4 [1] acA)
abbrev ag1:=(aa (fC (.int 103)) aaW)
abbrev ag2:=(aa (ae 0) ag1)
abbrev acB:=(aj 3 ak ag2)
abbrev ag3:=(f2 av (ae 4) acB)
abbrev acC:=(aD 5 [0,4] ag3)
abbrev Y9:=(mC (ae 3))
abbrev aaZ:=(cF bw (ae 2) cZ Y9)
abbrev ag4:=(aa (ae 5) ag)
abbrev acD:=(bZ ag4)
abbrev aa0:=(cq acD)
abbrev ag5:=(MY iu aaZ aa0)
abbrev ag6:=(cq ag5)
abbrev ag7:=(f2 aA (ae 3) (fC (.int 1)))
abbrev aa1:=(mC ag7)
abbrev acE:=(cF bw (ae 2) aa1 cZ)
abbrev ag8:=(MY iu ag6 acE)
abbrev ag9:=(cq ag8)
abbrev aha:=(f2 aA aaZ acE)
abbrev ahb:=(cF bw (ae 2) cZ aa1)
abbrev ahc:=(cF bw (ae 2) Y9 cZ)
abbrev ahd:=(f2 aA ahb ahc)
abbrev ahe:=(bu b8 zq5)
abbrev ahf:=(aa ahe ag)
abbrev ahg:=(aa ahd ahf)
abbrev ahh:=(aa aha ahg)
abbrev ahi:=(aa ag9 ahh)
abbrev acF:=(bZ ahi)
abbrev ahj:=(aU 6 [2,3,5] acF)
abbrev ahk:=(f2 aA (ae 3) (fC (.int 2)))
abbrev acG:=(mC ahk)
abbrev acH:=(cF bw (ae 2) Y9 acG)
abbrev ahl:=(f1 GO acH)
abbrev ahm:=(f2 aA aaZ ahl)
abbrev ahn:=(cF bw (ae 2) acG cZ)
abbrev acI:=(f2 aA ahm ahn)
abbrev aho:=(jc 6 [2,3] acI)
abbrev ahp:=(MY iu (ae 2) aa0)
abbrev ahq:=(cq ahp)
abbrev ahr:=(MY iu aa0 (ae 2))
abbrev ahs:=(cq ahr)
abbrev aht:=(aa ahs acy)
abbrev ahu:=(aa ahq aht)
abbrev ahv:=(bZ ahu)
abbrev ahw:=(cq ahv)
abbrev acJ:=(MY iu (ae 6) ahw)
abbrev ahx:=(aU 6 [2,5,6] acJ)
abbrev ahy:=(bI (ae 2))
abbrev ahz:=(bu II aaV)
abbrev ahA:=(aa ahz ag)
abbrev acK:=(aa (ae 0) ahA)
abbrev ahB:=(aH acK)
abbrev ahC:=(ax 2 [] ahy (gE 0 1) (λ_=>some true) ahB)
abbrev acL:=(cq ahC)
abbrev ahD:=(jc 6 [2] acL)
abbrev ahE:=(aa (fC (.int 104)) ad3)
abbrev ahF:=(aa (ae 0) ahE)
abbrev acM:=(aj 3 ak ahF)
abbrev ahG:=(f2 av (ae 6) acM)
abbrev acN:=(aD 2 [0,6] ahG)
abbrev ahH:=(ar ahD acN)
abbrev ahI:=(ar ahx ahH)
abbrev ahJ:=(ar aho ahI)
abbrev acO:=(ar ahj ahJ)
abbrev ahK:=(ar acC acO)
abbrev ahL:=(ar ag0 ahK)
abbrev acP:=(ar agG ahL)
abbrev acQ:=(aa (fC .none) zq5)
abbrev acR:=(aa (ae 1) acQ)
abbrev acS:=(f2 lJ (ae 7) (fC .none))
abbrev ahM:=(DN (fB (AS "list" (ae 2))) (ae 2) Y8)
abbrev ahN:=(aa aci ag)
abbrev ahO:=(aa (fC (.int 0)) ahN)
abbrev ahP:=(aH ahO)
abbrev ahQ:=(aa (fC (.bool true)) ag)
abbrev ahR:=(aa (fC (.int 0)) ahQ)
abbrev ahS:=(aH ahR)
abbrev ahT:=(aa ahS ag)
abbrev ahU:=(aa ahP ahT)
abbrev ahV:=(aa (aH abC) ahU)
abbrev ahW:=(aa (ae 2) ahV)
abbrev ahX:=(bZ ahW)
abbrev acT:=(cq ahX)
abbrev ahY:=(MY iu ahM acT)
abbrev ahZ:=(cq ahY)
abbrev acU:=(bI ahZ)
abbrev acV:=(aa (ae 1) ach)
abbrev ah0:=(aj 2 oH acV)
abbrev ah1:=(aj 2 cG acV)
abbrev ah2:=(f2 gf ah0 ah1)
abbrev ah3:=(fB ah2)
abbrev acW:=(dZ ah3 Yg dP)
abbrev acX:=(aa (ae 9) ag)
abbrev ah4:=(aa (ae 1) acX)
abbrev ah5:=(aj 2 gS ah4)
abbrev ah6:=(aa (ae 7) ag)
abbrev ah7:=(aa (fC (.int 0)) ah6)
abbrev ah8:=(aa (ae 1) ah7)
abbrev ah9:=(aj 3 br ah8)
abbrev aia:=(f2 bh ah9 (ae 9))
abbrev aib:=(gy ah5 aia)
abbrev acY:=(gy acS aib)
abbrev aic:=(aD 10 [1,7,9] acY)
abbrev aid:=(aa (ae 1) (aa (ae 9) zq5))
abbrev aie:=(aa (fC (.int 2)) aid)
abbrev aif:=(aj 4 az aie)
abbrev aih:=(f2 gf aif (ae 10))
abbrev aii:=(fB aih)
abbrev aij:=(dZ aii Yg dP)
abbrev aik:=(bu bz acX)
abbrev acZ:=(aa aik ag)
abbrev ac0:=(bj acZ)
abbrev ail:=(f2 aA (fC (.int 120)) (ae 0))
abbrev aim:=(aa (fC (.int 3)) ag)
abbrev ain:=(aa ail aim)
abbrev ac1:=(aa (ae 1) ain)
abbrev aio:=(aj 3 ak ac1)
abbrev aip:=(ax 1 [0] ac0 (fG 0) (λ_=>some true) aio)
abbrev aiq:=(cq aip)
abbrev air:=(aa aiq ag)
abbrev ac2:=(bu b8 air)
abbrev ais:=(aD 11 [0,9] ac2)
abbrev ac3:=(aa (ae 11) ag)
abbrev ait:=(aa (ae 9) ac3)
abbrev aiu:=(aa (ae 1) ait)
abbrev aiv:=(aj 3 eM aiu)
abbrev ac4:=(ax 1 [9,11] ac0 (fG 0) (fB (f2 EV (f2 av (ae 1) (ae 0)) (f2 av (ae 2) (ae 0)))) (ae 0))
abbrev aiw:=(f2 gf aiv (f2 bh (cq ac4) Y8))
abbrev aix:=(fB aiw)
abbrev aiy:=(dZ aix Yg dP)
abbrev aiz:=(ar ais aiy)
abbrev aiA:=(ar aij aiz)
abbrev ac5:=(ar aic aiA)
abbrev ac6:=(mC (fC (.int 2)))
abbrev aiB:=(cF bw (ae 1) cZ ac6)
abbrev aiC:=(aa aiB acQ)
abbrev ac7:=(aa (ae 0) aiC)
def fY:au->Option Out:=(ar (aD 1 [0] (aj 3 cU (aa (ae 0) abC))) (ar (aD 2 [0,1] acz) (ar (dZ (fB (f2 uF (aj 2 gn aaP) (fC .none))) Yg dP) (ar (dZ aaY acP dP) (ar (aD 7 [1,2] (aj 2 gn aaP)) (ar (dZ (iM (fB (f2 gf (aj 4 az (aa (fC (.int 0)) acR)) acS)) (fB (f2 gf (aj 4 az (aa (fC (.int 1)) acR)) (ae 7)))) Yg dP) (ar (dC [2] acU (iZ 8) acW) (ar (dC [0,1] (bI (aH (aa (aj 1 d9 Yl) (aa (aj 3 iG (aa (ae 0) (aa (fC (.int 110)) Yl))) ag)))) (iZ 9) ac5) (ar (dZ (iM (fB (aj 3 eM (aa (ae 1) (aa (f2 aA (ae 9) aao) ac3)))) (fB (f2 gf (aj 4 az (aa (fC (.int 2)) (aa (ae 1) (aa (f2 aA (ae 9) aao) zq5)))) (aH (aa (fC (.str "refused")) aaX))))) Yg dP) (aV (f2 bh (cq (ax 1 [1,2] (bj (aa (fC (.int 4)) ag)) (fG 0) (λ_=>some true) (aj 4 az ac7))) (cq (lQ (bZ (aa (aH (aa (fC (.str "refused")) YU)) ag)) (fC (.int 4)))))))))))))))
def f7:List D->Option D:=bf fY 12
abbrev xw:List Str:=["_law_script"]
def p7:au->Option Out:=(aV (gy (aj 0 dO ag) (aj 1 f7 zq0)))
def jf:List D->Option D:=bf p7 1
end Pg
namespace K60
open PySem L2 Dl PySem.Spec PyProof.Rows
open Pg Ex
abbrev VS:List Str:=["NoWorld","NoPlan","NoPlace","TooMany","Nothing"]
abbrev um:Stmt:=top 10
def EJ:Rf.tW um DY ⟨[],[]⟩ none=some nH:=by kernel_rfl
abbrev rA:Stmt:=top 11
def Ck:Rf.tW rA CL ⟨[("is_whole",3,aX)],[]⟩ none=some mf:=by kernel_rfl
abbrev zp:Stmt:=top 12
def IC:Rf.tW zp HU ⟨[],[]⟩ none=some pZ:=by kernel_rfl
abbrev rQ:Stmt:=top 13
def BX:Rf.tW rQ CN ⟨[("is_number",2,bH)],[]⟩ none=some lS:=by kernel_rfl
abbrev CS:Stmt:=top 14
def JL:Rf.tW CS MA ⟨[("is_long",3,bg),("is_whole",3,aX),("are_likes",2,gu)],[("MOST",9)]⟩ none=some uk:=by kernel_rfl
abbrev BK:Stmt:=top 15
def KM:Rf.tW BK JD ⟨[("is_long",3,bg),("is_number",2,bH),("is_whole",3,aX)],[("MOST",9)]⟩ none=some uE:=by kernel_rfl
abbrev rE:Stmt:=top 16
def Du:Rf.tW rE Dv ⟨[("is_long",3,bg),("is_end",2,gc),("is_way",3,jy)],[("MOST_PLACES",4)]⟩ none=some lZ:=by kernel_rfl
abbrev nq:Stmt:=top 17
def vj:Rf.tW nq vh ⟨[],[]⟩ none=some iT:=by kernel_rfl
abbrev uL:Stmt:=top 18
def Fv:Rf.tW uL EY ⟨[("liked_pairs",1,bN),("is_long",3,bg),("are_parts",3,gx)],[]⟩ none=some ik:=by kernel_rfl
abbrev yt:Stmt:=top 19
def IE:Rf.tW yt Ir ⟨[],[]⟩ none=some qq:=by kernel_rfl
abbrev lA:Stmt:=top 20
def sj:Rf.tW lA sC ⟨[("through",4,dM)],[]⟩ none=some gC:=by kernel_rfl
abbrev yj:Stmt:=top 21
def IP:Rf.tW yj Jh ⟨[("is_long",3,bg),("keeps_amounts",3,da),("is_whole",3,aX)],[]⟩ none=some gW:=by kernel_rfl
abbrev iP:Stmt:=top 22
abbrev ni:Rf.Sg:=⟨[("is_world",1,bL)],[]⟩
def vi:Rf.tW iP nr ni none=some ee:=by kernel_rfl
def uO:Ex.Rr iP nr ni [] ["NoWorld"]=some ml:=by kernel_rfl
abbrev j4:Stmt:=top 23
abbrev og:Rf.Sg:=⟨[("check_world",1,aZ),("is_plan",2,dc)],[]⟩
def Bt:Rf.tW j4 pJ og none=some eY:=by kernel_rfl
def v7:Ex.Rr j4 pJ og [("check_world",1,bO)] ["NoPlan"]=some mU:=by kernel_rfl
abbrev tR:Stmt:=top 24
def Em:Rf.tW tR EG ⟨[],[]⟩ none=some nM:=by kernel_rfl
abbrev y3:Stmt:=top 26
def IV:Rf.tW y3 Hy ⟨[],[]⟩ (some "ways_of.<locals>.<lambda>")=some mn:=by kernel_rfl
abbrev rz:Stmt:=top 27
def BG:Rf.tW rz DK ⟨[("ways_of",3,fQ)],[]⟩ none=some iK:=by kernel_rfl
abbrev oE:Stmt:=top 28
def Ak:Rf.tW oE AF ⟨[("ways_of",3,fQ),("through",4,dM)],[]⟩ none=some gL:=by kernel_rfl
abbrev tH:Stmt:=top 29
def DU:Rf.tW tH EI ⟨[("wants_more",4,e8)],[]⟩ none=some k9:=by kernel_rfl
abbrev lF:Stmt:=top 30
def sy:Rf.tW lF si ⟨[("why_kept",3,j8)],[]⟩ none=some eB:=by kernel_rfl
abbrev tM:Stmt:=top 31
def D7:Rf.tW tM FA ⟨[("first_leaving",2,eu)],[]⟩ none=some lh:=by kernel_rfl
abbrev lz:Stmt:=top 33
def rZ:Rf.tW lz sx ⟨[("chosen_by",4,eN)],[]⟩ none=some eA:=by kernel_rfl
abbrev BJ:Stmt:=top 34
def Mc:Rf.tW BJ JP ⟨[],[]⟩ none=some uu:=by kernel_rfl
abbrev ze:Stmt:=top 35
def HC:Rf.tW ze HG ⟨[("replaced",3,lj)],[]⟩ none=some qb:=by kernel_rfl
abbrev zj:Stmt:=top 36
def IM:Rf.tW zj Ht ⟨[("chosen_by_all",3,aN)],[]⟩ none=some mv:=by kernel_rfl
abbrev GU:Stmt:=top 37
def Oh:Rf.tW GU NG ⟨[("limits",1,jj),("refused",2,gU),("lowered",3,dk)],[]⟩ none=some sN:=by kernel_rfl
abbrev Dp:Stmt:=top 38
def K8:Rf.tW Dp JC ⟨[("limits",1,jj),("lowered",3,dk)],[]⟩ none=some oY:=by kernel_rfl
abbrev mW:Stmt:=top 39
def vo:Rf.tW mW xj ⟨[("check_world",1,aZ),("chosen_by_all",3,aN),("capped",2,lK),("steps",1,j6)],[]⟩ none=some fU:=by kernel_rfl
abbrev Bc:Stmt:=top 41
abbrev FZ:Rf.Sg:=⟨[("check_world",1,aZ),("steps",1,j6)],[]⟩
def OF:Rf.tW Bc FX FZ none=some sX:=by kernel_rfl
def Ke:Ex.Rr Bc FX FZ [("check_world",1,bO)] []=some BE:=by kernel_rfl
abbrev lM:Stmt:=top 42
def tm:Rf.tW lM uZ ⟨[("is_long",3,bg),("is_number",2,bH),("is_whole",3,aX)],[("MOST",9)]⟩ none=some cM:=by kernel_rfl
abbrev Cz:Stmt:=top 43
def Jy:Rf.tW Cz JT ⟨[("check_world",1,aZ),("has_row_form",2,bW)],[]⟩ none=some oq:=by kernel_rfl
abbrev xq:Stmt:=top 44
def Hw:Rf.tW xq ID ⟨[("chosen_by_all",3,aN)],[]⟩ none=some mr:=by kernel_rfl
abbrev m6:Stmt:=top 45
def wb:Rf.tW m6 vm ⟨[("limits",1,jj),("lowered",3,dk),("follows",3,mD),("has_row_form",2,bW)],[]⟩ none=some bT:=by kernel_rfl
abbrev qg:Stmt:=top 46
abbrev zg:Rf.Sg:=⟨[("check_world",1,aZ),("caps_behind",2,cH)],[]⟩
def Hv:Rf.tW qg xn zg none=some mE:=by kernel_rfl
def EA:Ex.Rr qg xn zg [("check_world",1,bO)] []=some tw:=by kernel_rfl
abbrev z9:Stmt:=top 47
abbrev Gn:Rf.Sg:=⟨[("caps_of",2,ck)],[]⟩
def Na:Rf.tW z9 GQ Gn none=some sG:=by kernel_rfl
def Kj:Ex.Rr z9 GQ Gn [("caps_of",2,eK)] []=some Ce:=by kernel_rfl
abbrev A6:Stmt:=top 48
abbrev FL:Rf.Sg:=⟨[("check_plan",2,cW),("caps_behind",2,cH),("chosen_by_all",3,aN),("is_still",2,k6)],[]⟩
def Ov:Rf.tW A6 Hg FL none=some sQ:=by kernel_rfl
def Lc:Ex.Rr A6 Hg FL [("check_plan",2,dJ)] []=some C3:=by kernel_rfl
abbrev rL:Stmt:=top 49
def Do:Rf.tW rL BC ⟨[("check_world",1,aZ),("is_plan",2,dc)],[]⟩ none=some eJ:=by kernel_rfl
abbrev rR:Stmt:=top 51
def B5:Rf.tW rR B1 ⟨[],[]⟩ none=some iB:=by kernel_rfl
abbrev oD:Stmt:=top 52
def Ba:Rf.tW oD AN ⟨[("_law_cell",2,eF)],[]⟩ none=some ka:=by kernel_rfl
abbrev mY:Stmt:=top 53
def wk:Rf.tW mY vz ⟨[("_law_drawn",3,ak)],[]⟩ none=some iR:=by kernel_rfl
abbrev pA:Stmt:=top 54
def AR:Rf.tW pA Bh ⟨[("_law_orders",3,bS),("_law_drawn",3,ak)],[]⟩ none=some eX:=by kernel_rfl
abbrev rO:Stmt:=top 55
def CA:Rf.tW rO CY ⟨[],[]⟩ none=some l6:=by kernel_rfl
abbrev qy:Stmt:=top 56
def Dj:Rf.tW qy CH ⟨[("_law_used",4,gh)],[]⟩ none=some iL:=by kernel_rfl
abbrev AM:Stmt:=top 57
abbrev rH:Stmt:=top 58
def BA:Rf.tW rH BQ ⟨[("_law_fits",2,dE),("_law_drawn",3,ak)],[]⟩ none=some iy:=by kernel_rfl
abbrev oF:Stmt:=top 59
def Al:Rf.tW oF AY ⟨[("_law_used",4,gh)],[]⟩ none=some gT:=by kernel_rfl
abbrev ux:Stmt:=top 60
def Ej:Rf.tW ux E8 ⟨[("_law_wants",5,eV)],[]⟩ none=some kl:=by kernel_rfl
abbrev pj:Stmt:=top 61
def AB:Rf.tW pj Ag ⟨[("_law_why",3,ki)],[]⟩ none=some gO:=by kernel_rfl
abbrev nj:Stmt:=top 62
def v8:Rf.tW nj xk ⟨[],[]⟩ none=some fW:=by kernel_rfl
abbrev rC:Stmt:=top 63
def Cj:Rf.tW rC CW ⟨[("_law_choice",4,cE)],[]⟩ none=some iI:=by kernel_rfl
abbrev uH:Stmt:=top 64
abbrev rX:Stmt:=top 65
def C0:Rf.tW rX Cu ⟨[("_law_ends",3,br),("_law_is_row",2,cG)],[]⟩ none=some iz:=by kernel_rfl
abbrev nc:Stmt:=top 66
def vn:Rf.tW nc vp ⟨[],[]⟩ none=some fX:=by kernel_rfl
abbrev oC:Stmt:=top 67
def AU:Rf.tW oC Av ⟨[("_law_ends",3,br),("_law_drawn",3,ak)],[]⟩ none=some gP:=by kernel_rfl
abbrev rS:Stmt:=top 68
def BB:Ex.Vr rS sd ⟨[("holds",2,kj),("caps_of",2,ck),("shows",3,kh),("paper",1,ku)],[]⟩ [("holds",2,pG),("caps_of",2,eK),("shows",3,pE),("paper",1,oQ)] VS=some lu:=by kernel_rfl
abbrev i6:Stmt:=top 69
def p5:Rf.tW i6 pU ⟨[("_law_told",4,az)],[]⟩ none=some dN:=by kernel_rfl
abbrev mX:Stmt:=top 70
def wt:Rf.tW mX w8 ⟨[("_law_world",3,cU),("_law_caps",2,gn),("_law_paper",3,gM),("_law_told",4,az),("_law_drawn",3,ak),("givers_best",1,d9),("_law_plan",3,iG),("is_within",3,eM),("is_row",2,oH),("_law_is_row",2,cG),("_law_rests",2,gS),("_law_ends",3,br)],[]⟩ none=some fY:=by kernel_rfl
abbrev Pq:Stmt:=top 71
def SR:Rf.tW Pq xw ⟨[("_law_known_one",0,dO),("_law_stands",1,f7)],[]⟩ none=some p7:=by kernel_rfl
structure bx(K:W.Frag)(mg:Str->Option Value):Prop where
 c0:bA K mg "is_whole" um ["thing","least","most"]
 c1:bA K mg "is_number" rA ["thing","many"]
 c2:bA K mg "is_long" zp ["thing","least","most"]
 c3:bA K mg "are_likes" rQ ["thing","many"]
 c4:bA K mg "is_end" CS ["thing","many"]
 c5:bA K mg "is_way" BK ["thing","givers","takers"]
 c6:bA K mg "are_parts" rE ["givers","takers","ways"]
 c7:bA K mg "liked_pairs" nq ["places"]
 c8:bA K mg "is_world" uL ["thing"]
 c9:bA K mg "through" yt ["world","plan","side","place"]
 c10:bA K mg "keeps_amounts" lA ["world","plan","side"]
 c11:bA K mg "is_plan" yj ["world","thing"]
 c12:bA K mg "check_world" iP ["world"]
 c13:bA K mg "check_plan" j4 ["world","plan"]
 c14:bA K mg "replaced" tR ["parts","number","part"]
 c15:OO K mg "ways_of" y3 ["world","side","place"]
 c16:bA K mg "chosen_by" rz ["world","side","place","offers"]
 c17:bA K mg "wants_more" oE ["world","plan","side","way"]
 c18:bA K mg "why_kept" tH ["world","plan","way"]
 c19:bA K mg "first_leaving" lF ["world","plan"]
 c20:bA K mg "is_still" tM ["world","plan"]
 c21:bA K mg "chosen_by_all" lz ["world","side","offers"]
 c22:bA K mg "limits" BJ ["world"]
 c23:bA K mg "lowered" ze ["caps","way","cap"]
 c24:bA K mg "refused" zj ["world","caps"]
 c25:bA K mg "steps" GU ["world"]
 c26:bA K mg "capped" Dp ["world","rows"]
 c27:bA K mg "givers_best" mW ["world"]
 c28:bA K mg "paper" Bc ["world"]
 c29:bA K mg "has_row_form" lM ["world","thing"]
 c30:bA K mg "is_row" Cz ["world","thing"]
 c31:bA K mg "follows" xq ["world","caps","row"]
 c32:bA K mg "caps_behind" m6 ["world","rows"]
 c33:bA K mg "caps_of" qg ["world","rows"]
 c34:bA K mg "holds" z9 ["world","rows"]
 c35:bA K mg "shows" A6 ["world","plan","rows"]
 c36:bA K mg "is_within" rL ["world","thing","caps"]
 c37:bA K mg "_law_cell" rR ["_law_script","_law_k"]
 c38:bA K mg "_law_drawn" oD ["_law_script","_law_k","_law_many"]
 c39:bA K mg "_law_orders" mY ["_law_script","_law_at","_law_rows"]
 c40:bA K mg "_law_world" pA ["_law_script","_law_at","_law_most"]
 c41:bA K mg "_law_used" rO ["_law_world_here","_law_plan_here","_law_side","_law_place"]
 c42:bA K mg "_law_fits" qy ["_law_world_here","_law_plan_here"]
 c43:bA K mg "_law_plans" AM ["_law_world_here"]
 c44:bA K mg "_law_plan" rH ["_law_script","_law_at","_law_world_here"]
 c45:bA K mg "_law_wants" oF ["_law_world_here","_law_plan_here","_law_side","_law_place","_law_other"]
 c46:bA K mg "_law_why" ux ["_law_world_here","_law_plan_here","_law_way"]
 c47:bA K mg "_law_rests" pj ["_law_world_here","_law_plan_here"]
 c48:bA K mg "_law_choice" nj ["_law_world_here","_law_side","_law_place","_law_offers"]
 c49:bA K mg "_law_ends" rC ["_law_world_here","_law_side","_law_offers"]
 c50:bA K mg "_law_refused" uH ["_law_e"]
 c51:bA K mg "_law_caps" rX ["_law_world_here","_law_rows"]
 c52:bA K mg "_law_is_row" nc ["_law_world_here","_law_row"]
 c53:bA K mg "_law_paper" oC ["_law_script","_law_at","_law_world_here"]
 c54:bA K mg "_law_told" rS ["_law_way","_law_world_here","_law_plan_here","_law_rows"]
 c55:bA K mg "_law_known_one" i6 []
 c56:bA K mg "_law_stands" mX ["_law_script"]
 c57:bA K mg "law" Pq ["_law_script"]
 YH:∃t,mg "MOST_PLACES"=some (.int 4 t)
 ZM:∃t,mg "MOST"=some (.int 9 t)
 m:Ex.B0 K mg W6 WA
 b:∀x∈cP,mg x=none
section
variable {P:Program}{w:World}{K:W.Frag}{mg:Str->Option Value}{base:Heap}
def ib(D:bx K mg):dG P w K mg base 1 "is_whole" 3 aX:=Rf.gp (j:=0) D.c0 D.b Rf.bB Rf.bD EJ
def lU(D:bx K mg):dG P w K mg base 2 "is_number" 2 bH:=Rf.gp (j:=1) D.c1 D.b (Rf.fm (ib D) Rf.bB) Rf.bD Ck
def gX(D:bx K mg):dG P w K mg base 1 "is_long" 3 bg:=Rf.gp (j:=0) D.c2 D.b Rf.bB Rf.bD IC
def CU(D:bx K mg):dG P w K mg base 3 "are_likes" 2 gu:=Rf.gp (j:=2) D.c3 D.b (Rf.fm (lU D) Rf.bB) Rf.bD BX
def Mp(D:bx K mg):dG P w K mg base 4 "is_end" 2 gc:=Rf.gp (j:=3) D.c4 D.b (Rf.fm (gX D) (Rf.fm (ib D) (Rf.fm (CU D) Rf.bB))) (Rf.F0 D.ZM Rf.bD) JL
def ML(D:bx K mg):dG P w K mg base 3 "is_way" 3 jy:=Rf.gp (j:=2) D.c5 D.b (Rf.fm (gX D) (Rf.fm (lU D) (Rf.fm (ib D) Rf.bB))) (Rf.F0 D.ZM Rf.bD) KM
def DB(D:bx K mg):dG P w K mg base 5 "are_parts" 3 gx:=Rf.gp (j:=4) D.c6 D.b (Rf.fm (gX D) (Rf.fm (Mp D) (Rf.fm (ML D) Rf.bB))) (Rf.F0 D.YH Rf.bD) Du
def wq(D:bx K mg):dG P w K mg base 1 "liked_pairs" 1 bN:=Rf.gp (j:=0) D.c7 D.b Rf.bB Rf.bD vj
def uT(D:bx K mg):dG P w K mg base 6 "is_world" 1 bL:=Rf.gp (j:=5) D.c8 D.b (Rf.fm (wq D) (Rf.fm (gX D) (Rf.fm (DB D) Rf.bB))) Rf.bD Fv
def yl(D:bx K mg):dG P w K mg base 1 "through" 4 dM:=Rf.gp (j:=0) D.c9 D.b Rf.bB Rf.bD IE
def sk(D:bx K mg):dG P w K mg base 2 "keeps_amounts" 3 da:=Rf.gp (j:=1) D.c10 D.b (Rf.fm (yl D) Rf.bB) Rf.bD sj
def p8(D:bx K mg):dG P w K mg base 3 "is_plan" 2 dc:=Rf.gp (j:=2) D.c11 D.b (Rf.fm (gX D) (Rf.fm (sk D) (Rf.fm (ib D) Rf.bB))) Rf.bD IP
def iQ(D:bx K mg):Ex.GP P w K mg base 7 "check_world" 1 bO:=Ex.HJ (j:=6) D.c12 D.b (Rf.fm (uT D) Rf.bB) Rf.bD Ex.ED (D.m.ok (by decide +kernel)) uO
def bM(D:bx K mg):dG P w K mg base 7 "check_world" 1 aZ:=Rf.gp (j:=6) D.c12 D.b (Rf.fm (uT D) Rf.bB) Rf.bD vi
def z7(D:bx K mg):Ex.GP P w K mg base 8 "check_plan" 2 dJ:=Ex.HJ (j:=7) D.c13 D.b (Rf.fm (bM D) (Rf.fm (p8 D) Rf.bB)) Rf.bD (Ex.xm (iQ D) Ex.ED) (D.m.ok (by decide +kernel)) v7
def ow(D:bx K mg):dG P w K mg base 8 "check_plan" 2 cW:=Rf.gp (j:=7) D.c13 D.b (Rf.fm (bM D) (Rf.fm (p8 D) Rf.bB)) Rf.bD Bt
def EE(D:bx K mg):dG P w K mg base 1 "replaced" 3 lj:=Rf.gp (j:=0) D.c14 D.b Rf.bB Rf.bD Em
def yn(D:bx K mg):dG P w K mg base 4 "ways_of" 3 fQ:=Rf.W8 (j:=0) D.c15 D.b Rf.bB Rf.bD IV
def DD(D:bx K mg):dG P w K mg base 5 "chosen_by" 4 eN:=Rf.gp (j:=4) D.c16 D.b (Rf.fm (yn D) Rf.bB) Rf.bD BG
def Ax(D:bx K mg):dG P w K mg base 5 "wants_more" 4 e8:=Rf.gp (j:=4) D.c17 D.b (Rf.fm (yn D) (Rf.fm (yl D) Rf.bB)) Rf.bD Ak
def Ez(D:bx K mg):dG P w K mg base 6 "why_kept" 3 j8:=Rf.gp (j:=5) D.c18 D.b (Rf.fm (Ax D) Rf.bB) Rf.bD DU
def sv(D:bx K mg):dG P w K mg base 7 "first_leaving" 2 eu:=Rf.gp (j:=6) D.c19 D.b (Rf.fm (Ez D) Rf.bB) Rf.bD sy
def uj(D:bx K mg):dG P w K mg base 8 "is_still" 2 k6:=Rf.gp (j:=7) D.c20 D.b (Rf.fm (sv D) Rf.bB) Rf.bD D7
def cY(D:bx K mg):dG P w K mg base 6 "chosen_by_all" 3 aN:=Rf.gp (j:=5) D.c21 D.b (Rf.fm (DD D) Rf.bB) Rf.bD rZ
def uy(D:bx K mg):dG P w K mg base 1 "limits" 1 jj:=Rf.gp (j:=0) D.c22 D.b Rf.bB Rf.bD Mc
def pW(D:bx K mg):dG P w K mg base 2 "lowered" 3 dk:=Rf.gp (j:=1) D.c23 D.b (Rf.fm (EE D) Rf.bB) Rf.bD HC
def HM(D:bx K mg):dG P w K mg base 7 "refused" 2 gU:=Rf.gp (j:=6) D.c24 D.b (Rf.fm (cY D) Rf.bB) Rf.bD IM
def AL(D:bx K mg):dG P w K mg base 8 "steps" 1 j6:=Rf.gp (j:=7) D.c25 D.b (Rf.fm (uy D) (Rf.fm (HM D) (Rf.fm (pW D) Rf.bB))) Rf.bD Oh
def Mw(D:bx K mg):dG P w K mg base 3 "capped" 2 lK:=Rf.gp (j:=2) D.c26 D.b (Rf.fm (uy D) (Rf.fm (pW D) Rf.bB)) Rf.bD K8
def wz(D:bx K mg):dG P w K mg base 9 "givers_best" 1 d9:=Rf.gp (j:=8) D.c27 D.b (Rf.fm (bM D) (Rf.fm (cY D) (Rf.fm (Mw D) (Rf.fm (AL D) Rf.bB)))) Rf.bD vo
def NI(D:bx K mg):Ex.GP P w K mg base 9 "paper" 1 oQ:=Ex.HJ (j:=8) D.c28 D.b (Rf.fm (bM D) (Rf.fm (AL D) Rf.bB)) Rf.bD (Ex.xm (iQ D) Ex.ED) (D.m.ok (by decide +kernel)) Ke
def N3(D:bx K mg):dG P w K mg base 9 "paper" 1 ku:=Rf.gp (j:=8) D.c28 D.b (Rf.fm (bM D) (Rf.fm (AL D) Rf.bB)) Rf.bD OF
def lX(D:bx K mg):dG P w K mg base 3 "has_row_form" 2 bW:=Rf.gp (j:=2) D.c29 D.b (Rf.fm (gX D) (Rf.fm (lU D) (Rf.fm (ib D) Rf.bB))) (Rf.F0 D.ZM Rf.bD) tm
def Lu(D:bx K mg):dG P w K mg base 8 "is_row" 2 oH:=Rf.gp (j:=7) D.c30 D.b (Rf.fm (bM D) (Rf.fm (lX D) Rf.bB)) Rf.bD Jy
def HL(D:bx K mg):dG P w K mg base 7 "follows" 3 mD:=Rf.gp (j:=6) D.c31 D.b (Rf.fm (cY D) Rf.bB) Rf.bD Hw
def fV(D:bx K mg):dG P w K mg base 8 "caps_behind" 2 cH:=Rf.gp (j:=7) D.c32 D.b (Rf.fm (uy D) (Rf.fm (pW D) (Rf.fm (HL D) (Rf.fm (lX D) Rf.bB)))) Rf.bD wb
def za(D:bx K mg):Ex.GP P w K mg base 9 "caps_of" 2 eK:=Ex.HJ (j:=8) D.c33 D.b (Rf.fm (bM D) (Rf.fm (fV D) Rf.bB)) Rf.bD (Ex.xm (iQ D) Ex.ED) (D.m.ok (by decide +kernel)) EA
def p9(D:bx K mg):dG P w K mg base 9 "caps_of" 2 ck:=Rf.gp (j:=8) D.c33 D.b (Rf.fm (bM D) (Rf.fm (fV D) Rf.bB)) Rf.bD Hv
def NT(D:bx K mg):Ex.GP P w K mg base 10 "holds" 2 pG:=Ex.HJ (j:=9) D.c34 D.b (Rf.fm (p9 D) Rf.bB) Rf.bD (Ex.xm (za D) Ex.ED) (D.m.ok (by decide +kernel)) Kj
def Pa(D:bx K mg):dG P w K mg base 10 "holds" 2 kj:=Rf.gp (j:=9) D.c34 D.b (Rf.fm (p9 D) Rf.bB) Rf.bD Na
def ON(D:bx K mg):Ex.GP P w K mg base 9 "shows" 3 pE:=Ex.HJ (j:=8) D.c35 D.b (Rf.fm (ow D) (Rf.fm (fV D) (Rf.fm (cY D) (Rf.fm (uj D) Rf.bB)))) Rf.bD (Ex.xm (z7 D) Ex.ED) (D.m.ok (by decide +kernel)) Lc
def O6(D:bx K mg):dG P w K mg base 9 "shows" 3 kh:=Rf.gp (j:=8) D.c35 D.b (Rf.fm (ow D) (Rf.fm (fV D) (Rf.fm (cY D) (Rf.fm (uj D) Rf.bB)))) Rf.bD Ov
def Ct(D:bx K mg):dG P w K mg base 8 "is_within" 3 eM:=Rf.gp (j:=7) D.c36 D.b (Rf.fm (bM D) (Rf.fm (p8 D) Rf.bB)) Rf.bD Do
def B7(D:bx K mg):dG P w K mg base 1 "_law_cell" 2 eF:=Rf.gp (j:=0) D.c37 D.b Rf.bB Rf.bD B5
def eU(D:bx K mg):dG P w K mg base 2 "_law_drawn" 3 ak:=Rf.gp (j:=1) D.c38 D.b (Rf.fm (B7 D) Rf.bB) Rf.bD Ba
def wc(D:bx K mg):dG P w K mg base 3 "_law_orders" 3 bS:=Rf.gp (j:=2) D.c39 D.b (Rf.fm (eU D) Rf.bB) Rf.bD wk
def AC(D:bx K mg):dG P w K mg base 4 "_law_world" 3 cU:=Rf.gp (j:=3) D.c40 D.b (Rf.fm (wc D) (Rf.fm (eU D) Rf.bB)) Rf.bD AR
def rV(D:bx K mg):dG P w K mg base 1 "_law_used" 4 gh:=Rf.gp (j:=0) D.c41 D.b Rf.bB Rf.bD CA
def CZ(D:bx K mg):dG P w K mg base 2 "_law_fits" 2 dE:=Rf.gp (j:=1) D.c42 D.b (Rf.fm (rV D) Rf.bB) Rf.bD Dj
def BL(D:bx K mg):dG P w K mg base 3 "_law_plan" 3 iG:=Rf.gp (j:=2) D.c44 D.b (Rf.fm (CZ D) (Rf.fm (eU D) Rf.bB)) Rf.bD BA
def Ap(D:bx K mg):dG P w K mg base 2 "_law_wants" 5 eV:=Rf.gp (j:=1) D.c45 D.b (Rf.fm (rV D) Rf.bB) Rf.bD Al
def Fo(D:bx K mg):dG P w K mg base 3 "_law_why" 3 ki:=Rf.gp (j:=2) D.c46 D.b (Rf.fm (Ap D) Rf.bB) Rf.bD Ej
def Ac(D:bx K mg):dG P w K mg base 4 "_law_rests" 2 gS:=Rf.gp (j:=3) D.c47 D.b (Rf.fm (Fo D) Rf.bB) Rf.bD AB
def xi(D:bx K mg):dG P w K mg base 1 "_law_choice" 4 cE:=Rf.gp (j:=0) D.c48 D.b Rf.bB Rf.bD v8
def l8(D:bx K mg):dG P w K mg base 2 "_law_ends" 3 br:=Rf.gp (j:=1) D.c49 D.b (Rf.fm (xi D) Rf.bB) Rf.bD Cj
def Il{k:Nat}(D:bx K mg):∀c d,Ex.nS VS c=some d->Ex.F8 P w K mg base k "_law_refused" c d:=Ex.TZ D.c50 D.m D.b rfl Rf.SJ rfl rfl rfl rfl rfl (by decide +kernel) (by decide +kernel) (by decide) rfl rfl
def m7(D:bx K mg):dG P w K mg base 1 "_law_is_row" 2 cG:=Rf.gp (j:=0) D.c52 D.b Rf.bB Rf.bD vn
def De(D:bx K mg):dG P w K mg base 3 "_law_caps" 2 gn:=Rf.gp (j:=2) D.c51 D.b (Rf.fm (l8 D) (Rf.fm (m7 D) Rf.bB)) Rf.bD C0
def zz(D:bx K mg):dG P w K mg base 3 "_law_paper" 3 gM:=Rf.gp (j:=2) D.c53 D.b (Rf.fm (l8 D) (Rf.fm (eU D) Rf.bB)) Rf.bD AU
def rh(D:bx K mg):dG P w K mg base 11 "_law_told" 4 az:=Ex.Tq (j:=10) (ns:=VS) D.c54 D.b D.m (Rf.fm (Pa D) (Rf.fm (p9 D) (Rf.fm (O6 D) (Rf.fm (N3 D) Rf.bB)))) Rf.bD (Ex.xm (NT D) (Ex.xm (za D) (Ex.xm (ON D) (Ex.xm (NI D) Ex.ED)))) (Il D) (by decide +kernel) BB
def p6(D:bx K mg):dG P w K mg base 12 "_law_known_one" 0 dO:=Rf.gp (j:=11) D.c55 D.b (Rf.fm (rh D) Rf.bB) Rf.bD p5
def wa(D:bx K mg):dG P w K mg base 12 "_law_stands" 1 f7:=Rf.gp (j:=11) D.c56 D.b (Rf.fm (AC D) (Rf.fm (De D) (Rf.fm (zz D) (Rf.fm (rh D) (Rf.fm (eU D) (Rf.fm (wz D) (Rf.fm (BL D) (Rf.fm (Ct D) (Rf.fm (Lu D) (Rf.fm (m7 D) (Rf.fm (Ac D) (Rf.fm (l8 D) Rf.bB)))))))))))) Rf.bD wt
end
def Su{P:Program}{w:World}{K:W.Frag}{mg:Str->Option Value}{fa:Addr}(D:bx K mg)(hfa:mg "law"=some (.ref fa)):∃fd:FuncData,(∀ (s:Shared) (v:Value),BindsTo s fd ⟨[v],[]⟩ [("_law_script",v)])/\∀base:Heap,K.In base->base.Ns mainGlobals mg->pY P w K mg base MX 13 fa fd ["_law_script"] (Uu K 1 jf):=by
 let⟨f,fd,hm,F,hb⟩:=D.c57.ex;rw[hfa] at hm;cases hm;refine⟨fd,λs v=>?_,λbase _ _=>Px F (Rf.SJ (N:=xw)) λX hP hw hK YC Y5 C _ _ HF H=>by subst hP;subst hw;subst hK;subst YC;subst Y5;exact Rf.Pz (j:=12) C D.b (Rf.fm (p6 D) (Rf.fm (wa D) Rf.bB)) Rf.bD SR⟩;let⟨oc,od,kV,doc,pm,an,Xy,ct,Zu,rfl,lk,XM⟩:=F.ex;exact .of_eq rfl
def walk{l:W.OpenLaw}{q:Program}{loose:List Str}{XP:(Str->Option Value)->Heap->Prop}{YP:World->Heap->Prop}{d:DefRec}{K:Params->W.Frag}{ts:List Addr}(hn:l.most=some 63)(hdf:d.params.defaults=[])(aiD:d.name="law")
  (hY:∀ (w:World) (h:Heap),YP w h->(K w.params).In h/\∀P∈ts,h.get? P=some (W.tabObj #[])) (ht:∀w:World,pw (K w.params) ts=true) (hI:∀ (w:World) {h:Heap}{mg:Str->Option Value},(K w.params).In h->h.Ns mainGlobals mg->bx (K w.params) mg) (main:∀ns:List Int,ns.length<=63->jf [.list (ns.map PyData.int)]=some (.bool true)) :
  W.WalkO q loose XP YP l.row.toRowW d [] (λf vs=>PySem.call f vs) :=
 LL (n:=63) (k:=13) (x:="_law_script") (CX:=λ_=>MX) (sp:=λw=>Uu (K w.params) 1 jf) hn (by decide) hdf ⟨rfl,by decide,by decide⟩ hY ht (λw mg fa h KX G hmg=>Su (hI w KX G) (by rw[<- aiD];exact hmg)) (λ_ _ a ns hl hT hS=>Eu hS hT (main ns hl)) λ_ _ _ _ _ z=>z
end K60
namespace Dl
open PySem L2 PySem.Spec PyProof.Rows
def tN:D->Prop|.none=>True|.bool _=>True|.int _=>True|.str x=>PyData.canLay0 (.str x)=true|_=>False
def cI(b:Nat):Nat->D->Prop
 | 0,d=>tN d
 | k+1,d=>tN d\/(∃xs,(d=.list xs\/d=.tuple xs)/\xs.length<=b/\∀x∈xs,cI b k x)
def cI.leaf(h:tN d):cI b k d:=by
 cases k with
 | zero=>exact h
 | succ k=>exact .inl h
def cI.tup(hb:xs.length<=b)(h:∀x∈xs,cI b k x):cI b (k+1) (.tuple xs):=.inr ⟨xs,.inr rfl,hb,h⟩
def cI.lst(hb:xs.length<=b)(h:∀x∈xs,cI b k x):cI b (k+1) (.list xs):=.inr ⟨xs,.inl rfl,hb,h⟩
def cI.XD(h:cI b k (.tuple xs)):∃j,k=j+1/\xs.length<=b/\∀x∈xs,cI b j x:=by
 cases k with
 | zero=>cases h
 | succ k =>
  rcases h with h|⟨ys,h|h,h1,h2⟩
  ·cases h
  ·cases h
  ·cases h;exact⟨k,rfl,h1,h2⟩
def cI.ZN(h:cI b k (.list xs)):∃j,k=j+1/\xs.length<=b/\∀x∈xs,cI b j x:=by
 cases k with
 | zero=>cases h
 | succ k =>
  rcases h with h|⟨ys,h|h,h1,h2⟩
  ·cases h
  ·cases h;exact⟨k,rfl,h1,h2⟩
  ·cases h
def cI.mono(hb:b<=b'):∀ {k k':Nat}{d:D},k<=k'->cI b k d->cI b' k' d
 | 0,k',d,_,h=>.leaf h
 | k+1,0,d,hk,h=>by lia
 | k+1,k'+1,d,hk,h=>by
  rcases h with h|⟨xs,h,h1,h2⟩
  ·exact .inl h
  ·exact .inr ⟨xs,h,yD h1 hb,λx hx=>(h2 x hx).mono hb (by lia)⟩
def GX{b:Nat}:∀ {xs:List D},(∀x∈xs,PyData.canLay0 x=true/\x.depth<=k)->PyData.canLayAll0 xs=true/\PyData.depthAll xs<=k
 | [],_=>⟨by simp[PyData.canLayAll0],by simp[PyData.depthAll]⟩
 | x::xs,h=>by
  let⟨a,c⟩:=GX (b:=b) (xs:=xs) λy hy=>h y (zC _ hy);let⟨a',c'⟩:=h x zE;exact⟨by simp[PyData.canLayAll0,a,a'],by simp[PyData.depthAll];lia⟩
def cI.lay:∀ {k:Nat}{d:D},cI b k d->PyData.canLay0 d=true/\d.depth<=k:=by
 have lf:∀ {k:Nat}{d:D},tN d->PyData.canLay0 d=true/\d.depth<=k:=λ{k d} h=>by
  cases d<;>simp?[tN] at h<;>first|exact⟨h,by simp[PyData.depth]⟩|exact⟨by simp[PyData.canLay0],by simp[PyData.depth]⟩
 intro k
 induction k with
 | zero=>exactλh=>lf h
 | succ k ih =>
  intro d h;rcases h with h|⟨xs,h,h1,h2⟩
  ·exact lf h
  ·let⟨a,c⟩:=GX (b:=b) (xs:=xs) λy hy=>ih (h2 y hy);rcases h with rfl|rfl
   ·exact⟨by simp[PyData.canLay0,a],by simp[PyData.depth];lia⟩
   ·exact⟨by simp[PyData.canLay0,a],by simp[PyData.depth];lia⟩
def cI.shaped(h:cI b k d)(hk:k<=64):SeqAt.shaped d=true:=by
 let⟨a,c⟩:=h.lay;simp[SeqAt.shaped,a];lia
def cI.noDict(h:cI b k d):∀kv,d≠.dict kv:=by
 rintro kv rfl;have:=h.lay.1;simp[PyData.canLay0] at this
def jt:D->Bool|.dict _=>false|_=>true
def cI.nd(h:cI b k d):jt d=true:=by
 cases d<;>first|rfl|exact absurd rfl (h.noDict _)
def VW:D->Bool|.int _=>true|.bool _=>true|_=>false
def UY:D->Bool|.bool _=>true|_=>false
def M1:D->Bool|.tuple _=>true|_=>false
def kI(h:jt d=true):sg (fH d) "int"=some (VW d):=by cases d<;>first|cases h;done|exact O7 _ (by simp[fH])
def kB(h:jt d=true):sg (fH d) "bool"=some (UY d):=by cases d<;>first|cases h;done|exact MI _ (by simp[fH])
def kT(h:jt d=true):sg (fH d) "tuple"=some (M1 d):=by cases d<;>first|cases h;done|exact kit_tuple _ (by simp[fH])
def whole(a b:Int):D->Bool|.int i=>decide (a<=i)&&decide (i<=b)|_=>false
def zk:∀ {ds:List D},(∀d∈ds,∃ρ',tgt ρ d=some ρ'/\te ρ'=some (h d))->et tgt (λ_=>some true) te ρ ds=some (ds.map h)
 | [],_=>rfl
 | d::ds,hh=>by
  let⟨ρ',h1,h2⟩:=hh d zE;have ih:=zk (ds:=ds) λy hy=>hh y (zC _ hy);unfold et;rw[h1];simp[h2,ih]
def oa:∀ {ds:List D},(∀d∈ds,∃ρ',tgt ρ d=some ρ'/\tt ρ'=some (p d)/\(p d=true->te ρ'=some (h d)))->et tgt tt te ρ ds=some ((ds.filter p).map h)
 | [],_=>rfl
 | d::ds,hh=>by
  let⟨ρ',h1,h2,h3⟩:=hh d zE;have ih:=oa (ds:=ds) λy hy=>hh y (zC _ hy);unfold et;rw[h1];simp?[zA,h2];cases hp:p d with
  | true=>rw[yM rfl,h3 hp];simp[ih,jY,hp]
  | false=>simp[ih,jY,hp]
def rg:∀ds:List D,boolsOf (ds.map λd=>.bool (p d))=some (ds.map p)
 | []=>rfl
 | d::ds=>by simp[boolsOf,rg ds]
def lT(ds:List D):jl [.list (ds.map λd=>.bool (p d))]=some (.bool (ds.all p)):=by
 simp?[jl,oneOf,zA,rg,zB,List.all_map];rfl
def bE(h:ds.length<=4000):small ds=some ds:=yM (yD h (by decide))
def oG{ds:List D}{i:Nat}(h:i < ds.length):tY ds (i:Nat)=some (ds.getD i .none):=by
 have:=A4 (xs:=ds) (j:=i) (v:=ds[i]) (List.getElem?_eq_some_iff.mpr ⟨h,rfl⟩);rw[this];simp[List.getD,h]
def CD{ds:List D}(h:0 < ds.length):tY ds 0=some (ds.getD 0 .none):=oG (i:=0) h
def yf{ds:List D}(h:1 < ds.length):tY ds 1=some (ds.getD 1 .none):=oG (i:=1) h
def Py{ds:List D}(h:2 < ds.length):tY ds 2=some (ds.getD 2 .none):=oG (i:=2) h
end Dl
namespace Wm
open PySem L2 Dl PySem.Spec PyProof.Rows Pg
variable {mo:Int}{i7 i5:Nat}
def uG(ha:fa ρ=some (.int a))(hb:fb ρ=some (.int i))(hc:fc ρ=some (.int b)):dW rT rT fa fb fc ρ=some (.bool (decide (a<=i)&&decide (i<=b))):=by
 simp?[dW,ha,hb,hc,zA,rT,zv,xI];by_cases h:a<=i<;>simp[h]
def tx(i j:Int):Dl.dy (.int i) (.int j)=some (.int (i - j)):=rfl
def cB(i j:Int):Dl.aA (.int i) (.int j)=some (.int (i+j)):=rfl
def Ao(d:D):Slot.all (.val d)=some d:=rfl
def Bw(ds:List D):Slot.all (.own ds)=some (.list ds):=rfl
def GV:Slot.all .Xe=none:=rfl
def FJ(d:D):Slot.X3 (.val d)=some d:=rfl
def Gd(ds:List D):Slot.X3 (.own ds)=none:=rfl
def G0:Slot.X3 .Xe=none:=rfl
local macro_rules|`(tactic| simp! [$ts,*])=>`(tactic| simp only[bf,ar,dZ,aV,dP,iM,gq,bJ,fB,gB,AS,ae,fC,gy,VG,VD,TX,f1,f2,tx,cB,aa,ag,aj,bu,wg,bz,fy,oneOf,hJ,aJ,Ao,Bw,GV,FJ,Gd,G0,bI,cq,b8,aH,bZ,av,  zI,yV,xG,xP,zL,xM,List.replicate,xR,yZ,qH,kX,zA,Option.bind_none,zB,Option.map_none,Nat.reduceAdd,Nat.reduceSub,jE,Nat.sub_self,xI,reduceIte,$ts,*])
def dF(h:jt d=true)(a b:Int):aX [d,.int a,.int b]=some (.bool (whole a b d)):=by
 simp! [aX,nH,kI h,kB h];cases d<;>simp[VW,UY,whole];rw[uG rfl rfl rfl]
def gg(h:jt d=true)(n:Int):bH [d,.int n]=some (.bool (whole 0 (n - 1) d)):=by
 simp! [bH,mf,dF h]
def long(a b:Int):D->Bool|.tuple ds=>decide (a<=(ds.length:Int))&&decide ((ds.length:Int)<=b)|_=>false
def dh(h:jt d=true)(a b:Int):bg [d,.int a,.int b]=some (.bool (long a b d)):=by
 simp! [bg,pZ,kT h];cases d<;>simp[M1,long];rw[uG rfl (i:=_) rfl rfl]
def iY:D->Int|.int i=>i|_=>0
def eP(h:whole a b d=true):d=.int (iY d)/\a<=iY d/\iY d<=b:=by
 cases d<;>simp[whole] at h;exact⟨rfl,h⟩
def nK:∀ {ls:List D},ls.all (whole a b)=true->ls=(ls.map iY).map PyData.int
 | [],_=>rfl
 | d::ls,h=>by
  rw[xU,zF] at h;rw[zI,zI,<- (eP h.1).1,<- nK h.2]
def j1(n:Int):D->Bool|.tuple ls=>ls.all (whole 0 (n - 1))&&decide ((ls.map iY).Nodup)|_=>false
def bV(i j:Int):bh (.int i) (.int j)=some (.bool (decide (i=j))):=by
 simp[bh,MZ,SeqAt.shaped,PyData.canLay0,PyData.depth,PyData.eqv];rfl
def ME(i j:Int):gf (.int i) (.int j)=some (.bool (!decide (i=j))):=by
 simp[gf,Nn,SeqAt.shaped,PyData.canLay0,PyData.depth,PyData.eqv];rfl
def Jj(h:ls.all (whole a b)=true)(hl:ls.length<=100):f2 bh (f1 mJ (λ_=>some (.tuple ls))) (bu bz (aa (λ_=>some (.tuple ls)) ag)) []=some (.bool (decide ((ls.map iY).Nodup))):=by
 have e:=nK h;have e1:mJ (.tuple ls)=some (.int (many (ls.map iY))):=by
  simp?[mJ,sV]
  conv=>lhs;rw[e]
  rw[cX,zA,yM];rw[zD];exact jA (Nat.add_le_add_right hl 1) (by decide)
 simp! [e1,bV];have:=Fz (ls.map iY);rw[zD] at this;simp?[<- this,Int.ofNat_inj,yL,PyData.bool.injEq]
def SN(r:Dl.Env)(d:D):fG 0 (none::r) d=some (some d::r):=by simp[fG,isFree]
def bR{cs:List Nat}(Yw:fi ρ=some ds)(hl:ds.length<=4000)(hh:∀d∈ds,te (some d::cs.map λj=>(ρ[j]?).getD none)=some (h d)):ax 1 cs fi (fG 0) (λ_=>some true) te ρ=some (ds.map h):=by
 simp?[ax,Yw,zA,gH,List.replicate,xG,xP];rw[zk (h:=h) λd hd=>⟨_,SN _ d,hh d hd⟩,zA,bE (by rw[zD];exact hl)]
def n8{cs:List Nat}(Yw:fi ρ=some ds)(hl:ds.length<=4000)
  (hp:∀d∈ds,tt (some d::cs.map λj=>(ρ[j]?).getD none)=some (p d)) (hh:∀d∈ds,p d=true->te (some d::cs.map λj=>(ρ[j]?).getD none)=some (h d)):ax 1 cs fi (fG 0) tt te ρ=some ((ds.filter p).map h):=by
 simp?[ax,Yw,zA,gH,List.replicate,xG,xP];rw[oa (p:=p) (h:=h) λd hd=>⟨_,SN _ d,hp d hd,hh d hd⟩,zA,bE (by rw[zD];exact yD (xQ _ _) hl)]
def Dm(h:cI b k d)(hb:b<=100)(n:Int):gu [d,.int n]=some (.bool (j1 n d)):=by
 simp! [gu,lS,kT h.nd];cases d<;>try (simp[M1,j1];done)
 rename_i ls;let⟨j,rfl,hl,hf⟩:=h.XD;have c:=bR (cs:=[1]) (fi:=bI (ae 0)) (te:=(aj 2 bH (aa (ae 0) (aa (ae 1) ag)))) (h:=λx=>.bool (whole 0 (n - 1) x)) (ρ:=[some (.tuple ls),some (.int n)]) rfl (by lia) λx hx=>by simp! [gg (hf x hx).nd]
 simp! [M1,xZ,yP,c,lT];cases e:ls.all (whole 0 (n - 1)) with
 | false=>simp[j1,e]
 | true =>
  have:=Jj e (yD hl hb);simp?[f2,f1,bu,aa,ag,zA,zB] at this;simp! [j1,e,xZ,yP,jM];simp?[bz,fy,oneOf,zA,hJ,zB] at this;simp! [this]
def placeOk(n:Int):D->Bool|.tuple ds=>decide (ds.length=2)&&(whole 0 9 (ds.getD 0 .none)&&j1 n (ds.getD 1 .none))|_=>false
def lr(g t:Int):D->Bool|.tuple ds=>decide (ds.length=3)&&(whole 0 (g - 1) (ds.getD 0 .none)&&(whole 0 (t - 1) (ds.getD 1 .none)&&whole 1 9 (ds.getD 2 .none)))|_=>false
def nC(n:Nat)(ds:List D):long (n:Int) (n:Int) (.tuple ds)=decide (ds.length=n):=by
 simp?[long];by_cases h:ds.length=n
 ·simp[h]
 ·rw[zZ h,Bool.and_eq_false_iff,xC,xC];lia
def getD_mem{ds:List D}{i:Nat}(h:i < ds.length):ds.getD i .none∈ds:=by simp[List.getD,h]
def B3{b:Nat}(h:cI b k d)(hb:b<=100)(n:Int):gc [d,.int n]=some (.bool (placeOk n d)):=by
 simp! [gc,uk,dh h.nd];cases d<;>try (simp[long,placeOk];done)
 rename_i ds;let⟨j,rfl,hl,hf⟩:=h.XD;rw[show long 2 2 (.tuple ds)=decide (ds.length=2) from nC 2 ds];by_cases e:ds.length=2
 ·have f0:=hf _ (getD_mem (i:=0) (by lia));have f1:=hf _ (getD_mem (i:=1) (by lia));simp! [e,jR,CD (show 0 < ds.length by lia),yf (show 1 < ds.length by lia),dF f0.nd,Dm f1 hb,placeOk];cases whole 0 9 (ds.getD 0 .none)<;>simp
 ·simp[e,placeOk]
def J1{b:Nat}(h:cI b k d)(hb:b<=100)(g t:Int):jy [d,.int g,.int t]=some (.bool (lr g t d)):=by
 simp! [jy,uE,dh h.nd];cases d<;>try (simp[long,lr];done)
 rename_i ds;let⟨j,rfl,hl,hf⟩:=h.XD;rw[show long 3 3 (.tuple ds)=decide (ds.length=3) from nC 3 ds];by_cases e:ds.length=3
 ·have f0:=hf _ (getD_mem (i:=0) (by lia));have f1:=hf _ (getD_mem (i:=1) (by lia));have YD:=hf _ (getD_mem (i:=2) (by lia));simp! [e,jR,xZ,yP,CD (show 0 < ds.length by lia),yf (show 1 < ds.length by lia),Py (show 2 < ds.length by lia),dF YD.nd,gg f0.nd,gg f1.nd,lr];cases whole 0 (g - 1) (ds.getD 0 .none)<;>cases whole 0 (t - 1) (ds.getD 1 .none)<;>simp
 ·simp[e,lr]
def dw:D->List D|.tuple ds=>ds|_=>[]
def pS(d:D):Bool:=long 1 4 d
def k8(g t w:D):Bool:=pS g&&(pS t&&((dw g).all (placeOk (dw t).length)&&((dw t).all (placeOk (dw g).length)&&(M1 w&&(dw w).all (lr (dw g).length (dw t).length)))))
def jx(h:long a b d=true):d=.tuple (dw d):=by cases d<;>first|rfl|cases h
def rK(hg:cI b k g)(ht:cI b k t)(hw:cI b k w)(hb:b<=100):gx [g,t,w]=some (.bool (k8 g t w)):=by
 simp! [gx,lZ,dh hg.nd,dh ht.nd,kT hw.nd];unfold k8 pS;cases e1:long 1 4 g with
 | false=>simp
 | true =>
  cases e2:long 1 4 t with
  | false=>simp
  | true =>
   obtain⟨gs,rfl⟩:∃gs,g=.tuple gs:=⟨_,jx e1⟩
   obtain⟨ts,rfl⟩:∃ts,t=.tuple ts:=⟨_,jx e2⟩
   let⟨j,rfl,hgl,hgf⟩:=hg.XD;let⟨j',hj,htl,htf⟩:=ht.XD;have c1:=bR (cs:=[1]) (fi:=bI (ae 0)) (te:=(aj 2 gc (aa (ae 0) (aa (bu bz (aa (ae 1) ag)) ag)))) (h:=λx=>.bool (placeOk ts.length x)) (ρ:=[some (.tuple gs),some (.tuple ts),some w]) rfl (by lia) λx hx=>by simp! [B3 (hgf x hx) hb]
   have c2:=bR (cs:=[0]) (fi:=bI (ae 1)) (te:=(aj 2 gc (aa (ae 0) (aa (bu bz (aa (ae 1) ag)) ag)))) (h:=λx=>.bool (placeOk gs.length x)) (ρ:=[some (.tuple gs),some (.tuple ts),some w]) rfl (by lia) λx hx=>by simp! [B3 (htf x hx) hb]
   simp! [xZ,yP,c1,lT,dw,jM];cases e3:gs.all (placeOk ts.length) with
   | false=>simp
   | true =>
    simp! [xZ,yP,c2,lT,jM];cases e4:ts.all (placeOk gs.length) with
    | false=>simp
    | true =>
     cases hT:M1 w with
     | false=>simp! [xZ,yP,kT hw.nd,hT,wM,vF]
     | true =>
     obtain⟨ws,rfl⟩:∃ws,w=.tuple ws:=by cases w<;>first|exact⟨_,rfl⟩|cases hT
     let⟨j2,hj2,hwl,hwf⟩:=hw.XD;have c3:=bR (cs:=[0,1]) (fi:=bI (ae 2)) (te:=(aj 3 jy (aa (ae 0) (aa (bu bz (aa (ae 1) ag)) (aa (bu bz (aa (ae 2) ag)) ag))))) (h:=λx=>.bool (lr gs.length ts.length x)) (ρ:=[some (.tuple gs),some (.tuple ts),some (.tuple ws)]) rfl (by lia) λx hx=>by simp! [J1 (hwf x hx) hb]
     simp! [xZ,yP,c3,lT,jM,kT hw.nd,M1]
def u4:∀ (a b:List Int),PyData.eqvAll (a.map PyData.int) (b.map PyData.int)=decide (a=b)
 | [],[]=>by simp[PyData.eqvAll]
 | [],_::_=>by simp[PyData.eqvAll]
 | _::_,[]=>by simp[PyData.eqvAll]
 | i::a,j::b=>by
  rw[zI,zI,PyData.eqvAll,u4 a b];by_cases h:i=j
  ·subst h;simp[PyData.eqv]
  ·simp[PyData.eqv,h]
def DM:∀ (a b:List (List Int)),PyData.eqvAll (a.map af) (b.map af)=decide (a=b)
 | [],[]=>by simp[PyData.eqvAll]
 | [],_::_=>by simp[PyData.eqvAll]
 | _::_,[]=>by simp[PyData.eqvAll]
 | x::a,y::b=>by
  rw[zI,zI,PyData.eqvAll,DM a b,af,af,PyData.eqv,u4];by_cases h:x=y
  ·subst h;simp
  ·simp[h]
def kf(i:Int):cI b k (.int i):=.leaf trivial
def F1(h:r.length<=b):cI b (k+1) (af r):=.tup (by rw[zD];exact h) λx hx=>by
 let⟨i,_,rfl⟩:=List.mem_map.mp hx;exact kf i
def L4{b k:Nat}{a:List (List Int)}(h:a.length<=b)(hr:∀r∈a,r.length<=b):cI b (k+2) (.list (a.map af)):=.lst (by rw[zD];exact h) λx hx=>by
 let⟨r,YL,rfl⟩:=List.mem_map.mp hx;exact F1 (hr r YL)
def Ib(a:List (List Int)):∃b,a.length<=b/\∀r∈a,r.length<=b:=by
 induction a with
 | nil=>exact⟨0,yN _,λr h=>by cases h⟩
 | cons x a ih =>
  let⟨b,h1,h2⟩:=ih;refine⟨b+1+x.length,by rw[zL];lia,λr hr=>?_⟩;rcases List.mem_cons.mp hr with rfl|hr
  ·lia
  ·have:=h2 r hr;lia
def BO(a:List (List Int)):SeqAt.shaped (.list (a.map af))=true:=by
 let⟨b,h1,h2⟩:=Ib a;exact (L4 (b:=b) (k:=0) h1 h2).shaped (by decide)
def IF(a b:List (List Int)):bh (.list (a.map af)) (.list (b.map af))=some (.bool (decide (a=b))):=by
 simp?[bh,MZ,BO,jQ,xI,PyData.eqv,DM,zB]
def l9(d:D):List Int:=(dw ((dw d).getD 1 .none)).map iY
def kq(h:placeOk n d=true):∃a ds,d=.tuple ds/\ds.length=2/\ds.getD 0 .none=.int a/\0<=a/\a<=9/\ds.getD 1 .none=.tuple ((l9 d).map PyData.int)/\(l9 d).Nodup/\∀j∈l9 d,0<=j/\j<=n - 1:=by
 cases d<;>simp?[placeOk] at h<;>try cases h
 rename_i ds;simp?[zF,zJ] at h;let⟨h1,h2,h3⟩:=h;have e:l9 (.tuple ds)=(dw (ds.getD 1 .none)).map iY:=rfl;rw[e];generalize hl:ds.getD 1 .none=l at h3;cases l<;>simp?[j1] at h3<;>try cases h3
 rename_i ls;simp?[zF,zJ] at h3;let⟨w1,w2,w3⟩:=eP h2;refine⟨_,ds,rfl,h1,w1,w2,w3,?_,h3.2,λj hj=>?_⟩
 ·rw[show dw (.tuple ls)=ls from rfl,<- nK h3.1];exact hl
 ·let⟨x,hx,rfl⟩:=List.mem_map.mp hj;exact (eP (List.all_eq_true.mp h3.1 x hx)).2
def n5(k:Nat):List D->List (List Int)|[]=>[]|p::ps=>(l9 p).map (λj=>[((k:Nat):Int),j])++n5 (k+1) ps
def uo:∀ (n:Nat) {l:List Int},l.Nodup->(∀j∈l,0<=j/\j<=(n:Int) - 1)->l.length<=n:=by
 intro n l hn h;have hs:l.map Int.toNat ⊆ List.range n:=λx hx=>by
  let⟨j,hj,rfl⟩:=List.mem_map.mp hx;have:=h j hj;exact List.mem_range.mpr (by lia)
 have YS:(l.map Int.toNat).Nodup:=by
  refine List.pairwise_map.mpr (hn.imp_of_mem λ{x y} hx hy XA e=>XA ?_);have:=h x hx;have:=h y hy;lia
 have:=List.Nodup.length_le_of_subset YS hs;simpa using this
def Ay{n:Nat}:∀ {ps:List D}{k:Nat},(∀p∈ps,placeOk n p=true)->(n5 k ps).length<=ps.length * n
 | [],k,_=>xW _
 | p::ps,k,h=>by
  let⟨_,_,_,_,_,_,_,_,hn,hr⟩:=kq (h p zE);have h1:=uo n hn hr;have h2:=Ay (ps:=ps) (k:=k+1) λq hq=>h q (zC _ hq);rw[n5,zN,zD,zL,Nat.succ_mul];lia
def pB:au->Option Out:=HI 1 [2,3] (ax 1 [2] (bI (f2 av (ae 3) (fC (.int 1)))) (fG 0) (λ_=>some true) (aH (aa (ae 1) (aa (ae 0) ag))))
def EL{n:Nat}{p:D}{acc:List D}(hp:placeOk n p=true)(hn:n<=100)(ha:acc.length<=1000):pB [.val x,.own acc,.val (.int (k:Nat)),.val p]=some (.nx [.val x,.own (acc++((l9 p).map λj=>af [((k:Nat):Int),j])),.val (.int (k:Nat)),.val p]):=by
 let⟨a,ds,rfl,hl,_,_,_,h1,YS,hr⟩:=kq hp;have hb:=uo n YS hr;generalize l9 (.tuple ds)=ls at *;have c:=bR (cs:=[2]) (fi:=bI (f2 av (ae 3) (fC (.int 1)))) (te:=aH (aa (ae 1) (aa (ae 0) ag))) (h:=λy=>.tuple [.int (k:Nat),y]) (ρ:=[some x,none,some (.int (k:Nat)),some (.tuple ds)]) (ds:=ls.map PyData.int)
  (by simp! [yf (show 1 < ds.length by lia),h1]) (by rw[zD];lia) λy hy=>by
   simp! [bE (show [PyData.int (k:Nat),y].length<=4000 by simp)]
 have hh:hand [2,3] 0 [Slot.val x,.own acc,.val (.int (k:Nat)),.val (.tuple ds)]=[Slot.val x,.own acc,.val (.int (k:Nat)),.val (.tuple ds)]:=rfl;simp?[pB,HI,hh,bK,zI,yV,Slot.X3,c,zA,sD,yZ,xR];rw[yM]
 ·simp?[zB,yX,yW,zM];rfl
 ·simp?[zD];exact yD (show acc.length+ls.length<=1100 by lia) (by decide)
def zu{n:Nat}(hn:n<=100):∀ {ps:List D}{k:Nat}{acc:List D}{s2 s3:Slot},(∀p∈ps,placeOk n p=true)->acc.length+ps.length * n<=1000 ->
  ∃t2 t3,cJ (fj 2 3) pB (bP k ps) [.val x,.own acc,s2,s3]=some (.nx [.val x,.own (acc++(n5 k ps).map af),t2,t3])
 | [],k,acc,s2,s3,_,_=>⟨s2,s3,by simp[bP,cJ,n5]⟩
 | p::ps,k,acc,s2,s3,h,hl=>by
  have hp:=h p zE;let⟨_,_,_,_,_,_,_,_,YS,hr⟩:=kq hp;have hb:=uo n YS hr;rw[zL,Nat.succ_mul] at hl;let⟨t2,t3,e⟩:=zu hn (x:=x) (ps:=ps) (k:=k+1) (acc:=acc++((l9 p).map λj=>af [((k:Nat):Int),j])) (s2:=.val (.int (k:Nat))) (s3:=.val p) (λq hq=>h q (zC _ hq)) (by rw[zN,zD];lia);refine⟨t2,t3,?_⟩;have hs:fj 2 3 [.val x,.own acc,s2,s3] (.tuple [.int (k:Nat),p])=some [.val x,.own acc,.val (.int (k:Nat)),.val p]:=rfl;simp?[bP,cJ,hs,zA,EL hp hn (show acc.length<=1000 by lia)];rw[e];simp[n5,zM,Zm]
def FM{n:Nat}{ps:List D}(h:∀p∈ps,placeOk n p=true)(hn:n<=100)(hl:ps.length * n<=1000):bN [.tuple ps]=some (.list ((n5 0 ps).map af)):=by
 let⟨t2,t3,e⟩:=zu hn (x:=.tuple ps) (k:=0) (acc:=[]) (s2:=.Xe) (s3:=.Xe) h (by simpa using hl);have hs:aU 1 [] (bZ ag) [Slot.val (.tuple ps),.Xe,.Xe,.Xe]=some (.nx [.val (.tuple ps),.own [],.Xe,.Xe]):=rfl;have hh:hand [0] 0 [Slot.val (.tuple ps),.own [],.Xe,.Xe]=[Slot.val (.tuple ps),.own [],.Xe,.Xe]:=rfl;have hf:bQ (aa (ae 0) ag) (bK [Slot.val (.tuple ps),.own [],.Xe,.Xe])=some (bP 0 ps):=rfl;simp! [bN,iT,hs,dC,hh,hf];rw[show HI 1 [2,3] (ax 1 [2] (bI (f2 av (ae 3) (fC (.int 1)))) (fG 0) (λ_=>some true) (aH (aa (ae 1) (aa (ae 0) ag))))=pB from rfl,e];simp! []
def gG(d:D):List Int:=[iY ((dw d).getD 0 .none),iY ((dw d).getD 1 .none)]
def EF(h:lr g t d=true):∃ds c,d=.tuple ds/\ds.length=3/\ds.getD 0 .none=.int (iY (ds.getD 0 .none))/\ds.getD 1 .none=.int (iY (ds.getD 1 .none))/\ds.getD 2 .none=.int c/\1<=c/\c<=9 /\
  0<=iY (ds.getD 0 .none)/\iY (ds.getD 0 .none)<=g - 1/\0<=iY (ds.getD 1 .none)/\iY (ds.getD 1 .none)<=t - 1:=by
 cases d<;>simp?[lr] at h<;>try cases h
 rename_i ds;simp?[zF,zJ] at h;let⟨h1,h2,h3,h4⟩:=h;have a:=eP h2;have b:=eP h3;have c:=eP h4;exact⟨ds,_,rfl,h1,a.1,b.1,c.1,c.2.1,c.2.2,a.2.1,a.2.2,b.2.1,b.2.2⟩
def D3(g t w:D):Bool:=decide ((dw w).map gG=vc (n5 0 (dw g)))&&decide ((dw w).map gG=vc ((n5 0 (dw t)).map List.reverse))
def UU(d:D):Bool:=long 3 3 d&&(k8 ((dw d).getD 0 .none) ((dw d).getD 1 .none) ((dw d).getD 2 .none)&&D3 ((dw d).getD 0 .none) ((dw d).getD 1 .none) ((dw d).getD 2 .none))
def mK:∀ {ps:List D}{k:Nat},∀r∈n5 k ps,∃i j,r=[i,j]
 | [],k,r,h=>by cases h
 | p::ps,k,r,h=>by
  rcases List.mem_append.mp h with h|h
  ·let⟨j,_,rfl⟩:=List.mem_map.mp h;exact⟨_,_,rfl⟩
  ·exact mK r h
def oM(h:∀r∈a,∃i j,r=[i,j])(hl:a.length < 64):iA [.list (a.map af)]=some ((vc a).map af):=by
 have:∀ns∈a,ns≠[]:=λns hn=>by let⟨i,j,rfl⟩:=h ns hn;exact List.cons_ne_nil _ _
 simp?[iA,oneOf,zA,tv this,yM hl]
def yc:∀ {a:List (List Int)},(∀r∈a,∃i j,r=[i,j])->et (gE 0 1) (λ_=>some true) (aH (aa (ae 1) (aa (ae 0) ag))) [none,none] (a.map af)=some ((a.map List.reverse).map af)
 | [],_=>rfl
 | r::a,h=>by
  let⟨i,j,rfl⟩:=h r zE;have ih:=yc (a:=a) λq hq=>h q (zC _ hq);have e:gE 0 1 [none,none] (af [i,j])=some [some (.int i),some (.int j)]:=rfl;rw[zI,et,e,zA,zA,yM rfl,ih];simp! [bE (show [PyData.int j,.int i].length<=4000 by simp)];rfl
def Jd{a:List (List Int)}(Yw:fi ρ=some (a.map af))(hl:a.length<=4000)(h:∀r∈a,∃i j,r=[i,j]):ax 2 [] fi (gE 0 1) (λ_=>some true) (aH (aa (ae 1) zq0)) ρ=some ((a.map List.reverse).map af):=by
 simp?[ax,Yw,zA,gH,List.replicate,xG,xP,yV];rw[yc h,zA,bE (by rw[zD,zD];exact hl)]
def Dq(h:k8 g t w=true):∃gs ts ws,g=.tuple gs/\t=.tuple ts/\w=.tuple ws/\1<=gs.length/\gs.length<=4/\1<=ts.length/\ts.length<=4/\(∀p∈gs,placeOk ts.length p=true)/\(∀p∈ts,placeOk gs.length p=true)/\∀x∈ws,lr gs.length ts.length x=true:=by
 simp?[k8,pS,zF] at h;let⟨h1,h2,h3,h4,h5,h6⟩:=h;cases w<;>try cases h5
 rename_i ws;have e1:=jx h1;have e2:=jx h2;generalize dw g=gs at *;generalize dw t=ts at *;subst e1 e2;simp?[long,zF,zJ] at h1 h2;exact⟨gs,ts,ws,rfl,rfl,rfl,by lia,by lia,by lia,by lia,List.all_eq_true.mp h3,List.all_eq_true.mp h4,List.all_eq_true.mp h6⟩
def nJ{b:Nat}(h:cI b k d)(hb:b<=100):bL [d]=some (.bool (UU d)):=by
 unfold UU;cases e1:long 3 3 d with
 | false=>simp! [bL,ik,dh h.nd,e1,Bool.not_false,wM]
 | true =>
  obtain⟨ds,rfl⟩:∃ds,d=.tuple ds:=⟨_,jx e1⟩
  let⟨j,rfl,hl,hf⟩:=h.XD;rw[show long 3 3 (.tuple ds)=decide (ds.length=3) from nC 3 ds,zJ] at e1;have f0:=hf _ (getD_mem (i:=0) (by lia));have f1:=hf _ (getD_mem (i:=1) (by lia));have YD:=hf _ (getD_mem (i:=2) (by lia));have i0:=CD (show 0 < ds.length by lia);have i1:=yf (show 1 < ds.length by lia);have i2:=Py (show 2 < ds.length by lia);have el:bg [.tuple ds,.int 3,.int 3]=some (.bool true):=by rw[dh rfl,show long 3 3 (.tuple ds)=decide (ds.length=3) from nC 3 ds,yA e1]
  rw[show dw (.tuple ds)=ds from rfl,jM];generalize hg:ds.getD 0 .none=g at *;generalize ht:ds.getD 1 .none=t at *;generalize hw:ds.getD 2 .none=w at *;cases e2:k8 g t w with
  | false=>simp! [bL,ik,el,i0,i1,i2,rK f0 f1 YD hb,e2,Bool.not_false,xZ,wM]
  | true =>
   let⟨gs,ts,ws,rfl,rfl,rfl,g1,g4,t1,t4,hG,hT,hW⟩:=Dq e2;have hfw:=YD.XD;let⟨j2,_,hwl,_⟩:=hfw;have q1:=Ay (k:=0) hG;have q2:=Ay (k:=0) hT;have m1:gs.length * ts.length<=16:=wL g4 t4;have m2:ts.length * gs.length<=16:=wL t4 g4;have l1:=FM hG (by lia) (by lia);have l2:=FM hT (by lia) (by lia);have s1:=oM (a:=n5 0 gs) mK (by lia);have s2:=oM (a:=(n5 0 ts).map List.reverse) (λr hr=>by
    let⟨q,hq,rfl⟩:=List.mem_map.mp hr;let⟨i,j,rfl⟩:=mK q hq;exact⟨j,i,rfl⟩) (by rw[zD];lia)
   have c1:ax 1 [] (bI (f2 av (ae 0) (fC (.int 2)))) (fG 0) (λ_=>some true) (aH (aa (f2 av (ae 0) (fC (.int 0))) (aa (f2 av (ae 0) (fC (.int 1))) ag))) [some (.tuple ds),none,none,none]=some ((ws.map gG).map af):=by
    rw[bR (ds:=ws) (h:=λx=>af (gG x)) (by simp! [i2]) (by lia) λx hx=>?_,zM]
    ·rfl
    ·let⟨vs,c,rfl,v3,v0,v1,_⟩:=EF (hW x hx);simp! [CD (show 0 < vs.length by lia),yf (show 1 < vs.length by lia),bE (show [vs.getD 0 PyData.none,vs.getD 1 .none].length<=4000 by simp),af,gG,dw];rw[<- v0,<- v1]
   have c2:∀x y z,ax 2 [] (bI (aj 1 bN (aa (f2 av (ae 0) (fC (.int 1))) ag))) (gE 0 1) (λ_=>some true) (aH (aa (ae 1) (aa (ae 0) ag))) [some (.tuple ds),x,y,z]=some (((n5 0 ts).map List.reverse).map af):=λx y z =>
    Jd (by simp! [i1,l2]) (by lia) mK
   have st1:aU 1 [0] (ax 1 [] (bI (f2 av (ae 0) (fC (.int 2)))) (fG 0) (λ_=>some true) (aH (aa (f2 av (ae 0) (fC (.int 0))) (aa (f2 av (ae 0) (fC (.int 1))) ag)))) [Slot.val (.tuple ds),.Xe,.Xe,.Xe]=some (.nx [.val (.tuple ds),.own ((ws.map gG).map af),.Xe,.Xe]):=by
    have hh:hand [0] 0 [Slot.val (.tuple ds),.Xe,.Xe,.Xe]=[Slot.val (.tuple ds),.Xe,.Xe,.Xe]:=rfl;simp?[aU,hh,bK,zI,yV,Slot.X3,c1,zB,yX,yW]
   have st2:aU 2 [0] (wg iA (aa (aj 1 bN (aa (f2 av (ae 0) (fC (.int 0))) ag)) ag)) [Slot.val (.tuple ds),.own ((ws.map gG).map af),.Xe,.Xe]=some (.nx [.val (.tuple ds),.own ((ws.map gG).map af),.own ((vc (n5 0 gs)).map af),.Xe]):=by
    have hh:hand [0] 0 [Slot.val (.tuple ds),.own ((ws.map gG).map af),.Xe,.Xe]=[Slot.val (.tuple ds),.own ((ws.map gG).map af),.Xe,.Xe]:=rfl;simp?[aU,hh,bK,zI,yV,Slot.X3];simp! [i0,l1,s1,yX,yW]
   have st3:aU 3 [0] (wg iA (aa (cq (ax 2 [] (bI (aj 1 bN (aa (f2 av (ae 0) (fC (.int 1))) ag))) (gE 0 1) (λ_=>some true) (aH (aa (ae 1) (aa (ae 0) ag))))) ag)) [Slot.val (.tuple ds),.own ((ws.map gG).map af),.own ((vc (n5 0 gs)).map af),.Xe]
      =some (.nx [.val (.tuple ds),.own ((ws.map gG).map af),.own ((vc (n5 0 gs)).map af),.own ((vc ((n5 0 ts).map List.reverse)).map af)]):=by
    have hh:hand [0] 0 [Slot.val (.tuple ds),.own ((ws.map gG).map af),.own ((vc (n5 0 gs)).map af),.Xe]=[Slot.val (.tuple ds),.own ((ws.map gG).map af),.own ((vc (n5 0 gs)).map af),.Xe]:=rfl;simp?[aU,hh,bK,zI,yV,Slot.X3];simp! [c2,s2,yX,yW]
   simp! [bL,ik,el,i0,i1,i2,rK f0 f1 YD hb,e2,xZ,yP,st1,st2,st3,IF,D3,dw,jM];by_cases hq:List.map gG ws=vc (n5 0 gs)<;>simp[hq]
def u6(xs:List D):PyData.eqvAll xs []=xs.isEmpty:=by cases xs<;>simp[PyData.eqvAll]
def Fk:SeqAt.shaped (.list [])=true:=by simp[SeqAt.shaped,PyData.canLay0,PyData.canLayAll0,PyData.depth,PyData.depthAll]
def Ln(h:∀x∈xs,cI b k x)(hk:k<=60):bh (.list xs) (.list [])=some (.bool xs.isEmpty):=by
 have hs:SeqAt.shaped (.list xs)=true:=(cI.lst (b:=max b xs.length) (k:=k) (Nat.le_max_right _ _) λx hx=>(h x hx).mono (Nat.le_max_left _ _) (yN _)).shaped (by lia);simp?[bh,MZ,hs,Fk,jQ,xI,PyData.eqv,u6,zB]
def ju:small []=some []:=rfl
def Js(xs:List α)(k:Nat):cut xs none (some (k:Int))=xs.take k:=by
 simp?[cut,HT.Cg,HT.Gu,List.drop_zero,Nat.sub_zero];rw[List.take_eq_take_iff];lia
def Dg(xs:List α)(k:Nat):cut xs (some (k:Int)) none=xs.drop k:=by
 simp?[cut,HT.Cg,HT.Gu];rw[kO (by rw[qJ];lia)];by_cases h:k<=xs.length
 ·rw[Nat.min_eq_left h]
 ·rw[Nat.min_eq_right (by lia),List.drop_of_length_le (yN _),List.drop_of_length_le (by lia)]
def iJ(b:Bool):gB (.bool b)=some b:=rfl
def Fd(a b:D):small [a,b]=some [a,b]:=rfl
def oR:∀ (ρ:au) (k:Nat),hand [] k ρ=ρ
 | [],k=>rfl
 | s::r,k=>by simp[hand,oR r]
def tj:∀ {ps:List D}{k:Nat}{i j:Int},[i,j]∈n5 k ps↔∃m p,ps[m]?=some p/\i=((k+m:Nat):Int)/\j∈l9 p
 | [],k,i,j=>by simp[n5]
 | p::ps,k,i,j=>by
  rw[n5,List.mem_append,tj (ps:=ps)];constructor
  ·rintro (h|⟨m,q,h1,h2,h3⟩)
   ·let⟨y,hy,e⟩:=List.mem_map.mp h;injection e with e1 e2
    injection e2 with e2 _
    exact⟨0,p,rfl,by simpa using e1.symm,e2 ▸ hy⟩
   ·exact⟨m+1,q,by simpa using h1,by rw[h2];congr 1;lia,h3⟩
  ·rintro⟨m,q,h1,h2,h3⟩;cases m with
   | zero =>
    simp at h1;subst h1;exact .inl (List.mem_map.mpr ⟨j,h3,by rw[h2];rfl⟩)
   | succ m=>exact .inr ⟨m,q,by simpa using h1,by rw[h2];congr 1;lia,h3⟩
def xy:∀ {ps:List D}{k:Nat},(∀p∈ps,(l9 p).Nodup)->(n5 k ps).Nodup
 | [],k,_=>List.nodup_nil
 | p::ps,k,h=>by
  rw[n5,Zl];refine⟨List.pairwise_map.mpr ((h p zE).imp λXA e=>XA ?_),xy λq hq=>h q (zC _ hq),?_⟩;rotate_left
  ·injection e with _ e2
   injection e2
  ·rintro a ha b hb rfl;let⟨y,hy,rfl⟩:=List.mem_map.mp ha;let⟨m,q,h1,h2,h3⟩:=tj.mp hb;lia
def TK(h:Dl.lexLt a b=true):lexLe a b=true:=by
 unfold lexLe;cases e:Dl.lexLt b a with
 | false=>rfl
 | true=>have:=fP h e;rw[ie] at this;cases this
def e9(h:wu i j):Dl.dH (.int i) (.int j)=some (.int (i * j)):=by
 simp?[Dl.dH,zv,yM h,Option.some_or]
def jo(h:0 < j):Dl.mT (.int i) (.int j)=some (.int (i % j)):=yM h
def lO(h:0 < j/\j < 1073741824):Dl.oi (.int i) (.int j)=some (.int (i / j)):=yM h
def fg(i j:Int):Dl.EV (.int i) (.int j)=some (.bool (decide (j < i))):=rfl
def kr(i j:Int):Dl.v5 (.int i) (.int j)=some (.bool (decide (i < j))):=rfl
def nB(h:-(2 ^ 64) < i/\i < 2 ^ 64):wu i j:=.inl h
def Rk(h:-(2 ^ 64) < j/\j < 2 ^ 64):wu i j:=.inr h
def Dh(i:Int):Dl.oW (.int i)=true:=rfl
def Dt(i:List D):Dl.oW (.tuple i)=false:=rfl
def bY(ns:List Int):D:=.list (ns.map PyData.int)
def R4(k:Int)(hl:ns.length<=63):∃c,eF [bY ns,.int k]=some (.int c):=by
 have heq:bh (.list (ns.map PyData.int)) (.list [])=some (.bool ns.isEmpty):=by
  have:=Ln (b:=0) (k:=0) (xs:=ns.map PyData.int) (λx hx=>by let⟨i,_,rfl⟩:=List.mem_map.mp hx;exact kf i) (by decide);rw[this];cases ns<;>rfl
 by_cases hn:ns=[]
 ·subst hn;refine⟨7 * k,?_⟩;rw[yV,List.isEmpty_nil] at heq;simp! [eF,iB,bY,ju,heq,List.isEmpty_nil,e9 (nB (i:=7) (j:=k) (by decide))]
 ·have ZI:(0:Int) < (ns.length:Int):=by have:=List.length_pos_iff.mpr hn;lia
  have he:ns.isEmpty=false:=by cases ns<;>first|rfl|exact absurd rfl hn
  let⟨j,hj⟩:=vS (wH k (show (ns.length:Int)≠0 by lia));have Xw:=vH k ZI;have hx:tY (ns.map PyData.int) (k % (ns.length:Int))=some (.int (ns.getD j 0)):=by
   rw[hj];have:j < (ns.map PyData.int).length:=by rw[zD];lia
   rw[oG this,zG,zO,zG];rw[zK (by lia)];rfl
  refine⟨ns.getD j 0+6553 * (k / (ns.length:Int)),?_⟩;simp! [eF,iB,bY,ju,heq,he,yP,zD,jo ZI,hx,lO (i:=k) (j:=(ns.length:Int)) ⟨ZI,by lia⟩,e9 (nB (i:=6553) (j:=k / (ns.length:Int)) (by decide))]
def Nu(k many:Int)(hl:ns.length<=63)(hm:0 < many):∃r,ak [bY ns,.int k,.int many]=some (.int r)/\0<=r/\r < many:=by
 let⟨c,hc⟩:=R4 k hl;have m1:∀i:Int,Dl.mT (.int i) (.int 2147483563)=some (.int (i % 2147483563)):=λi=>jo (by decide);have m2:∀i:Int,Dl.mT (.int i) (.int 2147483399)=some (.int (i % 2147483399)):=λi=>jo (by decide);have m3:∀i:Int,Dl.mT (.int i) (.int 2147483647)=some (.int (i % 2147483647)):=λi=>jo (by decide);have d1:∀i:Int,Dl.oi (.int i) (.int 3)=some (.int (i / 3)):=λi=>lO (by decide);have d2:∀i:Int,Dl.oi (.int i) (.int 7)=some (.int (i / 7)):=λi=>lO (by decide);have d3:∀i:Int,Dl.oi (.int i) (.int 11)=some (.int (i / 11)):=λi=>lO (by decide);have u1:∀i:Int,Dl.dH (.int i) (.int 69069)=some (.int (i * 69069)):=λi=>e9 (Rk (by decide));have u2:∀i:Int,Dl.dH (.int 104723) (.int i)=some (.int (104723 * i)):=λi=>e9 (nB (by decide));have b1:∀x:Int,Dl.dH (.int (x % 2147483563)) (.int (x % 2147483563))=some (.int (x % 2147483563 * (x % 2147483563))):=λx=>e9 (nB (by
  have:=wH x (show (2147483563:Int)≠0 by decide);have:=vH x (show (0:Int) < 2147483563 by decide);lia))
 have b2:∀x:Int,Dl.dH (.int (x % 2147483399)) (.int (x % 2147483399))=some (.int (x % 2147483399 * (x % 2147483399))):=λx=>e9 (nB (by
  have:=wH x (show (2147483399:Int)≠0 by decide);have:=vH x (show (0:Int) < 2147483399 by decide);lia))
 suffices h:∃x,ak [bY ns,.int k,.int many]=some (.int (x % many)) by
  let⟨x,hx⟩:=h;exact⟨_,hx,wH x (show many≠0 by lia),vH x hm⟩
 ·refine⟨(((((c % 2147483563 * 69069+104723 * (k+1)) % 2147483563) * ((c % 2147483563 * 69069+104723 * (k+1)) % 2147483563)+((c % 2147483563 * 69069+104723 * (k+1)) % 2147483563) / 3) % 2147483399) * ((((c % 2147483563 * 69069+104723 * (k+1)) % 2147483563) * ((c % 2147483563 * 69069+104723 * (k+1)) % 2147483563)+((c % 2147483563 * 69069+104723 * (k+1)) % 2147483563) / 3) % 2147483399)+((((c % 2147483563 * 69069+104723 * (k+1)) % 2147483563) * ((c % 2147483563 * 69069+104723 * (k+1)) % 2147483563)+((c % 2147483563 * 69069+104723 * (k+1)) % 2147483563) / 3) % 2147483399) / 7) % 2147483647 / 11,?_⟩;simp! [ak,ka,hc,m1,u1,u2,Dl.aD,Dh,yX,yW,b1,d1,m2,b2,d2,m3,d3,jo (j:=many) hm]
def dr(ns:List Int)(k many:Int):Int:=iY ((ak [bY ns,.int k,.int many]).getD .none)
def dU(k many:Int)(hl:ns.length<=63)(hm:0 < many):ak [bY ns,.int k,.int many]=some (.int (dr ns k many))/\0<=dr ns k many/\dr ns k many < many:=by
 let⟨r,h1,h2⟩:=Nu k many hl hm;have:dr ns k many=r:=by simp?[dr,h1,qH,iY]
 rw[this];exact⟨h1,h2⟩
def o5(k many:Int)(hl:ns.length<=63)(hm:0 < many):ak [bY ns,.int k,.int many]=some (.int (dr ns k many)):=(dU k many hl hm).1
def G8(k many:Int)(hl:ns.length<=63)(hm:0 < many):0<=dr ns k many:=(dU k many hl hm).2.1
def Hf(k many:Int)(hl:ns.length<=63)(hm:0 < many):dr ns k many < many:=(dU k many hl hm).2.2
def cS(r:List Int):D:=.list (r.map PyData.int)
def insI(ds:List Int)(k:Int)(d:Int):List Int:=let j:=if k < 0 then (k+(ds.length:Int)).toNat else min k.toNat ds.length;ds.take j++d::ds.drop j
def HR(ds:List Int)(k d:Int):G6 (ds.map PyData.int) k (.int d)=(insI ds k d).map PyData.int:=by
 simp?[G6,insI,zD,jB,zI,List.map_take,List.map_drop]
def insI_perm(ds:List Int)(k d:Int):(insI ds k d).Perm (d::ds):=by
 simp?[insI];refine List.perm_middle.trans ?_;rw[List.take_append_drop]
def oB:au->Option Out:=(JI 6 [8] (aj 3 ak (aa (ae 0) (aa (f2 aA (f2 aA (ae 1) (f2 dH (fC (.int 4)) (ae 4))) (ae 7)) (aa (f2 aA (bu bz (aa (ae 6) ag)) (fC (.int 1))) ag)))) (ae 8))
def Ra{s3:Slot}(hl:ns.length<=63)(ho:order.length<=1000) :
  oB [.val (bY ns),.val (.int a),s2,s3,.val (.int k),s5,.own (order.map PyData.int),.val (.int j),.val (.int x)] =
   some (.nx [.val (bY ns),.val (.int a),s2,s3,.val (.int k),s5,.own ((insI order (dr ns (a+4 * k+j) ((order.length:Int)+1)) x).map PyData.int),.val (.int j),.val (.int x)]):=by
 have h4:Dl.dH (.int 4) (.int k)=some (.int (4 * k)):=e9 (nB (by decide));have hd:=dU (ns:=ns) (a+4 * k+j) ((order.length:Int)+1) hl (by lia);have hr:Da (dr ns (a+4 * k+j) ((order.length:Int)+1))=true:=by
  simp?[Da,zF,zJ];lia
 have hz:(order.map PyData.int).length < sizeLine:=by rw[zD];exact jA ho (by decide)
 simp! [oB,JI,mZ,Dh,sD,zD,h4,hd.1];rw[zD] at hz;simp?[hr,hz,jQ,xI,zB,HR,yX,yW]
def JW{s3:Slot}(hl:ns.length<=63):∀ {row order:List Int}{j:Nat}{s7 s8:Slot},order.length+row.length<=1000 ->
  ∃ (o:List Int) (t7 t8:Slot),cJ (fj 7 8) oB (bP j (row.map PyData.int)) [.val (bY ns),.val (.int a),s2,s3,.val (.int k),s5,.own (order.map PyData.int),s7,s8] =
   some (.nx [.val (bY ns),.val (.int a),s2,s3,.val (.int k),s5,.own (o.map PyData.int),t7,t8])/\o.Perm (row++order)
 | [],order,j,s7,s8,_=>⟨order,s7,s8,by simp[bP,cJ],by simp⟩
 | x::row,order,j,s7,s8,h=>by
  rw[zL] at h;have hp:=insI_perm order (dr ns (a+4 * k+((j:Nat):Int)) ((order.length:Int)+1)) x;have hlen:=hp.length_eq;rw[zL] at hlen;let⟨o,t7,t8,e,p⟩:=JW (s2:=s2) (s3:=s3) (s5:=s5) (a:=a) (k:=k) hl (row:=row) (order:=insI order (dr ns (a+4 * k+((j:Nat):Int)) ((order.length:Int)+1)) x) (j:=j+1) (s7:=.val (.int (j:Nat))) (s8:=.val (.int x)) (by lia);refine⟨o,t7,t8,?_,p.trans ?_⟩
  ·have hs:fj 7 8 [.val (bY ns),.val (.int a),s2,s3,.val (.int k),s5,.own (order.map PyData.int),s7,s8] (.tuple [.int (j:Nat),.int x])=some [.val (bY ns),.val (.int a),s2,s3,.val (.int k),s5,.own (order.map PyData.int),.val (.int (j:Nat)),.val (.int x)]:=rfl;simp?[zI,bP,cJ,hs,zA,Ra hl (show order.length<=1000 by lia),e]
  ·refine (hp.append_left row).trans ?_;rw[xG];exact List.perm_middle
def u9:List (List Int)->List (List Int)->Prop|[],[]=>True|a::l,b::m=>a.Perm b/\u9 l m|_,_=>False
def rB:au->Option Out:=(ar (aU 6 [] (bZ ag)) (ar (dC [5] (bQ (aa (ae 5) ag)) (fj 7 8) oB) (jc 3 [6] (bu b8 (aa (ae 6) ag)))))
def RX(hl:ns.length<=63)(hr:row.length<=1000)(hf:found.length<=1000) :
  ∃ (o:List Int) (t7 t8:Slot),rB [.val (bY ns),.val (.int a),.val rows,.own found,.val (.int k),.val (cS row),s6,s7,s8]=some (.nx [.val (bY ns),.val (.int a),.val rows,.own (found++[af o]),.val (.int k),.val (cS row),.val (cS o),t7,t8])/\o.Perm row:=by
 let⟨o,t7,t8,e,p⟩:=JW (s2:=.val rows) (s3:=.own found) (s5:=.val (cS row)) (a:=a) (k:=k) hl (row:=row) (order:=[]) (j:=0) (s7:=s7) (s8:=s8) (by simpa using hr);rw[qG] at p;refine⟨o,t7,t8,?_,p⟩;have h1:aU 6 [] (bZ ag) [.val (bY ns),.val (.int a),.val rows,.own found,.val (.int k),.val (cS row),s6,s7,s8]=some (.nx [.val (bY ns),.val (.int a),.val rows,.own found,.val (.int k),.val (cS row),.own [],s7,s8]):=by
  simp?[aU,oR,bZ,ag,zA,ju,zB,yX,yW]
 have h2:dC [5] (bQ (aa (ae 5) ag)) (fj 7 8) oB [.val (bY ns),.val (.int a),.val rows,.own found,.val (.int k),.val (cS row),.own [],s7,s8]=some (.nx [.val (bY ns),.val (.int a),.val rows,.own found,.val (.int k),.val (cS row),.own (o.map PyData.int),t7,t8]):=by
  have hh:hand [5] 0 [Slot.val (bY ns),.val (.int a),.val rows,.own found,.val (.int k),.val (cS row),.own [],s7,s8]=[Slot.val (bY ns),.val (.int a),.val rows,.own found,.val (.int k),.val (cS row),.own [],s7,s8]:=rfl;have hq:bQ (aa (ae 5) ag) (bK [Slot.val (bY ns),.val (.int a),.val rows,.own found,.val (.int k),.val (cS row),.own [],s7,s8])=some (bP 0 (row.map PyData.int)):=by
   simp?[bK,zI,yV];simp! [bQ,cS]
  simp?[dC,hh,hq,zA];exact e
 have h3:jc 3 [6] (bu b8 (aa (ae 6) ag)) [.val (bY ns),.val (.int a),.val rows,.own found,.val (.int k),.val (cS row),.own (o.map PyData.int),t7,t8]=some (.nx [.val (bY ns),.val (.int a),.val rows,.own (found++[af o]),.val (.int k),.val (cS row),.val (cS o),t7,t8]):=by
  have hz:found.length < sizeLine:=jA hf (by decide);have hh:hand [6] 0 [Slot.val (bY ns),.val (.int a),.val rows,.own found,.val (.int k),.val (cS row),.own (o.map PyData.int),t7,t8]=[Slot.val (bY ns),.val (.int a),.val rows,.own found,.val (.int k),.val (cS row),.val (cS o),t7,t8]:=rfl;simp?[jc,mZ,hh,bK,zI,yV];simp! [Dt,yP,sD,hz,yX,yW,cS,af]
 simp?[rB,ar,h1,h2,h3,zA]
def J2{rws:D}(hl:ns.length<=63):∀ {rows:List (List Int)}{found:List D}{k:Nat}{s4 s5 s6 s7 s8:Slot},(∀r∈rows,r.length<=1000)->found.length+rows.length<=1000 ->
  ∃ (os:List (List Int)) (t4 t5 t6 t7 t8:Slot),cJ (fj 4 5) rB (bP k (rows.map cS)) [.val (bY ns),.val (.int a),.val rws,.own found,s4,s5,s6,s7,s8]=some (.nx [.val (bY ns),.val (.int a),.val rws,.own (found++os.map af),t4,t5,t6,t7,t8])/\u9 os rows
 | [],found,k,s4,s5,s6,s7,s8,_,_=>⟨[],s4,s5,s6,s7,s8,by simp[bP,cJ],trivial⟩
 | r::rows,found,k,s4,s5,s6,s7,s8,h,hf=>by
  rw[zL] at hf;let⟨o,u7,u8,e1,p1⟩:=RX (rows:=rws) (a:=a) (k:=((k:Nat):Int)) (s6:=s6) (s7:=s7) (s8:=s8) hl (h r zE) (show found.length<=1000 by lia);let⟨os,t4,t5,t6,t7,t8,e,p⟩:=J2 hl (rws:=rws) (a:=a) (rows:=rows) (found:=found++[af o]) (k:=k+1) (s4:=.val (.int (k:Nat))) (s5:=.val (cS r)) (s6:=.val (cS o)) (s7:=u7) (s8:=u8) (λr' YL=>h r' (zC _ YL)) (by rw[zN,xD];lia);refine⟨o::os,t4,t5,t6,t7,t8,?_,p1,p⟩;have hs:fj 4 5 [.val (bY ns),.val (.int a),.val rws,.own found,s4,s5,s6,s7,s8] (.tuple [.int (k:Nat),cS r])=some [.val (bY ns),.val (.int a),.val rws,.own found,.val (.int (k:Nat)),.val (cS r),s6,s7,s8]:=rfl;simp?[zI,bP,cJ,hs,zA,e1];rw[e,List.append_assoc];rfl
def Df(hl:ns.length<=63)(hr:∀r∈rows,r.length<=1000)(hn:rows.length<=1000):∃os:List (List Int),bS [bY ns,.int a,.list (rows.map cS)]=some (.list (os.map af))/\u9 os rows:=by
 let⟨os,t4,t5,t6,t7,t8,e,p⟩:=J2 hl (rws:=.list (rows.map cS)) (a:=a) (rows:=rows) (found:=[]) (k:=0) (s4:=.Xe) (s5:=.Xe) (s6:=.Xe) (s7:=.Xe) (s8:=.Xe) hr (by simpa using hn);refine⟨os,?_,p⟩;rw[xP] at e;have h1:aU 3 [] (bZ ag) [.val (bY ns),.val (.int a),.val (.list (rows.map cS)),.Xe,.Xe,.Xe,.Xe,.Xe,.Xe]=some (.nx [.val (bY ns),.val (.int a),.val (.list (rows.map cS)),.own [],.Xe,.Xe,.Xe,.Xe,.Xe]):=by
  simp?[aU,oR,bZ,ag,zA,ju,zB,yX,yW]
 have h2:dC [2] (bQ (aa (ae 2) ag)) (fj 4 5) rB [.val (bY ns),.val (.int a),.val (.list (rows.map cS)),.own [],.Xe,.Xe,.Xe,.Xe,.Xe]=some (.nx [.val (bY ns),.val (.int a),.val (.list (rows.map cS)),.own (os.map af),t4,t5,t6,t7,t8]):=by
  have hh:hand [2] 0 [Slot.val (bY ns),.val (.int a),.val (.list (rows.map cS)),.own [],.Xe,.Xe,.Xe,.Xe,.Xe]=[Slot.val (bY ns),.val (.int a),.val (.list (rows.map cS)),.own [],.Xe,.Xe,.Xe,.Xe,.Xe]:=rfl;have hq:bQ (aa (ae 2) ag) (bK [Slot.val (bY ns),.val (.int a),.val (.list (rows.map cS)),.own [],.Xe,.Xe,.Xe,.Xe,.Xe])=some (bP 0 (rows.map cS)):=by
   simp?[bK,zI,yV];simp! [bQ]
  simp?[dC,hh,hq,zA];exact e
 unfold rB oB at h2;simp! [bS,iR,h1,h2]
abbrev Pl:=Int×List Int
abbrev Wy:=Int×Int×Int
def bG(p:Pl):D:=.tuple [.int p.1,af p.2]
def aE(w:Wy):D:=.tuple [.int w.1,.int w.2.1,.int w.2.2]
def aw(G T:List Pl)(W:List Wy):D:=.tuple [.tuple (G.map bG),.tuple (T.map bG),.tuple (W.map aE)]
def Gs(W:List Wy)(i:Int):List Int:=(W.filter λw=>decide (w.1=i)).map λw=>w.2.1
def ofT(W:List Wy)(j:Int):List Int:=(W.filter λw=>decide (w.2.1=j)).map λw=>w.1
abbrev Jl(W:List Wy):Prop:=W.Pairwise λa b=>a.1 < b.1\/(a.1=b.1/\a.2.1 < b.2.1)
structure Wd(G T:List Pl)(W:List Wy):Prop where
 g1:1<=G.length
 g4:G.length<=4
 t1:1<=T.length
 t4:T.length<=4
 ga:∀p∈G,0<=p.1/\p.1<=9
 ta:∀p∈T,0<=p.1/\p.1<=9
 gl:∀ (i:Nat) (p:Pl),G[i]?=some p->p.2.Perm (Gs W i)
 tl:∀ (j:Nat) (p:Pl),T[j]?=some p->p.2.Perm (ofT W j)
 wr:∀w∈W,(0<=w.1/\w.1 < G.length)/\(0<=w.2.1/\w.2.1 < T.length)/\1<=w.2.2/\w.2.2<=9
 wp:Jl W
 wl:W.length<=16
def AD:j∈Gs W i↔[i,j]∈W.map λw=>[w.1,w.2.1]:=by
 simp?[Gs,List.mem_map,List.mem_filter,zJ,vD,and_true];constructor
 ·rintro⟨w,⟨h1,h2⟩,h3⟩;exact⟨w,h1,h2,h3⟩
 ·rintro⟨w,h1,h2,h3⟩;exact⟨w,⟨h1,h2⟩,h3⟩
def AQ:i∈ofT W j↔[i,j]∈W.map λw=>[w.1,w.2.1]:=by
 simp?[ofT,List.mem_map,List.mem_filter,zJ,vD,and_true];constructor
 ·rintro⟨w,⟨h1,h2⟩,h3⟩;exact⟨w,h1,h3,h2⟩
 ·rintro⟨w,h1,h2,h3⟩;exact⟨w,⟨h1,h3⟩,h2⟩
def pL(h:Jl W)(i:Int):(Gs W i).Nodup:=by
 unfold Gs List.Nodup;rw[jF,List.pairwise_filter];refine h.imp λYv ha hb=>?_;rw[zJ] at ha hb;lia
def qv(h:Jl W)(i:Int):(ofT W i).Nodup:=by
 unfold ofT List.Nodup;rw[jF,List.pairwise_filter];refine h.imp λYv ha hb=>?_;rw[zJ] at ha hb;lia
def gV(p:Pl):l9 (bG p)=p.2:=by
 show ((p.2.map PyData.int).map iY)=p.2;rw[zM];exact List.map_id _
def rq(ha:0<=p.1/\p.1<=9)(hn:p.2.Nodup)(hr:∀j∈p.2,0<=j/\j < n):placeOk n (bG p)=true:=by
 have e:(p.2.map PyData.int).map iY=p.2:=gV p;have e2:(p.2.map PyData.int).all (whole 0 (n - 1))=true:=by
  rw[xH];intro x hx;let⟨j,hj,rfl⟩:=List.mem_map.mp hx;have:=hr j hj;simp?[whole,zF,zJ];lia
 simp?[placeOk,bG,af,zL,xM,wU,wV,j1,whole,e,e2,ha.1,ha.2,hn,jR,Bool.and_self]
def HK(h:(0<=w.1/\w.1 < g)/\(0<=w.2.1/\w.2.1 < t)/\1<=w.2.2/\w.2.2<=9):lr g t (aE w)=true:=by
 let⟨⟨a,b⟩,⟨c,d⟩,e,f⟩:=h;have b':w.1<=g - 1:=by lia
 have d':w.2.1<=t - 1:=by lia
 simp?[lr,aE,zL,xM,wU,wV,whole,a,b',c,d',e,f,jR,Bool.and_self]
def V5(h:a < c\/(a=c/\b < d)):Dl.lexLt [a,b] [c,d]=true:=by
 show HT.lexLt [a,b] [c,d]=true;rw[HT.fF];by_cases e:a=c
 ·rw[yM e,HT.fF,yO (by lia)];simp?[zJ];lia
 ·rw[yO e];simp?[zJ];lia
def Wd.ac8(h:Wd G T W)(hp:p∈G):∃i:Nat,i < G.length/\p.2.Perm (Gs W i):=by
 let⟨i,hi,e⟩:=qS hp;exact⟨i,hi,h.gl i p (by rw[zK hi,e])⟩
def Wd.ac9(h:Wd G T W)(hp:p∈T):∃i:Nat,i < T.length/\p.2.Perm (ofT W i):=by
 let⟨i,hi,e⟩:=qS hp;exact⟨i,hi,h.tl i p (by rw[zK hi,e])⟩
def Wd.gok(h:Wd G T W):(G.map bG).all (placeOk T.length)=true:=by
 rw[xH];intro x hx;let⟨p,hp,rfl⟩:=List.mem_map.mp hx;let⟨i,hi,q⟩:=h.ac8 hp;refine rq (h.ga p hp) (q.nodup_iff.mpr (pL h.wp _)) λj hj=>?_;let⟨w,hw,e⟩:=List.mem_map.mp (AD.mp (q.mem_iff.mp hj));injection e with e1 e2
 injection e2 with e2 _
 have:=(h.wr w hw).2.1;rw[e2] at this;exact this
def Wd.tok(h:Wd G T W):(T.map bG).all (placeOk G.length)=true:=by
 rw[xH];intro x hx;let⟨p,hp,rfl⟩:=List.mem_map.mp hx;let⟨i,hi,q⟩:=h.ac9 hp;refine rq (h.ta p hp) (q.nodup_iff.mpr (qv h.wp _)) λj hj=>?_;let⟨w,hw,e⟩:=List.mem_map.mp (AQ.mp (q.mem_iff.mp hj));injection e with e1 e2
 have:=(h.wr w hw).1;rw[e1] at this;exact this
def tV{W:List Wy}{p:Wy->Bool}(h:W.length<=16):(W.filter p).length<=16:=yD (xQ _ _) h
def FW(h:p.2.length<=16):cI 16 2 (bG p):=.tup (by simp?[zL,xM];lia) λx hx=>by
 rcases List.mem_cons.mp hx with rfl|hx
 ·exact kf _
 ·rw[yK] at hx;subst hx;exact F1 h
def Oe(w:Wy):cI 16 1 (aE w):=.tup (by simp?[zL,xM];lia) λx hx=>by
 simp?[zQ,yF,xV] at hx;rcases hx with rfl|rfl|rfl<;>exact kf _
def Wd.fit(h:Wd G T W):cI 16 4 (aw G T W):=by
 refine .tup (by simp?[zL,xM];lia) λx hx=>?_;simp?[zQ,yF,xV] at hx;have h4:=h.g4;have h5:=h.t4;have h6:=h.wl;rcases hx with rfl|rfl|rfl
 ·refine .tup (by rw[zD];lia) λx hx=>?_;let⟨p,hp,rfl⟩:=List.mem_map.mp hx;let⟨i,hi,q⟩:=h.ac8 hp;exact FW (by rw[q.length_eq,Gs,zD];exact tV h.wl)
 ·refine .tup (by rw[zD];lia) λx hx=>?_;let⟨p,hp,rfl⟩:=List.mem_map.mp hx;let⟨i,hi,q⟩:=h.ac9 hp;exact FW (by rw[q.length_eq,ofT,zD];exact tV h.wl)
 ·refine .tup (by rw[zD];lia) λx hx=>?_;let⟨p,hp,rfl⟩:=List.mem_map.mp hx;exact (Oe p).mono (yN _) (by decide)
def HE(h0:0<=c)(h9:c<=9):Wd [(c,[0,1]),(c,[1,0])] [(c,[1,0]),(c,[0,1])] [(0,0,2),(0,1,2),(1,0,2),(1,1,2)] where
 g1:=by simp?[zL,xM];lia
 g4:=by simp?[zL,xM];lia
 t1:=by simp?[zL,xM];lia
 t4:=by simp?[zL,xM];lia
 ga:=by intro p hp;simp?[zQ,yF,xV] at hp;rcases hp with rfl|rfl<;>exact⟨h0,h9⟩
 ta:=by intro p hp;simp?[zQ,yF,xV] at hp;rcases hp with rfl|rfl<;>exact⟨h0,h9⟩
 gl:=by
  intro i p hp
  match i,hp with
  | 0,hp=>injection hp with hp;subst hp;exact (show List.Perm ([0,1]:List Int) (Gs [(0,0,2),(0,1,2),(1,0,2),(1,1,2)] ((0:Nat):Int)) by decide)
  | 1,hp=>injection hp with hp;subst hp;exact (show List.Perm ([1,0]:List Int) (Gs [(0,0,2),(0,1,2),(1,0,2),(1,1,2)] ((1:Nat):Int)) by decide)
 tl:=by
  intro i p hp
  match i,hp with
  | 0,hp=>injection hp with hp;subst hp;exact (show List.Perm ([1,0]:List Int) (ofT [(0,0,2),(0,1,2),(1,0,2),(1,1,2)] ((0:Nat):Int)) by decide)
  | 1,hp=>injection hp with hp;subst hp;exact (show List.Perm ([0,1]:List Int) (ofT [(0,0,2),(0,1,2),(1,0,2),(1,1,2)] ((1:Nat):Int)) by decide)
 wr:=show ∀w∈([(0,0,2),(0,1,2),(1,0,2),(1,1,2)]:List Wy),(0<=w.1/\w.1 < ((2:Nat):Int))/\(0<=w.2.1/\w.2.1 < ((2:Nat):Int))/\1<=w.2.2/\w.2.2<=9 by decide
 wp:=by decide
 wl:=by decide
def lI(f:Nat->Int):Nat->List (List Int)->List Pl|_,[]=>[]|k,r::rs=>(f k,r)::lI f (k+1) rs
def jq(f:Nat->Int):∀ (rs:List (List Int)) (k:Nat),(lI f k rs).length=rs.length
 | [],k=>rfl
 | r::rs,k=>by rw[lI,zL,zL,jq f rs]
def i8(f:Nat->Int):∀ {rs:List (List Int)}{k i:Nat}{p:Pl},(lI f k rs)[i]?=some p->∃r,rs[i]?=some r/\p=(f (k+i),r)
 | [],k,i,p,h=>by simp[lI] at h
 | r::rs,k,0,p,h=>by simp[lI] at h;exact⟨r,rfl,h.symm⟩
 | r::rs,k,i+1,p,h=>by
  simp?[lI,yZ] at h;let⟨y,h1,h2⟩:=i8 f h;exact⟨y,by simpa using h1,by rw[h2];congr 2;lia⟩
def fJ:∀ {a b:List (List Int)},u9 a b->a.length=b.length
 | [],[],_=>rfl
 | x::a,y::b,h=>by rw[zL,zL,fJ h.2]
 | [],_::_,h=>h.elim
 | _::_,[],h=>h.elim
def pO:∀ {a b:List (List Int)}{i:Nat}{r:List Int},u9 a b->a[i]?=some r->∃s,b[i]?=some s/\r.Perm s
 | [],[],i,r,_,h=>by simp at h
 | x::a,y::b,0,r,h,e=>by
  simp?[xR,yL] at e;subst e;exact⟨y,rfl,h.1⟩
 | x::a,y::b,i+1,r,h,e=>by
  simp?[yZ] at e;let⟨s,h1,h2⟩:=pO h.2 e;exact⟨s,by simpa using h1,h2⟩
 | [],_::_,i,r,h,_=>h.elim
 | _::_,[],i,r,h,_=>h.elim
def mV(W:List Wy)(m:Nat):List (List Int):=(List.range m).map λi=>Gs W ((i:Nat):Int)
def lx(W:List Wy)(m:Nat):List (List Int):=(List.range m).map λi=>ofT W ((i:Nat):Int)
def NV(m1:1<=m)(m4:m<=4)(s1:1<=s)(s4:s<=4)(hf:∀k,0<=f k/\f k<=9)(hg:∀k,0<=g k/\g k<=9)
  (hm:u9 Xr (mV W m)) (hy:u9 XG (lx W s)) (wr:∀w∈W,(0<=w.1/\w.1 < m)/\(0<=w.2.1/\w.2.1 < s)/\1<=w.2.2/\w.2.2<=9) (wp:Jl W) (wl:W.length<=16):Wd (lI f 0 Xr) (lI g 0 XG) W:=by
 have lm:(lI f 0 Xr).length=m:=by rw[jq,fJ hm,mV,zD,zR]
 have ly:(lI g 0 XG).length=s:=by rw[jq,fJ hy,lx,zD,zR]
 have am:∀ {h:Nat->Int}{rs:List (List Int)},(∀k,0<=h k/\h k<=9)->∀p∈lI h 0 rs,0<=p.1/\p.1<=9:=λ{h rs} hh p hp=>by
  let⟨i,hi⟩:=List.mem_iff_getElem?.mp hp;let⟨r,_,rfl⟩:=i8 h hi;exact hh _
 refine⟨by lia,by lia,by lia,by lia,am hf,am hg,λi p hp=>?_,λi p hp=>?_,by rw[lm,ly];exact wr,wp,wl⟩
 ·let⟨r,h1,rfl⟩:=i8 f hp;let⟨t,h2,h3⟩:=pO hm h1;rw[mV,zO] at h2;let⟨k,hk,rfl⟩:=Option.map_eq_some_iff.mp h2;have:k=i:=by
   rw[zT] at hk;let⟨h,e⟩:=hk;rw[List.getElem_range] at e;exact e.symm
  subst this;exact h3
 ·let⟨r,h1,rfl⟩:=i8 g hp;let⟨t,h2,h3⟩:=pO hy h1;rw[lx,zO] at h2;let⟨k,hk,rfl⟩:=Option.map_eq_some_iff.mp h2;have:k=i:=by
   rw[zT] at hk;let⟨h,e⟩:=hk;rw[List.getElem_range] at e;exact e.symm
  subst this;exact h3
def di{i:Nat}{fz:List Nat}{f:Dl.Env->Option D}{ρ ρ':au}{d:D}(hf:f (aJ ρ)=some d)(hs:Dl.oW d=false)(hh:hand fz 0 ρ=ρ')(hv:bK ρ'=aJ ρ)(hr:gF d=false\/ρ'=ρ:=by first|exact .inr rfl|exact .inl rfl):Dl.aD i fz f ρ=some (.nx (ρ'.set i (.val d))):=by
 rcases hr with hr|hr
 ·simp?[Dl.aD,hf,zA,hs,yP,qQ,hh,hv,zB,hr]
 ·subst hr;simp?[Dl.aD,hf,zA,hs,yP,qQ,hh,hv,zB,ite_self]
def cn{i:Nat}{fz:List Nat}{f:Dl.Env->Option D}{ρ:au}{d:D}(hf:f (aJ ρ)=some d)(hs:Dl.oW d=true):Dl.aD i fz f ρ=some (.nx (ρ.set i (.val d))):=by
 simp?[Dl.aD,hf,zA,hs,xI]
def PP(w:Wy):av (aE w) (.int 0)=some (.int w.1):=rfl
def Pt(w:Wy):av (aE w) (.int 1)=some (.int w.2.1):=rfl
def ET(a b c:D):small [a,b,c]=some [a,b,c]:=rfl
def Uj{a b s:Int}(hs:s=1\/s=2\/s=3)(h:a < b):a / s < b / s\/(a / s=b / s/\a % s < b % s):=by rcases hs with rfl|rfl|rfl<;>lia
def Sz{k m s:Int}(hs:s=1\/s=2\/s=3)(hm:m=1\/m=2\/m=3)(h0:0<=k)(h:k < m * s):(0<=k / s/\k / s < m)/\0<=k % s/\k % s < s:=by
 rcases hs with rfl|rfl|rfl<;>rcases hm with rfl|rfl|rfl<;>lia
def lB:au->Option Out:=(dZ (gq (fB (f2 v5 (bu bz (aa (ae 7) ag)) (ae 2))) (fB (f2 EV (aj 3 ak (aa (ae 0) (aa (f2 aA (f2 aA (ae 1) (fC (.int 2))) (ae 8)) (aa (fC (.int 4)) ag)))) (fC (.int 0))))) (jc 7 [0,1,6,8] (aH (aa (f2 oi (ae 8) (ae 6)) (aa (f2 mT (ae 8) (ae 6)) (aa (f2 aA (fC (.int 1)) (aj 3 ak (aa (ae 0) (aa (f2 aA (f2 aA (ae 1) (fC (.int 12))) (ae 8)) (aa (fC (.int 2)) ag))))) ag))))) dP)
abbrev st(ns:List Int)(a mo m s:Int)(x4 x7 x8 x9 x10 x11:Slot):au:=[.val (bY ns),.val (.int a),.val (.int mo),.Xe,x4,.val (.int m),.val (.int s),x7,x8,x9,x10,x11]
def OX(ns:List Int)(a mo s k:Int)(W:List Wy):List Wy:=if (W.length:Int) < mo/\0 < dr ns (a+2+k) 4 then W++[(k / s,k % s,1+dr ns (a+12+k) 2)] else W
def Qz{ns:List Int}{a mo m s k:Int}{W:List Wy}(hl:ns.length<=63)(hs:s=1\/s=2\/s=3)(hw:W.length<=9) :
  lB (st ns a mo m s .Xe (.own (W.map aE)) (.val (.int k)) .Xe .Xe .Xe)=some (.nx (st ns a mo m s .Xe (.own ((OX ns a mo s k W).map aE)) (.val (.int k)) .Xe .Xe .Xe)):=by
 have hs0:0 < s:=by lia
 have hz:W.length < sizeLine:=jA hw (by decide);have hd:Dl.oi (.int k) (.int s)=some (.int (k / s)):=lO ⟨hs0,by lia⟩;have hm:Dl.mT (.int k) (.int s)=some (.int (k % s)):=jo hs0;have e4:=o5 (ns:=ns) (a+2+k) 4 hl (by decide);have e2:=o5 (ns:=ns) (a+12+k) 2 hl (by decide);have hh:hand [0,1,6,8] 0 (st ns a mo m s .Xe (.own (W.map aE)) (.val (.int k)) .Xe .Xe .Xe)=st ns a mo m s .Xe (.own (W.map aE)) (.val (.int k)) .Xe .Xe .Xe:=rfl;have ha:jc 7 [0,1,6,8] (aH (aa (f2 oi (ae 8) (ae 6)) (aa (f2 mT (ae 8) (ae 6)) (aa (f2 aA (fC (.int 1)) (aj 3 ak (aa (ae 0) (aa (f2 aA (f2 aA (ae 1) (fC (.int 12))) (ae 8)) (aa (fC (.int 2)) ag))))) ag)))) (st ns a mo m s .Xe (.own (W.map aE)) (.val (.int k)) .Xe .Xe .Xe)=some (.nx (st ns a mo m s .Xe (.own ((W++[(k / s,k % s,1+dr ns (a+12+k) 2)]).map aE)) (.val (.int k)) .Xe .Xe .Xe)):=by
  simp?[jc,mZ,hh,bK,zI,yV];simp! [Dt,yP,sD,hd,hm,e2,ET,zD,hz,yX,yW,jB];rfl
 by_cases c1:(W.length:Int) < mo
 ·by_cases c2:0 < dr ns (a+2+k) 4
  ·rw[show OX ns a mo s k W=W++[(k / s,k % s,1+dr ns (a+12+k) 2)] from yM ⟨c1,c2⟩,<- ha];simp! [lB,kr,fg,zD,c1,c2,jR,iJ,e4]
  ·rw[show OX ns a mo s k W=W from yO λh=>c2 h.2];simp! [lB,kr,fg,zD,c1,c2,jR,Zh,iJ,e4,yP]
 ·rw[show OX ns a mo s k W=W from yO λh=>c1 h.1];simp! [lB,kr,fg,zD,c1,Zh,iJ,yP]
structure IJ(mo s k:Int)(W:List Wy):Prop where
 mem:∀w∈W,∃j:Int,0<=j/\j < k/\w.1=j / s/\w.2.1=j % s/\1<=w.2.2/\w.2.2<=2
 ris:Jl W
 len:(W.length:Int)<=k
 lem:(W.length:Int)<=mo
def IJ.next{ns:List Int}{a mo s k:Int}{W:List Wy}(hl:ns.length<=63)(hs:s=1\/s=2\/s=3)(hk:0<=k)(h:IJ mo s k W):IJ mo s (k+1) (OX ns a mo s k W):=by
 have old:∀w∈W,∃j:Int,0<=j/\j < k+1/\w.1=j / s/\w.2.1=j % s/\1<=w.2.2/\w.2.2<=2:=λw hw=>by
  let⟨j,a,b,c⟩:=h.mem w hw;exact⟨j,a,by lia,c⟩
 by_cases c:(W.length:Int) < mo/\0 < dr ns (a+2+k) 4
 ·rw[show OX ns a mo s k W=W++[(k / s,k % s,1+dr ns (a+12+k) 2)] from yM c];have g1:=G8 (ns:=ns) (a+12+k) 2 hl (by decide);have g2:=Hf (ns:=ns) (a+12+k) 2 hl (by decide);refine⟨λw hw=>?_,?_,?_,?_⟩
  ·rcases List.mem_append.mp hw with hw|hw
   ·exact old w hw
   ·rw[yK] at hw;subst hw;exact⟨k,hk,by lia,rfl,rfl,by simp only;lia,by simp only;lia⟩
  ·refine List.pairwise_append.mpr ⟨h.ris,vR _ _,λa ha b hb=>?_⟩;rw[yK] at hb;subst hb;let⟨j,_,b,c1,c2,_⟩:=h.mem a ha;rw[c1,c2];exact Uj hs b
  ·have:=h.len;rw[zN,xD];lia
  ·have:=c.1;rw[zN,xD];lia
 ·rw[show OX ns a mo s k W=W from yO c];exact⟨old,h.ris,by have:=h.len;lia,h.lem⟩
def Ka{ns:List Int}{a mo m s:Int}(hl:ns.length<=63)(hs:s=1\/s=2\/s=3):∀ (n k:Nat) {W:List Wy}{x8:Slot},k+n<=9->IJ mo s k W ->
  ∃W' t8,cJ (iZ 8) lB ((List.range' k n).map λi=>PyData.int ((i:Nat):Int)) (st ns a mo m s .Xe (.own (W.map aE)) x8 .Xe .Xe .Xe)=some (.nx (st ns a mo m s .Xe (.own (W'.map aE)) t8 .Xe .Xe .Xe))/\(n=0/\t8=x8\/∃d,t8=.val d)/\IJ mo s ((k+n:Nat):Int) W'
 | 0,k,W,x8,hk,h=>⟨W,x8,rfl,.inl ⟨rfl,rfl⟩,h⟩
 | n+1,k,W,x8,hk,h=>by
  have h':IJ mo s ((k+1:Nat):Int) (OX ns a mo s k W):=by
   have:=h.next (ns:=ns) (a:=a) hl hs (by lia)
   rwa [show ((k:Int)+1)=((k+1:Nat):Int) by lia] at this
  let⟨W',t8,e,q,b⟩:=Ka hl hs n (k+1) (W:=OX ns a mo s k W) (x8:=.val (.int (k:Nat))) (by lia) h';refine⟨W',t8,?_,.inr (q.elim (λz=>⟨_,z.2⟩) id),by rw[show k+(n+1)=k+1+n by lia];exact b⟩;have hsg:∀d,iZ 8 (st ns a mo m s .Xe (.own (W.map aE)) x8 .Xe .Xe .Xe) d=some (st ns a mo m s .Xe (.own (W.map aE)) (.val d) .Xe .Xe .Xe):=λd=>rfl;rw[vP,zI,cJ,hsg,zA,Qz hl hs (by have:=h.len;lia)];exact e
def WD(W:List Wy)(i:Int)(hw:W.length<=20):ax 1 [0] (bI (ae 1)) (fG 0) (fB (f2 bh (f2 av (ae 0) (fC (.int 0))) (ae 1))) (f2 av (ae 0) (fC (.int 1))) [some (.int i),some (.list (W.map aE))]=some ((Gs W i).map PyData.int):=by
 rw[n8 (ds:=W.map aE) (p:=λd=>decide (iY ((dw d).getD 0 .none)=i)) (h:=λd=>(dw d).getD 1 .none) rfl (by rw[zD];lia) (λd hd=>?_) λd hd _=>?_]
 ·rw[kK,zM,Gs,zM];rfl
 ·let⟨w,_,rfl⟩:=List.mem_map.mp hd;simp! [PP,bV,iJ];rfl
 ·let⟨w,_,rfl⟩:=List.mem_map.mp hd;simp! [Pt];rfl
def W2(W:List Wy)(i:Int)(hw:W.length<=20):ax 1 [0] (bI (ae 1)) (fG 0) (fB (f2 bh (f2 av (ae 0) (fC (.int 1))) (ae 1))) (f2 av (ae 0) (fC (.int 0))) [some (.int i),some (.list (W.map aE))]=some ((ofT W i).map PyData.int):=by
 rw[n8 (ds:=W.map aE) (p:=λd=>decide (iY ((dw d).getD 1 .none)=i)) (h:=λd=>(dw d).getD 0 .none) rfl (by rw[zD];lia) (λd hd=>?_) λd hd _=>?_]
 ·rw[kK,zM,ofT,zM];rfl
 ·let⟨w,_,rfl⟩:=List.mem_map.mp hd;simp! [Pt,bV,iJ];rfl
 ·let⟨w,_,rfl⟩:=List.mem_map.mp hd;simp! [PP];rfl
def oZ{m:Nat}(hm:m<=1000):Da ((m:Nat):Int)=true:=by
 unfold Da;rw[zF,zJ,zJ];have h1:(0:Int)<=(m:Int):=Int.natCast_nonneg m;have h2:(m:Int)<=1000:=by lia
 exact⟨jV (by decide) h1,Int.lt_of_le_of_lt h2 (by decide)⟩
def BN{j:Int}(h:Da j=true):nz [.int j]=some ((List.range j.toNat).map λi=>PyData.int ((i:Nat):Int)):=by
 rw[nz,yM h]
def A7{fi:Dl.Env->Option D}{ρ:Dl.Env}(m:Nat)(hm:m<=1000)(h:fi ρ=some (.int (m:Nat))):bj (aa fi ag) ρ=some ((List.range m).map λi=>PyData.int ((i:Nat):Int)):=by
 have e:aa fi ag ρ=some [.int ((m:Nat):Int)]:=by simp?[aa,ag,h,zA,zB]
 have e2:bj (aa fi ag) ρ=(aa fi ag ρ).bind nz:=rfl;rw[e2,e,zA,BN (oZ hm),yG]
def Ot{W:List Wy}{m:Nat}{ρ:Dl.Env}(hw:W.length<=20)(hm:m<=1000)(h5:ae i5 ρ=some (.int (m:Nat)))(h7:(ρ[i7]?).getD none=some (.list (W.map aE))) :
  ax 1 [i7] (bj (aa (ae i5) ag)) (fG 0) (λ_=>some true) (cq (ax 1 [0] YT (fG 0) (fB (f2 bh (f2 av (ae 0) (fC (.int 0))) (ae 1))) (f2 av (ae 0) (fC (.int 1))))) ρ=some ((mV W m).map cS):=by
 rw[bR (h:=λd=>cS (Gs W (iY d))) (A7 m hm h5) (by rw[zD,zR];lia) λd hd=>?_]
 ·rw[mV,zM,zM];rfl
 ·let⟨i,_,rfl⟩:=List.mem_map.mp hd;simp?[zI,yV,h7,cq,WD W _ hw,zB,cS,iY]
def OM{W:List Wy}{m:Nat}{ρ:Dl.Env}(hw:W.length<=20)(hm:m<=1000)(h5:ae i5 ρ=some (.int (m:Nat)))(h7:(ρ[i7]?).getD none=some (.list (W.map aE))) :
  ax 1 [i7] (bj (aa (ae i5) ag)) (fG 0) (λ_=>some true) (cq (ax 1 [0] YT (fG 0) (fB (f2 bh (f2 av (ae 0) (fC (.int 1))) (ae 1))) (f2 av (ae 0) (fC (.int 0))))) ρ=some ((lx W m).map cS):=by
 rw[bR (h:=λd=>cS (ofT W (iY d))) (A7 m hm h5) (by rw[zD,zR];lia) λd hd=>?_]
 ·rw[lx,zM,zM];rfl
 ·let⟨i,_,rfl⟩:=List.mem_map.mp hd;simp?[zI,yV,h7,cq,W2 W _ hw,zB,cS,iY]
def P3(c:Int):Dl.Env->Option D:=(aH (aa (aj 3 ak (aa (ae 2) (aa (f2 aA (f2 aA (ae 3) (fC (.int c))) (ae 0)) (aa (fC (.int 4)) ag)))) (aa (ae 1) ag)))
def SO{ns:List Int}{a:Int}(c:Int)(hl:ns.length<=63):∀ (Xr:List (List Int)) (k:Nat),et (gE 0 1) (λ_=>some true) (P3 c) [none,none,some (bY ns),some (.int a)] (bP k (Xr.map af))=some ((lI (λk=>dr ns (a+c+((k:Nat):Int)) 4) k Xr).map bG)
 | [],k=>rfl
 | r::Xr,k=>by
  have hg:gE 0 1 [none,none,some (bY ns),some (.int a)] (.tuple [.int ((k:Nat):Int),af r])=some [some (.int ((k:Nat):Int)),some (af r),some (bY ns),some (.int a)]:=rfl;have he:P3 c [some (.int ((k:Nat):Int)),some (af r),some (bY ns),some (.int a)]=some (bG (dr ns (a+c+((k:Nat):Int)) 4,r)):=by
   simp! [P3,o5 (ns:=ns) (a+c+((k:Nat):Int)) 4 hl (by decide),Fd,bG]
  have ih:=SO (a:=a) c hl Xr (k+1);rw[zI,bP,et,hg];simp?[zA,xI,he,ih,zB,lI,zI]
def mz:∀ (ds:List D) (k:Nat),(bP k ds).length=ds.length
 | [],k=>rfl
 | d::ds,k=>by rw[bP,zL,zL,mz ds]
def Cd{ns:List Int}{a c:Int}{i9:Nat}{ρ:Dl.Env}{Xr:List (List Int)}(hl:ns.length<=63)(hm:Xr.length<=1000)(h9:ae i9 ρ=some (.list (Xr.map af)))(h0:(ρ[0]?).getD none=some (bY ns))(h1:(ρ[1]?).getD none=some (.int a)) :
  bu b8 (aa (cq (ax 2 [0,1] (bQ (aa (ae i9) ag)) (gE 0 1) (λ_=>some true) (P3 c))) ag) ρ=some (.tuple ((lI (λk=>dr ns (a+c+((k:Nat):Int)) 4) 0 Xr).map bG)):=by
 have hi:bQ (aa (ae i9) ag) ρ=some (bP 0 (Xr.map af)):=by
  simp?[bQ,aa,ag,h9,zA,zB,fy,oneOf,hJ]
 have hc:ax 2 [0,1] (bQ (aa (ae i9) ag)) (gE 0 1) (λ_=>some true) (P3 c) ρ=some ((lI (λk=>dr ns (a+c+((k:Nat):Int)) 4) 0 Xr).map bG):=by
  simp?[ax,hi,zA,gH,zI,yV,h0,h1,List.replicate,xG,xP,SO c hl];exact bE (by rw[zD,jq];lia)
 simp?[bu,aa,ag,cq,hc,zB,zA,b8,fy,oneOf,hJ]
def ai{g1 g2:au->Option Out}{ρ ρ':au}(h:g1 ρ=some (.nx ρ')):ar g1 g2 ρ=g2 ρ':=by
 simp?[ar,h,zA]
def aB{g:au->Option Out}{n:Nat}{args:List D}{d:D}(h:g (args.map Slot.val++List.replicate (n - args.length) .Xe)=some (.rt d)):bf g n args=some d:=by
 simp?[bf,h,zB]
def js{g:D->D->Option D}{fa fb:Dl.Env->Option D}{ρ:Dl.Env}{a b:D}(ha:fa ρ=some a)(hb:fb ρ=some b):f2 g fa fb ρ=g a b:=by
 simp?[f2,ha,hb,zA]
def Qq{ns:List Int}{a mo:Int}{m s:Nat}(m1:m<=3)(s1:s<=3):f2 dH (ae 5) (ae 6) (bK (st ns a mo m s .Xe (.own []) .Xe .Xe .Xe .Xe))=some (.int ((m * s:Nat):Int)):=by
 have h:Dl.dH (.int (m:Int)) (.int (s:Int))=some (.int ((m:Int) * (s:Int))):=e9 (nB (by lia));rw[js (a:=.int (m:Int)) (b:=.int (s:Int)) rfl rfl,h,Int.natCast_mul]
def Sn{ns:List Int}{a mo:Int}{m s:Nat}(m1:m<=3)(s1:s<=3)(hms:m * s<=9){W:List Wy}{t8:Slot}(e: cJ (iZ 8) lB ((List.range' 0 (m * s)).map λi=>PyData.int ((i:Nat):Int)) (st ns a mo m s .Xe (.own (([]:List Wy).map aE)) .Xe .Xe .Xe .Xe)=some (.nx (st ns a mo m s .Xe (.own (W.map aE)) t8 .Xe .Xe .Xe))):dC [5,6] (bj (aa (f2 dH (ae 5) (ae 6)) ag)) (iZ 8) lB (st ns a mo m s .Xe (.own []) .Xe .Xe .Xe .Xe)=some (.nx (st ns a mo m s .Xe (.own (W.map aE)) t8 .Xe .Xe .Xe)):=by
 have hh:hand [5,6] 0 (st ns a mo m s .Xe (.own []) .Xe .Xe .Xe .Xe)=st ns a mo m s .Xe (.own []) .Xe .Xe .Xe .Xe:=rfl;have hr:=A7 (fi:=f2 dH (ae 5) (ae 6)) (ρ:=bK (st ns a mo m s .Xe (.own []) .Xe .Xe .Xe .Xe)) (m * s) (by lia) (Qq m1 s1);rw[yH] at hr;rw[yV] at e;simp?[dC,hh,hr,zA];exact e
structure Vo(mo:Int)(G T:List Pl)(W:List Wy):Prop where
 g3:G.length<=3
 t3:T.length<=3
 w2:∀w∈W,w.2.2<=2
 ga:∀p∈G,p.1<=3
 ta:∀p∈T,p.1<=3
 wm:(W.length:Int)<=mo
def Bb{ns:List Int}{a mo:Int}(hl:ns.length<=63)(hmo:3 < mo)(c:dr ns (a+64) 4=0):∃G T W,cU [bY ns,.int a,.int mo]=some (aw G T W)/\Wd G T W/\Vo mo G T W:=by
 have e64:=o5 (ns:=ns) (a+64) 4 hl (by decide);have e65:=dU (ns:=ns) (a+65) 2 hl (by decide);refine⟨_,_,_,?_,HE (c:=1+dr ns (a+65) 2) (by lia) (by lia),⟨by simp,by simp,by decide,λp hp=>?_,λp hp=>?_,by simp;lia⟩⟩;rotate_left
 ·simp?[zQ,yF,xV] at hp;rcases hp with rfl|rfl<;>(simp only;lia)
 ·simp?[zQ,yF,xV] at hp;rcases hp with rfl|rfl<;>(simp only;lia)
 have s1:Dl.aD 3 [0,1] (f2 aA (fC (.int 1)) (aj 3 ak (aa (ae 0) (aa (f2 aA (ae 1) (fC (.int 65))) (aa (fC (.int 2)) ag))))) [.val (bY ns),.val (.int a),.val (.int mo),.Xe,.Xe,.Xe,.Xe,.Xe,.Xe,.Xe,.Xe,.Xe]=some (.nx [.val (bY ns),.val (.int a),.val (.int mo),.val (.int (1+dr ns (a+65) 2)),.Xe,.Xe,.Xe,.Xe,.Xe,.Xe,.Xe,.Xe]) :=
  cn (d:=.int (1+dr ns (a+65) 2)) (by simp! [e65.1]) rfl
 generalize 1+dr ns (a+65) 2=x at *;have s2:Dl.aD 4 [3] (aH (aa (aH (aa (ae 3) (aa (aH (aa (fC (.int 1)) (aa (fC (.int 0)) ag))) ag))) (aa (aH (aa (ae 3) (aa (aH (aa (fC (.int 0)) (aa (fC (.int 1)) ag))) ag))) ag))) [.val (bY ns),.val (.int a),.val (.int mo),.val (.int x),.Xe,.Xe,.Xe,.Xe,.Xe,.Xe,.Xe,.Xe]=some (.nx [.val (bY ns),.val (.int a),.val (.int mo),.val (.int x),.val (.tuple [bG (x,[1,0]),bG (x,[0,1])]),.Xe,.Xe,.Xe,.Xe,.Xe,.Xe,.Xe]) :=
  di (d:=.tuple [bG (x,[1,0]),bG (x,[0,1])]) (by simp! [Fd];rfl) rfl rfl rfl
 simp! [cU,eX,fg,e64,c,bV,jR,iJ,show decide ((3:Int) < mo)=true from yA hmo,s1,s2,Fd,ET,show ∀a b c d:D,small [a,b,c,d]=some [a,b,c,d] fromλ_ _ _ _=>rfl];rfl
def Be{ns:List Int}{a mo:Int}(hl:ns.length<=63)(hm0:0<=mo)(c:¬ (3 < mo/\dr ns (a+64) 4=0)):∃G T W,cU [bY ns,.int a,.int mo]=some (aw G T W)/\Wd G T W/\Vo mo G T W:=by
 have e64:=o5 (ns:=ns) (a+64) 4 hl (by decide);have em:=dU (ns:=ns) a 3 hl (by decide);have es:=dU (ns:=ns) (a+1) 3 hl (by decide);let⟨m,hm⟩:=vS (show 0<=1+dr ns a 3 by lia);let⟨s,hs⟩:=vS (show 0<=1+dr ns (a+1) 3 by lia);have m1:1<=m/\m<=3:=by lia
 have s1:1<=s/\s<=3:=by lia
 have Yp:(s:Int)=1\/(s:Int)=2\/(s:Int)=3:=by lia
 have YC:(m:Int)=1\/(m:Int)=2\/(m:Int)=3:=by lia
 have t5:Dl.aD 5 [0,1] (f2 aA (fC (.int 1)) (aj 3 ak (aa (ae 0) (aa (ae 1) (aa (fC (.int 3)) ag))))) [.val (bY ns),.val (.int a),.val (.int mo),.Xe,.Xe,.Xe,.Xe,.Xe,.Xe,.Xe,.Xe,.Xe]=some (.nx [.val (bY ns),.val (.int a),.val (.int mo),.Xe,.Xe,.val (.int (m:Nat)),.Xe,.Xe,.Xe,.Xe,.Xe,.Xe]) :=
  cn (d:=.int (m:Nat)) (by simp! [em.1,hm]) rfl
 have t6:Dl.aD 6 [0,1] (f2 aA (fC (.int 1)) (aj 3 ak (aa (ae 0) (aa (f2 aA (ae 1) (fC (.int 1))) (aa (fC (.int 3)) ag))))) [.val (bY ns),.val (.int a),.val (.int mo),.Xe,.Xe,.val (.int (m:Nat)),.Xe,.Xe,.Xe,.Xe,.Xe,.Xe]=some (.nx (st ns a mo m s .Xe .Xe .Xe .Xe .Xe .Xe)) :=
  cn (d:=.int (s:Nat)) (by simp! [es.1,hs]) rfl
 have t7:aU 7 [] (bZ ag) (st ns a mo m s .Xe .Xe .Xe .Xe .Xe .Xe)=some (.nx (st ns a mo m s .Xe (.own []) .Xe .Xe .Xe .Xe)):=by
  simp?[aU,oR,bZ,ag,zA,ju,zB,yX,yW]
 have hms:m * s<=9:=wL m1.2 s1.2;have aoM:1<=m * s:=wL m1.1 s1.1;let⟨W,t8,e,h8,I⟩:=Ka (ns:=ns) (a:=a) (m:=m) (s:=s) hl Yp (m * s) 0 (W:=[]) (x8:=.Xe) (by lia) (mo:=mo) ⟨λw hw=>(by cases hw),List.Pairwise.nil,by decide,hm0⟩;rw[jE] at I;obtain⟨d8,rfl⟩:∃d,t8=.val d:=h8.elim (λz=>by lia) id;have alW:W.length<=9:=by have:=I.len;lia
 have tf:=Sn m1.2 s1.2 hms e;unfold lB at tf;have hwl:W.length<=20:=by lia
 have wr:∀w∈W,(0<=w.1/\w.1 < m)/\(0<=w.2.1/\w.2.1 < s)/\1<=w.2.2/\w.2.2<=9:=λw hw=>by
  let⟨j,j0,jk,ea,b,c1,c2⟩:=I.mem w hw;have:=Sz Yp YC j0 (by rw[<- Int.natCast_mul];exact jk);rw[ea,b];exact⟨this.1,this.2,c1,by lia⟩
 have akV:∀r∈mV W m,r.length<=1000:=λr hr=>by
  let⟨i,_,rfl⟩:=List.mem_map.mp hr;rw[Gs,zD];exact yD (xQ _ _) (by lia)
 have akW:∀r∈lx W s,r.length<=1000:=λr hr=>by
  let⟨i,_,rfl⟩:=List.mem_map.mp hr;rw[ofT,zD];exact yD (xQ _ _) (by lia)
 let⟨Xr,om,pm⟩:=Df (ns:=ns) (a:=a+24) (rows:=mV W m) hl akV (by rw[mV,zD,zR];lia);let⟨XG,oy,py⟩:=Df (ns:=ns) (a:=a+40) (rows:=lx W s) hl akW (by rw[lx,zD,zR];lia);have lm:Xr.length<=1000:=by rw[fJ pm,mV,zD,zR];lia
 have ly:XG.length<=1000:=by rw[fJ py,lx,zD,zR];lia
 have t9:Dl.aD 9 [0,1,5,7] (aj 3 bS (aa (ae 0) (aa (f2 aA (ae 1) (fC (.int 24))) (aa (cq (ax 1 [7] (bj (aa (ae 5) ag)) (fG 0) (λ_=>some true) (cq (ax 1 [0] (bI (ae 1)) (fG 0) (fB (f2 bh (f2 av (ae 0) (fC (.int 0))) (ae 1))) (f2 av (ae 0) (fC (.int 1))))))) ag)))) (st ns a mo m s .Xe (.own (W.map aE)) (.val d8) .Xe .Xe .Xe)=some (.nx (st ns a mo m s .Xe (.val (.list (W.map aE))) (.val d8) (.val (.list (Xr.map af))) .Xe .Xe)):=by
  refine (di (ρ':=st ns a mo m s .Xe (.val (.list (W.map aE))) (.val d8) .Xe .Xe .Xe) (d:=.list (Xr.map af)) ?_ rfl rfl ?_).trans rfl
  ·have q:=Ot (ρ:=aJ (st ns a mo m s .Xe (.own (W.map aE)) (.val d8) .Xe .Xe .Xe)) (i5:=5) (i7:=7) hwl (show m<=1000 by lia) rfl rfl;simp?[aj,aa,ag,cq,q,zB,zA];simp! [om]
  ·simp?[st,bK,aJ,zI,yV];rfl
 have t10:Dl.aD 10 [0,1,6,7] (aj 3 bS (aa (ae 0) (aa (f2 aA (ae 1) (fC (.int 40))) (aa (cq (ax 1 [7] (bj (aa (ae 6) ag)) (fG 0) (λ_=>some true) (cq (ax 1 [0] (bI (ae 1)) (fG 0) (fB (f2 bh (f2 av (ae 0) (fC (.int 1))) (ae 1))) (f2 av (ae 0) (fC (.int 0))))))) ag)))) (st ns a mo m s .Xe (.val (.list (W.map aE))) (.val d8) (.val (.list (Xr.map af))) .Xe .Xe)=some (.nx (st ns a mo m s .Xe (.val (.list (W.map aE))) (.val d8) (.val (.list (Xr.map af))) (.val (.list (XG.map af))) .Xe)):=by
  refine (di (ρ':=st ns a mo m s .Xe (.val (.list (W.map aE))) (.val d8) (.val (.list (Xr.map af))) .Xe .Xe) (d:=.list (XG.map af)) ?_ rfl ?_ ?_).trans rfl
  ·have q:=OM (ρ:=aJ (st ns a mo m s .Xe (.val (.list (W.map aE))) (.val d8) (.val (.list (Xr.map af))) .Xe .Xe)) (i5:=6) (i7:=7) hwl (show s<=1000 by lia) rfl rfl;simp?[aj,aa,ag,cq,q,zB,zA];simp! [oy]
  ·rfl
  ·simp?[st,bK,aJ,zI,yV];rfl
 have t11:Dl.aD 11 [0,1,8,9] (bu b8 (aa (cq (ax 2 [0,1] (bQ (aa (ae 9) ag)) (gE 0 1) (λ_=>some true) (P3 56))) ag)) (st ns a mo m s .Xe (.val (.list (W.map aE))) (.val d8) (.val (.list (Xr.map af))) (.val (.list (XG.map af))) .Xe)=some (.nx (st ns a mo m s .Xe (.val (.list (W.map aE))) (.val d8) (.val (.list (Xr.map af))) (.val (.list (XG.map af))) (.val (.tuple ((lI (λk=>dr ns (a+56+((k:Nat):Int)) 4) 0 Xr).map bG))))):=by
  refine (di (ρ':=st ns a mo m s .Xe (.val (.list (W.map aE))) (.val d8) (.val (.list (Xr.map af))) (.val (.list (XG.map af))) .Xe) (Cd hl lm rfl rfl rfl) rfl rfl ?_).trans rfl;simp?[st,bK,aJ,zI,yV];rfl
 have t4:∀G:D,Dl.aD 4 [0,1,8,10] (bu b8 (aa (cq (ax 2 [0,1] (bQ (aa (ae 10) ag)) (gE 0 1) (λ_=>some true) (P3 60))) ag)) (st ns a mo m s .Xe (.val (.list (W.map aE))) (.val d8) (.val (.list (Xr.map af))) (.val (.list (XG.map af))) (.val G))=some (.nx (st ns a mo m s (.val (.tuple ((lI (λk=>dr ns (a+60+((k:Nat):Int)) 4) 0 XG).map bG))) (.val (.list (W.map aE))) (.val d8) (.val (.list (Xr.map af))) (.val (.list (XG.map af))) (.val G))):=λG=>by
  refine (di (ρ':=st ns a mo m s .Xe (.val (.list (W.map aE))) (.val d8) (.val (.list (Xr.map af))) (.val (.list (XG.map af))) (.val G)) (Cd hl ly rfl rfl rfl) rfl rfl ?_).trans rfl;simp?[st,bK,aJ,zI,yV];rfl
 refine⟨_,_,W,?_,NV (f:=λk=>dr ns (a+56+((k:Nat):Int)) 4) (g:=λk=>dr ns (a+60+((k:Nat):Int)) 4) m1.1 (by lia) s1.1 (by lia) (λk=>?_) (λk=>?_) pm py wr I.ris (by lia),⟨by rw[jq,fJ pm,mV,zD,zR];lia,by rw[jq,fJ py,lx,zD,zR];lia,λw hw=>(by let⟨j,_,_,_,_,_,z⟩:=I.mem w hw;exact z),λp hp=>?_,λp hp=>?_,I.lem⟩⟩
 ·unfold P3 at t11 t4;have tA:∀g,dZ (gq (fB (f2 EV (ae 2) (fC (.int 3)))) (fB (f2 bh (aj 3 ak (aa (ae 0) (aa (f2 aA (ae 1) (fC (.int 64))) (aa (fC (.int 4)) ag)))) (fC (.int 0))))) g dP [.val (bY ns),.val (.int a),.val (.int mo),.Xe,.Xe,.Xe,.Xe,.Xe,.Xe,.Xe,.Xe,.Xe]=some (.nx [.val (bY ns),.val (.int a),.val (.int mo),.Xe,.Xe,.Xe,.Xe,.Xe,.Xe,.Xe,.Xe,.Xe]):=λg=>by
   by_cases c1:3 < mo
   ·have c2:¬ dr ns (a+64) 4=0:=λz=>c ⟨c1,z⟩;simp! [fg,e64,c1,c2,bV,Zh,jR,iJ,yP]
   ·simp! [fg,c1,Zh,iJ,yP]
  refine aB ?_;show eX [.val (bY ns),.val (.int a),.val (.int mo),.Xe,.Xe,.Xe,.Xe,.Xe,.Xe,.Xe,.Xe,.Xe]=_;unfold eX;rw[ai (tA _),ai t5,ai t6,ai t7,ai tf,ai t9,ai t10,ai t11,ai (t4 _)];simp! [ET,aw]
 ·have q:=dU (ns:=ns) (a+56+((k:Nat):Int)) 4 hl (by decide);exact⟨q.2.1,by lia⟩
 ·have q:=dU (ns:=ns) (a+60+((k:Nat):Int)) 4 hl (by decide);exact⟨q.2.1,by lia⟩
 ·let⟨i,hi⟩:=List.getElem?_of_mem hp;let⟨r,_,rfl⟩:=i8 _ hi;have q:=dU (ns:=ns) (a+56+((0+i:Nat):Int)) 4 hl (by decide);simp only;lia
 ·let⟨i,hi⟩:=List.getElem?_of_mem hp;let⟨r,_,rfl⟩:=i8 _ hi;have q:=dU (ns:=ns) (a+60+((0+i:Nat):Int)) 4 hl (by decide);simp only;lia
def CG{ns:List Int}{a mo:Int}(hl:ns.length<=63)(hm0:0<=mo):∃G T W,cU [bY ns,.int a,.int mo]=some (aw G T W)/\Wd G T W/\Vo mo G T W:=by
 by_cases c:3 < mo/\dr ns (a+64) 4=0
 ·exact Bb hl c.1 c.2
 ·exact Be hl hm0 c
def P2(h:Jl W):(W.map λw=>[w.1,w.2.1]).Pairwise λa b=>Dl.lexLt a b=true:=List.pairwise_map.mpr (h.imp λYv=>V5 Yv)
def LO(h:Jl W):(W.map λw=>[w.1,w.2.1]).Nodup:=(P2 h).imp λ{a b} Yv e=>by
 rw[e,ie] at Yv;cases Yv
def LP(h:Jl W)(hn:m.Nodup)(hm:∀r,r∈W.map (λw=>[w.1,w.2.1])↔r∈m):W.map (λw=>[w.1,w.2.1])=vc m :=
 Lm ((List.perm_ext_iff_of_nodup (LO h) hn).mpr hm) ((P2 h).imp λYv=>TK Yv)
def Wd.wok(h:Wd G T W):UU (aw G T W)=true:=by
 have hP:(W.map aE).map gG=W.map λw=>[w.1,w.2.1]:=by rw[zM];rfl
 have hpg:∀i j:Int,[i,j]∈W.map (λw=>[w.1,w.2.1])↔[i,j]∈n5 0 (G.map bG):=λi j=>by
  rw[tj];constructor
  ·intro hm;let⟨w,hw,e⟩:=List.mem_map.mp hm;simp?[vD,and_true] at e;have hr:=(h.wr w hw).1;obtain⟨p,hp⟩:∃p,G[i.toNat]?=some p:=⟨G[i.toNat]'(by lia),zK (by lia)⟩
   refine⟨i.toNat,bG p,by rw[zO,hp];rfl,by lia,?_⟩;rw[gV,(h.gl _ p hp).mem_iff,AD,show ((i.toNat:Nat):Int)=i by lia];exact hm
  ·rintro⟨m,p,hp,rfl,hj⟩;rw[zO] at hp;let⟨p',hp',rfl⟩:=Option.map_eq_some_iff.mp hp;rw[gV,(h.gl m p' hp').mem_iff,AD] at hj
   rwa [jE]
 have hpt:∀i j:Int,[i,j]∈W.map (λw=>[w.1,w.2.1])↔[j,i]∈n5 0 (T.map bG):=λi j=>by
  rw[tj];constructor
  ·intro hm;let⟨w,hw,e⟩:=List.mem_map.mp hm;simp?[vD,and_true] at e;have hr:=(h.wr w hw).2.1;obtain⟨p,hp⟩:∃p,T[j.toNat]?=some p:=⟨T[j.toNat]'(by lia),zK (by lia)⟩
   refine⟨j.toNat,bG p,by rw[zO,hp];rfl,by lia,?_⟩;rw[gV,(h.tl _ p hp).mem_iff,AQ,show ((j.toNat:Nat):Int)=j by lia];exact hm
  ·rintro⟨m,p,hp,rfl,hj⟩;rw[zO] at hp;let⟨p',hp',rfl⟩:=Option.map_eq_some_iff.mp hp;rw[gV,(h.tl m p' hp').mem_iff,AQ] at hj
   rwa [jE]
 have two:∀ {r:List Int},r∈W.map (λw=>[w.1,w.2.1])->∃i j,r=[i,j]:=λhr=>by
  let⟨w,_,rfl⟩:=List.mem_map.mp hr;exact⟨_,_,rfl⟩
 have ng:∀ (L:List Pl),(∀p∈L,p.2.Nodup)->(n5 0 (L.map bG)).Nodup:=λL hL=>xy λp hp=>by
  let⟨p',hp',rfl⟩:=List.mem_map.mp hp;rw[gV];exact hL p' hp'
 have e1:W.map (λw=>[w.1,w.2.1])=vc (n5 0 (G.map bG)):=LP h.wp (ng G λp hp=>by
   let⟨i,hi,e⟩:=qS hp;exact (h.gl i p (by rw[zK hi,e])).nodup_iff.mpr (pL h.wp i)) λr=>⟨λhr=>by
   let⟨i,j,rfl⟩:=two hr;exact (hpg i j).mp hr,λhr=>by
   let⟨i,j,rfl⟩:=mK r hr;exact (hpg i j).mpr hr⟩
 have e2:W.map (λw=>[w.1,w.2.1])=vc ((n5 0 (T.map bG)).map List.reverse):=LP h.wp (by
   exact List.pairwise_map.mpr (List.Pairwise.imp (λ{a b} XA e=>XA (List.reverse_inj.mp e)) (ng T λp hp=>by
    let⟨i,hi,e⟩:=qS hp;exact (h.tl i p (by rw[zK hi,e])).nodup_iff.mpr (qv h.wp i)))) λr=>⟨λhr=>by
   let⟨i,j,rfl⟩:=two hr;exact List.mem_map.mpr ⟨[j,i],(hpt i j).mp hr,rfl⟩,λhr=>by
   let⟨r',YL,rfl⟩:=List.mem_map.mp hr;let⟨i,j,rfl⟩:=mK r' YL;exact (hpt j i).mpr YL⟩
 have hw:(W.map aE).all (lr G.length T.length)=true:=by
  rw[xH];intro x hx;let⟨w,hw,rfl⟩:=List.mem_map.mp hx;exact HK (h.wr w hw)
 have hs:∀ {L:List Pl},1<=L.length->L.length<=4->pS (.tuple (L.map bG))=true:=λ{L} a b=>by
  simp?[pS,long,zD,zF,zJ];lia
 have h3:long 3 3 (aw G T W)=true:=rfl;have hg:=h.gok;have ht:=h.tok;unfold UU D3;rw[h3,jM];simp?[aw,dw,wU,wV,hP,<- e1,<- e2,jR,Bool.and_true,k8,hs h.g1 h.g4,hs h.t1 h.t4,zD,hg,ht,hw,M1]
def sI(b:Bool):Int:=if b then 1 else 0
def aW(b:Bool)(w:Wy):Int:=if b then w.2.1 else w.1
def dm(b:Bool)(w:Wy):Int:=aW (!b) w
def bC(b:Bool)(G T:List Pl):List Pl:=if b then T else G
def gN(b:Bool)(G T:List Pl)(W:List Wy):av (aw G T W) (.int (sI b))=some (.tuple ((bC b G T).map bG)):=by cases b<;>rfl
def fS(G T:List Pl)(W:List Wy):av (aw G T W) (.int 2)=some (.tuple (W.map aE)):=rfl
def mG(b:Bool)(w:Wy):av (aE w) (.int (sI b))=some (.int (aW b w)):=by cases b<;>rfl
def Hl(b:Bool)(w:Wy):av (aE w) (.int (1 - sI b))=some (.int (dm b w)):=by cases b<;>rfl
def Bm(w:Wy):av (aE w) (.int 2)=some (.int w.2.2):=rfl
def FY(p:Pl):av (bG p) (.int 0)=some (.int p.1):=rfl
def GE(p:Pl):av (bG p) (.int 1)=some (af p.2):=rfl
def uD(h:ds[i]?=some d):av (.tuple ds) (.int ((i:Nat):Int))=some d:=by
 show tY ds (i:Nat)=_;exact A4 h
def QX(h:ds[i]?=some d):av (.list ds) (.int ((i:Nat):Int))=some d:=by
 show tY ds (i:Nat)=_;exact A4 h
def nQ{l:List α}(h:l[i]?=some x):av (.tuple (l.map f)) (.int ((i:Nat):Int))=some (f x):=uD (by rw[zO,h];rfl)
def FG{l:List α}(h:l[i]?=some x):av (.list (l.map f)) (.int ((i:Nat):Int))=some (f x):=QX (by rw[zO,h];rfl)
def UD(b:Bool)(W:List Wy)(p:Int):List Int:=(W.filter λw=>decide (aW b w=p)).map (dm b)
def Wd.lik{G T:List Pl}{W:List Wy}(h:Wd G T W){b:Bool}{i:Nat}{p:Pl}(e:(bC b G T)[i]?=some p):p.2.Perm (UD b W i):=by
 cases b
 ·exact h.gl i p e
 ·exact h.tl i p e
def Wd.nod(h:Wd G T W)(b:Bool)(i:Int):(UD b W i).Nodup:=by
 cases b
 ·exact pL h.wp i
 ·exact qv h.wp i
def uM{tt:Dl.Env->Option Bool}{te:Dl.Env->Option D}{r:List (Option D)}{p:Nat->D->Bool}{h:Nat->D->D}:∀ {ds:List D}{k:Nat},
  (∀i d,ds[i]?=some d->tt (some (.int ((k+i:Nat):Int))::some d::r)=some (p (k+i) d)/\(p (k+i) d=true->te (some (.int ((k+i:Nat):Int))::some d::r)=some (h (k+i) d))) ->
  et (gE 0 1) tt te (none::none::r) (bP k ds)=some (((ds.zipIdx k).filter λq=>p q.2 q.1).map λq=>h q.2 q.1)
 | [],k,_=>rfl
 | d::ds,k,hh=>by
  let⟨h1,h2⟩:=hh 0 d rfl;have ih:=uM (ds:=ds) (k:=k+1) λi x hx=>by
   have:=hh (i+1) x (by simpa using hx);rw[show k+1+i=k+(i+1) by lia];exact this
  have hg:gE 0 1 (none::none::r) (.tuple [.int ((k:Nat):Int),d])=some (some (.int ((k:Nat):Int))::some d::r):=by
   simp?[gE,isFree,xR,yZ,qH,Zb,jQ,xI,yW,yX]
  rw[bP,et,hg,List.zipIdx_cons];simp?[Nat.add_zero] at h1 h2;simp?[zA,h1];cases hp:p k d with
  | true=>simp[h2 hp,ih,hp]
  | false=>simp[ih,hp]
def IX{cs:List Nat}{fi:Dl.Env->Option (List D)}{tt:Dl.Env->Option Bool}{te:Dl.Env->Option D}{ρ:Dl.Env}{ds:List D}{p:Nat->D->Bool}{h:Nat->D->D}(Yw:fi ρ=some (bP 0 ds))(hl:ds.length<=1000)
  (hh:∀i d,ds[i]?=some d->tt (some (.int ((i:Nat):Int))::some d::cs.map λj=>(ρ[j]?).getD none)=some (p i d)/\(p i d=true->te (some (.int ((i:Nat):Int))::some d::cs.map λj=>(ρ[j]?).getD none)=some (h i d))) :
  ax 2 cs fi (gE 0 1) tt te ρ=some ((ds.zipIdx.filter λq=>p q.2 q.1).map λq=>h q.2 q.1):=by
 have:=uM (tt:=tt) (te:=te) (r:=cs.map λj=>(ρ[j]?).getD none) (p:=p) (h:=h) (ds:=ds) (k:=0) (by simpa using hh);simp?[ax,Yw,zA,gH,List.replicate,xG,xP,this];refine bE ?_;rw[zD];refine yD (xQ _ _) ?_;rw[List.length_zipIdx];lia
def nh(f:α->Int):∀ {l m:List α},l.Perm m->(l.Pairwise λa b=>f a<=f b)->(m.Pairwise λa b=>f a < f b)->l=m
 | l,[],hp,_,_=>hp.eq_nil
 | [],x::m,hp,_,_=>absurd hp.symm.eq_nil (by simp)
 | y::l,x::m,hp,h1,h2=>by
  rw[List.pairwise_cons] at h1 h2;have e:y=x:=by
   have hx:x∈y::l:=hp.mem_iff.mpr zE;rcases List.mem_cons.mp hx with z|hx
   ·exact z.symm
   ·have hy:y∈x::m:=hp.mem_iff.mp zE;rcases List.mem_cons.mp hy with z|hy
    ·exact z
    ·have:=h1.1 x hx;have:=h2.1 y hy;lia
  subst e;rw[nh f ((List.perm_cons y).mp hp) h1.2 h2.2]
def E7(z:Nat->Int)(l:List α)(d:α)(f:α->Int)(h:∀i,i < l.length->z i=f (l.getD i d)):(Bz z l d).Pairwise λa b=>f a<=f b:=by
 unfold Bz;split
 ·rename_i hl
  match l,hl with
  | [],_=>exact List.Pairwise.nil
  | [a],_=>exact vR _ _
 ·rename_i hl;let⟨hp,hs⟩:=SP.kn (z:=z) (n:=l.length) (by lia);rw[jF] at hs ⊢;refine hs.imp_of_mem λ{i j} hi hj XB=>?_;have YB:i < l.length:=by have:=hp.mem_iff.mp hi;simpa using this
  have hj':j < l.length:=by have:=hp.mem_iff.mp hj;simpa using this
  rw[<- h i YB,<- h j hj'];exact XB
def aP(W:List Wy)(i:Nat):Wy:=W.getD i (0,0,0)
def nL(hk:k < W.length):W[k]=aP W k:=by simp[aP,hk]
def oU(hk:k < W.length):W[k]?=some (aP W k):=by rw[zK hk,nL hk]
def own(b:Bool)(W:List Wy)(p:Int):List Nat:=(List.range W.length).filter λi=>decide (aW b (aP W i)=p)
def sR(b:Bool)(W:List Wy)(p o:Int):Nat:=W.findIdx λw=>decide (aW b w=p)&&decide (dm b w=o)
def eR(b:Bool)(W:List Wy)(p:Int)(L:List Int):List Nat:=L.map (sR b W p)
def dI:i∈own b W p↔i < W.length/\aW b (aP W i)=p:=by simp[own]
def map_range(d:α)(f:α->β)(l:List α):(List.range l.length).map (λi=>f (l.getD i d))=l.map f:=by
 apply jI
 ·simp
 ·intro i h1 h2;have:i < l.length:=by simpa using h2
  simp[this]
def A5(d:α)(q:α->Bool):∀ (l:List α),((List.range l.length).filter λi=>q (l.getD i d)).map (λi=>l.getD i d)=l.filter q:=by
 intro l;have e:l=(List.range l.length).map λi=>l.getD i d:=by
  have:=map_range d (λx=>x) l;simp at this;simpa using this.symm
 conv=>rhs;rw[e]
 rw[kK];rfl
def Ah(b:Bool)(W:List Wy)(p:Int):(own b W p).map (λi=>dm b (aP W i))=UD b W p:=by
 unfold own UD aP;rw[<- A5 (0,0,0) (λw=>decide (aW b w=p)) W,zM];rfl
def FO(h:Jl W)(hi:i < W.length)(hj:j < W.length)(h1:(aP W i).1=(aP W j).1)(h2:(aP W i).2.1=(aP W j).2.1):i=j:=by
 have e:∀k,k < W.length->W[k]?=some (aP W k):=λk hk=>by simp[aP,hk]
 rcases Nat.lt_trichotomy i j with z|z|z
 ·have:=List.pairwise_iff_getElem.mp h i j hi hj z;have a:=e i hi;have b:=e j hj;rw[zK hi] at a;rw[zK hj] at b;rw[xE a,xE b] at this;rcases this with z|z<;>lia
 ·exact z
 ·have:=List.pairwise_iff_getElem.mp h j i hj hi z;have a:=e i hi;have b:=e j hj;rw[zK hi] at a;rw[zK hj] at b;rw[xE a,xE b] at this;rcases this with z|z<;>lia
def Ds(h:Jl W)(hi:i < W.length)(hj:j < W.length)(h1:aW b (aP W i)=aW b (aP W j))(h2:dm b (aP W i)=dm b (aP W j)):i=j:=by
 cases b
 ·exact FO h hi hj h1 h2
 ·exact FO h hi hj h2 h1
def DV(h:Jl W)(hi:i∈own b W p):sR b W p (dm b (aP W i))=i:=by
 let⟨hl,he⟩:=dI.mp hi;have hw:W[i]=aP W i:=by simp[aP,hl]
 unfold sR;have Xw:W.findIdx (λw=>decide (aW b w=p)&&decide (dm b w=dm b (aP W i))) < W.length:=by
  apply kU;exact⟨W[i],qB _,by rw[hw];simp[he]⟩
 have hq:=List.findIdx_getElem (w:=Xw);rw[zF,zJ,zJ] at hq;rw[nL Xw] at hq;exact Ds h Xw hl (by rw[hq.1,he]) hq.2
def dD{G T:List Pl}{W:List Wy}(h:Wd G T W){b:Bool}{i:Nat}(e:(bC b G T)[i]?=some p):(eR b W i p.2).Perm (own b W i):=by
 have h1:=(h.lik e).map (sR b W i);rw[<- Ah b W i,zM] at h1;have e2:(own b W i).map (sR b W i ∘ λj=>dm b (aP W j))=own b W i:=by
  conv=>rhs;rw[<- List.map_id (own b W i)]
  exact yI λj hj=>DV h.wp hj
 rw[e2] at h1;exact h1
def iC{G T:List Pl}{W:List Wy}(h:Wd G T W){b:Bool}{i:Nat}{p:Pl}(e:(bC b G T)[i]?=some p){o:Int}(ho:o∈p.2):sR b W i o < W.length/\aW b (aP W (sR b W i o))=i/\dm b (aP W (sR b W i o))=o:=by
 have hm:=(h.lik e).mem_iff.mp ho;rw[<- Ah b W i] at hm;let⟨j,hj,rfl⟩:=List.mem_map.mp hm;rw[DV h.wp hj];let⟨h1,h2⟩:=dI.mp hj;exact⟨h1,h2,rfl⟩
def kD(b:Bool)(W:List Wy)(L:List Int)(d:D):Int:=(L.findIdx λo=>decide (o=dm b (aP W (iY d).toNat)):Nat)
def mM:∀ {L:List Int}{x:Int},x∈L->Cb x L=some (L.findIdx λo=>decide (o=x))
 | [],x,h=>by cases h
 | o::L,x,h=>by
  unfold Cb;by_cases e:o=x
  ·simp[e,vL]
  ·rw[yO e];have hx:x∈L:=(List.mem_cons.mp h).resolve_left λz=>e z.symm;rw[mM hx];simp[vL,e]
def MS{G T:List Pl}{W:List Wy}(h:Wd G T W){b:Bool}{i:Nat}{p:Pl}(e:(bC b G T)[i]?=some p)(z:Nat->Int)(hz:∀j,j < (own b W i).length->z j=kD b W p.2 (((own b W i).map λn=>PyData.int ((n:Nat):Int)).getD j .none)) :
  Bz z ((own b W i).map λn=>PyData.int ((n:Nat):Int)) .none=(eR b W i p.2).map λn=>PyData.int ((n:Nat):Int):=by
 refine nh (kD b W p.2) ((n6 _ _ _).trans ((dD h e).symm.map _)) (E7 z _ _ _ λj hj=>hz j (by simpa using hj)) ?_;have hn:p.2.Nodup:=(h.lik e).nodup_iff.mpr (h.nod b i);unfold eR;rw[zM,jF];have key:∀k (hk:k < p.2.length),kD b W p.2 (PyData.int ((sR b W i p.2[k]:Nat):Int))=(k:Nat):=λk hk=>by
  let⟨_,_,e3⟩:=iC h e (qB hk);unfold kD;simp?[iY,yG,e3]
  congr 1
  rw[List.findIdx_eq (by exact hk)];refine⟨by simp,λj hj=>?_⟩;have:=List.pairwise_iff_getElem.mp hn j k (by lia) hk hj;simpa using this
 refine List.pairwise_iff_getElem.mpr λj k hj hk hjk=>?_;show kD b W p.2 (PyData.int ((sR b W i p.2[j]:Nat):Int)) < kD b W p.2 (PyData.int ((sR b W i p.2[k]:Nat):Int));rw[key j hj,key k hk];lia
abbrev nD(n:Nat):D:=.int ((n:Nat):Int)
def yd:∀ {ds:List D},(∀d∈ds,te (ρ.set 0 (some d))=some (h d))->nv te ρ ds=some (ds.map h)
 | [],_=>rfl
 | d::ds,hh=>by
  unfold nv;rw[hh d zE,zA,yd λx hx=>hh x (zC _ hx)];rfl
def An(b:Bool)(W:List Wy)(p:Int):(own b W p).length<=W.length:=by
 unfold own;refine yD (xQ _ _) ?_;rw[zR];exact yN _
def E9(b:Bool)(W:List Wy)(p:Int):(((W.map aE).zipIdx.filter λq=>decide (aW b (aP W q.2)=p)).map λq=>nD q.2)=(own b W p).map nD:=by
 have e:(W.map aE).zipIdx=(List.range W.length).map λi=>(aE (aP W i),i):=by
  apply jI
  ·simp
  ·intro i h1 h2;have:i < W.length:=by simpa using h2
   simp[nL this]
 rw[e,kK,zM];rfl
def yo(h:Wd G T W)(e:(bC b G T)[i]?=some p):fQ [aw G T W,.int (sI b),nD i]=some (.list ((eR b W i p.2).map nD)):=by
 have hw:=h.wl;have ep:av (.tuple ((bC b G T).map bG)) (nD i)=some (bG p):=nQ e;have hl:=An b W i;have t3:Dl.aD 3 [0] (f2 av (ae 0) (fC (.int 2))) [.val (aw G T W),.val (.int (sI b)),.val (nD i),.Xe,.Xe,.Xe]=some (.nx [.val (aw G T W),.val (.int (sI b)),.val (nD i),.val (.tuple (W.map aE)),.Xe,.Xe]) :=
  di (d:=.tuple (W.map aE)) rfl rfl rfl rfl
 have t4:Dl.aD 4 [0,1,2] (f2 av (f2 av (f2 av (ae 0) (ae 1)) (ae 2)) (fC (.int 1))) [.val (aw G T W),.val (.int (sI b)),.val (nD i),.val (.tuple (W.map aE)),.Xe,.Xe]=some (.nx [.val (aw G T W),.val (.int (sI b)),.val (nD i),.val (.tuple (W.map aE)),.val (af p.2),.Xe]):=by
  refine di (d:=af p.2) ?_ rfl rfl rfl;rw[js (a:=bG p) (b:=.int 1) ?_ rfl,GE];rw[js (a:=.tuple ((bC b G T).map bG)) (b:=nD i) ?_ rfl,ep];rw[js (a:=aw G T W) (b:=.int (sI b)) rfl rfl,gN]
 have c5:ax 2 [1,2] (bQ (aa (ae 3) ag)) (gE 0 1) (fB (f2 bh (f2 av (ae 1) (ae 2)) (ae 3))) (ae 0) [some (aw G T W),some (.int (sI b)),some (nD i),some (.tuple (W.map aE)),some (af p.2),none]=some ((own b W i).map nD):=by
  rw[IX (ds:=W.map aE) (p:=λj _=>decide (aW b (aP W j)=i)) (h:=λj _=>nD j) rfl (by rw[zD];lia) λj d hd=>?_,E9];rw[zO] at hd;let⟨w,hw',rfl⟩:=Dl.ah hd;have hj:j < W.length:=(List.getElem?_eq_some_iff.mp hw').1;rw[oU hj] at hw';cases hw';refine⟨?_,λ_=>rfl⟩;show fB (f2 bh (f2 av (ae 1) (ae 2)) (ae 3)) [some (nD j),some (aE (aP W j)),some (.int (sI b)),some (nD i)]=_;simp?[fB];rw[js (a:=.int (aW b (aP W j))) (b:=nD i) (by rw[js (a:=aE (aP W j)) (b:=.int (sI b)) rfl rfl,mG]) rfl,bV];rfl
 have t5:aU 5 [1,2,3] (ax 2 [1,2] (bQ (aa (ae 3) ag)) (gE 0 1) (fB (f2 bh (f2 av (ae 1) (ae 2)) (ae 3))) (ae 0)) [.val (aw G T W),.val (.int (sI b)),.val (nD i),.val (.tuple (W.map aE)),.val (af p.2),.Xe]=some (.nx [.val (aw G T W),.val (.int (sI b)),.val (nD i),.val (.tuple (W.map aE)),.val (af p.2),.own ((own b W i).map nD)]):=by
  have hh:hand [1,2,3] 0 [Slot.val (aw G T W),.val (.int (sI b)),.val (nD i),.val (.tuple (W.map aE)),.val (af p.2),.Xe]=[Slot.val (aw G T W),.val (.int (sI b)),.val (nD i),.val (.tuple (W.map aE)),.val (af p.2),.Xe]:=rfl;simp?[aU,hh,bK,zI,yV,Slot.X3,c5,zB,yX,yW]
 have hk:nv (f2 nU (ae 3) (f2 av (f2 av (ae 2) (ae 0)) (f2 Dl.dy (fC (.int 1)) (ae 1)))) [none,some (.int (sI b)),some (.tuple (W.map aE)),some (af p.2)] ((own b W i).map nD)=some (((own b W i).map nD).map λd=>.int (kD b W p.2 d)):=by
  refine yd λd hd=>?_;let⟨j,hj,rfl⟩:=List.mem_map.mp hd;let⟨hjl,hje⟩:=dI.mp hj;show f2 nU (ae 3) (f2 av (f2 av (ae 2) (ae 0)) (f2 Dl.dy (fC (.int 1)) (ae 1))) [some (nD j),some (.int (sI b)),some (.tuple (W.map aE)),some (af p.2)]=_;have ew:av (.tuple (W.map aE)) (nD j)=some (aE (aP W j)):=nQ (oU hjl);rw[js (a:=af p.2) (b:=.int (dm b (aP W j))) rfl ?_]
  ·have hm:dm b (aP W j)∈p.2:=(h.lik e).mem_iff.mpr (by rw[<- Ah];exact List.mem_map.mpr ⟨j,hj,rfl⟩);simp?[nU,af,cX,zA,mM hm,zB,kD,iY,yG]
   all_goals first|rfl|(congr 3;funext o;congr)
  ·rw[js (a:=aE (aP W j)) (b:=.int (1 - sI b)) ?_ ?_,Hl]
   ·rw[js (a:=.tuple (W.map aE)) (b:=nD j) rfl rfl,ew]
   ·rw[js (a:=.int 1) (b:=.int (sI b)) rfl rfl,tx]
 have hi:intsOf (((own b W i).map nD).map λd=>PyData.int (kD b W p.2 d))=some (((own b W i).map nD).map (kD b W p.2)):=by
  rw[show (((own b W i).map nD).map λd=>PyData.int (kD b W p.2 d))=(((own b W i).map nD).map (kD b W p.2)).map PyData.int by simp?[zM];rfl,cX]
 have t6:aV (cq (qm [1,3,4] (ae 5) (f2 nU (ae 3) (f2 av (f2 av (ae 2) (ae 0)) (f2 Dl.dy (fC (.int 1)) (ae 1)))))) [.val (aw G T W),.val (.int (sI b)),.val (nD i),.val (.tuple (W.map aE)),.val (af p.2),.own ((own b W i).map nD)]=some (.rt (.list ((eR b W i p.2).map nD))):=by
  have es:qm [1,3,4] (ae 5) (f2 nU (ae 3) (f2 av (f2 av (ae 2) (ae 0)) (f2 Dl.dy (fC (.int 1)) (ae 1)))) [some (aw G T W),some (.int (sI b)),some (nD i),some (.tuple (W.map aE)),some (af p.2),some (.list ((own b W i).map nD))]=some ((eR b W i p.2).map nD):=by
   unfold qm;show (nv _ [none,some (.int (sI b)),some (.tuple (W.map aE)),some (af p.2)] ((own b W i).map nD)).bind _=_;rw[hk,zA,hi,zA,yM (by rw[zD];lia),MS h e _ λj hj=>?_];simp[hj]
  simp?[aV,aJ,zI,yV,Ao,Bw,cq,es,zB]
 refine aB ?_;show mn [.val (aw G T W),.val (.int (sI b)),.val (nD i),.Xe,.Xe,.Xe]=_;unfold mn;rw[ai t3,ai t4,ai t5,t6]
local macro_rules|`(tactic| dsimp! [$ts,*])=>`(tactic| simp only[ae,fC,f1,f2,aa,ag,aj,bu,wg,bI,hJ,cq,fB,gB,bJ,gq,iM,bQ,aJ,bK,Ao,Bw,GV,FJ,Gd,G0,zI,yV,xR,yZ,zA,zB,qH,zL,xM,Nat.reduceAdd,jE,reduceIte,yX,yW,$ts,*])
def hU(R:S->au->Prop)(f:α->D)(st:S->α->S):∀ {l:List α}{s:S}{ρ:au},
  (∀s ρ x,x∈l->R s ρ->∃YE YF,tgt ρ (f x)=some YE/\gb YE=some (.nx YF)/\R (st s x) YF)->R s ρ->∃ρ',cJ tgt gb (l.map f) ρ=some (.nx ρ')/\R (l.foldl st s) ρ'
 | [],s,ρ,_,h=>⟨ρ,rfl,h⟩
 | d::ds,s,ρ,hh,h=>by
  let⟨YE,YF,e1,e2,h2⟩:=hh s ρ d zE h;let⟨ρ',e3,h3⟩:=hU R f st (λs ρ x hx=>hh s ρ x (zC _ hx)) h2;refine⟨ρ',?_,h3⟩;rw[zI,cJ,e1,zA,e2];exact e3
def fu(R:au->Prop)(f:α->D)(q:α->Bool)(out:α->D):∀ {l:List α}{ρ:au},
  (∀ρ x,x∈l->R ρ->∃YE,tgt ρ (f x)=some YE/\(q x=true->gb YE=some (.rt (out x)))/\(q x=false->∃YF,gb YE=some (.nx YF)/\R YF))->R ρ ->
  (∀x,l.find? q=some x->cJ tgt gb (l.map f) ρ=some (.rt (out x)))/\(l.find? q=none->∃ρ',cJ tgt gb (l.map f) ρ=some (.nx ρ')/\R ρ')
 | [],ρ,_,h=>⟨λx hx=>(by cases hx),λ_=>⟨ρ,rfl,h⟩⟩
 | x::l,ρ,hh,h=>by
  let⟨YE,e1,e2,e3⟩:=hh ρ x zE h;rw[zI,cJ,e1,zA];cases hq:q x with
  | true =>
   rw[vZ (by simpa using hq),e2 hq];exact⟨λy hy=>(by cases hy;rfl),λhn=>(by cases hn)⟩
  | false =>
   let⟨YF,e4,h2⟩:=e3 hq;rw[kP (by simp[hq]),e4];exact fu R f q out (λρ x hx=>hh ρ x (zC _ hx)) h2
def bc(h:cJ tgt gb ds YE=o)(hi:fi (bK YE)=some ds)(hh:hand fz 0 ρ=YE):dC fz fi tgt gb ρ=o:=by
 simp?[dC,hh,hi,zA,h]
def mH(hh:hand fz 0 ρ=ρ')(hf:f (bK ρ')=some ds):aU i fz f ρ=some (.nx (ρ'.set i (.own ds))):=by
 simp?[aU,hh,hf,zB]
def eI(hf:f (bK ρ)=some ds)(hh:hand fz 0 ρ=ρ):aU i fz f ρ=some (.nx (ρ.set i (.own ds))):=mH hh hf
def uw(hh:hand fz 0 ρ=ρ')(hA:f (aJ ρ)=some d)(hF:f (bK ρ')=some d)(hs:Dl.oW d=false)(hr:gF d=false\/ρ'=ρ:=by first|exact .inr rfl|exact .inl rfl):Dl.aD i fz f ρ=some (.nx (ρ'.set i (.val d))):=by
 rcases hr with hr|hr
 ·simp?[Dl.aD,hA,zA,hs,yP,qQ,hh,hF,zB,hr]
 ·subst hr;simp?[Dl.aD,hA,zA,hs,yP,qQ,hh,hF,zB,ite_self]
def call_of(h:m ds=some d)(hf:fs ρ=some ds)(hn:ds.length=n):aj n m fs ρ=some d:=by
 unfold aj;rw[hf,zA,yM hn,h]
def cons_of(h:f ρ=some d)(hs:fs ρ=some ds):aa f fs ρ=some (d::ds):=by
 unfold aa;rw[h,hs];rfl
def ay(hf:f (aJ ρ)=some d):aV f ρ=some (.rt d):=by
 simp?[aV,hf,zB]
def iq(hf:f (aJ ρ)=some d):mS f ρ=some (.nx ρ):=by
 simp?[mS,hf,zB]
def aK(h:t (aJ ρ)=some false):dZ t g dP ρ=some (.nx ρ):=by
 simp[dZ,h,dP]
def aQ(h:t (aJ ρ)=some true):dZ t g g2 ρ=g ρ:=by
 simp[dZ,h]
def bp(h:g1 ρ=some (.rt d)):ar g1 g2 ρ=some (.rt d):=by
 simp?[ar,h,zA]
def yr(hf:f (aJ ρ)=some d)(hs:Dl.oW d=true)(hk:fk (aJ ρ)=some (nD k))(ho:ρ[i]?=some (.own ds))(hl:k < ds.length):AW i fz fk f ρ=some (.nx (ρ.set i (.own (ds.set k d)))):=by
 have hx:Ig ds.length ((k:Nat):Int)=some k:=by
  unfold Ig;rw[yM (Int.natCast_nonneg k),yM (by lia)];simp
 simp?[AW,mZ,hf,zA,hs,xI,hk,sD,ho,hx,zB]
def lp(cont:S->Bool)(st:S->S):Nat->S->S
 | 0,s=>s
 | n+1,s=>if cont s=true then lp cont st n (st s) else s
def B9(R:S->au->Prop)(cont:S->Bool)(st:S->S)(μ:S->Nat)
  (ht:∀s ρ,R s ρ->t (aJ ρ)=some (cont s)) (hb:∀s ρ,R s ρ->cont s=true->∃ρ',gb ρ=some (.nx ρ')/\R (st s) ρ'/\μ (st s) < μ s) :
  ∀ (n:Nat) (s:S) (ρ:au),μ s < n->R s ρ->∃ρ',Oj t gb n ρ=some (.nx ρ')/\R (lp cont st n s) ρ'/\cont (lp cont st n s)=false
 | 0,s,ρ,h,_=>absurd h (by lia)
 | n+1,s,ρ,h,r=>by
  rw[Oj,ht s ρ r,zA,lp];cases hc:cont s with
  | false=>exact⟨ρ,by simp,by simpa [hc] using r,by simpa [hc] using hc⟩
  | true =>
   let⟨ρ',e,r',hm⟩:=hb s ρ r hc;let⟨YF,e2,r2,c2⟩:=B9 R cont st μ ht hb n (st s) ρ' (by lia) r';refine⟨YF,?_,by simpa [hc] using r2,by simpa [hc] using c2⟩;simp?[xI,e,zA];exact e2
def dR{off:List Int}(h:i < off.length):av (af off) (nD i)=some (.int (off.getD i 0)):=nQ (f:=PyData.int) (l:=off) (by simp[h])
def Lh{off:List Int}(h:i < off.length):av (.list (off.map PyData.int)) (nD i)=some (.int (off.getD i 0)):=FG (f:=PyData.int) (l:=off) (by simp[h])
def qa(h:i < W.length):av (.tuple (W.map aE)) (nD i)=some (aE (aP W i)):=nQ (oU h)
def SX(a b c:Int):uN [.int a,.int b,.int c]=some (.int (min (min a b) c)):=rfl
def GI(l:List Int)(k:Nat)(v:Int):(l.map PyData.int).set k (.int v)=(l.set k v).map PyData.int:=by rw[List.map_set]
def Hi(l:List Int):b8 [.list (l.map PyData.int)]=some (af l):=rfl
def Bi(l:List D):bz [.tuple l]=some (nD l.length):=rfl
def sP(l:List Int):bz [af l]=some (nD l.length):=by
 show some (PyData.int ((l.map PyData.int).length:Nat))=_;rw[zD]
def yq(h:n<=1000):nz [nD n]=some ((List.range n).map nD):=by
 rw[BN (oZ h),yG]
def iO(h:fs ρ=some [nD n])(hn:n<=1000):bj fs ρ=some ((List.range n).map nD):=by
 unfold bj;rw[h,zA,yq hn]
def sub_int(i j:Int):Dl.dy (.int i) (.int j)=some (.int (i - j)):=tx i j
def zeros(Yw:fi ρ=some ds)(hl:ds.length<=1000):ax 1 [] fi (fG 0) (λ_=>some true) (fC (.int 0)) ρ=some ((List.replicate ds.length (0:Int)).map PyData.int):=by
 rw[bR (h:=λ_=>.int 0) Yw (by lia) λd hd=>rfl];simp[List.map_const']
def CT(h1:Da k=true)(h2:ds.length * k.toNat<=sizeLine):Di ds (.int k)=some (List.replicate k.toNat ds).flatten:=by
 simp?[Di];rw[yM (And.intro h1 h2)]
def Kl:∀n,(List.replicate n [PyData.int 0]).flatten=(List.replicate n (0:Int)).map PyData.int
 | 0=>rfl
 | n+1=>by rw[xF,qN,Kl n,xF];rfl
def Io(hl:n<=1000):Di [.int 0] (nD n)=some ((List.replicate n (0:Int)).map PyData.int):=by
 rw[CT (oZ hl),yG,Kl];rw[yG,xD,Nat.one_mul];exact yD hl (by decide)
def UX(ρ:Dl.Env):bZ YU ρ=some [.int 0]:=by
 simp?[bZ,aa,fC,ag,zA,zB];exact bE (by simp)
def MO(hf:f ρ=some (nD n))(hl:n<=1000):lQ (bZ YU) f ρ=some ((List.replicate n (0:Int)).map PyData.int):=by
 have e:=Io hl;unfold lQ;rw[UX,zA,hf,zA,e]
def zh:∀ (a b:List Int),et (gE 0 1) (λ_=>some true) (f2 aA (ae 0) (ae 1)) (none::none::r) (hZ (a.map PyData.int) (b.map PyData.int))=some ((List.zipWith (·+·) a b).map PyData.int)
 | [],b=>by cases b<;>rfl
 | x::a,[]=>rfl
 | x::a,y::b=>by
  have ih:=zh (r:=r) a b;have hg:gE 0 1 (none::none::r) (.tuple [.int x,.int y])=some (some (.int x)::some (.int y)::r):=by
   simp?[gE,isFree,xR,yZ,qH,Zb,jQ,xI,yW,yX]
  rw[zI,zI,hZ,et,hg,zA];dsimp! [cB,ih,List.zipWith_cons_cons]
def BW(Yw:fi ρ=some (hZ (a.map PyData.int) (b.map PyData.int)))(hl:a.length<=1000) :
  ax 2 [] fi (gE 0 1) (λ_=>some true) (f2 aA (ae 0) (ae 1)) ρ=some ((List.zipWith (·+·) a b).map PyData.int):=by
 have:=zh (r:=[]) a b;simp?[ax,Yw,zA,gH,List.replicate,yV,qG,this];refine bE ?_;rw[zD,List.length_zipWith];lia
def cV(W:List Wy)(off:List Int)(left:Int)(i:Nat):Int:=min (min (off.getD i 0) (aP W i).2.2) left
def jh(W:List Wy)(off:List Int)(s:Int×List Int)(i:Nat):Int×List Int:=(s.1 - cV W off s.1 i,s.2.set i (cV W off s.1 i))
def pI(W:List Wy)(off:List Int)(amt:Int)(is:List Nat):List Int:=(is.foldl (jh W off) (amt,List.replicate W.length 0)).2
def GF(W:List Wy)(off:List Int):∀ (is:List Nat) (s:Int×List Int),(is.foldl (jh W off) s).2.length=s.2.length
 | [],s=>rfl
 | i::is,s=>by rw[yJ,GF W off is];simp[jh]
def AZ(W:List Wy)(off:List Int)(amt:Int)(is:List Nat):(pI W off amt is).length=W.length:=by rw[pI,GF];simp
def JY{W:List Wy}(e:(bC b G T)[i]?=some p):av (.tuple ((bC b G T).map bG)) (nD i)=some (bG p):=nQ e
def RV{off:List Int}(hi:i < W.length)(ho:off.length=W.length)(hs:s.2.length=W.length) :
  (ar (AW 4 [0,3,5,6] (ae 6) (bu uN (aa (f2 av (ae 3) (ae 6)) (aa (f2 av (f2 av (f2 av (ae 0) (fC (.int 2))) (ae 6)) (fC (.int 2))) (aa (ae 5) ag))))) (Dl.aD 5 [4,5,6] (f2 Dl.dy (ae 5) (f2 av (ae 4) (ae 6))))) [.val (aw G T W),.val d1,.val d2,.val (af off),.own (s.2.map PyData.int),.val (.int s.1),.val (nD i)]=some (.nx [.val (aw G T W),.val d1,.val d2,.val (af off),.own ((jh W off s i).2.map PyData.int),.val (.int (jh W off s i).1),.val (nD i)]):=by
 have hv:(bu uN (aa (f2 av (ae 3) (ae 6)) (aa (f2 av (f2 av (f2 av (ae 0) (fC (.int 2))) (ae 6)) (fC (.int 2))) (aa (ae 5) ag)))) (aJ [.val (aw G T W),.val d1,.val d2,.val (af off),.own (s.2.map PyData.int),.val (.int s.1),.val (nD i)])=some (.int (cV W off s.1 i)):=by
  dsimp! [dR (show i < off.length by lia),fS,qa hi,Bm,SX,cV]
 have t1:=yr (i:=4) (fz:=[0,3,5,6]) (fk:=ae 6) (k:=i) (ds:=s.2.map PyData.int) hv rfl rfl rfl (by rw[zD];lia);rw[GI] at t1;rw[ai t1];have hl:i < (s.2.set i (cV W off s.1 i)).length:=by rw[yC];lia
 have hg:(s.2.set i (cV W off s.1 i)).getD i 0=cV W off s.1 i:=by
  have:i < s.2.length:=by lia
  simp[this]
 have hv2:(f2 Dl.dy (ae 5) (f2 av (ae 4) (ae 6))) (aJ ([.val (aw G T W),.val d1,.val d2,.val (af off),.own (s.2.map PyData.int),.val (.int s.1),.val (nD i)].set 4 (.own ((s.2.set i (cV W off s.1 i)).map PyData.int))))=some (.int (jh W off s i).1):=by
  dsimp! [Lh hl,sub_int,hg,jh]
 rw[cn hv2 rfl];rfl
def rf{off:List Int}(h:Wd G T W)(ho:off.length=W.length)(e:(bC b G T)[i]?=some p) :
  eN [aw G T W,.int (sI b),nD i,af off]=some (af (pI W off p.1 (eR b W i p.2))):=by
 have hw:W.length<=16:=h.wl;have t4:aU 4 [0] (ax 1 [] (bI (f2 av (ae 0) (fC (.int 2)))) (fG 0) (λ_=>some true) (fC (.int 0))) [.val (aw G T W),.val (.int (sI b)),.val (nD i),.val (af off),.Xe,.Xe,.Xe]=some (.nx [.val (aw G T W),.val (.int (sI b)),.val (nD i),.val (af off),.own ((List.replicate W.length (0:Int)).map PyData.int),.Xe,.Xe]):=by
  have z:=zeros (fi:=bI (f2 av (ae 0) (fC (.int 2)))) (ρ:=bK [.val (aw G T W),.val (.int (sI b)),.val (nD i),.val (af off),.Xe,.Xe,.Xe]) (ds:=W.map aE) rfl (by rw[zD];lia);rw[zD] at z;exact mH rfl z
 have t5:Dl.aD 5 [0,1,2] (f2 av (f2 av (f2 av (ae 0) (ae 1)) (ae 2)) (fC (.int 0))) [.val (aw G T W),.val (.int (sI b)),.val (nD i),.val (af off),.own ((List.replicate W.length (0:Int)).map PyData.int),.Xe,.Xe]=some (.nx [.val (aw G T W),.val (.int (sI b)),.val (nD i),.val (af off),.own ((List.replicate W.length (0:Int)).map PyData.int),.val (.int p.1),.Xe]) :=
  cn (d:=.int p.1) (by dsimp! [gN,JY (W:=W) e,FY]) rfl
 let⟨ρ',e3,Yp,x,rfl⟩:=hU (tgt:=iZ 6) (gb:=(ar (AW 4 [0,3,5,6] (ae 6) (bu uN (aa (f2 av (ae 3) (ae 6)) (aa (f2 av (f2 av (f2 av (ae 0) (fC (.int 2))) (ae 6)) (fC (.int 2))) (aa (ae 5) ag))))) (Dl.aD 5 [4,5,6] (f2 Dl.dy (ae 5) (f2 av (ae 4) (ae 6)))))) (R:=λs ρ=>s.2.length=W.length/\∃x,ρ=[.val (aw G T W),.val (.int (sI b)),.val (nD i),.val (af off),.own (s.2.map PyData.int),.val (.int s.1),x]) nD (jh W off)
  (l:=eR b W i p.2) (s:=(p.1,List.replicate W.length (0:Int))) (ρ:=[.val (aw G T W),.val (.int (sI b)),.val (nD i),.val (af off),.own ((List.replicate W.length (0:Int)).map PyData.int),.val (.int p.1),.Xe])
  (λs ρ j hj ⟨hs,x,Yh⟩=>by
   subst Yh;let⟨hjl,_⟩:=dI.mp ((dD h e).mem_iff.mp hj);refine⟨_,_,rfl,RV hjl ho hs,?_,.val (nD j),rfl⟩;simp[jh,hs]) ⟨by simp,_,rfl⟩
 refine aB ?_;show iK [.val (aw G T W),.val (.int (sI b)),.val (nD i),.val (af off),.Xe,.Xe,.Xe]=_;unfold iK;rw[ai t4,ai t5,ai (bc e3 (by dsimp! [yo h e]) rfl)];exact ay rfl
def ya(q:Nat->Bool)(f:S->Nat->S)(j:Nat)(hq:∀k,q k=true↔k=j):∀ (n:Nat) (s:S),(List.range n).foldl (λs k=>if q k=true then f s k else s) s=if j < n then f s j else s
 | 0,s=>by simp
 | n+1,s=>by
  rw[wD,vK,ya q f j hq n s,yJ,List.foldl_nil];by_cases e:n=j
  ·subst e;rw[yM ((hq n).mpr rfl),yO (by lia),yM (by lia)]
  ·have:¬ q n=true:=λz=>e ((hq n).mp z);rw[yO this];by_cases hj:j < n
   ·rw[yM hj,yM (by lia)]
   ·rw[yO hj,yO (by lia)]
def qW(b:Bool)(W:List Wy)(i:Nat)(o:Int)(k:Nat):Bool:=decide (aW b (aP W k)=i)&&decide (dm b (aP W k)=o)
def Nh:au->Option Out:=dZ (gq (fB (f2 bh (f2 av (f2 av (f2 av (ae 0) (fC (.int 2))) (ae 7)) (ae 1)) (ae 2))) (fB (f2 bh (f2 av (f2 av (f2 av (ae 0) (fC (.int 2))) (ae 7)) (f2 Dl.dy (fC (.int 1)) (ae 1))) (ae 6)))) (ar (AW 4 [0,3,5,7] (ae 7) (bu uN (aa (ae 5) (aa (f2 av (ae 3) (ae 7)) (aa (f2 av (f2 av (f2 av (ae 0) (fC (.int 2))) (ae 7)) (fC (.int 2))) ag))))) (Dl.aD 5 [4,5,7] (f2 Dl.dy (ae 5) (f2 av (ae 4) (ae 7))))) dP
def O2{off:List Int}(hk:k < W.length)(ho:off.length=W.length)(hs:s.2.length=W.length) :
  Nh [.val (aw G T W),.val (.int (sI b)),.val (nD i),.val (af off),.own (s.2.map PyData.int),.val (.int s.1),.val (.int o),.val (nD k)]=some (.nx [.val (aw G T W),.val (.int (sI b)),.val (nD i),.val (af off),.own ((if qW b W i o k=true then jh W off s k else s).2.map PyData.int),.val (.int (if qW b W i o k=true then jh W off s k else s).1),.val (.int o),.val (nD k)]):=by
 have hc:(gq (fB (f2 bh (f2 av (f2 av (f2 av (ae 0) (fC (.int 2))) (ae 7)) (ae 1)) (ae 2))) (fB (f2 bh (f2 av (f2 av (f2 av (ae 0) (fC (.int 2))) (ae 7)) (f2 Dl.dy (fC (.int 1)) (ae 1))) (ae 6)))) (aJ [.val (aw G T W),.val (.int (sI b)),.val (nD i),.val (af off),.own (s.2.map PyData.int),.val (.int s.1),.val (.int o),.val (nD k)])=some (qW b W i o k):=by
  dsimp! [fS,qa hk,mG,sub_int,Hl,bV,qW];cases decide (aW b (aP W k)=i)<;>rfl
 unfold Nh;cases hq:qW b W i o k with
 | false =>
  rw[hq] at hc;rw[aK hc];rfl
 | true =>
  rw[hq] at hc;rw[aQ hc];simp?[xI];have hv:(bu uN (aa (ae 5) (aa (f2 av (ae 3) (ae 7)) (aa (f2 av (f2 av (f2 av (ae 0) (fC (.int 2))) (ae 7)) (fC (.int 2))) ag)))) (aJ [.val (aw G T W),.val (.int (sI b)),.val (nD i),.val (af off),.own (s.2.map PyData.int),.val (.int s.1),.val (.int o),.val (nD k)])=some (.int (cV W off s.1 k)):=by
   dsimp! [dR (show k < off.length by lia),fS,qa hk,Bm,SX,cV]
   congr 2
   lia
  have t1:=yr (i:=4) (fz:=[0,3,5,7]) (fk:=ae 7) (k:=k) (ds:=s.2.map PyData.int) hv rfl rfl rfl (by rw[zD];lia);rw[GI] at t1;rw[ai t1];have hl:k < (s.2.set k (cV W off s.1 k)).length:=by rw[yC];lia
  have hg:(s.2.set k (cV W off s.1 k)).getD k 0=cV W off s.1 k:=by
   have:k < s.2.length:=by lia
   simp[this]
  have hv2:(f2 Dl.dy (ae 5) (f2 av (ae 4) (ae 7))) (aJ ([.val (aw G T W),.val (.int (sI b)),.val (nD i),.val (af off),.own (s.2.map PyData.int),.val (.int s.1),.val (.int o),.val (nD k)].set 4 (.own ((s.2.set k (cV W off s.1 k)).map PyData.int))))=some (.int (jh W off s k).1):=by
   dsimp! [Lh hl,sub_int,hg,jh]
  rw[cn hv2 rfl];rfl
def RF(h:Wd G T W)(e:(bC b G T)[i]?=some p)(ho:o∈p.2)(hk:k < W.length):qW b W i o k=true↔k=sR b W i o:=by
 let⟨h1,h2,h3⟩:=iC h e ho;unfold qW;rw[zF,zJ,zJ];constructor
 ·intro ⟨a,c⟩;exact Ds h.wp hk h1 (by rw[a,h2]) (by rw[c,h3])
 ·rintro rfl;exact⟨h2,h3⟩
def rN:∀ {l:List α}{s:S},(∀s x,x∈l->f s x=g s x)->l.foldl f s=l.foldl g s
 | [],s,_=>rfl
 | x::l,s,h=>by
  rw[yJ,yJ,h s x zE];exact rN λs y hy=>h s y (zC _ hy)
def J4(h:Wd G T W){off:List Int}(e:(bC b G T)[i]?=some p)(ho:o∈p.2)(s:Int×List Int) :
  (List.range W.length).foldl (λs k=>if qW b W i o k=true then jh W off s k else s) s=jh W off s (sR b W i o):=by
 have h1:=(iC h e ho).1;rw[rN (g:=λs k=>if decide (k=sR b W i o)=true then jh W off s k else s) λs k hk=>by
  have:=RF h e ho (List.mem_range.mp hk);by_cases hq:qW b W i o k=true
  ·rw[yM hq,yM (by simpa using this.mp hq)]
  ·rw[yO hq,yO (by simpa using λz=>hq (this.mpr z))]]
 rw[ya (λk=>decide (k=sR b W i o)) (jh W off) (sR b W i o) (λk=>by simp),yM h1]
def S5{off:List Int}(ho:off.length=W.length)(hw:W.length<=16):aU 4 [3] (lQ (bZ (aa (fC (.int 0)) ag)) (bu bz (aa (ae 3) ag))) [.val (aw G T W),.val d1,.val d2,.val (af off),.Xe,.Xe,.Xe,.Xe]=some (.nx [.val (aw G T W),.val d1,.val d2,.val (af off),.own ((List.replicate W.length (0:Int)).map PyData.int),.Xe,.Xe,.Xe]):=by
 rw[eI (MO (n:=W.length) ?_ (by lia)) rfl]
 ·rfl
 ·dsimp! [sP,ho]
def Ru{off:List Int}(ho:off.length=n)(hw:n<=16):(bj (aa (bu bz (aa (ae 3) ag)) ag)) (a::b::c::some (af off)::r)=some ((List.range n).map nD):=by
 have e:(aa (bu bz (aa (ae 3) ag)) ag) (a::b::c::some (af off)::r)=some [nD n]:=by
  dsimp! [sP,ho]
 unfold bj;rw[e,zA,yq (show n<=1000 by lia)]
def Am{off:List Int}(h:Wd G T W)(ho:off.length=W.length)(e:(bC b G T)[i]?=some p) :
  cE [aw G T W,.int (sI b),nD i,af off]=some (af (pI W off p.1 (eR b W i p.2))):=by
 have hw:W.length<=16:=h.wl;have t4:=S5 (G:=G) (T:=T) (d1:=.int (sI b)) (d2:=nD i) ho hw;have t5:Dl.aD 5 [0,1,2] (f2 av (f2 av (f2 av (ae 0) (ae 1)) (ae 2)) (fC (.int 0))) [.val (aw G T W),.val (.int (sI b)),.val (nD i),.val (af off),.own ((List.replicate W.length (0:Int)).map PyData.int),.Xe,.Xe,.Xe]=some (.nx [.val (aw G T W),.val (.int (sI b)),.val (nD i),.val (af off),.own ((List.replicate W.length (0:Int)).map PyData.int),.val (.int p.1),.Xe,.Xe]) :=
  cn (d:=.int p.1) (by dsimp! [gN,JY (W:=W) e,FY]) rfl
 let⟨ρ',e3,Yp,x,y,rfl⟩:=hU (tgt:=iZ 6) (gb:=dC [3] (bj (aa (bu bz (aa (ae 3) ag)) ag)) (iZ 7) Nh) (R:=λs ρ=>s.2.length=W.length/\∃x y,ρ=[.val (aw G T W),.val (.int (sI b)),.val (nD i),.val (af off),.own (s.2.map PyData.int),.val (.int s.1),x,y]) PyData.int (λs o=>jh W off s (sR b W i o))
  (l:=p.2) (s:=(p.1,List.replicate W.length (0:Int))) (ρ:=[.val (aw G T W),.val (.int (sI b)),.val (nD i),.val (af off),.own ((List.replicate W.length (0:Int)).map PyData.int),.val (.int p.1),.Xe,.Xe])
  (λs ρ o hm ⟨hs,x,y,Yh⟩=>by
   subst Yh;let⟨YF,e2,hs2,y2,rfl⟩:=hU (tgt:=iZ 7) (gb:=Nh) (R:=λs ρ=>s.2.length=W.length/\∃y,ρ=[.val (aw G T W),.val (.int (sI b)),.val (nD i),.val (af off),.own (s.2.map PyData.int),.val (.int s.1),.val (.int o),y]) nD (λs k=>if qW b W i o k=true then jh W off s k else s)
    (l:=List.range W.length) (s:=s) (ρ:=[.val (aw G T W),.val (.int (sI b)),.val (nD i),.val (af off),.own (s.2.map PyData.int),.val (.int s.1),.val (.int o),y])
    (λs ρ k hk ⟨hs,y,Yh⟩=>by
     subst Yh;refine⟨_,_,rfl,O2 (List.mem_range.mp hk) ho hs,?_,.val (nD k),rfl⟩;split
     ·simp[jh,hs]
     ·exact hs) ⟨hs,_,rfl⟩
   rw[J4 h e hm] at e2 hs2;exact⟨_,_,rfl,bc e2 (Ru ho hw) rfl,hs2,_,_,rfl⟩) ⟨by simp,_,_,rfl⟩
 refine aB ?_;show fW [.val (aw G T W),.val (.int (sI b)),.val (nD i),.val (af off),.Xe,.Xe,.Xe,.Xe]=_;unfold fW;rw[ai t4,ai t5];refine (ai (bc e3 (by dsimp! [gN,JY (W:=W) e,GE,af]) rfl)).trans ?_;rw[ay (d:=af (pI W off p.1 (eR b W i p.2)))];dsimp! [Hi];rw[pI,eR,List.foldl_map]
def cR(b:Bool)(G T:List Pl)(i:Nat):Pl:=(bC b G T).getD i (0,[])
def yi(b:Bool)(G T:List Pl)(W:List Wy)(off s:List Int)(i:Nat):List Int:=List.zipWith (·+·) s (pI W off (cR b G T i).1 (eR b W i (cR b G T i).2))
def bb(b:Bool)(G T:List Pl)(W:List Wy)(off:List Int):List Int:=(List.range (bC b G T).length).foldl (yi b G T W off) (List.replicate W.length 0)
def pM(h:i < (bC b G T).length):(bC b G T)[i]?=some (cR b G T i):=by simp[cR,h]
def n9{off:List Int}(h:s.length=W.length):(yi b G T W off s i).length=W.length:=by
 unfold yi;rw[List.length_zipWith,AZ,h,Nat.min_self]
def mR(R:S->Prop):∀ {l:List α}{s:S},(∀s x,x∈l->R s->R (f s x))->R s->R (l.foldl f s)
 | [],s,_,h=>h
 | x::l,s,hh,h=>by
  rw[yJ];exact mR (l:=l) R (λs y hy=>hh s y (zC _ hy)) (hh s x zE h)
def dv(b:Bool)(G T:List Pl)(W:List Wy)(off:List Int):(bb b G T W off).length=W.length :=
 mR (λs:List Int=>s.length=W.length) (λs i _ h=>n9 h) (by simp)
def Wd.pl(h:Wd G T W)(b:Bool):(bC b G T).length<=4:=by
 cases b
 ·exact h.g4
 ·exact h.t4
def WR:au->Option Out:=(ar (Dl.aD 5 [0,1,2,4] (aj 4 eN (aa (ae 0) (aa (ae 1) (aa (ae 4) (aa (ae 2) ag)))))) (aU 3 [3,5] (ax 2 [] (cO (aa (ae 3) (aa (ae 5) ag))) (gE 0 1) (λ_=>some true) (f2 aA (ae 0) (ae 1)))))
def cm{off:List Int}(h:Wd G T W)(ho:off.length=W.length)(b:Bool) :
  aN [aw G T W,.int (sI b),af off]=some (af (bb b G T W off)):=by
 have hw:W.length<=16:=h.wl;have hp:=h.pl b;have t3:aU 3 [0] (ax 1 [] (bI (f2 av (ae 0) (fC (.int 2)))) (fG 0) (λ_=>some true) (fC (.int 0))) [.val (aw G T W),.val (.int (sI b)),.val (af off),.Xe,.Xe,.Xe]=some (.nx [.val (aw G T W),.val (.int (sI b)),.val (af off),.own ((List.replicate W.length (0:Int)).map PyData.int),.Xe,.Xe]):=by
  have z:=zeros (fi:=bI (f2 av (ae 0) (fC (.int 2)))) (ρ:=bK [.val (aw G T W),.val (.int (sI b)),.val (af off),.Xe,.Xe,.Xe]) (ds:=W.map aE) rfl (by rw[zD];lia);rw[zD] at z;exact eI z rfl
 let⟨ρ',e3,Yp,x,y,rfl⟩:=hU (tgt:=iZ 4) (gb:=WR) (R:=λs ρ=>s.length=W.length/\∃x y,ρ=[.val (aw G T W),.val (.int (sI b)),.val (af off),.own (s.map PyData.int),x,y]) nD (yi b G T W off)
  (l:=List.range (bC b G T).length) (s:=List.replicate W.length (0:Int)) (ρ:=[.val (aw G T W),.val (.int (sI b)),.val (af off),.own ((List.replicate W.length (0:Int)).map PyData.int),.Xe,.Xe])
  (λs ρ i hi ⟨hs,x,y,Yh⟩=>by
   subst Yh;have ei:=pM (List.mem_range.mp hi);have t1:Dl.aD 5 [0,1,2,4] (aj 4 eN (aa (ae 0) (aa (ae 1) (aa (ae 4) (aa (ae 2) ag))))) [.val (aw G T W),.val (.int (sI b)),.val (af off),.own (s.map PyData.int),.val (nD i),y]=some (.nx [.val (aw G T W),.val (.int (sI b)),.val (af off),.own (s.map PyData.int),.val (nD i),.val (af (pI W off (cR b G T i).1 (eR b W i (cR b G T i).2)))]):=by
    refine uw (ρ':=[.val (aw G T W),.val (.int (sI b)),.val (af off),.own (s.map PyData.int),.val (nD i),y]) rfl (d:=af (pI W off (cR b G T i).1 (eR b W i (cR b G T i).2))) ?_ ?_ rfl
    ·dsimp! [rf h ho ei]
    ·dsimp! [rf h ho ei]
   have t2:aU 3 [3,5] (ax 2 [] (cO (aa (ae 3) (aa (ae 5) ag))) (gE 0 1) (λ_=>some true) (f2 aA (ae 0) (ae 1))) [.val (aw G T W),.val (.int (sI b)),.val (af off),.own (s.map PyData.int),.val (nD i),.val (af (pI W off (cR b G T i).1 (eR b W i (cR b G T i).2)))]=some (.nx [.val (aw G T W),.val (.int (sI b)),.val (af off),.own ((yi b G T W off s i).map PyData.int),.val (nD i),.val (af (pI W off (cR b G T i).1 (eR b W i (cR b G T i).2)))]):=by
    refine mH (ρ':=[.val (aw G T W),.val (.int (sI b)),.val (af off),.val (.list (s.map PyData.int)),.val (nD i),.val (af (pI W off (cR b G T i).1 (eR b W i (cR b G T i).2)))]) rfl (ds:=(yi b G T W off s i).map PyData.int) ?_;exact BW (a:=s) (b:=pI W off (cR b G T i).1 (eR b W i (cR b G T i).2)) rfl (by lia)
   exact⟨_,_,rfl,(ai t1).trans t2,n9 hs,_,_,rfl⟩) ⟨by simp,_,_,rfl⟩
 refine aB ?_;show eA [.val (aw G T W),.val (.int (sI b)),.val (af off),.Xe,.Xe,.Xe]=_;unfold eA;rw[ai t3];refine (ai (bc e3 (iO (by dsimp! [gN,Bi,zD]) (by lia)) rfl)).trans ?_;exact ay rfl
def T8{off:List Int}(ho:off.length=W.length)(hw:W.length<=16):aU 3 [2] (lQ (bZ (aa (fC (.int 0)) ag)) (bu bz (aa (ae 2) ag))) [.val (aw G T W),.val d1,.val (af off),.Xe,.Xe]=some (.nx [.val (aw G T W),.val d1,.val (af off),.own ((List.replicate W.length (0:Int)).map PyData.int),.Xe]):=by
 rw[eI (MO (n:=W.length) ?_ (by lia)) rfl]
 ·rfl
 ·dsimp! [sP,ho]
abbrev aiF:=(aa (ae 4) zq5)
abbrev aiG:=(aa (ae 1) aiF)
abbrev aiH:=(aa (ae 0) aiG)
abbrev ada:=(aj 4 cE aiH)
abbrev aiI:=(aa ada ag)
abbrev adb:=(aa (ae 3) aiI)
def Rg{G T:List Pl}{W:List Wy}{off s:List Int}(h:Wd G T W)(ho:off.length=W.length){b:Bool}{i:Nat}{p:Pl}(e:(bC b G T)[i]?=some p) :
  cO adb (bK [.val (aw G T W),.val (.int (sI b)),.val (af off),.val (.list (s.map PyData.int)),.val (nD i)])=some (hZ (s.map PyData.int) ((pI W off p.1 (eR b W i p.2)).map PyData.int)):=by
 have e2:adb (bK [.val (aw G T W),.val (.int (sI b)),.val (af off),.val (.list (s.map PyData.int)),.val (nD i)])=some [.list (s.map PyData.int),af (pI W off p.1 (eR b W i p.2))]:=by
  have e3:ada (bK [.val (aw G T W),.val (.int (sI b)),.val (af off),.val (.list (s.map PyData.int)),.val (nD i)])=some (af (pI W off p.1 (eR b W i p.2))):=call_of (Am h ho e) rfl rfl;exact cons_of rfl (cons_of e3 rfl)
 unfold cO;rw[e2];rfl
def ij{W:List Wy}{off:List Int}(h:Wd G T W)(ho:off.length=W.length)(b:Bool) :
  br [aw G T W,.int (sI b),af off]=some (af (bb b G T W off)):=by
 have hw:W.length<=16:=h.wl;have hp:=h.pl b;have t3:=T8 (G:=G) (T:=T) (d1:=.int (sI b)) ho hw;let⟨ρ',e3,Yp,x,rfl⟩:=hU (tgt:=iZ 4) (gb:=(aU 3 [0,1,2,3,4] (ax 2 [] (cO (aa (ae 3) (aa (aj 4 cE (aa (ae 0) (aa (ae 1) (aa (ae 4) (aa (ae 2) ag))))) ag))) (gE 0 1) (λ_=>some true) (f2 aA (ae 0) (ae 1))))) (R:=λs ρ=>s.length=W.length/\∃x,ρ=[.val (aw G T W),.val (.int (sI b)),.val (af off),.own (s.map PyData.int),x]) nD (yi b G T W off)
  (l:=List.range (bC b G T).length) (s:=List.replicate W.length (0:Int)) (ρ:=[.val (aw G T W),.val (.int (sI b)),.val (af off),.own ((List.replicate W.length (0:Int)).map PyData.int),.Xe])
  (λs ρ i hi ⟨hs,x,Yh⟩=>by
   subst Yh;have ei:=pM (List.mem_range.mp hi);have t2:aU 3 [0,1,2,3,4] (ax 2 [] (cO (aa (ae 3) (aa (aj 4 cE (aa (ae 0) (aa (ae 1) (aa (ae 4) (aa (ae 2) ag))))) ag))) (gE 0 1) (λ_=>some true) (f2 aA (ae 0) (ae 1))) [.val (aw G T W),.val (.int (sI b)),.val (af off),.own (s.map PyData.int),.val (nD i)]=some (.nx [.val (aw G T W),.val (.int (sI b)),.val (af off),.own ((yi b G T W off s i).map PyData.int),.val (nD i)]):=by
    refine mH (ρ':=[.val (aw G T W),.val (.int (sI b)),.val (af off),.val (.list (s.map PyData.int)),.val (nD i)]) rfl (ds:=(yi b G T W off s i).map PyData.int) ?_;refine BW (a:=s) (b:=pI W off (cR b G T i).1 (eR b W i (cR b G T i).2)) ?_ (by lia);exact Rg h ho ei
   exact⟨_,_,rfl,t2,n9 hs,_,rfl⟩) ⟨by simp,_,rfl⟩
 refine aB ?_;show iI [.val (aw G T W),.val (.int (sI b)),.val (af off),.Xe,.Xe]=_;unfold iI;rw[ai t3];refine (ai (bc e3 (iO (by dsimp! [gN,Bi,zD]) (by lia)) rfl)).trans ?_;exact ay rfl
def ou(h:(xs++ys).length<=4000):Dl.aA (.tuple xs) (.tuple ys)=some (.tuple (xs++ys)):=by
 simp?[Dl.aA,zv,Mq,bE h,zB,Option.none_or,Option.some_or]
def Jb(h:f ρ=some d):aH (aa f ag) ρ=some (.tuple [d]):=by
 simp?[aH,aa,ag,h,zA,zB];rw[bE (by simp),zB]
def Vs(h:f ρ=some d)(h2:g ρ=some e):aH (aa f (aa g ag)) ρ=some (.tuple [d,e]):=by
 simp?[aH,aa,ag,h,h2,zA,zB];rw[bE (by simp),zB]
def aq(h:g a b=some c)(ha:fa ρ=some a)(hb:fb ρ=some b):f2 g fa fb ρ=some c:=by rw[js ha hb,h]
def KC(h:f ρ=some (.tuple ds))(h2:g ρ=some (nD k)):cF bw f cZ (mC g) ρ=some (.tuple (ds.take k)):=by
 simp?[cF,h,cZ,mC,h2,zA,gI,zB,bw,Js]
def LZ(h:f ρ=some (.tuple ds))(h2:g ρ=some (nD k)):cF bw f (mC g) cZ ρ=some (.tuple (ds.drop k)):=by
 simp?[cF,h,cZ,mC,h2,zA,gI,zB,bw,Dg]
def V9(d:D)(ds:List D):av (.tuple (d::ds)) (.int 0)=some d:=uD (i:=0) rfl
def UZ(c d:D)(ds:List D):av (.tuple (c::d::ds)) (.int 1)=some d:=uD (i:=1) rfl
def sE(c:List Int)(i:Nat)(v:Int)(h:i < c.length):((c.map PyData.int).take i++[PyData.int v])++(c.map PyData.int).drop (i+1)=(c.set i v).map PyData.int:=by
 rw[List.set_eq_take_append_cons_drop,yM h];simp
def Wc(i:Nat):Dl.aA (nD i) (.int 1)=some (nD (i+1)):=by
 rw[cB];rfl
def Ed(h:i < c.length)(hl:c.length<=1000):lj [af c,nD i,.int v]=some (af (c.set i v)):=by
 refine aB ?_;show nM [.val (af c),.val (nD i),.val (.int v)]=_;refine ay ?_;refine aq (a:=.tuple ((c.map PyData.int).take i++[PyData.int v])) (b:=.tuple ((c.map PyData.int).drop (i+1))) ?_ (aq (a:=.tuple ((c.map PyData.int).take i)) (b:=.tuple [.int v]) (ou ?_) (KC rfl rfl) (Jb rfl)) (LZ rfl (aq (Wc i) rfl rfl))
 ·rw[ou,sE c i v h]
  ·rfl
  ·rw[sE c i v h];simp;lia
 ·simp;lia
def pV(h:i < c.length)(hl:c.length<=1000):dk [af c,nD i,.int v]=some (af (c.set i v)):=by
 refine aB ?_;show qb [.val (af c),.val (nD i),.val (.int v)]=_;exact ay (call_of (Ed h hl) rfl rfl)
def cf(W:List Wy):List Int:=W.map λw=>w.2.2
def mi(h:Wd G T W)(hf:f ρ=some (aw G T W)):(bu b8 (aa (cq (ax 1 [] (bI (f2 av f (fC (.int 2)))) (fG 0) (λ_=>some true) zq6)) ag)) ρ=some (af (cf W)):=by
 have hw:=h.wl;have hs:(bI (f2 av f (fC (.int 2)))) ρ=some (W.map aE):=by
  unfold bI;rw[aq (fS G T W) hf rfl];rfl
 have e:ax 1 [] (bI (f2 av f (fC (.int 2)))) (fG 0) (λ_=>some true) zq6 ρ=some ((cf W).map PyData.int):=by
  rw[bR (h:=λd=>.int (iY ((dw d).getD 2 .none))) hs (by rw[zD];lia) λd hd=>?_]
  ·rw[cf,zM,zM];rfl
  ·let⟨w,hw',rfl⟩:=List.mem_map.mp hd;rfl
 simp?[bu,aa,ag,cq,e,zB,zA,Hi]
def ji(h:Wd G T W):jj [aw G T W]=some (af (cf W)):=by
 refine aB ?_;show uu [.val (aw G T W)]=_;exact ay (mi h rfl)
def fZ(W:List Wy):(cf W).length=W.length:=by simp[cf]
def dY(G T:List Pl)(W:List Wy)(c:List Int):List Int:=bb true G T W (bb false G T W c)
def qR(G T:List Pl)(W:List Wy)(c:List Int)(k:Nat):Bool:=decide ((dY G T W c).getD k 0 < (bb false G T W c).getD k 0)
def vd(G T:List Pl)(W:List Wy)(c:List Int):Option (Nat×Int):=((List.range W.length).find? (qR G T W c)).map λk=>(k,(dY G T W c).getD k 0)
def Fn:Option (Nat×Int)->D
 | none=>.none
 | some p=>.tuple [nD p.1,.int p.2]
def enum_zip:∀ (ds:List D) (k:Nat),bP k ds=(ds.zipIdx k).map λq=>.tuple [nD q.2,q.1]
 | [],k=>rfl
 | d::ds,k=>by rw[bP,enum_zip ds (k+1),List.zipIdx_cons];rfl
def Ij(l:List Int):bP 0 (l.map PyData.int)=(List.range l.length).map λk=>.tuple [nD k,.int (l.getD k 0)]:=by
 rw[enum_zip];apply jI
 ·simp
 ·intro i h1 h2;have:i < l.length:=by simpa using h2
  simp[this]
def Qw(G T:List Pl)(W:List Wy)(c:List Int):(dY G T W c).length=W.length:=dv _ _ _ _ _
def U0:au->Option Out:=(dZ (fB (f2 v5 (ae 5) (f2 av (ae 2) (ae 4)))) (aV (aH (aa (ae 4) (aa (ae 5) ag)))) dP)
def mq(h:Wd G T W)(ho:c.length=W.length):gU [aw G T W,af c]=some (Fn (vd G T W c)):=by
 have hw:W.length<=16:=h.wl;have t2:Dl.aD 2 [0,1] (aj 3 aN (aa (ae 0) (aa (fC (.int 0)) (aa (ae 1) ag)))) [.val (aw G T W),.val (af c),.Xe,.Xe,.Xe,.Xe]=some (.nx [.val (aw G T W),.val (af c),.val (af (bb false G T W c)),.Xe,.Xe,.Xe]) :=
  di (call_of (cm h ho false) rfl rfl) rfl rfl rfl
 have t3:Dl.aD 3 [0,2] (aj 3 aN (aa (ae 0) (aa (fC (.int 1)) (aa (ae 2) ag)))) [.val (aw G T W),.val (af c),.val (af (bb false G T W c)),.Xe,.Xe,.Xe]=some (.nx [.val (aw G T W),.val (af c),.val (af (bb false G T W c)),.val (af (dY G T W c)),.Xe,.Xe]) :=
  di (call_of (cm h (dv _ _ _ _ _) true) rfl rfl) rfl rfl rfl
 have hl:=fu (tgt:=fj 4 5) (gb:=U0) (R:=λρ=>∃x y,ρ=[.val (aw G T W),.val (af c),.val (af (bb false G T W c)),.val (af (dY G T W c)),x,y]) (λk=>.tuple [nD k,.int ((dY G T W c).getD k 0)]) (qR G T W c) (λk=>.tuple [nD k,.int ((dY G T W c).getD k 0)])
  (l:=List.range W.length) (ρ:=[.val (aw G T W),.val (af c),.val (af (bb false G T W c)),.val (af (dY G T W c)),.Xe,.Xe])
  (λρ k hk ⟨x,y,Yh⟩=>by
   subst Yh;have Yo:k < (bb false G T W c).length:=by rw[dv];exact List.mem_range.mp hk
   have hc:(fB (f2 v5 (ae 5) (f2 av (ae 2) (ae 4)))) (aJ [.val (aw G T W),.val (af c),.val (af (bb false G T W c)),.val (af (dY G T W c)),.val (nD k),.val (.int ((dY G T W c).getD k 0))])=some (qR G T W c k):=by
    dsimp! [dR Yo,kr,qR]
   refine⟨[.val (aw G T W),.val (af c),.val (af (bb false G T W c)),.val (af (dY G T W c)),.val (nD k),.val (.int ((dY G T W c).getD k 0))],rfl,λhq=>?_,λhq=>?_⟩
   ·rw[hq] at hc;unfold U0;rw[aQ hc];exact ay (Vs rfl rfl)
   ·rw[hq] at hc;unfold U0;rw[aK hc];exact⟨_,rfl,_,_,rfl⟩) ⟨_,_,rfl⟩
 have hi:(bQ (aa (ae 3) ag)) (bK [.val (aw G T W),.val (af c),.val (af (bb false G T W c)),.val (af (dY G T W c)),.Xe,.Xe])=some ((List.range W.length).map λk=>.tuple [nD k,.int ((dY G T W c).getD k 0)]):=by
  have:=Ij (dY G T W c);rw[Qw] at this;rw[<- this];rfl
 refine aB ?_;show mv [.val (aw G T W),.val (af c),.Xe,.Xe,.Xe,.Xe]=_;unfold mv;rw[ai t2,ai t3];unfold vd;cases hq:(List.range W.length).find? (qR G T W c) with
 | some k =>
  exact bp (bc (hl.1 k hq) hi rfl)
 | none =>
  let⟨ρ',e,x,y,rfl⟩:=hl.2 hq;exact (ai (bc e hi rfl)).trans (ay rfl)
def cy(l:List Int)(k:Nat)(v:Int)(i:Nat):(l.set k v).getD i 0=if k=i/\i < l.length then v else l.getD i 0:=by
 simp?[zG,xJ];by_cases h:k=i
 ·subst h;by_cases h2:k < l.length
  ·simp[h2]
  ·simp[h2]
 ·simp[h]
def Cq{a b:List Int}{i:Nat}(ha:i < a.length)(hb:i < b.length):(List.zipWith (·+·) a b).getD i 0=a.getD i 0+b.getD i 0:=by
 rw[zG,zG,zG,List.getElem?_zipWith,zK ha,zK hb];rfl
def Off(off:List Int):Prop:=∀i,0<=off.getD i 0
def UG(W:List Wy):Prop:=∀i,0<=(aP W i).2.2
def Wd.lim{G T:List Pl}{W:List Wy}(h:Wd G T W):UG W:=λi=>by
 by_cases hi:i < W.length
 ·have:=h.wr (aP W i) (by rw[<- nL hi];exact qB hi);lia
 ·simp?[aP,zG];rw[jN (by lia)];simp
def Wd.amt{G T:List Pl}{W:List Wy}(h:Wd G T W)(b:Bool)(i:Nat):0<=(cR b G T i).1:=by
 unfold cR;rw[zG];cases e:(bC b G T)[i]? with
 | none=>simp
 | some p =>
  have hm:=qC e;cases b
  ·exact (h.ga p hm).1
  ·exact (h.ta p hm).1
def R9{W:List Wy}{off:List Int}(ho:Off off)(hl:UG W){amt:Int}(ha:0<=amt)(is:List Nat)(i:Nat):0<=(pI W off amt is).getD i 0/\(pI W off amt is).getD i 0<=off.getD i 0:=by
 have:=mR (l:=is) (f:=jh W off) (s:=(amt,List.replicate W.length 0)) (λs=>0<=s.1/\∀i,0<=s.2.getD i 0/\s.2.getD i 0<=off.getD i 0) (λs k _ ⟨h1,h2⟩=>by
  have ok:=ho k;have lk:=hl k;have v0:0<=cV W off s.1 k:=by unfold cV;lia
  have v1:cV W off s.1 k<=off.getD k 0:=by unfold cV;lia
  have v2:cV W off s.1 k<=s.1:=by unfold cV;lia
  refine⟨by simp?[jh];lia,λi=>?_⟩;simp?[jh,cy];split
  ·rename_i z;rw[<- z.1];exact⟨v0,v1⟩
  ·exact h2 i) ⟨ha,λi=>by
   have:=ho i;have z:(List.replicate W.length (0:Int)).getD i 0=0:=by
    simp?[zG,yY];split<;>rfl
   simp?[z];lia⟩
 exact this.2 i
def GL{W:List Wy}{off:List Int}{amt:Int}{is:List Nat}{i:Nat}(hi:i∉is):(pI W off amt is).getD i 0=0:=by
 refine mR (l:=is) (f:=jh W off) (s:=(amt,List.replicate W.length 0)) (λs=>s.2.getD i 0=0) (λs k hk h=>?_) ?_
 ·simp?[jh,cy];have hki:¬ (k=i/\i < s.2.length):=λz=>hi (z.1 ▸ hk);rw[yO hki,h]
 ·simp?[zG,yY];split<;>rfl
def Ae{G T:List Pl}{W:List Wy}(h:Wd G T W){off:List Int}(ho:Off off)(b:Bool):∀ (n:Nat),n<=(bC b G T).length ->
  ((List.range n).foldl (yi b G T W off) (List.replicate W.length 0)).length=W.length/\∀i,i < W.length->(0<=((List.range n).foldl (yi b G T W off) (List.replicate W.length 0)).getD i 0/\((List.range n).foldl (yi b G T W off) (List.replicate W.length 0)).getD i 0<=off.getD i 0)/\((n:Nat)<=aW b (aP W i)->((List.range n).foldl (yi b G T W off) (List.replicate W.length 0)).getD i 0=0)
 | 0,_=>by
  refine⟨by simp,λi hi=>?_⟩;have:=ho i;have z:((List.range 0).foldl (yi b G T W off) (List.replicate W.length 0)).getD i 0=0:=by simp[zG,hi]
  rw[z];exact⟨by lia,λ_=>rfl⟩
 | n+1,hn=>by
  let⟨h1,h2⟩:=Ae h ho b n (by lia);rw[wD,vK,yJ,List.foldl_nil];generalize (List.range n).foldl (yi b G T W off) (List.replicate W.length 0)=s at h1 h2;refine⟨n9 h1,λi hi=>?_⟩;let⟨h3,h4⟩:=h2 i hi;have e:=pM (b:=b) (G:=G) (T:=T) (i:=n) (by lia);have hc:=R9 ho h.lim (h.amt b n) (eR b W n (cR b G T n).2) i;have hz:(yi b G T W off s n).getD i 0=s.getD i 0+(pI W off (cR b G T n).1 (eR b W n (cR b G T n).2)).getD i 0:=Cq (by lia) (by rw[AZ];exact hi);rw[hz];by_cases he:aW b (aP W i)=n
  ·rw[h4 (by lia)];exact⟨by lia,λz=>by lia⟩
  ·have hni:i∉eR b W n (cR b G T n).2:=λz=>he (dI.mp ((dD h e).mem_iff.mp z)).2;rw[GL hni];exact⟨by lia,λz=>by rw[h4 (by lia)];rfl⟩
def o9{l:List Int}{i:Nat}(h:l.length<=i):l.getD i 0=0:=by simp[zG,h]
def j3{G T:List Pl}{W:List Wy}(h:Wd G T W){off:List Int}(ho:Off off)(b:Bool):Off (bb b G T W off):=λi=>by
 by_cases hi:i < W.length
 ·exact ((Ae h ho b _ (yN _)).2 i hi).1.1
 ·rw[o9 (by rw[dv];lia)];exact qA 0
def D5{G T:List Pl}{W:List Wy}(h:Wd G T W){off:List Int}(ho:Off off)(b:Bool){i:Nat}(hi:i < W.length):(bb b G T W off).getD i 0<=off.getD i 0 :=
 ((Ae h ho b _ (yN _)).2 i hi).1.2
def BD{G T:List Pl}{W:List Wy}(h:Wd G T W){c:List Int}(ho:Off c){p:Nat×Int}(e:vd G T W c=some p):p.1 < W.length/\0<=p.2/\p.2 < c.getD p.1 0:=by
 unfold vd at e;let⟨k,hk,rfl⟩:=Dl.ah e;have hm:=jZ hk;have hq:=wG hk;have hi:=List.mem_range.mp hm;rw[qR,zJ] at hq;have a:=D5 h ho false hi;have b:=j3 h (j3 h ho false) true k;exact⟨hi,b,by simp only;lia⟩
def XY(c:List Int):Nat:=(c.map Int.toNat).sum
def sM:∀ {c:List Int}{k:Nat}{v:Int},0<=v->v < c.getD k 0->XY (c.set k v) < XY c
 | [],k,v,h0,h1=>by simp at h1;lia
 | x::c,0,v,h0,h1=>by
  simp at h1;simp?[XY,yW,zI,kF];lia
 | x::c,k+1,v,h0,h1=>by
  have:=sM (c:=c) (k:=k) h0 (by simpa using h1);simp?[XY,yX,zI,kF] at this ⊢;lia
def FB:∀ {W:List Wy},(∀w∈W,w.2.2<=9)->XY (cf W)<=9 * W.length
 | [],_=>by simp[XY,cf]
 | w::W,h=>by
  have:=FB (W:=W) λx hx=>h x (zC _ hx);have:=h w zE;simp?[XY,cf,zI,kF,zL] at *;lia
def sZ{G T:List Pl}{W:List Wy}(h:Wd G T W):Off (cf W):=λi=>by
 have:=h.lim i;by_cases hi:i < W.length
 ·simpa [cf,aP,zG,hi] using this
 ·rw[o9 (by rw[fZ];lia)];exact qA 0
def oz{c:List Int}(h:Off c){k:Nat}{v:Int}(hv:0<=v):Off (c.set k v):=λi=>by
 rw[cy];split
 ·exact hv
 ·exact h i
def ur(a:List Int):SeqAt.shaped (af a)=true :=
 (cI.tup (b:=a.length) (k:=0) (by simp) λx hx=>by let⟨i,_,rfl⟩:=List.mem_map.mp hx;exact kf _).shaped (by decide)
def uJ(a b:List Int):PyData.eqv (af a) (af b)=decide (a=b):=by
 rw[af,af,PyData.eqv,u4]
def aF(h:f ρ=some (.bool b)):fB f ρ=some b:=by
 simp?[fB,h,zA,gB]
def aM(h:t ρ=some b):bJ t ρ=some (!b):=by
 simp?[bJ,h,zB]
def uP(h:t ρ=some false)(h2:u ρ=some false):iM t u ρ=some false:=by
 simp?[iM,h,zA,h2]
def Ko(a b:List Int):gf (af a) (af b)=some (.bool (!decide (a=b))):=by
 simp?[gf,Nn,ur,jQ,xI,uJ,zB]
def C9(a b:List Int):bh (af a) (af b)=some (.bool (decide (a=b))):=by
 simp?[bh,MZ,ur,jQ,xI,uJ,zB]
def Jk(a:List Int):gf (af a) (af a)=some (.bool false):=by rw[Ko];simp
def O4(x:Option (Nat×Int)):lJ (Fn x) .none=some (.bool x.isSome):=by cases x<;>rfl
def aL(hA:f (aJ ρ)=some d)(hF:f (bK ρ)=some d)(hh:hand fz 0 ρ=ρ):Dl.aD i fz f ρ=some (.nx (ρ.set i (.val d))):=by
 cases hs:Dl.oW d with
 | true=>exact cn hA hs
 | false=>exact uw hh hA hF hs (.inr rfl)
def Az(hA:f (aJ ρ)=some d)(hF:f (bK ρ)=some d)(hh:hand fz 0 ρ=ρ)(ho:ρ[i]?=some (.own ds))(hl:ds.length < 4000):jc i fz f ρ=some (.nx (ρ.set i (.own (ds++[d])))):=by
 have hz:ds.length < sizeLine:=zP hl (by decide);have hi:mZ fz f ρ=some (d,ρ):=by
  unfold mZ;rw[hA,zA,hh,hF];cases Dl.oW d<;>rfl
 simp?[jc,hi,zA,sD,ho,hz,xI,zB]
def bU(h:Wd G T W):aZ [aw G T W]=some .none:=by
 have hw:bL [aw G T W]=some (.bool true):=by rw[nJ h.fit (by decide),h.wok]
 have hc:zq3 (aJ [.val (aw G T W)])=some false:=aM (aF (call_of hw rfl rfl));have:ee [.val (aw G T W)]=some (.nx [.val (aw G T W)]):=by
  unfold ee;rw[aK hc]
 show (ee [.val (aw G T W)]).map _=_;rw[this];rfl
def vx(h1:a<=i)(h2:i<=b):iU [.int i,.int a,.int b]=some .none:=by
 have hw:aX [.int i,.int a,.int b]=some (.bool true):=by rw[dF rfl];simp[whole,h1,h2]
 have hc:aaU (aJ [.val (.int i),.val (.int a),.val (.int b)])=some false:=aM (aF (call_of hw rfl rfl));have:dg [.val (.int i),.val (.int a),.val (.int b)]=some (.nx [.val (.int i),.val (.int a),.val (.int b)]):=by
  unfold dg;rw[aK hc]
 show (dg [.val (.int i),.val (.int a),.val (.int b)]).map _=_;rw[this];rfl
def uf(h1:0<=i)(h2:i<=n - 1):g8 [.int i,.int n]=some .none:=by
 have:cQ [.val (.int i),.val (.int n)]=some (.nx [.val (.int i),.val (.int n)]):=by
  unfold cQ;exact iq (call_of (vx h1 h2) (cons_of rfl (cons_of rfl (cons_of (aq (sub_int n 1) rfl rfl) rfl))) rfl)
 show (cQ [.val (.int i),.val (.int n)]).map _=_;rw[this];rfl
def AI(b:Bool):oS [.int (sI b)]=some .none:=by
 have:gK [.val (.int (sI b))]=some (.nx [.val (.int (sI b))]):=by
  unfold gK;exact iq (call_of (uf (n:=2) (i:=sI b) (by cases b<;>decide) (by cases b<;>decide)) rfl rfl)
 show (gK [.val (.int (sI b))]).map _=_;rw[this];rfl
abbrev Sp:=List (Nat×Int)×List Int
def LV(G T:List Pl)(W:List Wy)(s:Sp):Bool:=(vd G T W s.2).isSome
def spS(G T:List Pl)(W:List Wy)(s:Sp):Sp:=match vd G T W s.2 with|some p=>(s.1++[p],s.2.set p.1 p.2)|none=>s
def low(c:List Int)(p:Nat×Int):List Int:=c.set p.1 p.2
structure Jp(W:List Wy)(s:Sp):Prop where
 len:s.2.length=W.length
 off:Off s.2
 eq:s.2=s.1.foldl low (cf W)
 bd:s.1.length+XY s.2<=XY (cf W)
 mem:∀p∈s.1,p.1 < W.length
def Jp.start(h:Wd G T W):Jp W ([],cf W):=⟨fZ W,sZ h,rfl,by simp,λp hp=>by cases hp⟩
def Bl(e:vd G T W s.2=some p):spS G T W s=(s.1++[p],s.2.set p.1 p.2):=by
 unfold spS;rw[e]
def Jp.step(h:Wd G T W)(i:Jp W s)(e:vd G T W s.2=some p):Jp W (spS G T W s)/\XY (spS G T W s).2 < XY s.2:=by
 let⟨h1,h2,h3⟩:=BD h i.off e;have hm:=sM h2 h3;rw[Bl e];refine⟨⟨by simp[i.len],oz i.off h2,?_,?_,λq hq=>?_⟩,hm⟩
 ·rw[vK,<- i.eq];rfl
 ·have:=i.bd;simp?[zN,xD];lia
 ·rcases List.mem_append.mp hq with z|z
  ·exact i.mem q z
  ·rw[yK] at z;rw[z];exact h1
def Wd.XY(h:Wd G T W):XY (cf W)<=144:=by
 have:=FB (W:=W) λw hw=>(h.wr w hw).2.2.2;have:=h.wl;lia
def rJ(r:List (Nat×Int)):List D:=(r.map λp=>[((p.1:Nat):Int),p.2]).map af
def OK(r:List (Nat×Int))(p:Nat×Int):rJ (r++[p])=rJ r++[Fn (some p)]:=by simp[rJ];rfl
def Ox(r:List (Nat×Int)):(rJ r).length=r.length:=by simp[rJ]
def fin(G T:List Pl)(W:List Wy):Sp:=lp (LV G T W) (spS G T W) Rf.turns ([],cf W)
def U2:au->Option Out:=(ar (jc 1 [3] (ae 3)) (ar (Dl.aD 2 [2,3] (aj 3 dk (aa (ae 2) (aa (f2 av (ae 3) (fC (.int 0))) (aa (f2 av (ae 3) (fC (.int 1))) ag))))) (Dl.aD 3 [0,2] (aj 2 gU (aa (ae 0) (aa (ae 2) ag))))))
def P0(G T:List Pl)(W:List Wy)(s:Sp):au:=[.val (aw G T W),.own (rJ s.1),.val (af s.2),.val (Fn (vd G T W s.2))]
def N5(h:Wd G T W)(i:Jp W s)(e:vd G T W s.2=some p):U2 (P0 G T W s)=some (.nx (P0 G T W (spS G T W s))):=by
 let⟨h1,h2,h3⟩:=BD h i.off e;let⟨i2,hm⟩:=i.step h e;have hb:=h.XY;have hbd:=i.bd;have hw:=h.wl;have t1:jc 1 [3] (ae 3) (P0 G T W s)=some (.nx [.val (aw G T W),.own (rJ s.1++[Fn (some p)]),.val (af s.2),.val (Fn (some p))]):=by
  unfold P0;rw[e];exact Az rfl rfl rfl rfl (by rw[Ox];lia)
 have aiJ:∀ρ:Dl.Env,ae 2 ρ=some (af s.2)->ae 3 ρ=some (Fn (some p))->(aj 3 dk (aa (ae 2) (aa (f2 av (ae 3) (fC (.int 0))) (aa (f2 av (ae 3) (fC (.int 1))) ag)))) ρ=some (af (s.2.set p.1 p.2)):=λρ a b =>
  call_of (pV (c:=s.2) (i:=p.1) (v:=p.2) (by rw[i.len];exact h1) (by rw[i.len];lia)) (cons_of a (cons_of (aq (V9 _ _) b rfl) (cons_of (aq (UZ _ _ _) b rfl) rfl))) rfl
 have t2:Dl.aD 2 [2,3] (aj 3 dk (aa (ae 2) (aa (f2 av (ae 3) (fC (.int 0))) (aa (f2 av (ae 3) (fC (.int 1))) ag)))) [.val (aw G T W),.own (rJ s.1++[Fn (some p)]),.val (af s.2),.val (Fn (some p))]=some (.nx [.val (aw G T W),.own (rJ s.1++[Fn (some p)]),.val (af (s.2.set p.1 p.2)),.val (Fn (some p))]) :=
  aL (aiJ _ rfl rfl) (aiJ _ rfl rfl) rfl
 have hl2:(s.2.set p.1 p.2).length=W.length:=by rw[yC,i.len]
 have t3:Dl.aD 3 [0,2] (aj 2 gU (aa (ae 0) (aa (ae 2) ag))) [.val (aw G T W),.own (rJ s.1++[Fn (some p)]),.val (af (s.2.set p.1 p.2)),.val (Fn (some p))]=some (.nx [.val (aw G T W),.own (rJ s.1++[Fn (some p)]),.val (af (s.2.set p.1 p.2)),.val (Fn (vd G T W (s.2.set p.1 p.2)))]) :=
  aL (call_of (mq h hl2) rfl rfl) (call_of (mq h hl2) rfl rfl) rfl
 unfold U2;rw[ai t1,ai t2,t3,Bl e];unfold P0;rw[OK]
def Dk(h:LV G T W s=true):∃p,vd G T W s.2=some p:=Option.isSome_iff_exists.mp h
def F4(h:Wd G T W):j6 [aw G T W]=some (.list (rJ (fin G T W).1))/\Jp W (fin G T W):=by
 have hb:=h.XY;have t1:aU 1 [] aaQ [.val (aw G T W),.Xe,.Xe,.Xe]=some (.nx [.val (aw G T W),.own [],.Xe,.Xe]):=eI (f:=bZ ag) (ds:=[]) (show small []=some [] from bE (by simp)) rfl;have t2:Dl.aD 2 [0] aaR [.val (aw G T W),.own [],.Xe,.Xe]=some (.nx [.val (aw G T W),.own [],.val (af (cf W)),.Xe]) :=
  aL (call_of (ji h) rfl rfl) (call_of (ji h) rfl rfl) rfl
 have t3:Dl.aD 3 [0,2] aff [.val (aw G T W),.own [],.val (af (cf W)),.Xe]=some (.nx (P0 G T W ([],cf W))) :=
  aL (call_of (mq h (fZ W)) rfl rfl) (call_of (mq h (fZ W)) rfl rfl) rfl
 let⟨ρ',ew,⟨rfl,iv⟩,_⟩:=B9 (t:=afh) (gb:=U2) (R:=λs ρ=>ρ=P0 G T W s/\Jp W s) (LV G T W) (spS G T W) (λs=>XY s.2)
  (λs ρ ⟨Yh,i⟩=>by
   subst Yh;exact aF (aq (O4 _) rfl rfl))
  (λs ρ ⟨Yh,i⟩ hc=>by
   subst Yh;let⟨p,e⟩:=Dk hc;exact⟨_,N5 h i e,⟨rfl,(i.step h e).1⟩,(i.step h e).2⟩)
  Rf.turns ([],cf W) (P0 G T W ([],cf W)) (jA hb (by decide)) ⟨rfl,Jp.start h⟩
 refine⟨?_,iv⟩;refine aB ?_;show sN [.val (aw G T W),.Xe,.Xe,.Xe]=_;unfold sN;rw[ai t1,ai t2,ai t3];refine (ai ew).trans ?_;exact ay rfl
def sO(c:List Int)(p:Nat×Int):(low c p).length=c.length:=by simp[low]
def B4(h:Wd G T W)(hr:∀p∈r,p.1 < W.length):lK [aw G T W,.list (rJ r)]=some (af (r.foldl low (cf W))):=by
 have hw:=h.wl;have t2:Dl.aD 2 [0] aaR [.val (aw G T W),.val (.list (rJ r)),.Xe,.Xe,.Xe]=some (.nx [.val (aw G T W),.val (.list (rJ r)),.val (af (cf W)),.Xe,.Xe]) :=
  aL (call_of (ji h) rfl rfl) (call_of (ji h) rfl rfl) rfl
 let⟨ρ',e3,Yp,x,y,rfl⟩:=hU (tgt:=fj 3 4) (gb:=Dl.aD 2 [2,3,4] adW) (R:=λ(c:List Int) ρ=>c.length=W.length/\∃x y,ρ=[.val (aw G T W),.val (.list (rJ r)),.val (af c),x,y]) (λp:Nat×Int=>af [((p.1:Nat):Int),p.2]) low
  (l:=r) (s:=cf W) (ρ:=[.val (aw G T W),.val (.list (rJ r)),.val (af (cf W)),.Xe,.Xe])
  (λc ρ p hp ⟨hc,x,y,Yh⟩=>by
   subst Yh;have el:=pV (c:=c) (i:=p.1) (v:=p.2) (by rw[hc];exact hr p hp) (by lia);have t:Dl.aD 2 [2,3,4] adW [.val (aw G T W),.val (.list (rJ r)),.val (af c),.val (nD p.1),.val (.int p.2)]=some (.nx [.val (aw G T W),.val (.list (rJ r)),.val (af (low c p)),.val (nD p.1),.val (.int p.2)]) :=
    aL (call_of el rfl rfl) (call_of el rfl rfl) rfl
   exact⟨_,_,rfl,t,by rw[sO,hc],_,_,rfl⟩) ⟨fZ W,_,_,rfl⟩
 refine aB ?_;show oY [.val (aw G T W),.val (.list (rJ r)),.Xe,.Xe,.Xe]=_;unfold oY;rw[ai t2];refine (ai (bc e3 ?_ rfl)).trans (ay rfl);show some (rJ r)=_;rw[rJ,zM];rfl
def vq(h:Wd G T W):d9 [aw G T W]=some (af (bb false G T W (fin G T W).2)):=by
 let⟨e1,i⟩:=F4 h;have e2:=B4 h i.mem;rw[<- i.eq] at e2;refine aB ?_;show fU [.val (aw G T W)]=_;unfold fU;refine (ai (iq (call_of (bU h) rfl rfl))).trans ?_;exact ay (call_of (cm h i.len false) (cons_of rfl (cons_of rfl (cons_of (call_of e2 (cons_of rfl (cons_of (call_of e1 rfl rfl) rfl)) rfl) rfl))) rfl)
structure Ord(W:List Wy)(π:List Nat):Prop where
 perm:π.Perm (List.range W.length)
 up:π.Pairwise λi j=>(aP W i).2.1 < (aP W j).2.1\/((aP W i).2.1=(aP W j).2.1/\(aP W i).1 < (aP W j).1)
def nZ(b:Bool)(W:List Wy)(P:List Int)(p:Int):Int:=((own b W p).map λi=>P.getD i 0).sum
def L8{l m:List Int}(p:l.Perm m):l.sum=m.sum:=by
 induction p with
 | nil=>rfl
 | cons x _ ih=>simp[ih]
 | swap x y l=>simp?[kF];lia
 | trans _ _ h1 h2=>exact h1.trans h2
def vf(L:List Int)(x:Int):Nat:=L.findIdx λo=>decide (o=x)
def DP(b:Bool)(G T:List Pl)(W:List Wy)(P:List Int)(k:Nat):Bool :=
 decide (nZ b W P (aW b (aP W k)) < (cR b G T (aW b (aP W k)).toNat).1) ||
 ((cR b G T (aW b (aP W k)).toNat).2.drop (vf (cR b G T (aW b (aP W k)).toNat).2 (dm b (aP W k))+1)).any λo=>decide (0 < P.getD (sR b W (aW b (aP W k)) o) 0)
def so(G T:List Pl)(W:List Wy)(P:List Int)(k:Nat):Nat :=
 if P.getD k 0=(aP W k).2.2 then 0 else if DP false G T W P k=false then 1 else if DP true G T W P k=false then 2 else 3
def MV(G T:List Pl)(W:List Wy)(P:List Int):List Nat:=(List.range W.length).filter λk=>decide (so G T W P k=3)
def Wd.XZ(h:Wd G T W)(b:Bool)(hk:k < W.length):0<=aW b (aP W k)/\(aW b (aP W k)).toNat < (bC b G T).length/\((aW b (aP W k)).toNat:Int)=aW b (aP W k):=by
 have:=h.wr (aP W k) (by rw[<- nL hk];exact qB _);cases b
 ·simp?[aW,bC,yP,qQ];lia
 ·simp?[aW,bC,xI];lia
structure Pn(G T:List Pl)(W:List Wy)(P:List Int):Prop where
 len:P.length=W.length
 bd:∀k,k < W.length->0<=P.getD k 0/\P.getD k 0<=(aP W k).2.2
 am:∀ (b:Bool) (i:Nat),i < (bC b G T).length->nZ b W P i<=(cR b G T i).1
section
variable {off:List Int}
def Gr(h:Wd G T W)(b:Bool):∀ (n:Nat),n<=(bC b G T).length ->
  ((List.range n).foldl (yi b G T W off) (List.replicate W.length 0)).length=W.length/\∀k,k < W.length ->
   ((List.range n).foldl (yi b G T W off) (List.replicate W.length 0)).getD k 0=if aW b (aP W k) < n then (pI W off (cR b G T (aW b (aP W k)).toNat).1 (eR b W (aW b (aP W k)).toNat (cR b G T (aW b (aP W k)).toNat).2)).getD k 0 else 0
 | 0,_=>by
  refine⟨by simp,λk hk=>?_⟩;let⟨h1,_,_⟩:=h.XZ b hk;rw[yO (by lia)];simp[zG,hk]
 | n+1,hn=>by
  let⟨h1,h2⟩:=Gr h b n (by lia);rw[wD,vK,yJ,List.foldl_nil];generalize (List.range n).foldl (yi b G T W off) (List.replicate W.length 0)=s at h1 h2;refine⟨n9 h1,λk hk=>?_⟩;have hz:(yi b G T W off s n).getD k 0=s.getD k 0+(pI W off (cR b G T n).1 (eR b W n (cR b G T n).2)).getD k 0:=Cq (by lia) (by rw[AZ];exact hk);rw[hz,h2 k hk];let⟨g1,_,_⟩:=h.XZ b hk;have e:=pM (b:=b) (G:=G) (T:=T) (i:=n) (by lia);by_cases he:aW b (aP W k)=n
  ·have hn':(aW b (aP W k)).toNat=n:=by lia
   rw[yO (by lia),yM (by lia),hn'];lia
  ·have hni:k∉eR b W n (cR b G T n).2:=λz=>he (dI.mp ((dD h e).mem_iff.mp z)).2;rw[GL hni];by_cases Xw:aW b (aP W k) < n
   ·rw[yM Xw,yM (by lia)];lia
   ·rw[yO Xw,yO (by lia)];rfl
def JZ(h:Wd G T W)(b:Bool)(hk:k < W.length):(bb b G T W off).getD k 0=(pI W off (cR b G T (aW b (aP W k)).toNat).1 (eR b W (aW b (aP W k)).toNat (cR b G T (aW b (aP W k)).toNat).2)).getD k 0:=by
 have:=(Gr (off:=off) h b _ (yN _)).2 k hk;let⟨_,h2,h3⟩:=h.XZ b hk;rw[yM (by lia)] at this;exact this
def Gc{amt:Int}:∀ (is:List Nat) (s:Int×List Int),is.Nodup->(∀i∈is,i < s.2.length/\s.2.getD i 0=0) ->
  ((is.foldl (jh W off) s).2.length=s.2.length)/\(is.map λi=>(is.foldl (jh W off) s).2.getD i 0).sum=s.1 - (is.foldl (jh W off) s).1/\∀j,j∉is->(is.foldl (jh W off) s).2.getD j 0=s.2.getD j 0
 | [],s,_,_=>⟨rfl,by simp,λ_ _=>rfl⟩
 | i::is,s,hn,hz=>by
  rw[vC] at hn;let⟨hi,h0⟩:=hz i zE;have hs:∀j∈is,j < (jh W off s i).2.length/\(jh W off s i).2.getD j 0=0:=λj hj=>by
   let⟨a,b⟩:=hz j (zC _ hj);refine⟨by simpa [jh] using a,?_⟩;simp?[jh,cy];have XA:¬ (i=j/\j < s.2.length):=λz=>hn.1 (z.1 ▸ hj);rw[yO XA,b]
  let⟨r1,r2,r3⟩:=Gc (amt:=amt) is (jh W off s i) hn.2 hs;rw[yJ];refine⟨by rw[r1];simp[jh],?_,λj hj=>?_⟩
  ·rw[zI,kF,r2,r3 i hn.1];simp?[jh,cy];rw[yM ⟨trivial,hi⟩];lia
  ·rw[r3 j λz=>hj (zC _ z)];simp?[jh,cy];have XA:¬ (i=j/\j < s.2.length):=λz=>hj (z.1 ▸ zE);rw[yO XA]
def C7(ho:Off off)(hl:UG W):∀ (is:List Nat) (s:Int×List Int),0<=s.1->0<=(is.foldl (jh W off) s).1
 | [],s,h=>h
 | i::is,s,h=>by
  rw[yJ];refine C7 ho hl is _ ?_;simp?[jh,cV];have:=ho i;have:=hl i;lia
def Ph(h:Wd G T W)(ho:Off off)(hi:i < (bC b G T).length) :
  ((own b W i).map λk=>(pI W off (cR b G T i).1 (eR b W i (cR b G T i).2)).getD k 0).sum<=(cR b G T i).1:=by
 have e:=pM hi;have pm:=dD h e;rw[<- L8 (pm.map λk=>(pI W off (cR b G T i).1 (eR b W i (cR b G T i).2)).getD k 0)];have hn:(eR b W i (cR b G T i).2).Nodup:=pm.nodup_iff.mpr (List.nodup_range.filter _);let⟨_,r2,_⟩:=Gc (W:=W) (off:=off) (amt:=0) (eR b W i (cR b G T i).2) ((cR b G T i).1,List.replicate W.length 0) hn λk hk=>by
  have Yo:=(dI.mp (pm.mem_iff.mp hk)).1;refine⟨by simpa using Yo,by simp[zG,Yo]⟩
 have:=C7 ho h.lim (eR b W i (cR b G T i).2) ((cR b G T i).1,List.replicate W.length 0) (h.amt b i);unfold pI;rw[r2];show (cR b G T i).1 - _<=(cR b G T i).1;lia
def GW(h:Wd G T W)(ho:Off off)(hi:i < (bC b G T).length):nZ b W (bb b G T W off) i<=(cR b G T i).1:=by
 refine jV (Int.le_of_eq ?_) (Ph h ho hi);unfold nZ
 congr 1
 refine yI λk hk=>?_;let⟨Yo,he⟩:=dI.mp hk;have:=JZ (off:=off) h b Yo;rw[he,yG] at this;exact this
def pR(h:∀k,k < W.length->P.getD k 0=Q.getD k 0):nZ b W P p=nZ b W Q p:=by
 unfold nZ
 congr 1
 exact yI λk hk=>h k (dI.mp hk).1
def Oi(h:Wd G T W)(ho:Off c)(hc:∀k,k < W.length->c.getD k 0<=(aP W k).2.2)(e:vd G T W c=none):Pn G T W (bb false G T W c) where
 len:=dv _ _ _ _ _
 bd:=λk hk=>⟨j3 h ho false k,jV (D5 h ho false hk) (hc k hk)⟩
 am:=λb i hi=>by
  cases b
  ·exact GW h ho hi
  ·have hke:∀k,k < W.length->(dY G T W c).getD k 0=(bb false G T W c).getD k 0:=λk hk=>by
    have h1:=D5 h (j3 h ho false) true hk;have h2:qR G T W c k=false:=by
     unfold vd at e;rw[Option.map_eq_none_iff] at e;have:=List.find?_eq_none.mp e k (by simpa using hk);simpa using this
    unfold qR at h2;have h3:=Za h2;unfold dY at h3 ⊢;lia
   rw[<- pR hke];exact GW h (j3 h ho false) hi
end
def v9(G T:List Pl)(W:List Wy)(P:List Int):Bool :=
 ((List.range G.length).all λi=>decide (nZ false W P i<=(cR false G T i).1))&&((List.range T.length).all λi=>decide (nZ true W P i<=(cR true G T i).1))
def zs(n:Nat):List Int:=List.replicate n 0
def nN(d:Nat->Int)(G T:List Pl)(W:List Wy):Nat->List Int
 | 0=>[]
 | k+1=>if v9 G T W ((nN d G T W k++[d k])++zs (W.length - (nN d G T W k++[d k]).length))=true then nN d G T W k++[d k] else nN d G T W k++[0]
section
variable {W:List Wy}{G T:List Pl}{d:Nat->Int}
def je:v9 G T W P=true↔∀ (b:Bool) (i:Nat),i < (bC b G T).length->nZ b W P i<=(cR b G T i).1:=by
 unfold v9;rw[zF,xH,xH];constructor
 ·rintro⟨h1,h2⟩ b i hi;cases b
  ·exact yR (h1 i (by simpa [bC] using hi))
  ·exact yR (h2 i (by simpa [bC] using hi))
 ·intro h;exact⟨λi hi=>yA (h false i (by simpa [bC] using hi)),λi hi=>yA (h true i (by simpa [bC] using hi))⟩
def oA:∀k,(nN d G T W k).length=k
 | 0=>rfl
 | k+1=>by
  unfold nN;split<;>simp[oA k]
def KU(h:∀k,P.getD k 0=0):nZ b W P p=0:=by
 unfold nZ;have:((own b W p).map λi=>P.getD i 0)=(own b W p).map λ_=>(0:Int):=yI λk _=>h k;rw[this];generalize own b W p=l
 induction l with
 | nil=>rfl
 | cons a l ih=>simp[ih]
def PD(n k:Nat):(zs n).getD k 0=0:=by
 simp?[zs,zG,yY];split<;>rfl
def Kp(l:List Int)(n k:Nat):(l++zs n).getD k 0=l.getD k 0:=by
 by_cases h:k < l.length
 ·simp[zG,yT h]
 ·have h':l.length<=k:=by lia
  have:=PD n (k - l.length);simp?[zG] at this ⊢;rw[yU h',this];simp[h']
def V0(l:List Int)(k:Nat):(l++[0]).getD k 0=l.getD k 0:=Kp l 1 k
def FN(h:Wd G T W):∀k,v9 G T W (nN d G T W k)=true
 | 0=>je.mpr λb i hi=>by
  rw[KU λk=>by simp[nN]];exact h.amt b i
 | k+1=>by
  unfold nN;split
  ·rename_i e;refine je.mpr λb i hi=>?_;have:=je.mp e b i hi;rw[pR (Q:=nN d G T W k++[d k]) λj _=>Kp _ _ _] at this;exact this
  ·refine je.mpr λb i hi=>?_;rw[pR (Q:=nN d G T W k) λj _=>V0 _ _];exact je.mp (FN h k) b i hi
def Fy(hd:∀k,k < W.length->0<=d k/\d k<=(aP W k).2.2)(hl:UG W):∀k,k<=W.length->∀j,j < k->0<=(nN d G T W k).getD j 0/\(nN d G T W k).getD j 0<=(aP W j).2.2
 | 0,_,j,hj=>by lia
 | k+1,hk,j,hj=>by
  have ih:=Fy hd hl k (by lia) j;have len:(nN d G T W k).length=k:=oA k;have key:∀x,(0<=x/\x<=(aP W k).2.2)->0<=(nN d G T W k++[x]).getD j 0/\(nN d G T W k++[x]).getD j 0<=(aP W j).2.2:=λx hx=>by
   by_cases hjk:j < k
   ·rw[zG,yT (by lia),<- zG];exact ih hjk
   ·have:j=k:=by lia
    subst this;rw[zG,yU (by lia),len];simpa using hx
  unfold nN;split
  ·exact key _ (hd k (by lia))
  ·exact key _ ⟨by lia,hl k⟩
def Rl(h:Wd G T W)(hd:∀k,k < W.length->0<=d k/\d k<=(aP W k).2.2):Pn G T W (nN d G T W W.length) where
 len:=oA _
 bd:=Fy hd h.lim W.length (yN _)
 am:=je.mp (FN h _)
end
def yb{tt:Dl.Env->Option Bool}{te:Dl.Env->Option D}{r:List (Option D)}{x y h:Nat->D}{p:Nat->Bool}:∀ (is:List Nat),
  (∀i∈is,tt (some (x i)::some (y i)::r)=some (p i)/\(p i=true->te (some (x i)::some (y i)::r)=some (h i))) ->
  et (gE 0 1) tt te (none::none::r) (is.map λi=>.tuple [x i,y i])=some ((is.filter p).map h)
 | [],_=>rfl
 | i::is,hh=>by
  let⟨h1,h2⟩:=hh i zE;have ih:=yb is λj hj=>hh j (zC _ hj);have hg:gE 0 1 (none::none::r) (.tuple [x i,y i])=some (some (x i)::some (y i)::r):=by
   simp?[gE,isFree,xR,yZ,qH,Zb,jQ,xI,yW,yX]
  rw[zI,et,hg];simp?[zA,h1];cases hp:p i with
  | true=>simp[h2 hp,ih,hp]
  | false=>simp[ih,hp]
def jr{cs:List Nat}{fi:Dl.Env->Option (List D)}{tt:Dl.Env->Option Bool}{te:Dl.Env->Option D}{ρ:Dl.Env}{n:Nat}{x y h:Nat->D}{p:Nat->Bool}(Yw:fi ρ=some ((List.range n).map λi=>.tuple [x i,y i]))(hl:n<=1000)
  (hh:∀i,i < n->tt (some (x i)::some (y i)::cs.map λj=>(ρ[j]?).getD none)=some (p i)/\(p i=true->te (some (x i)::some (y i)::cs.map λj=>(ρ[j]?).getD none)=some (h i))) :
  ax 2 cs fi (gE 0 1) tt te ρ=some (((List.range n).filter p).map h):=by
 have:=yb (tt:=tt) (te:=te) (r:=cs.map λj=>(ρ[j]?).getD none) (p:=p) (h:=h) (List.range n) λi hi=>hh i (by simpa using hi);simp?[ax,Yw,zA,gH,List.replicate,xG,xP,this];refine bE ?_;rw[zD];refine yD (xQ _ _) ?_;rw[zR];lia
def yz{W:List Wy}{P:List Int}(h:P.length=W.length):hZ (W.map aE) (P.map PyData.int)=(List.range W.length).map λi=>.tuple [aE (aP W i),.int (P.getD i 0)]:=by
 apply List.ext_getElem?;intro i;by_cases hi:i < W.length
 ·have hz:i < (hZ (W.map aE) (P.map PyData.int)).length:=by rw[pq];simp[h];exact hi
  rw[zK hz];let⟨x,y,e1,e2,e3⟩:=uc (zK hz);rw[zO,oU hi] at e1;rw[zO,zK (by lia)] at e2;cases e1;have e2:PyData.int P[i]=y:=by simpa using e2
  rw[e3,<- e2];have:i < P.length:=by lia
  simp[hi,this,zG]
 ·rw[jN (by rw[pq];simp;lia),jN (by simp;lia)]
def Sm(P:List Int):Prop:=∀k,-1000000<=P.getD k 0/\P.getD k 0<=1000000
def Gy(hs:Sm P)(hw:W.length<=16)(b:Bool)(p:Int):PN ((own b W p).map λi=>P.getD i 0)=true:=by
 unfold PN;rw[zF,zJ,xH];refine⟨?_,λx hx=>?_⟩
 ·have:=An b W p;rw[zD];lia
 ·let⟨i,_,rfl⟩:=List.mem_map.mp hx;rw[zF,zJ,zJ];exact hs i
def zl(h:Wd G T W)(hp:P.length=W.length)(hs:Sm P)(b:Bool)(p:Int):dM [aw G T W,af P,.int (sI b),.int p]=some (.int (nZ b W P p)):=by
 have hw:=h.wl;refine aB ?_;show qq [.val (aw G T W),.val (af P),.val (.int (sI b)),.val (.int p)]=_;have hz:cO (aa (f2 av (ae 0) (fC (.int 2))) (aa (ae 1) ag)) [some (aw G T W),some (af P),some (.int (sI b)),some (.int p)]=some ((List.range W.length).map λi=>.tuple [aE (aP W i),.int (P.getD i 0)]):=by
  rw[<- yz hp];rfl
 have c:ax 2 [2,3] (cO (aa (f2 av (ae 0) (fC (.int 2))) (aa (ae 1) ag))) (gE 0 1) (fB (f2 bh (f2 av (ae 0) (ae 2)) (ae 3))) (ae 1) [some (aw G T W),some (af P),some (.int (sI b)),some (.int p)]=some ((own b W p).map λi=>.int (P.getD i 0)):=by
  rw[jr (p:=λi=>decide (aW b (aP W i)=p)) (h:=λi=>.int (P.getD i 0)) hz (by lia) λi hi=>⟨?_,λ_=>rfl⟩]
  ·rfl
  ·show fB (f2 bh (f2 av (ae 0) (ae 2)) (ae 3)) [some (aE (aP W i)),some (.int (P.getD i 0)),some (.int (sI b)),some (.int p)]=_;exact aF (by rw[js (a:=.int (aW b (aP W i))) (b:=.int p) (aq (mG b _) rfl rfl) rfl,bV])
 refine ay ?_;have e:((own b W p).map λi=>PyData.int (P.getD i 0))=((own b W p).map λi=>P.getD i 0).map PyData.int:=by rw[zM];rfl
 show bu vy (aa (cq (ax 2 [2,3] (cO (aa (f2 av (ae 0) (fC (.int 2))) (aa (ae 1) ag))) (gE 0 1) (fB (f2 bh (f2 av (ae 0) (ae 2)) (ae 3))) (ae 1))) ag) [some (aw G T W),some (af P),some (.int (sI b)),some (.int p)]=_;rw[e] at c;simp?[bu,aa,ag,cq,c,zB,zA];show vy [.list (((own b W p).map λi=>P.getD i 0).map PyData.int)]=_;simp?[vy,fy,oneOf,hJ,zA,cX,Gy hs hw b p,xI];rfl
def uC(L:List Pl):bP 0 (L.map bG)=(List.range L.length).map λi=>.tuple [nD i,bG (L.getD i (0,[]))]:=by
 rw[enum_zip];apply jI
 ·simp
 ·intro i h1 h2;have:i < L.length:=by simpa using h2
  simp[this,zG]
def qd(is:List Nat):jl [.list (is.map λi=>.bool (p i))]=some (.bool (is.all p)):=by
 have:∀is:List Nat,boolsOf (is.map λi=>PyData.bool (p i))=some (is.map p):=λis=>by
  induction is with
  | nil=>rfl
  | cons i is ih=>simp[boolsOf,ih]
 simp?[jl,oneOf,zA,this,zB,List.all_map];rfl
def GD(h:Wd G T W)(hp:P.length=W.length)(hs:Sm P)(b:Bool):da [aw G T W,af P,.int (sI b)]=some (.bool ((List.range (bC b G T).length).all λi=>decide (nZ b W P i<=(cR b G T i).1))):=by
 have hl:=h.pl b;refine aB ?_;show gC [.val (aw G T W),.val (af P),.val (.int (sI b))]=_;have he:bQ (aa (f2 av (ae 0) (ae 2)) ag) [some (aw G T W),some (af P),some (.int (sI b))]=some ((List.range (bC b G T).length).map λi=>.tuple [nD i,bG (cR b G T i)]):=by
  have:=uC (bC b G T);unfold cR;rw[<- this];cases b<;>rfl
 have c:=jr (cs:=[0,1,2]) (tt:=λ_=>some true) (te:=f2 rT (aj 4 dM (aa (ae 2) (aa (ae 3) (aa (ae 4) (aa (ae 0) ag))))) (f2 av (ae 1) (fC (.int 0)))) (p:=λ_=>true) (h:=λi=>.bool (decide (nZ b W P i<=(cR b G T i).1))) he (by lia) λi hi=>⟨rfl,λ_=>aq (a:=.int (nZ b W P i)) (b:=.int (cR b G T i).1) rfl (call_of (zl h hp hs b i) rfl rfl) rfl⟩
 refine ay ?_;show bu jl (aa (cq (ax 2 [0,1,2] (bQ (aa (f2 av (ae 0) (ae 2)) ag)) (gE 0 1) (λ_=>some true) (f2 rT (aj 4 dM (aa (ae 2) (aa (ae 3) (aa (ae 4) (aa (ae 0) ag))))) (f2 av (ae 1) (fC (.int 0)))))) ag) [some (aw G T W),some (af P),some (.int (sI b))]=_;simp?[bu,aa,ag,cq,c,zB,zA];rw[show (List.range (bC b G T).length).filter (λ_=>true)=List.range (bC b G T).length by simp,qd]
def uY(ha:fa ρ=some (.bool true))(hb:fb ρ=some d):gy fa fb ρ=some d:=by
 simp?[gy,ha,zA,hb]
def Oz(ha:fa ρ=some (.bool false)):gy fa fb ρ=some (.bool false):=by
 simp?[gy,ha,zA]
def NX(ha:fa ρ=some (.bool a))(hb:fb ρ=some (.bool b)):gy fa fb ρ=some (.bool (a&&b)):=by
 cases a
 ·exact Oz ha
 ·exact uY ha hb
def lg(h:f ρ=some d):bu g (aa f ag) ρ=g [d]:=by
 simp?[bu,aa,ag,h,zB,zA]
def iN{l:List α}(h:f ρ=some (.tuple (l.map k))):bu bz (aa f ag) ρ=some (nD l.length):=by
 rw[lg h,Bi,zD]
def UI(W:List Wy)(P:List Int):Bool:=(List.range W.length).all λk=>decide (0<=P.getD k 0)&&decide (P.getD k 0<=(aP W k).2.2)
def FT(b:Bool)(G T:List Pl)(W:List Wy)(P:List Int):Bool:=(List.range (bC b G T).length).all λi=>decide (nZ b W P i<=(cR b G T i).1)
def T6(G T:List Pl)(W:List Wy)(P:List Int):Bool:=UI W P&&(FT false G T W P&&FT true G T W P)
def NA(hp:P.length=W.length):T6 G T W P=true↔Pn G T W P:=by
 simp?[T6,UI,FT,zF,xH,zS,zJ];constructor
 ·rintro⟨h1,h2,h3⟩;exact⟨hp,h1,λb=>by cases b<;>assumption⟩
 ·intro p;exact⟨p.bd,p.am false,p.am true⟩
def Rq(P:List Int):jt (af P)=true:=rfl
def Ji(h:Wd G T W)(hp:P.length=W.length)(hs:Sm P):dc [aw G T W,af P]=some (.bool (T6 G T W P)):=by
 have hw:=h.wl;have hlen:(P.map PyData.int).length=W.length:=by rw[zD,hp]
 refine aB ?_;show gW [.val (aw G T W),.val (af P),.Xe]=_;unfold gW;have t1:Dl.aD 2 [0] (f2 av (ae 0) (fC (.int 2))) [.val (aw G T W),.val (af P),.Xe]=some (.nx [.val (aw G T W),.val (af P),.val (.tuple (W.map aE))]):=di (d:=.tuple (W.map aE)) rfl rfl rfl rfl;rw[ai t1];have el:bg [af P,nD W.length,nD W.length]=some (.bool true):=by
  rw[show nD W.length=.int ((W.length:Nat):Int) from rfl,dh (Rq P)];simp[long,af,hp]
 have hl:∀ρ:Dl.Env,ae 2 ρ=some (.tuple (W.map aE))->bu bz (aa (ae 2) ag) ρ=some (nD W.length):=λρ hr=>iN hr;have c1:(bJ (fB (aj 3 bg (aa (ae 1) (aa (bu bz (aa (ae 2) ag)) (aa (bu bz (aa (ae 2) ag)) ag)))))) (aJ [.val (aw G T W),.val (af P),.val (.tuple (W.map aE))])=some false :=
  aM (aF (call_of el (cons_of rfl (cons_of (hl _ rfl) (cons_of (hl _ rfl) rfl))) rfl))
 rw[ai (aK c1)];have hz:cO (aa (ae 2) (aa (ae 1) ag)) [some (aw G T W),some (af P),some (.tuple (W.map aE))]=some ((List.range W.length).map λi=>.tuple [aE (aP W i),.int (P.getD i 0)]):=by
  rw[<- yz hp];rfl
 have c2:=jr (cs:=[]) (tt:=λ_=>some true) (te:=aj 3 aX (aa (ae 1) (aa (fC (.int 0)) (aa (f2 av (ae 0) (fC (.int 2))) ag)))) (p:=λ_=>true) (h:=λk=>.bool (decide (0<=P.getD k 0)&&decide (P.getD k 0<=(aP W k).2.2))) hz (by lia)
  λi hi=>⟨rfl,λ_=>call_of (dF (d:=.int (P.getD i 0)) rfl 0 (aP W i).2.2) rfl rfl⟩
 have Ye:(fB (bu jl (aa (cq (ax 2 [] (cO (aa (ae 2) (aa (ae 1) ag))) (gE 0 1) (λ_=>some true) (aj 3 aX (aa (ae 1) (aa (fC (.int 0)) (aa (f2 av (ae 0) (fC (.int 2))) ag)))))) ag))) [some (aw G T W),some (af P),some (.tuple (W.map aE))]=some (UI W P):=by
  refine aF ?_;simp?[bu,aa,ag,cq,c2,zB,zA];rw[show (List.range W.length).filter (λ_=>true)=List.range W.length by simp,qd];rfl
 have k0:=GD h hp hs false;have k1:=GD h hp hs true;cases hb:UI W P with
 | false =>
  rw[hb] at Ye;refine bp ((aQ (aM Ye)).trans ?_);rw[T6,hb];exact ay rfl
 | true =>
  rw[hb] at Ye;rw[ai (aK (aM Ye)),T6,hb,jM];exact ay (NX (call_of k0 rfl rfl) (call_of k1 rfl rfl))
def qw(hk:k < W.length):aP W k∈W:=nL hk ▸ qB hk
def Pn.smP(h:Wd G T W)(p:Pn G T W P):Sm P:=λk=>by
 by_cases hk:k < W.length
 ·have:=p.bd k hk;have:=(h.wr _ (qw hk)).2.2.2;lia
 ·rw[zG,jN (by rw[p.len];lia)];simp
def m5(h:Wd G T W)(p:Pn G T W P):dc [aw G T W,af P]=some (.bool true):=by
 rw[Ji h p.len (p.smP h),(NA p.len).mpr p]
def zx(h:Wd G T W)(p:Pn G T W P):cW [aw G T W,af P]=some .none:=by
 have:eY [.val (aw G T W),.val (af P)]=some (.nx [.val (aw G T W),.val (af P)]):=by
  unfold eY;refine (ai (iq (call_of (bU h) rfl rfl))).trans ?_;exact aK (aM (aF (call_of (m5 h p) rfl rfl)))
 show (eY [.val (aw G T W),.val (af P)]).map _=_;rw[this];rfl
def tup_is(h:fs ρ=some ds)(hl:ds.length<=1000):aH fs ρ=some (.tuple ds):=by
 simp?[aH,h,zA,bE (show ds.length<=4000 by lia),zB]
def qt{cs:List Nat}{fi:Dl.Env->Option (List D)}{te:Dl.Env->Option D}{ρ:Dl.Env}{is:List Nat}{f:Nat->D}(Yw:fi ρ=some (is.map nD))(hl:is.length<=1000)(hh:∀i∈is,te (some (nD i)::cs.map λj=>(ρ[j]?).getD none)=some (f i)):ax 1 cs fi (fG 0) (λ_=>some true) te ρ=some (is.map f):=by
 rw[bR (h:=λd=>f (iY d).toNat) Yw (by rw[zD];lia) λd hd=>?_]
 ·rw[zM];refine jD some (yI λi _=>?_);simp[iY]
 ·let⟨i,hi,rfl⟩:=List.mem_map.mp hd;rw[hh i hi];simp[iY]
def NQ(h:f ρ=some (.list ds))(h2:g ρ=some (nD k)):cF bw f (mC g) cZ ρ=some (.list (ds.drop k)):=by
 have:=Dg ds k;simp?[cF,h,mC,h2,cZ,gI,bw,zA,zB,this]
def IA(is:List Nat):Rf.MJ [.list (is.map λi=>.bool (p i))]=some (.bool (is.any p)):=by
 have:∀is:List Nat,boolsOf (is.map λi=>PyData.bool (p i))=some (is.map p):=λis=>by
  induction is with
  | nil=>rfl
  | cons i is ih=>simp[boolsOf,ih]
 simp?[Rf.MJ,oneOf,zA,this,zB,List.any_map];rfl
def oh(f:α->β)(p:β->Bool)(q:α->Bool):∀ (l:List α),(∀x∈l,p (f x)=q x)->(l.map f).findIdx p=l.findIdx q
 | [],_=>rfl
 | x::l,h=>by
  rw[zI,vL,vL,h x zE,oh f p q l λy hy=>h y (zC _ hy)]
def RR(h:Wd G T W){b:Bool}{i:Nat}(e:(bC b G T)[i]?=some p){k:Nat}(hk:k < W.length)(he:aW b (aP W k)=i):nU (.list ((eR b W i p.2).map nD)) (nD k)=some (nD (vf p.2 (dm b (aP W k)))):=by
 have ko:k∈own b W i:=dI.mpr ⟨hk,he⟩;have km:k∈eR b W i p.2:=(dD h e).mem_iff.mpr ko;have e1:(eR b W i p.2).map nD=((eR b W i p.2).map λj=>((j:Nat):Int)).map PyData.int:=by rw[zM];rfl
 have m1:((k:Nat):Int)∈(eR b W i p.2).map λj=>((j:Nat):Int):=List.mem_map.mpr ⟨k,km,rfl⟩;rw[e1];show (intsOf _).bind _=_;rw[cX,zA,mM m1,zB];have e2:((eR b W i p.2).map λj=>((j:Nat):Int)).findIdx (λo=>decide (o=((k:Nat):Int)))=vf p.2 (dm b (aP W k)):=by
  unfold eR vf;rw[zM];refine oh _ _ _ _ λx hx=>?_;let⟨hl,h1,h2⟩:=iC h e hx;show decide (((sR b W i x:Nat):Int)=(k:Int))=decide (x=dm b (aP W k));rw[decide_eq_decide];constructor
  ·intro z;have z:sR b W i x=k:=by lia
   rw[<- z,h2]
  ·intro z;rw[z,DV h.wp ko]
 rw[e2]
def pF(h:Wd G T W)(hp:P.length=W.length)(hs:Sm P)(b:Bool){k:Nat}(hk:k < W.length):e8 [aw G T W,af P,.int (sI b),nD k]=some (.bool (DP b G T W P k)):=by
 have hw:=h.wl;let⟨z1,z2,z3⟩:=h.XZ b hk;have hx:(bC b G T)[(aW b (aP W k)).toNat]?=some (cR b G T (aW b (aP W k)).toNat):=by
  rw[zK z2];simp[cR,z2]
 have hL:∀x∈(cR b G T (aW b (aP W k)).toNat).2,_:=λx hx'=>iC h hx hx';have hb:(cR b G T (aW b (aP W k)).toNat).2.length<=16:=by
  have:=(dD h hx).length_eq;have h2:=An b W ((aW b (aP W k)).toNat:Int);unfold eR at this;rw[zD] at this;lia
 have ei:=RR h hx hk z3.symm;have ew:=yo h hx;generalize Yb:cR b G T (aW b (aP W k)).toNat=pl at *;generalize hj:(aW b (aP W k)).toNat=j at *;have ez:PyData.int (aW b (aP W k))=nD j:=by rw[<- z3]
 refine aB ?_;show gL [.val (aw G T W),.val (af P),.val (.int (sI b)),.val (nD k),.Xe,.Xe,.Xe]=_;unfold gL;have t4:Dl.aD 4 [0,2,3] (f2 av (f2 av (f2 av (ae 0) (fC (.int 2))) (ae 3)) (ae 2)) [.val (aw G T W),.val (af P),.val (.int (sI b)),.val (nD k),.Xe,.Xe,.Xe]=some (.nx [.val (aw G T W),.val (af P),.val (.int (sI b)),.val (nD k),.val (nD j),.Xe,.Xe]):=by
  rw[<- ez];exact cn (d:=.int (aW b (aP W k))) (aq (mG b _) (aq (qa hk) rfl rfl) rfl) rfl
 rw[ai t4];have ep:av (.tuple ((bC b G T).map bG)) (nD j)=some (bG pl):=nQ hx;have ct:(fB (f2 v5 (aj 4 dM (aa (ae 0) (aa (ae 1) (aa (ae 2) (aa (ae 4) ag))))) (f2 av (f2 av (f2 av (ae 0) (ae 2)) (ae 4)) (fC (.int 0))))) (aJ [.val (aw G T W),.val (af P),.val (.int (sI b)),.val (nD k),.val (nD j),.Xe,.Xe])=some (decide (nZ b W P j < pl.1)):=by
  refine aF (aq (kr _ _) (call_of (zl h hp hs b j) rfl rfl) ?_);refine aq (a:=bG pl) (b:=.int 0) rfl (aq ep (aq (gN b G T W) rfl rfl) rfl) rfl
 have hm:DP b G T W P k=(decide (nZ b W P j < pl.1)||(pl.2.drop (vf pl.2 (dm b (aP W k))+1)).any λo=>decide (0 < P.getD (sR b W j o) 0)):=by
  unfold DP;rw[hj,Yb,z3]
 rw[hm];cases hc:decide (nZ b W P j < pl.1) with
 | true =>
  rw[hc] at ct;exact bp ((aQ ct).trans (ay rfl))
 | false =>
  rw[hc] at ct;rw[ai (aK ct),Bool.false_or];have t5:Dl.aD 5 [0,2,4] (aj 3 fQ (aa (ae 0) (aa (ae 2) (aa (ae 4) ag)))) [.val (aw G T W),.val (af P),.val (.int (sI b)),.val (nD k),.val (nD j),.Xe,.Xe]=some (.nx [.val (aw G T W),.val (af P),.val (.int (sI b)),.val (nD k),.val (nD j),.val (.list ((eR b W j pl.2).map nD)),.Xe]) :=
   aL (call_of ew rfl rfl) (call_of ew rfl rfl) rfl
  rw[ai t5];have cu:∀ρ:Dl.Env,ae 5 ρ=some (.list ((eR b W j pl.2).map nD))->ae 3 ρ=some (nD k)->(cF bw (ae 5) (mC (f2 aA (f2 nU (ae 5) (ae 3)) (fC (.int 1)))) cZ) ρ=some (.list (((eR b W j pl.2).map nD).drop (vf pl.2 (dm b (aP W k))+1))):=λρ a c =>
   NQ a (aq (cB _ _) (aq ei a c) rfl)
  have t6:Dl.aD 6 [3,5] (cF bw (ae 5) (mC (f2 aA (f2 nU (ae 5) (ae 3)) (fC (.int 1)))) cZ) [.val (aw G T W),.val (af P),.val (.int (sI b)),.val (nD k),.val (nD j),.val (.list ((eR b W j pl.2).map nD)),.Xe]=some (.nx [.val (aw G T W),.val (af P),.val (.int (sI b)),.val (nD k),.val (nD j),.val (.list ((eR b W j pl.2).map nD)),.val (.list (((eR b W j pl.2).drop (vf pl.2 (dm b (aP W k))+1)).map nD))]):=by
   rw[List.map_drop];exact aL (cu _ rfl rfl) (cu _ rfl rfl) rfl
  rw[ai t6];have c:ax 1 [1] (bI (ae 6)) (fG 0) (λ_=>some true) (f2 EV (f2 av (ae 1) (ae 0)) (fC (.int 0))) [some (aw G T W),some (af P),some (.int (sI b)),some (nD k),some (nD j),some (.list ((eR b W j pl.2).map nD)),some (.list (((eR b W j pl.2).drop (vf pl.2 (dm b (aP W k))+1)).map nD))]=some (((eR b W j pl.2).drop (vf pl.2 (dm b (aP W k))+1)).map λi=>.bool (decide (0 < P.getD i 0))):=by
   refine qt rfl ?_ λi hi=>?_
   ·rw[qJ,eR,zD];lia
   ·have YB:=wR hi;unfold eR at YB;let⟨x,hx',rfl⟩:=List.mem_map.mp YB;exact aq (fg _ _) (aq (dR (by rw[hp];exact (hL x hx').1)) rfl rfl) rfl
  refine ay ?_;show bu Rf.MJ (aa (cq (ax 1 [1] (bI (ae 6)) (fG 0) (λ_=>some true) (f2 EV (f2 av (ae 1) (ae 0)) (fC (.int 0))))) ag) [some (aw G T W),some (af P),some (.int (sI b)),some (nD k),some (nD j),some (.list ((eR b W j pl.2).map nD)),some (.list (((eR b W j pl.2).drop (vf pl.2 (dm b (aP W k))+1)).map nD))]=_;simp?[bu,aa,ag,cq,c,zB,zA,IA];unfold eR;rw[<- List.map_drop,List.any_map];rfl
def Qn:Nat->D|0=>.str "full" | 1=>.str "giver" | 2=>.str "taker" | _=>.none
def D1(h:Wd G T W)(hp:P.length=W.length)(hs:Sm P)(hk:k < W.length):j8 [aw G T W,af P,nD k]=some (Qn (so G T W P k)):=by
 refine aB ?_;show k9 [.val (aw G T W),.val (af P),.val (nD k)]=_;unfold k9 so;have c1:afm (aJ [.val (aw G T W),.val (af P),.val (nD k)])=some (decide (P.getD k 0=(aP W k).2.2)) :=
  aF (aq (bV _ _) (aq (dR (by rw[hp];exact hk)) rfl rfl) (aq (a:=aE (aP W k)) (b:=.int 2) rfl (aq (qa hk) rfl rfl) rfl))
 have w0:=pF h hp hs false hk;have w1:=pF h hp hs true hk;have c2:afo (aJ [.val (aw G T W),.val (af P),.val (nD k)])=some (!(DP false G T W P k)):=aM (aF (call_of w0 rfl rfl));have c3:afp (aJ [.val (aw G T W),.val (af P),.val (nD k)])=some (!(DP true G T W P k)):=aM (aF (call_of w1 rfl rfl));by_cases e1:P.getD k 0=(aP W k).2.2
 ·rw[yA e1] at c1;rw[yM e1];exact bp ((aQ c1).trans (ay rfl))
 ·rw[zZ e1] at c1;rw[yO e1,ai (aK c1)];cases e2:DP false G T W P k with
  | false =>
   rw[e2] at c2;rw[yM rfl];exact bp ((aQ c2).trans (ay rfl))
  | true =>
   rw[e2] at c2;rw[yO (by simp),ai (aK c2)];cases e3:DP true G T W P k with
   | false =>
    rw[e3] at c3;rw[yM rfl];exact bp ((aQ c3).trans (ay rfl))
   | true =>
    rw[e3] at c3;rw[yO (by simp),ai (aK c3)];exact ay rfl
def L3(G T:List Pl)(W:List Wy)(P:List Int)(k:Nat):so G T W P k<=3:=by
 unfold so;split
 ·lia
 ·split
  ·lia
  ·split<;>lia
def FF(n:Nat)(h:n<=3):uF (Qn n) .none=some (.bool (decide (n=3))):=by
 match n,h with
 | 0,_=>rfl
 | 1,_=>rfl
 | 2,_=>rfl
 | 3,_=>rfl
def lW{W:List Wy}{P:List Int}(hp:P.length=W.length)(hf:f ρ=some (af P)):(aa (bu bz (aa f ag)) ag) ρ=some [nD W.length]:=by
 have:=sP P;rw[hp] at this;refine cons_of ?_ rfl;rw[lg hf,this]
def se(h:Wd G T W)(hp:P.length=W.length)(hs:Sm P):eu [aw G T W,af P]=some (match (List.range W.length).find? λk=>decide (so G T W P k=3) with|some k=>nD k|none=>.none):=by
 have hw:=h.wl;refine aB ?_;show eB [.val (aw G T W),.val (af P),.Xe]=_;unfold eB;let⟨f1,YD⟩:=fu (tgt:=iZ 2) (gb:=dZ adZ aaS dP) (λρ=>∃x,ρ=[.val (aw G T W),.val (af P),x]) nD (λk=>decide (so G T W P k=3)) nD
  (l:=List.range W.length) (ρ:=[.val (aw G T W),.val (af P),.Xe])
  (λρ k hk Yh=>by
   let⟨x,rfl⟩:=Yh;have Yo:k < W.length:=by simpa using hk
   have c:adZ (aJ [.val (aw G T W),.val (af P),.val (nD k)])=some (decide (so G T W P k=3)) :=
    aF (aq (FF _ (L3 G T W P k)) (call_of (D1 h hp hs Yo) rfl rfl) rfl)
   refine⟨_,rfl,λhq=>?_,λhq=>?_⟩
   ·show dZ _ _ _ [.val (aw G T W),.val (af P),.val (nD k)]=_;rw[hq] at c;exact (aQ c).trans (ay rfl)
   ·rw[hq] at c;exact⟨_,aK c,_,rfl⟩) ⟨_,rfl⟩
 have hr:bj afq [some (aw G T W),some (af P),none]=some ((List.range W.length).map nD):=iO (lW hp rfl) (by lia);cases e:(List.range W.length).find? λk=>decide (so G T W P k=3) with
 | some k=>exact bp (bc (f1 k e) hr rfl)
 | none =>
  let⟨ρ',e',x,rfl⟩:=YD e;exact (ai (bc e' hr rfl)).trans (ay rfl)
def Ea(h:Wd G T W)(hp:P.length=W.length)(hs:Sm P):k6 [aw G T W,af P]=some (.bool (decide (MV G T W P=[]))):=by
 refine aB ?_;show lh [.val (aw G T W),.val (af P)]=_;unfold lh;refine ay (aq ?_ (call_of (se h hp hs) rfl rfl) rfl);cases e:(List.range W.length).find? λk=>decide (so G T W P k=3) with
 | some k =>
  have:MV G T W P≠[]:=λz=>by
   have hm:=jZ e;have hq:=wG e;have:k∈MV G T W P:=List.mem_filter.mpr ⟨hm,hq⟩;rw[z] at this;cases this
  rw[zZ this];rfl
 | none =>
  have:MV G T W P=[]:=by
   rw[Zc] at e;exact List.filter_eq_nil_iff.mpr e
  rw[yA this];rfl
def rW:∀ (is:List Nat),(∀i∈is,tt (some (nD i)::r)=some (q i)/\(q i=true->te (some (nD i)::r)=some (f i)))->et (fG 0) tt te (none::r) (is.map nD)=some ((is.filter q).map f)
 | [],_=>rfl
 | i::is,h=>by
  have ih:=rW (tt:=tt) (te:=te) (r:=r) (f:=f) (q:=q) is λj hj=>h j (zC _ hj);let⟨h1,h2⟩:=h i zE;have hg:fG 0 (none::r) (nD i)=some (some (nD i)::r):=rfl;rw[zI,et,hg,zA,h1,zA,jY];cases e:q i with
  | true =>
   rw[yM rfl,yM rfl,h2 e,zA,ih];rfl
  | false =>
   rw[yO (by simp),yO (by simp),ih]
def nO{cs:List Nat}{fi:Dl.Env->Option (List D)}{tt:Dl.Env->Option Bool}{te:Dl.Env->Option D}{ρ:Dl.Env}{is:List Nat}{f:Nat->D}{q:Nat->Bool}(Yw:fi ρ=some (is.map nD))(hl:is.length<=1000)(hh:∀i∈is,tt (some (nD i)::cs.map λj=>(ρ[j]?).getD none)=some (q i)/\(q i=true->te (some (nD i)::cs.map λj=>(ρ[j]?).getD none)=some (f i))):ax 1 cs fi (fG 0) tt te ρ=some ((is.filter q).map f):=by
 have:=rW is hh;simp?[ax,Yw,zA,gH,List.replicate,xG,xP,this];refine bE ?_;rw[zD];refine yD (xQ _ _) ?_;lia
def FP(f:Nat->D)(R:Nat->au->Prop):∀ (n k:Nat) (ρ:au),
  (∀j ρ,k<=j->j < k+n->R j ρ->∃YE YF,tgt ρ (f j)=some YE/\gb YE=some (.nx YF)/\R (j+1) YF)->R k ρ->∃ρ',cJ tgt gb ((List.range' k n).map f) ρ=some (.nx ρ')/\R (k+n) ρ'
 | 0,k,ρ,_,h=>⟨ρ,rfl,h⟩
 | n+1,k,ρ,hh,h=>by
  let⟨YE,YF,e1,e2,h2⟩:=hh k ρ (yN _) (by lia) h;let⟨ρ',e3,h3⟩:=FP f R n (k+1) YF (λj ρ a b=>hh j ρ (by lia) (by lia)) h2;refine⟨ρ',?_,by rw[show k+(n+1)=k+1+n by lia];exact h3⟩;rw[vP,zI,cJ,e1,zA,e2];exact e3
def T5(hl:n<=1000):Dl.dH (.tuple [.int 0]) (nD n)=some (af (zs n)):=by
 have e:C5 (.tuple [.int 0]) (nD n)=some (af (zs n)):=by
  show (if Da ((n:Nat):Int)=true/\[PyData.int 0].length * ((n:Nat):Int).toNat<=sizeLine then some (PyData.tuple (List.replicate ((n:Nat):Int).toNat [PyData.int 0]).flatten) else none)=_;have hz:[PyData.int 0].length * n<=sizeLine:=by
   rw[xD,Nat.one_mul];exact yD hl (by decide)
  rw[yG,yM ⟨oZ hl,hz⟩,Kl];rfl
 show ((zv wu λi j=>PyData.int (i * j)) (.tuple [.int 0]) (nD n)).or (C5 (.tuple [.int 0]) (nD n))=_;rw[e];rfl
def tO{W:List Wy}{P:List Int}(h:P.length=W.length):hZ (P.map PyData.int) (W.map aE)=(List.range W.length).map λi=>.tuple [.int (P.getD i 0),aE (aP W i)]:=by
 have:∀ (a:List Int) (l:List Wy),a.length=l.length->hZ (a.map PyData.int) (l.map aE)=(List.range l.length).map λi=>.tuple [.int (a.getD i 0),aE (aP l i)]:=by
  intro a
  induction a with
  | nil=>intro l e;cases l with|nil=>rfl|cons _ _=>simp at e
  | cons x a ih =>
   intro l e;cases l with
   | nil=>simp at e
   | cons w l =>
    rw[zI,zI,hZ,ih l (by simpa using e),zL,vX,zI,zM];rfl
 exact this P W h
def tK(h:Wd G T W)(hp:P.length=W.length)(hs:Sm P)(b:Bool)(p:Int):gh [aw G T W,af P,.int (sI b),.int p]=some (.int (nZ b W P p)):=by
 have hw:=h.wl;refine aB ?_;show l6 [.val (aw G T W),.val (af P),.val (.int (sI b)),.val (.int p)]=_;have hz:cO (aa (ae 1) (aa (f2 av (ae 0) (fC (.int 2))) ag)) [some (aw G T W),some (af P),some (.int (sI b)),some (.int p)]=some ((List.range W.length).map λi=>.tuple [.int (P.getD i 0),aE (aP W i)]):=by
  rw[<- tO hp];rfl
 have c:ax 2 [2,3] (cO (aa (ae 1) (aa (f2 av (ae 0) (fC (.int 2))) ag))) (gE 0 1) (fB (f2 bh (f2 av (ae 1) (ae 2)) (ae 3))) (ae 0) [some (aw G T W),some (af P),some (.int (sI b)),some (.int p)]=some ((own b W p).map λi=>.int (P.getD i 0)):=by
  rw[jr (p:=λi=>decide (aW b (aP W i)=p)) (h:=λi=>.int (P.getD i 0)) hz (by lia) λi hi=>⟨?_,λ_=>rfl⟩]
  ·rfl
  ·show fB (f2 bh (f2 av (ae 1) (ae 2)) (ae 3)) [some (.int (P.getD i 0)),some (aE (aP W i)),some (.int (sI b)),some (.int p)]=_;exact aF (by rw[js (a:=.int (aW b (aP W i))) (b:=.int p) (aq (mG b _) rfl rfl) rfl,bV])
 refine ay ?_;have e:((own b W p).map λi=>PyData.int (P.getD i 0))=((own b W p).map λi=>P.getD i 0).map PyData.int:=by rw[zM];rfl
 show bu vy (aa (cq (ax 2 [2,3] (cO (aa (ae 1) (aa (f2 av (ae 0) (fC (.int 2))) ag))) (gE 0 1) (fB (f2 bh (f2 av (ae 1) (ae 2)) (ae 3))) (ae 0))) ag) [some (aw G T W),some (af P),some (.int (sI b)),some (.int p)]=_;rw[e] at c;simp?[bu,aa,ag,cq,c,zB,zA];show vy [.list (((own b W p).map λi=>P.getD i 0).map PyData.int)]=_;simp?[vy,fy,oneOf,hJ,zA,cX,Gy hs hw b p,xI];rfl
def VU:au->Option Out:=afv
def OP(h:Wd G T W)(hp:P.length=W.length)(hs:Sm P)(b:Bool)(x y:Slot):(FT b G T W P=false->VU [.val (aw G T W),.val (af P),.val (.int (sI b)),x,y]=some (.rt (.bool false)))/\(FT b G T W P=true->∃x' y',VU [.val (aw G T W),.val (af P),.val (.int (sI b)),x,y]=some (.nx [.val (aw G T W),.val (af P),.val (.int (sI b)),x',y'])):=by
 have hl:=h.pl b;let⟨f1,YD⟩:=fu (tgt:=fj 3 4) (gb:=dZ ad1 Yg dP)
  (λρ=>∃x y,ρ=[.val (aw G T W),.val (af P),.val (.int (sI b)),x,y]) (λi:Nat=>.tuple [nD i,bG (cR b G T i)]) (λi=>decide ((cR b G T i).1 < nZ b W P i)) (λ_=>.bool false)
  (l:=List.range (bC b G T).length) (ρ:=[.val (aw G T W),.val (af P),.val (.int (sI b)),x,y])
  (λρ i hi Yh=>by
   let⟨x,y,rfl⟩:=Yh;have c:ad1 (aJ [.val (aw G T W),.val (af P),.val (.int (sI b)),.val (nD i),.val (bG (cR b G T i))])=some (decide ((cR b G T i).1 < nZ b W P i)) :=
    aF (aq (fg _ _) (call_of (tK h hp hs b i) rfl rfl) (aq (a:=bG (cR b G T i)) (b:=.int 0) rfl rfl rfl))
   refine⟨_,rfl,λhq=>?_,λhq=>?_⟩
   ·rw[hq] at c;exact (aQ c).trans (ay rfl)
   ·rw[hq] at c;exact⟨_,aK c,_,_,rfl⟩) ⟨_,_,rfl⟩
 have he:bQ afs (bK [.val (aw G T W),.val (af P),.val (.int (sI b)),x,y])=some ((List.range (bC b G T).length).map λi=>.tuple [nD i,bG (cR b G T i)]):=by
  have:=uC (bC b G T);unfold cR;rw[<- this];cases b<;>rfl
 have hh:hand [0,2] 0 [Slot.val (aw G T W),.val (af P),.val (.int (sI b)),x,y]=[Slot.val (aw G T W),.val (af P),.val (.int (sI b)),x,y]:=rfl;unfold FT;constructor
 ·intro hk;cases e:(List.range (bC b G T).length).find? λi=>decide ((cR b G T i).1 < nZ b W P i) with
  | some i=>exact bc (f1 i e) he hh
  | none =>
   rw[Zc] at e;rw[List.all_eq_false] at hk;let⟨i,hi,hn⟩:=hk;have:=e i hi;simp?[zJ] at this hn;lia
 ·intro hk;have e:(List.range (bC b G T).length).find? (λi=>decide ((cR b G T i).1 < nZ b W P i))=none:=by
   rw[Zc];intro i hi;have:=List.all_eq_true.mp hk i hi;simp?[zJ] at this ⊢;lia
  let⟨ρ',e',x',y',rfl⟩:=YD e;exact⟨x',y',bc e' he hh⟩
def RC:v9 G T W P=(FT false G T W P&&FT true G T W P):=rfl
def D8(h:Wd G T W)(hp:P.length=W.length)(hs:Sm P):dE [aw G T W,af P]=some (.bool (v9 G T W P)):=by
 let⟨f1,YD⟩:=fu (tgt:=iZ 2) (gb:=VU)
  (λρ=>∃x y z,ρ=[.val (aw G T W),.val (af P),x,y,z]) (λb:Bool=>.int (sI b)) (λb=>!(FT b G T W P)) (λ_=>.bool false)
  (l:=[false,true]) (ρ:=[.val (aw G T W),.val (af P),.Xe,.Xe,.Xe])
  (λρ b _ Yh=>by
   let⟨x,y,z,rfl⟩:=Yh;let⟨r1,r2⟩:=OP h hp hs b y z;refine⟨_,rfl,λhq=>?_,λhq=>?_⟩
   ·exact r1 (by simpa using hq)
   ·let⟨x',y',e⟩:=r2 (by simpa using hq);exact⟨_,e,_,_,_,rfl⟩) ⟨_,_,_,rfl⟩
 have hr:bj zq4 (bK [.val (aw G T W),.val (af P),.Xe,.Xe,.Xe])=some ([false,true].map λb=>.int (sI b)):=iO (n:=2) rfl (by lia);refine aB ?_;show iL [.val (aw G T W),.val (af P),.Xe,.Xe,.Xe]=_;unfold iL;rw[RC];cases e0:FT false G T W P with
 | false =>
  have e:[false,true].find? (λb=>!(FT b G T W P))=some false:=by rw[vZ (by simp[e0])]
  exact bp (bc (f1 _ e) hr rfl)
 | true =>
  cases e1:FT true G T W P with
  | false =>
   have e:[false,true].find? (λb=>!(FT b G T W P))=some true:=by rw[kP (by simp[e0]),vZ (by simp[e1])]
   exact bp (bc (f1 _ e) hr rfl)
  | true =>
   have e:[false,true].find? (λb=>!(FT b G T W P))=none:=by rw[kP (by simp[e0]),kP (by simp[e1])];rfl
   let⟨ρ',e',x,y,z,rfl⟩:=YD e;exact (ai (bc e' hr rfl)).trans (ay rfl)
def Sm.app(ha:Sm a)(hb:Sm b):Sm (a++b):=λk=>by
 by_cases hk:k < a.length
 ·have:=ha k
  rwa [show (a++b).getD k 0=a.getD k 0 by simp[yT hk]]
 ·have:=hb (k - a.length)
  rwa [show (a++b).getD k 0=b.getD (k - a.length) 0 by simp[yU (by lia:a.length<=k)]]
def R3(h1:-1000000<=x)(h2:x<=1000000):Sm [x]:=λk=>by
 cases k with
 | zero=>exact⟨h1,h2⟩
 | succ k=>simp
def Tu(n:Nat):Sm (zs n):=λk=>by rw[PD];lia
def vb(ns:List Int)(at':Int)(W:List Wy)(k:Nat):Int:=dr ns (at'+(k:Nat)) ((aP W k).2.2+1)
def Fw(hl:ns.length<=63)(h:Wd G T W)(hk:k < W.length):0<=vb ns at' W k/\vb ns at' W k<=(aP W k).2.2:=by
 have:=(h.wr _ (qw hk)).2.2;have h1:=G8 (ns:=ns) (at'+(k:Nat)) ((aP W k).2.2+1) hl (by lia);have h2:=Hf (ns:=ns) (at'+(k:Nat)) ((aP W k).2.2+1) hl (by lia);unfold vb;lia
def V6:au->Option Out:=(ar (aD 6 [0,1,3,4,5] (f2 aA (ae 3) (aH (aa (aj 3 ak (aa (ae 0) (aa (f2 aA (ae 1) (ae 4)) (aa (f2 aA (f2 av (ae 5) (fC (.int 2))) (fC (.int 1))) ag)))) ag)))) (ar (aD 7 [2,6] (aj 2 dE (aa (ae 2) (aa (f2 aA (ae 6) (f2 dH (aH (aa (fC (.int 0)) ag)) (f2 Dl.dy (bu bz (aa (f2 av (ae 2) (fC (.int 2))) ag)) (bu bz (aa (ae 6) ag))))) ag)))) (aD 3 [3,6,7] (DN (fB (ae 7)) (ae 6) (f2 aA (ae 3) (aH (aa (fC (.int 0)) ag)))))))
def sJ(h:a.length+b.length<=1000):Dl.aA (af a) (af b)=some (af (a++b)):=by
 unfold af;rw[ou (by simp;lia),jB]
def mI(h:tc ρ=some true)(ha:fa ρ=some d):DN tc fa fb ρ=some d:=by
 simp?[DN,h,zA,ha]
def qu(h:tc ρ=some false)(ha:fb ρ=some d):DN tc fa fb ρ=some d:=by
 simp?[DN,h,zA,ha]
def Rx(hl:ns.length<=63)(h:Wd G T W)(hk:k<=W.length):Sm (nN (vb ns at' W) G T W k):=λj=>by
 by_cases hj:j < k
 ·have:=Fy (d:=vb ns at' W) (G:=G) (T:=T) (W:=W) (λk hk=>Fw hl h hk) h.lim k hk j hj;have:=(h.wr _ (qw (show j < W.length by lia))).2.2;lia
 ·rw[zG,jN (by rw[oA];lia)];simp
def Nw(hl:ns.length<=63)(h:Wd G T W)(hk:k < W.length)(x y:Slot):∃x' y',V6 [.val (bY ns),.val (.int at'),.val (aw G T W),.val (af (nN (vb ns at' W) G T W k)),.val (nD k),.val (aE (aP W k)),x,y]=some (.nx [.val (bY ns),.val (.int at'),.val (aw G T W),.val (af (nN (vb ns at' W) G T W (k+1))),.val (nD k),.val (aE (aP W k)),x',y']):=by
 have hw:=h.wl;have hr:=(h.wr _ (qw hk)).2.2;have hsm:=Rx (at':=at') hl h (jU hk);have XO:=oA (d:=vb ns at' W) (G:=G) (T:=T) (W:=W) k;have XH:=Fw (at':=at') hl h hk;have e2:nN (vb ns at' W) G T W (k+1)=if v9 G T W ((nN (vb ns at' W) G T W k++[vb ns at' W k])++zs (W.length - (nN (vb ns at' W) G T W k++[vb ns at' W k]).length))=true then nN (vb ns at' W) G T W k++[vb ns at' W k] else nN (vb ns at' W) G T W k++[0]:=rfl
 rw[e2];clear e2;generalize hf:nN (vb ns at' W) G T W k=f at hsm XO ⊢;generalize hd:vb ns at' W k=d at XH ⊢;have ed:∀ρ:Dl.Env,ae 0 ρ=some (bY ns)->ae 1 ρ=some (.int at')->ae 4 ρ=some (nD k)->ae 5 ρ=some (aE (aP W k))->(aj 3 ak (aa (ae 0) (aa (f2 aA (ae 1) (ae 4)) (aa (f2 aA (f2 av (ae 5) (fC (.int 2))) (fC (.int 1))) ag)))) ρ=some (.int d):=λρ a b c e=>by
  rw[<- hd];exact call_of (o5 (at'+((k:Nat):Int)) ((aP W k).2.2+1) hl (by lia)) (cons_of a (cons_of (aq (cB at' k) b c) (cons_of (aq (cB (aP W k).2.2 1) (aq (Bm _) e rfl) rfl) rfl))) rfl
 have em:∀ρ:Dl.Env,ae 0 ρ=some (bY ns)->ae 1 ρ=some (.int at')->ae 3 ρ=some (af f)->ae 4 ρ=some (nD k)->ae 5 ρ=some (aE (aP W k))->(f2 aA (ae 3) (aH (aa (aj 3 ak (aa (ae 0) (aa (f2 aA (ae 1) (ae 4)) (aa (f2 aA (f2 av (ae 5) (fC (.int 2))) (fC (.int 1))) ag)))) ag))) ρ=some (af (f++[d])):=λρ a b z c e =>
  aq (sJ (a:=f) (b:=[d]) (by simp;lia)) z (Jb (ed ρ a b c e))
 have t6:Dl.aD 6 [0,1,3,4,5] (f2 aA (ae 3) (aH (aa (aj 3 ak (aa (ae 0) (aa (f2 aA (ae 1) (ae 4)) (aa (f2 aA (f2 av (ae 5) (fC (.int 2))) (fC (.int 1))) ag)))) ag))) [.val (bY ns),.val (.int at'),.val (aw G T W),.val (af f),.val (nD k),.val (aE (aP W k)),x,y]=some (.nx [.val (bY ns),.val (.int at'),.val (aw G T W),.val (af f),.val (nD k),.val (aE (aP W k)),.val (af (f++[d])),y]) :=
  aL (em _ rfl rfl rfl rfl rfl) (em _ rfl rfl rfl rfl rfl) rfl
 have hlen:(f++[d]).length=k+1:=by simp[XO]
 have abt:((W.length:Nat):Int) - (((f++[d]).length:Nat):Int)=((W.length - (f++[d]).length:Nat):Int):=by lia
 have hwl:((f++[d])++zs (W.length - (f++[d]).length)).length=W.length:=by simp[zs,XO];lia
 have Zz:Sm ((f++[d])++zs (W.length - (f++[d]).length)):=(hsm.app (R3 (by lia) (by lia))).app (Tu _);have ef:∀ρ:Dl.Env,ae 2 ρ=some (aw G T W)->ae 6 ρ=some (af (f++[d]))->(aj 2 dE (aa (ae 2) (aa (f2 aA (ae 6) (f2 dH (aH (aa (fC (.int 0)) ag)) (f2 Dl.dy (bu bz (aa (f2 av (ae 2) (fC (.int 2))) ag)) (bu bz (aa (ae 6) ag))))) ag))) ρ=some (.bool (v9 G T W ((f++[d])++zs (W.length - (f++[d]).length)))):=λρ a b=>by
  refine call_of (D8 h hwl Zz) (cons_of a (cons_of (aq (sJ ?_) b (aq (T5 (n:=W.length - (f++[d]).length) (by lia)) (Jb rfl) ?_)) rfl)) rfl
  ·rw[<- zN,hwl];lia
  ·rw[show nD (W.length - (f++[d]).length)=.int (((W.length:Nat):Int) - (((f++[d]).length:Nat):Int)) by rw[abt]];exact aq (sub_int _ _) (iN (l:=W) (k:=aE) (aq (fS G T W) a rfl)) (iN (l:=f++[d]) (k:=PyData.int) b)
 have t7:Dl.aD 7 [2,6] (aj 2 dE (aa (ae 2) (aa (f2 aA (ae 6) (f2 dH (aH (aa (fC (.int 0)) ag)) (f2 Dl.dy (bu bz (aa (f2 av (ae 2) (fC (.int 2))) ag)) (bu bz (aa (ae 6) ag))))) ag))) [.val (bY ns),.val (.int at'),.val (aw G T W),.val (af f),.val (nD k),.val (aE (aP W k)),.val (af (f++[d])),y]=some (.nx [.val (bY ns),.val (.int at'),.val (aw G T W),.val (af f),.val (nD k),.val (aE (aP W k)),.val (af (f++[d])),.val (.bool (v9 G T W ((f++[d])++zs (W.length - (f++[d]).length))))]) :=
  aL (ef _ rfl rfl) (ef _ rfl rfl) rfl
 unfold V6;rw[ai t6,ai t7];have h0:∀ρ:Dl.Env,ae 3 ρ=some (af f)->(f2 aA (ae 3) (aH (aa (fC (.int 0)) ag))) ρ=some (af (f++[0])):=λρ z=>aq (sJ (a:=f) (b:=[0]) (by simp;lia)) z (Jb rfl);generalize v9 G T W ((f++[d])++zs (W.length - (f++[d]).length))=fb;cases fb with
 | true =>
  rw[yM rfl];exact⟨_,_,aL (mI (aF rfl) rfl) (mI (aF rfl) rfl) rfl⟩
 | false =>
  rw[yO (by simp)];exact⟨_,_,aL (qu (aF rfl) (h0 _ rfl)) (qu (aF rfl) (h0 _ rfl)) rfl⟩
def Ja(W:List Wy):bP 0 (W.map aE)=(List.range' 0 W.length).map λi=>.tuple [nD i,aE (aP W i)]:=by
 rw[<- yH,enum_zip];apply jI
 ·simp
 ·intro i h1 h2;have:i < W.length:=by simpa using h2
  simp[nL this]
def D2(hl:ns.length<=63)(h:Wd G T W):iG [bY ns,.int at',aw G T W]=some (af (nN (vb ns at' W) G T W W.length)):=by
 have hw:=h.wl;let⟨ρ',e,x4,x5,x6,x7,rfl⟩:=FP (tgt:=fj 4 5) (gb:=V6) (λi=>.tuple [nD i,aE (aP W i)]) (λk ρ=>∃x4 x5 x6 x7,ρ=[.val (bY ns),.val (.int at'),.val (aw G T W),.val (af (nN (vb ns at' W) G T W k)),x4,x5,x6,x7]) W.length 0 [.val (bY ns),.val (.int at'),.val (aw G T W),.val (af []),.Xe,.Xe,.Xe,.Xe]
  (λj ρ _ hj Yh=>by
   let⟨x4,x5,x6,x7,rfl⟩:=Yh;let⟨x',y',e⟩:=Nw (at':=at') hl h (show j < W.length by lia) x6 x7;exact⟨_,_,rfl,e,_,_,_,_,rfl⟩) ⟨_,_,_,_,rfl⟩
 refine aB ?_;show iy [.val (bY ns),.val (.int at'),.val (aw G T W),.Xe,.Xe,.Xe,.Xe,.Xe]=_;unfold iy;have t3:Dl.aD 3 [] (aH ag) [.val (bY ns),.val (.int at'),.val (aw G T W),.Xe,.Xe,.Xe,.Xe,.Xe]=some (.nx [.val (bY ns),.val (.int at'),.val (aw G T W),.val (af []),.Xe,.Xe,.Xe,.Xe]) :=
  aL (tup_is (ds:=[]) rfl (by simp)) (tup_is (ds:=[]) rfl (by simp)) rfl
 rw[ai t3];have he:bQ ad2 (bK [.val (bY ns),.val (.int at'),.val (aw G T W),.val (af []),.Xe,.Xe,.Xe,.Xe])=some ((List.range' 0 W.length).map λi=>.tuple [nD i,aE (aP W i)]):=by
  rw[<- Ja];rfl
 rw[jE] at e;exact (ai (bc e he rfl)).trans (ay rfl)
def M4(hl:ns.length<=63)(h:Wd G T W):Pn G T W (nN (vb ns at' W) G T W W.length):=Rl h λk hk=>Fw hl h hk
def GZ(cont:S->Bool)(st:S->S)(μ:S->Nat)(I:S->Prop)(hb:∀s,I s->cont s=true->I (st s)/\μ (st s) < μ s):∀ (n:Nat) (s:S),μ s < n->I s->cont (lp cont st n s)=false/\I (lp cont st n s)
 | 0,s,h,_=>absurd h (by lia)
 | n+1,s,h,i=>by
  rw[lp];cases hc:cont s with
  | false=>exact⟨by simpa [hc] using hc,by simpa using i⟩
  | true =>
   let⟨i2,hm⟩:=hb s i hc;have:=GZ cont st μ I hb n (st s) (by lia) i2;simpa using this
def ui(hk:k < W.length):(cf W).getD k 0=(aP W k).2.2:=by
 unfold cf;rw[zG,zO,oU hk];rfl
def sF(h:Wd G T W):vd G T W (fin G T W).2=none/\Jp W (fin G T W)/\∀k,k < W.length->(fin G T W).2.getD k 0<=(aP W k).2.2:=by
 have hb:=h.XY;let⟨h1,i,h2⟩:=GZ (LV G T W) (spS G T W) (λs=>XY s.2) (λs=>Jp W s/\∀k,k < W.length->s.2.getD k 0<=(aP W k).2.2)
  (λs ⟨i,l⟩ hc=>by
   let⟨p,e⟩:=Dk hc;let⟨a,b,c⟩:=BD h i.off e;let⟨i2,hm⟩:=i.step h e;refine⟨⟨i2,λk hk=>?_⟩,hm⟩;rw[Bl e];show (s.2.set p.1 p.2).getD k 0<=_;by_cases z:k=p.1
   ·subst z;have:=l p.1 a;have hl:p.1 < s.2.length:=by rw[i.len];exact a
    rw[show (s.2.set p.1 p.2).getD p.1 0=p.2 by simp[hl]];lia
   ·rw[show (s.2.set p.1 p.2).getD k 0=s.2.getD k 0 by simp[vB (jO z)]];exact l k hk) Rf.turns ([],cf W) (jA hb (by decide)) ⟨Jp.start h,λk hk=>by rw[ui hk];lia⟩
 refine⟨?_,i,h2⟩;have:LV G T W (fin G T W)=false:=h1;unfold LV at this;exact Option.isNone_iff_eq_none.mp (by simpa using this)
def Q5(G T:List Pl)(W:List Wy):List Int:=bb false G T W (fin G T W).2
def Rw(h:Wd G T W):Pn G T W (Q5 G T W):=by
 let⟨h1,i,h2⟩:=sF h;exact Oi h i.off h2 h1
def Qx(h:Wd G T W):d9 [aw G T W]=some (af (Q5 G T W)):=vq h
def iF:∀ {l:List D},(∀d∈l,PyData.eqv d d=true)->PyData.eqvAll l l=true
 | [],_=>by simp[PyData.eqvAll]
 | d::l,h=>by
  rw[PyData.eqvAll,h d zE,iF λx hx=>h x (zC _ hx)];rfl
def NO(h:∀d∈l,PyData.eqv d d=true):PyData.eqv (.tuple l) (.tuple l)=true:=by
 rw[PyData.eqv,iF h]
def R7(a:List Int):PyData.eqv (af a) (af a)=true:=by rw[uJ];simp
def J0(a:Int):PyData.eqv (.int a) (.int a)=true:=by
 have:=R7 [a];rw[af,PyData.eqv,zI,yV,PyData.eqvAll] at this;simp?[zF] at this;exact this.1
def my(a:Bool):gf (.bool a) (.bool a)=some (.bool false):=by cases a<;>simp[gf,Nn,SeqAt.shaped,PyData.canLay0,PyData.depth,PyData.eqv]
def M5(a:Int):gf (.int a) (.int a)=some (.bool false):=by
 have hs:SeqAt.shaped (.int a)=true:=(kf (b:=1) (k:=0) a).shaped (by decide);simp?[gf,Nn,hs,jQ,xI,J0,zB,xZ]
def uW(h:Wd G T W):bL [aw G T W]=some (.bool true):=by rw[nJ h.fit (by decide),h.wok]
section
variable {P off:List Int}
end
def sm(l:List Nat)(f:Nat->Int):Int:=(l.map f).sum
def cx(q:Nat)(l:List Nat)(f:Nat->Int):sm (q::l) f=f q+sm l f:=by simp[sm]
def Fi(l r:List Nat)(f:Nat->Int):sm (l++r) f=sm l f+sm r f:=by simp[sm]
def Aw(q:Nat)(f:Nat->Int):sm [q] f=f q:=by simp[sm]
def lL:∀ {l:List Nat}{f g:Nat->Int},(∀q∈l,f q=g q)->sm l f=sm l g
 | [],_,_,_=>rfl
 | q::l,f,g,h=>by rw[cx,cx,h q zE,lL λx hx=>h x (zC _ hx)]
def Ge:∀ {l:List Nat}{f g:Nat->Int},(∀q∈l,f q<=g q)->sm l f<=sm l g
 | [],_,_,_=>qA _
 | q::l,f,g,h=>by
  have h1:=h q zE;have h2:=Ge (l:=l) λx hx=>h x (zC _ hx);rw[cx,cx];lia
def FQ(h:∀q∈l,0<=f q):0<=sm l f:=by
 have:sm l (λ_=>0)=0:=by induction l with
  | nil=>rfl
  | cons q l ih=>rw[cx,ih λx hx=>h x (zC _ hx)];rfl
 rw[<- this];exact Ge h
def Kd:∀ {l:List Nat}{f g:Nat->Int}{p:Nat},(∀q∈l,f q<=g q)->p∈l->f p < g p->sm l f < sm l g
 | q::l,f,g,p,h,hp,e=>by
  have h1:=h q zE;have h2:=Ge (l:=l) λx hx=>h x (zC _ hx);rw[cx,cx];rcases List.mem_cons.mp hp with z|z
  ·subst z;lia
  ·have:=Kd (l:=l) (λx hx=>h x (zC _ hx)) z e;lia
def T3(h:sm l f<=sm l g)(hp:p∈l)(e:g p < f p):∃q∈l,f q < g q:=by
 refine Classical.byContradiction λhn=>?_;have:∀q∈l,g q<=f q:=λq hq=>by
  refine Classical.byContradiction λz=>hn ⟨q,hq,by lia⟩
 have:=Kd this hp e;lia
def RK(h:∀q∈l,0<=f q)(hp:p∈l):f p<=sm l f:=by
 let⟨xs,ys,rfl⟩:=List.append_of_mem hp;rw[Fi,cx];have h1:=FQ (l:=xs) λq hq=>h q (qK _ hq);have h2:=FQ (l:=ys) λq hq=>h q (yE _ (zC _ hq));lia
def Pi(p:l.Perm r)(f:Nat->Int):sm l f=sm r f:=by
 induction p with
 | nil=>rfl
 | cons x _ ih=>rw[cx,cx,ih]
 | swap x y l=>rw[cx,cx,cx,cx];lia
 | trans _ _ h1 h2=>rw[h1,h2]
def ch(m:Nat->Int):Int->List Nat->Nat->Int
 | _,[],_=>0
 | a,q::r,k=>if k=q then min (m q) a else ch m (a - min (m q) a) r k
def cK(m:Nat->Int)(a:Int)(q:Nat)(r:List Nat):ch m a (q::r) q=min (m q) a:=by simp[ch]
def cC(h:k≠q):ch m a (q::r) k=ch m (a - min (m q) a) r k:=by simp[ch,h]
def Mo:∀ {a:Int}{l:List Nat},(∀q∈l,0<=m q)->0<=a->∀k,0<=ch m a l k/\ch m a l k<=a/\(k∈l->ch m a l k<=m k)
 | a,[],_,ha,k=>⟨qA _,ha,λh=>by cases h⟩
 | a,q::r,hm,ha,k=>by
  have h0:=hm q zE;by_cases e:k=q
  ·subst e;rw[cK];exact⟨by lia,by lia,λ_=>by lia⟩
  ·rw[cC e];let⟨h1,h2,h3⟩:=Mo (m:=m) (a:=a - min (m q) a) (l:=r) (λx hx=>hm x (zC _ hx)) (by lia) k;refine⟨h1,by lia,λhk=>?_⟩;rcases List.mem_cons.mp hk with z|z
   ·exact absurd z e
   ·exact h3 z
def Hb:∀ {a a':Int}{l:List Nat}{k:Nat},a<=a'->ch m a l k<=ch m a' l k
 | _,_,[],_,_=>qA _
 | a,a',q::r,k,h=>by
  by_cases e:k=q
  ·subst e;rw[cK,cK];lia
  ·rw[cC e,cC e];exact Hb (by lia)
def uv:∀ {a:Int}{l:List Nat},(∀q∈l,m q=m' q)->∀k,ch m a l k=ch m' a l k
 | _,[],_,_=>rfl
 | a,q::r,h,k=>by
  have h0:=h q zE;by_cases e:k=q
  ·subst e;rw[cK,cK,h0]
  ·rw[cC e,cC e,h0];exact uv (λx hx=>h x (zC _ hx)) k
def up:List Nat->Nat->List Nat
 | [],_=>[]
 | q::r,k=>if k=q then [q] else q::up r k
def iD(q:Nat)(r:List Nat):up (q::r) q=[q]:=by simp[up]
def iE(h:k≠q):up (q::r) k=q::up r k:=by simp[up,h]
def gZ:∀ {l:List Nat}{k q:Nat},q∈up l k->q∈l
 | [],_,_,h=>by cases h
 | x::l,k,q,h=>by
  by_cases e:k=x
  ·subst e;rw[iD,yK] at h;exact h ▸ zE
  ·rw[iE e] at h;rcases List.mem_cons.mp h with z|z
   ·exact z ▸ zE
   ·exact zC _ (gZ z)
def Bu:∀ {l:List Nat}{k:Nat},k∈l->k∈up l k
 | x::l,k,h=>by
  by_cases e:k=x
  ·subst e;rw[iD];exact zE
  ·rw[iE e];rcases List.mem_cons.mp h with z|z
   ·exact absurd z e
   ·exact zC _ (Bu z)
def EB:∀ {xs ys:List Nat}{k:Nat},k∉xs->up (xs++k::ys) k=xs++[k]
 | [],ys,k,_=>iD _ _
 | x::xs,ys,k,h=>by
  rw[zQ,not_or] at h;rw[xG,iE h.1,EB h.2];rfl
def GK(hn:l.Nodup)(hk:k∈l):∃ys,l=up l k++ys/\(∀q∈ys,q∉up l k):=by
 let⟨xs,ys,rfl⟩:=List.append_of_mem hk;have hx:k∉xs:=λz=>by
  rw[Zl] at hn;exact hn.2.2 k z k zE rfl
 refine⟨ys,by rw[EB hx];simp,λq hq YN=>?_⟩;rw[EB hx] at YN;rw[show xs++k::ys=(xs++[k])++ys by simp,Zl] at hn;exact hn.2.2 q YN q hq rfl
def FR:∀ {l:List Nat}{k q:Nat},l.Nodup->q∈up l k->k∈up l q->k=q
 | [],_,_,_,h,_=>by cases h
 | x::l,k,q,hn,h1,h2=>by
  rw[vC] at hn;by_cases e:k=x
  ·subst e;rw[iD,yK] at h1;exact h1.symm
  ·by_cases e2:q=x
   ·subst e2;rw[iD,yK] at h2;exact h2
   ·rw[iE e] at h1;rw[iE e2] at h2;rcases List.mem_cons.mp h1 with z|z
    ·exact absurd z e2
    ·rcases List.mem_cons.mp h2 with z2|z2
     ·exact absurd z2 e
     ·exact FR hn.2 z z2
def FD:∀ {a:Int}{l:List Nat}{k:Nat},l.Nodup->k∈l->ch m a l k < m k->sm (up l k) (ch m a l)=a
 | a,q::r,k,hn,hk,h=>by
  rw[vC] at hn;by_cases e:k=q
  ·subst e;rw[cK] at h;rw[iD,Aw,cK];lia
  ·rw[cC e] at h;have Yo:k∈r:=by
    rcases List.mem_cons.mp hk with z|z
    ·exact absurd z e
    ·exact z
   have ih:=FD hn.2 Yo h;rw[iE e,cx,cK,lL (g:=ch m (a - min (m q) a) r) λx hx=>cC λz=>hn.1 (z ▸ gZ hx),ih];lia
def LG:∀ {a:Int}{l:List Nat}{k q:Nat},l.Nodup->(∀x∈l,0<=m x)->0<=a->0 < ch m a l k->q∈up l k->q≠k->ch m a l q=m q
 | a,[],_,_,_,_,_,_,h,_=>by cases h
 | a,x::r,k,q,hn,hm,ha,h,hq,XA=>by
  rw[vC] at hn;have h0:=hm x zE;have hr:∀y∈r,0<=m y:=λy hy=>hm y (zC _ hy);by_cases e:k=x
  ·subst e;rw[iD,yK] at hq;exact absurd hq XA
  ·rw[cC e] at h;rw[iE e] at hq;rcases List.mem_cons.mp hq with z|z
   ·subst z;rw[cK];have:=(Mo (m:=m) (a:=a - min (m q) a) hr (by lia) k).2.1;lia
   ·have hqx:q≠x:=λw=>hn.1 (w ▸ gZ z);rw[cC hqx];exact LG hn.2 hr (by lia) h z XA
def PU:∀ {a:Int}{l:List Nat}{k:Nat},l.Nodup->(∀x∈l,0<=m x)->0<=a->k∈l->sm (up l k) (ch m a l)=min a (sm (up l k) m)
 | a,q::r,k,hn,hm,ha,hk=>by
  rw[vC] at hn;have h0:=hm q zE;have hr:∀y∈r,0<=m y:=λy hy=>hm y (zC _ hy);by_cases e:k=q
  ·subst e;rw[iD,Aw,Aw,cK];lia
  ·have Yo:k∈r:=by
    rcases List.mem_cons.mp hk with z|z
    ·exact absurd z e
    ·exact z
   have ih:=PU (m:=m) (a:=a - min (m q) a) hn.2 hr (by lia) Yo;have hs:=FQ (l:=up r k) λy hy=>hr y (gZ hy);rw[iE e,cx,cx,cK,lL (g:=ch m (a - min (m q) a) r) λx hx=>cC λz=>hn.1 (z ▸ gZ hx),ih];lia
def LD:∀ {a:Int}{l:List Nat},l.Nodup->(∀x∈l,x≠p->m' x=m x)->m' p<=ch m a l p->(∀k∈l,k≠p->ch m a l k<=ch m' a l k)/\(p∈l->ch m' a l p=m' p)
 | _,[],_,_,_=>⟨λ_ h=>absurd h yF,λh=>absurd h yF⟩
 | a,q::r,hn,h,hp=>by
  rw[vC] at hn;by_cases e:q=p
  ·subst e;rw[cK] at hp;have hs:∀x∈r,m' x=m x:=λx hx=>h x (zC _ hx) λz=>hn.1 (z ▸ hx);refine⟨λk hk XA=>?_,λ_=>?_⟩
   ·rw[cC XA,cC XA,uv (m:=m') (m':=m) hs];exact Hb (by lia)
   ·rw[cK];lia
  ·have hq:=h q zE e;rw[cC (jO e)] at hp;let⟨i1,i2⟩:=LD (m:=m) (m':=m') (p:=p) (a:=a - min (m q) a) hn.2 (λx hx=>h x (zC _ hx)) hp;refine⟨λk hk XA=>?_,λhk=>?_⟩
   ·by_cases e2:k=q
    ·subst e2;rw[cK,cK,hq];exact qA _
    ·rw[cC e2,cC e2,hq];rcases List.mem_cons.mp hk with z|z
     ·exact absurd z e2
     ·exact i1 k z XA
   ·rw[cC (jO e),hq];rcases List.mem_cons.mp hk with z|z
    ·exact absurd z.symm e
    ·exact i2 z
def lH(b:Bool)(W:List Wy)(k:Nat):Nat:=(aW b (aP W k)).toNat
def lst(b:Bool)(G T:List Pl)(W:List Wy)(i:Nat):List Nat:=eR b W i (cR b G T i).2
def amt(b:Bool)(G T:List Pl)(i:Nat):Int:=(cR b G T i).1
def mm(W:List Wy)(off:List Int)(q:Nat):Int:=min (off.getD q 0) (aP W q).2.2
def vl(P:List Int)(q:Nat):Int:=P.getD q 0
section
variable {G T:List Pl}{W:List Wy}{P X c off:List Int}{b:Bool}{i k q:Nat}
def gz(h:Wd G T W)(b:Bool)(hk:k < W.length):lH b W k < (bC b G T).length:=(h.XZ b hk).2.1
def uA(h:Wd G T W)(hi:i < (bC b G T).length):(lst b G T W i).Perm (own b W i):=dD h (pM hi)
def eO(h:Wd G T W)(hi:i < (bC b G T).length):(lst b G T W i).Nodup:=(uA h hi).nodup_iff.mpr (List.nodup_range.filter _)
def o8(h:Wd G T W)(hi:i < (bC b G T).length):q∈lst b G T W i↔q < W.length/\lH b W q=i:=by
 rw[(uA h hi).mem_iff,dI];constructor
 ·rintro⟨h1,h2⟩;exact⟨h1,by unfold lH;rw[h2];simp⟩
 ·rintro⟨h1,h2⟩;have:=(h.XZ b h1).2.2;unfold lH at h2;rw[h2] at this;exact⟨h1,this.symm⟩
def dA(h:Wd G T W)(b:Bool)(hk:k < W.length):k∈lst b G T W (lH b W k):=(o8 h (gz h b hk)).mpr ⟨hk,rfl⟩
def KZ(h:Wd G T W)(ho:Off off)(q:Nat):0<=mm W off q:=by
 have h1:=ho q;have h2:=h.lim q;unfold mm;lia
def KQ:∀ (is:List Nat) (a:Int) (l:List Int),is.Nodup->(∀i∈is,i < l.length)->∀k,(is.foldl (jh W off) (a,l)).2.getD k 0=if k∈is then ch (mm W off) a is k else l.getD k 0
 | [],a,l,_,_,k=>by simp
 | q::is,a,l,hn,hl,k=>by
  rw[vC] at hn;have ih:=KQ is (a - cV W off a q) (l.set q (cV W off a q)) hn.2 (λi hi=>by rw[yC];exact hl i (zC _ hi)) k;rw[yJ];show (is.foldl (jh W off) (a - cV W off a q,l.set q (cV W off a q))).2.getD k 0=_;rw[ih];have hq:=hl q zE;by_cases e:k=q
  ·subst e;rw[yO hn.1,yM zE,cK,cy,yM ⟨rfl,hq⟩];rfl
  ·rw[cC e];by_cases hk:k∈is
   ·rw[yM hk,yM (zC _ hk)];rfl
   ·rw[yO hk,yO (by rw[zQ,not_or];exact⟨e,hk⟩),cy,yO (λz=>e z.1.symm)]
def nA(h:Wd G T W)(b:Bool)(off:List Int)(hk:k < W.length):(bb b G T W off).getD k 0=ch (mm W off) (amt b G T (lH b W k)) (lst b G T W (lH b W k)) k:=by
 have hi:=gz h b hk;rw[JZ h b hk];show (pI W off (amt b G T (lH b W k)) (lst b G T W (lH b W k))).getD k 0=_;unfold pI;rw[KQ _ _ _ (eO h hi) (λj hj=>by rw[xN];exact ((o8 h hi).mp hj).1),yM (dA h b hk)]
def El(h:Wd G T W)(b:Bool)(i:Nat):0<=amt b G T i:=h.amt b i
def QY(h:Wd G T W)(hi:i < (bC b G T).length):nZ b W P i=sm (lst b G T W i) (vl P):=by
 unfold nZ;rw[Pi (uA h hi)];rfl
def Fl(b:Bool)(G T:List Pl)(W:List Wy)(P:List Int)(k:Nat):Prop:=sm (up (lst b G T W (lH b W k)) k) (vl P)=amt b G T (lH b W k)
def Rs(G T:List Pl)(W:List Wy)(P:List Int):Prop:=∀k,k < W.length->P.getD k 0=(aP W k).2.2\/Fl false G T W P k\/Fl true G T W P k
def Pn.nn(p:Pn G T W P)(q:Nat):0<=vl P q:=by
 by_cases hq:q < W.length
 ·exact (p.bd q hq).1
 ·unfold vl;rw[o9 (by rw[p.len];lia)];lia
def Pn.ade(h:Wd G T W)(p:Pn G T W P)(hi:i < (bC b G T).length):sm (lst b G T W i) (vl P)<=amt b G T i:=by
 rw[<- QY h hi];exact p.am b i hi
def OU(e:vd G T W c=some (k,q')):k < W.length/\q'=(dY G T W c).getD k 0/\(dY G T W c).getD k 0 < (bb false G T W c).getD k 0:=by
 unfold vd at e;let⟨j,hj,e2⟩:=Dl.ah e;cases e2;have hm:=jZ hj;have hq:=wG hj;rw[qR,zJ] at hq;exact⟨List.mem_range.mp hm,rfl,hq⟩
end
section
variable {P X c off:List Int}
def ER(h:Wd G T W)(hk:k < W.length)(hq:q∈lst b G T W (lH b W k)):q < W.length/\lH b W q=lH b W k:=(o8 h (gz h b hk)).mp hq
def AK(h:Wd G T W)(hi:i < (bC b G T).length)(hq:q∈lst b G T W i):vl (bb b G T W off) q=ch (mm W off) (amt b G T i) (lst b G T W i) q:=by
 let⟨h1,h2⟩:=(o8 h hi).mp hq;have:=nA h b off h1;rw[h2] at this;exact this
def LC(h:Wd G T W)(ho:Off off)(b:Bool)(hk:k < W.length):sm (up (lst b G T W (lH b W k)) k) (vl (bb b G T W off))=min (amt b G T (lH b W k)) (sm (up (lst b G T W (lH b W k)) k) (mm W off)):=by
 have hi:=gz h b hk;rw[lL λq hq=>AK h hi (gZ hq)];exact PU (eO h hi) (λq _=>KZ h ho q) (El h b _) (dA h b hk)
def Ci(h:Wd G T W)(b:Bool)(hk:k < W.length)(e:(bb b G T W off).getD k 0 < mm W off k):Fl b G T W (bb b G T W off) k:=by
 have hi:=gz h b hk;rw[nA h b off hk] at e;unfold Fl;rw[lL λq hq=>AK h hi (gZ hq)];exact FD (eO h hi) (dA h b hk) e
def OE(h:Wd G T W)(ho:Off off)(hk:k < W.length)(e:0 < (bb b G T W off).getD k 0)(hq:q∈up (lst b G T W (lH b W k)) k)(XA:q≠k):(bb b G T W off).getD q 0=mm W off q:=by
 have hi:=gz h b hk;rw[nA h b off hk] at e;have:=AK (off:=off) h hi (gZ hq);unfold vl at this;rw[this];exact LG (eO h hi) (λq _=>KZ h ho q) (El h b _) e hq XA
def J5(h:Wd G T W)(ho:Off off)(b:Bool)(hk:k < W.length):0<=(bb b G T W off).getD k 0/\(bb b G T W off).getD k 0<=mm W off k:=by
 have hi:=gz h b hk;rw[nA h b off hk];have:=Mo (m:=mm W off) (a:=amt b G T (lH b W k)) (l:=lst b G T W (lH b W k)) (λq _=>KZ h ho q) (El h b _) k;exact⟨this.1,this.2.2 (dA h b hk)⟩
def Ti(h:Wd G T W)(p:Pn G T W X)(b:Bool)(hk:k < W.length):sm (up (lst b G T W (lH b W k)) k) (vl X)<=amt b G T (lH b W k):=by
 have hi:=gz h b hk;have:=p.ade h hi;let⟨ys,e,_⟩:=GK (eO h hi) (dA h b hk);rw[e,Fi] at this;have hn:=FQ (l:=ys) λq _=>p.nn q;lia
def D6(h:Wd G T W)(p:Pn G T W X)(hq:q < W.length)(f:Fl b G T W X q)(hk:k∈lst b G T W (lH b W q))(hn:k∉up (lst b G T W (lH b W q)) q):X.getD k 0=0:=by
 have hi:=gz h b hq;have hle:=p.ade h hi;let⟨ys,e,_⟩:=GK (eO h hi) (dA h b hq);have hy:k∈ys:=by
  rw[e] at hk;rcases List.mem_append.mp hk with z|z
  ·exact absurd z hn
  ·exact z
 rw[e,Fi] at hle;unfold Fl at f;have:=RK (l:=ys) (λq _=>p.nn q) hy;have h0:=p.nn k;unfold vl at this h0;have:sm ys (vl X)=sm ys λq=>X.getD q 0:=rfl;lia
def Lv(h:Wd G T W)(p:Pn G T W X)(ho:Off c)(hc:∀k,k < W.length->X.getD k 0<=c.getD k 0)(hq:q < W.length)(e:X.getD q 0 < (bb false G T W c).getD q 0):¬ Fl false G T W X q:=λf=>by
 have hi:=gz h false hq;have ZI:0 < (bb false G T W c).getD q 0:=by have:=p.nn q;unfold vl at this;lia
 have Xw:sm (up (lst false G T W (lH false W q)) q) (vl X) < sm (up (lst false G T W (lH false W q)) q) (vl (bb false G T W c)):=by
  refine Kd (p:=q) (λr hr=>?_) (Bu (dA h false hq)) e;by_cases z:r=q
  ·subst z;exact Int.le_of_lt e
  ·have YL:=(ER h hq (gZ hr)).1;unfold vl;rw[OE h ho hq ZI hr z];have h1:=hc r YL;have h2:=(p.bd r YL).2;unfold mm;lia
 have h2:=LC h ho false hq;unfold Fl at f;lia
end
section
variable {P X c off:List Int}
def rm(h:Wd G T W)(ho:Off c)(hk:k < W.length):0<=(dY G T W c).getD k 0/\(dY G T W c).getD k 0<=(bb false G T W c).getD k 0/\(bb false G T W c).getD k 0<=c.getD k 0/\(bb false G T W c).getD k 0<=(aP W k).2.2/\mm W (bb false G T W c) k=(bb false G T W c).getD k 0:=by
 have h1:=J5 h ho false hk;have h2:=J5 h (j3 h ho false) true hk;change 0<=(dY G T W c).getD k 0/\(dY G T W c).getD k 0<=_ at h2;unfold mm at h1 h2 ⊢;lia
def Jn(G T:List Pl)(W:List Wy)(c:List Int):Prop:=∀k,k < W.length->c.getD k 0 < (aP W k).2.2->Fl true G T W (dY G T W c) k
end
section
variable {P X c off:List Int}
end
def zip_rows:∀ {P X:List Int},P.length=X.length->hZ (P.map PyData.int) (X.map PyData.int)=(List.range P.length).map λi=>.tuple [.int (P.getD i 0),.int (X.getD i 0)]
 | [],[],_=>rfl
 | [],_::_,h=>by simp at h
 | _::_,[],h=>by simp at h
 | x::P,y::X,h=>by
  rw[zI,zI,hZ,zip_rows (P:=P) (X:=X) (by simpa using h),zL,vX,zI,zM];rfl
def cg(h:f ρ=some ds):cq f ρ=some (.list ds):=by
 simp?[cq,h,zB]
def Nz(h:f ρ=some (.tuple ds)):bI f ρ=some ds:=by
 simp?[bI,h,zA,hJ]
def Aa(h:f ρ=some (.list ds)):bI f ρ=some ds:=by
 simp?[bI,h,zA,hJ]
def lY(h:fs ρ=some ds)(hl:ds.length<=1000):bZ fs ρ=some ds:=by
 simp?[bZ,h,zA,bE (show ds.length<=4000 by lia)]
def nil_of(ρ:Dl.Env):cq aaQ ρ=some (.list []):=cg (lY (ds:=[]) rfl (by simp))
def Gj(h:t ρ=some false):gq t u ρ=some false:=by
 simp?[gq,h,zA]
def CM(h:t ρ=some true)(h2:u ρ=some b):gq t u ρ=some b:=by
 simp?[gq,h,zA,h2]
def rM{l:List Nat}:SeqAt.shaped (.list (l.map nD))=true :=
 (cI.lst (b:=l.length) (k:=0) (by simp) λx hx=>by let⟨i,_,rfl⟩:=List.mem_map.mp hx;exact kf _).shaped (by decide)
def mQ(l:List Nat):bh (.list (l.map nD)) (.list [])=some (.bool (decide (l=[]))):=by
 have h0:SeqAt.shaped (.list [])=true:=rM (l:=[]);have e:(l.map nD).isEmpty=decide (l=[]):=by cases l<;>rfl
 simp?[bh,MZ,rM,h0,jQ,xI,PyData.eqv,u6,e,zB]
def RS(h:Wd G T W):j6 [aw G T W]=some (.list (rJ (fin G T W).1))/\lK [aw G T W,.list (rJ (fin G T W).1)]=some (af (fin G T W).2)/\(fin G T W).2.length=W.length:=by
 let⟨e1,i⟩:=F4 h;have e2:=B4 h i.mem;rw[<- i.eq] at e2;exact⟨e1,e2,i.len⟩
def Um(G T:List Pl)(W:List Wy):List Int->List (Nat×Int)->Prop
 | c,[]=>vd G T W c=none
 | c,p::r=>vd G T W c=some p/\Um G T W (low c p) r
def JG(h:Wd G T W):∀ (n:Nat) (s:Sp),XY s.2 < n->Off s.2->∃r,Um G T W s.2 r/\lp (LV G T W) (spS G T W) n s=(s.1++r,r.foldl low s.2)
 | 0,s,hm,_=>absurd hm (by lia)
 | n+1,s,hm,ho=>by
  rw[lp];cases e:vd G T W s.2 with
  | none =>
   have:LV G T W s=false:=by unfold LV;rw[e];rfl
   rw[this];exact⟨[],e,by simp⟩
  | some p =>
   have hc:LV G T W s=true:=by unfold LV;rw[e];rfl
   let⟨h1,h2,h3⟩:=BD h ho e;have hs:=Bl e;let⟨r,h4,h5⟩:=JG h n (spS G T W s) (by rw[hs];have:=sM h2 h3;show XY (s.2.set p.1 p.2) < n;lia) (by rw[hs];exact oz ho h2);rw[hc,yM rfl];refine⟨p::r,⟨e,?_⟩,?_⟩
   ·rw[hs] at h4;exact h4
   ·rw[h5,hs];simp[low]
def OV(h:Wd G T W):Um G T W (cf W) (fin G T W).1/\(fin G T W).2=(fin G T W).1.foldl low (cf W):=by
 let⟨r,h1,h2⟩:=JG h Rf.turns ([],cf W) (jA h.XY (by decide)) (sZ h);unfold fin;rw[h2];exact⟨h1,rfl⟩
def Mi(G T:List Pl)(W:List Wy)(c:List Int)(p:Nat×Int):Bool:=decide ((dY G T W c).getD p.1 0<=p.2)&&decide (p.2 < (bb false G T W c).getD p.1 0)
def cb(G T:List Pl)(W:List Wy):List Int->List (Nat×Int)->Option (List Int)
 | c,[]=>some c
 | c,p::r=>if Mi G T W c p=true then cb G T W (low c p) r else none
def Tv(e:vd G T W c=some p):Mi G T W c p=true:=by
 let⟨k,v⟩:=p;let⟨_,rfl,h⟩:=OU e;unfold Mi;simp?[zF,zJ];lia
def Lz:∀ {r:List (Nat×Int)}{c:List Int},Um G T W c r->∀n,n<=r.length->cb G T W c (r.take n)=some ((r.take n).foldl low c)/\vd G T W ((r.take n).foldl low c)=r[n]?
 | [],c,h,n,hn=>by
  have:n=0:=by simpa using hn
  subst this;exact⟨rfl,h⟩
 | p::r,c,h,0,_=>⟨rfl,h.1⟩
 | p::r,c,h,n+1,hn=>by
  let⟨h1,h2⟩:=Lz h.2 n (by simpa using hn);rw[List.take_succ_cons,yJ,cb,yM (Tv h.1)];exact⟨h1,by simpa using h2⟩
def Qk(c:List Int)(p:Nat×Int)(k:Nat):(low c p).getD k 0=if p.1=k/\k < c.length then p.2 else c.getD k 0:=cy c p.1 p.2 k
def C2(h:Wd G T W):∀ {r:List (Nat×Int)}{c:List Int},Off c->(∀k,c.getD k 0<=9)->Um G T W c r->∀p∈r,p.1 < W.length/\0<=p.2/\p.2<=9
 | p::r,c,ho,h9,hc,q,hq=>by
  let⟨h1,h2,h3⟩:=BD h ho hc.1;rcases List.mem_cons.mp hq with z|z
  ·subst z;have:=h9 q.1;exact⟨h1,h2,by lia⟩
  ·refine C2 h (oz ho h2:Off (low c p)) (λk=>?_) hc.2 q z;have h4:=h9 k;have h5:=h9 p.1;show (low c p).getD k 0<=9;rw[Qk];split<;>lia
def U9(h:Wd G T W)(k:Nat):(cf W).getD k 0<=9:=by
 by_cases hk:k < W.length
 ·rw[ui hk];exact (h.wr _ (qw hk)).2.2.2
 ·rw[o9 (by rw[fZ];lia)];lia
structure Wk(G T G' T':List Pl):Prop where
 len:∀b,(bC b G' T').length=(bC b G T).length
 lik:∀b i,(cR b G' T' i).2=(cR b G T i).2
 gv:∀i,amt false G' T' i<=amt false G T i
 tk:∀i,amt true G T i<=amt true G' T' i
def Nd(h:Wd G T W)(p:Pn G T W X)(r:Rs G T W X)(ho:Off c)(hc:∀k,k < W.length->X.getD k 0<=c.getD k 0)(hk:k < W.length)(Xw:(dY G T W c).getD k 0 < (bb false G T W c).getD k 0):X.getD k 0<=(dY G T W c).getD k 0:=by
 refine Classical.byContradiction λhn=>?_;have hn:(dY G T W c).getD k 0 < X.getD k 0:=by lia
 let⟨b0,b1,b2,b3,b4⟩:=rm h ho hk;have ff:Fl true G T W (dY G T W c) k:=Ci h true hk (by rw[b4];exact Xw);have hle:=Ti h p true hk;unfold Fl at ff;let⟨q,hq,hqx⟩:=T3 (f:=vl X) (g:=vl (dY G T W c)) (l:=up (lst true G T W (lH true W k)) k) (p:=k) (by lia) (Bu (dA h true hk)) hn;let⟨YM,YN⟩:=ER h hk (gZ hq);unfold vl at hqx;have XA:q≠k:=λz=>by subst z;lia
 let⟨d0,d1,d2,d3,d4⟩:=rm h ho YM;have hxq:=(p.bd q YM).1;rcases r q YM with z|z|z
 ·lia
 ·exact Lv h p ho hc YM (by lia) z
 ·have hn2:k∉up (lst true G T W (lH true W q)) q:=λw=>by
   rw[YN] at w;exact XA (FR (eO h (gz h true hk)) hq w).symm
  have:=D6 h p YM z (by rw[YN];exact dA h true hk) hn2;lia
def Ou(h:Wd G T W)(ho:Off c)(hl:c.length=W.length)(hk:k < W.length)(h1:(dY G T W c).getD k 0<=v)(h2:v < (bb false G T W c).getD k 0)(hq:q < W.length):(dY G T W c).getD q 0<=(bb false G T W (c.set k v)).getD q 0:=by
 let⟨b0,b1,b2,b3,b4⟩:=rm h ho hk;let⟨d0,d1,d2,d3,d4⟩:=rm h ho hq;have hi:=gz h false hq;have hm:∀x,x≠k->mm W (c.set k v) x=mm W c x:=λx hx=>by
  unfold mm;rw[cy,yO (λz=>hx z.1.symm)]
 have hmk:mm W (c.set k v) k=v:=by
  unfold mm;rw[cy,yM ⟨rfl,by rw[hl];exact hk⟩];lia
 rw[nA h false _ hq];by_cases z:lH false W q=lH false W k
 ·have hkL:k∈lst false G T W (lH false W q):=by rw[z];exact dA h false hk
  have hA:vl (bb false G T W c) k=ch (mm W c) (amt false G T (lH false W q)) (lst false G T W (lH false W q)) k:=AK h hi hkL;unfold vl at hA;let⟨l1,l2⟩:=LD (m:=mm W c) (m':=mm W (c.set k v)) (p:=k) (a:=amt false G T (lH false W q)) (l:=lst false G T W (lH false W q)) (eO h hi) (λx _ hx=>hm x hx) (by rw[hmk,<- hA];lia);by_cases y:q=k
  ·subst y;rw[l2 hkL,hmk];exact h1
  ·have:=l1 q (dA h false hq) y;rw[<- nA h false c hq] at this;lia
 ·rw[uv (m:=mm W (c.set k v)) (m':=mm W c) λx hx=>hm x λw=>by
   subst w;exact z ((o8 h hi).mp hx).2.symm]
  rw[<- nA h false c hq];exact d1
def Jn.any(h:Wd G T W)(ho:Off c)(hl:c.length=W.length)(j:Jn G T W c)(hk:k < W.length)(h1:(dY G T W c).getD k 0<=v)(h2:v < (bb false G T W c).getD k 0):Jn G T W (c.set k v):=λq hq abo=>by
 let⟨b0,_,_,_,b4⟩:=rm h ho hk;have YI:Off (c.set k v):=oz ho (by lia);have fq:Fl true G T W (dY G T W c) q:=by
  by_cases z:q=k
  ·subst z;exact Ci h true hq (by rw[b4];show (dY G T W c).getD q 0 < _;lia)
  ·rw[cy,yO (λw=>z w.1.symm)] at abo;exact j q hq abo
 have hu:=LC h (j3 h YI false) true hq;change sm _ (vl (dY G T W (c.set k v)))=_ at hu;unfold Fl at fq ⊢;have hs:sm (up (lst true G T W (lH true W q)) q) (vl (dY G T W c))<=sm (up (lst true G T W (lH true W q)) q) (mm W (bb false G T W (c.set k v))):=Ge λx hx=>by
  have hx':=(ER h hq (gZ hx)).1;have g1:=Ou h ho hl hk h1 h2 hx';have g2:=rm h ho hx';unfold vl mm;lia
 rw[hu];lia
structure SD(G T:List Pl)(W:List Wy)(c:List Int):Prop where
 len:c.length=W.length
 off:Off c
 lim:∀k,k < W.length->c.getD k 0<=(aP W k).2.2
 cap:∀X,Pn G T W X->Rs G T W X->∀k,k < W.length->X.getD k 0<=c.getD k 0
 j:Jn G T W c
def SD.start(h:Wd G T W):SD G T W (cf W):=⟨fZ W,sZ h,λk hk=>by rw[ui hk];lia,λX p _ k hk=>by rw[ui hk];exact (p.bd k hk).2,λk hk hl=>by rw[ui hk] at hl;lia⟩
def SD.step(h:Wd G T W)(s:SD G T W c)(hk:k < W.length)(h1:(dY G T W c).getD k 0<=v)(h2:v < (bb false G T W c).getD k 0):SD G T W (c.set k v)/\XY (c.set k v) < XY c:=by
 let⟨b0,b1,b2,b3,b4⟩:=rm h s.off hk;refine⟨⟨by rw[yC,s.len],oz s.off (by lia),λq hq=>?_,λX p r q hq=>?_,s.j.any h s.off s.len hk h1 h2⟩,sM (by lia) (by lia)⟩
 ·rw[cy];split
  ·rename_i z;rw[<- z.1];lia
  ·exact s.lim q hq
 ·rw[cy];split
  ·rename_i z;rw[<- z.1];have:=Nd h p r s.off (s.cap X p r) hk (by lia);lia
  ·exact s.cap X p r q hq
def wy(G T:List Pl)(W:List Wy)(c:List Int):List Nat:=(List.range W.length).filter λk=>decide ((dY G T W c).getD k 0 < (bb false G T W c).getD k 0)
def Sf:k∈wy G T W c↔k < W.length/\(dY G T W c).getD k 0 < (bb false G T W c).getD k 0:=by
 unfold wy;rw[List.mem_filter,zS,zJ]
def KP:∀ (r:List (Nat×Int)) (c:List Int) (p:Nat×Int),cb G T W c (r++[p])=(cb G T W c r).bind λc'=>if Mi G T W c' p=true then some (low c' p) else none
 | [],c,p=>by simp[cb]
 | q::r,c,p=>by
  rw[xG,cb,cb];split
  ·exact KP _ _ _
  ·rfl
section
variable {P X off:List Int}
end
def ext(l:Int)(r:List Int):List (List Int):=(List.range (l+1).toNat).map λm=>r++[((m:Nat):Int)]
def Cn(ha:fa ρ=some (.int x))(hb:fb ρ=some (.int y))(hc:fc ρ=some (.int z)):dW Dl.rT Dl.v5 fa fb fc ρ=some (.bool (decide (x<=y)&&decide (y < z))):=by
 simp?[dW,ha,hb,hc,zA];have e:Dl.rT (.int x) (.int y)=some (.bool (decide (x<=y))):=rfl;rw[e];cases decide (x<=y)<;>rfl
def pD(p:Nat×Int):D:=af [((p.1:Nat):Int),p.2]
def Se(r:List (Nat×Int)):rJ r=r.map pD:=by unfold rJ;rw[zM];rfl
def Pw(p:Nat×Int):av (pD p) (.int 0)=some (nD p.1):=rfl
def R0(p:Nat×Int):av (pD p) (.int 1)=some (.int p.2):=rfl
def P5(W:List Wy)(r:List (Nat×Int)):Prop:=∀p∈r,p.1 < W.length/\0<=p.2/\p.2<=9
def D9(h:Wd G T W)(hp:p.1 < W.length/\0<=p.2/\p.2<=9):bW [aw G T W,pD p]=some (.bool true):=by
 have e1:bg [pD p,.int 2,.int 2]=some (.bool true):=by rw[dh (d:=pD p) rfl];rfl
 have e2:bH [nD p.1,.int ((W.length:Nat):Int)]=some (.bool true):=by
  rw[gg rfl];simp[whole];lia
 have e3:aX [.int p.2,.int 0,.int 9]=some (.bool true):=by
  rw[dF rfl];simp[whole,hp.2.1,hp.2.2]
 refine aB ?_;show cM [.val (aw G T W),.val (pD p)]=_;unfold cM;exact ay (uY (call_of e1 rfl rfl) (uY (call_of e2 (cons_of (aq (Pw p) rfl rfl) (cons_of (iN (l:=W) (k:=aE) (aq (fS G T W) rfl rfl)) rfl)) rfl) (call_of e3 (cons_of (aq (R0 p) rfl rfl) rfl) rfl)))
def Ia(h:Wd G T W)(hc:c.length=W.length)(hp:p.1 < W.length):mD [aw G T W,af c,pD p]=some (.bool (Mi G T W c p)):=by
 have a0:=cm h hc false;have a1:=cm (off:=bb false G T W c) h (dv _ _ _ _ _) true;refine aB ?_;show mr [.val (aw G T W),.val (af c),.val (pD p),.Xe,.Xe]=_;unfold mr;refine (ai (aL (call_of a0 rfl rfl) (call_of a0 rfl rfl) rfl)).trans ?_;refine (ai (aL (call_of a1 rfl rfl) (call_of a1 rfl rfl) rfl)).trans ?_;exact ay (Cn (aq (dR (off:=dY G T W c) (i:=p.1) (by unfold dY;rw[dv];exact hp)) rfl (aq (Pw p) rfl rfl)) (aq (R0 p) rfl rfl) (aq (dR (i:=p.1) (by rw[dv];exact hp)) rfl (aq (Pw p) rfl rfl)))
def UR:au->Option Out:=afB
def F3(h:Wd G T W):∀ (r:List (Nat×Int)) (c:List Int) (x:Slot),P5 W r->c.length=W.length ->
  (cb G T W c r=none->cJ (iZ 3) UR (r.map pD) [.val (aw G T W),.val d,.val (af c),x]=some (.rt .none))/\(∀c',cb G T W c r=some c'->∃y,cJ (iZ 3) UR (r.map pD) [.val (aw G T W),.val d,.val (af c),x]=some (.nx [.val (aw G T W),.val d,.val (af c'),y]))
 | [],c,x,_,_=>⟨(λe=>nomatch e),(λc' e=>by cases e;exact⟨x,rfl⟩)⟩
 | p::r,c,x,hf,hc=>by
  have hw:=h.wl;have hp:=hf p zE;have ef:=Ia h hc hp.1;have el:=pV (c:=c) (i:=p.1) (v:=p.2) (by rw[hc];exact hp.1) (by lia);let⟨i1,i2⟩:=F3 h (d:=d) r (low c p) (.val (pD p)) (λq hq=>hf q (zC _ hq)) (by rw[sO,hc]);have ht:iZ 3 [.val (aw G T W),.val d,.val (af c),x] (pD p)=some [.val (aw G T W),.val d,.val (af c),.val (pD p)]:=rfl;rw[zI,cJ,ht,zA,cb];cases e:Mi G T W c p with
  | false =>
   rw[e] at ef;have hb:UR [.val (aw G T W),.val d,.val (af c),.val (pD p)]=some (.rt .none):=bp ((aQ (aM (aF (call_of ef rfl rfl)))).trans (ay rfl));rw[hb];exact⟨λ_=>rfl,λc' z=>by simp at z⟩
  | true =>
   rw[e] at ef;have hb:UR [.val (aw G T W),.val d,.val (af c),.val (pD p)]=some (.nx [.val (aw G T W),.val d,.val (af (low c p)),.val (pD p)]) :=
    (ai (aK (aM (aF (call_of ef rfl rfl))))).trans (aL (call_of el (cons_of rfl (cons_of (aq (Pw p) rfl rfl) (cons_of (aq (R0 p) rfl rfl) rfl))) rfl) (call_of el (cons_of rfl (cons_of (aq (Pw p) rfl rfl) (cons_of (aq (R0 p) rfl rfl) rfl))) rfl) rfl)
   rw[hb];exact⟨λz=>i1 (by simpa using z),λc' z=>i2 c' (by simpa using z)⟩
def zc:Option (List Int)->D|none=>.none|some c=>af c
def w4(h:Wd G T W)(hf:P5 W r)(hr:r.length<=1000):cH [aw G T W,.list (r.map pD)]=some (zc (cb G T W (cf W) r)):=by
 refine aB ?_;show bT [.val (aw G T W),.val (.list (r.map pD)),.Xe,.Xe]=_;unfold bT;have c:ax 1 [0] YT (fG 0) (λ_=>some true) ad4 [some (aw G T W),some (.list (r.map pD)),none,none]=some ((r.map pD).map λ_=>.bool true) :=
  bR (ds:=r.map pD) rfl (by rw[zD];lia) λd hd=>by
   let⟨p,hp,rfl⟩:=List.mem_map.mp hd;exact call_of (D9 h (hf p hp)) rfl rfl
 have ha:bu jl ad5 [some (aw G T W),some (.list (r.map pD)),none,none]=some (.bool true):=by
  rw[lg (cg c)];have:∀l:List D,boolsOf (l.map λ_=>PyData.bool true)=some (l.map λ_=>true):=λl=>by
   induction l with
   | nil=>rfl
   | cons d l ih=>simp[boolsOf,ih]
  simp?[jl,oneOf,zA,this,zB];simp
 have hl:AS "list" (ae 1) [some (aw G T W),some (.list (r.map pD)),none,none]=some (.bool true):=rfl;refine (ai (aK (uP (aM (aF hl)) (aM (aF ha))))).trans ?_;refine (ai (aL (call_of (ji h) rfl rfl) (call_of (ji h) rfl rfl) rfl)).trans ?_;let⟨f1,YD⟩:=F3 h (d:=.list (r.map pD)) r (cf W) .Xe hf (fZ W);cases e:cb G T W (cf W) r with
 | none=>exact bp (bc (f1 e) rfl rfl)
 | some c' =>
  let⟨y,e2⟩:=YD c' e;exact (ai (bc e2 rfl rfl)).trans (ay rfl)
def LA(W:List Wy)(P c:List Int):Bool:=(List.range W.length).all λk=>decide (P.getD k 0<=c.getD k 0)
def Nj:LA W P c=true↔∀k,k < W.length->P.getD k 0<=c.getD k 0:=by
 simp?[LA,xH,zS,zJ]
def DC(h:Wd G T W)(x:Pn G T W X)(hc:c.length=W.length):eM [aw G T W,af X,af c]=some (.bool (LA W X c)):=by
 have hw:=h.wl;refine aB ?_;show eJ [.val (aw G T W),.val (af X),.val (af c)]=_;unfold eJ;refine (ai (iq (call_of (bU h) rfl rfl))).trans ?_;have hn:fB (f2 gf aaT ad6) [some (aw G T W),some (af X),some (af c)]=some false:=by
  refine aF (aq (M5 ((W.length:Nat):Int)) ?_ ?_)
  ·have:=iN (l:=X) (k:=PyData.int) (f:=ae 1) (ρ:=[some (aw G T W),some (af X),some (af c)]) rfl;rw[x.len] at this;exact this
  ·have:=iN (l:=c) (k:=PyData.int) (f:=ae 2) (ρ:=[some (aw G T W),some (af X),some (af c)]) rfl;rw[hc] at this;exact this
 refine (ai (aK (uP (aM (aF (call_of (m5 h x) rfl rfl))) hn))).trans ?_;have hz:cO aaP [some (aw G T W),some (af X),some (af c)]=some ((List.range X.length).map λi=>.tuple [.int (X.getD i 0),.int (c.getD i 0)]):=by
  rw[<- zip_rows (by rw[x.len,hc])];rfl
 have cc:=jr (cs:=[]) (tt:=λ_=>some true) (te:=f2 Dl.rT (ae 0) (ae 1)) (p:=λ_=>true) (h:=λk=>.bool (decide (X.getD k 0<=c.getD k 0))) hz (by rw[x.len];lia) λi hi=>⟨rfl,λ_=>rfl⟩
 refine ay ?_;show bu jl afC [some (aw G T W),some (af X),some (af c)]=_;rw[lg (cg cc),show (List.range X.length).filter (λ_=>true)=List.range X.length by simp,qd,x.len];rfl
def OH(h:Wd G T W):ku [aw G T W]=some (.list ((fin G T W).1.map pD)):=by
 have e:=(RS h).1;rw[Se] at e;refine aB ?_;show sX [.val (aw G T W)]=_;unfold sX;refine (ai (iq (call_of (bU h) rfl rfl))).trans ?_;exact ay (call_of e rfl rfl)
def GN(h:x∈L):nU (af L) (.int x)=some (nD (vf L x)):=by
 show (intsOf (L.map PyData.int)).bind _=_;rw[cX,zA,mM h];rfl
def Li(h:x∈L):vf L x < L.length:=kU ⟨x,h,by simp⟩
def JO(h:x∈L):L[vf L x]?=some x:=by
 have hl:=Li h;have:=List.findIdx_getElem (xs:=L) (p:=λo=>decide (o=x)) (w:=hl);rw[zK hl];exact jD some (yR this)
def F5(hn:L.Nodup):x∈L.drop n↔x∈L/\n<=vf L x:=by
 constructor
 ·intro h;have hm:=wR h;refine⟨hm,?_⟩;let⟨m,hm1,hm2⟩:=qS h;rw[List.getElem_drop] at hm2;have h1:L[n+m]?=some x:=by rw[zK (by rw[qJ] at hm1;lia),hm2]
  have h2:=JO hm;have:n+m=vf L x:=by
   have hl:=Li hm;exact (List.getElem?_inj (by rw[qJ] at hm1;lia) hn).mp (h1.trans h2.symm)
  lia
 ·rintro⟨hm,hle⟩;have h2:=JO hm;have:(L.drop n)[vf L x - n]?=some x:=by rw[List.getElem?_drop,show n+(vf L x - n)=vf L x by lia];exact h2
  exact qC this
def OD(b:Bool)(W:List Wy)(P L:List Int)(j:Int)(o:Int)(i:Nat):Bool:=decide (aW b (aP W i)=j)&&(decide (0 < P.getD i 0)&&decide (vf L o < vf L (dm b (aP W i))))
def Re(h:Wd G T W){b:Bool}{j:Nat}{pl:Pl}(e:(bC b G T)[j]?=some pl)(o:Int):(List.range W.length).any (OD b W P pl.2 j o)=(pl.2.drop (vf pl.2 o+1)).any λo=>decide (0 < P.getD (sR b W j o) 0):=by
 have hn:pl.2.Nodup:=by
  have:=(dD h e).nodup_iff.mpr (List.nodup_range.filter _);unfold eR at this;exact List.Pairwise.of_map _ (λa b Yv e=>Yv (jD _ e)) this
 rw[vE,List.any_eq_true,List.any_eq_true];constructor
 ·rintro⟨i,hi,hq⟩;unfold OD at hq;simp?[zF,zJ] at hq;let⟨h1,h2,h3⟩:=hq;have YB:i < W.length:=by simpa using hi
  have io:i∈own b W j:=dI.mpr ⟨YB,h1⟩;have ip:=(dD h e).mem_iff.mpr io;unfold eR at ip;let⟨y,hy,hyi⟩:=List.mem_map.mp ip;have hyo:=(iC h e hy).2.2;rw[hyi] at hyo;refine⟨y,(F5 hn).mpr ⟨hy,by rw[<- hyo];lia⟩,?_⟩;rw[hyi];simpa using h2
 ·rintro⟨y,hy,hq⟩;let⟨hm,hle⟩:=(F5 hn).mp hy;let⟨h1,h2,h3⟩:=iC h e hm;refine⟨sR b W j y,by simpa using h1,?_⟩;unfold OD;rw[h3];simp?[zF,zJ] at hq ⊢;exact⟨h2,hq,by lia⟩
abbrev sW(G T:List Pl)(W:List Wy)(P:List Int)(b:Bool)(j:Nat)(o:Int)(x y z:Slot):au:=[.val (aw G T W),.val (af P),.val (.int (sI b)),.val (nD j),.val (.int o),x,y,z]
abbrev sY(G T:List Pl)(W:List Wy)(P:List Int)(k:Nat):au:=[.val (aw G T W),.val (af P),.val (nD k),.val (.int (aP W k).1),.val (.int (aP W k).2.1),.val (.int (aP W k).2.2)]
def W7:au->Option Out:=ab4
def rF(h:Wd G T W)(hp:P.length=W.length)(hs:Sm P)(b:Bool){k:Nat}(hk:k < W.length):eV [aw G T W,af P,.int (sI b),.int (aW b (aP W k)),.int (dm b (aP W k))]=some (.bool (DP b G T W P k)):=by
 have hw:=h.wl;let⟨z1,z2,z3⟩:=h.XZ b hk;have hx:(bC b G T)[(aW b (aP W k)).toNat]?=some (cR b G T (aW b (aP W k)).toNat):=by
  rw[zK z2];simp[cR,z2]
 have aaJ:∀i,i < W.length->aW b (aP W i)=((aW b (aP W k)).toNat:Int)->dm b (aP W i)∈(cR b G T (aW b (aP W k)).toNat).2:=λi hi he=>by
  have io:i∈own b W ((aW b (aP W k)).toNat:Int):=dI.mpr ⟨hi,he⟩;have ip:=(dD h hx).mem_iff.mpr io;unfold eR at ip;let⟨y,hy,hyi⟩:=List.mem_map.mp ip;have hyo:=(iC h hx hy).2.2;rw[hyi] at hyo;rw[hyo];exact hy
 have hko:=aaJ k hk z3.symm;have aiL:=Re (P:=P) h hx (dm b (aP W k));have hm:DP b G T W P k=(decide (nZ b W P ((aW b (aP W k)).toNat:Int) < (cR b G T (aW b (aP W k)).toNat).1)||((cR b G T (aW b (aP W k)).toNat).2.drop (vf (cR b G T (aW b (aP W k)).toNat).2 (dm b (aP W k))+1)).any λo=>decide (0 < P.getD (sR b W ((aW b (aP W k)).toNat:Int) o) 0)):=by
  unfold DP;rw[z3]
 rw[hm,<- aiL];have ez:PyData.int (aW b (aP W k))=nD (aW b (aP W k)).toNat:=by show _=PyData.int _;rw[z3]
 rw[ez];generalize Yb:cR b G T (aW b (aP W k)).toNat=pl at *;generalize hj:(aW b (aP W k)).toNat=j at *;generalize ho:dm b (aP W k)=o at *;clear hm aiL ez;have ep:av (.tuple ((bC b G T).map bG)) (nD j)=some (bG pl):=nQ hx;refine aB ?_;show gT (sW G T W P b j o .Xe .Xe .Xe)=_;unfold gT;have ct:abY (aJ (sW G T W P b j o .Xe .Xe .Xe))=some (decide (nZ b W P j < pl.1)):=by
  refine aF (aq (kr _ _) (call_of (tK h hp hs b j) rfl rfl) ?_);exact aq (a:=bG pl) (b:=.int 0) rfl (aq ep (aq (gN b G T W) rfl rfl) rfl) rfl
 cases hc:decide (nZ b W P j < pl.1) with
 | true =>
  rw[hc] at ct;exact bp ((aQ ct).trans (ay rfl))
 | false =>
  rw[hc] at ct;rw[ai (aK ct),Bool.false_or];have er:∀ρ:Dl.Env,ae 0 ρ=some (aw G T W)->ae 2 ρ=some (.int (sI b))->ae 3 ρ=some (nD j)->abZ ρ=some (af pl.2):=λρ h0 h2 h3=>aq (a:=bG pl) (b:=.int 1) rfl (aq ep (aq (gN b G T W) h0 h2) h3) rfl;rw[ai (aL (er _ rfl rfl rfl) (er _ rfl rfl rfl) rfl)];let⟨f1,YD⟩:=fu (tgt:=fj 6 7) (gb:=W7) (λρ=>∃x y,ρ=(sW G T W P b j o (.val (af pl.2)) x y)) (λi:Nat=>.tuple [.int (P.getD i 0),aE (aP W i)]) (OD b W P pl.2 j o) (λ_=>.bool true)
   (l:=List.range W.length) (ρ:=(sW G T W P b j o (.val (af pl.2)) .Xe .Xe))
   (λρ i hi Yh=>by
    let⟨x,y,rfl⟩:=Yh;have YB:i < W.length:=by simpa using hi
    have c:ab3 (aJ (sW G T W P b j o (.val (af pl.2)) (.val (.int (P.getD i 0))) (.val (aE (aP W i)))))=some (OD b W P pl.2 j o i):=by
     have c1:ab1 (aJ (sW G T W P b j o (.val (af pl.2)) (.val (.int (P.getD i 0))) (.val (aE (aP W i)))))=some (decide (aW b (aP W i)=((j:Nat):Int))):=aF (aq (bV _ _) (aq (mG b _) rfl rfl) rfl);unfold OD;cases e1:decide (aW b (aP W i)=((j:Nat):Int)) with
     | false=>rw[e1] at c1;exact Gj c1
     | true =>
      rw[e1] at c1;refine CM c1 ?_;have c2:ab2 (aJ (sW G T W P b j o (.val (af pl.2)) (.val (.int (P.getD i 0))) (.val (aE (aP W i)))))=some (decide (0 < P.getD i 0)):=aF (aq (fg _ _) rfl rfl);cases e2:decide (0 < P.getD i 0) with
      | false=>rw[e2] at c2;exact Gj c2
      | true =>
       rw[e2] at c2;refine CM c2 ?_;have hio:=aaJ i YB (by simpa using e1);have ak1:av (aE (aP W i)) (.int (1 - sI b))=some (.int (dm b (aP W i))):=by cases b<;>rfl
       refine (aF (aq (fg _ _) (aq (GN hio) rfl (aq ak1 rfl (aq (sub_int 1 (sI b)) rfl rfl))) (aq (GN hko) rfl rfl))).trans ?_
       congr 1
       exact decide_eq_decide.mpr (by lia)
    refine⟨_,rfl,λhq=>?_,λhq=>?_⟩
    ·rw[hq] at c;exact (aQ c).trans (ay rfl)
    ·rw[hq] at c;exact⟨_,aK c,_,_,rfl⟩) ⟨_,_,rfl⟩
  have hz:cO ab0 (bK (sW G T W P b j o (.val (af pl.2)) .Xe .Xe))=some ((List.range W.length).map λi=>.tuple [.int (P.getD i 0),aE (aP W i)]):=by
   rw[<- tO hp];rfl
  cases ef:(List.range W.length).find? (OD b W P pl.2 j o) with
  | some i =>
   have:(List.range W.length).any (OD b W P pl.2 j o)=true:=List.any_eq_true.mpr ⟨i,jZ ef,wG ef⟩;rw[this];exact bp (bc (f1 i ef) hz rfl)
  | none =>
   have:(List.range W.length).any (OD b W P pl.2 j o)=false:=by
    rw[List.any_eq_false];exact List.find?_eq_none.mp ef
   rw[this];let⟨ρ',e',x',y',rfl⟩:=YD ef;exact (ai (bc e' hz rfl)).trans (ay rfl)
def Mj(hf:f (bK ρ)=some (.tuple [x,y,z]))(hh:hand fz 0 ρ=ρ):qr i j l fz f ρ=some (.nx (((ρ.set i (.val x)).set j (.val y)).set l (.val z))):=by
 unfold qr;rw[hh,hf,zA];show some (Out.nx ((((if _ then ρ else ρ).set i _).set j _).set l _))=_;rw[ite_self]
def Ih(h:Wd G T W)(hp:P.length=W.length)(hs:Sm P)(hk:k < W.length):ki [aw G T W,af P,nD k]=some (Qn (so G T W P k)):=by
 refine aB ?_;show kl [.val (aw G T W),.val (af P),.val (nD k),.Xe,.Xe,.Xe]=_;unfold kl so;have hw:adX (bK [.val (aw G T W),.val (af P),.val (nD k),.Xe,.Xe,.Xe])=some (.tuple [.int (aP W k).1,.int (aP W k).2.1,.int (aP W k).2.2]):=aq (qa hk) rfl rfl;refine (ai (Mj hw rfl)).trans ?_;have c1:ab5 (aJ (sY G T W P k))=some (decide (P.getD k 0=(aP W k).2.2)):=aF (aq (bV _ _) (aq (dR (by rw[hp];exact hk)) rfl rfl) rfl);have w0:=rF h hp hs false hk;have w1:=rF h hp hs true hk;have c2:ab6 (aJ (sY G T W P k))=some (!(DP false G T W P k)):=aM (aF (call_of w0 rfl rfl));have c3:ab7 (aJ (sY G T W P k))=some (DP true G T W P k):=aF (call_of w1 rfl rfl);by_cases e1:P.getD k 0=(aP W k).2.2
 ·rw[yA e1] at c1;rw[yM e1];exact bp ((aQ c1).trans (ay rfl))
 ·rw[zZ e1] at c1;rw[yO e1];refine (ai (aK c1)).trans ?_;cases e2:DP false G T W P k with
  | false =>
   rw[e2] at c2;rw[yM rfl];exact bp ((aQ c2).trans (ay rfl))
  | true =>
   rw[e2] at c2;rw[yO (by simp)];refine (ai (aK c2)).trans ?_;cases e3:DP true G T W P k with
   | false =>
    rw[e3] at c3;rw[yM rfl];exact ay (qu c3 rfl)
   | true =>
    rw[e3] at c3;rw[yO (by simp)];exact ay (mI c3 rfl)
def CQ(h:Wd G T W)(hp:P.length=W.length)(hs:Sm P):gS [aw G T W,af P]=some (.bool (decide (MV G T W P=[]))):=by
 have hw:=h.wl;refine aB ?_;show gO [.val (aw G T W),.val (af P)]=_;unfold gO;have c:ax 1 [0,1] adY (fG 0) ab8 (ae 0) [some (aw G T W),some (af P)]=some ((MV G T W P).map nD) :=
  nO (iO (lW hp rfl) (by lia)) (by rw[zR];lia) λk hk=>⟨aF (aq (FF _ (L3 G T W P k)) (call_of (Ih h hp hs (by simpa using hk)) rfl rfl) rfl),λ_=>rfl⟩
 exact ay (aq (mQ (MV G T W P)) (cg c) (nil_of _))
def sh(k q:Nat):Nat:=if q < k then q else q+1
def nk(k:Nat):Nat->Bool:=λq=>!decide (q=k)
def fL(L:List Pl)(i:Nat)(x:Int):List Pl:=L.set i ((L.getD i (0,[])).1,(L.getD i (0,[])).2.filter λy=>!decide (y=x))
section
variable {G T:List Pl}{W:List Wy}{P X:List Int}{b:Bool}{i k q:Nat}
def eT(T:List Pl)(W:List Wy)(k:Nat):List Pl:=fL T (aP W k).2.1.toNat (aP W k).1
def of_map(b:Bool)(i:Int):∀ {W V:List Wy},W.map (λw=>(w.1,w.2.1))=V.map (λw=>(w.1,w.2.1))->(W.filter λw=>decide (aW b w=i)).map (dm b)=(V.filter λw=>decide (aW b w=i)).map (dm b)
 | [],[],_=>rfl
 | [],_::_,e=>by cases e
 | _::_,[],e=>by cases e
 | w::W,v::V,e=>by
  simp?[zI,vD,Prod.mk.injEq] at e;have e1:aW b w=aW b v:=by cases b<;>simp[aW,e.1]
  have e2:dm b w=dm b v:=by cases b<;>simp[dm,aW,e.1]
  have ih:=of_map b i (W:=W) (V:=V) e.2;rw[jY,jY,e1];split
  ·rw[zI,zI,ih,e2]
  ·exact ih
end
def jd{a c:List Int}(h:lexLt a c=false)(h2:lexLt c a=false):a=c:=uK (by unfold lexLe;rw[h2];rfl) (by unfold lexLe;rw[h];rfl)
section
open Ex
abbrev UC:Str:="NoWorld"
abbrev UE:Str:="NoPlan"
structure Bg(m:List D->Option D)(x:List D->Option Str)(ds:List D)(c:Str):Prop where
 n:m ds=none
 x:x ds=some c
structure Qc(m:List D->Option D)(x:List D->Option Str)(ds:List D):Prop where
 n:m ds=some .none
 x:x ds=none
section
variable {m:List D->Option D}{x:List D->Option Str}{ds:List D}{c:Str}{n:Nat}{fs:Dl.Env->Option (List D)}{ρ:au}
def yv(h:m ds=none){ρ:Dl.Env}(hf:fs ρ=some ds):aj n m fs ρ=none:=by
 unfold aj;rw[hf,zA,h];simp
def SC(h:x ds=some c){ρ:Dl.Env}(hf:fs ρ=some ds)(hn:ds.length=n):AV n x fs ρ=some c:=by
 unfold AV;rw[hf,zA,yM hn,h]
def WW(h:x ds=none){ρ:Dl.Env}(hf:fs ρ=some ds):AV n x fs ρ=none:=by
 unfold AV;rw[hf,zA,h];simp
def VO(h:f (aJ ρ)=none):mS f ρ=none:=by
 unfold mS;rw[h];rfl
def Bg.one(B:Bg m x ds c)(hf:fs (aJ ρ)=some ds)(hn:ds.length=n):mS (aj n m fs) ρ=none/\nW (AV n x fs) ρ=some c:=⟨VO (yv B.n hf),SC B.x hf hn⟩
def Qc.one(B:Qc m x ds)(hf:fs (aJ ρ)=some ds)(hn:ds.length=n):mS (aj n m fs) ρ=some (.nx ρ)/\nW (AV n x fs) ρ=none:=⟨iq (call_of B.n hf hn),WW B.x hf⟩
def Bg.head(B:Bg m x ds c)(hf:fs (aJ ρ)=some ds)(hn:ds.length=n):ar (mS (aj n m fs)) g ρ=none/\iH (nW (AV n x fs)) (mS (aj n m fs)) xr ρ=some c:=by
 let⟨a,b⟩:=B.one hf hn;constructor
 ·unfold ar;rw[a];rfl
 ·unfold iH;rw[b]
def Qc.tail(B:Qc m x ds)(hf:fs (aJ ρ)=some ds)(hn:ds.length=n):ar (mS (aj n m fs)) g ρ=g ρ/\iH (nW (AV n x fs)) (mS (aj n m fs)) xr ρ=xr ρ:=by
 let⟨a,b⟩:=B.one hf hn;constructor
 ·exact ai a
 ·unfold iH KW;rw[b,a];rfl
def runN(h:g (ds.map Slot.val++List.replicate (n - ds.length) .Xe)=none):bf g n ds=none:=by
 unfold bf;rw[h];rfl
def Uz(h:t (aJ ρ)=some true):LX t xa xb ρ=xa ρ:=by
 unfold LX;rw[h,zA,yM rfl]
def Ep(h:t (aJ ρ)=some false):LX t xa xb ρ=xb ρ:=by
 unfold LX;rw[h,zA,yO (by simp)]
end
section
variable {G T:List Pl}{W:List Wy}{P X:List Int}{b:Bool}{i:Nat}
def Nv(h:bL [d]=some (.bool false)):Bg aZ bO [d] UC:=by
 have c:zq3 (aJ [.val d])=some true:=aM (b:=false) (aF (call_of h rfl rfl));exact⟨runN (aQ c),Uz c⟩
def Wj(h:Wd G T W):Qc aZ bO [aw G T W]:=⟨bU h,Ep (aM (b:=true) (aF (call_of (uW h) rfl rfl)))⟩
def Qp(h:bL [d]=some (.bool false)):Bg cW dJ [d,p] UC :=
 let z:=(Nv h).head (ρ:=[.val d,.val p]) (fs:=aa (ae 0) ag) rfl rfl
 ⟨runN z.1,z.2⟩
def Vt(h:Wd G T W)(hp:dc [aw G T W,p]=some (.bool false)):Bg cW dJ [aw G T W,p] UE:=by
 have c:abA (aJ [.val (aw G T W),.val p])=some true:=aM (b:=false) (aF (call_of hp rfl rfl));exact⟨runN (((Wj h).tail (ρ:=[.val (aw G T W),.val p]) (fs:=aa (ae 0) ag) rfl rfl (xr:=oX)).1.trans (aQ c)),((Wj h).tail (ρ:=[.val (aw G T W),.val p]) (fs:=aa (ae 0) ag) rfl rfl (g:=dP)).2.trans (Uz c)⟩
def Xb(hd:jt d=true)(h:whole a e d=true):Qc iU m9 [d,.int a,.int e]:=by
 have c:aaU (aJ [.val d,.val (.int a),.val (.int e)])=some false:=aM (b:=true) (aF (call_of ((dF hd a e).trans (by rw[h])) rfl rfl));refine⟨?_,Ep c⟩;show (dg [.val d,.val (.int a),.val (.int e)]).map _=_;rw[show dg [.val d,.val (.int a),.val (.int e)]=some (.nx [.val d,.val (.int a),.val (.int e)]) from aK c];rfl
def okN(hd:jt d=true)(h:whole 0 (n - 1) d=true):Qc g8 l7 [d,.int n]:=by
 have z:=(Xb hd h).one (ρ:=[.val d,.val (.int n)]) (fs:=aa (ae 0) aaV) (n:=3) rfl rfl;refine⟨?_,z.2⟩;show (cQ [.val d,.val (.int n)]).map _=_;rw[show cQ [.val d,.val (.int n)]=_ from z.1];rfl
def PN(b:Bool):Qc oS zw [.int (sI b)]:=by
 have hb:whole 0 (2 - 1) (.int (sI b))=true:=by cases b<;>rfl
 exact⟨AI b,((okN (n:=2) rfl hb).one (ρ:=[.val (.int (sI b))]) (fs:=aa (ae 0) zq4) (n:=2) rfl rfl).2⟩
def NU(h:Wd G T W)(hd:jt d=true)(hl:long W.length W.length d=false):dc [aw G T W,d]=some (.bool false):=by
 refine aB ?_;show gW [.val (aw G T W),.val d,.Xe]=_;unfold gW;have ew:∀ρ:Dl.Env,ae 0 ρ=some (aw G T W)->f2 av (ae 0) (fC (.int 2)) ρ=some (.tuple (W.map aE)):=λρ a=>aq (fS G T W) a rfl;refine (ai (aL (ew _ rfl) (ew _ rfl) rfl)).trans ?_;have el:∀ρ:Dl.Env,ae 2 ρ=some (.tuple (W.map aE))->bu bz zq5 ρ=some (nD W.length):=λρ a=>iN a;refine bp ((aQ (aM (b:=false) (aF (call_of ((dh hd W.length W.length).trans (by rw[hl])) (cons_of rfl (cons_of (el _ rfl) (cons_of (el _ rfl) rfl))) rfl)))).trans (ay rfl))
def KJ{ds:List D}(h:ds.length≠n):long (n:Int) n (.tuple ds)=false:=by
 rw[nC];exact zZ h
def Hh{fin:Str->Option D}(h:gb ρ=some (.rt d)):BF gb xg fin ρ=some (.rt d):=by
 unfold BF;rw[h]
def AX{fin:Str->Option D}(h:gb ρ=none)(h2:xg ρ=some c)(h3:fin c=some d):BF gb xg fin ρ=some (.rt d):=by
 unfold BF;rw[h,h2];simp?[zA,h3,zB]
def eZ(j:Int):D:=.tuple [.str "refused",.int j]
abbrev Lf:List Str:=["NoWorld","NoPlan","NoPlace","TooMany","Nothing"]
def LK(h:Lf.contains c=true)(hj:Ai (.bool true) (Lf.map λn=>.bool (c == n))=some j):nS Lf c=some (eZ j):=by
 unfold nS;rw[yM h,hj];rfl
def Tw(b:Bool):PyData.eqv (.bool b) (.bool true)=b:=by cases b<;>simp[PyData.eqv]
def ND:nS Lf UC=some (eZ 0):=LK (by decide +kernel) (by simp?[Lf,zI,Ai,Tw,show (UC == ("NoWorld":Str))=true by decide +kernel,xI])
def V1:nS Lf UE=some (eZ 1):=LK (by decide +kernel) (by simp?[Lf,zI,Ai,Tw,show (UE == ("NoWorld":Str))=false by decide +kernel,show (UE == ("NoPlan":Str))=true by decide +kernel,xI,yP,qQ,zB])
def GY(j:Int):PyData.eqv (eZ j) (eZ j)=true:=NO λd hd=>by
 simp?[zQ,yF,xV] at hd;rcases hd with rfl|rfl
 ·simp[PyData.eqv]
 ·exact J0 j
def rG(j:Int):∀n:Nat,SeqAt.shaped (.list (List.replicate n (eZ j)))=true:=λn=>by
 have h:∀n:Nat,PyData.canLayAll0 (List.replicate n (eZ j))=true/\PyData.depthAll (List.replicate n (eZ j))<=2:=λn=>by
  have hs:PyData.canLay0 (eZ j)=true:=by simp[eZ,PyData.canLay0,PyData.canLayAll0];decide +kernel
  have hd:PyData.depth (eZ j)<=2:=by simp[eZ,PyData.depth,PyData.depthAll]
  induction n with
  | zero=>exact⟨by simp[PyData.canLayAll0],by simp[PyData.depthAll]⟩
  | succ n ih=>exact⟨by simp[xF,PyData.canLayAll0,hs,ih.1],by simp?[xF,PyData.depthAll];lia⟩
 have:=h n;unfold SeqAt.shaped;rw[zF];exact⟨by simp[PyData.canLay0,this.1],by simp[PyData.depth];lia⟩
def LJ(j:Int)(n:Nat):PyData.eqv (.list (List.replicate n (eZ j))) (.list (List.replicate n (eZ j)))=true:=by
 rw[PyData.eqv];exact iF λd hd=>by rw[List.eq_of_mem_replicate hd];exact GY j
def IZ(j:Int)(n:Nat):bh (.list (List.replicate n (eZ j))) (.list (List.replicate n (eZ j)))=some (.bool true):=by simp?[bh,MZ,rG,jQ,xI,LJ,zB]
def xl(a:α):∀n:Nat,(List.replicate n [a]).flatten=List.replicate n a
 | 0=>rfl
 | n+1=>by rw[xF,qN,xl a n,xF];rfl
def LH(j:Int){n:Nat}(hn:n<=10)(ρ:Dl.Env):cq (lQ (bZ (aa (aH (aa (fC (.str "refused")) (aa (fC (.int j)) ag))) ag)) (fC (.int n))) ρ=some (.list (List.replicate n (eZ j))):=by
 refine cg ?_;have hr:bZ (aa (aH (aa (fC (.str "refused")) (aa (fC (.int j)) ag))) ag) ρ=some [eZ j]:=lY (cons_of (tup_is rfl (by simp)) rfl) (by simp);have hg:Di [eZ j] (.int ((n:Nat):Int))=some (List.replicate n [eZ j]).flatten:=by
  have:=CT (ds:=[eZ j]) (k:=((n:Nat):Int)) (oZ (by lia)) (by rw[xD,Nat.one_mul,yG];exact yD hn (by decide));rw[yG] at this;exact this
 have hc:(fC (.int ((n:Nat):Int)):Dl.Env->Option D) ρ=some (.int ((n:Nat):Int)):=rfl;unfold lQ;rw[hr,zA,hc,zA,hg,xl]
def IR{cs:List Nat}{ρ:Dl.Env}{is:List Nat}(Yw:fi ρ=some (is.map nD))(hl:is.length<=1000)(hh:∀i∈is,te (some (nD i)::cs.map λj=>(ρ[j]?).getD none)=some (eZ j)):cq (ax 1 cs fi (fG 0) (λ_=>some true) te) ρ=some (.list (List.replicate is.length (eZ j))):=by
 rw[cg (qt (f:=λ_=>eZ j) Yw hl hh),List.map_const']
end
end
namespace K61M
section
variable {G T:List Pl}{W:List Wy}{P X c:List Int}
def Zo:∀ (l:List Int),lN (l.map PyData.int)=true
 | []=>by simp[lN]
 | x::l=>by rw[zI,lN,Zo l];simp[gF]
def abD(l:List Int):gF (af l)=true:=by rw[af,gF,Zo]
def Z6{i:Nat}{fz:List Nat}{f:Dl.Env->Option D}{ρ:au}{l:List Int}(hA:f (aJ ρ)=some (af l))(hF:f (bK (hand fz 0 ρ))=some (af l)):Dl.aD i fz f ρ=some (.nx (ρ.set i (.val (af l)))):=by
 have hs:Dl.oW (af l)=false:=rfl;simp?[Dl.aD,hA,hF,zA,hs,yP,qQ,zB,abD,xI]
def Zq{f:Dl.Env->Option D}{ρ:Dl.Env}{α:Type}{g:α->D}{r:List α}(h:f ρ=some (.list (r.map g))):bu bz (aa f ag) ρ=some (nD r.length):=by
 rw[lg h];show some (PyData.int ((r.map g).length:Nat))=_;rw[zD]
abbrev Sk:=List (Nat×Int)×List Int×Bool
def pk(ns:List Int)(G T:List Pl)(W:List Wy)(s:Sk):Nat:=(wy G T W s.2.1).getD (dr ns (70+2 * ((s.1.length:Nat):Int)) (((wy G T W s.2.1).length:Nat):Int)).toNat 0
def pv(ns:List Int)(G T:List Pl)(W:List Wy)(s:Sk):Int:=(dY G T W s.2.1).getD (pk ns G T W s) 0+dr ns (70+2 * ((s.1.length:Nat):Int)+1) ((bb false G T W s.2.1).getD (pk ns G T W s) 0 - (dY G T W s.2.1).getD (pk ns G T W s) 0)
def stK(ns:List Int)(G T:List Pl)(W:List Wy)(s:Sk):Sk:=if wy G T W s.2.1=[] then (s.1,s.2.1,false) else (s.1++[(pk ns G T W s,pv ns G T W s)],low s.2.1 (pk ns G T W s,pv ns G T W s),true)
structure SI(G T:List Pl)(W:List Wy)(s:Sk):Prop where
 cp:SD G T W s.2.1
 cb:cb G T W (cf W) s.1=some s.2.1
 fr:P5 W s.1
 bd:s.1.length+XY s.2.1<=XY (cf W)
def mu(s:Sk):Nat:=2 * XY s.2.1+if s.2.2=true then 1 else 0
def aa2{ns:List Int}(hl:ns.length<=63)(h:Wd G T W){s:Sk}(i:SI G T W s)(hw:wy G T W s.2.1≠[]) :
  (0<=dr ns (70+2 * ((s.1.length:Nat):Int)) (((wy G T W s.2.1).length:Nat):Int)/\(dr ns (70+2 * ((s.1.length:Nat):Int)) (((wy G T W s.2.1).length:Nat):Int)).toNat < (wy G T W s.2.1).length)/\pk ns G T W s < W.length/\(dY G T W s.2.1).getD (pk ns G T W s) 0 < (bb false G T W s.2.1).getD (pk ns G T W s) 0/\(dY G T W s.2.1).getD (pk ns G T W s) 0<=pv ns G T W s/\pv ns G T W s < (bb false G T W s.2.1).getD (pk ns G T W s) 0:=by
 have hp:0 < (wy G T W s.2.1).length:=List.length_pos_iff.mpr hw;have h0:=G8 (ns:=ns) (70+2 * ((s.1.length:Nat):Int)) (((wy G T W s.2.1).length:Nat):Int) hl (by lia);have h1:=Hf (ns:=ns) (70+2 * ((s.1.length:Nat):Int)) (((wy G T W s.2.1).length:Nat):Int) hl (by lia);have Xw:(dr ns (70+2 * ((s.1.length:Nat):Int)) (((wy G T W s.2.1).length:Nat):Int)).toNat < (wy G T W s.2.1).length:=by lia
 have hm:pk ns G T W s∈wy G T W s.2.1:=by
  unfold pk;rw[zG,zK Xw];exact qB Xw
 let⟨k1,k2⟩:=Sf.mp hm;have h2:=G8 (ns:=ns) (70+2 * ((s.1.length:Nat):Int)+1) ((bb false G T W s.2.1).getD (pk ns G T W s) 0 - (dY G T W s.2.1).getD (pk ns G T W s) 0) hl (by lia);have h3:=Hf (ns:=ns) (70+2 * ((s.1.length:Nat):Int)+1) ((bb false G T W s.2.1).getD (pk ns G T W s) 0 - (dY G T W s.2.1).getD (pk ns G T W s) 0) hl (by lia);refine⟨⟨h0,Xw⟩,k1,k2,?_,?_⟩
 ·unfold pv;lia
 ·unfold pv;lia
def SI.step{ns:List Int}(hl:ns.length<=63)(h:Wd G T W){s:Sk}(i:SI G T W s)(hc:s.2.2=true):SI G T W (stK ns G T W s)/\mu (stK ns G T W s) < mu s:=by
 unfold stK;by_cases hw:wy G T W s.2.1=[]
 ·rw[yM hw];refine⟨⟨i.cp,i.cb,i.fr,i.bd⟩,?_⟩;unfold mu;rw[hc];simp
 ·rw[yO hw];let⟨_,k1,k2,k3,k4⟩:=aa2 hl h i hw;let⟨c1,c2⟩:=i.cp.step h k1 k3 k4;have hk:=rm h i.cp.off k1;have hl9:=(h.wr _ (qw k1)).2.2.2;have c2':XY (low s.2.1 (pk ns G T W s,pv ns G T W s)) < XY s.2.1:=c2;refine⟨⟨c1,?_,λp hp=>?_,?_⟩,?_⟩
  ·rw[KP,i.cb,zA,yM];unfold Mi;simp?[zF,zJ];exact⟨k3,k4⟩
  ·rcases List.mem_append.mp hp with z|z
   ·exact i.fr p z
   ·rw[yK] at z;subst z;exact⟨k1,by show 0<=pv ns G T W s;lia,by show pv ns G T W s<=9;lia⟩
  ·have:=i.bd;simp?[zN,xD];lia
  ·unfold mu;rw[hc];simp?[xI];lia
def aap(h:Wd G T W):P5 W (fin G T W).1/\(fin G T W).1.length<=1000/\cb G T W (cf W) (fin G T W).1=some (fin G T W).2/\(fin G T W).2.length=W.length:=by
 let⟨c1,c2⟩:=OV h;have hb:=(sF h).2.1.bd;have hm:=h.XY;refine⟨λp hp=>C2 h (sZ h) (U9 h) c1 p hp,by lia,?_,(sF h).2.1.len⟩;have:=(Lz c1 _ (yN _)).1;rw[List.take_length] at this;rw[this,c2]
end
end K61M
namespace K60M
open Ex
section
def qh(n:Nat):D->Bool|.tuple ds=>decide (ds.length=2)&&(whole 0 ((n:Int) - 1) (ds.getD 0 .none)&&whole 0 9 (ds.getD 1 .none))|_=>false
def Ar(h:fa ρ=some (.bool false)):gy fa fb ρ=some (.bool false):=by
 unfold gy;rw[h];rfl
def pd(h:fa ρ=some (.bool true))(h2:fb ρ=r):gy fa fb ρ=r:=by
 unfold gy;rw[h];exact h2
def MD(h:Wd G T W)(hd:cI b k d):bW [aw G T W,d]=some (.bool (qh W.length d)):=by
 refine aB ?_;show cM [.val (aw G T W),.val d]=_;unfold cM;refine ay ?_;have e1:=dh hd.nd 2 2;cases hl:long 2 2 d with
 | false =>
  rw[hl] at e1;rw[show qh W.length d=false by
   cases d<;>try rfl
   rename_i ds;have:=nC 2 ds;rw[show long ((2:Nat):Int) ((2:Nat):Int) (.tuple ds)=false from hl] at this;simp?[qh,<- this,wM]]
  exact Ar (call_of e1 rfl rfl)
 | true =>
  rw[hl] at e1;obtain⟨ds,rfl⟩:∃ds,d=.tuple ds:=⟨_,jx hl⟩
  have e2:ds.length=2:=by
   have:=nC 2 ds;rw[show long ((2:Nat):Int) ((2:Nat):Int) (.tuple ds)=true from hl] at this;simpa using this.symm
  let⟨j,rfl,_,hf⟩:=hd.XD;have f0:=hf _ (getD_mem (i:=0) (by lia));have f1:=hf _ (getD_mem (i:=1) (by lia));have i0:av (.tuple ds) (.int 0)=some (ds.getD 0 .none):=CD (by lia);have i1:av (.tuple ds) (.int 1)=some (ds.getD 1 .none):=yf (by lia);have er:qh W.length (.tuple ds)=(whole 0 ((W.length:Int) - 1) (ds.getD 0 .none)&&whole 0 9 (ds.getD 1 .none)):=by simp?[qh,e2,jR,jM]
  have c0:=call_of (n:=2) (gg f0.nd (W.length:Int)) (fs:=aa (f2 av (ae 1) (fC (.int 0))) afz) (ρ:=aJ [.val (aw G T W),.val (.tuple ds)]) (cons_of (aq i0 rfl rfl) (cons_of (iN (l:=W) (k:=aE) (aq (fS G T W) rfl rfl)) rfl)) rfl;have c1:=call_of (n:=3) (dF f1.nd 0 9) (fs:=aa (f2 av (ae 1) (fC (.int 1))) abC) (ρ:=aJ [.val (aw G T W),.val (.tuple ds)]) (cons_of (aq i1 rfl rfl) rfl) rfl;refine pd (call_of e1 rfl rfl) ?_;rw[er];cases hw:whole 0 ((W.length:Int) - 1) (ds.getD 0 .none) with
  | false=>rw[hw] at c0;exact Ar c0
  | true=>rw[hw] at c0;rw[jM];exact pd c0 c1
def Lx(h:Wd G T W)(hd:cI b k d):oH [aw G T W,d]=some (.bool (qh W.length d)):=by
 refine aB ?_;show oq [.val (aw G T W),.val d]=_;unfold oq;refine (ai (iq (call_of (bU h) rfl rfl))).trans ?_;exact ay (call_of (MD h hd) rfl rfl)
def u0{T:String}{f:Dl.Env->Option D}{ρ:Dl.Env}{r:Bool}(h:f ρ=some d)(h2:sg (fH d) T=some r):AS T f ρ=some (.bool r):=by
 unfold AS;rw[h,zA,h2];rfl
def yw(h:t ρ=some true):iM t u ρ=some true:=by
 unfold iM;rw[h];rfl
def uU(h:t ρ=some false)(h2:u ρ=r):iM t u ρ=r:=by
 unfold iM;rw[h];exact h2
def P6:au->Option Out:=ace
def MH(hd:jt d=true)(wd r:D)(m:Int):P6 [.val wd,.val r,.val d,.val (.int m)]=some (if whole 0 m d=true then .nx [.val wd,.val r,.val d,.val (.int m)] else .rt (.bool false)):=by
 have hI:∀ρ:Dl.Env,ae 2 ρ=some d->AS "int" (ae 2) ρ=some (.bool (VW d)):=λρ h=>u0 h (kI hd);have hB:∀ρ:Dl.Env,ae 2 ρ=some d->AS "bool" (ae 2) ρ=some (.bool (UY d)):=λρ h=>u0 h (kB hd);unfold P6;cases d with
 | int i =>
  have hc:dW Dl.rT Dl.rT (fC (.int 0)) (ae 2) (ae 3) (aJ [.val wd,.val r,.val (.int i),.val (.int m)])=some (.bool (whole 0 m (.int i))):=uG rfl rfl rfl;have ht:acd (aJ [.val wd,.val r,.val (.int i),.val (.int m)])=some (!whole 0 m (.int i)) :=
   uU (aM (aF (hI _ rfl))) (uU (aF (hB _ rfl)) (aM (aF hc)))
  cases hw:whole 0 m (.int i) with
  | true=>rw[hw] at ht;exact aK ht
  | false=>rw[hw] at ht;exact (aQ ht).trans (ay rfl)
 | bool v=>exact (aQ (uU (aM (aF (hI _ rfl))) (yw (aF (hB _ rfl))))).trans (ay rfl)
 | dict _=>cases hd
 | _=>exact (aQ (yw (aM (aF (hI _ rfl))))).trans (ay rfl)
def oJ(h:Wd G T W)(hd:cI b k d)(hb:b<=1000):cG [aw G T W,d]=some (.bool (qh W.length d)):=by
 refine aB ?_;show fX [.val (aw G T W),.val d,.Xe,.Xe]=_;unfold fX;have hT:∀ρ:Dl.Env,ae 1 ρ=some d->AS "tuple" (ae 1) ρ=some (.bool (M1 d)):=λρ h=>u0 h (kT hd.nd);by_cases ht:∃ds,d=.tuple ds
 ·let⟨ds,rfl⟩:=ht;have hn:f2 gf aaT (fC (.int 2)) (aJ [.val (aw G T W),.val (.tuple ds),.Xe,.Xe])=some (.bool (!decide (((ds.length:Nat):Int)=2))):=aq (ME _ _) (show bu bz Yl _=some (.int ((ds.length:Nat):Int)) from rfl) rfl;let⟨j,rfl,_,hf⟩:=hd.XD;by_cases e:ds.length=2
  ·rw[e] at hn;refine (ai (aK (uU (aM (aF (hT _ rfl))) (aF hn)))).trans ?_;have f0:=hf _ (getD_mem (i:=0) (by lia));have f1:=hf _ (getD_mem (i:=1) (by lia));obtain⟨x,y,rfl⟩:∃x y,ds=[x,y]:=by
    match ds,e with
    | [x,y],_=>exact⟨x,y,rfl⟩
   have f0:cI b j x:=f0;have f1:cI b j y:=f1;have hz:cO acb (bK [.val (aw G T W),.val (.tuple [x,y]),.Xe,.Xe])=some [.tuple [x,.int (((W.length:Nat):Int) - 1)],.tuple [y,.int 9]]:=by
    have e1:aH ab9 (bK [.val (aw G T W),.val (.tuple [x,y]),.Xe,.Xe])=some (.tuple [.int (((W.length:Nat):Int) - 1),.int 9]) :=
     tup_is (cons_of (aq (sub_int _ _) (iN (l:=W) (k:=aE) (aq (fS G T W) rfl rfl)) rfl) rfl) (by simp)
    show (aa _ _ _).bind QI=_;rw[show aa (ae 1) aca (bK [.val (aw G T W),.val (.tuple [x,y]),.Xe,.Xe])=some [.tuple [x,y],.tuple [.int (((W.length:Nat):Int) - 1),.int 9]] from cons_of rfl (cons_of e1 rfl)];rfl
   have hrw:qh W.length (.tuple [x,y])=(whole 0 ((W.length:Int) - 1) x&&whole 0 9 y):=by simp[qh]
   rw[hrw];have a0:=MH f0.nd (aw G T W) (.tuple [x,y]) (((W.length:Nat):Int) - 1);have a1:=MH f1.nd (aw G T W) (.tuple [x,y]) 9;cases w0:whole 0 ((W.length:Int) - 1) x with
   | false =>
    rw[w0] at a0;have f:cJ (fj 2 3) P6 [.tuple [x,.int (((W.length:Nat):Int) - 1)],.tuple [y,.int 9]] [.val (aw G T W),.val (.tuple [x,y]),.Xe,.Xe]=some (.rt (.bool false)):=by
     show (P6 [.val (aw G T W),.val (.tuple [x,y]),.val x,.val (.int (((W.length:Nat):Int) - 1))]).bind _=_;rw[a0];rfl
    exact bp (bc f hz rfl)
   | true =>
    rw[w0] at a0;have f1':∀r,P6 [.val (aw G T W),.val (.tuple [x,y]),.val y,.val (.int 9)]=some r->cJ (fj 2 3) P6 [.tuple [x,.int (((W.length:Nat):Int) - 1)],.tuple [y,.int 9]] [.val (aw G T W),.val (.tuple [x,y]),.Xe,.Xe]=some r:=λr hr=>by
     show (P6 [.val (aw G T W),.val (.tuple [x,y]),.val x,.val (.int (((W.length:Nat):Int) - 1))]).bind _=_;rw[a0];show (P6 [.val (aw G T W),.val (.tuple [x,y]),.val y,.val (.int 9)]).bind _=_;rw[hr];cases r<;>rfl
    cases w1:whole 0 9 y with
    | false=>rw[w1] at a1;exact bp (bc (f1' _ a1) hz rfl)
    | true=>rw[w1] at a1;exact (ai (bc (f1' _ a1) hz rfl)).trans (ay rfl)
  ·rw[show qh W.length (.tuple ds)=false by simp[qh,e]];rw[zZ (by lia)] at hn;exact bp ((aQ (uU (aM (aF (hT _ rfl))) (aF hn))).trans (ay rfl))
 ·have hf:M1 d=false:=by cases d<;>first|rfl|exact absurd ⟨_,rfl⟩ ht
  rw[show qh W.length d=false by cases d<;>first|rfl|exact absurd ⟨_,rfl⟩ ht];refine bp ((aQ (yw (aM (b:=false) (aF ?_)))).trans (ay rfl));rw[<- hf];exact hT _ rfl
def Jq:D->Nat×Int|.tuple ds=>((iY (ds.getD 0 .none)).toNat,iY (ds.getD 1 .none))|_=>(0,0)
def Kz(h:qh n d=true):d=pD (Jq d)/\(Jq d).1 < n/\0<=(Jq d).2/\(Jq d).2<=9:=by
 cases d<;>try (cases h;done)
 rename_i ds;simp?[qh,zF,zJ] at h;let⟨h0,h1,h2⟩:=h;obtain⟨x,y,rfl⟩:∃x y,ds=[x,y]:=by
  match ds,h0 with
  | [x,y],_=>exact⟨x,y,rfl⟩
 let⟨e1,l1,u1⟩:=eP (d:=x) h1;let⟨e2,l2,u2⟩:=eP (d:=y) h2;have t1:Jq (.tuple [x,y])=((iY x).toNat,iY y):=rfl;rw[t1];refine⟨?_,by show (iY x).toNat < n;lia,l2,u2⟩;show PyData.tuple [x,y]=.tuple [.int (((iY x).toNat:Nat):Int),.int (iY y)];rw[Int.toNat_of_nonneg l1,<- e1,<- e2]
def J9:∀ {es:List D},es.all (qh n)=true->es=(es.map Jq).map pD
 | [],_=>rfl
 | e::es,h=>by
  rw[xU,zF] at h;rw[zI,zI,<- (Kz h.1).1,<- J9 h.2]
def dQ(G T:List Pl)(W:List Wy):D->Option (List Int)
 | .list es=>if es.all (qh W.length)=true then cb G T W (cf W) (es.map Jq) else none
 | _=>none
def Nk{es:List D}(h:es.all (qh W.length)=true):P5 W (es.map Jq):=λp hp=>by
 let⟨e,he,rfl⟩:=List.mem_map.mp hp;exact (Kz (List.all_eq_true.mp h e he)).2
def E4(hd:jt d=true)(h:∀es,d≠.list es):sg (fH d) "list"=some false:=by
 cases d<;>first|cases hd;done|exact absurd rfl (h _)|exact JK _ (by simp[fH])
def GJ(h:Wd G T W)(hd:cI 500 k d):cH [aw G T W,d]=some (zc (dQ G T W d)):=by
 by_cases hl:∃es,d=.list es
 ·let⟨es,rfl⟩:=hl;let⟨j,rfl,hb,hf⟩:=hd.ZN;cases ha:es.all (qh W.length) with
  | true =>
   have e:=J9 ha;have:=w4 h (Nk ha) (by rw[zD];lia);rw[<- e] at this;simp?[dQ,ha,xI];exact this
  | false =>
   simp?[dQ,ha,yP,qQ];refine aB ?_;show bT [.val (aw G T W),.val (.list es),.Xe,.Xe]=_;unfold bT;have c:ax 1 [0] YT (fG 0) (λ_=>some true) ad4 [some (aw G T W),some (.list es),none,none]=some (es.map λe=>.bool (qh W.length e)) :=
    bR (ds:=es) rfl (by lia) λd hd=>call_of (MD h (hf d hd)) rfl rfl
   have hc:bu jl ad5 [some (aw G T W),some (.list es),none,none]=some (.bool false):=by
    rw[lg (cg c),lT,ha]
   exact bp ((aQ (uU (aM (b:=true) (aF rfl)) (aM (b:=false) (aF hc)))).trans (ay rfl))
 ·have hn:∀es,d≠.list es:=λes e=>hl ⟨es,e⟩;have ec:dQ G T W d=none:=by cases d<;>first|rfl|exact absurd rfl (hn _)
  rw[ec];refine aB ?_;show bT [.val (aw G T W),.val d,.Xe,.Xe]=_;unfold bT;exact bp ((aQ (yw (aM (b:=false) (aF (u0 (d:=d) rfl (E4 hd.nd hn)))))).trans (ay rfl))
def Cv(h:p.1 < c.length)(hl:c.length<=1000)(g2:fc ρ=some (af c))(gi:fi ρ=some (nD p.1))(gv:fv ρ=some (.int p.2)) :
  (f2 Dl.aA (f2 Dl.aA (cF bw fc cZ (mC fi)) (aH (aa fv ag))) (cF bw fc (mC (f2 Dl.aA fi (fC (.int 1)))) cZ)) ρ=some (af (low c p)):=by
 refine aq (a:=.tuple ((c.map PyData.int).take p.1++[PyData.int p.2])) (b:=.tuple ((c.map PyData.int).drop (p.1+1))) ?_ (aq (a:=.tuple ((c.map PyData.int).take p.1)) (b:=.tuple [.int p.2]) (ou ?_) (KC g2 gi) (Jb gv)) (LZ g2 (aq (Wc p.1) gi rfl))
 ·rw[ou,sE c p.1 p.2 h]
  ·rfl
  ·rw[sE c p.1 p.2 h];simp;lia
 ·simp;lia
def Nh:au->Option Out:=(ar (dZ (bJ (fB (aj 2 cG (aa (ae 0) (aa (ae 3) ag))))) (aV (fC .none)) dP) (ar (Dl.aD 4 [0,2] (aj 3 br (aa (ae 0) (aa (fC (.int 0)) (aa (ae 2) ag))))) (ar (Dl.aD 5 [0,4] (aj 3 br (aa (ae 0) (aa (fC (.int 1)) (aa (ae 4) ag))))) (ar (dZ (bJ (fB (dW Dl.rT Dl.v5 (f2 av (ae 5) (f2 av (ae 3) (fC (.int 0)))) (f2 av (ae 3) (fC (.int 1))) (f2 av (ae 4) (f2 av (ae 3) (fC (.int 0))))))) (aV (fC .none)) dP) (Dl.aD 2 [2,3] (f2 Dl.aA (f2 Dl.aA (cF bw (ae 2) cZ (mC (f2 av (ae 3) (fC (.int 0))))) (aH (aa (f2 av (ae 3) (fC (.int 1))) ag))) (cF bw (ae 2) (mC (f2 Dl.aA (f2 av (ae 3) (fC (.int 0))) (fC (.int 1)))) cZ)))))))
def W1:Dl.Env->Option D:=acf
def GT(h:Wd G T W)(D0:D):∀ (es:List D) (c:List Int) (x y z:Slot),(∀e∈es,cI 500 k e)->c.length=W.length ->
  ((if es.all (qh W.length)=true then cb G T W c (es.map Jq) else none)=none->cJ (iZ 3) Nh es [.val (aw G T W),.val D0,.val (af c),x,y,z]=some (.rt .none)) /\
  (∀c',(if es.all (qh W.length)=true then cb G T W c (es.map Jq) else none)=some c'->∃x' y' z',cJ (iZ 3) Nh es [.val (aw G T W),.val D0,.val (af c),x,y,z]=some (.nx [.val (aw G T W),.val D0,.val (af c'),x',y',z']))
 | [],c,x,y,z,_,_=>⟨(λe=>nomatch e),(λc' e=>by cases e;exact⟨x,y,z,rfl⟩)⟩
 | e::es,c,x,y,z,hf,hc=>by
  have hw:=h.wl;have er:=oJ h (hf e zE) (by lia);have ht:iZ 3 [.val (aw G T W),.val D0,.val (af c),x,y,z] e=some [.val (aw G T W),.val D0,.val (af c),.val e,y,z]:=rfl;rw[cJ,ht,zA];cases hr:qh W.length e with
  | false =>
   rw[hr] at er;have hb:Nh [.val (aw G T W),.val D0,.val (af c),.val e,y,z]=some (.rt .none):=bp ((aQ (aM (aF (call_of er rfl rfl)))).trans (ay rfl));rw[hb];exact⟨λ_=>rfl,λc' z=>by simp[hr] at z⟩
  | true =>
   rw[hr] at er;let⟨ep,hp⟩:=Kz hr;generalize hq:Jq e=p at ep hp;subst ep;have a0:=ij h hc false;have a1:=ij (off:=bb false G T W c) h (dv _ _ _ _ _) true;let⟨i1,i2⟩:=GT h D0 es (low c p) (.val (pD p)) (.val (af (bb false G T W c))) (.val (af (dY G T W c))) (λq hq=>hf q (zC _ hq)) (by rw[sO,hc]);have es1:((pD p)::es).all (qh W.length)=es.all (qh W.length):=by rw[xU,hr,jM]
   have e0:Nh [.val (aw G T W),.val D0,.val (af c),.val (pD p),y,z]=some (if Mi G T W c p=true then .nx [.val (aw G T W),.val D0,.val (af (low c p)),.val (pD p),.val (af (bb false G T W c)),.val (af (dY G T W c))] else .rt .none):=by
    refine (ai (aK (aM (aF (call_of er rfl rfl))))).trans ?_;refine (ai (aL (call_of a0 rfl rfl) (call_of a0 rfl rfl) rfl)).trans ?_;refine (ai (aL (call_of a1 rfl rfl) (call_of a1 rfl rfl) rfl)).trans ?_;have Yr:dW Dl.rT Dl.v5 (f2 av (ae 5) ZJ) adV (f2 av (ae 4) ZJ) (aJ [.val (aw G T W),.val D0,.val (af c),.val (pD p),.val (af (bb false G T W c)),.val (af (dY G T W c))])=some (.bool (Mi G T W c p)) :=
     Cn (aq (dR (off:=dY G T W c) (i:=p.1) (by unfold dY;rw[dv];exact hp.1)) rfl (aq (Pw p) rfl rfl)) (aq (R0 p) rfl rfl) (aq (dR (i:=p.1) (by rw[dv];exact hp.1)) rfl (aq (Pw p) rfl rfl))
    cases XO:Mi G T W c p with
    | false=>rw[XO] at Yr;exact bp ((aQ (aM (aF Yr))).trans (ay rfl))
    | true =>
     rw[XO] at Yr;refine (ai (aK (aM (aF Yr)))).trans ?_;have hlo:∀ρ:Dl.Env,ae 2 ρ=some (af c)->ae 3 ρ=some (pD p)->W1 ρ=some (af (low c p)):=λρ g2 g3=>Cv (by rw[hc];exact hp.1) (by lia) g2 (aq (Pw p) g3 rfl) (aq (R0 p) g3 rfl);exact aL (hlo _ rfl rfl) (hlo _ rfl rfl) rfl
   rw[e0,es1,zI,hq,cb];cases XO:Mi G T W c p with
   | false =>
    simp?[yP,qQ,zA];exact⟨λ_=>trivial,λc' z=>by split at z<;>cases z⟩
   | true =>
    simp?[xI,zA];exact⟨i1,i2⟩
def ua(h:Wd G T W)(hd:cI 500 k d):gn [aw G T W,d]=some (zc (dQ G T W d)):=by
 refine aB ?_;show iz [.val (aw G T W),.val d,.Xe,.Xe,.Xe,.Xe]=_;unfold iz;by_cases hl:∃es,d=.list es
 ·let⟨es,rfl⟩:=hl;let⟨j,rfl,hb,hf⟩:=hd.ZN;refine (ai (aK (aM (b:=true) (aF rfl)))).trans ?_;refine (ai (aL (mi h rfl) (mi h rfl) rfl)).trans ?_;let⟨f1,YD⟩:=GT h (.list es) es (cf W) .Xe .Xe .Xe hf (fZ W);cases e:dQ G T W (.list es) with
  | none=>exact bp (bc (f1 e) rfl rfl)
  | some c' =>
   let⟨x,y,z,e2⟩:=YD c' e;exact (ai (bc e2 rfl rfl)).trans (ay rfl)
 ·have hn:∀es,d≠.list es:=λes e=>hl ⟨es,e⟩;have ec:dQ G T W d=none:=by cases d<;>first|rfl|exact absurd rfl (hn _)
  rw[ec];exact bp ((aQ (aM (b:=false) (aF (u0 (d:=d) rfl (E4 hd.nd hn))))).trans (ay rfl))
def Ks:∀ {r:List (Nat×Int)}{c c':List Int},c.length=W.length->cb G T W c r=some c'->c'.length=W.length
 | [],c,c',hc,e=>by cases e;exact hc
 | p::r,c,c',hc,e=>by
  rw[cb] at e;split at e
  ·exact Ks (by rw[sO,hc]) e
  ·cases e
def Hj(e:dQ G T W d=some c):c.length=W.length:=by
 cases d<;>try (cases e;done)
 simp?[dQ] at e;split at e
 ·exact Ks (fZ W) e
 ·cases e
def uI(h:Wd G T W)(hd:cI 500 k d):ck [aw G T W,d]=some (zc (dQ G T W d)):=by
 refine aB ?_;show mE [.val (aw G T W),.val d]=_;unfold mE;refine (ai (iq (call_of (bU h) rfl rfl))).trans ?_;exact ay (call_of (GJ h hd) rfl rfl)
def CV(h:Wd G T W)(hd:cI 500 k d):kj [aw G T W,d]=some (.bool (dQ G T W d).isSome):=by
 refine aB ?_;show sG [.val (aw G T W),.val d]=_;unfold sG;refine ay (aq ?_ (call_of (uI h hd) rfl rfl) rfl);cases dQ G T W d<;>rfl
def TV(G T:List Pl)(W:List Wy)(X:List Int)(d:D):Bool:=match dQ G T W d with|none=>false|some c=>decide (MV G T W X=[])&&decide (bb false G T W c=X)
def K5(h:Wd G T W)(x:Pn G T W X)(hd:cI 500 k d):kh [aw G T W,af X,d]=some (.bool (TV G T W X d)):=by
 have eb:=GJ h hd;have es:=Ea h x.len (x.smP h);refine aB ?_;show sQ [.val (aw G T W),.val (af X),.val d,.Xe]=_;unfold sQ;refine (ai (iq (call_of (zx h x) rfl rfl))).trans ?_;refine (ai (aL (call_of eb rfl rfl) (call_of eb rfl rfl) rfl)).trans ?_;unfold TV;cases e:dQ G T W d with
 | none=>exact bp ((aQ (yw rfl)).trans (ay rfl))
 | some c =>
  cases hs:decide (MV G T W X=[]) with
  | false =>
   rw[hs] at es;exact bp ((aQ (uU rfl (aM (aF (call_of es rfl rfl))))).trans (ay rfl))
  | true =>
   rw[hs] at es;refine (ai (aK (uP rfl (aM (aF (call_of es rfl rfl)))))).trans ?_;refine ay ((aq (C9 _ _) rfl (call_of (cm h (Hj e) false) rfl rfl)).trans ?_);simp?[jM,yL,PyData.bool.injEq];exact decide_eq_decide.mpr ⟨Eq.symm,Eq.symm⟩
def JJ(h:f (aJ ρ)=none):aV f ρ=none:=by
 unfold aV;rw[h];rfl
def PY(h:xh ρ=some c):iH xh g xr ρ=some c:=by
 unfold iH;rw[h]
def CO(h:xh ρ=none)(hg:g ρ=some (.nx ρ)):iH xh g xr ρ=xr ρ:=by
 unfold iH KW;rw[h,hg];rfl
def TN(h:g1 ρ=none):ar g1 g2 ρ=none:=by
 unfold ar;rw[h];rfl
def Vx(h:t ρ=some true)(ha:fa ρ=none):DN t fa fb ρ=none:=by simp?[DN,h,zA,ha]
def U1(h:t ρ=some false)(ha:fb ρ=none):DN t fa fb ρ=none:=by simp?[DN,h,zA,ha]
def Vi(h:t ρ=some true):Fe t xa xb ρ=xa ρ:=by simp?[Fe,h,zA,xI]
def VA(h:t ρ=some false):Fe t xa xb ρ=xb ρ:=by simp?[Fe,h,zA,yP,qQ]
abbrev env(k:Int)(w p l:D):au:=[.val (.int k),.val w,.val p,.val l,.Xe]
def tq(k j:Int):(fB (f2 bh (ae 0) (fC (.int j)))) (aJ (env k w p l))=some (decide (k=j)):=aF (aq (bV k j) rfl rfl)
def PF(h:kj [w,l]=some d):az [.int 0,w,p,l]=some d:=aB (Hh (ρ:=env 0 w p l) (bp ((aQ (tq 0 0)).trans (ay (call_of h rfl rfl)))))
def S3(h:ck [w,l]=some d):az [.int 1,w,p,l]=some d:=aB (Hh (ρ:=env 1 w p l) ((ai (aK (tq 1 0))).trans (bp ((aQ (tq 1 1)).trans (ay (call_of h rfl rfl))))))
def T7(h:kh [w,p,l]=some d):az [.int 2,w,p,l]=some d:=aB (Hh (ρ:=env 2 w p l) ((ai (aK (tq 2 0))).trans ((ai (aK (tq 2 1))).trans (ay (mI (tq 2 2) (call_of h rfl rfl))))))
def Ul(h:ku [w]=some d):az [.int 3,w,p,l]=some d:=aB (Hh (ρ:=env 3 w p l) ((ai (aK (tq 3 0))).trans ((ai (aK (tq 3 1))).trans (ay (qu (tq 3 2) (call_of h rfl rfl))))))
def V2(B:Bg kj pG [w,l] c)(hf:nS Lf c=some d):az [.int 0,w,p,l]=some d:=aB (AX (ρ:=env 0 w p l) (TN ((aQ (tq 0 0)).trans (JJ (yv B.n rfl)))) (PY ((Uz (tq 0 0)).trans (SC B.x rfl rfl))) hf)
def VQ(B:Bg ck eK [w,l] c)(hf:nS Lf c=some d):az [.int 1,w,p,l]=some d:=aB (AX (ρ:=env 1 w p l) ((ai (aK (tq 1 0))).trans (TN ((aQ (tq 1 1)).trans (JJ (yv B.n rfl))))) ((CO (Ep (tq 1 0)) (aK (tq 1 0))).trans (PY ((Uz (tq 1 1)).trans (SC B.x rfl rfl)))) hf)
def TB(B:Bg kh pE [w,p,l] c)(hf:nS Lf c=some d):az [.int 2,w,p,l]=some d:=aB (AX (ρ:=env 2 w p l) ((ai (aK (tq 2 0))).trans ((ai (aK (tq 2 1))).trans (JJ (Vx (tq 2 2) (yv B.n rfl))))) ((CO (Ep (tq 2 0)) (aK (tq 2 0))).trans ((CO (Ep (tq 2 1)) (aK (tq 2 1))).trans ((Vi (tq 2 2)).trans (SC B.x rfl rfl)))) hf)
def Vv(B:Bg ku oQ [w] c)(hf:nS Lf c=some d):az [.int 3,w,p,l]=some d:=aB (AX (ρ:=env 3 w p l) ((ai (aK (tq 3 0))).trans ((ai (aK (tq 3 1))).trans (JJ (U1 (tq 3 2) (yv B.n rfl))))) ((CO (Ep (tq 3 0)) (aK (tq 3 0))).trans ((CO (Ep (tq 3 1)) (aK (tq 3 1))).trans ((VA (tq 3 2)).trans (SC B.x rfl rfl)))) hf)
def Vj(B:Bg aZ bO [w] c):Bg ku oQ [w] c:=by
 have z:=λg=>B.head (ρ:=[.val w]) (fs:=aa (ae 0) ag) (n:=1) rfl rfl (g:=g) (xr:=oX);have z2:=B.one (ρ:=[.val w]) (fs:=aa (ae 0) ag) (n:=1) rfl rfl;exact⟨runN (z _).1,z2.2⟩
def Uy(B:Bg aZ bO [w] c):Bg ck eK [w,l] c:=by
 have z:=λg=>B.head (ρ:=[.val w,.val l]) (fs:=aa (ae 0) ag) (n:=1) rfl rfl (g:=g) (xr:=oX);have z2:=B.one (ρ:=[.val w,.val l]) (fs:=aa (ae 0) ag) (n:=1) rfl rfl;exact⟨runN (z _).1,z2.2⟩
def Vk(B:Bg ck eK [w,l] c):Bg kj pG [w,l] c:=by
 refine⟨runN (JJ ?_),SC (n:=2) (ρ:=aJ [.val w,.val l]) (fs:=aa (ae 0) Yl) B.x rfl rfl⟩;have:aj 2 ck Yy (aJ [.val w,.val l])=none:=yv B.n rfl;show f2 lJ (aj 2 ck Yy) (fC .none) (aJ [.val w,.val l])=none;unfold f2;rw[this];rfl
def Ui(B:Bg cW dJ [w,p] c):Bg kh pE [w,p,l] c:=by
 have z:=λg=>B.head (ρ:=[.val w,.val p,.val l,.Xe]) (fs:=aa (ae 0) Yl) (n:=2) rfl rfl (g:=g) (xr:=oX);have z2:=B.one (ρ:=[.val w,.val p,.val l,.Xe]) (fs:=aa (ae 0) Yl) (n:=2) rfl rfl;exact⟨runN (z _).1,z2.2⟩
def U7(hb:bL [w]=some (.bool false)):∀i,i < 4->az [nD i,w,p,l]=some (eZ 0)
 | 0,_=>V2 (Vk (Uy (Nv hb))) ND
 | 1,_=>VQ (Uy (Nv hb)) ND
 | 2,_=>TB (Ui (Qp hb)) ND
 | 3,_=>Vv (Vj (Nv hb)) ND
def kG:List Pl:=[(1,[0]),(1,[0])]
def kT:List Pl:=[(1,[0,1])]
def kW:List Wy:=[(0,0,1),(1,0,1)]
def VX:Wd kG kT kW:=by
 refine⟨by decide,by decide,by decide,by decide,by decide,by decide,λi p e=>?_,λi p e=>?_,by decide,by unfold Jl;decide,by decide⟩
 ·match i,e with
  | 0,e=>cases e;decide
  | 1,e=>cases e;decide
  | n+2,e=>simp[kG] at e
 ·match i,e with
  | 0,e=>cases e;decide
  | n+1,e=>simp[kT] at e
def Nl(ds:List D)(d:D):av (.list (ds++[d])) (.int (-1))=some d:=JV ds d
open K61M (Sk pk pv stK SI aa2 Zq Z6)
def pB:au->Option Out:=(ar (Dl.aD 6 [2,4] (aj 3 br (aa (ae 2) (aa (fC (.int 0)) (aa (ae 4) ag))))) (ar (Dl.aD 7 [2,6] (aj 3 br (aa (ae 2) (aa (fC (.int 1)) (aa (ae 6) ag))))) (ar (aU 8 [4,6,7,9] (ax 1 [6,7] (bj (aa (bu bz (aa (ae 4) ag)) ag)) (fG 0) (fB (f2 Dl.v5 (f2 av (ae 2) (ae 0)) (f2 av (ae 1) (ae 0)))) (ae 0))) (ar (dZ (fB (f2 bh (ae 8) (cq (bZ ag)))) (aV (ae 3)) dP) (ar (Dl.aD 9 [0,1,5,8] (f2 av (ae 8) (aj 3 ak (aa (ae 0) (aa (f2 Dl.aA (ae 1) (f2 Dl.dH (fC (.int 2)) (ae 5))) (aa (bu bz (aa (ae 8) ag)) ag)))))) (ar (jc 3 [0,1,5,6,7,9] (aH (aa (ae 9) (aa (f2 Dl.aA (f2 av (ae 7) (ae 9)) (aj 3 ak (aa (ae 0) (aa (f2 Dl.aA (f2 Dl.aA (ae 1) (f2 Dl.dH (fC (.int 2)) (ae 5))) (fC (.int 1))) (aa (f2 Dl.dy (f2 av (ae 6) (ae 9)) (f2 av (ae 7) (ae 9))) ag))))) ag)))) (Dl.aD 4 [3,4,9] (f2 Dl.aA (f2 Dl.aA (cF bw (ae 4) cZ (mC (ae 9))) (aH (aa (f2 av (f2 av (ae 3) (f1 Hr (fC (.int 1)))) (fC (.int 1))) ag))) (cF bw (ae 4) (mC (f2 Dl.aA (ae 9) (fC (.int 1)))) cZ)))))))))
abbrev Qo(ns:List Int)(G T:List Pl)(W:List Wy)(r:List (Nat×Int))(c:List Int)(k:Nat)(x6 x7 x8 x9:Slot):au:=[.val (bY ns),.val (.int 70),.val (aw G T W),.own (r.map pD),.val (af c),.val (nD k),x6,x7,x8,x9]
def Wt:au->Option Out:=(ar (dZ (fB (f2 bh (ae 8) (cq (bZ ag)))) (aV (ae 3)) dP) (ar (Dl.aD 9 [0,1,5,8] (f2 av (ae 8) (aj 3 ak (aa (ae 0) (aa (f2 Dl.aA (ae 1) (f2 Dl.dH (fC (.int 2)) (ae 5))) (aa (bu bz (aa (ae 8) ag)) ag)))))) (ar (jc 3 [0,1,5,6,7,9] (aH (aa (ae 9) (aa (f2 Dl.aA (f2 av (ae 7) (ae 9)) (aj 3 ak (aa (ae 0) (aa (f2 Dl.aA (f2 Dl.aA (ae 1) (f2 Dl.dH (fC (.int 2)) (ae 5))) (fC (.int 1))) (aa (f2 Dl.dy (f2 av (ae 6) (ae 9)) (f2 av (ae 7) (ae 9))) ag))))) ag)))) (Dl.aD 4 [3,4,9] (f2 Dl.aA (f2 Dl.aA (cF bw (ae 4) cZ (mC (ae 9))) (aH (aa (f2 av (f2 av (ae 3) (f1 Hr (fC (.int 1)))) (fC (.int 1))) ag))) (cF bw (ae 4) (mC (f2 Dl.aA (ae 9) (fC (.int 1)))) cZ))))))
def Xa:Dl.Env->Option D:=(aH (aa (ae 9) (aa (f2 Dl.aA (f2 av (ae 7) (ae 9)) (aj 3 ak (aa (ae 0) (aa (f2 Dl.aA (f2 Dl.aA (ae 1) (f2 Dl.dH (fC (.int 2)) (ae 5))) (fC (.int 1))) (aa (f2 Dl.dy (f2 av (ae 6) (ae 9)) (f2 av (ae 7) (ae 9))) ag))))) ag)))
def WN:Dl.Env->Option D:=(f2 Dl.aA (f2 Dl.aA (cF bw (ae 4) cZ (mC (ae 9))) (aH (aa (f2 av (f2 av (ae 3) (f1 Hr (fC (.int 1)))) (fC (.int 1))) ag))) (cF bw (ae 4) (mC (f2 Dl.aA (ae 9) (fC (.int 1)))) cZ))
def EL(hl:ns.length<=63)(h:Wd G T W)(i:SI G T W (r,c,true))(h9:x9.aab=x9) :
  (wy G T W c=[]->pB (Qo ns G T W r c r.length x6 x7 x8 x9)=some (.rt (.list (r.map pD)))) /\
  (wy G T W c≠[]->∃y6 y7 y8 y9,y9.aab=y9/\pB (Qo ns G T W r c r.length x6 x7 x8 x9)=some (.nx (Qo ns G T W (stK ns G T W (r,c,true)).1 (stK ns G T W (r,c,true)).2.1 r.length y6 y7 y8 y9))):=by
 have hw:=h.wl;have aoT:=h.XY;have hbd:=i.bd;have hcp:=i.cp;have XJ:=i.cp.len;simp only at hbd XJ;have a0:=ij h XJ false;have a1:=ij (off:=bb false G T W c) h (dv _ _ _ _ _) true;have la:(bb false G T W c).length=W.length:=dv _ _ _ _ _;have lb:(dY G T W c).length=W.length:=dv _ _ _ _ _;have ew:∀ρ:Dl.Env,ae 4 ρ=some (af c)->(ρ[6]?).getD none=some (af (bb false G T W c))->(ρ[7]?).getD none=some (af (dY G T W c))->(ax 1 [6,7] (bj (aa (bu bz (aa (ae 4) ag)) ag)) (fG 0) (fB (f2 Dl.v5 (f2 av (ae 2) (ae 0)) (f2 av (ae 1) (ae 0)))) (ae 0)) ρ=some ((wy G T W c).map nD):=λρ r7 r8 r9 =>
  nO (is:=List.range W.length) (iO (lW XJ r7) (by lia)) (by rw[zR];lia) λk hk=>⟨by
   simp?[zI,yV,r8,r9];exact aF (aq (kr _ _) (aq (dR (i:=k) (by rw[lb];simpa using hk)) rfl rfl) (aq (dR (i:=k) (by rw[la];simpa using hk)) rfl rfl)),λ_=>rfl⟩
 have hh:hand [4,6,7,9] 0 [Slot.val (bY ns),.val (.int 70),.val (aw G T W),.own (r.map pD),.val (af c),.val (nD r.length),.val (af (bb false G T W c)),.val (af (dY G T W c)),x8,x9]=[Slot.val (bY ns),.val (.int 70),.val (aw G T W),.own (r.map pD),.val (af c),.val (nD r.length),.val (af (bb false G T W c)),.val (af (dY G T W c)),x8,x9]:=by
  show [Slot.val (bY ns),.val (.int 70),.val (aw G T W),.own (r.map pD),.val (af c),.val (nD r.length),.val (af (bb false G T W c)),.val (af (dY G T W c)),x8,x9.aab]=_;rw[h9]
 have common:∀ {o:Option Out},Wt [.val (bY ns),.val (.int 70),.val (aw G T W),.own (r.map pD),.val (af c),.val (nD r.length),.val (af (bb false G T W c)),.val (af (dY G T W c)),.own ((wy G T W c).map nD),x9]=o->pB (Qo ns G T W r c r.length x6 x7 x8 x9)=o:=λ{o} ho=>by
  unfold pB;refine (ai (aL (call_of a0 rfl rfl) (call_of a0 rfl rfl) rfl)).trans ?_;refine (ai (aL (call_of a1 rfl rfl) (call_of a1 rfl rfl) rfl)).trans ?_;refine (ai (mH hh (ew _ rfl rfl rfl))).trans ?_;exact ho
 constructor
 ·intro hwy;refine common (bp ((aQ (aF (aq ((mQ (wy G T W c)).trans (by rw[yA hwy])) rfl (nil_of _)))).trans (ay rfl)))
 ·intro hwy;have e1:stK ns G T W (r,c,true)=(r++[(pk ns G T W (r,c,true),pv ns G T W (r,c,true))],low c (pk ns G T W (r,c,true),pv ns G T W (r,c,true)),true):=yO hwy;let⟨⟨p0,p1⟩,k1,k2,k3,k4⟩:=aa2 hl h i hwy;simp only at p0 p1 k1 k2 k3 k4;rw[e1];have ZI:0 < (wy G T W c).length:=List.length_pos_iff.mpr hwy;have d1:=o5 (ns:=ns) (70+2 * ((r.length:Nat):Int)) (((wy G T W c).length:Nat):Int) hl (by lia);have d2:=o5 (ns:=ns) (70+2 * ((r.length:Nat):Int)+1) ((bb false G T W c).getD (pk ns G T W (r,c,true)) 0 - (dY G T W c).getD (pk ns G T W (r,c,true)) 0) hl (by lia);have hpk:av (.list ((wy G T W c).map nD)) (.int (dr ns (70+2 * ((r.length:Nat):Int)) (((wy G T W c).length:Nat):Int)))=some (nD (pk ns G T W (r,c,true))):=by
   rw[show PyData.int (dr ns (70+2 * ((r.length:Nat):Int)) (((wy G T W c).length:Nat):Int))=.int (((dr ns (70+2 * ((r.length:Nat):Int)) (((wy G T W c).length:Nat):Int)).toNat:Nat):Int) by rw[Int.toNat_of_nonneg p0]];refine FG (f:=nD) ?_;unfold pk;simp[p1]
  have hpv:(dY G T W c).getD (pk ns G T W (r,c,true)) 0+dr ns (70+2 * ((r.length:Nat):Int)+1) ((bb false G T W c).getD (pk ns G T W (r,c,true)) 0 - (dY G T W c).getD (pk ns G T W (r,c,true)) 0)=pv ns G T W (r,c,true):=rfl;generalize pk ns G T W (r,c,true)=pp at *;generalize pv ns G T W (r,c,true)=vv at *;have hka:av (af (bb false G T W c)) (nD pp)=some (.int ((bb false G T W c).getD pp 0)):=dR (by rw[la];exact k1);have hkb:av (af (dY G T W c)) (nD pp)=some (.int ((dY G T W c).getD pp 0)):=dR (by rw[lb];exact k1);have em:∀ρ:Dl.Env,ae 1 ρ=some (.int 70)->ae 5 ρ=some (nD r.length)->f2 Dl.aA (ae 1) (f2 Dl.dH (fC (.int 2)) (ae 5)) ρ=some (.int (70+2 * ((r.length:Nat):Int))):=λρ r1 r5=>aq (cB 70 _) r1 (aq (e9 (i:=2) (j:=((r.length:Nat):Int)) (.inl ⟨by lia,by lia⟩)) rfl r5);have eT:∀ρ:Dl.Env,ae 0 ρ=some (bY ns)->ae 1 ρ=some (.int 70)->ae 5 ρ=some (nD r.length)->ae 6 ρ=some (af (bb false G T W c))->ae 7 ρ=some (af (dY G T W c))->ae 9 ρ=some (nD pp)->Xa ρ=some (pD (pp,vv)):=λρ r0 r1 r5 r6 r7 r9=>by
   refine tup_is (ds:=[nD pp,.int vv]) (cons_of r9 (cons_of ?_ rfl)) (by simp);rw[<- hpv];exact aq (cB _ _) (aq hkb r7 r9) (call_of d2 (cons_of r0 (cons_of (aq (cB _ 1) (em ρ r1 r5) rfl) (cons_of (aq (sub_int _ _) (aq hka r6 r9) (aq hkb r7 r9)) rfl))) rfl)
  have hlo:∀ρ:Dl.Env,ae 4 ρ=some (af c)->ae 9 ρ=some (nD pp)->ae 3 ρ=some (.list ((r++[(pp,vv)]).map pD))->WN ρ=some (af (low c (pp,vv))):=λρ g4 g9 g3=>by
   refine Cv (p:=(pp,vv)) (by rw[XJ];exact k1) (by lia) g4 g9 (aq (R0 (pp,vv)) (aq (b:=.int (-1)) ?_ g3 rfl) rfl);rw[jB];exact Nl _ _
  refine⟨.val (af (bb false G T W c)),.val (af (dY G T W c)),.own ((wy G T W c).map nD),.val (nD pp),rfl,common ?_⟩;refine (ai (aK (aF (aq ((mQ (wy G T W c)).trans (by rw[zZ hwy])) rfl (nil_of _))))).trans ?_;refine (ai (cn (d:=nD pp) (aq hpk rfl (call_of d1 (cons_of rfl (cons_of (em _ rfl rfl) (cons_of (Zq (r:=wy G T W c) (g:=nD) rfl) rfl))) rfl)) rfl)).trans ?_;refine (ai (Az (d:=pD (pp,vv)) (ds:=r.map pD) (eT _ rfl rfl rfl rfl rfl rfl) (eT _ rfl rfl rfl rfl rfl rfl) rfl rfl (by rw[zD];lia))).trans ?_;rw[show (r.map pD)++[pD (pp,vv)]=(r++[(pp,vv)]).map pD by rw[jB];rfl];exact Z6 (hlo _ rfl rfl rfl) (hlo _ rfl rfl rfl)
def MC(hl:ns.length<=63)(h:Wd G T W):∀ (m:Nat) (r:List (Nat×Int)) (c:List Int) (x5 x6 x7 x8 x9:Slot),SI G T W (r,c,true)->x9.aab=x9 ->
  ∃r',((∃c',cb G T W (cf W) r'=some c')/\P5 W r'/\r'.length<=r.length+m) /\
   (cJ (iZ 5) pB ((List.range' r.length m).map nD) [.val (bY ns),.val (.int 70),.val (aw G T W),.own (r.map pD),.val (af c),x5,x6,x7,x8,x9]=some (.rt (.list (r'.map pD))) \/
    ∃c' y5 y6 y7 y8 y9,cJ (iZ 5) pB ((List.range' r.length m).map nD) [.val (bY ns),.val (.int 70),.val (aw G T W),.own (r.map pD),.val (af c),x5,x6,x7,x8,x9]=some (.nx [.val (bY ns),.val (.int 70),.val (aw G T W),.own (r'.map pD),.val (af c'),y5,y6,y7,y8,y9]))
 | 0,r,c,x5,x6,x7,x8,x9,i,_=>⟨r,⟨⟨c,i.cb⟩,i.fr,yN _⟩,.inr ⟨c,x5,x6,x7,x8,x9,rfl⟩⟩
 | m+1,r,c,x5,x6,x7,x8,x9,i,h9=>by
  let⟨b1,b2⟩:=EL (x6:=x6) (x7:=x7) (x8:=x8) hl h i h9;have ht:iZ 5 [.val (bY ns),.val (.int 70),.val (aw G T W),.own (r.map pD),.val (af c),x5,x6,x7,x8,x9] (nD r.length)=some (Qo ns G T W r c r.length x6 x7 x8 x9):=rfl;rw[vP,zI,cJ,ht,zA];by_cases hwy:wy G T W c=[]
  ·refine⟨r,⟨⟨c,i.cb⟩,i.fr,by lia⟩,.inl ?_⟩;rw[b1 hwy];rfl
  ·let⟨y6,y7,y8,y9,g9,e⟩:=b2 hwy;have st:=(i.step hl h rfl).1;have e1:stK ns G T W (r,c,true)=((stK ns G T W (r,c,true)).1,(stK ns G T W (r,c,true)).2.1,true):=by unfold K61M.stK;rw[yO hwy]
   have el:(stK ns G T W (r,c,true)).1.length=r.length+1:=by unfold K61M.stK;rw[yO hwy];simp
   rw[e1] at st;generalize (stK ns G T W (r,c,true)).1=r1 at *;generalize (stK ns G T W (r,c,true)).2.1=c1 at *;let⟨r',⟨q1,q2,q3⟩,q⟩:=MC hl h m r1 c1 (.val (nD r.length)) y6 y7 y8 y9 st g9;rw[el] at q;refine⟨r',⟨q1,q2,by lia⟩,?_⟩;rw[e];exact q
def BP(hl:ns.length<=63)(h:Wd G T W):∃r c,gM [bY ns,.int 70,aw G T W]=some (.list (r.map pD))/\cb G T W (cf W) r=some c/\P5 W r/\r.length<=8:=by
 let⟨r,⟨⟨c,e1⟩,e2,e3⟩,q⟩:=MC hl h 8 [] (cf W) .Xe .Xe .Xe .Xe .Xe ⟨.start h,rfl,(λp hp=>by cases hp),by simp⟩ rfl;refine⟨r,c,?_,e1,e2,by simpa using e3⟩;refine aB ?_;show gP [.val (bY ns),.val (.int 70),.val (aw G T W),.Xe,.Xe,.Xe,.Xe,.Xe,.Xe,.Xe]=_;unfold gP;refine (ai (eI (ds:=[]) rfl rfl)).trans ?_;refine (ai (aL (mi h rfl) (mi h rfl) rfl)).trans ?_;have hr:∀ρ,bj aaW ρ=some ((List.range' 0 8).map nD):=λρ=>by rw[<- yH];exact iO (n:=8) rfl (by lia)
 rcases q with q|⟨c',y5,y6,y7,y8,y9,q⟩
 ·exact bp (bc q (hr _) rfl)
 ·exact (ai (bc q (hr _) rfl)).trans (ay rfl)
def Mu{fl:Dl.Env->Option (Option Int)}{lo:Option Int}(h:f ρ=some (.list ds))(hl:fl ρ=some lo)(hh:fh ρ=some hi):cF bw f fl fh ρ=some (.list (cut ds lo hi)):=by
 simp?[cF,h,hl,hh,zA,bw]
def uB(h:g ρ=some (.int i)):mC g ρ=some (some i):=by
 simp?[mC,h,gI,zA,zB]
def Td(h:f ρ=some d):f1 g f ρ=g d:=by unfold f1;rw[h];rfl
def U6{fl:Dl.Env->Option (Option Int)}{lo:Option Int}(h:f ρ=some (.tuple ds))(hl:fl ρ=some lo)(hh:fh ρ=some hi):cF bw f fl fh ρ=some (.tuple (cut ds lo hi)):=by
 simp?[cF,h,hl,hh,zA,bw]
def Od{lo:Option Int}(h:x∈cut ds lo hi):x∈ds:=wR (List.mem_of_mem_take h)
def j7(h:f ρ=some (.list xs))(h2:g ρ=some (.list ys))(hl:(xs++ys).length<=4000):MY iu f g ρ=some (xs++ys):=by
 simp?[MY,h,h2,zA,iu];exact bE hl
def sU(h:f ρ=some (.list xs))(h2:g ρ=some (.list ys))(hl:(xs++ys).length<=4000):f2 Dl.aA f g ρ=some (.list (xs++ys)):=by
 have:iu (.list xs) (.list ys)=some (xs++ys):=bE hl;simp?[f2,h,h2,zA,Dl.aA,zv,Mq,this,zB,Option.or]
def Wh(h0:0<=i)(h:i < (ds.length:Int)):av (.list ds) (.int i)=some (ds.getD i.toNat .none):=by
 have:i.toNat < ds.length:=by lia
 show tY ds i=_;unfold tY Ig;rw[yM h0,yM h,zA];simp[this]
def C6(hA:f (aJ ρ)=some d)(hF:f (bK (hand fz 0 ρ))=some d):Dl.aD i fz f ρ=some (.nx (ρ.set i (.val d)))\/Dl.aD i fz f ρ=some (.nx ((hand fz 0 ρ).set i (.val d))):=by
 simp?[Dl.aD,hA,hF,zA,zB];split
 ·exact .inl rfl
 ·split
  ·exact .inl rfl
  ·exact .inr rfl
def len_list(h:f ρ=some (.list L)):bu bz (aa f ag) ρ=some (.int ((L.length:Nat):Int)):=by rw[lg h];rfl
def RY(h:f ρ=some (.int v)):bu II (aa (fC (.int 0)) (aa (f2 Dl.dy f (fC (.int 1))) ag)) ρ=some (.int (max 0 (v - 1))):=by
 have:aa (fC (.int 0)) (aa (f2 Dl.dy f (fC (.int 1))) ag) ρ=some [.int 0,.int (v - 1)]:=cons_of rfl (cons_of (aq (sub_int v 1) h rfl) rfl);unfold bu;rw[this];simp?[zA,II]
def nX(W:List Wy):List D:=[.tuple [.int 0,.int 0],.tuple [nD W.length,.int 0],.tuple [.int 0,.int 10],.tuple [.bool true,.int 0],.list [.int 0,.int 1],.none,.tuple [.int 0,.int 1,.int 2],.tuple [.int 0,.int 1]]
def Gp(i:Int):cI b k (.int i):=.leaf trivial
def Np:∀o∈nX W,cI 500 3 o:=by
 intro o ho;simp?[nX,zQ,yF,xV] at ho;have z:∀x y:Int,∀d∈[PyData.int x,.int y],cI 500 2 d:=λx y d hd=>by
  simp?[zQ,yF,xV] at hd;rcases hd with rfl|rfl<;>exact Gp _
 rcases ho with rfl|rfl|rfl|rfl|rfl|rfl|rfl|rfl
 ·exact .tup (by simp) (z _ _)
 ·exact .tup (by simp) (z _ _)
 ·exact .tup (by simp) (z _ _)
 ·refine .tup (by simp) λd hd=>?_;simp?[zQ,yF,xV] at hd;rcases hd with rfl|rfl
  ·exact .leaf trivial
  ·exact Gp _
 ·exact .lst (by simp) (z _ _)
 ·exact .leaf trivial
 ·refine .tup (by simp) λd hd=>?_;simp?[zQ,yF,xV] at hd;rcases hd with rfl|rfl|rfl<;>exact Gp _
 ·exact .tup (by simp) (z _ _)
def AJ(p:Nat×Int):cI 500 3 (pD p):=.tup (by simp) λd hd=>by
 let⟨i,_,rfl⟩:=List.mem_map.mp hd;exact Gp _
def US:au->Option Out:=acP
abbrev nG(ns:List Int)(G T:List Pl)(W:List Wy)(d:D)(x3 x4 x5 x6 x7 x8 x9 x10 x11:Slot):au:=[.val (bY ns),.val (aw G T W),.val d,x3,x4,x5,x6,x7,x8,x9,x10,x11]
def VJ:au->Option Out:=acO
def Wv:Dl.Env->Option (List D):=acF
def W4:Dl.Env->Option D:=acI
def W3:Dl.Env->Option (List D):=acJ
def WU:Dl.Env->Option D:=acL
def Xd:Dl.Env->Option (List D):=acA
def Dr(z0 y1 z2 z3 z4 y2 L R:List D)(o:D):List D:=[.list ((z0++[o])++y1),.list (z0++y1),.list (z2++z3),.tuple L,.list ((z0++z4.reverse)++y2),.list (L++[o]),.list ([o]++L),.none,.list R]
def RH{ns:List Int}(hl:ns.length<=63)(h:Wd G T W){r:List (Nat×Int)}(hr:r.length<=144) :
  ∃d x3 x4 x5 x6,US (nG ns G T W (.list (r.map pD)) .Xe .Xe .Xe .Xe .Xe .Xe .Xe .Xe .Xe)=some (.nx (nG ns G T W d x3 x4 x5 x6 .Xe .Xe .Xe .Xe .Xe))/\cI 500 4 d:=by
 have hL:(r.map pD).length=r.length:=zD ..;let⟨d1,a0,a1⟩:=dU (ns:=ns) 102 ((r.length:Nat)+1:Int) hl (by lia);let⟨d2,b0,b1⟩:=dU (ns:=ns) 103 8 hl (by lia);let⟨d3,c0,c1⟩:=dU (ns:=ns) 104 9 hl (by lia);generalize dr ns 102 ((r.length:Nat)+1:Int)=a at *;generalize dr ns 103 8=j at *;generalize dr ns 104 9=m at *;have fL:∀x∈r.map pD,cI 500 3 x:=λx hx=>by
  let⟨p,_,rfl⟩:=List.mem_map.mp hx;exact AJ p
 generalize hLe:r.map pD=L at *;have eL:∀ρ:Dl.Env,ae 2 ρ=some (.list L)->bu bz zq5 ρ=some (.int ((r.length:Nat):Int)):=λρ g=>by
  rw[<- hL];exact len_list g
 have hod:(nX W).getD j.toNat .none∈nX W:=getD_mem (by simp[nX];lia);have fo:=Np _ hod;have i3:av (.list (nX W)) (.int j)=some ((nX W).getD j.toNat .none):=Wh b0 (by simpa [nX] using b1);generalize (nX W).getD j.toNat .none=o at *;have tail:∀x4q:Slot,∃d x3 x4 x5 x6,VJ (nG ns G T W (.list L) (.val (.int a)) x4q (.val o) .Xe .Xe .Xe .Xe .Xe .Xe)=some (.nx (nG ns G T W d x3 x4 x5 x6 .Xe .Xe .Xe .Xe .Xe))/\cI 500 4 d:=λx4q=>by
  have cl:∀lo hi,(cut L lo hi).length<=144:=λlo hi=>yD (Gb _ _ _) (by lia);have k0:∀ρ:Dl.Env,ae 2 ρ=some (.list L)->ae 3 ρ=some (.int a)->cF bw (ae 2) cZ Y9 ρ=some (.list (cut L none (some a))):=λρ g2 g3=>Mu g2 rfl (uB g3);have k1:∀ (v:Int) (ρ:Dl.Env),ae 2 ρ=some (.list L)->ae 3 ρ=some (.int a)->cF bw (ae 2) (mC (f2 Dl.aA (ae 3) (fC (.int v)))) cZ ρ=some (.list (cut L (some (a+v)) none)):=λv ρ g2 g3=>Mu g2 (uB (aq (cB a v) g3 rfl)) rfl;have k2:∀ρ:Dl.Env,ae 2 ρ=some (.list L)->ae 3 ρ=some (.int a)->cF bw (ae 2) cZ aa1 ρ=some (.list (cut L none (some (a+1)))):=λρ g2 g3=>Mu g2 rfl (uB (aq (cB a 1) g3 rfl));have k3:∀ρ:Dl.Env,ae 2 ρ=some (.list L)->ae 3 ρ=some (.int a)->cF bw (ae 2) Y9 cZ ρ=some (.list (cut L (some a) none)):=λρ g2 g3=>Mu g2 (uB g3) rfl;have k4:∀ρ:Dl.Env,ae 2 ρ=some (.list L)->ae 3 ρ=some (.int a)->f1 GO acH ρ=some (.list (cut L (some a) (some (a+2))).reverse):=λρ g2 g3=>(Td (Mu g2 (uB g3) (uB (aq (cB a 2) g3 rfl)))).trans rfl;have ko:∀ρ:Dl.Env,ae 5 ρ=some o->cq acD ρ=some (.list [o]):=λρ g=>cg (lY (cons_of g rfl) (by simp));generalize hz0:cut L none (some a)=z0 at *;have hs:∀lo hi,∀x∈cut L lo hi,cI 500 3 x:=λlo hi x hx=>fL x (Od hx);have l0:z0.length<=144:=by rw[<- hz0];exact cl _ _
  have f0:∀x∈z0,cI 500 3 x:=by rw[<- hz0];exact hs _ _
  have l1:=λv=>cl (some (a+v)) none;have l2:=cl none (some (a+1));have l3:=cl (some a) none;have l4:=cl (some a) (some (a+2));have f1':=λv=>hs (some (a+v)) none;have YD:=hs none (some (a+1));have f3:=hs (some a) none;have f4:=hs (some a) (some (a+2));generalize cut L none (some (a+1))=z2 at *;generalize cut L (some a) none=z3 at *;generalize cut L (some a) (some (a+2))=z4 at *;have l11:=l1 1;have l12:=l1 2;have e4:∀ρ:Dl.Env,ae 2 ρ=some (.list L)->ae 3 ρ=some (.int a)->ae 5 ρ=some o->Wv ρ=some [.list ((z0++[o])++cut L (some (a+1)) none),.list (z0++cut L (some (a+1)) none),.list (z2++z3),.tuple L]:=λρ g2 g3 g5 =>
   lY (cons_of (cg (j7 (cg (j7 (k0 ρ g2 g3) (ko ρ g5) (by simp;lia))) (k1 1 ρ g2 g3) (by simp;lia))) (cons_of (sU (k0 ρ g2 g3) (k1 1 ρ g2 g3) (by simp;lia)) (cons_of (sU (k2 ρ g2 g3) (k3 ρ g2 g3) (by simp;lia)) (cons_of ((lg g2).trans rfl) rfl)))) (by simp)
  have e5:∀ρ:Dl.Env,ae 2 ρ=some (.list L)->ae 3 ρ=some (.int a)->W4 ρ=some (.list ((z0++z4.reverse)++cut L (some (a+2)) none)):=λρ g2 g3=>sU (sU (k0 ρ g2 g3) (k4 ρ g2 g3) (by simp;lia)) (k1 2 ρ g2 g3) (by simp;lia);have e6:∀ (ls:List D) (ρ:Dl.Env),ls.length<=100->ae 6 ρ=some (.list ls)->ae 2 ρ=some (.list L)->ae 5 ρ=some o->W3 ρ=some (ls++[.list (L++[o]),.list ([o]++L),.none]):=λls ρ hls g6 g2 g5 =>
   j7 g6 (cg (lY (cons_of (cg (j7 g2 (ko ρ g5) (by simp;lia))) (cons_of (cg (j7 (ko ρ g5) g2 (by simp;lia))) rfl)) (by simp))) (by simp;lia)
  have e7:∀ρ:Dl.Env,ae 2 ρ=some (.list L)->WU ρ=some (.list (r.map λp=>pD (p.1,max 0 (p.2 - 1)))):=λρ g2=>by
   have hi:bI (ae 2) ρ=some ((List.range r.length).map λi=>.tuple [nD (r.getD i (0,0)).1,.int (r.getD i (0,0)).2]):=by
    rw[Aa g2,<- hLe];refine jD some (jI (by simp) λi h1 h2=>?_);have hi:i < r.length:=by simpa using h1
    simp[hi];rfl
   have c:=jr (cs:=[]) (tt:=λ_=>some true) (te:=aH acK) (p:=λ_=>true) (h:=λi=>pD ((r.getD i (0,0)).1,max 0 ((r.getD i (0,0)).2 - 1))) hi (by lia) λi hi=>⟨rfl,λ_=>tup_is (ds:=[nD (r.getD i (0,0)).1,.int (max 0 ((r.getD i (0,0)).2 - 1))]) (cons_of rfl (cons_of (RY rfl) rfl)) (by simp)⟩
   refine (cg c).trans ?_;rw[show (List.range r.length).filter (λ_=>true)=List.range r.length by simp];refine jD some (jD PyData.list (jI (by simp) λi h1 h2=>?_));have hi:i < r.length:=by simpa using h1
   simp[hi]
  generalize hrm:(r.map λp=>pD (p.1,max 0 (p.2 - 1)))=R at *;have lR:R.length<=144:=by rw[<- hrm,zD];exact hr
  have fR:∀x∈R,cI 500 3 x:=λx hx=>by
   rw[<- hrm] at hx;let⟨p,_,rfl⟩:=List.mem_map.mp hx;exact AJ _
  have g2:∀ {l:List D},l.length<=500->(∀x∈l,cI 500 3 x)->cI 500 4 (.list l):=λhl h=>.lst hl h;have ap:∀ {l l':List D},(∀x∈l,cI 500 3 x)->(∀x∈l',cI 500 3 x)->∀x∈l++l',cI 500 3 x:=λh h' x hx=>by
   rcases List.mem_append.mp hx with hx|hx
   ·exact h x hx
   ·exact h' x hx
  have f5:∀x∈[o],cI 500 3 x:=λx hx=>by rw[List.mem_singleton.mp hx];exact fo
  have f4r:∀x∈z4.reverse,cI 500 3 x:=λx hx=>f4 x (List.mem_reverse.mp hx);have Ye:∀x∈(Dr z0 (cut L (some (a+1)) none) z2 z3 z4 (cut L (some (a+2)) none) L R o),cI 500 4 x:=λx hx=>by
   simp?[Dr,zQ,yF,xV] at hx;rcases hx with rfl|rfl|rfl|rfl|rfl|rfl|rfl|rfl|rfl
   ·exact g2 (by simp;lia) (ap (ap f0 f5) (f1' 1))
   ·exact g2 (by simp;lia) (ap f0 (f1' 1))
   ·exact g2 (by simp;lia) (ap YD f3)
   ·exact .tup (by lia) fL
   ·exact g2 (by simp;lia) (ap (ap f0 f4r) (f1' 2))
   ·exact g2 (by simp;lia) (ap fL f5)
   ·exact g2 (by simp;lia) (ap f5 fL)
   ·exact .leaf trivial
   ·exact g2 (by lia) fR
  have hd:=Ye _ (getD_mem (i:=m.toNat) (by simp[Dr];lia));have i9:=Wh (ds:=(Dr z0 (cut L (some (a+1)) none) z2 z3 z4 (cut L (some (a+2)) none) L R o)) c0 (by simpa [Dr] using c1);generalize hdd:((Dr z0 (cut L (some (a+1)) none) z2 z3 z4 (cut L (some (a+2)) none) L R o)).getD m.toNat .none=dd at hd i9;have run:∀ {o':Option Out},acN (nG ns G T W (.list L) (.val (.int a)) x4q (.val o) (.own (Dr z0 (cut L (some (a+1)) none) z2 z3 z4 (cut L (some (a+2)) none) L R o)) .Xe .Xe .Xe .Xe .Xe)=o'->VJ (nG ns G T W (.list L) (.val (.int a)) x4q (.val o) .Xe .Xe .Xe .Xe .Xe .Xe)=o':=λho=>by
   refine (ai (eI (e4 _ rfl rfl rfl) rfl)).trans ?_;refine (ai (Az (e5 _ rfl rfl) (e5 _ rfl rfl) rfl rfl (by simp))).trans ?_;refine (ai (mH (ρ':=nG ns G T W (.list L) (.val (.int a)) x4q (.val o) (.val (.list ([PyData.list ((z0++[o])++cut L (some (a+1)) none),.list (z0++cut L (some (a+1)) none),.list (z2++z3),.tuple L]++[.list ((z0++z4.reverse)++cut L (some (a+2)) none)]))) .Xe .Xe .Xe .Xe .Xe) rfl (e6 _ _ (by simp) rfl rfl rfl))).trans ?_;refine (ai (Az (e7 _ rfl) (e7 _ rfl) rfl rfl (by simp))).trans ?_;exact ho
  rcases C6 (i:=2) (fz:=[0,6]) (f:=f2 av (ae 6) acM) (ρ:=nG ns G T W (.list L) (.val (.int a)) x4q (.val o) (.own (Dr z0 (cut L (some (a+1)) none) z2 z3 z4 (cut L (some (a+2)) none) L R o)) .Xe .Xe .Xe .Xe .Xe) (aq i9 rfl (call_of d3 rfl rfl)) (aq i9 rfl (call_of d3 rfl rfl)) with q|q
  ·exact⟨dd,_,_,_,_,run q,hd⟩
  ·exact⟨dd,_,_,_,_,run q,hd⟩
 have eo:∀ρ:Dl.Env,ae 1 ρ=some (aw G T W)->Xd ρ=some (nX W):=λρ g1 =>
  lY (cons_of (tup_is (ds:=[.int 0,.int 0]) rfl (by simp)) (cons_of (tup_is (ds:=[nD W.length,.int 0]) (cons_of (iN (l:=W) (k:=aE) (aq (fS G T W) g1 rfl)) rfl) (by simp)) (cons_of (tup_is (ds:=[.int 0,.int 10]) rfl (by simp)) (cons_of (tup_is (ds:=[.bool true,.int 0]) rfl (by simp)) (cons_of (cg (lY (ds:=[.int 0,.int 1]) rfl (by simp))) (cons_of rfl (cons_of (tup_is (ds:=[.int 0,.int 1,.int 2]) rfl (by simp)) (cons_of (tup_is (ds:=[.int 0,.int 1]) rfl (by simp)) rfl)))))))) (by simp[nX])
 have head:∀ {o':Option Out},(ar acC VJ) (nG ns G T W (.list L) (.val (.int a)) (.own (nX W)) .Xe .Xe .Xe .Xe .Xe .Xe .Xe)=o'->US (nG ns G T W (.list L) .Xe .Xe .Xe .Xe .Xe .Xe .Xe .Xe .Xe)=o':=λho=>by
  unfold US;refine (ai (cn (d:=.int a) (call_of d1 (cons_of rfl (cons_of rfl (cons_of (aq (cB ((r.length:Nat):Int) 1) (eL _ rfl) rfl) rfl))) rfl) rfl)).trans ?_;refine (ai (eI (eo _ rfl) rfl)).trans ?_;exact ho
 rcases C6 (i:=5) (fz:=[0,4]) (f:=f2 av (ae 4) acB) (ρ:=nG ns G T W (.list L) (.val (.int a)) (.own (nX W)) .Xe .Xe .Xe .Xe .Xe .Xe .Xe) (aq i3 rfl (call_of d2 rfl rfl)) (aq i3 rfl (call_of d2 rfl rfl)) with q|q
 ·let⟨d,x3,x4,x5,x6,e,f⟩:=tail (.own (nX W));exact⟨d,x3,x4,x5,x6,head ((ai q).trans e),f⟩
 ·let⟨d,x3,x4,x5,x6,e,f⟩:=tail (.val (.list (nX W)));exact⟨d,x3,x4,x5,x6,head ((ai q).trans e),f⟩
def KH(l:List Bool)(hl:l.length<=500):bh (.list (l.map PyData.bool)) (.list (l.map PyData.bool))=some (.bool true):=by
 have hs:SeqAt.shaped (.list (l.map PyData.bool))=true:=(cI.lst (b:=500) (k:=1) (by rw[zD];exact hl) λx hx=>by
  let⟨b,_,rfl⟩:=List.mem_map.mp hx;exact .leaf trivial).shaped (by lia)
 have he:PyData.eqv (.list (l.map PyData.bool)) (.list (l.map PyData.bool))=true:=by
  rw[PyData.eqv];exact iF λd hd=>by
   let⟨b,_,rfl⟩:=List.mem_map.mp hd;cases b<;>simp[PyData.eqv]
 simp?[bh,MZ,hs,jQ,xI,he,zB]
def kR:List D:=[.list [],.list [pD (1,0)],.list [pD (1,1)],.list [pD (1,10)],.list [pD (0,0)],.list [pD (2,0)],.list [pD (1,0),pD (1,0)]]
def Ry:∀d∈kR,cI 500 4 d:=λd hd=>by
 have z:∀ (ps:List (Nat×Int)),ps.length<=500->cI 500 4 (.list (ps.map pD)):=λps hl=>.lst (by rw[zD];exact hl) λx hx=>by
  let⟨p,_,rfl⟩:=List.mem_map.mp hx;exact AJ p
 simp?[kR,zQ,yF,xV] at hd;rcases hd with rfl|rfl|rfl|rfl|rfl|rfl|rfl
 ·exact z [] (by simp)
 ·exact z [(1,0)] (by simp)
 ·exact z [(1,1)] (by simp)
 ·exact z [(1,10)] (by simp)
 ·exact z [(0,0)] (by simp)
 ·exact z [(2,0)] (by simp)
 ·exact z [(1,0),(1,0)] (by simp)
def Q6:kR.map (λe=>(dQ kG kT kW e).isSome)=[true,true,false,false,false,false,false]:=by decide +kernel
def Nt:dO []=some (.bool true):=by
 refine aB ?_;show dN [.Xe,.Xe]=_;unfold dN;refine (ai (aL (d:=aw kG kT kW) rfl rfl rfl)).trans ?_;refine (ai (eI (ds:=kR) rfl rfl)).trans ?_;have c:=bR (cs:=[0]) (fi:=bI (ae 1)) (te:=aj 4 az acw) (h:=λe=>.bool (dQ kG kT kW e).isSome) (ρ:=aJ [.val (aw kG kT kW),.own kR]) (ds:=kR) rfl (by simp[kR]) λd hd=>call_of (PF (CV VX (Ry d hd))) rfl rfl;rw[show kR.map (λe=>PyData.bool (dQ kG kT kW e).isSome)=(kR.map (λe=>(dQ kG kT kW e).isSome)).map PyData.bool by rw[zM];rfl,Q6] at c;exact ay (aq (KH [true,true,false,false,false,false,false] (by simp)) (cg c) (cg rfl))
def near(ns:List Int)(W:List Wy):List Int:=(List.range W.length).map λk=>dr ns (120+((k:Nat):Int)) 3
def UJ:au->Option Out:=ac5
def WL:Dl.Env->Option D:=ac2
def Ml(hl:ns.length<=63)(h:Wd G T W)(hd:cI 500 k d)(x:Pn G T W X) :
  ∃y10,UJ (nG ns G T W d x3 x4 x5 x6 (.val (zc (dQ G T W d))) x8 (.val (af X)) x10 x11)=some (.nx (nG ns G T W d x3 x4 x5 x6 (.val (zc (dQ G T W d))) x8 (.val (af X)) y10 (.val (af (near ns W))))):=by
 have hw:=h.wl;have er:=CQ h x.len (x.smP h);have ed:acY (aJ (nG ns G T W d x3 x4 x5 x6 (.val (zc (dQ G T W d))) x8 (.val (af X)) x10 x11))=some (.bool (TV G T W X d)):=by
  unfold TV;cases e:dQ G T W d with
  | none=>exact Ar rfl
  | some c =>
   refine pd rfl ?_;cases hs:decide (MV G T W X=[]) with
   | false=>rw[hs] at er;exact Ar (call_of er rfl rfl)
   | true =>
    rw[hs] at er;refine pd (call_of er rfl rfl) ?_;exact (aq (C9 _ _) (call_of (ij h (Hj e) false) rfl rfl) rfl)
 refine⟨.val (.bool (TV G T W X d)),?_⟩;unfold UJ;refine (ai (cn ed rfl)).trans ?_;refine (ai (aK (aF (aq (my _) (call_of (T7 (K5 h x hd)) rfl rfl) rfl)))).trans ?_;have en:∀ρ:Dl.Env,ae 9 ρ=some (af X)->(ρ[0]?).getD none=some (bY ns)->WL ρ=some (af (near ns W)):=λρ g9 g0=>by
  have c:=qt (cs:=[0]) (fi:=bj acZ) (te:=aj 3 ak ac1) (f:=λk=>.int (dr ns (120+((k:Nat):Int)) 3)) (is:=List.range W.length) (iO (lW x.len g9) (by lia)) (by rw[zR];lia) λi hi=>by
   simp?[zI,yV,g0];exact call_of (o5 (ns:=ns) (120+((i:Nat):Int)) 3 hl (by lia)) (cons_of rfl (cons_of (aq (cB 120 _) rfl rfl) rfl)) rfl
  refine (lg (cg c)).trans ?_;show some (PyData.tuple _)=some (PyData.tuple _);rw[near,zM];rfl
 refine (ai (aL (en _ rfl rfl) (en _ rfl rfl) rfl)).trans ?_;have hn:(near ns W).length=W.length:=by simp[near]
 have cw:∀ρ:Dl.Env,ae 9 ρ=some (af X)->(ρ[9]?).getD none=some (af X)->(ρ[11]?).getD none=some (af (near ns W))->ac4 ρ=some (((List.range W.length).filter λi=>decide ((near ns W).getD i 0 < X.getD i 0)).map nD):=λρ g g9 g11 =>
  nO (is:=List.range W.length) (iO (lW x.len g) (by lia)) (by rw[zR];lia) λi hi=>⟨by
   have hi:i < W.length:=by simpa using hi
   simp?[zI,yV,g9,g11];exact aF (aq (fg _ _) (aq (dR (i:=i) (by rw[x.len];exact hi)) rfl rfl) (aq (dR (i:=i) (by rw[hn];exact hi)) rfl rfl)),λ_=>rfl⟩
 have hq:LA W X (near ns W)=decide (((List.range W.length).filter λi=>decide ((near ns W).getD i 0 < X.getD i 0))=[]):=by
  rw[vE,Nj,zJ,List.filter_eq_nil_iff];constructor
  ·intro z i hi;have:=z i (by simpa using hi);simp?[zJ];lia
  ·intro z i hi;have:=z i (by simpa using hi);simp?[zJ] at this;lia
 have ei:=DC h x hn;rw[hq] at ei;exact aK (aF (aq (my _) (call_of ei rfl rfl) (aq (mQ _) (cg (cw _ rfl rfl rfl)) (nil_of _))))
def Ie(h:Wd G T W){p c:D}(hp:dc [aw G T W,p]=some (.bool false)):eM [aw G T W,p,c]=some (.bool false):=by
 refine aB ?_;show eJ [.val (aw G T W),.val p,.val c]=_;unfold eJ;refine (ai (iq (call_of (bU h) rfl rfl))).trans ?_;exact bp ((aQ (yw (aM (aF (call_of hp rfl rfl))))).trans (ay rfl))
def Fj(j:Int):SeqAt.shaped (eZ j)=true:=by
 have:=rG j 1;simp[SeqAt.shaped,eZ,PyData.canLay0,PyData.canLayAll0,PyData.depth,PyData.depthAll];decide +kernel
def Kn(j:Int):gf (eZ j) (eZ j)=some (.bool false):=by simp?[gf,Nn,Fj,jQ,xI,GY,zB];rfl
def Oc(h:Wd G T W):bL [.tuple [.tuple (G.map bG),.tuple (T.map bG)]]=some (.bool false):=by
 have hf:∀x∈[PyData.tuple (G.map bG),.tuple (T.map bG),.tuple (W.map aE)],cI 16 3 x:=by
  rcases h.fit with z|⟨xs,z,_,z2⟩
  ·exact z.elim
  ·rcases z with z|z
   ·cases z
   ·cases z;exact z2
 have Zv:cI 16 4 (.tuple [.tuple (G.map bG),.tuple (T.map bG)]):=.tup (by simp) λx hx=>hf x (by simp?[zQ,yF,xV] at hx ⊢;rcases hx with rfl|rfl<;>simp);rw[nJ Zv (by decide)];rfl
def Wg:au->Option Out:=acW
def TU(o:Option (List Int)):gf (zc o) (zc o)=some (.bool false):=by
 cases o with
 | none=>simp[zc,gf,Nn,SeqAt.shaped,PyData.canLay0,PyData.depth,PyData.eqv]
 | some c=>exact Jk c
def QZ(o:Option (List Int)):lJ (zc o) .none=some (.bool o.isSome):=by cases o<;>rfl
def Md(h:Wd G T W):∀ (es:List D) (x8:Slot),(∀e∈es,cI 500 k e)->∃y8,cJ (iZ 8) Wg es (nG ns G T W d x3 x4 x5 x6 x7 x8 x9 x10 x11)=some (.nx (nG ns G T W d x3 x4 x5 x6 x7 y8 x9 x10 x11))
 | [],x8,_=>⟨x8,rfl⟩
 | e::es,x8,hf=>by
  have he:=hf e zE;let⟨y8,ih⟩:=Md h es (.val e) λq hq=>hf q (zC _ hq);refine⟨y8,?_⟩;have hb:Wg (nG ns G T W d x3 x4 x5 x6 x7 (.val e) x9 x10 x11)=some (.nx (nG ns G T W d x3 x4 x5 x6 x7 (.val e) x9 x10 x11)):=aK (aF (aq (my _) (call_of (Lx h he) rfl rfl) (call_of (oJ h he (by lia)) rfl rfl)));rw[cJ,show iZ 8 (nG ns G T W d x3 x4 x5 x6 x7 x8 x9 x10 x11) e=some (nG ns G T W d x3 x4 x5 x6 x7 (.val e) x9 x10 x11) from rfl,zA,hb];exact ih
def Wl:Dl.Env->Option D:=acz
def WZ:Dl.Env->Option (List D):=acU
def WK:Dl.Env->Option D:=acT
def So(ns:List Int)(hl:ns.length<=63):f7 [bY ns]=some (.bool true):=by
 let⟨G,T,W,ew,h,few⟩:=CG (ns:=ns) (a:=0) (mo:=9) hl (by lia);have hw:=h.wl;let⟨q1,q1a,q1b⟩:=dU (ns:=ns) 100 2 hl (by lia);let⟨q2,q2a,q2b⟩:=dU (ns:=ns) 101 2 hl (by lia);obtain⟨r,c0,er,ecb,ZV,hr⟩:∃r c,Wl (aJ [.val (bY ns),.val (aw G T W),.Xe,.Xe,.Xe,.Xe,.Xe,.Xe,.Xe,.Xe,.Xe,.Xe])=some (.list (r.map pD))/\cb G T W (cf W) r=some c/\P5 W r/\r.length<=144:=by
  have hc:acx (aJ [.val (bY ns),.val (aw G T W),.Xe,.Xe,.Xe,.Xe,.Xe,.Xe,.Xe,.Xe,.Xe,.Xe])=some (decide (dr ns 100 2=0)):=aF (aq (bV _ _) (call_of q1 rfl rfl) rfl);by_cases z:dr ns 100 2=0
  ·let⟨r,c,e1,e2,e3,e4⟩:=BP hl h;exact⟨r,c,mI (hc.trans (by rw[yA z])) (call_of e1 rfl rfl),e2,e3,by lia⟩
  ·let⟨o1,o2,o3,o4⟩:=K61M.aap h;have hb:=(sF h).2.1.bd;have hm:=h.XY;exact⟨_,_,qu (hc.trans (by rw[zZ z])) (call_of (Ul (OH h)) rfl rfl),o3,o1,by lia⟩
 have erF:Wl (bK [.val (bY ns),.val (aw G T W),.Xe,.Xe,.Xe,.Xe,.Xe,.Xe,.Xe,.Xe,.Xe,.Xe])=some (.list (r.map pD)):=er;have fL:∀x∈r.map pD,cI 500 3 x:=λx hx=>by
  let⟨p,_,rfl⟩:=List.mem_map.mp hx;exact AJ p
 have hd0:cI 500 4 (.list (r.map pD)):=.lst (by rw[zD];lia) fL;have Ye:(r.map pD).all (qh W.length)=true:=by
  rw[xH];intro x hx;let⟨p,hp,rfl⟩:=List.mem_map.mp hx;have:=ZV p hp;show qh W.length (.tuple [.int ((p.1:Nat):Int),.int p.2])=true;simp[qh,whole];lia
 have hcp:dQ G T W (.list (r.map pD))=some c0:=by
  simp?[dQ,Ye,xI];rw[zM,show (Jq ∘ pD)=id from funext λp=>rfl,List.map_id];exact ecb
 have ec0:=ua h hd0;rw[hcp] at ec0;obtain⟨d,x3,x4,x5,x6,em,hd⟩:∃d x3 x4 x5 x6,(dZ aaY US dP) (nG ns G T W (.list (r.map pD)) .Xe .Xe .Xe .Xe .Xe .Xe .Xe .Xe .Xe)=some (.nx (nG ns G T W d x3 x4 x5 x6 .Xe .Xe .Xe .Xe .Xe))/\cI 500 4 d:=by
  have hc:aaY (aJ (nG ns G T W (.list (r.map pD)) .Xe .Xe .Xe .Xe .Xe .Xe .Xe .Xe .Xe))=some (decide (dr ns 101 2=0)):=aF (aq (bV _ _) (call_of q2 rfl rfl) rfl);by_cases z:dr ns 101 2=0
  ·let⟨d,x3,x4,x5,x6,e,f⟩:=RH hl h hr;exact⟨d,x3,x4,x5,x6,(aQ (hc.trans (by rw[yA z]))).trans e,f⟩
  ·exact⟨_,_,_,_,_,(aK (hc.trans (by rw[zZ z]))).trans rfl,hd0⟩
 have ec:=ua h hd;obtain⟨es,hes,hfe⟩:∃es,(∀ρ:Dl.Env,ae 2 ρ=some d->WZ ρ=some es)/\∀e∈es,cI 500 4 e:=by
  have t1:∀ρ:Dl.Env,ae 2 ρ=some d->WK ρ=some (.list [d,.tuple [.int 0,.int 9],.tuple [.int 0,.int (-1)],.tuple [.int 0,.bool true]]):=λρ g=>cg (lY (cons_of g (cons_of (tup_is (ds:=[.int 0,.int 9]) rfl (by simp)) (cons_of (tup_is (ds:=[.int 0,.int (-1)]) rfl (by simp)) (cons_of (tup_is (ds:=[.int 0,.bool true]) rfl (by simp)) rfl)))) (by simp));have f4:∀e∈[d,.tuple [.int 0,.int 9],.tuple [.int 0,.int (-1)],.tuple [.int 0,.bool true]],cI 500 4 e:=λe he=>by
   simp?[zQ,yF,xV] at he;have lf:∀x y:D,tN x->tN y->cI 500 4 (.tuple [x,y]):=λx y hx hy=>.tup (by simp) λq hq=>by
    simp?[zQ,yF,xV] at hq;rcases hq with rfl|rfl
    ·exact .leaf hx
    ·exact .leaf hy
   rcases he with rfl|rfl|rfl|rfl
   ·exact hd
   ·exact lf _ _ trivial trivial
   ·exact lf _ _ trivial trivial
   ·exact lf _ _ trivial trivial
  by_cases z:∃ls,d=.list ls
  ·let⟨ls,rfl⟩:=z;let⟨j,hj,hb,hf⟩:=hd.ZN;cases hj;refine⟨ls++_,λρ g=>Aa (cg (j7 (mI (aF (u0 (d:=.list ls) g rfl)) g) (t1 ρ g) (by simp;lia))),λe he=>?_⟩;rcases List.mem_append.mp he with he|he
   ·exact (hf e he).mono (yN _) (by lia)
   ·exact f4 e he
  ·refine⟨[]++_,λρ g=>Aa (cg (j7 (qu (aF (u0 g (E4 hd.nd λls e=>z ⟨ls,e⟩))) (nil_of ρ)) (t1 ρ g) (by simp))),λe he=>?_⟩;exact f4 e (by simpa using he)
 let⟨y8,fw⟩:=Md (ns:=ns) (d:=d) (x3:=x3) (x4:=x4) (x5:=x5) (x6:=x6) (x7:=.val (zc (dQ G T W d))) (x9:=.Xe) (x10:=.Xe) (x11:=.Xe) h es .Xe hfe;have eb:=Qx h;have ep:=D2 (ns:=ns) (at':=110) hl h;have pb:=Rw h;have pp:=M4 (ns:=ns) (at':=110) hl h;generalize nN (vb ns 110 W) G T W W.length=P at ep pp;let⟨z1,p1⟩:=Ml (ns:=ns) (x3:=x3) (x4:=x4) (x5:=x5) (x6:=x6) (x8:=y8) (x10:=.Xe) (x11:=.Xe) hl h hd pb;let⟨z2,p2⟩:=Ml (ns:=ns) (x3:=x3) (x4:=x4) (x5:=x5) (x6:=x6) (x8:=y8) (x10:=z1) (x11:=.val (af (near ns W))) hl h hd pp;have fp:cJ (iZ 9) UJ [af (Q5 G T W),af P] (nG ns G T W d x3 x4 x5 x6 (.val (zc (dQ G T W d))) y8 .Xe .Xe .Xe)=some (.nx (nG ns G T W d x3 x4 x5 x6 (.val (zc (dQ G T W d))) y8 (.val (af P)) z2 (.val (af (near ns W))))):=by
  rw[cJ,show iZ 9 (nG ns G T W d x3 x4 x5 x6 (.val (zc (dQ G T W d))) y8 .Xe .Xe .Xe) (af (Q5 G T W))=some (nG ns G T W d x3 x4 x5 x6 (.val (zc (dQ G T W d))) y8 (.val (af (Q5 G T W))) .Xe .Xe) from rfl,zA,p1];show cJ (iZ 9) UJ [af P] (nG ns G T W d x3 x4 x5 x6 (.val (zc (dQ G T W d))) y8 (.val (af (Q5 G T W))) z1 (.val (af (near ns W))))=_;rw[cJ,show iZ 9 (nG ns G T W d x3 x4 x5 x6 (.val (zc (dQ G T W d))) y8 (.val (af (Q5 G T W))) z1 (.val (af (near ns W)))) (af P)=some (nG ns G T W d x3 x4 x5 x6 (.val (zc (dQ G T W d))) y8 (.val (af P)) z1 (.val (af (near ns W)))) from rfl,zA,p2];rfl
 have hP:dc [aw G T W,af (P++[0])]=some (.bool false):=NU h rfl (KJ (by rw[zD,zN,pp.len];simp));have ea:∀ρ:Dl.Env,ae 9 ρ=some (af P)->f2 Dl.aA (ae 9) aao ρ=some (af (P++[0])):=λρ g=>aq (sJ (a:=P) (b:=[0]) (by have:=pp.len;simp;lia)) g (Jb rfl);refine aB ?_;show fY [.val (bY ns),.Xe,.Xe,.Xe,.Xe,.Xe,.Xe,.Xe,.Xe,.Xe,.Xe,.Xe]=_;unfold fY;refine (ai (aL (call_of ew rfl rfl) (call_of ew rfl rfl) rfl)).trans ?_;refine (ai (aL er erF rfl)).trans ?_;refine (ai (aK (aF (aq (a:=af c0) (b:=.none) rfl (call_of ec0 rfl rfl) rfl)))).trans ?_;refine (ai em).trans ?_;refine (ai (aL (call_of ec rfl rfl) (call_of ec rfl rfl) rfl)).trans ?_;refine (ai (aK (uP (aF (aq (my _) (call_of (PF (CV h hd)) rfl rfl) (aq (QZ _) rfl rfl))) (aF (aq (TU _) (call_of (S3 (uI h hd)) rfl rfl) rfl))))).trans ?_;refine (ai (bc fw (hes _ rfl) rfl)).trans ?_;refine (ai (bc fp (Nz (tup_is (cons_of (call_of eb rfl rfl) (cons_of (call_of ep rfl rfl) rfl)) (by simp))) rfl)).trans ?_;refine (ai (aK (uP (aF (call_of (Ie h hP) (cons_of rfl (cons_of (ea _ rfl) rfl)) rfl)) (aF (aq (Kn 1) (call_of (TB (Ui (Vt h hP)) V1) (cons_of rfl (cons_of rfl (cons_of (ea _ rfl) rfl))) rfl) (tup_is rfl (by simp))))))).trans ?_;have hn:=Oc h;have ak2:∀ρ:Dl.Env,ae 1 ρ=some (aw G T W)->cF bw (ae 1) cZ ac6 ρ=some (.tuple [.tuple (G.map bG),.tuple (T.map bG)]):=λρ h1=>(U6 h1 rfl (uB rfl)).trans rfl;have c4:=IR (cs:=[1,2]) (fi:=bj (aa (fC (.int 4)) ag)) (te:=aj 4 az ac7) (ρ:=aJ (nG ns G T W d x3 x4 x5 x6 (.val (zc (dQ G T W d))) y8 (.val (af P)) z2 (.val (af (near ns W))))) (is:=List.range 4) (j:=0) (iO (n:=4) rfl (by lia)) (by simp) λk hk=>call_of (U7 hn k (by simpa using hk)) (cons_of rfl (cons_of (ak2 _ rfl) rfl)) rfl;rw[zR] at c4;exact ay (aq (IZ 0 4) c4 (LH 0 (n:=4) (by lia) _))
def main(ns:List Int)(hl:ns.length<=63):jf [.list (ns.map PyData.int)]=some (.bool true):=by
 refine aB ?_;show p7 [.val (bY ns)]=_;exact ay (pd (call_of Nt rfl rfl) (call_of (So ns hl) rfl rfl))
end
end K60M
end Wm
namespace K60
open PySem L2 Dl PySem.Spec PyProof.Rows Pg Hd PySem.W
def main(ns:List Int)(h:ns.length<=63):jf [.list (ns.map PyData.int)]=some (.bool true):=Wm.K60M.main ns h
def ins(P:Params){h:Heap}{mg:Str->Option Value}(X:(Kf P).In h)(G:h.Ns mainGlobals mg):bx (Kf P) mg:=⟨aI.mg (f3 94 93 n0) X G,aI.mg (f2 101 100 n0) X G,aI.mg (f3 108 107 n0) X G,aI.mg (f2 113 112 n0) X G,aI.mg (f2 120 119 n0) X G,aI.mg (f3 127 126 n0) X G,aI.mg (f3 132 131 n0) X G,aI.mg (f1 137 136 n0) X G,aI.mg (f1 142 141 n0) X G,aI.mg (f4 147 146 n0) X G,aI.mg (f3 152 151 n0) X G,aI.mg (f2 157 156 n0) X G,aI.mg (f1 164 163 n0) X G,aI.mg (f2 171 170 n0) X G,aI.mg (f3 178 177 n0) X G,yk.mg (l3 183 182 Jm) X G,aI.mg (f4 188 187 Jm) X G,aI.mg (f4 193 192 Jm) X G,aI.mg (f3 200 199 Jm) X G,aI.mg (f2 207 206 Jm) X G,aI.mg (f2 214 213 Jm) X G,aI.mg (f3 219 218 GR) X G,aI.mg (f1 224 223 GR) X G,aI.mg (f3 231 230 GR) X G,aI.mg (f2 238 237 GR) X G,aI.mg (f1 245 244 GR) X G,aI.mg (f2 252 251 GR) X G,aI.mg (f1 259 258 GR) X G,aI.mg (f1 266 265 By) X G,aI.mg (f2 273 272 By) X G,aI.mg (f2 280 279 By) X G,aI.mg (f3 287 286 By) X G,aI.mg (f2 292 291 By) X G,aI.mg (f2 299 298 By) X G,aI.mg (f2 306 305 By) X G,aI.mg (f3 313 312 By) X G,aI.mg (f3 318 317 By) X G,aI.mg (f2 325 324 iX) X G,aI.mg (f3 332 331 iX) X G,aI.mg (f3 339 338 iX) X G,aI.mg (f3 344 343 iX) X G,aI.mg (f4 349 348 iX) X G,aI.mg (f2 356 355 iX) X G,aI.mg (f1 361 360 iX) X G,aI.mg (f3 368 367 iX) X G,aI.mg (f5 375 374 iX) X G,aI.mg (f3 382 381 iX) X G,aI.mg (f2 387 386 iX) X G,aI.mg (f4 394 393 iX) X G,aI.mg (f3 399 398 iX) X G,aI.mg (f1 406 405 iX) X G,aI.mg (f2 411 410 iX) X G,aI.mg (f2 418 417 iX) X G,aI.mg (f3 423 422 iX) X G,aI.mg (f4 430 429 iX) X G,aI.mg (f0 435 434 iX) X G,aI.mg (f1 440 439 iX) X G,aI.mg (f1 447 446 iX) X G,⟨289,mg_of X G (by kernel_rfl)⟩,⟨291,mg_of X G (by kernel_rfl)⟩,Ex.NH X G (by kernel_rfl),λx hx=>mg_none_of X G (Dl.QW (by kernel_rfl) x hx)⟩
def UK(w:World):pw (Kf w.params) [180]=true:=by kernel_rfl
end K60
open PySem PySem.W PyProof.Rows
theorem PySem.Challenge.cw_stillflow_k60_papers_holds : PySem.Challenge.rw_stillflow_k60_papers.Holds := by
 refine holds_law K60.Ve λk1=>?_
 refine holds_open (XP:=XL K60.vw []) (YP:=K60.hk.says) K60.left K60.hk.of K60.hk.keeps (λs e=>xl_of s (Bool.and_eq_true_iff.mp e).1) XL.keeps (by rfl) (by rfl) (by rfl) (λs e=>recFacts_of (Bool.and_eq_true_iff.mp e).2) (by rfl) k1 (by decide +kernel) ⟨rfl,rfl,rfl,rfl,rfl,by decide +kernel⟩ ?hw ?hc
 case hw=>w_witness2
 case hc=>exact K60.walk (l:=PySem.Challenge.rw_stillflow_k60_papers) (K:=K60.Kf) (ts:=[180]) rfl rfl rfl (λw h Y=>⟨Y.1,Y.2⟩) K60.UK (λw=>K60.ins w.params) K60.main
