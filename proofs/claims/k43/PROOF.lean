import PyProof.Rows.All
import Wide.All
import OpenK.AllK
import Wide.FinOn
import PyProof.EqAt
import PyProof.EqKinds
import PyProof.TupleCall
import Lean
import PyProof.Draws
import PyProof.ListRange
import KE.KIsAll
import PySem.Challenge.RW_stillflow_k43_walks
set_option Elab.async false
set_option linter.all false
set_option maxRecDepth 100000
set_option maxHeartbeats 4000000
abbrev _root_.zA:=@Option.bind_some
abbrev _root_.zB:=@Option.map_some
abbrev _root_.zC:=@List.mem_cons_of_mem
abbrev _root_.zD:=@List.length_map
abbrev _root_.zE:=@List.mem_cons_self
abbrev _root_.zF:=@Bool.and_eq_true
abbrev _root_.zG:=@List.getD_eq_getElem?_getD
abbrev _root_.zH:=@List.size_toArray
abbrev _root_.zI:=@List.map_cons
abbrev _root_.zJ:=@decide_eq_true_eq
abbrev _root_.zK:=@List.getElem?_eq_getElem
abbrev _root_.zL:=@List.length_cons
abbrev _root_.zM:=@List.map_map
abbrev _root_.zN:=@List.length_append
abbrev _root_.zO:=@List.getElem?_map
abbrev _root_.zP:=@Nat.lt_of_lt_of_le
abbrev _root_.zQ:=@List.mem_cons
abbrev _root_.zR:=@List.length_range
abbrev _root_.zS:=@List.mem_range
abbrev _root_.zT:=@List.getElem?_eq_some_iff
abbrev _root_.zU:=@PySem.Heap.get?_push_of_some
abbrev _root_.zV:=@PySem.wpAny_bind
abbrev _root_.zW:=@PySem.wpAny_pure
abbrev _root_.zX:=@PySem.Heap.get?_push_size
abbrev _root_.zY:=@PySem.Heap.lt_size
abbrev _root_.zZ:=@decide_eq_false
abbrev _root_.yA:=@decide_eq_true
abbrev _root_.yB:=@List.lookup_cons
abbrev _root_.yC:=@List.length_set
abbrev _root_.yD:=@Nat.le_trans
abbrev _root_.yE:=@List.mem_append_right
abbrev _root_.yF:=@List.not_mem_nil
abbrev _root_.yG:=@Int.toNat_natCast
abbrev _root_.yH:=@List.map_congr_left
abbrev _root_.yI:=@List.mem_singleton
abbrev _root_.yJ:=@Option.some.injEq
abbrev _root_.yK:=@if_pos
abbrev _root_.yL:=@Nat.le_refl
abbrev _root_.yM:=@if_neg
abbrev _root_.yN:=@Bool.false_eq_true
abbrev _root_.yO:=@Bool.not_eq_true'
abbrev _root_.yP:=@of_decide_eq_true
abbrev _root_.yQ:=@Nat.ne_of_lt
abbrev _root_.yR:=@List.getElem?_append_left
abbrev _root_.yS:=@List.getElem?_append_right
abbrev _root_.yT:=@List.map_nil
abbrev _root_.yU:=@List.set_cons_zero
abbrev _root_.yV:=@List.set_cons_succ
abbrev _root_.yW:=@List.getElem?_replicate
abbrev _root_.yX:=@List.getElem?_cons_succ
abbrev _root_.yY:=@Bool.false_ne_true
abbrev _root_.yZ:=@PySem.wpAny_mono
abbrev _root_.xA:=@decide_eq_false_iff_not
abbrev _root_.xB:=@List.length_singleton
abbrev _root_.xC:=@Option.some.inj
abbrev _root_.xD:=@List.replicate_succ
abbrev _root_.xE:=@List.cons_append
abbrev _root_.xF:=@List.all_eq_true
abbrev _root_.xG:=@if_true
abbrev _root_.xH:=@List.getElem?_set
abbrev _root_.xI:=@PySem.Heap.size_push
abbrev _root_.xJ:=@List.length_nil
abbrev _root_.xK:=@List.length_replicate
abbrev _root_.xM:=@PySem.Heap.get?_update_other
abbrev _root_.xN:=@List.nil_append
abbrev _root_.xO:=@List.length_filter_le
abbrev _root_.xP:=@List.getElem?_cons_zero
abbrev _root_.xQ:=@PySem.wpAny_pyIter_tuple
abbrev _root_.xR:=@List.all_cons
abbrev _root_.xS:=@or_false
abbrev _root_.xU:=@Nat.zero_le
abbrev _root_.xV:=@PySem.wpAny_truthy_bool
abbrev _root_.xW:=@PySem.wpAny_holding
abbrev _root_.xX:=@Bool.not_true
abbrev _root_.xY:=@Int.le_refl
abbrev _root_.xZ:=@List.getElem_mem
abbrev _root_.qA:=@List.mem_of_getElem?
abbrev _root_.qB:=@PySem.wpAny_callSpecial?_slot
abbrev _root_.qC:=@Array.getD_eq_getD_getElem?
abbrev _root_.qD:=@Nat.lt_irrefl
abbrev _root_.qE:=@List.append_nil
abbrev _root_.qF:=@Option.getD_some
abbrev _root_.qG:=@List.length_drop
abbrev _root_.qH:=@List.mem_append_left
abbrev _root_.qJ:=@PySem.wpAny_pyIter_list
abbrev _root_.qK:=@PySem.wpAny_newObj_type
abbrev _root_.qL:=@List.flatten_cons
abbrev _root_.qM:=@PySem.F.plainAttrs_list
abbrev _root_.qN:=@if_false
abbrev _root_.qP:=@List.getElem_of_mem
abbrev _root_.qQ:=@PyProof.Rows.callWith_type1
abbrev _root_.qS:=@PySem.wpAny_field
abbrev _root_.qT:=@PySem.sizeLine_eq
abbrev _root_.qU:=@PySem.wpAny_call_entry
abbrev _root_.qV:=@PySem.call_meets
abbrev _root_.qX:=@PySem.wpAny_Call_Name_kw
abbrev _root_.qY:=@Nat.lt_of_le_of_lt
abbrev _root_.qZ:=@List.map_append
abbrev _root_.jA:=@Bool.or_eq_true
abbrev _root_.jB:=@congrArg
abbrev _root_.jC:=@Nat.zero_add
abbrev _root_.jD:=@List.pairwise_map
abbrev _root_.jE:=@PyProof.Rows.slot_tuple_getitem
abbrev _root_.jF:=@List.filterMap_cons
abbrev _root_.jG:=@List.ext_getElem
abbrev _root_.jH:=@Nat.ne_of_gt
abbrev _root_.jI:=@PySem.Calls.spliced_cons
abbrev _root_.jJ:=@PySem.wpAny_passesOwn
abbrev _root_.jK:=@Bool.true_and
abbrev _root_.jL:=@List.getElem?_eq_none
abbrev _root_.jM:=@Ne.symm
abbrev _root_.jN:=@Nat.lt_succ_of_lt
abbrev _root_.jO:=@and_self
abbrev _root_.jP:=@decide_true
abbrev _root_.jQ:=@PySem.F.slot_tuple_iterator_next
abbrev _root_.jR:=@PySem.codeAny_mono
abbrev _root_.jS:=@Nat.le_of_lt
abbrev _root_.jT:=@Int.le_trans
abbrev _root_.jU:=@Nat.le_add_right
abbrev _root_.jV:=@List.length_take
abbrev _root_.jW:=@List.filter_cons
abbrev _root_.jX:=@List.mem_of_find?_eq_some
abbrev _root_.jY:=@Array.getElem?_eq_getElem
abbrev _root_.jZ:=@PySem.mem_of_lookup
abbrev _root_.kA:=@PyProof.Rows.listUpdate_at
abbrev _root_.kC:=@PyProof.Rows.get?_update_seq
abbrev _root_.kE:=@PySem.codeAny_builtin
abbrev _root_.kF:=@List.filter_map
abbrev _root_.kH:=@PySem.wpAny_seqItems
abbrev _root_.kJ:=@PySem.Calls.spliced_nil
abbrev _root_.kK:=@PySem.SeqAt.canLay_of_shaped
abbrev _root_.kL:=@List.take_of_length_le
abbrev _root_.kM:=@List.find?_cons_of_neg
abbrev _root_.kN:=@List.findIdx_lt_length_of_exists
abbrev _root_.kO:=@Option.getD_none
abbrev _root_.kP:=@Nat.lt_succ_self
abbrev _root_.kU:=@PySem.wpAny_newList
abbrev _root_.kX:=@PySem.wpAny_attempt
abbrev _root_.kY:=@List.getElem?_set_ne
abbrev _root_.kZ:=@List.cons.injEq
abbrev _root_.vA:=@Bool.eq_iff_iff
abbrev _root_.vB:=@Bool.and_false
abbrev _root_.vC:=@PySem.wpAny_setField_rec
abbrev _root_.vD:=@Int.emod_lt_of_pos
abbrev _root_.vE:=@List.drop_eq_getElem_cons
abbrev _root_.vF:=@List.reverse_cons
abbrev _root_.vG:=@List.findIdx_cons
abbrev _root_.vH:=@PySem.wpAny_standAt
abbrev _root_.vI:=@List.any_cons
abbrev _root_.vJ:=@PySem.F.args_tuple_add_2
abbrev _root_.vK:=@PySem.wpAny_execs_cons
abbrev _root_.vL:=@List.range'_succ
abbrev _root_.vM:=@PySem.F.entry_tuple_add
abbrev _root_.vN:=@List.pairwise_singleton
abbrev _root_.vO:=@Int.eq_ofNat_of_zero_le
abbrev _root_.vP:=@PySem.wpAny_call
abbrev _root_.vQ:=@beq_iff_eq
abbrev _root_.vR:=@PyProof.Rows.listItems_at
abbrev _root_.vS:=@PySem.F.slot_tuple_add
abbrev _root_.vT:=@List.range_succ_eq_map
abbrev _root_.vU:=@List.getElem?_set_self
abbrev _root_.vV:=@List.find?_cons_of_pos
abbrev _root_.vW:=@PySem.wpAny_execs_nil
abbrev _root_.vX:=@Nat.not_lt_zero
abbrev _root_.vY:=@List.of_mem_zip
abbrev _root_.vZ:=@Int.emod_nonneg
abbrev _root_.wA:=@PySem.F.slot_zip_next
abbrev _root_.wC:=@PySem.F.slot_int_rmul
abbrev _root_.wD:=@List.getElem?_toArray
abbrev _root_.wF:=@Nat.mul_le_mul
abbrev _root_.wG:=@Bool.false_and
abbrev _root_.wH:=@PySem.wpAny_loadName_local
abbrev _root_.wI:=@PySem.codeAny_call_builtin
abbrev _root_.wJ:=@List.findIdx_getElem
abbrev _root_.wK:=@List.getD_cons_zero
abbrev _root_.wL:=@List.getD_cons_succ
abbrev _root_.wM:=@Array.length_toList
abbrev _root_.wN:=@PySem.wpAny_rule
abbrev _root_.wQ:=@PySem.wpAny_Name
abbrev _root_.wR:=@PySem.typeIs_int
abbrev _root_.wU:=@List.find?_eq_none
abbrev _root_.wV:=@PySem.F.args_tuple_mul_2
abbrev _root_.wW:=@PySem.Code.quiet_builtin
abbrev _root_.wX:=@PySem.Calls.Constant_str
abbrev _root_.wY:=@PySem.wpAny_typeOf
abbrev _root_.wZ:=@decide_false
abbrev _root_.Za:=@PySem.concat_meets
abbrev _root_.Zb:=@Nat.lt_trans
abbrev _root_.Zc:=@List.any_map
abbrev _root_.Zd:=@PySem.wpAny_pyIter_enum
abbrev _root_.Ze:=@List.nodup_append
abbrev _root_.Zf:=@Function.comp_def
abbrev _root_.Zg:=@PySem.F.entry_tuple_mul
local macro_rules|`(tactic|simp?[$t,*] $[$l:location]?)=>`(tactic|simp only[$t,*] $[$l]?)
local macro_rules|`(tactic|let ⟨$a,*⟩:=$e)=>do
 let rec f(n:Nat)(t:Lean.Syntax):Lean.MacroM (Lean.TSyntax `rcasesPat):=match n with
 |0=>Lean.Macro.throwUnsupported
 |n+1=>match t with
  |`(⟨$b,*⟩)=>do
    let c<-b.getElems.mapM fun x=>do `(Lean.Parser.Tactic.rcasesPatLo|$(<-f n x):rcasesPat)
    `(rcasesPat|⟨$c,*⟩)
  |`($x:ident)=>`(rcasesPat|$x:ident)
  |_=>`(rcasesPat|_)
 `(tactic|obtain $(<-f 9 (<-`(⟨$a,*⟩))):rcasesPat:=$e)
local macro_rules|`(tactic|lia)=>`(tactic|omega)
local macro_rules|`(def $i:declId $s:optDeclSig $v:declVal)=>`(noncomputable def $i:declId $s:optDeclSig $v:declVal)
local macro_rules|`(abbrev $i:declId $s:optDeclSig $v:declVal)=>`(noncomputable abbrev $i:declId $s:optDeclSig $v:declVal)
namespace L2
open PySem
def fE(s:Stmt):Arguments:=match s with
 | .FunctionDef _ a _ _ _ _ _ _ _ _=>a
 | _=>{ posonlyargs:=[],args:=[],vararg:=none,kwonlyargs:=[],kw_defaults:=[],kwarg:=none,defaults:=[] }
def bq(s:Stmt):List Stmt:=match s with
 | .FunctionDef _ _ b _ _ _ _ _ _ _=>b
 | _=>[]
def aj(s:Stmt):Scope:=match s with
 | .FunctionDef _ _ _ _ _ _ sc _ _ _=>sc
 | _=>{ kind:=.function,names:=[],isGenerator:=false,isCoroutine:=false }
end L2
namespace Hd
open PySem L2 PySem.Spec PyProof.Rows
def en(P:Params)(x:String)(t:Nat)(v:Value):DictEntry:=⟨PyData.keyHash P (Str.ofString x),.str (Str.ofString x) t,v⟩
def fo(x:Str)(st:Stmt)(pm:Value)(c:Addr):Obj:=⟨.type "function",none,.func (W.fnOf x x (fE st) (bq st) (aj st) .none .none .none pm none (.ref c) .none),#[]⟩
def co(vs:List Value):Obj:=⟨.type "code",none,.fields vs.toArray,#[]⟩
def M8(n:Nat):Value:=if n=0 then .none else .ref n
def gc(x:Str)(t l n a b c d e f u:Nat):Obj:=co [.str x t,.str x (t+1),.str "/claim/cut.py" (t+2),.int l 0,.int n 0,.int 0 0,.int 0 0,.int 3 0,M8 a,.bool true,.int 181 0,M8 b,M8 c,M8 d,M8 e,M8 f,.int u 0,.int l 0,.str "/claim/cut.py" (u+1)]
def O0(x:Str)(C ns m t u:Nat)(bs up subs:List Value):Obj:=⟨.type "type",none,.cls { name:=x,bases:=bs,mro:=.ref C::(up++[.type "ValueError",.type "Exception",.type "BaseException",.type "object"]),ns:=ns,qualname:=x,subclasses:=subs },#[some (.ref m),none,some (.str x t),some (.str x u),some (.builtin "ValueError.__new__"),some (.bool true)]⟩
open PySem PySem.W L2
structure Acc where
 a:Nat
 t:Nat
 nm:Value
 es:List DictEntry
 ts:List Value
 os:List Obj
def JH(q:NameKind)(sc:Scope):List Str:=sc.names.filterMap λ(x,k)=>if k=q then some x else none
def MI:Nat->List Str->List Value
 | _,[]=>[]
 | t,x::l=>.str x t::MI (t+1) l
def HC(vs:List Value):Obj:=⟨.type "tuple",none,.seq vs.toArray,#[]⟩
def Nw:Obj:=⟨.none,none,.fields #[],#[]⟩
def NH(x:Str)(st:Stmt):Obj:=⟨.none,none,.func { name:=x,qualname:=x,params:=fE st,body:=.stmts (bq st),scope:=aj st,globals:=0,closure:=[],defaults:=.none,kwdefaults:=.none },#[]⟩
def RG(P:Params)(k:Nat)(st:Stmt):Acc->Acc
 | ⟨a,t,nm,es,ts,os⟩=>match st with
  | .FunctionDef x args _ _ _ _ sc _ _ pos =>
   if k=0 then ⟨a+5,t+6,nm,⟨PyData.keyHash P x,.str x (t+5),.ref (a+4)⟩::es,.ref (a+3)::.int 0 0::.int pos.line 0::ts,
    fo x st nm (a+3)::gc x t pos.line args.args.length a (a+1) 0 0 0 (a+2) (t+3)::NH x st::Nw::HC []::os⟩
   else
    let m:=(JH .local sc).length;let n:=m+(JH .cell sc).length
    ⟨a+7,t+6+n,nm,⟨PyData.keyHash P x,.str x (t+5+n),.ref (a+6)⟩::es,.ref (a+5)::.int 0 0::.int pos.line 0::ts,
    fo x st nm (a+5)::gc x t pos.line args.args.length a (a+1) 0 (a+2) (a+3) (a+4) (t+3+n)::NH x st::HC (MI (t+3+m) (JH .cell sc))::HC (MI (t+3) (JH .local sc))::Nw::HC []::os⟩
  | .Assign [.Name x _] (.Constant c _ _) _ =>
   let v:=match c with|.int i=>Value.int i t|.str y=>.str y t|_=>.none
   if k=2 then ⟨a,t+2,v,es,ts,os⟩ else ⟨a,t+2,nm,⟨PyData.keyHash P x,.str x (t+1),v⟩::es,ts,os⟩
  | _=>⟨a,t,nm,es,ts,os⟩
def OK(P:Params):List Nat->List Stmt->Acc->Acc
 | k::ks,st::r,A=>OK P ks r (RG P k st A)
 | _,_,A=>A
def Qq:Heap->Acc->Heap
 | ⟨⟨o0::o1::o2::⟨c3,d3,.dict ⟨e0::es⟩ n,s3⟩::r⟩,lf⟩,A=>⟨⟨o0::o1::o2::⟨c3,d3,.dict ⟨{ e0 with val:=A.nm }::(es++A.es.reverse)⟩ (n+A.es.length),s3⟩ ::
   (r.modify 8 (fun|⟨c,d,.fields ⟨vs⟩,s⟩=>⟨c,d,.fields ⟨vs++A.ts.reverse⟩,s⟩|o=>o)++A.os.reverse)⟩,lf⟩
 | h,_=>h
def Pd(s:Shared)(A:Acc):Shared:={ s with heap:=Qq s.heap A,toks:=A.t }
section
variable (p:Program) (w:World)
abbrev yp:=behindTheImports p
abbrev GX:PySem.Env:={ scope:=p.main.scope,locals:=3,globals:=3,cells:=[],code:=.ref 13,frame:=some 14 }
abbrev ze:Code:=.body (yp p) (GX p)
def GI(i:Nat):Pos:=if i=0 then default else ((yp p).getD (i - 1) (.Pass default)).pos
abbrev HP:List Frame:=[topFrame default]
def S0:Shared:=(fencedOpening treeTable p w 6000).getD {}
def Sb:Shared:=((topGo treeTable p w 11 (some (.ref 6)) 12 (S0 p w) (topStub p)).map (·.1)).getD {}
abbrev NG(n i j:Nat)(s:Shared):=segRun treeTable p w 11 (some (.ref 6)) 1 n s (piecesOf (((yp p).drop i).take (j - i)) (GX p) (ze p) (GI p i) HP)
def Sc(n j:Nat):Shared:=((NG p w n 0 j (Sb p w)).map (·.2.1)).getD {}
def SA(n j:Nat)(A:Acc)(ks:List Nat)(m:Nat):Shared:=Pd (Sc p w n j) (OK w.params (ks.take m) ((yp p).drop j) A)
end
def IU{p q:Program}{loose:List Str}{Xt:Shared->Bool}{α:Type}{Yf:Shared->α}{Ya:World->α}{g0:Bool}{s1:World->Shared}{M:Nat}
  (ho:∀w,fencedOpening treeTable p w 6000=some (S0 p w)) (hs:∀w,((S0 p w).heap.isNs mainGlobals&&(S0 p w).gens.size == 0,(S0 p w).heap.objs.size,(S0 p w).heap.nsMap mainGlobals "__annotations__")=(true,11,some (.ref 6)))
  (hr:∀w,topRun treeTable p w 11 (some (.ref 6)) M (S0 p w) (topStub p)=some (s1 w)) (hM:M<=6000)
  (hl:∀w,(staticsOk (importedModules p.main.body) (S0 p w).heap (s1 w).heap&&namesBound p (s1 w).heap&&gensDone (s1 w)&&laidKept (S0 p w).heap (s1 w).heap)=true)
  (hk:∀w,openSeen q loose (importedModules p.main.body) Xt g0 (s1 w)=openGood q loose) (hy:∀w,Yf (s1 w)=Ya w):LeftO p q loose Xt Yf Ya 6000 g0:=λw=>by
 have r:=topRun_mono (6000 - M) _ _ _ _ (hr w);rw[show M+(6000 - M)=6000 by lia] at r;have e:=hs w;simp?[Prod.mk.injEq] at e;have t:openEnds treeTable p w 6000=some (s1 w):=by
  unfold openEnds;rw[ho w,zA];unfold topFrom;rw[e.1,e.2.1,e.2.2];dsimp only;rw[r,zA,hl w]
 rw[t,zB,hk w,hy w]
def Md{p:Program}{w:World}{N:Nat}{r:Shared}(a:topGo treeTable p w 11 (some (.ref 6)) 12 (S0 p w) (topStub p)=some (Sb p w,⟨denote treeTable (.body (yp p) (GX p)),ze p,default,HP⟩))
  (b:segRun treeTable p w 11 (some (.ref 6)) 1 1 (Sb p w) (blockOf (yp p) (GX p) (ze p) default HP)=some (.next,Sb p w,ze p,GI p 0))
  (k:topRun treeTable p w 11 (some (.ref 6)) N (Sb p w) (restOf (yp p) (GX p) (ze p) (GI p 0) HP)=some r):topRun treeTable p w 11 (some (.ref 6)) (12+(1+N)) (S0 p w) (topStub p)=some r:=go_top a (piece_block b k)
def Qf{p:Program}{w:World}{n N i j:Nat}{s s' r:Shared}(h:NG p w n i j s=some (.next,s',ze p,GI p j))(RS:i<=j)(k:topRun treeTable p w 11 (some (.ref 6)) N s' (restOf ((yp p).drop j) (GX p) (ze p) (GI p j) HP)=some r) :
  topRun treeTable p w 11 (some (.ref 6)) (n+N) s (restOf ((yp p).drop i) (GX p) (ze p) (GI p i) HP)=some r:=by
 have e:(yp p).drop i=((yp p).drop i).take (j - i)++(yp p).drop j:=by
  have:=List.take_append_drop (j - i) ((yp p).drop i);rw[List.drop_drop,show i+(j - i)=j by lia] at this;exact this.symm
 rw[e];exact piece_app h k
end Hd
namespace K43
open PySem L2 PySem.Spec PyProof.Rows Hd PySem.W
abbrev top(i:Nat):Stmt:=PySem.Challenge.pw_stillflow_k43_walks.main.body.getD i (.Pass ⟨0,0,0,0⟩)
def vw:Program:=W.view PySem.Challenge.pw_stillflow_k43_walks [1,2,3,4,6,7,8,9,10,11,12,13,14,15,16,17,18,19,20,21,22,23,24,26,27,28,29,30,31,33,34,35,36,37,39,40,41,42,43,44,45,46,47,48,49,50,51,52,53,54,55]
abbrev RC:Addr:=24
abbrev Q6:List (Str×Addr):=[("NoWorld",37),("NoPlan",49),("NoPlace",61)]
def kf:Value:=(.str "stillflow.worlds" 255)
def Dx:Value:=(.str "stillflow.flows" 387)
def G8:Value:=(.str "stillflow.walks" 433)
def kc:Value:=(.str "law_stillflow_k43_walks" 483)
def Kf(P:Params):W.Frag:=[(3,⟨.type "dict",none,.dict #[en P "__name__" 165 (.str "law_stillflow_k43_walks" 483),en P "__doc__" 166 .none,en P "__package__" 167 .none,en P "__loader__" 168 (.builtin "__main__.__loader__#opaque"),en P "__spec__" 169 .none,en P "__annotations__" 170 (.ref 6),en P "__builtins__" 171 (.ref 4),en P "__file__" 173 (.str "/claim/cut.py" 172),en P "__cached__" 174 .none,en P "FlowError" 206 (.ref 24),en P "NoWorld" 222 (.ref 37),en P "NoPlan" 238 (.ref 49),en P "NoPlace" 254 (.ref 61),en P "MOST_PLACES" 258 (.int 4 257),en P "MOST" 260 (.int 9 259),en P "is_whole" 269 (.ref 70),en P "is_number" 277 (.ref 77),en P "is_long" 286 (.ref 84),en P "are_likes" 292 (.ref 89),en P "is_end" 300 (.ref 96),en P "is_way" 309 (.ref 103),en P "are_parts" 315 (.ref 108),en P "liked_pairs" 321 (.ref 113),en P "is_world" 327 (.ref 118),en P "through" 333 (.ref 123),en P "keeps_amounts" 339 (.ref 128),en P "is_plan" 345 (.ref 133),en P "check_world" 352 (.ref 140),en P "check_plan" 360 (.ref 147),en P "check_whole" 369 (.ref 154),en P "check_number" 377 (.ref 161),en P "replaced" 386 (.ref 168),en P "ways_of" 394 (.ref 173),en P "wants_more" 400 (.ref 178),en P "why_kept" 409 (.ref 185),en P "first_leaving" 418 (.ref 192),en P "is_still" 426 (.ref 199),en P "leaving" 432 (.ref 204),en P "least_liked_used" 440 (.ref 209),en P "pushed_on" 453 (.ref 216),en P "pushed" 462 (.ref 223),en P "walk" 474 (.ref 230),en P "comes_to_rest" 482 (.ref 237),en P "_law_cell" 492 (.ref 244),en P "_law_drawn" 502 (.ref 251),en P "_law_orders" 517 (.ref 258),en P "_law_world" 523 (.ref 263),en P "_law_used" 529 (.ref 268),en P "_law_fits" 540 (.ref 275),en P "_law_plan" 554 (.ref 282),en P "_law_wants" 568 (.ref 289),en P "_law_why" 580 (.ref 296),en P "_law_rests" 586 (.ref 301),en P "_law_gone" 592 (.ref 306),en P "_law_less" 605 (.ref 313),en P "_law_push" 618 (.ref 320),en P "_law_walked" 628 (.ref 327),en P "_law_refused" 636 (.ref 334),en P "_law_told" 647 (.ref 341),en P "law" 653 (.ref 346)] 60,#[]⟩),
 (23,⟨.type "dict",none,.dict #[en P "__module__" 196 (.str "stillflow.errors" 187),en P "__firstlineno__" 200 (.int 2 199),en P "__static_attributes__" 201 (.ref 22),en P "__weakref__" 203 (.ref 25),en P "__doc__" 204 .none] 3,#[]⟩),
 (24,O0 "FlowError" 24 23 15 189 197 [(.type "ValueError")] [] [(.ref 37),(.ref 49),(.ref 61)]),
 (36,⟨.type "dict",none,.dict #[en P "__module__" 214 (.str "stillflow.errors" 187),en P "__firstlineno__" 218 (.int 4 217),en P "__static_attributes__" 219 (.ref 35),en P "__doc__" 220 .none] 2,#[]⟩),
 (37,O0 "NoWorld" 37 36 28 207 215 [(.ref 24)] [(.ref 24)] []),
 (48,⟨.type "dict",none,.dict #[en P "__module__" 230 (.str "stillflow.errors" 187),en P "__firstlineno__" 234 (.int 6 233),en P "__static_attributes__" 235 (.ref 47),en P "__doc__" 236 .none] 2,#[]⟩),
 (49,O0 "NoPlan" 49 48 40 223 231 [(.ref 24)] [(.ref 24)] []),
 (60,⟨.type "dict",none,.dict #[en P "__module__" 246 (.str "stillflow.errors" 187),en P "__firstlineno__" 250 (.int 8 249),en P "__static_attributes__" 251 (.ref 59),en P "__doc__" 252 .none] 2,#[]⟩),
 (61,O0 "NoPlace" 61 60 52 239 247 [(.ref 24)] [(.ref 24)] []),
 (69,gc "is_whole" 261 13 3 64 65 0 66 67 68 267),
 (70,fo "is_whole" (top 8) kf 69),
 (76,gc "is_number" 270 17 2 71 72 0 73 74 75 275),
 (77,fo "is_number" (top 9) kf 76),
 (83,gc "is_long" 278 19 3 78 79 0 80 81 82 284),
 (84,fo "is_long" (top 10) kf 83),
 (88,gc "are_likes" 287 21 2 85 86 0 0 0 87 290),
 (89,fo "are_likes" (top 11) kf 88),
 (95,gc "is_end" 293 27 2 90 91 0 92 93 94 298),
 (96,fo "is_end" (top 12) kf 95),
 (102,gc "is_way" 301 29 3 97 98 0 99 100 101 307),
 (103,fo "is_way" (top 13) kf 102),
 (107,gc "are_parts" 310 33 3 104 105 0 0 0 106 313),
 (108,fo "are_parts" (top 14) kf 107),
 (112,gc "liked_pairs" 316 41 1 109 110 0 0 0 111 319),
 (113,fo "liked_pairs" (top 15) kf 112),
 (117,gc "is_world" 322 46 1 114 115 0 0 0 116 325),
 (118,fo "is_world" (top 16) kf 117),
 (122,gc "through" 328 53 4 119 120 0 0 0 121 331),
 (123,fo "through" (top 17) kf 122),
 (127,gc "keeps_amounts" 334 55 3 124 125 0 0 0 126 337),
 (128,fo "keeps_amounts" (top 18) kf 127),
 (132,gc "is_plan" 340 57 2 129 130 0 0 0 131 343),
 (133,fo "is_plan" (top 19) kf 132),
 (139,gc "check_world" 346 64 1 134 135 0 136 137 138 350),
 (140,fo "check_world" (top 20) kf 139),
 (146,gc "check_plan" 353 67 2 141 142 0 143 144 145 358),
 (147,fo "check_plan" (top 21) kf 146),
 (153,gc "check_whole" 361 71 3 148 149 0 150 151 152 367),
 (154,fo "check_whole" (top 22) kf 153),
 (160,gc "check_number" 370 74 2 155 156 0 157 158 159 375),
 (161,fo "check_number" (top 23) kf 160),
 (167,gc "replaced" 378 76 3 162 163 0 164 165 166 384),
 (168,fo "replaced" (top 24) kf 167),
 (172,gc "ways_of" 389 79 3 169 170 0 0 0 171 392),
 (173,fo "ways_of" (top 26) Dx 172),
 (177,gc "wants_more" 395 84 4 174 175 0 0 0 176 398),
 (178,fo "wants_more" (top 27) Dx 177),
 (184,gc "why_kept" 401 91 3 179 180 0 181 182 183 407),
 (185,fo "why_kept" (top 28) Dx 184),
 (191,gc "first_leaving" 410 99 2 186 187 0 188 189 190 416),
 (192,fo "first_leaving" (top 29) Dx 191),
 (198,gc "is_still" 419 104 2 193 194 0 195 196 197 424),
 (199,fo "is_still" (top 30) Dx 198),
 (203,gc "leaving" 427 106 2 200 201 0 0 0 202 430),
 (204,fo "leaving" (top 31) Dx 203),
 (208,gc "least_liked_used" 435 110 4 205 206 0 0 0 207 438),
 (209,fo "least_liked_used" (top 33) G8 208),
 (215,gc "pushed_on" 441 112 3 210 211 0 212 213 214 451),
 (216,fo "pushed_on" (top 34) G8 215),
 (222,gc "pushed" 454 120 3 217 218 0 219 220 221 460),
 (223,fo "pushed" (top 35) G8 222),
 (229,gc "walk" 463 126 2 224 225 0 226 227 228 472),
 (230,fo "walk" (top 36) G8 229),
 (236,gc "comes_to_rest" 475 139 2 231 232 0 233 234 235 480),
 (237,fo "comes_to_rest" (top 37) G8 236),
 (243,gc "_law_cell" 485 142 2 238 239 0 240 241 242 490),
 (244,fo "_law_cell" (top 39) kc 243),
 (250,gc "_law_drawn" 493 146 3 245 246 0 247 248 249 500),
 (251,fo "_law_drawn" (top 40) kc 250),
 (257,gc "_law_orders" 503 150 3 252 253 0 254 255 256 515),
 (258,fo "_law_orders" (top 41) kc 257),
 (262,gc "_law_world" 518 158 3 259 260 0 0 0 261 521),
 (263,fo "_law_world" (top 42) kc 262),
 (267,gc "_law_used" 524 174 4 264 265 0 0 0 266 527),
 (268,fo "_law_used" (top 43) kc 267),
 (274,gc "_law_fits" 530 176 2 269 270 0 271 272 273 538),
 (275,fo "_law_fits" (top 44) kc 274),
 (281,gc "_law_plan" 541 182 3 276 277 0 278 279 280 552),
 (282,fo "_law_plan" (top 45) kc 281),
 (288,gc "_law_wants" 555 189 5 283 284 0 285 286 287 566),
 (289,fo "_law_wants" (top 46) kc 288),
 (295,gc "_law_why" 569 197 3 290 291 0 292 293 294 578),
 (296,fo "_law_why" (top 47) kc 295),
 (300,gc "_law_rests" 581 204 2 297 298 0 0 0 299 584),
 (301,fo "_law_rests" (top 48) kc 300),
 (305,gc "_law_gone" 587 206 2 302 303 0 0 0 304 590),
 (306,fo "_law_gone" (top 49) kc 305),
 (312,gc "_law_less" 593 208 4 307 308 0 309 310 311 603),
 (313,fo "_law_less" (top 50) kc 312),
 (319,gc "_law_push" 606 216 3 314 315 0 316 317 318 616),
 (320,fo "_law_push" (top 51) kc 319),
 (326,gc "_law_walked" 619 220 2 321 322 0 323 324 325 626),
 (327,fo "_law_walked" (top 52) kc 326),
 (333,gc "_law_refused" 629 228 1 328 329 0 330 331 332 634),
 (334,fo "_law_refused" (top 53) kc 333),
 (340,gc "_law_told" 637 233 4 335 336 0 337 338 339 645),
 (341,fo "_law_told" (top 54) kc 340),
 (345,gc "law" 648 240 1 342 343 0 0 0 344 651),
 (346,fo "law" (top 55) kc 345)]
def hk:W.Hook:=W.kmHook Kf [3,23,24,36,37,48,49,60,61,69,70,76,77,83,84,88,89,95,96,102,103,107,108,112,113,117,118,122,123,127,128,132,133,139,140,146,147,153,154,160,161,167,168,172,173,177,178,184,185,191,192,198,199,203,204,208,209,215,216,222,223,229,230,236,237,243,244,250,251,257,258,262,263,267,268,274,275,281,282,288,289,295,296,300,301,305,306,312,313,319,320,326,327,333,334,340,341,345,346] (λ_=>rfl) [170]
abbrev pp:=PySem.Challenge.pw_stillflow_k43_walks
abbrev A0:Acc:=⟨64,255,.str "stillflow.errors" 187,[],[],[]⟩
abbrev ks:List Nat:=[2,3,3,1,1,1,0,1,1,0,0,0,0,0,0,1,1,1,1,1,2,0,0,1,1,1,0,2,0,1,1,1,1,2,1,1,1,0,0,1,1,1,1,0,0,1,1,1,1,1,0]
abbrev cs(w:World):Shared:=Sc pp w 835 5
abbrev sa(w:World)(m:Nat):Shared:=SA pp w 835 5 A0 ks m
def o0(w:World):fencedOpening treeTable pp w 6000=some (S0 pp w):=by kernel_rfl
def o1(w:World):((S0 pp w).heap.isNs mainGlobals&&(S0 pp w).gens.size == 0,(S0 pp w).heap.objs.size,(S0 pp w).heap.nsMap mainGlobals "__annotations__")=(true,11,some (.ref 6)):=by kernel_rfl
def o2(w:World):topGo treeTable pp w 11 (some (.ref 6)) 12 (S0 pp w) (topStub pp)=some (Sb pp w,⟨denote treeTable (.body (yp pp) (GX pp)),ze pp,default,HP⟩):=by kernel_rfl
def o3(w:World):segRun treeTable pp w 11 (some (.ref 6)) 1 1 (Sb pp w) (blockOf (yp pp) (GX pp) (ze pp) default HP)=some (.next,Sb pp w,ze pp,GI pp 0):=by kernel_rfl
def q0(w:World):NG pp w 835 0 5 (Sb pp w)=some (.next,cs w,ze pp,GI pp 5):=by kernel_rfl
def q1(w:World):cs w=sa w 0:=by kernel_rfl
def r0(w:World):NG pp w 858 5 38 (sa w 0)=some (.next,sa w 33,ze pp,GI pp 38):=by kernel_rfl
def r1(w:World):NG pp w 543 38 56 (sa w 33)=some (.next,sa w 51,ze pp,GI pp 56):=by kernel_rfl
abbrev fs(w:World):Shared:=sa w 51
def q2(w:World):topRun treeTable pp w 11 (some (.ref 6)) 3 (fs w) (restOf ((yp pp).drop 56) (GX pp) (ze pp) (GI pp 56) HP)=some (fs w):=by kernel_rfl
def rl(w:World):topRun treeTable pp w 11 (some (.ref 6)) (12+(1+(835+(858+(543+3))))) (S0 pp w) (topStub pp)=some (fs w):=Md (o2 w) (o3 w) (Qf (i:=0) (q0 w) (by decide) (by rw[q1 w];exact (Qf (r0 w) (by decide) (Qf (r1 w) (by decide) (q2 w)))))
abbrev sn(w:World):=openSeen vw [] (importedModules pp.main.body) (λs=>xlAt vw [] s&&recOk [] s) true (fs w)
abbrev gd:=openGood vw []
def l0(w:World):(staticsOk (importedModules pp.main.body) (S0 pp w).heap (fs w).heap&&namesBound pp (fs w).heap&&gensDone (fs w)&&laidKept (S0 pp w).heap (fs w).heap)=true:=by kernel_rfl
def Q2(w:World):(sn w).1=gd.1:=by kernel_rfl
def Re(w:World):(sn w).2.1=gd.2.1:=by kernel_rfl
def Rm(w:World):(sn w).2.2.1=gd.2.2.1:=by kernel_rfl
def Rp(w:World):(sn w).2.2.2.1=gd.2.2.2.1:=by kernel_rfl
def Q5(w:World):(sn w).2.2.2.2.1=gd.2.2.2.2.1:=by kernel_rfl
def Rq(w:World):(sn w).2.2.2.2.2.1=gd.2.2.2.2.2.1:=by kernel_rfl
def RE(w:World):(sn w).2.2.2.2.2.2=gd.2.2.2.2.2.2:=by kernel_rfl
def Rj(w:World):hk.obs (fs w)=hk.val w:=by kernel_rfl
def left:LeftO pp vw [] (λs=>xlAt vw [] s&&recOk [] s) hk.obs hk.val 6000:=IU o0 o1 rl (by decide) l0 (λw=>Prod.ext (Q2 w) (Prod.ext (Re w) (Prod.ext (Rm w) (Prod.ext (Rp w) (Prod.ext (Q5 w) (Prod.ext (Rq w) (RE w))))))) Rj
def Pv:PySem.Challenge.rw_stillflow_k43_walks.wellSaid=true:=by kernel_rfl
end K43
namespace L2
open PySem PySem.Spec PyProof.Rows
abbrev nF:=Sum Int Str
def BH:nF->Value->Bool
 | .inl k,v=>Value.isInt k v
 | .inr x,v=>Value.isStrOf x v
def QC(w:World):nF->Int
 | .inl k=>hashInt k
 | .inr x=>hashStr w x
def bW:∀ {k:nF}{v:Value},BH k v=true->(∃i t,k=Sum.inl i/\v=Value.int i t)\/(∃x t,k=Sum.inr x/\v=Value.str x t)
 | .inl i,v,h=>by
  let⟨t,e⟩:=Value.isInt_shape (k:=i) (v:=v) h;exact .inl ⟨i,t,rfl,e⟩
 | .inr x,v,h=>by
  let⟨t,e⟩:=Value.isStrOf_shape (x:=x) (v:=v) h;exact .inr ⟨x,t,rfl,e⟩
def Ci(i:Int)(t:Tok):BH (.inl i) (.int i t)=true:=by simp[BH,Value.isInt]
def MJ(a b:Int):decide ((Sum.inl a:nF)=Sum.inl b)=(a == b):=by
 by_cases e:a=b
 ·subst e;simp
 ·have h:¬ (Sum.inl a:nF)=Sum.inl b:=λq=>e (Sum.inl.inj q);rw[zZ h];exact (beq_eq_false_iff_ne.mpr e).symm
def MM(a b:Str):decide ((Sum.inr a:nF)=Sum.inr b)=decide (a=b):=by
 by_cases e:a=b
 ·subst e;simp
 ·have h:¬ (Sum.inr a:nF)=Sum.inr b:=λq=>e (Sum.inr.inj q);rw[zZ h,zZ e]
def Lg(a:Int)(b:Str):decide ((Sum.inl a:nF)=Sum.inr b)=false:=zZ (λq=>nomatch q)
def Lm(a:Str)(b:Int):decide ((Sum.inr a:nF)=Sum.inl b)=false:=zZ (λq=>nomatch q)
def my(prog:Program)(w:World):PySem.KeyKind prog w nF where
 is:=BH
 hash:=QC w
 inj:=λv a b ha hb=>by
  rcases bW ha with ⟨i,t,rfl,rfl⟩|⟨x,t,rfl,rfl⟩
  ·rcases bW hb with ⟨j,u,rfl,e⟩|⟨y,u,rfl,e⟩
   ·injection e with e1 _;rw[e1]
   ·exact nomatch e
  ·rcases bW hb with ⟨j,u,rfl,e⟩|⟨y,u,rfl,e⟩
   ·exact nomatch e
   ·injection e with e1 _;rw[e1]
 byValue:=λk v h=>by
  rcases bW h with ⟨i,t,rfl,rfl⟩|⟨x,t,rfl,rfl⟩<;>rfl
 pyHash:=λhv h=>by
  rcases bW hv with ⟨i,t,rfl,rfl⟩|⟨x,t,rfl,rfl⟩
  ·exact wpAny_pyHash_int h
  ·exact wpAny_pyHash_str h
 eqBool:=λhu hv h=>by
  rcases bW hu with ⟨i,t,rfl,rfl⟩|⟨x,t,rfl,rfl⟩
  ·rcases bW hv with ⟨j,u,rfl,rfl⟩|⟨y,u,rfl,rfl⟩
   ·rw[MJ] at h;exact wpAny_eqBool_int h
   ·rw[Lg] at h;exact SeqAt.EqAt.int_str i t y u _ _ _ _ h
  ·rcases bW hv with ⟨j,u,rfl,rfl⟩|⟨y,u,rfl,rfl⟩
   ·rw[Lm] at h;exact SeqAt.EqAt.str_int x t j u _ _ _ _ h
   ·rw[MM] at h;exact wpAny_eqBool_str h
 «strs»:=λk x t v h=>by
  rcases bW h with ⟨i,u,rfl,e⟩|⟨y,u,rfl,e⟩
  ·exact nomatch e
  ·injection e with e1 _
   subst e1;cases v<;>rfl
def uT(prog:Program)(w:World)(i:Int)(t:Tok):(my prog w).is (.inl i) (.int i t)=true:=Ci i t
inductive V where
 | RK|bl (b:Bool)|int (i:Int)|str (x:Str)|Vd (b:Array UInt8)|Yq (b:UInt64)|ref (a:Addr)|ty (n:String)
 deriving DecidableEq
def RelV:V->Value->Prop
 | .RK,u=>u=Value.none
 | .bl b,u=>u=Value.bool b
 | .int i,u=>∃t,u=Value.int i t
 | .str x,u=>∃t,u=Value.str x t
 | .Vd b,u=>∃t,u=Value.bytes b t
 | .Yq b,u=>∃t,u=Value.float b t
 | .ref a,u=>u=Value.ref a
 | .ty n,u=>u=Value.type n
abbrev aL:List V->List Value->Prop:=Paired RelV
def aL.length(r:aL xs us):xs.length=us.length:=Paired.length r
def aL.get:∀ {xs:List V}{us:List Value}{i:Nat}{x:V},aL xs us->xs[i]?=some x->∃u,us[i]?=some u/\RelV x u
 | _,_,_,_,.nil,e=>by simp at e
 | _,_,0,_,.cons r _,e=>by simp at e;subst e;exact⟨_,rfl,r⟩
 | _,_,i+1,x,.cons _ t,e=>by
  let⟨u,h1,h2⟩:=aL.get (i:=i) (x:=x) t (by simpa using e);exact⟨u,by simpa using h1,h2⟩
def aL.set(r:RelV x u):∀ {xs:List V}{us:List Value}(i:Nat),aL xs us->aL (xs.set i x) (us.set i u)
 | _,_,_,.nil=>.nil
 | _,_,0,.cons _ t=>.cons r t
 | _,_,i+1,.cons q t=>.cons q (aL.set r i t)
def aL.append:∀ {xs ys:List V}{us ws:List Value},aL xs us->aL ys ws->aL (xs++ys) (us++ws)
 | _,_,_,_,.nil,s=>s
 | _,_,_,_,.cons r t,s=>.cons r (aL.append t s)
def aL.take:∀ {xs:List V}{us:List Value}(n:Nat),aL xs us->aL (xs.take n) (us.take n)
 | _,_,0,_=>.nil
 | _,_,_+1,.nil=>.nil
 | _,_,n+1,.cons r t=>.cons r (aL.take n t)
def aL.drop:∀ {xs:List V}{us:List Value}(n:Nat),aL xs us->aL (xs.drop n) (us.drop n)
 | _,_,0,r=>r
 | _,_,_+1,.nil=>.nil
 | _,_,n+1,.cons _ t=>aL.drop n t
def ON:Option V->Option Value->Prop
 | some v,some u=>RelV v u
 | none,none=>True
 | _,_=>False
def KV:List (κ×V)->List (κ×Value)->Prop:=Paired λ(p:κ×V) (q:κ×Value)=>p.1=q.1/\RelV p.2 q.2
def kV:nF->V
 | .inl i=>.int i
 | .inr x=>.str x
inductive HO where
  | lst (xs:List V)
  | tup (xs:List V)
  | dK (R5:List (nF×V))|dT (xs:List (List nF×Addr×Value))
  | set (S:Int->Bool) (n:Nat)
  | ins (C dx:Addr) (fs:List (Str×V))
  | own (x:Addr)
  | xd (fs:List (Str×V))
  | met (f x:Addr)
  | XU (lo hi:Int)
  | Sy (o:Obj) (u:HO)
  | tab (q:Str)
 | Ue (q:Str)
  | ext (φ:Heap->Prop)
abbrev Hp:=Addr->Option HO
def upd(H:Hp)(a:Addr)(o:HO):Hp:=λb=>if b=a then some o else H b
def aG:upd H a o a=some o:=by unfold upd;rw[yK rfl]
def aC(h:b≠a):upd H a o b=H b:=by unfold upd;rw[yM h]
def aM{H:Hp}{a b:Addr}{o:HO}(h:H a=some o)(h':H b=none):a≠b:=by
 intro e;subst e;rw[h] at h';cases h'
def ow(h:Heap)(a:Addr)(its:Array Value):Prop:=IsTup h a its/\∃o,h.get? a=some o/\o.dict=none
def ow.new(h:Heap)(its:Array Value):ow (h.push { cls:=.type "tuple",data:=.seq its }) h.objs.size its:=⟨IsTup.new _ _,_,zX _ rfl,rfl⟩
section
variable (P:Program) (w:World)
def dS(H:Hp)(h:Heap)(a:Addr):HO->Prop
 | .lst xs=>xs.length<=sizeLine/\∃ (its:List Value) (n:Nat),aL xs its/\h.get? a=some { cls:=.type "list",data:=.seq its.toArray n }
 | .tup xs=>xs.length<=sizeLine/\∃its:List Value,aL xs its/\ow h a its.toArray
 | .dK R5=>R5.length<=sizeLine/\(a == sysModules)=false/\∃vs,KV R5 vs/\h.DictOf (my P w) a vs
 | .dT xs=>xs.length<=sizeLine/\(a == sysModules)=false /\
   ∃o es ep,h.get? a=some o/\o.ExactDict/\o.data=.dict es ep/\es.toList=xs.map (entryOfKey (tupleKind (my P w)))/\(xs.map (·.1)).Nodup
 | .set S n=>h.SetOf (intKind P w) a S n
 | .ins C dx fs=>H dx=some (.own a)/\fs.length<=1000/\dx≠a/\h.get? a=some (W.instObj C dx) /\
   ∃mA,h.Ns1 dx mA/\(∀f,ON (fs.lookup f) (mA f))/\PySem.Within mA (fs.map (·.1))
 | .own _=>∃o,h.get? a=some o
 | .xd fs=>∃mA,h.Ns1 a mA/\∀f,ON (fs.lookup f) (mA f)
 | .XU lo hi=>∃t u v,h.get? a=some { cls:=.type "range",data:=.fields #[.int lo t,.int hi u,.int 1 v] }
 | .Sy o u=>h.get? a=some o/\dS H h a u
 | .tab q=>∃ps:Array Value,h.get? a=some { cls:=.none,data:=.fields ps }/\TriplesOk ps.toList/\∀pos v,codeAmong pos ps.toList=some v->∃c,v=.ref c/\H c=some (.Ue q)
 | .Ue q=>h.CodeRec (.ref a) q
 | .met f x=>h.get? a=some (W.methodObj (.ref f) (.ref x))
 | .ext φ=>φ h/\(∃o,h.get? a=some o)/\∀h1 h2:Heap,φ h1->(∀o,h1.get? a=some o->h2.get? a=some o)->φ h2
def mV(H:Hp)(h:Heap):Prop:=∀a o,H a=some o->dS P w H h a o
end
def dS.lt(x:dS P w H h a o):a < h.objs.size:=by
 cases o with
 | lst xs=>let⟨_,_,_,_,e⟩:=x;exact zY e
 | tup xs=>let⟨_,_,_,p⟩:=x;exact p.1.lt
 | dK R5=>let⟨_,_,_,_,o,_,_,e,_⟩:=x;exact zY e
 | dT R5=>let⟨_,_,o,_,_,e,_⟩:=x;exact zY e
 | set S n=>let⟨o,_,_,_,e,_⟩:=x;exact zY e
 | ins C dx fs=>let⟨_,_,_,e,_⟩:=x;exact zY e
 | own y=>let⟨_,e⟩:=x;exact zY e
 | xd fs=>let⟨_,⟨_,_,_,e,_⟩,_⟩:=x;exact zY e
 | XU lo hi=>let⟨_,_,_,e⟩:=x;exact zY e
 | Sy ob u=>let⟨e,_⟩:=x;exact zY e
 | tab q=>let⟨_,e,_⟩:=x;exact zY e
 | Ue q=>let⟨_,_,_,_,e0,e,_⟩:=x;cases e0;exact zY e
 | met f y=>exact zY (show h.get? a=some _ from x)
 | ext φ=>let⟨_,⟨_,e⟩,_⟩:=x;exact zY e
def Paired.WN:∀ {WO:List α}{WQ:List β},Paired F WO WQ->(∀a b,F a b->G a b)->Paired G WO WQ
 | _,_,.nil,_=>.nil
 | _,_,.cons r t,f=>.cons (f _ _ r) (Paired.WN t f)
def QX:HO->Prop
 | .tup _=>True
 | .Ue _=>True
 | _=>False
def dS.Sd(x:dS P w H h a o)(k:∀b u,(b=a\/H b=some (.own a))->h.get? b=some u->h'.get? b=some u)
  (ho:∀b,H b=some (.own a)->H' b=some (.own a)) (ht:∀b u,H b=some u->QX u->H' b=some u):dS P w H' h' a o:=by
 induction o with
 | lst xs=>let⟨z,its,n,r,e⟩:=x;exact⟨z,its,n,r,k _ _ (.inl rfl) e⟩
 | tup xs=>let⟨z,its,r,⟨ob,e,c⟩,o2,e2,d2⟩:=x;exact⟨z,its,r,⟨ob,k _ _ (.inl rfl) e,c⟩,o2,k _ _ (.inl rfl) e2,d2⟩
 | dK R5=>let⟨z,y,vs,r,ob,es,ep,e,c⟩:=x;exact⟨z,y,vs,r,ob,es,ep,k _ _ (.inl rfl) e,c⟩
 | dT R5 =>
  let⟨z,y,ob,es,ep,e,c⟩:=x;exact⟨z,y,ob,es,ep,k _ _ (.inl rfl) e,c⟩
 | set S n=>let⟨ob,es,ep,t,e,c⟩:=x;exact⟨ob,es,ep,t,k _ _ (.inl rfl) e,c⟩
 | ins C dx fs =>
  let⟨d,z,ne,e,mA,⟨od,es,ep,e2,c⟩,r⟩:=x;exact⟨ho _ d,z,ne,k _ _ (.inl rfl) e,mA,⟨od,es,ep,k _ _ (.inr d) e2,c⟩,r⟩
 | own y=>let⟨ob,e⟩:=x;exact⟨ob,k _ _ (.inl rfl) e⟩
 | xd fs=>let⟨mA,⟨od,es,ep,e,c⟩,r⟩:=x;exact⟨mA,⟨od,es,ep,k _ _ (.inl rfl) e,c⟩,r⟩
 | XU lo hi=>let⟨t,u,v,e⟩:=x;exact⟨t,u,v,k _ _ (.inl rfl) e⟩
 | Sy ob u ih=>let⟨e,q⟩:=x;exact⟨k _ _ (.inl rfl) e,ih q⟩
 | tab q=>let⟨ps,e,t,c⟩:=x;exact⟨ps,k a _ (.inl rfl) e,t,λpos v z=>let ⟨c0,z1,z2⟩:=c pos v z;⟨c0,z1,ht _ _ z2 trivial⟩⟩
 | Ue q=>let⟨c,oc,vs,t,e0,e,r⟩:=x;cases e0;exact⟨_,oc,vs,t,rfl,k _ _ (.inl rfl) e,r⟩
 | met f y =>
  have e:h.get? a=some (W.methodObj (.ref f) (.ref y)):=x;show h'.get? a=some (W.methodObj (.ref f) (.ref y));exact k a _ (.inl rfl) e
 | ext φ=>let⟨p,⟨o,e⟩,st⟩:=x;exact⟨st _ _ p λo q=>k _ _ (.inl rfl) q,⟨o,k _ _ (.inl rfl) e⟩,st⟩
def mV.lt(x:mV P w H h)(e:H a=some o):a < h.objs.size:=(x a o e).lt
def mV.fresh(x:mV P w H h)(e:h.objs.size<=a):H a=none:=by
 cases q:H a with
 | none=>rfl
 | some u=>exact absurd (zP (x.lt q) e) (qD _)
def mV.kept(x:mV P w H h)(k:∀b u,h.get? b=some u->h'.get? b=some u):mV P w H h':=λa o e =>
 (x a o e).Sd (λb u _ q=>k b u q) (λ_ q=>q) λ_ _ q _=>q
def mV.laid(x:mV P w H h)(k:∀b u,h.get? b=some u->h'.get? b=some u)(hp:h.objs.size<=a)(new:dS P w (upd H a o) h' a o):mV P w (upd H a o) h':=λb u e=>by
 have hn:=x.fresh hp;by_cases hb:b=a
 ·subst hb;rw[aG] at e;cases e;exact new
 ·rw[aC hb] at e;exact (x b u e).Sd (λc v _ q=>k c v q) (λc q=>by rw[aC (aM q hn)];exact q) λc xs q _=>by rw[aC (aM q hn)];exact q
def Rd(H:Hp)(a:Addr)(u:HO):Prop:=H a=some u\/∃o,H a=some (.Sy o u)
def Rd.ok(r:Rd H a u)(x:mV P w H h):dS P w H h a u:=by
 rcases r with r|⟨o,r⟩
 ·exact x a u r
 ·let⟨_,q⟩:=x a _ r;exact q
def NU:Option HO->Prop
 | some (.lst _)=>True
 | some (.dK _)=>True
 | some (.dT _)=>True
 | some (.set _ _)=>True
 | some (.ins _ _ _)=>True
 | some (.ext _)=>True
 | _=>False
def mV.write(ok:mV P w H h)(mu:NU (H x))(he:e=x\/H e=some (.own x))(k:∀b u,b≠e->h.get? b=some u->h'.get? b=some u)(Wu:∃u,h'.get? e=some u)
  (new:dS P w (upd H x o') h' x o'):mV P w (upd H x o') h':=λb u q=>by
 have WR:∀c y,H c=some (.own y)->c≠x:=λc y r z=>by subst z;rw[r] at mu;exact mu
 have Yr:∀c u,H c=some u->QX u->c≠x:=λc u r hr z=>by subst z;rw[r] at mu;cases u<;>first|exact mu|exact hr
 by_cases hb:b=x
 ·subst hb;rw[aG] at q;cases q;exact new
 ·rw[aC hb] at q;by_cases VR:b=e
  ·have q':H b=some (.own x):=by
    rcases he with z|z
    ·exact absurd (VR.trans z) hb
    ·rw[VR];exact z
   rw[q] at q';cases q';let⟨v,hv⟩:=Wu;exact⟨v,by rw[VR];exact hv⟩
  ·refine (ok b u q).Sd (λc v hc r=>k c v ?_ r) (λc r=>by rw[aC (WR c b r)];exact r) λc xs r hr=>by rw[aC (Yr c xs r hr)];exact r
   rcases hc with rfl|hc
   ·exact VR
   ·rintro rfl;rcases he with z|z
    ·exact WR c b hc z
    ·rw[hc] at z;cases z;exact hb rfl
def O4:HO->Prop
 | .tab _=>True
 | .Ue _=>True
 | _=>False
def O4.Ve(h:O4 u):¬ NU (some u):=by cases u<;>first|exactλz=>z|exact h.elim
structure Kd(H H':Hp)(h h':Heap):Prop where
 st:∀b u,H b=some u->O4 u->H' b=some u
 gr:∀b q ps,H b=some (.tab q)->h.get? b=some { cls:=.none,data:=.fields ps }->∃more:Array Value,h'.get? b=some { cls:=.none,data:=.fields (ps++more) }
def Kd.kept(k:∀b u,(∃q,H b=some (.tab q))->h.get? b=some u->h'.get? b=some u)(st:∀b u,H b=some u->O4 u->H' b=some u):Kd H H' h h' :=
 ⟨st,λb q ps e z=>⟨#[],by rw[Array.append_empty];exact k b _ ⟨q,e⟩ z⟩⟩
def Kd.trans(a:Kd H H1 h h1)(b:Kd H1 H2 h1 h2):Kd H H2 h h2 :=
 ⟨λc u q t=>b.st c u (a.st c u q t) t,λc q ps e z=>by
  let⟨m1,z1⟩:=a.gr c q ps e z;let⟨m2,z2⟩:=b.gr c q _ (a.st c _ e trivial) z1;exact⟨m1++m2,by rw[z2,Array.append_assoc]⟩⟩
structure Un(fs ex:List Addr)(H H':Hp)(h h':Heap):Prop where
 keep:∀b o,h.get? b=some o->H b=none->b∉fs->b∉ex->h'.get? b=some o
 slot:∀b o,h.get? b=some o->H b=none->b∈fs->b∉ex->∃sl,h'.get? b=some { o with slots:=sl }
 free:∀b o,h.get? b=some o->H b=none->b∉ex->H' b=none
 there:∀b o,h.get? b=some o->b∉ex->∃o',h'.get? b=some o'
 SK:∀b xs,H b=some (.tup xs)->H' b=some (.tup xs)
 Sz:∀b o u,H b=some (.Sy o u)->H' b=some (.Sy o u)
 Sr:Kd H H' h h'
def Un.any(u:Un fs ex H H1 h h1)(q:h.get? b=some ob)(n:H b=none)(hx:b∉ex):∃sl,h1.get? b=some { ob with slots:=sl }:=by
 by_cases hb:b∈fs
 ·exact u.slot b ob q n hb hx
 ·exact⟨ob.slots,u.keep b ob q n hb hx⟩
def Un.kept(k:∀b u,h.get? b=some u->h'.get? b=some u):Un fs ex H H h h' :=
 ⟨λb ob q _ _ _=>k b ob q,λb ob q _ _ _=>⟨ob.slots,k b ob q⟩,λ_ _ _ n _=>n,λb ob q _=>⟨ob,k b ob q⟩,λ_ _ q=>q,λ_ _ _ q=>q,.kept (λb u _ e=>k b u e) λ_ _ e _=>e⟩
def Un.refl:Un fs ex H H h h:=Un.kept λ_ _ q=>q
def Un.laid(k:∀b u,h.get? b=some u->h'.get? b=some u)(hp:h.objs.size<=a)(hn:H a=none):Un fs ex H (upd H a o) h h' where
 keep:=λb u q _ _ _=>k b u q
 slot:=λb u q _ _ _=>⟨u.slots,k b u q⟩
 free:=λb u q n _=>by rw[aC (yQ (zP (zY q) hp))];exact n
 there:=λb u q _=>⟨u,k b u q⟩
 SK:=λb xs q=>by rw[aC (aM q hn)];exact q
 Sz:=λb u xs q=>by rw[aC (aM q hn)];exact q
 Sr:=.kept (λb u _ e=>k b u e) λb u q _=>by rw[aC (aM q hn)];exact q
def Un.write(mu:NU (H x))(he:e=x\/H e=some (.own x))(k:∀b u,b≠e->h.get? b=some u->h'.get? b=some u)(Wu:∃u,h'.get? e=some u):Un fs ex H (upd H x o) h h':=by
 have hx:∀b,H b=none->b≠x:=λb n z=>by subst z;rw[n] at mu;exact mu
 have hb:∀b,H b=none->b≠e:=λb n z=>by
  subst z;rcases he with r|r
  ·exact hx b n r
  ·rw[n] at r;cases r
 have hm:∀b u,H b=some u->¬ NU (some u)->b≠x:=λb u q nm z=>by subst z;rw[q] at mu;exact nm mu
 refine⟨λb u q n _ _=>k b u (hb b n) q,λb u q n _ _=>⟨u.slots,k b u (hb b n) q⟩,λb u q n _=>by rw[aC (hx b n)];exact n,λb u q _=>?_,
  λb xs q=>by rw[aC (hm b _ q λz=>z)];exact q,λb u xs q=>by rw[aC (hm b _ q λz=>z)];exact q,.kept (λb u z e=>k b u (λr=>by subst r;rcases he with r|r<;>first|(subst r;rcases z with ⟨q,z⟩;rw[z] at mu;exact mu)|(rcases z with ⟨q,z⟩;rw[z] at r;cases r)) e) λb u q nm=>by rw[aC (hm b _ q (nm.Ve))];exact q⟩
 by_cases VR:b=e
 ·subst VR;exact Wu
 ·exact⟨u,k b u VR q⟩
def G7(h:Heap)(H:Hp):List Addr:=(List.range h.objs.size).filter λa=>(H a).isSome
def ud(h:Heap)(H:Hp):Heap:=W.hideAll h (G7 h H)
def B6(h:Heap)(H:Hp):(ud h H).objs.size=h.objs.size:=W.hideAll_size _ _
def Ff(e:h.get? b=some o)(n:H b=none):(ud h H).get? b=some o :=
 W.hideAll_get _ e λhm=>by
  have q:(H b).isSome=true:=(List.mem_filter.mp hm).2;rw[n] at q;simp at q
def JO(e:(ud h H).get? b=some o):h.get? b=some o/\H b=none:=by
 have e':h.get? b=some o:=W.of_hideAll (G7 h H) e;refine⟨e',?_⟩;cases q:H b with
 | none=>rfl
 | some x =>
  have hm:b∈G7 h H:=List.mem_filter.mpr ⟨List.mem_range.mpr (zY e'),by simp[q]⟩;have z:(ud h H).get? b=none:=W.hideAll_none (G7 h H) hm;rw[z] at e;cases e
def O3(mg:Str->Option Value)(base:Heap):Prop:=∃bm o,mg "__builtins__"=some (.ref bm)/\bm≠builtinsNs/\bm≠mainGlobals/\base.get? bm=some o/\o.cls=.type "module"/\o.dict=some builtinsNs/\o.data=.plain
structure Mod(K:W.Frag)(mg:Str->Option Value)(base:Heap):Prop where
 VS:K.In base
 glob:base.Ns mainGlobals mg
 blt:∃mb,base.Ns builtinsNs mb/\∀x:Str,x≠"__name__"->mb x=bootBuiltins x
 nolimit:base.NoLimit
 bmd:O3 mg base
structure Cx where
 prog:Program
 w:World
 K:W.Frag
 mg:Str->Option Value
 base:Heap
 A:Around
 N:List Str
 RT:Shared
 RM:Hp
 env:Env
 outer:List Env
 stack:List Env
 ex:List Addr
 fn:Str->Bool
 calm:Bool
 pn:List (Addr×Obj)
 xe:Value->Shared->Prop
def gO(l:List Env):List Addr:=l.filterMap (·.frame)
abbrev Cx.fs(X:Cx):List Addr:=gO X.outer
def AS(sc:Scope)(x:Str):Prop:=sc.names.lookup x=some .local \/ sc.names.lookup x=some .cell\/sc.names.lookup x=some .free
def Loc(sc:Scope)(x:Str):Prop:=sc.names.lookup x=some .local \/ sc.names.lookup x=some .cell
def Look(env:Env)(h:Heap)(m:Str->Option Value)(x:Str)(u:Value):Prop :=
 (env.kindOf x=some .local /\ m x=some u)\/((env.kindOf x=some .cell\/env.kindOf x=some .free)/\∃c,env.cells.lookup x=some c/\h.IsCell c (some u))
structure Cx.Ok(X:Cx):Prop where
 mod:Mod X.K X.mg X.base
 kind:X.env.scope.kind=.function
 glob:X.env.globals=mainGlobals
 blt:X.env.builtins=builtinsNs
 above:X.RT.heap.objs.size<=X.env.locals
 inj:∀x y c,X.env.cells.lookup x=some c->X.env.cells.lookup y=some c->x=y
 has:∀x,(X.env.kindOf x=some .cell\/X.env.kindOf x=some .free)->∃c,X.env.cells.lookup x=some c
 VT:∀x c,X.fn x=true->X.env.cells.lookup x=some c->X.RT.heap.objs.size<=c
 hd:X.calm=true->X.A.handled=none
 frames:X.A.frames=some X.stack
 UL:X.stack=X.outer\/(X.stack=X.env::X.outer/\X.env.frame=some X.env.locals)
 Wv:∀b∈X.ex,b≠X.env.locals/\∀x c,X.env.cells.lookup x=some c->c≠b
 bs:∀b o,X.base.get? b=some o->X.RT.heap.get? b=some o/\X.RM b=none
 UM:X.base.objs.size<=X.RT.heap.objs.size
 Ts:∀b o,X.base.get? b=some o->b∉X.ex
 TQ:∀b∈X.ex,b∉X.fs
 SD:X.RT.heap.FunFrames X.base X.outer
 Vf:∀b∈X.fs,X.RM b=none
structure Inv(X:Cx)(pins:List (Addr×Obj))(σ:List (Option V))(H:Hp)(s:Shared):Prop where
 ok:X.Ok
 os:s.os=X.RT.os
 bare:AllBare s.gens
 base:Un X.fs X.ex X.RM H X.RT.heap s.heap
 loc:∃m,s.heap.Ns X.env.locals m/\∀ (i:Nat) (x:Str) (v:V),X.N[i]?=some x->σ[i]?=some (some v)->AS X.env.scope x->∃u,RelV v u/\Look X.env s.heap m x u
 cell:∀x c,X.env.cells.lookup x=some c->∃v,s.heap.IsCell c v
 free:H X.env.locals=none
 RU:∀x c,X.env.cells.lookup x=some c->H c=none
 pin:∀p∈X.pn++pins,s.heap.get? p.1=some p.2/\H p.1=none/\p.1≠X.env.locals/\p.1∉X.fs/\∀v,p.2.data≠.cell v
 RO:mV X.prog X.w H s.heap
 len:σ.length=X.N.length
def Cx.Ok.Ys{X:Cx}(ok:X.Ok)(e:X.base.get? b=some o):b∉X.fs:=λhb=>by
 have:=(ok.SD.mem hb).1;rw[e] at this;cases this
def Inv.bs{X:Cx}{s:Shared}(I:Inv X pins σ H s):∀b o,X.base.get? b=some o->s.heap.get? b=some o/\H b=none:=λb o e =>
 ⟨I.base.keep b o (I.ok.bs b o e).1 (I.ok.bs b o e).2 (I.ok.Ys e) (I.ok.Ts b o e),I.base.free b o (I.ok.bs b o e).1 (I.ok.bs b o e).2 (I.ok.Ts b o e)⟩
def Inv.bk(I:Inv X pins σ H s):∀b o,X.base.get? b=some o->s.heap.get? b=some o:=λb o e=>(I.bs b o e).1
def Inv.mod(I:Inv X pins σ H s):Mod X.K X.mg X.base:=I.ok.mod
def Inv.Tt(I:Inv X pins σ H s):X.K.In s.heap:=I.ok.mod.VS.keeps I.bk
def Inv.nolimit(I:Inv X pins σ H s):s.heap.NoLimit:=I.ok.mod.nolimit.keeps I.bk
def Inv.lt(I:Inv X pins σ H s):X.env.locals < s.heap.objs.size:=let ⟨_,hn,_⟩:=I.loc;hn.lt
def Inv.sz(I:Inv X pins σ H s):X.RT.heap.objs.size<=s.heap.objs.size:=yD I.ok.above (jS I.lt)
def Inv.Yt(I:Inv X pins σ H s)(h:s.heap.objs.size<=a):a∉X.fs:=λhb=>by
 let⟨_,o,ho,_⟩:=I.ok.SD.mem hb;exact absurd (zP (zY ho) (yD I.sz h)) (qD _)
def Inv.Vu(I:Inv X pins σ H s):∀x c,X.env.cells.lookup x=some c->c≠X.env.locals:=λx c e z=>by
 let⟨v,o,ho,hd⟩:=I.cell x c e;let⟨m,⟨o',es,ep,Tn,Ur,_⟩,_⟩:=I.loc;rw[z,Tn] at ho;cases ho;rw[Ur] at hd;cases hd
def Inv.SD(I:Inv X pins σ H s):s.heap.FunFrames X.base X.outer:=by
 have all:∀ (l:List Env),(∀b∈gO l,b∈X.fs)->X.RT.heap.FunFrames X.base l->s.heap.FunFrames X.base l:=by
  intro l
  induction l with
  | nil=>intro _ _;trivial
  | cons env r ih =>
   intro hs hl;let⟨hk,⟨L,o,hf,hn,ho,hd⟩,hr⟩:=hl;have hL:L∈X.fs:=hs L (by unfold gO;rw[jF,hf];exact zE);let⟨sl,e⟩:=I.base.slot L o ho (I.ok.Vf L hL) hL λz=>I.ok.TQ L z hL;exact⟨hk,⟨L,_,hf,hn,e,hd⟩,ih (λb hb=>hs b (by unfold gO;rw[jF,hf];exact zC _ hb)) hr⟩
 exact all X.outer (λ_ hb=>hb) I.ok.SD
def Inv.stack(I:Inv X pins σ H s):s.heap.FunFrames X.base X.stack:=by
 rcases I.ok.UL with e|⟨e,hf⟩
 ·rw[e];exact I.SD
 ·rw[e];let⟨m,hn,_⟩:=I.loc;refine .cons (by rw[I.ok.kind];decide) hf hn ?_ I.SD;exact Heap.get?_none_of_le (yD I.ok.UM I.ok.above)
def Inv.TR(I:Inv X pins σ H s):∀b∈gO X.stack,b∈X.env.locals::X.fs:=λb hb=>by
 rcases I.ok.UL with e|⟨e,hf⟩
 ·rw[e] at hb;exact zC _ hb
 ·rw[e] at hb;unfold gO at hb;rw[jF,hf] at hb;exact hb
def Inv.SE(I:Inv X pins σ H s):∀b∈gO X.stack,H b=none:=λb hb=>by
 rcases List.mem_cons.mp (I.TR b hb) with e|hb
 ·rw[e];exact I.free
 ·let⟨_,o,ho,_⟩:=I.ok.SD.mem hb;exact I.base.free b o ho (I.ok.Vf b hb) λz=>I.ok.TQ b z hb
def Inv.step{g':Array GenState}{t':Nat}{d':Drawn}{ch:List Addr}(I:Inv X pins σ H s)
  (To:∀b∈ch,(b∈X.ex\/X.RT.heap.objs.size<=b)/\b≠X.env.locals/\(∀x c,X.env.cells.lookup x=some c->c≠b)/\∀p∈X.pn++pins,p.1≠b)
  (keep:∀b o,b≠X.env.locals->b∉X.fs->b∉ch->s.heap.get? b=some o->H b=none->h'.get? b=some o)
  (slot:∀b o,b≠X.env.locals->b∈X.fs->b∉ch->s.heap.get? b=some o->H b=none->∃sl,h'.get? b=some { o with slots:=sl }) (free:∀b o,b∉ch->s.heap.get? b=some o->H b=none->H' b=none)
  (there:∀b o,b∉ch->s.heap.get? b=some o->∃o',h'.get? b=some o')
  (SK:∀b xs,H b=some (.tup xs)->H' b=some (.tup xs)) (Sz:∀b o u,H b=some (.Sy o u)->H' b=some (.Sy o u)) (Sr:Kd H H' s.heap h')
  (ns:∀m,s.heap.Ns X.env.locals m->h'.Ns X.env.locals m) (RO:mV X.prog X.w H' h') (hg:AllBare g') :
  Inv X pins σ H' { s with heap:=h',gens:=g',drawn:=d',toks:=t' }:=by
 have Vg:∀b o,X.RT.heap.get? b=some o->b≠X.env.locals:=λb o e=>yQ (zP (zY e) I.ok.above);have XW:∀b o,X.RT.heap.get? b=some o->b∉X.ex->b∉ch:=λb o e hx hb=>by
  rcases (To b hb).1 with z|z
  ·exact hx z
  ·exact absurd (zP (zY e) z) (qD _)
 have cellK:∀x c,X.env.cells.lookup x=some c->∀v,s.heap.IsCell c v->h'.IsCell c v:=λx c e v ⟨o,ho,hd⟩=>by
  have Us:c∉ch:=λz=>(To c z).2.2.1 x c e rfl;by_cases hc:c∈X.fs
  ·let⟨sl,q⟩:=slot c o (I.Vu x c e) hc Us ho (I.RU x c e);exact⟨_,q,hd⟩
  ·exact⟨o,keep c o (I.Vu x c e) hc Us ho (I.RU x c e),hd⟩
 refine⟨I.ok,I.os,hg,⟨λb o e n hb hx=>?_,λb o e n hb hx=>?_,λb o e n hx=>?_,λb o e hx=>?_,λb xs e=>SK b xs (I.base.SK b xs e),λb o xs e=>Sz b o xs (I.base.Sz b o xs e),I.base.Sr.trans Sr⟩,?_,λx c e=>?_,?_,λx c e=>?_,λp hp=>?_,RO,I.len⟩
 ·exact keep b o (Vg b o e) hb (XW b o e hx) (I.base.keep b o e n hb hx) (I.base.free b o e n hx)
 ·let⟨sl,e1⟩:=I.base.slot b o e n hb hx;let⟨Z6,e2⟩:=slot b _ (Vg b o e) hb (XW b o e hx) e1 (I.base.free b o e n hx);exact⟨Z6,e2⟩
 ·let⟨o',e1⟩:=I.base.there b o e hx;exact free b o' (XW b o e hx) e1 (I.base.free b o e n hx)
 ·let⟨o',e1⟩:=I.base.there b o e hx;exact there b o' (XW b o e hx) e1
 ·let⟨m,hn,hl⟩:=I.loc;refine⟨m,ns m hn,λi x v e1 e2 e3=>?_⟩;let⟨u,r,l⟩:=hl i x v e1 e2 e3;refine⟨u,r,?_⟩;rcases l with l|⟨k,c,e,z⟩
  ·exact .inl l
  ·exact .inr ⟨k,c,e,cellK x c e _ z⟩
 ·let⟨v,z⟩:=I.cell x c e;exact⟨v,cellK x c e v z⟩
 ·let⟨m,⟨o,_,_,ho,_⟩,_⟩:=I.loc;exact free _ o (λz=>(To _ z).2.1 rfl) ho I.free
 ·let⟨v,o,ho,hd⟩:=I.cell x c e;exact free c o (λz=>(To c z).2.2.1 x c e rfl) ho (I.RU x c e)
 ·let⟨e,n,ne,nf,d⟩:=I.pin p hp;have Us:p.1∉ch:=λz=>(To p.1 z).2.2.2 p hp rfl;exact⟨keep p.1 p.2 ne nf Us e n,free p.1 p.2 Us e n,ne,nf,d⟩
def Inv.un{t':Nat}(I:Inv X pins σ H s)(u:Un X.fs [] H H' s.heap h')(RO:mV X.prog X.w H' h'):Inv X pins σ H' { s with heap:=h',toks:=t' }:=by
 let⟨m,⟨o,es,ep,ho,r⟩,_⟩:=id I.loc;let⟨sl,hL⟩:=u.any ho I.free (by simp);exact I.step (g':=s.gens) (d':=s.drawn) (ch:=[]) (λ_ z=>nomatch z) (λb o _ hb _ e n=>u.keep b o e n hb (by simp)) (λb o _ hb _ e n=>u.slot b o e n hb (by simp)) (λb o _ e n=>u.free b o e n (by simp)) (λb o _ e=>u.there b o e (by simp)) u.SK u.Sz u.Sr (λm' hm=>by
  let⟨o',XX,Yu,Tn,r'⟩:=hm;rw[ho] at Tn;cases Tn;exact⟨_,XX,Yu,hL,r'⟩) RO I.bare
def Inv.call{t':Nat}{d':Drawn}{ch:List Addr}(I:Inv X pins σ H s)(u:Un (gO X.stack) ch H H' s.heap h')(RO:mV X.prog X.w H' h')(hg:AllBare g')
  (To:∀b∈ch,(b∈X.ex\/X.RT.heap.objs.size<=b)/\b≠X.env.locals/\(∀x c,X.env.cells.lookup x=some c->c≠b)/\∀p∈X.pn++pins,p.1≠b) :
  Inv X pins σ H' { s with heap:=h',gens:=g',drawn:=d',toks:=t' }:=by
 let⟨m,⟨o,es,ep,ho,r⟩,_⟩:=id I.loc;let⟨sl,hL⟩:=u.any ho I.free λz=>(To _ z).2.1 rfl;exact I.step (ch:=ch) To (λb o hL hb hc e n=>u.keep b o e n (λz=>(List.mem_cons.mp (I.TR b z)).elim hL hb) hc) (λb o _ _ hc e n=>u.any e n hc) (λb o hc e n=>u.free b o e n hc) (λb o hc e=>u.there b o e hc) u.SK u.Sz u.Sr (λm' hm=>by
  let⟨o',XX,Yu,Tn,r'⟩:=hm;rw[ho] at Tn;cases Tn;exact⟨_,XX,Yu,hL,r'⟩) RO hg
def Inv.turned{t':Nat}(I:Inv X pins σ H s)(k:∀b o,b≠it->s.heap.get? b=some o->h'.get? b=some o)(hn:H it=none)(hL:it≠X.env.locals)
  (h1:it∈X.ex\/X.RT.heap.objs.size<=it) (h2:∀x c,X.env.cells.lookup x=some c->c≠it) (h3:∀p∈X.pn++pins,p.1≠it):Inv X pins σ H { s with heap:=h',toks:=t' }:=by
 have Z7:∀b u,H b=some u->b≠it:=λb u e z=>by rw[z,hn] at e;cases e
 refine I.step (g':=s.gens) (d':=s.drawn) (ch:=[it]) (λb hb=>?_) (λb o _ _ hc e _=>k b o (λz=>hc (by simp[z])) e) (λb o _ _ hc e _=>⟨o.slots,k b o (λz=>hc (by simp[z])) e⟩) (λ_ _ _ _ n=>n)
  (λb o hc e=>⟨o,k b o (λz=>hc (by simp[z])) e⟩) (λ_ _ e=>e) (λ_ _ _ e=>e) (.kept (λb u z e=>k b u (λr=>by subst r;rcases z with ⟨q,z⟩;rw[hn] at z;cases z) e) λ_ _ e _=>e) (λm hm=>?_) (λb u e=>?_) I.bare
 ·have e:b=it:=by simpa using hb
  subst e;exact⟨h1,hL,h2,h3⟩
 ·let⟨o,es,ep,ho,r⟩:=hm;exact⟨o,es,ep,k _ o (jM hL) ho,r⟩
 ·refine (I.RO b u e).Sd (λc v hc q=>k c v ?_ q) (λ_ q=>q) λ_ _ q _=>q;rcases hc with z|z
  ·rw[z];exact Z7 b u e
  ·exact Z7 c _ z
def Inv.tok(I:Inv X pins σ H s)(t:Nat):Inv X pins σ H { s with toks:=t }:=I.un (h':=s.heap) (t':=t) Un.refl I.RO
def Inv.kept{t':Nat}(I:Inv X pins σ H s)(k:∀b u,s.heap.get? b=some u->h'.get? b=some u):Inv X pins σ H { s with heap:=h',toks:=t' }:=I.un (Un.kept k) (I.RO.kept k)
def Inv.laid{t':Nat}(I:Inv X pins σ H s)(k:∀b u,s.heap.get? b=some u->h'.get? b=some u)(hp:s.heap.objs.size<=a)(new:dS X.prog X.w (upd H a o) h' a o) :
  Inv X pins σ (upd H a o) { s with heap:=h',toks:=t' }:=I.un (Un.laid k hp (I.RO.fresh hp)) (I.RO.laid k hp new)
def Inv.write{t':Nat}(I:Inv X pins σ H s)(mu:NU (H x))(he:e=x\/H e=some (.own x))(k:∀b u,b≠e->s.heap.get? b=some u->h'.get? b=some u)(Wu:∃u,h'.get? e=some u)
  (new:dS X.prog X.w (upd H x o) h' x o):Inv X pins σ (upd H x o) { s with heap:=h',toks:=t' }:=I.un (Un.write mu he k Wu) (I.RO.write mu he k Wu new)
def Inv.Td(I:Inv X pins σ H s)(h:∀p∈pins',s.heap.get? p.1=some p.2/\H p.1=none/\p.1≠X.env.locals/\p.1∉X.fs/\∀v,p.2.data≠.cell v):Inv X pins' σ H s :=
 ⟨I.ok,I.os,I.bare,I.base,I.loc,I.cell,I.free,I.RU,λp hp=>(List.mem_append.mp hp).elim (λz=>I.pin p (qH _ z)) (h p),I.RO,I.len⟩
def u4{N:List Str}(hN:N.Nodup){i j:Nat}(a:N[i]?=some x)(b:N[j]?=some x):i=j:=by
 let⟨h1,e1⟩:=List.getElem?_eq_some_iff.mp a;let⟨h2,e2⟩:=List.getElem?_eq_some_iff.mp b;exact (List.getElem_inj hN).mp (e1.trans e2.symm)
def nG{M:Model}{A:Around}{E:Value->Shared->Prop}{i:Nat}{Q:Unit->Shared->Prop}(I:Inv X pins σ H s)(hN:X.N.Nodup)(hi:X.N[i]?=some x)(hx:Loc X.env.scope x)(r:RelV v u)
  (h:∀s',Inv X pins (σ.set i (some v)) H s'->(∃a,Heap.SameBut a s.heap s'.heap/\(a=X.env.locals\/X.env.cells.lookup x=some a))->Q () s') (hf:X.fn x=true\/X.env.scope.names.lookup x=some .local:=by first|exact .inl rfl|exact .inr rfl|assumption):wpAny M A (storeName X.env x u) Q E s:=by
 let⟨m,hn,hl⟩:=id I.loc;have Tu:(X.env.scope.kind == .class||(X.env.scope.kind == .module&&X.env.locals != X.env.globals))=false:=by rw[I.ok.kind];rfl
 have WS:i < σ.length:=by rw[I.len];exact (List.getElem?_eq_some_iff.mp hi).1
 have Vu:=I.Vu;have tracked:∀ {a:Addr}{h':Heap},(∃o,s.heap.get? a=some o/\H a=none)->Heap.SameBut a s.heap h'->mV X.prog X.w H h':=λ{a h'} ha hs b ob e=>by
  let⟨_,_,SF⟩:=ha;refine (I.RO b ob e).Sd (λc w' hc q=>(hs.2 c ?_).trans q) (λ_ q=>q) λ_ _ q _=>q;rintro rfl;rcases hc with rfl|hc
  ·rw[SF] at e;cases e
  ·rw[SF] at hc;cases hc
 rcases hx with hk|hk
 ·refine wpAny_storeName_local hk hn (λh' hn' hs=>?_) Tu;let⟨oL,_,_,hoL,_⟩:=id hn;refine h _ ⟨I.ok,I.os,I.bare,⟨λb o e n hb hx=>?_,λb o e n hb hx=>?_,I.base.free,λb o e hx=>?_,I.base.SK,I.base.Sz,I.base.Sr.trans (.kept (λb u z e=>(hs.2 b (λr=>by rcases z with ⟨q,z⟩;rw[r,I.free] at z;cases z)).trans e) λ_ _ e _=>e)⟩,⟨_,hn',λj y v' e1 e2 e3=>?_⟩,λy c e=>?_,I.free,I.RU,λp hp=>?_,tracked ⟨oL,hoL,I.free⟩ hs,by simpa using I.len⟩ ⟨_,hs,.inl rfl⟩
  ·exact (hs.2 b (yQ (zP (zY e) I.ok.above))).trans (I.base.keep b o e n hb hx)
  ·let⟨sl,e1⟩:=I.base.slot b o e n hb hx;exact⟨sl,(hs.2 b (yQ (zP (zY e) I.ok.above))).trans e1⟩
  ·let⟨o',e1⟩:=I.base.there b o e hx;exact⟨o',(hs.2 b (yQ (zP (zY e) I.ok.above))).trans e1⟩
  ·by_cases hj:j=i
   ·subst hj;rw[hi] at e1;cases e1;rw[vU WS] at e2;cases e2;exact⟨u,r,.inl ⟨hk,by simp⟩⟩
   ·rw[kY (jM hj)] at e2;let⟨u',r',q⟩:=hl j y v' e1 e2 e3;refine⟨u',r',?_⟩;rcases q with ⟨k,e⟩|⟨k,c,e,z⟩
    ·refine .inl ⟨k,?_⟩;have:y≠x:=λe=>hj (u4 hN e1 (e ▸ hi));simp[this,e]
    ·exact .inr ⟨k,c,e,z.sameBut hs (Vu y c e)⟩
  ·let⟨w',z⟩:=I.cell y c e;exact⟨w',z.sameBut hs (Vu y c e)⟩
  ·let⟨e,n,ne,nf,d⟩:=I.pin p hp;exact⟨(hs.2 p.1 ne).trans e,n,ne,nf,d⟩
 ·have U4:X.fn x=true:=by
   rcases hf with z|z
   ·exact z
   ·rw[z] at hk;cases hk
  let⟨c,hc⟩:=I.ok.has x (.inl hk);let⟨w',z⟩:=I.cell x c hc;refine wpAny_storeName_cell I.ok.kind hk hc z (λh' SS hs=>?_);let⟨oc,Z8,Yv⟩:=id z;refine h { s with heap:=h' } ⟨I.ok,I.os,I.bare,⟨λb o e n hb hx=>?_,λb o e n hb hx=>?_,I.base.free,λb o e hx=>?_,I.base.SK,I.base.Sz,I.base.Sr.trans (.kept (λb u z e=>(hs.2 b (λr=>by rcases z with ⟨q,z⟩;rw[r,I.RU x c hc] at z;cases z)).trans e) λ_ _ e _=>e)⟩,⟨m,hn.sameBut hs (jM (Vu x c hc)),λj y v' e1 e2 e3=>?_⟩,λy c' e=>?_,I.free,I.RU,λp hp=>?_,tracked ⟨oc,Z8,I.RU x c hc⟩ hs,by simpa using I.len⟩ ⟨c,hs,.inr hc⟩
  ·exact (hs.2 b (yQ (zP (zY e) (I.ok.VT x c U4 hc)))).trans (I.base.keep b o e n hb hx)
  ·let⟨sl,e1⟩:=I.base.slot b o e n hb hx;exact⟨sl,(hs.2 b (yQ (zP (zY e) (I.ok.VT x c U4 hc)))).trans e1⟩
  ·let⟨o',e1⟩:=I.base.there b o e hx;exact⟨o',(hs.2 b (yQ (zP (zY e) (I.ok.VT x c U4 hc)))).trans e1⟩
  ·by_cases hj:j=i
   ·subst hj;rw[hi] at e1;cases e1;rw[vU WS] at e2;cases e2;exact⟨u,r,.inr ⟨.inl hk,c,hc,SS⟩⟩
   ·rw[kY (jM hj)] at e2;let⟨u',r',q⟩:=hl j y v' e1 e2 e3;refine⟨u',r',?_⟩;rcases q with q|⟨k,c',e,z'⟩
    ·exact .inl q
    ·refine .inr ⟨k,c',e,z'.sameBut hs ?_⟩;rintro rfl;exact hj (u4 hN e1 (I.ok.inj _ _ _ e hc ▸ hi))
  ·by_cases Ww:c'=c
   ·subst Ww;exact⟨_,SS⟩
   ·let⟨w2,z2⟩:=I.cell y c' e;exact⟨w2,z2.sameBut hs Ww⟩
  ·let⟨e,n,ne,nf,d⟩:=I.pin p hp;refine⟨(hs.2 p.1 ?_).trans e,n,ne,nf,d⟩;intro q;rw[q,Z8] at e;have q':oc=p.2:=xC e;exact d w' (by rw[<- q'];exact Yv)
def xo{M:Model}{A:Around}{E:Value->Shared->Prop}(I:Inv X pins σ H s)(hN:X.N.Nodup)(hi:X.N[i]?=some x)(hx:Loc X.env.scope x)(r:RelV v u)
  (h:∀s',Inv X pins (σ.set i (some v)) H s'->Q () s') (hf:X.fn x=true\/X.env.scope.names.lookup x=some .local:=by first|exact .inl rfl|exact .inr rfl|assumption):wpAny M A (storeName X.env x u) Q E s :=
 nG I hN hi hx r (λs' I' _=>h s' I') hf
def Inv.UN{ch:List Addr}(I:Inv X pins σ H s)(ho:s'.os=s.os)(u:Un (gO X.stack) ch H H' s.heap s'.heap)(RO:mV X.prog X.w H' s'.heap)(hg:AllBare s'.gens)
  (To:∀b∈ch,(b∈X.ex\/X.RT.heap.objs.size<=b)/\b≠X.env.locals/\(∀x c,X.env.cells.lookup x=some c->c≠b)/\∀p∈X.pn++pins,p.1≠b):Inv X pins σ H' s':=by
 let⟨h',g',d',t',o'⟩:=s';have e:o'=s.os:=ho;subst e;exact I.call (g':=g') (t':=t') (d':=d') u RO hg To
abbrev XK:=Value->Option Addr->Hp->Prop
abbrev St:=List (Option V)
abbrev VK:=V->Hp->Prop
abbrev TE:=St->Hp->VK->Prop
abbrev TT:=St->Hp->(Bool->Hp->Prop)->Prop
abbrev TA:=St->Hp->(List V->Hp->Prop)->Prop
structure Ends where
 nx:St->Hp->Prop
 rt:VK
 bk:St->Hp->Prop:=λ_ _=>False
 ct:St->Hp->Prop:=λ_ _=>False
abbrev TS:=Ends->St->Hp->Prop
def EP(X:Cx)(pins:List (Addr×Obj))(σ:St)(Q:VK)(u:Value)(s':Shared):Prop:=∃v H',Inv X pins σ H' s'/\RelV v u/\Q v H'
def TP(X:Cx)(pins:List (Addr×Obj))(σ:St)(Q:Bool->Hp->Prop)(b:Bool)(s':Shared):Prop:=∃H',Inv X pins σ H' s'/\Q b H'
def AP(X:Cx)(pins:List (Addr×Obj))(σ:St)(Q:List V->Hp->Prop)(us:List Value)(s':Shared):Prop:=∃vs H',Inv X pins σ H' s'/\aL vs us/\Q vs H'
def SP(X:Cx)(pins:List (Addr×Obj))(D:Ends)(f:Flow)(s':Shared):Prop :=
 match f with
 | .next=>∃σ' H',Inv X pins σ' H' s'/\D.nx σ' H'
 | .brk=>∃σ' H',Inv X pins σ' H' s'/\D.bk σ' H'
 | .cont=>∃σ' H',Inv X pins σ' H' s'/\D.ct σ' H'
 | .ret u=>∃v σ' H',Inv X pins σ' H' s'/\RelV v u/\D.rt v H'
def PE(X:Cx)(e:Expr)(t:TE):Prop :=
 ∀ (pins:List (Addr×Obj)) (s:Shared) (σ:St) (H:Hp) (Q:VK),Inv X pins σ H s->t σ H Q->wpAny (model X.prog X.w) X.A (eval e X.env) (EP X pins σ Q) X.xe s
def PT(X:Cx)(e:Expr)(t:TT):Prop :=
 ∀ (pins:List (Addr×Obj)) (s:Shared) (σ:St) (H:Hp) (Q:Bool->Hp->Prop),Inv X pins σ H s->t σ H Q->wpAny (model X.prog X.w) X.A (isTrue e X.env (eval e X.env)) (TP X pins σ Q) X.xe s
def PW(X:Cx)(e:Expr)(t:TT):Prop :=
 ∀ (whole:Sem Value) (pins:List (Addr×Obj)) (s:Shared) (σ:St) (H:Hp) (Q:Bool->Hp->Prop),Inv X pins σ H s->t σ H Q->wpAny (model X.prog X.w) X.A (isTrue e X.env whole) (TP X pins σ Q) X.xe s
def PW.pt(h:PW X e t):PT X e t:=h _
def PA(X:Cx)(es:List Expr)(t:TA):Prop :=
 ∀ (pos:Pos) (pins:List (Addr×Obj)) (s:Shared) (σ:St) (H:Hp) (Q:List V->Hp->Prop),Inv X pins σ H s->t σ H Q->wpAny (model X.prog X.w) X.A (spliced (backTo pos (starEach es X.env))) (AP X pins σ Q) X.xe s
def PS(X:Cx)(st:Stmt)(t:TS):Prop :=
 ∀ (pins:List (Addr×Obj)) (s:Shared) (σ:St) (H:Hp) (D:Ends),Inv X pins σ H s->t D σ H->wpAny (model X.prog X.w) X.A (exec st X.env) (SP X pins D) X.xe s
def uy(X:Cx)(st:List Stmt)(t:TS):Prop :=
 ∀ (pins:List (Addr×Obj)) (s:Shared) (σ:St) (H:Hp) (D:Ends),Inv X pins σ H s->t D σ H->wpAny (model X.prog X.w) X.A (execs st X.env) (SP X pins D) X.xe s
def b9(h:wpAny M A t Q E s)(hQ:∀a s,Q a s->Q' a s):wpAny M A t Q' E s:=yZ h hQ λ_ _ x=>x
section
def Qr(i:Nat):TE:=λσ H Q=>∃v,σ[i]?=some (some v)/\Q v H
def tC(v:V):TE:=λ_ H Q=>Q v H
def e9(hN:X.N[i]?=some x)(hv:AS X.env.scope x)(hd:(x == ("__debug__":Str))=false:=by decide)(Se:(x == ("__classdict__":Str))=false:=by decide):PE X (.Name x pos) (Qr i):=by
 intro pins s σ H Q I h;let⟨v,e,h⟩:=h;let⟨m,hn,hl⟩:=I.loc;let⟨u,r,l⟩:=hl i x v hN e hv;have fin:EP X pins σ Q u s:=⟨v,H,I,r,h⟩
 rcases l with ⟨hk,hm⟩|⟨hk,c,hc,Vv⟩
 ·exact wQ (wH I.ok.kind hk hn hm fin) hd
 ·rcases hk with hk|hk
  ·exact wQ (wpAny_loadName_cell I.ok.kind hk hc Vv fin) hd
  ·exact wQ (wpAny_loadName_free I.ok.kind hk hc Vv fin Se) hd
def AB{i j pos}:PE X (.Constant (.int i) j pos) (tC (.int i)):=λ_ _ _ H _ I h=>wpAny_Constant_int ⟨.int i,H,I.tok _,⟨_,rfl⟩,h⟩
def FF{b j pos}:PE X (.Constant (.bool b) j pos) (tC (.bl b)):=λ_ _ _ H _ I h=>Constant_bool ⟨.bl b,H,I,rfl,h⟩
def Ma{j pos}:PE X (.Constant .none j pos) (tC .RK):=λ_ _ _ H _ I h=>Constant_none ⟨.RK,H,I,rfl,h⟩
def Fm{x j pos}:PE X (.Constant (.str x) j pos) (tC (.str x)):=λ_ _ _ H _ I h=>wX ⟨.str x,H,I.tok _,⟨_,rfl⟩,h⟩
def Gl(X:Cx)(x:Str):Prop:=X.env.kindOf x=some .globalImplicit
def k4{E:Value->Shared->Prop}{pos:Pos}(I:Inv X pins σ H s)(hg:Gl X x)(hm:X.mg x=some u)(h:Q u s)
  (hd:(x == ("__debug__":Str))=false:=by decide):wpAny (model X.prog X.w) X.A (eval (.Name x pos) X.env) Q E s :=
 Calls.Name_function_global I.ok.kind hg (Calls.loadGlobal_global (by rw[I.ok.glob];exact I.mod.glob.keeps I.bk) hm h) hd
def iJ{E:Value->Shared->Prop}{pos:Pos}(I:Inv X pins σ H s)(hg:Gl X x)(hm:X.mg x=none)(hv:bootBuiltins x=some u)(h:Q u s)
  (hn:x≠"__name__":=by decide) (hd:(x == ("__debug__":Str))=false:=by decide):wpAny (model X.prog X.w) X.A (eval (.Name x pos) X.env) Q E s:=by
 let⟨mb,h1,h2⟩:=I.mod.blt;exact Calls.Name_function_global I.ok.kind hg (Calls.loadGlobal_builtin (by rw[I.ok.glob];exact I.mod.glob.keeps I.bk) hm (by rw[I.ok.blt];exact h1.keeps I.bk) ((h2 x hn).trans hv) h) hd
def IV(hg:Gl X x)(hm:X.mg x=some u)(r:RelV v u)(hd:(x == ("__debug__":Str))=false:=by decide):PE X (.Name x pos) (tC v) :=
 λ_ _ _ H _ I h=>k4 I hg hm ⟨v,H,I,r,h⟩ hd
def Iv(hg:Gl X x)(hm:X.mg x=none)(hv:bootBuiltins x=some u)(r:RelV v u)(hn:x≠"__name__":=by decide)(hd:(x == ("__debug__":Str))=false:=by decide):PE X (.Name x pos) (tC v) :=
 λ_ _ _ H _ I h=>iJ I hg hm hv ⟨v,H,I,r,h⟩ hn hd
def GJ(b:Expr)(h:op≠.In)(h2:op≠.NotIn):behindInMarks op b=false:=by
 have e1:(op == CmpOp.In)=false:=by cases op<;>first|rfl|exact absurd rfl h
 have e2:(op == CmpOp.NotIn)=false:=by cases op<;>first|rfl|exact absurd rfl h2
 cases b<;>simp[behindInMarks,e1,e2]
def tB(t:TE):TT:=λσ H Q=>t σ H λx H1=>∃c,x=.bl c/\Q c H1
def F7(h:PE X e t)(he:∀whole,isTrue e X.env whole=(do let v <- whole;standAt e.pos;holding [v] (truthy v)):=by intro _;rfl):PT X e (tB t):=by
 intro pins s σ H Q I hw;refine isTrue_plain (b9 (h pins s σ H _ I hw) λv s1 ⟨x,H1,I1,r1,q1⟩=>?_) (he _);let⟨d,rfl,q⟩:=q1;cases r1;exact xV ⟨H1,I1,q⟩
variable {rest:List Expr}
def Pc(t u:TT):TT:=λσ H Q=>t σ H λc H1=>if c=true then u σ H1 Q else Q false H1
def Q7(t u:TT):TT:=λσ H Q=>t σ H λc H1=>if c=true then Q true H1 else u σ H1 Q
def Qt(t:TT):TT:=λσ H Q=>t σ H λc H1=>Q (!c) H1
def IR(ha:PT X a tA):PW X (.BoolOp .And [a] pos) tA:=by
 intro wh pins s σ H Q I h;refine isTrue_and (b9 (ha pins s σ H Q I h) λc s1 e=>?_);cases c with
 | true=>exact isTrue_and_nil e
 | false=>exact e
def E8(ha:PT X a tA):PW X (.BoolOp .Or [a] pos) tA:=by
 intro wh pins s σ H Q I h;refine isTrue_or (b9 (ha pins s σ H Q I h) λc s1 e=>?_);cases c with
 | false=>exact isTrue_or_nil e
 | true=>exact e
def LC(ha:PT X a tA)(hb:PW X (.BoolOp .And (b::rest) pos) Yw):PW X (.BoolOp .And (a::b::rest) pos) (Pc tA Yw):=by
 intro wh pins s σ H Q I h;refine isTrue_and (b9 (ha pins s σ H _ I h) λc s1 ⟨H1,I1,q1⟩=>?_);cases c with
 | true=>exact hb wh pins s1 σ H1 Q I1 q1
 | false=>exact⟨H1,I1,q1⟩
def Kg(ha:PT X a tA)(hb:PW X (.BoolOp .Or (b::rest) pos) Yw):PW X (.BoolOp .Or (a::b::rest) pos) (Q7 tA Yw):=by
 intro wh pins s σ H Q I h;refine isTrue_or (b9 (ha pins s σ H _ I h) λc s1 ⟨H1,I1,q1⟩=>?_);cases c with
 | true=>exact⟨H1,I1,q1⟩
 | false=>exact hb wh pins s1 σ H1 Q I1 q1
def Es(ha:PT X a tA):PT X (.UnaryOp .Not a pos) (Qt tA):=by
 intro pins s σ H Q I h;exact isTrue_not (ha pins s σ H (λc H1=>Q (!c) H1) I h)
def NL(ta tb:TE):TE:=λσ H Q=>ta σ H λx H1=>∃c,x=.bl c/\if c=true then tb σ H1 Q else Q (.bl false) H1
def Qc(ta tb:TE):TE:=λσ H Q=>ta σ H λx H1=>∃c,x=.bl c/\if c=true then Q (.bl true) H1 else tb σ H1 Q
def Lr{op}(h:PE X a t):PE X (.BoolOp op [a] pos) t:=λpins s σ H Q I hw=>BoolOp_one (h pins s σ H Q I hw)
def KB(ha:PE X a ta)(hb:PE X (.BoolOp .And (b::rest) pos) tb):PE X (.BoolOp .And (a::b::rest) pos) (NL ta tb):=by
 intro pins s σ H Q I h;refine BoolOp_and (b9 (ha pins s σ H _ I h) λv s1 ⟨x,H1,I1,r1,q1⟩=>?_);let⟨c,rfl,q1⟩:=q1;cases r1;refine xV ?_;cases c with
 | true=>exact hb pins s1 σ H1 Q I1 q1
 | false=>exact⟨.bl false,H1,I1,rfl,q1⟩
def FI(ha:PE X a ta)(hb:PE X (.BoolOp .Or (b::rest) pos) tb):PE X (.BoolOp .Or (a::b::rest) pos) (Qc ta tb):=by
 intro pins s σ H Q I h;refine BoolOp_or (b9 (ha pins s σ H _ I h) λv s1 ⟨x,H1,I1,r1,q1⟩=>?_);let⟨c,rfl,q1⟩:=q1;cases r1;refine xV ?_;cases c with
 | false=>exact hb pins s1 σ H1 Q I1 q1
 | true=>exact⟨.bl true,H1,I1,rfl,q1⟩
def Rr(t:TT)(ta tb:TE):TE:=λσ H Q=>t σ H λc H1=>if c=true then ta σ H1 Q else tb σ H1 Q
def wk(hc:PT X c tA)(ha:PE X a ta)(hb:PE X b tb):PE X (.IfExp c a b pos) (Rr tA ta tb):=by
 intro pins s σ H Q I h;refine wpAny_IfExp (b9 (hc pins s σ H _ I h) λd s1 ⟨H1,I1,q1⟩=>?_);cases d with
 | true=>exact ha pins s1 σ H1 Q I1 q1
 | false=>exact hb pins s1 σ H1 Q I1 q1
end
def gH(K:W.Frag)(H:Hp)(a:Addr)(xs:List V):Prop :=
 Rd H a (.lst xs) \/
  ∃ (o:Obj) (its:Array Value) (n:Nat),K.lookup a=some o/\o.cls=.type "list"/\o.dict=none/\o.data=.seq its n/\its.size<=sizeLine/\aL xs its.toList
def fM(K:W.Frag)(H:Hp)(a:Addr)(xs:List V):Prop :=
 Rd H a (.tup xs) \/
  ∃ (o:Obj) (its:Array Value) (n:Nat),K.lookup a=some o/\o.cls=.type "tuple"/\o.dict=none/\o.data=.seq its n/\its.size<=sizeLine/\aL xs its.toList
def QE:Value->Option V
 | .none=>some .RK
 | .bool b=>some (.bl b)
 | .int i _=>some (.int i)
 | .str x _=>some (.str x)
 | .bytes b _=>some (.Vd b)
 | .float b _=>some (.Yq b)
 | .ref a=>some (.ref a)
 | .type n=>some (.ty n)
 | _=>none
def RelV.abs(r:RelV x u):QE u=some x:=by
 cases x with
 | RK=>cases r;rfl
 | bl _=>cases r;rfl
 | int _=>let⟨t,rfl⟩:=r;rfl
 | str _=>let⟨t,rfl⟩:=r;rfl
 | Vd _=>let⟨t,rfl⟩:=r;rfl
 | Yq _=>let⟨t,rfl⟩:=r;rfl
 | ref _=>cases r;rfl
 | ty _=>cases r;rfl
def RelV.inj(r:RelV x u)(q:RelV y u):x=y:=xC (r.abs.symm.trans q.abs)
def aL.inj:∀ {xs ys:List V}{us:List Value},aL xs us->aL ys us->xs=ys
 | _,_,_,.nil,.nil=>rfl
 | _,_,_,.cons r t,.cons r' t'=>by rw[r.inj r',aL.inj t t']
def gH.of{K:W.Frag}(h:H a=some (.lst xs)):gH K H a xs:=.inl (.inl h)
def Inv.list(I:Inv X pins σ H s)(h:gH X.K H a xs):∃its:List Value,aL xs its/\PlainL s.heap a its.toArray/\xs.length<=sizeLine:=by
 rcases h with h|⟨o,its,n,hk,hc,hd,hs,hz,r⟩
 ·let⟨z,its,n,r,e⟩:=h.ok I.RO;exact⟨its,r,⟨_,n,e,rfl,rfl,rfl⟩,z⟩
 ·refine⟨its.toList,r,⟨o,n,I.Tt a o hk,hc,hd,by simpa using hs⟩,?_⟩;have e:=r.length;simp?[wM] at e;lia
def Inv.tuple(I:Inv X pins σ H s)(h:fM X.K H a xs):∃its:List Value,aL xs its/\IsTup s.heap a its.toArray/\xs.length<=sizeLine:=by
 rcases h with h|⟨o,its,n,hk,hc,_,hs,hz,r⟩
 ·let⟨z,its,r,p⟩:=h.ok I.RO;exact⟨its,r,p.1,z⟩
 ·refine⟨its.toList,r,⟨o,I.Tt a o hk,hc,n,by simpa using hs⟩,?_⟩;have e:=r.length;simp?[wM] at e;lia
def Inv.Tv(I:Inv X pins σ H s)(h:gH X.K H a xs)(h':gH X.K H a ys):xs=ys:=by
 let⟨its,r,⟨o,n,e,_,_,d⟩,_⟩:=I.list h;let⟨its',r',⟨o',n',e',_,_,d'⟩,_⟩:=I.list h';rw[e] at e';cases e';rw[d] at d';injection d' with d1 _
 have:its=its':=by simpa using jB Array.toList d1
 subst this;exact r.inj r'
def Inv.Ta(I:Inv X pins σ H s)(h:fM X.K H a xs)(h':fM X.K H a ys):xs=ys:=by
 let⟨its,r,⟨o,e,_,n,d⟩,_⟩:=I.tuple h;let⟨its',r',⟨o',e',_,n',d'⟩,_⟩:=I.tuple h';rw[e] at e';cases e';rw[d] at d';injection d' with d1 _
 have:its=its':=by simpa using jB Array.toList d1
 subst this;exact r.inj r'
abbrev Cx.Ss(X:Cx)(E:Value->Shared->Prop):Cx:={ X with xe:=E }
abbrev Cx.Sf(X:Cx):Cx:=X.Ss λ_ _=>False
def Cx.Ok.Ss{X:Cx}(ok:X.Ok)(E:Value->Shared->Prop):(X.Ss E).Ok :=
 ⟨ok.mod,ok.kind,ok.glob,ok.blt,ok.above,ok.inj,ok.has,ok.VT,ok.hd,ok.frames,ok.UL,ok.Wv,ok.bs,ok.UM,ok.Ts,ok.TQ,ok.SD,ok.Vf⟩
def Cx.Ok.RY{X:Cx}{E:Value->Shared->Prop}(ok:(X.Ss E).Ok):X.Ok :=
 ⟨ok.mod,ok.kind,ok.glob,ok.blt,ok.above,ok.inj,ok.has,ok.VT,ok.hd,ok.frames,ok.UL,ok.Wv,ok.bs,ok.UM,ok.Ts,ok.TQ,ok.SD,ok.Vf⟩
def Inv.Ss(I:Inv X pins σ H s)(E:Value->Shared->Prop):Inv (X.Ss E) pins σ H s:=⟨I.ok.Ss E,I.os,I.bare,I.base,I.loc,I.cell,I.free,I.RU,I.pin,I.RO,I.len⟩
def Inv.RY(I:Inv (X.Ss E) pins σ H s):Inv X pins σ H s:=⟨I.ok.RY,I.os,I.bare,I.base,I.loc,I.cell,I.free,I.RU,I.pin,I.RO,I.len⟩
def SP.RY{D:Ends}(h:SP (X.Ss E) pins D f s'):SP X pins D f s':=by
 cases f with
 | next=>let⟨σ',H',I,q⟩:=h;exact⟨σ',H',I.RY,q⟩
 | brk=>let⟨σ',H',I,q⟩:=h;exact⟨σ',H',I.RY,q⟩
 | cont=>let⟨σ',H',I,q⟩:=h;exact⟨σ',H',I.RY,q⟩
 | ret u=>let⟨v,σ',H',I,r,q⟩:=h;exact⟨v,σ',H',I.RY,r,q⟩
def PE.Sf(h:PE X.Sf e t):PE X e t:=λpins s σ H Q I hw =>
 yZ (h pins s σ H Q (I.Ss _) hw) (λ_ _ ⟨v,H',I',r,q⟩=>⟨v,H',I'.RY,r,q⟩) λ_ _ z=>False.elim z
def PT.Sf(h:PT X.Sf e t):PT X e t:=λpins s σ H Q I hw =>
 yZ (h pins s σ H Q (I.Ss _) hw) (λ_ _ ⟨H',I',q⟩=>⟨H',I'.RY,q⟩) λ_ _ z=>False.elim z
def uy.Sf{st:List Stmt}(h:uy X.Sf st t):uy X st t:=λpins s σ H D I hw =>
 yZ (h pins s σ H D (I.Ss _) hw) (λ_ _ q=>q.RY) λ_ _ z=>False.elim z
section
variable {st:Stmt}{rest:List Stmt}
def EU:TS:=λD σ H=>D.nx σ H
def Pr(t u:TS):TS:=λD σ H=>t { D with nx:=u D } σ H
def tw:uy X [] EU:=λ_ _ σ H _ I h=>vW ⟨σ,H,I,h⟩
def i6(h1:PS X st t)(h2:uy X rest u):uy X (st::rest) (Pr t u):=by
 intro pins s σ H D I h;refine vK (b9 (h1 pins s σ H { D with nx:=u D } I h) λf s1 q=>?_);cases f with
 | next =>
  let⟨σ',H',I',q⟩:=q;exact h2 pins s1 σ' H' D I' q
 | ret v=>exact q
 | brk=>exact q
 | cont=>exact q
def HD(h1:PS X st t):uy X [st] t:=by
 intro pins s σ H D I h;refine vK (b9 (h1 pins s σ H D I h) λf s1 q=>?_);cases f with
 | next=>exact vW q
 | ret v=>exact q
 | brk=>exact q
 | cont=>exact q
def HJ:PS X (.Pass pos) EU:=λ_ _ σ H _ I h=>wpAny_Pass ⟨σ,H,I,h⟩
def Inv.quiet(I:Inv X pins σ H s):interactive X.env=false:=by simp[interactive,I.ok.kind]
def Mz{x j pos pos'}:PS X (.Expr (.Constant (.str x) j pos) pos') EU:=λ_ s σ H _ I h=>wpAny_Expr (wX (show SP X _ _ .next { s with toks:=s.toks+1 } from ⟨σ,H,I.tok _,h⟩)) I.quiet
def Oc(te:TE):TS:=λD σ H=>te σ H λ_ H1=>D.nx σ H1
def mE(he:PE X e te)(hs:swapsWith e none pos.line X.env=pure false:=by rfl):PS X (.Expr e pos) (Oc te):=by
 intro pins s σ H D I h;exact wpAny_Expr_any (b9 (he pins s σ H _ I h) λv s1 ⟨x,H1,I1,r1,q1⟩=>⟨σ,H1,I1,q1⟩) I.quiet hs
def PZ(te:TE):TS:=λD σ H=>te σ H D.rt
def zc(he:PE X e te):PS X (.Return (some e) pos) (PZ te):=by
 intro pins s σ H D I h;exact wpAny_Return_some (b9 (he pins s σ H _ I h) λv s1 ⟨x,H1,I1,r1,q1⟩=>⟨x,σ,H1,I1,r1,q1⟩)
def Qx(c:TT)(t u:TS):TS:=λD σ H=>c σ H λb H1=>if b=true then t D σ H1 else u D σ H1
def B0(hc:PT X c tc)(ha:uy X a t)(hb:uy X b u):PS X (.If c a b pos) (Qx tc t u):=by
 intro pins s σ H D I h;refine wpAny_If (b9 (hc pins s σ H _ I h) λd s1 ⟨H1,I1,q1⟩=>?_);cases d with
 | true=>exact ha pins s1 σ H1 D I1 q1
 | false=>exact hb pins s1 σ H1 D I1 q1
end
abbrev TG:=V->St->Hp->(St->Hp->Prop)->Prop
abbrev Os:=List V->St->Hp->(St->Hp->Prop)->Prop
def PG(X:Cx)(target:Expr)(t:TG):Prop :=
 ∀ (pins:List (Addr×Obj)) (s:Shared) (σ:St) (H:Hp) (v:V) (u:Value) (Q:St->Hp->Prop),Inv X pins σ H s->RelV v u->t v σ H Q ->
  wpAny (model X.prog X.w) X.A (assign target X.env u) (λ_ s'=>∃σ' H',Inv X pins σ' H' s'/\Q σ' H') X.xe s
def OV(X:Cx)(ts:List Expr)(t:Os):Prop :=
 ∀ (pins:List (Addr×Obj)) (s:Shared) (σ:St) (H:Hp) (vs:List V) (us:List Value) (Q:St->Hp->Prop),Inv X pins σ H s->aL vs us->t vs σ H Q ->
  wpAny (model X.prog X.w) X.A (assignInOrder ((assignEach ts X.env).map (·.2)) us) (λ_ s'=>∃σ' H',Inv X pins σ' H' s'/\Q σ' H') X.xe s
abbrev Oq:=V->V->V->Hp->(Hp->Prop)->Prop
def Mh(X:Cx)(t:Oq):Prop :=
 ∀ (pins:List (Addr×Obj)) (s:Shared) (σ:St) (H:Hp) (o i v:V) (ov iv u:Value) (Q:Hp->Prop),Inv X pins σ H s->RelV o ov->RelV i iv->RelV v u->t o i v H Q ->
  wpAny (model X.prog X.w) X.A (setItem ov iv u) (λ_ s'=>∃H',Inv X pins σ H' s'/\Q H') X.xe s
def uY(i:Nat):TG:=λv σ H Q=>Q (σ.set i (some v)) H
def dz(hN:X.N.Nodup)(hi:X.N[i]?=some x)(hx:Loc X.env.scope x)(hf:X.fn x=true\/X.env.scope.names.lookup x=some .local:=by first|exact .inl rfl|exact .inr rfl|assumption):PG X (.Name x pos) (uY i):=by
 intro pins s σ H v u Q I r h;exact wpAny_assign_Name (xo I hN hi hx r (λs' I'=>⟨_,H,I',h⟩) hf)
def PD:Os:=λvs σ H Q=>vs=[]/\Q σ H
def N1(t:TG)(u:Os):Os:=λvs σ H Q=>∃v r,vs=v::r/\t v σ H λσ' H'=>u r σ' H' Q
def oQ:OV X [] PD:=by
 intro pins s σ H vs us Q I r h;let⟨e,h⟩:=h;subst e;cases r;exact assignInOrder_nil ⟨σ,H,I,h⟩
def dq(h1:PG X e t)(h2:OV X es u)
  (hs:(assignEach (e::es) X.env).map (·.2)=assign e X.env::(assignEach es X.env).map (·.2):=by rfl):OV X (e::es) (N1 t u):=by
 intro pins s σ H vs us Q I r h;let⟨v,vr,e1,h⟩:=h;subst e1;cases r with
 | cons r rr =>
  rw[hs];refine assignInOrder_cons (b9 (h1 pins s σ H _ _ _ I r h) λ_ s1 ⟨Wx,H1,I1,q1⟩=>?_);exact h2 pins s1 Wx H1 _ _ Q I1 rr q1
def Qh(K:W.Frag)(n:Nat)(t:Os):TG:=λv σ H Q=>∃a xs,v=.ref a/\fM K H a xs/\xs.length=n/\t xs σ H Q
def uj{k:Nat}(hc:X.calm=true)(h:OV X es t)
  (hn:(assignEach es X.env).length=n:=by rfl) (Te:(assignEach es X.env).findIdx? (·.1)=none:=by rfl):PG X (.Tuple es k pos) (Qh X.K n t):=by
 intro pins s σ H v u Q I r hw;let⟨a,xs,e1,hq,hl,hw⟩:=hw;subst e1;cases r;let⟨its,rv,ht,hz⟩:=I.tuple hq;refine assign_Tuple_tuple (I.ok.hd hc) ht (by simp[hn,<- hl,rv.length]) Te λh' hx=>?_;have I1:Inv X pins σ H { s with heap:=h' }:=I.kept (t':=s.toks) λb o e=>hx b o (yQ (zY e)) e;exact h pins _ σ H xs _ Q I1 (by simpa using rv) hw
def dh(to ti:TE)(t:Oq):TG:=λv σ H Q=>to σ H λo H1=>ti σ H1 λi H2=>t o i v H2 λH3=>Q σ H3
def DB(ho:PE X o to)(hi:PE X i ti)(hs:Mh X t)
  (ha:∀v,assign (.Subscript o i pos) X.env v=(do
   let ov <- holding [v] (eval o X.env)
   let iv <- holding [v,ov] (eval i X.env)
   standAt pos
   holding [v,ov,iv] (setItem ov iv v)
   release [v,ov,iv] []):=by intro _;rfl):PG X (.Subscript o i pos) (dh to ti t):=by
 intro pins s σ H v u Q I r h;rw[ha];refine zV (xW (b9 (ho pins s σ H _ I h) λov s1 ⟨x,H1,I1,r1,q1⟩=>?_));refine zV (xW (b9 (hi pins s1 σ H1 _ I1 q1) λiv s2 ⟨y,H2,I2,r2,q2⟩=>?_));refine zV (vH (zV (xW (b9 (hs pins s2 σ H2 x y v ov iv u _ I2 r1 r2 r q2) λ_ s3 ⟨H3,I3,q3⟩=>?_))));exact wpAny_release ⟨σ,H3,I3,q3⟩
def Eo(te:TE)(g:TG):TS:=λD σ H=>te σ H λx H1=>g x σ H1 D.nx
def zx(he:PE X e te)(hg:PG X tg g)(hs:swapsWithSole [tg] e pos.line X.env=pure false:=by rfl)(hw:swappedStores [tg] e X.env=pure none:=by rfl)
  (h1:(assignEach [tg] X.env).map (·.2)=[assign tg X.env]:=by rfl):PS X (.Assign [tg] e pos) (Eo te g):=by
 intro pins s σ H D I h;refine wpAny_Assign_stores (b9 (he pins s σ H _ I h) λv s1 ⟨x,H1,I1,r1,q1⟩=>?_) hs hw;rw[h1];exact b9 (hg pins s1 σ H1 x v _ I1 r1 q1) λ_ s2 q=>q
def qc(hN:X.N.Nodup)(hi:X.N[i]?=some x)(hx:Loc X.env.scope x)(he:PE X e te)(hs:swapsWith e (some (.Name x pos')) pos.line X.env=pure false:=by rfl)(hf:X.fn x=true\/X.env.scope.names.lookup x=some .local:=by first|exact .inl rfl|exact .inr rfl|assumption) :
  PS X (.Assign [.Name x pos'] e pos) (Eo te (uY i)):=by
 intro pins s σ H D I h;refine wpAny_Assign_Name (b9 (he pins s σ H _ I h) λv s1 ⟨y,H1,I1,r1,q1⟩=>?_) hs;exact xo I1 hN hi hx r1 (λs2 I2=>⟨_,H1,I2,q1⟩) hf
def Lk(c:TT)(tb:TS):TS:=λD σ H=>∃W:Nat->St->Hp->Prop,(∃m,W m σ H)/\∀m σ H,W m σ H ->
 c σ H λb H1=>if b=true then ∃N:St->Hp->Prop,(∀σ' H',N σ' H'->∃m',m' < m/\W m' σ' H')/\tb { D with nx:=N,ct:=N,bk:=D.nx } σ H1 else D.nx σ H1
def Gr(hp:PassesOwn (model X.prog X.w) X.A X.env X.xe)(hc:PT X c tc)(hb:uy X body tb):PS X (.While c body [] pos) (Lk tc tb):=by
 intro pins s σ H D I h;let⟨W,⟨m0,w0⟩,turn⟩:=h;refine wpAny_While (codeAny_whileLoop (λn s'=>∃σ' H',Inv X pins σ' H' s'/\W n σ' H') ?_ m0 ⟨σ,H,I,w0⟩);rintro n s1 ⟨Wx,H1,I1,w1⟩;refine jJ hp (b9 (hc pins s1 Wx H1 _ I1 (turn n Wx H1 w1)) λb s2 ⟨H2,I2,q2⟩=>?_);cases b with
 | true =>
  let⟨N,hN,q2⟩:=q2;rw[yK rfl];refine jJ hp (b9 (hb pins s2 Wx H2 _ I2 q2) λf s3 q3=>?_);cases f with
  | next =>
   let⟨TU,H3,I3,n3⟩:=q3;let⟨m',hm,w3⟩:=hN TU H3 n3;exact⟨m',hm,TU,H3,I3,w3⟩
  | cont =>
   let⟨TU,H3,I3,n3⟩:=q3;let⟨m',hm,w3⟩:=hN TU H3 n3;exact⟨m',hm,TU,H3,I3,w3⟩
  | brk=>exact q3
  | ret v=>exact q3
 | false =>
  rw[yM yY];exact vW ⟨Wx,H2,I2,q2⟩
structure It where
 go:Nat->Hp->Prop
 Vw:Nat->Hp->V->Hp->Prop
 stop:Nat->Hp->Prop
def cO(X:Cx)(pins:List (Addr×Obj))(H:Hp)(b:Addr):Prop :=
 H b=none/\b≠X.env.locals/\b∉X.fs/\(b∈X.ex\/X.RT.heap.objs.size<=b)/\(∀x c,X.env.cells.lookup x=some c->c≠b)/\∀p∈X.pn++pins,p.1≠b
def Inv.SW(I:Inv X pins σ H s)(hb:s.heap.objs.size<=b)(hn:H' b=none):cO X pins H' b:=by
 refine⟨hn,jH (zP I.lt hb),I.Yt hb,.inr (yD I.sz hb),λx c e z=>?_,λp hp z=>?_⟩
 ·let⟨v,q⟩:=I.cell x c e;exact absurd (zP q.lt (by rw[z];exact hb)) (qD _)
 ·exact absurd (zP (zY (I.pin p hp).1) (by rw[z];exact hb)) (qD _)
structure Turn(P:Program)(w:World)(K:W.Frag)(tg:Expr)(J:It)(fp:List Addr)(it:Addr)(tn:Nat->Heap->Prop):Prop where
 mem:it∈fp
 obj:∀i h,tn i h->∀b∈fp,∃o,h.get? b=some o/\∀v,o.data≠.cell v
 keep:∀i h h',tn i h->(∀b∈fp,∀o,h.get? b=some o->h'.get? b=some o)->tn i h'
 item:∀ (X:Cx),X.prog=P->X.w=w->X.K=K->X.calm=true->∀ (i:Nat) (pins:List (Addr×Obj)) (s:Shared) (σ:St) (H:Hp) (E:Value->Shared->Prop),Inv X pins σ H s->(∀b∈fp,cO X pins H b)->tn i s.heap->J.go i H ->
  wpAny (model P w) X.A (pyNext (.ref it)) (λr s1=>∃u,r=some u /\
   wpAny (model P w) X.A (letOwnedTupleGo tg (.ref it) u) (λ_ s2=>∃x H',Inv X pins σ H' s2/\RelV x u/\J.Vw i H x H'/\tn (i+1) s2.heap/\∀b∈fp,H' b=none) E s1) E s
 done:∀ (X:Cx),X.prog=P->X.w=w->X.K=K->X.calm=true->∀ (i:Nat) (pins:List (Addr×Obj)) (s:Shared) (σ:St) (H:Hp) (E:Value->Shared->Prop),Inv X pins σ H s->(∀b∈fp,cO X pins H b)->tn i s.heap->J.stop i H ->
  wpAny (model P w) X.A (pyNext (.ref it)) (λr s1=>r=none/\Inv X pins σ H s1) E s
 self:∀ (A:Around) (i:Nat) (s:Shared) (Q:Value->Shared->Prop) (E:Value->Shared->Prop),tn i s.heap->Q (.ref it) s->wpAny (model P w) A (pyIter (.ref it)) Q E s
abbrev TI:=St->Hp->(It->Hp->Prop)->Prop
def QH(X:Cx)(pins:List (Addr×Obj))(σ:St)(tg:Expr)(R:It->Hp->Prop)(XY:Value)(s2:Shared):Prop :=
 ∃ (it:Addr) (fp:List Addr) (tn:Nat->Heap->Prop) (J:It) (H':Hp),XY=.ref it/\Inv X pins σ H' s2/\Turn X.prog X.w X.K tg J fp it tn/\tn 0 s2.heap/\(∀b∈fp,cO X pins H' b)/\R J H'
def PI(X:Cx)(tg iter:Expr)(wi:TI):Prop :=
 ∀ (pins:List (Addr×Obj)) (s:Shared) (σ:St) (H:Hp) (R:It->Hp->Prop),Inv X pins σ H s->wi σ H R ->
  wpAny (model X.prog X.w) X.A (eval iter X.env) (λv s1=>wpAny (model X.prog X.w) X.A (pyIter v) (QH X pins σ tg R) X.xe s1) X.xe s
def D6(ho:s.heap.get? it=some o)(hc:o.cls=.type n)(hd:o.data=.fields vs)
  (hn:["enumerate","zip","dict_itemiterator","dict_reverseitemiterator","odict_iterator","itertools.zip_longest","itertools.pairwise"].contains n=false) (hQ:Q () s):wpAny M A (letOwnedTupleGo tg (.ref it) u) Q E s:=by
 unfold letOwnedTupleGo;cases tg<;>first
  | exact zW hQ
  | (cases u<;>first
    | exact zW hQ
    | (refine zV (wpAny_load ho ?_)
       rw[hc,hd];show wpAny M A (if (["enumerate","zip","dict_itemiterator","dict_reverseitemiterator","odict_iterator","itertools.zip_longest","itertools.pairwise"].contains n&&vs[0]? == some (rawInt _))=true then _ else _) Q E s;rw[yM (by intro h;rw[hn,wG] at h;cases h)];exact zW hQ))
def Pm(K:W.Frag)(a:Addr):It :=
 ⟨λi H=>∃xs x,gH K H a xs/\xs[i]?=some x,λi H x H'=>H'=H/\∀xs,gH K H a xs->xs[i]?=some x,λi H=>∃xs,gH K H a xs/\xs.length<=i⟩
def P9(K:W.Frag)(a:Addr):It :=
 ⟨λi H=>∃xs x,fM K H a xs/\xs[i]?=some x,λi H x H'=>H'=H/\∀xs,fM K H a xs->xs[i]?=some x,λi H=>∃xs,fM K H a xs/\xs.length<=i⟩
def OZ(lo:Int)(n:Nat):It:=⟨λi _=>i < n,λi H x H'=>H'=H/\x=.int (lo+i),λi _=>n<=i⟩
def CO{K:W.Frag}(a it:Addr):Turn P w K tg (Pm K a) [it] it (λi h=>h.IsListIter it a i) where
 mem:=by simp
 obj:=λi h st b hb=>by
  have e:b=it:=by simpa using hb
  subst e;let⟨o,e,c,d⟩:=st;exact⟨o,e,λv z=>by rw[d] at z;cases z⟩
 keep:=λi h h' st k=>st.at λo e=>k it (by simp) o e
 item:=by
  intro X hP hw hK hc i pins s σ H E I hf st hg;subst hP hw hK;let⟨xs,x,hq,hx⟩:=hg;let⟨its,rv,p,hz⟩:=I.list hq;let⟨u,hu,ru⟩:=rv.get hx;let⟨f0,f1,f2,f3,f4,f5⟩:=hf it (by simp);refine wpAny_pyNext_list_item st p.isList (x:=u) (by simpa using hu) λh' Su sb=>?_;have I1:Inv X pins σ H { s with heap:=h' }:=I.turned (t':=s.toks) (λb o hb e=>(sb.2 b hb).trans e) f0 f1 f3 f4 f5;let⟨o,e,c,d⟩:=id Su;exact⟨u,rfl,D6 (s:={ s with heap:=h' }) e c d (by decide) ⟨x,H,I1,ru,⟨rfl,λys hy=>by rw[I.Tv hy hq];exact hx⟩,Su,λb hb=>(hf b hb).1⟩⟩
 done:=by
  intro X hP hw hK hc i pins s σ H E I hf st hg;subst hP hw hK;let⟨xs,hq,hx⟩:=hg;let⟨its,rv,p,hz⟩:=I.list hq;let⟨f0,f1,f2,f3,f4,f5⟩:=hf it (by simp);have hl:=rv.length;exact wpAny_pyNext_list_end (I.ok.hd hc) st p.isList (by simp;lia) λh' eb=>⟨rfl,I.turned (t':=s.toks) (λb o hb e=>eb b o hb e) f0 f1 f3 f4 f5⟩
 self:=λ_ _ _ _ _ st h=>wpAny_pyIter_listiter st h
def Av{K:W.Frag}(a it:Addr):Turn P w K tg (P9 K a) [it] it (λi h=>h.IsTupleIter it a i) where
 mem:=by simp
 obj:=λi h st b hb=>by
  have e:b=it:=by simpa using hb
  subst e;let⟨o,e,c,d⟩:=st;exact⟨o,e,λv z=>by rw[d] at z;cases z⟩
 keep:=λi h h' st k=>st.at λo e=>k it (by simp) o e
 item:=by
  intro X hP hw hK hc i pins s σ H E I hf st hg;subst hP hw hK;let⟨xs,x,hq,hx⟩:=hg;let⟨its,rv,p,hz⟩:=I.tuple hq;let⟨u,hu,ru⟩:=rv.get hx;let⟨f0,f1,f2,f3,f4,f5⟩:=hf it (by simp);refine wpAny_pyNext_tuple_item st (show s.heap.IsTuple a its.toArray from p) (x:=u) (by simpa using hu) λh' Su sb=>?_;have I1:Inv X pins σ H { s with heap:=h' }:=I.turned (t':=s.toks) (λb o hb e=>(sb.2 b hb).trans e) f0 f1 f3 f4 f5;let⟨o,e,c,d⟩:=id Su;exact⟨u,rfl,D6 (s:={ s with heap:=h' }) e c d (by decide) ⟨x,H,I1,ru,⟨rfl,λys hy=>by rw[I.Ta hy hq];exact hx⟩,Su,λb hb=>(hf b hb).1⟩⟩
 done:=by
  intro X hP hw hK hc i pins s σ H E I hf st hg;subst hP hw hK;let⟨xs,hq,hx⟩:=hg;let⟨its,rv,p,hz⟩:=I.tuple hq;let⟨f0,f1,f2,f3,f4,f5⟩:=hf it (by simp);have hl:=rv.length;exact wpAny_pyNext_tuple_end (I.ok.hd hc) st (show s.heap.IsTuple a its.toArray from p) (by simp;lia) λh' eb=>⟨rfl,I.turned (t':=s.toks) (λb o hb e=>eb b o hb e) f0 f1 f3 f4 f5⟩
 self:=λ_ _ _ _ _ st h=>wpAny_pyIter_tupleiter st h
def zu{K:W.Frag}(it:Addr)(lo:Int)(n:Nat):Turn P w K tg (OZ lo n) [it] it (λi h=>IsRangeIter h it (lo+(i:Nat) * 1) ((n:Int) - (i:Nat)) 1) where
 mem:=by simp
 obj:=λi h st b hb=>by
  have e:b=it:=by simpa using hb
  subst e;exact⟨_,st,λv z=>by
   have z':Data.fields _=Data.cell v:=z;cases z'⟩
 keep:=λi h h' st k=>k it (by simp) _ st
 item:=by
  intro X hP hw hK hc i pins s σ H E I hf st hg;subst hP hw hK;let⟨f0,f1,f2,f3,f4,f5⟩:=hf it (by simp);have W:=Walks.range (prog:=X.prog) (w:=X.w) (I.ok.hd hc) it lo 1 n;refine W.item i s _ _ hg st λv h' tk hv Su kk=>?_;let⟨t,rfl⟩:=hv;have I1:Inv X pins σ H { s with heap:=h',toks:=tk }:=I.turned (λb o hb e=>kk b o (by simpa using hb) e) f0 f1 f3 f4 f5;refine⟨_,rfl,D6 (s:={ s with heap:=h',toks:=tk }) (n:="range_iterator") Su rfl rfl (by decide) ⟨.int (lo+i),H,I1,⟨t,?_⟩,⟨rfl,rfl⟩,Su,λb hb=>(hf b hb).1⟩⟩;rw[Int.mul_one]
 done:=by
  intro X hP hw hK hc i pins s σ H E I hf st hg;subst hP hw hK;let⟨f0,f1,f2,f3,f4,f5⟩:=hf it (by simp);exact wpAny_pyNext_range_end (I.ok.hd hc) st (by have:n<=i:=hg;lia) λh' eb=>⟨rfl,I.turned (t':=s.toks) (λb o hb e=>eb b o hb e) f0 f1 f3 f4 f5⟩
 self:=λ_ _ _ _ _ st h=>wpAny_pyIter_rangeiter st h
def DY{lo:Int}{t u v:Tok}{tk:Nat}(I:Inv X pins σ H s)(h1:-(2 ^ 62)<=lo)(h2:lo < 2 ^ 62)(h3:-(2 ^ 62)<=hi)(h4:hi < 2 ^ 62)
  (q:R (OZ lo (hi - lo).toNat) H):wpAny (model X.prog X.w) X.A (pyIter (.ref s.heap.objs.size)) (QH X pins σ tg R) E { s with heap:=s.heap.push { cls:=.type "range",data:=.fields #[.int lo t,.int hi u,.int 1 v] },toks:=tk }:=by
 refine wpAny_pyIter_range (IsRange.new ..) (small_one h1 h2 h3 h4) ?_;have I1:Inv X pins σ H { s with heap:=s.heap.push { cls:=.type "range",data:=.fields #[.int lo t,.int hi u,.int 1 v] },toks:=tk }:=I.kept λb o e=>zU _ e;refine⟨(s.heap.push { cls:=.type "range",data:=.fields #[.int lo t,.int hi u,.int 1 v] }).objs.size,[(s.heap.push { cls:=.type "range",data:=.fields #[.int lo t,.int hi u,.int 1 v] }).objs.size],_,_,H,rfl,
  I1.kept (t':=tk) λb o e=>zU _ e,zu _ lo (hi - lo).toNat,?_,λb hb=>?_,q⟩
 ·have e1:lo+((0:Nat):Int) * 1=lo:=by simp
  have e2:(((hi - lo).toNat:Nat):Int) - ((0:Nat):Int)=Builtin.Range.rangeSize lo hi 1:=by rw[rangeSize_one];split<;>lia
  show IsRangeIter _ _ (lo+((0:Nat):Int) * 1) ((((hi - lo).toNat:Nat):Int) - ((0:Nat):Int)) 1;rw[e1,e2];exact zX _ rfl
 ·have e:b=(s.heap.push { cls:=.type "range",data:=.fields #[.int lo t,.int hi u,.int 1 v] }).objs.size:=by simpa using hb
  subst e;exact I1.SW (yL _) (I1.RO.fresh (yL _))
def Np(ta:TA):TI:=λσ H R=>ta σ H λvs H1=>∃j:Int,vs=[.int j]/\-(2 ^ 62)<=j/\j < 2 ^ 62/\R (OZ 0 j.toNat) H1
def Dq(hg:Gl X "range")(hm:X.mg "range"=none)(ha:PA X [a] ta)(hs:starEach [a] X.env=[(false,eval a X.env)]:=by rfl):PI X tg (.Call (.Name "range" p) [a] [] pos) (Np ta):=by
 intro pins s σ H R I h;refine Call_ (iJ I hg hm boot_range (qQ (b9 (ha pos pins s σ H _ I h) λus s1 ⟨vs,H1,I1,r1,q1⟩=>?_) hs rfl));let⟨j,e,q1,q2,q⟩:=q1;subst e;cases r1 with
 | cons r rr =>
  cases rr;let⟨t,rfl⟩:=r;exact call_range_1 (DY I1 (by lia) (by lia) q1 q2 (by simpa using q))
def Qo(wi:TI)(g:TG)(tb:TS):TS:=λD σ H=>wi σ H λJ H1=>∃W:Nat->Nat->St->Hp->Prop,(∃m,W 0 m σ H1)/\∀i m σ H,W i m σ H ->
 (J.stop i H/\D.nx σ H)\/(J.go i H/\∃N:St->Hp->Prop,(∀σ' H',N σ' H'->∃m',m' < m/\W (i+1) m' σ' H')/\∀x H',J.Vw i H x H'->g x σ H' λUg H2=>tb { D with nx:=N,ct:=N,bk:=D.nx } Ug H2)
def nI(fp:List Addr)(h:Heap):List (Addr×Obj):=fp.filterMap λb=>(h.get? b).map λo=>(b,o)
def eD(hb:b∈fp)(e:h.get? b=some o):(b,o)∈nI fp h:=List.mem_filterMap.mpr ⟨b,hb,by rw[e];rfl⟩
def CI(hp:p∈nI fp h):p.1∈fp/\h.get? p.1=some p.2:=by
 let⟨b,hb,e⟩:=List.mem_filterMap.mp hp;cases q:h.get? b with
 | none=>rw[q] at e;cases e
 | some o =>
  rw[q] at e;have e':(b,o)=p:=xC e;subst e';exact⟨hb,q⟩
def Inv.pinned(I:Inv X pins σ H s)(hf:∀b∈fp,cO X pins H b)(ho:∀b∈fp,∃o,s.heap.get? b=some o/\∀v,o.data≠.cell v):Inv X (pins++nI fp s.heap) σ H s :=
 I.Td λp hp=>(List.mem_append.mp hp).elim (λz=>I.pin p (yE _ z)) λz=>by
  let⟨hb,e⟩:=CI z;let⟨f0,f1,f2,_⟩:=hf p.1 hb;let⟨o,e',d⟩:=ho p.1 hb;rw[e] at e';cases e';exact⟨e,f0,f1,f2,d⟩
def Inv.R9(I:Inv X (pins++pl) σ H s):Inv X pins σ H s:=I.Td λp hp=>I.pin p (yE _ (qH _ hp))
def LR{pos:Pos}(hp:PassesOwn (model X.prog X.w) X.A X.env X.xe)(hc:X.calm=true)(hi:PI X tg iter wi)(hg:PG X tg g)(hb:uy X body tb)
  (hs:∀x,foldedSetIterable iter X.env x=pure x:=by intro _;rfl):PS X (.For tg iter body [] pos) (Qo wi g tb):=by
 intro pins s σ H D I h;refine wpAny_For (b9 (hi pins s σ H _ I h) λv s1 h1=>b9 h1 λXY s2 h2=>?_) hs;let⟨it,fp,tn,J,H2,e,I2,T,U5,f2,W,⟨m0,w0⟩,turn⟩:=h2;subst e;have VU:∀ {H':Hp},(∀b∈fp,H' b=none)->∀b∈fp,cO X pins H' b:=λhn b hb=>⟨hn b hb,(f2 b hb).2⟩
 refine codeAny_forLoop_any (λn s'=>∃i σ' H',Inv X pins σ' H' s'/\tn i s'.heap/\(∀b∈fp,H' b=none)/\W i n σ' H') ?_ m0 ⟨0,σ,H2,I2,U5,λb hb=>(f2 b hb).1,w0⟩;rintro n s3 ⟨i,TU,H3,I3,VV,fr3,w3⟩;rcases turn i n TU H3 w3 with ⟨stop,qn⟩|⟨go,N,hN,step⟩
 ·refine jJ hp (b9 (T.done X rfl rfl rfl hc i pins s3 TU H3 X.xe I3 (VU fr3) VV stop) λr s4 ⟨hr,I4⟩=>?_);subst hr;exact vW ⟨TU,H3,I4,qn⟩
 ·refine jJ hp (b9 (T.item X rfl rfl rfl hc i pins s3 TU H3 X.xe I3 (VU fr3) VV go) λr s4 ⟨u,hr,h4⟩=>?_);subst hr;refine jJ hp (b9 h4 λ_ s5 ⟨x,H5,I5,r5,y5,Wz,XZ⟩=>?_);have I5':=I5.pinned (VU XZ) (T.obj _ _ Wz);refine jJ hp (b9 (hg _ s5 TU H5 x u _ I5' r5 (step x H5 y5)) λ_ s6 ⟨σ6,H6,I6,q6⟩=>?_);refine jJ hp (b9 (hb _ s6 σ6 H6 _ I6 q6) λf s7 q7=>?_);have again:∀ {UO:St}{H7:Hp},Inv X (pins++nI fp s5.heap) UO H7 s7->N UO H7->∃m,m < n/\∃i σ' H',Inv X pins σ' H' s7/\tn i s7.heap/\(∀b∈fp,H' b=none)/\W i m σ' H':=λ{UO H7} I7 n7=>by
   let⟨m',hm,w7⟩:=hN UO H7 n7;refine⟨m',hm,i+1,UO,H7,I7.R9,T.keep _ _ _ Wz λb hb o e=>(I7.pin (b,o) (yE _ (yE _ (eD hb e)))).1,λb hb=>?_,w7⟩;let⟨o,e,d⟩:=T.obj _ _ Wz b hb;exact (I7.pin (b,o) (yE _ (yE _ (eD hb e)))).2.1
  cases f with
  | next=>let⟨UO,H7,I7,n7⟩:=q7;exact again I7 n7
  | cont=>let⟨UO,H7,I7,n7⟩:=q7;exact again I7 n7
  | brk=>let⟨UO,H7,I7,q7⟩:=q7;exact⟨UO,H7,I7.R9,q7⟩
  | ret v=>let⟨x7,UO,H7,I7,r7,q7⟩:=q7;exact⟨x7,UO,H7,I7.R9,r7,q7⟩
abbrev R2:=V->V->Hp->VK->Prop
def gp(X:Cx)(f:Value->Value->Sem Value)(r:R2):Prop :=
 ∀ (pins:List (Addr×Obj)) (s:Shared) (σ:St) (H:Hp) (x y:V) (v u:Value) (Q:VK),Inv X pins σ H s->RelV x v->RelV y u->r x y H Q ->
  wpAny (model X.prog X.w) X.A (f v u) (EP X pins σ Q) X.xe s
def QD(X:Cx)(f:Value->Sem Value)(r:V->Hp->VK->Prop):Prop :=
 ∀ (pins:List (Addr×Obj)) (s:Shared) (σ:St) (H:Hp) (x:V) (v:Value) (Q:VK),Inv X pins σ H s->RelV x v->r x H Q ->
  wpAny (model X.prog X.w) X.A (f v) (EP X pins σ Q) X.xe s
def eO(X:Cx)(f:Value)(r:List V->Hp->VK->Prop):Prop :=
 ∀ (pins:List (Addr×Obj)) (s:Shared) (σ:St) (H:Hp) (xs:List V) (us:List Value) (Q:VK),Inv X pins σ H s->aL xs us->r xs H Q ->
  wpAny (model X.prog X.w) X.A (call f us) (EP X pins σ Q) X.xe s
def NB(r:R2)(ta tb:TE):TE:=λσ H Q=>ta σ H λx H1=>tb σ H1 λy H2=>r x y H2 Q
def RA(r:V->Hp->VK->Prop)(ta:TE):TE:=λσ H Q=>ta σ H λx H1=>r x H1 Q
def rI(C:Int->Int->Prop)(g:Int->Int->V):R2:=λx y H Q=>∃i j,x=.int i/\y=.int j/\C i j/\Q (g i j) H
def Ht(g:Int->Int->V):R2:=λx y H Q=>∃i j,x=.int i/\y=.int j/\Q (g i j) H
def rU(g:Int->V):V->Hp->VK->Prop:=λx H Q=>∃i,x=.int i/\Q (g i) H
def MG(ha:PE X a ta)(hb:PE X b tb){pins:List (Addr×Obj)}{σ:St}{R:V->V->Hp->Prop}(I:Inv X pins σ H s)
  (h:ta σ H λx H1=>tb σ H1 λy H2=>R x y H2) {Q:Value->Shared->Prop}{f:Value->Value->Sem Value}
  (hf:∀v u s2 x y H2,Inv X pins σ H2 s2->RelV x v->RelV y u->R x y H2->wpAny (model X.prog X.w) X.A (f v u) Q X.xe s2) :
  wpAny (model X.prog X.w) X.A (eval a X.env) (λv RQ=>wpAny (model X.prog X.w) X.A (eval b X.env) (λu Vh=>wpAny (model X.prog X.w) X.A (f v u) Q X.xe Vh) X.xe RQ) X.xe s:=by
 refine b9 (ha pins s σ H _ I h) λv s1 ⟨x,H1,I1,r1,q1⟩=>?_;refine b9 (hb pins s1 σ H1 _ I1 q1) λu s2 ⟨y,H2,I2,r2,q2⟩=>?_;exact hf v u s2 x y H2 I2 r1 r2 q2
def DH(ho:gp X (binaryOp op) r)(ha:PE X a ta)(hb:PE X b tb):PE X (.BinOp a op b pos) (NB r ta tb):=by
 intro pins s σ H Q I h;exact wpAny_BinOp (MG ha hb I h λv u s2 x y H2 I2 rx ry q=>ho pins s2 σ H2 x y v u Q I2 rx ry q)
def Kp(ho:QD X (unaryOp op) r)(ha:PE X a ta):PE X (.UnaryOp op a pos) (RA r ta):=by
 intro pins s σ H Q I h;exact UnaryOp_ (b9 (ha pins s σ H _ I h) λv s1 ⟨x,H1,I1,r1,q1⟩=>ho pins s1 σ H1 x v Q I1 r1 q1)
def Qa{f:Value->Value->Sem Value}{C:Int->Int->Prop}{g:Int->Int->Int}
  (rule:∀ (i j:Int) (t u:Tok) (s:Shared) (Q:Value->Shared->Prop) (E:Value->Shared->Prop),C i j->Q (.int (g i j) s.toks) { s with toks:=s.toks+1 }->wpAny (model X.prog X.w) X.A (f (.int i t) (.int j u)) Q E s) :
  gp X f (rI C λi j=>.int (g i j)):=by
 intro pins s σ H x y v u Q I rx ry h;let⟨i,j,rfl,rfl,hc,q⟩:=h;let⟨t,rfl⟩:=rx;let⟨t',rfl⟩:=ry;exact rule i j t t' s _ _ hc ⟨.int (g i j),H,I.tok _,⟨_,rfl⟩,q⟩
def N3{f:Value->Value->Sem Value}{g:Int->Int->Int}
  (rule:∀ (i j:Int) (t u:Tok) (s:Shared) (Q:Value->Shared->Prop) (E:Value->Shared->Prop),Q (.int (g i j) s.toks) { s with toks:=s.toks+1 }->wpAny (model X.prog X.w) X.A (f (.int i t) (.int j u)) Q E s) :
  gp X f (Ht λi j=>.int (g i j)):=by
 intro pins s σ H x y v u Q I rx ry h;let⟨i,j,rfl,rfl,q⟩:=h;let⟨t,rfl⟩:=rx;let⟨t',rfl⟩:=ry;exact rule i j t t' s _ _ ⟨.int (g i j),H,I.tok _,⟨_,rfl⟩,q⟩
def M3{f:Value->Value->Sem Value}{g:Int->Int->Bool}
  (rule:∀ (i j:Int) (t u:Tok) (s:Shared) (Q:Value->Shared->Prop) (E:Value->Shared->Prop),Q (.bool (g i j)) s->wpAny (model X.prog X.w) X.A (f (.int i t) (.int j u)) Q E s) :
  gp X f (Ht λi j=>.bl (g i j)):=by
 intro pins s σ H x y v u Q I rx ry h;let⟨i,j,rfl,rfl,q⟩:=h;let⟨t,rfl⟩:=rx;let⟨t',rfl⟩:=ry;exact rule i j t t' s _ _ ⟨.bl (g i j),H,I,rfl,q⟩
def HM(i j:Int):Prop:=0 < j/\j < 1073741824
def pY(i j:Int):Prop:=(-(2 ^ 64) < i/\i < 2 ^ 64)\/(-(2 ^ 64) < j/\j < 2 ^ 64)
def pY.ok(h:pY i j):IntMulOk i j:=by
 rcases h with ⟨h1,h2⟩|⟨h1,h2⟩
 ·exact .of_left (intBits_le_64 h1 h2)
 ·exact .of_right (intBits_le_64 h1 h2)
def LP:gp X (binaryOp .Add) (Ht λi j=>.int (i+j)):=N3 λ_ _ _ _ _ _ _ q=>add_int q
def KP:gp X (binaryOp .Sub) (Ht λi j=>.int (i - j)):=N3 λ_ _ _ _ _ _ _ q=>sub_int q
def KG:gp X (binaryOp .Mult) (rI pY λi j=>.int (i * j)):=Qa λ_ _ _ _ _ _ _ hc q=>mul_int q hc.ok
def JC:gp X (binaryOp .FloorDiv) (rI HM λi j=>.int (i / j)):=Qa λi j _ _ _ _ _ hc q=>by
 have h1:(0:Int) < j:=hc.1;have h2:j < 1073741824:=hc.2;exact floordiv_int (by lia) (by rw[Int.fdiv_eq_ediv_of_nonneg i (by lia)];exact q) (.inl (PyProof.noPylong_small (by lia)))
def K1:gp X (binaryOp .Mod) (rI (λ_ j=>0 < j) λi j=>.int (i % j)):=Qa λi j _ _ _ _ _ hc q=>by
 have h1:(0:Int) < j:=hc;exact mod_int' (by lia) (by rw[Int.fmod_eq_emod_of_nonneg i (by lia)];exact q)
def Q3{f:Value->Sem Value}{g:Int->Int}
  (rule:∀ (i:Int) (t:Tok) (s:Shared) (Q:Value->Shared->Prop) (E:Value->Shared->Prop),Q (.int (g i) s.toks) { s with toks:=s.toks+1 }->wpAny (model X.prog X.w) X.A (f (.int i t)) Q E s) :
  QD X f (rU λi=>.int (g i)):=by
 intro pins s σ H x v Q I rx h;let⟨i,rfl,q⟩:=h;let⟨t,rfl⟩:=rx;exact rule i t s _ _ ⟨.int (g i),H,I.tok _,⟨_,rfl⟩,q⟩
def EN:QD X (unaryOp .USub) (rU λi=>.int (-i)):=Q3 λ_ _ _ _ _ q=>neg_int q
def jm:V->V->Bool
 | .RK,.RK=>true|.RK,.int _=>true|.int _,.RK=>true|.RK,.bl _=>true|.bl _,.RK=>true|.RK,.str _=>true|.str _,.RK=>true
 | .int _,.int _=>true|.bl _,.bl _=>true|.str _,.str _=>true|.Vd _,.Vd _=>true
 | .int _,.str _=>true|.str _,.int _=>true|.bl _,.str _=>true|.str _,.bl _=>true
 | _,_=>false
def Ro:R2:=λx y H Q=>jm x y=true/\Q (.bl (!decide (x=y))) H
def IE:decide (V.int i=V.int j)=(i == j):=by
 rw[vA];simp
def LA:decide (V.bl i=V.bl j)=(i == j):=by
 rw[vA];simp
def HQ:decide (V.str i=V.str j)=(i == j):=by
 rw[vA];simp
def JI:decide (V.Vd i=V.Vd j)=(i.toList == j.toList):=by
 rw[vA];cases i;cases j;simp
def cS(I:Inv X pins σ H s)(q:Q (.bl k) H)(e:k=k'):EP X pins σ Q (.bool k') s:=by
 subst e;exact⟨.bl k,H,I,rfl,q⟩
def OE:gp X (compareOp .NotEq) Ro:=by
 intro pins s σ H x y v u Q I rx ry h;let⟨hs,q⟩:=h;cases x with
 | RK =>
  cases rx;cases y with
  | RK=>cases ry;exact PySem.EqNone.ne_none_none (cS I q (by simp))
  | bl j=>cases ry;exact PySem.EqNone.ne_none_bool (cS I q (by simp))
  | int j=>let⟨t',rfl⟩:=ry;exact PySem.EqNone.ne_none_int (cS I q (by simp))
  | str j=>let⟨t',rfl⟩:=ry;exact PySem.EqNone.ne_none_str (cS I q (by simp))
  | _=>exact absurd (show false=true from hs) yY
 | bl i =>
  cases rx;cases y with
  | RK=>cases ry;exact PySem.EqNone.ne_bool_none (cS I q (by simp))
  | bl j=>cases ry;exact ne_bool (cS I q (jB not LA))
  | str j=>let⟨t',rfl⟩:=ry;exact PySem.EqMixed.ne_bool_str (cS I q (by simp))
  | _=>exact absurd (show false=true from hs) yY
 | int i =>
  let⟨t,rfl⟩:=rx;cases y with
  | RK=>cases ry;exact PySem.EqNone.ne_int_none (cS I q (by simp))
  | int j=>let⟨t',rfl⟩:=ry;exact ne_int (cS I q (jB not IE))
  | str j=>let⟨t',rfl⟩:=ry;exact PySem.EqMixed.ne_int_str (cS I q (by simp))
  | _=>exact absurd (show false=true from hs) yY
 | str i =>
  let⟨t,rfl⟩:=rx;cases y with
  | RK=>cases ry;exact PySem.EqNone.ne_str_none (cS I q (by simp))
  | bl j=>cases ry;exact PySem.EqMixed.ne_str_bool (cS I q (by simp))
  | int j=>let⟨t',rfl⟩:=ry;exact PySem.EqMixed.ne_str_int (cS I q (by simp))
  | str j=>let⟨t',rfl⟩:=ry;exact ne_str (cS I q (jB not HQ))
  | _=>exact absurd (show false=true from hs) yY
 | Vd i =>
  let⟨t,rfl⟩:=rx;cases y with
  | Vd j=>let⟨t',rfl⟩:=ry;exact W.ne_bytes (cS I q (jB not JI))
  | _=>exact absurd (show false=true from hs) yY
 | _=>cases y<;>exact absurd (show false=true from hs) yY
def Ge:gp X (compareOp .Lt) (Ht λi j=>.bl (decide (i < j))):=M3 λ_ _ _ _ _ _ _ q=>lt_int q
def DM:gp X (compareOp .LtE) (Ht λi j=>.bl (decide (i<=j))):=M3 λ_ _ _ _ _ _ _ q=>le_int q
def J5:gp X (compareOp .Gt) (Ht λi j=>.bl (decide (j < i))):=M3 λ_ _ _ _ _ _ _ q=>gt_int q
def DL:gp X (compareOp .Is) (λx y H Q=>y=.RK/\Q (.bl (decide (x=.RK))) H):=by
 intro pins s σ H x y v u Q I rx ry h;let⟨rfl,q⟩:=h;cases ry;refine is_none_gen (cS I q ?_);cases x<;>first
  | (cases rx;rfl)
  | (let⟨t,rfl⟩:=rx;rfl)
def Bl:gp X (compareOp .IsNot) (λx y H Q=>y=.RK/\Q (.bl (!decide (x=.RK))) H):=by
 intro pins s σ H x y v u Q I rx ry h;let⟨rfl,q⟩:=h;cases ry;refine isnot_none_gen (cS I q ?_);cases x<;>first
  | (cases rx;rfl)
  | (let⟨t,rfl⟩:=rx;rfl)
def isObj:HO->Bool
 | .lst _=>true
 | .ins _ _ _=>true
 | _=>false
def rK(I:Inv X pins σ H s)(h:H a=some o)(p:isObj o=true):∃ob,s.heap.get? a=some ob/\ob.cls≠.type "tuple":=by
 cases o with
 | lst xs =>
  obtain⟨_,its,n,_,e⟩:xs.length<=sizeLine/\∃ (its:List Value) (n:Nat),aL xs its/\s.heap.get? a=some { cls:=.type "list",data:=.seq its.toArray n }:=I.RO a _ h;exact⟨_,e,(by show Value.type "list"≠.type "tuple";decide +kernel)⟩
 | ins C dx fs =>
  have x:=I.RO a _ h;let⟨_,_,_,e,_⟩:=x;exact⟨_,e,(by show Value.ref C≠.type "tuple";exactλz=>by cases z)⟩
 | _=>exact absurd (show false=true from p) yY
def gp.or(h:gp X f r)(h':gp X f r'):gp X f (λx y H Q=>r x y H Q\/r' x y H Q):=by
 intro pins s σ H x y v u Q I rx ry q;rcases q with q|q
 ·exact h pins s σ H x y v u Q I rx ry q
 ·exact h' pins s σ H x y v u Q I rx ry q
def dY(b:Expr)(h:op≠.In:=by decide)(h2:op≠.NotIn:=by decide):behindInMarks op b=false:=by
 have e1:(op == CmpOp.In)=false:=by cases op<;>first|rfl|exact absurd rfl h
 have e2:(op == CmpOp.NotIn)=false:=by cases op<;>first|rfl|exact absurd rfl h2
 cases b<;>simp[behindInMarks,e1,e2]
def Ji(ho:gp X (compareOp op) r)(ha:PE X a ta)(hb:PE X b tb)(hm:behindInMarks op b=false):PE X (.Compare a [op] [b] pos) (NB r ta tb):=by
 intro pins s σ H Q I h;exact wpAny_Compare1 (MG ha hb I h λv u s2 x y H2 I2 rx ry q=>ho pins s2 σ H2 x y v u Q I2 rx ry q) hm
def J8(t:TE):TT:=λσ H Q=>t σ H λx H'=>∃k,x=.bl k/\Q k H'
def tR(ho:gp X (compareOp op) r)(ha:PE X a ta)(hb:PE X b tb)(hm:behindInMarks op b=false):PT X (.Compare a [op] [b] pos) (J8 (NB r ta tb)):=by
 intro pins s σ H Q I h;refine wpAny_isTrue_Compare1 (b9 (ha pins s σ H _ I h) λv s1 ⟨x,H1,I1,r1,q1⟩=>b9 (hb pins s1 σ H1 _ I1 q1) λu s2 ⟨y,H2,I2,r2,q2⟩ =>
  b9 (ho pins s2 σ H2 x y v u _ I2 r1 r2 q2) λc s3 ⟨z,H3,I3,r3,k,e,q3⟩=>?_) hm
 subst e;cases r3;exact xV ⟨H3,I3,q3⟩
def za(r r':R2)(ta tb tc:TE):TE:=λσ H Q=>ta σ H λx H1=>tb σ H1 λy H2=>r x y H2 λz H3=>∃k,z=.bl k /\
 (if k=true then tc σ H3 λw' H4=>r' y w' H4 Q else Q (.bl false) H3)
def FG(ho:gp X (compareOp op) r)(Tn:gp X (compareOp Uh) r')(ha:PE X a ta)(hb:PE X b tb)(hc:PE X c tc)
  (hm:lastMarks [op,Uh] [b,c]=false:=by with_unfolding_all rfl):PE X (.Compare a [op,Uh] [b,c] pos) (za r r' ta tb tc):=by
 intro pins s σ H Q I h;refine Compare_chain (b9 (ha pins s σ H _ I h) λv s1 ⟨x,H1,I1,r1,q1⟩=>chain_link (b9 (hb pins s1 σ H1 _ I1 q1) λu s2 ⟨y,H2,I2,r2,q2⟩ =>
  b9 (ho pins s2 σ H2 x y v u _ I2 r1 r2 q2) λd s3 ⟨z,H3,I3,r3,k,e,q3⟩=>?_)) hm
 subst e;cases r3;refine xV ?_;cases k with
 | false=>exact ite_ff ⟨.bl false,H3,I3,rfl,q3⟩
 | true=>exact ite_tt (chain_last (b9 (hc pins s3 σ H3 _ I3 q3) λw' s4 ⟨z',H4,I4,r4,q4⟩=>Tn pins s4 σ H4 y z' u w' Q I4 r2 r4 q4))
def FP(ho:gp X (compareOp op) r)(Tn:gp X (compareOp Uh) r')(ha:PE X a ta)(hb:PE X b tb)(hc:PE X c tc)
  (hm:lastMarks [op,Uh] [b,c]=false:=by with_unfolding_all rfl):PT X (.Compare a [op,Uh] [b,c] pos) (J8 (za r r' ta tb tc)):=by
 intro pins s σ H Q I h;refine isTrue_chain (b9 (ha pins s σ H _ I h) λv s1 ⟨x,H1,I1,r1,q1⟩=>test_link (b9 (hb pins s1 σ H1 _ I1 q1) λu s2 ⟨y,H2,I2,r2,q2⟩ =>
  b9 (ho pins s2 σ H2 x y v u _ I2 r1 r2 q2) λd s3 ⟨z,H3,I3,r3,k,e,q3⟩=>?_)) hm
 subst e;cases r3;refine xV ?_;cases k with
 | false =>
  let⟨k',e',q'⟩:=q3;cases e';exact ite_ff ⟨H3,I3,q'⟩
 | true =>
  refine ite_tt (test_last (b9 (hc pins s3 σ H3 _ I3 q3) λw' s4 ⟨z',H4,I4,r4,q4⟩=>b9 (Tn pins s4 σ H4 y z' u w' _ I4 r2 r4 q4) λd' s5 ⟨z2,H5,I5,r5,k2,e2,q5⟩=>?_));subst e2;cases r5;exact xV ⟨H5,I5,q5⟩
def pO:(sizeLine:Nat) < 2 ^ 63:=by rw[qT];decide
def vals1(r:aL [x] us):∃u,us=[u]/\RelV x u:=by
 cases r with
 | cons r1 r2=>cases r2;exact⟨_,rfl,r1⟩
def vals2(r:aL [x,y] us):∃u w',us=[u,w']/\RelV x u/\RelV y w':=by
 cases r with
 | cons r1 r2 =>
  cases r2 with
  | cons r3 r4=>cases r4;exact⟨_,_,rfl,r1,r3⟩
section
variable {K:W.Frag}
end
structure ej(k:Nat)(A:Around):Prop where
 hd:A.handled=none
 dp:A.depth+3 * k+5 < recursionLimit
 un:A.units+16 * k+200 < cLine
def ej.mono(r:ej k A)(h:j<=k):ej j A:=⟨r.hd,by have:=r.dp;lia,by have:=r.un;lia⟩
def ej.deeper(r:ej (k+1) A)(env:Env):ej k (A.deeper env) :=
 ⟨r.hd,by have:=r.dp;show A.depth+1+3 * k+5 < _;lia,by have:=r.un;show A.units+3+16 * k+200 < _;lia⟩
def ej.in1(r:ej (k+1) A):ej k A.in1 :=
 ⟨r.hd,by have:=r.dp;show A.depth+3 * k+5 < _;lia,by have:=r.un;show A.units+1+16 * k+200 < _;lia⟩
def ej.depth(r:ej k A):A.depth < recursionLimit:=by have:=r.dp;lia
def ej.units(r:ej k A):A.units+64 < cLine:=by have:=r.un;lia
def PU:TA:=λ_ H Q=>Q [] H
def NS(ta:TE)(tr:TA):TA:=λσ H Q=>ta σ H λx H1=>tr σ H1 λxs H2=>Q (x::xs) H2
def dU:PA X [] PU:=λ_ _ _ _ H Q I h=>kJ ⟨[],H,I,.nil,h⟩
def bR(ha:PE X e te)(hr:PA X es t)(hs:starEach (e::es) X.env=(false,eval e X.env)::starEach es X.env:=by rfl):PA X (e::es) (NS te t):=by
 intro pos pins s σ H Q I h;rw[hs];show wpAny _ _ (spliced ((false,eval e X.env)::backTo pos (starEach es X.env))) _ _ s;refine jI (b9 (ha pins s σ H _ I h) λu s1 ⟨x,H1,I1,r1,q1⟩=>?_);exact b9 (hr pos pins s1 σ H1 _ I1 q1) λus s2 ⟨xs,H2,I2,r2,q2⟩=>⟨x::xs,H2,I2,.cons r1 r2,q2⟩
def P0(t:TA):TE:=λσ H Q=>t σ H λxs H1=>xs.length<=sizeLine/\∀p,H1 p=none->Q (.ref p) (upd H1 p (.tup xs))
def Pf(t:TA):TE:=λσ H Q=>t σ H λxs H1=>xs.length<=sizeLine/\∀p,H1 p=none->Q (.ref p) (upd H1 p (.lst xs))
def Ep{x1}(h:PA X es t):PE X (.Tuple es x1 pos) (P0 t):=by
 intro pins s σ H Q I hq;refine wpAny_Tuple_spliced (b9 (h pos pins s σ H _ I hq) λus s1 ⟨xs,H1,I1,r,z,q⟩=>⟨by rw[<- r.length];exact z,?_⟩);have hf:H1 s1.heap.objs.size=none:=I1.RO.fresh (yL _);refine⟨.ref s1.heap.objs.size,upd H1 s1.heap.objs.size (.tup xs),I1.laid (t':=s1.toks) (λb u e=>zU _ e) (yL _) ?_,rfl,q _ hf⟩;exact⟨z,us,r,⟨_,zX _ rfl,rfl,_,rfl⟩,_,zX _ rfl,rfl⟩
def Gv(h:PA X es t):PE X (.List es pos) (Pf t):=by
 intro pins s σ H Q I hq;refine wpAny_List_spliced (b9 (h pos pins s σ H _ I hq) λus s1 ⟨xs,H1,I1,r,z,q⟩=>⟨by rw[<- r.length];exact z,?_⟩);have hf:H1 s1.heap.objs.size=none:=I1.RO.fresh (yL _);refine⟨.ref s1.heap.objs.size,upd H1 s1.heap.objs.size (.lst xs),I1.laid (t':=s1.toks) (λb u e=>zU _ e) (yL _) ?_,rfl,q _ hf⟩;exact⟨z,us,0,r,zX _ rfl⟩
abbrev Sp:=List V->Hp->VK->XK->Prop
abbrev Hq:=List Env->Hp->Shared->XK->Value->Shared->Prop
structure zl(P:Program)(w:World)(K:W.Frag)(mg:Str->Option Value)(base:Heap)(A:Around)(outer:List Env)(s:Shared)(H:Hp):Prop where
 frames:A.frames=some outer
 mod:Mod K mg base
 bs:∀b o,base.get? b=some o->s.heap.get? b=some o/\H b=none
 UM:base.objs.size<=s.heap.objs.size
 SD:s.heap.FunFrames base outer
 Vf:∀b∈gO outer,H b=none
 RO:mV P w H s.heap
 bare:AllBare s.gens
def CE(outer:List Env)(P:Program)(w:World)(H:Hp)(s:Shared)(Q:VK)(u:Value)(s':Shared):Prop :=
 ∃v H',s'.os=s.os/\AllBare s'.gens/\Un (gO outer) [] H H' s.heap s'.heap/\mV P w H' s'.heap/\RelV v u/\Q v H'
def CR(CX:Hq)(outer:List Env)(P:Program)(w:World)(H:Hp)(s:Shared)(Q:VK)(E:XK)(r:Result)(s':Shared):Prop :=
 match r with
 | .ok (.ret u)=>CE outer P w H s Q u s'
 | .ok _=>False
 | .error e=>CX outer H s E e s'
structure oA(P:Program)(w:World)(K:W.Frag)(mg:Str->Option Value)(base:Heap)(CX:Hq)(k:Nat)(f:Addr)(fd:FuncData)(ps:List Str)(sp:Sp):Prop where
 len:∀vs H Q E,sp vs H Q E->vs.length=ps.length
 run:∀ (A:Around) (outer:List Env) (s:Shared) (H:Hp) (args:Args) (us:List Value) (vs:List V) (Q:VK) (E:XK),ej k A->zl P w K mg base A outer s H->BindsTo s fd args (ps.zip us)->aL vs us->sp vs H Q E ->
  codeAny (model P w) A (.call (.ref f) args) (CR CX outer P w H s Q E) s
def oA.mono{K:W.Frag}(F:oA P w K mg base CX j f fd ps sp)(h:j<=k) :
  oA P w K mg base CX k f fd ps sp:=⟨F.len,λA outer s H args us vs Q E hr=>F.run A outer s H args us vs Q E (hr.mono h)⟩
def Inv.WT(I:Inv X pins σ H s):zl X.prog X.w X.K X.mg X.base X.A X.stack s H :=
 ⟨I.ok.frames,I.ok.mod,I.bs,yD I.ok.UM I.sz,I.stack,I.SE,I.RO,I.bare⟩
def Inv.after(I:Inv X pins σ H s)(h:CE X.stack X.prog X.w H s Q u s'):EP X pins σ Q u s':=by
 let⟨v,H',os,bare,un,RO,r,q⟩:=h;let⟨hh,g,d,t,Yx⟩:=s';obtain rfl:Yx=s.os:=os;exact⟨v,H',I.call (h':=hh) (g':=g) (d':=d) (t':=t) (ch:=[]) un RO bare (λb z=>absurd z (by simp)),r,q⟩
def NN(sp:Sp)(VW:List V)(E:XK)(t:TA):TE:=λσ H Q=>t σ H λvs H1=>sp (vs++VW) H1 Q E
def Binds(K:W.Frag)(fd:FuncData)(ps:List Str)(ds:List Value):Prop :=
 ∀ (s:Shared) (us:List Value),K.In s.heap->(us++ds).length=ps.length->BindsTo s fd ⟨us,[]⟩ (ps.zip (us++ds))
def Binds.all{K:W.Frag}(h:∀us:List Value,us.length=ps.length->bindArgs fd ⟨us,[]⟩=pure (ps.zip us)):Binds K fd ps []:=λs us _ hl=>by
 rw[qE] at hl ⊢;exact .of_eq (h us hl)
def eu(CX:Hq)(X:Cx)(E:XK):Prop:=∀ (pins:List (Addr×Obj)) (σ:St) (H:Hp) (s:Shared) (e:Value) (s':Shared),Inv X pins σ H s->CX X.stack H s E e s'->X.xe e s'
def M1(F:oA X.prog X.w X.K X.mg X.base CX k f fd ps sp)(hr:ej k X.A)(hb:Binds X.K fd ps ds)(hd:aL VW ds)(hx:eu CX X E)
  (I:Inv X pins σ H s) (r:aL vs us) (h:sp (vs++VW) H Q E):wpAny (model X.prog X.w) X.A (call (.ref f) us) (EP X pins σ Q) X.xe s:=by
 have r2:aL (vs++VW) (us++ds):=r.append hd;have hl:(us++ds).length=ps.length:=by rw[<- r2.length];exact F.len _ _ _ _ h
 refine vP (jR (F.run X.A X.stack s H ⟨us,[]⟩ (us++ds) (vs++VW) Q E hr I.WT (hb s us I.Tt hl) r2 h) λr s' hq=>?_);cases r with
 | error e=>exact hx pins σ H s e s' I hq
 | ok fl =>
  cases fl with
  | ret u=>exact I.after hq
  | next=>exact False.elim hq
  | brk=>exact False.elim hq
  | cont=>exact False.elim hq
def tL(F:oA X.prog X.w X.K X.mg X.base CX k f fd ps sp)(hr:ej k X.A)(hg:Gl X x)(hm:X.mg x=some (.ref f))(hk:W.keepIn X.K (.ref f)=true)(hb:Binds X.K fd ps ds)(hd:aL VW ds)(hx:eu CX X E)
  (ha:PA X (e::es) t) (Si:(x == ("__debug__":Str))=false:=by decide) (he:starEach (e::es) X.env=(false,eval e X.env)::starEach es X.env:=by rfl) (Sv:(backTo pos (starEach es X.env)).any (·.1)=false:=by rfl) :
  PE X (.Call (.Name x p) (e::es) [] pos) (NN sp VW E t):=by
 intro pins s σ H Q I h;refine qX (k4 I hg hm ?_ Si);refine W.callWith_K (h₀:=X.base) I.ok.mod.VS hk (b9 (ha pos pins s σ H _ I h) λus s1 ⟨vs,H1,I1,r,q⟩=>⟨I1.Tt,?_⟩) he Sv;exact M1 F hr hb hd hx I1 r q
structure bX(N P:List Str)(sc:Scope):Prop where
 kind:sc.kind=.function
 co:sc.isCoroutine=false
 gen:sc.isGenerator=false
 nd:N.Nodup
 pre:N.take P.length=P
 par:∀x∈P,sc.names.lookup x=some .local \/ sc.names.lookup x=some .cell
 VX:∀y∈sc.names,y.2≠.free
def si{kindOf:Str->Option NameKind}:∀ {binds:List (Str×Value)}{m:Str->Option Value},(∀v,(x,v)∉binds)->bindL kindOf binds m x=m x
 | [],_,_=>rfl
 | (n,v)::r,m,h=>by
  unfold bindL;rw[si λw hw=>h w (zC _ hw)];split
  ·have:x≠n:=by rintro rfl;exact h v zE
   simp[this]
  ·rfl
def sQ{kindOf:Str->Option NameKind}:∀ {binds:List (Str×Value)}{m:Str->Option Value},(∀v,(x,v)∉binds)->bindC kindOf binds m x=m x
 | [],_,_=>rfl
 | (n,v)::r,m,h=>by
  unfold bindC;rw[sQ λw hw=>h w (zC _ hw)];split
  ·rfl
  ·have:x≠n:=by rintro rfl;exact h v zE
   simp[this]
def rP{kindOf:Str->Option NameKind}:∀ {P:List Str}{vs:List Value}{i:Nat}{m:Str->Option Value},P.Nodup->P[i]?=some x->vs[i]?=some v->kindOf x=some .local ->
  bindL kindOf (P.zip vs) m x=some v
 | [],_,_,_,_,h,_,_=>by simp at h
 | _::_,[],_,_,_,_,h,_=>by simp at h
 | p::P,w::vs,0,m,nd,h1,h2,hk=>by
  simp at h1 h2;subst h1;subst h2;show bindL kindOf ((p,w)::P.zip vs) m p=_;unfold bindL;rw[si λv hv=>(List.nodup_cons.mp nd).1 (vY hv).1,yK hk];simp
 | p::P,w::vs,i+1,m,nd,h1,h2,hk=>by
  show bindL kindOf ((p,w)::P.zip vs) m x=_;unfold bindL;exact rP (i:=i) (List.nodup_cons.mp nd).2 (by simpa using h1) (by simpa using h2) hk
def sM{kindOf:Str->Option NameKind}:∀ {P:List Str}{vs:List Value}{i:Nat}{m:Str->Option Value},P.Nodup->P[i]?=some x->vs[i]?=some v->kindOf x≠some .local ->
  bindC kindOf (P.zip vs) m x=some v
 | [],_,_,_,_,h,_,_=>by simp at h
 | _::_,[],_,_,_,_,h,_=>by simp at h
 | p::P,w::vs,0,m,nd,h1,h2,hk=>by
  simp at h1 h2;subst h1;subst h2;show bindC kindOf ((p,w)::P.zip vs) m p=_;unfold bindC;rw[sQ λv hv=>(List.nodup_cons.mp nd).1 (vY hv).1,yM hk];simp
 | p::P,w::vs,i+1,m,nd,h1,h2,hk=>by
  show bindC kindOf ((p,w)::P.zip vs) m x=_;unfold bindC;exact sM (i:=i) (List.nodup_cons.mp nd).2 (by simpa using h1) (by simpa using h2) hk
def start(N:List Str)(vs:List V):St:=vs.map some++List.replicate (N.length - vs.length) none
def pR(CX:Hq)(P:Program)(w:World)(K:W.Frag)(mg:Str->Option Value)(base:Heap)(N:List Str)(qual:Str)(scope:Scope)(f:Addr)(cd:Value)(A:Around)(outer:List Env)(s:Shared)(H:Hp)(E:XK):Cx where
 prog:=P
 w:=w
 K:=K
 mg:=mg
 base:=base
 A:=A.deeper (envOfC qual scope s.heap.objs.size f cd)
 N:=N
 RT:=s
 RM:=H
 env:=envOfC qual scope s.heap.objs.size f cd
 outer:=outer
 stack:=envOfC qual scope s.heap.objs.size f cd::outer
 ex:=[]
 calm:=true
 fn:=λ_=>true
 pn:=[]
 xe:=λe s'=>wpAny (model P w) (A.deeper (envOfC qual scope s.heap.objs.size f cd)) (leaving (envOfC qual scope s.heap.objs.size f cd) e) (λ_ S5=>CX outer H s E e S5) (λe' S5=>CX outer H s E e' S5) s'
def pj{sc:Scope}{n:Nat}(h:sc.names.lookup x=some .cell):∃c,(cellsFrom n sc.names []).lookup x=some c:=by
 have q:=W.cellsFrom_some sc.names n [] (.inl h);exact Option.isSome_iff_exists.mp q
def se{CX:Hq}{K:W.Frag}{mg:Str->Option Value}{ps:List Str}{scope:Scope}{cd:Value}{A:Around}{outer:List Env}{s:Shared}{E:XK}{us:List Value}{vs:List V}
  (S:bX N ps scope) (hd:A.handled=none) (e0:zl P w K mg base A outer s H) (hl:vs.length=ps.length) (r:aL vs us)
  (x:InCallC s s.heap.objs.size (bindL (envOfC qual scope s.heap.objs.size f cd).kindOf (ps.zip us) λ_=>none) (cellsFrom (s.heap.objs.size+1) scope.names []) (bindC (envOfC qual scope s.heap.objs.size f cd).kindOf (ps.zip us) λ_=>none) s1) :
  Inv (pR CX P w K mg base N qual scope f cd A outer s H E) [] (start N vs) H s1:=by
 have Sv:ps.length<=N.length:=by have:=jB List.length S.pre;rw[jV] at this;lia
 let⟨h1,tk,rfl,hk⟩:=x.done;have U6:∀b:Addr,b∉(pR CX P w K mg base N qual scope f cd A outer s H E).ex:=λb z=>absurd (show b∈([]:List Addr) from z) (by simp);refine⟨⟨e0.mod,S.kind,rfl,rfl,yL _,λy z c h1 h2=>?_,λy hy=>?_,λy c _ h=>?_,λ_=>hd,Around.frames_deeper e0.frames,.inr ⟨rfl,rfl⟩,λb z=>absurd z (U6 b),e0.bs,e0.UM,λb _ _=>U6 b,λb z=>absurd z (U6 b),e0.SD,e0.Vf⟩,
  rfl,e0.bare,Un.kept hk,⟨_,x.toInCall.ns,λi y v h1 h2 h3=>?_⟩,λy c h=>⟨_,x.cell y c h⟩,e0.RO.fresh (yL _),λy c h=>?_,λp hp=>absurd (show p∈([]:List (Addr×Obj)) from hp) (by simp),e0.RO.kept hk,?_⟩
 ·exact name_of_addr x.apart (jZ h1) (jZ h2)
 ·have hy:scope.names.lookup y=some .cell\/scope.names.lookup y=some .free:=hy;rcases hy with hy|hy
  ·exact pj hy
  ·exact absurd rfl (S.VX _ (jZ hy))
 ·exact jS (x.above y c (jZ h))
 ·have hi:i < vs.length:=by
   unfold start at h2;by_cases hi:i < vs.length
   ·exact hi
   ·rw[yS (by simpa using hi)] at h2;rw[yW] at h2;split at h2<;>cases h2
  have ha:vs[i]?=some v:=by
   unfold start at h2;rw[yR (by simpa using hi),zO] at h2;cases e:vs[i]? with
   | none=>rw[e] at h2;cases h2
   | some a=>rw[e] at h2;cases h2;rfl
  let⟨u,hu,rv⟩:=r.get ha;have hp:ps[i]?=some y:=by
   rw[<- S.pre,List.getElem?_take_of_lt (by lia)];exact h1
  have ndP:ps.Nodup:=by rw[<- S.pre];exact S.nd.sublist (List.take_sublist _ _)
  refine⟨u,rv,?_⟩;rcases S.par y (qA hp) with k|k
  ·exact .inl ⟨k,rP ndP hp hu k⟩
  ·let⟨c,e⟩:=pj (n:=s.heap.objs.size+1) k;refine .inr ⟨.inl k,c,e,?_⟩;have q:=x.cell y c e;rw[sM ndP hp hu (by show scope.names.lookup y≠_;rw[k];decide)] at q;exact q
 ·exact e0.RO.fresh (jS (x.above y c (jZ h)))
 ·unfold start;show _=N.length;rw[zN,zD,xK];lia
def DR{K:W.Frag}{kV:Value}
  {TV:Array (Option Value)}{N ps:List Str}{sp:Sp}(lk:K.lookup f=some ⟨oc,od,.func (W.fnOf name qual params body scope dV kV doc pm an R4 ct),TV⟩) (Se:W.codeIn K R4 qual=true) (S:bX N ps scope)
  (len:∀vs H Q E,sp vs H Q E->vs.length=ps.length)
  (WU:∀ (A:Around) (outer:List Env) (s:Shared) (H:Hp) (vs:List V) (Q:VK) (E:XK),ej k (A.deeper (envOfC qual scope s.heap.objs.size f R4))->sp vs H Q E ->
   ∃t,uy (pR CX P w K mg base N qual scope f R4 A outer s H E) body t/\t { nx:=λ_ H'=>Q .RK H',rt:=Q } (start N vs) H) :
  oA P w K mg base CX (k+1) f (W.fnOf name qual params body scope dV kV doc pm an R4 ct) ps sp:=by
 refine⟨len,λA outer s H args us vs Q E hr e0 hb r WA=>?_⟩;have hl:=len _ _ _ _ WA;have KX:K.In s.heap:=e0.mod.VS.keeps λb o e=>(e0.bs b o e).1;have lim:s.heap.NoLimit:=e0.mod.nolimit.keeps λb o e=>(e0.bs b o e).1;have UP:∀y∈ps.zip us,scope.names.lookup y.1=some .local \/ (scope.names.lookup y.1=some .cell/\((cellsFrom (s.heap.objs.size+1) scope.names []).lookup y.1).isSome=true):=λ⟨n,v⟩ hy=>by
  rcases S.par n (vY hy).1 with q|q
  ·exact .inl q
  ·exact .inr ⟨q,W.cellsFrom_some _ _ _ (.inl q)⟩
 refine codeAny_call_function hr.depth (KX _ _ lk) rfl S.co S.gen rfl (W.codeRec_of KX Se) (hb _ _ _ _ ?_);refine wpAny_newFunctionEnv_cells S.kind UP λenv he s1 x=>?_;subst he;refine⟨lim.keeps x.toInCall.keep,codeAny_func ?_⟩;let⟨t,ht,hq⟩:=WU A outer s H vs Q E (hr.deeper _) WA;have I:Inv (pR CX P w K mg base N qual scope f R4 A outer s H E) [] (start N vs) H s1:=se S hr.hd e0 hl r x;refine yZ (ht [] s1 (start N vs) H _ I hq) (λfl s' hs=>?_) λe s' hs=>hs;have fin:∀ {σ':St}{H':Hp}{v:V}{u:Value},Inv (pR CX P w K mg base N qual scope f R4 A outer s H E) [] σ' H' s'->RelV v u->Q v H'->CE outer P w H s Q u s' :=
  λ{σ' H' v u} J rv q=>⟨v,H',J.os,J.bare,J.base,J.RO,rv,q⟩
 cases fl with
 | ret u =>
  let⟨v,σ',H',J,rv,q⟩:=hs;exact fin J rv q
 | next =>
  let⟨σ',H',J,q⟩:=hs;exact fin (v:=V.RK) (u:=Value.none) J rfl q
 | brk =>
  let⟨_,_,_,q⟩:=hs;exact False.elim q
 | cont =>
  let⟨_,_,_,q⟩:=hs;exact False.elim q
section
variable {id T:String}
def O6(r:List V->Hp->VK->Prop)(t:TA):TE:=λσ H Q=>t σ H λvs H1=>r vs H1 Q
def mP(hc:eO X (.builtin id) r)(hg:Gl X x)(hm:X.mg x=none)(hv:bootBuiltins x=some (.builtin id))(ha:PA X (e::es) t)(hn:x≠"__name__":=by decide)(Si:(x == ("__debug__":Str))=false:=by decide)
  (he:starEach (e::es) X.env=(false,eval e X.env)::starEach es X.env:=by rfl) (Sv:(backTo pos (starEach es X.env)).any (·.1)=false:=by rfl):PE X (.Call (.Name x p) (e::es) [] pos) (O6 r t):=by
 intro pins s σ H Q I h;refine qX (iJ I hg hm hv ?_ hn Si);exact PyProof.Rows.callWith_builtin1 (b9 (ha pos pins s σ H _ I h) λus s1 ⟨vs,H1,I1,r1,q1⟩=>hc pins s1 σ H1 vs us Q I1 r1 q1) he Sv
def nH(hc:eO X (.type T) r)(hg:Gl X x)(hm:X.mg x=none)(hv:bootBuiltins x=some (.type T))(ha:PA X (e::es) t)(hn:x≠"__name__":=by decide)(Si:(x == ("__debug__":Str))=false:=by decide)
  (he:starEach (e::es) X.env=(false,eval e X.env)::starEach es X.env:=by rfl) (Sv:(backTo pos (starEach es X.env)).any (·.1)=false:=by rfl):PE X (.Call (.Name x p) (e::es) [] pos) (O6 r t):=by
 intro pins s σ H Q I h;refine qX (iJ I hg hm hv ?_ hn Si);exact qQ (b9 (ha pos pins s σ H _ I h) λus s1 ⟨vs,H1,I1,r1,q1⟩=>hc pins s1 σ H1 vs us Q I1 r1 q1) he Sv
end
end L2
namespace HT
open PySem PyProof.Rows
def lexLt:List Int->List Int->Bool
 | [],[]=>false
 | [],_::_=>true
 | _::_,[]=>false
 | x::xs,y::ys=>if x=y then lexLt xs ys else decide (x < y)
def et(x y:Int)(xs ys:List Int):lexLt (x::xs) (y::ys)=if x=y then lexLt xs ys else decide (x < y):=rfl
section
open PySem.SeqAt
open PySem.AutoSeq1 (wpAny_loadPart')
open PySem.MeetsSeq PySem.MeetsSeq2 PySem.MeetsSeq3
end
def IM(ht:IsTup s.heap t vs.toArray)(hb:IsTup s.heap b ws.toArray)(hv:vs≠[])
  (h1:ws=[]->Q (.ref t) s) (h2:ws≠[]->Q (.ref s.heap.objs.size) { s with heap:=s.heap.push { cls:=.type "tuple",data:=.seq (vs++ws).toArray } })
  (hsz:vs.length+ws.length<=sizeLine):wpAny (model prog w) A (binaryOp .Add (.ref t) (.ref b)) Q E s:=by
 let⟨⟨cls,dd,data,sl⟩,ho,hc,n,hd⟩:=id ht;let⟨⟨WV,WB,data2,Vx⟩,U7,Ut,n2,hd2⟩:=id hb;simp only at hc hd Ut hd2;subst hc hd Ut hd2;have e:vs.toArray++ws.toArray=(vs++ws).toArray:=by simp
 by_cases hw:ws=[]
 ·exact Za ⟨_,ho,rfl⟩ ⟨_,U7,rfl⟩ noFill_tuple_add seq_tuple_add vS vM (vJ _ _)
   (tuple_addW1 t b vs.toArray ws.toArray n n2 dd WB sl Vx (by simpa using hv) (by simp[hw])) ⟨ho,U7,h1 hw⟩
 ·refine Za ⟨_,ho,rfl⟩ ⟨_,U7,rfl⟩ noFill_tuple_add seq_tuple_add vS vM (vJ _ _)
   (tuple_addW2 t b vs.toArray ws.toArray n n2 dd WB sl Vx (by simpa using hv) (by simpa using hw) (by rw[zH,zH];exact hsz)) ⟨ho,U7,?_⟩
  rw[e];exact h2 hw
def dH(n d:Nat):Option Int->Nat
 | none=>d
 | some v=>if v < 0 then (v+(n:Int)).toNat else min v.toNat n
def vv(n d:Nat):dH n d none=d:=rfl
def Bs(n d k:Nat):dH n d (some (k:Int))=min k n:=by
 show (if (k:Int) < 0 then ((k:Int)+(n:Int)).toNat else min (k:Int).toNat n)=min k n;rw[yM (by lia),yG]
def LB(n d:Nat)(hd:d<=n)(o:Option Int):dH n d o<=n:=by
 cases o with
 | none=>exact hd
 | some v =>
  show (if v < 0 then (v+(n:Int)).toNat else min v.toNat n)<=n;by_cases hv:v < 0
  ·rw[yK hv];lia
  ·rw[yM hv];exact Nat.min_le_right _ _
def AW(v:Int)(n d:Nat):(if v < 0 then max (v+(n:Int)) 0 else min v (n:Int))=((dH n d (some v):Nat):Int):=by
 show (if v < 0 then max (v+(n:Int)) 0 else min v (n:Int))=(((if v < 0 then (v+(n:Int)).toNat else min v.toNat n):Nat):Int)
 by_cases hv:v < 0
 ·simp?[yK hv];lia
 ·simp?[yM hv];lia
def zj(lo hi:Option Int)(n:Nat):Builtin.Slice.sliceAdjust lo hi 1 (n:Int)=(((dH n 0 lo:Nat):Int),((dH n n hi:Nat):Int)):=by
 have h1:¬ ((1:Int) < 0):=by lia
 unfold Builtin.Slice.sliceAdjust;simp?[h1,qN];refine Prod.ext ?_ ?_
 ·cases lo with
  | none=>rfl
  | some v=>exact AW v n 0
 ·cases hi with
  | none=>rfl
  | some v=>exact AW v n n
def Al(i j:Nat):Builtin.Slice.slicePlaces (i:Int) (j:Int) 1=j - i:=by
 unfold Builtin.Slice.slicePlaces;have h1:(1:Int) > 0:=by lia
 simp?[h1,xG,Int.ediv_one];split<;>lia
def qb(p:IsPart v o)(h:Q o s):wpAny (model prog w) A (Builtin.Slice.slicePartIndex v) Q E s:=by
 cases p with
 | none=>exact slicePart_none h
 | int i t=>exact slicePart_int h
def hV{vl:Value}{lo hi:Option Int}{n:Nat}{Q:Int×Int×Nat->Shared->Prop}(hs:s.heap.IsSliceOf sl vl vu .none)(pl:IsPart vl lo)(pu:IsPart vu hi)
  (h:Q (((dH n 0 lo:Nat):Int),1,dH n n hi - dH n 0 lo) s):wpAny (model prog w) A (Builtin.Slice.sliceApplied (.ref sl) (pure (n:Int))) Q E s:=by
 let⟨os,Ui,WC,Uj⟩:=id hs;unfold Builtin.Slice.sliceApplied Builtin.Slice.sliceFields;refine zV (zV (qS Ui Uj (x:=vl) rfl (zV (qS Ui Uj (x:=vu) rfl (zV (qS Ui Uj (x:=.none) rfl (zW ?_)))))));refine zV (slicePart_none ?_);show wpAny _ _ (if ((1:Int) == 0)=true then _ else _) _ _ s;rw[yM (by decide)];refine zV (qb pl (zV (qb pu (zV (zW ?_)))));show wpAny _ _ (match Builtin.Slice.sliceAdjust lo hi 1 (n:Int) with|(lo,hi)=>pure (lo,(1:Int),Builtin.Slice.slicePlaces lo hi 1)) _ _ s;rw[zj lo hi n];show wpAny _ _ (pure (((dH n 0 lo:Nat):Int),(1:Int),Builtin.Slice.slicePlaces ((dH n 0 lo:Nat):Int) ((dH n n hi:Nat):Int) 1)) _ _ s;rw[Al];exact zW h
def FC(xs:Array Value)(i k:Nat):((List.range k).filterMap λ(m:Nat)=>xs[((i:Int)+(m:Int) * 1).toNat]?).toArray=((xs.toList.drop i).take k).toArray:=by
 have e:(λ(m:Nat)=>xs[((i:Int)+(m:Int) * 1).toNat]?)=λm=>xs[i+m]?:=by
  funext m;have:((i:Int)+(m:Int) * 1).toNat=i+m:=by lia
  rw[this]
 rw[e];have:=pick_run xs i k;rw[List.filterMap_map] at this;have e2:((λx=>xs[x]?) ∘ λx=>i+x)=λm=>xs[i+m]?:=rfl;rw[e2] at this;rw[this]
def mq{items:Array Value}{vl:Value}{lo:Option Int}(ht:IsTup s.heap t items)(hs:s.heap.IsSliceOf sl vl vu .none)(pl:IsPart vl lo)(pu:IsPart vu hi)
  (hw:¬ (dH items.size 0 lo=0/\dH items.size items.size hi=items.size))
  (h:Q (.ref s.heap.objs.size) { s with heap:=s.heap.push { cls:=.type "tuple",data:=.seq ((items.toList.drop (dH items.size 0 lo)).take (dH items.size items.size hi - dH items.size 0 lo)).toArray } })
  (hsz:items.size<=sizeLine):wpAny (model prog w) A (getItem (.ref t) (.ref sl)) Q E s:=by
 have Uk:sizeOk (.seq ((items.toList.drop (dH items.size 0 lo)).take (dH items.size items.size hi - dH items.size 0 lo)).toArray):=by
  show ((items.toList.drop (dH items.size 0 lo)).take (dH items.size items.size hi - dH items.size 0 lo)).toArray.size<=sizeLine;rw[zH,jV,qG,wM];lia
 have hj:dH items.size items.size hi<=items.size:=LB _ _ (yL _) hi;let⟨os,Ui,WC,Uj⟩:=id hs;have WW:s.TypeIs (.ref sl) "slice":=⟨os,Ui,WC⟩
 unfold getItem
 try with_reducible refine xW ?_
 first|refine zV (zW ?_)|skip
 refine zV (wpAny_sequenceKey ht.typeIs (by decide) ?_);refine zV (qB (name:=Str.ofString "__getitem__") ht.typeIs jE
  (qU jE ht.typeIs entry_tuple_getitem ?_ (args_tuple_getitem _ _)))
 show wpAny _ _ (Builtin.Tuple.tupleItemsOf (.ref t) >>= _) _ _ s;refine zV (tupleItemsOf_ ht ?_);refine zV (wY WW ?_);rw[yK (by decide)];refine zV (hV hs pl pu ?_);have Vi:¬ ((((dH items.size 0 lo:Nat):Int) == 0&&(1:Int) == 1&&(dH items.size items.size hi - dH items.size 0 lo) == items.size)=true):=by
  intro q;rw[zF,zF] at q;have q1:((dH items.size 0 lo:Nat):Int)=0:=eq_of_beq q.1.1;have q2:dH items.size items.size hi - dH items.size 0 lo=items.size:=eq_of_beq q.2;exact hw ⟨by lia,by lia⟩
 show wpAny _ _ (if (((dH items.size 0 lo:Nat):Int) == 0&&(1:Int) == 1&&(dH items.size items.size hi - dH items.size 0 lo) == items.size)=true then _ else _) _ _ s;rw[yM Vi,FC]
 first
  | exact zV (m:=Builtin.Tuple.tupleExact _) (qK (zW ⟨_,rfl,zW h⟩) Uk)
  | exact zV (m:=Builtin.Tuple.tupleExact _) (qK (zV (zW (zW ⟨_,rfl,zW h⟩))) Uk)
  | exact zV (zV (m:=Builtin.Tuple.tupleExact _) (qK (zW (zW ⟨_,rfl,zW h⟩)) Uk))
  | exact zV (zV (m:=Builtin.Tuple.tupleExact _) (qK (zW ⟨_,rfl,zW h⟩) Uk))
end HT
namespace L2
open PySem PySem.Spec PyProof.Rows
abbrev TO:=St->Hp->(Option Int->Hp->Prop)->Prop
def PO(X:Cx)(e:Option Expr)(t:TO):Prop :=
 ∀ (pins:List (Addr×Obj)) (s:Shared) (σ:St) (H:Hp) (Q:Option Int->Hp->Prop),Inv X pins σ H s->t σ H Q ->
  wpAny (model X.prog X.w) X.A (evalPart e X.env) (λu s'=>∃o H',Inv X pins σ H' s'/\IsPart u o/\Q o H') X.xe s
def Jq:TO:=λ_ H Q=>Q none H
def NP(t:TE):TO:=λσ H Q=>t σ H λx H1=>∃i,x=.int i/\Q (some i) H1
def intsAre_of:∀ {us:List Value},aL (ns.map V.int) us->IntsAre us ns:=by
 induction ns with
 | nil=>intro us r;rw[yT] at r;cases r;exact .nil
 | cons n ns ih =>
  intro us r;rw[zI] at r;cases r with
  | cons r1 r2 =>
   let⟨t,e⟩:=r1;subst e;exact .cons n t (ih r2)
section
variable {lo hi:Option Expr}
def Iq:PO X none Jq:=by
 intro pins s σ H Q I h;rw[evalPart_none];exact zW ⟨none,H,I,.none,h⟩
def BD(h:PE X e te):PO X (some e) (NP te):=by
 intro pins s σ H Q I hw;rw[evalPart_some];refine b9 (h pins s σ H _ I hw) λu s1 ⟨x,H1,I1,r1,q1⟩=>?_;let⟨i,rfl,q⟩:=q1;let⟨t,rfl⟩:=r1;exact⟨some i,H1,I1,.int i t,q⟩
def J6(X:Cx)(r:V->Option Int->Option Int->Hp->VK->Prop):Prop :=
 ∀ (pins:List (Addr×Obj)) (s:Shared) (σ:St) (H:Hp) (x:V) (v vl vu:Value) (lo hi:Option Int) (sl:Addr) (Q:VK),Inv X pins σ H s->RelV x v->s.heap.IsSliceOf sl vl vu .none->IsPart vl lo->IsPart vu hi->r x lo hi H Q ->
  ∃T id,typeLookup (.type T) "__getitem__"=pure (some (.builtin id))/\s.TypeIs v T/\wpAny (model X.prog X.w) X.A (getItem v (.ref sl)) (EP X pins σ Q) X.xe s
def J6.or(h:J6 X r)(h':J6 X r'):J6 X (λx lo hi H Q=>r x lo hi H Q\/r' x lo hi H Q):=by
 intro pins s σ H x v vl vu lo hi sl Q I rx hs pl pu q;rcases q with q|q
 ·exact h pins s σ H x v vl vu lo hi sl Q I rx hs pl pu q
 ·exact h' pins s σ H x v vl vu lo hi sl Q I rx hs pl pu q
def Ry(r:V->Option Int->Option Int->Hp->VK->Prop)(te:TE)(tl th:TO):TE:=λσ H Q=>te σ H λx H1=>tl σ H1 λl H2=>th σ H2 λu H3=>r x l u H3 Q
def Fp(hr:J6 X r)(he:PE X e te)(hl:PO X lo tl)(hu:PO X hi th):PE X (.Subscript e (.Slice lo hi none p2) pos) (Ry r te tl th):=by
 intro pins s σ H Q I h;refine Subscript_ (b9 (he pins s σ H _ I h) λv s1 ⟨x,H1,I1,r1,q1⟩=>?_);refine wpAny_Slice (b9 (hl pins s1 σ H1 _ I1 q1) λvl s2 ⟨l,H2,I2,pl,q2⟩=>b9 (hu pins s2 σ H2 _ I2 q2) λvu s3 ⟨u,H3,I3,pu,q3⟩=>?_);rw[evalPart_none];refine zW ?_;have I4:Inv X pins σ H3 { s3 with heap:=s3.heap.push { cls:=.type "slice",data:=.fields #[vl,vu,.none] } }:=I3.kept (t':=s3.toks) λb ob q=>zU _ q;let⟨T,id,hT,ht,hg⟩:=hr pins { s3 with heap:=s3.heap.push { cls:=.type "slice",data:=.fields #[vl,vu,.none] } } σ H3 x v vl vu l u s3.heap.objs.size Q I4 r1 (Heap.IsSliceOf.new ..) pl pu q3;show wpAny (model X.prog X.w) X.A (subscriptTail e (.Slice lo hi none p2) v (.ref s3.heap.objs.size)) (EP X pins σ Q) X.xe { s3 with heap:=s3.heap.push { cls:=.type "slice",data:=.fields #[vl,vu,.none] } };exact tail_any (ops:=[.ref s3.heap.objs.size,v]) ht hT hg (by with_unfolding_all rfl)
def HG(xs:List V)(lo hi:Option Int):List V:=(xs.drop (HT.dH xs.length 0 lo)).take (HT.dH xs.length xs.length hi - HT.dH xs.length 0 lo)
def u5(xs:List V)(lo hi:Option Int):(HG xs lo hi).length<=xs.length:=by
 unfold HG;rw[jV,qG];lia
def Qg(K:W.Frag):V->Option Int->Option Int->Hp->VK->Prop:=λx lo hi H Q=>∃a xs,x=.ref a/\fM K H a xs /\
 ¬ (HT.dH xs.length 0 lo=0/\HT.dH xs.length xs.length hi=xs.length)/\∀p,H p=none->Q (.ref p) (upd H p (.tup (HG xs lo hi)))
def Lw:J6 X (Qg X.K):=by
 intro pins s σ H x v vl vu lo hi sl Q I rx hs pl pu h;let⟨a,xs,rfl,hx,hw,q⟩:=h;cases rx;let⟨its,r,ht,hz⟩:=I.tuple hx;have hlen:its.toArray.size=xs.length:=by rw[zH];exact r.length.symm
 refine⟨"tuple",_,PyProof.Rows.slot_tuple_getitem.lookup,ht.typeIs,?_⟩;refine HT.mq ht hs pl pu (by rw[hlen];exact hw) ?_ (by rw[hlen];exact hz);rw[hlen];refine⟨.ref s.heap.objs.size,_,I.laid (t':=s.toks) (o:=.tup (HG xs lo hi)) (λb ob q=>zU _ q) (yL _) ?_,rfl,q _ (I.RO.fresh (yL _))⟩;exact⟨yD (u5 xs lo hi) hz,_,(r.drop (HT.dH xs.length 0 lo)).take (HT.dH xs.length xs.length hi - HT.dH xs.length 0 lo),ow.new _ _⟩
def NQ(K:W.Frag):R2:=λx y H Q=>∃a b xs ys,x=.ref a/\y=.ref b/\fM K H a xs/\fM K H b ys/\xs≠[]/\xs.length+ys.length<=sizeLine /\
 (ys=[]->Q (.ref a) H)/\(ys≠[]->∀p,H p=none->Q (.ref p) (upd H p (.tup (xs++ys))))
def aL.SU(r:aL xs us):us=[]↔xs=[]:=by
 cases r with
 | nil=>simp
 | cons _ _=>simp
def Ig:gp X (binaryOp .Add) (NQ X.K):=by
 intro pins s σ H x y v u Q I rx ry h;let⟨a,b,xs,ys,rfl,rfl,ha,hb,hx,hz,q1,q2⟩:=h;cases rx;cases ry;let⟨its,r1,p1,_⟩:=I.tuple ha;let⟨SM,r2,p2,_⟩:=I.tuple hb;refine HT.IM p1 p2 (λz=>hx (r1.SU.mp z)) (λz=>⟨.ref a,H,I,rfl,q1 (r2.SU.mp z)⟩) (λz=>?_) (by rw[<- r1.length,<- r2.length];exact hz);refine⟨.ref s.heap.objs.size,_,I.laid (t':=s.toks) (o:=.tup (xs++ys)) (λb ob q=>zU _ q) (yL _) ?_,rfl,q2 (λw=>z (r2.SU.mpr w)) _ (I.RO.fresh (yL _))⟩;exact⟨by rw[zN];exact hz,_,r1.append r2,ow.new _ _⟩
end
def E2(n:Nat)(i:Int):Option Nat:=if 0<=i then (if i < n then some i.toNat else none) else if -(n:Int)<=i then some (i+n).toNat else none
def rq(xs:List α)(i:Int):Option α:=(E2 xs.length i).bind λj=>xs[j]?
def Ba(h:E2 n i=some j):seqIndex? i n=some j/\j < n/\-(n:Int)<=i/\i < n:=by
 unfold E2 at h;by_cases h0:0<=i
 ·rw[yK h0] at h;by_cases h1:i < n
  ·rw[yK h1] at h;have e:i.toNat=j:=xC h;exact⟨by rw[seqIndex_of h0 h1,e],by lia,by lia,h1⟩
  ·rw[yM h1] at h;cases h
 ·rw[yM h0] at h;by_cases h1:-(n:Int)<=i
  ·rw[yK h1] at h;have e:(i+n).toNat=j:=xC h;exact⟨by rw[seqIndex_neg (by lia) h1,e],by lia,h1,by lia⟩
  ·rw[yM h1] at h;cases h
def tm(h:rq xs i=some v):∃j,seqIndex? i xs.length=some j/\xs[j]?=some v/\j < xs.length/\-(xs.length:Int)<=i/\i < xs.length:=by
 unfold rq at h;cases e:E2 xs.length i with
 | none=>rw[e] at h;cases h
 | some j =>
  rw[e] at h;let⟨h1,h2,h3,h4⟩:=Ba e;exact⟨j,h1,h,h2,h3,h4⟩
def uk{α:Type}{xs:List α}{j:Nat}{v:α}(h:xs[j]?=some v):rq xs (j:Int)=some v:=by
 have hj:j < xs.length:=(List.getElem?_eq_some_iff.mp h).1;have e:E2 xs.length (j:Int)=some j:=by
  unfold E2;rw[yK (by lia),yK (by lia)];simp
 unfold rq;rw[e];exact h
def uf(b:Expr):Prop:=∀o i,subscripted b false o i=operate [o,i] (getItem o i)
def Hb(X:Cx)(r:R2):Prop :=
 ∀ (value slice:Expr) (pins:List (Addr×Obj)) (s:Shared) (σ:St) (H:Hp) (x y:V) (v u:Value) (Q:VK),Inv X pins σ H s->RelV x v->RelV y u->r x y H Q ->
  subscripted slice false v u=operate [v,u] (getItem v u)->wpAny (model X.prog X.w) X.A (subscriptTail value slice v u) (EP X pins σ Q) X.xe s
def Q1(X:Cx)(id:String)(r:V->List V->Hp->VK->Prop):Prop :=
 ∀ (pins:List (Addr×Obj)) (s:Shared) (σ:St) (H:Hp) (x:V) (xs:List V) (v:Value) (us:List Value) (Q:VK),Inv X pins σ H s->RelV x v->aL xs us->r x xs H Q ->
  wpAny (model X.prog X.w) X.A (call (.builtin id) (v::us)) (EP X pins σ Q) X.xe s
section
def Hb.or(h:Hb X r)(h':Hb X r'):Hb X (λx y H Q=>r x y H Q\/r' x y H Q):=by
 intro value slice pins s σ H x y v u Q I rx ry q hs;rcases q with q|q
 ·exact h value slice pins s σ H x y v u Q I rx ry q hs
 ·exact h' value slice pins s σ H x y v u Q I rx ry q hs
def NX(hr:Hb X r)(ha:PE X a ta)(hb:PE X b tb)(hs:uf b):PE X (.Subscript a b pos) (NB r ta tb):=by
 intro pins s σ H Q I h;exact Subscript_ (MG ha hb I h λv u s2 x y H2 I2 rx ry q=>hr a b pins s2 σ H2 x y v u Q I2 rx ry q (hs _ _))
def Om(K:W.Frag):R2:=λx y H Q=>∃p xs i v,x=.ref p/\y=.int i/\gH K H p xs/\rq xs i=some v/\Q v H
def Ng(K:W.Frag):R2:=λx y H Q=>∃p xs i v,x=.ref p/\y=.int i/\fM K H p xs/\rq xs i=some v/\Q v H
def Nm:R2:=λx y H Q=>∃z i c,x=.str z/\y=.int i/\z.length<=sizeLine/\rq z.cps.toList i=some c/\Q (.str ⟨#[c]⟩) H
def Iu:Hb X (Om X.K):=by
 intro value slice pins s σ H x y v u Q I rx ry h hs;let⟨p,xs,i,z,rfl,rfl,hq,he,q⟩:=h;cases rx;let⟨t,rfl⟩:=ry;let⟨its,r,pl,hz⟩:=I.list hq;let⟨j,h1,h2,h3,h4,h5⟩:=tm he;let⟨w,ew,VY⟩:=r.get h2;have hl:=r.length;have hn:=pO;have fin:EP X pins σ Q w s:=⟨z,H,I,VY,q⟩
 by_cases h0:0<=i
 ·have hj:i.toNat=j:=by
   rw[seqIndex_of h0 h5] at h1;exact xC h1
  exact item_listR pl.isList h0 (by lia) (by rw[hj];simpa using ew) fin hs
 ·have hj:(i+(its.toArray.size:Int)).toNat=j:=by
   rw[seqIndex_neg (by lia) h4] at h1;rw[zH,<- hl];exact xC h1
  exact subscriptTail_builtinR (x:=w) pl.isList.typeIs slot_list_getitem.lookup
   (wpAny_getItem_list_neg (Q:=λr s'=>r=w/\EP X pins σ Q r s') pl.isList (by lia) (by rw[zH]<;>lia) (by lia) (by rw[hj];simpa using ew) ⟨rfl,fin⟩) hs
def Ad:Hb X (Ng X.K):=by
 intro value slice pins s σ H x y v u Q I rx ry h hs;let⟨p,xs,i,z,rfl,rfl,hq,he,q⟩:=h;cases rx;let⟨t,rfl⟩:=ry;let⟨its,r,pl,hz⟩:=I.tuple hq;let⟨j,h1,h2,h3,h4,h5⟩:=tm he;let⟨w,ew,VY⟩:=r.get h2;have hl:=r.length;have hn:=pO;have fin:EP X pins σ Q w s:=⟨z,H,I,VY,q⟩
 exact subscriptTail_builtinR (x:=w) pl.typeIs slot_tuple_getitem.lookup
  (getItem_tuple (j:=j) (Q:=λr s'=>r=w/\EP X pins σ Q r s') pl (by lia) (by lia) (by rw[zH,<- hl];exact h1) (by simpa using ew) ⟨rfl,fin⟩) hs
def LO:Hb X Nm:=by
 intro value slice pins s σ H x y v u Q I rx ry h hs;let⟨z,i,c,rfl,rfl,hz,he,q⟩:=h;let⟨t,rfl⟩:=rx;let⟨t',rfl⟩:=ry;let⟨j,h1,h2,h3,h4,h5⟩:=tm he;have hl:z.cps.toList.length=z.length:=by simp[Str.length]
 rw[hl] at h1 h4 h5;have hn:=pO;exact tail_any (typeIs_str s z t) slot_str_getitem.lookup (getItem_str (c:=c) (by
  have e1:decide (i < -(2 ^ 63:Int))=false:=zZ (by lia);have e2:decide (i >= 2 ^ 63)=false:=zZ (by lia);rw[e1,e2,Bool.or_false]) (by rw[h1];simpa using h2) ⟨.str ⟨#[c]⟩,H,I.tok _,⟨_,rfl⟩,q⟩) hs
def QU(K:W.Frag):R2:=λx y H Q=>Om K x y H Q\/Ng K x y H Q\/Nm x y H Q
def My:Hb X (QU X.K):=Iu.or (Ad.or LO)
def zd(its:List Value)(n j:Nat)(u:Value):Obj.mapSeq (·.setIfInBounds j u) { cls:=.type "list",data:=.seq its.toArray n }={ cls:=.type "list",data:=.seq (its.set j u).toArray n }:=by
 simp[Obj.mapSeq]
def Inv.lst(I:Inv X pins σ H s)(h:H p=some (.lst xs)) :
  ∃ (its:List Value) (n:Nat),aL xs its/\s.heap.get? p=some { cls:=.type "list",data:=.seq its.toArray n }/\xs.length<=sizeLine:=by
 let⟨z,its,n,r,e⟩:=I.RO p _ h;exact⟨its,n,r,e,z⟩
def Inv.VZ{ys:List V}{its its':List Value}{n n':Nat}{f:Obj->Obj}(I:Inv X pins σ H s)(h:H p=some (.lst xs))
  (ho:s.heap.get? p=some { cls:=.type "list",data:=.seq its.toArray n }) (hf:f { cls:=.type "list",data:=.seq its.toArray n }={ cls:=.type "list",data:=.seq its'.toArray n' }) (r:aL ys its') (hz:ys.length<=sizeLine) (t:Nat) :
  Inv X pins σ (upd H p (.lst ys)) { s with heap:=s.heap.update p f,toks:=t }:=by
 have e:(s.heap.update p f).get? p=some { cls:=.type "list",data:=.seq its'.toArray n' }:=by
  rw[Heap.get?_update_self f ho (by rw[hf]<;>rfl),hf]
 refine I.write (x:=p) (e:=p) (by rw[h];trivial) (.inl rfl) (λb u hb q=>(xM _ _ (jM hb)).trans q) ⟨_,e⟩ ?_;exact⟨hz,its',n',r,e⟩
def Nu:V->V->V->Hp->(Hp->Prop)->Prop:=λo i v H Q=>∃p xs k j,o=.ref p/\i=.int k/\H p=some (.lst xs)/\E2 xs.length k=some j/\Q (upd H p (.lst (xs.set j v)))
def set_list:Mh X Nu:=by
 intro pins s σ H o i v ov iv u Q I ro ri rv h;let⟨p,xs,k,j,rfl,rfl,hp,hj,q⟩:=h;cases ro;let⟨t,rfl⟩:=ri;let⟨its,n,r,ho,hz⟩:=I.lst hp;let⟨h1,h2,h3,h4⟩:=Ba hj;have hl:=r.length;have hn:=pO;have I':Inv X pins σ (upd H p (.lst (xs.set j v))) { s with heap:=s.heap.update p (Obj.mapSeq (·.setIfInBounds j u)) } :=
  I.VZ hp ho (zd its n j u) (r.set rv j) (by rw[yC];exact hz) s.toks
 by_cases h0:0<=k
 ·have hk:k.toNat=j:=by
   rw[seqIndex_of h0 h4] at h1;exact xC h1
  exact W.ki_setAt ho h0 (by lia) (by rw[zH,<- hl];exact h4) (by rw[hk];exact⟨_,I',q⟩)
 ·have hk:(k+(its.toArray.size:Int)).toNat=j:=by
   rw[seqIndex_neg (by lia) h3] at h1;rw[zH,<- hl];exact xC h1
  exact W.ki_setBack ho (by lia) (by rw[zH,<- hl];exact h3) (by lia) (by rw[hk];exact⟨_,I',q⟩)
def tP:eO X (.builtin "len") (λxs H Q=>∃p ys,xs=[.ref p]/\(gH X.K H p ys\/fM X.K H p ys)/\Q (.int ys.length) H):=by
 intro pins s σ H xs us Q I r h;let⟨p,ys,rfl,hq,q⟩:=h;let⟨u,rfl,rx⟩:=vals1 r;cases rx;have hn:=pO;rcases hq with hq|hq
 ·let⟨its,r',pl,hz⟩:=I.list hq;have hlen:=r'.length;exact Calls.call_len_list pl.isList (by simp?[zH]<;>lia) ⟨.int ys.length,H,I.tok _,⟨s.toks+1,by rw[zH,hlen]⟩,q⟩
 ·let⟨its,r',pl,hz⟩:=I.tuple hq;have hlen:=r'.length;exact len_tuple pl (by simp?[zH]<;>lia) ⟨.int ys.length,H,I.tok _,⟨s.toks+1,by rw[zH,hlen]⟩,q⟩
def uH:eO X (.type "list") (λxs H Q=>∃p ys,xs=[.ref p]/\(gH X.K H p ys\/fM X.K H p ys)/\∀l,H l=none->Q (.ref l) (upd H l (.lst ys))):=by
 intro pins s σ H xs us Q I r h;let⟨p,ys,rfl,hq,q⟩:=h;let⟨u,rfl,rx⟩:=vals1 r;cases rx;have fin:∀ (its:List Value),aL ys its->ys.length<=sizeLine->∀ (h':Heap) (c':Nat),(∀b o',s.heap.get? b=some o'->h'.get? b=some o') ->
   h'.get? s.heap.objs.size=some { cls:=.type "list",dict:=none,data:=.seq its.toArray c',slots:=#[] }->EP X pins σ Q (.ref s.heap.objs.size) { s with heap:=h' }:=λits r' hz h' c' kp e =>
  ⟨.ref s.heap.objs.size,_,I.laid (t':=s.toks) kp (yL _) (show dS X.prog X.w _ h' _ (.lst ys) from ⟨hz,its,c',r',e⟩),rfl,q _ (I.RO.fresh (yL _))⟩
 rcases hq with hq|hq
 ·let⟨its,r',pl,hz⟩:=I.list hq;have hlen:=r'.length;let⟨o,ho,hc,n,hd⟩:=pl.isList;exact call_list_seq p (.inl rfl) ho hc hd (λh' c' kp e=>fin its r' hz h' c' kp e) (by simp?[zH]<;>lia)
 ·let⟨its,r',pl,hz⟩:=I.tuple hq;have hlen:=r'.length;let⟨o,ho,hc,n,hd⟩:=pl;exact call_list_seq p (.inr rfl) ho hc hd (λh' c' kp e=>fin its r' hz h' c' kp e) (by simp?[zH]<;>lia)
def rE:eO X (.type "tuple") (λxs H Q=>∃p ys,xs=[.ref p]/\((gH X.K H p ys/\∀l,H l=none->Q (.ref l) (upd H l (.tup ys)))\/(fM X.K H p ys/\Q (.ref p) H))):=by
 intro pins s σ H xs us Q I r h;let⟨p,ys,rfl,h⟩:=h;let⟨u,rfl,rx⟩:=vals1 r;cases rx;rcases h with ⟨hq,q⟩|⟨hq,q⟩
 ·let⟨its,r',pl,hz⟩:=I.list hq;have hlen:=r'.length;refine call_tuple_list pl.isList (λh' kp=>?_) (by simp?[zH]<;>lia);have I1:Inv X pins σ H { s with heap:=h' }:=I.kept (t':=s.toks) kp;have I2:Inv X pins σ (upd H h'.objs.size (.tup ys)) { s with heap:=h'.push { cls:=.type "tuple",data:=.seq its.toArray } } :=
   I1.laid (t':=s.toks) (λb o e=>zU _ e) (yL _) (show dS X.prog X.w _ _ _ (.tup ys) from ⟨hz,its,r',ow.new _ _⟩)
  exact⟨.ref h'.objs.size,_,I2,rfl,q _ (I1.RO.fresh (yL _))⟩
 ·let⟨its,r',pl,hz⟩:=I.tuple hq;exact call_tuple_same pl ⟨.ref p,H,I,rfl,q⟩
def QY(K:W.Frag)(T:String)(x:V)(H:Hp):Prop:=match x with
 | .str _=>T="str"
 | .int _=>T="int"
 | .ref p=>(T="list"/\∃xs,gH K H p xs)\/(T="tuple"/\∃xs,fM K H p xs) \/
   (T="dict"/\((∃R5,H p=some (.dK R5))\/∃R5,H p=some (.dT R5)))\/(T="set"/\∃S n,H p=some (.set S n))
 | _=>False
def Ln(I:Inv X pins σ H s)(r:RelV x v)(ty:QY X.K T x H) :
  s.TypeIs v T/\∀a,v=.ref a->∃ob,s.heap.get? a=some ob/\ob.dict=none:=by
 cases x with
 | str z =>
  let⟨t,rfl⟩:=r;cases (show T="str" from ty);exact⟨typeIs_str s z t,λ_ e=>nomatch e⟩
 | int i =>
  let⟨t,rfl⟩:=r;cases (show T="int" from ty);exact⟨wR s i t,λ_ e=>nomatch e⟩
 | ref p =>
  cases r;rcases ty with ⟨rfl,xs,hq⟩|⟨rfl,xs,hq⟩|⟨rfl,hk⟩|⟨rfl,S,n,hk⟩
  ·let⟨its,_,pl,_⟩:=I.list hq;refine⟨pl.isList.typeIs,λa e=>?_⟩;cases e;let⟨o,n,e,c,hd,_⟩:=pl;exact⟨o,e,hd⟩
  ·rcases hq with hq|⟨o,its,n,hk,hc,hd,_⟩
   ·let⟨_,_,_,⟨o,e1,e2,_⟩,o2,e3,e4⟩:=hq.ok I.RO;exact⟨⟨o,e1,e2⟩,λa e=>by cases e;exact⟨o2,e3,e4⟩⟩
   ·exact⟨⟨o,I.Tt p o hk,hc⟩,λa e=>by cases e;exact⟨o,I.Tt _ o hk,hd⟩⟩
  ·have z:∃o,s.heap.get? p=some o/\o.ExactDict:=by
    rcases hk with ⟨R5,hk⟩|⟨R5,hk⟩
    ·let⟨_,_,_,_,o,_,_,e,ex,_⟩:=I.RO p _ hk;exact⟨o,e,ex⟩
    ·let⟨_,_,o,_,_,e,ex,_⟩:=I.RO p _ hk;exact⟨o,e,ex⟩
   let⟨o,e,ex⟩:=z;refine⟨⟨o,e,ex.1⟩,λa e2=>?_⟩;cases e2;exact⟨o,e,ex.2.1⟩
  ·let⟨o,_,_,_,e,ex,_⟩:=I.RO p _ hk;refine⟨⟨o,e,ex.1⟩,λa e2=>?_⟩;cases e2;exact⟨o,e,ex.2.1⟩
 | _=>exact False.elim ty
def Ri(K:W.Frag)(T:String)(r:V->List V->Hp->VK->Prop)(to:TE)(t:TA):TE:=λσ H Q=>to σ H λx H1=>QY K T x H1/\t σ H1 λxs H2=>r x xs H2 Q
variable {T id:String}
def qa(pa:PlainAttrs T)(slot:Slot T name id)(Yy:typeOf (.builtin id)=pure (.type "method_descriptor"))(hm:Q1 X id r)(ho:PE X o to)(ha:PA X (e::es) t)
  (Tb:attributeBase o name X.env (eval o X.env)=eval o X.env:=by rfl)
  (SN:((backTo cpos (starEach (e::es) X.env)).all (λx=>!x.1)&&(backToKw cpos (keywordEach [] X.env)).all (λx=>x.1.isSome)
   &&decide ((e::es).length+([]:List Keyword).length+(if ([]:List Keyword).isEmpty then 0 else 1) < 30))=true:=by rfl)
  (R0:(apos.endLine == cpos.line)=true:=by rfl) (hs:starEach (e::es) X.env=(false,eval e X.env)::starEach es X.env:=by rfl) (V0:(backTo cpos (starEach es X.env)).any (·.1)=false:=by rfl) :
  PE X (.Call (.Attribute o name apos) (e::es) [] cpos) (Ri X.K T r to t):=by
 intro pins s σ H Q I h;refine wpAny_Call_method_late Tb SN R0 rfl (b9 (ho pins s σ H _ I h) λv s1 ⟨x,H1,I1,r1,ty,q1⟩=>?_);let⟨h1,h2⟩:=Ln I1 r1 ty;refine⟨T,id,pa,slot,Yy,h1,h2,?_⟩;have hA:=ha cpos pins s1 σ H1 _ I1 q1;rw[hs] at hA ⊢;refine Calls.callWith_builtin (by show (false||(backTo cpos (starEach es X.env)).any (·.1))=false;rw[V0]<;>rfl) (Calls.evalArgs_plain ?_);exact b9 hA λus s2 ⟨vs,H2,I2,r2,q2⟩=>hm pins s2 σ H2 x vs v us Q I2 r1 r2 q2
/- xs.append(e),list.index on a WX tuple .. are Q1 facts of 06m -/
end
def MV(X:Cx)(id:String)(r:V->List V->Hp->VK->Prop):Prop :=
 ∀ (pins:List (Addr×Obj)) (s:Shared) (σ:St) (H:Hp) (x:V) (xs:List V) (v:Value) (us:List Value) (Q:VK),Inv X pins σ H s->RelV x v->aL xs us->r x xs H Q ->
  wpAny (model X.prog X.w) X.A (call (.builtin id) (v::us)) (EP X pins σ Q) X.xe s
def aL.one:∀ {x:V}{us:List Value},aL [x] us->∃u,us=[u]/\RelV x u
 | _,_,.cons r .nil=>⟨_,rfl,r⟩
def aL.two:∀ {x y:V}{us:List Value},aL [x,y] us->∃u v,us=[u,v]/\RelV x u/\RelV y v
 | _,_,_,.cons r (.cons q .nil)=>⟨_,_,rfl,r,q⟩
def aL.reverse(h:aL xs us):aL xs.reverse us.reverse:=by
 induction h with
 | nil=>exact .nil
 | cons r t ih=>rw[vF,vF];exact aL.append ih (.cons r .nil)
def aL.rep(h:aL xs us):∀k:Nat,aL (List.replicate k xs).flatten (List.replicate k us).flatten
 | 0=>.nil
 | k+1=>by
  rw[xD,xD,qL,qL];exact aL.append h (aL.rep h k)
def foldl_rep(its:List Value):∀ (k:Nat) (acc:List Value),
  List.foldl (λx1 x2=>x1++x2) acc.toArray (List.replicate k its.toArray)=(acc++(List.replicate k its).flatten).toArray
 | 0,acc=>by simp
 | k+1,acc=>by
  have e:acc.toArray++its.toArray=(acc++its).toArray:=by simp
  have e2:(acc++its)++(List.replicate k its).flatten=acc++(List.replicate (k+1) its).flatten:=by
   rw[xD,qL,List.append_assoc]
  rw[<- e2,<- foldl_rep its k (acc++its),<- e,xD,List.foldl_cons]
section
variable {xs ys zs:List V}
def Inv.V1{its its':List Value}{n:Nat}{f:Array Value->Array Value}{t':Nat}(I:Inv X pins σ H s)(hH:H l=some (.lst xs))
  (e:s.heap.get? l=some { cls:=.type "list",data:=.seq its.toArray n }) (hf:f its.toArray=its'.toArray) (hv:aL ys its') (hz:ys.length<=sizeLine) :
  Inv X pins σ (upd H l (.lst ys)) { s with heap:=s.heap.update l (Obj.mapSeq f),toks:=t' }:=by
 have q:=PySem.IsL.update e f;rw[hf] at q;refine I.write (x:=l) (e:=l) (by rw[hH];exact trivial) (.inl rfl) (λb' u hb hu=>(xM s.heap (Obj.mapSeq f) (jM hb)).trans hu) ⟨_,q⟩ ?_;exact⟨hz,its',_,hv,q⟩
def Inv.Vj{t':Nat}(I:Inv X pins σ H s)(hv:aL ys its)(hz:ys.length<=sizeLine) :
  Inv X pins σ (upd H s.heap.objs.size (.lst ys)) { s with heap:=s.heap.push { cls:=.type "list",data:=.seq its.toArray },toks:=t' } :=
 I.laid (λ_ _ q=>zU _ q) (yL _) ⟨hz,its,0,hv,zX _ rfl⟩
def Inv.fresh(I:Inv X pins σ H s):H s.heap.objs.size=none:=I.RO.fresh (yL _)
def Inv.UQ(I:Inv X pins σ H s)(hH:H l=some (.lst xs)):xs.length<=sizeLine/\∃ (its:List Value) (n:Nat),aL xs its/\xs.length=its.length/\s.heap.get? l=some { cls:=.type "list",data:=.seq its.toArray n }:=by
 let⟨z,its,n,r,e⟩:=I.RO l _ hH;exact⟨z,its,n,r,r.length,e⟩
def xv(h:n<=sizeLine):Builtin.List.listTooLong n=false:=by
 unfold Builtin.List.listTooLong;exact zZ (by lia)
end
def II:V->List V->Hp->VK->Prop:=λx vs H Q=>∃l xs y,x=.ref l/\vs=[y]/\H l=some (.lst xs)/\xs.length < sizeLine/\Q .RK (upd H l (.lst (xs++[y])))
def sg:MV X "list.append" II:=by
 intro pins s σ H x vs v us Q I rx rv h;let⟨l,xs,y,rfl,rfl,hH,hz,q⟩:=h;cases rx;let⟨u,rfl,ru⟩:=rv.one;let⟨z,its,n,r,hl,e⟩:=I.UQ hH;refine qV F.slot_list_append ⟨_,e,rfl⟩ F.entry_list_append (F.args_list_append_2 _ _) (PySem.list_append l its.toArray n u (by rw[zH];lia)) ⟨e,?_⟩;refine⟨.RK,_,I.V1 (its':=its++[u]) hH e (by simp) (r.append (.cons ru .nil)) ?_,rfl,q⟩;rw[zN,xB];lia
def JN:V->List V->Hp->VK->Prop:=λx vs H Q=>∃l b xs zs,x=.ref l/\vs=[.ref b]/\H l=some (.lst xs)/\H b=some (.lst zs)/\xs.length+zs.length<=sizeLine/\Q .RK (upd H l (.lst (xs++zs)))
def Cz:MV X "list.extend" JN:=by
 intro pins s σ H x vs v us Q I rx rv h;let⟨l,b,xs,zs,rfl,rfl,hH,hB,hz,q⟩:=h;cases rx;let⟨u,rfl,ru⟩:=rv.one;cases ru;let⟨z,its,n,r,hl,e⟩:=I.UQ hH;let⟨z2,SM,n2,r2,hl2,e2⟩:=I.UQ hB;have hsz:its.toArray.size+SM.toArray.size<=sizeLine:=by rw[zH,zH];lia
 have UR:¬ (!its.toArray.isEmpty&&Builtin.List.listTooLong (its.toArray.size+SM.toArray.size))=true:=by
  rw[xv hsz,vB];exact yY
 refine qV F.slot_list_extend ⟨_,e,rfl⟩ F.entry_list_extend (F.args_list_extend_2 _ _)
  (AutoSeq1.list_extend_list_list_0 l its.toArray n b SM.toArray n2 UR (by rw[zH];lia) (by lia)) ⟨e,e2,?_⟩
 refine⟨.RK,_,I.V1 (its':=its++SM) hH e (by simp) (r.append r2) ?_,rfl,q⟩;rw[zN];lia
def Py:R2:=λx y H Q=>∃l k xs,x=.ref l/\y=.int k/\H l=some (.lst xs)/\-(2 ^ 63)<=k/\k < 2 ^ 63/\xs.length * k.toNat<=sizeLine /\
 ∀p,H p=none->Q (.ref p) (upd H p (.lst (List.replicate k.toNat xs).flatten))
def len_rep(xs:List α)(k:Nat):(List.replicate k xs).flatten.length=k * xs.length:=by
 induction k with
 | zero=>simp
 | succ k ih=>rw[xD,qL,zN,ih,Nat.succ_mul,Nat.add_comm]
def Ld:gp X (binaryOp .Mult) Py:=by
 intro pins s σ H x y v u Q I rx ry h;let⟨l,k,xs,rfl,rfl,hH,h1,h2,hz,q⟩:=h;cases rx;let⟨t,rfl⟩:=ry;let⟨z,its,n,r,hl,e⟩:=I.UQ hH;have hlen:its.toArray.size * k.toNat<=sizeLine:=by rw[zH,<- hl];exact hz
 have US:¬ its.toArray.size * k.toNat > (2 ^ 63 - 1) / 8:=by
  have:(sizeLine:Nat)<=(2 ^ 63 - 1) / 8:=by decide
  lia
 have TX:¬ (!Builtin.List.listFitsIndex k)=true:=by
  rw[fitsIndex_both h1 h2];exact yY
 have UR:¬ Builtin.List.listTooLong (its.toArray.size * k.toNat)=true:=by
  rw[xv hlen];exact yY
 have YA:List.foldl (λx1 x2=>x1++x2) #[] (List.replicate (if its.toArray.isEmpty=true then 0 else k.toNat) its.toArray)=(List.replicate k.toNat its).flatten.toArray:=by
  have f0:∀m:Nat,List.foldl (λx1 x2=>x1++x2) #[] (List.replicate m its.toArray)=(List.replicate m its).flatten.toArray:=λm=>by
   have:=foldl_rep its m [];rw[xN] at this;exact this
  rw[f0];cases its with
  | nil=>simp
  | cons a r'=>rw[yM (by simp)]
 refine wpAny_binaryOp_repeat_ref (T:="list") (U:="int") (by decide) ⟨_,e,rfl⟩ (λs'=>wR s' k t) noFill_list_mul F.fills_int_mul wC repeat_list F.slot_int_index.lookup
  (qV wC (wR s k t) F.entry_int_rmul (F.args_int_rmul_2 _ _) (int___rmul___int_list k t l its.toArray n)
   ⟨e,rfl,⟨_,e,rfl⟩,qV F.slot_list_mul ⟨_,e,rfl⟩ F.entry_list_mul (F.args_list_mul_2 _ _) (AutoListH.list___mul___list_int_3 l its.toArray n k t TX US UR) ⟨e,?_⟩⟩)
 rw[YA];exact⟨.ref _,_,I.Vj (t':=s.toks) (r.rep k.toNat) (by rw[len_rep,Nat.mul_comm];exact hz),rfl,q _ I.fresh⟩
end L2
namespace Att
open PySem PySem.W PySem.Calls PyProof.Rows
def SO:∀ (ns:List Int) (vs:List Value),WellAll P h vs (ns.map WData.int)->IntsAre vs ns:=by
 intro ns
 induction ns with
 | nil =>
  intro vs w;rw[yT] at w;cases w;exact .nil
 | cons n ns ih =>
  intro vs w;rw[zI] at w;cases w with
  | cons a b =>
   cases a;exact .cons _ _ (ih _ b)
def Uu{l:OpenLaw}{n:Nat}(hn:l.most=some n){P:Params}{h:Heap}{args:List WData}{vals:List Value}
  (Vk:l.row.toRowW.claim.pre args=true) (UT:WellAll P h vals args) :
  ∃a vs ns,vals=[Value.ref a]/\args=[WData.list (ns.map WData.int)]/\h.get? a=some { cls:=.type "list",data:=.seq vs.toArray }/\IntsAre vs ns/\ns.length<=n:=by
 have hsh:WShape.hasAll [] args [.list .int]=true:=(pre_splitW Vk).1;have hc:l.pre.holds [] { args:=args }=true:=(pre_splitW Vk).2;let⟨d,r,rfl,h1,h2⟩:=hasAllW_cons hsh;obtain rfl:=hasAllW_nil h2;let⟨xs,rfl,h3⟩:=hasW_list h1;let⟨ns,rfl⟩:=items_int h3;have hlen:ns.length<=n:=by
  unfold OpenLaw.pre at hc;have h4:(WTm.not (.lt (.lit (.int (n:Int))) (.len (.arg 0)))).holds [] { args:=[.list (ns.map .int)] }=true:=by
   have h4:=(holds_andW hc).1;rw[hn] at h4;exact h4
  have h5:=condW_of h4 (w_not (w_lt w_lit (w_len_list (w_arg rfl))));rw[zD] at h5;refine Nat.le_of_not_lt λq=>?_;have q':(n:Int) < ((ns.length:Nat):Int):=by lia
  first
   | (rw[yA q'] at h5;exact absurd h5 (by decide))
   | (simp at h5;lia)
 cases UT with
 | cons w1 w2 =>
  cases w2;cases w1 with
  | list ho Tw=>exact⟨_,_,ns,rfl,rfl,ho,SO ns _ Tw,hlen⟩
def Uv(l:OpenLaw)(args:List WData):l.row.toRowW.claim.post args (.bool true) args=true :=
 postW_of (r:=l.row.toRowW) (X:=(true == true))
  (show WShape.has [] (.bool true) .bool=true by first|rfl|decide|simp[WShape.has,WShape.arms,WShape.armsAll])
  (show (WTm.eq .res (.lit (.bool true))).value [] { args:=args,res:=some (.bool true),after:=args }=some (.bool (true == true)) from w_eq_bool (w_res rfl) w_lit) rfl
def Tz{l:OpenLaw}{n:Nat}{q:Program}{loose:List Str}{XP:(Str->Option Value)->Heap->Prop}{YP:World->Heap->Prop}{d:DefRec}
  (hn:l.most=some n) (WY:d.params.defaults=[])
  (call:∀ (w:World) (RT RQ:Shared) (mg mb:Str->Option Value) (fa:Addr) (o:Obj) (pm cd doc:Value) (a:Addr) (vs:List Value) (ns:List Int),
   Ground q loose [] XP w RT mg mb RQ.heap->YP w RQ.heap ->
   RQ.heap.get? fa=some o->o.data=.func (docDef d.name d.params d.body d.scope pm cd doc)->RQ.heap.CodeRec cd d.name->mg d.name=some (.ref fa) ->
   RQ.heap.get? a=some { cls:=.type "list",data:=.seq vs.toArray }->IntsAre vs ns->ns.length<=n->RQ.gens=#[] ->
   codeAny (model l.prog w) callerA (.call (.ref fa) ⟨[.ref a],[]⟩) (λr s'=>r=.ok (.ret (.bool true))/\OldK RQ.heap s'.heap/\s'.os=RQ.os/\AllBare s'.gens) RQ) :
  WalkO q loose XP YP l.row.toRowW d [] (λf vs=>PySem.call f vs):=by
 intro w RT RQ mg mb G Y fa o pm cd doc dV kV ho hd Se hD WZ hg args vals as Vk aa5 hrd UT X0;obtain rfl:dV=.none:=Dflts.none hD WY;obtain rfl:kV=.none:=Dflts.noKw hD;let⟨a,vs,ns,rfl,rfl,V2,hints,hlen⟩:=Uu hn Vk UT;refine enter_call (jR (call w RT RQ mg mb fa o pm cd doc a vs ns G Y ho (fd_plain hd) Se WZ V2 hints hlen hg) λr s' hq=>?_);let⟨rfl,h2,h3,h4⟩:=hq;exact⟨.inl ⟨.bool true,.bool true,[],rfl,λ_=>rfl,.bool true,Uv l _,λ_=>⟨List.Pairwise.nil,λ_ hm=>(nomatch hm)⟩⟩,h2,h3,h4⟩
section
variable {K:Frag}
end
end Att
namespace L2
open PySem PySem.Spec PyProof.Rows
def rH:∀ {vs:List Value}{ns:List Int},IntsAre vs ns->aL (ns.map V.int) vs
 | _,_,.nil=>.nil
 | _,_,.cons n t h=>.cons ⟨t,rfl⟩ (rH h)
abbrev G0:Hq:=λ_ _ _ _ _ _=>False
abbrev E0:XK:=λ_ _ _=>False
def Oa:eu G0 X E0:=λ_ _ _ _ _ _ _ h=>h.elim
structure EK(K:W.Frag)(x qual:Str)(st:Stmt)(f:Addr)(fd:FuncData):Prop where
 ex:∃ (oc:Value) (od:Option Addr) (kV doc pm:Value) (an:Option Addr) (R4 ct:Value) (TV:Array (Option Value)),
  fd=W.fnOf x qual (fE st) (bq st) (aj st) .none kV doc pm an R4 ct/\K.lookup f=some ⟨oc,od,.func fd,TV⟩/\W.codeIn K R4 qual=true
 kp:W.keepIn K (.ref f)=true
section
variable {K:W.Frag}
def EK.binds{st:Stmt}(F:EK K x qual st f fd)
  (h:∀ (kV doc pm:Value) (an:Option Addr) (R4 ct:Value) (us:List Value),us.length=ps.length->bindArgs (W.fnOf x qual (fE st) (bq st) (aj st) .none kV doc pm an R4 ct) ⟨us,[]⟩=pure (ps.zip us)):Binds K fd ps []:=by
 let⟨oc,od,kV,doc,pm,an,R4,ct,TV,rfl,lk,Se⟩:=F.ex;exact .all (h kV doc pm an R4 ct)
def ur{st:Stmt}{kV:Value}(l:K.lookup f=some ⟨oc,od,.func (W.fnOf x qual (fE st) (bq st) (aj st) .none kV doc pm an R4 ct),TV⟩)
  (c:W.codeIn K R4 qual=true) (k:W.keepIn K (.ref f)=true):EK K x qual st f (W.fnOf x qual (fE st) (bq st) (aj st) .none kV doc pm an R4 ct):=⟨⟨oc,od,kV,doc,pm,an,R4,ct,TV,rfl,l,c⟩,k⟩
end
def nj{A B:Prop}(h:B):if false=true then A else B:=by
 rw[yM yY];exact h
def pW{A B:Prop}(h:A):if true=true then A else B:=by
 rw[yK rfl];exact h
def aR(H H':Hp):Prop:=∀b o,H b=some o->H' b=some o
def aR.refl(H:Hp):aR H H:=λ_ _ h=>h
def aR.trans(a:aR H H1)(b:aR H1 H2):aR H H2:=λc o h=>b c o (a c o h)
def aR.free(e:aR H H')(h:H' l=Option.none):H l=Option.none:=by
 cases q:H l with
 | none=>rfl
 | some o =>
  rw[e l o q] at h;cases h
def aR.seq{K:W.Frag}(e:aR H H')(h:gH K H a xs):gH K H' a xs:=by
 rcases h with (h|⟨o,h⟩)|h
 ·exact .inl (.inl (e _ _ h))
 ·exact .inl (.inr ⟨o,e _ _ h⟩)
 ·exact .inr h
def b0:∀ (names:List (Str×NameKind)) (n:Nat) (acc:List (Str×Addr)),cellsFrom n names acc=cellsFrom n names []++acc
 | [],_,_=>rfl
 | (name,kind)::r,n,acc=>by
  unfold cellsFrom;split
  ·rw[b0 r (n+1) ((name,n)::acc),b0 r (n+1) [(name,n)]];simp
  ·exact b0 r n acc
def iT:∀ {l m:List (Str×α)},(l++m).lookup x=some c->l.lookup x=some c\/(l.lookup x=none/\m.lookup x=some c)
 | [],_,h=>.inr ⟨rfl,h⟩
 | (k,v)::r,m,h=>by
  have ih:=@iT α x c r m;rw[xE,yB] at h;rw[yB];cases e:x == k with
  | true=>rw[e] at h;exact .inl h
  | false=>rw[e] at h;exact ih h
def iU:∀ {l m:List (Str×α)},l.lookup x=some c->(l++m).lookup x=some c
 | [],_,h=>by cases h
 | (k,v)::r,m,h=>by
  have ih:=@iU α x c r m;rw[yB] at h;rw[xE,yB];cases e:x == k with
  | true=>rw[e] at h;exact h
  | false=>rw[e] at h;exact ih h
def gX:∀ {l m:List (Str×α)},l.lookup x=none->(l++m).lookup x=m.lookup x
 | [],_,_=>rfl
 | (k,v)::r,m,h=>by
  have ih:=@gX α x r m;rw[yB] at h;rw[xE,yB];cases e:x == k with
  | true=>rw[e] at h;cases h
  | false=>rw[e] at h;exact ih h
def gh:∀ (names:List (Str×NameKind)) (n:Nat) (x:Str) (c:Addr),(x,c)∈cellsFrom n names []->(x,NameKind.cell)∈names
 | [],_,_,_,h=>by cases h
 | (name,kind)::r,n,x,c,h=>by
  unfold cellsFrom at h;split at h
  ·rename_i hk;rw[b0] at h;rcases List.mem_append.mp h with h|h
   ·exact zC _ (gh r _ x c h)
   ·have:(x,c)=(name,n):=by simpa using h
    cases this;have:kind=.cell:=by simpa using hk
    subst this;exact zE
  ·exact zC _ (gh r n x c h)
def eU(env:Env):List (Str×NameKind)->List (Str×Addr)->List (Str×Addr)
 | [],acc=>acc
 | (n,k)::r,acc=>if k == .free then eU env r ((n,(env.cells.lookup n).getD 0)::acc) else eU env r acc
def lG(env:Env):∀ (names:List (Str×NameKind)) (acc:List (Str×Addr)),(∀x∈names,x.2=.free->∃c,env.cells.lookup x.1=some c) ->
  (forIn names acc (λ(p:Str×NameKind) (cs:List (Str×Addr))=>(if p.2 == .free then (do let a <- cellOf env p.1;pure (.yield ((p.1,a)::cs))) else pure (.yield cs):Sem (ForInStep (List (Str×Addr))))))=pure (eU env names acc)
 | [],acc,_=>rfl
 | (n,k)::r,acc,h=>by
  rw[List.forIn_cons];have hr:=λx hx=>h x (zC _ hx);unfold eU;by_cases hk:k=.free
  ·let⟨c,hc⟩:=h (n,k) zE hk;subst hk;have e1:cellOf env n=pure c:=by
    have SS:env.cells.lookup n=some c:=hc;unfold cellOf;rw[SS]
   have SS:env.cells.lookup n=some c:=hc;simp?[beq_self_eq_true,xG,e1,pure_bind,SS,qF];exact lG env r _ hr
  ·have hb:(k == NameKind.free)=false:=by simpa using hk
   simp?[hb,yN,qN,pure_bind];exact lG env r _ hr
def lQ{env:Env}(h:∀x∈scope.names,x.2=.free->∃c,env.cells.lookup x.1=some c):closureFor scope env=pure (eU env scope.names []):=by
 have:=lG env scope.names [] h;unfold closureFor;exact (bind_pure _).trans this
def j9{env:Env}:∀ {names:List (Str×NameKind)}{acc:List (Str×Addr)},(∀x∈names,x.2=.free->∃c,env.cells.lookup x.1=some c)->(∀x c,(x,c)∈acc->env.cells.lookup x=some c) ->
  ∀x c,(x,c)∈eU env names acc->env.cells.lookup x=some c
 | [],acc,_,ha,x,c,hm=>ha x c hm
 | (n,k)::r,acc,h,ha,x,c,hm=>by
  unfold eU at hm;have hr:=λx hx=>h x (zC _ hx);split at hm
  ·rename_i hk;have Uw:k=.free:=by simpa using hk
   let⟨c',hc⟩:=h (n,k) zE Uw;have hc:env.cells.lookup n=some c':=hc;refine j9 hr (λy d hy=>?_) x c hm;rcases List.mem_cons.mp hy with e|hy
   ·cases e;rw[hc];rfl
   ·exact ha y d hy
  ·exact j9 hr ha x c hm
def fN{env:Env}:∀ {names:List (Str×NameKind)}{acc:List (Str×Addr)}{x:Str},(names.lookup x=some .free\/∃c,acc.lookup x=some c)->∃c,(eU env names acc).lookup x=some c
 | [],acc,x,h=>by
  rcases h with h|h
  ·cases h
  ·exact h
 | (n,k)::r,acc,x,h=>by
  unfold eU;split
  ·rename_i hk;refine fN ?_;rcases h with h|⟨c,h⟩
   ·rw[yB] at h;cases e:x == n with
    | true=>exact .inr ⟨_,by rw[yB,e]⟩
    | false=>rw[e] at h;exact .inl h
   ·refine .inr ?_;rw[yB];cases e:x == n with
    | true=>exact⟨_,rfl⟩
    | false=>exact⟨c,h⟩
  ·rename_i hk;refine fN ?_;rcases h with h|h
   ·rw[yB] at h;cases e:x == n with
    | true =>
     rw[e] at h;cases h;exact absurd rfl hk
    | false=>rw[e] at h;exact .inl h
   ·exact .inr h
def mr{env:Env}:∀ {names:List (Str×NameKind)}{x:Str}{k:NameKind},names.lookup x=some k ->
  (names.map λ(n,k)=>if (k == NameKind.free&&env.scope.kind == .function&&env.kindOf n == some .cell) then (n,NameKind.cell) else (n,k)).lookup x=some (if (k == NameKind.free&&env.scope.kind == .function&&env.kindOf x == some .cell) then NameKind.cell else k)
 | [],_,_,h=>by cases h
 | (n,k)::r,x,k',h=>by
  have ih:=@mr env r x k';rw[zI];dsimp only;cases hx:x == n with
  | true =>
   have e:x=n:=by simpa using hx
   subst e;rw[yB,hx] at h;cases h;split<;>simp[yB, *]
  | false =>
   rw[yB,hx] at h;have ih:=ih h;split
   ·rw[yB,hx];exact ih
   ·rw[yB,hx];exact ih
def og{env:Env}:∀ {names:List (Str×NameKind)}{x:Str},names.lookup x=none ->
  (names.map λ(n,k)=>if (k == NameKind.free&&env.scope.kind == .function&&env.kindOf n == some .cell) then (n,NameKind.cell) else (n,k)).lookup x=none
 | [],_,h=>rfl
 | (n,k)::r,x,h=>by
  have ih:=@og env r x;rw[zI];dsimp only;cases hx:x == n with
  | true=>rw[yB,hx] at h;cases h
  | false =>
   rw[yB,hx] at h;split
   ·rw[yB,hx];exact ih h
   ·rw[yB,hx];exact ih h
def eZ(X:Cx)(scope:Scope)(C:Addr):Env :=
 { scope:=relabel scope X.env,locals:=C,globals:=X.env.globals,cells:=cellsFrom (C+1) scope.names (eU X.env scope.names []),qual:=X.env.qual,func:=none,code:=X.env.code,frame:=X.env.frame,builtins:=X.env.builtins }
def aZ(X:Cx)(scope:Scope)(N:List Str)(fp:List Addr)(s:Shared)(H:Hp):Cx :=
 { X with N:=N,RT:=s,RM:=H,env:=eZ X scope s.heap.objs.size,outer:=X.stack,ex:=fp,fn:=λx=>decide (scope.names.lookup x=some .cell),pn:=[],xe:=λ_ _=>False }
def zz{M:Model}{A:Around}{E:Value->Shared->Prop}{globals:Addr}{cl:List (Str×Addr)}{qual:Str}{env:Env}
  (hQ:∀h',h'.Ns s.heap.objs.size (λ_=>none)->(∀b o,s.heap.get? b=some o->h'.get? b=some o)->CellsOk h' (s.heap.objs.size+1) (cellsFrom (s.heap.objs.size+1) scope.names []) ->
   Q { scope:=scope,locals:=s.heap.objs.size,globals:=globals,cells:=cellsFrom (s.heap.objs.size+1) scope.names cl,qual:=qual,func:=none,code:=env.code,frame:=env.frame,builtins:=env.builtins } { s with heap:=h' }) :
  wpAny M A (newFunctionEnv scope globals cl [] qual none .none (some env)) Q E s:=by
 simp?[newFunctionEnv,Option.isSome_some,xG];refine zV (wpAny_alloc ?_);refine zV (wpAny_layCells _ (λname kind cells=>by cases hkc:kind == NameKind.cell<;>simp[hkc]) _ _ _ _ ?_);have ok:=cellsFrom_ok scope.names (s.heap.push { cls:=.type "dict",data:=.dict #[] }) (s.heap.objs.size+1) [] ⟨λ_ _ hm=>(nomatch hm),List.Pairwise.nil⟩ (by rw[xI];exact yL _);rw[xI] at ok;rw[show ({ s with heap:=s.heap.push { cls:=.type "dict",data:=.dict #[] } }:Shared).heap.objs.size=s.heap.objs.size+1 from xI ..];rw[List.forIn_nil];refine zV (zW (zW ?_));exact hQ _ ((Heap.Ns.new s.heap (.type "dict")).keeps (pushCells_keeps _ _)) (λb o e=>pushCells_keeps _ _ b o (zU _ e)) ok
section
variable {X:Cx}{pins:List (Addr×Obj)}{σ σ':St}{H:Hp}{s:Shared}{fp:List Addr}{scope:Scope}{N:List Str}{h4:Heap}
def j1(ok:X.Ok)(SF:∀x∈scope.names,x.2=.free->X.env.kindOf x.1=some .cell\/X.env.kindOf x.1=some .free):∀x∈scope.names,x.2=.free->∃c,X.env.cells.lookup x.1=some c :=
 λx hx hk=>ok.has x.1 (SF x hx hk)
def nv(h:scope.names.lookup x=some k):(eZ X scope C).kindOf x=some k\/(k=.free/\(eZ X scope C).kindOf x=some .cell):=by
 have q:=mr (env:=X.env) h;have q':(eZ X scope C).kindOf x=some (if (k == NameKind.free&&X.env.scope.kind == .function&&X.env.kindOf x == some .cell) then NameKind.cell else k):=q;rw[q'];split
 ·rename_i hc;have:k=.free:=by
   simp?[zF,vQ] at hc;exact hc.1.1
  exact .inr ⟨this,rfl⟩
 ·exact .inl rfl
def lq(h:(eZ X scope C).kindOf x=some k):scope.names.lookup x=some k\/(k=.cell/\scope.names.lookup x=some .free):=by
 cases e:scope.names.lookup x with
 | none =>
  have q:(eZ X scope C).kindOf x=none:=og (env:=X.env) e;rw[q] at h;cases h
 | some k' =>
  rcases nv (X:=X) (C:=C) e with q|⟨q,q'⟩
  ·rw[q] at h;cases h;exact .inl rfl
  ·rw[q'] at h;cases h;subst q;exact .inr ⟨rfl,rfl⟩
def D7(I:Inv X pins σ H s)(hf:∀b∈fp,cO X pins H b)(SG:∀b∈fp,b < s.heap.objs.size)(hk:scope.kind=.function)
  (SF:∀x∈scope.names,x.2=.free->X.env.kindOf x.1=some .cell\/X.env.kindOf x.1=some .free)
  (TM:h4.Ns s.heap.objs.size (λ_=>none)) (SH:∀b o,s.heap.get? b=some o->h4.get? b=some o) (UE:CellsOk h4 (s.heap.objs.size+1) (cellsFrom (s.heap.objs.size+1) scope.names []))
  (V3:∀ {x:Str},(x,NameKind.cell)∈scope.names->(x,NameKind.free)∈scope.names->False) (US:∀ (i:Nat) (x:Str) (v:V),N[i]?=some x->σ'[i]?=some (some v)->scope.names.lookup x=some .free/\∃j:Nat,X.N[j]?=some x/\σ[j]?=some (some v)) (hlen:σ'.length=N.length) (t':Nat) :
  Inv (aZ X scope N fp s H) [] σ' H { s with heap:=h4,toks:=t' }:=by
 have SJ:=j1 I.ok SF;have Vy:∀x c,(eU X.env scope.names []).lookup x=some c->X.env.cells.lookup x=some c:=λx c e=>j9 SJ (λ_ _ z=>by cases z) x c (mem_of_lookup e);have look:∀x c,(eZ X scope s.heap.objs.size).cells.lookup x=some c->(x,c)∈cellsFrom (s.heap.objs.size+1) scope.names []\/X.env.cells.lookup x=some c:=λx c e=>by
  have e:(cellsFrom (s.heap.objs.size+1) scope.names (eU X.env scope.names [])).lookup x=some c:=e;rw[b0] at e;rcases iT e with q|⟨_,q⟩
  ·exact .inl (mem_of_lookup q)
  ·exact .inr (Vy x c q)
 have old:∀x c,X.env.cells.lookup x=some c->c < s.heap.objs.size:=λx c e=>let ⟨_,q⟩:=I.cell x c e;q.lt;have new:∀x c,(x,c)∈cellsFrom (s.heap.objs.size+1) scope.names []->s.heap.objs.size < c:=λx c e=>(UE.empty x c e).2;refine⟨⟨I.ok.mod,?_,I.ok.glob,I.ok.blt,yL _,?_,?_,?_,I.ok.hd,I.ok.frames,.inl rfl,?_,I.bs,yD I.ok.UM I.sz,?_,?_,I.stack,I.SE⟩,rfl,I.bare,Un.kept SH,⟨_,TM,?_⟩,?_,I.RO.fresh (yL _),?_,
  λp hp=>absurd (show p∈([]:List (Addr×Obj)) from hp) (by simp),I.RO.kept SH,hlen⟩
 ·show (relabel scope X.env).kind=_;exact hk
 ·intro x y c e1 e2;rcases look x c e1 with a|a<;>rcases look y c e2 with b|b
  ·exact name_of_addr UE.apart a b
  ·exact absurd (Zb (new x c a) (old y c b)) (qD _)
  ·exact absurd (Zb (new y c b) (old x c a)) (qD _)
  ·exact I.ok.inj x y c a b
 ·intro x hx;show ∃c,(cellsFrom (s.heap.objs.size+1) scope.names (eU X.env scope.names [])).lookup x=some c;refine Option.isSome_iff_exists.mp (W.cellsFrom_some _ _ _ ?_);rcases hx with hx|hx
  ·rcases lq hx with q|⟨_,q⟩
   ·exact .inl q
   ·exact .inr (Option.isSome_iff_exists.mpr (fN (.inl q)))
  ·rcases lq hx with q|⟨q,_⟩
   ·exact .inr (Option.isSome_iff_exists.mpr (fN (.inl q)))
   ·cases q
 ·intro x c U4 e;have U4:scope.names.lookup x=some .cell:=yP U4;have e:(cellsFrom (s.heap.objs.size+1) scope.names (eU X.env scope.names [])).lookup x=some c:=e;let⟨c',SS⟩:=pj (n:=s.heap.objs.size+1) U4;rw[b0,iU SS] at e;cases e;exact jS (new x c (mem_of_lookup SS))
 ·intro b hb;refine⟨yQ (SG b hb),λx c e z=>?_⟩;rcases look x c e with a|a
  ·exact absurd (Zb (new x c a) (by rw[z];exact SG b hb)) (qD _)
  ·exact (hf b hb).2.2.2.2.1 x c a z
 ·intro b o e hb;let⟨f0,f1,f2,f3,f4,f5⟩:=hf b hb;rcases f3 with z|z
  ·exact I.ok.Ts b o e z
  ·exact absurd (zP (zY (I.ok.bs b o e).1) z) (qD _)
 ·intro b hb hz;let⟨f0,f1,f2,f3,f4,f5⟩:=hf b hb;rcases List.mem_cons.mp (I.TR b hz) with z|z
  ·exact f1 z
  ·exact f2 z
 ·intro i x v e1 e2 e3;let⟨UG,j,hj,hv⟩:=US i x v e1 e2;have hm:(x,NameKind.free)∈scope.names:=mem_of_lookup UG;let⟨m,hn,hl⟩:=I.loc;have kx:=SF _ hm rfl;let⟨u,ru,lk⟩:=hl j x v hj hv (kx.elim (λk=>.inr (.inl k)) λk=>.inr (.inr k));refine⟨u,ru,.inr ⟨?_,?_⟩⟩
  ·rcases nv (X:=X) (C:=s.heap.objs.size) UG with q|⟨_,q⟩
   ·exact .inr q
   ·exact .inl q
  ·rcases lk with ⟨k,_⟩|⟨_,c,ec,ic⟩
   ·have k:X.env.kindOf x=some .local:=k;rcases kx with k'|k'<;>· rw[k] at k';cases k'
   ·let⟨c',SS⟩:=fN (env:=X.env) (acc:=[]) (.inl UG);have e':=Vy x c' SS;rw[ec] at e';cases e';refine⟨c,?_,ic.keeps SH⟩;show (cellsFrom (s.heap.objs.size+1) scope.names (eU X.env scope.names [])).lookup x=some c;rw[b0];cases eo:(cellsFrom (s.heap.objs.size+1) scope.names []).lookup x with
    | none=>rw[gX eo];exact SS
    | some d =>
     have YB:=gh _ _ _ _ (mem_of_lookup eo);exact (V3 YB hm).elim
 ·intro x c e;rcases look x c e with a|a
  ·exact⟨_,(UE.empty x c a).1⟩
  ·let⟨v,q⟩:=I.cell x c a;exact⟨v,q.keeps SH⟩
 ·intro x c e;rcases look x c e with a|a
  ·exact I.RO.fresh (jS (new x c a))
  ·exact I.RU x c a
end
abbrev wa(ifs:List Expr)(env:Env):Sem Bool:=forIn ifs true λc r=>if r=true then do let ok <- isTrue c env (eval c env);pure (ForInStep.yield ok) else pure (ForInStep.yield r)
def Nc(X:Cx)(ifs:List Expr)(t:TT):Prop :=
 ∀ (pins:List (Addr×Obj)) (s:Shared) (σ:St) (H:Hp) (Q:Bool->Hp->Prop),Inv X pins σ H s->t σ H Q->wpAny (model X.prog X.w) X.A (wa ifs X.env) (TP X pins σ Q) X.xe s
def Im:Nc X [] (λ_ H Q=>Q true H):=λ_ _ _ H _ I h=>wpAny_tests_nil ⟨H,I,h⟩
def Hn(h:PT X c t):Nc X [c] t:=λpins s σ H Q I q=>wpAny_tests_one (h pins s σ H Q I q)
def tN{R:Result->Shared->Prop}{elt target iter:Expr}{ifs:List Expr}{scope:Scope}{pos:Pos}{acc:Value}{env:Env}(I:Nat->Shared->Prop)
  (turn:∀n s,I n s->wpAny (model prog w) A (pyNext it) (λr RQ=>match r with
   | none=>R (.ok .next) RQ
   | some v=>wpAny (model prog w) A (letOwnedTupleGo target it v) (λ_ Vz=>wpAny (model prog w) A (assign target env v) (λ_ Vh =>
     wpAny (model prog w) A (wa ifs env) (λok UU =>
      if ok=true then wpAny (model prog w) A (eval elt env) (λx Vl =>
       wpAny (model prog w) A (call (.builtin "list.append") [acc,x]) (λ_ W0=>∃m,m < n/\I m W0) (λ_ _=>False) Vl) (λ_ _=>False) UU
      else ∃m,m < n/\I m UU) (λ_ _=>False) Vh) (λ_ _=>False) Vz) (λ_ _=>False) RQ) (λ_ _=>False) s)
  (n:Nat) (h:I n s) :
  codeAny (model prog w) A (.compLoop (.ListComp elt [⟨target,iter,ifs,0⟩] scope pos) 0 it acc env) R s:=by
 refine codeAny_loop rfl I (λn s hI=>?_) n h;show wpAny _ A ((compTurn (.ListComp elt [⟨target,iter,ifs,0⟩] scope pos) 0 it acc env).onRaise (λx=>do noteFrame x env;theTreesLotGoes x)) _ _ s;refine wpAny_noted ?_;rw[compTurn_list];refine zV (vH (zV (yZ (turn n s hI) (λr RQ W2=>?_) λ_ _ h'=>h'.elim)));cases r with
 | none=>exact zW W2
 | some v =>
  refine zV (yZ W2 (λ_ Vz W3=>?_) λ_ _ h'=>h'.elim);refine zV (yZ W3 (λ_ Vh YC=>zV (yZ YC (λok UU W4=>?_) λ_ _ h'=>h'.elim)) λ_ _ h'=>h'.elim);cases ok with
  | false=>exact zW ⟨rfl,W4⟩
  | true =>
   exact zV (zV (yZ W4 (λx Vl YD=>zV (yZ YD (λ_ W0 YE=>zW (zW ⟨rfl,YE⟩)) λ_ _ h'=>h'.elim)) λ_ _ h'=>h'.elim))
def BX(X:Cx)(pins:List (Addr×Obj))(σ:St)(Q:VK)(acc:Value)(C:Addr)(r:Result)(s5:Shared):Prop :=
 ∃ (D:Addr) (H5:Hp) (m:Str->Option Value),acc=.ref D/\r=.ok .next/\Inv X pins σ H5 s5/\s5.heap.Ns C m/\cO X pins H5 C/\Q (.ref D) H5
def DP(J:It)(g:TG)(tt:TT)(te:TE)(D:Addr)(σ0:St)(H0:Hp)(Q:VK):Prop :=
 ∃W:Nat->Nat->St->Hp->Prop,(∃m,W 0 m σ0 H0)/\∀i m σ H,W i m σ H ->
  (J.stop i H/\Q (.ref D) H)\/(J.go i H/\∀x H',J.Vw i H x H'->g x σ H' λUg H2=>tt Ug H2 λb H3 =>
   if b=true then te Ug H3 λv H4=>∃ys,H4 D=some (.lst ys)/\ys.length < sizeLine/\∃m',m' < m/\W (i+1) m' Ug (upd H4 D (.lst (ys++[v])))
   else ∃m',m' < m/\W (i+1) m' Ug H3)
section
variable {X:Cx}{pins:List (Addr×Obj)}{σ σ':St}{H:Hp}{s:Shared}{scope:Scope}{N:List Str}
 {tg iter elt:Expr}{ifs:List Expr}{pos:Pos}{g:TG}{tt:TT}{te:TE}
def rN(hc:X.calm=true)(I:Inv X pins σ H s)(T:Turn X.prog X.w X.K tg J fp it tn)(st:tn 0 s.heap)(hf:∀b∈fp,cO X pins H b)(hk:scope.kind=.function)
  (SF:∀x∈scope.names,x.2=.free->X.env.kindOf x.1=some .cell\/X.env.kindOf x.1=some .free) (V3:∀ {x:Str},(x,NameKind.cell)∈scope.names->(x,NameKind.free)∈scope.names->False)
  (US:∀ (i:Nat) (x:Str) (v:V),N[i]?=some x->σ'[i]?=some (some v)->scope.names.lookup x=some .free/\∃j:Nat,X.N[j]?=some x/\σ[j]?=some (some v)) (hlen:σ'.length=N.length)
  (hY:∀fp s H,PG (aZ X scope N fp s H) tg g/\Nc (aZ X scope N fp s H) ifs tt/\PE (aZ X scope N fp s H) elt te)
  (hrd:∀D,H D=none->DP J g tt te D σ' (upd H D (.lst [])) Q) {E:Value->Shared->Prop} :
  wpAny (model X.prog X.w) X.A (newList []) (λacc UU=>wpAny (model X.prog X.w) X.A (newFunctionEnv scope X.env.globals (eU X.env scope.names []) [] X.env.qual none .none (some X.env)) (λUW Vl =>
   codeAny (model X.prog X.w) X.A (.compStart (.ListComp elt [⟨tg,iter,ifs,0⟩] scope pos) 0 (.ref it) acc { UW with scope:=relabel scope X.env }) (BX X pins σ Q acc UW.locals) Vl) E UU) E s:=by
 refine qK ?_;have SG:∀b∈fp,b < s.heap.objs.size:=λb hb=>let ⟨o,e,_⟩:=T.obj _ _ st b hb;zY e;have I3:=I.Vj (ys:=[]) (its:=[]) (t':=s.toks) .nil (xU _);have hD:H s.heap.objs.size=none:=I.fresh;let⟨W,⟨m0,w0⟩,turn⟩:=hrd _ hD;generalize e3:({ s with heap:=s.heap.push { cls:=.type "list",data:=.seq ([]:List Value).toArray },toks:=s.toks }:Shared)=s3 at I3;have e3h:s3.heap=s.heap.push { cls:=.type "list",data:=.seq ([]:List Value).toArray }:=by rw[<- e3]
 generalize hH3:upd H s.heap.objs.size (.lst [])=H3 at I3 w0 turn;have R6:s.heap.objs.size < s3.heap.objs.size:=by rw[e3h,xI];exact kP _
 have WD:∀b o,s.heap.get? b=some o->s3.heap.get? b=some o:=λb o e=>by rw[e3h];exact zU _ e
 generalize s.heap.objs.size=D at *;have f3:∀b∈fp,cO X pins H3 b:=λb hb=>by
  let⟨f0,f⟩:=hf b hb;refine⟨?_,f⟩;rw[<- hH3,aC (yQ (SG b hb))];exact f0
 have VV:tn 0 s3.heap:=T.keep _ _ _ st λb _ o e=>WD b o e;refine zz λh4 TM YF UE=>?_;dsimp only;have I4:=D7 (N:=N) (σ':=σ') (fp:=fp) I3 f3 (λb hb=>Zb (SG b hb) R6) hk SF TM YF UE V3 US hlen s3.toks;have fC:∀H',H' s3.heap.objs.size=none->cO X pins H' s3.heap.objs.size:=λH' hn=>I3.SW (yL _) hn;let⟨hg,V4,V5⟩:=hY fp s3 H3;have YG:∀b∈fp,∀H':Hp,H' b=none->cO (aZ X scope N fp s3 H3) [] H' b:=λb hb H' hn=>by
  refine⟨hn,(I4.ok.Wv b hb).1,I4.ok.TQ b hb,.inl hb,(I4.ok.Wv b hb).2,λp hp=>?_⟩;cases hp
 have loop:codeAny (model X.prog X.w) X.A (.compLoop (.ListComp elt [⟨tg,iter,ifs,0⟩] scope pos) 0 (.ref it) (.ref D) (eZ X scope s3.heap.objs.size)) (BX X pins σ Q (.ref D) s3.heap.objs.size) { s3 with heap:=h4 }:=by
  refine tN (λn s'=>∃i σ' H',Inv (aZ X scope N fp s3 H3) [] σ' H' s'/\tn i s'.heap/\(∀b∈fp,H' b=none)/\W i n σ' H') ?_ m0
   ⟨0,σ',H3,I4,T.keep _ _ _ VV λb _ o e=>YF b o e,λb hb=>(f3 b hb).1,w0⟩
  rintro n s5 ⟨i,X1,H5,I5,Wz,XZ,w5⟩;rcases turn i n X1 H5 w5 with ⟨stop,q⟩|⟨go,step⟩
  ·refine b9 (T.done (aZ X scope N fp s3 H3) rfl rfl rfl hc i [] s5 X1 H5 _ I5 (λb hb=>YG b hb H5 (XZ b hb)) Wz stop) λr s6 ⟨hr,I6⟩=>?_;subst hr;let⟨m,hn6,_⟩:=I6.loc;refine⟨D,H5,m,rfl,rfl,I3.UN I6.os I6.base I6.RO I6.bare (λb hb=>?_),hn6,fC H5 I6.free,q⟩;let⟨f0,f1,f2,f4,f5,f6⟩:=f3 b hb;exact⟨f4,f1,f5,f6⟩
  ·refine b9 (T.item (aZ X scope N fp s3 H3) rfl rfl rfl hc i [] s5 X1 H5 _ I5 (λb hb=>YG b hb H5 (XZ b hb)) Wz go) λr s6 ⟨u,hr,h6⟩=>?_;subst hr;refine b9 h6 λ_ s7 ⟨x,H7,I7,r7,y7,YH,fr7⟩=>?_;have I7':=I7.pinned (λb hb=>YG b hb H7 (fr7 b hb)) (T.obj _ _ YH);have again:∀ {pl:List (Addr×Obj)}{X2:St}{H9:Hp}{s9:Shared}{n':Nat},Inv (aZ X scope N fp s3 H3) ([]++nI fp s7.heap) X2 H9 s9->W (i+1) n' X2 H9->∃i σ' H',Inv (aZ X scope N fp s3 H3) [] σ' H' s9/\tn i s9.heap/\(∀b∈fp,H' b=none)/\W i n' σ' H':=λ{pl X2 H9 s9 n'} I9 w9=>by
    refine⟨i+1,X2,H9,I9.R9,T.keep _ _ _ YH λb hb o e=>(I9.pin (b,o) (yE _ (yE _ (eD hb e)))).1,λb hb=>?_,w9⟩;let⟨o,e,d⟩:=T.obj _ _ YH b hb;exact (I9.pin (b,o) (yE _ (yE _ (eD hb e)))).2.1
   refine b9 (hg _ s7 X1 H7 x u _ I7' r7 (step x H7 y7)) λ_ s8 ⟨X3,H8,I8,q8⟩=>?_;refine b9 (V4 _ s8 X3 H8 _ I8 q8) λok s9 ⟨H9,I9,q9⟩=>?_;cases ok with
   | false =>
    rw[yM (by decide)] at q9;rw[yM (by decide)];let⟨m',hm,w9⟩:=q9;exact⟨m',hm,again (pl:=[]) I9 w9⟩
   | true =>
    rw[yK rfl] at q9;rw[yK rfl];refine b9 (V5 _ s9 X3 H9 _ I9 q9) λy s10 ⟨v,H10,I10,r10,ys,YI,hz,m',hm,w10⟩=>?_;refine b9 (sg (X:=aZ X scope N fp s3 H3) _ s10 X3 H10 (.ref D) [v] (.ref D) [y] (λ_ H'=>W (i+1) m' X3 H') I10 rfl (.cons r10 .nil) ⟨D,ys,v,rfl,rfl,YI,hz,w10⟩) λ_ s11 ⟨_,H11,I11,_,w11⟩=>?_;exact⟨m',hm,again (pl:=[]) I11 w11⟩
 exact codeAny_compStart_list loop (T.self _ 0 _ _ _ (T.keep _ _ _ VV λb _ o e=>YF b o e) loop)
end
def GQ(wi:TI)(g:TG)(tt:TT)(te:TE)(Sn:St->St):TE:=λσ H Q=>wi σ H λJ H1=>∀D,H1 D=none->DP J g tt te D (Sn σ) (upd H1 D (.lst [])) Q
structure iw(X:Cx)(scope:Scope)(N:List Str)(Sn:St->St):Prop where
 kind:scope.kind=.function
 free:∀x∈scope.names,x.2=.free->X.env.kindOf x.1=some .cell\/X.env.kindOf x.1=some .free
 dup:∀ {x:Str},(x,NameKind.cell)∈scope.names->(x,NameKind.free)∈scope.names->False
 loc:∀x∈scope.names,x.2=.local -> scope.names.lookup x.1=some .local
 YJ:∀ (σ:St) (i:Nat) (x:Str) (v:V),N[i]?=some x->(Sn σ)[i]?=some (some v)->scope.names.lookup x=some .free/\∃j:Nat,X.N[j]?=some x/\σ[j]?=some (some v)
 len:∀σ:St,(Sn σ).length=N.length
section
variable {X:Cx}{scope:Scope}{N:List Str}{Sn:St->St}{tg iter elt:Expr}{ifs:List Expr}{pos:Pos}{wi:TI}{g:TG}{tt:TT}{te:TE}
def Iy(hc:X.calm=true)(S:iw X scope N Sn)(hi:PI X tg iter wi)
  (hY:∀fp s H,PG (aZ X scope N fp s H) tg g/\Nc (aZ X scope N fp s H) ifs tt/\PE (aZ X scope N fp s H) elt te)
  (hs:∀x,foldedSetIterable iter X.env x=pure x:=by intro _;rfl):PE X (.ListComp elt [⟨tg,iter,ifs,0⟩] scope pos) (GQ wi g tt te Sn):=by
 intro pins s σ H Q I h;rw[eval_ListComp];refine wpAny_comprehension_free (use:=none) rfl hs (lQ (j1 I.ok S.free)) S.kind S.loc (b9 (hi pins s σ H _ I h) λv s1 h1=>b9 h1 λXY s2 h2=>?_);let⟨it,fp,tn,J,H2,e,I2,T,U5,f2,rd⟩:=h2;subst e;refine b9 (rN (iter:=iter) (pos:=pos) (E:=X.xe) hc I2 T U5 f2 S.kind S.free S.dup (S.YJ σ) (S.len σ) hY rd) λacc s3 h3=>b9 h3 λUW s4 h4=>?_;refine jR h4 λr s5 h5=>?_;let⟨D,H5,m,rfl,rfl,I5,hn,fC,q⟩:=h5;refine⟨m,hn,λh' sb=>?_⟩;let⟨f0,f1,TY,f3,f4,f5⟩:=fC;exact⟨.ref D,H5,I5.turned (t':=s5.toks) (λb o hb e=>(sb.2 b hb).trans e) f0 f1 f3 f4 f5,rfl,q⟩
def HL(hc:X.calm=true)(S:iw X scope N Sn)(hi:PI X tg iter wi)
  (hY:∀fp s H,PG (aZ X scope N fp s H) tg g/\Nc (aZ X scope N fp s H) ifs tt/\PE (aZ X scope N fp s H) elt te)
  (hN:X.N.Nodup) (YK:X.N[i]?=some y) (hy:X.env.scope.names.lookup y=some .local)
  (YL:swapsWith (.ListComp elt [⟨tg,iter,ifs,0⟩] scope pos) (some (.Name y py)) Sh.line X.env=pure true)
  (hs:∀x,foldedSetIterable iter X.env x=pure x:=by intro _;rfl):PS X (.Assign [.Name y py] (.ListComp elt [⟨tg,iter,ifs,0⟩] scope pos) Sh) (Eo (GQ wi g tt te Sn) (uY i)):=by
 intro pins s σ H D I h;rw[exec_Assign_Name_used _ _ _ _ YL];refine zV (vH (zV ?_));show wpAny _ X.A (do let _ <- comprehension (.ListComp elt [⟨tg,iter,ifs,0⟩] scope pos) scope X.env _ (newList []) false (eval iter X.env) (some (assign (.Name y py) X.env))) _ _ s;refine zV (yZ (wpAny_comprehension_free (use:=some (assign (.Name y py) X.env)) (Q:=λ_ s'=>SP X pins D .next s') rfl hs (lQ (j1 I.ok S.free)) S.kind S.loc
  (b9 (hi pins s σ H _ I h) λv s1 h1=>b9 h1 λXY s2 h2=>?_)) (λ_ s' hq=>zW (zW hq)) λ_ _ e=>e)
 let⟨it,fp,tn,J,H2,e,I2,T,U5,f2,rd⟩:=h2;subst e;refine b9 (rN (iter:=iter) (pos:=pos) (E:=X.xe) hc I2 T U5 f2 S.kind S.free S.dup (S.YJ σ) (S.len σ) hY rd) λacc s3 h3=>b9 h3 λUW s4 h4=>?_;refine jR h4 λr s5 h5=>?_;let⟨D',H5,m,rfl,rfl,I5,hn,fC,q⟩:=h5;show wpAny _ X.A (assign (.Name y py) X.env (.ref D')) _ _ _;refine wpAny_assign_Name (nG (v:=.ref D') I5 hN YK (.inl hy) rfl (λs6 I6 ⟨a,sa,ha⟩=>?_) (.inr hy));let⟨f0,f1,TY,f3,f4,f5⟩:=fC;have So:UW.locals≠a:=by
  rcases ha with z|z
  ·rw[z];exact f1
  ·exactλw=>f4 y a z w.symm
 refine⟨m,hn.sameBut sa So,λh' sb=>?_⟩;exact⟨_,H5,I6.turned (t':=s6.toks) (λb o hb e=>(sb.2 b hb).trans e) f0 f1 f3 f4 f5,q⟩
end
abbrev PH(X:Cx)(qual:Str)(scope:Scope)(f c L:Addr):Env:=W.envX qual scope L f (.ref c) (eU X.env scope.names [])
def lA(X:Cx)(A:Around)(qual:Str)(scope:Scope)(N:List Str)(f c:Addr)(s:Shared)(H:Hp):Cx where
 prog:=X.prog
 w:=X.w
 K:=X.K
 mg:=X.mg
 base:=X.base
 A:=A.deeper (PH X qual scope f c s.heap.objs.size)
 N:=N
 RT:=s
 RM:=H
 env:=PH X qual scope f c s.heap.objs.size
 outer:=X.stack
 stack:=PH X qual scope f c s.heap.objs.size::X.stack
 ex:=[]
 fn:=λ_=>false
 calm:=true
 pn:=[]
 xe:=λ_ _=>False
def ID(I:Inv X pins σ H s)(hd:A.handled=none)(hA:A.frames=some X.stack)(S:iw X scope N Sn)(VA:∀x∈scope.names,x.2≠.cell)(WE:N[0]?=some p)(hp:scope.names.lookup p=some .local)(hNd:N.Nodup)(r:RelV v u)
  (TM:h1.Ns s.heap.objs.size (λx=>[(p,u)].reverse.lookup x)) (SH:∀b o,s.heap.get? b=some o->h1.get? b=some o) (t':Nat) :
  Inv (lA X A qual scope N f c s H) [] ((Sn σ).set 0 (some v)) H { s with heap:=h1,toks:=t' }:=by
 have SJ:=j1 I.ok S.free;have Vy:∀x c,(eU X.env scope.names []).lookup x=some c->X.env.cells.lookup x=some c:=λx c e=>j9 SJ (λ_ _ z=>by cases z) x c (mem_of_lookup e);have U6:∀b:Addr,b∉(lA X A qual scope N f c s H).ex:=λb z=>absurd (show b∈([]:List Addr) from z) (by simp);refine⟨⟨I.ok.mod,S.kind,rfl,rfl,yL _,λx y d e1 e2=>I.ok.inj x y d (Vy x d e1) (Vy y d e2),λx hx=>?_,λx d z=>?_,λ_=>hd,Around.frames_deeper hA,.inr ⟨rfl,rfl⟩,λb z=>absurd z (U6 b),I.bs,yD I.ok.UM I.sz,λb _ _=>U6 b,λb z=>absurd z (U6 b),I.stack,I.SE⟩,
  rfl,I.bare,Un.kept SH,⟨_,TM,λi x w e1 e2 e3=>?_⟩,λx d e=>?_,I.RO.fresh (yL _),λx d e=>I.RU x d (Vy x d e),λq hq=>absurd (show q∈([]:List (Addr×Obj)) from hq) (by simp),I.RO.kept SH,?_⟩
 ·rcases hx with hx|hx
  ·exact absurd rfl (VA _ (mem_of_lookup (show scope.names.lookup x=some .cell from hx)))
  ·exact fN (.inl hx)
 ·cases z
 ·cases i with
  | zero =>
   have e1:N[0]?=some x:=e1;rw[WE] at e1;cases e1;have hl:0 < (Sn σ).length:=by rw[S.len];exact (List.getElem?_eq_some_iff.mp WE).1
   rw[vU hl] at e2;cases e2;exact⟨u,r,.inl ⟨hp,by simp⟩⟩
  | succ i =>
   have e2':(Sn σ)[i+1]?=some (some w):=by
    rw[kY (by lia)] at e2;exact e2
   let⟨UG,j,hj,hv⟩:=S.YJ σ (i+1) x w e1 e2';have hm:(x,NameKind.free)∈scope.names:=mem_of_lookup UG;let⟨m,hn,hl⟩:=I.loc;have kx:=S.free _ hm rfl;let⟨u',ru,lk⟩:=hl j x w hj hv (kx.elim (λk=>.inr (.inl k)) λk=>.inr (.inr k));refine⟨u',ru,.inr ⟨.inr UG,?_⟩⟩;rcases lk with ⟨k,_⟩|⟨_,c',ec,ic⟩
   ·have k:X.env.kindOf x=some .local:=k;rcases kx with k'|k'<;>· rw[k] at k';cases k'
   ·let⟨c'',SS⟩:=fN (env:=X.env) (acc:=[]) (.inl UG);have e':=Vy x c'' SS;rw[ec] at e';cases e';exact⟨c',SS,ic.keeps SH⟩
 ·let⟨w,q⟩:=I.cell x d (Vy x d e);exact⟨w,q.keeps SH⟩
 ·rw[yC];exact S.len σ
def Gx(I:Inv X pins σ H s)(hr:ej (k+1) A)(hA:A.frames=some X.stack)(S:iw X scope N Sn)(VA:∀x∈scope.names,x.2≠.cell)
  (WE:N[0]?=some p) (hp:scope.names.lookup p=some .local) (hNd:N.Nodup) (UE:scope.isCoroutine=false) (V6:scope.isGenerator=false)
  (hf:s.heap.get? f=some (W.kla_obj name qual params body scope (eU X.env scope.names []) pm c TB)) (V7:H c=some (.Ue qual)) (hb:bindArgs (W.kla_fn name qual params body scope (eU X.env scope.names []) pm (.ref c) TB) ⟨[u],[]⟩=pure [(p,u)])
  (r:RelV v u) (hY:PE (lA X A qual scope N f c s H) body te) (q:te ((Sn σ).set 0 (some v)) H Q) :
  wpAny (model X.prog X.w) A (call (.ref f) [u]) (EP X pins σ Q) (λ_ _=>False) s:=by
 have Se:s.heap.CodeRec (.ref c) qual:=I.RO c _ V7;refine vP (W.kla_callFunE hr.depth hf rfl UE V6 rfl Se ?_);rw[hb];refine zW (wpAny_newFunctionEnv VA (λy hy=>?_) (λh1 TM WG=>⟨?_,?_⟩) S.kind)
 ·rw[List.mem_singleton.mp hy];exact hp
 ·exact I.nolimit.fresh _ WG
 ·have hk1:∀b o,s.heap.get? b=some o->h1.get? b=some o:=λb o e=>WG.extBut b o (yQ (zY e)) (zU _ e);have I1:=ID (qual:=qual) (f:=f) (c:=c) I hr.hd hA S VA WE hp hNd r TM hk1 (s.toks+[(p,u)].length);refine W.kla_codeExpr (yZ (hY [] _ _ H Q I1 q) (λw s' ⟨v',H',I',r',q'⟩=>?_) λe s' h=>False.elim h);exact⟨v',H',I.UN I'.os I'.base I'.RO I'.bare (λb z=>absurd (show b∈([]:List Addr) from z) (by simp)),r',q'⟩
def zi{pos:Pos}(l:List Value)(h:TriplesOk l)(e:codeAmong pos' (l++[rawInt pos.line,rawInt pos.col,c])=some v):codeAmong pos' l=some v\/v=c:=by
 fun_induction TriplesOk l with
 | case1 =>
  simp?[xN,codeAmong,rawInt] at e;split at e
  ·cases e;exact .inr rfl
  ·cases e
 | case2 a t b u x rest ih =>
  simp?[xE,codeAmong] at e ⊢;split at e
  ·rename_i hc;rw[yK hc];exact .inl e
  ·rename_i hc;rw[yM hc];exact ih h e
 | case3 l h1 h2=>exact h.elim
def Gs(I:Inv X pins σ H s)(S:iw X scope N Sn)(hq:X.env.qual++"<lambda>"=qual)(Ul:X.env.code=.ref c)(C:W.CodeHd X.base c P)(hT:H P=some (.tab qual))(hB:O3 X.mg X.base)
  (V8:defaultsOf params X.env=([],[]))
  (h:∀ (f c':Addr) (pm TB:Value) (s':Shared) (H':Hp),Inv X pins σ H' s'->s'.heap.get? f=some (W.kla_obj "<lambda>" qual params body scope (eU X.env scope.names []) pm c' TB)->H' f=none->H' c'=some (.Ue qual)->aR H H'->cO X pins H' f->(∀b,H' b≠none->H b≠none\/H' b=some (.Ue qual))->Q (.ref f) s') :
  wpAny (model X.prog X.w) X.A (eval (.Lambda params body scope SX) X.env) Q X.xe s:=by
 have SJ:=lQ (j1 I.ok S.free);have hCs:=C.keeps I.bk;have hg:s.heap.Ns mainGlobals X.mg:=by
  let⟨o,es,ep,e,r⟩:=I.ok.mod.glob;exact⟨o,es,ep,I.bk _ _ e,r⟩
 have hPn:X.base.get? P=none:=by
  cases e:X.base.get? P with
  | none=>rfl
  | some o=>rw[(I.bs P o e).2] at hT;cases hT
 let⟨ps,hP,ht,UE⟩:=I.RO P _ hT;have hb:s.heap.BuiltinsAt X.mg P:=by
  let⟨bm,o,b1,b2,b3,b4,b5⟩:=hB;exact⟨bm,o,b1,b2,b3,(λz=>by rw[z,hPn] at b4;cases b4),I.bk _ _ b4,b5⟩
 refine W.kla_eval V8 ?_;rw[hq];cases hf:codeAmong SX ps.toList with
 | some cv =>
  let⟨c',rfl,SS⟩:=UE SX cv hf;refine W.kla_makeFunctionHit SJ I.ok.glob hg Ul hCs hP ht hf hb λTB h' tk kp hz=>?_;have kp2:∀b o,s.heap.get? b=some o->(h'.push (W.kla_obj "<lambda>" qual params body scope (eU X.env scope.names []) ((X.mg "__name__").getD .none) c' TB)).get? b=some o:=λb o e=>zU _ (kp b o e);have hn:H h'.objs.size=none:=I.RO.fresh hz;exact h _ c' _ TB _ H (I.kept (t':=tk) kp2) (zX _ rfl) hn SS (.refl _) (I.SW hz hn) λb z=>.inl z
 | none =>
  have hgP:mainGlobals≠P:=λz=>by
   let⟨o,es,ep,e,r⟩:=I.ok.mod.glob;rw[z,hPn] at e;cases e
  refine W.kla_makeFunction SJ I.ok.glob hg Ul hCs hP ht hf hgP hb λc' TB h' tk hx W5 Ut hcr YM=>?_;have hn:H c'=none:=I.RO.fresh W5;have hz:s.heap.objs.size<=h'.objs.size:=jS (qY W5 Ut);have nP:∀ {b:Addr}{u:HO},H b=some u->(∀q,u≠.tab q)->b≠P:=λ{b u} e So z=>by subst z;rw[hT] at e;cases e;exact So _ rfl
  have kp:∀b o,b≠P->s.heap.get? b=some o->(h'.push (W.kla_obj "<lambda>" qual params body scope (eU X.env scope.names []) ((X.mg "__name__").getD .none) c' TB)).get? b=some o:=λb o hb e=>zU _ (hx b o hb e);have hPc:P≠c':=λz=>by rw[<- z,hT] at hn;cases hn
  have up:∀b u,H b=some u->upd H c' (.Ue qual) b=some u:=λb u e=>by rw[aC (aM e hn)];exact e
  have un:Un X.fs [] H (upd H c' (.Ue qual)) s.heap (h'.push (W.kla_obj "<lambda>" qual params body scope (eU X.env scope.names []) ((X.mg "__name__").getD .none) c' TB)):=by
   refine⟨λb o e n _ _=>kp b o (λz=>by rw[z,hT] at n;cases n) e,λb o e n _ _=>⟨o.slots,kp b o (λz=>by rw[z,hT] at n;cases n) e⟩,λb o e n _=>?_,λb o e _=>?_,λb xs e=>up b _ e,λb o u e=>up b _ e,⟨λb u e _=>up b u e,λb q ps' e z=>?_⟩⟩
   ·rw[aC (yQ (zP (zY e) W5))];exact n
   ·by_cases hb:b=P
    ·subst hb;exact⟨_,zU _ YM⟩
    ·exact⟨o,kp b o hb e⟩
   ·by_cases hb:b=P
    ·subst hb;rw[hP] at z;cases z;exact⟨_,zU _ YM⟩
    ·exact⟨#[],by rw[Array.append_empty];exact kp b _ hb z⟩
  have RO:mV X.prog X.w (upd H c' (.Ue qual)) (h'.push (W.kla_obj "<lambda>" qual params body scope (eU X.env scope.names []) ((X.mg "__name__").getD .none) c' TB)):=by
   intro b u e;by_cases W6:b=c'
   ·subst W6;rw[aG] at e;cases e;let⟨c0,oc,vs,t,e0,e1,r⟩:=hcr;exact⟨c0,oc,vs,t,e0,zU _ e1,r⟩
   ·rw[aC W6] at e;by_cases hb:b=P
    ·subst hb;rw[hT] at e;cases e;refine⟨_,zU _ YM,?_,λpos v hv=>?_⟩
     ·have:=TriplesOk_snoc SX.line SX.col (.ref c') ps.toList ht;simpa using this
     ·have W7:codeAmong pos (ps.toList++[rawInt SX.line,rawInt SX.col,.ref c'])=some v:=by simpa using hv
      rcases zi ps.toList ht W7 with z|z
      ·let⟨c0,z1,z2⟩:=UE pos v z;exact⟨c0,z1,up _ _ z2⟩
      ·exact⟨c',z,aG⟩
    ·exact (I.RO b u e).Sd (λd o hd eo=>kp d o (by
      rcases hd with rfl|hd
      ·exact hb
      ·exact nP hd λq z=>by cases z) eo) (λd hd=>up d _ hd) λd o hd _=>up d _ hd
  have I':=I.un (t':=tk) un RO;have W8:upd H c' (.Ue qual) h'.objs.size=none:=by
   rw[aC (jH Ut)];exact I.RO.fresh hz
  refine h _ c' _ TB _ _ I' (zX _ rfl) W8 aG up (I.SW hz W8) λb z=>?_;by_cases W6:b=c'
  ·subst W6;exact .inr aG
  ·rw[aC W6] at z;exact .inl z
end L2
namespace Dl
open PySem L2 PySem.Spec PyProof.Rows
abbrev D:=PyData
mutual
def Rep(K:W.Frag)(H:Hp):D->V->Prop
 | .none,v=>v=.RK
 | .bool b,v=>v=.bl b
 | .int i,v=>v=.int i
 | .str x,v=>v=.str x
 | .tuple ds,v=>∃a vs,v=.ref a/\fM K H a vs/\ay K H ds vs
 | .list ds,v=>∃a vs,v=.ref a/\gH K H a vs/\ay K H ds vs
 | .dict _,_=>False
def ay(K:W.Frag)(H:Hp):List D->List V->Prop
 | [],vs=>vs=[]
 | d::ds,vs=>∃v r,vs=v::r/\Rep K H d v/\ay K H ds r
end
def aD{K:W.Frag}(e:aR H H')(h:fM K H a xs):fM K H' a xs:=by
 rcases h with (h|⟨o,h⟩)|h
 ·exact .inl (.inl (e _ _ h))
 ·exact .inl (.inr ⟨o,e _ _ h⟩)
 ·exact .inr h
mutual
theorem Rep.mono{K:W.Frag}{H H':Hp}(e:aR H H'):∀ {d:D}{v:V},Rep K H d v->Rep K H' d v
 | .none,_,h=>h
 | .bool _,_,h=>h
 | .int _,_,h=>h
 | .str _,_,h=>h
 | .tuple ds,_,h=>by
  simp?[Rep] at h ⊢;let⟨a,vs,rfl,q,r⟩:=h;exact⟨a,vs,rfl,aD e q,ay.mono e r⟩
 | .list ds,_,h=>by
  simp?[Rep] at h ⊢;let⟨a,vs,rfl,q,r⟩:=h;exact⟨a,vs,rfl,e.seq q,ay.mono e r⟩
 | .dict _,_,h=>h
theorem ay.mono{K:W.Frag}{H H':Hp}(e:aR H H'):∀ {ds:List D}{vs:List V},ay K H ds vs->ay K H' ds vs
 | [],_,h=>h
 | d::ds,_,h=>by
  simp?[ay] at h ⊢;let⟨v,r,rfl,a,b⟩:=h;exact⟨v,r,rfl,Rep.mono e a,ay.mono e b⟩
end
section
variable {K:W.Frag}
def ay.nil:ay K H [] []:=by simp[ay]
def ay.cons(a:Rep K H d v)(b:ay K H ds vs):ay K H (d::ds) (v::vs):=by
 simp?[ay];exact⟨v,vs,rfl,a,b⟩
def ay.cons_inv(h:ay K H (d::ds) vs):∃v r,vs=v::r/\Rep K H d v/\ay K H ds r:=by simpa only[ay] using h
def ay.nil_inv(h:ay K H [] vs):vs=[]:=by simpa only[ay] using h
def ay.length:∀ {ds:List D}{vs:List V},ay K H ds vs->vs.length=ds.length
 | [],_,h=>by rw[h.nil_inv];rfl
 | d::ds,_,h=>by let⟨v,r,rfl,_,b⟩:=h.cons_inv;simp[ay.length b]
def ay.get:∀ {ds:List D}{vs:List V}{i:Nat}{v:V},ay K H ds vs->vs[i]?=some v->∃d,ds[i]?=some d/\Rep K H d v
 | [],_,i,v,h,e=>by rw[h.nil_inv] at e;simp at e
 | d::ds,_,i,v,h,e=>by
  let⟨v',r,rfl,a,b⟩:=h.cons_inv;cases i with
  | zero=>simp at e;subst e;exact⟨d,rfl,a⟩
  | succ i=>simp at e;let⟨d',h1,h2⟩:=ay.get b e;exact⟨d',by simpa using h1,h2⟩
def ay.getD:∀ {ds:List D}{vs:List V}{i:Nat}{d:D},ay K H ds vs->ds[i]?=some d->∃v,vs[i]?=some v/\Rep K H d v
 | [],_,i,d,h,e=>by simp at e
 | d::ds,_,i,d',h,e=>by
  let⟨v',r,rfl,a,b⟩:=h.cons_inv;cases i with
  | zero=>simp at e;subst e;exact⟨v',rfl,a⟩
  | succ i=>simp at e;let⟨v,h1,h2⟩:=ay.getD b e;exact⟨v,by simpa using h1,h2⟩
def ay.append:∀ {ds es:List D}{vs us:List V},ay K H ds vs->ay K H es us->ay K H (ds++es) (vs++us)
 | [],_,_,_,h,g=>by rw[h.nil_inv];exact g
 | d::ds,_,_,_,h,g=>by let⟨v,r,rfl,a,b⟩:=h.cons_inv;exact ay.cons a (ay.append b g)
def ay.take:∀ {ds:List D}{vs:List V}(n:Nat),ay K H ds vs->ay K H (ds.take n) (vs.take n)
 | [],_,n,h=>by rw[h.nil_inv];simp[ay]
 | d::ds,_,0,h=>by simp[ay]
 | d::ds,_,n+1,h=>by let⟨v,r,rfl,a,b⟩:=h.cons_inv;exact ay.cons a (ay.take n b)
def ay.drop:∀ {ds:List D}{vs:List V}(n:Nat),ay K H ds vs->ay K H (ds.drop n) (vs.drop n)
 | [],_,n,h=>by rw[h.nil_inv];simp[ay]
 | d::ds,_,0,h=>h
 | d::ds,_,n+1,h=>by let⟨v,r,rfl,a,b⟩:=h.cons_inv;exact ay.drop n b
def ay.reverse:∀ {ds:List D}{vs:List V},ay K H ds vs->ay K H ds.reverse vs.reverse
 | [],_,h=>by rw[h.nil_inv];simp[ay]
 | d::ds,_,h=>by
  let⟨v,r,rfl,a,b⟩:=h.cons_inv;rw[vF,vF];exact ay.append (ay.reverse b) (ay.cons a ay.nil)
end
structure bM(HF H RN H':Hp):Prop where
 hh:aR H H'
 ff:aR HF RN
 fh:aR RN H'
 nw:∀a o,RN a=some o->HF a=some o\/H a=none
def bM.refl(s:aR HF H):bM HF H HF H:=⟨.refl _,.refl _,s,λ_ _ e=>.inl e⟩
def bM.trans(a:bM HF H RP H1)(b:bM RP H1 R1 H2):bM HF H R1 H2 :=
 ⟨a.hh.trans b.hh,a.ff.trans b.ff,b.fh,λx o e=>(b.nw x o e).elim (λz=>a.nw x o z) λz=>.inr (a.hh.free z)⟩
def cF(h:H p=none):aR H (upd H p o):=λb u e=>by rw[aC (aM e h)];exact e
def bM.new(s:aR HF H)(h:H p=none):bM HF H (upd HF p o) (upd H p o):=by
 have hf:HF p=none:=s.free h;refine⟨cF h,cF hf,λb u e=>?_,λb u e=>?_⟩
 ·by_cases hb:b=p
  ·subst hb;rw[aG] at e ⊢;exact e
  ·rw[aC hb] at e ⊢;exact s b u e
 ·by_cases hb:b=p
  ·subst hb;exact .inr h
  ·rw[aC hb] at e;exact .inl e
def bM.own(s:aR HF H)(h:H p=none):bM HF H HF (upd H p o) :=
 ⟨cF h,.refl _,λb u e=>by rw[aC (aM (s b u e) h)];exact s b u e,λ_ _ e=>.inl e⟩
def bM.freeze(g:bM HF H RP H1)(h:H p=none)(h1:H1 p=some o)(hf:RP p=none):bM HF H (upd RP p o) H1 :=
 ⟨g.hh,g.ff.trans (cF hf),λb u e=>by
  by_cases hb:b=p
  ·subst hb;rw[aG] at e;rw[h1,<- e]
  ·rw[aC hb] at e;exact g.fh b u e,λb u e=>by
  by_cases hb:b=p
  ·subst hb;exact .inr h
  ·rw[aC hb] at e;exact g.nw b u e⟩
def jf:List Str:=["ways_of","turned_order","fairest"]
def eh(K:W.Frag)(HF:Hp):Prop:=∀ (f:Addr) (oc:Value) (od:Option Addr) (fd:FuncData) (sl:Array (Option Value)) (c P:Addr),K.lookup f=some ⟨oc,od,.func fd,sl⟩->fd.qualname∈jf->fd.code=.ref c->W.codeHdIn K c P=true->HF P=some (.tab (fd.qualname++".<locals>."++"<lambda>"))
def eh.mono{K:W.Frag}(h:eh K HF)(e:aR HF RN):eh K RN:=λf oc od fd sl c P a b d q=>e _ _ (h f oc od fd sl c P a b d q)
abbrev Env:=List (Option D)
structure cM(K:W.Frag)(HF:Hp)(ρ:Env)(σ:L2.St):Prop where
 get:∀ (i:Nat) (d:D),ρ[i]?=some (some d)->∃v,σ[i]?=some (some v)/\Rep K HF d v
 len:ρ.length<=σ.length
 tb:eh K HF
def cM.mono{K:W.Frag}(h:cM K HF ρ σ)(e:aR HF RN):cM K RN ρ σ:=⟨λi d q=>let ⟨v,a,b⟩:=h.get i d q;⟨v,a,b.mono e⟩,h.len,h.tb.mono e⟩
def tD(K:W.Frag)(f:Env->Option D):TE:=λσ H Q=>∃HF ρ d,aR HF H/\cM K HF ρ σ/\f ρ=some d/\∀v H' RN,bM HF H RN H'->Rep K RN d v->Q v H'
def DE(X:Cx)(e:Expr)(f:Env->Option D):Prop:=PE X e (tD X.K f)
def tF(K:W.Frag)(f:Env->Option (List D)):TE:=λσ H Q=>∃HF ρ ds,aR HF H/\cM K HF ρ σ/\f ρ=some ds /\
 ∀a vs H' RN,bM HF H RN H'->H a=none->RN a=none->H' a=some (.lst vs)->ay K RN ds vs->Q (.ref a) H'
def DF(X:Cx)(e:Expr)(f:Env->Option (List D)):Prop:=PE X e (tF X.K f)
def K2(K:W.Frag)(f:Env->Option Bool):TT:=λσ H Q=>∃HF ρ b,aR HF H/\cM K HF ρ σ/\f ρ=some b/\∀H' RN,bM HF H RN H'->Q b H'
def DT(X:Cx)(e:Expr)(f:Env->Option Bool):Prop:=PT X e (K2 X.K f)
def Pp(K:W.Frag)(f:Env->Option (List D)):TA:=λσ H Q=>∃HF ρ ds,aR HF H/\cM K HF ρ σ/\f ρ=some ds/\∀vs H' RN,bM HF H RN H'->ay K RN ds vs->Q vs H'
def DA(X:Cx)(es:List Expr)(f:Env->Option (List D)):Prop:=PA X es (Pp X.K f)
def aV(h:PE X e t)(i:∀σ H Q,t' σ H Q->t σ H Q):PE X e t':=λpins s σ H Q I q=>h pins s σ H Q I (i σ H Q q)
def tV(h:PT X e t)(i:∀σ H Q,t' σ H Q->t σ H Q):PT X e t':=λpins s σ H Q I q=>h pins s σ H Q I (i σ H Q q)
def zg(h:PA X e t)(i:∀σ H Q,t' σ H Q->t σ H Q):PA X e t':=λpos pins s σ H Q I q=>h pos pins s σ H Q I (i σ H Q q)
def bs(h:x.bind f=some b):∃a,x=some a/\f a=some b:=by
 cases x with
 | none=>cases h
 | some a=>exact⟨a,rfl,h⟩
def DF.de(h:DF X e f):DE X e (λρ=>(f ρ).map PyData.list):=aV h λσ H Q ⟨HF,ρ,d,sm,eo,hf,q⟩=>by
 have hf:(f ρ).map PyData.list=some d:=hf;cases e1:f ρ with
 | none=>rw[e1] at hf;cases hf
 | some ds =>
  rw[e1] at hf;obtain rfl:PyData.list ds=d:=xC hf;refine⟨HF,ρ,ds,sm,eo,e1,λa vs H' RN g ha U8 h' r=>q _ _ (upd RN a (.lst vs)) (g.freeze ha h' U8) ?_⟩;simp?[Rep];exact⟨a,vs,rfl,.inl (.inl aG),r.mono (cF U8)⟩
def ae(i:Nat):Env->Option D:=λρ=>(ρ[i]?).getD none
def MY(i:Nat)(hN:X.N[i]?=some x)(hv:AS X.env.scope x)(hd:(x == ("__debug__":Str))=false:=by decide)(Se:(x == ("__classdict__":Str))=false:=by decide):DE X (.Name x pos) (ae i) :=
 aV (e9 hN hv hd Se) λσ H Q ⟨HF,ρ,d,sm,eo,hf,q⟩=>by
  have hf:(ρ[i]?).getD none=some d:=hf;cases e:ρ[i]? with
  | none=>rw[e] at hf;cases hf
  | some o =>
   rw[e] at hf;have hf:o=some d:=hf;subst hf;let⟨v,a,b⟩:=eo.get i d e;exact⟨v,a,q v H HF (.refl sm) b⟩
def fC(d:D):Env->Option D:=λ_=>some d
def K7{i j pos}:DE X (.Constant (.int i) j pos) (fC (.int i)):=aV AB λσ H Q ⟨HF,ρ,d,sm,eo,hf,q⟩=>by cases hf;exact q _ H HF (.refl sm) (by simp[Rep])
def N2{b j pos}:DE X (.Constant (.bool b) j pos) (fC (.bool b)):=aV FF λσ H Q ⟨HF,ρ,d,sm,eo,hf,q⟩=>by cases hf;exact q _ H HF (.refl sm) (by simp[Rep])
def KI{j pos}:DE X (.Constant .none j pos) (fC .none):=aV Ma λσ H Q ⟨HF,ρ,d,sm,eo,hf,q⟩=>by cases hf;exact q _ H HF (.refl sm) (by simp[Rep])
def Mw{x j pos}:DE X (.Constant (.str x) j pos) (fC (.str x)):=aV Fm λσ H Q ⟨HF,ρ,d,sm,eo,hf,q⟩=>by cases hf;exact q _ H HF (.refl sm) (by simp[Rep])
def Js(hg:Gl X x)(hm:X.mg x=some (.int i t))(hd:(x == ("__debug__":Str))=false:=by decide):DE X (.Name x pos) (fC (.int i)) :=
 aV (IV (v:=.int i) hg hm ⟨t,rfl⟩ hd) λσ H Q ⟨HF,ρ,d,sm,eo,hf,q⟩=>by cases hf;exact q _ H HF (.refl sm) (by simp[Rep])
def fF(K:W.Frag)(r:R2)(g:D->D->Option D):Prop:=∀HF H x y v1 v2 d Q,aR HF H->Rep K HF x v1->Rep K HF y v2->g x y=some d->(∀v H' RN,bM HF H RN H'->Rep K RN d v->Q v H')->r v1 v2 H Q
def f2(g:D->D->Option D)(f1 f2:Env->Option D):Env->Option D:=λρ=>(f1 ρ).bind λx=>(f2 ρ).bind λy=>g x y
def IH{X:Cx}{fa fb:Env->Option D}(hr:fF X.K r g):∀σ H Q,tD X.K (f2 g fa fb) σ H Q->NB r (tD X.K fa) (tD X.K fb) σ H Q:=λσ H Q ⟨HF,ρ,d,sm,eo,hf,q⟩=>by
 let⟨x,hx,hf⟩:=bs hf;let⟨y,hy,hg⟩:=bs hf;exact⟨HF,ρ,x,sm,eo,hx,λv1 H1 RP g1 r1=>⟨RP,ρ,y,g1.fh,eo.mono g1.ff,hy,λv2 H2 R1 g2 r2=>hr R1 H2 x y v1 v2 d Q g2.fh (r1.mono g2.ff) r2 hg λv H' RN g3 r3=>q v H' RN ((g1.trans g2).trans g3) r3⟩⟩
def wz(ho:gp X (binaryOp op) r)(hr:fF X.K r g)(ha:DE X a fa)(hb:DE X b fb):DE X (.BinOp a op b pos) (f2 g fa fb):=aV (DH ho ha hb) (IH hr)
def iL(ho:gp X (compareOp op) r)(hr:fF X.K r g)(ha:DE X a fa)(hb:DE X b fb)(hm:behindInMarks op b=false):DE X (.Compare a [op] [b] pos) (f2 g fa fb):=aV (Ji ho ha hb hm) (IH hr)
def sT(C:Int->Int->Prop)[∀i j,Decidable (C i j)](g:Int->Int->D):D->D->Option D
 | .int i,.int j=>if C i j then some (g i j) else none
 | _,_=>none
def Fi{K:W.Frag}{C:Int->Int->Prop}[∀i j,Decidable (C i j)]{gi:Int->Int->Int}:fF K (rI C λi j=>.int (gi i j)) (sT C λi j=>.int (gi i j)):=by
 intro HF H x y v1 v2 d Q sm r1 r2 hg q;cases x<;>cases y<;>simp?[sT] at hg<;>try cases hg
 rename_i i j;simp?[Rep] at r1 r2;by_cases hc:C i j
 ·rw[yK hc] at hg;cases hg;exact⟨i,j,r1,r2,hc,q _ H HF (.refl sm) (by simp[Rep])⟩
 ·rw[yM hc] at hg;cases hg
def D1{K:W.Frag}{gi:Int->Int->Int}:fF K (Ht λi j=>.int (gi i j)) (sT (λ_ _=>True) λi j=>.int (gi i j)):=by
 intro HF H x y v1 v2 d Q sm r1 r2 hg q;cases x<;>cases y<;>simp?[sT] at hg<;>try cases hg
 rename_i i j;simp?[Rep] at r1 r2;exact⟨i,j,r1,r2,q _ H HF (.refl sm) (by simp[Rep])⟩
def jx{K:W.Frag}{gi:Int->Int->Bool}:fF K (Ht λi j=>.bl (gi i j)) (sT (λ_ _=>True) λi j=>.bool (gi i j)):=by
 intro HF H x y v1 v2 d Q sm r1 r2 hg q;cases x<;>cases y<;>simp?[sT] at hg<;>try cases hg
 rename_i i j;simp?[Rep] at r1 r2;exact⟨i,j,r1,r2,q _ H HF (.refl sm) (by simp[Rep])⟩
noncomputable instance (i j:Int):Decidable (pY i j):=by unfold pY;infer_instance
noncomputable instance (i j:Int):Decidable (HM i j):=by unfold HM;infer_instance
section
variable {X:Cx}{a b c:Expr}{fa fb fc:Env->Option D}{pos:Pos}{rest:List Expr}
def k8(fa fb:Env->Option D):Env->Option D:=λρ=>(fa ρ).bind fun|.bool true=>fb ρ|.bool false=>some (.bool false)|_=>none
def Qb(fa fb:Env->Option D):Env->Option D:=λρ=>(fa ρ).bind fun|.bool true=>some (.bool true)|.bool false=>fb ρ|_=>none
def Oe:D->Option D|.bool b=>some (.bool (!b))|_=>none
def P5(fa:Env->Option D):Env->Option D:=λρ=>(fa ρ).bind Oe
def KE{op}(h:DE X a fa):DE X (.BoolOp op [a] pos) fa:=Lr h
def Mi(ha:DE X a fa)(hb:DE X (.BoolOp .And (b::rest) pos) fb):DE X (.BoolOp .And (a::b::rest) pos) (k8 fa fb):=aV (KB ha hb) λσ H Q ⟨HF,ρ,d,sm,eo,hf,q⟩=>by
 let⟨x,hx,hf⟩:=bs hf;refine⟨HF,ρ,x,sm,eo,hx,λv1 H1 RP g1 r1=>?_⟩;cases x<;>try cases hf
 rename_i k;simp?[Rep] at r1;refine⟨k,r1,?_⟩;cases k with
 | true=>exact pW ⟨RP,ρ,d,g1.fh,eo.mono g1.ff,hf,λv H' RN g r=>q v H' RN (g1.trans g) r⟩
 | false=>cases hf;exact nj (q _ H1 RP g1 (by simp[Rep]))
def N6(ha:DE X a fa)(hb:DE X (.BoolOp .Or (b::rest) pos) fb):DE X (.BoolOp .Or (a::b::rest) pos) (Qb fa fb):=aV (FI ha hb) λσ H Q ⟨HF,ρ,d,sm,eo,hf,q⟩=>by
 let⟨x,hx,hf⟩:=bs hf;refine⟨HF,ρ,x,sm,eo,hx,λv1 H1 RP g1 r1=>?_⟩;cases x<;>try cases hf
 rename_i k;simp?[Rep] at r1;refine⟨k,r1,?_⟩;cases k with
 | false=>exact nj ⟨RP,ρ,d,g1.fh,eo.mono g1.ff,hf,λv H' RN g r=>q v H' RN (g1.trans g) r⟩
 | true=>cases hf;exact pW (q _ H1 RP g1 (by simp[Rep]))
def gB:D->Option Bool|.bool b=>some b|_=>none
def fB(f:Env->Option D):Env->Option Bool:=λρ=>(f ρ).bind gB
def Ab:∀σ H (Q:Bool->Hp->Prop),K2 X.K (fB f) σ H Q->tD X.K f σ H λx H1=>∃c,x=.bl c/\Q c H1:=λσ H Q ⟨HF,ρ,k,sm,eo,hf,q⟩=>by
 let⟨x,hx,hf⟩:=bs hf;refine⟨HF,ρ,x,sm,eo,hx,λv1 H1 RP g1 r1=>?_⟩;cases x<;>try cases hf
 simp?[Rep] at r1;exact⟨_,r1,q H1 RP g1⟩
def M0(h:DE X a f)(he:∀whole,isTrue a X.env whole=(do let v <- whole;standAt a.pos;holding [v] (truthy v)):=by intro _;rfl):DT X a (fB f):=tV (F7 h he) Ab
def ir(ho:gp X (compareOp op) r)(hr:fF X.K r g)(ha:DE X a fa)(hb:DE X b fb)(hm:behindInMarks op b=false):DT X (.Compare a [op] [b] pos) (fB (f2 g fa fb)) :=
 tV (tR ho ha hb hm) λσ H Q h=>IH hr σ H _ (Ab σ H Q h)
def cH(fa fb:Env->Option Bool):Env->Option Bool:=λρ=>(fa ρ).bind fun|true=>fb ρ|false=>some false
def m5(fa fb:Env->Option Bool):Env->Option Bool:=λρ=>(fa ρ).bind fun|true=>some true|false=>fb ρ
def bx(fa:Env->Option Bool):Env->Option Bool:=λρ=>(fa ρ).map (!·)
variable {ta tb:Env->Option Bool}
def DW(X:Cx)(e:Expr)(f:Env->Option Bool):Prop:=PW X e (K2 X.K f)
def DQ(h:PW X e t)(i:∀σ H Q,t' σ H Q->t σ H Q):PW X e t':=λwh pins s σ H Q I q=>h wh pins s σ H Q I (i σ H Q q)
def DW.dt(h:DW X a ta):DT X a ta:=PW.pt h
def Hl(ha:DT X a ta):DW X (.BoolOp .And [a] pos) ta:=IR ha
def KY(ha:DT X a ta):DW X (.BoolOp .Or [a] pos) ta:=E8 ha
def Lz(ha:DT X a ta)(hb:DW X (.BoolOp .And (b::rest) pos) tb):DW X (.BoolOp .And (a::b::rest) pos) (cH ta tb):=DQ (LC ha hb) λσ H Q ⟨HF,ρ,d,sm,eo,hf,q⟩=>by
 let⟨x,hx,hf⟩:=bs hf;refine⟨HF,ρ,x,sm,eo,hx,λH1 RP g1=>?_⟩;cases x with
 | true=>exact pW ⟨RP,ρ,d,g1.fh,eo.mono g1.ff,hf,λH' RN g=>q H' RN (g1.trans g)⟩
 | false=>cases hf;exact nj (q H1 RP g1)
def NF(ha:DT X a ta)(hb:DW X (.BoolOp .Or (b::rest) pos) tb):DW X (.BoolOp .Or (a::b::rest) pos) (m5 ta tb):=DQ (Kg ha hb) λσ H Q ⟨HF,ρ,d,sm,eo,hf,q⟩=>by
 let⟨x,hx,hf⟩:=bs hf;refine⟨HF,ρ,x,sm,eo,hx,λH1 RP g1=>?_⟩;cases x with
 | false=>exact nj ⟨RP,ρ,d,g1.fh,eo.mono g1.ff,hf,λH' RN g=>q H' RN (g1.trans g)⟩
 | true=>cases hf;exact pW (q H1 RP g1)
def K8(ha:DT X a ta):DT X (.UnaryOp .Not a pos) (bx ta):=tV (Es ha) λσ H Q ⟨HF,ρ,d,sm,eo,hf,q⟩=>by
 have hf:(ta ρ).map (!·)=some d:=hf;cases e:ta ρ with
 | none=>rw[e] at hf;cases hf
 | some k=>rw[e] at hf;cases hf;exact⟨HF,ρ,k,sm,eo,e,λH1 RP g1=>q H1 RP g1⟩
def uL(tc:Env->Option Bool)(fa fb:Env->Option D):Env->Option D:=λρ=>(tc ρ).bind fun|true=>fa ρ|false=>fb ρ
def OJ(hc:DT X c ta)(ha:DE X a fa)(hb:DE X b fb):DE X (.IfExp c a b pos) (uL ta fa fb):=aV (wk hc ha hb) λσ H Q ⟨HF,ρ,d,sm,eo,hf,q⟩=>by
 let⟨x,hx,hf⟩:=bs hf;refine⟨HF,ρ,x,sm,eo,hx,λH1 RP g1=>?_⟩;cases x with
 | true=>exact pW ⟨RP,ρ,d,g1.fh,eo.mono g1.ff,hf,λv H' RN g r=>q v H' RN (g1.trans g) r⟩
 | false=>exact nj ⟨RP,ρ,d,g1.fh,eo.mono g1.ff,hf,λv H' RN g r=>q v H' RN (g1.trans g) r⟩
def jv(g g':D->D->Option D)(fa fb fc:Env->Option D):Env->Option D:=λρ=>(fa ρ).bind λx=>(fb ρ).bind λy=>(g x y).bind fun|.bool true=>(fc ρ).bind λz=>g' y z|.bool false=>some (.bool false)|_=>none
def By(hr:fF X.K r g)(TC:fF X.K r' g'):∀σ H Q,tD X.K (jv g g' fa fb fc) σ H Q->za r r' (tD X.K fa) (tD X.K fb) (tD X.K fc) σ H Q:=λσ H Q ⟨HF,ρ,d,sm,eo,hf,q⟩=>by
 let⟨x,hx,hf⟩:=bs hf;let⟨y,hy,hf⟩:=bs hf;let⟨z,hz,hf⟩:=bs hf;refine⟨HF,ρ,x,sm,eo,hx,λv1 H1 RP g1 r1=>⟨RP,ρ,y,g1.fh,eo.mono g1.ff,hy,λv2 H2 R1 g2 r2=>hr R1 H2 x y v1 v2 z _ g2.fh (r1.mono g2.ff) r2 hz λv3 H3 Sw g3 r3=>?_⟩⟩;cases z<;>try cases hf
 rename_i k;simp?[Rep] at r3;refine⟨k,r3,?_⟩;have G:=(g1.trans g2).trans g3;cases k with
 | false=>cases hf;exact nj (q _ H3 Sw G (by simp[Rep]))
 | true =>
  let⟨w,hw,hg⟩:=bs hf;exact pW ⟨Sw,ρ,w,G.fh,eo.mono G.ff,hw,λv4 H4 Tf g4 r4=>TC Tf H4 y w v2 v4 d Q g4.fh (r2.mono (g3.ff.trans g4.ff)) r4 hg λv H' RN g5 r5=>q v H' RN ((G.trans g4).trans g5) r5⟩
def GF(ho:gp X (compareOp op) r)(hr:fF X.K r g)(Tn:gp X (compareOp Uh) r')(TC:fF X.K r' g')(ha:DE X a fa)(hb:DE X b fb)(hc:DE X c fc)
  (hm:lastMarks [op,Uh] [b,c]=false:=by with_unfolding_all rfl):DE X (.Compare a [op,Uh] [b,c] pos) (jv g g' fa fb fc):=aV (FG ho Tn ha hb hc hm) (By hr TC)
def El(ho:gp X (compareOp op) r)(hr:fF X.K r g)(Tn:gp X (compareOp Uh) r')(TC:fF X.K r' g')(ha:DE X a fa)(hb:DE X b fb)(hc:DE X c fc)
  (hm:lastMarks [op,Uh] [b,c]=false:=by with_unfolding_all rfl):DT X (.Compare a [op,Uh] [b,c] pos) (fB (jv g g' fa fb fc)) :=
 tV (FP ho Tn ha hb hc hm) λσ H Q h=>By hr TC σ H _ (Ab σ H Q h)
def af:Env->Option (List D):=λ_=>some []
def aa(f:Env->Option D)(g:Env->Option (List D)):Env->Option (List D):=λρ=>(f ρ).bind λx=>(g ρ).map (x::·)
def Fs:DA X [] af:=zg dU λσ H Q ⟨HF,ρ,d,sm,eo,hf,q⟩=>by cases hf;exact q [] H HF (.refl sm) ay.nil
def Bv(he:DE X e f)(hs:DA X es g)(Te:starEach (e::es) X.env=(false,eval e X.env)::starEach es X.env:=by rfl):DA X (e::es) (aa f g) :=
 zg (bR he hs Te) λσ H Q ⟨HF,ρ,d,sm,eo,hf,q⟩=>by
  let⟨x,hx,hf⟩:=bs hf;have hf:(g ρ).map (x::·)=some d:=hf;cases e1:g ρ with
  | none=>rw[e1] at hf;cases hf
  | some xs =>
   rw[e1] at hf;cases hf;exact⟨HF,ρ,x,sm,eo,hx,λv1 H1 RP g1 r1=>⟨RP,ρ,xs,g1.fh,eo.mono g1.ff,e1,λvs H2 R1 g2 r2=>q (v1::vs) H2 R1 (g1.trans g2) (ay.cons (r1.mono g2.ff) r2)⟩⟩
variable {es:List Expr}{fs:Env->Option (List D)}
def small(ds:List D):Option (List D):=if ds.length<=sizeLine then some ds else none
def eF{ds es:List D}(h:small ds=some es):es=ds/\ds.length<=sizeLine:=by
 unfold small at h;split at h
 ·cases h;exact⟨rfl,‹_›⟩
 ·cases h
def ax(g:Env->Option (List D)):Env->Option D:=λρ=>(g ρ).bind λds=>(small ds).map PyData.tuple
def dg(g:Env->Option (List D)):Env->Option (List D):=λρ=>(g ρ).bind small
def Lf{x1}(h:DA X es fs):DE X (.Tuple es x1 pos) (ax fs):=aV (Ep h) λσ H Q ⟨HF,ρ,d,sm,eo,hf,q⟩=>by
 let⟨ds,hx,hf⟩:=bs hf;have hf:(small ds).map PyData.tuple=some d:=hf;cases e:small ds with
 | none=>rw[e] at hf;cases hf
 | some XX =>
  rw[e] at hf;cases hf;let⟨rfl,hz⟩:=eF e;refine⟨HF,ρ,_,sm,eo,hx,λvs H1 RP g1 r1=>⟨by rw[r1.length];exact hz,λp hp=>q _ _ (upd RP p (.tup vs)) (g1.trans (.new g1.fh hp)) ?_⟩⟩;simp?[Rep];exact⟨p,vs,rfl,.inl (.inl aG),r1.mono (cF (g1.fh.free hp))⟩
def Lj(h:DA X es fs):DF X (.List es pos) (dg fs):=aV (Gv h) λσ H Q ⟨HF,ρ,d,sm,eo,hf,q⟩=>by
 let⟨ds,hx,hf⟩:=bs hf;let⟨rfl,hz⟩:=eF hf;exact⟨HF,ρ,_,sm,eo,hx,λvs H1 RP g1 r1=>⟨by rw[r1.length];exact hz,λp hp=>q p vs _ RP (g1.trans (.own g1.fh hp)) (g1.hh.free hp) (g1.fh.free hp) aG r1⟩⟩
def aw:D->D->Option D
 | .tuple ds,.int i=>rq ds i
 | .list ds,.int i=>rq ds i
 | _,_=>none
def yh{K:W.Frag}(r:ay K HF ds vs)(h:rq ds i=some d):∃v,rq vs i=some v/\Rep K HF d v:=by
 unfold rq at h ⊢;rw[r.length];let⟨j,hj,h⟩:=bs h;let⟨v,a,b⟩:=r.getD h;exact⟨v,by rw[hj];exact a,b⟩
def MS{K:W.Frag}:fF K (QU K) aw:=by
 intro HF H x y v1 v2 d Q sm r1 r2 hg q;cases x<;>cases y<;>simp?[aw] at hg<;>try cases hg
 ·simp?[Rep] at r1 r2;let⟨a,vs,rfl,hs,r⟩:=r1;let⟨v,hv,rv⟩:=yh r hg;exact .inl ⟨a,vs,_,v,rfl,r2,sm.seq hs,hv,q v H HF (.refl sm) rv⟩
 ·simp?[Rep] at r1 r2;let⟨a,vs,rfl,hs,r⟩:=r1;let⟨v,hv,rv⟩:=yh r hg;exact .inr (.inl ⟨a,vs,_,v,rfl,r2,aD sm hs,hv,q v H HF (.refl sm) rv⟩)
def Nt(ha:DE X a fa)(hb:DE X b fb)(hs:uf b:=by intro _ _;rfl):DE X (.Subscript a b pos) (f2 aw fa fb):=aV (NX My ha hb hs) (IH MS)
mutual
theorem ck{pins:List (Addr×Obj)}{σ:L2.St}{H HF:Hp}{s:Shared}(I:Inv X pins σ H s)(sm:aR HF H):∀ {d:D}{v:V}{u:Value},Rep X.K HF d v->RelV v u->∃as,Reads s.heap u d as
 | .none,_,_,h,r=>by simp?[Rep] at h;subst h;cases r;exact⟨_,.none⟩
 | .bool b,_,_,h,r=>by simp?[Rep] at h;subst h;cases r;exact⟨_,.bool b⟩
 | .int i,_,_,h,r=>by simp?[Rep] at h;subst h;let⟨t,rfl⟩:=r;exact⟨_,.int i t⟩
 | .str i,_,_,h,r=>by simp?[Rep] at h;subst h;let⟨t,rfl⟩:=r;exact⟨_,.str i t⟩
 | .tuple ds,_,_,h,r=>by
  simp?[Rep] at h;let⟨a,vs,rfl,hs,rr⟩:=h;cases r;let⟨its,rv,⟨o,ho,hc,n,hd⟩,_⟩:=I.tuple (aD sm hs);let⟨as,q⟩:=nS I sm rr rv;exact⟨as,.tuple ho hc hd (by simpa using q)⟩
 | .list ds,_,_,h,r=>by
  simp?[Rep] at h;let⟨a,vs,rfl,hs,rr⟩:=h;cases r;let⟨its,rv,pl,_⟩:=I.list (sm.seq hs);let⟨o,ho,hc,n,hd⟩:=pl.isList;let⟨as,q⟩:=nS I sm rr rv;exact⟨_,.list ho hc hd (by simpa using q)⟩
 | .dict _,_,_,h,r=>by simp?[Rep] at h
theorem nS{pins:List (Addr×Obj)}{σ:L2.St}{H HF:Hp}{s:Shared}(I:Inv X pins σ H s)(sm:aR HF H):∀ {ds:List D}{vs:List V}{us:List Value},ay X.K HF ds vs->aL vs us->∃as,ReadsAll s.heap us ds as
 | [],_,_,h,r=>by rw[h.nil_inv] at r;cases r;exact⟨_,.nil⟩
 | d::ds,_,_,h,r=>by
  let⟨v,vr,rfl,a,b⟩:=h.cons_inv;cases r with
  | cons r rr =>
   let⟨as,q⟩:=ck I sm a r;let⟨bs,p⟩:=nS I sm b rr;exact⟨_,.cons q p⟩
end
def Oh(K:W.Frag)(g:D->D->Option Bool):R2:=λv1 v2 H Q=>∃HF x y k,aR HF H/\Rep K HF x v1/\Rep K HF y v2/\g x y=some k/\Q (.bl k) H
def j5{K:W.Frag}:fF K (Oh K g) (λx y=>(g x y).map PyData.bool):=by
 intro HF H x y v1 v2 d Q sm r1 r2 hg q;have hg:(g x y).map PyData.bool=some d:=hg;cases e:g x y with
 | none=>rw[e] at hg;cases hg
 | some k=>rw[e] at hg;cases hg;exact⟨HF,x,y,k,sm,r1,r2,e,q _ H HF (.refl sm) (by simp[Rep])⟩
def Kb(x y:D):Option Bool:=if SeqAt.shaped x=true/\SeqAt.shaped y=true then some (PyData.eqv x y) else none
def GW(x y:D):Option Bool:=if SeqAt.shaped x=true/\SeqAt.shaped y=true then some (!PyData.eqv x y) else none
def FV(hu:X.A.units+64 < cLine):gp X (compareOp .Eq) (Oh X.K Kb):=by
 intro pins s σ H v1 v2 u1 u2 Q I rx ry h;let⟨HF,x,y,k,sm,r1,r2,hg,q⟩:=h;unfold Kb at hg;split at hg<;>cases hg;rename_i hh;let⟨as,ra⟩:=ck I sm r1 rx;let⟨bs,rb⟩:=ck I sm r2 ry;exact eq_dataH ra rb hh.1 hh.2 hu ⟨.bl _,H,I,rfl,q⟩
def GP(hu:X.A.units+64 < cLine):gp X (compareOp .NotEq) (Oh X.K GW):=by
 intro pins s σ H v1 v2 u1 u2 Q I rx ry h;let⟨HF,x,y,k,sm,r1,r2,hg,q⟩:=h;unfold GW at hg;split at hg<;>cases hg;rename_i hh;let⟨as,ra⟩:=ck I sm r1 rx;let⟨bs,rb⟩:=ck I sm r2 ry;exact ne_dataH ra rb hh.1 hh.2 hu ⟨.bl _,H,I,rfl,q⟩
def items:D->Option (List D)|.tuple ds=>some ds|.list ds=>some ds|_=>none
def On(x y:D):Option Bool:=match y with
 | .tuple ds=>if SeqAt.shaped x=true/\SeqAt.shaped y=true then some (ds.any λz=>PyData.eqv z x) else none
 | .list ds=>if SeqAt.shaped x=true/\SeqAt.shaped y=true then some (ds.any λz=>PyData.eqv z x) else none
 | _=>none
def E3(hu:X.A.units+66 < cLine):gp X (compareOp .In) (Oh X.K On):=by
 intro pins s σ H v1 v2 u1 u2 Q I rx ry h;let⟨HF,x,y,k,sm,r1,r2,hg,q⟩:=h;let⟨as,ra⟩:=ck I sm r1 rx;let⟨bs,rb⟩:=ck I sm r2 ry;cases y<;>simp?[On] at hg<;>try cases hg
 all_goals
  split at hg<;>cases hg;rename_i ds hh;have c1:=kK hh.1;have c2:=kK hh.2;have d1:=SeqAt.depth_of_shaped hh.1;simp?[PyData.canLay0] at c2;have m:=Nat.min_le_right (PyData.depthAll ds) x.depth
  first
   | exact SeqAt.in_list_reads rb ra c2 c1 (by lia) ⟨.bl _,H,I,rfl,q⟩
   | exact SeqAt.in_tuple_reads rb ra c2 c1 (by lia) ⟨.bl _,H,I,rfl,q⟩
end
def OH(K:W.Frag)(n:Nat)(m:List D->Option D):Sp:=λvs H Q _=>∃HF ds d,aR HF H/\eh K HF/\ay K HF ds vs/\ds.length=n/\m ds=some d/\∀v H' RN,bM HF H RN H'->Rep K RN d v->Q v H'
structure Dj(P:Program)(w:World)(K:W.Frag)(mg:Str->Option Value)(base:Heap)(k:Nat)(x:Str)(n:Nat)(m:List D->Option D):Prop where
 ex:∃ (f:Addr) (fd:FuncData) (ps:List Str),oA P w K mg base G0 k f fd ps (OH K n m)/\mg x=some (.ref f)/\W.keepIn K (.ref f)=true/\Binds K fd ps []
def Dj.mono{K:W.Frag}(F:Dj P w K mg base k x n m)(h:k<=j):Dj P w K mg base j x n m:=by
 let⟨f,fd,ps,a,b,c,d⟩:=F.ex;exact⟨f,fd,ps,a.mono h,b,c,d⟩
def ai(n:Nat)(m:List D->Option D)(fs:Env->Option (List D)):Env->Option D:=λρ=>(fs ρ).bind λds=>if ds.length=n then m ds else none
def Jp(F:Dj X.prog X.w X.K X.mg X.base k x n m)(hr:ej k X.A)(hg:Gl X x)(ha:DA X (e::es) fs)(Si:(x == ("__debug__":Str))=false:=by decide)
  (he:starEach (e::es) X.env=(false,eval e X.env)::starEach es X.env:=by rfl) (Sv:(backTo pos (starEach es X.env)).any (·.1)=false:=by rfl):DE X (.Call (.Name x p) (e::es) [] pos) (ai n m fs):=by
 let⟨f,fd,ps,ok,hm,hk,hb⟩:=F.ex;refine aV (tL (E:=E0) ok hr hg hm hk hb .nil Oa ha Si he Sv) λσ H Q ⟨HF,ρ,d,sm,eo,hf,q⟩=>?_;let⟨ds,hx,hf⟩:=bs hf;split at hf
 ·rename_i hl;exact⟨HF,ρ,ds,sm,eo,hx,λvs H1 RP g1 r1=>⟨RP,ds,d,g1.fh,eo.tb.mono g1.ff,by rw[qE];exact r1,hl,hf,λv H' RN g r=>q v H' RN (g1.trans g) r⟩⟩
 ·cases hf
def D9(K:W.Frag)(r:List V->Hp->VK->Prop)(g:List D->Option D):Prop:=∀HF H ds vs d Q,aR HF H->ay K HF ds vs->g ds=some d->(∀v H' RN,bM HF H RN H'->Rep K RN d v->Q v H')->r vs H Q
def bz(g:List D->Option D)(fs:Env->Option (List D)):Env->Option D:=λρ=>(fs ρ).bind g
def NT{X:Cx}{fs:Env->Option (List D)}(hs:D9 X.K r g):∀σ H Q,tD X.K (bz g fs) σ H Q->O6 r (Pp X.K fs) σ H Q:=λσ H Q ⟨HF,ρ,d,sm,eo,hf,q⟩=>by
 let⟨ds,hx,hf⟩:=bs hf;exact⟨HF,ρ,ds,sm,eo,hx,λvs H1 RP g1 r1=>hs RP H1 ds vs d Q g1.fh r1 hf λv H' RN g2 r2=>q v H' RN (g1.trans g2) r2⟩
def BI(K:W.Frag)(r:List V->Hp->VK->Prop)(g:List D->Option (List D)):Prop:=∀HF H ds vs es Q,aR HF H->ay K HF ds vs->g ds=some es ->
 (∀a us H' RN,bM HF H RN H'->H a=none->RN a=none->H' a=some (.lst us)->ay K RN es us->Q (.ref a) H')->r vs H Q
def lO(g:List D->Option (List D))(fs:Env->Option (List D)):Env->Option (List D):=λρ=>(fs ρ).bind g
def Kl{X:Cx}{fs:Env->Option (List D)}(hs:BI X.K r g):∀σ H Q,tF X.K (lO g fs) σ H Q->O6 r (Pp X.K fs) σ H Q:=λσ H Q ⟨HF,ρ,d,sm,eo,hf,q⟩=>by
 let⟨ds,hx,hf⟩:=bs hf;exact⟨HF,ρ,ds,sm,eo,hx,λvs H1 RP g1 r1=>hs RP H1 ds vs d Q g1.fh r1 hf λa us H' RN g2 ha U8 h' r2=>q a us H' RN (g1.trans g2) (g1.hh.free ha) U8 h' r2⟩
structure qh(X:Cx)(x:Str)(v:Value):Prop where
 gl:Gl X x
 mg:X.mg x=none
 bt:bootBuiltins x=some v
def jo{id:String}(hc:eO X (.builtin id) r)(hs:D9 X.K r g)(B:qh X x (.builtin id))(ha:DA X (e::es) fs)(hn:x≠"__name__":=by decide)(Si:(x == ("__debug__":Str))=false:=by decide)
  (he:starEach (e::es) X.env=(false,eval e X.env)::starEach es X.env:=by rfl) (Sv:(backTo pos (starEach es X.env)).any (·.1)=false:=by rfl):DE X (.Call (.Name x p) (e::es) [] pos) (bz g fs) :=
 aV (mP hc B.gl B.mg B.bt ha hn Si he Sv) (NT hs)
def Gj{id:String}(hc:eO X (.builtin id) r)(hs:BI X.K r g)(B:qh X x (.builtin id))(ha:DA X (e::es) fs)(hn:x≠"__name__":=by decide)(Si:(x == ("__debug__":Str))=false:=by decide)
  (he:starEach (e::es) X.env=(false,eval e X.env)::starEach es X.env:=by rfl) (Sv:(backTo pos (starEach es X.env)).any (·.1)=false:=by rfl):DF X (.Call (.Name x p) (e::es) [] pos) (lO g fs) :=
 aV (mP hc B.gl B.mg B.bt ha hn Si he Sv) (Kl hs)
def Cw(hc:eO X (.type T) r)(hs:D9 X.K r g)(B:qh X x (.type T))(ha:DA X (e::es) fs)(hn:x≠"__name__":=by decide)(Si:(x == ("__debug__":Str))=false:=by decide)
  (he:starEach (e::es) X.env=(false,eval e X.env)::starEach es X.env:=by rfl) (Sv:(backTo pos (starEach es X.env)).any (·.1)=false:=by rfl):DE X (.Call (.Name x p) (e::es) [] pos) (bz g fs) :=
 aV (nH hc B.gl B.mg B.bt ha hn Si he Sv) (NT hs)
def C5(hc:eO X (.type T) r)(hs:BI X.K r g)(B:qh X x (.type T))(ha:DA X (e::es) fs)(hn:x≠"__name__":=by decide)(Si:(x == ("__debug__":Str))=false:=by decide)
  (he:starEach (e::es) X.env=(false,eval e X.env)::starEach es X.env:=by rfl) (Sv:(backTo pos (starEach es X.env)).any (·.1)=false:=by rfl):DF X (.Call (.Name x p) (e::es) [] pos) (lO g fs) :=
 aV (nH hc B.gl B.mg B.bt ha hn Si he Sv) (Kl hs)
def fR:D->Option (List D)|.tuple ds=>some ds|.list ds=>some ds|_=>none
def oneOf:List D->Option D|[d]=>some d|_=>none
def gf(h:oneOf ds=some d):ds=[d]:=by
 cases ds with
 | nil=>cases h
 | cons x r=>cases r with
  | nil=>cases h;rfl
  | cons _ _=>cases h
def lJ(h:fR d=some ds):d=.tuple ds\/d=.list ds:=by
 cases d<;>cases h
 ·exact .inr rfl
 ·exact .inl rfl
def cy:List D->Option (List D):=λds=>(oneOf ds).bind fR
def gC{ds es:List D}(h:cy ds=some es):ds=[.tuple es]\/ds=[.list es]:=by
 let⟨d,h1,h2⟩:=bs h;rw[gf h1];rcases lJ h2 with rfl|rfl
 ·exact .inl rfl
 ·exact .inr rfl
def bg:List D->Option D:=λds=>(cy ds).map λes=>.int es.length
def ah{α β:Type}{x:Option α}{f:α->β}{b:β}(h:x.map f=some b):∃a,x=some a/\f a=b:=by
 cases x with
 | none=>cases h
 | some a=>exact⟨a,rfl,xC h⟩
def JE{K:W.Frag}:D9 K (λxs H Q=>∃p ys,xs=[.ref p]/\(gH K H p ys\/fM K H p ys)/\Q (.int ys.length) H) bg:=by
 intro HF H ds vs d Q sm r hg q;let⟨es,h1,rfl⟩:=ah hg;rcases gC h1 with rfl|rfl
 all_goals
  let⟨v,r',rfl,a,b⟩:=r.cons_inv;rw[b.nil_inv];simp?[Rep] at a;let⟨p,us,rfl,h,rr⟩:=a
 ·exact⟨p,us,rfl,.inr (aD sm h),q _ H HF (.refl sm) (by simp[Rep,rr.length])⟩
 ·exact⟨p,us,rfl,.inl (sm.seq h),q _ H HF (.refl sm) (by simp[Rep,rr.length])⟩
def L4(B:qh X "len" (.builtin "len"))(ha:DA X [e] fs)(he:starEach [e] X.env=(false,eval e X.env)::starEach [] X.env:=by rfl):DE X (.Call (.Name "len" p) [e] [] pos) (bz bg fs) :=
 jo tP JE B ha (by decide) (by decide) he rfl
def DJ{K:W.Frag}:BI K (λxs H Q=>∃p ys,xs=[.ref p]/\(gH K H p ys\/fM K H p ys)/\∀l,H l=none->Q (.ref l) (upd H l (.lst ys))) cy:=by
 intro HF H ds vs d Q sm r hg q;rcases gC hg with rfl|rfl
 all_goals
  let⟨v,r',rfl,a,b⟩:=r.cons_inv;rw[b.nil_inv];simp?[Rep] at a;let⟨p,us,rfl,h,rr⟩:=a
 ·exact⟨p,us,rfl,.inr (aD sm h),λl hl=>q l us _ HF (.own sm hl) hl (sm.free hl) aG rr⟩
 ·exact⟨p,us,rfl,.inl (sm.seq h),λl hl=>q l us _ HF (.own sm hl) hl (sm.free hl) aG rr⟩
def Je(B:qh X "list" (.type "list"))(ha:DA X [e] fs)(he:starEach [e] X.env=(false,eval e X.env)::starEach [] X.env:=by rfl):DF X (.Call (.Name "list" p) [e] [] pos) (lO cy fs) :=
 C5 uH DJ B ha (by decide) (by decide) he rfl
def dF{K:W.Frag}(h:HF l=none)(r:ay K HF ds vs):Rep K (upd HF l (.tup vs)) (.tuple ds) (.ref l):=by
 simp?[Rep];exact⟨l,vs,rfl,.inl (.inl aG),r.mono (cF h)⟩
def Cv{K:W.Frag}:D9 K (λxs H Q=>∃p ys,xs=[.ref p]/\((gH K H p ys/\∀l,H l=none->Q (.ref l) (upd H l (.tup ys)))\/(fM K H p ys/\Q (.ref p) H))) (λds=>(cy ds).map PyData.tuple):=by
 intro HF H ds vs d Q sm r hg q;let⟨es,h1,rfl⟩:=ah hg;rcases gC h1 with rfl|rfl
 all_goals
  let⟨v,r',rfl,a,b⟩:=r.cons_inv;rw[b.nil_inv];have a':=a;simp?[Rep] at a;let⟨p,us,rfl,h,rr⟩:=a
 ·exact⟨p,us,rfl,.inr ⟨aD sm h,q _ H HF (.refl sm) a'⟩⟩
 ·exact⟨p,us,rfl,.inl ⟨sm.seq h,λl hl=>q _ _ _ (.new sm hl) (dF (sm.free hl) rr)⟩⟩
def EE(B:qh X "tuple" (.type "tuple"))(ha:DA X [e] fs)(he:starEach [e] X.env=(false,eval e X.env)::starEach [] X.env:=by rfl):DE X (.Call (.Name "tuple" p) [e] [] pos) (bz (λds=>(cy ds).map PyData.tuple) fs) :=
 Cw rE Cv B ha (by decide) (by decide) he rfl
def gK:D->String|.none=>"NoneType" | .bool _=>"bool" | .int _=>"int" | .str _=>"str" | .tuple _=>"tuple" | .list _=>"list" | .dict _=>"dict"
def tM(a b:String):Option Bool:=if ((Value.type a) == (Value.type b))=true then some true else if W.kitMeta b=true then (fastBuiltinMro a).map (·.contains (Value.type b)) else none
def JB:∀a∈["NoneType","bool","int","str","tuple","list"],tM a "int"=some (a == "int"||a == "bool"):=by decide +kernel
def GN:∀a∈["NoneType","bool","int","str","tuple","list"],tM a "bool"=some (a == "bool"):=by decide +kernel
def kit_tuple:∀a∈["NoneType","bool","int","str","tuple","list"],tM a "tuple"=some (a == "tuple"):=by decide +kernel
def EL{A:Around}{E:Value->Shared->Prop}(I:Inv X pins σ H s)(sm:aR HF H)(r:Rep X.K HF d v)(rv:RelV v u)
  (e:tM (gK d) T=some k) (h:∀tk,Q (.bool k) { s with toks:=tk }):wpAny (model X.prog X.w) A (call (.builtin "isinstance") [u,.type T]) Q E s:=by
 have e':W.kitOne X.K (.type (gK d)) (.type T)=some k:=e;cases d<;>simp?[Rep] at r
 ·subst r;cases rv;exact W.kia_one W.kitx_none I.Tt True.intro e' (λz=>nomatch z) h
 ·subst r;cases rv;exact W.kia_one W.kitx_bool I.Tt True.intro e' (λz=>nomatch z) h
 ·subst r;let⟨t,rfl⟩:=rv;exact W.kia_one W.kitx_int I.Tt True.intro e' (λz=>nomatch z) h
 ·subst r;let⟨t,rfl⟩:=rv;exact W.kia_one W.kitx_str I.Tt True.intro e' (λz=>nomatch z) h
 ·let⟨a,vs,rfl,hs,rr⟩:=r;cases rv;let⟨its,rv,pl,_⟩:=I.list (sm.seq hs);let⟨o,ho,hc,n,hd⟩:=pl.isList;exact W.kia_one W.kitx_list I.Tt ⟨o,ho,hc⟩ e' (λz=>nomatch z) h
 ·let⟨a,vs,rfl,hs,rr⟩:=r;cases rv;let⟨its,rv,⟨o,ho,hc,n,hd⟩,_⟩:=I.tuple (aD sm hs);exact W.kia_one W.kitx_tuple I.Tt ⟨o,ho,hc⟩ e' (λz=>nomatch z) h
def Ke(T:String)(f:Env->Option D):Env->Option D:=λρ=>(f ρ).bind λd=>(tM (gK d) T).map PyData.bool
def Ni(B:qh X "isinstance" (.builtin "isinstance"))(C:qh X xT (.type T))(h:DE X e f)(hn:xT≠"__name__":=by decide)(hd:(xT == ("__debug__":Str))=false:=by decide)
  (he:starEach [e,.Name xT pT] X.env=(false,eval e X.env)::starEach [.Name xT pT] X.env:=by rfl):DE X (.Call (.Name "isinstance" p) [e,.Name xT pT] [] pos) (Ke T f):=by
 have hc:eO X (.builtin "isinstance") (λxs H Q=>∃HF d v k,xs=[v,.ty T]/\aR HF H/\Rep X.K HF d v/\tM (gK d) T=some k/\Q (.bl k) H):=by
  intro pins s σ H xs us Q I r h;let⟨HF,d,v,k,rfl,sm,rp,hk,q⟩:=h;cases r with
  | cons ra rr =>
   cases rr with
   | cons rb rn =>
    cases rn;cases rb;exact EL I sm rp ra hk λtk=>⟨.bl k,H,I.tok _,rfl,q⟩
 refine aV (mP hc B.gl B.mg B.bt (bR h (bR (Iv (v:=.ty T) C.gl C.mg C.bt rfl hn hd) dU) he) (by decide) (by decide) he rfl) λσ H Q ⟨HF,ρ,d,sm,eo,hf,q⟩=>?_;let⟨x,hx,hf⟩:=bs hf;let⟨k,hk,rfl⟩:=ah hf;exact⟨HF,ρ,x,sm,eo,hx,λv1 H1 RP g1 r1=>⟨RP,x,v1,k,rfl,g1.fh,r1,hk,q _ H1 RP g1 (by simp[Rep])⟩⟩
def Jw:D->D->Option D
 | .tuple xs,.tuple ys=>(small (xs++ys)).map PyData.tuple
 | _,_=>none
def A4(K:W.Frag):R2:=λx y H Q=>∃a b xs ys,x=.ref a/\y=.ref b/\fM K H a xs/\fM K H b ys/\xs.length+ys.length<=sizeLine /\
 (xs=[]->Q (.ref b) H)/\(ys=[]->Q (.ref a) H)/\(∀p,H p=none->Q (.ref p) (upd H p (.tup (xs++ys))))
def CJ:gp X (binaryOp .Add) (A4 X.K):=by
 intro pins s σ H x y v u Q I rx ry h;let⟨a,b,xs,ys,rfl,rfl,ha,hb,hz,q0,q1,q2⟩:=h;by_cases hx:xs=[]
 ·cases rx;cases ry;let⟨its,r1,p1,_⟩:=I.tuple ha;let⟨SM,r2,p2,_⟩:=I.tuple hb;let⟨⟨cls,dd,data,sl⟩,ho,hc,n,hd⟩:=id p1;let⟨⟨WV,WB,data2,Vx⟩,U7,Ut,n2,hd2⟩:=id p2;simp only at hc hd Ut hd2;subst hc hd Ut hd2;have e:its=[]:=(L2.aL.SU r1).mpr hx;exact Za ⟨_,ho,rfl⟩ ⟨_,U7,rfl⟩ noFill_tuple_add seq_tuple_add vS vM (vJ _ _)
   (tuple_addW0 a b its.toArray SM.toArray n n2 dd WB sl Vx (by simp[e])) ⟨ho,U7,⟨.ref b,H,I,rfl,q0 hx⟩⟩
 ·exact Ig pins s σ H _ _ v u Q I rx ry ⟨a,b,xs,ys,rfl,rfl,ha,hb,hx,hz,q1,λ_ p hp=>q2 p hp⟩
def Ju{K:W.Frag}:fF K (A4 K) Jw:=by
 intro HF H x y v1 v2 d Q sm r1 r2 hg q;cases x<;>cases y<;>simp?[Jw] at hg<;>try cases hg
 rename_i xs ys;let⟨es,h1,rfl⟩:=ah hg;let⟨rfl,hz⟩:=eF h1;have X4:=r1;have X5:=r2;simp?[Rep] at r1 r2;let⟨a,vs,rfl,ha,ra⟩:=r1;let⟨b,us,rfl,hb,rb⟩:=r2;refine⟨a,b,vs,us,rfl,rfl,aD sm ha,aD sm hb,by rw[ra.length,rb.length,<- zN];exact hz,λe=>?_,λe=>?_,λp hp=>q _ _ _ (.new sm hp) (dF (sm.free hp) (ra.append rb))⟩
 ·have:xs=[]:=by have:=ra.length;rw[e] at this;exact List.length_eq_zero_iff.mp this.symm
  subst this;exact q _ H HF (.refl sm) X5
 ·have:ys=[]:=by have:=rb.length;rw[e] at this;exact List.length_eq_zero_iff.mp this.symm
  subst this;rw[qE] at q;exact q _ H HF (.refl sm) X4
structure rM(K:W.Frag)(J:It)(HF:Hp)(ds:List D):Prop where
 go:∀i d Sj RV,ds[i]?=some d->aR HF RV->aR RV Sj->J.go i Sj/\∀x TZ,J.Vw i Sj x TZ->∃VB,bM RV Sj VB TZ/\Rep K VB d x
 stop:∀Sj RV,aR HF RV->aR RV Sj->J.stop ds.length Sj
def QV(K:W.Frag)(f:Env->Option (List D)):TI:=λσ H R=>∃HF ρ ds,aR HF H/\cM K HF ρ σ/\f ρ=some ds/\∀J H' RN,bM HF H RN H'->rM K J RN ds->R J H'
def DI(X:Cx)(tg iter:Expr)(f:Env->Option (List D)):Prop:=PI X tg iter (QV X.K f)
def B8{K:W.Frag}(h:gH K HF a vs)(r:ay K HF ds vs):rM K (Pm K a) HF ds where
 go:=λi d Sj RV e s1 s2=>by
  let⟨v,hv,rv⟩:=r.getD e;have q:=s2.seq (s1.seq h);refine⟨⟨vs,v,q,hv⟩,λx TZ ⟨e2,hy⟩=>⟨RV,by rw[e2];exact .refl s2,?_⟩⟩;have:=hy vs q;rw[hv] at this;cases this;exact rv.mono s1
 stop:=λSj RV s1 s2=>⟨vs,s2.seq (s1.seq h),by rw[r.length];exact yL _⟩
def Fe{K:W.Frag}(h:fM K HF a vs)(r:ay K HF ds vs):rM K (P9 K a) HF ds where
 go:=λi d Sj RV e s1 s2=>by
  let⟨v,hv,rv⟩:=r.getD e;have q:=aD s2 (aD s1 h);refine⟨⟨vs,v,q,hv⟩,λx TZ ⟨e2,hy⟩=>⟨RV,by rw[e2];exact .refl s2,?_⟩⟩;have:=hy vs q;rw[hv] at this;cases this;exact rv.mono s1
 stop:=λSj RV s1 s2=>⟨vs,aD s2 (aD s1 h),by rw[r.length];exact yL _⟩
def Ae{K:W.Frag}{lo:Int}:rM K (OZ lo n) HF ((List.range n).map λi=>PyData.int (lo+(i:Nat))) where
 go:=λi d Sj RV e s1 s2=>by
  rw[zO] at e;let⟨j,hj,rfl⟩:=ah e;let⟨hi,VC⟩:=List.getElem?_eq_some_iff.mp hj;have S6:i < n:=by simpa using hi
  have:j=i:=by rw[<- VC];simp
  subst this;exact⟨S6,λx TZ ⟨e2,hx⟩=>⟨RV,by rw[e2];exact .refl s2,by simp[Rep,hx]⟩⟩
 stop:=λSj RV s1 s2=>by
  show n<=_;simp
section
variable {X:Cx}{tg l e:Expr}{f:Env->Option D}{fs:Env->Option (List D)}{pos p:Pos}
def ub(h:PI X tg l t)(i:∀σ H R,t' σ H R->t σ H R):PI X tg l t':=λpins s σ H R I q=>h pins s σ H R I (i σ H R q)
def Mm(hl:PE X l tl):PI X tg l (λσ H R=>tl σ H λx H1=>∃a,x=.ref a/\((∃xs,gH X.K H1 a xs/\R (Pm X.K a) H1)\/∃xs,fM X.K H1 a xs/\R (P9 X.K a) H1)):=by
 intro pins s σ H R I h;refine b9 (hl pins s σ H _ I h) λv s1 ⟨x,H1,I1,r1,q1⟩=>?_;let⟨a,e,q⟩:=q1;subst e;cases r1;rcases q with ⟨xs,hq,q⟩|⟨xs,hq,q⟩
 ·let⟨its,rv,pl,hz⟩:=I1.list hq;refine qJ pl.isList ⟨s1.heap.objs.size,[s1.heap.objs.size],_,_,H1,rfl,I1.kept (t':=s1.toks) λb o e=>zU _ e,CO a _,⟨_,zX _ rfl,rfl,rfl⟩,λb hb=>?_,q⟩;cases List.mem_singleton.mp hb;exact I1.SW (yL _) I1.fresh
 ·let⟨its,rv,pl,hz⟩:=I1.tuple hq;refine xQ (show s1.heap.IsTuple a its.toArray from pl) ⟨s1.heap.objs.size,[s1.heap.objs.size],_,_,H1,rfl,I1.kept (t':=s1.toks) λb o e=>zU _ e,Av a _,⟨_,zX _ rfl,rfl,rfl⟩,λb hb=>?_,q⟩;cases List.mem_singleton.mp hb;exact I1.SW (yL _) I1.fresh
def bJ(f:Env->Option D):Env->Option (List D):=λρ=>(f ρ).bind fR
def GM(h:DE X l f):DI X tg l (bJ f):=ub (Mm h) λσ H R ⟨HF,ρ,ds,sm,eo,hf,q⟩=>by
 let⟨x,hx,hf⟩:=bs hf;refine⟨HF,ρ,x,sm,eo,hx,λv1 H1 RP g1 r1=>?_⟩;rcases lJ hf with rfl|rfl
 ·simp?[Rep] at r1;let⟨a,vs,rfl,hs,rr⟩:=r1;exact⟨a,rfl,.inr ⟨vs,aD g1.fh hs,q _ H1 RP g1 (Fe hs rr)⟩⟩
 ·simp?[Rep] at r1;let⟨a,vs,rfl,hs,rr⟩:=r1;exact⟨a,rfl,.inl ⟨vs,g1.fh.seq hs,q _ H1 RP g1 (B8 hs rr)⟩⟩
def uN(i:Int):Bool:=decide (-(2 ^ 62)<=i)&&decide (i < 2 ^ 62)
def lF:List D->Option (List D)
 | [.int j]=>if uN j then some ((List.range j.toNat).map λi=>PyData.int ((i:Nat):Int)) else none
 | _=>none
def vt(h:lF ds=some es):∃j,ds=[.int j]/\uN j=true/\es=(List.range j.toNat).map λi=>PyData.int ((i:Nat):Int):=by
 unfold lF at h;split at h
 ·split at h
  ·cases h;exact⟨_,rfl,‹_›,rfl⟩
  ·cases h
 ·cases h
def aS(fs:Env->Option (List D)):Env->Option (List D):=λρ=>(fs ρ).bind lF
def EW(B:qh X "range" (.type "range"))(h:DA X [e] fs)(hs:starEach [e] X.env=[(false,eval e X.env)]:=by rfl):DI X tg (.Call (.Name "range" p) [e] [] pos) (aS fs) :=
 ub (Dq B.gl B.mg h hs) λσ H R ⟨HF,ρ,ds,sm,eo,hf,q⟩=>by
  let⟨x,hx,hf⟩:=bs hf;let⟨j,rfl,hj,rfl⟩:=vt hf;refine⟨HF,ρ,_,sm,eo,hx,λvs H1 RP g1 r1=>?_⟩;let⟨v,r,rfl,a,b⟩:=r1.cons_inv;rw[b.nil_inv];simp?[Rep] at a;subst a;unfold uN at hj;rw[zF] at hj;refine⟨j,rfl,yP hj.1,yP hj.2,q _ H1 RP g1 ?_⟩;have:=Ae (K:=X.K) (HF:=RP) (lo:=0) (n:=j.toNat);simpa using this
def O9(K:W.Frag)(f:Env->D->Option Env):TG:=λv σ H Q=>∃HF ρ d ρ',aR HF H/\cM K HF ρ σ/\Rep K HF d v/\f ρ d=some ρ'/\∀σ',cM K HF ρ' σ'->cM K HF ρ σ'->Q σ' H
def DG(X:Cx)(tg:Expr)(f:Env->D->Option Env):Prop:=PG X tg (O9 X.K f)
def pE(h:PG X tg t)(i:∀v σ H Q,t' v σ H Q->t v σ H Q):PG X tg t':=λpins s σ H v u Q I r q=>h pins s σ H v u Q I r (i v σ H Q q)
def isFree(ρ:Env)(i:Nat):Bool:=((ρ[i]?).getD none).isNone
def iy{K:W.Frag}(eo:cM K HF ρ σ)(r:Rep K HF d v):cM K HF (ρ.set i (some d)) (σ.set i (some v)):=by
 refine⟨λj e h=>?_,by rw[yC,yC];exact eo.len,eo.tb⟩;rw[xH] at h ⊢;by_cases RS:i=j
 ·rw[yK RS] at h ⊢;by_cases hl:i < ρ.length
  ·rw[yK hl] at h;cases h;rw[yK (zP hl eo.len)];exact⟨v,rfl,r⟩
  ·rw[yM hl] at h;cases h
 ·rw[yM RS] at h ⊢;exact eo.get j e h
def ku{K:W.Frag}(eo:cM K HF ρ σ)(hf:isFree ρ i=true):cM K HF ρ (σ.set i (some v)):=by
 refine⟨λj e h=>?_,by rw[yC];exact eo.len,eo.tb⟩;have RS:i≠j:=by
  intro z;subst z;unfold isFree at hf;rw[h] at hf;cases hf
 rw[xH,yM RS];exact eo.get j e h
def fG(i:Nat):Env->D->Option Env:=λρ d=>if isFree ρ i=true then some (ρ.set i (some d)) else none
def IZ(i:Nat)(hN:X.N.Nodup)(hi:X.N[i]?=some x)(hx:Loc X.env.scope x)(hf:X.fn x=true\/X.env.scope.names.lookup x=some .local:=by first|exact .inl rfl|exact .inr rfl|assumption):DG X (.Name x pos) (fG i) :=
 pE (dz hN hi hx hf) λv σ H Q ⟨HF,ρ,d,ρ',sm,eo,r,hf,q⟩=>by
  unfold fG at hf;split at hf
  ·cases hf;exact q _ (iy eo r) (ku eo ‹_›)
  ·cases hf
def iP(i j:Nat):Env->D->Option Env:=λρ d=>match d with
 | .tuple [x,y]=>if isFree ρ i=true/\isFree ρ j=true then some ((ρ.set i (some x)).set j (some y)) else none
 | _=>none
def Mu(i j:Nat){px py:Pos}{k:Nat}(hc:X.calm=true)(hN:X.N.Nodup)(hi:X.N[i]?=some x)(hx:Loc X.env.scope x)(hj:X.N[j]?=some y)(hy:Loc X.env.scope y)
  (hf:X.fn x=true\/X.env.scope.names.lookup x=some .local:=by first|exact .inl rfl|exact .inr rfl|assumption) (U8:X.fn y=true\/X.env.scope.names.lookup y=some .local:=by first|exact .inl rfl|exact .inr rfl|assumption) :
  DG X (.Tuple [.Name x px,.Name y py] k pos) (iP i j) :=
 pE (uj hc (dq (dz hN hi hx hf) (dq (dz hN hj hy U8) oQ))) λv σ H Q ⟨HF,ρ,d,ρ',sm,eo,r,hf,q⟩=>by
  unfold iP at hf;split at hf
  ·rename_i x' y';split at hf
   ·rename_i hh;cases hf;simp?[Rep] at r;let⟨a,vs,rfl,hs,rr⟩:=r;let⟨v1,r1,rfl,a1,b1⟩:=rr.cons_inv;let⟨v2,r2,rfl,a2,b2⟩:=b1.cons_inv;rw[b2.nil_inv] at hs;exact⟨a,_,rfl,aD sm hs,rfl,v1,_,rfl,v2,_,rfl,rfl,q _ (iy (iy eo a1) a2) (ku (ku eo hh.1) hh.2)⟩
   ·cases hf
  ·cases hf
def d0(tgt:Env->D->Option Env)(tt:Env->Option Bool)(te:Env->Option D)(ρ:Env):List D->Option (List D)
 | []=>some []
 | d::ds=>(tgt ρ d).bind λρ'=>(tt ρ').bind λb=>if b=true then (te ρ').bind λx=>(d0 tgt tt te ρ ds).map (x::·) else d0 tgt tt te ρ ds
def N8(X:Cx)(ifs:List Expr)(f:Env->Option Bool):Prop:=Nc X ifs (K2 X.K f)
def Jb:N8 X [] (λ_=>some true):=λpins s σ H Q I ⟨HF,ρ,b,sm,eo,hf,q⟩=>Im pins s σ H Q I (by cases hf;exact q H HF (.refl sm))
def Jk(h:DT X c t):N8 X [c] t:=Hn h
def jn(t:Nat)(cs:List Nat)(σ:L2.St):L2.St:=List.replicate t none++cs.map λj=>(σ[j]?).getD none
def gg(t:Nat)(cs:List Nat)(ρ:Env):Env:=List.replicate t none++cs.map λj=>(ρ[j]?).getD none
def BA{K:W.Frag}{cs:List Nat}(eo:cM K HF ρ σ):cM K HF (gg t cs ρ) (jn t cs σ):=by
 refine⟨λi d h=>?_,by simp[gg,jn],eo.tb⟩;unfold gg at h;unfold jn;by_cases hi:i < t
 ·rw[yR (by simpa using hi),yW,yK hi] at h;cases h
 ·rw[yS (by simpa using hi),zO,xK] at h;rw[yS (by simpa using hi),zO,xK];let⟨j,hj,h⟩:=ah h;rw[hj];cases e:ρ[j]? with
  | none=>rw[e] at h;cases h
  | some o =>
   rw[e] at h;have h:o=some d:=h;subst h;let⟨v,a,b⟩:=eo.get j d e;exact⟨v,by show some ((σ[j]?).getD none)=_;rw[a];rfl,b⟩
def az(t:Nat)(cs:List Nat)(fi:Env->Option (List D))(tgt:Env->D->Option Env)(tt:Env->Option Bool)(te:Env->Option D):Env->Option (List D):=λρ=>(fi ρ).bind λds=>(d0 tgt tt te (gg t cs ρ) ds).bind small
variable {elt iter:Expr}{ifs:List Expr}{scope:Scope}{N:List Str}{t:Nat}{cs:List Nat}{fi:Env->Option (List D)}{tgt:Env->D->Option Env}{tt:Env->Option Bool}{te:Env->Option D}
def Gc:∀σ H Q,tF X.K (az t cs fi tgt tt te) σ H Q->GQ (QV X.K fi) (O9 X.K tgt) (K2 X.K tt) (tD X.K te) (jn t cs) σ H Q:=λσ H Q ⟨HF,ρ,out,sm,eo,hf,q⟩=>by
 let⟨ds,hx,hf⟩:=bs hf;let⟨abp,ho,hf⟩:=bs hf;let⟨rfl,hz⟩:=eF hf;refine⟨HF,ρ,ds,sm,eo,hx,λJ H1 RP g1 it Dn hD=>?_⟩;have eo1:=BA (t:=t) (cs:=cs) (eo.mono g1.ff);have hFD:RP Dn=none:=g1.fh.free hD;refine⟨λi m σ' H'=>m+i=ds.length/\∃RN xs ys rest,bM RP H1 RN H'/\RN Dn=none/\H' Dn=some (.lst ys)/\ay X.K RN xs ys/\cM X.K RN (gg t cs ρ) σ'/\d0 tgt tt te (gg t cs ρ) (ds.drop i)=some rest/\xs++rest=out,
  ⟨ds.length,rfl,RP,[],[],out,.own g1.fh hD,hFD,aG,ay.nil,eo1,ho,rfl⟩,?_⟩
 rintro i m σ' H' ⟨hm,RN,xs,ys,rest,G,Xa,X6,rr,eo',hc,UX⟩;by_cases hi:i < ds.length
 ·refine .inr ?_;have hd:ds.drop i=ds[i]::ds.drop (i+1):=vE hi;have he:ds[i]?=some ds[i]:=List.getElem?_eq_some_iff.mpr ⟨hi,rfl⟩;generalize ds[i]=d at hd he;rw[hd] at hc;unfold d0 at hc;let⟨ρ',h1,hc⟩:=bs hc;let⟨b,h2,hc⟩:=bs hc;let⟨go,Vw⟩:=it.go i d H' RN he G.ff G.fh;refine⟨go,λx H2 y=>?_⟩;let⟨R1,G2,rx⟩:=Vw x H2 y;refine⟨R1,_,d,ρ',G2.fh,eo'.mono G2.ff,rx,h1,λUg eo2 Xb=>?_⟩;refine⟨R1,ρ',b,G2.fh,eo2,h2,λH3 Sw G3=>?_⟩;have nof:∀Tf H4,bM RN H' Tf H4->Tf Dn=none:=λTf H4 G4=>by
   cases e4:Tf Dn with
   | none=>rfl
   | some o =>
    rcases G4.nw Dn o e4 with z|z
    ·rw[Xa] at z;cases z
    ·rw[X6] at z;cases z
  cases b with
  | false =>
   refine nj ⟨m - 1,by lia,by lia,Sw,xs,ys,rest,(G.trans G2).trans G3,nof _ _ (G2.trans G3),(G2.trans G3).hh _ _ X6,rr.mono (G2.trans G3).ff,Xb.mono G3.ff,by simpa using hc,UX⟩
  | true =>
   rw[yK rfl] at hc;let⟨z,h3,hc⟩:=bs hc;let⟨VD,h4,rfl⟩:=ah hc;refine pW ⟨Sw,ρ',z,G3.fh,eo2.mono G3.ff,h3,λv H4 Tf G4 rv=>?_⟩;have GG:=(G2.trans G3).trans G4;have n4:=nof _ _ GG;have h4D:=GG.hh _ _ X6;have hlen:ys.length < sizeLine:=by
    have e1:=rr.length;have e2:out.length=xs.length+(VD.length+1):=by rw[<- UX];simp
    lia
   refine⟨ys,h4D,hlen,m - 1,by lia,by lia,Tf,xs++[z],ys++[v],VD,?_,n4,aG,(rr.mono GG.ff).append (ay.cons rv ay.nil),Xb.mono (G3.ff.trans G4.ff),h4,by simp[<- UX]⟩;have G5:=G.trans GG;refine⟨λb o e=>?_,G5.ff,λb o e=>?_,G5.nw⟩
   ·rw[aC (aM e hD)];exact G5.hh b o e
   ·rw[aC (aM e n4)];exact G5.fh b o e
 ·have S6:i=ds.length:=by lia
  subst S6;rw[List.drop_length] at hc;cases hc;rw[qE] at UX;subst UX;exact .inl ⟨it.stop H' RN G.ff G.fh,q Dn ys H' RN (g1.trans G) (g1.hh.free hD) Xa X6 rr⟩
def Jv(hc:X.calm=true)(S:iw X scope N (jn t cs))(hi:DI X tg iter fi)
  (hY:∀fp s H,DG (aZ X scope N fp s H) tg tgt/\N8 (aZ X scope N fp s H) ifs tt/\DE (aZ X scope N fp s H) elt te)
  (hs:∀x,foldedSetIterable iter X.env x=pure x:=by intro _;rfl):DF X (.ListComp elt [⟨tg,iter,ifs,0⟩] scope pos) (az t cs fi tgt tt te):=aV (Iy (g:=O9 X.K tgt) (tt:=K2 X.K tt) (te:=tD X.K te) hc S hi hY hs) Gc
end
inductive Slot where
 | RK|val (d:D)|own (ds:List D)|tab (ks:List (List Int))
abbrev ar:=List Slot
def Slot.all:Slot->Option D|.RK=>none|.val d=>some d|.own ds=>some (.list ds)|.tab _=>none
def Slot.Sy:Slot->Option D|.val d=>some d|_=>none
def Slot.Xc:Slot->Slot|.own ds=>.val (.list ds)|s=>s
def aJ(ρ:ar):Env:=ρ.map Slot.all
def bN(ρ:ar):Env:=ρ.map Slot.Sy
def hand(fz:List Nat):Nat->ar->ar
 | _,[]=>[]
 | k,s::r=>(if fz.contains k=true then s.Xc else s)::hand fz (k+1) r
def fS(fz:List Nat):∀ (ρ:ar) (k i:Nat),(hand fz k ρ)[i]?=(ρ[i]?).map λs=>if fz.contains (k+i)=true then s.Xc else s
 | [],k,i=>by simp[hand]
 | s::r,k,0=>by simp[hand]
 | s::r,k,i+1=>by
  simp?[hand,yX];rw[fS fz r (k+1) i,Nat.add_assoc,Nat.add_comm 1 i]
def yf(fz:List Nat):∀ (ρ:ar) (k:Nat),(hand fz k ρ).length=ρ.length
 | [],k=>rfl
 | s::r,k=>by simp[hand,yf fz r (k+1)]
def Dy(K:W.Frag)(HF:Hp)(xs:List (List nF×Addr×Value)):Prop:=∀x∈xs,∃ns:List Int,x.1=ns.map Sum.inl/\fM K HF x.2.1 (ns.map V.int)
def Dy.mono{K:W.Frag}{xs:List (List nF×Addr×Value)}(h:Dy K HF xs)(s:aR HF RN):Dy K RN xs:=λx hx=>let ⟨ns,a,b⟩:=h x hx;⟨ns,a,aD s b⟩
structure gm(K:W.Frag)(RL RM HF H:Hp)(ρ:ar)(σ:L2.St):Prop where
 gr:bM RL RM HF H
 val:∀ (i:Nat) (d:D),ρ[i]?=some (.val d)->∃v,σ[i]?=some (some v)/\Rep K HF d v
 own:∀ (i:Nat) (ds:List D),ρ[i]?=some (.own ds)->∃a vs,σ[i]?=some (some (.ref a))/\H a=some (.lst vs)/\HF a=none/\RM a=none/\ay K HF ds vs
 inj:∀ (i j:Nat) (ds es:List D) (a:Addr),ρ[i]?=some (.own ds)->ρ[j]?=some (.own es)->σ[i]?=some (some (.ref a))->σ[j]?=some (some (.ref a))->i=j
 len:ρ.length<=σ.length
 tb:eh K HF
 tab:∀ (i:Nat) (ks:List (List Int)),ρ[i]?=some (.tab ks)->∃a R5,σ[i]?=some (some (.ref a))/\H a=some (.dT R5)/\HF a=none/\RM a=none/\R5.map (·.1)=ks.map (·.map Sum.inl)/\Dy K HF R5
 one:∀ (i j:Nat) (ks ls:List (List Int)),ρ[i]?=some (.tab ks)->ρ[j]?=some (.tab ls)->i=j
section
variable {K:W.Frag}
def gm.all(S:gm K RL RM HF H ρ σ):cM K H (aJ ρ) σ:=by
 refine⟨λi d h=>?_,by simpa [aJ] using S.len,S.tb.mono S.gr.fh⟩;unfold aJ at h;rw[zO] at h;let⟨s,hs,h⟩:=ah h;cases s with
 | RK=>cases h
 | val e=>cases h;let⟨v,a,b⟩:=S.val i _ hs;exact⟨v,a,b.mono S.gr.fh⟩
 | own ds =>
  cases h;let⟨a,vs,e1,e2,e3,_,e4⟩:=S.own i ds hs;exact⟨.ref a,e1,by simp?[Rep];exact⟨a,vs,rfl,gH.of e2,e4.mono S.gr.fh⟩⟩
 | tab ks=>cases h
def gm.Sy(S:gm K RL RM HF H ρ σ):cM K HF (bN ρ) σ:=by
 refine⟨λi d h=>?_,by simpa [bN] using S.len,S.tb⟩;unfold bN at h;rw[zO] at h;let⟨s,hs,h⟩:=ah h;cases s with
 | RK=>cases h
 | val e=>cases h;exact S.val i _ hs
 | own ds=>cases h
 | tab ks=>cases h
def bM.Sd(g:bM HF H RN H')(e3:HF a=none)(e2:H a=some u):RN a=none:=by
 cases e:RN a with
 | none=>rfl
 | some o =>
  rcases g.nw a o e with z|z
  ·rw[e3] at z;cases z
  ·rw[e2] at z;cases z
def gm.grow(S:gm K RL RM HF H ρ σ)(g:bM HF H RN H'):gm K RL RM RN H' ρ σ where
 gr:=S.gr.trans g
 val:=λi d h=>let ⟨v,a,b⟩:=S.val i d h;⟨v,a,b.mono g.ff⟩
 own:=λi ds h=>by
  let⟨a,vs,e1,e2,e3,e5,e4⟩:=S.own i ds h;exact⟨a,vs,e1,g.hh _ _ e2,g.Sd e3 e2,e5,e4.mono g.ff⟩
 inj:=S.inj
 len:=S.len
 tb:=S.tb.mono g.ff
 tab:=λi ks h=>by
  let⟨a,R5,e1,e2,e3,e5,e4⟩:=S.tab i ks h;exact⟨a,R5,e1,g.hh _ _ e2,g.Sd e3 e2,e5,e4.1,e4.2.mono g.ff⟩
 one:=S.one
def gm.step(S:gm K RL RM HF H ρ σ)(g:aR H H'):gm K RL RM HF H' ρ σ:=S.grow ⟨g,.refl _,S.gr.fh.trans g,λ_ _ e=>.inl e⟩
def pJ{ρ:ar}{fz:List Nat}{i:Nat}{ks:List (List Int)}(h:(Dl.hand fz 0 ρ)[i]?=some (Slot.tab ks)):ρ[i]?=some (Slot.tab ks):=by
 rw[fS] at h;let⟨s,hs,h⟩:=ah h;cases s<;>(split at h<;>cases h)<;>exact hs
def gm.hand(S:gm K RL RM HF H ρ σ)(fz:List Nat):∃RP,aR HF RP/\gm K RL RM RP H (hand fz 0 ρ) σ:=by
 let P:Addr->Prop:=λa=>∃i ds,fz.contains i=true/\ρ[i]?=some (.own ds)/\σ[i]?=some (some (.ref a));have cl:=Classical.propDecidable;let RP:Hp:=λa=>if P a then H a else HF a
 have hP:∀a,P a->HF a=none/\RM a=none:=λa ⟨i,ds,_,h1,h2⟩=>by
  let⟨a',vs,e1,e2,e3,e5,e4⟩:=S.own i ds h1;rw[h2] at e1;cases e1;exact⟨e3,e5⟩
 have s1:aR HF RP:=λb o e=>by
  show (if P b then H b else HF b)=some o;by_cases h:P b
  ·rw[(hP b h).1] at e;cases e
  ·rw[yM h];exact e
 have s2:aR RP H:=λb o e=>by
  have e:(if P b then H b else HF b)=some o:=e;by_cases h:P b
  ·rw[yK h] at e;exact e
  ·rw[yM h] at e;exact S.gr.fh b o e
 refine⟨RP,s1,⟨S.gr.hh,S.gr.ff.trans s1,s2,λb o e=>?_⟩,λi d h=>?_,λi ds h=>?_,λi j ds es a h1 h2=>?_,by rw[yf];exact S.len,S.tb.mono s1,λi ks h=>?_,λi j ks ls h1 h2=>S.one i j ks ls (pJ h1) (pJ h2)⟩
 ·have e:(if P b then H b else HF b)=some o:=e;by_cases h:P b
  ·exact .inr (hP b h).2
  ·rw[yM h] at e;exact S.gr.nw b o e
 ·rw[fS] at h;let⟨s,hs,h⟩:=ah h;rw[jC] at h;cases s with
  | RK=>split at h<;>cases h
  | tab ks=>split at h<;>cases h
  | val e =>
   have:Slot.val e=Slot.val d:=by split at h<;>exact h
   cases this;let⟨v,a,b⟩:=S.val i _ hs;exact⟨v,a,b.mono s1⟩
  | own ds =>
   split at h
   ·rename_i hc;cases h;let⟨a,vs,e1,e2,e3,e5,e4⟩:=S.own i ds hs;refine⟨.ref a,e1,?_⟩;simp?[Rep];refine⟨a,vs,rfl,.inl (.inl ?_),e4.mono s1⟩;show (if P a then H a else HF a)=_;rw[yK ⟨i,ds,hc,hs,e1⟩];exact e2
   ·cases h
 ·rw[fS] at h;let⟨s,hs,h⟩:=ah h;rw[jC] at h;cases s with
  | RK=>split at h<;>cases h
  | tab ks=>split at h<;>cases h
  | val e=>split at h<;>cases h
  | own es =>
   split at h
   ·cases h
   ·rename_i hc;cases h;let⟨a,vs,e1,e2,e3,e5,e4⟩:=S.own i ds hs;refine⟨a,vs,e1,e2,?_,e5,e4.mono s1⟩;show (if P a then H a else HF a)=none;rw[yM ?_]
    ·exact e3
    ·rintro⟨j,es,hj,h1,h2⟩;have:=S.inj i j ds es a hs h1 e1 h2;subst this;exact hc hj
 ·rw[fS] at h1 h2;let⟨s,hs,h1⟩:=ah h1;let⟨s',Tg,h2⟩:=ah h2;rw[jC] at h1 h2;cases s with
  | RK=>split at h1<;>cases h1
  | tab ks=>split at h1<;>cases h1
  | val e=>split at h1<;>cases h1
  | own xs =>
   cases s' with
   | RK=>split at h2<;>cases h2
   | tab ks=>split at h2<;>cases h2
   | val e=>split at h2<;>cases h2
   | own ys=>exact S.inj i j _ _ a hs Tg
 ·let⟨a,R5,e1,e2,e3,e5,e4⟩:=S.tab i ks (pJ h);refine⟨a,R5,e1,e2,?_,e5,e4.1,e4.2.mono s1⟩;show (if P a then H a else HF a)=none;rw[yM ?_]
  ·exact e3
  ·rintro⟨j,es,hj,h1,h2⟩;let⟨a',vs,f1,f2,_⟩:=S.own j es h1;rw[h2] at f1;cases f1;rw[e2] at f2;cases f2
def gm.SQ(S:gm K RL RM HF H ρ σ)(r:Rep K HF d v):gm K RL RM HF H (ρ.set i (.val d)) (σ.set i (some v)):=by
 have ne:∀ {j:Nat}{s:Slot},(ρ.set i (.val d))[j]?=some s->(∀e,s≠.val e)->i≠j/\ρ[j]?=some s:=λ{j s} h hn=>by
  rw[xH] at h;by_cases RS:i=j
  ·rw[yK RS] at h;split at h
   ·cases h;exact absurd rfl (hn _)
   ·cases h
  ·rw[yM RS] at h;exact⟨RS,h⟩
 refine⟨S.gr,λj e h=>?_,λj ds h=>?_,λj k ds es a h1 h2 h3 h4=>?_,by rw[yC,yC];exact S.len,S.tb,λj ks h=>?_,λj k ks ls h1 h2=>S.one j k ks ls (ne h1 λe z=>by cases z).2 (ne h2 λe z=>by cases z).2⟩
 ·rw[xH] at h ⊢;by_cases RS:i=j
  ·rw[yK RS] at h ⊢;split at h
   ·rename_i hl;cases h;rw[yK (zP hl S.len)];exact⟨v,rfl,r⟩
   ·cases h
  ·rw[yM RS] at h ⊢;exact S.val j e h
 ·let⟨RS,h⟩:=ne h λe z=>by cases z
  rw[xH,yM RS];exact S.own j ds h
 ·let⟨n1,h1⟩:=ne h1 λe z=>by cases z
  let⟨n2,h2⟩:=ne h2 λe z=>by cases z
  rw[xH,yM n1] at h3;rw[xH,yM n2] at h4;exact S.inj j k ds es a h1 h2 h3 h4
 ·let⟨RS,h⟩:=ne h λe z=>by cases z
  rw[xH,yM RS];exact S.tab j ks h
def gm.YN(S:gm K RL RM HF H ρ σ)(hs:aR H H')(h1:H' a=some (.lst vs))(h2:HF a=none)(h3:RM a=none)(r:ay K HF ds vs)
  (fr:∀j es,i≠j->ρ[j]?=some (.own es)->σ[j]?≠some (some (.ref a))):gm K RL RM HF H' (ρ.set i (.own ds)) (σ.set i (some (.ref a))):=by
 have S:=S.step hs;have nt:∀ {j:Nat}{ks:List (List Int)},(ρ.set i (.own ds))[j]?=some (.tab ks)->i≠j/\ρ[j]?=some (.tab ks):=λ{j ks} h=>by
  rw[xH] at h;by_cases RS:i=j
  ·rw[yK RS] at h;split at h<;>cases h
  ·rw[yM RS] at h;exact⟨RS,h⟩
 refine⟨S.gr,λj e h=>?_,λj es h=>?_,λj k xs ys b e1 e2 e3 e4=>?_,by rw[yC,yC];exact S.len,S.tb,λj ks h=>by rw[xH,yM (nt h).1];exact S.tab j ks (nt h).2,λj k ks ls h1 h2=>S.one j k ks ls (nt h1).2 (nt h2).2⟩
 ·rw[xH] at h ⊢;by_cases RS:i=j
  ·rw[yK RS] at h;split at h<;>cases h
  ·rw[yM RS] at h ⊢;exact S.val j e h
 ·rw[xH] at h ⊢;by_cases RS:i=j
  ·rw[yK RS] at h ⊢;split at h
   ·rename_i hl;cases h;rw[yK (zP hl S.len)];exact⟨a,vs,rfl,h1,h2,h3,r⟩
   ·cases h
  ·rw[yM RS] at h ⊢;exact S.own j es h
 ·rw[xH] at e1 e2 e3 e4;by_cases RS:i=j
  ·by_cases WH:i=k
   ·exact RS.symm.trans WH
   ·rw[yK RS] at e1 e3;rw[yM WH] at e2 e4;split at e3
    ·cases e3;exact absurd e4 (fr k ys WH e2)
    ·cases e3
  ·by_cases WH:i=k
   ·rw[yM RS] at e1 e3;rw[yK WH] at e2 e4;split at e4
    ·cases e4;exact absurd e3 (fr j xs RS e1)
    ·cases e4
   ·rw[yM RS] at e1 e3;rw[yM WH] at e2 e4;exact S.inj j k xs ys b e1 e2 e3 e4
end
inductive Out where
 | nx (ρ:ar)|rt (d:D)
def BP(K:W.Frag)(RL RM HF:Hp)(E:Ends):Out->Prop
 | .nx ρ'=>∀σ' H' RN,gm K RL RM RN H' ρ' σ'->aR HF RN->E.nx σ' H'
 | .rt d=>∀v H' RN,bM RL RM RN H'->Rep K RN d v->E.rt v H'
def tS(K:W.Frag)(RL RM:Hp)(g:ar->Option Out):TS:=λE σ H=>∃HF ρ o,gm K RL RM HF H ρ σ/\g ρ=some o/\BP K RL RM HF E o
def DS(X:Cx)(RL RM:Hp)(st:Stmt)(g:ar->Option Out):Prop:=PS X st (tS X.K RL RM g)
def ym(X:Cx)(RL RM:Hp)(st:List Stmt)(g:ar->Option Out):Prop:=uy X st (tS X.K RL RM g)
section
variable {X:Cx}{RL RM:Hp}{st:Stmt}{rest:List Stmt}{g g1 g2:ar->Option Out}{e:Expr}{pos:Pos}
def bS(h:PS X st t)(i:∀E σ H,t' E σ H->t E σ H):PS X st t':=λpins s σ H E I q=>h pins s σ H E I (i E σ H q)
def oR(h:uy X rest t)(i:∀E σ H,t' E σ H->t E σ H):uy X rest t':=λpins s σ H E I q=>h pins s σ H E I (i E σ H q)
def cP:ar->Option Out:=λρ=>some (.nx ρ)
def au(g1 g2:ar->Option Out):ar->Option Out:=λρ=>(g1 ρ).bind fun|.nx ρ'=>g2 ρ'|.rt d=>some (.rt d)
def BP.mono{K:W.Frag}(s:aR HF RN)(h:BP K RL RM HF E o):BP K RL RM RN E o:=by
 cases o with
 | nx ρ'=>exactλσ' H' R1 S s2=>h σ' H' R1 S (s.trans s2)
 | rt d=>exact h
def HN:ym X RL RM [] cP:=oR tw λE σ H ⟨HF,ρ,o,S,hg,q⟩=>by cases hg;exact q σ H HF S (.refl _)
def Ga(h1:DS X RL RM st g1)(h2:ym X RL RM rest g2):ym X RL RM (st::rest) (au g1 g2):=oR (i6 h1 h2) λE σ H ⟨HF,ρ,o,S,hg,q⟩=>by
 let⟨o1,h,hg⟩:=bs hg;refine⟨HF,ρ,o1,S,h,?_⟩;cases o1 with
 | nx ρ'=>exactλσ' H' RN S' s=>⟨RN,ρ',o,S',hg,q.mono s⟩
 | rt d=>cases hg;exact q
def Bm(h1:DS X RL RM st g1):ym X RL RM [st] g1:=HD h1
def HY:DS X RL RM (.Pass pos) cP:=bS HJ λE σ H ⟨HF,ρ,o,S,hg,q⟩=>by cases hg;exact q σ H HF S (.refl _)
def KU{x j pos pos'}:DS X RL RM (.Expr (.Constant (.str x) j pos) pos') cP:=bS Mz λE σ H ⟨HF,ρ,o,S,hg,q⟩=>by cases hg;exact q σ H HF S (.refl _)
def dE(t:Env->Option Bool)(g1 g2:ar->Option Out):ar->Option Out:=λρ=>(t (aJ ρ)).bind λb=>if b=true then g1 ρ else g2 ρ
def Od(hc:DT X c t)(ha:ym X RL RM a g1)(hb:ym X RL RM b g2):DS X RL RM (.If c a b pos) (dE t g1 g2):=bS (B0 hc ha hb) λE σ H ⟨HF,ρ,o,S,hg,q⟩=>by
 let⟨b,h,hg⟩:=bs hg;refine⟨H,aJ ρ,b,.refl _,S.all,h,λH' RN G=>?_⟩;cases b with
 | true=>exact pW ⟨HF,ρ,o,S.step G.hh,hg,q⟩
 | false=>exact nj ⟨HF,ρ,o,S.step G.hh,hg,q⟩
def v8:∀ (ρ:ar) (k n:Nat),k+ρ.length<=n->bN (hand (List.range n) k ρ)=aJ ρ
 | [],k,n,h=>rfl
 | s::r,k,n,h=>by
  have hk:(List.range n).contains k=true:=by simp at h ⊢;lia
  have ih:=v8 r (k+1) n (by simp at h;lia);unfold bN aJ at ih ⊢;rw[hand,yK hk,zI,zI,ih];cases s<;>rfl
def aE(f:Env->Option D):ar->Option Out:=λρ=>(f (aJ ρ)).map Out.rt
def Ms(h:DE X e f):DS X RL RM (.Return (some e) pos) (aE f):=bS (zc h) λE σ H ⟨HF,ρ,o,S,hg,q⟩=>by
 let⟨d,h,rfl⟩:=ah hg;let⟨RP,s1,S1⟩:=S.hand (List.range ρ.length);refine⟨RP,aJ ρ,d,S1.gr.fh,?_,h,λv H' RN G r=>q v H' RN (S1.gr.trans G) r⟩;have:=S1.Sy;rw[v8 ρ 0 ρ.length (by lia)] at this;exact this
def jm:D->Bool|.none=>true|.bool _=>true|.int _=>true|.str _=>true|_=>false
def vc{K:W.Frag}(h:jm d=true)(r:Rep K HF d v):Rep K RN d v:=by
 cases d<;>cases h<;>(simp?[Rep] at r ⊢;exact r)
mutual
def gq:D->Bool
 | .tuple ds=>ni ds
 | .list _=>false
 | .dict _=>false
 | _=>true
def ni:List D->Bool
 | []=>true
 | d::ds=>gq d&&ni ds
end
mutual
theorem uU{K:W.Frag}{H1 H2:Hp}(ht:∀a xs,fM K H1 a xs->fM K H2 a xs):∀ {d:D}{v:V},gq d=true->Rep K H1 d v->Rep K H2 d v
 | .none,_,_,r=>by simp?[Rep] at r ⊢;exact r
 | .bool _,_,_,r=>by simp?[Rep] at r ⊢;exact r
 | .int _,_,_,r=>by simp?[Rep] at r ⊢;exact r
 | .str _,_,_,r=>by simp?[Rep] at r ⊢;exact r
 | .tuple ds,v,h,r=>by
  simp?[gq] at h;simp?[Rep] at r ⊢;let⟨a,vs,e,q,rr⟩:=r;exact⟨a,vs,e,ht _ _ q,sj ht h rr⟩
 | .list _,_,h,_=>by simp[gq] at h
 | .dict _,_,h,_=>by simp[gq] at h
theorem sj{K:W.Frag}{H1 H2:Hp}(ht:∀a xs,fM K H1 a xs->fM K H2 a xs):∀ {ds:List D}{vs:List V},ni ds=true->ay K H1 ds vs->ay K H2 ds vs
 | [],_,_,r=>by simp?[ay] at r ⊢;exact r
 | d::ds,vs,h,r=>by
  simp?[ni,zF] at h;simp?[ay] at r ⊢;let⟨v,r',e,a,b⟩:=r;exact⟨v,r',e,uU ht h.1 a,sj ht h.2 b⟩
end
def gm.back{K:W.Frag}(S:gm K RL RM HF H ρ σ)(S1:gm K RL RM RP H ρ1 σ)(s1:aR HF RP)(G:bM RP H RN H'):∃R1,aR HF R1/\gm K RL RM R1 H' ρ σ/\(∀d v,gq d=true->Rep K RN d v->Rep K R1 d v)/\∀b o,R1 b=some o->RN b=some o:=by
 have cl:=Classical.propDecidable;let O:Addr->Prop:=λa=>(∃ (i:Nat) (ds:List D),ρ[i]?=some (Slot.own ds)/\σ[i]?=some (some (V.ref a)))\/∃ (i:Nat) (ks:List (List Int)),ρ[i]?=some (Slot.tab ks)/\σ[i]?=some (some (V.ref a));let R1:Hp:=λa=>if O a then none else RN a
 have hO:∀a,O a->HF a=none/\((∃vs,H a=some (.lst vs))\/∃R5,H a=some (.dT R5)):=λa z=>by
  rcases z with ⟨i,ds,h1,h2⟩|⟨i,ks,h1,h2⟩
  ·let⟨a',vs,e1,e2,e3,_,_⟩:=S.own i ds h1;rw[h2] at e1;cases e1;exact⟨e3,.inl ⟨vs,e2⟩⟩
  ·let⟨a',R5,e1,e2,e3,_,_⟩:=S.tab i ks h1;rw[h2] at e1;cases e1;exact⟨e3,.inr ⟨R5,e2⟩⟩
 have h2:∀a,¬ O a->R1 a=RN a:=λa n=>yM n;have h3:∀a,O a->R1 a=none:=λa n=>yK n;have sa:aR HF R1:=λb o e=>by
  have nb:¬ O b:=λz=>by rw[(hO b z).1] at e;cases e
  rw[h2 b nb];exact G.ff b o (s1 b o e)
 have sb:∀b o,R1 b=some o->RN b=some o:=λb o e=>by
  by_cases z:O b
  ·rw[h3 b z] at e;cases e
  ·rwa [h2 b z] at e
 have g2:=S1.gr.trans G;refine⟨R1,sa,⟨⟨g2.hh,S.gr.ff.trans sa,λb o e=>G.fh b o (sb b o e),λb o e=>g2.nw b o (sb b o e)⟩,λi d h=>?_,λi ds h=>?_,S.inj,S.len,S.tb.mono sa,λi ks h=>?_,S.one⟩,λd v hn r=>uU (λa xs q=>?_) hn r,sb⟩
 ·let⟨v,e1,r⟩:=S.val i d h;exact⟨v,e1,r.mono sa⟩
 ·let⟨a,vs,e1,e2,e3,e5,e4⟩:=S.own i ds h;exact⟨a,vs,e1,G.hh _ _ e2,h3 a (.inl ⟨i,ds,h,e1⟩),e5,e4.mono sa⟩
 ·let⟨a,R5,e1,e2,e3,e5,e4⟩:=S.tab i ks h;exact⟨a,R5,e1,G.hh _ _ e2,h3 a (.inr ⟨i,ks,h,e1⟩),e5,e4.1,e4.2.mono sa⟩
 ·have nt:∀o,RN a=some o->(∀vs,o≠.lst vs)->(∀R5,o≠.dT R5)->R1 a=some o:=λo e So Tc=>by
   by_cases z:O a
   ·rcases (hO a z).2 with ⟨vs,e2⟩|⟨vs,e2⟩
    ·have:=G.hh _ _ e2;rw[G.fh a o e] at this;cases this;exact absurd rfl (So vs)
    ·have:=G.hh _ _ e2;rw[G.fh a o e] at this;cases this;exact absurd rfl (Tc vs)
   ·rw[h2 a z];exact e
  rcases q with (q|⟨o,q⟩)|q
  ·exact .inl (.inl (nt _ q (λvs z=>by cases z) λvs z=>by cases z))
  ·exact .inl (.inr ⟨o,nt _ q (λvs z=>by cases z) λvs z=>by cases z⟩)
  ·exact .inr q
def aI(i:Nat)(fz:List Nat)(f:Env->Option D):ar->Option Out:=λρ=>(f (aJ ρ)).bind λd=>if jm d=true then some (.nx (ρ.set i (.val d))) else (f (bN (hand fz 0 ρ))).map λd'=>.nx ((if gq d'=true then ρ else hand fz 0 ρ).set i (.val d'))
def Nh:∀E σ H,tS X.K RL RM (aI i fz f) E σ H->Eo (tD X.K f) (uY i) E σ H:=λE σ H ⟨HF,ρ,o,S,hg,q⟩=>by
 let⟨d,h,hg⟩:=bs hg;split at hg
 ·rename_i hs;cases hg;exact⟨H,aJ ρ,d,.refl _,S.all,h,λv H' RN G r=>q _ H' HF ((S.step G.hh).SQ (vc hs r)) (.refl _)⟩
 ·let⟨d',h',rfl⟩:=ah hg;let⟨RP,s1,S1⟩:=S.hand fz;refine⟨RP,_,d',S1.gr.fh,S1.Sy,h',λv H' RN G r=>?_⟩;by_cases hn:gq d'=true
  ·rw[yK hn] at q;let⟨R1,s2,S2,hb,_⟩:=S.back S1 s1 G;exact q _ H' R1 (S2.SQ (hb d' v hn r)) s2
  ·rw[yM hn] at q;exact q _ H' RN ((S1.grow G).SQ r) (s1.trans G.ff)
def K9(i:Nat)(fz:List Nat)(hN:X.N.Nodup)(hi:X.N[i]?=some x)(hx:Loc X.env.scope x)(he:DE X e f)(hs:swapsWith e (some (.Name x pos')) pos.line X.env=pure false:=by rfl)
  (hf:X.fn x=true\/X.env.scope.names.lookup x=some .local:=by first|exact .inl rfl|exact .inr rfl|assumption):DS X RL RM (.Assign [.Name x pos'] e pos) (aI i fz f):=bS (qc hN hi hx he hs hf) Nh
def br(i:Nat)(fz:List Nat)(f:Env->Option (List D)):ar->Option Out:=λρ=>(f (bN (hand fz 0 ρ))).map λds=>.nx ((hand fz 0 ρ).set i (.own ds))
def Gw:∀E σ H,tS X.K RL RM (br i fz f) E σ H->Eo (tF X.K f) (uY i) E σ H:=λE σ H ⟨HF,ρ,o,S,hg,q⟩=>by
 let⟨ds,h,rfl⟩:=ah hg;let⟨RP,s1,S1⟩:=S.hand fz;refine⟨RP,_,ds,S1.gr.fh,S1.Sy,h,λa vs H' RN G ha hf h' r=>q _ H' RN ?_ (s1.trans G.ff)⟩;have S2:=S1.grow G;refine S2.YN (.refl _) h' hf (S1.gr.hh.free ha) r λj es _ hj z=>?_;let⟨b,us,e1,e2,_⟩:=S1.own j es hj;rw[e1] at z;cases z;rw[ha] at e2;cases e2
def uE(i:Nat)(fz:List Nat)(hN:X.N.Nodup)(hi:X.N[i]?=some x)(hx:Loc X.env.scope x)(he:DF X e f)(hs:swapsWith e (some (.Name x pos')) pos.line X.env=pure false:=by rfl)
  (hf:X.fn x=true\/X.env.scope.names.lookup x=some .local:=by first|exact .inl rfl|exact .inr rfl|assumption):DS X RL RM (.Assign [.Name x pos'] e pos) (br i fz f):=bS (qc hN hi hx he hs hf) Gw
def Hm(i:Nat)(fz:List Nat){cs:List Nat}
  (hc:X.calm=true) (S:iw X scope N (jn t cs)) (hi:DI X tg iter fi)
  (hY:∀fp s H,DG (aZ X scope N fp s H) tg tgt/\N8 (aZ X scope N fp s H) ifs tt/\DE (aZ X scope N fp s H) elt te)
  (hN:X.N.Nodup) (YK:X.N[i]?=some y) (hy:X.env.scope.names.lookup y=some .local)
  (YL:swapsWith (.ListComp elt [⟨tg,iter,ifs,0⟩] scope pos) (some (.Name y py)) Sh.line X.env=pure true)
  (hs:∀x,foldedSetIterable iter X.env x=pure x:=by intro _;rfl):DS X RL RM (.Assign [.Name y py] (.ListComp elt [⟨tg,iter,ifs,0⟩] scope pos) Sh) (br i fz (az t cs fi tgt tt te)) :=
 bS (HL (g:=O9 X.K tgt) (tt:=K2 X.K tt) (te:=tD X.K te) hc S hi hY hN YK hy YL hs) λE σ H q=>by
  have:=Gw E σ H q;exact Gc σ H _ this
def Rk(K:W.Frag)(RL RM:Hp)(f:ar->D->Option ar):TG:=λv σ H Q=>∃HF ρ d ρ',gm K RL RM HF H ρ σ/\Rep K HF d v/\f ρ d=some ρ'/\∀σ',gm K RL RM HF H ρ' σ'->Q σ' H
def O2(X:Cx)(RL RM:Hp)(tg:Expr)(f:ar->D->Option ar):Prop:=PG X tg (Rk X.K RL RM f)
def oE(i:Nat):ar->D->Option ar:=λρ d=>some (ρ.set i (.val d))
def D0(i:Nat)(hN:X.N.Nodup)(hi:X.N[i]?=some x)(hx:Loc X.env.scope x)(hf:X.fn x=true\/X.env.scope.names.lookup x=some .local:=by first|exact .inl rfl|exact .inr rfl|assumption):O2 X RL RM (.Name x pos) (oE i) :=
 pE (dz hN hi hx hf) λv σ H Q ⟨HF,ρ,d,ρ',S,r,hf,q⟩=>by cases hf;exact q _ (S.SQ r)
def eV(i j:Nat):ar->D->Option ar:=λρ d=>match d with
 | .tuple [x,y]=>some ((ρ.set i (.val x)).set j (.val y))
 | _=>none
def Jh(i j:Nat){px py:Pos}{k:Nat}(hc:X.calm=true)(hN:X.N.Nodup)(hi:X.N[i]?=some x)(hx:Loc X.env.scope x)(hj:X.N[j]?=some y)(hy:Loc X.env.scope y)
  (hf:X.fn x=true\/X.env.scope.names.lookup x=some .local:=by first|exact .inl rfl|exact .inr rfl|assumption) (U8:X.fn y=true\/X.env.scope.names.lookup y=some .local:=by first|exact .inl rfl|exact .inr rfl|assumption) :
  O2 X RL RM (.Tuple [.Name x px,.Name y py] k pos) (eV i j) :=
 pE (uj hc (dq (dz hN hi hx hf) (dq (dz hN hj hy U8) oQ))) λv σ H Q ⟨HF,ρ,d,ρ',S,r,hf,q⟩=>by
  unfold eV at hf;split at hf
  ·cases hf;simp?[Rep] at r;let⟨a,vs,rfl,hs,rr⟩:=r;let⟨v1,r1,rfl,a1,b1⟩:=rr.cons_inv;let⟨v2,r2,rfl,a2,b2⟩:=b1.cons_inv;rw[b2.nil_inv] at hs;exact⟨a,_,rfl,aD S.gr.fh hs,rfl,v1,_,rfl,v2,_,rfl,rfl,q _ ((S.SQ a1).SQ a2)⟩
  ·cases hf
def d9(tgt:ar->D->Option ar)(gb:ar->Option Out):List D->ar->Option Out
 | [],ρ=>some (.nx ρ)
 | d::ds,ρ=>(tgt ρ d).bind λρ1=>(gb ρ1).bind fun|.nx Tp=>d9 tgt gb ds Tp|.rt v=>some (.rt v)
def cN(fz:List Nat)(fi:Env->Option (List D))(tgt:ar->D->Option ar)(gb:ar->Option Out):ar->Option Out:=λρ=>(fi (bN (hand fz 0 ρ))).bind λds=>d9 tgt gb ds (hand fz 0 ρ)
def Ly(fz:List Nat)(hp:PassesOwn (model X.prog X.w) X.A X.env X.xe)(hc:X.calm=true)(hi:DI X tg iter fi)(hg:O2 X RL RM tg tgt)(hb:ym X RL RM body gb)
  (hs:∀x,foldedSetIterable iter X.env x=pure x:=by intro _;rfl):DS X RL RM (.For tg iter body [] pos) (cN fz fi tgt gb):=bS (LR hp hc hi hg hb hs) λE σ H ⟨HF,ρ,o,S,hg,q⟩=>by
 let⟨ds,h,hg⟩:=bs hg;let⟨RP,s1,S1⟩:=S.hand fz;refine⟨RP,_,ds,S1.gr.fh,S1.Sy,h,λJ H2 R1 G it=>?_⟩;refine⟨λi m σ' H'=>m+i=ds.length/\∃RN ρ',gm X.K RL RM RN H' ρ' σ'/\aR R1 RN/\d9 tgt gb (ds.drop i) ρ'=some o,⟨ds.length,rfl,R1,_,S1.grow G,.refl _,hg⟩,?_⟩;rintro i m σ' H' ⟨hm,RN,ρ',S',s',hf⟩;by_cases hi:i < ds.length
 ·refine .inr ?_;have hd:ds.drop i=ds[i]::ds.drop (i+1):=vE hi;have he:ds[i]?=some ds[i]:=List.getElem?_eq_some_iff.mpr ⟨hi,rfl⟩;generalize ds[i]=d at hd he;rw[hd] at hf;unfold d9 at hf;let⟨ρ1,h1,hf⟩:=bs hf;let⟨o1,h2,hf⟩:=bs hf;let⟨go,Vw⟩:=it.go i d H' RN he s' S'.gr.fh;refine⟨go,λUg H3=>∃Sw Vm,gm X.K RL RM Sw H3 Vm Ug/\aR R1 Sw/\d9 tgt gb (ds.drop (i+1)) Vm=some o,λUg H3 ⟨Sw,Vm,a1,a2,a3⟩=>⟨m - 1,by lia,by lia,Sw,Vm,a1,a2,a3⟩,λx H3 y=>?_⟩;let⟨Sw,G3,rx⟩:=Vw x H3 y;refine⟨Sw,ρ',d,ρ1,S'.grow G3,rx,h1,λUg S2=>⟨Sw,ρ1,o1,S2,h2,?_⟩⟩;cases o1 with
  | nx Tp=>exactλσ4 H4 Tf S4 s4=>⟨Tf,Tp,S4,(s'.trans G3.ff).trans s4,hf⟩
  | rt d=>cases hf;exact q
 ·have S6:i=ds.length:=by lia
  subst S6;rw[List.drop_length] at hf;cases hf;exact .inl ⟨it.stop H' RN s' S'.gr.fh,q σ' H' RN S' ((s1.trans G.ff).trans s')⟩
end
def IK(X:Cx)(sc:Scope):Prop:=∀x k,sc.names.lookup x=some k->X.env.kindOf x=some k\/(k=.free/\X.env.kindOf x=some .cell)
structure Bk(X:Cx)(N:List Str)(sc:Scope)(k:Nat):Prop where
 n:X.N=N
 nd:N.Nodup
 tb:IK X sc
 calm:X.calm=true
 fn:∀x,sc.names.lookup x=some .cell->X.fn x=true
 room:ej k X.A
 xe:X.xe=λ_ _=>False
 kd:X.env.scope.kind=.function
def cG:List Str:=["len","isinstance","int","bool","tuple","list","range","all","any","set","sorted","enumerate","zip","sum","min","max","reversed","abs","dict","str","type","iter","next"]
def Bn(X:Cx):Prop:=∀x∈cG,X.mg x=none
def uF(sc:Scope)(x:Str):Bool:=decide (sc.names.lookup x=some .globalImplicit)
def oW(N:List Str)(sc:Scope)(i:Nat)(x:Str):Bool:=decide (N[i]?=some x)&&(decide (sc.names.lookup x=some .local)||decide (sc.names.lookup x=some .cell)||decide (sc.names.lookup x=some .free))&&!(x == ("__debug__":Str))&&!(x == ("__classdict__":Str))
def ou(N:List Str)(sc:Scope)(i:Nat)(x:Str):Bool:=decide (N[i]?=some x)&&(decide (sc.names.lookup x=some .local)||decide (sc.names.lookup x=some .cell))
def Bk.gl(C:Bk X N sc k)(h:uF sc x=true):Gl X x:=by
 rcases C.tb x _ (yP h) with q|⟨q,_⟩
 ·exact q
 ·cases q
def Bk.VE(C:Bk X N sc k)(h:oW N sc i x=true):X.N[i]?=some x/\AS X.env.scope x/\(x == ("__debug__":Str))=false/\(x == ("__classdict__":Str))=false:=by
 unfold oW at h;simp?[zF,jA,zJ,yO] at h;let⟨⟨⟨h1,h2⟩,h3⟩,h4⟩:=h;refine⟨by rw[C.n];exact h1,?_,h3,h4⟩;rcases h2 with (h2|h2)|h2
 ·rcases C.tb x _ h2 with q|⟨q,_⟩
  ·exact .inl q
  ·cases q
 ·rcases C.tb x _ h2 with q|⟨q,_⟩
  ·exact .inr (.inl q)
  ·cases q
 ·rcases C.tb x _ h2 with q|⟨_,q⟩
  ·exact .inr (.inr q)
  ·exact .inr (.inl q)
def Bk.loc(C:Bk X N sc k)(h:ou N sc i x=true):X.N.Nodup/\X.N[i]?=some x/\Loc X.env.scope x/\(X.fn x=true\/X.env.scope.names.lookup x=some .local):=by
 unfold ou at h;simp?[zF,jA,zJ] at h;let⟨h1,h2⟩:=h;refine⟨by rw[C.n];exact C.nd,by rw[C.n];exact h1,?_⟩;rcases h2 with h2|h2
 ·rcases C.tb x _ h2 with q|⟨q,_⟩
  ·exact⟨.inl q,.inr q⟩
  ·cases q
 ·rcases C.tb x _ h2 with q|⟨q,_⟩
  ·exact⟨.inr q,.inl (C.fn x h2)⟩
  ·cases q
def Bk.blt(C:Bk X N sc k)(B:Bn X)(h:uF sc x=true)(hm:x∈cG)(hv:bootBuiltins x=some v):qh X x v:=⟨C.gl h,B x hm,hv⟩
def Bk.v(C:Bk X N sc k)(i:Nat)(h:oW N sc i x=true):DE X (.Name x pos) (ae i):=let ⟨a,b,c,d⟩:=C.VE h;MY i a b c d
def Bk.pass(C:Bk X N sc k):PassesOwn (model X.prog X.w) X.A X.env X.xe:=by rw[C.xe];exact PassesOwn.never
def nC(sc scope:Scope)(N N':List Str)(t:Nat)(cs:List Nat):Bool :=
 decide (scope.kind=.function)&&scope.names.all (λp=>(!decide (p.2=NameKind.free)||decide (sc.names.lookup p.1=some .cell)||decide (sc.names.lookup p.1=some .free))&&(!decide (p.2=NameKind.local)||decide (scope.names.lookup p.1=some .local)))
  &&scope.names.all (λp=>!decide (p.2=NameKind.cell)||!scope.names.any λq=>decide (q.1=p.1)&&decide (q.2=NameKind.free))
  &&decide (N'.length=t+cs.length)&&decide (N'.drop t=cs.filterMap λj=>N[j]?)&&cs.all (λj=>decide (j < N.length))&&(N'.drop t).all (λx=>decide (scope.names.lookup x=some .free))&&decide N'.Nodup
def filterMap_get(N:List α):∀ (cs:List Nat),(∀j∈cs,j < N.length)->∀ (i:Nat),(cs.filterMap λj=>N[j]?)[i]?=(cs[i]?).bind λj=>N[j]?
 | [],_,i=>by simp
 | c::cs,h,i=>by
  have hc:=h c zE;rw[jF,zK hc];cases i with
  | zero=>simp[hc]
  | succ i =>
   simp?[yX];exact filterMap_get N cs (λj hj=>h j (zC _ hj)) i
def Bk.comp(C:Bk X N sc k){cs:List Nat}(h:nC sc scope N N' t cs=true):iw X scope N' (jn t cs)/\∀fp s H,Bk (aZ X scope N' fp s H) N' scope k:=by
 unfold nC at h;simp?[zF,zJ,xF,jA,yO,xA] at h;obtain⟨⟨⟨⟨⟨⟨⟨h1,h2⟩,h3⟩,h4⟩,h5⟩,h6⟩,h7⟩,h8⟩:=h;refine⟨⟨h1,λx hx hk=>?_,λ{x} a b=>?_,λx hx hk=>?_,λσ i x v e1 e2=>?_,λσ=>?_⟩,λfp s H=>⟨rfl,h8,λx k hx=>nv hx,C.calm,λx hx=>yA hx,C.room,rfl,h1⟩⟩
 ·rcases (h2 x hx).1 with (q|q)|q
  ·exact absurd hk q
  ·rcases C.tb _ _ q with z|⟨z,_⟩
   ·exact .inl z
   ·cases z
  ·rcases C.tb _ _ q with z|⟨_,z⟩
   ·exact .inr z
   ·exact .inl z
 ·rcases h3 _ a with q|q
  ·exact q rfl
  ·have:(scope.names.any λq=>decide (q.1=x)&&decide (q.2=NameKind.free))=true:=List.any_eq_true.mpr ⟨_,b,by simp⟩;rw[this] at q;cases q
 ·rcases (h2 x hx).2 with q|q
  ·exact absurd hk q
  ·exact q
 ·unfold jn at e2;by_cases hi:i < t
  ·rw[yR (by simpa using hi),yW,yK hi] at e2;cases e2
  ·rw[yS (by simpa using hi),zO,xK] at e2;let⟨j,hj,e2⟩:=ah e2;have e3:(N'.drop t)[i - t]?=some x:=by rw[List.getElem?_drop];rw[show t+(i - t)=i by lia];exact e1
   refine⟨h7 x (qA e3),j,?_,?_⟩
   ·rw[h5,filterMap_get N cs h6,hj] at e3;rw[C.n];exact e3
   ·cases e:σ[j]? with
    | none=>rw[e] at e2;cases e2
    | some o=>rw[e] at e2;have e2:o=some v:=e2;rw[e2]
 ·unfold jn;rw[zN,xK,zD,h4]
def bh(g:ar->Option Out)(n:Nat)(args:List D):Option D:=(g (args.map Slot.val++List.replicate (n - args.length) .RK)).map fun|.rt d=>d|.nx _=>.none
def tO{ds:List D}{n i:Nat}{ks:List (List Int)}:¬ (ds.map Slot.val++List.replicate n .RK)[i]?=some (.tab ks):=λh=>by
 rcases List.mem_append.mp (qA h) with z|z
 ·let⟨d,_,e⟩:=List.mem_map.mp z;cases e
 ·cases List.eq_of_mem_replicate z
def JX{K:W.Frag}{st:Stmt}(F:EK K x qual st f fd)(S:bX N ps (aj st))
  (body:∀X:Cx,X.prog=P->X.w=w->X.K=K->X.mg=mg->X.base=base->Bk X N (aj st) k->X.env.code=fd.code->X.env.qual=qual++".<locals>."->∀RL RM,ym X RL RM (bq st) g):oA P w K mg base G0 (k+1) f fd ps (OH K ps.length (bh g N.length)):=by
 let⟨oc,od,kV,doc,pm,an,R4,ct,TV,rfl,lk,Se⟩:=F.ex;refine DR lk Se S (λvs H Q E ⟨HF,ds,d,h1,_,h2,h3,_⟩=>by rw[h2.length,h3]) λA outer s H vs Q E hr ⟨HF,ds,d,sm,tb,rr,hl,hd,q⟩=>?_;refine⟨_,(body (pR G0 P w K mg base N qual (aj st) f R4 A outer s H E).Sf rfl rfl rfl rfl rfl ⟨rfl,S.nd,λy kd hy=>.inl hy,rfl,λ_ _=>rfl,hr,rfl,S.kind⟩ rfl rfl HF H).Sf,?_⟩;unfold bh at hd;let⟨o,ho,hd⟩:=ah hd;have Sv:ps.length<=N.length:=by have:=jB List.length S.pre;rw[jV] at this;lia
 refine⟨HF,_,o,⟨.refl sm,λi e h=>?_,λi es h=>?_,λi j es fs a h=>?_,?_,tb,λi ks h=>absurd h tO,λi j ks ls h=>absurd h tO⟩,ho,?_⟩
 ·have hi:i < ds.length:=by
   by_cases hi:i < ds.length
   ·exact hi
   ·rw[yS (by simpa using hi),yW] at h;split at h<;>cases h
  rw[yR (by simpa using hi),zO] at h;let⟨d',Ur,h⟩:=ah h;cases h;let⟨v,hv,rv⟩:=rr.getD Ur;refine⟨v,?_,rv⟩;unfold L2.start;rw[yR (by simpa [rr.length] using hi),zO,hv];rfl
 ·exfalso;by_cases hi:i < ds.length
  ·rw[yR (by simpa using hi),zO] at h;let⟨d',Ur,h⟩:=ah h;cases h
  ·rw[yS (by simpa using hi),yW] at h;split at h<;>cases h
 ·exfalso;by_cases hi:i < ds.length
  ·rw[yR (by simpa using hi),zO] at h;let⟨d',Ur,h⟩:=ah h;cases h
  ·rw[yS (by simpa using hi),yW] at h;split at h<;>cases h
 ·unfold L2.start;rw[zN,zN,zD,zD,xK,xK,rr.length];exact yL _
 ·cases o with
  | rt d'=>cases hd;exactλv H' RN G r=>q v H' RN G r
  | nx ρ'=>cases hd;exactλσ' H' RN S' _=>q .RK H' RN S'.gr (by simp[Rep])
def QR{K:W.Frag}{st:Stmt}(F:EK K x qual st f fd)(S:bX N ps (aj st))(hb:Binds K fd ps [])(hm:mg x=some (.ref f))
  (body:∀X:Cx,X.prog=P->X.w=w->X.K=K->X.mg=mg->X.base=base->Bk X N (aj st) k->X.env.code=fd.code->X.env.qual=qual++".<locals>."->∀RL RM,ym X RL RM (bq st) g):Dj P w K mg base (k+1) x ps.length (bh g N.length):=⟨f,fd,ps,JX F S body,hm,F.kp,hb⟩
def md(fz:List Nat)(f:Env->Option D)(ρ:ar):Option (D×ar):=(f (aJ ρ)).bind λd=>if jm d=true then some (d,ρ) else (f (bN (hand fz 0 ρ))).map λd'=>(d',hand fz 0 ρ)
def nB{K:W.Frag}(S:gm K RL RM HF H ρ σ)(h:md fz f ρ=some (d,ρ'))
  (q:∀v H' RN,aR HF RN->gm K RL RM RN H' ρ' σ->aR H H'->Rep K RN d v->Q v H'):tD K f σ H Q:=by
 let⟨d1,h1,h⟩:=bs h;split at h
 ·rename_i hs;cases h;exact⟨H,aJ ρ,d,.refl _,S.all,h1,λv H' RN G r=>q v H' HF (.refl _) (S.step G.hh) G.hh (vc hs r)⟩
 ·let⟨d2,h2,h⟩:=ah h;cases h;let⟨RP,s1,S1⟩:=S.hand fz;exact⟨RP,_,d,S1.gr.fh,S1.Sy,h2,λv H' RN G r=>q v H' RN (s1.trans G.ff) (S1.grow G) G.hh r⟩
def mO(i:Nat)(m:List D->Option (List D))(ρ:ar):Option Out:=match ρ[i]? with
 | some (.own ds)=>(m ds).map λes=>.nx (ρ.set i (.own es))
 | _=>none
def ke(h:mO i m ρ=some o):∃ds es,ρ[i]?=some (.own ds)/\m ds=some es/\o=.nx (ρ.set i (.own es)):=by
 unfold mO at h;split at h
 ·rename_i ds hd;let⟨es,h1,h2⟩:=ah h;exact⟨ds,es,hd,h1,h2.symm⟩
 ·cases h
def gm.mut{K:W.Frag}(S:gm K RL RM HF H ρ σ)(h:ρ[i]?=some (.own ds))(ha:σ[i]?=some (some (.ref a)))(hH:H a=some (.lst vs))(r:ay K HF es us) :
  gm K RL RM HF (upd H a (.lst us)) (ρ.set i (.own es)) σ:=by
 let⟨a',VF,e1,e2,e3,e5,e4⟩:=S.own i ds h;rw[ha] at e1;cases e1;have hl:i < ρ.length:=(List.getElem?_eq_some_iff.mp h).1;have gr:bM RL RM HF (upd H a (.lst us)):=⟨λb o e=>by rw[aC (aM e e5)];exact S.gr.hh b o e,S.gr.ff,λb o e=>by rw[aC (aM e e3)];exact S.gr.fh b o e,S.gr.nw⟩
 have nt:∀ {j:Nat}{ks:List (List Int)},(ρ.set i (.own es))[j]?=some (.tab ks)->ρ[j]?=some (.tab ks):=λ{j ks} h=>by
  rw[xH] at h;by_cases RS:i=j
  ·rw[yK RS] at h;split at h<;>cases h
  ·rw[yM RS] at h;exact h
 refine⟨gr,λj d hj=>?_,λj xs hj=>?_,λj k xs ys b f1 f2 f3 f4=>?_,by rw[yC];exact S.len,S.tb,λj ks hj=>?_,λj k ks ls h1 h2=>S.one j k ks ls (nt h1) (nt h2)⟩
 ·rw[xH] at hj;by_cases RS:i=j
  ·rw[yK RS] at hj;split at hj<;>cases hj
  ·rw[yM RS] at hj;exact S.val j d hj
 ·rw[xH] at hj;by_cases RS:i=j
  ·subst RS;rw[yK rfl,yK hl] at hj;cases hj;exact⟨a,us,ha,aG,e3,e5,r⟩
  ·rw[yM RS] at hj;let⟨b,ws,f1,f2,f3,f5,f4⟩:=S.own j xs hj;refine⟨b,ws,f1,?_,f3,f5,f4⟩;rw[aC]
   ·exact f2
   ·rintro rfl;exact RS (S.inj i j ds xs b h hj ha f1)
 ·have old:∀ {j:Nat}{xs:List D},(ρ.set i (.own es))[j]?=some (.own xs)->∃ys,ρ[j]?=some (.own ys):=λ{j xs} hj=>by
   rw[xH] at hj;by_cases RS:i=j
   ·subst RS;exact⟨ds,h⟩
   ·rw[yM RS] at hj;exact⟨xs,hj⟩
  let⟨xs',g1⟩:=old f1;let⟨ys',g2⟩:=old f2;exact S.inj j k xs' ys' b g1 g2 f3 f4
 ·let⟨b,R5,g1,g2,g3,g5,g4⟩:=S.tab j ks (nt hj);refine⟨b,R5,g1,?_,g3,g5,g4⟩;rw[aC λz=>by rw[z,e2] at g2;cases g2];exact g2
def k6(i:Nat)(fz:List Nat)(f:Env->Option D):ar->Option Out:=λρ=>(md fz f ρ).bind λp=>mO i (λds=>if ds.length < sizeLine then some (ds++[p.1]) else none) p.2
def CP(i:Nat)(fz:List Nat)(hN:X.N[i]?=some x)(hv:AS X.env.scope x)(h:DE X e f)(hd:(x == ("__debug__":Str))=false:=by decide)(Se:(x == ("__classdict__":Str))=false:=by decide)
  (SN:((backTo cpos (starEach [e] X.env)).all (λx=>!x.1)&&(backToKw cpos (keywordEach [] X.env)).all (λx=>x.1.isSome)&&decide ([e].length+([]:List Keyword).length+(if ([]:List Keyword).isEmpty then 0 else 1) < 30))=true:=by rfl)
  (R0:(apos.endLine == cpos.line)=true:=by rfl) (hs:starEach [e] X.env=(false,eval e X.env)::starEach [] X.env:=by rfl) :
  DS X RL RM (.Expr (.Call (.Attribute (.Name x px) "append" apos) [e] [] cpos) pos) (k6 i fz f) :=
 bS (mE (qa qM PySem.F.slot_list_append PySem.F.type_list_append sg (e9 hN hv hd Se) (bR h dU hs) rfl SN R0 hs rfl)) λE σ H ⟨HF,ρ,o,S,hg,q⟩=>by
  let⟨⟨d,ρ'⟩,h1,hg⟩:=bs hg;let⟨ds,es,h2,h3,rfl⟩:=ke hg;have T1:∃V9,ρ[i]?=some (.own V9):=by
   let⟨d1,_,h1⟩:=bs h1;split at h1
   ·cases h1;exact⟨ds,h2⟩
   ·let⟨d2,_,h1⟩:=ah h1;cases h1;rw[fS] at h2;let⟨s,hs,h2⟩:=ah h2;cases s with
    | RK=>split at h2<;>cases h2
    | tab _=>split at h2<;>cases h2
    | val _=>split at h2<;>cases h2
    | own xs=>exact⟨xs,hs⟩
  let⟨V9,T1⟩:=T1;let⟨a,vs,e1,e2,e3,e5,e4⟩:=S.own i V9 T1;refine⟨.ref a,e1,.inl ⟨rfl,vs,gH.of e2⟩,nB S h1 λv H' RN s1 S' sh r=>?_⟩;let⟨a',VF,f1,f2,f3,f5,f4⟩:=S'.own i ds h2;rw[e1] at f1;cases f1;split at h3
  ·rename_i hz;cases h3;exact⟨a,VF,v,rfl,rfl,f2,by rw[f4.length];exact hz,q σ _ RN (S'.mut h2 e1 f2 (f4.append (ay.cons r ay.nil))) s1⟩
  ·cases h3
def sZ(K:W.Frag)(o:Obj):Option (Addr×Str):=match o.data with
 | .func fd=>if jf.contains fd.qualname=true then (match fd.code with
   | .ref c=>(match K.lookup c with
    | some ⟨_,_,.fields vs,_⟩=>(match (vs[11]?:Option Value) with
     | some (.ref P)=>if W.codeHdIn K c P=true then some (P,fd.qualname++".<locals>."++"<lambda>") else none
     | _=>none)
    | _=>none)
   | _=>none) else none
 | _=>none
def gM(K:W.Frag):List (Addr×Str):=K.filterMap λp=>sZ K p.2
def mM(K:W.Frag)(ts:List Addr):Bool:=(gM K).all λp=>ts.contains p.1&&(K.lookup p.1).isNone&&decide ((gM K).lookup p.1=some p.2)
def vz{K:W.Frag}(h:sZ K o=some (P,q)):∃c,W.codeHdIn K c P=true:=by
 unfold sZ at h;split at h
 ·split at h
  ·split at h
   ·split at h
    ·split at h
     ·split at h
      ·cases h;exact⟨_,‹_›⟩
      ·cases h
     ·cases h
    ·cases h
   ·cases h
  ·cases h
 ·cases h
def vd{K:W.Frag}(h:(P,q)∈gM K):∃c,W.codeHdIn K c P=true:=by
 let⟨p,_,e⟩:=List.mem_filterMap.mp h;exact vz e
def AA{K:W.Frag}(a:K.lookup f=some ⟨oc,od,.func fd,sl⟩)(b:fd.qualname∈jf)(d:fd.code=.ref c)(e:W.codeHdIn K c P=true) :
  (P,fd.qualname++".<locals>."++"<lambda>")∈gM K:=by
 refine List.mem_filterMap.mpr ⟨(f,_),W.mem_of_lookupK a,?_⟩;have e':=e;unfold W.codeHdIn at e';unfold sZ;simp?[d,List.contains_iff_mem,b,xG];split at e'
 ·rename_i vs Z6 hl;simp?[hl];simp?[zF] at e';have e1:=e'.1.1.1.1.1;split at e1
  ·rename_i P' hv;have:P'=P:=by simpa using e1
   subst this;simp?[hv,e,xG]
  ·cases e1
 ·cases e'
def DC:∀ {l:List (Addr×α)},l.lookup b=some q->(b,q)∈l
 | [],e=>by cases e
 | (c,x)::r,e=>by
  rw[yB] at e;cases h:b == c with
  | true=>rw[h] at e;cases e;rw[eq_of_beq h];exact zE
  | false=>rw[h] at e;exact zC _ (DC e)
def ft(K:W.Frag)(h0:Hp):Hp:=λb=>match (gM K).lookup b with|some q=>some (.tab q)|none=>h0 b
def Ce{K:W.Frag}(h:mM K ts=true):eh K (ft K h0):=λf oc od fd sl c P a b d e=>by
 have hm:=AA a b d e;have:=List.all_eq_true.mp h _ hm;simp?[zF,zJ] at this;unfold ft;rw[this.2]
def Cb{w:World}{K:W.Frag}{CX:Hq}{k:Nat}{fa:Addr}{fd:FuncData}{sp:Sp}{vs:List Value}{ns:List Int}
  (KX:K.In RQ.heap) (TM:RQ.heap.Ns mainGlobals mg) (hb:RQ.heap.Ns builtinsNs mb) (hbb:∀x:Str,x≠"__name__"->mb x=bootBuiltins x) (YO:RQ.heap.NoLimit) (YQ:O3 mg RQ.heap) (hg:RQ.gens=#[])
  (ht:mM K ts=true) (YR:∀P∈ts,RQ.heap.get? P=some (W.tabObj #[]))
  (ha:RQ.heap.get? a=some { cls:=.type "list",data:=.seq vs.toArray }) (hi:IntsAre vs ns) (hl:ns.length<=sizeLine) (hr:ej k callerA)
  (F:∀base:Heap,K.In base->base.Ns mainGlobals mg->oA P w K mg base CX k fa fd [x] sp) (Xd:∀ (s:Shared) (u:Value),BindsTo s fd ⟨[u],[]⟩ [(x,u)])
  (WA:∀H:Hp,eh K H->gH K H a (ns.map V.int)->sp [.ref a] H (λv _=>v=.bl true) λ_ _ _=>False)
  (YS:∀H e s',CX [] H RQ (λ_ _ _=>False) e s'->False) :
  codeAny (model P w) callerA (.call (.ref fa) ⟨[.ref a],[]⟩) (λr s'=>r=.ok (.ret (.bool true))/\OldK RQ.heap s'.heap/\s'.os=RQ.os/\AllBare s'.gens) RQ:=by
 have rv:=rH hi;have YT:=hi.length;have tabAt:∀b q,(gM K).lookup b=some q->RQ.heap.get? b=some (W.tabObj #[])/\K.lookup b=none/\∃c,W.CodeHd RQ.heap c b:=λb q e=>by
  have hm:=DC e;have:=List.all_eq_true.mp ht _ hm;simp?[zF,zJ,List.contains_iff_mem,Option.isNone_iff_eq_none] at this;let⟨c,hc⟩:=vd hm;exact⟨YR b this.1.1,this.1.2,c,W.codeHd_of_K KX hc⟩
 have aT:(gM K).lookup a=none:=by
  cases e:(gM K).lookup a with
  | none=>rfl
  | some q=>have:=(tabAt a q e).1;rw[ha] at this;cases this
 have core:∀h0:Hp,gH K (ft K h0) a (ns.map V.int)->mV P w (ft K h0) RQ.heap->(∀b,h0 b≠none->b=a)->(h0 a≠none->K.lookup a=none)->(∀b,h0 b=none\/∃o xs,h0 b=some (.Sy o (.lst xs))) ->
   codeAny (model P w) callerA (.call (.ref fa) ⟨[.ref a],[]⟩) (λr s'=>r=.ok (.ret (.bool true))/\OldK RQ.heap s'.heap/\s'.os=RQ.os/\AllBare s'.gens) RQ:=by
  intro h0 hS RO hA hK hO;have look:∀b u,ft K h0 b=some u->(∃q,(gM K).lookup b=some q/\u=.tab q)\/(b=a/\h0 b=some u):=λb u e=>by
   unfold ft at e;split at e
   ·rename_i q hq;cases e;exact .inl ⟨q,hq,rfl⟩
   ·exact .inr ⟨hA b (by rw[e];simp),e⟩
  have mJ:∀ {b:Addr}{o:Obj},RQ.heap.get? b=some o->ft K h0 b=none->(ud RQ.heap (ft K h0)).get? b=some o:=λe n=>Ff e n;have U6:∀ {b:Addr}{o:Obj},RQ.heap.get? b=some o->(∀vs n,o.data≠.seq vs n)->(∀vs,o.data≠.fields vs)->ft K h0 b=none:=λ{b o} e d d2=>by
   cases q:ft K h0 b with
   | none=>rfl
   | some u =>
    rcases look b u q with ⟨q',z,_⟩|⟨z,_⟩
    ·rw[(tabAt b q' z).1] at e;cases e;exact absurd rfl (d2 _)
    ·subst z;rw[ha] at e;cases e;exact absurd rfl (d _ _)
  have X7:∀ {b:Addr}{m:Str->Option Value},RQ.heap.Ns b m->(ud RQ.heap (ft K h0)).Ns b m:=λ{b m} ⟨o,es,ep,e,d,r⟩=>⟨o,es,ep,mJ e (U6 e (λ_ _ z=>by rw[d] at z;cases z) λ_ z=>by rw[d] at z;cases z),d,r⟩
  have hKb:K.In (ud RQ.heap (ft K h0)):=λb o e=>mJ (KX b o e) (by
   cases q:ft K h0 b with
   | none=>rfl
   | some u =>
    rcases look b u q with ⟨q',z,_⟩|⟨z,z2⟩
    ·rw[(tabAt b q' z).2.1] at e;cases e
    ·subst z;rw[hK (by rw[z2];simp)] at e;cases e)
  have hM:Mod K mg (ud RQ.heap (ft K h0)):=⟨hKb,X7 TM,⟨mb,X7 hb,hbb⟩,let ⟨mc,h1,h2⟩:=YO;⟨mc,X7 h1,h2⟩,
   let ⟨bm,o,b1,b2,b3,b4,b5,b6,b7⟩:=YQ;⟨bm,o,b1,b2,b3,mJ b4 (U6 b4 (λ_ _ z=>by rw[b7] at z;cases z) λ_ z=>by rw[b7] at z;cases z),b5,b6,b7⟩⟩
  have e0:zl P w K mg (ud RQ.heap (ft K h0)) callerA [] RQ (ft K h0):=⟨rfl,hM,λb o e=>JO e,Nat.le_of_eq (B6 _ _),trivial,λb hb=>absurd (show b∈([]:List Addr) from hb) (by simp),RO,.of_eq hg⟩
  refine jR ((F _ hKb (X7 TM)).run callerA [] RQ (ft K h0) ⟨[.ref a],[]⟩ [.ref a] [.ref a] _ _ hr e0 (Xd RQ (.ref a)) (.cons rfl .nil) (WA _ (Ce ht) hS)) λr s' h=>?_;cases r with
  | error e=>exact (YS _ e s' h).elim
  | ok fl =>
   cases fl with
   | next=>exact False.elim h
   | brk=>exact False.elim h
   | cont=>exact False.elim h
   | ret u =>
    let⟨v,H',os,bare,un,YU,r',q⟩:=h;have q':v=.bl true:=q;subst q';obtain rfl:u=Value.bool true:=r';have key:∀b o,RQ.heap.get? b=some o->s'.heap.get? b=some o\/(isCodeTable RQ.heap b/\o=W.tabObj #[]/\∃ps,s'.heap.get? b=some (W.tabObj ps)):=λb o e=>by
     cases q:ft K h0 b with
     | none=>exact .inl (un.keep b o e q (by intro z;exact absurd (show b∈([]:List Addr) from z) (by simp)) (by simp))
     | some u =>
      rcases look b u q with ⟨q',z,rfl⟩|⟨z,z2⟩
      ·let⟨t1,_,c,t3⟩:=tabAt b q' z;let⟨more,m1⟩:=un.Sr.gr b q' #[] q t1;rw[e] at t1;cases t1;exact .inr ⟨(t3.tab e).isCodeTable,rfl,_,m1⟩
      ·rcases hO b with z3|⟨ob,xs,z3⟩
       ·rw[z2] at z3;cases z3
       ·rw[z2] at z3;cases z3;have z4:=un.Sz b ob _ q;let⟨e1,_⟩:=RO b _ q;let⟨e2,_⟩:=YU b _ z4;rw[e] at e1;cases e1;exact .inl e2
    refine⟨rfl,⟨λb o e=>?_,λb o e=>?_⟩,os,bare⟩
    ·rcases key b o e with z|⟨t,rfl,ps,z⟩
     ·exact .inl z
     ·exact .inr (.inl ⟨t,rfl,#[],ps,rfl,by rw[Array.empty_append];exact z⟩)
    ·rcases key b o e with z|⟨_,_,ps,z⟩
     ·exact⟨o,z⟩
     ·exact⟨_,z⟩
 have hoT:∀ (h0:Hp) b q,(gM K).lookup b=some q->dS P w (ft K h0) RQ.heap b (.tab q):=λh0 b q e=>⟨#[],(tabAt b q e).1,trivial,λpos v z=>by cases z⟩
 cases hk:K.lookup a with
 | some o =>
  have e:=KX a o hk;rw[ha] at e;cases e;refine core (λ_=>none) (.inr ⟨_,vs.toArray,_,hk,rfl,rfl,rfl,by rw[zH,YT];exact hl,by simpa using rv⟩) (λb u z=>?_) (λb z=>absurd rfl z) (λz=>absurd rfl z) λ_=>.inl rfl;unfold ft at z;split at z
  ·rename_i q hq;cases z;exact hoT _ b q hq
  ·cases z
 | none =>
  refine core (λb=>if b=a then some (.Sy { cls:=.type "list",data:=.seq vs.toArray } (.lst (ns.map V.int))) else none) (.inl (.inr ⟨{ cls:=.type "list",data:=.seq vs.toArray },?_⟩)) (λb u z=>?_) (λb z=>?_) (λ_=>hk) λb=>?_
  ·unfold ft;rw[aT];exact yK rfl
  ·unfold ft at z;split at z
   ·rename_i q hq;cases z;exact hoT _ b q hq
   ·by_cases hb:b=a
    ·replace z:=(yK hb).symm.trans z;cases z;subst hb;exact⟨ha,by rw[zD];exact hl,vs,_,rv,ha⟩
    ·replace z:=(yM hb).symm.trans z;cases z
  ·by_cases hb:b=a
   ·exact hb
   ·exact absurd (yM hb) z
  ·by_cases hb:b=a
   ·exact .inr ⟨_,_,yK hb⟩
   ·exact .inl (yM hb)
def FM{l:W.OpenLaw}{n k:Nat}{q:Program}{loose:List Str}{XP:(Str->Option Value)->Heap->Prop}{YP:World->Heap->Prop}{d:DefRec}{K:Params->W.Frag}{CX:World->Hq}{sp:World->Sp}{x:Str}{ts:List Addr}
  (hn:l.most=some n) (YV:n<=sizeLine) (WY:d.params.defaults=[]) (hr:ej k callerA)
  (hY:∀ (w:World) (h:Heap),YP w h->(K w.params).In h/\∀P∈ts,h.get? P=some (W.tabObj #[])) (ht:∀w:World,mM (K w.params) ts=true)
  (F:∀ (w:World) (mg:Str->Option Value) (fa:Addr) (h:Heap),(K w.params).In h->h.Ns mainGlobals mg->mg d.name=some (.ref fa) ->
   ∃fd:FuncData,(∀ (s:Shared) (u:Value),BindsTo s fd ⟨[u],[]⟩ [(x,u)]) /\
    ∀base:Heap,(K w.params).In base->base.Ns mainGlobals mg->oA l.prog w (K w.params) mg base (CX w) k fa fd [x] (sp w))
  (WA:∀ (w:World) (H:Hp) (a:Addr) (ns:List Int),ns.length<=n->eh (K w.params) H->gH (K w.params) H a (ns.map V.int)->sp w [.ref a] H (λv _=>v=.bl true) λ_ _ _=>False)
  (YS:∀ (w:World) (H:Hp) (s:Shared) (e:Value) (s':Shared),CX w [] H s (λ_ _ _=>False) e s'->False) :
  W.WalkO q loose XP YP l.row.toRowW d [] (λf vs=>PySem.call f vs):=by
 refine Att.Tz hn WY λw RT RQ mg mb fa o pm cd doc a vs ns G Y ho hd Se WZ V2 hints hlen hg=>?_;let⟨KX,YR⟩:=hY w _ Y;let⟨fd,hb,hF⟩:=F w mg fa _ KX G.T.g WZ;have YQ:O3 mg RQ.heap:=by
  let⟨bm,ob,b1,b2,b3,b4,b5,b6⟩:=G.T.bmain;refine⟨bm,ob,b1,b2,λz=>?_,b3,b4,b5,b6⟩;let⟨o',es,ep,e1,e2,_⟩:=G.T.g;rw[<- z,b3] at e1;cases e1;rw[b6] at e2;cases e2
 exact Cb KX G.T.g G.T.b G.T.builtins G.T.nolimit YQ hg (ht w) YR V2 hints (yD hlen YV) hr hF hb (λH hT hS=>WA w H a ns hlen hT hS) λH e s'=>YS w H RQ e s'
end Dl
namespace SP
open PySem PySem.W PyProof.Rows
def run(lt:Nat->Nat->Bool):KasT α->α
 | .ret a=>a
 | .ask i j k=>run lt (k (lt i j))
def gT(lt:Nat->Nat->Bool)(f:α->KasT β):∀t:KasT α,run lt (t.bind f)=run lt (f (run lt t))
 | .ret a=>rfl
 | .ask i j k=>by
  show run lt ((k (lt i j)).bind f)=run lt (f (run lt (k (lt i j))));exact gT lt f (k (lt i j))
def Na(n:Nat):KasT α->Prop
 | .ret _=>True
 | .ask i j k=>i < n/\j < n/\∀b,Na n (k b)
def wp_run(hc:∀i j C,i < n->j < n->C (lt i j) s->cmp i j C s):∀ (t:KasT α) {Q:α->Shared->Prop},Na n t->Q (run lt t) s->t.kasWp cmp Q s
 | .ret a,Q,_,h=>h
 | .ask i j k,Q,b,h=>hc i j _ b.1 b.2.1 (wp_run hc (k (lt i j)) (b.2.2 _) h)
def o8(n:Nat)(R:α->Prop):KasT α->Prop
 | .ret a=>R a
 | .ask i j k=>i < n/\j < n/\∀b,o8 n R (k b)
def m7:∀ {t:KasT α},o8 n R t->(∀a,R a->Na n (f a))->Na n (t.bind f)
 | .ret a,b,h=>h a b
 | .ask i j k,b,h=>⟨b.1,b.2.1,λc=>m7 (b.2.2 c) h⟩
def ix:∀ {t:KasT α},o8 n R t->(∀a,R a->o8 n S (f a))->o8 n S (t.bind f)
 | .ret a,b,h=>h a b
 | .ask i j k,b,h=>⟨b.1,b.2.1,λc=>ix (b.2.2 c) h⟩
def Bd(n:Nat)(p:Array Nat):Prop:=∀a,p.getD a 0 < n
def Bd.perm(h:Bd n p)(e:q.Perm p):Bd n q:=by
 intro a;rw[qC];cases ha:q[a]? with
 | none=>have:=h p.size;rw[qC] at this;simpa using this
 | some x =>
  have hx:x∈q:=Array.mem_of_getElem? ha;have U9:x∈p:=e.mem_iff.mp hx;let⟨i,hi,rfl⟩:=Array.mem_iff_getElem.mp U9;have:=h i;rw[qC] at this;simpa [hi] using this
def EY(h:Bd n p):∀f m,o8 n (λ_=>True) (kas_asc p f m)
 | 0,m=>trivial
 | f+1,m=>⟨h _,h _,λc=>by
  dsimp only;split
  ·trivial
  ·exact EY h f (m+1)⟩
def u3(h:Bd n p)(i j:Nat):Bd n (kas_rev p i j):=h.perm (mirror_perm _ _ _ _)
def uI:∀ (f:Nat) {p:Array Nat}(h:Bd n p) (m q:Nat),o8 n (λr=>Bd n r.1) (kas_desc f p m q)
 | 0,p,h,m,q=>h
 | f+1,p,h,m,q=>⟨h _,h _,λc=>by
  dsimp only;split
  ·split
   ·exact uI f (u3 h _ _) (m+1) 0
   ·exact uI f h (m+1) 0
  ·exact⟨h _,h _,λd=>by
    dsimp only;split
    ·exact h
    ·exact uI f h (m+1) (q+1)⟩⟩
def BW(h:Bd n p)(m nrem:Nat):o8 n (λr=>Bd n r.2) (kas_tail3 m nrem p):=ix (EY (u3 h 0 m) _ _) λ_ _=>u3 h 0 m
def o4(h:Bd n p)(m nrem:Nat):o8 n (λr=>Bd n r.2) (kas_descPart m nrem p):=ix (uI _ h _ _) λr hr=>by
 split
 ·exact BW (u3 hr _ _) _ _
 ·exact BW hr _ _
def Jj(h:Bd n p)(nrem:Nat):o8 n (λr=>Bd n r.2) (kas_count nrem p):=ix (EY h _ _) λm _=>by
 split
 ·exact h
 ·split
  ·exact⟨h _,h _,λc=>by
    dsimp only;split
    ·exact h
    ·exact o4 (u3 h _ _) _ _⟩
  ·exact o4 h _ _
def td(h:Bd n p)(k:Nat):∀f l r,o8 n (λ_=>True) (kas_place p k f l r)
 | 0,l,r=>trivial
 | f+1,l,r=>by
  unfold kas_place;split
  ·trivial
  ·exact⟨h _,h _,λc=>by
    dsimp only;split
    ·exact td h k f _ _
    ·exact td h k f _ _⟩
def Kh:∀ (f:Nat) {p:Array Nat}(h:Bd n p) (k:Nat),Na n (kas_bin f p k)
 | 0,p,h,k=>trivial
 | f+1,p,h,k=>m7 (td h k _ _ _) λl _=>Kh f (h.perm (bubble_perm _ _ _)) (k+1)
def Ek(h1:1<=n):Na n (kas_sort n):=by
 have h:Bd n (List.toArray (List.range n)):=λa=>by
  rw[qC];by_cases ha:a < n
  ·simp[ha]
  ·simp[ha];lia
 refine m7 (Jj h n) λr hr=>?_;split
 ·exact Kh _ hr _
 ·trivial
section
variable (z:Nat->Int)
def Z(p:Array Nat)(a:Nat):Int:=z (p.getD a 0)
def eJ:Nat->Nat->Bool:=λi j=>decide (z i < z j)
def mw(h:p[a]?=q[b]?):Z z p a=Z z q b:=by
 unfold Z;rw[qC,qC,h]
def ES(hj:j<=p.size)(k:Nat):Z z (kas_rev p i j) k=if i<=k/\k < j then Z z p (i+j - 1 - k) else Z z p k:=by
 have e:=getElem?_mirror_all (xs:=p) (i:=i) hj k;unfold kas_rev;by_cases h1:i<=k/\k < j
 ·rw[yK h1] at e ⊢;exact mw z e
 ·rw[yM h1] at e ⊢;exact mw z e
def EH(hs:src < p.size)(hd:d<=src)(k:Nat):Z z (bubble p src d) k=if k=src - d then Z z p src else if src - d < k/\k<=src then Z z p (k - 1) else Z z p k:=by
 have e:=getElem?_bubble hs d hd k;by_cases h1:k=src - d
 ·rw[yK h1] at e ⊢;exact mw z e
 ·rw[yM h1] at e ⊢;by_cases h2:src - d < k/\k<=src
  ·rw[yK h2] at e ⊢;exact mw z e
  ·rw[yM h2] at e ⊢;exact mw z e
def Up(p:Array Nat)(n:Nat):Prop:=∀a b,a<=b->b < n->Z z p a<=Z z p b
def Dn(p:Array Nat)(n:Nat):Prop:=∀a b,a<=b->b < n->Z z p b<=Z z p a
variable {z}
def Hr(h:Up z p n)(hn:1<=n)(h1:Z z p (n - 1)<=Z z p n):Up z p (n+1):=by
 intro a b SY hb;by_cases Wa:b < n
 ·exact h a b SY Wa
 ·have e:b=n:=by lia
  subst e;by_cases ha:a=b
  ·subst ha;exact xY _
  ·exact jT (h a (b - 1) (by lia) (by lia)) h1
def PJ:∀ (f n:Nat),1<=n->Up z p n->n<=run (eJ z) (kas_asc p f n)/\run (eJ z) (kas_asc p f n)<=n+f/\Up z p (run (eJ z) (kas_asc p f n))/\(run (eJ z) (kas_asc p f n) < n+f->Z z p (run (eJ z) (kas_asc p f n)) < Z z p (run (eJ z) (kas_asc p f n) - 1))
 | 0,n,hn,h=>⟨yL _,yL _,h,λq=>absurd q (qD _)⟩
 | f+1,n,hn,h=>by
  unfold kas_asc;show n<=run (eJ z) (if eJ z (p.getD n 0) (p.getD (n - 1) 0)=true then .ret n else kas_asc p f (n+1))/\run (eJ z) (if eJ z (p.getD n 0) (p.getD (n - 1) 0)=true then .ret n else kas_asc p f (n+1))<=n+(f+1)/\Up z p (run (eJ z) (if eJ z (p.getD n 0) (p.getD (n - 1) 0)=true then .ret n else kas_asc p f (n+1)))/\(run (eJ z) (if eJ z (p.getD n 0) (p.getD (n - 1) 0)=true then .ret n else kas_asc p f (n+1)) < n+(f+1)->Z z p (run (eJ z) (if eJ z (p.getD n 0) (p.getD (n - 1) 0)=true then .ret n else kas_asc p f (n+1))) < Z z p (run (eJ z) (if eJ z (p.getD n 0) (p.getD (n - 1) 0)=true then .ret n else kas_asc p f (n+1)) - 1))
  by_cases hc:eJ z (p.getD n 0) (p.getD (n - 1) 0)=true
  ·rw[yK hc];exact⟨yL _,jU _ _,h,λ_=>yP hc⟩
  ·rw[yM hc];have h1:Z z p (n - 1)<=Z z p n:=by
    have:¬ (Z z p n < Z z p (n - 1)):=λq=>hc (yA q);lia
   let⟨a,b,c,d⟩:=PJ f (n+1) (by lia) (Hr h hn h1);exact⟨by lia,by lia,c,λq=>d (by lia)⟩
def Aa(hj:j<=p.size)(h:∀a b,i<=a->a < j->i<=b->b < j->Z z p a=Z z p b)(k:Nat):Z z (kas_rev p i j) k=Z z p k:=by
 rw[ES z hj];split
 ·rename_i hk;exact h _ _ (by lia) (by lia) hk.1 hk.2
 ·rfl
def EZ(e:∀k,Z z q k=Z z p k)(h:Dn z p n):Dn z q n:=λa b SY hb=>by rw[e,e];exact h a b SY hb
def Mj(hn:n<=p.size)(h:Dn z p n):Up z (kas_rev p 0 n) n:=by
 intro a b SY hb;rw[ES z hn,ES z hn,yK ⟨xU _,by lia⟩,yK ⟨xU _,hb⟩];exact h _ _ (by lia) (by lia)
def ml(p:Array Nat)(i j:Nat):(kas_rev p i j).size=p.size:=mirror_size _ _ _ _
def mS(p:Array Nat)(i j:Nat):(kas_rev p i j).Perm p:=mirror_perm _ _ _ _
structure Lx(z:Nat->Int)(R3 p:Array Nat)(n q nrem:Nat):Prop where
 perm:p.Perm R3
 size:p.size=R3.size
 le:n<=nrem
 qn:q+1<=n
 dn:Dn z p n
 eq:∀a b,n - (q+1)<=a->a < n->n - (q+1)<=b->b < n->Z z p a=Z z p b
def HH(hz:nrem<=R3.size):∀ (f:Nat) (p:Array Nat) (n q:Nat),n+f<=nrem->Lx z R3 p n q nrem ->
  let r:=run (eJ z) (kas_desc f p n q);Lx z R3 r.1 r.2.1 r.2.2 nrem
 | 0,p,n,q,hn,h=>h
 | f+1,p,n,q,hn,h=>by
  intro r;have hr:r=run (eJ z) (if eJ z (p.getD n 0) (p.getD (n - 1) 0)=true then (if q > 0 then kas_desc f (kas_rev p (n - (q+1)) n) (n+1) 0 else kas_desc f p (n+1) 0)
   else .ask (p.getD (n - 1) 0) (p.getD n 0) λd=>if d=true then .ret (p,n,q) else kas_desc f p (n+1) (q+1)):=rfl
  have hq:=h.qn;by_cases hc:eJ z (p.getD n 0) (p.getD (n - 1) 0)=true
  ·rw[yK hc] at hr;have R6:Z z p n < Z z p (n - 1):=yP hc;have step:∀p':Array Nat,p'.Perm R3->p'.size=R3.size->(∀k,Z z p' k=Z z p k)->Lx z R3 p' (n+1) 0 nrem:=λp' a1 a2 a3=>by
    refine⟨a1,a2,by lia,by lia,λa b SY hb=>?_,λa b h1 h2 h3 h4=>by rw[show a=b by lia]⟩;rw[a3,a3];by_cases Wa:b < n
    ·exact h.dn a b SY Wa
    ·have e:b=n:=by lia
     subst e;by_cases ha:a=b
     ·subst ha;exact xY _
     ·exact jT (Int.le_of_lt R6) (h.dn a (b - 1) (by lia) (by lia))
   by_cases hq0:q > 0
   ·rw[yK hq0] at hr;rw[hr];exact HH hz f _ (n+1) 0 (by lia) (step _ ((mS _ _ _).trans h.perm) (by rw[ml,h.size]) (Aa (by rw[h.size];lia) h.eq))
   ·rw[yM hq0] at hr;rw[hr];exact HH hz f p (n+1) 0 (by lia) (step p h.perm h.size λ_=>rfl)
  ·rw[yM hc] at hr;have VG:Z z p (n - 1)<=Z z p n:=by
    have:¬ (Z z p n < Z z p (n - 1)):=λq=>hc (yA q);lia
   have TC:r=run (eJ z) (if eJ z (p.getD (n - 1) 0) (p.getD n 0)=true then .ret (p,n,q) else kas_desc f p (n+1) (q+1)):=hr;by_cases hd:eJ z (p.getD (n - 1) 0) (p.getD n 0)=true
   ·rw[yK hd] at TC;rw[TC];exact h
   ·rw[yM hd] at TC;rw[TC];have heq:Z z p n=Z z p (n - 1):=by
     have:¬ (Z z p (n - 1) < Z z p n):=λq=>hd (yA q);lia
    refine HH hz f p (n+1) (q+1) (by lia) ⟨h.perm,h.size,by lia,by lia,λa b SY hb=>?_,λa b h1 h2 h3 h4=>?_⟩
    ·by_cases Wa:b < n
     ·exact h.dn a b SY Wa
     ·have e:b=n:=by lia
      subst e;by_cases ha:a=b
      ·subst ha;exact xY _
      ·rw[heq];exact h.dn a (b - 1) (by lia) (by lia)
    ·have key:∀c,n+1 - (q+1+1)<=c->c < n+1->Z z p c=Z z p (n - 1):=λc c1 c2=>by
      by_cases hcn:c < n
      ·exact h.eq c (n - 1) (by lia) hcn (by lia) (by lia)
      ·have e:c=n:=by lia
       subst e;exact heq
     rw[key a h1 h2,key b h3 h4]
structure OP(z:Nat->Int)(R3:Array Nat)(nrem:Nat)(r:Nat×Array Nat):Prop where
 perm:r.2.Perm R3
 size:r.2.size=R3.size
 ge:1<=r.1
 le:r.1<=nrem
 up:Up z r.2 r.1
def tail3(hz:nrem<=R3.size)(h1:1<=n)(hn:n<=nrem)(hp:p.Perm R3)(hs:p.size=R3.size)(hd:Dn z p n):OP z R3 nrem (run (eJ z) (kas_tail3 n nrem p)):=by
 unfold kas_tail3;rw[gT];let⟨a,b,c,_⟩:=PJ (nrem - n) n h1 (Mj (by lia) hd);exact⟨(mS _ _ _).trans hp,by show (kas_rev p 0 n).size=_;rw[ml,hs],by show 1<=run _ (kas_asc _ _ _);lia,by show run _ (kas_asc _ _ _)<=nrem;lia,c⟩
def descPart(hz:nrem<=R3.size)(h1:1<=n)(hn:n < nrem)(hp:p.Perm R3)(hs:p.size=R3.size)(hd:Dn z p n)(R6:Z z p n<=Z z p (n - 1)):OP z R3 nrem (run (eJ z) (kas_descPart n nrem p)):=by
 unfold kas_descPart;rw[gT];have D:=HH (z:=z) hz (nrem - (n+1)) p (n+1) 0 (by lia) ⟨hp,hs,by lia,by lia,λa b SY hb=>by
  by_cases Wa:b < n
  ·exact hd a b SY Wa
  ·have e:b=n:=by lia
   subst e;by_cases ha:a=b
   ·subst ha;exact xY _
   ·exact jT R6 (hd a (b - 1) (by lia) (by lia)),λa b h1 h2 h3 h4=>by rw[show a=b by lia]⟩
 dsimp only at D;generalize run (eJ z) (kas_desc (nrem - (n+1)) p (n+1) 0)=r at D;have hq:=D.qn;split
 ·exact tail3 hz (by lia) D.le ((mS _ _ _).trans D.perm) (by rw[ml,D.size]) (EZ (Aa (by have:=D.size;have:=D.le;lia) D.eq) D.dn)
 ·exact tail3 hz (by lia) D.le D.perm D.size D.dn
def count(hz:nrem<=p.size)(h1:1<=nrem):OP z p nrem (run (eJ z) (kas_count nrem p)):=by
 unfold kas_count;rw[gT];let⟨a,b,c,d⟩:=PJ (z:=z) (p:=p) (nrem - 1) 1 (yL _) (λx y hxy hy=>by rw[show x=y by lia];exact xY _);generalize run (eJ z) (kas_asc p (nrem - 1) 1)=n at a b c d;split
 ·exact⟨Array.Perm.refl _,rfl,a,by show n<=nrem;lia,c⟩
 ·rename_i So;have R6:n < nrem:=by
   have:n≠nrem:=λe=>So (by simp[e]);lia
  have hd:=d (by lia);split
  ·rename_i hn1;show OP z p nrem (run (eJ z) (if eJ z (p.getD 0 0) (p.getD (n - 1) 0)=true then .ret (n,p) else kas_descPart n nrem (kas_rev p 0 n)));by_cases hc:eJ z (p.getD 0 0) (p.getD (n - 1) 0)=true
   ·rw[yK hc];exact⟨Array.Perm.refl _,rfl,a,by show n<=nrem;lia,c⟩
   ·rw[yM hc];have VG:Z z p (n - 1)<=Z z p 0:=by
     have:¬ (Z z p 0 < Z z p (n - 1)):=λq=>hc (yA q);lia
    have all:∀x,x < n->Z z p x=Z z p 0:=λx hx=>by
     have e1:=c 0 x (xU _) hx;have e2:=c x (n - 1) (by lia) (by lia);lia
    have same:=Aa (z:=z) (p:=p) (i:=0) (j:=n) (by lia) λx y _ hx _ hy=>by rw[all x hx,all y hy]
    refine descPart hz (by lia) R6 (mS _ _ _) (by rw[ml]) (λx y hxy hy=>?_) ?_
    ·rw[same,same,all x (by lia),all y hy];exact xY _
    ·rw[same,same];lia
  ·exact descPart hz (by lia) R6 (Array.Perm.refl _) rfl (λx y hxy hy=>by rw[show x=y by lia];exact xY _) (by lia)
def place(hu:Up z p k):∀ (f l r:Nat),r - l<=f->l<=r->r<=k->(∀a,a < l->Z z p a<=Z z p k)->(∀a,r<=a->a < k->Z z p k<=Z z p a) ->
  let m:=run (eJ z) (kas_place p k f l r);m<=k/\(∀a,a < m->Z z p a<=Z z p k)/\(∀a,m<=a->a < k->Z z p k<=Z z p a)
 | 0,l,r,hf,hl,hr,h1,h2=>by
  intro m;have e:l=r:=by lia
  subst e;exact⟨hr,h1,h2⟩
 | f+1,l,r,hf,hl,hr,h1,h2=>by
  intro m;have hm:m=run (eJ z) (if l >= r then .ret l else .ask (p.getD k 0) (p.getD ((l+r) / 2) 0) λc=>if c=true then kas_place p k f l ((l+r) / 2) else kas_place p k f ((l+r) / 2+1) r):=rfl;by_cases hlr:l >= r
  ·rw[yK hlr] at hm;rw[hm];have e:l=r:=by lia
   subst e;exact⟨hr,h1,h2⟩
  ·rw[yM hlr] at hm;have S7:m=run (eJ z) (if eJ z (p.getD k 0) (p.getD ((l+r) / 2) 0)=true then kas_place p k f l ((l+r) / 2) else kas_place p k f ((l+r) / 2+1) r):=hm;by_cases hc:eJ z (p.getD k 0) (p.getD ((l+r) / 2) 0)=true
   ·rw[yK hc] at S7;rw[S7];have R6:Z z p k < Z z p ((l+r) / 2):=yP hc;exact place hu f l ((l+r) / 2) (by lia) (by lia) (by lia) h1 λa ha hak=>jT (Int.le_of_lt R6) (hu _ a ha hak)
   ·rw[yM hc] at S7;rw[S7];have VG:Z z p ((l+r) / 2)<=Z z p k:=by
     have:¬ (Z z p k < Z z p ((l+r) / 2)):=λq=>hc (yA q);lia
    exact place hu f ((l+r) / 2+1) r (by lia) (by lia) hr (λa ha=>jT (hu a ((l+r) / 2) (by lia) (by lia)) VG) h2
def bin:∀ (f:Nat) (p:Array Nat) (k:Nat),p.Perm R3->p.size=R3.size->k+f<=R3.size->Up z p k ->
  (run (eJ z) (kas_bin f p k)).Perm R3/\(run (eJ z) (kas_bin f p k)).size=R3.size/\Up z (run (eJ z) (kas_bin f p k)) (k+f)
 | 0,p,k,hp,hs,hk,hu=>⟨hp,hs,hu⟩
 | f+1,p,k,hp,hs,hk,hu=>by
  unfold kas_bin;rw[gT];have P:=place hu k 0 k (by lia) (by lia) (yL _) (λa ha=>absurd ha (vX _)) λa ha hak=>absurd ha (by lia);dsimp only at P;generalize run (eJ z) (kas_place p k k 0 k)=l at P;let⟨p1,p2,p3⟩:=P;have zb:=EH z (p:=p) (src:=k) (d:=k - l) (by lia) (by lia);have e:k - (k - l)=l:=by lia
  rw[e] at zb;let⟨q1,q2,q3⟩:=bin f (bubble p k (k - l)) (k+1) ((bubble_perm _ _ _).trans hp) (by rw[bubble_size,hs]) (by lia) λa b SY hb=>by
   rw[zb,zb];by_cases ha1:a=l
   ·rw[yK ha1];by_cases Xe:b=l
    ·rw[yK Xe];exact xY _
    ·rw[yM Xe];rw[yK (by lia)];exact p3 _ (by lia) (by lia)
   ·rw[yM ha1];by_cases Xe:b=l
    ·rw[yK Xe,yM (by lia)];exact p2 a (by lia)
    ·rw[yM Xe];by_cases ha2:l < a/\a<=k
     ·rw[yK ha2,yK (by lia)];exact hu _ _ (by lia) (by lia)
     ·rw[yM ha2];by_cases hb2:l < b/\b<=k
      ·rw[yK hb2];exact hu _ _ (by lia) (by lia)
      ·rw[yM hb2];exact hu _ _ SY (by lia)
  exact⟨q1,q2,by rw[show k+(f+1)=k+1+f by lia];exact q3⟩
def iE(h1:1<=n):(run (eJ z) (kas_sort n)).toList.Perm (List.range n)/\((run (eJ z) (kas_sort n)).toList.map z).Pairwise (·<=·):=by
 have hsz:(List.toArray (List.range n)).size=n:=by simp
 have C:=count (z:=z) (p:=List.toArray (List.range n)) (nrem:=n) (by lia) h1;have fin:∀p:Array Nat,p.Perm (List.toArray (List.range n))->p.size=n->Up z p n->p.toList.Perm (List.range n)/\(p.toList.map z).Pairwise (·<=·):=λp a b c=>by
  refine⟨by have:=a.toList;simpa using this,?_⟩;rw[List.pairwise_iff_getElem];intro i j hi hj RS;have S6:i < n:=by simpa [b] using hi
  have VC:j < n:=by simpa [b] using hj
  have:=c i j (jS RS) VC;unfold Z at this;have e1:p.getD i 0=p[i]:=by simp[Array.getD,b,S6]
  have e2:p.getD j 0=p[j]:=by simp[Array.getD,b,VC]
  rw[e1,e2] at this;simpa using this
 unfold kas_sort;rw[gT];generalize run (eJ z) (kas_count n (List.toArray (List.range n)))=r at C;let⟨k,p⟩:=r;have hs:=C.size;rw[hsz] at hs;split
 ·rename_i R6;have VG:=C.ge;have e:max k 1=k:=by have:1<=k:=VG;lia
  rw[e];let⟨q1,q2,q3⟩:=bin (z:=z) (n - k) p k C.perm C.size (by rw[hsz];have:k < n:=R6;lia) C.up;refine fin _ q1 (by rw[q2,hsz]) ?_;rw[show k+(n - k)=n by have:k < n:=R6;lia] at q3;exact q3
 ·rename_i YW;have hle:=C.le;have e:k=n:=by have h3:k<=n:=hle;have h4:¬ k < n:=YW;lia
  subst e;exact fin p C.perm hs C.up
end
end SP
namespace UH
open PySem PySem.W PySem.Calls PyProof.Rows
def RZ(z:Nat->Int)(vs:List Value):List Value:=if vs.length < 2 then vs else (SP.run (SP.eJ z) (kas_sort vs.length)).toList.map λi=>vs.getD i Value.none
def TF(z:Nat->Int)(vs:List Value):(RZ z vs).length=vs.length:=by
 unfold RZ;split
 ·rfl
 ·rename_i h;have:=(SP.iE (z:=z) (n:=vs.length) (by lia)).1.length_eq;simpa using this
def T2{P:PySem.Fin->Shared->Prop}(ho:s.heap.get? a=some (seqObj "list" vs.toArray n))(Ux:vs.length < 64)(z:Nat->Int)(κ:SortKind)
  (hk:2<=vs.length->∀h':Heap,(∀b o,b≠a->s.heap.get? b=some o->h'.get? b=some o)->∀Q':SortKind->Shared->Prop,Q' κ { s with heap:=h' }->wpAny (model prog w) A (keyKind' vs.toArray) Q' (λ_ _=>False) { s with heap:=h' })
  (R6:2<=vs.length->∀h':Heap,(∀b o,b≠a->s.heap.get? b=some o->h'.get? b=some o)->∀i j C,i < vs.length->j < vs.length->C (SP.eJ z i j) { s with heap:=h' }->kas_ask prog w A κ vs i j C { s with heap:=h' })
  (h:∀ (h':Heap) (c:Nat),(∀b o,b≠a->s.heap.get? b=some o->h'.get? b=some o)->h'.get? a=some (seqObj "list" (RZ z vs).toArray c)->P (.done (.ret .none)) { s with heap:=h' }) :
  wpAny (model prog w) A (Builtin.«list.sort» ⟨[.ref a],[]⟩) P E s:=by
 rw[list_sort_plain];have ha:a < s.heap.objs.size:=zY ho;have T3:vs.length<=sizeLine:=by rw[qT];lia
 refine zV (vR ho rfl (zV (kA ho rfl ?_ (by simpa using T3) (xU _))));obtain⟨e1,VH⟩:∃e,(s.heap.update a (Obj.mapSeq λ_=>(#[]:Array Value))).get? a=some (seqObj "list" #[] e):=⟨_,kC ho λ_=>#[]⟩
 have kp1:∀b o,b≠a->s.heap.get? b=some o->(s.heap.update a (Obj.mapSeq λ_=>(#[]:Array Value))).get? b=some o:=λb o hb e=>(xM _ _ (jM hb)).trans e;refine zV (seqEpoch_at VH rfl (zV (wpAny_newTuple ?_ (by simpa using T3))));refine zV (kU (xW ?_) (xU _));have VI:(((s.heap.update a (Obj.mapSeq λ_=>(#[]:Array Value))).push (seqObj "tuple" vs.toArray 0)).push (seqObj "list" #[] 0)).get? a=some (seqObj "list" #[] e1):=zU _ (zU _ VH);have X8:∀b o,b≠a->s.heap.get? b=some o->(((s.heap.update a (Obj.mapSeq λ_=>(#[]:Array Value))).push (seqObj "tuple" vs.toArray 0)).push (seqObj "list" #[] 0)).get? b=some o:=λb o hb e=>zU _ (zU _ (kp1 b o hb e));show wpAny _ A _ P E { s with heap:=((s.heap.update a (Obj.mapSeq λ_=>(#[]:Array Value))).push (seqObj "tuple" vs.toArray 0)).push (seqObj "list" #[] 0) };generalize ((s.heap.update a (Obj.mapSeq λ_=>(#[]:Array Value))).push (seqObj "tuple" vs.toArray 0)).push (seqObj "list" #[] 0)=h3 at VI X8;clear VH kp1;dsimp only;have fin:∀Su:SortSt,(arrOf Su).map (·.2)=(RZ z vs).toArray->failedOf Su=none ->
   wpAny (model prog w) A (do
    let sorted:=(arrOf Su).map (·.2);let touched:=(<- seqEpoch a) != e1
    Builtin.List.listUpdate (.ref a) λ_=>sorted
    if let some e:=failedOf Su then rule "list.sort.comparison-raised";throw e
    if touched then rule "list.sort.modified";raiseError "ValueError" "list modified during sort"
    ret .none) P E { s with heap:=h3 }:=λSu h1 h2=>by
  dsimp only;rw[h1,h2];refine zV (seqEpoch_at VI rfl ?_);refine zV (kA VI rfl ?_ (xU _) (by show (RZ z vs).toArray.size<=_;rw[zH,TF];lia));obtain⟨c,hc⟩:∃c,(h3.update a (Obj.mapSeq λ_=>(RZ z vs).toArray)).get? a=some (seqObj "list" (RZ z vs).toArray c):=⟨_,kC VI λ_=>(RZ z vs).toArray⟩
  have q:=h _ c (λb o hb e=>(xM _ _ (jM hb)).trans (X8 b o hb e)) hc;simp?[bne_self_eq_false,yN,qN];exact zW q
 by_cases h2:vs.toArray.size < 2
 ·rw[yK h2,yK h2];refine zV (zW ?_);rw[StateT.run_pure];refine zV (zW (fin _ ?_ rfl));have Va:vs.length < 2:=by simpa using h2
  unfold RZ;rw[yK Va];show ((vs.toArray.zip vs.toArray).map (·.2))=vs.toArray;apply Array.toList_inj.mp;simp?[Array.toList_map,Array.toList_zip];exact List.map_snd_zip (yL _)
 ·rw[yM h2,yM h2];have Va:2<=vs.length:=by
   have:¬ vs.length < 2:=by simpa using h2
   lia
  refine zV (yZ (hk Va h3 X8 (λXf s'=>Xf=κ/\s'={ s with heap:=h3 }) ⟨rfl,rfl⟩) (λXf s' hs=>?_) λ_ _ x=>x.elim);let⟨rfl,rfl⟩:=hs;refine zV (yZ (kat_run (Q:=λSu s'=>s'={ s with heap:=h3 }/\(arrOf Su).map (·.2)=(RZ z vs).toArray/\failedOf Su=none) (G:=λp s'=>s'={ s with heap:=h3 }/\p=SP.run (SP.eJ z) (kas_sort vs.length))
   rfl Va Ux (λp Su s' a1 a2 a3 a4=>⟨a4.1,?_,a3⟩) (SP.wp_run (R6 Va h3 X8) (kas_sort vs.length) (SP.Ek (by lia)) ⟨rfl,rfl⟩)) ?_ λ_ _ e=>e)
  ·rw[kat_snds rfl a2,a4.2];unfold RZ;rw[yM (by lia)]
  ·rintro⟨⟨⟩,Su⟩ s' ⟨hs,h4,h5⟩;subst hs;exact fin Su h4 h5
def Vn(h:Heap)(l:Addr)(vs:List Value):Prop:=∃ (o:Obj) (T:String) (n:Nat),(T="list"\/T="tuple")/\h.get? l=some o/\o.cls=.type T/\o.data=.seq vs.toArray n
def UY(hl:Vn s.heap l vs)
  (h:Q vs { s with heap:=(s.heap.push (seqObj "list" #[] 0)).update s.heap.objs.size (Obj.mapSeq (·++vs.toArray)) }) (hsz:vs.length<=sizeLine):wpAny (model prog w) A (collect (.ref l)) Q E s:=by
 let⟨o,T,n,hT,ho,hc,hd⟩:=hl;unfold collect;refine zV (wpAny_runValue (kE entry_proto_collect' ?_));show wpAny _ _ (do again (.builtin "list.__iadd__" ⟨[<- newList [],.ref l],[]⟩)) _ _ s;refine zV (kU (zW ⟨wW _ (by decide +kernel),kE entry_list_iadd' ?_⟩));show wpAny _ _ (Builtin.List.listExtendWith (.ref s.heap.objs.size) (.ref l) (.ref s.heap.objs.size)) _ _ { s with heap:=s.heap.push (seqObj "list" #[] 0) };unfold Builtin.List.listExtendWith;have Tn:(s.heap.push (seqObj "list" #[] 0)).get? l=some o:=zU _ ho;refine zV (wY (T:=T) ⟨o,Tn,hc⟩ ?_);rw[yK (by rcases hT with rfl|rfl<;>simp)];refine zV (vR Tn hd (zV (vR (xs:=#[]) (n:=0) (zX _ rfl) rfl ?_)));rw[yM (by simp)];refine zV (kA (xs:=#[]) (n:=0) (zX _ rfl) rfl ?_ (xU _) (by show (#[]++vs.toArray).size<=sizeLine+1;simp?[Array.size_append,zH,xJ];lia));refine zW ?_;refine zV (wpAny_load (kC (zX _ rfl) _) ?_);show wpAny _ _ (pure ((#[]:Array Value)++vs.toArray).toList) Q E _;rw[show ((#[]:Array Value)++vs.toArray).toList=vs by simp];exact zW h
def Vo{s:Shared}{Q:Value->Shared->Prop}(hl:Vn s.heap l vs)(Ux:vs.length < 64)(z:Nat->Int)(κ:SortKind)
  (hk:2<=vs.length->∀h':Heap,(∀b o,s.heap.get? b=some o->h'.get? b=some o)->∀Q':SortKind->Shared->Prop,Q' κ { s with heap:=h' }->wpAny (model prog w) A.in1.in1 (keyKind' vs.toArray) Q' (λ_ _=>False) { s with heap:=h' })
  (R6:2<=vs.length->∀h':Heap,(∀b o,s.heap.get? b=some o->h'.get? b=some o)->∀i j C,i < vs.length->j < vs.length->C (SP.eJ z i j) { s with heap:=h' }->kas_ask prog w A.in1.in1 κ vs i j C { s with heap:=h' })
  (h:∀ (h':Heap) (D:Addr) (c:Nat),(∀b o,s.heap.get? b=some o->h'.get? b=some o)->s.heap.objs.size<=D->h'.get? D=some (seqObj "list" (RZ z vs).toArray c)->Q (.ref D) { s with heap:=h' }) :
  wpAny (model prog w) A (call (.builtin "sorted") [.ref l]) Q E s:=by
 have T3:vs.length<=sizeLine:=by rw[qT];lia
 refine Calls.call_function_entry kind_sorted plain_sorted entry_sorted (args_sorted1 _) ?_;unfold Builtin.«sorted»;refine zV (m:=checkCount "sorted" 1 1 _) (zW (zV (UY hl ?_ T3)));refine zV (kU ?_ (by simpa using T3));have hsz:((s.heap.push (seqObj "list" #[] 0)).update s.heap.objs.size (Obj.mapSeq (·++vs.toArray))).objs.size=s.heap.objs.size+1:=by rw[Heap.size_update,size_push']
 have kp:∀b o,s.heap.get? b=some o->(((s.heap.push (seqObj "list" #[] 0)).update s.heap.objs.size (Obj.mapSeq (·++vs.toArray))).push (seqObj "list" vs.toArray 0)).get? b=some o:=λb o e =>
  zU _ ((xM _ _ (jH (zY e))).trans (zU _ e))
 have WI:(((s.heap.push (seqObj "list" #[] 0)).update s.heap.objs.size (Obj.mapSeq (·++vs.toArray))).push (seqObj "list" vs.toArray 0)).get? (s.heap.objs.size+1)=some (seqObj "list" vs.toArray 0):=by
  rw[<- hsz];exact zX _ rfl
 show wpAny _ _ _ _ _ { s with heap:=((s.heap.push (seqObj "list" #[] 0)).update s.heap.objs.size (Obj.mapSeq (·++vs.toArray))).push (seqObj "list" vs.toArray 0) };rw[hsz];generalize ((s.heap.push (seqObj "list" #[] 0)).update s.heap.objs.size (Obj.mapSeq (·++vs.toArray))).push (seqObj "list" vs.toArray 0)=h1 at kp WI;have kk:∀h':Heap,(∀b o,b≠s.heap.objs.size+1->h1.get? b=some o->h'.get? b=some o)->∀b o,s.heap.get? b=some o->h'.get? b=some o:=λh' q b o e=>q b o (yQ (jN (zY e))) (kp b o e);refine zV (xW (qU slot_list_sort ⟨_,WI,rfl⟩ entry_list_sort (T2 WI Ux z κ (λa h' q=>hk a h' (kk h' q)) (λa h' q=>R6 a h' (kk h' q)) λh' c q e=>⟨_,rfl,?_⟩) (args_list_sort _)));exact zW ⟨_,rfl,h h' _ c (kk h' q) (by lia) e⟩
end UH
namespace Dl
open PySem L2 PySem.Spec PyProof.Rows
def va(i:Nat)(fz:List Nat)(f:Env->Option (List D)):ar->Option Out:=λρ=>(f (bN (hand fz 0 ρ))).bind λus=>mO i (λds=>if ds.length+us.length<=sizeLine then some (ds++us) else none) (hand fz 0 ρ)
def CH(i:Nat)(fz:List Nat)(hN:X.N[i]?=some x)(hv:AS X.env.scope x)(h:DF X e f)(hd:(x == ("__debug__":Str))=false:=by decide)(Se:(x == ("__classdict__":Str))=false:=by decide)
  (SN:((backTo cpos (starEach [e] X.env)).all (λx=>!x.1)&&(backToKw cpos (keywordEach [] X.env)).all (λx=>x.1.isSome)&&decide ([e].length+([]:List Keyword).length+(if ([]:List Keyword).isEmpty then 0 else 1) < 30))=true:=by rfl)
  (R0:(apos.endLine == cpos.line)=true:=by rfl) (hs:starEach [e] X.env=(false,eval e X.env)::starEach [] X.env:=by rfl) :
  DS X RL RM (.Expr (.Call (.Attribute (.Name x px) "extend" apos) [e] [] cpos) pos) (va i fz f) :=
 bS (mE (qa qM PySem.F.slot_list_extend PySem.F.type_list_extend Cz (e9 hN hv hd Se) (bR h dU hs) rfl SN R0 hs rfl)) λE σ H ⟨HF,ρ,o,S,hg,q⟩=>by
  let⟨us,h1,hg⟩:=bs hg;let⟨ds,es,h2,h3,rfl⟩:=ke hg;let⟨RP,s1,S1⟩:=S.hand fz;let⟨a,vs,e1,e2,e3,e5,e4⟩:=S1.own i ds h2;refine⟨.ref a,e1,.inl ⟨rfl,vs,gH.of e2⟩,RP,_,us,S1.gr.fh,S1.Sy,h1,λb ws H' RN G hb hf h' r=>?_⟩;have S2:=S1.grow G;let⟨a',VF,f1,f2,f3,f5,f4⟩:=S2.own i ds h2;rw[e1] at f1;cases f1;split at h3
  ·rename_i hz;cases h3;exact⟨a,b,VF,ws,rfl,rfl,f2,h',by rw[f4.length,r.length];exact hz,q σ _ RN (S2.mut h2 e1 f2 (f4.append r)) (s1.trans G.ff)⟩
  ·cases h3
def BR(ds:List D)(k:Int)(d:D):List D:=let j:=if k < 0 then (k+(ds.length:Int)).toNat else min k.toNat ds.length;ds.take j++d::ds.drop j
def Ii:V->List V->Hp->VK->Prop:=λx vs H Q=>∃l xs k y,x=.ref l/\vs=[.int k,y]/\H l=some (.lst xs)/\xs.length < sizeLine/\-(2 ^ 62)<=k/\k < 2 ^ 62 /\
 Q .RK (upd H l (.lst (xs.take (if k < 0 then (k+(xs.length:Int)).toNat else min k.toNat xs.length)++y::xs.drop (if k < 0 then (k+(xs.length:Int)).toNat else min k.toNat xs.length))))
def Dc:MV X "list.insert" Ii:=by
 intro pins s σ H x vs v us Q I rx rv h;let⟨l,xs,k,y,rfl,rfl,hH,hz,k1,k2,q⟩:=h;cases rx;let⟨u1,u2,rfl,⟨t,rfl⟩,ru⟩:=L2.aL.two rv;let⟨z,its,n,r,hl,e⟩:=I.UQ hH;have TX:¬(!Builtin.List.listFitsIndex k)=true:=by
  have:Builtin.List.listFitsIndex k=true:=by
   unfold Builtin.List.listFitsIndex;simp?[zF,zJ];lia
  rw[this];simp
 refine qV F.slot_list_insert ⟨_,e,rfl⟩ F.entry_list_insert (F.args_list_insert_3 _ _ _) (AutoListH.list_insert_list_int_val_1 l its.toArray n k t u2 TX (by rw[zH];lia)) ⟨e,?_⟩;have hlen:its.length=xs.length:=hl.symm;refine⟨.RK,_,I.V1 (its':=its.take (if k < 0 then (k+(xs.length:Int)).toNat else min k.toNat xs.length)++u2::its.drop (if k < 0 then (k+(xs.length:Int)).toNat else min k.toNat xs.length)) hH e ?_ ((r.take _).append (.cons ru (r.drop _))) ?_,rfl,q⟩
 ·dsimp only;rw[zH,hlen];apply Array.toList_inj.mp;simp;exact kL (by rw[qG,hlen];exact yL _)
 ·rw[zN,zL,jV,qG];lia
def DZ(i:Nat)(fz:List Nat)(fk f:Env->Option D):ar->Option Out:=λρ=>(fk (aJ ρ)).bind λkd=>match kd with
 | .int k=>(md fz f ρ).bind λp=>mO i (λds=>if uN k=true/\ds.length < sizeLine then some (BR ds k p.1) else none) p.2
 | _=>none
def C2(i:Nat)(fz:List Nat)(hN:X.N[i]?=some x)(hv:AS X.env.scope x)(hk:DE X e fk)(h:DE X e2 f)(hd:(x == ("__debug__":Str))=false:=by decide)(Se:(x == ("__classdict__":Str))=false:=by decide)
  (SN:((backTo cpos (starEach [e,e2] X.env)).all (λx=>!x.1)&&(backToKw cpos (keywordEach [] X.env)).all (λx=>x.1.isSome)&&decide ([e,e2].length+([]:List Keyword).length+(if ([]:List Keyword).isEmpty then 0 else 1) < 30))=true:=by rfl)
  (R0:(apos.endLine == cpos.line)=true:=by rfl) (hs:starEach [e,e2] X.env=(false,eval e X.env)::starEach [e2] X.env:=by rfl) (WJ:starEach [e2] X.env=(false,eval e2 X.env)::starEach [] X.env:=by rfl) :
  DS X RL RM (.Expr (.Call (.Attribute (.Name x px) "insert" apos) [e,e2] [] cpos) pos) (DZ i fz fk f) :=
 bS (mE (qa qM PySem.F.slot_list_insert PySem.F.type_list_insert Dc (e9 hN hv hd Se) (bR hk (bR h dU WJ) hs) rfl SN R0 hs (by rw[WJ];rfl))) λE σ H ⟨HF,ρ,o,S,hg,q⟩=>by
  let⟨kd,YX,hg⟩:=bs hg;cases kd<;>try cases hg
  rename_i k;let⟨⟨d,ρ'⟩,h1,hg⟩:=bs hg;let⟨ds,es,h2,h3,rfl⟩:=ke hg;have T1:∃V9,ρ[i]?=some (.own V9):=by
   let⟨d1,_,h1⟩:=bs h1;split at h1
   ·cases h1;exact⟨ds,h2⟩
   ·let⟨d2,_,h1⟩:=ah h1;cases h1;rw[fS] at h2;let⟨s,hs,h2⟩:=ah h2;cases s with
    | RK=>split at h2<;>cases h2
    | tab _=>split at h2<;>cases h2
    | val _=>split at h2<;>cases h2
    | own xs=>exact⟨xs,hs⟩
  let⟨V9,T1⟩:=T1;let⟨a,vs,e1,e2,e3,e5,e4⟩:=S.own i V9 T1;refine⟨.ref a,e1,.inl ⟨rfl,vs,gH.of e2⟩,H,aJ ρ,_,.refl _,S.all,YX,λvk Hk HFk Gk rk=>?_⟩;simp?[Rep] at rk;subst rk;refine nB (S.step Gk.hh) h1 λv H' RN s1 S' sh r=>?_;let⟨a',VF,f1,f2,f3,f5,f4⟩:=S'.own i ds h2;rw[e1] at f1;cases f1;split at h3
  ·rename_i hz;cases h3;have ok:=hz.1;unfold uN at ok;rw[zF] at ok;refine⟨a,VF,k,v,rfl,rfl,f2,by rw[f4.length];exact hz.2,yP ok.1,yP ok.2,q σ _ RN (S'.mut h2 e1 f2 ?_) s1⟩;unfold BR;rw[f4.length];exact (f4.take _).append (ay.cons r (f4.drop _))
  ·cases h3
def sP:D->D->Option (List D)
 | .list xs,.list ys=>small (xs++ys)
 | _,_=>none
def EI(K:W.Frag):R2:=λx y H Q=>∃a b xs ys,x=.ref a/\y=.ref b/\gH K H a xs/\gH K H b ys/\xs.length+ys.length<=sizeLine/\∀p,H p=none->Q (.ref p) (upd H p (.lst (xs++ys)))
def yl:gp X (binaryOp .Add) (EI X.K):=by
 intro pins s σ H x y v u Q I rx ry h;let⟨a,b,xs,ys,rfl,rfl,ha,hb,hz,q⟩:=h;cases rx;cases ry;let⟨its,r1,p1,_⟩:=I.list ha;let⟨SM,r2,p2,_⟩:=I.list hb;let⟨⟨cls,dd,data,sl⟩,ho,hc,n,hd⟩:=id p1.isList;let⟨⟨WV,WB,data2,Vx⟩,U7,Ut,n2,hd2⟩:=id p2.isList;simp only at hc hd Ut hd2;subst hc hd Ut hd2;refine Za ⟨_,ho,rfl⟩ ⟨_,U7,rfl⟩ noFill_list_add seq_list_add PySem.F.slot_list_add PySem.F.entry_list_add (PySem.F.args_list_add_2 _ _) (list_addW a b its.toArray SM.toArray n n2 dd WB sl Vx (by rw[zH,zH,<- r1.length,<- r2.length];exact hz)) ⟨ho,U7,?_⟩;have e:its.toArray++SM.toArray=(its++SM).toArray:=by simp
 rw[e];exact⟨.ref s.heap.objs.size,_,I.Vj (t':=s.toks) (r1.append r2) (by rw[zN];exact hz),rfl,q _ I.fresh⟩
def QO(g:D->D->Option (List D))(f1 f2:Env->Option D):Env->Option (List D):=λρ=>(f1 ρ).bind λx=>(f2 ρ).bind λy=>g x y
def KJ(ha:DE X a fa)(hb:DE X b fb):DF X (.BinOp a .Add b pos) (QO sP fa fb):=aV (DH yl ha hb) λσ H Q ⟨HF,ρ,d,sm,eo,hf,q⟩=>by
 let⟨x,hx,hf⟩:=bs hf;let⟨y,hy,hg⟩:=bs hf;refine⟨HF,ρ,x,sm,eo,hx,λv1 H1 RP g1 r1=>⟨RP,ρ,y,g1.fh,eo.mono g1.ff,hy,λv2 H2 R1 g2 r2=>?_⟩⟩;have r1:=r1.mono g2.ff;cases x<;>cases y<;>simp?[sP] at hg<;>try cases hg
 rename_i xs ys;let⟨rfl,hz⟩:=eF hg;simp?[Rep] at r1 r2;let⟨a,vs,rfl,ha,ra⟩:=r1;let⟨b,us,rfl,hb,rb⟩:=r2;have G:=g1.trans g2;exact⟨a,b,vs,us,rfl,rfl,g2.fh.seq ha,g2.fh.seq hb,by rw[ra.length,rb.length,<- zN];exact hz,λp hp=>q p _ _ R1 (G.trans (.own G.fh hp)) (G.hh.free hp) (G.fh.free hp) aG (ra.append rb)⟩
def boolsOf:List D->Option (List Bool)
 | []=>some []
 | .bool b::r=>(boolsOf r).map (b::·)
 | _::_=>none
def iu:∀ {ds:List D}{bs:List Bool},boolsOf ds=some bs->ds=bs.map PyData.bool
 | [],bs,h=>by cases h;rfl
 | d::r,bs,h=>by
  cases d<;>simp?[boolsOf] at h<;>try cases h
  let⟨bs',h1,rfl⟩:=ah h;rw[iu h1];rfl
def eE{K:W.Frag}:∀ {bs:List Bool}{vs:List V},ay K H (bs.map PyData.bool) vs->vs=bs.map V.bl
 | [],vs,h=>h.nil_inv
 | b::bs,vs,h=>by
  let⟨v,r,rfl,a,c⟩:=h.cons_inv;simp?[Rep] at a;rw[a,eE c];rfl
def lD:∀ {bs:List Bool}{us:List Value},aL (bs.map V.bl) us->us=bs.map Value.bool
 | [],us,h=>by cases h;rfl
 | b::bs,us,h=>by
  cases h with
  | cons r rr=>cases r;rw[lD rr];rfl
def range_all(bs:List Bool):(List.range bs.length).all (λi=>bs.getD i false)=bs.all id:=by
 induction bs with
 | nil=>rfl
 | cons b bs ih=>rw[zL,vT,xR,List.all_map,xR];simpa [Zf] using jB (b&&·) ih
def range_any(bs:List Bool):(List.range bs.length).any (λi=>bs.getD i false)=bs.any id:=by
 induction bs with
 | nil=>rfl
 | cons b bs ih=>rw[zL,vT,vI,Zc,vI];simpa [Zf] using jB (b||·) ih
def AC(hc:X.calm=true):eO X (.builtin "all") (λxs H Q=>∃ (a:Addr) (bs:List Bool),xs=[.ref a]/\gH X.K H a (bs.map V.bl)/\Q (.bl (bs.all id)) H):=by
 intro pins s σ H xs us Q I r h;let⟨a,bs,rfl,hq,q⟩:=h;let⟨u,rfl,rx⟩:=vals1 r;cases rx;let⟨its,rv,pl,hz⟩:=I.list hq;have hv:=lD rv;subst hv;have hh:X.A.in1.handled=none:=I.ok.hd hc;refine call_all_walk (qJ pl.isList ?_);let⟨o,ho,SJ,n,hd⟩:=pl.isList;have So:a≠s.heap.objs.size:=yQ (zY ho);refine⟨_,_,_,_,_,_,λi=>bs.getD i false,rfl,Walks.list hh s.heap.objs.size a So (bs.map Value.bool).toArray,⟨⟨_,zX _ rfl,rfl,rfl⟩,pl.isList.push _⟩,λi v s' Q' E' hP hQ=>?_,λh' tk kp=>?_⟩
 ·have e:v=Value.bool (bs.getD i false):=by
   have hP:(bs.map Value.bool).toArray[i]?=some v:=hP;rw[wD,zO] at hP;let⟨b,hb,rfl⟩:=ah hP;rw[zG,hb];rfl
  subst e;exact xV hQ
 ·refine⟨.bl (bs.all id),H,?_,?_,q⟩
  ·exact I.kept (t':=tk) λb o' e=>kp b o' (by simp;exact yQ (zY e)) (zU _ e)
  ·show Value.bool _=Value.bool _;have:=range_all bs;simp?[zH,zD];rw[this]
def mj:List D->Option D:=λds=>(oneOf ds).bind λd=>match d with
 | .list es=>(boolsOf es).map λbs=>.bool (bs.all id)
 | _=>none
def Me(hc:X.calm=true)(B:qh X "all" (.builtin "all"))(ha:DA X [e] fs)(he:starEach [e] X.env=(false,eval e X.env)::starEach [] X.env:=by rfl):DE X (.Call (.Name "all" p) [e] [] pos) (bz mj fs) :=
 jo (AC hc) (by
  intro HF H ds vs d Q sm r hg q;let⟨x,hx,hg⟩:=bs hg;rw[gf hx] at r;cases x<;>try cases hg
  let⟨bs,hb,rfl⟩:=ah hg;let⟨v,r',rfl,a,b⟩:=r.cons_inv;rw[b.nil_inv];simp?[Rep] at a;let⟨p,us,rfl,h,rr⟩:=a;rw[iu hb] at rr;have:=eE rr;subst this;exact⟨p,bs,rfl,sm.seq h,q _ H HF (.refl sm) (by simp[Rep])⟩) B ha (by decide) (by decide) he rfl
abbrev lexLt:=HT.lexLt
def fV:∀a:List Int,lexLt a a=false
 | []=>rfl
 | x::a=>by show HT.lexLt (x::a) (x::a)=false;rw[HT.et,yK rfl];exact fV a
def eH:∀ {a b c:List Int},lexLt a b=true->lexLt b c=true->lexLt a c=true
 | [],[],_,h,_=>by cases h
 | [],_::_,[],_,h=>by cases h
 | [],_::_,_::_,_,_=>rfl
 | _::_,[],_,h,_=>by cases h
 | _::_,_::_,[],_,h=>by cases h
 | x::a,y::b,z::c,h1,h2=>by
  have h1:HT.lexLt (x::a) (y::b)=true:=h1;have h2:HT.lexLt (y::b) (z::c)=true:=h2;show HT.lexLt (x::a) (z::c)=true;rw[HT.et] at h1 h2 ⊢;by_cases e1:x=y
  ·rw[yK e1] at h1;by_cases e2:y=z
   ·rw[yK e2] at h2;rw[yK (e1.trans e2)];exact eH h1 h2
   ·rw[yM e2] at h2;rw[yM (by lia)];have:=yP h2;exact yA (by lia)
  ·rw[yM e1] at h1;have q1:=yP h1;by_cases e2:y=z
   ·rw[yM (by lia)];exact yA (by lia)
   ·rw[yM e2] at h2;have q2:=yP h2;rw[yM (by lia)];exact yA (by lia)
def gU:∀ {a b:List Int},lexLt a b=false->lexLt b a=false->a=b
 | [],[],_,_=>rfl
 | [],_::_,h,_=>by cases h
 | _::_,[],_,h=>by cases h
 | x::a,y::b,h1,h2=>by
  have h1:HT.lexLt (x::a) (y::b)=false:=h1;have h2:HT.lexLt (y::b) (x::a)=false:=h2;rw[HT.et] at h1 h2;by_cases e:x=y
  ·rw[yK e] at h1;rw[yK e.symm] at h2;rw[e,gU h1 h2]
  ·rw[yM e] at h1;rw[yM (λz=>e z.symm)] at h2;have:=of_decide_eq_false h1;have:=of_decide_eq_false h2;lia
def lexLe(a b:List Int):Bool:=!lexLt b a
def yi(a b c:List Int)(h1:lexLe a b=true)(h2:lexLe b c=true):lexLe a c=true:=by
 unfold lexLe at *;rw[yO] at *;cases e:lexLt c a with
 | false=>rfl
 | true =>
  cases e1:lexLt a b with
  | true=>rw[eH e e1] at h2;cases h2
  | false =>
   have:=gU e1 h1;subst this;rw[e] at h2;cases h2
def yj(a b:List Int):(lexLe a b||lexLe b a)=true:=by
 unfold lexLe;cases e1:lexLt b a with
 | false=>rfl
 | true =>
  cases e2:lexLt a b with
  | false=>rfl
  | true=>have:=eH e1 e2;rw[fV] at this;cases this
def p6(h1:lexLe a b=true)(h2:lexLe b a=true):a=b:=by
 unfold lexLe at *;rw[yO] at *;exact gU h2 h1
def rJ{α:Type}{le:α->α->Bool}(Xg:∀a b,le a b=true->le b a=true->a=b):∀ {l m:List α},l.Perm m->l.Pairwise (λa b=>le a b=true)->m.Pairwise (λa b=>le a b=true)->l=m
 | [],m,p,_,_=>p.nil_eq
 | a::l,[],p,_,_=>by have:=p.length_eq;simp at this
 | a::l,b::m,p,h1,h2=>by
  let⟨h1a,h1b⟩:=List.pairwise_cons.mp h1;let⟨h2a,h2b⟩:=List.pairwise_cons.mp h2;have e:a=b:=by
   have ha:a∈b::m:=p.mem_iff.mp zE;have hb:b∈a::l:=p.mem_iff.mpr zE;rcases List.mem_cons.mp ha with e|ha
   ·exact e
   ·rcases List.mem_cons.mp hb with e|hb
    ·exact e.symm
    ·exact Xg a b (h1a b hb) (h2a a ha)
  subst e;rw[rJ Xg (List.perm_cons a |>.mp p) h1b h2b]
def qu(l:List (List Int)):List (List Int):=l.mergeSort lexLe
def Fh(l:List (List Int)):(qu l).Perm l:=List.mergeSort_perm l lexLe
def KS(l:List (List Int)):(qu l).Pairwise (λa b=>lexLe a b=true):=List.pairwise_mergeSort yi yj l
def Fy{l:List (List Int)}(p:l.Perm m)(h:l.Pairwise (λa b=>lexLe a b=true)):l=qu m:=rJ (λ_ _=>p6) (p.trans (Fh m).symm) h (KS m)
def rk(l:List (List Int))(a:List Int):Int:=((l.countP λb=>lexLt b a:Nat):Int)
def J7(ha:a∈l):lexLt a b=decide (rk l a < rk l b):=by
 unfold rk;have mono:∀ {a b:List Int},lexLt a b=true->(l.countP λc=>lexLt c a)<=l.countP λc=>lexLt c b:=λ{a b} h=>List.countP_mono_left λc _ hc=>eH hc h;have strict:∀ {a b:List Int}(ha:a∈l),lexLt a b=true->(l.countP λc=>lexLt c a) < l.countP λc=>lexLt c b:=λ{a b} ha h=>by
  have key:∀m:List (List Int),a∈m->(m.countP λc=>lexLt c a) < m.countP λc=>lexLt c b:=λm hm=>by
   induction m with
   | nil=>cases hm
   | cons x m ih =>
    rw[List.countP_cons,List.countP_cons];have mo:(m.countP λc=>lexLt c a)<=m.countP λc=>lexLt c b:=List.countP_mono_left λc _ hc=>eH hc h;rcases List.mem_cons.mp hm with e|hm
    ·subst e;rw[fV,h];simp?[yN,qN,xG];lia
    ·have:=ih hm;by_cases hx:lexLt x a=true
     ·rw[hx,eH hx h];simp?[xG];lia
     ·have U9:lexLt x a=false:=by simpa using hx
      rw[U9];simp?[yN,qN];split<;>lia
  exact key l ha
 cases e:lexLt a b with
 | true=>exact (yA (by have:=strict ha e;lia)).symm
 | false =>
  refine (zZ ?_).symm;cases e2:lexLt b a with
  | true=>have:=mono e2;lia
  | false=>rw[gU e e2];lia
section
variable {prog:Program}{w:World}{A:Around}{E:Value->Shared->Prop}{s:Shared}
def wu:∀ {us ws:List Value}{ns ms:List Int}(i:Nat),IntsAre us ns->IntsAre ws ms->Q (lexLt ns ms) s->W.KatLex prog w A true (decide (ns.length < ms.length)) Q (us.zip ws) i s
 | [],[],_,_,i,.nil,.nil,h=>h
 | [],_::_,_,_,i,.nil,.cons _ _ _,h=>by
  show Q (decide (0 < _+1)) s;rw[yA (Nat.succ_pos _)];exact h
 | _::_,[],_,_,i,.cons _ _ _,.nil,h=>by
  show Q (decide (_+1 < 0)) s;rw[zZ (vX _)];exact h
 | _::us,_::ws,_,_,i,.cons n t r1,.cons m u r2,h=>by
  have h:Q (HT.lexLt (n::_) (m::_)) s:=h;rw[HT.et] at h;refine W.kat_cons (SeqAt.EqAt.int_int n t m u prog w _ _ ?_);cases e:(n == m) with
  | true =>
   have e':n=m:=eq_of_beq e;rw[yK e'] at h;refine W.kat_yes ?_;have:=wu (i+1) r1 r2 h;simp?[zL,Nat.add_lt_add_iff_right];exact this
  | false =>
   have e':¬ n=m:=λq=>by rw[q] at e;simp at e
   rw[yM e'] at h;refine W.kat_no ?_;by_cases hi:(true&&i == 0)=true
   ·rw[hi];exact oneLt_int h
   ·have S6:(true&&i == 0)=false:=by simpa using hi
    rw[S6];refine W.kat_one _ _ (lt_int ?_);exact h
end
def ag(ns:List Int):D:=.tuple (ns.map PyData.int)
def intsOf:List D->Option (List Int)
 | []=>some []
 | .int n::r=>(intsOf r).map (n::·)
 | _::_=>none
def dP:∀ {ds:List D}{ns:List Int},intsOf ds=some ns->ds=ns.map PyData.int
 | [],ns,h=>by cases h;rfl
 | d::r,ns,h=>by
  cases d<;>simp?[intsOf] at h<;>try cases h
  let⟨ns',h1,rfl⟩:=ah h;rw[dP h1];rfl
def bH:∀ns:List Int,intsOf (ns.map PyData.int)=some ns
 | []=>rfl
 | n::ns=>by simp[intsOf,bH ns]
def Bi:D->Option (List Int)|.tuple ds=>(intsOf ds).bind λns=>if ns=[] then none else some ns|_=>none
def zh(h:Bi d=some ns):d=ag ns/\ns≠[]:=by
 cases d<;>try cases h
 let⟨ms,h1,h2⟩:=bs h;split at h2
 ·cases h2
 ·rename_i hn;cases h2;rw[dP h1];exact⟨rfl,hn⟩
def C3(h:ns≠[]):Bi (ag ns)=some ns:=by
 unfold ag Bi;simp?[bH,zA];rw[yM h]
def rowsOf:List D->Option (List (List Int))
 | []=>some []
 | d::r=>(Bi d).bind λns=>(rowsOf r).map (ns::·)
def oq:∀ {ds:List D}{RR:List (List Int)},rowsOf ds=some RR->ds=RR.map ag/\∀ns∈RR,ns≠[]
 | [],RR,h=>by cases h;exact⟨rfl,λ_ z=>by cases z⟩
 | d::r,RR,h=>by
  let⟨ns,h1,h⟩:=bs h;let⟨rest,h2,rfl⟩:=ah h;let⟨e,hn⟩:=zh h1;let⟨e2,YV⟩:=oq h2;refine⟨by rw[e,e2];rfl,λm hm=>?_⟩;rcases List.mem_cons.mp hm with q|q
  ·subst q;exact hn
  ·exact YV m q
def oV:∀ {RR:List (List Int)},(∀ns∈RR,ns≠[])->rowsOf (RR.map ag)=some RR
 | [],_=>rfl
 | ns::r,h=>by
  simp?[zI,rowsOf,C3 (h ns zE),zA,oV λm hm=>h m (zC _ hm),zB]
structure vm(h:Heap)(v:Value)(ns:List Int):Prop where
 ex:∃ (a:Addr) (o:Obj) (its:Array Value) (n:Nat),v=.ref a/\h.get? a=some o/\o.cls=.type "tuple"/\o.data=.seq its n/\IntsAre its.toList ns
def vm.keep(r:vm h v ns)(k:∀b o,h.get? b=some o->h'.get? b=some o):vm h' v ns:=let ⟨a,o,its,n,e,e1,e2,e3,e4⟩:=r.ex;⟨a,o,its,n,e,k _ _ e1,e2,e3,e4⟩
def yg:∀ {vs:List Value}{RR:List (List Int)},Paired (vm h) vs RR->(∀ns∈RR,ns≠[])->∃fs:List Value,W.KatTups h vs fs/\fs.length=vs.length/\∀f∈fs,∃n t,f=Value.int n t
 | _,_,.nil,_=>⟨[],trivial,rfl,λ_ z=>by cases z⟩
 | _,_,.cons (a:=v) (b:=ns) r p,hn=>by
  let⟨fs,h1,h2,h3⟩:=yg p λm hm=>hn m (zC _ hm);let⟨a,o,its,n,rfl,e1,e2,e3,e4⟩:=r.ex;cases hits:its.toList with
  | nil =>
   rw[hits] at e4;cases e4;exact absurd rfl (hn [] zE)
  | cons f rest =>
   rw[hits] at e4;cases e4 with
   | cons m t e5 =>
    have h0:its[0]?=some (.int m t):=by
     have:its.toList[0]?=some (Value.int m t):=by rw[hits];rfl
     simpa using this
    exact⟨.int m t::fs,W.KatTups.cons e1 e2 e3 h0 h1,by simp[h2],λg hg=>by
     rcases List.mem_cons.mp hg with q|q
     ·exact⟨m,t,q⟩
     ·exact h3 g q⟩
def lP:∀ {l:List α}{m:List β}{i:Nat},Paired R l m->i < l.length->R (l.getD i d) (m.getD i d')
 | _,_,i,.nil,h=>by simp at h
 | _,_,0,.cons r _,_=>r
 | _,_,i+1,.cons _ p,h=>by simpa using lP (i:=i) (d:=d) (d':=d') p (by simpa using h)
def xu(hl:UH.Vn s.heap l vs)(hp:Paired (vm s.heap) vs RR)(hn:∀ns∈RR,ns≠[])(Ux:vs.length < 64)
  (h:∀ (h':Heap) (D:Addr) (c:Nat),(∀b o,s.heap.get? b=some o->h'.get? b=some o)->s.heap.objs.size<=D->h'.get? D=some (seqObj "list" (UH.RZ (λi=>rk RR (RR.getD i [])) vs).toArray c)->Q (.ref D) { s with heap:=h' }) :
  wpAny (model prog w) A (call (.builtin "sorted") [.ref l]) Q E s:=by
 refine UH.Vo hl Ux (λi=>rk RR (RR.getD i [])) (tuples' true) (λh2 h' kp Q' q=>?_) (λh2 h' kp i j C hi hj q=>?_) h
 ·have Vp:Paired (vm h') vs RR:=Paired.WN hp λ_ _ r=>r.keep kp;let⟨fs,t,hlen,hf⟩:=yg Vp hn;refine W.kat_kind (s:={ s with heap:=h' }) (T:=.type "int") t (by lia) (λv hv=>?_) (by decide) q;let⟨n,t,rfl⟩:=hf v hv;exact W.Looks.of_pure rfl
 ·have ri:=(lP (d:=Value.none) (d':=[]) hp hi).keep kp;have rj:=(lP (d:=Value.none) (d':=[]) hp hj).keep kp;have hlen:=hp.length;let⟨a,o,its,n,ea,e1,e2,e3,e4⟩:=ri.ex;let⟨b,o',its',n',eb,f1,f2,f3,f4⟩:=rj.ex;unfold W.kas_ask;rw[ea,eb];have UZ:RR.getD i []∈RR:=by
   rw[zG,zK (by lia)];exact xZ _
  have q':C (lexLt (RR.getD i []) (RR.getD j [])) { s with heap:=h' }:=by
   rw[J7 UZ];exact q
  refine W.kat_lt (s:={ s with heap:=h' }) e1 e3 f1 f3 ?_;have:=wu (prog:=prog) (w:=w) (A:=A.in1.in1) (s:={ s with heap:=h' }) 0 e4 f4 q';have l1:its.size=(RR.getD i []).length:=by have:=IntsAre.length e4;simpa using this
  have l2:its'.size=(RR.getD j []).length:=by have:=IntsAre.length f4;simpa using this
  rw[l1,l2];exact this
def uO(z:Nat->Int)(l:List α)(d:α):List α:=if l.length < 2 then l else (SP.run (SP.eJ z) (W.kas_sort l.length)).toList.map λi=>l.getD i d
def jz(l:List α)(d:α):(List.range l.length).map (λi=>l.getD i d)=l:=by
 apply jG
 ·simp
 ·intro i h1 h2;simp[h2]
def lW(z:Nat->Int)(l:List α)(d:α):(uO z l d).Perm l:=by
 unfold uO;split
 ·exact List.Perm.refl _
 ·rename_i h;have:=((SP.iE (z:=z) (n:=l.length) (by lia)).1).map λi=>l.getD i d;rw[jz] at this;exact this
def HZ(RR:List (List Int)):uO (λi=>rk RR (RR.getD i [])) RR []=qu RR:=by
 refine Fy (lW _ _ _) ?_;unfold uO;split
 ·rename_i h
  match RR,h with
  | [],_=>exact List.Pairwise.nil
  | [a],_=>exact vN _ _
 ·rename_i h;let⟨hp,hs⟩:=SP.iE (z:=λi=>rk RR (RR.getD i [])) (n:=RR.length) (by lia);rw[jD] at hs ⊢;refine hs.imp_of_mem λ{i j} hi hj RS=>?_;have VC:j < RR.length:=by have:=hp.mem_iff.mp hj;simpa using this
  unfold lexLe;rw[J7 (l:=RR) (a:=RR.getD j []) (by rw[zG,zK VC];exact xZ _)];simp?[yO,xA];lia
def xp{K:W.Frag}(z:Nat->Int)(r:ay K HF ds vs):ay K HF (uO z ds .none) (uO z vs .RK):=by
 unfold uO;rw[r.length];split
 ·exact r
 ·rename_i h;let⟨hp,_⟩:=SP.iE (z:=z) (n:=ds.length) (by lia);have key:∀l:List Nat,(∀i∈l,i < ds.length)->ay K HF (l.map λi=>ds.getD i .none) (l.map λi=>vs.getD i .RK):=λl=>by
   induction l with
   | nil=>exactλ_=>ay.nil
   | cons i l ih =>
    intro hl;have hi:=hl i zE;let⟨v,e1,e2⟩:=r.getD (zK hi);refine ay.cons ?_ (ih λj hj=>hl j (zC _ hj));dsimp only;rw[zG,zG,e1,zK hi];exact e2
  exact key _ λi hi=>by have:=hp.mem_iff.mp hi;simpa using this
def uW(z:Nat->Int)(r:aL vs us):aL (uO z vs .RK) (UH.RZ z us):=by
 unfold uO UH.RZ;rw[r.length];split
 ·exact r
 ·rename_i h;let⟨hp,_⟩:=SP.iE (z:=z) (n:=us.length) (by lia);have key:∀l:List Nat,(∀i∈l,i < vs.length)->aL (l.map λi=>vs.getD i .RK) (l.map λi=>us.getD i Value.none):=λl=>by
   induction l with
   | nil=>exactλ_=>.nil
   | cons i l ih =>
    intro hl;have hi:=hl i zE;let⟨v,e1,e2⟩:=r.get (zK hi);refine .cons ?_ (ih λj hj=>hl j (zC _ hj));dsimp only;rw[zG,zG,e1,zK hi];exact e2
  exact key _ λi hi=>by have:=hp.mem_iff.mp hi;rw[r.length];simpa using this
def Iw(z:Nat->Int)(RR:List (List Int)):uO z (RR.map ag) .none=(uO z RR []).map ag:=by
 unfold uO;rw[zD];split
 ·rfl
 ·rename_i h;rw[zM];let⟨hp,_⟩:=SP.iE (z:=z) (n:=RR.length) (by lia);refine yH λi hi=>?_;have S6:i < RR.length:=by have:=hp.mem_iff.mp hi;simpa using this
  simp[S6]
def BY(I:Inv X pins σ H s)(sm:aR HF H):∀ {RR:List (List Int)}{vs:List V}{us:List Value},ay X.K HF (RR.map ag) vs->aL vs us->Paired (vm s.heap) us RR
 | [],_,_,h,r=>by rw[h.nil_inv] at r;cases r;exact .nil
 | ns::RR,_,_,h,r=>by
  let⟨v,vr,rfl,a,b⟩:=h.cons_inv;cases r with
  | cons r rr =>
   refine .cons ?_ (BY I sm b rr);unfold ag at a;simp?[Rep] at a;let⟨p,ws,rfl,hs,VY⟩:=a;cases r;let⟨its,rv,⟨o,ho,hc,n,hd⟩,_⟩:=I.tuple (aD sm hs);have:ws=ns.map V.int:=by
    have key:∀ {ns:List Int}{ws:List V},ay X.K HF (ns.map PyData.int) ws->ws=ns.map V.int:=λ{ns}=>by
     induction ns with
     | nil=>exactλh=>h.nil_inv
     | cons n ns ih =>
      intro ws h;let⟨v,r,rfl,a,b⟩:=h.cons_inv;simp?[Rep] at a;rw[a,ih b];rfl
    exact key VY
   subst this;exact⟨p,o,its.toArray,n,rfl,ho,hc,hd,intsAre_of rv⟩
def m9:eO X (.builtin "sorted") (λxs H Q=>∃ (HF:Hp) (a:Addr) (vs:List V) (RR:List (List Int)),xs=[.ref a]/\aR HF H/\(gH X.K HF a vs\/fM X.K HF a vs)/\ay X.K HF (RR.map ag) vs/\(∀ns∈RR,ns≠[])/\RR.length < 64 /\
  ∀ (Dn:Addr) (us:List V),H Dn=none->ay X.K HF ((qu RR).map ag) us->Q (.ref Dn) (upd H Dn (.lst us))):=by
 intro pins s σ H xs us Q I r h;let⟨HF,a,vs,RR,rfl,sm,hq,rr,hn,Ux,q⟩:=h;let⟨u,rfl,rx⟩:=vals1 r;cases rx;obtain⟨its,rv,pl,hz⟩:∃its:List Value,aL vs its/\UH.Vn s.heap a its/\vs.length<=sizeLine:=by
  rcases hq with hq|hq
  ·let⟨its,rv,pl,hz⟩:=I.list (sm.seq hq);let⟨o,ho,hc,n,hd⟩:=pl.isList;exact⟨its,rv,⟨o,"list",n,.inl rfl,ho,hc,hd⟩,hz⟩
  ·let⟨its,rv,pl,hz⟩:=I.tuple (aD sm hq);let⟨o,ho,hc,n,hd⟩:=(show s.heap.IsTuple a its.toArray from pl)
   exact⟨its,rv,⟨o,"tuple",n,.inr rfl,ho,hc,hd⟩,hz⟩
 have YY:=rr.length;rw[zD] at YY;refine xu pl (BY I sm rr rv) hn (by have:=rv.length;lia) λh' Dn c kp hD e=>?_;have hv:=uW (λi=>rk RR (RR.getD i [])) rv;have hr:=xp (λi=>rk RR (RR.getD i [])) rr;rw[Iw,HZ] at hr;refine⟨.ref Dn,_,I.laid (t':=s.toks) (o:=.lst (uO (λi=>rk RR (RR.getD i [])) vs .RK)) kp hD ⟨?_,_,c,hv,e⟩,rfl,q Dn _ (I.RO.fresh hD) hr⟩;rw[(lW _ _ _).length_eq];exact hz
def gu:List D->Option (List D):=λds=>(oneOf ds).bind λd=>match d with
 | .list es=>(rowsOf es).bind λRR=>if RR.length < 64 then some ((qu RR).map ag) else none
 | .tuple es=>(rowsOf es).bind λRR=>if RR.length < 64 then some ((qu RR).map ag) else none
 | _=>none
def Dp(B:qh X "sorted" (.builtin "sorted"))(ha:DA X [e] fs)(he:starEach [e] X.env=(false,eval e X.env)::starEach [] X.env:=by rfl):DF X (.Call (.Name "sorted" p) [e] [] pos) (lO gu fs) :=
 Gj m9 (by
  intro HF H ds vs d Q sm r hg q;let⟨x,hx,hg⟩:=bs hg;rw[gf hx] at r;have key:∀ (b:Bool) (es:List D),ay X.K HF [if b then .tuple es else .list es] vs->((rowsOf es).bind λRR=>if RR.length < 64 then some ((qu RR).map ag) else none)=some d->(∃ (HF:Hp) (a:Addr) (us:List V) (RR:List (List Int)),vs=[.ref a]/\aR HF H/\(gH X.K HF a us\/fM X.K HF a us)/\ay X.K HF (RR.map ag) us/\(∀ns∈RR,ns≠[])/\RR.length < 64/\∀ (Dn:Addr) (ws:List V),H Dn=none->ay X.K HF ((qu RR).map ag) ws->Q (.ref Dn) (upd H Dn (.lst ws))):=λb es r hg=>by
   let⟨RR,hb,hg⟩:=bs hg;split at hg
   ·rename_i Ux;cases hg;let⟨v,r',rfl,a,e0⟩:=r.cons_inv;rw[e0.nil_inv];let⟨e1,e2⟩:=oq hb;obtain⟨p,us,rfl,h,rr⟩:∃p us,v=.ref p/\(gH X.K HF p us\/fM X.K HF p us)/\ay X.K HF es us:=by
     cases b
     ·simp?[yN,qN,Rep] at a;let⟨p,us,rfl,h,rr⟩:=a;exact⟨p,us,rfl,.inl h,rr⟩
     ·simp?[xG,Rep] at a;let⟨p,us,rfl,h,rr⟩:=a;exact⟨p,us,rfl,.inr h,rr⟩
    rw[e1] at rr;exact⟨HF,p,us,RR,rfl,sm,h,rr,e2,Ux,λDn ws hD hr=>q Dn ws _ HF (.own sm hD) hD (sm.free hD) aG hr⟩
   ·cases hg
  cases x<;>try cases hg
  ·exact key false _ r hg
  ·exact key true _ r hg) B ha (by decide) (by decide) he rfl
end Dl
namespace En
open PySem PyProof.Rows
open AutoSeq1 (wpAny_loadPart')
def T4(hj:s.heap.IsTupleIter j t k)(ht:s.heap.IsTuple t its)(hv:its[k]?=some v)
  (hQ:∀g,g.IsTupleIter j t (k+1)->Heap.SameBut j s.heap g->Q v { s with heap:=g }):wpAny (model prog w) A (Builtin.SmallTypes.nextOf (.ref j)) Q E s:=by
 let⟨oj,gj,cj,dj⟩:=id hj;let⟨ot,gt,_,nt,dt⟩:=ht;unfold Builtin.SmallTypes.nextOf;refine zV (qB (name:=Str.ofString "__next__") hj.typeIs jQ (qU jQ hj.typeIs F.entry_tuple_iterator_next ?_ (F.args_tuple_iterator_next_1 _)));refine zV (m:=field (.ref j) 0) (qS gj dj (x:=.ref t) rfl ?_);show wpAny _ _ (if (Value.ref t == Value.none)=true then _ else _) _ _ s;rw[yM (show ¬ ((Value.ref t == Value.none)=true) by exact yY)];refine zV (m:=field (.ref j) 1) (qS gj dj (x:=.int k 0) rfl ?_);refine zV (m:=seqItems? (.ref t)) (kH gt dt ?_);simp?[yG,hv];refine zV (wpAny_setField gj dj (by simp) (zW ⟨v,rfl,zW (hQ _ ⟨_,Heap.get?_update_self _ gj (Obj.isFreed_of_fields (Obj.data_mapFields dj _)),(Obj.cls_mapFields ..).trans cj,?_⟩ (Heap.SameBut.update ..))⟩));rw[Obj.data_mapFields dj];simp[rawInt]
def Uy{Q:Value->Shared->Prop}(hh:A.handled=none)(hj:s.heap.IsTupleIter j t k)(ht:s.heap.IsTuple t its)(hv:its[k]?=none)
  (hE:∀g x,Heap.ExtBut j s.heap g->(∃o,g.get? x=some o/\o.cls=.type "StopIteration")->E (.ref x) { s with heap:=g }):wpAny (model prog w) A (Builtin.SmallTypes.nextOf (.ref j)) Q E s:=by
 let⟨oj,gj,cj,dj⟩:=id hj;let⟨ot,gt,_,nt,dt⟩:=ht;unfold Builtin.SmallTypes.nextOf;refine zV (qB (name:=Str.ofString "__next__") hj.typeIs jQ (qU jQ hj.typeIs F.entry_tuple_iterator_next ?_ (F.args_tuple_iterator_next_1 _)));refine zV (m:=field (.ref j) 0) (qS gj dj (x:=.ref t) rfl ?_);show wpAny _ _ (if (Value.ref t == Value.none)=true then _ else _) _ _ s;rw[yM (show ¬ ((Value.ref t == Value.none)=true) by exact yY)];refine zV (m:=field (.ref j) 1) (qS gj dj (x:=.int k 0) rfl ?_);refine zV (m:=seqItems? (.ref t)) (kH gt dt ?_);simp?[yG,hv];refine zV (wN (zV (wpAny_setField gj dj (by simp) (zV (m:=newExc (.type "StopIteration") []) ?_))));simp?[newExc,newTuple];refine zV (qK (zV (m:=firstArgMember _ _) (wpAny_of_eq (a:=Value.none) (by first|rfl|(simp?[firstArgMember];rfl)) ?_)) (by size_fits));refine qK ?_ (by size_fits);simp?[raiseNew];refine zV (wpAny_handled ?_)
 first|rw[show A.in1.handled=none from hh]|rw[hh]
 exact zV (zW (wpAny_throw (hE _ _ (((Heap.SameBut.update ..).extBut.push _).push _) ⟨_,zX _ rfl,rfl⟩)))
def TH(t:Addr)(its:Array Value)(n:Nat)(dd:Option Addr)(sl:Array (Option Value)) :
  Meets (Builtin.«enumerate.__new__» ⟨[.type "enumerate",.ref t],[]⟩) (λ_ R s=>s.heap.get? t=some { cls:=.type "tuple",dict:=dd,data:=.seq its n,slots:=sl } /\
   R (.ok (.ret (.ref (s.heap.push { cls:=.type "tuple_iterator",data:=.fields #[.ref t,.int 0 0] }).objs.size)))
    { s with heap:=(s.heap.push { cls:=.type "tuple_iterator",data:=.fields #[.ref t,.int 0 0] }).push { cls:=.type "enumerate",data:=.fields #[.none,.bool false,.ref s.heap.objs.size,rawInt 0,.none,.none] } }) :=
 .of_wp λprog w A R s h=>by
  let⟨hp,g,d,tk,os⟩:=s;let⟨hl,h⟩:=h;have T5:=sub_enumerate;have hL:Heap.IsTuple (Shared.heap ⟨hp,g,d,tk,os⟩) t its:=⟨_,hl,rfl,n,rfl⟩
  wp_walk using wpAny_loadPart' hl
  refine wpAny_stack_any λst=>zW ?_;split
  ·rename_i c _ _ _ _ _;cases (c == Value.type "enumerate")
   ·wp_walk using wpAny_loadPart' hl,xQ hL
    exact⟨_,rfl,h⟩
   ·wp_walk using wpAny_loadPart' hl,xQ hL
    exact⟨_,rfl,h⟩
  ·wp_walk using wpAny_loadPart' hl,xQ hL
   exact⟨_,rfl,h⟩
def T6(ht:s.heap.IsTuple t its)
  (h:∀h',IsEnum h' (s.heap.objs.size+1) s.heap.objs.size 0 .none->h'.IsTupleIter s.heap.objs.size t 0->h'.objs.size=s.heap.objs.size+2->(∀b o,s.heap.get? b=some o->h'.get? b=some o)->Q (.ref (s.heap.objs.size+1)) { s with heap:=h' }) :
  wpAny (model prog w) A (call (.type "enumerate") [.ref t]) Q E s:=by
 let⟨⟨c,dct,dt,sl⟩,hl,hc,n,hd⟩:=ht;simp only at hc hd;subst hc hd;refine callType_new F.called_enumerate (by decide) (F.typeCall_enumerate_1 _) (F.newCall_enumerate_1 _) (λobj=>F.args_object_init_2 obj _) F.entry_enumerate_new (TH t its n dct sl) ⟨hl,?_⟩;have hz:(s.heap.push { cls:=.type "tuple_iterator",data:=.fields #[.ref t,.int 0 0] }).objs.size=s.heap.objs.size+1:=by rw[xI]
 have he:=zX (s.heap.push { cls:=.type "tuple_iterator",data:=.fields #[.ref t,.int 0 0] }) (o:={ cls:=.type "enumerate",data:=.fields #[.none,.bool false,.ref s.heap.objs.size,rawInt 0,.none,.none] }) rfl;show _/\_;rw[hz] at he ⊢;refine⟨⟨_,he,rfl⟩,h _ he ⟨_,zU _ (zX _ rfl),rfl,rfl⟩ ?_ λb o x=>zU _ (zU _ x)⟩;show (Heap.push _ _).objs.size=_;rw[xI,hz]
end En
namespace Dl
open PySem L2 PySem.Spec PyProof.Rows
section
variable {ch:List Addr}
def w8(I:Inv X pins σ H s)(To:∀b∈ch,cO X pins H b)(k:∀b o,b∉ch->s.heap.get? b=some o->h'.get? b=some o){T:Addr}{vals:List Value}{xs:List V}(hT:s.heap.objs.size<=T)(ht:ow h' T vals.toArray)
  (rv:aL xs vals) (hz:xs.length<=sizeLine):Inv X pins σ (upd H T (.tup xs)) { s with heap:=h',toks:=t' }:=by
 have nT:H T=none:=I.RO.fresh hT;have ne:∀b o,s.heap.get? b=some o->b≠T:=λb o e=>yQ (zP (zY e) hT);have ne2:∀b o,H b=some o->b≠T:=λb o e=>aM e nT;have Us:∀b o,H b=some o->b∉ch:=λb o e z=>by rw[(To b z).1] at e;cases e
 refine I.step (g':=s.gens) (d':=s.drawn) (ch:=ch) (λb hb=>?_) (λb o _ _ hc e _=>k b o hc e) (λb o _ _ hc e _=>⟨o.slots,k b o hc e⟩) (λb o _ e n=>by rw[aC (ne b o e)];exact n)
  (λb o hc e=>⟨o,k b o hc e⟩) (λb ys e=>by rw[aC (ne2 b _ e)];exact e) (λb o u e=>by rw[aC (ne2 b _ e)];exact e) (.kept (λb u ⟨q,z⟩ e=>k b u (Us b _ z) e) λb u e _=>by rw[aC (ne2 b _ e)];exact e) (λm hm=>?_) (λb u e=>?_) I.bare
 ·let⟨f0,f1,f2,f3,f4,f5⟩:=To b hb;exact⟨f3,f1,f4,f5⟩
 ·let⟨o,es,ep,ho,r⟩:=hm;exact⟨o,es,ep,k _ o (λz=>(To _ z).2.1 rfl) ho,r⟩
 ·by_cases hb:b=T
  ·subst hb;rw[aG] at e;cases e;exact⟨hz,vals,rv,ht⟩
  ·rw[aC hb] at e;refine (I.RO b u e).Sd (λc v hc q=>k c v ?_ q) (λ_ q=>?_) λc v q _=>?_
   ·rcases hc with z|z
    ·rw[z];exact Us b u e
    ·exact Us c _ z
   all_goals first
    | (rw[aC (ne2 _ _ q)];exact q)
    | exact q
def OD(I:Inv X pins σ H s)(hf:cO X pins H b)(h:X.K.lookup a=some o):a≠b:=by
 rintro rfl;have hb:=I.ok.mod.VS a o h;rcases hf.2.2.2.1 with z|z
 ·exact I.ok.Ts a o hb z
 ·exact absurd (zP (zY (I.ok.bs a o hb).1) z) (qD _)
def LH(I:Inv X pins σ H s)(hf:cO X pins H b)(h:gH X.K H a xs):a≠b:=by
 rcases h with (h|⟨o,h⟩)|⟨o,its,n,h,_⟩
 ·exact aM h hf.1
 ·exact aM h hf.1
 ·exact OD I hf h
def KH(I:Inv X pins σ H s)(hf:cO X pins H b)(h:fM X.K H a xs):a≠b:=by
 rcases h with (h|⟨o,h⟩)|⟨o,its,n,h,_⟩
 ·exact aM h hf.1
 ·exact aM h hf.1
 ·exact OD I hf h
end
def P7(sq:Hp->List V->Prop):It:=⟨λi H=>∃xs x,sq H xs/\xs[i]?=some x,λi H v H'=>∃T y,v=.ref T/\H T=none/\H'=upd H T (.tup [.int (i:Nat),y])/\∀xs,sq H xs->xs[i]?=some y,λi H=>∃xs,sq H xs/\xs.length<=i⟩
def bG(k:Nat):List D->List D
 | []=>[]
 | d::ds=>.tuple [.int (k:Nat),d]::bG (k+1) ds
def sN:∀ {ds:List D}{k i:Nat}{d:D},(bG k ds)[i]?=some d->∃x,ds[i]?=some x/\d=.tuple [.int ((k+i:Nat):Int),x]
 | [],k,i,d,h=>by simp[bG] at h
 | x::ds,k,0,d,h=>by simp[bG] at h;exact⟨x,rfl,h.symm⟩
 | x::ds,k,i+1,d,h=>by
  simp?[bG,yX] at h;let⟨y,h1,h2⟩:=sN h;refine⟨y,by simpa using h1,?_⟩;rw[h2,show k+1+i=k+(i+1) by lia]
def kb:∀ (ds:List D) (k:Nat),(bG k ds).length=ds.length
 | [],k=>rfl
 | x::ds,k=>by simp[bG,kb ds (k+1)]
def Cm{K:W.Frag}(h:sq HF vs)(mo:∀H H',aR H H'->sq H vs->sq H' vs)(r:ay K HF ds vs):rM K (P7 sq) HF (bG 0 ds) where
 go:=λi d Sj RV e s1 s2=>by
  let⟨x,hx,rfl⟩:=sN e;rw[jC];let⟨v,hv,rv⟩:=r.getD hx;have q:=mo _ _ s2 (mo _ _ s1 h);refine⟨⟨vs,v,q,hv⟩,λy TZ ⟨T,z,e1,hT,e2,hy⟩=>?_⟩;have:=hy vs q;rw[hv] at this;cases this;subst e1 e2;exact⟨_,.new s2 hT,dF (s2.free hT) (ay.cons (by simp[Rep]) (ay.cons (rv.mono s1) ay.nil))⟩
 stop:=λSj RV s1 s2=>⟨vs,mo _ _ s2 (mo _ _ s1 h),by rw[kb,r.length];exact yL _⟩
def PL(Wb Wc:Hp->List V->Prop):It:=⟨λi H=>∃xs ys x y,Wb H xs/\Wc H ys/\xs[i]?=some x/\ys[i]?=some y,
 λi H v H'=>∃T x y,v=.ref T/\H T=none/\H'=upd H T (.tup [x,y])/\(∀xs,Wb H xs->xs[i]?=some x)/\∀ys,Wc H ys->ys[i]?=some y,
 λi H=>∃xs ys,Wb H xs/\Wc H ys/\(xs.length<=i\/ys.length<=i)⟩
section
variable {ch:List Addr}
def Ct(I:Inv X pins σ H s)(To:∀b∈ch,cO X pins H b)(k:∀b o,b∉ch->s.heap.get? b=some o->h'.get? b=some o):Inv X pins σ H { s with heap:=h',toks:=t' }:=by
 have Us:∀b o,H b=some o->b∉ch:=λb o e z=>by rw[(To b z).1] at e;cases e
 refine I.step (g':=s.gens) (d':=s.drawn) (ch:=ch) (λb hb=>?_) (λb o _ _ hc e _=>k b o hc e) (λb o _ _ hc e _=>⟨o.slots,k b o hc e⟩) (λb o _ e n=>n)
  (λb o hc e=>⟨o,k b o hc e⟩) (λb ys e=>e) (λb o u e=>e) (.kept (λb u ⟨q,z⟩ e=>k b u (Us b _ z) e) λb u e _=>e) (λm hm=>?_) (λb u e=>?_) I.bare
 ·let⟨f0,f1,f2,f3,f4,f5⟩:=To b hb;exact⟨f3,f1,f4,f5⟩
 ·let⟨o,es,ep,ho,r⟩:=hm;exact⟨o,es,ep,k _ o (λz=>(To _ z).2.1 rfl) ho,r⟩
 ·refine (I.RO b u e).Sd (λc v hc q=>k c v ?_ q) (λ_ q=>q) λc v q _=>q;rcases hc with z|z
  ·rw[z];exact Us b u e
  ·exact Us c _ z
end
structure Rl(z TI TO i1 i2:Addr):Prop where
 a1:TI≠z
 a2:TO≠z
 a3:i1≠z
 a4:i2≠z
 a5:TI≠TO
 a6:TI≠i1
 a7:TI≠i2
 a8:TO≠i1
 a9:TO≠i2
 a0:i1≠i2
def ji:List D->List D->List D
 | x::xs,y::ys=>.tuple [x,y]::ji xs ys
 | _,_=>[]
def pF:∀ {xs ys:List D}{i:Nat}{d:D},(ji xs ys)[i]?=some d->∃x y,xs[i]?=some x/\ys[i]?=some y/\d=.tuple [x,y]
 | [],_,i,d,h=>by simp[ji] at h
 | _::_,[],i,d,h=>by simp[ji] at h
 | x::xs,y::ys,0,d,h=>by simp[ji] at h;exact⟨x,y,rfl,rfl,h.symm⟩
 | x::xs,y::ys,i+1,d,h=>by
  simp?[ji,yX] at h;let⟨a,b,h1,h2,h3⟩:=pF h;exact⟨a,b,by simpa using h1,by simpa using h2,h3⟩
def mL:∀ (xs ys:List D),(ji xs ys).length=min xs.length ys.length
 | [],_=>by simp[ji]
 | _::_,[]=>by simp[ji]
 | x::xs,y::ys=>by simp[ji,mL xs ys]
def Er{K:W.Frag}(h1:Wb HF vs)(X9:∀H H',aR H H'->Wb H vs->Wb H' vs)(h2:Wc HF us)(Yb:∀H H',aR H H'->Wc H us->Wc H' us)(r1:ay K HF xs vs)(r2:ay K HF ys us) :
  rM K (PL Wb Wc) HF (ji xs ys) where
 go:=λi d Sj RV e s1 s2=>by
  let⟨x,y,hx,hy,rfl⟩:=pF e;let⟨v,hv,rv⟩:=r1.getD hx;let⟨u,hu,ru⟩:=r2.getD hy;have q1:=X9 _ _ s2 (X9 _ _ s1 h1);have q2:=Yb _ _ s2 (Yb _ _ s1 h2);refine⟨⟨vs,us,v,u,q1,q2,hv,hu⟩,λw TZ ⟨T,a,b,e1,hT,e2,ha,hb⟩=>?_⟩;have ea:=ha vs q1;have eb:=hb us q2;rw[hv] at ea;rw[hu] at eb;cases ea;cases eb;subst e1 e2;exact⟨_,.new s2 hT,dF (s2.free hT) (ay.cons (rv.mono s1) (ay.cons (ru.mono s1) ay.nil))⟩
 stop:=λSj RV s1 s2=>⟨vs,us,X9 _ _ s2 (X9 _ _ s1 h1),Yb _ _ s2 (Yb _ _ s1 h2),by rw[mL,r1.length,r2.length];lia⟩
def cut(xs:List α)(lo hi:Option Int):List α:=(xs.drop (HT.dH xs.length 0 lo)).take (HT.dH xs.length xs.length hi - HT.dH xs.length 0 lo)
def HX(xs:List α)(lo hi:Option Int):(cut xs lo hi).length<=xs.length:=by
 unfold cut;rw[jV,qG];lia
def pK{K:W.Frag}(r:ay K H ds vs)(lo hi:Option Int):ay K H (cut ds lo hi) (cut vs lo hi):=by
 unfold cut;rw[r.length];exact (r.drop _).take _
section
def B9{vl:Value}{lo:Option Int}(ht:IsTup s.heap t its)(hs:s.heap.IsSliceOf sl vl vu .none)(pl:IsPart vl lo)(pu:IsPart vu hi)
  (hw:HT.dH its.size 0 lo=0/\HT.dH its.size its.size hi=its.size) (h:Q (.ref t) s):wpAny (model prog w) A (getItem (.ref t) (.ref sl)) Q E s:=by
 let⟨os,Ui,WC,Uj⟩:=id hs;have WW:s.TypeIs (.ref sl) "slice":=⟨os,Ui,WC⟩
 unfold getItem
 try with_reducible refine xW ?_
 first|refine zV (zW ?_)|skip
 refine zV (wpAny_sequenceKey ht.typeIs (by decide) (zV (qB (name:=Str.ofString "__getitem__") ht.typeIs jE (qU jE ht.typeIs entry_tuple_getitem ?_ (args_tuple_getitem _ _)))));refine zV (m:=Builtin.Tuple.tupleItemsOf (.ref t)) (tupleItemsOf_ ht (zV (wY WW ?_)));rw[yK (by decide)];refine zV (HT.hV hs pl pu ?_);show wpAny _ _ (if (((HT.dH its.size 0 lo:Nat):Int) == 0&&(1:Int) == 1&&(HT.dH its.size its.size hi - HT.dH its.size 0 lo) == its.size)=true then _ else _) _ _ s;rw[hw.1,hw.2,yK (by simp)];unfold Builtin.Tuple.tupleIsExact;refine zV (zV (wY ht.typeIs (zW ?_)));rw[yK (by decide)]
 first
  | exact zV (wN (zW ⟨_,rfl,zW h⟩))
  | exact zV (wN (zV (zW (zW ⟨_,rfl,zW h⟩))))
def PR(K:W.Frag):V->Option Int->Option Int->Hp->VK->Prop:=λx lo hi H Q=>∃a xs,x=.ref a/\fM K H a xs/\(cut xs lo hi=xs->Q (.ref a) H)/\∀p,H p=none->Q (.ref p) (upd H p (.tup (cut xs lo hi)))
def MO:J6 X (PR X.K):=by
 intro pins s σ H x v vl vu lo hi sl Q I rx hs pl pu h;let⟨a,xs,rfl,hx,q1,q2⟩:=h;by_cases hw:HT.dH xs.length 0 lo=0/\HT.dH xs.length xs.length hi=xs.length
 ·cases rx;let⟨its,r,ht,hz⟩:=I.tuple hx;have hlen:its.toArray.size=xs.length:=by rw[zH];exact r.length.symm
  refine⟨"tuple",_,PyProof.Rows.slot_tuple_getitem.lookup,ht.typeIs,B9 ht hs pl pu (by rw[hlen];exact hw) ⟨.ref a,H,I,rfl,q1 ?_⟩⟩;unfold cut;rw[hw.1,hw.2,List.drop_zero,Nat.sub_zero,List.take_length]
 ·exact Lw pins s σ H (.ref a) v vl vu lo hi sl Q I rx hs pl pu ⟨a,xs,rfl,hx,hw,q2⟩
def PP(K:W.Frag):V->Option Int->Option Int->Hp->VK->Prop:=λx lo hi H Q=>∃a xs,x=.ref a/\gH K H a xs/\∀p,H p=none->Q (.ref p) (upd H p (.lst (cut xs lo hi)))
def y0(lo hi:Option Int)(n:Nat):sliceBounds lo hi none n=(((HT.dH n 0 lo:Nat):Int),((HT.dH n n hi:Nat):Int),1):=by
 have h1:(1:Int) > 0:=by lia
 refine Prod.ext ?_ (Prod.ext ?_ rfl)
 ·cases lo with
  | none=>simp[sliceBounds,HT.dH]
  | some x =>
   by_cases h:x < 0
   ·simp?[sliceBounds,HT.dH,kO,h1,xG,yK h];lia
   ·simp?[sliceBounds,HT.dH,kO,h1,xG,yM h];lia
 ·cases hi with
  | none=>simp[sliceBounds,HT.dH]
  | some x =>
   by_cases h:x < 0
   ·simp?[sliceBounds,HT.dH,kO,h1,xG,yK h];lia
   ·simp?[sliceBounds,HT.dH,kO,h1,xG,yM h];lia
def Hw:J6 X (PP X.K):=by
 intro pins s σ H x v vl vu lo hi sl Q I rx hs pl pu h;let⟨a,xs,rfl,hx,q⟩:=h;cases rx;let⟨its,r,p,hz⟩:=I.list hx;have hlen:=r.length;refine⟨"list",_,slot_list_getitem.lookup,p.isList.typeIs,wpAny_getItem_list_slice p.isList hs pl pu .none (by simp) ?_ (by rw[zH];lia)⟩;rw[W.kmk_pick_nat its.toArray (y0 lo hi its.toArray.size)];have e:((its.toArray.toList.drop (HT.dH its.toArray.size 0 lo)).take (HT.dH its.toArray.size its.toArray.size hi - HT.dH its.toArray.size 0 lo))=cut its lo hi:=by unfold cut;simp
 rw[e];have rc:aL (cut xs lo hi) (cut its lo hi):=by unfold cut;rw[hlen];exact (r.drop _).take _
 exact⟨.ref s.heap.objs.size,_,I.Vj (t':=s.toks) rc (yD (HX xs lo hi) hz),rfl,q _ I.fresh⟩
def Ru(K:W.Frag)(f:Env->Option (Option Int)):TO:=λσ H Q=>∃HF ρ o,aR HF H/\cM K HF ρ σ/\f ρ=some o/\∀H' RN,bM HF H RN H'->Q o H'
def DO(X:Cx)(e:Option Expr)(f:Env->Option (Option Int)):Prop:=PO X e (Ru X.K f)
def eX:Env->Option (Option Int):=λ_=>some none
def gI:D->Option Int|.int i=>some i|_=>none
def nY(f:Env->Option D):Env->Option (Option Int):=λρ=>(f ρ).bind λd=>(gI d).map some
def IA:DO X none eX:=λpins s σ H Q I ⟨HF,ρ,o,sm,eo,hf,q⟩=>Iq pins s σ H Q I (by cases hf;exact q H HF (.refl sm))
def Ho(h:DE X e f):DO X (some e) (nY f):=λpins s σ H Q I ⟨HF,ρ,o,sm,eo,hf,q⟩=>BD h pins s σ H Q I (by
 let⟨d,hd,hf⟩:=bs hf;let⟨i,hi,rfl⟩:=ah hf;cases d<;>try cases hi
 exact⟨HF,ρ,_,sm,eo,hd,λv H1 RP g1 r1=>⟨_,by simpa only[Rep] using r1,q H1 RP g1⟩⟩)
variable {lo hi:Option Expr}{fl fh:Env->Option (Option Int)}
def eA(g:D->Option Int->Option Int->Option β)(fa:Env->Option D)(fl fh:Env->Option (Option Int)):Env->Option β:=λρ=>(fa ρ).bind λx=>(fl ρ).bind λl=>(fh ρ).bind λh=>g x l h
end
def vx:∀ {l:List α},(∀x∈l,f x=g x)->l.filterMap f=l.filterMap g
 | [],_=>rfl
 | x::l,h=>by rw[jF,jF,h x zE,vx λy hy=>h y (zC _ hy)]
def DV(xs:List Value):((List.range xs.length).filterMap λ(k:Nat)=>xs.toArray[(((xs.length:Nat):Int) - 1+(k:Int) * (-1)).toNat]?)=xs.reverse:=by
 have e:∀k∈List.range xs.length,xs.toArray[(((xs.length:Nat):Int) - 1+(k:Int) * (-1)).toNat]?=xs.reverse[k]?:=λk hk=>by
  have Uw:k < xs.length:=by simpa using hk
  have:(((xs.length:Nat):Int) - 1+(k:Int) * (-1)).toNat=xs.length - 1 - k:=by lia
  rw[this,wD,List.getElem?_reverse Uw]
 rw[vx e];have:=xs.length_reverse;apply List.ext_getElem?;intro i;have key:∀ (l:List Value),(List.range l.length).filterMap (λ(k:Nat)=>l[k]?)=l:=λl=>by
  induction l with
  | nil=>rfl
  | cons x l ih =>
   rw[zL,vT,jF];simp?[xP];rw[List.filterMap_map]
   congr 1
 have k2:=key xs.reverse;rw[List.length_reverse] at k2;rw[k2]
def HS{prog:Program}{w:World}{A:Around}{E:Value->Shared->Prop}{s:Shared}{t sl:Addr}{its:List Value}{tk:Tok}{Q:Value->Shared->Prop}(ht:IsTup s.heap t its.toArray)(hs:s.heap.IsSliceOf sl .none .none (.int (-1) tk))
  (hz:its.length<=sizeLine) (h:Q (.ref s.heap.objs.size) { s with heap:=s.heap.push { cls:=.type "tuple",data:=.seq its.reverse.toArray } }):wpAny (model prog w) A (getItem (.ref t) (.ref sl)) Q E s:=by
 let⟨os,Ui,WC,Uj⟩:=id hs;have WW:s.TypeIs (.ref sl) "slice":=⟨os,Ui,WC⟩
 unfold getItem
 try with_reducible refine xW ?_
 first|refine zV (zW ?_)|skip
 refine zV (wpAny_sequenceKey ht.typeIs (by decide) (zV (qB (name:=Str.ofString "__getitem__") ht.typeIs jE (qU jE ht.typeIs entry_tuple_getitem ?_ (args_tuple_getitem _ _)))));refine zV (m:=Builtin.Tuple.tupleItemsOf (.ref t)) (tupleItemsOf_ ht (zV (wY WW ?_)));rw[yK (by decide)];have hap:∀ {R:Int×Int×Nat->Shared->Prop},R (((its.length:Nat):Int) - 1,-1,its.length) s->wpAny (model prog w) A.in1 (Builtin.Slice.sliceApplied (.ref sl) (pure ((its.toArray.size:Nat):Int))) R E s:=λ{R} hR=>by
  unfold Builtin.Slice.sliceApplied Builtin.Slice.sliceFields;refine zV (zV (qS Ui Uj (x:=.none) rfl (zV (qS Ui Uj (x:=.none) rfl (zV (qS Ui Uj (x:=.int (-1) tk) rfl (zW ?_)))))));refine zV (slicePart_int ?_);show wpAny _ _ (if ((-1:Int) == 0)=true then _ else _) _ _ s;rw[yM (by decide)];refine zV (slicePart_none (zV (slicePart_none (zV (zW ?_)))));have e1:Builtin.Slice.sliceAdjust none none (-1) ((its.toArray.size:Nat):Int)=(((its.length:Nat):Int) - 1,-1):=by simp[Builtin.Slice.sliceAdjust]
  show wpAny _ _ (match Builtin.Slice.sliceAdjust none none (-1) ((its.toArray.size:Nat):Int) with|(lo,hi)=>pure (lo,(-1:Int),Builtin.Slice.slicePlaces lo hi (-1))) _ _ s;rw[e1];have e2:Builtin.Slice.slicePlaces (((its.length:Nat):Int) - 1) (-1) (-1)=its.length:=by
   unfold Builtin.Slice.slicePlaces;rw[yM (by decide)];simp?[Int.neg_neg,Int.ediv_one];split<;>lia
  show wpAny _ _ (pure (((its.length:Nat):Int) - 1,(-1:Int),Builtin.Slice.slicePlaces (((its.length:Nat):Int) - 1) (-1) (-1))) _ _ s;rw[e2];exact zW hR
 first
  | refine zV (hap ?_)
  | refine zV (wpAny_of_in1 (hap ?_))
 show wpAny _ _ (if ((((its.length:Nat):Int) - 1) == 0&&(-1:Int) == 1&&its.length == its.toArray.size)=true then _ else _) _ _ s;rw[yM (by simp),DV];have VJ:sizeOk (.seq its.reverse.toArray):=by show its.reverse.toArray.size<=sizeLine;simpa using hz
 first
  | exact zV (m:=Builtin.Tuple.tupleExact _) (qK (zW ⟨_,rfl,zW h⟩) VJ)
  | exact zV (m:=Builtin.Tuple.tupleExact _) (qK (zV (zW (zW ⟨_,rfl,zW h⟩))) VJ)
  | exact zV (zV (m:=Builtin.Tuple.tupleExact _) (qK (zW (zW ⟨_,rfl,zW h⟩)) VJ))
  | exact zV (zV (m:=Builtin.Tuple.tupleExact _) (qK (zW ⟨_,rfl,zW h⟩) VJ))
def Lb(ha:PE X a ta):PE X (.Subscript a (.Slice none none (some (.UnaryOp .USub (.Constant (.int 1) j p4) p3)) p2) pos) (λσ H Q=>ta σ H λx H1=>∃b xs,x=.ref b/\fM X.K H1 b xs/\∀p,H1 p=none->Q (.ref p) (upd H1 p (.tup xs.reverse))):=by
 intro pins s σ H Q I h;refine Subscript_ (b9 (ha pins s σ H _ I h) λv s1 ⟨x,H1,I1,r1,b,xs,e,hq,q⟩=>?_);subst e;cases r1;refine wpAny_Slice ?_;rw[evalPart_none];refine zW (zW ?_);have Te:=BD (X:=X) (Kp (op:=.USub) EN (AB (X:=X) (i:=1) (j:=j) (pos:=p4)) (pos:=p3)) pins s1 σ H1 (λo H'=>o=some (-1)/\H'=H1) I1 ⟨1,rfl,-1,rfl,rfl,rfl⟩;refine b9 Te λvst s2 ⟨o,H2,I2,pst,e1,e2⟩=>?_;subst e1 e2;cases pst with
 | int _ tk =>
 let⟨its,r,ht,hz⟩:=I2.tuple hq;have I4:Inv X pins σ H2 { s2 with heap:=s2.heap.push { cls:=.type "slice",data:=.fields #[.none,.none,.int (-1) tk] } }:=I2.kept (t':=s2.toks) λb ob q=>zU _ q;let⟨its',r',Yc,_⟩:=I4.tuple hq;refine tail_any (ops:=[.ref b,.ref s2.heap.objs.size]) Yc.typeIs PyProof.Rows.slot_tuple_getitem.lookup (HS Yc (Heap.IsSliceOf.new ..) (by rw[<- r'.length];exact hz) ?_) (by with_unfolding_all rfl);have hv:aL xs.reverse its'.reverse:=L2.aL.reverse r';exact⟨.ref _,_,I4.laid (t':=s2.toks) (o:=.tup xs.reverse) (λb ob q=>zU _ q) (yL _) ⟨by rw[List.length_reverse];exact hz,_,hv,ow.new _ _⟩,rfl,q _ I4.fresh⟩
def Dv:D->Option D|.tuple ds=>some (.tuple ds.reverse)|_=>none
def f1(g:D->Option D)(f:Env->Option D):Env->Option D:=λρ=>(f ρ).bind g
def KA(ha:DE X a fa):DE X (.Subscript a (.Slice none none (some (.UnaryOp .USub (.Constant (.int 1) j p4) p3)) p2) pos) (f1 Dv fa):=aV (Lb ha) λσ H Q ⟨HF,ρ,d,sm,eo,hf,q⟩=>by
 let⟨x,hx,hf⟩:=bs hf;refine⟨HF,ρ,x,sm,eo,hx,λv1 H1 RP g1 r1=>?_⟩;cases x<;>try cases hf
 simp?[Rep] at r1;let⟨b,vs,rfl,hs,rr⟩:=r1;exact⟨b,vs,rfl,aD g1.fh hs,λp hp=>q _ _ _ (g1.trans (.new g1.fh hp)) (dF (g1.fh.free hp) rr.reverse)⟩
end Dl
namespace HT
open PySem PyProof.Rows
section
open PySem.SeqAt
open PySem.AutoSeq1 (wpAny_loadPart')
open PySem.MeetsSeq PySem.MeetsSeq2 PySem.MeetsSeq3
end
end HT
namespace Dl
open PySem L2 PySem.Spec PyProof.Rows
def kl:D->Option (List Int)|.tuple ds=>intsOf ds|_=>none
def l7(h:kl x=some ns):x=.tuple (ns.map PyData.int):=by
 cases x<;>try cases h
 rename_i xs;have h:intsOf xs=some ns:=h;rw[dP h]
end Dl
namespace En
open PySem PyProof.Rows
open AutoSeq1 (wpAny_loadPart')
def T7:fillsNumberSlot (.type "tuple") "mul"=pure false:=PySem.fillsNumberSlot_seq (id:="tuple.__mul__") (r:=some (.builtin "tuple.__rmul__")) F.slot_tuple_mul.lookup (by decide +kernel) F.slot_tuple_rmul.lookup (by decide +kernel)
def T8:seqRepeat? (.type "tuple")=pure (some (.builtin "tuple.__mul__")):=by
 unfold seqRepeat?;rw[PySem.seqSlot_of (T:="tuple") (name:="__mul__") (id:="tuple.__mul__") F.slot_tuple_mul.lookup (by decide +kernel),PySem.seqSlot_of (T:="tuple") (name:="__rmul__") (id:="tuple.__rmul__") F.slot_tuple_rmul.lookup (by decide +kernel)];rfl
def U0(a:Int)(t:Tok)(l:Addr)(its:Array Value)(n:Nat)(dd:Option Addr)(sl:Array (Option Value)) :
  Meets (Builtin.«int.__rmul__» ⟨[.int a t,.ref l],[]⟩) (λ_ R s=>s.heap.get? l=some { cls:=.type "tuple",dict:=dd,data:=.seq its n,slots:=sl }/\R (.ok (.ret Value.notImplemented)) s) :=
 .of_wp λprog w A R s h=>by
  let⟨hp,g,d,tk,os⟩:=s;let⟨hl,h⟩:=h
  wp_walk
  exact⟨_,rfl,h⟩
def Uz(l:Addr)(its:Array Value)(n:Nat)(dd:Option Addr)(sl:Array (Option Value))(k:Int)(t:Tok)(h1:¬ (decide (k < -(2 ^ 63))||decide (k >= 2 ^ 63))=true)(h2:(its.isEmpty||k == 1)=true) :
  Meets (Builtin.«tuple.__mul__» ⟨[.ref l,.int k t],[]⟩) (λ_ R s=>s.heap.get? l=some { cls:=.type "tuple",dict:=dd,data:=.seq its n,slots:=sl }/\R (.ok (.ret (.ref l))) s) :=
 .of_wp λprog w A R s h=>by
  let⟨hp,g,d,tk,os⟩:=s;let⟨hl,h⟩:=h;have f1:=AutoSeq1.idx_int
  wp_walk using wpAny_loadPart' hl
  rw[yM h1]
  wp_walk using wpAny_loadPart' hl
  exact⟨_,rfl,h⟩
def UA(l:Addr)(its:Array Value)(n:Nat)(dd:Option Addr)(sl:Array (Option Value))(k:Int)(t:Tok)(h1:¬ (decide (k < -(2 ^ 63))||decide (k >= 2 ^ 63))=true)(h2:¬ (its.isEmpty||k == 1)=true)(h3:(decide (k<=0)||its.isEmpty)=true) :
  Meets (Builtin.«tuple.__mul__» ⟨[.ref l,.int k t],[]⟩) (λ_ R s=>s.heap.get? l=some { cls:=.type "tuple",dict:=dd,data:=.seq its n,slots:=sl }/\R (.ok (.ret (.ref s.heap.objs.size))) { s with heap:=s.heap.push { cls:=.type "tuple",data:=.seq #[] } }) :=
 .of_wp λprog w A R s h=>by
  let⟨hp,g,d,tk,os⟩:=s;let⟨hl,h⟩:=h;have f1:=AutoSeq1.idx_int
  wp_walk using wpAny_loadPart' hl
  rw[yM h1]
  wp_walk using wpAny_loadPart' hl
  exact⟨_,rfl,h⟩
def UB(l:Addr)(its:Array Value)(n:Nat)(dd:Option Addr)(sl:Array (Option Value))(k:Int)(t:Tok)(h1:¬ (decide (k < -(2 ^ 63))||decide (k >= 2 ^ 63))=true)(h2:¬ (its.isEmpty||k == 1)=true)(h3:¬ (decide (k<=0)||its.isEmpty)=true)
  (h4:¬ ((its.size:Nat):Int) * k > (2 ^ 63 - 1) / 8) (h5:¬ Builtin.Tuple.tupleTooMany (((its.size:Nat):Int) * k)=true) (hz:((List.replicate k.toNat its).foldl (·++·) #[]).size<=sizeLine) :
  Meets (Builtin.«tuple.__mul__» ⟨[.ref l,.int k t],[]⟩) (λ_ R s=>s.heap.get? l=some { cls:=.type "tuple",dict:=dd,data:=.seq its n,slots:=sl }/\R (.ok (.ret (.ref s.heap.objs.size))) { s with heap:=s.heap.push { cls:=.type "tuple",data:=.seq ((List.replicate k.toNat its).foldl (·++·) #[]) } }) :=
 .of_wp λprog w A R s h=>by
  let⟨hp,g,d,tk,os⟩:=s;let⟨hl,h⟩:=h;have f1:=AutoSeq1.idx_int
  wp_walk using wpAny_loadPart' hl
  rw[yM h1]
  wp_walk using wpAny_loadPart' hl
  rw[yM h4]
  wp_walk using wpAny_loadPart' hl
  exact⟨_,rfl,h⟩
end En
namespace Dl
open PySem L2 PySem.Spec PyProof.Rows
def Ko(K:W.Frag):R2:=λx y H Q=>∃a k xs,x=.ref a/\y=.int k/\fM K H a xs/\-(2 ^ 62)<=k/\k < 2 ^ 62/\xs.length * k.toNat<=sizeLine/\((List.replicate k.toNat xs).flatten=xs->Q (.ref a) H) /\
 ∀p,H p=none->Q (.ref p) (upd H p (.tup (List.replicate k.toNat xs).flatten))
def JL:gp X (binaryOp .Mult) (Ko X.K):=by
 intro pins s σ H x y v u Q I rx ry h;let⟨a,k,xs,rfl,rfl,hq,k1,k2,hz,q1,q2⟩:=h;cases rx;let⟨t,rfl⟩:=ry;let⟨its,r,pl,hzx⟩:=I.tuple hq;have hl:=r.length;let⟨⟨cls,dd,data,sl⟩,ho,hc,n,hd⟩:=id pl;simp only at hc hd;subst hc hd;have b1:¬ (decide (k < -(2 ^ 63))||decide (k >= 2 ^ 63))=true:=by
  simp?[jA,zJ];lia
 refine wpAny_binaryOp_repeat_ref (T:="tuple") (U:="int") (by decide) ⟨_,ho,rfl⟩ (λs'=>wR s' k t) En.T7 F.fills_int_mul wC En.T8 F.slot_int_index.lookup
  (qV wC (wR s k t) F.entry_int_rmul (F.args_int_rmul_2 _ _) (En.U0 k t a its.toArray n dd sl) ⟨ho,rfl,⟨_,ho,rfl⟩,?_⟩)
 have SG:∀m:Nat,List.foldl (λx1 x2=>x1++x2) #[] (List.replicate m its.toArray)=(List.replicate m its).flatten.toArray:=λm=>by
  have:=foldl_rep its m [];rw[xN] at this;exact this
 by_cases h2:(its.toArray.isEmpty||k == 1)=true
 ·refine qV F.slot_tuple_mul ⟨_,ho,rfl⟩ Zg (wV _ _) (En.Uz a its.toArray n dd sl k t b1 h2) ⟨ho,⟨.ref a,H,I,rfl,q1 ?_⟩⟩;rw[jA] at h2;rcases h2 with h2|h2
  ·have:xs=[]:=by
    have e:its=[]:=by simpa using h2
    rw[e] at hl;exact List.length_eq_zero_iff.mp hl
   rw[this];simp
  ·have:k=1:=eq_of_beq h2;subst this;simp
 ·by_cases h3:(decide (k<=0)||its.toArray.isEmpty)=true
  ·refine qV F.slot_tuple_mul ⟨_,ho,rfl⟩ Zg (wV _ _) (En.UA a its.toArray n dd sl k t b1 h2 h3) ⟨ho,?_⟩;have hk0:k.toNat=0:=by
    simp?[jA,zJ] at h3 h2;rcases h3 with h3|h3
    ·lia
    ·exact absurd (.inl h3) h2
   have q3:=q2 s.heap.objs.size I.fresh;rw[hk0] at q3;exact⟨.ref s.heap.objs.size,_,I.laid (t':=s.toks) (o:=.tup []) (λb ob q=>zU _ q) (yL _) ⟨xU _,[],.nil,ow.new _ _⟩,rfl,q3⟩
  ·have hm:its.length * k.toNat<=sizeLine:=by rw[<- hl];exact hz
   have hkn:(k.toNat:Int)=k:=by
    simp?[jA,zJ,not_or] at h3;lia
   have UI:((its.toArray.size:Nat):Int) * k=((its.length * k.toNat:Nat):Int):=by rw[zH,Int.natCast_mul,hkn]
   have hv:=L2.aL.rep r k.toNat;have VL:(List.replicate k.toNat xs).flatten.length<=sizeLine:=by rw[len_rep,Nat.mul_comm];exact hz
   have hs8:(sizeLine:Nat)<=(2 ^ 63 - 1) / 8:=by decide
   have h4:¬ ((its.toArray.size:Nat):Int) * k > (2 ^ 63 - 1) / 8:=by rw[UI];lia
   have h5:¬ Builtin.Tuple.tupleTooMany (((its.toArray.size:Nat):Int) * k)=true:=by
    unfold Builtin.Tuple.tupleTooMany;rw[UI];simp?[zJ];lia
   refine qV F.slot_tuple_mul ⟨_,ho,rfl⟩ Zg (wV _ _) (En.UB a its.toArray n dd sl k t b1 h2 h3 h4 h5 (by rw[SG,zH,<- hv.length];exact VL)) ⟨ho,?_⟩;rw[SG];exact⟨.ref s.heap.objs.size,_,I.laid (t':=s.toks) (o:=.tup (List.replicate k.toNat xs).flatten) (λb ob q=>zU _ q) (yL _) ⟨VL,_,hv,ow.new _ _⟩,rfl,q2 _ I.fresh⟩
def pZ:D->D->Option D
 | .tuple ds,.int k=>if uN k=true/\ds.length * k.toNat<=sizeLine then some (.tuple (List.replicate k.toNat ds).flatten) else none
 | _,_=>none
def mI{K:W.Frag}(r:ay K HF ds vs):∀k:Nat,ay K HF (List.replicate k ds).flatten (List.replicate k vs).flatten
 | 0=>ay.nil
 | k+1=>by rw[xD,xD,qL,qL];exact r.append (mI r k)
def ER{K:W.Frag}:fF K (Ko K) pZ:=by
 intro HF H x y v1 v2 d Q sm r1 r2 hg q;cases x<;>cases y<;>simp?[pZ] at hg<;>try cases hg
 split at hg
 ·rename_i xs k hh;cases hg;simp?[Rep] at r1 r2;let⟨a,vs,rfl,ha,ra⟩:=r1;have ok:=hh.1;unfold uN at ok;rw[zF] at ok;refine⟨a,k,vs,rfl,r2,aD sm ha,yP ok.1,yP ok.2,by rw[ra.length];exact hh.2,λe=>q _ H HF (.refl sm) ?_,λp hp=>q _ _ _ (.new sm hp) (dF (sm.free hp) (mI ra _))⟩;simp?[Rep];refine⟨a,vs,rfl,ha,?_⟩;have:=mI ra k.toNat;rw[e] at this;exact this
 ·cases hg
end Dl
namespace En
open PySem PyProof.Rows
def UC(hh:A.handled=none)(hl:s.heap.IsTuple l its)(hi:IntsAre its.toList ns)(hb:its.size+1 < scanBound)
  (h:∀ (h':Heap) (tk:Nat),h'.SetOf (intKind prog w) s.heap.objs.size (λk'=>(firstMet (λi=>ns.getD i 0) its.size).any (· == k')) (firstMet (λi=>ns.getD i 0) its.size).length->(∀b o,b < s.heap.objs.size->s.heap.get? b=some o->h'.get? b=some o)->Q (.ref s.heap.objs.size) { s with heap:=h',toks:=tk }) :
  wpAny (model prog w) A (call (.type "set") [.ref l]) Q E s:=by
 let⟨c,tl,abI⟩:=F.called_set.mro;have aav:=F.called_set.made;have T5:=F.called_set.sub;refine vP (codeAny_of_tree ?_);show wpAny _ _ (callAny (.type "set") _) _ _ _;refine zW ⟨wW _ (by decide +kernel),kE F.entry_type_call ?_⟩;rw[Around.under_plain (weight_type_call_type "set" [.ref l] []) rfl];have h1:=F.called_set.notType;have h2:=F.called_set.canCreate;have hct:=F.typeCall_set_1 (.ref l)
 repeat (any_goals (first|assumption|wp_step))
 refine jR (code_set_new_1 (.ref l) (E:=E) (Q₁:=λobj s1=>∃led:Bool,obj=.ref s.heap.objs.size/\s1={ s with heap:=s.heap.push { cls:=.type "set",dict:=none,data:=.set #[] 0 (.fresh 0 0 led) } }) λled=>⟨led,rfl,rfl⟩) λr s1 hr=>?_;cases r with
 | error e=>exact hr
 | ok fl =>
  cases fl with
  | ret obj =>
   let⟨led,rfl,rfl⟩:=hr;have hS:(s.heap.push { cls:=.type "set",dict:=none,data:=.set #[] 0 (.fresh 0 0 led) }).get? s.heap.objs.size=some { cls:=.type "set",dict:=none,data:=.set #[] 0 (.fresh 0 0 led) }:=by exact zX _ rfl
   have hT:Shared.TypeIs { s with heap:=s.heap.push { cls:=.type "set",dict:=none,data:=.set #[] 0 (.fresh 0 0 led) } } (.ref s.heap.objs.size) "set":=⟨_,hS,rfl⟩
   have hli:=F.called_set.init.lookup;have hbi:=F.called_set.init.bind (.ref s.heap.objs.size)
   repeat (any_goals (first|assumption|wp_step))
   refine jR (wI (R:=wants (λr s2=>r=.none/\∃h' tk,s2={ s with heap:=h',toks:=tk }/\h'.SetOf (intKind prog w) s.heap.objs.size (λk'=>(firstMet (λi=>ns.getD i 0) its.size).any (· == k')) (firstMet (λi=>ns.getD i 0) its.size).length /\
     (∀b o,b < s.heap.objs.size->s.heap.get? b=some o->h'.get? b=some o)) E) F.called_set.init.plain F.entry_set_init (check_set_init_1 hT ?_)) λr2 s2 YZ=>?_
   ·let⟨ol,hol,SJ,nl,hdl⟩:=hl;let⟨abJ,Xh,aay,We⟩:=ol;simp only at SJ hdl;subst SJ hdl;have Xi:(s.heap.push { cls:=.type "set",dict:=none,data:=.set #[] 0 (.fresh 0 0 led) }).get? l=some { cls:=.type "tuple",dict:=Xh,data:=.seq its nl,slots:=We }:=zU _ hol;have abK:=F.sub_tuple_set;have abL:=F.sub_tuple_frozenset;have So:(Value.type "tuple" == Value.type "dict")=false:=by decide
    have YY:(s.heap.push { cls:=.type "set",dict:=none,data:=.set #[] 0 (.fresh 0 0 led) }).IsTuple l its:=⟨_,Xi,rfl,nl,rfl⟩
    unfold Builtin.«set.__init__» noKeywords Builtin.Frozenset.updateFrom;generalize hPI:pyIter=PI
    wp_walk
    subst hPI;refine xQ YY (zV (wpAny_runValue ?_));have hlS:l < s.heap.objs.size:=zY hol;have hh3:A.in1.in1.in1.handled=none:=by simp[hh]
    have Y0:l≠(s.heap.push { cls:=.type "set",dict:=none,data:=.set #[] 0 (.fresh 0 0 led) }).objs.size:=by rw[xI];exact yQ (jN hlS)
    have hSf:s.heap.objs.size∉[(s.heap.push { cls:=.type "set",dict:=none,data:=.set #[] 0 (.fresh 0 0 led) }).objs.size,l]:=by
     rw[xI];simp?[zQ,yF,xS,not_or];exact⟨yQ (kP _),jH hlS⟩
    have Y1:∀ (i:Nat) (v:Value),its[i]?=some v->∃t,v=.int ((λi=>ns.getD i 0) i) t:=λi v hv=>IntsAre.int_at hi i v (by rw[Array.getElem?_toList];exact hv);refine codeAny_set_update_loopS ((Walks.tuple hh3 _ l Y0 its).toS) s.heap.objs.size hSf (λi=>ns.getD i 0) Y1 hb (its.size - 0) 0 _ (by lia) (xU _) ⟨⟨_,zX _ rfl,rfl,rfl⟩,?ht⟩ ?hS0 ?hR
    case ht=>exact⟨_,zU _ Xi,rfl,nl,rfl⟩
    case hS0 =>
     have Y2:((s.heap.push { cls:=.type "set",dict:=none,data:=.set #[] 0 (.fresh 0 0 led) }).push { cls:=.type "tuple_iterator",data:=.fields #[.ref l,.int 0 0] }).get? s.heap.objs.size=some { cls:=.type "set",dict:=none,data:=.set #[] 0 (.fresh 0 0 led) }:=by exact zU _ hS
     exact SetOf_congr ((setObjOf_fresh (knd:=intKind prog w) led).setOf Y2 (by unfold scanBound;lia)) (λ_=>rfl) rfl
    case hR =>
     intro s' hm Y3;let⟨h',g',d',tk',Yx⟩:=s';have eg:g'=s.gens:=hm.gens;have ed:d'=s.drawn:=hm.drawn;have eo:Yx=s.os:=hm.os;subst eg ed eo;show wpAny _ _ _ _ _ _;refine zW ?_;show wpAny _ _ (ret Value.none) _ _ _;refine zW ⟨rfl,h',tk',rfl,Y3,λb o Th e=>?_⟩;refine hm.heap b o ?_ (zU _ (zU _ e));simp?[zQ,yF,xS,not_or];exact⟨yQ Th,by rw[xI];exact yQ (jN Th)⟩
   ·cases r2 with
    | error e=>exact YZ
    | ok fl2 =>
     cases fl2 with
     | ret r =>
      let⟨rfl,h',tk,rfl,Y3,Uw⟩:=YZ
      repeat (any_goals (first|assumption|wp_step))
      exact h _ _ Y3 Uw
     | _=>exact YZ.elim
  | _=>exact hr.elim
end En
namespace Dl
open PySem L2 PySem.Spec PyProof.Rows
def many(ns:List Int):Nat:=(firstMet (λi=>ns.getD i 0) ns.length).length
def C9(hc:X.calm=true):eO X (.type "set") (λxs H Q=>∃ (a:Addr) (ns:List Int),xs=[.ref a]/\fM X.K H a (ns.map V.int)/\ns.length+1 < scanBound/\∀q S,H q=none->Q (.ref q) (upd H q (.set S (many ns)))):=by
 intro pins s σ H xs us Q I r h;let⟨a,ns,rfl,hq,hb,q⟩:=h;let⟨u,rfl,rx⟩:=vals1 r;cases rx;let⟨its,rv,pl,hz⟩:=I.tuple hq;have hi:IntsAre its.toArray.toList ns:=intsAre_of rv;have hlen:its.toArray.size=ns.length:=by have:=rv.length;simpa using this.symm
 refine En.UC (I.ok.hd hc) (show s.heap.IsTuple a its.toArray from pl) hi (by rw[hlen];exact hb) λh' tk hS hk=>?_;rw[hlen] at hS;exact⟨.ref s.heap.objs.size,_,I.laid (t':=tk) (λb o e=>hk b o (zY e) e) (yL _) (show dS X.prog X.w _ h' _ (.set _ (many ns)) from hS),rfl,q _ _ I.fresh⟩
def C7:eO X (.builtin "len") (λxs H Q=>∃ (a:Addr) (S:Int->Bool) (n:Nat),xs=[.ref a]/\H a=some (.set S n)/\Q (.int n) H):=by
 intro pins s σ H xs us Q I r h;let⟨a,S,n,rfl,hq,q⟩:=h;let⟨u,rfl,rx⟩:=vals1 r;cases rx;let⟨o,es,ep,t,ho,hex,hd,hel,UZ,R6,hf,hn⟩:=(show s.heap.SetOf (intKind X.prog X.w) a S n from I.RO a _ hq)
 have TX:((es.size:Nat):Int) < 2 ^ 63:=by unfold scanBound at R6;lia
 refine call_len_set ho hex hd hf TX ⟨.int n,H,I.tok _,⟨s.toks+1,by rw[hn]⟩,q⟩
def kg:D->Option D:=λd=>(kl d).bind λns=>if ns.length+1 < scanBound then some (.int (many ns)) else none
def Da(hc:X.calm=true)(B:qh X "len" (.builtin "len"))(C:qh X "set" (.type "set"))(h:DE X e f)(he:starEach [e] X.env=(false,eval e X.env)::starEach [] X.env:=by rfl) :
  DE X (.Call (.Name "len" p) [.Call (.Name "set" p') [e] [] pos'] [] pos) (f1 kg f) :=
 aV (mP C7 B.gl B.mg B.bt (bR (nH (C9 hc) C.gl C.mg C.bt (bR h dU he) (by decide) (by decide) he rfl) dU) (by decide) (by decide) rfl rfl) λσ H Q ⟨HF,ρ,d,sm,eo,hf,q⟩=>by
  let⟨x,hx,hf⟩:=bs hf;let⟨ns,h1,hf⟩:=bs hf;split at hf
  ·rename_i hb;cases hf;refine⟨HF,ρ,x,sm,eo,hx,λv1 H1 RP g1 r1=>?_⟩;rw[l7 h1] at r1;simp?[Rep] at r1;let⟨a,vs,rfl,hs,rr⟩:=r1;have key:∀ {ns:List Int}{ws:List V},ay X.K RP (ns.map PyData.int) ws->ws=ns.map V.int:=λ{ns}=>by
    induction ns with
    | nil=>exactλh=>h.nil_inv
    | cons n ns ih =>
     intro ws h;let⟨v,r,rfl,a,b⟩:=h.cons_inv;simp?[Rep] at a;rw[a,ih b];rfl
   have:=key rr;subst this;refine⟨a,ns,rfl,aD g1.fh hs,hb,λb S Th=>⟨b,S,_,rfl,aG,q _ _ RP (g1.trans (.own g1.fh Th)) (by simp[Rep])⟩⟩
  ·cases hf
def j4(val:Nat->Int):∀i,(firstMet val i).length=i↔((List.range i).map val).Nodup
 | 0=>by simp[firstMet]
 | i+1=>by
  have hle:=firstMet_length_le val i;rw[firstMet_succ,step_length,List.range_succ,qZ,Ze];have ha:=firstMet_any val i (val i);have ih:=j4 val i;constructor
  ·intro h;by_cases UJ:(firstMet val i).any (· == val i)=true
   ·rw[yK UJ] at h;lia
   ·rw[yM UJ] at h;refine⟨ih.mp (by lia),by simp,λa hm b hb z=>?_⟩;have Th:b=val i:=by simpa using hb
    subst z Th;rw[ha] at UJ;exact UJ (List.any_eq_true.mpr ⟨_,hm,by simp⟩)
  ·rintro⟨h1,_,h3⟩;rw[yM ?_]
   ·rw[ih.mpr h1]
   ·rw[ha];intro UJ;let⟨x,hx,he⟩:=List.any_eq_true.mp UJ;have Wf:x=val i:=by simpa using he
    exact h3 x hx (val i) (by simp) Wf
def AI(ns:List Int):many ns=ns.length↔ns.Nodup:=by
 unfold many;rw[j4];have:(List.range ns.length).map (λi=>ns.getD i 0)=ns:=jz ns 0;rw[this]
def yq{K:W.Frag}(h:fF K r g)(h':fF K r' g'):fF K (λx y H Q=>r x y H Q\/r' x y H Q) (λx y=>(g x y).or (g' x y)):=by
 intro HF H x y v1 v2 d Q sm r1 r2 hg q;cases e:g x y with
 | some d' =>
  have hg:(g x y).or (g' x y)=some d:=hg;rw[e] at hg;cases hg;exact .inl (h HF H x y v1 v2 d Q sm r1 r2 e q)
 | none =>
  have hg:(g x y).or (g' x y)=some d:=hg;rw[e] at hg;exact .inr (h' HF H x y v1 v2 d Q sm r1 r2 hg q)
def CA{K:W.Frag}:fF K (EI K) (λx y=>(sP x y).map PyData.list):=by
 intro HF H x y v1 v2 d Q sm r1 r2 hg q;let⟨zs,Xj,rfl⟩:=ah hg;clear hg;cases x<;>cases y<;>simp?[sP] at Xj<;>try cases Xj
 let⟨rfl,hz⟩:=eF Xj;simp?[Rep] at r1 r2;let⟨a,vs,rfl,ha,ra⟩:=r1;let⟨b,us,rfl,hb,rb⟩:=r2;refine⟨a,b,vs,us,rfl,rfl,sm.seq ha,sm.seq hb,by rw[ra.length,rb.length,<- zN];exact hz,λp hp=>q _ _ _ (.new sm hp) ?_⟩;simp?[Rep];exact⟨p,_,rfl,.inl (.inl aG),(ra.append rb).mono (cF (sm.free hp))⟩
def aB:D->D->Option D:=λx y=>((sT (λ_ _=>True) λi j=>.int (i+j)) x y).or ((Jw x y).or ((sP x y).map PyData.list))
def Bk.add(C:Bk X N sc k)(ha:DE X a fa)(hb:DE X b fb):DE X (.BinOp a .Add b pos) (f2 aB fa fb):=wz (LP.or (CJ.or yl)) (yq D1 (yq Ju CA)) ha hb
def dh:D->D->Option D:=sT (λ_ _=>True) λi j=>.int (i - j)
def Bk.sub(C:Bk X N sc k)(ha:DE X a fa)(hb:DE X b fb):DE X (.BinOp a .Sub b pos) (f2 dh fa fb):=wz KP D1 ha hb
def cm:D->D->Option D:=λx y=>((sT pY λi j=>.int (i * j)) x y).or (pZ x y)
def Bk.mul(C:Bk X N sc k)(ha:DE X a fa)(hb:DE X b fb):DE X (.BinOp a .Mult b pos) (f2 cm fa fb):=wz (KG.or JL) (yq Fi ER) ha hb
def iW:D->D->Option D:=sT HM λi j=>.int (i / j)
def Bk.div(C:Bk X N sc k)(ha:DE X a fa)(hb:DE X b fb):DE X (.BinOp a .FloorDiv b pos) (f2 iW fa fb):=wz JC Fi ha hb
def g9:D->D->Option D:=sT (λ_ j=>0 < j) λi j=>.int (i % j)
def Bk.mod(C:Bk X N sc k)(ha:DE X a fa)(hb:DE X b fb):DE X (.BinOp a .Mod b pos) (f2 g9 fa fb):=wz K1 Fi ha hb
def A1:D->D->Option D:=sT (λ_ _=>True) λi j=>.bool (decide (i < j))
def B1:D->D->Option D:=sT (λ_ _=>True) λi j=>.bool (decide (i<=j))
def nA:D->D->Option D:=sT (λ_ _=>True) λi j=>.bool (decide (j < i))
def aY:D->D->Option D:=λx y=>(Kb x y).map PyData.bool
def cR:D->D->Option D:=λx y=>(GW x y).map PyData.bool
def k7:D->D->Option D:=λx y=>(On x y).map PyData.bool
def Bk.Yd(C:Bk X N sc k):X.A.units+64 < cLine:=C.room.units
def Bk.Ye(C:Bk X N sc k):X.A.units+66 < cLine:=by have:=C.room.un;lia
def Bk.lt(C:Bk X N sc k)(ha:DE X a fa)(hb:DE X b fb):DE X (.Compare a [.Lt] [b] pos) (f2 A1 fa fb):=iL Ge jx ha hb (dY _)
def Bk.le(C:Bk X N sc k)(ha:DE X a fa)(hb:DE X b fb):DE X (.Compare a [.LtE] [b] pos) (f2 B1 fa fb):=iL DM jx ha hb (dY _)
def Bk.gt(C:Bk X N sc k)(ha:DE X a fa)(hb:DE X b fb):DE X (.Compare a [.Gt] [b] pos) (f2 nA fa fb):=iL J5 jx ha hb (dY _)
def Bk.eq(C:Bk X N sc k)(ha:DE X a fa)(hb:DE X b fb):DE X (.Compare a [.Eq] [b] pos) (f2 aY fa fb):=iL (FV C.Yd) j5 ha hb (dY _)
def Bk.ne(C:Bk X N sc k)(ha:DE X a fa)(hb:DE X b fb):DE X (.Compare a [.NotEq] [b] pos) (f2 cR fa fb):=iL (GP C.Yd) j5 ha hb (dY _)
def Bk.isin(C:Bk X N sc k)(ha:DE X a fa)(hb:DE X b fb)(hm:behindInMarks .In b=false:=by rfl):DE X (.Compare a [.In] [b] pos) (f2 k7 fa fb):=iL (E3 C.Ye) j5 ha hb hm
def Bk.tlt(C:Bk X N sc k)(ha:DE X a fa)(hb:DE X b fb):DT X (.Compare a [.Lt] [b] pos) (fB (f2 A1 fa fb)):=ir Ge jx ha hb (dY _)
def Bk.tle(C:Bk X N sc k)(ha:DE X a fa)(hb:DE X b fb):DT X (.Compare a [.LtE] [b] pos) (fB (f2 B1 fa fb)):=ir DM jx ha hb (dY _)
def Bk.tgt(C:Bk X N sc k)(ha:DE X a fa)(hb:DE X b fb):DT X (.Compare a [.Gt] [b] pos) (fB (f2 nA fa fb)):=ir J5 jx ha hb (dY _)
def Bk.Ti(C:Bk X N sc k)(ha:DE X a fa)(hb:DE X b fb):DT X (.Compare a [.Eq] [b] pos) (fB (f2 aY fa fb)):=ir (FV C.Yd) j5 ha hb (dY _)
def Bk.tne(C:Bk X N sc k)(ha:DE X a fa)(hb:DE X b fb):DT X (.Compare a [.NotEq] [b] pos) (fB (f2 cR fa fb)):=ir (GP C.Yd) j5 ha hb (dY _)
def Bk.tin(C:Bk X N sc k)(ha:DE X a fa)(hb:DE X b fb)(hm:behindInMarks .In b=false:=by rfl):DT X (.Compare a [.In] [b] pos) (fB (f2 k7 fa fb)):=ir (E3 C.Ye) j5 ha hb hm
def cw:D->Option Int->Option Int->Option D|.tuple ds,lo,hi=>some (.tuple (cut ds lo hi))|.list ds,lo,hi=>some (.list (cut ds lo hi))|_,_,_=>none
def Bk.cut(C:Bk X N sc k){lo:Option Expr}{fl:Env->Option (Option Int)}(ha:DE X a fa)(hl:DO X lo fl)(hh:DO X hi fh):DE X (.Subscript a (.Slice lo hi none p2) pos) (eA cw fa fl fh):=aV (Fp (MO.or Hw) ha hl hh) λσ H Q ⟨HF,ρ,d,sm,eo,hf,q⟩=>by
 let⟨x,hx,hf⟩:=bs hf;let⟨l,hl,hf⟩:=bs hf;let⟨u,hu,hf⟩:=bs hf;refine⟨HF,ρ,x,sm,eo,hx,λv1 H1 RP g1 r1=>⟨RP,ρ,l,g1.fh,eo.mono g1.ff,hl,λH2 R1 g2=>⟨R1,ρ,u,g2.fh,eo.mono (g1.ff.trans g2.ff),hu,λH3 Sw g3=>?_⟩⟩⟩;have G:=(g1.trans g2).trans g3;have r3:=r1.mono (g2.ff.trans g3.ff);cases x<;>try cases hf
 ·simp?[Rep] at r3;let⟨b,vs,rfl,hs,rr⟩:=r3;refine .inr ⟨b,vs,rfl,G.fh.seq hs,λp hp=>q _ _ _ (G.trans (.new G.fh hp)) ?_⟩;simp?[Rep];exact⟨p,_,rfl,.inl (.inl aG),(pK rr l u).mono (cF (G.fh.free hp))⟩
 ·simp?[Rep] at r3;let⟨b,vs,rfl,hs,rr⟩:=r3;refine .inl ⟨b,vs,rfl,aD G.fh hs,λe=>q _ H3 Sw G ?_,λp hp=>q _ _ _ (G.trans (.new G.fh hp)) (dF (G.fh.free hp) (pK rr l u))⟩;simp?[Rep];refine⟨b,vs,rfl,hs,?_⟩;have:=pK rr l u;rw[e] at this;exact this
def eQ:D->Option D|.int i=>some (.int (-i))|_=>none
def Bk.neg(C:Bk X N sc k)(ha:DE X a fa):DE X (.UnaryOp .USub a pos) (f1 eQ fa):=aV (Kp EN ha) λσ H Q ⟨HF,ρ,d,sm,eo,hf,q⟩=>by
 let⟨x,hx,hf⟩:=bs hf;refine⟨HF,ρ,x,sm,eo,hx,λv1 H1 RP g1 r1=>?_⟩;cases x<;>try cases hf
 exact⟨_,by simpa only[Rep] using r1,q _ H1 RP g1 (by simp[Rep])⟩
def GA:bootBuiltins "len"=some (.builtin "len"):=by decide +kernel
def rA:bootBuiltins "isinstance"=some (.builtin "isinstance"):=by decide +kernel
def GU:bootBuiltins "tuple"=some (.type "tuple"):=by decide +kernel
def HR:bootBuiltins "list"=some (.type "list"):=by decide +kernel
def Gq:bootBuiltins "range"=some (.type "range"):=by decide +kernel
def Mg:bootBuiltins "all"=some (.builtin "all"):=by decide +kernel
def Ll:bootBuiltins "set"=some (.type "set"):=by decide +kernel
def su:bootBuiltins "sorted"=some (.builtin "sorted"):=by decide +kernel
def uG:bootBuiltins "enumerate"=some (.type "enumerate"):=by decide +kernel
def La:bootBuiltins "zip"=some (.type "zip"):=by decide +kernel
abbrev cg(f:Env->Option (List D)):Env->Option D:=λρ=>(f ρ).map PyData.list
abbrev dD:List D->Option D:=λds=>(cy ds).map PyData.tuple
def Bk.Xl(C:Bk X N sc k)(h:decide (sc.names.lookup x=some .local)=true):X.env.scope.names.lookup x=some .local:=by
 rcases C.tb x _ (yP h) with q|⟨q,_⟩
 ·exact q
 ·cases q
def isStar:Expr->Bool|.Starred ..=>true|_=>false
def bC{env:PySem.Env}(h:isStar e=false):starEach (e::es) env=(false,eval e env)::starEach es env:=by
 cases e<;>first|rfl|cases h
def LN(he:DE X e f)(hs:DA X es g)(h:isStar e=false:=by rfl):DA X (e::es) (aa f g):=Bv he hs (bC h)
def qm{env:PySem.Env}:swapsWith (.ListComp elt gens scope pos) (some (.Name x py)) line env=pure (env.blockKind == .function&&env.kindOf x == some .local && py.line == pos.line
     &&!(scope.names.any λ(n,k)=>n == x&&(k == .local || k == .cell))):=rfl
def JS{env:PySem.Env}(h:env.scope.kind=.function):env.blockKind=.function:=by unfold PySem.Env.blockKind;rw[h];rfl
def Bk.swap(C:Bk X N sc k)(h:decide (sc.names.lookup x=some .local)=true)(h2:(py.line == pos.line&&!(scope.names.any λ(n,k)=>n == x&&(k == .local || k == .cell)))=true) :
  swapsWith (.ListComp elt gens scope pos) (some (.Name x py)) line X.env=pure true:=by
 rw[qm,JS C.kd,show X.env.kindOf x=some .local from C.Xl h];rw[Bool.and_assoc,h2];rfl
def Bk.Wg(C:Bk X N sc k)(h:decide (sc.names.lookup x=some .cell)=true) :
  swapsWith (.ListComp elt gens scope pos) (some (.Name x py)) line X.env=pure false:=by
 have q:X.env.kindOf x=some .cell:=by
  rcases C.tb x _ (yP h) with q|⟨q,_⟩
  ·exact q
  ·cases q
 rw[qm,q,JS C.kd];rfl
section
variable {K:W.Frag}
structure gw(K:W.Frag)(x:Str)(st:Stmt)(ps:List Str):Prop where
 ex:∃ (f:Addr) (fd:FuncData),W.nsIn K mainGlobals x=some (some (.ref f))/\EK K x x st f fd/\Binds K fd ps []
structure yy(K:W.Frag)(mg:Str->Option Value)(x:Str)(st:Stmt)(ps:List Str):Prop where
 ex:∃ (f:Addr) (fd:FuncData),mg x=some (.ref f)/\EK K x x st f fd/\Binds K fd ps []
def gw.mg{h:Heap}{mg:Str->Option Value}{st:Stmt}(D:gw K x st ps)(X:K.In h)(G:h.Ns mainGlobals mg):yy K mg x st ps:=by
 let⟨f,fd,a,b,c⟩:=D.ex;exact⟨f,fd,W.mg_of X G a,b,c⟩
def gL(st:Stmt)(ps:List Str):Prop:=∀ (x qual:Str) (kV doc pm:Value) (an:Option Addr) (R4 ct:Value) (us:List Value),us.length=ps.length->bindArgs (W.fnOf x qual (fE st) (bq st) (aj st) .none kV doc pm an R4 ct) ⟨us,[]⟩=pure (ps.zip us)
def Oj{st:Stmt}{kV:Value}(hb:gL st ps)(a:W.nsIn K mainGlobals x=some (some (.ref f)))(l:K.lookup f=some ⟨oc,od,.func (W.fnOf x x (fE st) (bq st) (aj st) .none kV doc pm an R4 ct),TV⟩)
  (c:W.codeIn K R4 x=true) (k:W.keepIn K (.ref f)=true):gw K x st ps:=⟨f,_,a,ur (st:=st) l c k,(ur (st:=st) l c k).binds λkV doc pm an R4 ct us h=>hb _ _ kV doc pm an R4 ct us h⟩
structure pQ(K:W.Frag)(x:Str)(st:Stmt)(ps:List Str):Prop where
 ex:∃ (f:Addr) (fd:FuncData) (c P:Addr),W.nsIn K mainGlobals x=some (some (.ref f))/\EK K x x st f fd/\Binds K fd ps []/\fd.code=.ref c/\W.codeHdIn K c P=true
structure Mn(K:W.Frag)(mg:Str->Option Value)(x:Str)(st:Stmt)(ps:List Str):Prop where
 ex:∃ (f:Addr) (fd:FuncData) (c P:Addr),mg x=some (.ref f)/\EK K x x st f fd/\Binds K fd ps []/\fd.code=.ref c/\W.codeHdIn K c P=true
def pQ.mg{h:Heap}{mg:Str->Option Value}{st:Stmt}(D:pQ K x st ps)(X:K.In h)(G:h.Ns mainGlobals mg):Mn K mg x st ps:=by
 let⟨f,fd,c,P,a,b⟩:=D.ex;exact⟨f,fd,c,P,W.mg_of X G a,b⟩
def Io(K:W.Frag)(c:Addr):Addr:=match K.lookup c with
 | some ⟨_,_,.fields vs,_⟩=>(match (vs[11]?:Option Value) with|some (.ref P)=>P|_=>0)
 | _=>0
def NM{st:Stmt}{kV:Value}(hb:gL st ps)(a:W.nsIn K mainGlobals x=some (some (.ref f)))(l:K.lookup f=some ⟨oc,od,.func (W.fnOf x x (fE st) (bq st) (aj st) .none kV doc pm an (.ref c) ct),TV⟩)
  (cd:W.codeIn K (.ref c) x=true) (k:W.keepIn K (.ref f)=true) (hh:W.codeHdIn K c (Io K c)=true):pQ K x st ps:=⟨f,_,c,Io K c,a,ur (st:=st) l cd k,(ur (st:=st) l cd k).binds λkV doc pm an R4 ct us h=>hb _ _ kV doc pm an R4 ct us h,rfl,hh⟩
def Lo{K:W.Frag}(h:(cG.all λx=>match W.nsIn K mainGlobals x with|some none=>true|_=>false)=true):∀x∈cG,W.nsIn K mainGlobals x=some none:=by
 intro x hx;have:=List.all_eq_true.mp h x hx;split at this
 ·assumption
 ·cases this
def zp{K:W.Frag}{H:Hp}{a:Addr}{ns:List Int}{m:List D->Option D}(hS:gH K H a (ns.map V.int))(hT:eh K H)(h:m [.list (ns.map PyData.int)]=some (.bool true)){X:_}:OH K 1 m [.ref a] H (λv _=>v=.bl true) X:=by
 refine⟨H,[.list (ns.map PyData.int)],.bool true,.refl _,hT,ay.cons ?_ ay.nil,rfl,h,λv H' RN G r=>by simpa only[Rep] using r⟩;simp?[Rep];refine⟨a,_,rfl,hS,?_⟩;clear h hS hT
 induction ns with
 | nil=>exact ay.nil
 | cons n ns ih=>exact ay.cons (by simp[Rep]) ih
end
def Pb(h:isStar e=false)(he:DE X e f)(hs:DA X es g):DA X (e::es) (aa f g):=LN he hs h
def M5:ar->Option Out:=λ_=>none
def Nr{st:Stmt}:DS X RL RM st M5:=λpins s σ H E I ⟨HF,ρ,o,S,hg,q⟩=>by cases hg
def fO(f:Env->Option D):ar->Option Out:=λρ=>(f (aJ ρ)).map λ_=>.nx ρ
def Hs(hs:swapsWith e none pos.line X.env=pure false)(h:DE X e f):DS X RL RM (.Expr e pos) (fO f):=bS (mE h hs) λE σ H ⟨HF,ρ,o,S,hg,q⟩=>by
 let⟨d,h,rfl⟩:=ah hg;exact⟨H,aJ ρ,d,.refl _,S.all,h,λv H' RN G r=>q σ H' HF (S.step G.hh) (.refl _)⟩
def BC(t:Env->Option Bool)(gb:ar->Option Out):Nat->ar->Option Out
 | 0,_=>none
 | n+1,ρ=>(t (aJ ρ)).bind λb=>if b=true then (gb ρ).bind fun|.nx ρ'=>BC t gb n ρ'|.rt d=>some (.rt d) else some (.nx ρ)
def Fj(n:Nat)(hp:PassesOwn (model X.prog X.w) X.A X.env X.xe)(hc:DT X c t)(hb:ym X RL RM body gb):DS X RL RM (.While c body [] pos) (BC t gb n) :=
 bS (Gr hp hc hb) λE σ H ⟨HF,ρ,o,S,hg,q⟩=>by
  refine⟨λm σ' H'=>∃RN ρ',gm X.K RL RM RN H' ρ' σ'/\aR HF RN/\BC t gb m ρ'=some o,⟨n,HF,ρ,S,.refl _,hg⟩,?_⟩;rintro m σ' H' ⟨RN,ρ',S',s',hf⟩;cases m with
  | zero=>cases hf
  | succ m =>
   unfold BC at hf;let⟨b,hb,hf⟩:=bs hf;refine⟨H',aJ ρ',b,.refl _,S'.all,hb,λH1 RP G=>?_⟩;cases b with
   | false =>
    rw[yM yY] at hf ⊢;cases hf;exact q σ' H1 RN (S'.step G.hh) s'
   | true =>
    rw[yK rfl] at hf ⊢;let⟨o1,h2,hf⟩:=bs hf;refine⟨λUg H3=>∃Sw Vm,gm X.K RL RM Sw H3 Vm Ug/\aR HF Sw/\BC t gb m Vm=some o,λUg H3 ⟨Sw,Vm,a1,a2,a3⟩=>⟨m,kP _,Sw,Vm,a1,a2,a3⟩,RN,ρ',o1,S'.step G.hh,h2,?_⟩;cases o1 with
    | nx Tp=>exactλσ4 H4 Tf S4 s4=>⟨Tf,Tp,S4,s'.trans s4,hf⟩
    | rt d=>cases hf;exact q
def CZ:List D->Option D
 | [.int a,.int b]=>some (.int (min a b))
 | [.int a,.int b,.int c]=>some (.int (min (min a b) c))
 | _=>none
def Ei(hc:X.calm=true):eO X (.builtin "min") (λxs H Q=>(∃a b:Int,xs=[.int a,.int b]/\Q (.int (min a b)) H)\/(∃a b c:Int,xs=[.int a,.int b,.int c]/\Q (.int (min (min a b) c)) H)):=by
 intro pins s σ H xs us Q I r h;have hh:X.A.handled=none:=I.ok.hd hc;rcases h with ⟨a,b,rfl,q⟩|⟨a,b,c,rfl,q⟩
 ·cases r with
  | cons r1 r =>
   cases r with
   | cons r2 r =>
    cases r;let⟨t,rfl⟩:=r1;let⟨u,rfl⟩:=r2;refine min_two_ints hh λh' tk kp=>⟨.int (min a b),H,I.kept (t':=tk) kp,?_,q⟩
    by_cases h:b < a
    ·rw[yK h,show min a b=b by lia];exact⟨_,rfl⟩
    ·rw[yM h,show min a b=a by lia];exact⟨_,rfl⟩
 ·cases r with
  | cons r1 r =>
   cases r with
   | cons r2 r =>
    cases r with
    | cons r3 r =>
     cases r;let⟨t,rfl⟩:=r1;let⟨u,rfl⟩:=r2;let⟨x,rfl⟩:=r3;refine min_three_ints hh λh' tk kp=>⟨.int (min (min a b) c),H,I.kept (t':=tk) kp,?_,q⟩
     by_cases h:b < a
     ·rw[yK h];by_cases h2:c < b
      ·rw[yK h2,show min (min a b) c=c by lia];exact⟨_,rfl⟩
      ·rw[yM h2,show min (min a b) c=b by lia];exact⟨_,rfl⟩
     ·rw[yM h];by_cases h2:c < a
      ·rw[yK h2,show min (min a b) c=c by lia];exact⟨_,rfl⟩
      ·rw[yM h2,show min (min a b) c=a by lia];exact⟨_,rfl⟩
def vj{K:W.Frag}(r:Rep K H d v):∀ {ds:List D}{vs:List V}(j:Nat),ay K H ds vs->ay K H (ds.set j d) (vs.set j v)
 | [],vs,j,h=>by rw[h.nil_inv];exact ay.nil
 | x::ds,vs,j,h=>by
  let⟨u,us,rfl,a,b⟩:=h.cons_inv;cases j with
  | zero=>exact ay.cons r b
  | succ j=>exact ay.cons a (vj r j b)
def FU(i:Nat)(fz:List Nat)(fk f:Env->Option D):ar->Option Out:=λρ=>(md fz f ρ).bind λp=>(fk (aJ p.2)).bind λkd=>match kd with
 | .int k=>mO i (λds=>(E2 ds.length k).map λj=>ds.set j p.1) p.2
 | _=>none
def GT(i:Nat)(fz:List Nat)(hN:X.N[i]?=some x)(hv:AS X.env.scope x)(hk:DE X e fk)(h:DE X e2 f)(hd:(x == ("__debug__":Str))=false:=by decide)(Se:(x == ("__classdict__":Str))=false:=by decide)
  (ha:∀v,assign (.Subscript (.Name x px) e Sh) X.env v=(do
   let ov <- holding [v] (eval (.Name x px) X.env)
   let iv <- holding [v,ov] (eval e X.env)
   standAt Sh
   holding [v,ov,iv] (setItem ov iv v)
   release [v,ov,iv] []):=by intro _;rfl)
  (hs:swapsWithSole [.Subscript (.Name x px) e Sh] e2 pos.line X.env=pure false:=by rfl) (hw:swappedStores [.Subscript (.Name x px) e Sh] e2 X.env=pure none:=by rfl)
  (h1:(assignEach [.Subscript (.Name x px) e Sh] X.env).map (·.2)=[assign (.Subscript (.Name x px) e Sh) X.env]:=by rfl):DS X RL RM (.Assign [.Subscript (.Name x px) e Sh] e2 pos) (FU i fz fk f) :=
 bS (zx h (DB (e9 hN hv hd Se) hk set_list ha) hs hw h1) λE σ H ⟨HF,ρ,o,S,hg,q⟩=>by
  let⟨⟨d,ρ'⟩,h1,hg⟩:=bs hg;let⟨kd,h2,hg⟩:=bs hg;cases kd<;>try cases hg
  rename_i k;let⟨ds,es,h3,h4,rfl⟩:=ke hg;let⟨j,hj,rfl⟩:=ah h4;refine nB S h1 λv H1 RP s1 S1 s2 r=>?_;let⟨a,vs,e1,e2,e3,e5,e4⟩:=S1.own i ds h3;refine⟨.ref a,e1,H1,aJ ρ',.int k,.refl _,S1.all,h2,λkv H2 R1 G rk=>?_⟩;simp?[Rep] at rk;have S2:=S1.step G.hh;let⟨a',VF,f1,f2,f3,f5,f4⟩:=S2.own i ds h3;rw[e1] at f1;cases f1;exact⟨a,VF,k,j,rfl,rk,f2,by rw[f4.length];exact hj,q σ _ RP (S2.mut h3 e1 f2 (vj r j f4)) s1⟩
def OF:D->Bool|.none=>true|_=>false
def oN{K:W.Frag}(r:Rep K HF d v):decide (v=.RK)=OF d:=by
 cases d<;>simp?[Rep] at r<;>first
  | (subst r;rfl)
  | (let⟨a,vs,rfl,_⟩:=r;rfl)
  | exact r.elim
def k9:D->D->Option D:=λx y=>if OF y=true then some (.bool (OF x)) else match x,y with
 | .bool a,.bool b=>some (.bool (a == b))
 | _,_=>none
def i8:D->D->Option D:=λx y=>if OF y=true then some (.bool (!OF x)) else match x,y with
 | .bool a,.bool b=>some (.bool (!(a == b)))
 | _,_=>none
def Gi{X:Cx}:gp X (compareOp .Is) (λx y H Q=>∃a b,x=.bl a/\y=.bl b/\Q (.bl (a == b)) H):=by
 intro pins s σ H x y v u Q I rx ry q;let⟨a,b,rfl,rfl,q⟩:=q;cases rx;cases ry;exact wpAny_is_plain rfl ⟨.bl _,H,I,rfl,by cases a<;>cases b<;>exact q⟩
def B4{X:Cx}:gp X (compareOp .IsNot) (λx y H Q=>∃a b,x=.bl a/\y=.bl b/\Q (.bl (!(a == b))) H):=by
 intro pins s σ H x y v u Q I rx ry q;let⟨a,b,rfl,rfl,q⟩:=q;cases rx;cases ry;exact wpAny_isNot_plain rfl ⟨.bl _,H,I,rfl,by cases a<;>cases b<;>exact q⟩
def Bu{K:W.Frag}:fF K (λx y H Q=>(y=.RK/\Q (.bl (decide (x=.RK))) H)\/∃a b,x=.bl a/\y=.bl b/\Q (.bl (a == b)) H) k9:=by
 intro HF H x y v1 v2 d Q sm r1 r2 hg q;unfold k9 at hg;split at hg
 ·rename_i h;cases hg;have h2:=oN r2;rw[h,zJ] at h2;refine .inl ⟨h2,?_⟩;rw[oN r1];exact q _ H HF (.refl sm) (by simp[Rep])
 ·split at hg
  ·cases hg;simp?[Rep] at r1 r2;exact .inr ⟨_,_,r1,r2,q _ H HF (.refl sm) (by simp[Rep])⟩
  ·cases hg
def yk{K:W.Frag}:fF K (λx y H Q=>(y=.RK/\Q (.bl (!decide (x=.RK))) H)\/∃a b,x=.bl a/\y=.bl b/\Q (.bl (!(a == b))) H) i8:=by
 intro HF H x y v1 v2 d Q sm r1 r2 hg q;unfold i8 at hg;split at hg
 ·rename_i h;cases hg;have h2:=oN r2;rw[h,zJ] at h2;refine .inl ⟨h2,?_⟩;rw[oN r1];exact q _ H HF (.refl sm) (by simp[Rep])
 ·split at hg
  ·cases hg;simp?[Rep] at r1 r2;exact .inr ⟨_,_,r1,r2,q _ H HF (.refl sm) (by simp[Rep])⟩
  ·cases hg
def Bk.is0(C:Bk X N sc k)(ha:DE X a fa)(hb:DE X b fb):DE X (.Compare a [.Is] [b] pos) (f2 k9 fa fb):=iL (DL.or Gi) Bu ha hb (dY _)
def Bk.Y4(C:Bk X N sc k)(ha:DE X a fa)(hb:DE X b fb):DE X (.Compare a [.IsNot] [b] pos) (f2 i8 fa fb):=iL (Bl.or B4) yk ha hb (dY _)
def Bk.Y5(C:Bk X N sc k)(ha:DE X a fa)(hb:DE X b fb):DT X (.Compare a [.Is] [b] pos) (fB (f2 k9 fa fb)):=ir (DL.or Gi) Bu ha hb (dY _)
def Bk.Xm(C:Bk X N sc k)(ha:DE X a fa)(hb:DE X b fb):DT X (.Compare a [.IsNot] [b] pos) (fB (f2 i8 fa fb)):=ir (Bl.or B4) yk ha hb (dY _)
def LW(hc:X.calm=true)(B:qh X "min" (.builtin "min"))(he:starEach (e::es) X.env=(false,eval e X.env)::starEach es X.env)(Sv:(backTo pos (starEach es X.env)).any (·.1)=false)(ha:DA X (e::es) fs):DE X (.Call (.Name "min" p) (e::es) [] pos) (bz CZ fs) :=
 jo (Ei hc) (by
  intro HF H ds vs d Q sm r hg q;unfold CZ at hg;split at hg
  ·cases hg;let⟨v1,r1,rfl,a1,b1⟩:=r.cons_inv;let⟨v2,r2,rfl,a2,b2⟩:=b1.cons_inv;rw[b2.nil_inv];simp?[Rep] at a1 a2;exact .inl ⟨_,_,by rw[a1,a2],q _ H HF (.refl sm) (by simp[Rep])⟩
  ·cases hg;let⟨v1,r1,rfl,a1,b1⟩:=r.cons_inv;let⟨v2,r2,rfl,a2,b2⟩:=b1.cons_inv;let⟨v3,r3,rfl,a3,b3⟩:=b2.cons_inv;rw[b3.nil_inv];simp?[Rep] at a1 a2 a3;exact .inr ⟨_,_,_,by rw[a1,a2,a3],q _ H HF (.refl sm) (by simp[Rep])⟩
  ·cases hg) B ha (by decide) (by decide) he Sv
section
variable {fl fs:Env->Option (List D)}
def BQ(ds:List D):D->Option (List D)
 | .int k=>if uN k=true/\ds.length * k.toNat<=sizeLine then some (List.replicate k.toNat ds).flatten else none
 | _=>none
def nW(fl:Env->Option (List D))(fb:Env->Option D):Env->Option (List D):=λρ=>(fl ρ).bind λds=>(fb ρ).bind (BQ ds)
def MQ(ha:DF X a fl)(hb:DE X b fb):DF X (.BinOp a .Mult b pos) (nW fl fb):=aV (DH Ld ha hb) λσ H Q ⟨HF,ρ,d,sm,eo,hf,q⟩=>by
 let⟨ds,hx,hf⟩:=bs hf;let⟨y,hy,hg⟩:=bs hf;refine⟨HF,ρ,ds,sm,eo,hx,λl vs H1 RP g1 h0 hn h1 r1=>⟨RP,ρ,y,g1.fh,eo.mono g1.ff,hy,λv2 H2 R1 g2 r2=>?_⟩⟩;cases y<;>try cases hg
 rename_i k;have hg:(if uN k=true/\ds.length * k.toNat<=sizeLine then some (List.replicate k.toNat ds).flatten else none)=some d:=hg;split at hg
 ·rename_i hz;cases hg;simp?[Rep] at r2;have r1:=r1.mono g2.ff;have G:=g1.trans g2;have ok:=hz.1;simp?[uN,zF,zJ] at ok;exact⟨l,k,vs,rfl,r2,g2.hh _ _ h1,by lia,by lia,by rw[r1.length];exact hz.2,λp hp=>q p _ _ R1 (G.trans (.own G.fh hp)) (G.hh.free hp) (G.fh.free hp) aG (mI r1 _)⟩
 ·cases hg
def Ak(hc:X.calm=true):eO X (.builtin "any") (λxs H Q=>∃ (a:Addr) (bs:List Bool),xs=[.ref a]/\gH X.K H a (bs.map V.bl)/\Q (.bl (bs.any id)) H):=by
 intro pins s σ H xs us Q I r h;let⟨a,bs,rfl,hq,q⟩:=h;let⟨u,rfl,rx⟩:=vals1 r;cases rx;let⟨its,rv,pl,hz⟩:=I.list hq;have hv:=lD rv;subst hv;have hh:X.A.in1.handled=none:=I.ok.hd hc;refine call_any_walk (qJ pl.isList ?_);let⟨o,ho,SJ,n,hd⟩:=pl.isList;have So:a≠s.heap.objs.size:=yQ (zY ho);refine⟨_,_,_,_,_,_,λi=>bs.getD i false,rfl,Walks.list hh s.heap.objs.size a So (bs.map Value.bool).toArray,⟨⟨_,zX _ rfl,rfl,rfl⟩,pl.isList.push _⟩,λi v s' Q' E' hP hQ=>?_,λh' tk kp=>?_⟩
 ·have e:v=Value.bool (bs.getD i false):=by
   have hP:(bs.map Value.bool).toArray[i]?=some v:=hP;rw[wD,zO] at hP;let⟨b,hb,rfl⟩:=ah hP;rw[zG,hb];rfl
  subst e;exact xV hQ
 ·refine⟨.bl (bs.any id),H,?_,?_,q⟩
  ·exact I.kept (t':=tk) λb o' e=>kp b o' (by simp;exact yQ (zY e)) (zU _ e)
  ·show Value.bool _=Value.bool _;have:=range_any bs;simp?[zH,zD];rw[this]
end
def ML(hc:X.calm=true)(B:qh X "any" (.builtin "any"))(he:starEach [e] X.env=(false,eval e X.env)::starEach [] X.env)(ha:DA X [e] fs):DE X (.Call (.Name "any" p) [e] [] pos) (bz (λds=>(oneOf ds).bind λd=>match d with
 | .list es=>(boolsOf es).map λbs=>.bool (bs.any id)
 | _=>none) fs) :=
 jo (Ak hc) (by
  intro HF H ds vs d Q sm r hg q;let⟨x,hx,hg⟩:=bs hg;rw[gf hx] at r;cases x<;>try cases hg
  let⟨bs,hb,rfl⟩:=ah hg;let⟨v,r',rfl,a,b⟩:=r.cons_inv;rw[b.nil_inv];simp?[Rep] at a;let⟨p,us,rfl,h,rr⟩:=a;rw[iu hb] at rr;have:=eE rr;subst this;exact⟨p,bs,rfl,sm.seq h,q _ H HF (.refl sm) (by simp[Rep])⟩) B ha (by decide) (by decide) he rfl
def nZ(ns:List Int):∀j:Nat,preSum (λi=>ns.getD i 0) j=(ns.take j).sum
 | 0=>by simp[preSum]
 | j+1=>by
  rw[preSum,nZ ns j,List.take_add_one,List.sum_append]
  congr 1
  rw[zG];cases ns[j]?<;>simp
def rX(val:Nat->Int)(B:Int)(h:∀i,-B<=val i/\val i<=B):∀j:Nat,-(B * j)<=preSum val j/\preSum val j<=B * j
 | 0=>by simp[preSum]
 | j+1=>by
  have ih:=rX val B h j;have:=h j;rw[preSum];have e:B * ((j+1:Nat):Int)=B * (j:Int)+B:=by rw[Int.natCast_add,Int.mul_add];simp
  rw[e];lia
def Ka(ns:List Int):Bool:=decide (ns.length<=1000)&&ns.all λn=>decide (-1000000<=n)&&decide (n<=1000000)
def KC(h:Ka ns=true):ns.length<=1000/\∀i,-1000000<=ns.getD i 0/\ns.getD i 0<=1000000:=by
 unfold Ka at h;rw[zF,zJ,xF] at h;refine⟨h.1,λi=>?_⟩;rw[zG];cases e:ns[i]? with
 | none=>simp
 | some n =>
  have:=h.2 n (qA e);simpa using this
def oS{ns:List Int}{its:List Value}(r:aL (ns.map V.int) its){i:Nat}(h:its.toArray[i]?=some v):∃t,v=.int (ns.getD i 0) t:=by
 rw[wD] at h
 induction ns generalizing its i with
 | nil=>cases r;simp at h
 | cons n ns ih =>
  cases r with
  | cons r1 rr =>
   cases i with
   | zero =>
    simp?[xP,yJ] at h;subst h;let⟨t,rfl⟩:=r1;exact⟨t,rfl⟩
   | succ i =>
    simp?[yX] at h;exact ih rr h
def AE(hc:X.calm=true):eO X (.builtin "sum") (λxs H Q=>∃ (a:Addr) (ns:List Int),xs=[.ref a]/\(gH X.K H a (ns.map V.int)\/fM X.K H a (ns.map V.int))/\Ka ns=true/\Q (.int ns.sum) H):=by
 intro pins s σ H xs us Q I r h;let⟨a,ns,rfl,hq,RO,q⟩:=h;let⟨u,rfl,rx⟩:=vals1 r;cases rx;have hh:X.A.in1.handled=none:=I.ok.hd hc;let⟨hlen,Yg⟩:=KC RO;have UJ:∀n:Nat,n<=1000->∀j,j < n->InLong ((λi=>ns.getD i 0) j)/\InLong (preSum (λi=>ns.getD i 0) (j+1)):=λn hn j hj=>by
  have h1:=Yg j;have h2:=rX (λi=>ns.getD i 0) 1000000 Yg (j+1);refine⟨⟨?_,?_⟩,?_,?_⟩
  ·show -(2 ^ 63)<=ns.getD j 0;lia
  ·show ns.getD j 0 < 2 ^ 63;lia
  ·lia
  ·lia
 have Xn:preSum (λi=>ns.getD i 0) ns.length=ns.sum:=by rw[nZ,List.take_length]
 rcases hq with hq|hq
 ·let⟨its,rv,pl,hz⟩:=I.list hq;have hl:its.length=ns.length:=by rw[<- rv.length,zD]
  refine call_sum_walk (qJ pl.isList ?_);let⟨o,ho,SJ,n,hd⟩:=pl.isList;have R6:=zY ho;have So:a≠s.heap.objs.size:=yQ R6;refine⟨_,_,_,_,_,_,λi=>ns.getD i 0,rfl,Walks.list hh s.heap.objs.size a So its.toArray,⟨⟨_,zX _ rfl,rfl,rfl⟩,pl.isList.push _⟩,λb hb=>?_,λi v hP=>oS rv hP,by rw[zH,hl];exact UJ _ hlen,λh' tk t' kp=>?_⟩
  ·show b < (s.heap.push _).objs.size;rw[xI];simp?[zQ,yF,xS] at hb;rcases hb with rfl|rfl
   ·exact kP _
   ·exact jN R6
  ·refine⟨.int ns.sum,H,I.kept (t':=tk) λb o' e=>kp b o' (by simp;exact yQ (zY e)) (zU _ e),⟨t',?_⟩,q⟩;rw[zH,hl,Xn]
 ·let⟨its,rv,pl,hz⟩:=I.tuple hq;have pl:s.heap.IsTuple a its.toArray:=pl;have hl:its.length=ns.length:=by rw[<- rv.length,zD]
  refine call_sum_walk (xQ pl ?_);let⟨o,ho,SJ,n,hd⟩:=id pl;have R6:=zY ho;have So:a≠s.heap.objs.size:=yQ R6;refine⟨_,_,_,_,_,_,λi=>ns.getD i 0,rfl,Walks.tuple hh s.heap.objs.size a So its.toArray,⟨⟨_,zX _ rfl,rfl,rfl⟩,pl.push _⟩,λb hb=>?_,λi v hP=>oS rv hP,by rw[zH,hl];exact UJ _ hlen,λh' tk t' kp=>?_⟩
  ·show b < (s.heap.push _).objs.size;rw[xI];simp?[zQ,yF,xS] at hb;rcases hb with rfl|rfl
   ·exact kP _
   ·exact jN R6
  ·refine⟨.int ns.sum,H,I.kept (t':=tk) λb o' e=>kp b o' (by simp;exact yQ (zY e)) (zU _ e),⟨t',?_⟩,q⟩;rw[zH,hl,Xn]
def rh:List D->Option D:=λds=>(cy ds).bind λes=>(intsOf es).bind λns=>if Ka ns=true then some (.int ns.sum) else none
def ib{K:W.Frag}:∀ {ns:List Int}{vs:List V},ay K H (ns.map PyData.int) vs->vs=ns.map V.int
 | [],vs,h=>h.nil_inv
 | b::bs,vs,h=>by
  let⟨v,r,rfl,a,c⟩:=h.cons_inv;simp?[Rep] at a;rw[a,ib c];rfl
def LK(hc:X.calm=true)(B:qh X "sum" (.builtin "sum"))(he:starEach [e] X.env=(false,eval e X.env)::starEach [] X.env)(ha:DA X [e] fs):DE X (.Call (.Name "sum" p) [e] [] pos) (bz rh fs) :=
 jo (AE hc) (by
  intro HF H ds vs d Q sm r hg q;let⟨es,h1,hg⟩:=bs hg;let⟨ns,h2,hg⟩:=bs hg;have hg:(if Ka ns=true then some (PyData.int ns.sum) else none)=some d:=hg;split at hg
  ·rename_i RO;cases hg;have e2:=dP h2;subst e2;rcases gC h1 with rfl|rfl
   all_goals
    let⟨v,r',rfl,a,b⟩:=r.cons_inv;rw[b.nil_inv];simp?[Rep] at a;let⟨p,us,rfl,h,rr⟩:=a;have:=ib rr;subst this
   ·exact⟨p,ns,rfl,.inr (aD sm h),RO,q _ H HF (.refl sm) (by simp[Rep])⟩
   ·exact⟨p,ns,rfl,.inl (sm.seq h),RO,q _ H HF (.refl sm) (by simp[Rep])⟩
  ·cases hg) B ha (by decide) (by decide) he rfl
def M9(i:Int):Value->Bool|.int a _=>a == i|_=>false
def Cs:MV X "list.index" (λx vs H Q=>∃ (l:Addr) (ns:List Int) (i:Int) (j:Nat),x=.ref l/\vs=[.int i]/\gH X.K H l (ns.map V.int)/\ns[j]?=some i/\(∀m,m < j->ns[m]?≠some i)/\Q (.int j) H):=by
 intro pins s σ H x vs v us Q I rx rv h;let⟨l,ns,i,j,rfl,rfl,hq,hj,Vi,q⟩:=h;cases rx;let⟨u,rfl,ru⟩:=rv.one;let⟨t,rfl⟩:=ru;let⟨its,r,pl,hz⟩:=I.list hq;let⟨⟨cls,dd,data,sl⟩,ho,hc,n,hd⟩:=id pl.isList;simp only at hc hd;subst hc hd;have hl:its.length=ns.length:=by rw[<- r.length,zD]
 have VM:j < ns.length:=(List.getElem?_eq_some_iff.mp hj).1;have VJ:ns.length<=sizeLine:=by rw[zD] at hz;exact hz
 have Y6:(sizeLine:Nat) < 2 ^ 62:=by decide
 have at_:∀m (hm:m < its.toArray.size),∃t',its.toArray[m]=.int (ns.getD m 0) t':=λm hm=>oS r (jY hm);refine qV F.slot_list_index ⟨_,ho,rfl⟩ F.entry_list_index (F.args_list_index_2 _ _) (PySem.SeqAt.list_indexAt l its.toArray n dd sl (.int i t) (M9 i) j (by rw[zH,hl];exact VM) (by lia) ?_ ?_) ⟨ho,?_,?_⟩
 ·let⟨t',e⟩:=at_ j (by rw[zH,hl];exact VM);rw[e,M9,zG,hj];simp
 ·intro m hm Xo;let⟨t',e⟩:=at_ m hm;have S7:m < ns.length:=by lia
  have:=Vi m Xo;rw[e,M9,zG];rw[zK S7] at this ⊢;simp?[qF,beq_eq_false_iff_ne];exactλh=>this (by rw[h])
 ·intro y hy;let⟨m,hm,rfl⟩:=Array.getElem_of_mem hy;let⟨t',e⟩:=at_ m hm;rw[e];exact PySem.SeqAt.EqAt.int_int _ _ _ _
 ·exact⟨.int j,H,I.tok _,⟨_,rfl⟩,q⟩
def vn(i:Int):List Int->Option Nat
 | []=>none
 | n::ns=>if n=i then some 0 else (vn i ns).map (·+1)
def nc:∀ {ns:List Int}{j:Nat},vn i ns=some j->ns[j]?=some i/\∀m,m < j->ns[m]?≠some i
 | [],j,h=>by cases h
 | n::ns,j,h=>by
  unfold vn at h;split at h
  ·cases h;rename_i e;exact⟨by rw[e];rfl,λm hm=>absurd hm (vX _)⟩
  ·rename_i e;let⟨k,hk,rfl⟩:=ah h;let⟨a,b⟩:=nc hk;refine⟨by simpa using a,λm hm=>?_⟩;cases m with
   | zero=>simpa using e
   | succ m=>simpa using b m (by lia)
def PM:D->D->Option D
 | .list es,.int i=>(intsOf es).bind λns=>(vn i ns).map λj=>.int ((j:Nat):Int)
 | _,_=>none
def EB{fo:Env->Option D}(Tb:attributeBase o "index" X.env (eval o X.env)=eval o X.env)
  (SN:((backTo cpos (starEach [e] X.env)).all (λx=>!x.1)&&(backToKw cpos (keywordEach [] X.env)).all (λx=>x.1.isSome)&&decide ([e].length+([]:List Keyword).length+(if ([]:List Keyword).isEmpty then 0 else 1) < 30))=true)
  (R0:(apos.endLine == cpos.line)=true) (hs:starEach [e] X.env=(false,eval e X.env)::starEach [] X.env) (ho:DE X o fo) (he:DE X e fe):DE X (.Call (.Attribute o "index" apos) [e] [] cpos) (f2 PM fo fe) :=
 aV (qa qM PySem.F.slot_list_index PySem.F.type_list_index Cs ho (bR he dU hs) Tb SN R0 hs rfl) λσ H Q ⟨HF,ρ,d,sm,eo,hf,q⟩=>by
  let⟨x,hx,hf⟩:=bs hf;let⟨y,hy,hg⟩:=bs hf;refine⟨HF,ρ,x,sm,eo,hx,λv1 H1 RP g1 r1=>?_⟩;cases x<;>try cases hg
  cases y<;>try cases hg
  rename_i es i;let⟨ns,h1,hg⟩:=bs hg;let⟨j,h2,rfl⟩:=ah hg;have e1:=dP h1;subst e1;simp?[Rep] at r1;let⟨l,us,rfl,hq,rr⟩:=r1;have:=ib rr;subst this;refine⟨.inl ⟨rfl,_,g1.fh.seq hq⟩,RP,ρ,.int i,g1.fh,eo.mono g1.ff,hy,λv2 H2 R1 g2 r2=>?_⟩;simp?[Rep] at r2;let⟨a,b⟩:=nc h2;exact⟨l,ns,i,j,rfl,by rw[r2],g2.fh.seq (g2.ff.seq hq),a,b,q _ H2 R1 (g1.trans g2) (by simp[Rep])⟩
abbrev PB(X:Cx):=tupleKind (my X.prog X.w)
def pb{P:Program}{w:World}:∀ {ns:List Int}{us:List Value},aL (ns.map V.int) us->ItemsAre (my P w) (ns.map Sum.inl) us
 | [],_,r=>by cases r;exact .nil
 | n::ns,_,r=>by
  rw[zI] at r ⊢;cases r with
  | cons h t=>let⟨t',rfl⟩:=h;exact .cons (uT P w n t') (pb t)
def uA{X:Cx}{ns:List Int}(I:Inv X pins σ H s)(h:fM X.K H b (ns.map V.int)):(PB X).is s.heap (ns.map Sum.inl) b:=by
 let⟨its,rv,⟨o,h1,h2,n,h3⟩,_⟩:=I.tuple h;exact⟨o,its.toArray,n,h1,h2,h3,by simpa using pb rv⟩
def GH{X:Cx}{xs:List (List nF×Addr×Value)}(I:Inv X pins σ H s)(e:H a=some (.dT xs))(k:Dy X.K H xs):xs.length<=sizeLine/\(a == sysModules)=false/\s.heap.DictOfH (PB X) a xs:=by
 let⟨z,y,o,es,ep,h1,h2,h3,h4,h5⟩:=(show dS X.prog X.w H s.heap a (.dT xs) from I.RO a _ e)
 refine⟨z,y,o,es,ep,h1,h2,h3,h4,λx hx=>?_,h5⟩;let⟨ns,q1,q2⟩:=k x hx;rw[q1];exact uA I q2
def P6(K:W.Frag):R2:=λx y H Q=>∃ (b:Addr) (ns:List Int) (a:Addr) (xs:List (List nF×Addr×Value)),x=.ref b/\fM K H b (ns.map V.int)/\y=.ref a/\H a=some (.dT xs)/\Dy K H xs/\Q (.bl (atKey xs (ns.map Sum.inl)).isSome) H
def Mv{X:Cx}(hu:X.A.units+1 < cLine):gp X (compareOp .In) (P6 X.K):=by
 intro pins s σ H x y v u Q I rx ry h;let⟨b,ns,a,xs,rfl,hb,rfl,ha,hk,q⟩:=h;cases rx;cases ry;let⟨z,hd,dd⟩:=GH I ha hk;exact wpAny_in_heap (tupleKind_room_in1 hu) (uA I hb) hd dd ⟨.bl _,H,I.tok _,rfl,q⟩
def OI(K:W.Frag):V->V->V->Hp->(Hp->Prop)->Prop:=λo i v H Q=>∃ (a:Addr) (xs:List (List nF×Addr×Value)) (b:Addr) (ns:List Int),o=.ref a/\i=.ref b/\H a=some (.dT xs)/\fM K H b (ns.map V.int)/\Dy K H xs/\xs.length < sizeLine/\∀u:Value,Q (upd H a (.dT (storedH xs (ns.map Sum.inl) b u)))
def z9{xs:List (List nF×Addr×Value)}{k:List nF}{b:Addr}{u:Value}(h:xs.length < sizeLine):(storedH xs k b u).length<=sizeLine:=by
 unfold storedH;split
 ·rw[zD];lia
 ·rw[zN,zL,xJ];lia
def JP{X:Cx}(hu:X.A.units+1 < cLine):Mh X (OI X.K):=by
 intro pins s σ H o i v ov iv u Q I ro ri rv h;let⟨a,xs,b,ns,rfl,rfl,ha,hb,hk,hl,q⟩:=h;cases ro;cases ri;let⟨z,hd,dd⟩:=GH I ha hk;refine wpAny_setItem_heap (hsz:=z) (tupleKind_room_in1 hu) (uA I hb) dd λh' Y7 hs=>?_;let⟨q',es,ep,hq,h2,h3,h4,_,h5⟩:=Y7;exact⟨_,I.write (o:=.dT (storedH xs (ns.map Sum.inl) b u)) (x:=a) (e:=a) (by rw[ha];exact True.intro) (.inl rfl) (λc w' hc z=>(hs.2 c hc).trans z) ⟨q',hq⟩ ⟨z9 hl,hd,q',es,ep,hq,h2,h3,h4,h5⟩,q u⟩
def Nq(K:W.Frag)(tk tv:TE):TE:=λσ H Q=>∀p,H p=none->tk σ (upd H p (.dT [])) λx H1=>tv σ H1 λ_ H2=>∃ (b:Addr) (ns:List Int),x=.ref b/\fM K H2 b (ns.map V.int)/\H2 p=some (.dT [])/\∀u:Value,Q (.ref p) (upd H2 p (.dT [(ns.map Sum.inl,b,u)]))
def HI{X:Cx}{k v:Expr}(hu:X.A.units+1 < cLine)(hk:PE X k tk)(hv:PE X v tv):PE X (.Dict [some k] [v] pos) (Nq X.K tk tv):=by
 intro pins s σ H Q I q;have hn:=I.RO.fresh (yL s.heap.objs.size);have big:sysModules < s.heap.objs.size:=Zb (by decide) (show mainGlobals < s.heap.objs.size from (I.mod.glob.keeps I.bk).lt);have I1:=I.laid (a:=s.heap.objs.size) (o:=.dT []) (h':=s.heap.push { cls:=.type "dict",data:=.dict #[] }) (t':=s.toks) (λ_ _ q=>zU _ q) (yL _)
  ⟨xU _,beq_eq_false_iff_ne.mpr (jM (yQ big)),_,#[],0,zX _ rfl,⟨rfl,rfl,rfl⟩,rfl,rfl,List.nodup_nil⟩
 rw[arm_eval_Dict,zip_pairTrees _ _ _ _ rfl rfl,dictDisplay_pairs _ (by simp[pairTrees]) (by simp[pairTrees])];refine zV (vH (zV ?_));unfold subDict;refine zV (wpAny_alloc ?_);refine zV (xW ?_);rw[yK (by simp[pairTrees])];refine zV (pairTrees_cons_walk (b9 (hk pins _ σ _ _ I1 (q _ hn)) λu s1 ⟨x,H1,J1,rx,q1⟩=>b9 (hv pins s1 σ H1 _ J1 q1) λw2 s2 ⟨y,H2,J2,ry,b,ns,e,hb,hp,q2⟩=>pairTrees_nil_walk ?_));subst e;cases rx;refine xW ?_;let⟨z,hd,dd⟩:=GH J2 hp (λx hx=>by cases hx);show wpAny _ _ (forIn [(Value.ref b,w2)] _ _ >>= _) _ _ _;rw[List.forIn_cons];refine zV (zV (zV (wpAny_dictSet_heap (hsz:=z) (show (PB X).room X.A from Nat.lt_of_succ_lt hu) (uA J2 hb) dd λh' Y7 hs=>?_)));let⟨q',es,ep,hq,h2,h3,h4,_,h5⟩:=Y7;refine zW (zW (zW (zW (zW ⟨.ref _,_,?_,rfl,q2 w2⟩))));exact J2.write (o:=.dT [(ns.map Sum.inl,b,w2)]) (x:=s.heap.objs.size) (e:=s.heap.objs.size) (by rw[hp];exact True.intro) (.inl rfl) (λc w' hc z=>(hs.2 c hc).trans z) ⟨q',hq⟩ ⟨by rw[qT];simp,hd,q',es,ep,hq,h2,h3,h4,h5⟩
def sU:Slot->Bool|.tab _=>false|_=>true
def gm.Y8{K:W.Frag}{xs:List (List nF×Addr×Value)}{ks:List (List Int)}(S:gm K RL RM HF H ρ σ)(h1:H a=some (.dT xs))(h2:HF a=none)(h3:RM a=none)(h4:xs.map (·.1)=ks.map (·.map Sum.inl))(h5:Dy K HF xs)(nt:ρ.all sU=true) :
  gm K RL RM HF H (ρ.set i (.tab ks)) (σ.set i (some (.ref a))):=by
 have old:∀ {j:Nat}{t:Slot},(ρ.set i (.tab ks))[j]?=some t->sU t=true->i≠j/\ρ[j]?=some t:=λ{j t} h hn=>by
  rw[xH] at h;by_cases RS:i=j
  ·rw[yK RS] at h;split at h
   ·cases h;cases hn
   ·cases h
  ·rw[yM RS] at h;exact⟨RS,h⟩
 have new:∀ {j:Nat}{ls:List (List Int)},(ρ.set i (.tab ks))[j]?=some (.tab ls)->i=j/\ls=ks/\i < ρ.length:=λ{j ls} h=>by
  rw[xH] at h;by_cases RS:i=j
  ·rw[yK RS] at h;split at h
   ·rename_i hl;cases h;exact⟨RS,rfl,RS ▸ hl⟩
   ·cases h
  ·rw[yM RS] at h;have:=List.all_eq_true.mp nt _ (qA h);cases this
 refine⟨S.gr,λj e h=>?_,λj es h=>?_,λj k xs ys b e1 e2 e3 e4=>?_,by rw[yC,yC];exact S.len,S.tb,λj ls h=>?_,λj k ls ms g1 g2=>(new g1).1.symm.trans (new g2).1⟩
 ·let⟨RS,h⟩:=old h rfl;rw[xH,yM RS];exact S.val j e h
 ·let⟨RS,h⟩:=old h rfl;rw[xH,yM RS];exact S.own j es h
 ·let⟨n1,e1⟩:=old e1 rfl;let⟨n2,e2⟩:=old e2 rfl;rw[xH,yM n1] at e3;rw[xH,yM n2] at e4;exact S.inj j k xs ys b e1 e2 e3 e4
 ·let⟨rfl,rfl,hl⟩:=new h;rw[xH,yK rfl,yK (zP hl S.len)];exact⟨a,xs,rfl,h1,h2,h3,h4,h5⟩
def gm.Y9{K:W.Frag}{xs:List (List nF×Addr×Value)}{ks:List (List Int)}(S:gm K RL RM HF H ρ σ)(h:ρ[i]?=some (.tab ls))(ha:σ[i]?=some (some (.ref a)))(h4:xs.map (·.1)=ks.map (·.map Sum.inl))(h5:Dy K HF xs) :
  gm K RL RM HF (upd H a (.dT xs)) (ρ.set i (.tab ks)) σ:=by
 let⟨a',ys,e1,e2,e3,e5,_⟩:=S.tab i ls h;rw[ha] at e1;cases e1;have hl:i < ρ.length:=(List.getElem?_eq_some_iff.mp h).1;have gr:bM RL RM HF (upd H a (.dT xs)):=⟨λb o e=>by rw[aC (aM e e5)];exact S.gr.hh b o e,S.gr.ff,λb o e=>by rw[aC (aM e e3)];exact S.gr.fh b o e,S.gr.nw⟩
 have old:∀ {j:Nat}{t:Slot},(ρ.set i (.tab ks))[j]?=some t->sU t=true->ρ[j]?=some t:=λ{j t} h hn=>by
  rw[xH] at h;by_cases RS:i=j
  ·rw[yK RS,yK hl] at h;cases h;cases hn
  ·rw[yM RS] at h;exact h
 have new:∀ {j:Nat}{ms:List (List Int)},(ρ.set i (.tab ks))[j]?=some (.tab ms)->i=j/\ms=ks:=λ{j ms} g=>by
  rw[xH] at g;by_cases RS:i=j
  ·rw[yK RS,yK hl] at g;cases g;exact⟨RS,rfl⟩
  ·rw[yM RS] at g;exact absurd (S.one i j ls ms h g) RS
 refine⟨gr,λj e g=>S.val j e (old g rfl),λj es g=>?_,λj k xs ys b f1 f2=>S.inj j k xs ys b (old f1 rfl) (old f2 rfl),by rw[yC];exact S.len,S.tb,λj ms g=>?_,λj k ms qs g1 g2=>(new g1).1.symm.trans (new g2).1⟩
 ·let⟨b,vs,f1,f2,f3,f5,f4⟩:=S.own j es (old g rfl);refine⟨b,vs,f1,?_,f3,f5,f4⟩;rw[aC λz=>by rw[z,e2] at f2;cases f2];exact f2
 ·let⟨rfl,rfl⟩:=new g;exact⟨a,xs,ha,aG,e3,e5,h4,h5⟩
def zm:Option Slot->Option (List Int)
 | some (.val d)=>kl d
 | _=>none
def nN{K:W.Frag}{ρ:ar}{σ:L2.St}{i:Nat}(S:gm K RL RM HF H ρ σ)(h:zm ρ[i]?=some ns):∃b,σ[i]?=some (some (V.ref b))/\fM K HF b (ns.map V.int):=by
 cases hd:ρ[i]? with
 | none=>rw[hd] at h;cases h
 | some t =>
  rw[hd] at h;cases t with
  | val d =>
   have h:kl d=some ns:=h;let⟨v,e1,r⟩:=S.val i d hd;rw[l7 h] at r;simp?[Rep] at r;let⟨b,vs,rfl,hs,rr⟩:=r;rw[ib rr] at hs;exact⟨b,e1,hs⟩
  | _=>cases h
def tabS:Option Slot->Option (List (List Int))
 | some (.tab ks)=>some ks
 | _=>none
def ny{ρ:ar}{i:Nat}(h:tabS ρ[i]?=some ks):ρ[i]?=some (.tab ks):=by
 cases hd:ρ[i]? with
 | none=>rw[hd] at h;cases h
 | some t =>
  rw[hd] at h;cases t with
  | tab ls=>cases h;rfl
  | _=>cases h
def D3:∀ {a b:List Int},(a.map Sum.inl:List nF)=b.map Sum.inl->a=b
 | [],[],_=>rfl
 | [],_::_,h=>by simp at h
 | _::_,[],h=>by simp at h
 | x::a,y::b,h=>by
  rw[zI,zI] at h;injection h with h1 h2
  injection h1 with h1
  rw[h1,D3 h2]
def Kt{xs:List (List nF×Addr×Value)}{ks:List (List Int)}{ns:List Int}(h:xs.map (·.1)=ks.map (·.map Sum.inl)):(atKey xs (ns.map Sum.inl)).isSome=ks.contains ns:=by
 rw[vA,List.contains_iff_mem];unfold atKey;rw[Option.isSome_map,List.find?_isSome];constructor
 ·rintro⟨x,h1,h2⟩;have:x.1∈ks.map (·.map Sum.inl):=h ▸ List.mem_map_of_mem h1;rw[yP h2] at this;let⟨k,h3,h4⟩:=List.mem_map.mp this;exact D3 h4 ▸ h3
 ·intro z;have:(ns.map Sum.inl:List nF)∈xs.map (·.1):=h ▸ List.mem_map.mpr ⟨ns,z,rfl⟩;let⟨x,h1,h2⟩:=List.mem_map.mp this;exact⟨x,h1,yA h2⟩
def rQ(i j:Nat)(g1 g2:ar->Option Out):ar->Option Out:=λρ=>(zm ρ[i]?).bind λns=>(tabS ρ[j]?).bind λks=>if ks.contains ns=true then g1 ρ else g2 ρ
def JD{X:Cx}(i j:Nat)(hu:X.A.units+1 < cLine)(hN:X.N[i]?=some x)(hv:AS X.env.scope x)(Xp:X.N[j]?=some y)(W7:AS X.env.scope y)(ha:ym X RL RM a g1)(hb:ym X RL RM b g2)
  (hd:(x == ("__debug__":Str))=false) (Se:(x == ("__classdict__":Str))=false) (Ur:(y == ("__debug__":Str))=false) (Ua:(y == ("__classdict__":Str))=false) :
  DS X RL RM (.If (.Compare (.Name x px) [.In] [.Name y py] cp) a b pos) (rQ i j g1 g2) :=
 bS (B0 (tR (Mv hu) (e9 hN hv hd Se) (e9 Xp W7 Ur Ua) rfl) ha hb) λE σ H ⟨HF,ρ,o,S,hg,q⟩=>by
  let⟨ns,h1,hg⟩:=bs hg;let⟨ks,h2,hg⟩:=bs hg;let⟨b,e1,hs⟩:=nN S h1;let⟨a,xs,f1,f2,f3,f5,f4,fk⟩:=S.tab j ks (ny h2);refine⟨_,e1,_,f1,b,ns,a,xs,rfl,aD S.gr.fh hs,rfl,f2,fk.mono S.gr.fh,_,rfl,?_⟩;rw[Kt f4];cases hc:ks.contains ns with
  | true=>rw[hc] at hg;exact pW ⟨HF,ρ,o,S,hg,q⟩
  | false=>rw[hc] at hg;exact nj ⟨HF,ρ,o,S,hg,q⟩
def rL(j i:Nat)(f:Env->Option D):ar->Option Out:=λρ=>(zm ρ[i]?).bind λns=>(tabS ρ[j]?).bind λks=>(f (aJ ρ)).bind λd=>if (jm d&&decide (ks.length < sizeLine))=true then some (.nx (ρ.set j (.tab (if ks.contains ns=true then ks else ks++[ns])))) else none
def uR{xs:List (List nF×Addr×Value)}{ks:List (List Int)}{ns:List Int}(h:xs.map (·.1)=ks.map (·.map Sum.inl)):(storedH xs (ns.map Sum.inl) b u).map (·.1)=(if ks.contains ns=true then ks else ks++[ns]).map (·.map Sum.inl):=by
 unfold storedH;rw[Kt h];split
 ·rw[<- h,zM];refine yH λx _=>?_;show (putAt _ _ x).1=x.1;unfold putAt;split<;>rfl
 ·rw[qZ,qZ,h];rfl
def Dy.stored{K:W.Frag}{xs:List (List nF×Addr×Value)}{ns:List Int}(h:Dy K HF xs)(hb:fM K HF b (ns.map V.int)):Dy K HF (storedH xs (ns.map Sum.inl) b u):=λx hx=>by
 unfold storedH at hx;split at hx
 ·let⟨y,hy,rfl⟩:=List.mem_map.mp hx;let⟨ms,e1,e2⟩:=h y hy;refine⟨ms,?_,?_⟩<;>(unfold putAt;split<;>assumption)
 ·rcases List.mem_append.mp hx with hx|hx
  ·exact h x hx
  ·rw[yI] at hx;subst hx;exact⟨ns,rfl,hb⟩
def Jy{X:Cx}(j i:Nat)(hu:X.A.units+1 < cLine)(hN:X.N[i]?=some x)(hv:AS X.env.scope x)(Xp:X.N[j]?=some y)(W7:AS X.env.scope y)(h:DE X e2 f)
  (hd:(x == ("__debug__":Str))=false) (Se:(x == ("__classdict__":Str))=false) (Ur:(y == ("__debug__":Str))=false) (Ua:(y == ("__classdict__":Str))=false)
  (ha:∀v,assign (.Subscript (.Name y py) (.Name x px) Sh) X.env v=(do
   let ov <- holding [v] (eval (.Name y py) X.env)
   let iv <- holding [v,ov] (eval (.Name x px) X.env)
   standAt Sh
   holding [v,ov,iv] (setItem ov iv v)
   release [v,ov,iv] []):=by intro _;rfl)
  (hs:swapsWithSole [.Subscript (.Name y py) (.Name x px) Sh] e2 pos.line X.env=pure false:=by rfl) (hw:swappedStores [.Subscript (.Name y py) (.Name x px) Sh] e2 X.env=pure none:=by rfl)
  (h1:(assignEach [.Subscript (.Name y py) (.Name x px) Sh] X.env).map (·.2)=[assign (.Subscript (.Name y py) (.Name x px) Sh) X.env]:=by rfl) :
  DS X RL RM (.Assign [.Subscript (.Name y py) (.Name x px) Sh] e2 pos) (rL j i f) :=
 bS (zx h (DB (e9 Xp W7 Ur Ua) (e9 hN hv hd Se) (JP hu) ha) hs hw h1) λE σ H ⟨HF,ρ,o,S,hg,q⟩=>by
  let⟨ns,h1,hg⟩:=bs hg;let⟨ks,h2,hg⟩:=bs hg;let⟨d,h3,hg⟩:=bs hg;split at hg
  ·rename_i hc;rw[zF,zJ] at hc;cases hg;refine⟨H,aJ ρ,d,.refl _,S.all,h3,λv H' RN G r=>?_⟩;have S':=S.step G.hh;let⟨b,e1,hs⟩:=nN S' h1;let⟨a,xs,f1,f2,f3,f5,f4,fk⟩:=S'.tab j ks (ny h2);refine⟨_,f1,_,e1,a,xs,b,ns,rfl,rfl,f2,aD S'.gr.fh hs,fk.mono S'.gr.fh,?_,λu=>q σ _ HF (S'.Y9 (ny h2) f1 (uR f4) (fk.stored hs)) (.refl _)⟩;have:=jB List.length f4;rw[zD,zD] at this;lia
  ·cases hg
def sE(j i:Nat)(f:Env->Option D):ar->Option Out:=λρ=>(zm ρ[i]?).bind λns=>(f (aJ ρ)).bind λd=>if (jm d&&ρ.all sU)=true then some (.nx (ρ.set j (.tab [ns]))) else none
def Jo{X:Cx}(j i:Nat)(hu:X.A.units+1 < cLine)(hN:X.N[i]?=some x)(hv:AS X.env.scope x)(hd:(x == ("__debug__":Str))=false)(Se:(x == ("__classdict__":Str))=false)(h:DE X e2 f)(Xp:X.N.Nodup)(hi:X.N[j]?=some y)(hy:Loc X.env.scope y)
  (hs:swapsWith (.Dict [some (.Name x px)] [e2] dp) (some (.Name y pos')) pos.line X.env=pure false:=by rfl)
  (hf:X.fn y=true\/X.env.scope.names.lookup y=some .local:=by first|exact .inl rfl|exact .inr rfl|assumption):DS X RL RM (.Assign [.Name y pos'] (.Dict [some (.Name x px)] [e2] dp) pos) (sE j i f) :=
 bS (qc Xp hi hy (HI hu (e9 hN hv hd Se) h) hs hf) λE σ H ⟨HF,ρ,o,S,hg,q⟩=>by
  let⟨ns,h1,hg⟩:=bs hg;let⟨d,h3,hg⟩:=bs hg;split at hg
  ·rename_i hc;rw[zF] at hc;cases hg;let⟨b,e1,hs⟩:=nN S h1;refineλp hp=>⟨_,e1,upd H p (.dT []),aJ ρ,d,.refl _,?_,h3,λv H' RN G r=>?_⟩
   ·exact (S.step (cF hp)).all
   ·have S':=(S.step (cF hp)).step G.hh;have Vp:H' p=some (.dT []):=G.hh _ _ aG;refine⟨b,ns,rfl,aD S'.gr.fh hs,Vp,λu=>?_⟩;have S2:gm X.K RL RM HF (upd H' p (.dT [(ns.map Sum.inl,b,u)])) ρ σ:=S.step λc w' e=>by rw[aC (aM e hp)];exact G.hh c w' (cF hp c w' e)
    exact q _ _ HF (S2.Y8 (i:=j) aG (S.gr.fh.free hp) (S.gr.hh.free hp) rfl (λx hx=>by rw[yI] at hx;subst hx;exact⟨ns,rfl,hs⟩) hc.2) (.refl _)
  ·cases hg
end Dl
namespace Tx
open PySem PySem.SeqAt PyProof.Rows
open PySem.AutoSeq1 (wpAny_loadPart')
open PySem.MeetsSeq PySem.MeetsSeq2 PySem.MeetsSeq3
def wpR(f:Nat->β->Sem (ForInStep β))(I:List Nat->β->Shared->Prop)(Q:β->Shared->Prop)
  (turn:∀x rest b s,I (x::rest) b s->wpAny M A (f x b) (λr s'=>match r with|.yield b'=>I rest b' s'|.done b'=>Q b' s') E s)
  (fin:∀b s,I [] b s->Q b s) (n:Nat) (b:β) (h:I (List.range' 0 n 1) b s):wpAny M A (forIn [:n] b f) Q E s:=by
 have e:forIn [:n] b f=forIn (List.range' 0 n 1) b f:=by
  rw[Std.Legacy.Range.forIn_eq_forIn_range'];simp[Std.Legacy.Range.size]
 rw[e];exact wpAny_forIn_list f I Q turn fin _ b h
def S8(l:Addr)(items:Array Value)(n:Nat)(dd:Option Addr)(sl:Array (Option Value))(x:Value)(e:Value->Bool)(j:Nat)(hj:j < items.size)(h1:e items[j]=true)(h2:∀m (hm:m < items.size),m < j->e items[m]=false) :
  Meets (Builtin.«tuple.index» ⟨[.ref l,x],[]⟩)
   (λA R s=>s.heap.get? l=some { cls:=.type "tuple",dict:=dd,data:=.seq items n,slots:=sl }/\(∀y,y∈items->EqAt A.in1 s y x (e y))/\R (.ok (.ret (.int (j:Nat) s.toks))) { s with toks:=s.toks+1 }) :=
 .of_wp λprog w A R s h=>by
  let⟨hp,g,d,tk,os⟩:=s;let⟨hl,he,h⟩:=h
  wp_walk using wpAny_loadPart' hl,wpR _ (λrest b s'=>s'=⟨hp,g,d,tk,os⟩/\b.1=none/\∃i,i<=j/\rest=List.range' i (items.size - i) 1) _
  case turn =>
   rintro i rest b s' ⟨rfl,hb,i',hi,e1⟩;have R6:i' < items.size:=by lia
   rw[show items.size - i'=(items.size - (i'+1))+1 by lia,vL] at e1;injection e1 with e2 e3
   subst e2;subst e3;simp?[jY R6];refine zV (he _ (Array.getElem_mem R6) prog w _ _ ?_);by_cases RS:i=j
   ·subst RS;rw[h1]
    wp_walk
    exact⟨_,rfl,h⟩
   ·rw[h2 i R6 (by lia)]
    wp_walk
    exact⟨rfl,rfl,i+1,by lia,rfl⟩
  case fin =>
   rintro b s' ⟨rfl,hb,i,hi,e1⟩;have:=jB List.length e1;simp at this;lia
  case h =>
   exact⟨rfl,rfl,0,xU _,by simp⟩
end Tx
namespace Dl
open PySem L2 PySem.Spec PyProof.Rows
def C8:MV X "tuple.index" (λx vs H Q=>∃ (l:Addr) (ns:List Int) (i:Int) (j:Nat),x=.ref l/\vs=[.int i]/\fM X.K H l (ns.map V.int)/\ns[j]?=some i/\(∀m,m < j->ns[m]?≠some i)/\Q (.int j) H):=by
 intro pins s σ H x vs v us Q I rx rv h;let⟨l,ns,i,j,rfl,rfl,hq,hj,Vi,q⟩:=h;cases rx;let⟨u,rfl,ru⟩:=rv.one;let⟨t,rfl⟩:=ru;let⟨its,r,pl,hz⟩:=I.tuple hq;let⟨⟨cls,dd,data,sl⟩,ho,hc,n,hd⟩:=id pl;simp only at hc hd;subst hc hd;have hl:its.length=ns.length:=by rw[<- r.length,zD]
 have VM:j < ns.length:=(List.getElem?_eq_some_iff.mp hj).1;have at_:∀m (hm:m < its.toArray.size),∃t',its.toArray[m]=.int (ns.getD m 0) t':=λm hm=>oS r (jY hm);refine qV F.slot_tuple_index ⟨_,ho,rfl⟩ F.entry_tuple_index (F.args_tuple_index_2 _ _) (Tx.S8 l its.toArray n dd sl (.int i t) (M9 i) j (by rw[zH,hl];exact VM) ?_ ?_) ⟨ho,?_,?_⟩
 ·let⟨t',e⟩:=at_ j (by rw[zH,hl];exact VM);rw[e,M9,zG,hj];simp
 ·intro m hm Xo;let⟨t',e⟩:=at_ m hm;have S7:m < ns.length:=by
   rw[zH] at hm;lia
  have:=Vi m Xo;rw[e,M9,zG];rw[zK S7] at this ⊢;simp?[qF,beq_eq_false_iff_ne];exactλh=>this (by rw[h])
 ·intro y hy;let⟨m,hm,rfl⟩:=Array.getElem_of_mem hy;let⟨t',e⟩:=at_ m hm;rw[e];exact PySem.SeqAt.EqAt.int_int _ _ _ _
 ·exact⟨.int j,H,I.tok _,⟨_,rfl⟩,q⟩
def FI(h:PE X e t)(g:PE X e u):PE X e (λσ H Q=>t σ H Q\/u σ H Q):=λpins s σ H Q I q=>q.elim (h pins s σ H Q I) (g pins s σ H Q I)
def iF:D->D->Option D
 | .list es,.int i=>(intsOf es).bind λns=>(vn i ns).map λj=>.int ((j:Nat):Int)
 | .tuple es,.int i=>(intsOf es).bind λns=>(vn i ns).map λj=>.int ((j:Nat):Int)
 | _,_=>none
def B7{fo:Env->Option D}(Tb:attributeBase o "index" X.env (eval o X.env)=eval o X.env)
  (SN:((backTo cpos (starEach [e] X.env)).all (λx=>!x.1)&&(backToKw cpos (keywordEach [] X.env)).all (λx=>x.1.isSome)&&decide ([e].length+([]:List Keyword).length+(if ([]:List Keyword).isEmpty then 0 else 1) < 30))=true)
  (R0:(apos.endLine == cpos.line)=true) (hs:starEach [e] X.env=(false,eval e X.env)::starEach [] X.env) (ho:DE X o fo) (he:DE X e fe):DE X (.Call (.Attribute o "index" apos) [e] [] cpos) (f2 iF fo fe) :=
 aV (FI (EB Tb SN R0 hs ho he) (qa PySem.F.plainAttrs_tuple PySem.F.slot_tuple_index PySem.F.type_tuple_index C8 ho (bR he dU hs) Tb SN R0 hs rfl)) λσ H Q ⟨HF,ρ,d,sm,eo,hf,q⟩=>by
  let⟨x,hx,hf⟩:=bs hf;let⟨y,hy,hg⟩:=bs hf;cases x<;>try cases hg
  ·cases y<;>try cases hg
   rename_i es i;exact .inl ⟨HF,ρ,d,sm,eo,by simp?[f2,hx,hy,zA];exact hg,q⟩
  ·cases y<;>try cases hg
   rename_i es i;let⟨ns,h1,hg⟩:=bs hg;let⟨j,h2,rfl⟩:=ah hg;have e1:=dP h1;subst e1;refine .inr ⟨HF,ρ,_,sm,eo,hx,λv1 H1 RP g1 r1=>?_⟩;simp?[Rep] at r1;let⟨l,us,rfl,hq,rr⟩:=r1;have:=ib rr;subst this;refine⟨?_,RP,ρ,.int i,g1.fh,eo.mono g1.ff,hy,λv2 H2 R1 g2 r2=>?_⟩
   ·first|exact .inr (.inl ⟨rfl,_,aD g1.fh hq⟩)|exact .inl ⟨rfl,_,aD g1.fh hq⟩|exact .inr ⟨rfl,_,aD g1.fh hq⟩
   ·simp?[Rep] at r2;let⟨a,b⟩:=nc h2;exact⟨l,ns,i,j,rfl,by rw[r2],aD g2.fh (aD g2.ff hq),a,b,q _ H2 R1 (g1.trans g2) (by simp[Rep])⟩
end Dl
namespace Zp
open PySem PyProof.Rows
def Sq(b:Bool)(h:Heap)(it l:Addr)(k:Nat):Prop:=match b with|true=>h.IsTupleIter it l k|false=>h.IsListIter it l k
def Sx(b:Bool)(h:Heap)(l:Addr)(xs:Array Value):Prop:=match b with|true=>h.IsTuple l xs|false=>h.IsList l xs
def Sq.obj(x:Sq b h it l k):∃o,h.get? it=some o/\∀v,o.data≠.cell v:=by
 cases b
 ·let⟨o,e,_,d⟩:=(show h.IsListIter it l k from x);exact⟨o,e,λv q=>by rw[d] at q;cases q⟩
 ·let⟨o,e,_,d⟩:=(show h.IsTupleIter it l k from x);exact⟨o,e,λv q=>by rw[d] at q;cases q⟩
def Sq.at(x:Sq b h it l k)(e:∀o,h.get? it=some o->h'.get? it=some o):Sq b h' it l k:=by
 cases b
 ·exact Heap.IsListIter.at x e
 ·exact Heap.IsTupleIter.at x e
def Sq.extBut(x:Sq b h it l k)(e:Heap.ExtBut a h h')(n:it≠a):Sq b h' it l k:=x.at λo q=>e it o n q
def Sx.at(x:Sx b h l xs)(e:∀o,h.get? l=some o->h'.get? l=some o):Sx b h' l xs:=by
 cases b
 ·let⟨o,q,r⟩:=(show h.IsList l xs from x);exact⟨o,e o q,r⟩
 ·let⟨o,q,r⟩:=(show h.IsTuple l xs from x);exact⟨o,e o q,r⟩
def Sx.extBut(x:Sx b h l xs)(e:Heap.ExtBut a h h')(n:l≠a):Sx b h' l xs:=x.at λo q=>e l o n q
section
def Zh(hj:Sq b s.heap j t k)(ht:Sx b s.heap t its)(hv:its[k]?=some v)
  (hQ:∀g,Sq b g j t (k+1)->Heap.SameBut j s.heap g->Q v { s with heap:=g }):wpAny (model prog w) A (Builtin.SmallTypes.nextOf (.ref j)) Q E s:=by
 cases b
 ·exact wpAny_nextOf_list_item hj ht hv hQ
 ·exact En.T4 hj ht hv hQ
def Vq{Q:Value->Shared->Prop}(hh:A.handled=none)(hj:Sq b s.heap j t k)(ht:Sx b s.heap t its)(hv:its[k]?=none)
  (hE:∀g x,Heap.ExtBut j s.heap g->(∃o,g.get? x=some o/\o.cls=.type "StopIteration")->E (.ref x) { s with heap:=g }):wpAny (model prog w) A (Builtin.SmallTypes.nextOf (.ref j)) Q E s:=by
 cases b
 ·exact wpAny_nextOf_list_end hh hj ht hv hE
 ·exact En.Uy hh hj ht hv hE
structure ZS(RW R7:Bool)(h₀ h:Heap)(z TI TO i j l m:Addr)(xs ys:Array Value)(f:Value)(p q:Nat)(a b:Value):Prop where
 zo:IsZip h z TI TO f
 ti:IsPair h TI (.ref i) (.ref j)
 to:IsPair h TO a b
 wi:Sq RW h i l p
 wj:Sq R7 h j m q
 sl:Sx RW h l xs
 sm:Sx R7 h m ys
 kp:∀c o,c≠z->c≠TO->c≠i->c≠j->h₀.get? c=some o->h.get? c=some o
 sz:h.objs.size=h₀.objs.size
section
variable {z TI TO i j l m:Addr}
def ZS.fl(Z:ZS RW R7 h₀ h z TI TO i j l m xs ys f p q a b)(D:ZipApart z TI TO i j l m)(e:IsZip g z TI TO f')(t:Heap.SameBut z h g):ZS RW R7 h₀ g z TI TO i j l m xs ys f' p q a b :=
 ⟨e,t.extBut _ _ D.TIz Z.ti,t.extBut _ _ D.TOz Z.to,Z.wi.extBut t.extBut D.i1z,Z.wj.extBut t.extBut D.i2z,Z.sl.extBut t.extBut D.l1z,Z.sm.extBut t.extBut D.l2z,λc o n1 n2 n3 n4 r=>t.extBut _ _ n1 (Z.kp c o n1 n2 n3 n4 r),t.1.trans Z.sz⟩
def ZS.fst(Z:ZS RW R7 h₀ h z TI TO i j l m xs ys f p q a b)(D:ZipApart z TI TO i j l m)(e:Sq RW g i l (p+1))(t:Heap.SameBut i h g):ZS RW R7 h₀ g z TI TO i j l m xs ys f (p+1) q a b :=
 ⟨t.extBut _ _ D.i1z.symm Z.zo,t.extBut _ _ D.TIi1 Z.ti,t.extBut _ _ D.TOi1 Z.to,e,Z.wj.extBut t.extBut D.i12.symm,Z.sl.extBut t.extBut D.l1i1,Z.sm.extBut t.extBut D.l2i1,λc o n1 n2 n3 n4 r=>t.extBut _ _ n3 (Z.kp c o n1 n2 n3 n4 r),t.1.trans Z.sz⟩
def ZS.snd(Z:ZS RW R7 h₀ h z TI TO i j l m xs ys f p q a b)(D:ZipApart z TI TO i j l m)(e:Sq R7 g j m (q+1))(t:Heap.SameBut j h g):ZS RW R7 h₀ g z TI TO i j l m xs ys f p (q+1) a b :=
 ⟨t.extBut _ _ D.i2z.symm Z.zo,t.extBut _ _ D.TIi2 Z.ti,t.extBut _ _ D.TOi2 Z.to,Z.wi.extBut t.extBut D.i12,e,Z.sl.extBut t.extBut D.l1i2,Z.sm.extBut t.extBut D.l2i2,λc o n1 n2 n3 n4 r=>t.extBut _ _ n4 (Z.kp c o n1 n2 n3 n4 r),t.1.trans Z.sz⟩
def ZS.put(Z:ZS RW R7 h₀ h z TI TO i j l m xs ys f p q a b)(D:ZipApart z TI TO i j l m)(e:IsPair g TO x y)(t:Heap.SameBut TO h g):ZS RW R7 h₀ g z TI TO i j l m xs ys f p q x y :=
 ⟨t.extBut _ _ D.TOz.symm Z.zo,t.extBut _ _ D.TITO Z.ti,e,Z.wi.extBut t.extBut D.TOi1.symm,Z.wj.extBut t.extBut D.TOi2.symm,Z.sl.extBut t.extBut D.l1TO,Z.sm.extBut t.extBut D.l2TO,λc o n1 n2 n3 n4 r=>t.extBut _ _ n2 (Z.kp c o n1 n2 n3 n4 r),t.1.trans Z.sz⟩
end
variable {z TI TO i j l m:Addr}
def Xq{Q:Value->Shared->Prop}(hn:A.handled=none)(D:ZipApart z TI TO i j l m)(Z:ZS RW R7 s.heap s.heap z TI TO i j l m xs ys .none p q a b)
  (item:∀x y g g',xs[p]?=some x->ys[q]?=some y->ZS RW R7 s.heap g z TI TO i j l m xs ys .ellipsis (p+1) (q+1) x y->IsZip g' z TI TO (rawInt g.objs.size) ->
   Heap.SameBut z (g.push { cls:=.type "tuple",data:=.seq #[x,y] }) g'->Q (.ref g.objs.size) { s with heap:=g' })
  (over:(xs[p]?=none\/ys[q]?=none)->∀g e,(∀c o,c≠z->c≠TO->c≠i->c≠j->s.heap.get? c=some o->g.get? c=some o)->(∃o,g.get? e=some o/\o.cls=.type "StopIteration")->E (.ref e) { s with heap:=g }) :
  wpAny (model prog w) A (Builtin.«zip.__next__» ⟨[.ref z],[]⟩) (λr s'=>∃v,r=.done (.ret v)/\Q v s') E s:=by
 have stop:∀ {g1 g2:Heap}{e:Addr}{c:Addr}{p' q':Nat}{a' b':Value},ZS RW R7 s.heap g1 z TI TO i j l m xs ys .ellipsis p' q' a' b'->(c=i\/c=j)->(xs[p]?=none\/ys[q]?=none)->Heap.ExtBut c g1 g2 ->
   (∃o,g2.get? e=some o/\o.cls=.type "StopIteration")->wpAny (model prog w) A (setField (.ref z) 0 Value.none) (λ_ t=>E (.ref e) t) E { s with heap:=g2 }:=by
  intro g1 g2 e c p' q' a' b' Y hc hv k ⟨o,ho,ht⟩;have cz:z≠c:=hc.elim (λe=>e ▸ D.i1z.symm) λe=>e ▸ D.i2z.symm;have Yz:IsZip g2 z TI TO .ellipsis:=k _ _ cz Y.zo;refine vC Yz (by simp) λg3 _ t=>over hv g3 e (λd u n1 n2 n3 n4 r=>t.extBut _ _ n1 (k _ _ ?_ (Y.kp d u n1 n2 n3 n4 r))) ⟨o,t.extBut _ _ ?_ ho,ht⟩
  ·exact hc.elim (λe=>e ▸ n3) λe=>e ▸ n4
  ·rintro rfl;rw[Yz] at ho;cases ho;simp at ht
 show wpAny _ _ (field (.ref z) 2 >>= _) _ _ _;refine zV (qS Z.zo rfl (x:=.bool false) rfl (zV (qS Z.zo rfl (x:=.ref TI) rfl (zV (kH Z.ti rfl (zV (m:=Builtin.SmallTypes.ownedTupleIsFree _) ?_))))));refine zV (qS Z.zo rfl (x:=.none) rfl (zW ?_));rw[yK rfl];refine zV (wN (zV (qS Z.zo rfl (x:=.ref TO) rfl (zV (vC Z.zo (by simp) λg1 e1 t1=>?_)))));have Z1:=Z.fl D (f':=.ellipsis) e1 t1;refine zV ?_;simp?[List.zipIdx_cons,List.zipIdx_nil,List.forIn_cons,List.forIn_nil];refine zV (zV (wpAny_onRaise (zV (m:=Builtin.SmallTypes.nextOf _) ?_)));cases hx:xs[p]? with
 | none=>exact Vq hn Z1.wi Z1.sl hx λg2 e k o=>stop Z1 (.inl rfl) (.inl hx) k o
 | some x =>
 refine Zh Z1.wi Z1.sl hx λg2 e2 t2=>zW ?_;have Z2:=Z1.fst D e2 t2;refine zV (kH Z2.to rfl (zV (wpAny_updateSeq_pair Z2.to λg3 e3 t3=>zV (wpAny_letGo (zW ?_)))));have Z3:=Z2.put D (x:=x) (y:=b) e3 t3;refine zV (zV (wpAny_onRaise (zV (m:=Builtin.SmallTypes.nextOf _) ?_)));cases hy:ys[q]? with
 | none=>exact Vq hn Z3.wj Z3.sm hy λg4 e k o=>stop Z3 (.inr rfl) (.inr hy) k o
 | some y =>
 refine Zh Z3.wj Z3.sm hy λg4 e4 t4=>zW ?_;have Z4:=Z3.snd D e4 t4;refine zV (kH Z4.to rfl (zV (wpAny_updateSeq_pair Z4.to λg5 e5 t5=>zV (wpAny_letGo (zW (zW ?_))))));have Z5:=Z4.put D (x:=x) (y:=y) e5 t5;refine zV (kH Z5.to rfl (zV (wpAny_newTuple (zV (m:=Builtin.SmallTypes.ownedTupleHandOut _ _) ?_))));refine zV (vC (zU _ Z5.zo) (by simp) λg6 e6 t6=>vC e6 (by simp) λg7 e7 t7=>zW ⟨_,rfl,?_⟩);exact item x y g5 g7 hx hy Z5 e7 (t6.trans t7)
def Xr(hn:A.handled=none)(D:ZipApart z TI TO i j l m)
  (qz:IsZip s.heap z TI TO .none) (qI:IsPair s.heap TI (.ref i) (.ref j)) (qO:IsPair s.heap TO a b)
  (p1:Sq RW s.heap i l p) (p2:Sq R7 s.heap j m q) (r1:Sx RW s.heap l xs) (r2:Sx R7 s.heap m ys) (ex:xs[p]?=some x) (ey:ys[q]?=some y)
  (kQ:∀g,IsZip g z TI TO (rawInt s.heap.objs.size)->IsPair g TO x y->Sq RW g i l (p+1)->Sq R7 g j m (q+1)->IsPair g s.heap.objs.size x y->g.objs.size=s.heap.objs.size+1 ->
   (∀c o,c≠z->c≠TO->c≠i->c≠j->s.heap.get? c=some o->g.get? c=some o)->Q (some (.ref s.heap.objs.size)) { s with heap:=g }) :
  wpAny (model prog w) A (pyNext (.ref z)) Q E s:=by
 have ty:s.TypeIs (.ref z) "zip":=⟨_,qz,rfl⟩
 have Z:ZS RW R7 s.heap s.heap z TI TO i j l m xs ys .none p q a b:=⟨qz,qI,qO,p1,p2,r1,r2,λ_ _ _ _ _ _ e=>e,rfl⟩
 refine zV (kX (qB (name:=Str.ofString "__next__") ty wA (qU wA ty F.entry_zip_next (Xq hn D Z ?_ ?_) (F.args_zip_next_1 _))))
 ·intro x' y' g g' hx hy Y ez t;rw[ex] at hx;rw[ey] at hy;cases hx;cases hy;rw[Y.sz] at ez ⊢;have lt:=zY Y.zo;have up:∀c o,c≠z->g.get? c=some o->g'.get? c=some o:=λc o n e=>t.extBut _ _ n (zU _ e);refine zW (kQ g' ez (up _ _ D.TOz Y.to) (Y.wi.at λo e=>up _ _ D.i1z e) (Y.wj.at λo e=>up _ _ D.i2z e) ?_ (by rw[t.1,xI,Y.sz]) λc o n1 n2 n3 n4 e=>up c o n1 (Y.kp c o n1 n2 n3 n4 e));rw[<- Y.sz];exact t.extBut _ _ (jH lt) (zX _ rfl)
 ·intro no;rw[ex,ey] at no;rcases no with no|no<;>cases no
def Wh(hn:A.handled=none)(D:ZipApart z TI TO i j l m)
  (qz:IsZip s.heap z TI TO .none) (qI:IsPair s.heap TI (.ref i) (.ref j)) (qO:IsPair s.heap TO a b)
  (p1:Sq RW s.heap i l p) (p2:Sq R7 s.heap j m q) (r1:Sx RW s.heap l xs) (r2:Sx R7 s.heap m ys) (ends:xs[p]?=none\/ys[q]?=none)
  (kQ:∀g,(∀c o,c≠z->c≠TO->c≠i->c≠j->s.heap.get? c=some o->g.get? c=some o)->Q none { s with heap:=g }):wpAny (model prog w) A (pyNext (.ref z)) Q E s:=by
 have ty:s.TypeIs (.ref z) "zip":=⟨_,qz,rfl⟩
 have Z:ZS RW R7 s.heap s.heap z TI TO i j l m xs ys .none p q a b:=⟨qz,qI,qO,p1,p2,r1,r2,λ_ _ _ _ _ _ e=>e,rfl⟩
 refine zV (kX (qB (name:=Str.ofString "__next__") ty wA (qU wA ty F.entry_zip_next (Xq hn D Z ?_ ?_) (F.args_zip_next_1 _))))
 ·intro x y g g' hx hy;rw[hx,hy] at ends;rcases ends with no|no<;>cases no
 ·rintro _ g e kp ⟨o,ho,ht⟩;exact zV (wpAny_isInstance (T:="StopIteration") (b:=true) ⟨o,ho,ht⟩ isSubtype_stop (zW (kQ _ kp)))
end
abbrev Xu(b:Bool)(l:Addr):Obj:={ cls:=.type (if b then "tuple_iterator" else "list_iterator"),data:=.fields #[.ref l,.int 0 0] }
abbrev z1(b:Bool)(h:Heap)(l:Addr):Heap:=h.push (Xu b l)
abbrev z2(b c:Bool)(h:Heap)(l m:Addr):Heap:=(z1 b h l).push (Xu c m)
abbrev z3(b c:Bool)(h:Heap)(l m:Addr):Heap:=(z2 b c h l m).push { cls:=.type "tuple",data:=.seq #[.ref h.objs.size,.ref (z1 b h l).objs.size] }
abbrev z4(b c:Bool)(h:Heap)(l m:Addr):Heap:=(z3 b c h l m).push { cls:=.type "tuple",data:=.seq #[.none,.none] }
abbrev z5(b c:Bool)(h:Heap)(l m:Addr):Heap:=(z4 b c h l m).push { cls:=.type "zip",data:=.fields #[.none,.bool false,.bool false,.ref (z2 b c h l m).objs.size,.ref (z3 b c h l m).objs.size] }
def Sx.push(x:Sx b h l xs)(o:Obj):Sx b (h.push o) l xs:=x.at λo' e=>zU _ e
def Vr(b c:Bool)(l m:Addr)(xs ys:Array Value):Meets (Builtin.«zip.__new__» ⟨[.type "zip",.ref l,.ref m],[]⟩) (λ_ R s=>Sx b s.heap l xs/\Sx c s.heap m ys/\R (.ok (.ret (.ref (z4 b c s.heap l m).objs.size))) { s with heap:=z5 b c s.heap l m }) :=
 .of_wp λprog w A R s h=>by
  let⟨hp,g,d,tk,os⟩:=s;let⟨q1,q2,h⟩:=h;have T5:=sub_zip;cases b<;>cases c
  ·have L1:Heap.IsList (Shared.heap ⟨hp,g,d,tk,os⟩) l xs:=q1;have L2:Heap.IsList (Shared.heap ⟨hp.push { cls:=.type "list_iterator",data:=.fields #[.ref l,.int 0 0] },g,d,tk,os⟩) m ys:=Sx.push (b:=false) q2 _
   wp_walk using qJ L1,qJ L2
   exact⟨_,rfl,h⟩
  ·have L1:Heap.IsList (Shared.heap ⟨hp,g,d,tk,os⟩) l xs:=q1;have L2:Heap.IsTuple (Shared.heap ⟨hp.push { cls:=.type "list_iterator",data:=.fields #[.ref l,.int 0 0] },g,d,tk,os⟩) m ys:=Sx.push (b:=true) q2 _
   wp_walk using qJ L1,xQ L2
   exact⟨_,rfl,h⟩
  ·have L1:Heap.IsTuple (Shared.heap ⟨hp,g,d,tk,os⟩) l xs:=q1;have L2:Heap.IsList (Shared.heap ⟨hp.push { cls:=.type "tuple_iterator",data:=.fields #[.ref l,.int 0 0] },g,d,tk,os⟩) m ys:=Sx.push (b:=false) q2 _
   wp_walk using xQ L1,qJ L2
   exact⟨_,rfl,h⟩
  ·have L1:Heap.IsTuple (Shared.heap ⟨hp,g,d,tk,os⟩) l xs:=q1;have L2:Heap.IsTuple (Shared.heap ⟨hp.push { cls:=.type "tuple_iterator",data:=.fields #[.ref l,.int 0 0] },g,d,tk,os⟩) m ys:=Sx.push (b:=true) q2 _
   wp_walk using xQ L1,xQ L2
   exact⟨_,rfl,h⟩
def Um(e:h.get? it=some (Xu b l)):Sq b h it l 0:=by
 cases b
 ·exact⟨_,e,rfl,rfl⟩
 ·exact⟨_,e,rfl,rfl⟩
def U1(q1:Sx b s.heap l xs)(q2:Sx c s.heap m ys)
  (h:∀g,IsZip g (s.heap.objs.size+4) (s.heap.objs.size+2) (s.heap.objs.size+3) .none->IsPair g (s.heap.objs.size+2) (.ref s.heap.objs.size) (.ref (s.heap.objs.size+1))->IsPair g (s.heap.objs.size+3) .none .none ->
   Sq b g s.heap.objs.size l 0->Sq c g (s.heap.objs.size+1) m 0->(∀a o,s.heap.get? a=some o->g.get? a=some o)->Q (.ref (s.heap.objs.size+4)) { s with heap:=g }) :
  wpAny (model prog w) A (call (.type "zip") [.ref l,.ref m]) Q E s:=by
 refine callType_new F.called_zip (by decide) (F.typeCall_zip_2 _ _) (F.newCall_zip_2 _ _) (λobj=>F.args_object_init_3 obj _ _) F.entry_zip_new (Vr b c l m xs ys) ⟨q1,q2,?_⟩;have n1:(z1 b s.heap l).objs.size=s.heap.objs.size+1:=xI ..;have n2:(z2 b c s.heap l m).objs.size=s.heap.objs.size+2:=by rw[xI,n1]
 have n3:(z3 b c s.heap l m).objs.size=s.heap.objs.size+3:=by rw[xI,n2]
 have n4:(z4 b c s.heap l m).objs.size=s.heap.objs.size+4:=by rw[xI,n3]
 have g5:(z5 b c s.heap l m).get? (z4 b c s.heap l m).objs.size=some _:=zX _ rfl;have g4:(z5 b c s.heap l m).get? (z3 b c s.heap l m).objs.size=some _:=zU _ (zX _ rfl);have g3:(z5 b c s.heap l m).get? (z2 b c s.heap l m).objs.size=some _:=zU _ (zU _ (zX _ rfl));have g2:(z5 b c s.heap l m).get? (z1 b s.heap l).objs.size=some (Xu c m):=zU _ (zU _ (zU _ (zX _ rfl)));have g1:(z5 b c s.heap l m).get? s.heap.objs.size=some (Xu b l):=zU _ (zU _ (zU _ (zU _ (zX _ rfl))));show _/\_;rw[n2,n3,n4] at g5;rw[n1,n2] at g3;rw[n3] at g4;rw[n1] at g2;rw[n4];exact⟨⟨_,g5,rfl⟩,h _ g5 g3 g4 (Um g1) (Um g2) λa o x=>zU _ (zU _ (zU _ (zU _ (zU _ x))))⟩
end Zp
namespace Dl
open PySem L2 PySem.Spec PyProof.Rows Zp
def sv(K:W.Frag)(b:Bool)(a:Addr)(H:Hp)(xs:List V):Prop:=match b with|true=>fM K H a xs|false=>gH K H a xs
def sv.src(I:Inv X pins σ H s)(h:sv X.K b a H xs):∃its:List Value,aL xs its/\Sx b s.heap a its.toArray/\xs.length<=sizeLine:=by
 cases b
 ·let⟨its,rv,pl,hz⟩:=I.list (show gH X.K H a xs from h);exact⟨its,rv,pl.isList,hz⟩
 ·let⟨its,rv,pl,hz⟩:=I.tuple (show fM X.K H a xs from h);exact⟨its,rv,pl,hz⟩
def sv.ne(I:Inv X pins σ H s)(hf:cO X pins H c)(h:sv X.K b a H xs):a≠c:=by
 cases b
 ·exact LH I hf h
 ·exact KH I hf h
def sv.inj(I:Inv X pins σ H s)(h:sv X.K b a H xs)(h':sv X.K b a H ys):xs=ys:=by
 cases b
 ·exact I.Tv h h'
 ·exact I.Ta h h'
def sv.mono{K:W.Frag}(e:aR H H')(h:sv K b a H xs):sv K b a H' xs:=by
 cases b
 ·exact e.seq h
 ·exact aD e h
def CS{K:W.Frag}(b c:Bool)(l1 l2 z TI TO i1 i2:Addr)(Z:Rl z TI TO i1 i2) :
  Turn P w K (.Tuple elts k pos) (PL (sv K b l1) (sv K c l2)) [z,TI,TO,i1,i2] z (λi h=>IsZip h z TI TO .none/\IsPair h TI (.ref i1) (.ref i2)/\(∃a b,IsPair h TO a b)/\Sq b h i1 l1 i/\Sq c h i2 l2 i) where
 mem:=by simp
 obj:=λi h st d hd=>by
  let⟨hz,Vs,⟨a,b',VN⟩,p1,p2⟩:=st;simp?[zQ,yF,xS] at hd;rcases hd with rfl|rfl|rfl|rfl|rfl
  ·exact⟨_,hz,λv q=>by have q:Data.fields _=Data.cell v:=q;cases q⟩
  ·exact⟨_,Vs,λv q=>by have q:Data.seq _ _=Data.cell v:=q;cases q⟩
  ·exact⟨_,VN,λv q=>by have q:Data.seq _ _=Data.cell v:=q;cases q⟩
  ·exact p1.obj
  ·exact p2.obj
 keep:=λi h h' st kk=>by
  let⟨hz,Vs,⟨a,b',VN⟩,h1,h2⟩:=st;exact⟨kk z (by simp) _ hz,kk TI (by simp) _ Vs,⟨a,b',kk TO (by simp) _ VN⟩,h1.at λo q=>kk i1 (by simp) o q,h2.at λo q=>kk i2 (by simp) o q⟩
 item:=by
  intro X hP hw hK hc i pins s σ H E I hf st hg;subst hP hw hK;let⟨xs,ys,x,y,Uo,TJ,hx,hy⟩:=hg;let⟨Zi,Zj,p1,hz1⟩:=Uo.src I;let⟨SM,Zk,p2,hz2⟩:=TJ.src I;let⟨u1,hu1,ru1⟩:=Zj.get hx;let⟨u2,hu2,ru2⟩:=Zk.get hy;have D:ZipApart z TI TO i1 i2 l1 l2:=⟨Z.a1,Z.a2,Z.a3,Z.a4,Z.a5,Z.a6,Z.a7,Z.a8,Z.a9,Z.a0,Uo.ne I (hf z (by simp)),Uo.ne I (hf TO (by simp)),Uo.ne I (hf i1 (by simp)),Uo.ne I (hf i2 (by simp)),TJ.ne I (hf z (by simp)),TJ.ne I (hf TO (by simp)),TJ.ne I (hf i1 (by simp)),TJ.ne I (hf i2 (by simp))⟩
  let⟨hz,Vs,⟨a,b',VN⟩,h1,h2⟩:=st;refine Xr (I.ok.hd hc) D hz Vs VN h1 h2 p1 p2 (x:=u1) (y:=u2) (by simpa using hu1) (by simpa using hu2) λg b1 b2 b3 b4 b5 b6 hk=>⟨.ref s.heap.objs.size,rfl,?_⟩
  have lt:∀ {c:Addr}{o:Obj},s.heap.get? c=some o->s.heap.objs.size≠c:=λe=>jH (zY e);refine wpAny_letOwnedTupleGo_zip (s:={ s with heap:=g }) b1 λg' VJ Tg=>?_;have b5':g'.get? s.heap.objs.size=some { cls:=.type "tuple",data:=.seq #[u1,u2] }:=Tg.extBut _ _ (lt hz) b5;have ht:ow g' s.heap.objs.size (List.toArray [u1,u2]):=⟨⟨_,b5',rfl,_,rfl⟩,_,b5',rfl⟩
  refine⟨.ref s.heap.objs.size,_,w8 (ch:=[z,TI,TO,i1,i2]) (xs:=[x,y]) (t':=s.toks) I hf (λb o hb q=>?_) (yL _) ht (.cons ru1 (.cons ru2 .nil)) (by show 2<=sizeLine;decide),rfl,
   ⟨s.heap.objs.size,x,y,rfl,I.fresh,rfl,λzs Wi=>by rw[Wi.inj I Uo];exact hx,λzs Wi=>by rw[Wi.inj I TJ];exact hy⟩,
   ⟨VJ,Tg.extBut _ _ Z.a1 (hk _ _ D.TIz D.TITO D.TIi1 D.TIi2 Vs),⟨_,_,Tg.extBut _ _ Z.a2 b2⟩,b3.extBut Tg.extBut Z.a3,b4.extBut Tg.extBut Z.a4⟩,λb hb=>?_⟩
  ·simp?[zQ,yF,xS,not_or] at hb;exact Tg.extBut _ _ hb.1 (hk b o hb.1 hb.2.2.1 hb.2.2.2.1 hb.2.2.2.2 q)
  ·have:s.heap.objs.size≠b:=by
    simp?[zQ,yF,xS] at hb;let⟨o1,g1,_⟩:=h1.obj;let⟨o2,g2,_⟩:=h2.obj;rcases hb with rfl|rfl|rfl|rfl|rfl
    ·exact lt hz
    ·exact lt Vs
    ·exact lt VN
    ·exact lt g1
    ·exact lt g2
   rw[aC (jM this)];exact (hf b hb).1
 done:=by
  intro X hP hw hK hc i pins s σ H E I hf st hg;subst hP hw hK;let⟨xs,ys,Uo,TJ,hx⟩:=hg;let⟨Zi,Zj,p1,hz1⟩:=Uo.src I;let⟨SM,Zk,p2,hz2⟩:=TJ.src I;have D:ZipApart z TI TO i1 i2 l1 l2:=⟨Z.a1,Z.a2,Z.a3,Z.a4,Z.a5,Z.a6,Z.a7,Z.a8,Z.a9,Z.a0,Uo.ne I (hf z (by simp)),Uo.ne I (hf TO (by simp)),Uo.ne I (hf i1 (by simp)),Uo.ne I (hf i2 (by simp)),TJ.ne I (hf z (by simp)),TJ.ne I (hf TO (by simp)),TJ.ne I (hf i1 (by simp)),TJ.ne I (hf i2 (by simp))⟩
  let⟨hz,Vs,⟨a,b',VN⟩,h1,h2⟩:=st;have e1:=Zj.length;have e2:=Zk.length;refine Wh (I.ok.hd hc) D hz Vs VN h1 h2 p1 p2 (hx.elim (λq=>.inl (by simp;lia)) λq=>.inr (by simp;lia)) λg hk=>⟨rfl,?_⟩
  refine Ct (ch:=[z,TI,TO,i1,i2]) (t':=s.toks) I hf λb o hb q=>?_;simp?[zQ,yF,xS,not_or] at hb;exact hk b o hb.1 hb.2.2.1 hb.2.2.2.1 hb.2.2.2.2 q
 self:=λ_ _ _ _ _ st h=>wpAny_pyIter_zip st.1 h
def Jd(B:qh X "zip" (.type "zip"))(ha:PA X [l,l'] tl)(hs:starEach [l,l'] X.env=(false,eval l X.env)::starEach [l'] X.env)(WJ:(backTo pos (starEach [l'] X.env)).any (·.1)=false) :
  PI X (.Tuple elts k tp) (.Call (.Name "zip" p) [l,l'] [] pos) (λσ H R=>tl σ H λvs H1=>∃a b,vs=[.ref a,.ref b]/\∃c d xs ys,sv X.K c a H1 xs/\sv X.K d b H1 ys/\R (PL (sv X.K c a) (sv X.K d b)) H1):=by
 intro pins s σ H R I h;refine Call_ (iJ I B.gl B.mg B.bt (qQ (b9 (ha pos pins s σ H _ I h) λus s1 ⟨vs,H1,I1,r1,q1⟩=>?_) hs WJ));let⟨a,b,e,c,d,xs,ys,Uo,TJ,q⟩:=q1;subst e;let⟨u,u',rfl,rx,ry⟩:=vals2 r1;cases rx;cases ry;let⟨its,rv,pl,hz⟩:=Uo.src I1;let⟨its',rv',pl',VJ⟩:=TJ.src I1;refine U1 pl pl' λg b1 b2 b3 b4 b5 kp=>wpAny_pyIter_zip (s:={ s1 with heap:=g }) b1 ?_;refine⟨_,_,_,_,H1,rfl,I1.kept (t':=s1.toks) kp,CS c d a b (s1.heap.objs.size+4) (s1.heap.objs.size+2) (s1.heap.objs.size+3) s1.heap.objs.size (s1.heap.objs.size+1) ?_,⟨b1,b2,⟨_,_,b3⟩,b4,b5⟩,λc hc=>?_,q⟩
 ·constructor<;>(intro z;have z:(_:Nat)=_:=z;lia)
 ·have VG:s1.heap.objs.size<=c:=by
   simp?[zQ,yF,xS] at hc;rcases hc with rfl|rfl|rfl|rfl|rfl
   ·exact jU _ _
   ·exact jU _ _
   ·exact jU _ _
   ·exact yL _
   ·exact jU _ _
  exact I1.SW VG (I1.RO.fresh VG)
def NK:List D->Option (List D):=λds=>match ds with
 | [x,y]=>(fR x).bind λxs=>(fR y).map λys=>ji xs ys
 | _=>none
def Ar{K:W.Frag}(h:fR d=some xs)(r:Rep K HF d v):∃b a vs,v=.ref a/\sv K b a HF vs/\ay K HF xs vs:=by
 rcases lJ h with rfl|rfl
 ·simp?[Rep] at r;let⟨a,vs,rfl,q,rr⟩:=r;exact⟨true,a,vs,rfl,q,rr⟩
 ·simp?[Rep] at r;let⟨a,vs,rfl,q,rr⟩:=r;exact⟨false,a,vs,rfl,q,rr⟩
def f7(fs:Env->Option (List D)):Env->Option (List D):=λρ=>(fs ρ).bind NK
def JK(B:qh X "zip" (.type "zip"))(hs:starEach [l,l'] X.env=(false,eval l X.env)::starEach [l'] X.env)(WJ:(backTo pos (starEach [l'] X.env)).any (·.1)=false)(h:DA X [l,l'] fs) :
  DI X (.Tuple elts k tp) (.Call (.Name "zip" p) [l,l'] [] pos) (f7 fs) :=
 ub (Jd B h hs WJ) λσ H R ⟨HF,ρ,ds,sm,eo,hf,q⟩=>by
  let⟨x,hx,hf⟩:=bs hf;refine⟨HF,ρ,_,sm,eo,hx,λvs H1 RP g1 r1=>?_⟩;unfold NK at hf;split at hf
  ·let⟨xs,h1,hf⟩:=bs hf;let⟨ys,h2,rfl⟩:=ah hf;let⟨v,r',rfl,a,b⟩:=r1.cons_inv;let⟨v',r'',rfl,a',b'⟩:=b.cons_inv;rw[b'.nil_inv];let⟨c,ad,us,rfl,hq,rr⟩:=Ar h1 a;let⟨c',ad',us',rfl,hq',rr'⟩:=Ar h2 a';exact⟨ad,ad',rfl,c,c',us,us',hq.mono g1.fh,hq'.mono g1.fh,q _ H1 RP g1 (Er hq (λ_ _ s h=>h.mono s) hq' (λ_ _ s h=>h.mono s) rr rr')⟩
  ·cases hf
end Dl
namespace Zp
open PySem PyProof.Rows
def Sq.ne(x:Sq b h it l k)(y:Sx b h l xs):l≠it:=by
 rintro rfl;cases b
 ·let⟨o,e,c,d⟩:=(show h.IsListIter l l k from x)
  let⟨o',e',r⟩:=(show h.IsList l xs from y)
  rw[e] at e';cases e';simp_all
 ·let⟨o,e,c,d⟩:=(show h.IsTupleIter l l k from x)
  let⟨o',e',r⟩:=(show h.IsTuple l xs from y)
  rw[e] at e';cases e';simp_all
def Wj(hn:A.handled=none)(b:Bool)(it l:Addr)(xs:Array Value):Draws prog w A it [it,l] xs.size (λi x=>xs[i]?=some x) (λi h=>Sq b h it l i/\Sx b h l xs) where
 live:=λi h st=>let ⟨o,e,_⟩:=st.1.obj;⟨o,e⟩
 frame:=λi h h' st k=>⟨st.1.at (k it (by simp)),st.2.at (k l (by simp))⟩
 item:=λi s Q E hi st hQ=>Zh st.1 st.2 (v:=xs[i]) (by simp[hi]) λg e t=>hQ _ g s.toks (by simp[hi]) ⟨e,st.2.extBut t.extBut (st.1.ne st.2)⟩ t
 done:=λs Q E st hE=>Vq hn st.1 st.2 (by simp) hE
def Xv{RW:Bool}{e it l:Addr}{i:Nat}{items:Array Value}{x old:Value}{Q:Option Value->Shared->Prop}(hn:A.handled=none)
  (qe:IsEnum s.heap e it i old) (qi:Sq RW s.heap it l i) (ql:Sx RW s.heap l items) (ex:items[i]?=some x) (nei:e≠it)
  (kQ:∀g tk,IsEnumOut g e it ((i:Int)+1) x s.heap.objs.size->Sq RW g it l (i+1)->g.get? s.heap.objs.size=some { cls:=.type "tuple",data:=.seq #[.int i tk,x] } ->
   g.objs.size=s.heap.objs.size+1->(∀c o,c≠e->c≠it->s.heap.get? c=some o->g.get? c=some o)->Q (some (.ref s.heap.objs.size)) { s with heap:=g,toks:=tk+1 }) :
  wpAny (model prog w) A (pyNext (.ref e)) Q E s:=by
 have nel:e≠l:=by
  rintro rfl;cases RW
  ·let⟨o,e1,r⟩:=(show s.heap.IsList e items from ql)
   rw[qe] at e1;cases e1;simp at r
  ·let⟨o,e1,r⟩:=(show s.heap.IsTuple e items from ql)
   rw[qe] at e1;cases e1;simp at r
 have D:Draws prog w A.in1 it [it,l] items.size (λi x=>items[i]?=some x) (λi h=>Sq RW h it l i/\Sx RW h l items):=Wj (A:=A.in1) hn RW it l items;refine wpAny_pyNext_enum_itemD D qe ⟨qi,ql⟩ (Array.getElem?_eq_some_iff.mp ex).1 nei (by simp[nei,nel]) λy g tk hy a b c d k=>?_;rw[ex] at hy;cases hy;exact kQ g tk a b.1 c d k
end Zp
namespace Dl
open PySem L2 PySem.Spec PyProof.Rows Zp
def pG{K:W.Frag}(b:Bool)(a it e:Addr)(hei:e≠it):Turn P w K (.Tuple elts k pos) (P7 (sv K b a)) [e,it] e (λi h=>(∃old,IsEnum h e it i old)/\Sq b h it a i) where
 mem:=by simp
 obj:=λi h st c hc=>by
  let⟨⟨old,he⟩,hi⟩:=st;rcases List.mem_cons.mp hc with z|z
  ·subst z;exact⟨_,he,λv q=>by have q:Data.fields _=Data.cell v:=q;cases q⟩
  ·rw[List.mem_singleton.mp z];exact hi.obj
 keep:=λi h h' st kk=>⟨let ⟨old,he⟩:=st.1;⟨old,kk e (by simp) _ he⟩,st.2.at λo q=>kk it (by simp) o q⟩
 item:=by
  intro X hP hw hK hc i pins s σ H E I hf st hg;subst hP hw hK;let⟨xs,x,hq,hx⟩:=hg;let⟨its,rv,p,hz⟩:=hq.src I;let⟨u,hu,ru⟩:=rv.get hx;let⟨⟨old,he⟩,hi⟩:=st;refine Xv (I.ok.hd hc) he hi p (x:=u) (by simpa using hu) hei λg tk b1 b2 b3 b4 hk=>⟨.ref s.heap.objs.size,rfl,?_⟩
  have lt:∀ {c:Addr}{o:Obj},s.heap.get? c=some o->s.heap.objs.size≠c:=λe=>jH (zY e);have V5:s.heap.objs.size≠e:=lt he;refine wpAny_letOwnedTupleGo_enum (s:={ s with heap:=g,toks:=tk+1 }) b1 λg' Wf Tg=>?_;have b3':g'.get? s.heap.objs.size=some { cls:=.type "tuple",data:=.seq #[.int i tk,u] }:=Tg.extBut _ _ V5 b3;have ht:ow g' s.heap.objs.size (List.toArray [Value.int (i:Nat) tk,u]):=⟨⟨_,b3',rfl,_,rfl⟩,_,b3',rfl⟩
  refine⟨.ref s.heap.objs.size,_,w8 (ch:=[e,it]) (xs:=[.int (i:Nat),x]) (t':=tk+1) I hf (λc o hb q=>?_) (yL _) ht (.cons ⟨_,rfl⟩ (.cons ru .nil)) (by show 2<=sizeLine;decide),rfl,
   ⟨s.heap.objs.size,x,rfl,I.fresh,rfl,λzs Wi=>by rw[Wi.inj I hq];exact hx⟩,⟨⟨_,Wf⟩,b2.extBut Tg.extBut (jM hei)⟩,λc SS=>?_⟩
  ·simp?[zQ,yF,xS,not_or] at hb;exact Tg.extBut _ _ hb.1 (hk c o hb.1 hb.2 q)
  ·have:s.heap.objs.size≠c:=by
    simp?[zQ,yF,xS] at SS;let⟨o1,g1,_⟩:=hi.obj;rcases SS with rfl|rfl
    ·exact lt he
    ·exact lt g1
   rw[aC (jM this)];exact (hf c SS).1
 done:=by
  intro X hP hw hK hc i pins s σ H E I hf st hg;subst hP hw hK;let⟨xs,hq,hx⟩:=hg;let⟨its,rv,p,hz⟩:=hq.src I;have hh:X.A.in1.handled=none:=I.ok.hd hc;have hl:=rv.length;let⟨⟨old,he⟩,hi⟩:=st;have hT:s.TypeIs (.ref e) "enumerate":=⟨_,he,rfl⟩
  unfold pyNext;refine zV (kX (qB (name:=Str.ofString "__next__") hT F.slot_enumerate_next (qU F.slot_enumerate_next hT F.entry_enumerate_next ?_ (F.args_enumerate_next_1 _))));refine zV (m:=field (.ref e) 2) (qS he rfl (x:=.ref it) rfl ?_);refine zV (Vq hh hi p (by simp;lia) λh1 x k1 hx1=>?_);let⟨o,ho,W5⟩:=hx1;refine zV (wpAny_isInstance (T:="StopIteration") (b:=true) ⟨o,ho,W5⟩ isSubtype_stop (zW ⟨rfl,?_⟩));let⟨f0,f1,f2,f3,f4,f5⟩:=hf it (by simp);exact I.turned (t':=s.toks) (λb o hb q=>k1 b o hb q) f0 f1 f3 f4 f5
 self:=λ_ _ _ _ _ st h=>let ⟨_,he⟩:=st.1;Zd he h
def Il(B:qh X "enumerate" (.type "enumerate"))(ha:PA X [l] tl)(hs:starEach [l] X.env=[(false,eval l X.env)]):PI X (.Tuple elts k tp) (.Call (.Name "enumerate" p) [l] [] pos) (λσ H R=>tl σ H λvs H1=>∃a,vs=[.ref a]/\∃b xs,sv X.K b a H1 xs/\R (P7 (sv X.K b a)) H1):=by
 intro pins s σ H R I h;refine Call_ (iJ I B.gl B.mg B.bt (qQ (b9 (ha pos pins s σ H _ I h) λus s1 ⟨vs,H1,I1,r1,q1⟩=>?_) hs rfl));let⟨a,e,b,xs,hq,q⟩:=q1;subst e;let⟨u,rfl,rx⟩:=vals1 r1;cases rx;have fresh:∀b∈[s1.heap.objs.size+1,s1.heap.objs.size],cO X pins H1 b:=λb hb=>by
  rcases List.mem_cons.mp hb with z|z
  ·subst z;exact I1.SW (Nat.le_succ _) (I1.RO.fresh (Nat.le_succ _))
  ·cases List.mem_singleton.mp z;exact I1.SW (yL _) I1.fresh
 let⟨its,rv,pl,hz⟩:=hq.src I1;cases b with
 | false =>
  refine call_enumerate_list pl λh' he hit hsz kp=>Zd (s:={ s1 with heap:=h' }) he ?_;exact⟨_,_,_,_,H1,rfl,I1.kept (t':=s1.toks) kp,pG false a s1.heap.objs.size (s1.heap.objs.size+1) (Nat.succ_ne_self _),⟨⟨_,he⟩,hit⟩,fresh,q⟩
 | true =>
  refine En.T6 (show s1.heap.IsTuple a its.toArray from pl) λh' he hit hsz kp=>Zd (s:={ s1 with heap:=h' }) he ?_;exact⟨_,_,_,_,H1,rfl,I1.kept (t':=s1.toks) kp,pG true a s1.heap.objs.size (s1.heap.objs.size+1) (Nat.succ_ne_self _),⟨⟨_,he⟩,hit⟩,fresh,q⟩
def bD(fs:Env->Option (List D)):Env->Option (List D):=λρ=>(fs ρ).bind λds=>(cy ds).map (bG 0)
def Jc(B:qh X "enumerate" (.type "enumerate"))(h:DA X [l] fs)(hs:starEach [l] X.env=[(false,eval l X.env)]):DI X (.Tuple elts k tp) (.Call (.Name "enumerate" p) [l] [] pos) (bD fs) :=
 ub (Il B h hs) λσ H R ⟨HF,ρ,ds,sm,eo,hf,q⟩=>by
  let⟨x,hx,hf⟩:=bs hf;let⟨es,h1,rfl⟩:=ah hf;let⟨d,h0,h1⟩:=bs h1;rw[gf h0] at hx;refine⟨HF,ρ,_,sm,eo,hx,λvs H1 RP g1 r1=>?_⟩;let⟨v,r',rfl,a,b⟩:=r1.cons_inv;rw[b.nil_inv];let⟨c,ad,us,rfl,hq,rr⟩:=Ar h1 a;exact⟨ad,rfl,c,us,hq.mono g1.fh,q _ H1 RP g1 (Cm hq (λ_ _ s h=>h.mono s) rr)⟩
end Dl
namespace UH
open PySem PySem.W PySem.Calls PyProof.Rows L2
def cO.at(h:cO X pins H b)(e:H' b=none):cO X pins H' b:=⟨e,h.2⟩
def SV{g:Array Value->Array Value}(I:Inv X pins σ H s)(f:cO X pins H b):Inv X pins σ H { s with heap:=s.heap.update b (Obj.mapSeq g) }:=by
 let⟨f0,f1,f2,f3,f4,f5⟩:=f;exact I.turned (t':=s.toks) (h':=s.heap.update b (Obj.mapSeq g)) (λc o hc e=>(xM _ _ (jM hc)).trans e) f0 f1 f3 f4 f5
def Uq(I:Inv X (pins++nI fp h) σ H' s')(hb:b∈fp)(e:h.get? b=some o):s'.heap.get? b=some o/\H' b=none :=
 let q:=I.pin (b,o) (yE _ (yE _ (eD hb e)));⟨q.1,q.2.1⟩
def Ub(I:Inv X pins σ H s)(ho:s.heap.get? a=some (seqObj "list" vs.toArray n))(fa:cO X pins H a)(Ux:vs.length < 64)
  (J:List Value->Hp->Prop) (j0:J [] H)
  (step:∀us v,vs[us.length]?=some v->∀pl s' H',Inv X (pins++pl) σ H' s'->J us H'->wpAny (model X.prog X.w) A (call f [v]) (λu S5=>∃Wl,Inv X (pins++pl) σ Wl S5/\J (us++[u]) Wl) (λ_ _=>False) s')
  (fin:∀us H',us.length=vs.length->J us H'->∃ (z:Nat->Int) (κ:SortKind),(2<=vs.length->∀s',Inv X pins σ H' s'->(∀Q':SortKind->Shared->Prop,Q' κ s'->wpAny (model X.prog X.w) A (keyKind' us.toArray) Q' (λ_ _=>False) s') /\
    ∀i j C,i < vs.length->j < vs.length->C (SP.eJ z i j) s'->kas_ask X.prog X.w A κ us i j C s') /\
   ∀s' c,Inv X pins σ H' s'->cO X pins H' a->s'.heap.get? a=some (seqObj "list" (RZ z vs).toArray c)->P (.done (.ret .none)) s') :
  wpAny (model X.prog X.w) A (ksk_tree a f false) P E s:=by
 have T3:vs.length<=sizeLine:=by rw[qT];lia
 unfold ksk_tree;refine zV (vR ho rfl ?_);refine zV (kA ho rfl ?_ (by simpa using T3) (xU _));obtain⟨e1,VH⟩:∃e,(s.heap.update a (Obj.mapSeq λ_=>(#[]:Array Value))).get? a=some (seqObj "list" #[] e):=⟨_,kC ho λ_=>#[]⟩
 have I1:=SV (g:=λ_=>(#[]:Array Value)) I fa;refine zV (seqEpoch_at VH rfl ?_);refine zV (wpAny_newTuple ?_ (by simpa using T3));refine zV (kU ?_ (xU _));refine xW ?_;have VI:(((s.heap.update a (Obj.mapSeq λ_=>(#[]:Array Value))).push (seqObj "tuple" vs.toArray 0)).push (seqObj "list" #[] 0)).get? a=some (seqObj "list" #[] e1):=zU _ (zU _ VH);have WD:(((s.heap.update a (Obj.mapSeq λ_=>(#[]:Array Value))).push (seqObj "tuple" vs.toArray 0)).push (seqObj "list" #[] 0)).get? ((s.heap.update a (Obj.mapSeq λ_=>(#[]:Array Value))).push (seqObj "tuple" vs.toArray 0)).objs.size=some (seqObj "list" #[] 0):=zX _ rfl;have I3:=(I1.kept (t':=s.toks) (h':=((s.heap.update a (Obj.mapSeq λ_=>(#[]:Array Value))).push (seqObj "tuple" vs.toArray 0)).push (seqObj "list" #[] 0)) λb o e=>zU _ (zU _ e))
 have I2:=(I1.kept (t':=s.toks) (h':=(s.heap.update a (Obj.mapSeq λ_=>(#[]:Array Value))).push (seqObj "tuple" vs.toArray 0)) λb o e=>zU _ e)
 have fk:cO X pins H ((s.heap.update a (Obj.mapSeq λ_=>(#[]:Array Value))).push (seqObj "tuple" vs.toArray 0)).objs.size:=I2.SW (yL _) (I2.RO.fresh (yL _));have Zl:((s.heap.update a (Obj.mapSeq λ_=>(#[]:Array Value))).push (seqObj "tuple" vs.toArray 0)).objs.size≠a:=by
  have R6:=zY VH;rw[xI];exact jH (jN R6)
 show wpAny _ A _ P E { s with heap:=((s.heap.update a (Obj.mapSeq λ_=>(#[]:Array Value))).push (seqObj "tuple" vs.toArray 0)).push (seqObj "list" #[] 0) };generalize ((s.heap.update a (Obj.mapSeq λ_=>(#[]:Array Value))).push (seqObj "tuple" vs.toArray 0)).objs.size=kS at WD fk Zl;generalize e3:({ s with heap:=((s.heap.update a (Obj.mapSeq λ_=>(#[]:Array Value))).push (seqObj "tuple" vs.toArray 0)).push (seqObj "list" #[] 0) }:Shared)=s3 at I3;have VI:s3.heap.get? a=some (seqObj "list" #[] e1):=by rw[<- e3];exact VI
 have WD:s3.heap.get? kS=some (seqObj "list" #[] 0):=by rw[<- e3];exact WD
 clear e3 I2 I1 VH ho;unfold ksk_rest;refine zV (wN ?_)
 first
  | rw[List.forIn_toArray]
  | (rw[<- Array.forIn_toList];simp?[List.toList_toArray])
  | rw[<- Array.forIn_toList]
 refine zV (ksk_fold (λi s'=>∃us H' e,us.length=i/\Inv X pins σ H' s'/\H' a=none/\H' kS=none/\s'.heap.get? a=some (seqObj "list" #[] e1)/\s'.heap.get? kS=some (seqObj "list" us.toArray e)/\J us H') vs 0 s3
  ⟨[],H,0,rfl,I3,fa.1,fk.1,VI,WD,j0⟩ ?step ?done)
 case step =>
  rintro j x s' hx ⟨us,H',e,hu,I',WK,Uw,Yh,RO,j'⟩;have hu:us.length=j:=by lia
  have hj:j < vs.length:=(List.getElem?_eq_some_iff.mp hx).1;have Ip:=I'.pinned (fp:=[a,kS]) (λb hb=>by
   rcases List.mem_cons.mp hb with rfl|hb
   ·exact cO.at fa WK
   ·rw[List.mem_singleton.mp hb];exact cO.at fk Uw) (λb hb=>by
   rcases List.mem_cons.mp hb with rfl|hb
   ·exact⟨_,Yh,λv z=>by cases z⟩
   ·rw[List.mem_singleton.mp hb];exact⟨_,RO,λv z=>by cases z⟩)
  refine zV (kX (yZ (step us x (by rw[hu];exact hx) _ s' H' Ip j') (λu S5 he=>?_) λ_ _ hF=>hF.elim));let⟨Wl,Zm,j''⟩:=he
  try dsimp only
  let⟨ga,na⟩:=Uq Zm (b:=a) zE Yh;let⟨gk,nk⟩:=Uq Zm (b:=kS) (zC _ zE) RO;have I4:=Zm.R9;obtain⟨c2,Ut⟩:∃c2,(S5.heap.update kS (Obj.mapSeq (·.push u))).get? kS=some (seqObj "list" (us.toArray.push u) c2):=⟨_,kC gk (·.push u)⟩
  refine zV (kA gk rfl ?_ (by rw[zH,qT];lia) (yD (Nat.le_of_eq (Array.size_push ..)) (by rw[zH,qT];lia)));refine zW ⟨rfl,us++[u],Wl,c2,by rw[zN,hu];simp,SV I4 (cO.at fk nk),na,nk,(xM _ _ Zl).trans ga,?_,j''⟩;rw[Ut];simp
 case done =>
  rintro s' ⟨us,H',e,hu,I',WK,Uw,Yh,RO,j'⟩;have hu:us.length=vs.length:=by lia
  try dsimp only
  refine zV (vR RO rfl ?_);let⟨z,κ,hz,hP⟩:=fin us H' hu j';have last:∀Su:SortSt,(arrOf Su).map (·.2)=(RZ z vs).toArray->failedOf Su=none->wpAny (model X.prog X.w) A (ksk_tail a false e1 (.ref kS) Su) P E s':=λSu h1 h2=>by
   unfold ksk_tail
   try dsimp only
   rw[h1,h2];have Zn:(s'.heap.update kS (Obj.mapSeq λ_=>(#[]:Array Value))).get? a=some (seqObj "list" #[] e1):=(xM _ _ Zl).trans Yh;have I5:=SV (g:=λ_=>(#[]:Array Value)) I' (cO.at fk Uw);have I6:=SV (s:={ s' with heap:=s'.heap.update kS (Obj.mapSeq λ_=>(#[]:Array Value)) }) (g:=λ_=>(RZ z vs).toArray) I5 (cO.at fa WK);refine zV (kA RO rfl ?_ (by rw[zH,qT];lia) (xU _));refine zV (wpAny_letGo ?_);refine zV (seqEpoch_at Zn rfl ?_);refine zV (kA Zn rfl ?_ (xU _) (by
    simp?[yN,qN];show (RZ z vs).toArray.size<=_;rw[zH,TF];lia))
   obtain⟨c,hc⟩:∃c,((s'.heap.update kS (Obj.mapSeq λ_=>(#[]:Array Value))).update a (Obj.mapSeq λ_=>(RZ z vs).toArray)).get? a=some (seqObj "list" (RZ z vs).toArray c):=⟨_,kC Zn λ_=>(RZ z vs).toArray⟩
   simp?[bne_self_eq_false,yN,qN];exact zW (hP _ c I6 (cO.at fa WK) hc)
  unfold ksk_end
  try dsimp only
  simp?[yN,qN];by_cases h2:vs.toArray.size < 2
  ·rw[yK h2,yK h2];refine zV (zW ?_);rw[StateT.run_pure];refine zV (zW (last _ ?_ rfl));have Va:vs.length < 2:=by simpa using h2
   unfold RZ;rw[yK Va];show ((us.toArray.zip vs.toArray).map (·.2))=vs.toArray;apply Array.toList_inj.mp;simp?[Array.toList_map,Array.toList_zip];exact List.map_snd_zip (by rw[hu];exact yL _)
  ·rw[yM h2,yM h2];have Va:2<=vs.length:=by
    have:¬ vs.length < 2:=by simpa using h2
    lia
   let⟨hk,R6⟩:=hz Va s' I';refine zV (yZ (hk (λXf S5=>Xf=κ/\S5=s') ⟨rfl,rfl⟩) (λXf S5 hs=>?_) λ_ _ x=>x.elim);let⟨rfl,rfl⟩:=hs;refine zV (yZ (kat_run (Q:=λSu s2=>s2=S5/\(arrOf Su).map (·.2)=(RZ z vs).toArray/\failedOf Su=none) (G:=λp s2=>s2=S5/\p=SP.run (SP.eJ z) (kas_sort vs.length))
    hu Va Ux (λp Su s2 a1 a2 a3 a4=>⟨a4.1,?_,a3⟩) (SP.wp_run R6 (kas_sort vs.length) (SP.Ek (by lia)) ⟨rfl,rfl⟩)) ?_ λ_ _ e=>e)
   ·rw[kat_snds hu a2,a4.2];unfold RZ;rw[yM (by lia)]
   ·rintro⟨⟨⟩,Su⟩ s2 ⟨hs,h4,h5⟩;subst hs;exact last Su h4 h5
def sortedK{l:Value}{f:Addr}{Q:Value->Shared->Prop}(I:Inv X pins σ H s)(Ux:vs.length < 64)
  (Zo:∀ {Q':List Value->Shared->Prop},(∀h':Heap,(∀b o,s.heap.get? b=some o->h'.get? b=some o)->Q' vs { s with heap:=h' })->wpAny (model X.prog X.w) A.in1 (collect l) Q' E s)
  (J:List Value->Hp->Prop) (j0:J [] H)
  (step:∀us v,vs[us.length]?=some v->∀pl s' H',Inv X (pins++pl) σ H' s'->J us H'->wpAny (model X.prog X.w) A.in1.in1 (call (.ref f) [v]) (λu S5=>∃Wl,Inv X (pins++pl) σ Wl S5/\J (us++[u]) Wl) (λ_ _=>False) s')
  (fin:∀us H',us.length=vs.length->J us H'->∃ (z:Nat->Int) (κ:SortKind),(2<=vs.length->∀s',Inv X pins σ H' s'->(∀Q':SortKind->Shared->Prop,Q' κ s'->wpAny (model X.prog X.w) A.in1.in1 (keyKind' us.toArray) Q' (λ_ _=>False) s') /\
    ∀i j C,i < vs.length->j < vs.length->C (SP.eJ z i j) s'->kas_ask X.prog X.w A.in1.in1 κ us i j C s') /\
   ∀s' D c,Inv X pins σ H' s'->cO X pins H' D->s'.heap.get? D=some (seqObj "list" (RZ z vs).toArray c)->Q (.ref D) s') :
  wpAny (model X.prog X.w) A (call (.builtin "sorted") [l] [(Str.ofString "key",.ref f)]) Q E s:=by
 have T3:vs.length<=sizeLine:=by rw[qT];lia
 refine call_function_entry_kw kind_sorted plain_sorted entry_sorted (ksk_s1 _ _) ?_;unfold Builtin.«sorted»;refine zV (m:=checkCount "sorted" 1 1 _) (zW (zV (Zo λh1 kp=>?_)));refine zV (kU ?_ (by simpa using T3));have I1:=I.kept (t':=s.toks) kp;have fD:cO X pins H h1.objs.size:=I1.SW (yL _) (I1.RO.fresh (yL _));have WI:(h1.push (seqObj "list" vs.toArray 0)).get? h1.objs.size=some (seqObj "list" vs.toArray 0):=zX _ rfl;have I2:=I1.kept (t':=s.toks) (h':=h1.push (seqObj "list" vs.toArray 0)) λb o e=>zU _ e;show wpAny _ _ _ _ _ { s with heap:=h1.push (seqObj "list" vs.toArray 0) };refine zV (xW (wpAny_call_entry_kw slot_list_sort ⟨_,WI,rfl⟩ entry_list_sort ?body (ksk_l1 _ _)))
 case body =>
  show wpAny (model X.prog X.w) A.in1.in1 (Builtin.«list.sort» ⟨[.ref h1.objs.size],[(Str.ofString "key",.ref f)]⟩) _ _ _;rw[ksk_t1];refine Ub I2 WI fD Ux J j0 step λus H' hu j'=>?_;let⟨z,κ,hz,hP⟩:=fin us H' hu j';exact⟨z,κ,hz,λs' c I' f' e=>⟨_,rfl,zW ⟨_,rfl,hP s' _ c I' f' e⟩⟩⟩
end UH
namespace Dl
open PySem L2 PySem.Spec PyProof.Rows
def _root_.L2.Inv.Xw(I:Inv X pins σ H s)(f:cO X pins H b)(ho:dS X.prog X.w (upd H b o) s.heap b o):Inv X pins σ (upd H b o) s:=by
 let⟨f0,f1,f2,f3,f4,f5⟩:=f;have up:∀c u,H c=some u->upd H b o c=some u:=λc u e=>by rw[aC (aM e f0)];exact e
 refine⟨I.ok,I.os,I.bare,⟨I.base.keep,I.base.slot,λc oc e n hx=>?_,I.base.there,λc xs e=>up c _ (I.base.SK c xs e),λc oc u e=>up c _ (I.base.Sz c oc u e),⟨λc u e t=>up c u (I.base.Sr.st c u e t),I.base.Sr.gr⟩⟩,I.loc,I.cell,?_,λx c e=>?_,λp hp=>?_,λc u e=>?_,I.len⟩
 ·have So:c≠b:=λz=>by
   rcases f3 with g|g
   ·exact hx (z ▸ g)
   ·exact absurd (zP (zY e) (z ▸ g)) (qD _)
  rw[aC So];exact I.base.free c oc e n hx
 ·rw[aC (jM f1)];exact I.free
 ·rw[aC (f4 x c e)];exact I.RU x c e
 ·let⟨e,n,r⟩:=I.pin p hp;exact⟨e,by rw[aC (f5 p hp)];exact n,r⟩
 ·by_cases hc:c=b
  ·subst hc;rw[aG] at e;cases e;exact ho
  ·rw[aC hc] at e;exact (I.RO c u e).Sd (λd w _ q=>q) (λd q=>up d _ q) λd w q _=>up d _ q
def u9(scope:Scope)(N':List Str)(p:Str):Bool:=scope.names.all (λq=>!decide (q.2=NameKind.cell))&&decide (N'[0]?=some p)&&decide (scope.names.lookup p=some .local)&&decide (scope.isCoroutine=false)&&decide (scope.isGenerator=false)
section
def Mp(C:Bk X N sc (k+3))(hA:ej (k+1) A)(hk:scope.kind=.function)(Tc:N'.Nodup)(hl:u9 scope N' p=true):Bk (lA X A qual scope N' f c s H) N' scope k where
 n:=rfl
 nd:=Tc
 tb:=λx kd hx=>.inl hx
 calm:=rfl
 fn:=λx hx=>by
  unfold u9 at hl;simp?[zF,xF,yO,xA] at hl;exact absurd rfl (hl.1.1.1.1 _ (mem_of_lookup hx))
 room:=hA.deeper _
 xe:=rfl
 kd:=hk
structure v9(X:Cx)(qual:Str):Prop where
 ex:∃c P,X.env.code=.ref c/\X.env.qual++"<lambda>"=qual/\W.codeHdIn X.K c P=true/\∀HF,eh X.K HF->HF P=some (.tab qual)
def lC(te:Env->Option D)(ρ:Env):List D->Option (List D)
 | []=>some []
 | d::ds=>(te (ρ.set 0 (some d))).bind λx=>(lC te ρ ds).map (x::·)
def so:∀ {ds ks:List D},lC te ρ ds=some ks->ks.length=ds.length
 | [],ks,h=>by cases h;rfl
 | d'::ds,ks,h=>by
  unfold lC at h;let⟨y,h1,h⟩:=bs h;let⟨ys,h2,rfl⟩:=ah h;simp[so h2]
def wx:∀ {ds ks:List D}{i:Nat}{d:D},lC te ρ ds=some ks->ds[i]?=some d->∃x,te (ρ.set 0 (some d))=some x/\ks[i]?=some x
 | [],ks,i,d,h,e=>by simp at e
 | d'::ds,ks,i,d,h,e=>by
  unfold lC at h;let⟨y,h1,h⟩:=bs h;let⟨ys,h2,rfl⟩:=ah h;cases i with
  | zero=>simp at e;subst e;exact⟨y,h1,rfl⟩
  | succ i=>let⟨x,a,b⟩:=wx h2 (by simpa using e);exact⟨x,a,by simpa using b⟩
def nE(cs:List Nat)(fl te:Env->Option D):Env->Option (List D):=λρ=>(fl ρ).bind λl=>match l with
 | .list ds=>(lC te (gg 1 cs ρ) ds).bind λks=>(intsOf ks).bind λzs=>if ds.length < 64 then some (uO (λi=>zs.getD i 0) ds .none) else none
 | _=>none
def Gp{K:W.Frag}{cs:List Nat}(eo:cM K HF ρ σ)(r:Rep K HF d v):cM K HF ((gg 1 cs ρ).set 0 (some d)) ((jn 1 cs σ).set 0 (some v)):=iy (BA eo) r
def mf{K:W.Frag}:∀ {ks:List D}{zs:List Int}{R5:List V}{us:List Value},intsOf ks=some zs->ay K HF ks R5->aL R5 us->IntsAre us zs
 | [],zs,R5,us,h,r,v=>by
  cases h;rw[r.nil_inv] at v;cases v;exact .nil
 | d::ks,zs,R5,us,h,r,v=>by
  cases d<;>simp?[intsOf] at h<;>try cases h
  rename_i i;let⟨ys,h2,rfl⟩:=ah h;let⟨w,ws,rfl,a,b⟩:=r.cons_inv;simp?[Rep] at a;subst a;cases v with
  | cons r1 r2 =>
   let⟨t,rfl⟩:=r1;exact .cons i t (mf h2 b r2)
def iO:∀ {us:List Value}{zs:List Int}{i:Nat},IntsAre us zs->i < us.length->∃t,us.getD i Value.none=.int (zs.getD i 0) t
 | _,_,i,.nil,h=>by simp at h
 | _,_,0,.cons n t r,h=>⟨t,rfl⟩
 | _,_,i+1,.cons n t r,h=>by
  let⟨t',e⟩:=iO (i:=i) r (by simpa using h);exact⟨t',by simpa using e⟩
variable {fl te:Env->Option D}{cs:List Nat}
def Bk.Xx(C:Bk X N sc (k+3))(B:qh X "sorted" (.builtin "sorted"))(L:v9 X qual)(ok:nC sc scope N N' 1 cs=true)(hl:u9 scope N' p=true)
  (hb:∀ (cl:List (Str×Addr)) (pm TB u:Value) (c:Addr),bindArgs (W.kla_fn "<lambda>" qual params body scope cl pm (.ref c) TB) ⟨[u],[]⟩=pure [(p,u)]) (V8:defaultsOf params X.env=([],[])) (h:DE X l fl)
  (hY:∀A f c s H,Bk (lA X A qual scope N' f c s H) N' scope k->DE (lA X A qual scope N' f c s H) body te)
  (Te:starEach [l] X.env=(false,eval l X.env)::starEach [] X.env) (he:backTo pos (starEach [l] X.env)=(false,eval l X.env)::backTo pos (starEach [] X.env)) (Sv:(backTo pos (starEach [l] X.env)).any (·.1)=false) :
  DF X (.Call (.Name "sorted" p0) [l] [⟨some "key",.Lambda params body scope SX,Wn⟩] pos) (nE cs fl te):=by
 let⟨S,_⟩:=C.comp ok;have Tc:N'.Nodup:=by
  unfold nC at ok;simp?[zF,zJ] at ok;exact ok.2
 have Yi:=hl;unfold u9 at Yi;simp?[zF,xF,yO,xA,zJ] at Yi;obtain⟨⟨⟨⟨VA,WE⟩,hp⟩,UE⟩,V6⟩:=Yi;let⟨cc,P,Ul,Xy,hhd,ft⟩:=L.ex;intro pins s σ H Q I ⟨HF,ρ,out,sm,eo,hf,q⟩;let⟨ld,hld,hf⟩:=bs hf;cases ld<;>try cases hf
 rename_i ds;let⟨ks,hks,hf⟩:=bs hf;let⟨zs,Wi,hf⟩:=bs hf;split at hf<;>cases hf;rename_i Ux;refine qX (iJ I B.gl B.mg B.bt ?_ (by decide) (by decide));refine PyProof.Rows.callWith_kw (e:=l) (rest:=[]) (kws:=[⟨some "key",.Lambda params body scope SX,Wn⟩]) ?_ he Sv rfl rfl;refine b9 (Bv h Fs Te pos pins s σ H _ I ⟨HF,ρ,[.list ds],sm,eo,by simp[aa,af,hld],λvs H1 RP g1 r1=>(⟨RP,g1,r1⟩:∃RP,bM HF H RP H1/\ay X.K RP [.list ds] vs)⟩) λus s1 ⟨vs,H1,I1,rv,RP,g1,r1⟩=>?_;let⟨v,vr,rfl,a1,b1⟩:=r1.cons_inv;rw[b1.nil_inv] at rv;let⟨u,rfl,rx⟩:=vals1 rv;simp?[Rep] at a1;let⟨la,ws,rfl,hq,rr⟩:=a1;cases rx;have hT1:H1 P=some (.tab qual):=g1.fh _ _ (ft RP (eo.tb.mono g1.ff));show wpAny _ _ (evalAll ((do let v <- eval (.Lambda params body scope SX) X.env;standAt pos;pure v)::[])) _ _ s1;refine wpAny_evalAll_cons (zV ?_);refine Gs (P:=P) I1 S Xy Ul (W.codeHd_of_K I1.ok.mod.VS hhd) hT1 I1.ok.mod.bmd V8 λf c' pm TB s2 H2 I2 hfo U4 V7 Zq fp2 _=>?_;refine zV (vH (zW (wpAny_evalAll_nil ?_)));show wpAny _ _ (call (.builtin "sorted") [.ref la] [(Str.ofString "key",.ref f)]) _ _ s2;have Ip:=I2.pinned (fp:=[f]) (λb hb=>by rw[List.mem_singleton.mp hb];exact fp2) (λb hb=>by rw[List.mem_singleton.mp hb];exact⟨_,hfo,λv z=>by cases z⟩);have g2:bM RP H1 RP H2:=⟨Zq,.refl _,g1.fh.trans Zq,λ_ _ e=>.inl e⟩
 let⟨its,Yj,pl,hz⟩:=Ip.list (Zq.seq (g1.fh.seq hq));have hlen:its.length=ds.length:=by rw[<- Yj.length,rr.length]
 have Xz:=so hks;have hR:ej (k+1) X.A.in1.in1:=C.room.in1.in1;refine UH.sortedK (vs:=its) Ip (by lia) (λ{Q'} hQ=>?_) (λus H'=>∃RN R5,bM RP H2 RN H'/\ay X.K RN (ks.take us.length) R5/\aL R5 us) ⟨RP,[],.refl g2.fh,by simpa using ay.nil,.nil⟩ (λus x hx pl' s3 H3 I3 ⟨Sw,R5,g3,rk,Zr⟩=>?_) λus H3 hu ⟨Sw,R5,g3,rk,Zr⟩=>?_
 ·refine collect_list pl.isList (hQ _ λb o e=>?_) (by rw[qT];lia);exact (xM _ _ (jH (zY e))).trans (zU _ e)
 ·have hi:us.length < its.length:=(List.getElem?_eq_some_iff.mp hx).1;obtain⟨w,hw⟩:∃w,ws[us.length]?=some w:=⟨_,zK (by rw[Yj.length];exact hi)⟩
  let⟨x',U9,VY⟩:=Yj.get hw;rw[hx] at U9;cases U9;let⟨d,hd,rd⟩:=rr.get hw;let⟨kd,YX,hki⟩:=wx hks hd;have Zs:s3.heap.get? f=some (W.kla_obj "<lambda>" qual params body scope (eU X.env scope.names []) pm c' TB) :=
   (I3.pin (f,_) (yE _ (qH _ (yE _ (eD zE hfo))))).1
  refine yZ (Gx (Q:=λv H4=>∃Tf,bM Sw H3 Tf H4/\Rep X.K Tf kd v) (te:=tD X.K te) I3 hR I3.ok.frames S VA WE hp Tc UE V6 Zs (g3.hh _ _ V7) (hb _ _ _ _ _) VY (hY _ _ _ _ _ (Mp C hR S.kind Tc hl))
   ⟨Sw,_,kd,g3.fh,Gp (eo.mono (g1.ff.trans g3.ff)) (rd.mono g3.ff),YX,λv H4 Tf g4 r4=>⟨Tf,g4,r4⟩⟩) (λu s4 ⟨v4,H4,I4,r4,Tf,g4,rp⟩=>⟨H4,I4,Tf,R5++[v4],g3.trans g4,?_,Zr.append (.cons r4 .nil)⟩) λ_ _ e=>e
  rw[zN,xB,List.take_add_one,hki];exact (rk.mono g4.ff).append (ay.cons rp ay.nil)
 ·have Uw:ks.take us.length=ks:=kL (by lia);rw[Uw] at rk;have ia:=mf Wi rk Zr;refine⟨λi=>zs.getD i 0,oneType',λh2 s3 I3=>⟨λQ' q'=>?_,λi j Cc hi hj q'=>?_⟩,λs3 Dn c I3 fD e=>?_⟩
  ·rw[PyProof.Rows.ksk_kind (keys:=us.toArray) (kz:=zs) (by simpa using ia) (by simpa [hu] using h2)];exact zW q'
  ·let⟨t1,e1⟩:=iO ia (i:=i) (by lia);let⟨t2,e2⟩:=iO ia (i:=j) (by lia);unfold W.kas_ask;rw[e1,e2];exact W.kat_lt_int q'
  ·have hv:=uW (λi=>zs.getD i 0) Yj;have hr:=xp (λi=>zs.getD i 0) rr;have Zt:H3 Dn=none:=fD.1;have I4:=Inv.Xw (o:=.lst (uO (λi=>zs.getD i 0) ws .RK)) I3 fD ⟨by rw[(lW _ _ _).length_eq];exact hz,_,c,hv,e⟩;have G:=(g1.trans g2).trans g3;refine⟨.ref Dn,_,I4.R9,rfl,q Dn _ _ Sw (G.trans (.own G.fh Zt)) (G.hh.free Zt) (G.fh.free Zt) aG (hr.mono g3.ff)⟩
end
end Dl
namespace UH
open PySem PySem.W PySem.Calls PyProof.Rows L2
end UH
namespace Dl
open PySem L2 PySem.Spec PyProof.Rows
section
variable {cs:List Nat}
end
def Qs(i j l:Nat):Env->D->Option Env:=λρ d=>match d with
 | .tuple [x,y,z]=>if isFree ρ i=true/\isFree ρ j=true/\isFree ρ l=true then some (((ρ.set i (some x)).set j (some y)).set l (some z)) else none
 | _=>none
def FX(i j l:Nat)(hc:X.calm=true)(hN:X.N.Nodup)(hi:X.N[i]?=some x)(hx:Loc X.env.scope x)(hj:X.N[j]?=some y)(hy:Loc X.env.scope y)(hl:X.N[l]?=some z)(hz:Loc X.env.scope z)
  (hf:X.fn x=true\/X.env.scope.names.lookup x=some .local) (U8:X.fn y=true\/X.env.scope.names.lookup y=some .local) (Zu:X.fn z=true\/X.env.scope.names.lookup z=some .local) :
  DG X (.Tuple [.Name x px,.Name y py,.Name z pz] k pos) (Qs i j l) :=
 pE (uj hc (dq (dz hN hi hx hf) (dq (dz hN hj hy U8) (dq (dz hN hl hz Zu) oQ)))) λv σ H Q ⟨HF,ρ,d,ρ',sm,eo,r,hf,q⟩=>by
  unfold Qs at hf;split at hf
  ·rename_i x' y' z';split at hf
   ·rename_i hh;cases hf;simp?[Rep] at r;let⟨a,vs,rfl,hs,rr⟩:=r;let⟨v1,r1,rfl,a1,b1⟩:=rr.cons_inv;let⟨v2,r2,rfl,a2,b2⟩:=b1.cons_inv;let⟨v3,r3,rfl,a3,b3⟩:=b2.cons_inv;rw[b3.nil_inv] at hs;exact⟨a,_,rfl,aD sm hs,rfl,v1,_,rfl,v2,_,rfl,v3,_,rfl,rfl,q _ (iy (iy (iy eo a1) a2) a3) (ku (ku (ku eo hh.1) hh.2.1) hh.2.2)⟩
   ·cases hf
  ·cases hf
def rm(d:D):List D->Option Nat
 | []=>none
 | x::xs=>if PyData.eqv x d=true then some 0 else (rm d xs).map (·+1)
def rW:∀ {xs:List D}{j:Nat},rm d xs=some j->j < xs.length/\(∀x,xs[j]?=some x->PyData.eqv x d=true)/\∀m,m < j->∀x,xs[m]?=some x->PyData.eqv x d=false
 | [],j,h=>by cases h
 | x::xs,j,h=>by
  unfold rm at h;split at h
  ·cases h;rename_i e;exact⟨Nat.succ_pos _,λy hy=>by cases hy;exact e,λm hm=>absurd hm (vX _)⟩
  ·rename_i e;let⟨k,hk,rfl⟩:=ah h;let⟨a,b,c⟩:=rW hk;refine⟨by simpa using a,λy hy=>b y (by simpa using hy),λm hm y hy=>?_⟩;cases m with
   | zero=>cases hy;simpa using e
   | succ m=>exact c m (by lia) y (by simpa using hy)
def CU(hu:X.A.units+66 < cLine):MV X "list.index" (λx vs H Q=>∃ (HF:Hp) (ds:List D) (d:D) (y:V) (j:Nat),aR HF H/\Rep X.K HF (.list ds) x/\vs=[y]/\Rep X.K HF d y/\SeqAt.shaped d=true/\SeqAt.shaped (.list ds)=true/\ds.length<=sizeLine/\rm d ds=some j/\Q (.int j) H):=by
 intro pins s σ H x vs v us Q I rx rv h;let⟨HF,ds,d,y,j,sm,r1,rfl,r2,hd,hl,hz,hj,q⟩:=h;let⟨u,rfl,ru⟩:=rv.one;let⟨as,ra⟩:=ck I sm r1 rx;let⟨bs,rb⟩:=ck I sm r2 ru;have c1:=kK hd;have c2:=kK hl;have d1:=SeqAt.depth_of_shaped hd;simp?[PyData.canLay0] at c2;have m:=Nat.min_le_right (PyData.depthAll ds) d.depth;let⟨VM,hj2,hj3⟩:=rW hj;cases ra with
 | list h1 h2 h3 h4 =>
  rename_i l o its n as;let⟨cls,dd,data,sl⟩:=o;simp only at h2 h3;subst h2 h3;have hm:=SeqAt.readsAll_map _ _ _ c2 h4;have hlen:its.size=ds.length:=by rw[<- hm];simp
  have Y6:(sizeLine:Nat) < 2 ^ 62:=by decide
  have at_:∀m (hm:m < its.size),ds[m]?=some (SeqAt.readOf s.heap its[m]):=λm S7=>by
   rw[<- hm,zO,Array.getElem?_toList,jY S7];rfl
  refine qV F.slot_list_index ⟨_,h1,rfl⟩ F.entry_list_index (F.args_list_index_2 _ _) (PySem.SeqAt.list_indexAt l its n dd sl u (λy=>PyData.eqv (SeqAt.readOf s.heap y) d) j (by rw[hlen];exact VM) (by lia) ?_ ?_) ⟨h1,?_,?_⟩
  ·exact hj2 _ (at_ j (by rw[hlen];exact VM))
  ·intro m S7 Xo;exact hj3 m Xo _ (at_ m S7)
  ·exact SeqAt.items_eqAt h4 rb c2 c1 (by lia)
  ·exact⟨.int j,H,I.tok _,⟨_,rfl⟩,q⟩
def OT(x y:D):Option Bool:=match y with
 | .tuple ds=>if SeqAt.shaped x=true/\SeqAt.shaped y=true then some (!ds.any λz=>PyData.eqv z x) else none
 | .list ds=>if SeqAt.shaped x=true/\SeqAt.shaped y=true then some (!ds.any λz=>PyData.eqv z x) else none
 | _=>none
def Ed(hu:X.A.units+66 < cLine):gp X (compareOp .NotIn) (Oh X.K OT):=by
 intro pins s σ H v1 v2 u1 u2 Q I rx ry h;let⟨HF,x,y,k,sm,r1,r2,hg,q⟩:=h;let⟨as,ra⟩:=ck I sm r1 rx;let⟨bs,rb⟩:=ck I sm r2 ry;cases y<;>simp?[OT] at hg<;>try cases hg
 all_goals
  split at hg<;>cases hg;rename_i ds hh;have c1:=kK hh.1;have c2:=kK hh.2;have d1:=SeqAt.depth_of_shaped hh.1;simp?[PyData.canLay0] at c2;have m:=Nat.min_le_right (PyData.depthAll ds) x.depth
  first
   | exact SeqAt.notIn_list_reads rb ra c2 c1 (by lia) ⟨.bl _,H,I,rfl,q⟩
   | exact SeqAt.notIn_tuple_reads rb ra c2 c1 (by lia) ⟨.bl _,H,I,rfl,q⟩
def xt:D->D->Option D:=λx y=>(OT x y).map PyData.bool
def Bk.XA(C:Bk X N sc k)(ha:DE X a fa)(hb:DE X b fb)(hm:behindInMarks .NotIn b=false:=by rfl):DE X (.Compare a [.NotIn] [b] pos) (f2 xt fa fb):=iL (Ed C.Ye) j5 ha hb hm
def Bk.Zv(C:Bk X N sc k)(ha:DE X a fa)(hb:DE X b fb)(hm:behindInMarks .NotIn b=false:=by rfl):DT X (.Compare a [.NotIn] [b] pos) (fB (f2 xt fa fb)):=ir (Ed C.Ye) j5 ha hb hm
structure QJ(h:Heap)(v:Value)(r:List Int):Prop where
 ex:∃ (a:Addr) (o:Obj) (n:Nat) (p:Value) (x y m:Int) (t:Tok),v=.ref a/\r=[x,y,m]/\h.get? a=some o/\o.cls=.type "tuple"/\o.data=.seq #[p,.int m t] n/\vm h p [x,y]
end Dl
namespace HT
open PySem PyProof.Rows
section
open PySem.SeqAt
open PySem.AutoSeq1 (wpAny_loadPart')
open PySem.MeetsSeq PySem.MeetsSeq2 PySem.MeetsSeq3
end
end HT
namespace Dl
open PySem L2 PySem.Spec PyProof.Rows
def iR:List D->Option (List (List Int))
 | []=>some []
 | d::r=>(kl d).bind λns=>(iR r).map (ns::·)
section
variable {fl te:Env->Option D}{cs:List Nat}
end
def BU:Expr->Bool
 | .Call ..=>true
 | .Subscript ..=>true
 | .Name ..=>true
 | _=>false
def ju(i j l:Nat)(fz:List Nat)(f:Env->Option D):ar->Option Out:=λρ=>(f (bN (hand fz 0 ρ))).bind λd=>match d with
 | .tuple [x,y,z]=>some (.nx ((((if gq (.tuple [x,y,z])=true then ρ else hand fz 0 ρ).set i (.val x)).set j (.val y)).set l (.val z)))
 | _=>none
def Et(i j l:Nat)(fz:List Nat)(hc:X.calm=true)(hN:X.N.Nodup)(hi:X.N[i]?=some x)(hx:Loc X.env.scope x)(hj:X.N[j]?=some y)(hy:Loc X.env.scope y)(hl:X.N[l]?=some z)(hz:Loc X.env.scope z)(hp:BU e=true)(he:DE X e f)
  (h1:X.fn x=true\/X.env.scope.names.lookup x=some .local) (h2:X.fn y=true\/X.env.scope.names.lookup y=some .local) (h3:X.fn z=true\/X.env.scope.names.lookup z=some .local):DS X RL RM (.Assign [.Tuple [.Name x px,.Name y py,.Name z pz] m pt] e pos) (ju i j l fz f) :=
 bS (zx he (uj hc (dq (dz hN hi hx h1) (dq (dz hN hj hy h2) (dq (dz hN hl hz h3) oQ)))) (by cases e<;>first|rfl|cases hp) (by cases e<;>first|rfl|cases hp)) λE σ H ⟨HF,ρ,o,S,hg,q⟩=>by
  unfold ju at hg;let⟨d,h,hg⟩:=bs hg;split at hg
  ·rename_i u v t;cases hg;let⟨RP,s1,S1⟩:=S.hand fz;refine⟨RP,_,.tuple [u,v,t],S1.gr.fh,S1.Sy,h,λw H' RN G r=>?_⟩;simp?[Rep] at r;let⟨a,vs,rfl,hs,rr⟩:=r;let⟨v1,r1,rfl,a1,b1⟩:=rr.cons_inv;let⟨v2,r2,rfl,a2,b2⟩:=b1.cons_inv;let⟨v3,r3,rfl,a3,b3⟩:=b2.cons_inv;rw[b3.nil_inv] at hs;refine⟨a,_,rfl,aD G.fh hs,rfl,v1,_,rfl,v2,_,rfl,v3,_,rfl,rfl,?_⟩;by_cases hn:gq (.tuple [u,v,t])=true
   ·rw[yK hn] at q;let⟨R1,s2,S2,hb,_⟩:=S.back S1 s1 G;simp?[gq,ni,zF,Bool.and_true] at hn;exact q _ H' R1 (((S2.SQ (hb u v1 hn.1 a1)).SQ (hb v v2 hn.2.1 a2)).SQ (hb t v3 hn.2.2 a3)) s2
   ·rw[yM hn] at q;exact q _ H' RN ((((S1.grow G).SQ a1).SQ a2).SQ a3) (s1.trans G.ff)
  ·cases hg
end Dl
namespace Rf
open PySem L2 Dl PySem.Spec PyProof.Rows
structure Tr where
 e:Expr->Option (Dl.Env->Option D)
 f:Expr->Option (Dl.Env->Option (List D))
 t:Expr->Option (Dl.Env->Option Bool)
structure Sg where
 fn:List (Str×Nat×(List D->Option D))
 int:List (Str×Int)
abbrev FE:=Dl.Env->Option D
def Ai(G:Sg)(sc:Scope)(N:List Str)(x:Str):Option FE:=match N.idxOf? x with
 | some i=>if oW N sc i x=true then some (ae i) else none
 | none=>if (uF sc x&&!(x == ("__debug__":Str)))=true then (G.int.lookup x).map λn=>fC (.int n) else none
def Bx:Const->Option FE
 | .int i=>some (fC (.int i))
 | .bool b=>some (fC (.bool b))
 | .none=>some (fC .none)
 | .str x=>some (fC (.str x))
 | _=>none
def N4(T:Tr)(op:UnaryOp)(a:Expr):Option FE:=match op with
 | .USub=>(T.e a).map (f1 eQ)
 | _=>none
def Ql:Operator->Option (D->D->Option D)
 | .Add=>some aB
 | .Sub=>some Dl.dh
 | .Mult=>some cm
 | .FloorDiv=>some iW
 | .Mod=>some g9
 | _=>none
def Ky:Expr->Bool
 | .List ..=>true
 | .ListComp ..=>true
 | _=>false
def Bh:Expr->Bool
 | .List ..=>true
 | .ListComp ..=>true
 | .BinOp a .Mult _ _=>Ky a
 | .BinOp a .Add b _=>Bh a||Bh b
 | .Call (.Name x _) _ _ _=>x == ("sorted":Str)||x == ("list":Str)
 | _=>false
def Ec(T:Tr)(whole a:Expr)(op:Operator)(b:Expr):Option FE :=
 if Bh whole=true then (T.f whole).map cg else (Ql op).bind λg=>(T.e a).bind λx=>(T.e b).map λy=>f2 g x y
def uc(T:Tr)(op:BoolOp):List Expr->Option FE
 | []=>none
 | [a]=>T.e a
 | a::b::r=>(T.e a).bind λx=>(uc T op (b::r)).map λy=>match op with|.And=>k8 x y|.Or=>Qb x y
def NW:CmpOp->Option (D->D->Option D)
 | .Lt=>some A1
 | .LtE=>some B1
 | .Gt=>some nA
 | .GtE=>none
 | .Eq=>some aY
 | .NotEq=>some cR
 | .In=>some k7
 | .NotIn=>some xt
 | .Is=>some k9
 | .IsNot=>some i8
def Pe:CmpOp->Option (D->D->Option D)
 | .Lt=>some A1
 | .LtE=>some B1
 | _=>none
def BF(T:Tr)(a:Expr)(ops:List CmpOp)(cs:List Expr):Option FE:=match ops,cs with
 | [op],[b]=>if behindInMarks op b=false then (NW op).bind λg=>(T.e a).bind λx=>(T.e b).map λy=>f2 g x y else none
 | [op,Uh],[b,c]=>if lastMarks [op,Uh] [b,c]=false then (Pe op).bind λg=>(Pe Uh).bind λg'=>(T.e a).bind λx=>(T.e b).bind λy=>(T.e c).map λz=>jv g g' x y z else none
 | _,_=>none
def uM(T:Tr):List Expr->Option (Dl.Env->Option (List D))
 | []=>some af
 | e::es=>if isStar e=false then (T.e e).bind λx=>(uM T es).map λr=>aa x r else none
def Qy(T:Tr):Option Expr->Option (Dl.Env->Option (Option Int))
 | none=>some eX
 | some e=>(T.e e).map nY
def GB:Expr->Bool
 | .Slice ..=>true
 | .Tuple ..=>true
 | .Starred ..=>true
 | _=>false
def p9:Expr->Bool
 | .UnaryOp .USub (.Constant (.int 1) _ _) _=>true
 | _=>false
def FY(T:Tr)(a b:Expr):Option FE:=match b with
 | .Slice lo hi none _=>(T.e a).bind λx=>(Qy T lo).bind λl=>(Qy T hi).map λh=>eA cw x l h
 | .Slice none none (some s) _=>if p9 s=true then (T.e a).map λx=>f1 Dv x else none
 | _=>if GB b=false then (T.e a).bind λx=>(T.e b).map λy=>f2 aw x y else none
def GO:List D->Option D:=λds=>(oneOf ds).bind λd=>match d with
 | .list es=>(boolsOf es).map λbs=>.bool (bs.any id)
 | _=>none
def nz:Expr->Option Expr
 | .Call (.Name x _) [e] [] _=>if x="set" then some e else none
 | _=>none
def KW(x:Str):Option String:=if x="int" then some "int" else if x="bool" then some "bool" else if x="tuple" then some "tuple" else if x="list" then some "list" else none
def zq(G:Sg)(sc:Scope)(T:Tr)(whole:Expr)(x:Str)(args:List Expr):Option FE :=
 if (uF sc x&&args.all λe=>!isStar e)=true then
  match G.fn.lookup x with
  | some (n,m)=>if (args.isEmpty||x == ("__debug__":Str))=true then none else (uM T args).map λfs=>ai n m fs
  | none =>
   if x="len" then (match args with
    | [e]=>(match nz e with
     | some e'=>if (uF sc "set"&&!isStar e')=true then (T.e e').map λy=>f1 kg y else none
     | none=>(uM T args).map λfs=>bz bg fs)
    | _=>none)
   else if x="isinstance" then (match args with
    | [e,.Name y _]=>if uF sc y=true then (KW y).bind λty=>(T.e e).map λz=>Ke ty z else none
    | _=>none)
   else if x="tuple" then (if args.length=1 then (uM T args).map λfs=>bz dD fs else none)
   else if x="all" then (if args.length=1 then (uM T args).map λfs=>bz mj fs else none)
   else if x="any" then (if args.length=1 then (uM T args).map λfs=>bz GO fs else none)
   else if x="sum" then (if args.length=1 then (uM T args).map λfs=>bz rh fs else none)
   else if x="min" then (if args.isEmpty=true then none else (uM T args).map λfs=>bz CZ fs)
   else if (x == ("list":Str)||x == ("sorted":Str))=true then (T.f whole).map cg
   else none
 else none
def uv:Expr->Bool
 | .Call ..=>true
 | _=>false
def Ac(T:Tr)(o:Expr)(m:Str)(apos:Pos)(args:List Expr)(cpos:Pos):Option FE :=
 if (m == ("index":Str)&&apos.endLine == cpos.line&&!uv o)=true then (match args with
  | [e]=>if isStar e=false then (T.e o).bind λx=>(T.e e).map λy=>f2 iF x y else none
  | _=>none)
 else none
def E4(G:Sg)(sc:Scope)(N:List Str)(T:Tr)(whole:Expr):Option FE:=match whole with
 | .Name x _=>Ai G sc N x
 | .Constant c _ _=>Bx c
 | .UnaryOp op a _=>N4 T op a
 | .BinOp a op b _=>Ec T whole a op b
 | .BoolOp op es _=>uc T op es
 | .Compare a ops cs _=>BF T a ops cs
 | .IfExp c a b _=>(T.t c).bind λz=>(T.e a).bind λx=>(T.e b).map λy=>uL z x y
 | .Tuple es _ _=>(uM T es).map ax
 | .Subscript a b _=>FY T a b
 | .List ..=>(T.f whole).map cg
 | .ListComp ..=>(T.f whole).map cg
 | .Call (.Name x _) args [] _=>zq G sc T whole x args
 | .Call (.Name _ _) _ (_::_) _=>(T.f whole).map cg
 | .Call (.Attribute o m apos) args [] cpos=>Ac T o m apos args cpos
 | _=>none
def OQ(T:Tr)(op:BoolOp):List Expr->Option (Dl.Env->Option Bool)
 | []=>none
 | [a]=>T.t a
 | a::b::r=>(T.t a).bind λx=>(OQ T op (b::r)).map λy=>match op with|.And=>cH x y|.Or=>m5 x y
def F4:Expr->Bool
 | .Name ..=>true
 | .Call ..=>true
 | .Subscript ..=>true
 | _=>false
def stepT(T:Tr)(whole:Expr):Option (Dl.Env->Option Bool):=match whole with
 | .Compare a ops cs _=>(BF T a ops cs).map fB
 | .UnaryOp .Not a _=>(T.t a).map bx
 | .BoolOp op es _=>OQ T op es
 | _=>if F4 whole=true then (T.e whole).map fB else none
def uh:Expr->Bool
 | .Tuple ..=>true
 | _=>false
def OW(sc:Scope)(T:Tr)(tg iter:Expr):Option (Dl.Env->Option (List D)):=match iter with
 | .Call (.Name x _) args [] _ =>
  if x="range" then (match args with|[e]=>if (uF sc "range"&&!isStar e)=true then (uM T args).map aS else none|_=>none)
  else if x="enumerate" then (match args with|[e]=>if (uF sc "enumerate"&&!isStar e&&uh tg)=true then (uM T args).map bD else none|_=>none)
  else if x="zip" then (match args with|[e,e']=>if (uF sc "zip"&&!isStar e&&!isStar e'&&uh tg)=true then (uM T args).map f7 else none|_=>none)
  else (T.e iter).map bJ
 | .Set ..=>none
 | _=>(T.e iter).map bJ
def P2:Expr->Option (List Str)
 | .Name x _=>some [x]
 | .Tuple [.Name x _,.Name y _] _ _=>some [x,y]
 | _=>none
def Pq:Expr->Option (List Str)
 | .Tuple [.Name x _,.Name y _,.Name z _] _ _=>some [x,y,z]
 | tg=>P2 tg
def jl(N:List Str)(scope:Scope):List Nat:=(List.range N.length).filter λj=>match N[j]? with|some x=>decide (scope.names.lookup x=some .free)|none=>false
def Lu:Expr->Bool
 | .Set ..=>false
 | _=>true
def JQ(B:Tr)(ifs:List Expr):Option (Dl.Env->Option Bool):=match ifs with
 | []=>some λ_=>some true
 | [c]=>B.t c
 | _=>none
def uz(sc:Scope)(N:List Str)(T:Tr)(U2:Scope->List Str->Tr)(elt:Expr)(gens:List Comprehension)(scope:Scope):Option (Dl.Env->Option (List D)):=match gens with
 | [⟨tg,iter,ifs,as⟩] =>
  if as=0 then (Pq tg).bind λxs =>
   if (nC sc scope N (xs++(jl N scope).filterMap λj=>N[j]?) xs.length (jl N scope)&&(List.range xs.length).all λi=>ou (xs++(jl N scope).filterMap λj=>N[j]?) scope i (xs.getD i ""))=true then
    (OW sc T tg iter).bind λfi=>(JQ (U2 scope (xs++(jl N scope).filterMap λj=>N[j]?)) ifs).bind λtt =>
     ((U2 scope (xs++(jl N scope).filterMap λj=>N[j]?)).e elt).map λte=>az xs.length (jl N scope) fi (match xs with|[_]=>fG 0|[_,_]=>iP 0 1|_=>Qs 0 1 2) tt te
   else none
  else none
 | _=>none
def Fx:Arguments->Option Str
 | ⟨[],[⟨x,none,_⟩],none,[],[],none,[]⟩=>if x="number" then some x else if x="plan" then some x else none
 | _=>none
def sX(lam:Option Str)(sc:Scope)(N:List Str)(T:Tr)(lmb:Scope->List Str->Tr)(l:Expr)(params:Arguments)(body:Expr)(scope:Scope):Option (Dl.Env->Option (List D)) :=
 if (lam.isSome&&uF sc "sorted"&&!isStar l)=true then
  (Fx params).bind λp =>
   if (nC sc scope N (p::(jl N scope).filterMap λj=>N[j]?) 1 (jl N scope)&&u9 scope (p::(jl N scope).filterMap λj=>N[j]?) p)=true then
    (T.e l).bind λfl=>((lmb scope (p::(jl N scope).filterMap λj=>N[j]?)).e body).map λte=>nE (jl N scope) fl te
   else none
 else none
def Bz(lam:Option Str)(sc:Scope)(N:List Str)(T:Tr)(U2 lmb:Scope->List Str->Tr)(whole:Expr):Option (Dl.Env->Option (List D)):=match whole with
 | .List es _=>(uM T es).map dg
 | .ListComp elt gens scope _=>uz sc N T U2 elt gens scope
 | .BinOp a .Mult b _=>if Ky a=true then (T.f a).bind λx=>(T.e b).map λy=>nW x y else none
 | .BinOp a .Add b _=>(T.e a).bind λx=>(T.e b).map λy=>QO sP x y
 | .Call (.Name x _) [l] [⟨some ky,.Lambda params body scope _,_⟩] _=>if (x == ("sorted":Str)&&ky == ("key":Str))=true then sX lam sc N T lmb l params body scope else none
 | .Call (.Name x _) [e] [] _ =>
  if (uF sc x&&!isStar e)=true then
   if x="list" then (uM T [e]).map λfs=>lO cy fs
   else if x="sorted" then (uM T [e]).map λfs=>lO gu fs
   else none
  else none
 | _=>none
def tr(G:Sg):Nat->Option Str->Scope->List Str->Tr
 | 0,_,_,_=>⟨λ_=>none,λ_=>none,λ_=>none⟩
 | n+1,lam,sc,N=>⟨E4 G sc N (tr G n lam sc N),Bz lam sc N (tr G n lam sc N) (tr G n none) (tr G n none),stepT (tr G n lam sc N)⟩
structure O7(G:Sg)(X:Cx)(j:Nat):Prop where
 fn:∀x n m,G.fn.lookup x=some (n,m)->Dj X.prog X.w X.K X.mg X.base j x n m
 int:∀x i,G.int.lookup x=some i->∃t,X.mg x=some (.int i t)
 bn:Bn X
structure o5(X:Cx)(tg iter:Expr)(ifs:List Expr)(elt:Expr)(scope:Scope)(f:Dl.Env->Option (List D)):Prop where
 ex:∃ (N':List Str) (t:Nat) (cs:List Nat) (fi:Dl.Env->Option (List D)) (tgt:Dl.Env->D->Option Dl.Env) (tt:Dl.Env->Option Bool) (te:FE),f=az t cs fi tgt tt te/\iw X scope N' (jn t cs)/\DI X tg iter fi/\(∀x,foldedSetIterable iter X.env x=pure x) /\
  ∀fp s H,DG (aZ X scope N' fp s H) tg tgt/\N8 (aZ X scope N' fp s H) ifs tt/\DE (aZ X scope N' fp s H) elt te
structure da(X:Cx)(T:Tr):Prop where
 c:∀elt gens scope p f,T.f (.ListComp elt gens scope p)=some f->∃tg iter ifs,gens=[⟨tg,iter,ifs,0⟩]/\o5 X tg iter ifs elt scope f
 e:∀e f,T.e e=some f->DE X e f
 f:∀e f,T.f e=some f->DF X e f
 t:∀e f,T.t e=some f->DT X e f
section
variable {G:Sg}{X:Cx}{N:List Str}{sc:Scope}{k j:Nat}{T:Tr}{pos p:Pos}
def Df(C:Bk X N sc k)(g:O7 G X j)(h:Ai G sc N x=some f):DE X (.Name x pos) f:=by
 unfold Ai at h;split at h
 ·split at h
  ·cases h;exact C.v _ ‹_›
  ·cases h
 ·split at h
  ·rename_i hg;let⟨n,hn,rfl⟩:=ah h;let⟨t,ht⟩:=g.int x n hn;simp?[zF,yO] at hg;exact Js (C.gl hg.1) ht hg.2
  ·cases h
def Ag(h:Bx c=some f):DE X (.Constant c i pos) f:=by
 cases c<;>cases h<;>first|exact K7|exact N2|exact KI|exact Mw
def Hh(C:Bk X N sc k)(O:da X T)(h:N4 T op a=some f):DE X (.UnaryOp op a pos) f:=by
 cases op<;>try cases h
 ·let⟨x,hx,rfl⟩:=ah h;exact C.neg (O.e _ _ hx)
def FO(C:Bk X N sc k)(O:da X T)(h:Ec T (.BinOp a op b pos) a op b=some f):DE X (.BinOp a op b pos) f:=by
 unfold Ec at h;split at h
 ·let⟨x,hx,rfl⟩:=ah h;exact DF.de (O.f _ _ hx)
 ·let⟨g,hg,h⟩:=bs h;let⟨x,hx,h⟩:=bs h;let⟨y,hy,rfl⟩:=ah h;cases op<;>cases hg
  ·exact C.add (O.e _ _ hx) (O.e _ _ hy)
  ·exact C.sub (O.e _ _ hx) (O.e _ _ hy)
  ·exact C.mul (O.e _ _ hx) (O.e _ _ hy)
  ·exact C.mod (O.e _ _ hx) (O.e _ _ hy)
  ·exact C.div (O.e _ _ hx) (O.e _ _ hy)
def r9(O:da X T):∀ {es:List Expr}{f:FE},uc T op es=some f->DE X (.BoolOp op es pos) f
 | [],f,h=>by cases h
 | [a],f,h=>KE (O.e _ _ h)
 | a::b::r,f,h=>by
  unfold uc at h;let⟨x,hx,h⟩:=bs h;let⟨y,hy,rfl⟩:=ah h;have ih:=r9 O hy;cases op with
  | And=>exact Mi (O.e _ _ hx) ih
  | Or=>exact N6 (O.e _ _ hx) ih
def K0(C:Bk X N sc k)(hg:NW op=some g)(hm:behindInMarks op b=false)(ha:DE X a x)(hb:DE X b y):DE X (.Compare a [op] [b] pos) (f2 g x y)/\DT X (.Compare a [op] [b] pos) (fB (f2 g x y)):=by
 cases op<;>cases hg
 ·exact⟨C.eq ha hb,C.Ti ha hb⟩
 ·exact⟨C.ne ha hb,C.tne ha hb⟩
 ·exact⟨C.lt ha hb,C.tlt ha hb⟩
 ·exact⟨C.le ha hb,C.tle ha hb⟩
 ·exact⟨C.gt ha hb,C.tgt ha hb⟩
 ·exact⟨C.is0 ha hb,C.Y5 ha hb⟩
 ·exact⟨C.Y4 ha hb,C.Xm ha hb⟩
 ·exact⟨C.isin ha hb hm,C.tin ha hb hm⟩
 ·exact⟨C.XA ha hb hm,C.Zv ha hb hm⟩
def Kr(h:Pe op=some g):∃r,gp X (compareOp op) r/\fF X.K r g:=by
 cases op<;>cases h
 ·exact⟨_,Ge,jx⟩
 ·exact⟨_,DM,jx⟩
def wo(C:Bk X N sc k)(O:da X T){cs:List Expr}(h:BF T a ops cs=some f):DE X (.Compare a ops cs pos) f/\DT X (.Compare a ops cs pos) (fB f):=by
 unfold BF at h;split at h
 ·split at h
  ·rename_i hm;let⟨g,hg,h⟩:=bs h;let⟨x,hx,h⟩:=bs h;let⟨y,hy,rfl⟩:=ah h;exact K0 C hg hm (O.e _ _ hx) (O.e _ _ hy)
  ·cases h
 ·split at h
  ·rename_i hm;let⟨g,hg,h⟩:=bs h;let⟨g',Xj,h⟩:=bs h;let⟨x,hx,h⟩:=bs h;let⟨y,hy,h⟩:=bs h;let⟨z,hz,rfl⟩:=ah h;let⟨r,r1,r2⟩:=Kr (X:=X) hg;let⟨r',X4,X5⟩:=Kr (X:=X) Xj;exact⟨GF r1 r2 X4 X5 (O.e _ _ hx) (O.e _ _ hy) (O.e _ _ hz) hm,El r1 r2 X4 X5 (O.e _ _ hx) (O.e _ _ hy) (O.e _ _ hz) hm⟩
  ·cases h
 ·cases h
def di(O:da X T):∀ {es:List Expr}{fs:Dl.Env->Option (List D)},uM T es=some fs->DA X es fs
 | [],fs,h=>by cases h;exact Fs
 | e::es,fs,h=>by
  unfold uM at h;split at h
  ·rename_i hs;let⟨x,hx,h⟩:=bs h;let⟨r,hr,rfl⟩:=ah h;exact Pb hs (O.e _ _ hx) (di O hr)
  ·cases h
def GR(O:da X T)(h:Qy T o=some f):DO X o f:=by
 cases o with
 | none=>cases h;exact IA
 | some e=>let⟨x,hx,rfl⟩:=ah h;exact Ho (O.e _ _ hx)
def Ao(h:GB b=false):uf b:=by
 cases b<;>first|(intro _ _;rfl)|cases h
def Ck(h:p9 e=true):∃j p4 p3,e=.UnaryOp .USub (.Constant (.int 1) j p4) p3:=by
 unfold p9 at h;split at h
 ·exact⟨_,_,_,rfl⟩
 ·cases h
def D4(C:Bk X N sc k)(O:da X T)(h:FY T a b=some f):DE X (.Subscript a b pos) f:=by
 unfold FY at h;split at h
 ·let⟨x,hx,h⟩:=bs h;let⟨l,hl,h⟩:=bs h;let⟨u,hu,rfl⟩:=ah h;exact C.cut (O.e _ _ hx) (GR O hl) (GR O hu)
 ·split at h
  ·rename_i hm;let⟨x,hx,rfl⟩:=ah h;let⟨_,_,_,rfl⟩:=Ck hm;exact KA (O.e _ _ hx)
  ·cases h
 ·split at h
  ·rename_i hc;let⟨x,hx,h⟩:=bs h;let⟨y,hy,rfl⟩:=ah h;exact Nt (O.e _ _ hx) (O.e _ _ hy) (Ao hc)
  ·cases h
def eB{env:PySem.Env}:∀ {es:List Expr},(es.all λe=>!isStar e)=true->(backTo pos (starEach es env)).any (·.1)=false
 | [],_=>rfl
 | e::es,h=>by
  rw[xR,zF,yO] at h;rw[bC h.1];show (false||(backTo pos (starEach es env)).any (·.1))=false;rw[eB h.2];rfl
def Fg(h:nz e=some e'):∃p q,e=.Call (.Name "set" p) [e'] [] q:=by
 unfold nz at h;split at h
 ·split at h
  ·rename_i hx;cases h;subst hx;exact⟨_,_,rfl⟩
  ·cases h
 ·cases h
def Ib(h:KW y=some ty):y∈cG/\bootBuiltins y=some (.type ty)/\y≠"__name__"/\(y == ("__debug__":Str))=false:=by
 unfold KW at h;split at h
 ·rename_i e;cases h;subst e;exact⟨by decide +kernel,by decide +kernel,by decide,by decide⟩
 ·split at h
  ·rename_i e;cases h;subst e;exact⟨by decide +kernel,by decide +kernel,by decide,by decide⟩
  ·split at h
   ·rename_i e;cases h;subst e;exact⟨by decide +kernel,by decide +kernel,by decide,by decide⟩
   ·split at h
    ·rename_i e;cases h;subst e;exact⟨by decide +kernel,by decide +kernel,by decide,by decide⟩
    ·cases h
def LJ:bootBuiltins "any"=some (.builtin "any"):=by decide +kernel
def Lv:bootBuiltins "sum"=some (.builtin "sum"):=by decide +kernel
def Le:bootBuiltins "min"=some (.builtin "min"):=by decide +kernel
def zr(h:l.length=1):∃a,l=[a]:=by
 match l,h with
 | [a],_=>exact⟨a,rfl⟩
def Cg(C:Bk X N sc k)(g:O7 G X j)(UK:j<=k)(O:da X T)(h:zq G sc T (.Call (.Name x p) args [] pos) x args=some f):DE X (.Call (.Name x p) args [] pos) f:=by
 unfold zq at h;split at h
 ·rename_i hg;rw[zF] at hg;let⟨hg,hs⟩:=hg;have Vb:∀ {e:Expr}{es:List Expr},args=e::es->starEach (e::es) X.env=(false,eval e X.env)::starEach es X.env:=λ{e es} q=>by
   subst q;rw[xR,zF,yO] at hs;exact bC hs.1
  have U5:∀ {e:Expr}{es:List Expr},args=e::es->(backTo pos (starEach es X.env)).any (·.1)=false:=λ{e es} q=>by
   subst q;rw[xR,zF] at hs;exact eB hs.2
  split at h
  ·rename_i n m U4;split at h
   ·cases h
   ·rename_i So;let⟨fs,Uc,rfl⟩:=ah h;cases args with
    | nil=>exact absurd (by simp) So
    | cons e es =>
     have hd:(x == ("__debug__":Str))=false:=by simpa using So
     exact Jp (g.fn x n m U4) (C.room.mono UK) (C.gl hg) (di O Uc) hd (Vb rfl) (U5 rfl)
  ·split at h
   ·rename_i hx;subst hx;split at h
    ·rename_i e;split at h
     ·rename_i e' Wf;split at h
      ·rename_i Zw;rw[zF,yO] at Zw;let⟨y,hy,rfl⟩:=ah h;let⟨p1,p2,rfl⟩:=Fg Wf;exact Da C.calm (C.blt g.bn hg (by decide +kernel) GA) (C.blt g.bn Zw.1 (by decide +kernel) Ll) (O.e _ _ hy) (bC Zw.2)
      ·cases h
     ·let⟨fs,Uc,rfl⟩:=ah h;exact L4 (C.blt g.bn hg (by decide +kernel) GA) (di O Uc) (Vb rfl)
    ·cases h
   ·split at h
    ·rename_i hx;subst hx;split at h
     ·rename_i e y py;split at h
      ·rename_i Zx;let⟨ty,Yy,h⟩:=bs h;let⟨z,hz,rfl⟩:=ah h;let⟨t1,t2,t3,t4⟩:=Ib Yy;exact Ni (C.blt g.bn hg (by decide +kernel) rA) (C.blt g.bn Zx t1 t2) (O.e _ _ hz) t3 t4 (Vb rfl)
      ·cases h
     ·cases h
    ·split at h
     ·rename_i hx;subst hx;split at h
      ·rename_i hl;let⟨fs,Uc,rfl⟩:=ah h;let⟨e,rfl⟩:=zr hl;exact EE (C.blt g.bn hg (by decide +kernel) GU) (di O Uc) (Vb rfl)
      ·cases h
     ·split at h
      ·rename_i hx;subst hx;split at h
       ·rename_i hl;let⟨fs,Uc,rfl⟩:=ah h;let⟨e,rfl⟩:=zr hl;exact Me C.calm (C.blt g.bn hg (by decide +kernel) Mg) (di O Uc) (Vb rfl)
       ·cases h
      ·split at h
       ·rename_i hx;subst hx;split at h
        ·rename_i hl;let⟨fs,Uc,rfl⟩:=ah h;let⟨e,rfl⟩:=zr hl;exact ML C.calm (C.blt g.bn hg (by decide +kernel) LJ) (Vb rfl) (di O Uc)
        ·cases h
       ·split at h
        ·rename_i hx;subst hx;split at h
         ·rename_i hl;let⟨fs,Uc,rfl⟩:=ah h;let⟨e,rfl⟩:=zr hl;exact LK C.calm (C.blt g.bn hg (by decide +kernel) Lv) (Vb rfl) (di O Uc)
         ·cases h
        ·split at h
         ·rename_i hx;subst hx;split at h
          ·cases h
          ·rename_i hl;let⟨fs,Uc,rfl⟩:=ah h;cases args with
           | nil=>exact absurd rfl hl
           | cons e es =>
            exact LW C.calm (C.blt g.bn hg (by decide +kernel) Le) (Vb rfl) (U5 rfl) (di O Uc)
         ·split at h
          ·let⟨y,hy,rfl⟩:=ah h;exact DF.de (O.f _ _ hy)
          ·cases h
 ·cases h
end
section
variable {G:Sg}{X:Cx}{N:List Str}{sc:Scope}{k j:Nat}{T:Tr}{pos p:Pos}
def Qn{env:PySem.Env}(h:isStar e=false):((backTo cpos (starEach [e] env)).all (λx=>!x.1)&&(backToKw cpos (keywordEach [] env)).all (λx=>x.1.isSome)&&decide ([e].length+([]:List Keyword).length+(if ([]:List Keyword).isEmpty then 0 else 1) < 30))=true:=by
 rw[bC h];rfl
def mJ{env:PySem.Env}(h:uv o=false):attributeBase o a env w=w:=by
 cases o<;>first|rfl|cases h
def Dr(C:Bk X N sc k)(O:da X T)(h:Ac T o m apos args cpos=some f):DE X (.Call (.Attribute o m apos) args [] cpos) f:=by
 unfold Ac at h;split at h
 ·rename_i hm;rw[zF,zF,yO] at hm;let⟨⟨Yk,hm⟩,SJ⟩:=hm;have e1:m="index":=eq_of_beq Yk;subst e1;split at h
  ·rename_i e;split at h
   ·rename_i hs;let⟨x,hx,h⟩:=bs h;let⟨y,hy,rfl⟩:=ah h;exact B7 (mJ SJ) (Qn hs) hm (bC hs) (O.e _ _ hx) (O.e _ _ hy)
   ·cases h
  ·cases h
 ·cases h
def EM(C:Bk X N sc k)(g:O7 G X j)(UK:j<=k)(O:da X T)(h:E4 G sc N T e=some f):DE X e f:=by
 unfold E4 at h;split at h
 ·exact Df C g h
 ·exact Ag h
 ·exact Hh C O h
 ·exact FO C O h
 ·exact r9 O h
 ·exact (wo C O h).1
 ·let⟨z,hz,h⟩:=bs h;let⟨x,hx,h⟩:=bs h;let⟨y,hy,rfl⟩:=ah h;exact OJ (O.t _ _ hz) (O.e _ _ hx) (O.e _ _ hy)
 ·let⟨x,hx,rfl⟩:=ah h;exact Lf (di O hx)
 ·exact D4 C O h
 ·let⟨x,hx,rfl⟩:=ah h;exact DF.de (O.f _ _ hx)
 ·let⟨x,hx,rfl⟩:=ah h;exact DF.de (O.f _ _ hx)
 ·exact Cg C g UK O h
 ·let⟨x,hx,rfl⟩:=ah h;exact DF.de (O.f _ _ hx)
 ·exact Dr C O h
 ·cases h
def Gm(O:da X T):∀ {es:List Expr}{f:Dl.Env->Option Bool},OQ T op es=some f->DW X (.BoolOp op es pos) f
 | [],f,h=>by cases h
 | [a],f,h=>by
  cases op with
  | And=>exact Hl (O.t _ _ h)
  | Or=>exact KY (O.t _ _ h)
 | a::b::r,f,h=>by
  unfold OQ at h;let⟨x,hx,h⟩:=bs h;let⟨y,hy,rfl⟩:=ah h;have ih:=Gm O hy;cases op with
  | And=>exact Lz (O.t _ _ hx) ih
  | Or=>exact NF (O.t _ _ hx) ih
def F0(C:Bk X N sc k)(O:da X T)(h:stepT T e=some f):DT X e f:=by
 unfold stepT at h;split at h
 ·let⟨x,hx,rfl⟩:=ah h;exact (wo C O hx).2
 ·let⟨x,hx,rfl⟩:=ah h;exact K8 (O.t _ _ hx)
 ·exact DW.dt (Gm O h)
 ·split at h
  ·rename_i hp;let⟨x,hx,rfl⟩:=ah h;refine M0 (O.e _ _ hx) ?_;revert hp;cases e<;>first|(intro hp;cases hp;done)|(intro hp _;rfl)
  ·cases h
def MU{env:PySem.Env}(h:Lu e=true):∀x,foldedSetIterable e env x=pure x:=by
 cases e<;>first|(intro _;rfl)|cases h
def Fc(C:Bk X N sc k)(B:Bn X)(O:da X T)(h:OW sc T tg iter=some fi):DI X tg iter fi/\∀x,foldedSetIterable iter X.env x=pure x:=by
 unfold OW at h;split at h
 ·refine⟨?_,λ_=>rfl⟩;split at h
  ·rename_i hx;subst hx;split at h
   ·split at h
    ·rename_i hg;rw[zF,yO] at hg;let⟨x,hx,rfl⟩:=ah h;exact EW (C.blt B hg.1 (by decide +kernel) Gq) (di O hx) (bC hg.2)
    ·cases h
   ·cases h
  ·split at h
   ·rename_i hx;subst hx;split at h
    ·split at h
     ·rename_i hg;simp?[zF,yO] at hg;let⟨x,hx,rfl⟩:=ah h;cases tg<;>first|exact Jc (C.blt B hg.1.1 (by decide +kernel) uG) (di O hx) (bC hg.1.2)|exact absurd hg.2 (by simp[uh])
     ·cases h
    ·cases h
   ·split at h
    ·rename_i hx;subst hx;split at h
     ·split at h
      ·rename_i e e' hg;simp?[zF,yO] at hg;let⟨x,hx,rfl⟩:=ah h;cases tg<;>first|exact JK (C.blt B hg.1.1.1 (by decide +kernel) La) (bC hg.1.1.2) (eB (by simp[hg.1.2])) (di O hx)|exact absurd hg.2 (by simp[uh])
      ·cases h
     ·cases h
    ·let⟨x,hx,rfl⟩:=ah h;exact GM (O.e _ _ hx)
 ·cases h
 ·rename_i h1 h2;let⟨x,hx,rfl⟩:=ah h;refine⟨GM (O.e _ _ hx),MU ?_⟩;cases iter<;>first|rfl|exact absurd rfl (h2 _ _ _)
def Mo(h:P2 tg=some xs):(∃x px,tg=.Name x px/\xs=[x])\/∃x px y py m pt,tg=.Tuple [.Name x px,.Name y py] m pt/\xs=[x,y]:=by
 unfold P2 at h;split at h
 ·cases h;exact .inl ⟨_,_,rfl,rfl⟩
 ·cases h;exact .inr ⟨_,_,_,_,_,_,rfl,rfl⟩
 ·cases h
def Mf(h:Pq tg=some xs):((∃x px,tg=.Name x px/\xs=[x])\/∃x px y py m pt,tg=.Tuple [.Name x px,.Name y py] m pt/\xs=[x,y])\/∃x px y py z pz m pt,tg=.Tuple [.Name x px,.Name y py,.Name z pz] m pt/\xs=[x,y,z]:=by
 unfold Pq at h;split at h
 ·cases h;exact .inr ⟨_,_,_,_,_,_,_,_,rfl,rfl⟩
 ·exact .inl (Mo h)
def sG(C:Bk X N sc k)(B:Bn X)(O:da X T)(OB:∀scope N' fp s H,Bk (aZ X scope N' fp s H) N' scope k->da (aZ X scope N' fp s H) (U2 scope N'))
  (h:uz sc N T U2 elt [⟨tg,iter,ifs,as⟩] scope=some f):as=0/\o5 X tg iter ifs elt scope f:=by
 unfold uz at h;dsimp only at h;split at h
 ·rename_i has;refine⟨has,?_⟩;let⟨xs,hxs,h⟩:=bs h;split at h
  ·rename_i RO;rw[zF] at RO;let⟨fi,Tj,h⟩:=bs h;let⟨tt,V4,h⟩:=bs h;let⟨te,V5,rfl⟩:=ah h;let⟨S,CB⟩:=C.comp RO.1;let⟨hd,S3⟩:=Fc C B O Tj;refine⟨_,_,_,_,_,_,_,rfl,S,hd,S3,λfp s H=>?_⟩;have C1:=CB fp s H;have O1:=OB scope _ fp s H C1;refine⟨?_,?_,O1.e _ _ V5⟩
   ·rcases Mf hxs with (⟨x,px,rfl,rfl⟩|⟨x,px,y,py,m,pt,rfl,rfl⟩)|⟨x,px,y,py,z,pz,m,pt,htg,rfl⟩
    ·have z:=C1.loc (i:=0) (x:=x) (List.all_eq_true.mp RO.2 0 (by simp));exact IZ 0 z.1 z.2.1 z.2.2.1 z.2.2.2
    ·have z:=C1.loc (i:=0) (x:=x) (List.all_eq_true.mp RO.2 0 (by simp));have w:=C1.loc (i:=1) (x:=y) (List.all_eq_true.mp RO.2 1 (by simp));exact Mu 0 1 C1.calm z.1 z.2.1 z.2.2.1 w.2.1 w.2.2.1 z.2.2.2 w.2.2.2
    ·have z0:=C1.loc (i:=0) (x:=x) (List.all_eq_true.mp RO.2 0 (by simp));have w:=C1.loc (i:=1) (x:=y) (List.all_eq_true.mp RO.2 1 (by simp));have u:=C1.loc (i:=2) (x:=z) (List.all_eq_true.mp RO.2 2 (by simp));subst htg;exact FX 0 1 2 C1.calm z0.1 z0.2.1 z0.2.2.1 w.2.1 w.2.2.1 u.2.1 u.2.2.1 z0.2.2.2 w.2.2.2 u.2.2.2
   ·unfold JQ at V4;split at V4
    ·cases V4;exact Jb
    ·exact Jk (O1.t _ _ V4)
    ·cases V4
  ·cases h
 ·cases h
def o5.df(hc:X.calm=true)(h:o5 X tg iter ifs elt scope f):DF X (.ListComp elt [⟨tg,iter,ifs,0⟩] scope pos) f:=by
 let⟨N',t,cs,fi,tgt,tt,te,rfl,S,hd,S3,hY⟩:=h.ex;exact Jv hc S hd hY S3
def Fn(h:Fx a=some x):∃px,a=⟨[],[⟨x,none,px⟩],none,[],[],none,[]⟩/\(x="number"\/x="plan"):=by
 unfold Fx at h;split at h
 ·split at h
  ·cases h;exact⟨_,rfl,.inl ‹_›⟩
  ·split at h
   ·cases h;exact⟨_,rfl,.inr ‹_›⟩
   ·cases h
 ·cases h
def bind1{x q:Str}{px:Pos}{body:Expr}{scope:Scope}{cl:List (Str×Addr)}{pm TB u:Value}{c:Addr}(h:x="number"\/x="plan") :
  bindArgs (W.kla_fn "<lambda>" q ⟨[],[⟨x,none,px⟩],none,[],[],none,[]⟩ body scope cl pm (.ref c) TB) ⟨[u],[]⟩=pure [(x,u)]:=by
 rcases h with rfl|rfl<;>rfl
def Ax{lam:Option Str}(C:Bk X N sc k)(B:Bn X)(Ud:∀q,lam=some q->v9 X q/\j+3<=k)(O:da X T){lmb:Scope->List Str->Tr}
  (OL:∀scope N' qual A f c s H,Bk (lA X A qual scope N' f c s H) N' scope (k - 3)->j<=k - 3->da (lA X A qual scope N' f c s H) (lmb scope N')) {l body:Expr}{params:Arguments}{scope:Scope}{p0 SX Wn:Pos}{f:Dl.Env->Option (List D)}
  (h:sX lam sc N T lmb l params body scope=some f):DF X (.Call (.Name "sorted" p0) [l] [⟨some "key",.Lambda params body scope SX,Wn⟩] pos) f:=by
 unfold sX at h;split at h
 ·rename_i hg;simp?[zF,yO] at hg;let⟨⟨hl,hg⟩,hs⟩:=hg;let⟨q,rfl⟩:=Option.isSome_iff_exists.mp hl;let⟨L,hk⟩:=Ud q rfl;let⟨x,hx,h2⟩:=bs h;clear h;let⟨px,rfl,hpx⟩:=Fn hx;split at h2
  ·rename_i RO;rw[zF] at RO;let⟨fl,SG,h⟩:=bs h2;let⟨te,V5,rfl⟩:=ah h;obtain⟨k',rfl⟩:∃k',k=k'+3:=⟨k - 3,by lia⟩
   exact Bk.Xx (p:=x) C (C.blt B hg (by decide +kernel) su) L RO.1 RO.2 (λ_ _ _ _ _=>bind1 hpx) rfl (O.e _ _ SG) (λA f c s H C'=>(OL scope _ q A f c s H C' (by lia)).e _ _ V5) (bC hs) (by rw[bC hs];rfl) (eB (by simp[hs]))
  ·cases h2
 ·cases h
def EX(C:Bk X N sc k)(B:Bn X)(Ud:∀q,lam=some q->v9 X q/\j+3<=k)(O:da X T)
  (OB:∀scope N' fp s H,Bk (aZ X scope N' fp s H) N' scope k->da (aZ X scope N' fp s H) (U2 scope N'))
  (OL:∀scope N' qual A f c s H,Bk (lA X A qual scope N' f c s H) N' scope (k - 3)->j<=k - 3->da (lA X A qual scope N' f c s H) (lmb scope N')) {e:Expr}{f:Dl.Env->Option (List D)}(h:Bz lam sc N T U2 lmb e=some f):DF X e f:=by
 unfold Bz at h;split at h
 ·let⟨x,hx,rfl⟩:=ah h;exact Lj (di O hx)
 ·rename_i elt gens scope ps
  match gens,h with
  | [⟨tg,iter,ifs,as⟩],h =>
   let⟨rfl,q⟩:=sG C B O OB h;exact q.df C.calm
 ·split at h
  ·let⟨x,hx,h⟩:=bs h;let⟨y,hy,rfl⟩:=ah h;exact MQ (O.f _ _ hx) (O.e _ _ hy)
  ·cases h
 ·let⟨x,hx,h⟩:=bs h;let⟨y,hy,rfl⟩:=ah h;exact KJ (O.e _ _ hx) (O.e _ _ hy)
 ·split at h
  ·rename_i hk;rw[zF] at hk;have e1:=eq_of_beq hk.1;have e2:=eq_of_beq hk.2;subst e1 e2;exact Ax C B Ud O OL h
  ·cases h
 ·split at h
  ·rename_i hg;rw[zF,yO] at hg;split at h
   ·rename_i hx;subst hx;let⟨x,hx,rfl⟩:=ah h;exact Je (C.blt B hg.1 (by decide +kernel) HR) (di O hx) (bC hg.2)
   ·split at h
    ·rename_i hx;subst hx;let⟨x,hx,rfl⟩:=ah h;exact Dp (C.blt B hg.1 (by decide +kernel) su) (di O hx) (bC hg.2)
    ·cases h
  ·cases h
 ·cases h
def Ik(C:Bk X N sc k)(B:Bn X)(O:da X T)(OB:∀scope N' fp s H,Bk (aZ X scope N' fp s H) N' scope k->da (aZ X scope N' fp s H) (U2 scope N'))
  {elt:Expr}{gens:List Comprehension}{scope:Scope}{p:Pos}{f:Dl.Env->Option (List D)}(h:Bz lam sc N T U2 lmb (.ListComp elt gens scope p)=some f):∃tg iter ifs,gens=[⟨tg,iter,ifs,0⟩]/\o5 X tg iter ifs elt scope f:=by
 have h:uz sc N T U2 elt gens scope=some f:=h
 match gens,h with
 | [⟨tg,iter,ifs,as⟩],h =>
  let⟨rfl,q⟩:=sG C B O OB h;exact⟨tg,iter,ifs,rfl,q⟩
def Bb(n:Nat):∀ {lam:Option Str}{X:Cx}{N:List Str}{sc:Scope}{k:Nat},Bk X N sc k->O7 G X j->j<=k->(∀q,lam=some q->v9 X q/\j+3<=k)->da X (tr G n lam sc N):=by
 induction n with
 | zero=>intro lam X N sc k C g UK Ud;exact⟨λ_ _ _ _ _ h=>(by cases h),λ_ _ h=>(by cases h),λ_ _ h=>(by cases h),λ_ _ h=>(by cases h)⟩
 | succ n ih =>
  intro lam X N sc k C g UK Ud;have O:=ih C g UK Ud;exact⟨λelt gens scope p f h=>Ik (lam:=lam) (lmb:=tr G n none) (p:=p) C g.bn O (λscope N' fp s H C'=>ih C' ⟨g.fn,g.int,g.bn⟩ UK λq z=>by cases z) h,λe f h=>EM C g UK O h,
   λe f h=>EX C g.bn Ud O (λscope N' fp s H C'=>ih C' ⟨g.fn,g.int,g.bn⟩ UK λq z=>by cases z) (λscope N' qual A f c s H C' hk=>ih C' ⟨g.fn,g.int,g.bn⟩ hk λq z=>by cases z) h,
   λe f h=>F0 C O h⟩
end
def o9:Nat->Expr->List Str
 | 0,_=>[]
 | n+1,e=>match e with
  | .Name x _=>[x]
  | .UnaryOp _ a _=>o9 n a
  | .BinOp a _ b _=>o9 n a++o9 n b
  | .BoolOp _ es _=>es.flatMap (o9 n)
  | .Compare a _ cs _=>o9 n a++cs.flatMap (o9 n)
  | .IfExp c a b _=>o9 n c++(o9 n a++o9 n b)
  | .Tuple es _ _=>es.flatMap (o9 n)
  | .List es _=>es.flatMap (o9 n)
  | .Subscript a b _=>o9 n a++o9 n b
  | .Slice lo hi st _=>(lo.toList++(hi.toList++st.toList)).flatMap (o9 n)
  | .Call f args kws _=>o9 n f++(args.flatMap (o9 n)++kws.flatMap λk=>o9 n k.value)
  | .Attribute o _ _=>o9 n o
  | .ListComp elt gens _ _=>o9 n elt++gens.flatMap λg=>o9 n g.iter++g.ifs.flatMap (o9 n)
  | .Lambda _ b _ _=>o9 n b
  | _=>[]
def pC(N:List Str)(e:Expr):List Nat:=let ns:=o9 60 e;(List.range N.length).filter λj=>match N[j]? with|some x=>ns.contains x|none=>false
abbrev GS:=ar->Option Out
def turns:Nat:=1000000
def Am:Expr->Bool
 | .ListComp ..=>true
 | .SetComp ..=>true
 | .DictComp ..=>true
 | _=>false
def FB(sc:Scope)(N:List Str)(T:Tr)(x:Str)(px:Pos)(e:Expr):Option GS :=
 (N.idxOf? x).bind λi=>if ou N sc i x=true then
  (if Bh e=true then (match e with
   | .ListComp _ _ scope lp =>
    if (decide (sc.names.lookup x=some .local)&&(px.line == lp.line&&!(scope.names.any λ(n,k)=>n == x&&(k == .local || k == .cell))))=true then (T.f e).map λf=>br i (pC N e) f
    else if decide (sc.names.lookup x=some .cell)=true then (T.f e).map λf=>br i (pC N e) f
    else if (px.line == lp.line)=false then (T.f e).map λf=>br i (pC N e) f
    else none
   | _=>(T.f e).map λf=>br i (pC N e) f)
  else if Am e=false then (T.e e).map λf=>aI i (pC N e) f else none) else none
def Fv(N:List Str)(sc:Scope)(T:Tr)(e:Expr):Option GS:=match e with
 | .Constant (.str _) _ _=>some cP
 | .Call (.Attribute (.Name x _) m apos) args [] cpos =>
  (N.idxOf? x).bind λi=>if (oW N sc i x&&apos.endLine == cpos.line&&args.all λe=>!isStar e)=true then
   (if m="append" then (match args with
    | [a]=>(T.e a).map λf=>k6 i (pC N a) f
    | _=>none)
   else if m="extend" then (match args with
    | [a]=>(T.f a).map λf=>va i (pC N a) f
    | _=>none)
   else if m="insert" then (match args with
    | [a,b]=>(T.e a).bind λfk=>(T.e b).map λf=>DZ i (pC N b) fk f
    | _=>none)
   else none) else none
 | .Call (.Name _ _) _ _ _=>(T.e e).map fO
 | _=>none
def P3(sc:Scope)(N:List Str)(tg:Expr):Option (ar->D->Option ar):=match tg with
 | .Name x _=>(N.idxOf? x).bind λi=>if ou N sc i x=true then some (oE i) else none
 | .Tuple [.Name x _,.Name y _] _ _=>(N.idxOf? x).bind λi=>(N.idxOf? y).bind λj=>if (ou N sc i x&&ou N sc j y)=true then some (eV i j) else none
 | _=>none
def E5(sc:Scope)(N:List Str)(T:Tr)(x:Str)(kx e:Expr):Option GS :=
 (N.idxOf? x).bind λi=>if (oW N sc i x&&!GB kx)=true then (T.e kx).bind λfk=>(T.e e).map λf=>FU i (pC N e) fk f else none
def tQ(sc:Scope)(N:List Str)(T:Tr)(x y z:Str)(e:Expr):Option GS :=
 (N.idxOf? x).bind λi=>(N.idxOf? y).bind λj=>(N.idxOf? z).bind λl=>if (((ou N sc i x&&ou N sc j y)&&ou N sc l z)&&BU e)=true then (T.e e).map λf=>ju i j l (pC N e) f else none
def mD(f:Stmt->Option GS):List Stmt->Option GS
 | []=>some cP
 | [s]=>f s
 | s::r=>(f s).bind λg=>(mD f r).map λh=>au g h
def FN:Expr->Option (Str×Str)
 | .Compare (.Name x _) [.In] [.Name y _] _=>if y="seen" then some (x,y) else none
 | _=>none
def zt:Expr->Option (Str×Expr)
 | .Dict [some (.Name z _)] [v] _=>some (z,v)
 | _=>none
def Ah(x:Str):Expr->Option Str
 | .Name z _=>if x="seen" then some z else none
 | _=>none
def Kv:Expr->Bool
 | .Constant ..=>true
 | _=>false
def EV(sc:Scope)(N:List Str)(T:Tr)(x z:Str)(v:Expr):Option GS :=
 (N.idxOf? x).bind λj=>(N.idxOf? z).bind λi=>if (ou N sc j x&&oW N sc i z)=true then (T.e v).map λf=>sE j i f else none
def ET(sc:Scope)(N:List Str)(T:Tr)(x z:Str)(v:Expr):Option GS :=
 (N.idxOf? x).bind λj=>(N.idxOf? z).bind λi=>if ((oW N sc j x&&oW N sc i z)&&Kv v)=true then (T.e v).map λf=>rL j i f else none
def qt(sc:Scope)(N:List Str)(T:Tr):Nat->Stmt->Option GS
 | 0,_=>none
 | n+1,st=>match st with
  | .Return (some e) _=>(T.e e).map aE
  | .If c a b _=>(match FN c with
   | some (x,y)=>(N.idxOf? x).bind λi=>(N.idxOf? y).bind λj=>if (oW N sc i x&&oW N sc j y)=true then (mD (qt sc N T n) a).bind λg=>(mD (qt sc N T n) b).map λh=>rQ i j g h else none
   | none=>(T.t c).bind λt=>(mD (qt sc N T n) a).bind λg=>(mD (qt sc N T n) b).map λh=>dE t g h)
  | .Assign [.Name x px] e _=>(match zt e with
   | some (z,v)=>EV sc N T x z v
   | none=>FB sc N T x px e)
  | .Assign [.Subscript (.Name x _) kx _] e _=>(match Ah x kx with
   | some z=>ET sc N T x z e
   | none=>E5 sc N T x kx e)
  | .Assign [.Tuple [.Name x _,.Name y _,.Name z _] _ _] e _=>tQ sc N T x y z e
  | .For tg iter body [] _=>(OW sc T tg iter).bind λfi=>(P3 sc N tg).bind λt=>(mD (qt sc N T n) body).map λg=>cN (pC N iter) fi t g
  | .While c body [] _=>(T.t c).bind λt=>(mD (qt sc N T n) body).map λg=>BC t g turns
  | .Expr e _=>Fv N sc T e
  | .Raise ..=>some M5
  | .Pass _=>some cP
  | _=>none
section
variable {X:Cx}{N:List Str}{sc:Scope}{k:Nat}{T:Tr}{RL RM:Hp}{pos:Pos}
def eI(H:∀s g,f s=some g->DS X RL RM s g):∀ {l:List Stmt}{g:GS},mD f l=some g->ym X RL RM l g
 | [],g,h=>by cases h;exact HN
 | [s],g,h=>Bm (H _ _ h)
 | s::t::r,g,h=>by
  unfold mD at h;let⟨x,hx,h⟩:=bs h;let⟨y,hy,rfl⟩:=ah h;exact Ga (H _ _ hx) (eI H hy)
def nQ{env:PySem.Env}(h:Am e=false):swapsWith e (some (.Name x px)) line env=pure false:=by
 cases e<;>first|rfl|cases h
def Fd(C:Bk X N sc k)(O:da X T)(h:FB sc N T x px e=some g):DS X RL RM (.Assign [.Name x px] e pos) g:=by
 unfold FB at h;let⟨i,hi,h⟩:=bs h;split at h
 ·rename_i UD;let⟨z1,z2,z3,z4⟩:=C.loc UD;split at h
  ·split at h
   ·rename_i elt gens scope lp hl;split at h
    ·rename_i hc;rw[zF] at hc;let⟨f,hf,rfl⟩:=ah h;let⟨tg,iter,ifs,rfl,q⟩:=O.c _ _ _ _ _ hf;let⟨N',t,cs,fi,tgt,tt,te,rfl,S,hd,S3,hY⟩:=q.ex;exact Hm i _ C.calm S hd hY z1 z2 (C.Xl hc.1) (C.swap hc.1 hc.2) S3
    ·split at h
     ·rename_i hc;let⟨f,hf,rfl⟩:=ah h;exact uE i _ z1 z2 z3 (O.f _ _ hf) (C.Wg hc) z4
     ·split at h
      ·rename_i hc;let⟨f,hf,rfl⟩:=ah h;refine uE i _ z1 z2 z3 (O.f _ _ hf) ?_ z4;rw[qm,hc];simp
      ·cases h
   ·rename_i hl hn;let⟨f,hf,rfl⟩:=ah h;refine uE i _ z1 z2 z3 (O.f _ _ hf) (nQ ?_) z4;cases e<;>first|rfl|exact absurd rfl (hn _ _ _ _)|(rename_i hl _;cases hl;done)
  ·split at h
   ·rename_i hc;let⟨f,hf,rfl⟩:=ah h;exact K9 i _ z1 z2 z3 (O.e _ _ hf) (nQ hc) z4
   ·cases h
 ·cases h
def z8{env:PySem.Env}(h:(es.all λe=>!isStar e)=true)(hl:es.length < 20):((backTo cpos (starEach es env)).all (λx=>!x.1)&&(backToKw cpos (keywordEach [] env)).all (λx=>x.1.isSome)&&decide (es.length+([]:List Keyword).length+(if ([]:List Keyword).isEmpty then 0 else 1) < 30))=true:=by
 have h1:(backTo cpos (starEach es env)).all (λx=>!x.1)=true:=by
  have:=eB (pos:=cpos) (env:=env) h;rw[List.all_eq_not_any_not];simpa using this
 rw[h1];simp[backToKw,keywordEach];lia
def Gz(C:Bk X N sc k)(O:da X T)(h:Fv N sc T e=some g):DS X RL RM (.Expr e pos) g:=by
 unfold Fv at h;split at h
 ·cases h;exact KU
 ·rename_i x px m apos args cpos;replace h:=bs h;let⟨i,hi,h⟩:=h;split at h
  ·rename_i hv;simp?[zF] at hv;let⟨⟨hv,R0⟩,hs⟩:=hv;let⟨z1,z2,z3,z4⟩:=C.VE hv;split at h
   ·rename_i hm;subst hm;split at h
    ·let⟨f,hf,rfl⟩:=ah h;exact CP i _ z1 z2 (O.e _ _ hf) z3 z4 (z8 hs (by simp)) R0 (bC (by simpa using hs))
    ·cases h
   ·split at h
    ·rename_i hm;subst hm;split at h
     ·let⟨f,hf,rfl⟩:=ah h;exact CH i _ z1 z2 (O.f _ _ hf) z3 z4 (z8 hs (by simp)) R0 (bC (by simpa using hs))
     ·cases h
    ·split at h
     ·rename_i hm;subst hm;split at h
      ·let⟨fk,Zy,h⟩:=bs h;let⟨f,hf,rfl⟩:=ah h;have Tg:=hs;simp?[xR,List.all_nil,Bool.and_true,zF,yO] at Tg;exact C2 i _ z1 z2 (O.e _ _ Zy) (O.e _ _ hf) z3 z4 (z8 hs (by simp)) R0 (bC Tg.1) (bC Tg.2)
      ·cases h
     ·cases h
  ·cases h
 ·let⟨f,hf,rfl⟩:=ah h;exact Hs rfl (O.e _ _ hf)
 ·cases h
def L7(C:Bk X N sc k)(h:P3 sc N tg=some t):O2 X RL RM tg t:=by
 unfold P3 at h;split at h
 ·let⟨i,hi,h⟩:=bs h;split at h
  ·rename_i hl;cases h;have z:=C.loc hl;exact D0 i z.1 z.2.1 z.2.2.1 z.2.2.2
  ·cases h
 ·let⟨i,hi,h⟩:=bs h;let⟨j,hj,h⟩:=bs h;split at h
  ·rename_i hl;rw[zF] at hl;cases h;have z:=C.loc hl.1;have w:=C.loc hl.2;exact Jh i j C.calm z.1 z.2.1 z.2.2.1 w.2.1 w.2.2.1 z.2.2.2 w.2.2.2
  ·cases h
 ·cases h
def AG(C:Bk X N sc k)(O:da X T)(h:tQ sc N T x y z e=some g):DS X RL RM (.Assign [.Tuple [.Name x px,.Name y py,.Name z pz] m pt] e pos) g:=by
 unfold tQ at h;let⟨i,hi,h⟩:=bs h;let⟨j,hj,h⟩:=bs h;let⟨l,Yi,h⟩:=bs h;split at h
 ·rename_i hl;rw[zF,zF,zF] at hl;let⟨f,hf,rfl⟩:=ah h;have z:=C.loc hl.1.1.1;have w:=C.loc hl.1.1.2;have u:=C.loc hl.1.2;exact Et i j l _ C.calm z.1 z.2.1 z.2.2.1 w.2.1 w.2.2.1 u.2.1 u.2.2.1 hl.2 (O.e _ _ hf) z.2.2.2 w.2.2.2 u.2.2.2
 ·cases h
def DN(C:Bk X N sc k)(O:da X T)(h:E5 sc N T x kx e=some g):DS X RL RM (.Assign [.Subscript (.Name x px) kx Sh] e pos) g:=by
 unfold E5 at h;let⟨i,hi,h⟩:=bs h;split at h
 ·rename_i hv;simp?[zF,yO] at hv;let⟨hv,hc⟩:=hv;let⟨z1,z2,z3,z4⟩:=C.VE hv;let⟨fk,Zy,h⟩:=bs h;let⟨f,hf,rfl⟩:=ah h;refine GT i _ z1 z2 (O.e _ _ Zy) (O.e _ _ hf) z3 z4 (λv=>?_) ?_ ?_ rfl
  ·cases kx<;>first|rfl|cases hc
  ·cases e<;>rfl
  ·rfl
 ·cases h
def Bk.u1(C:Bk X N sc k):X.A.units+1 < cLine:=by have:=C.room.un;lia
def z7(h:FN c=some (x,y)):∃px py cp,c=.Compare (.Name x px) [.In] [.Name y py] cp:=by
 unfold FN at h;split at h
 ·split at h
  ·cases h;exact⟨_,_,_,rfl⟩
  ·cases h
 ·cases h
def vh(h:zt e=some (z,v)):∃pz p,e=.Dict [some (.Name z pz)] [v] p:=by
 unfold zt at h;split at h
 ·cases h;exact⟨_,_,rfl⟩
 ·cases h
def vp(h:Ah x e=some z):∃pz,e=.Name z pz:=by
 unfold Ah at h;split at h
 ·split at h
  ·cases h;exact⟨_,rfl⟩
  ·cases h
 ·cases h
def C0(C:Bk X N sc k)(O:da X T)(h:EV sc N T x z v=some g):DS X RL RM (.Assign [.Name x px] (.Dict [some (.Name z pz)] [v] p) pos) g:=by
 let⟨j,hj,h⟩:=bs h;let⟨i,hi,h⟩:=bs h;split at h
 ·rename_i hc;rw[zF] at hc;let⟨f,hf,rfl⟩:=ah h;let⟨z1,z2,z3,z4⟩:=C.loc hc.1;let⟨w1,w2,w3,w4⟩:=C.VE hc.2;exact Jo j i (Bk.u1 C) w1 w2 w3 w4 (O.e _ _ hf) z1 z2 z3 rfl z4
 ·cases h
def CW(C:Bk X N sc k)(O:da X T)(h:ET sc N T x z v=some g):DS X RL RM (.Assign [.Subscript (.Name x px) (.Name z pz) sp] v pos) g:=by
 let⟨j,hj,h⟩:=bs h;let⟨i,hi,h⟩:=bs h;split at h
 ·rename_i hc;rw[zF,zF] at hc;let⟨f,hf,rfl⟩:=ah h;let⟨z1,z2,z3,z4⟩:=C.VE hc.1.1;let⟨w1,w2,w3,w4⟩:=C.VE hc.1.2;cases v<;>first|exact Jy j i (Bk.u1 C) w1 w2 z1 z2 (O.e _ _ hf) w3 w4 z3 z4|exact absurd hc.2 (by simp[Kv])
 ·cases h
def pH(C:Bk X N sc k)(B:Bn X)(O:da X T):∀ (n:Nat) {st:Stmt}{g:GS},qt sc N T n st=some g->DS X RL RM st g
 | 0,st,g,h=>by cases h
 | n+1,st,g,h=>by
  have ih:=λs g h=>pH C B O n (st:=s) (g:=g) h;unfold qt at h;split at h
  ·let⟨f,hf,rfl⟩:=ah h;exact Ms (O.e _ _ hf)
  ·split at h
   ·rename_i x y hc;let⟨px,py,cp,rfl⟩:=z7 hc;let⟨i,hi,h⟩:=bs h;let⟨j,hj,h⟩:=bs h;split at h
    ·rename_i hv;rw[zF] at hv;let⟨a,ha,h⟩:=bs h;let⟨b,hb,rfl⟩:=ah h;let⟨z1,z2,z3,z4⟩:=C.VE hv.1;let⟨w1,w2,w3,w4⟩:=C.VE hv.2;exact JD i j (Bk.u1 C) z1 z2 w1 w2 (eI ih ha) (eI ih hb) z3 z4 w3 w4
    ·cases h
   ·let⟨t,ht,h⟩:=bs h;let⟨a,ha,h⟩:=bs h;let⟨b,hb,rfl⟩:=ah h;exact Od (O.t _ _ ht) (eI ih ha) (eI ih hb)
  ·split at h
   ·rename_i hc;let⟨pz,p,rfl⟩:=vh hc;exact C0 C O h
   ·exact Fd C O h
  ·split at h
   ·rename_i hc;let⟨pz,rfl⟩:=vp hc;exact CW C O h
   ·exact DN C O h
  ·exact AG C O h
  ·let⟨fi,Tj,h⟩:=bs h;let⟨t,ht,h⟩:=bs h;let⟨b,hb,rfl⟩:=ah h;let⟨hd,S3⟩:=Fc C B O Tj;exact Ly _ C.pass C.calm hd (L7 C ht) (eI ih hb) S3
  ·let⟨t,ht,h⟩:=bs h;let⟨b,hb,rfl⟩:=ah h;exact Fj _ C.pass (O.t _ _ ht) (eI ih hb)
  ·exact Gz C O h
  ·cases h;exact Nr
  ·cases h;exact HY
  ·cases h
end
section
variable {K:W.Frag}
def lj(P:Program)(w:World)(K:W.Frag)(mg:Str->Option Value)(base:Heap)(j:Nat)(l:List (Str×Nat×(List D->Option D))):Prop:=∀x n m,l.lookup x=some (n,m)->Dj P w K mg base j x n m
def gN(mg:Str->Option Value)(l:List (Str×Int)):Prop:=∀x i,l.lookup x=some i->∃t,mg x=some (.int i t)
def Px:lj P w K mg base j []:=λ_ _ _ h=>by cases h
def Ol(F:Dj P w K mg base j x n m)(h:lj P w K mg base j l):lj P w K mg base j ((x,n,m)::l):=λy n' m' e=>by
 rw[yB] at e;cases q:y == x with
 | true=>rw[q] at e;cases e;rw[eq_of_beq q];exact F
 | false=>rw[q] at e;exact h y n' m' e
def P8:gN mg []:=λ_ _ h=>by cases h
def J0(F:∃t,mg x=some (.int i t))(h:gN mg l):gN mg ((x,i)::l):=λy i' e=>by
 rw[yB] at e;cases q:y == x with
 | true=>rw[q] at e;cases e;rw[eq_of_beq q];exact F
 | false=>rw[q] at e;exact h y i' e
def JZ{st:Stmt}(C:Bk X N (aj st) j)(B:Bn X)(hf:lj X.prog X.w X.K X.mg X.base j fs)(hi:gN X.mg is)
  (t:mD (qt (aj st) N (tr ⟨fs,is⟩ 40 none (aj st) N) 40) (bq st)=some g):ym X RL RM (bq st) g :=
 eI (λs g h=>pH C B (Bb (G:=⟨fs,is⟩) 40 C ⟨hf,hi,B⟩ (yL j) λq z=>by cases z) 40 h) t
def Rv{st:Stmt}(D:yy K mg x st ps)(S:bX N ps (aj st))(B:∀x∈cG,mg x=none)(hf:lj P w K mg base j fs)(hi:gN mg is)
  (t:mD (qt (aj st) N (tr ⟨fs,is⟩ 40 none (aj st) N) 40) (bq st)=some g):Dj P w K mg base (j+1) x ps.length (bh g N.length):=by
 let⟨f,fd,hm,F,hb⟩:=D.ex;exact QR F S hb hm λX hP hw hK S7 Th C _ _ HF H=>by subst hP;subst hw;subst hK;subst S7;subst Th;exact JZ C B hf hi t
def Q8{st:Stmt}(D:Mn K mg x st ps)(S:bX N ps (aj st))(B:∀x∈cG,mg x=none)(hf:lj P w K mg base j fs)(hi:gN mg is)
  (hq:x∈jf/\x++".<locals>."++"<lambda>"=q) (t:mD (qt (aj st) N (tr ⟨fs,is⟩ 40 (some q) (aj st) N) 40) (bq st)=some g):Dj P w K mg base (j+4) x ps.length (bh g N.length):=by
 let⟨f,fd,c,P',hm,F,hb,hc,hh⟩:=D.ex;refine QR (k:=j+3) F S hb hm λX hP hw hK S7 Th C h1 h2 HF H=>?_;subst hP;subst hw;subst hK;subst S7;subst Th;have L:v9 X q:=by
  refine⟨c,P',by rw[h1,hc],by rw[h2];exact hq.2,hh,λHF tb=>?_⟩;let⟨oc,od,kV,doc,pm,an,R4,ct,TV,rfl,lk,_⟩:=F.ex;have:=tb f oc od _ TV c P' lk hq.1 hc hh;rw[<- hq.2];exact this
 exact eI (λs g h=>pH C B (Bb (G:=⟨fs,is⟩) (j:=j) 40 C ⟨hf,hi,B⟩ (jU _ _) λq' z=>by cases z;exact⟨L,yL _⟩) 40 h) t
end
abbrev tW(s:Stmt)(N:List Str)(S:Sg)(l:Option Str):Option GS:=mD (qt (aj s) N (tr S 40 l (aj s) N) 40) (bq s)
def O8(a:sc.kind=.function:=by rfl)(b:sc.isCoroutine=false:=by rfl)(c:sc.isGenerator=false:=by rfl)(d:N.Nodup:=by decide +kernel)(e:N.take P.length=P:=by rfl)(f:∀x∈P,sc.names.lookup x=some .local \/ sc.names.lookup x=some .cell:=by decide +kernel)(g:∀y∈sc.names,y.2≠.free:=by decide +kernel):bX N P sc:=⟨a,b,c,d,e,f,g⟩
section
variable {K:W.Frag}
end
end Rf
namespace Ex
open PySem L2 PySem.Spec PyProof.Rows
def rK(x:dS P w H h a o):∃ob,h.get? a=some ob:=by
 cases o with
 | lst xs=>let⟨_,_,_,_,e⟩:=x;exact⟨_,e⟩
 | tup xs=>let⟨_,_,_,⟨_,e,_⟩,_⟩:=x;exact⟨_,e⟩
 | dK R5=>let⟨_,_,_,_,o,_,_,e,_⟩:=x;exact⟨_,e⟩
 | dT R5=>let⟨_,_,o,_,_,e,_⟩:=x;exact⟨_,e⟩
 | set S n=>let⟨o,_,_,_,e,_⟩:=x;exact⟨_,e⟩
 | ins C dx fs=>let⟨_,_,_,e,_⟩:=x;exact⟨_,e⟩
 | own y=>let⟨_,e⟩:=x;exact⟨_,e⟩
 | xd fs=>let⟨_,⟨_,_,_,e,_⟩,_⟩:=x;exact⟨_,e⟩
 | XU lo hi=>let⟨_,_,_,e⟩:=x;exact⟨_,e⟩
 | Sy ob u=>let⟨e,_⟩:=x;exact⟨_,e⟩
 | tab q=>let⟨_,e,_⟩:=x;exact⟨_,e⟩
 | Ue q=>let⟨_,_,_,_,e0,e,_⟩:=x;cases e0;exact⟨_,e⟩
 | met f y=>exact⟨_,(show h.get? a=some _ from x)⟩
 | ext φ=>let⟨_,⟨_,e⟩,_⟩:=x;exact⟨_,e⟩
structure CM(P:Program)(w:World)(l:List Env)(H:Hp)(s:Shared)(cls:Value)(ea:Addr)(H':Hp)(s':Shared):Prop where
 os:s'.os=s.os
 bare:AllBare s'.gens
 un:Un (gO l) [] H H' s.heap s'.heap
 RO:mV P w H' s'.heap
 XB:∃B a0,Heap.FlyingW B l ea cls a0 s'.heap/\∀b,b∉gO l->(H' b≠none\/∃o,s.heap.get? b=some o)->∃o,B.get? b=some o
def yn(P:Program)(w:World):Hq:=λl H s E e s'=>∃ea cls H',e=.ref ea/\CM P w l H s cls ea H' s'/\E cls none H'
section
variable {X:Cx}{pins:List (Addr×Obj)}{σ:L2.St}{H H':Hp}{s s':Shared}{cls:Value}{ea:Addr}
def AV(I:Inv X pins σ H s)(hs:X.stack=X.env::X.outer)(hf:X.env.frame=some X.env.locals)(hex:X.ex=[])(Ui:s'.os=s.os)(hbr:AllBare s'.gens)(Tq:Un (gO X.stack) [] H H' s.heap s'.heap)(RO:mV X.prog X.w H' s'.heap)
  (Te:B.StaysIn s'.heap) (Zz:s'.heap.FunFrames B X.stack) (hB:∀b,b∉gO X.stack->(H' b≠none\/∃o,s.heap.get? b=some o)->∃o,B.get? b=some o) (x1:Heap.FlyingW B X.outer ea cls a0 h') (x2:s'.heap.UpToSlots h') :
  CM X.prog X.w X.outer X.RM X.RT cls ea H' { s' with heap:=h' }:=by
 have nx:∀b:Addr,b∉X.ex:=λb=>by rw[hex];simp
 have fs:gO X.stack=X.env.locals::gO X.outer:=by rw[hs];unfold gO;rw[jF,hf]
 have Vg:∀b o,X.RT.heap.get? b=some o->b≠X.env.locals:=λb o e=>yQ (zP (zY e) I.ok.above);have out:∀b o,X.RT.heap.get? b=some o->b∉gO X.outer->b∉gO X.stack:=λb o e hb z=>by
  rw[fs] at z;rcases List.mem_cons.mp z with z|z
  ·exact Vg b o e z
  ·exact hb z
 have UL:∀b∈gO X.stack,H' b=none:=λb hb=>by
  let⟨_,o,ho,_⟩:=I.stack.mem hb;exact Tq.free b o ho (I.SE b hb) (by simp)
 have G7:∀b u,H' b≠none->s'.heap.get? b=some u->h'.get? b=some u:=λb u hn e=>by
  let⟨o,eo⟩:=hB b (λz=>hn (UL b z)) (.inl hn);have:=Te b o eo;rw[e] at this;cases this;exact x1.1 b u eo
 have old:∀b o o2,b∉gO X.stack->s.heap.get? b=some o->s'.heap.get? b=some o2->h'.get? b=some o2:=λb o o2 hb e e2=>by
  let⟨o3,eo⟩:=hB b hb (.inr ⟨o,e⟩);have:=Te b o3 eo;rw[e2] at this;cases this;exact x1.1 b o2 eo
 have inO:∀b,b∈gO X.outer->b∈gO X.stack:=λb hb=>by rw[fs];exact zC _ hb
 have TK:∀b∈gO X.outer,∀o,s'.heap.get? b=some o->∃sl,h'.get? b=some { o with slots:=sl }:=λb hb o e=>by
  let⟨_,o2,e2,d2⟩:=Zz.mem (inO b hb);rw[e] at e2;cases e2;exact x2 b o e d2
 refine⟨Ui.trans I.os,hbr,⟨λb o e n hb _=>?_,λb o e n hb _=>?_,λb o e n _=>?_,λb o e _=>?_,λb xs e=>Tq.SK b xs (I.base.SK b xs e),λb o u e=>Tq.Sz b o u (I.base.Sz b o u e),?_⟩,λa o e=>?_,B,a0,x1,λb hb hh=>?_⟩
 ·have e1:=I.base.keep b o e n hb (nx b);have n1:=I.base.free b o e n (nx b);have Th:=out b o e hb;exact old b o o Th e1 (Tq.keep b o e1 n1 Th (by simp))
 ·let⟨sl,e1⟩:=I.base.slot b o e n hb (nx b);have n1:=I.base.free b o e n (nx b);let⟨Vx,e2⟩:=Tq.slot b _ e1 n1 (inO b hb) (by simp);let⟨ZA,e3⟩:=TK b hb _ e2;exact⟨ZA,e3⟩
 ·let⟨o1,e1⟩:=I.base.there b o e (nx b);exact Tq.free b o1 e1 (I.base.free b o e n (nx b)) (by simp)
 ·let⟨o1,e1⟩:=I.base.there b o e (nx b);let⟨o2,e2⟩:=Tq.there b o1 e1 (by simp);by_cases hb:b∈gO X.outer
  ·let⟨sl,e3⟩:=TK b hb o2 e2;exact⟨_,e3⟩
  ·exact⟨o2,old b o1 o2 (out b o e hb) e1 e2⟩
 ·exact I.base.Sr.trans (Tq.Sr.trans (.kept (λb u ⟨q,z⟩ e=>G7 b u (by rw[z];simp) e) λ_ _ e _=>e))
 ·refine (RO a o e).Sd (λb u hb q=>G7 b u ?_ q) (λ_ q=>q) λ_ _ q _=>q;rcases hb with rfl|z
  ·rw[e];simp
  ·rw[z];simp
 ·refine hB b (λz=>?_) (hh.imp id λ⟨o,e⟩=>I.base.there b o e (nx b));rw[fs] at z;rcases List.mem_cons.mp z with z|z
  ·subst z;rcases hh with hn|⟨o,e⟩
   ·exact hn (UL _ (by rw[fs];exact zE))
   ·exact Vg _ o e rfl
  ·exact hb z
def OC(hs:X.stack=X.env::X.outer)(hf:X.env.frame=some X.env.locals)(hex:X.ex=[])
  (VO:∀e s',wpAny (model X.prog X.w) X.A (leaving X.env e) (λ_ S5=>yn X.prog X.w X.outer X.RM X.RT E' e S5) (λ_ _=>False) s'->X.xe e s') (hE:∀cls H',E cls none H'->E' cls none H'):eu (yn X.prog X.w) X E:=by
 intro pins σ H s e s' I h;let⟨ea,cls,H',rfl,F,hc⟩:=h;let⟨B,a0,SG,hB⟩:=F.XB;refine VO _ _ ?_;refine wpAny_leaves_onW (base:=B) (a0:=a0) (cls:=cls) (by rw[I.ok.frames,hs]) hf (by rw[<- hs];exact SG) λh' x1 x2=>⟨ea,cls,H',rfl,AV I hs hf hex F.os F.bare F.un F.RO SG.1 SG.2.2.1 hB x1 x2,hE _ _ hc⟩
def yz(I:Inv X pins σ H s)(hs:X.stack=X.env::X.outer)(hf:X.env.frame=some X.env.locals)(hex:X.ex=[])
  (VO:∀e s',wpAny (model X.prog X.w) X.A (leaving X.env e) (λ_ S5=>yn X.prog X.w X.outer X.RM X.RT E' e S5) (λ_ _=>False) s'->X.xe e s') (hm:Heap.MadeExcOf s.heap s'.heap ea cls args) (ho:s'.os=s.os) (hg:AllBare s'.gens) (hE:E' cls none H):X.xe (.ref ea) s':=by
 have fs:gO X.stack=X.env.locals::gO X.outer:=by rw[hs];unfold gO;rw[jF,hf]
 have XC:=I.stack;refine VO _ _ ?_;have UJ:∀env∈X.stack,∀b,env.frame=some b->b∈gO X.stack:=λenv he b hb=>List.mem_filterMap.mpr ⟨env,he,hb⟩;refine wpAny_leaves_madeW (base:=W.hideAll s.heap (gO X.stack)) (h:=s.heap) (cls:=cls) (args:=args) (by rw[I.ok.frames,hs]) hf (λb o q=>W.of_hideAll _ q) (by rw[<- hs];exact W.funFrames_hide XC UJ) hm λh' t x1 x2 x3 x4=>⟨ea,cls,H,rfl,?_,hE⟩
 refine AV I hs hf hex ho hg (Un.kept hm.keeps) (I.RO.kept hm.keeps) (λb o q=>hm.keeps b o (W.of_hideAll _ q)) ((W.funFrames_hide XC UJ).of_keeps λb o q _=>⟨o,hm.keeps b o q,rfl⟩) (λb hb hh=>?_) x1 x4;have ⟨o,e⟩:∃o,s.heap.get? b=some o:=by
  rcases hh with hn|h
  ·let⟨u,hu⟩:=Option.ne_none_iff_exists'.mp hn;exact rK (I.RO b u hu)
  ·exact h
 exact⟨o,W.hideAll_get _ e hb⟩
end
abbrev KD:List Value:=[.type "ValueError",.type "Exception",.type "BaseException",.type "object"]
def Jl{K:W.Frag}(X:K.In h)(q:W.excIn K C KD "ValueError.__new__"=true) :
  ∃bm N nm qn bs hd sn sub ab col dd k0 k1 k2 k3 k5 mN,h.get? C=some (excClassObj nm qn C N bs bm hd sn sub ab col dd k0 k1 k2 k3 k5 "ValueError.__new__")/\h.Ns N mN/\mN "__init__"=none/\OwnTail h KD bm:=by
 unfold W.excIn at q;split at q
 ·rename_i dd cd sl ho;split at q
  ·rename_i C' bm k0 k1 k2 k3 n k5 hm T3;simp?[zF,vQ,yO] at q;obtain⟨⟨⟨⟨⟨rfl,rfl⟩,XD⟩,ht⟩,RO⟩,Yl⟩:=q;cases cd with
   | mk nm bs mro ns qn hd sn sub ab col del =>
    simp only at hm XD RO Yl;subst hm XD;cases sl with
    | mk l =>
     simp only at T3;subst T3;exact⟨bm,ns,nm,qn,bs,hd,sn,sub,ab,col,dd,k0,k1,k2,k3,k5,_,X _ _ ho,.of_isNs (W.isNs_of_in X RO),W.nsMap_none_of_in X RO Yl,W.tail_of_in X ht⟩
  ·cases q
 ·cases q
def Eh(I:Inv X pins σ H s)(hc:X.calm=true)(hg:Gl X x)(hm:X.mg x=some (.ref C))(q:W.excIn X.K C KD "ValueError.__new__"=true)
  (hs:X.stack=X.env::X.outer) (hf:X.env.frame=some X.env.locals) (hex:X.ex=[])
  (VO:∀e s',wpAny (model X.prog X.w) X.A (leaving X.env e) (λ_ S5=>yn X.prog X.w X.outer X.RM X.RT E' e S5) (λ_ _=>False) s'->X.xe e s') (hE:E' (.ref C) none H) (Si:(x == ("__debug__":Str))=false) :
  wpAny (model X.prog X.w) X.A (exec (.Raise (some (.Call (.Name x np) [.Constant (.str t) i p] [] cpos)) none pos) X.env) Q X.xe s:=by
 let⟨bm,N,nm,qn,bs,hd,sn,sub,ab,col,dd,k0,k1,k2,k3,k5,mN,hC,hN,Yl,T⟩:=Jl I.Tt q;refine wpAny_Raise_call_subT (C:=C) (nm:=nm) (q:=qn) (N:=N) (bs:=bs) (bm:=bm) (hdct:=hd) (sn:=sn) (sub:=sub) (ab:=ab) (col:=col) (dd:=dd) (k0:=k0) (k1:=k1) (k2:=k2) (k3:=k3) (k5:=k5)
  F.excBase_ValueError (mN:=mN) (T.hasType F.excBase_ValueError.hasBase) (I.ok.hd hc) rfl Yl (k4 I hg hm ⟨rfl,?_⟩ Si)
 refine Calls.evalArgs_plain (jI (wX (k:=i) (pos:=p) (kJ ⟨rfl,?_,hC,hN,T,λh' e hme=>?_⟩)))
 ·exact yD (show 1<=4000 by lia) (by decide)
 ·exact yz (s:={ s with toks:=s.toks+1 }) (I.tok _) hs hf hex VO hme rfl I.bare hE
open PySem L2 Dl PySem.Spec PyProof.Rows
def Q4(K:W.Frag)(mg:Str->Option Value)(n:Nat)(xm:List D->Option Str):Sp:=λvs H _ E=>∃HF ds c C,aR HF H/\eh K HF/\ay K HF ds vs/\ds.length=n/\xm ds=some c/\mg c=some (.ref C)/\∀H' RN,bM HF H RN H'->E (.ref C) none H'
structure FH(P:Program)(w:World)(K:W.Frag)(mg:Str->Option Value)(base:Heap)(k:Nat)(x:Str)(n:Nat)(xm:List D->Option Str):Prop where
 ex:∃ (f:Addr) (fd:FuncData) (ps:List Str),oA P w K mg base (yn P w) k f fd ps (Q4 K mg n xm)/\mg x=some (.ref f)/\W.keepIn K (.ref f)=true/\Binds K fd ps []
def FH.mono{K:W.Frag}{xm:List D->Option Str}(F:FH P w K mg base k x n xm)(h:k<=j):FH P w K mg base j x n xm:=by
 let⟨f,fd,ps,a,b,c,d⟩:=F.ex;exact⟨f,fd,ps,a.mono h,b,c,d⟩
structure Xk(X:Cx)(E:XK):Prop where
 hs:X.stack=X.env::X.outer
 hf:X.env.frame=some X.env.locals
 hex:X.ex=[]
 VO:∀e s',wpAny (model X.prog X.w) X.A (leaving X.env e) (λ_ S5=>yn X.prog X.w X.outer X.RM X.RT E e S5) (λ_ _=>False) s'->X.xe e s'
def Xk.pass(hx:Xk X E):eu (yn X.prog X.w) X E:=OC hx.hs hx.hf hx.hex hx.VO λ_ _ h=>h
def QW(K:W.Frag)(mg:Str->Option Value)(E:XK)(xf:Dl.Env->Option Str):TE:=λσ H _=>∃HF ρ c C,aR HF H/\cM K HF ρ σ/\xf ρ=some c/\mg c=some (.ref C)/\∀H' RN,bM HF H RN H'->E (.ref C) none H'
def A9(X:Cx)(E:XK)(e:Expr)(xf:Dl.Env->Option Str):Prop:=PE X e (QW X.K X.mg E xf)
def tX(K:W.Frag)(mg:Str->Option Value)(RL RM:Hp)(E:XK)(xg:ar->Option Str):TS:=λ_ σ H=>∃HF ρ c C,gm K RL RM HF H ρ σ/\xg ρ=some c/\mg c=some (.ref C)/\∀H' RN,bM RL RM RN H'->E (.ref C) none H'
def DX(X:Cx)(E:XK)(RL RM:Hp)(st:Stmt)(xg:ar->Option Str):Prop:=PS X st (tX X.K X.mg RL RM E xg)
def Dk(X:Cx)(E:XK)(RL RM:Hp)(st:List Stmt)(xg:ar->Option Str):Prop:=uy X st (tX X.K X.mg RL RM E xg)
def KR(h:PA X.Sf es t):PA X es t:=λpos pins s σ H Q I hw =>
 yZ (h pos pins s σ H Q (I.Ss _) hw) (λ_ _ ⟨v,H',I',r,q⟩=>⟨v,H',I'.RY,r,q⟩) λ_ _ z=>False.elim z
def ME{st:Stmt}(h:PS X.Sf st t):PS X st t:=λpins s σ H D I hw =>
 yZ (h pins s σ H D (I.Ss _) hw) (λ_ _ q=>q.RY) λ_ _ z=>False.elim z
def qv(n:Nat)(xm:List D->Option Str)(fs:Dl.Env->Option (List D)):Dl.Env->Option Str:=λρ=>(fs ρ).bind λds=>if ds.length=n then xm ds else none
def Hz{xm:List D->Option Str}{p pos:Pos}(F:FH X.prog X.w X.K X.mg X.base k x n xm)(hr:ej k X.A)(hx:eu (yn X.prog X.w) X E)(hg:Gl X x)(ha:DA X.Sf (e::es) fs)(Si:(x == ("__debug__":Str))=false:=by decide)
  (he:starEach (e::es) X.env=(false,eval e X.env)::starEach es X.env:=by rfl) (Sv:(backTo pos (starEach es X.env)).any (·.1)=false:=by rfl):A9 X E (.Call (.Name x p) (e::es) [] pos) (qv n xm fs):=by
 let⟨f,fd,ps,ok,hm,hk,hb⟩:=F.ex;refine aV (tL (E:=E) ok hr hg hm hk hb .nil hx (KR ha) Si he Sv) λσ H Q ⟨HF,ρ,c,C,sm,eo,hf,hc,q⟩=>?_;let⟨ds,Uj,hf⟩:=bs hf;split at hf
 ·rename_i hl;exact⟨HF,ρ,ds,sm,eo,Uj,λvs H1 RP g1 r1=>⟨RP,ds,c,C,g1.fh,eo.tb.mono g1.ff,by rw[qE];exact r1,hl,hf,hc,λH' RN g=>q H' RN (g1.trans g)⟩⟩
 ·cases hf
def Au(t:Dl.Env->Option Bool)(xa xb:Dl.Env->Option Str):Dl.Env->Option Str:=λρ=>(t ρ).bind λb=>if b=true then xa ρ else xb ρ
def NC(hc:DT X.Sf c t)(ha:A9 X E a xa)(hb:A9 X E b xb):A9 X E (.IfExp c a b pos) (Au t xa xb) :=
 aV (wk (PT.Sf hc) ha hb) λσ H Q ⟨HF,ρ,c,C,sm,eo,hf,hc,q⟩=>by
  let⟨b,h,hf⟩:=bs hf;refine⟨HF,ρ,b,sm,eo,h,λH' RN G=>?_⟩;cases b with
  | true=>exact pW ⟨RN,ρ,c,C,G.fh,eo.mono G.ff,hf,hc,λH2 R1 G2=>q H2 R1 (G.trans G2)⟩
  | false=>exact nj ⟨RN,ρ,c,C,G.fh,eo.mono G.ff,hf,hc,λH2 R1 G2=>q H2 R1 (G.trans G2)⟩
def FW{K:W.Frag}{D:Ends}(h:tX K mg RL RM E (λρ=>xf (aJ ρ)) D σ H):QW K mg E xf σ H Q:=by
 let⟨HF,ρ,c,C,S,hx,hc,q⟩:=h;exact⟨H,aJ ρ,c,C,.refl _,S.all,hx,hc,λH' RN G=>q H' HF (S.step G.hh).gr⟩
def Li(h:A9 X E e xf)(hs:swapsWith e none pos.line X.env=pure false:=by rfl):DX X E RL RM (.Expr e pos) (λρ=>xf (aJ ρ)):=bS (mE h hs) λD σ H q=>FW q
def Lc(h:A9 X E e xf):DX X E RL RM (.Return (some e) pos) (λρ=>xf (aJ ρ)):=bS (zc h) λD σ H q=>FW q
def pq{st:Stmt}{rest:List Stmt}(h:DX X E RL RM st xg):Dk X E RL RM (st::rest) xg:=λpins s σ H D I q=>by
 refine vK (b9 (h pins s σ H ⟨λ_ _=>False,λ_ _=>False,λ_ _=>False,λ_ _=>False⟩ I q) λf s1 z=>?_);cases f with
 | next=>let⟨_,_,_,z⟩:=z;exact z.elim
 | brk=>let⟨_,_,_,z⟩:=z;exact z.elim
 | cont=>let⟨_,_,_,z⟩:=z;exact z.elim
 | ret u=>let⟨_,_,_,_,_,z⟩:=z;exact z.elim
def E7(g:ar->Option Out)(xg:ar->Option Str):ar->Option Str:=λρ=>(g ρ).bind λo=>match o with|.nx ρ'=>xg ρ'|.rt _=>none
def wq{st:Stmt}{rest:List Stmt}(h:DS X.Sf RL RM st g)(hr:Dk X E RL RM rest xg):Dk X E RL RM (st::rest) (E7 g xg) :=
 oR (i6 (ME h) hr) λD σ H ⟨HF,ρ,c,C,S,hx,hc,q⟩=>by
  let⟨o,ho,hx⟩:=bs hx;cases o with
  | rt d=>cases hx
  | nx ρ'=>exact⟨HF,ρ,.nx ρ',S,ho,λσ' H' RN S' _=>⟨RN,ρ',c,C,S',hx,hc,q⟩⟩
def F1(t:Dl.Env->Option Bool)(xa xb:ar->Option Str):ar->Option Str:=λρ=>(t (aJ ρ)).bind λb=>if b=true then xa ρ else xb ρ
def N0(hc:DT X.Sf c t)(ha:Dk X E RL RM a xa)(hb:Dk X E RL RM b xb):DX X E RL RM (.If c a b pos) (F1 t xa xb) :=
 bS (B0 (PT.Sf hc) ha hb) λD σ H ⟨HF,ρ,c,C,S,hx,hc,q⟩=>by
  let⟨b,h,hx⟩:=bs hx;refine⟨H,aJ ρ,b,.refl _,S.all,h,λH' RN G=>?_⟩;cases b with
  | true=>exact pW ⟨HF,ρ,c,C,S.step G.hh,hx,hc,q⟩
  | false=>exact nj ⟨HF,ρ,c,C,S.step G.hh,hx,hc,q⟩
def EC(hk:Xk X E)(hc:X.calm=true)(hg:Gl X x)(hm:X.mg x=some (.ref C))(q:W.excIn X.K C KD "ValueError.__new__"=true)(Si:(x == ("__debug__":Str))=false:=by decide) :
  DX X E RL RM (.Raise (some (.Call (.Name x np) [.Constant (.str t) i p] [] cpos)) none pos) (λ_=>some x):=λpins s σ H D I ⟨HF,ρ,c,C',S,hx,SS,z⟩=>by
 cases hx;rw[hm] at SS;cases SS;exact Eh I hc hg hm q hk.hs hk.hf hk.hex hk.VO (z H HF S.gr) Si
def oF(xg:ar->Option Str)(n:Nat)(args:List D):Option Str:=xg (args.map Slot.val++List.replicate (n - args.length) .RK)
def v7{K:W.Frag}(sm:aR HF H)(tb:eh K HF)(rr:ay K HF ds vs):gm K HF H HF H (ds.map Slot.val++List.replicate (N.length - ds.length) .RK) (L2.start N vs):=by
 refine⟨.refl sm,λi e h=>?_,λi es h=>?_,λi j es fs a h=>?_,?_,tb,λi ks h=>absurd h tO,λi j ks ls h=>absurd h tO⟩
 ·have hi:i < ds.length:=by
   by_cases hi:i < ds.length
   ·exact hi
   ·rw[yS (by simpa using hi),yW] at h;split at h<;>cases h
  rw[yR (by simpa using hi),zO] at h;let⟨d',Ur,h⟩:=ah h;cases h;let⟨v,hv,rv⟩:=rr.getD Ur;refine⟨v,?_,rv⟩;unfold L2.start;rw[yR (by simpa [rr.length] using hi),zO,hv];rfl
 ·exfalso;by_cases hi:i < ds.length
  ·rw[yR (by simpa using hi),zO] at h;let⟨d',Ur,h⟩:=ah h;cases h
  ·rw[yS (by simpa using hi),yW] at h;split at h<;>cases h
 ·exfalso;by_cases hi:i < ds.length
  ·rw[yR (by simpa using hi),zO] at h;let⟨d',Ur,h⟩:=ah h;cases h
  ·rw[yS (by simpa using hi),yW] at h;split at h<;>cases h
 ·unfold L2.start;rw[zN,zN,zD,zD,xK,xK,rr.length];exact yL _
def fnX{K:W.Frag}{st:Stmt}(F:EK K x qual st f fd)(S:bX N ps (aj st))(hb:Binds K fd ps [])(hm:mg x=some (.ref f))
  (body:∀ (X:Cx) (E:XK),X.prog=P->X.w=w->X.K=K->X.mg=mg->X.base=base->Bk X.Sf N (aj st) k->X.calm=true->Xk X E->∀RL RM,Dk X E RL RM (bq st) xg):FH P w K mg base (k+1) x ps.length (oF xg N.length):=by
 refine⟨f,fd,ps,?_,hm,F.kp,hb⟩;let⟨oc,od,kV,doc,pm,an,R4,ct,TV,rfl,lk,Se⟩:=F.ex;refine DR lk Se S (λvs H Q E ⟨HF,ds,c,C,h1,_,h2,h3,_⟩=>by rw[h2.length,h3]) λA outer s H vs Q E hr ⟨HF,ds,c,C,sm,tb,rr,hl,hd,hc,q⟩=>?_;refine⟨_,body (pR (yn P w) P w K mg base N qual (aj st) f R4 A outer s H E) E rfl rfl rfl rfl rfl ⟨rfl,S.nd,λy kd hy=>.inl hy,rfl,λ_ _=>rfl,hr,rfl,S.kind⟩ rfl ⟨rfl,rfl,rfl,λe s' z=>yZ z (λ_ _ h=>h) λ_ _ h=>h.elim⟩ HF H,?_⟩;exact⟨HF,_,c,C,v7 sm tb rr,hd,hc,q⟩
section
variable {X:Cx}{pins:List (Addr×Obj)}{σ:L2.St}{H H':Hp}{s s':Shared}{cls:Value}{ea:Addr}
def Gf(I:Inv X pins σ H s)(Tq:Un (gO X.stack) [] H H' s.heap s'.heap)(RO:mV X.prog X.w H' s'.heap)
  (Te:B.StaysIn s'.heap) (Zz:s'.heap.FunFrames B X.stack) (hB:∀b,b∉gO X.stack->(H' b≠none\/∃o,s.heap.get? b=some o)->∃o,B.get? b=some o) (x1:B.StaysIn h') (x2:s'.heap.UpToSlots h') :
  Un (gO X.stack) [] H H' s.heap h'/\mV X.prog X.w H' h':=by
 have UL:∀b∈gO X.stack,H' b=none:=λb hb=>by
  let⟨_,o,ho,_⟩:=I.stack.mem hb;exact Tq.free b o ho (I.SE b hb) (by simp)
 have G7:∀b u,H' b≠none->s'.heap.get? b=some u->h'.get? b=some u:=λb u hn e=>by
  let⟨o,eo⟩:=hB b (λz=>hn (UL b z)) (.inl hn);have:=Te b o eo;rw[e] at this;cases this;exact x1 b u eo
 have old:∀b o o2,b∉gO X.stack->s.heap.get? b=some o->s'.heap.get? b=some o2->h'.get? b=some o2:=λb o o2 hb e e2=>by
  let⟨o3,eo⟩:=hB b hb (.inr ⟨o,e⟩);have:=Te b o3 eo;rw[e2] at this;cases this;exact x1 b o2 eo
 have TK:∀b∈gO X.stack,∀o,s'.heap.get? b=some o->∃sl,h'.get? b=some { o with slots:=sl }:=λb hb o e=>by
  let⟨_,o2,e2,d2⟩:=Zz.mem hb;rw[e] at e2;cases e2;exact x2 b o e d2
 refine⟨⟨λb o e n hb _=>?_,λb o e n hb _=>?_,λb o e n _=>Tq.free b o e n (by simp),λb o e _=>?_,Tq.SK,Tq.Sz,?_⟩,λa o e=>?_⟩
 ·exact old b o o hb e (Tq.keep b o e n hb (by simp))
 ·let⟨Vx,e2⟩:=Tq.slot b o e n hb (by simp);let⟨ZA,e3⟩:=TK b hb _ e2;exact⟨ZA,e3⟩
 ·let⟨o2,e2⟩:=Tq.there b o e (by simp);by_cases hb:b∈gO X.stack
  ·let⟨sl,e3⟩:=TK b hb o2 e2;exact⟨_,e3⟩
  ·exact⟨o2,old b o o2 hb e e2⟩
 ·exact Tq.Sr.trans (.kept (λb u ⟨q,z⟩ e=>G7 b u (by rw[z];simp) e) λ_ _ e _=>e)
 ·refine (RO a o e).Sd (λb u hb q=>G7 b u ?_ q) (λ_ q=>q) λ_ _ q _=>q;rcases hb with rfl|z
  ·rw[e];simp
  ·rw[z];simp
def CM.inv(I:Inv X pins σ H s)(F:CM X.prog X.w X.stack H s cls ea H' s'):Inv X pins σ H' s':=I.UN F.os F.un F.RO F.bare (λb hb=>absurd hb (by simp))
def CM.Sd(I:Inv X pins σ H s)(F:CM X.prog X.w X.stack H s cls ea H' s')(SG:Heap.FlyingW B X.stack ea cls a0 s'.heap)(hB:∀b,b∉gO X.stack->(H' b≠none\/∃o,s.heap.get? b=some o)->∃o,B.get? b=some o)
  (x1:Heap.FlyingW B X.stack ea cls a0 h') (x2:s'.heap.UpToSlots h'):CM X.prog X.w X.stack H s cls ea H' { s' with heap:=h' }:=by
 let⟨u,k⟩:=Gf I F.un F.RO SG.1 SG.2.2.1 hB x1.1 x2;exact⟨F.os,F.bare,u,k,B,a0,x1,hB⟩
def land{M:Model}{E:Value->Shared->Prop}{Q:Unit->Shared->Prop}(I:Inv X pins σ H s)(hs:X.stack=X.env::X.outer)(hf:X.env.frame=some X.env.locals)(F:CM X.prog X.w X.stack H s cls ea H' s')
  (k:∀h',CM X.prog X.w X.stack H s cls ea H' { s' with heap:=h' }->Q () { s' with heap:=h' }) :
  wpAny M X.A (noteFrame (.ref ea) X.env) (λ_ s2=>wpAny M X.A (setFlight (.ref ea) none) Q E s2) E s':=by
 let⟨B,a0,SG,hB⟩:=F.XB;refine wpAny_looks_onW (base:=B) (a0:=a0) (cls:=cls) (by rw[I.ok.frames,hs]) hf (by rw[<- hs];exact SG) λh4 hh x2=>?_;refine wpAny_landsW (s:={ s' with heap:=h4 }) hh λh5 y1 y2=>k h5 ?_;exact F.Sd I SG hB (by rw[hs];exact y1) (x2.trans y2)
def again{M:Model}{A:Around}{E:Value->Shared->Prop}{Q:Unit->Shared->Prop}(I:Inv X pins σ H s)(F:CM X.prog X.w X.stack H s cls ea H' s')
  (k:∀h',CM X.prog X.w X.stack H s cls ea H' { s' with heap:=h' }->Q () { s' with heap:=h' }):wpAny M A (setFlight (.ref ea) none) Q E s':=by
 let⟨B,a0,SG,hB⟩:=F.XB;exact lands_againW SG λh5 y1 y2=>k h5 (F.Sd I SG hB y1 y2)
end
abbrev iq(X:Cx)(A':Around):Cx:={ X with A:=A',calm:=false }
def oY(I:Inv X pins σ H s)(UG:A'.frames=X.A.frames):Inv (iq X A') pins σ H s :=
 let ok:=I.ok
 ⟨⟨ok.mod,ok.kind,ok.glob,ok.blt,ok.above,ok.inj,ok.has,ok.VT,λz=>(by cases z),UG.trans ok.frames,ok.UL,ok.Wv,ok.bs,ok.UM,ok.Ts,ok.TQ,ok.SD,ok.Vf⟩,I.os,I.bare,I.base,I.loc,I.cell,I.free,I.RU,I.pin,I.RO,I.len⟩
def Aj(ok:X.Ok)(I:Inv (iq X A') pins σ H s):Inv X pins σ H s:=⟨ok,I.os,I.bare,I.base,I.loc,I.cell,I.free,I.RU,I.pin,I.RO,I.len⟩
def zf{t':Nat}(I:Inv X pins σ H s)(hn:h'.Ns X.env.locals m')(hs:Heap.SameBut X.env.locals s.heap h'):Inv X pins (List.replicate X.N.length none) H { s with heap:=h',toks:=t' }:=by
 have Vg:∀b o,X.RT.heap.get? b=some o->b≠X.env.locals:=λb o e=>yQ (zP (zY e) I.ok.above);have kp:∀b o,b≠X.env.locals->s.heap.get? b=some o->h'.get? b=some o:=λb o ne e=>(hs.2 b ne).trans e;have tr:∀b u,H b=some u->b≠X.env.locals:=λb u e z=>by rw[z,I.free] at e;cases e
 refine⟨I.ok,I.os,I.bare,⟨λb o e n hb hx=>kp b o (Vg b o e) (I.base.keep b o e n hb hx),λb o e n hb hx=>?_,I.base.free,λb o e hx=>?_,I.base.SK,I.base.Sz,?_⟩,⟨m',hn,λi x v _ h2 _=>?_⟩,λx c e=>?_,I.free,I.RU,λp hp=>?_,λa o e=>?_,?_⟩
 ·let⟨sl,e1⟩:=I.base.slot b o e n hb hx;exact⟨sl,kp b _ (Vg b o e) e1⟩
 ·let⟨o',e1⟩:=I.base.there b o e hx;exact⟨o',kp b _ (Vg b o e) e1⟩
 ·exact I.base.Sr.trans (.kept (λb u ⟨q,z⟩ e=>kp b u (tr b _ z) e) λ_ _ e _=>e)
 ·rw[yW] at h2;split at h2<;>cases h2
 ·let⟨v,o,ho,hd⟩:=I.cell x c e;exact⟨v,o,kp c o (I.Vu x c e) ho,hd⟩
 ·let⟨e,n,ne,r⟩:=I.pin p hp;exact⟨kp _ _ ne e,n,ne,r⟩
 ·refine (I.RO a o e).Sd (λb u hb q=>kp b u ?_ q) (λ_ q=>q) λ_ _ q _=>q;rcases hb with rfl|z
  ·exact tr b _ e
  ·exact tr b _ z
 ·simp
def ExcAt(l:List PySem.Env)(H:Hp)(h:Heap)(ea:Addr)(cls:Value):Prop:=(∃ob vs,h.get? ea=some ob/\ob.cls=cls/\ob.data=.fields vs)/\H ea=none/\ea∉gO l
def L5{rest:List ExceptHandler}{D:Ends}(I:Inv X pins σ H s)(F:CM X.prog X.w X.stack H s cls ea H' s')(hg:Gl X x)(hm:X.mg x=some (.ref C))(Si:(x == ("__debug__":Str))=false)
  (hx:W.exmOne X.K cls (.ref C)=some true) (hN:X.N.Nodup) (hi:X.N[i]?=some n) (hl:X.env.kindOf n=some .local) (TN:X.env.scope.names.lookup n=some .local) (SJ:X.env.cells.lookup n=none)
  (k:∀s2,Inv (iq X (X.A.mark (some (.ref ea)))) pins (σ.set i (some (.ref ea))) H' s2->ExcAt X.stack H' s2.heap ea cls ->
   wpAny (model X.prog X.w) (X.A.mark (some (.ref ea))) (execs (Wo::U3) X.env) (λf s3=>∃u v σ' H3,f=.ret u/\Inv (iq X (X.A.mark (some (.ref ea)))) pins σ' H3 s3/\RelV v u/\D.rt v H3) (λ_ _=>False) s2) :
  wpAny (model X.prog X.w) X.A (handleBy (.ref ea) X.env (.ExceptHandler (some (.Name x np)) (some n) (Wo::U3) pos::rest)) (SP X pins D) X.xe s':=by
 have UG:(X.A.mark (some (.ref ea))).frames=X.A.frames:=rfl;have I1:=F.inv I;let⟨B,a0,SG,hB⟩:=F.XB;let⟨ob,XF,ZC⟩:=SG.there;refine wpAny_handleBy_cons (codeAny_handlers_test ?_) (by intro q;cases q);refine k4 (X:=iq X (X.A.mark (some (.ref ea)))) (oY I1 UG) hg hm ?_ Si;have LT:W.Looks (model X.prog X.w) s'.heap (typeOf (.ref ea)) cls:=λA Q E s2 k2 q=>wpAny_typeOf_ref (k2 _ _ XF) (by rw[ZC];exact q);refine (W.exm_one I1.Tt LT hx).here ?_;refine codeAny_handlers_suite_as ?_;refine again I F λh2 F2=>?_;let⟨B2,a2,Wq,hB2⟩:=F2.XB;let⟨oe,vs,T,oT,ts,he,⟨hec,_⟩,ZD,_⟩:=Wq.2.2.2;refine nG (X:=X) (i:=i) (v:=.ref ea) (F2.inv I) hN hi (.inl TN) rfl (λs2 I2 WG=>?_) (.inr TN);let⟨a,WG,ha⟩:=WG;have hal:a=X.env.locals:=by
  rcases ha with h|h
  ·exact h
  ·rw[SJ] at h;cases h
 subst hal;have So:ea≠X.env.locals:=λz=>by
  let⟨m,⟨o,es,ep,ho,hd,_⟩,_⟩:=(F2.inv I).loc;rw[<- z] at ho;have:oe=o:=by rw[he] at ho;exact xC ho
  rw[<- this,ZD] at hd;cases hd
 have W8:ea∉gO X.stack:=λz=>by
  let⟨_,o2,e2,d2⟩:=Wq.2.2.1.mem z;have:oe=o2:=by rw[he] at e2;exact xC e2
  exact d2 vs (this ▸ ZD)
 have Vi:H' ea=none:=by
  cases q:H' ea with
  | none=>rfl
  | some u =>
   let⟨o,eo⟩:=hB2 ea W8 (.inl (by rw[q];simp));rw[Wq.2.1] at eo;cases eo
 refine yZ (k s2 (oY I2 UG) ⟨⟨oe,vs,(WG.2 ea So).trans he,hec,ZD⟩,Vi,W8⟩) (λf s3 hz=>?_) λ_ _ z=>z.elim;let⟨u,v,σ',H3,rfl,I3,r,d⟩:=hz;have I4:=Aj I1.ok I3;let⟨m3,hn3,_⟩:=id I4.loc;exact wpAny_nameGoes hl hn3 (by rw[I4.ok.kind];rfl) λh' m' TM ZE=>⟨v,_,H3,zf I4 TM ZE,r,d⟩
abbrev fU(X:Cx)(pn:List (Addr×Obj))(xe:Value->Shared->Prop):Cx:={ X with pn:=pn,xe:=xe }
def E9(ok:X.Ok):(fU X pn xe).Ok :=
 ⟨ok.mod,ok.kind,ok.glob,ok.blt,ok.above,ok.inj,ok.has,ok.VT,ok.hd,ok.frames,ok.UL,ok.Wv,ok.bs,ok.UM,ok.Ts,ok.TQ,ok.SD,ok.Vf⟩
def AM(I:Inv X pins σ H s)(h:∀p∈pn++pins',p∈X.pn++pins):Inv (fU X pn xe) pins' σ H s :=
 ⟨E9 I.ok,I.os,I.bare,I.base,I.loc,I.cell,I.free,I.RU,λp hp=>I.pin p (h p hp),I.RO,I.len⟩
def Cj(ok:X.Ok)(I:Inv (fU X pn xe) pins' σ H s)(h:∀p∈X.pn++pins,p∈pn++pins'):Inv X pins σ H s :=
 ⟨ok,I.os,I.bare,I.base,I.loc,I.cell,I.free,I.RU,λp hp=>I.pin p (h p hp),I.RO,I.len⟩
def AK(X:Cx)(i:Nat)(ss:List Stmt)(c:Str)(d:D):Prop:=∀ (pn pins:List (Addr×Obj)) (xe:Value->Shared->Prop) (σ:L2.St) (H:Hp) (s:Shared) (ea C:Addr),X.mg c=some (.ref C)->Inv (iq (fU X pn xe) (X.A.mark (some (.ref ea)))) pins σ H s->σ[i]?=some (some (.ref ea)) ->
 ExcAt X.stack H s.heap ea (.ref C)->wpAny (model X.prog X.w) (X.A.mark (some (.ref ea))) (execs ss X.env) (λf s3=>∃u v σ' H3,f=.ret u/\Inv (iq (fU X pn xe) (X.A.mark (some (.ref ea)))) pins σ' H3 s3/\RelV v u/\∀HF,aR HF H->∃Sw,bM HF H Sw H3/\Rep X.K Sw d v) (λ_ _=>False) s
def uS(gb:ar->Option Out)(xg:ar->Option Str)(fin:Str->Option D):ar->Option Out:=λρ=>match gb ρ with
 | some (.rt d)=>some (.rt d)
 | some (.nx _)=>none
 | none=>(xg ρ).bind λc=>(fin c).map Out.rt
def MD{fin:Str->Option D}(hs:X.stack=X.env::X.outer)(hf:X.env.frame=some X.env.locals)
  (hg:Gl X x) (hm:X.mg x=some (.ref CF)) (Si:(x == ("__debug__":Str))=false) (hN:X.N.Nodup) (hi:X.N[i]?=some n) (hl:X.env.kindOf n=some .local) (TN:X.env.scope.names.lookup n=some .local) (SJ:X.env.cells.lookup n=none)
  (RO:ym X.Sf RL RM body gb) (hx:∀pn xe E,eu (yn X.prog X.w) (fU X pn xe) E->Dk (fU X pn xe) E RL RM body xg)
  (ZF:∀c d,fin c=some d->(∀C,X.mg c=some (.ref C)->W.exmOne X.K (.ref C) (.ref CF)=some true)/\(∃C,X.mg c=some (.ref C))/\AK X i (Wo::U3) c d) :
  DS X RL RM (.Try body [.ExceptHandler (some (.Name x np)) (some n) (Wo::U3) TL] [] [] pos) (uS gb xg fin):=by
 intro pins s σ H D I ⟨HF,ρ,o,S,Wr,q⟩;refine wpAny_Try_except ?_;unfold uS at Wr;split at Wr
 ·rename_i d Ym;cases Wr;refine yZ (uy.Sf RO pins s σ H { D with nx:=λ_ _=>False,bk:=λ_ _=>False,ct:=λ_ _=>False } I ⟨HF,ρ,.rt d,S,Ym,q⟩ |> λ_=>RO pins s σ H { D with nx:=λ_ _=>False,bk:=λ_ _=>False,ct:=λ_ _=>False } (I.Ss _) ⟨HF,ρ,.rt d,S,Ym,q⟩) (λf s1 z=>?_) λ_ _ z=>z.elim;cases f with
  | next=>let⟨_,_,_,z⟩:=z;exact z.elim
  | brk=>let⟨_,_,_,z⟩:=z;exact z.elim
  | cont=>let⟨_,_,_,z⟩:=z;exact z.elim
  | ret u=>exact SP.RY (D:=D) z
 ·cases Wr
 ·let⟨c,hc,Wr⟩:=bs Wr;let⟨d,hd,rfl⟩:=ah Wr;let⟨hex,⟨C,hC⟩,hsu⟩:=ZF c d hd;have hxm:=hex C hC;let E1:XK:=λcls _ H'=>cls=.ref C/\∃RN,bM RL RM RN H';let xeT:Value->Shared->Prop:=λe s1=>∃pins' σ' Hc s0 ea H',e=.ref ea/\Inv (fU X (X.pn++pins) X.xe) pins' σ' Hc s0/\CM X.prog X.w X.stack Hc s0 (.ref C) ea H' s1/\∃RN,bM RL RM RN H';have hp:eu (yn X.prog X.w) (fU X (X.pn++pins) xeT) E1:=λpins' σ' Hc s0 e s1 Ic hcx=>by
   let⟨ea,cls,H',rfl,F,rfl,RN,G⟩:=hcx;exact⟨pins',σ',Hc,s0,ea,H',rfl,⟨E9 I.ok,Ic.os,Ic.bare,Ic.base,Ic.loc,Ic.cell,Ic.free,Ic.RU,Ic.pin,Ic.RO,Ic.len⟩,F,RN,G⟩
  have hI:Inv (fU X (X.pn++pins) xeT) [] σ H s:=AM I λp hp=>by rw[qE] at hp;exact hp
  refine yZ (hx _ _ E1 hp [] s σ H ⟨λ_ _=>False,λ_ _=>False,λ_ _=>False,λ_ _=>False⟩ hI ⟨HF,ρ,c,C,S,hc,hC,λH' RN G=>⟨rfl,RN,G⟩⟩) (λf s1 z=>?_) λe s1 z=>?_
  ·exfalso;cases f with
   | next=>let⟨_,_,_,z⟩:=z;exact z
   | brk=>let⟨_,_,_,z⟩:=z;exact z
   | cont=>let⟨_,_,_,z⟩:=z;exact z
   | ret u=>let⟨_,_,_,_,_,z⟩:=z;exact z
  ·let⟨pins',σ',Hc,s0,ea,H',rfl,Ic,F,RN,G⟩:=z;refine land (X:=fU X (X.pn++pins) X.xe) Ic hs hf F λh' F'=>?_;refine b9 (L5 (X:=fU X (X.pn++pins) X.xe) (D:=⟨λ_ _=>False,λv H3=>D.rt v H3,λ_ _=>False,λ_ _=>False⟩) Ic F' hg hm Si hxm hN hi hl TN SJ λs2 I2 XF=>?_) λf s3 z=>?_
   ·have hlen:i < σ'.length:=by rw[Ic.len];exact (List.getElem?_eq_some_iff.mp hi).1
    refine yZ (hsu _ _ _ _ _ _ _ C hC I2 (by simp[hlen]) XF) (λf s3 z=>?_) λ_ _ z=>z;let⟨u,v,TU,H3,rfl,I3,r,z⟩:=z;let⟨Sw,g3,rp⟩:=z RN G.fh;exact⟨u,v,TU,H3,rfl,I3,r,q v H3 Sw (G.trans g3) rp⟩
   ·cases f with
    | next=>let⟨_,_,_,z⟩:=z;exact z.elim
    | brk=>let⟨_,_,_,z⟩:=z;exact z.elim
    | cont=>let⟨_,_,_,z⟩:=z;exact z.elim
    | ret u =>
     let⟨v,TU,H3,I3,r,z⟩:=z;exact⟨v,TU,H3,Cj I.ok I3 λp hp=>qH _ hp,r,z⟩
structure A8(P:Program)(w:World)(K:W.Frag)(mg:Str->Option Value)(base:Heap)(k:Nat)(x c:Str)(d:D):Prop where
 ex:∃ (f:Addr) (fd:FuncData) (ps:List Str),mg x=some (.ref f)/\W.keepIn K (.ref f)=true/\Binds K fd ps []/\ps.length=1 /\
  ∀ (A:Around) (outer:List PySem.Env) (s:Shared) (H:Hp) (args:Args) (ea C:Addr),A.depth+3 * k+5 < recursionLimit->A.units+16 * k+200 < cLine->zl P w K mg base A outer s H->BindsTo s fd args (ps.zip [.ref ea])->mg c=some (.ref C)->ExcAt outer H s.heap ea (.ref C) ->
   codeAny (model P w) A (.call (.ref f) args) (λr s'=>∃u,r=.ok (.ret u)/\CE outer P w H s (λv H'=>∀HF,aR HF H->∃RN,bM HF H RN H'/\Rep K RN d v) u s') s
def Co(R:A8 X.prog X.w X.K X.mg X.base k x c d)(hr:ej k X.A)(hg:Gl X x)(Si:(x == ("__debug__":Str))=false)(hi:X.N[i]?=some n)(hl:X.env.kindOf n=some .local)(TN:X.env.scope.names.lookup n=some .local)(Tc:(n == ("__debug__":Str))=false) :
  AK X i [.Return (some (.Call (.Name x p) [.Name n pe] [] cpos)) pos] c d:=by
 let⟨f,fd,ps,hm,hk,hb,Sv,run⟩:=R.ex;intro pn pins xe σ H s ea C hC I ZH XF;have ev:∀ {Q:Value->Shared->Prop},Q (.ref ea) s->wpAny (model X.prog X.w) (X.A.mark (some (.ref ea))) (eval (.Name n pe) X.env) Q (λ_ _=>False) s:=λ{Q} q=>by
  let⟨m,hn,X0⟩:=I.loc;let⟨u,r,l⟩:=X0 i n (.ref ea) hi ZH (.inl TN);have r:u=.ref ea:=r;subst r;rcases l with ⟨hk,hm⟩|⟨hk,_⟩
  ·exact wQ (wH I.ok.kind hk hn hm q) Tc
  ·have hk:X.env.kindOf n=some .cell\/X.env.kindOf n=some .free:=hk;rw[hl] at hk;rcases hk with hk|hk<;>cases hk
 have key:wpAny (model X.prog X.w) (X.A.mark (some (.ref ea))) (eval (.Call (.Name x p) [.Name n pe] [] cpos) X.env) (EP (iq (fU X pn xe) (X.A.mark (some (.ref ea)))) pins σ (λv H'=>∀HF,aR HF H->∃RN,bM HF H RN H'/\Rep X.K RN d v)) (λ_ _=>False) s:=by
  refine qX (k4 I hg hm ?_ Si);refine W.callWith_K (h₀:=X.base) I.ok.mod.VS hk (jI (ev (kJ ⟨I.Tt,?_⟩))) rfl rfl;refine vP (jR (run _ X.stack s H ⟨[.ref ea],[]⟩ ea C hr.dp hr.un I.WT (by have:=hb s [.ref ea] I.Tt (by simp[Sv]);simpa using this) hC XF) λr s' hq=>?_);let⟨u,rfl,hq⟩:=hq;exact I.after hq
 refine vK (wpAny_Return_some (yZ key (λu s3 z=>?_) λ_ _ z=>z));let⟨v,H3,I3,r,z⟩:=z;exact⟨u,v,σ,H3,rfl,I3,r,z⟩
open PySem PySem.W PySem.Spec PySem.Calls PyProof.Rows
section
variable {K:Frag}{x D:Addr}
def CQ(X:K.In h)(ha:findIn K (.ref D) name=some (some a))(hg:specialIn K a "__get__"=some (some g))(ht:takesIn K a=some true):Looks M h (Builtin.ObjectAttr.find self (.ref D) name) (.bind g a):=by
 refine (looks_findIn X ha).andThen ?_;refine (show Looks M h (Builtin.ObjectAttr.getOf (some a)) (some g) from looks_specialIn X hg).andThen ?_;refine (show Looks M h (Builtin.ObjectAttr.dataDescriptor? (some a) (some g)) (some (g,a)) from (looks_takesIn X ht).andThen .now).andThen ?_;exact Looks.tag .now
def Eu(X:K.In s.heap)(L0:Looks (model prog w) s.heap (typeOf (.ref x)) (.ref D))(hm:mroIn K D (.type "object")=some true)
  (h:R (.ok (.ret (.ref D))) s):codeAny (model prog w) A (.call (.builtin "getset_descriptor.__get__") ⟨[.builtin "object.__class__",.ref x,tp],[]⟩) R s:=by
 have LI:Looks (model prog w) s.heap (isInstance (.ref x) (.type "object")) true:=L0.andThen (looks_mroIn X hm);let⟨hh,g,dr,t,os⟩:=s;refine wI KF.slot_gs.plain KF.entry_gs (KF.slot_gs.check _ _ _ _ _ _ _ _ KF.type_class (KF.args_gs _ _ _) ?_);unfold Builtin.«getset_descriptor.__get__» Builtin.Getset_descriptor.descrGet;rw[dga_obj];refine zV (zW ?_);unfold Builtin.Getset_descriptor.descrGetter Builtin.Getset_descriptor.descrCheckInstance Builtin.Getset_descriptor.descrNameAndClass;simp?[KF.owner_class]
 repeat lk
 refine⟨wW _ (by decide +kernel),kE KF.entry_class ?_⟩;unfold Builtin.«object.__class__» shownTypeOf
 repeat lk
 exact h
def Dd(X:K.In s.heap)(ho:s.heap.get? x=some ox)(SJ:ox.cls=.ref D)(hga:findIn K (.ref D) "__getattribute__"=some (some (.builtin "BaseException.__getattribute__")))(Vi:findIn K (.ref D) "__getattr__"=some none)
  (ha:findIn K (.ref D) "__class__"=some (some (.builtin "object.__class__"))) (hn:specialIn K (.builtin "object.__class__") "__get__"=some (some (.builtin "getset_descriptor.__get__"))) (htk:takesIn K (.builtin "object.__class__")=some true) (hm:mroIn K D (.type "object")=some true) (hb:subIn K (.ref D) (.type "BaseException")=some true)
  (h:Q (some (.ref D)) { s with toks:=s.toks+1 }):wpAny (model prog w) A (getAttr? (.ref x) "__class__") Q E s:=by
 let⟨hh,g,d,t,os⟩:=s;have L0:Looks (model prog w) hh (typeOf (.ref x)) (.ref D):=SJ ▸ (Looks.ld ho).andThen .now;have L1:=looks_findIn (M:=model prog w) X hga;have L2:=looks_findIn (M:=model prog w) X Vi;have LF:=CQ (M:=model prog w) (self:=.ref x) X ha hn htk;have LI:Looks (model prog w) hh (isInstance (.ref x) (.type "BaseException")) true:=L0.andThen (looks_subIn X hb);unfold getAttr? getAttrBy? getAttrBy;refine zV (wpAny_mkText (zV (kX (xW (zV (L0.at (zV (L1.at ?_))))))));have hx2:(Value.builtin "BaseException.__getattribute__" == Value.builtin "object.__getattribute__")=false:=by decide +kernel
 simp?[hx2,vB,yN,qN];unfold getAttrByItsOwn hookBefore;refine zV ?_;show wpAny _ _ (typeLookup (.ref D) "__getattr__") _ _ _;refine L2.at ?_;refine zV (kX (xW ?_));show wpAny _ _ (boundAndCalled (.builtin "BaseException.__getattribute__") (.ref x) (.str "__class__" t)) _ _ _;unfold boundAndCalled;refine zV (wpAny_of_eq (F.attr_ValueError.ga.bind (.ref x)) ?_);refine vP (wI F.attr_ValueError.ga.plain F.entry_bexc_ga ?_);have hk:builtinKind "BaseException.__getattribute__"=some .slot:=by decide +kernel
 have Ws:splitId "BaseException.__getattribute__"=some ("BaseException","__getattribute__"):=by decide +kernel
 simp?[checkBuiltinCall,hk,Ws];refine zV (LI.at ?_);simp?[xX,yN,qN];have XG:argsOk "BaseException.__getattribute__" ⟨[.ref x]++[.str (Str.ofString "__class__") t],[]⟩:=F.args_bexc_ga _ _;have body:∀ {P:Fin->Shared->Prop}{E':Value->Shared->Prop},P (.done (.ret (.ref D))) ⟨hh,g,d,t+1,os⟩->wpAny (model prog w) A.in1 (Builtin.«object.__getattribute__» ⟨[.ref x]++[.str (Str.ofString "__class__") t],[]⟩) P E' ⟨hh,g,d,t+1,os⟩:=λ{P E'} q=>by
  unfold Builtin.«object.__getattribute__»;refine zV (zW ?_);refine zV (zW ?_);refine zV (L0.at ?_);refine zV (LF.at ?_);show wpAny _ _ (holding [.builtin "object.__class__"] (call (.builtin "getset_descriptor.__get__") [.builtin "object.__class__",.ref x,.ref D]) >>= ret) _ _ _;exact zV (xW (vP (Eu (s:=⟨hh,g,d,t+1,os⟩) X L0 hm (zW q))))
 cases ZI:Manifest.signature? "BaseException.__getattribute__" with
 | none=>exact zW (body (handed_on rfl (zW h)))
 | some sig =>
  have WK:Bind.checkArgs "BaseException.__getattribute__" sig ⟨[.ref x]++[.str (Str.ofString "__class__") t],[]⟩=pure ():=by simpa only[argsOk,ZI] using XG
  simp?[WK];exact zW (body (handed_on rfl (zW h)))
structure IF(K:Frag)(C:Addr):Prop where
 ga:findIn K (.ref C) "__getattribute__"=some (some (.builtin "BaseException.__getattribute__"))
 no:findIn K (.ref C) "__getattr__"=some none
 cl:findIn K (.ref C) "__class__"=some (some (.builtin "object.__class__"))
 hn:specialIn K (.builtin "object.__class__") "__get__"=some (some (.builtin "getset_descriptor.__get__"))
 tk:takesIn K (.builtin "object.__class__")=some true
 ob:mroIn K C (.type "object")=some true
 be:subIn K (.ref C) (.type "BaseException")=some true
 ci:(clsIn K C).isSome=true
def EG(k:IF K D):KitX K (.ref x) (.ref D) (λh=>h.get? x=some ox/\ox.cls=.ref D) where
 ty:=λ_ _ _ p=>p.2 ▸ (Looks.ld p.1).andThen .now
 it:=λ_ _ X _=>by
  have hc:=k.ci;unfold clsIn at hc;split at hc
  ·rename_i ho;intro A' Q' E' s' kp q;unfold isType loadHead;exact zV (wpAny_loadPart (kp _ _ (X _ _ ho)) (zW q))
  ·cases hc
 ne:=λh tp dd its n sl X htp=>by
  have hc:=k.ci;refine Bool.eq_false_iff.mpr λq=>?_;have e:D=tp:=Value.ref.inj (beq_iff_eq.mp q);subst e;unfold clsIn at hc;split at hc
  ·rename_i ho;have z:=(X _ _ ho).symm.trans htp;cases z
  ·cases hc
 ca:=λX p q=>Dd X p.1 p.2 k.ga k.no k.cl k.hn k.tk k.ob k.be q
def Aw(k:IF K D)(X:K.In s.heap)(ho:s.heap.get? x=some ox)(hc:ox.cls=.ref D)(e:kitOne K (.ref D) c=some b)(h:∀tk,Q (.bool b) { s with toks:=tk }) :
  wpAny (model prog w) A (call (.builtin "isinstance") [.ref x,c]) Q E s:=kia_one (EG k) X ⟨ho,hc⟩ e (λz=>nomatch z) h
end
abbrev yu(A:Around):Around:={ A with handled:=none }
abbrev Bg(P:Program)(w:World)(K:W.Frag)(mg:Str->Option Value)(base:Heap)(N:List Str)(qual:Str)(scope:Scope)(f:Addr)(R4:Value)(A:Around)(outer:List PySem.Env)(s:Shared)(H:Hp)(pn:List (Addr×Obj)):Cx :=
 fU (iq (pR G0 P w K mg base N qual scope f R4 (yu A) outer s H E0) (A.deeper (envOfC qual scope s.heap.objs.size f R4))) pn λ_ _=>False
section
variable {K:W.Frag}
def C6{C:Addr}{st:Stmt}(F:EK K x qual st f fd)(S:bX N ps (aj st))(h1:ps.length=1)
  (hdp:A.depth < recursionLimit) (e0:zl P w K mg base A outer s H) (hb:BindsTo s fd args (ps.zip [.ref ea])) (ho:s.heap.get? ea=some ob) (hd:ob.data=.fields vs) (hn:H ea=none) (hf:ea∉gO outer)
  (body:∀ (R4:Value) (s1:Shared),Inv (Bg P w K mg base N qual (aj st) f R4 A outer s H [(ea,ob)]) [] (L2.start N [.ref ea]) H s1 ->
   wpAny (model P w) (A.deeper (envOfC qual (aj st) s.heap.objs.size f R4)) (execs (bq st) (envOfC qual (aj st) s.heap.objs.size f R4)) (λfl s'=>∃u v σ' H',fl=.ret u/\Inv (Bg P w K mg base N qual (aj st) f R4 A outer s H [(ea,ob)]) [] σ' H' s'/\RelV v u/\Q v H') (λ_ _=>False) s1) :
  codeAny (model P w) A (.call (.ref f) args) (λr s'=>∃u,r=.ok (.ret u)/\CE outer P w H s Q u s') s:=by
 let⟨oc,od,kV,doc,pm,an,R4,ct,TV,rfl,lk,Se⟩:=F.ex;have KX:K.In s.heap:=e0.mod.VS.keeps λb o e=>(e0.bs b o e).1;have lim:s.heap.NoLimit:=e0.mod.nolimit.keeps λb o e=>(e0.bs b o e).1;have UP:∀y∈ps.zip [Value.ref ea],(aj st).names.lookup y.1=some .local \/ ((aj st).names.lookup y.1=some .cell/\((cellsFrom (s.heap.objs.size+1) (aj st).names []).lookup y.1).isSome=true):=λ⟨n,v⟩ hy=>by
  rcases S.par n (vY hy).1 with q|q
  ·exact .inl q
  ·exact .inr ⟨q,W.cellsFrom_some _ _ _ (.inl q)⟩
 refine codeAny_call_function hdp (KX _ _ lk) rfl S.co S.gen rfl (W.codeRec_of KX Se) (hb _ _ _ _ ?_);refine wpAny_newFunctionEnv_cells S.kind UP λenv he s1 x=>?_;subst he;refine⟨lim.keeps x.toInCall.keep,codeAny_func ?_⟩;have e0':zl P w K mg base (yu A) outer s H:=⟨e0.frames,e0.mod,e0.bs,e0.UM,e0.SD,e0.Vf,e0.RO,e0.bare⟩
 have I0:Inv (pR G0 P w K mg base N qual (aj st) f R4 (yu A) outer s H E0) [] (L2.start N [.ref ea]) H s1:=se S rfl e0' (by simp[h1]) (.cons rfl .nil) x;have R6:ea < s.heap.objs.size:=zY ho;have I1:=I0.Td (pins':=[(ea,ob)]) λp hp=>by
  have hp:p=(ea,ob):=by simpa using hp
  subst hp;exact⟨x.toInCall.keep _ _ ho,hn,yQ R6,hf,λv z=>by rw[hd] at z;cases z⟩
 have I2:Inv (Bg P w K mg base N qual (aj st) f R4 A outer s H [(ea,ob)]) [] (L2.start N [.ref ea]) H s1:=AM (oY I1 rfl) λp hp=>yE _ (by simpa using hp);refine yZ (body R4 s1 I2) (λfl s' z=>?_) λ_ _ z=>z.elim;let⟨u,v,σ',H',rfl,J,r,q⟩:=z;exact⟨u,rfl,v,H',J.os,J.bare,J.base,J.RO,r,q⟩
end
def Mb{i:Nat}{n y:Str}{ea C:Addr}{ob:Obj}{c:Value}{b:Bool}{p p1 p2 pos:Pos}(k:IF X.K C)(Vt:(ea,ob)∈X.pn)(Tu:ob.cls=.ref C)(hgi:Gl X "isinstance")(UI:X.mg "isinstance"=none)(hi:X.N[i]?=some n)(hl:X.env.kindOf n=some .local)(TN:X.env.scope.names.lookup n=some .local)(Tc:(n == ("__debug__":Str))=false)
  (hy:∀ {pins:List (Addr×Obj)}{σ:L2.St}{H:Hp}{s:Shared}{Q:Value->Shared->Prop},Inv X pins σ H s->Q c s->wpAny (model X.prog X.w) X.A (eval (.Name y p2) X.env) Q X.xe s) (e:W.kitOne X.K (.ref C) c=some b) :
  PE X (.Call (.Name "isinstance" p) [.Name n p1,.Name y p2] [] pos) (λσ H Q=>σ[i]?=some (some (.ref ea))/\Q (.bl b) H):=by
 intro pins s σ H Q I ⟨ZH,q⟩;have ev:∀ {Q:Value->Shared->Prop},Q (.ref ea) s->wpAny (model X.prog X.w) X.A (eval (.Name n p1) X.env) Q X.xe s:=λ{Q} q=>by
  let⟨m,hn,X0⟩:=I.loc;let⟨u,r,l⟩:=X0 i n (.ref ea) hi ZH (.inl TN);have r:u=.ref ea:=r;subst r;rcases l with ⟨hk,hm⟩|⟨hk,_⟩
  ·exact wQ (wH I.ok.kind hk hn hm q) Tc
  ·have hk:X.env.kindOf n=some .cell\/X.env.kindOf n=some .free:=hk;rw[hl] at hk;rcases hk with hk|hk<;>cases hk
 have ho:=(I.pin (ea,ob) (qH _ Vt)).1;refine qX (iJ I hgi UI (u:=.builtin "isinstance") (by decide +kernel) ?_);refine PyProof.Rows.callWith_builtin1 (jI (ev (jI (hy I (kJ ?_))))) rfl rfl;exact Aw k I.Tt ho Tu e λtk=>⟨.bl b,H,I.tok tk,rfl,q⟩
def FJ(d:D)(xs:List D):Nat:=xs.countP λx=>PyData.eqv x d
def Cy(hu:X.A.units+66 < cLine):MV X "list.count" (λx vs H Q=>∃ (HF:Hp) (ds:List D) (d:D) (y:V),aR HF H/\Rep X.K HF (.list ds) x/\vs=[y]/\Rep X.K HF d y/\SeqAt.shaped d=true/\SeqAt.shaped (.list ds)=true/\Q (.int (FJ d ds)) H):=by
 intro pins s σ H x vs v us Q I rx rv h;let⟨HF,ds,d,y,sm,r1,rfl,r2,hd,hl,q⟩:=h;let⟨u,rfl,ru⟩:=rv.one;let⟨as,ra⟩:=ck I sm r1 rx;let⟨bs,rb⟩:=ck I sm r2 ru;have c1:=kK hd;have c2:=kK hl;have d1:=SeqAt.depth_of_shaped hd;simp?[PyData.canLay0] at c2;have m:=Nat.min_le_right (PyData.depthAll ds) d.depth;cases ra with
 | list h1 h2 h3 h4 =>
  rename_i l o its n as;let⟨cls,dd,data,sl⟩:=o;simp only at h2 h3;subst h2 h3;have hm:=SeqAt.readsAll_map _ _ _ c2 h4;refine qV F.slot_list_count ⟨_,h1,rfl⟩ F.entry_list_count (F.args_list_count_2 _ _) (PySem.SeqAt.list_countAt l its n dd sl u (λy=>PyData.eqv (SeqAt.readOf s.heap y) d)) ⟨h1,?_,?_⟩
  ·exact SeqAt.items_eqAt h4 rb c2 c1 (by lia)
  ·refine⟨.int (FJ d ds),H,I.tok _,⟨s.toks,?_⟩,q⟩;rw[FJ,<- hm,List.countP_map];rfl
def mK(X:Cx)(ea:Addr)(es:List Expr)(bs:List Bool):Prop:=PA X es (λσ H Q=>σ[0]?=some (some (.ref ea))/\Q (bs.map V.bl) H)
def LY:mK X ea [] []:=λpos pins s σ H Q I ⟨_,q⟩=>dU pos pins s σ H Q I q
def JM{bs:List Bool}(h:PE X e (λσ H Q=>σ[0]?=some (some (.ref ea))/\Q (.bl b) H))(hr:mK X ea es bs)(hs:starEach (e::es) X.env=(false,eval e X.env)::starEach es X.env:=by rfl):mK X ea (e::es) (b::bs) :=
 zg (bR h hr hs) λσ H Q ⟨h0,q⟩=>⟨h0,h0,q⟩
def eE{K:W.Frag}:∀bs:List Bool,ay K H (bs.map PyData.bool) (bs.map V.bl)
 | []=>rfl
 | b::bs=>⟨_,_,rfl,rfl,eE bs⟩
def l4(bs:List Bool):SeqAt.shaped (.list (bs.map PyData.bool))=true:=by
 have h:∀bs:List Bool,PyData.canLayAll0 (bs.map PyData.bool)=true/\PyData.depthAll (bs.map PyData.bool)<=1:=λbs=>by
  induction bs with
  | nil=>exact⟨by simp[PyData.canLayAll0],by simp[PyData.depthAll]⟩
  | cons b bs ih=>exact⟨by simp[PyData.canLayAll0,PyData.canLay0,ih.1],by simp[PyData.depthAll,PyData.depth];lia⟩
 have:=h bs;unfold SeqAt.shaped;rw[zF];exact⟨by simp[PyData.canLay0,this.1],by simp[PyData.depth];lia⟩
def FD{a1 a2 a3:Pos}(hu:X.A.units+66 < cLine)(hN:X.N=[("_law_e":Str),("_law_flags":Str)])(hl:X.env.scope.names.lookup ("_law_flags":Str)=some .local)
  (h1:mK X ea ZJ WL) (h6:PE X e6 (λσ H Q=>σ[0]?=some (some (.ref ea))/\Q (.bl true) H)) (w6:∀whole,isTrue e6 X.env whole=(do let v <- whole;standAt e6.pos;holding [v] (truthy v)))
  (hc:FJ (.bool true) (WL.map PyData.bool)=1) (hj:rm (.bool true) (WL.map PyData.bool)=some j) (hz:WL.length<=sizeLine) (l1:(c2.endLine == c4.line)=true) (l2:(d2.endLine == d4.line)=true) :
  uy X [.Assign [.Name "_law_flags" a1] (.List ZJ a2) a3,
   .If (.BoolOp .Or [.Compare (.Call (.Attribute (.Name "_law_flags" c1) "count" c2) [.Constant (.bool true) i1 c3] [] c4) [.NotEq] [.Constant (.int 1) i2 c5] c6,.UnaryOp .Not e6 c7] c8) bad [] c9,
   .Return (some (.Tuple [.Constant (.str "refused") i3 d1,.Call (.Attribute (.Name "_law_flags" d3) "index" d2) [.Constant (.bool true) i4 d5] [] d4] k1 d6)) d7]
   (λD σ H=>σ.length=2/\σ[0]?=some (some (.ref ea))/\∀v H',(∀HF,aR HF H->∃RN,bM HF H RN H'/\Rep X.K RN (.tuple [.str "refused",.int j]) v)->D.rt v H'):=by
 have Tc:X.N.Nodup:=by rw[hN];decide
 have hi:X.N[1]?=some ("_law_flags":Str):=by rw[hN];rfl
 have hlc:Loc X.env.scope ("_law_flags":Str):=.inl hl;have hv:AS X.env.scope ("_law_flags":Str):=.inl hl;have ZK:uy X bad (λ_ _ _=>False):=λ_ _ _ _ _ _ z=>z.elim;have p1:=qc (pos':=a1) (pos:=a3) Tc hi hlc (Gv (pos:=a2) h1) rfl (.inr hl);have p3:=B0 (pos:=c9) (PW.pt (Kg (pos:=c8) (tR (pos:=c6) OE (qa (apos:=c2) (cpos:=c4) qM PySem.F.slot_list_count PySem.F.type_list_count (Cy hu) (e9 (pos:=c1) hi hv) (bR (FF (b:=true) (j:=i1) (pos:=c3)) dU) rfl rfl l1) (AB (i:=1) (j:=i2) (pos:=c5)) (GJ _ (by decide) (by decide))) (E8 (pos:=c8) (Es (pos:=c7) (F7 h6 w6))))) ZK tw;have p4:=zc (pos:=d7) (Ep (x1:=k1) (pos:=d6) (bR (Fm (x:="refused") (j:=i3) (pos:=d1)) (bR (qa (apos:=d2) (cpos:=d4) qM PySem.F.slot_list_index PySem.F.type_list_index (CU hu) (e9 (pos:=d3) hi hv) (bR (FF (b:=true) (j:=i4) (pos:=d5)) dU) rfl rfl l2) dU)));refine oR (i6 p1 (i6 p3 (i6 p4 tw))) λD σ H ⟨hlen,h0,q⟩=>?_;refine⟨h0,by rw[zD];lia,λp hp=>?_⟩;have s1:∀v:V,(σ.set 1 (some v))[1]?=some (some v):=λv=>by simp[hlen]
 have s0:∀v:V,(σ.set 1 (some v))[0]?=some (some (.ref ea)):=λv=>by simp[h0]
 let H3:Hp:=upd H p (.lst (WL.map V.bl));have Wt:aR H H3:=λb o e=>by
  have n1:b≠p:=λz=>by rw[z,hp] at e;cases e
  show upd H p _ b=some o;rw[aC n1];exact e
 have ZL:gH X.K H3 p (WL.map V.bl):=.inl (.inl aG);have hrp:Rep X.K H3 (.list (WL.map PyData.bool)) (.ref p):=⟨p,_,rfl,ZL,eE _⟩
 have Te:SeqAt.shaped (.bool true)=true:=by decide
 refine⟨.ref p,s1 _,.inl ⟨rfl,_,ZL⟩,H3,_,.bool true,.bl true,.refl _,hrp,rfl,rfl,Te,l4 _,?_⟩;rw[hc];refine⟨rfl,?_⟩;refine⟨false,rfl,?_⟩;refine nj ?_;refine⟨s0 _,true,rfl,?_⟩;refine nj ?_;refine⟨.ref p,s1 _,.inl ⟨rfl,_,ZL⟩,H3,_,.bool true,.bl true,j,.refl _,hrp,rfl,rfl,Te,l4 _,by rw[zD];exact hz,hj,(show 2<=sizeLine by decide),λp4 XH=>?_⟩;have XH:H3 p4=none:=XH;refine q (.ref p4) _ λHF sm=>⟨upd HF p4 (.tup [.str "refused",.int j]),⟨λb o e=>?_,λb o e=>?_,λb o e=>?_,λb o e=>?_⟩,p4,_,rfl,.inl (.inl aG),?_⟩
 ·have e3:=Wt b o e;rw[aC (λz=>by rw[z,XH] at e3;cases e3)];exact e3
 ·have e3:=Wt b o (sm b o e);rw[aC (λz=>by rw[z,XH] at e3;cases e3)];exact e
 ·by_cases z:b=p4
  ·subst z;rw[aG] at e ⊢;exact e
  ·rw[aC z] at e ⊢;exact Wt b o (sm b o e)
 ·by_cases z:b=p4
  ·subst z;refine .inr ?_;cases w:H b with
   | none=>rfl
   | some u=>have:=Wt b u w;rw[XH] at this;cases this
  ·rw[aC z] at e;exact .inl e
 ·exact⟨_,_,rfl,rfl,_,_,rfl,rfl,rfl⟩
open PySem L2 Dl PySem.Spec PyProof.Rows Rf
abbrev XE:=Dl.Env->Option Str
abbrev XS:=ar->Option Str
abbrev XT:=List (Str×Nat×(List D->Option Str))
def JF:XE:=λ_=>none
def iX:XS:=λ_=>none
def jq(x:XE):XS:=λρ=>x (aJ ρ)
def Nb(c:Str):XS:=λ_=>some c
def fX(xh:XS)(g:GS)(xr:XS):XS:=λρ=>match xh ρ with
 | some c=>some c
 | none=>E7 g xr ρ
def qy(P:Program)(w:World)(K:W.Frag)(mg:Str->Option Value)(base:Heap)(j:Nat)(l:XT):Prop:=∀x n m,l.lookup x=some (n,m)->FH P w K mg base j x n m
def Pu(fx:XT)(sc:Scope)(T:Tr)(x:Str)(a:Expr)(as:List Expr):Option XE:=match fx.lookup x with
 | some (m,xm)=>if (uF sc x&&((a::as).all λe=>!isStar e)&&!(x == ("__debug__":Str)))=true then (uM T (a::as)).map λfs=>qv m xm fs else none
 | none=>none
def Mr(hl:A9 X E a xf):A9 X E (.Subscript a b pos) xf:=λpins s σ H Q I h=>PyProof.Rows.Subscript_ (b9 (hl pins s σ H (λ_ _=>False) I h) λu s1 ⟨_,_,_,_,z⟩=>z.elim)
def Pt(f:Dl.Env->Option D)(xf:XE):XE:=λρ=>(f ρ).bind λ_=>xf ρ
def MK{xm:List D->Option Str}(F:FH X.prog X.w X.K X.mg X.base k x n xm)(hr:ej k X.A)(hx:eu (yn X.prog X.w) X E)(hg:Gl X x)(ha:DE X.Sf a f)(hb:A9 X E b xf)(Si:(x == ("__debug__":Str))=false)
  (he:starEach [a,b] X.env=(false,eval a X.env)::starEach [b] X.env) (Wf:starEach [b] X.env=(false,eval b X.env)::starEach [] X.env) (Sv:(backTo pos (starEach [b] X.env)).any (·.1)=false):A9 X E (.Call (.Name x p) [a,b] [] pos) (Pt f xf):=by
 let⟨f',fd,ps,ok,hm,hk,Th⟩:=F.ex;refine aV (tL (E:=E) ok hr hg hm hk Th .nil hx (bR (PE.Sf ha) (bR hb dU Wf) he) Si he Sv) λσ H Q ⟨HF,ρ,c,C,sm,eo,hf,hc,q⟩=>?_;let⟨d,h1,hf⟩:=bs hf;exact⟨HF,ρ,d,sm,eo,h1,λv H' RN G r=>⟨RN,ρ,c,C,G.fh,eo.mono G.ff,hf,hc,λH2 R1 G2=>q H2 R1 (G.trans G2)⟩⟩
def Lh:Expr->Bool
 | .Subscript ..=>true
 | _=>false
def QI(fx:XT)(sc:Scope)(T:Tr)(r:Expr->Option XE)(x:Str)(a:Expr)(as:List Expr):Option XE:=match as with
 | [b]=>if (uF sc x&&(!isStar a&&!isStar b)&&!(x == ("__debug__":Str))&&Lh b&&(fx.lookup x).isSome)=true then (T.e a).bind λf=>(r b).map λxf=>Pt f xf else none
 | _=>none
def GZ(fx:XT)(sc:Scope)(N:List Str)(T:Tr):Nat->Expr->Option XE
 | 0,_=>none
 | n+1,e=>match e with
  | .Call (.Name x _) (a::as) [] _=>(match QI fx sc T (GZ fx sc N T n) x a as with
   | some f=>some f
   | none=>Pu fx sc T x a as)
  | .Subscript b _ _=>GZ fx sc N T n b
  | .IfExp c a b _=>(T.t c).bind λt=>match GZ fx sc N T n a,GZ fx sc N T n b with
   | none,none=>none
   | xa,xb=>some (Au t (xa.getD JF) (xb.getD JF))
  | _=>none
def rf(f:Stmt->Option XS)(tS:Stmt->Option GS):List Stmt->Option XS
 | []=>none
 | s::r=>match f s,rf f tS r with
  | none,none=>none
  | some xh,none=>some xh
  | none,some xr=>(tS s).map λg=>E7 g xr
  | some xh,some xr=>match tS s with
   | some g=>some (fX xh g xr)
   | none=>some xh
def Hy(cl:List Str)(fx:XT)(sc:Scope)(N:List Str)(T:Tr)(tS:Stmt->Option GS):Nat->Stmt->Option XS
 | 0,_=>none
 | n+1,st=>match st with
  | .Return (some e) _=>(GZ fx sc N T 4 e).map jq
  | .Expr e _=>if uv e=true then (GZ fx sc N T 4 e).map jq else none
  | .Assign [.Name x _] e _=>(N.idxOf? x).bind λi=>if (ou N sc i x&&!Am e)=true then (GZ fx sc N T 4 e).map jq else none
  | .If c a b _=>(T.t c).bind λt=>match rf (Hy cl fx sc N T tS n) tS a,rf (Hy cl fx sc N T tS n) tS b with
   | none,none=>none
   | xa,xb=>some (F1 t (xa.getD iX) (xb.getD iX))
  | .Raise (some (.Call (.Name x _) [.Constant (.str _) _ _] [] _)) none _=>if (cl.contains x&&uF sc x&&!(x == ("__debug__":Str)))=true then some (Nb x) else none
  | _=>none
section
variable {tS:Stmt->Option GS}
def Of:A9 X E e JF:=λpins s σ H Q I ⟨HF,ρ,c,C,_,_,h,_⟩=>by cases h
def JT{st:List Stmt}:Dk X E RL RM st iX:=λpins s σ H Q I ⟨HF,ρ,c,C,_,h,_⟩=>by cases h
def K5(C:Bk X.Sf N sc k)(O:da X.Sf T)(hx:qy X.prog X.w X.K X.mg X.base k fx)(hp:eu (yn X.prog X.w) X E)(h:Pu fx sc T x a as=some xf):A9 X E (.Call (.Name x p) (a::as) [] pos) xf:=by
 unfold Pu at h;split at h
 ·rename_i m xm hl;split at h
  ·rename_i hc;simp?[zF] at hc;let⟨fs,Uc,rfl⟩:=ah h;have Te:isStar a=false/\(as.all λe=>!isStar e)=true:=by
    have:=hc.1.2;rw[xR,zF] at this;exact⟨by simpa using this.1,this.2⟩
   exact Hz (hx x m xm hl) C.room hp (C.gl hc.1.1) (di O Uc) (by simpa using hc.2) (bC (by simpa using Te.1)) (eB Te.2)
  ·cases h
 ·cases h
def nr(C:Bk X.Sf N sc k)(B:Bn X)(O:da X.Sf T)(hx:qy X.prog X.w X.K X.mg X.base k fx)(hp:eu (yn X.prog X.w) X E):∀ (n:Nat) {e:Expr}{xf:XE},GZ fx sc N T n e=some xf->A9 X E e xf
 | 0,e,xf,h=>by cases h
 | n+1,e,xf,h=>by
  have ih:∀ {e:Expr}{o:Option XE},GZ fx sc N T n e=o->A9 X E e (o.getD JF):=λ{e o} h=>by
   cases o with
   | none=>exact Of
   | some x=>exact nr C B O hx hp n h
  unfold GZ at h;split at h
  ·split at h
   ·rename_i f hf;cases h;unfold QI at hf;split at hf
    ·split at hf
     ·rename_i hc;simp?[zF,yO] at hc;obtain⟨⟨⟨⟨h1,h2,h3⟩,h4⟩,h5⟩,h6⟩:=hc;let⟨fa,ZM,hf⟩:=bs hf;let⟨xf',hxf,rfl⟩:=ah hf;let⟨⟨m,xm⟩,hl⟩:=Option.isSome_iff_exists.mp h6;exact MK (hx _ _ _ hl) C.room hp (C.gl h1) (O.e _ _ ZM) (nr C B O hx hp n hxf) h4 (bC h2) (bC h3) (by rw[bC h3];rfl)
     ·cases hf
    ·cases hf
   ·exact K5 C O hx hp h
  ·exact Mr (nr C B O hx hp n h)
  ·let⟨t,ht,h⟩:=bs h;split at h
   ·cases h
   ·cases h;exact NC (O.t _ _ ht) (ih rfl) (ih rfl)
  ·cases h
def IX{st:Stmt}{rest:List Stmt}(h1:DX X E RL RM st xh)(h2:DS X.Sf RL RM st g)(h3:Dk X E RL RM rest xr):Dk X E RL RM (st::rest) (fX xh g xr):=λpins s σ H D I ⟨HF,ρ,c,C,S,hx,hc,q⟩=>by
 unfold fX at hx;split at hx
 ·rename_i c' hh;cases hx;exact pq h1 pins s σ H D I ⟨HF,ρ,c,C,S,hh,hc,q⟩
 ·exact wq h2 h3 pins s σ H D I ⟨HF,ρ,c,C,S,hx,hc,q⟩
def uD(hf:∀s x,f s=some x->DX X E RL RM s x)(ht:∀s g,tS s=some g->DS X.Sf RL RM s g):∀ {l:List Stmt}{x:XS},rf f tS l=some x->Dk X E RL RM l x
 | [],x,h=>by cases h
 | s::r,x,h=>by
  have ih:=λx=>uD hf ht (l:=r) (x:=x);unfold rf at h;split at h
  ·cases h
  ·rename_i h1 h2;cases h;exact pq (hf _ _ h1)
  ·rename_i h1 h2;let⟨g,hg,rfl⟩:=ah h;exact wq (ht _ _ hg) (ih _ h2)
  ·rename_i h1 h2;split at h
   ·rename_i g hg;cases h;exact IX (hf _ _ h1) (ht _ _ hg) (ih _ h2)
   ·cases h;exact pq (hf _ _ h1)
def QL(X:Cx)(E:XK)(RL RM:Hp)(cl:List Str):Prop:=∀x∈cl,Gl X x->(x == ("__debug__":Str))=false->∀ (np cpos pos p:Pos) (t:Str) (i:Nat),DX X E RL RM (.Raise (some (.Call (.Name x np) [.Constant (.str t) i p] [] cpos)) none pos) (Nb x)
def DU(C:Bk X.Sf N sc k)(B:Bn X)(O:da X.Sf T)(hx:qy X.prog X.w X.K X.mg X.base k fx)(hp:eu (yn X.prog X.w) X E)(hr:QL X E RL RM cl)(ht:∀s g,tS s=some g->DS X.Sf RL RM s g):∀ (n:Nat) {st:Stmt}{x:XS},Hy cl fx sc N T tS n st=some x->DX X E RL RM st x
 | 0,st,x,h=>by cases h
 | n+1,st,x,h=>by
  have ih:∀ {l:List Stmt}{o:Option XS},rf (Hy cl fx sc N T tS n) tS l=o->Dk X E RL RM l (o.getD iX):=λ{l o} h=>by
   cases o with
   | none=>exact JT
   | some x=>exact uD (λs x h=>DU C B O hx hp hr ht n h) ht h
  unfold Hy at h;split at h
  ·let⟨xf,hf,rfl⟩:=ah h;exact Lc (nr C B O hx hp 4 hf)
  ·split at h
   ·rename_i hc;let⟨xf,hf,rfl⟩:=ah h;refine Li (nr C B O hx hp 4 hf) ?_;rename_i e pos;cases e<;>first|rfl|cases hc
   ·cases h
  ·let⟨i,hi,h⟩:=bs h;split at h
   ·rename_i hl;simp?[zF,yO] at hl;let⟨xf,hf,rfl⟩:=ah h;let⟨z1,z2,z3,z4⟩:=C.loc hl.1;exact bS (qc z1 z2 z3 (nr C B O hx hp 4 hf) (nQ hl.2) z4) λD σ H q=>FW q
   ·cases h
  ·let⟨t,Yc,h⟩:=bs h;split at h
   ·cases h
   ·cases h;exact N0 (O.t _ _ Yc) (ih rfl) (ih rfl)
  ·split at h
   ·rename_i hc;simp?[zF,yO] at hc;cases h;exact hr _ (List.contains_iff_mem.mp hc.1.1) (C.gl hc.1.2) hc.2 _ _ _ _ _ _
   ·cases h
  ·cases h
end
abbrev QP(st:Stmt)(N:List Str)(S:Sg)(fx:XT)(cl:List Str):Option XS:=rf (Hy cl fx (aj st) N (tr S 40 none (aj st) N) (qt (aj st) N (tr S 40 none (aj st) N) 40) 10) (qt (aj st) N (tr S 40 none (aj st) N) 40) (bq st)
def F9(K:W.Frag)(mg:Str->Option Value)(cl:List Str):Prop:=∀c∈cl,∃C:Addr,mg c=some (.ref C)/\W.excIn K C KD "ValueError.__new__"=true
section
variable {K:W.Frag}
def Kq(C:Bk X.Sf N sc j)(B:Bn X)(hf:lj X.prog X.w X.K X.mg X.base j fs)(hi:gN X.mg is)(hx:qy X.prog X.w X.K X.mg X.base j fx)(hp:eu (yn X.prog X.w) X E)(hr:QL X E RL RM cl)
  (t:rf (Hy cl fx sc N (tr ⟨fs,is⟩ 40 none sc N) (qt sc N (tr ⟨fs,is⟩ 40 none sc N) 40) 10) (qt sc N (tr ⟨fs,is⟩ 40 none sc N) 40) l=some xg):Dk X E RL RM l xg:=by
 have O:da X.Sf (tr ⟨fs,is⟩ 40 none sc N):=Bb (G:=⟨fs,is⟩) 40 C ⟨hf,hi,B⟩ (yL j) λq z=>by cases z
 have ht:∀s g,qt sc N (tr ⟨fs,is⟩ 40 none sc N) 40 s=some g->DS X.Sf RL RM s g:=λs g h=>pH C B O 40 h;exact uD (λs x h=>DU C B O hx hp hr ht 10 h) ht t
def Po{st:Stmt}(D:yy K mg x st ps)(B:∀x∈cG,mg x=none)(hf:lj P w K mg base j S.fn)(hi:gN mg S.int)(hx:qy P w K mg base j fx)(hc:F9 K mg cl)(t:QP st N S fx cl=some xg)(F:bX N ps (aj st):=by exact Rf.O8):FH P w K mg base (j+1) x ps.length (oF xg N.length):=by
 let⟨f,fd,hm,Fu,hb⟩:=D.ex;refine fnX Fu F hb hm λX E hP hw hK S7 Th C XI hk HF H=>?_;subst hP;subst hw;subst hK;subst S7;subst Th;exact Kq C B hf hi hx hk.pass (λc SJ hg hd np cpos pos p t i=>by
  let⟨Ca,h1,h2⟩:=hc c SJ;exact EC hk XI hg h1 h2 hd) t
def PQ:qy P w K mg base j []:=λ_ _ _ h=>by cases h
def xm(F:FH P w K mg base i x n m)(h:qy P w K mg base j l)(e:i<=j:=by decide):qy P w K mg base j ((x,n,m)::l):=λy n' m' e'=>by
 rw[yB] at e';cases q:y == x with
 | true=>rw[q] at e';cases e';rw[eq_of_beq q];exact F.mono e
 | false=>rw[q] at e';exact h y n' m' e'
end
def NA(K:W.Frag)(C:Addr):Bool:=W.findIn K (.ref C) "__getattribute__" == some (some (.builtin "BaseException.__getattribute__"))&&(W.findIn K (.ref C) "__getattr__" == some none)&&(W.findIn K (.ref C) "__class__" == some (some (.builtin "object.__class__")))&&(W.specialIn K (.builtin "object.__class__") "__get__" == some (some (.builtin "getset_descriptor.__get__")))&&(W.takesIn K (.builtin "object.__class__") == some true)&&(W.mroIn K C (.type "object") == some true)&&(W.subIn K (.ref C) (.type "BaseException") == some true)&&(W.clsIn K C).isSome
def Ow(K:W.Frag)(F:Addr)(cs:List (Str×Addr)):Bool:=(W.nsIn K mainGlobals "FlowError" == some (some (.ref F)))&&(W.nsIn K mainGlobals "ValueError" == some none)&&cs.all λc=>(W.nsIn K mainGlobals c.1 == some (some (.ref c.2)))&&W.excIn K c.2 KD "ValueError.__new__"&&NA K c.2&&(W.exmOne K (.ref c.2) (.ref F) == some true)&&(W.kitOne K (.ref c.2) (.type "ValueError") == some true)&&cs.all λd=>W.kitOne K (.ref c.2) (.ref d.2) == some (c.1 == d.1)
structure tI(K:W.Frag)(mg:Str->Option Value)(F:Addr)(cs:List (Str×Addr)):Prop where
 fe:mg "FlowError"=some (.ref F)
 ve:mg "ValueError"=none
 at_:∀c∈cs,mg c.1=some (.ref c.2)
 ex:∀c∈cs,W.excIn K c.2 KD "ValueError.__new__"=true
 ek:∀c∈cs,IF K c.2
 xm:∀c∈cs,W.exmOne K (.ref c.2) (.ref F)=some true
 kv:∀c∈cs,W.kitOne K (.ref c.2) (.type "ValueError")=some true
 kt:∀c∈cs,∀d∈cs,W.kitOne K (.ref c.2) (.ref d.2)=some (c.1 == d.1)
def HK{K:W.Frag}{cs:List (Str×Addr)}(X:K.In h)(G:h.Ns mainGlobals mg)(e:Ow K F cs=true):tI K mg F cs:=by
 unfold Ow at e;simp?[zF,xF,vQ] at e;let⟨⟨e1,e2⟩,e3⟩:=e;refine⟨W.mg_of X G e1,W.mg_none_of X G e2,λc hc=>W.mg_of X G (e3 c hc).1.1.1.1.1,λc hc=>(e3 c hc).1.1.1.1.2,λc hc=>?_,λc hc=>(e3 c hc).1.1.2,λc hc=>(e3 c hc).1.2,λc hc d hd=>(e3 c hc).2 d hd⟩;have q:=(e3 c hc).1.1.1.2;unfold NA at q;simp?[zF,vQ] at q;exact⟨q.1.1.1.1.1.1.1,q.1.1.1.1.1.1.2,q.1.1.1.1.1.2,q.1.1.1.1.2,q.1.1.1.2,q.1.1.2,q.1.2,q.2⟩
def tI.ok{K:W.Frag}{cs:List (Str×Addr)}(M:tI K mg F cs)(h:(cl.all λc=>(cs.map Prod.fst).contains c)=true):F9 K mg cl:=λc hc=>by
 have:=List.contains_iff_mem.mp (List.all_eq_true.mp h c hc);let⟨q,hq,rfl⟩:=List.mem_map.mp this;exact⟨q.2,M.at_ q hq,M.ex q hq⟩
def O5(sc:Scope):Expr->Option Str
 | .Call (.Name f _) [.Name n _,.Name y _] [] _=>if (f == ("isinstance":Str)&&n == ("_law_e":Str)&&uF sc "isinstance"&&uF sc y)=true then some y else none
 | _=>none
def IQ(sc:Scope):List Expr->Option (List Str)
 | []=>some []
 | e::r=>(O5 sc e).bind λy=>(IQ sc r).map λys=>y::ys
def lb(ns:List Str)(c:Str):Option D:=if ns.contains c=true then (rm (.bool true) (ns.map λn=>.bool (c == n))).map λj=>.tuple [.str "refused",.int ((j:Nat):Int)] else none
section
variable {K:W.Frag}{cs:List (Str×Addr)}
def DK(M:tI X.K X.mg F cs)(hc:c∈cs)(Vt:(ea,ob)∈X.pn)(Tu:ob.cls=.ref c.2)(TN:IK X sc)(UI:X.mg "isinstance"=none)(hN:X.N[0]?=some ("_law_e":Str))(hl:X.env.kindOf ("_law_e":Str)=some .local)(hs:X.env.scope.names.lookup ("_law_e":Str)=some .local)
  (hr:O5 sc e=some y) (hy:∀ {p2:Pos}{pins:List (Addr×Obj)}{σ:L2.St}{H:Hp}{s:Shared}{Q:Value->Shared->Prop},Gl X y->Inv X pins σ H s->Q v s->wpAny (model X.prog X.w) X.A (eval (.Name y p2) X.env) Q X.xe s) (hk:W.kitOne X.K (.ref c.2) v=some b) :
  PE X e (λσ H Q=>σ[0]?=some (some (.ref ea))/\Q (.bl b) H)/\(∀env whole,isTrue e env whole=(do let v <- whole;standAt e.pos;holding [v] (truthy v)))/\∀es:List Expr,starEach (e::es) X.env=(false,eval e X.env)::starEach es X.env:=by
 unfold O5 at hr;split at hr
 ·rename_i f pf n pn y' py pos;split at hr
  ·rename_i hh;cases hr;simp?[zF,vQ] at hh;let⟨⟨⟨rfl,rfl⟩,hg⟩,Zx⟩:=hh;have gl:∀ {x:Str},uF sc x=true->Gl X x:=λh=>by
    rcases TN _ _ (yP h) with q|⟨q,_⟩
    ·exact q
    ·cases q
   exact⟨Mb (M.ek c hc) Vt Tu (gl hg) UI hN hl hs (by decide) (λ{pins σ H s Q} I q=>hy (gl Zx) I q) hk,λenv whole=>rfl,λes=>rfl⟩
  ·cases hr
 ·cases hr
def BJ(M:tI X.K X.mg F cs)(hc:c∈cs)(Vt:(ea,ob)∈X.pn)(Tu:ob.cls=.ref c.2)(TN:IK X sc)(UI:X.mg "isinstance"=none)(hN:X.N[0]?=some ("_law_e":Str))(hl:X.env.kindOf ("_law_e":Str)=some .local)(hs:X.env.scope.names.lookup ("_law_e":Str)=some .local)(hd:(cs.all λd=>!(d.1 == ("__debug__":Str)))=true) :
  ∀ {es:List Expr}{ns:List Str},IQ sc es=some ns->(ns.all λc=>(cs.map Prod.fst).contains c)=true->mK X ea es (ns.map λn=>c.1 == n)
 | [],ns,h,_=>by cases h;exact LY
 | e::es,ns,h,ha=>by
  unfold IQ at h;let⟨y,hy,h⟩:=bs h;let⟨ys,ZN,rfl⟩:=ah h;rw[xR,zF] at ha;let⟨d,ZO,rfl⟩:=List.mem_map.mp (List.contains_iff_mem.mp ha.1);have Si:(d.1 == ("__debug__":Str))=false:=by simpa using List.all_eq_true.mp hd d ZO
  let⟨h1,_,h3⟩:=DK (v:=.ref d.2) M hc Vt Tu TN UI hN hl hs hy (λ{p2 pins σ H s Q} hg I q=>k4 I hg (M.at_ d ZO) q Si) (M.kt c hc d ZO);exact JM h1 (BJ M hc Vt Tu TN UI hN hl hs hd ZN ha.2) (h3 es)
def CC{A:Around}{env:PySem.Env}(h:A.units+200 < cLine):(A.deeper env).units+66 < cLine:=by
 have:(A.deeper env).units<=A.units+16:=by simp[Around.deeper]
 lia
def Og{st:Stmt}{a1 a2 a3:Pos}(D:yy K mg "_law_refused" st ["_law_e"])(M:tI K mg F cs)(B:∀x∈cG,mg x=none)
  (hb:bq st=[.Assign [.Name "_law_flags" a1] (.List ZJ a2) a3,
   .If (.BoolOp .Or [.Compare (.Call (.Attribute (.Name "_law_flags" c1) "count" c2) [.Constant (.bool true) i1 c3] [] c4) [.NotEq] [.Constant (.int 1) i2 c5] c6,.UnaryOp .Not e6 c7] c8) bad [] c9,
   .Return (some (.Tuple [.Constant (.str "refused") i3 d1,.Call (.Attribute (.Name "_law_flags" d3) "index" d2) [.Constant (.bool true) i4 d5] [] d4] k1 d6)) d7])
  (S:bX [("_law_e":Str),("_law_flags":Str)] ["_law_e"] (aj st)) (r1:IQ (aj st) ZJ=some XJ) (r6:O5 (aj st) e6=some "ValueError")
  (s1:(aj st).names.lookup ("_law_e":Str)=some .local) (s2:(aj st).names.lookup ("_law_flags":Str)=some .local) (OY:(XJ.all λc=>(cs.map Prod.fst).contains c&&decide (FJ (.bool true) (XJ.map λn=>.bool (c == n))=1))=true) (Si:(cs.all λd=>!(d.1 == ("__debug__":Str)))=true) (hz:XJ.length<=sizeLine) (l1:(c2.endLine == c4.line)=true) (l2:(d2.endLine == d4.line)=true) :
  ∀c d,lb XJ c=some d->A8 P w K mg base k "_law_refused" c d:=λc d h=>by
 unfold lb at h;split at h
 ·rename_i hc;have YB:=List.contains_iff_mem.mp hc;let⟨j,hj,rfl⟩:=ah h;have Ww:=List.all_eq_true.mp OY c YB;rw[zF] at Ww;let⟨q,hq,rfl⟩:=List.mem_map.mp (List.contains_iff_mem.mp Ww.1);have ZP:=yP Ww.2;let⟨f,fd,hm,Fu,Yg⟩:=D.ex;refine⟨f,fd,["_law_e"],hm,Fu.kp,Yg,rfl,λA outer s H args ea C hdp Tq e0 hbt hC hex=>?_⟩;let⟨⟨ob,vs,ho,SJ,hd⟩,hn,hf⟩:=hex;have hCq:C=q.2:=by
   have:=M.at_ q hq;rw[hC] at this;cases this;rfl
  subst hCq;refine C6 (C:=q.2) Fu S rfl (by lia) e0 hbt ho hd hn hf λR4 t1 I=>?_;rw[hb];have Tw:∀ {l:List Str},(∀n∈l,n∈XJ)->(l.all λc=>(cs.map Prod.fst).contains c)=true:=λhl=>by
   rw[xF];intro n hn;have:=List.all_eq_true.mp OY n (hl n hn);rw[zF] at this;exact this.1
  let X:Cx:=Bg P w K mg base [("_law_e":Str),("_law_flags":Str)] "_law_refused" (aj st) f R4 A outer s H [(ea,ob)];have Vt:(ea,ob)∈X.pn:=List.mem_singleton.mpr rfl;have TN:IK X (aj st):=λy kd hy=>.inl hy;have UI:X.mg "isinstance"=none:=B _ (by decide);have f1:=BJ (X:=X) (sc:=aj st) M hq Vt SJ TN UI rfl s1 s1 Si r1 (Tw λn hn=>hn);let⟨f6,w6,_⟩:=DK (X:=X) (sc:=aj st) (v:=.type "ValueError") M hq Vt SJ TN UI rfl s1 s1 r6 (λ{p2 pins σ H s Q} hg I q=>iJ I hg M.ve (by decide +kernel) q) (M.kv q hq);have main:=FD (X:=X) (bad:=bad) (j:=j) (a1:=a1) (a2:=a2) (a3:=a3) (c1:=c1) (c2:=c2) (c3:=c3) (c4:=c4) (c5:=c5) (c6:=c6) (c7:=c7) (c8:=c8) (c9:=c9) (d1:=d1) (d2:=d2) (d3:=d3) (d4:=d4) (d5:=d5) (d6:=d6) (d7:=d7) (i1:=i1) (i2:=i2) (i3:=i3) (i4:=i4) (k1:=k1) (CC (by lia)) rfl s2 f1 f6 (λwhole=>w6 _ whole)
   (by rw[zM];exact ZP) (by rw[zM];exact hj) (by rw[zD];exact hz) l1 l2
   [] t1 (L2.start [("_law_e":Str),("_law_flags":Str)] [.ref ea]) H ⟨λ_ _=>False,λv H'=>∀HF,aR HF H->∃RN,bM HF H RN H'/\Rep K RN (.tuple [.str "refused",.int ((j:Nat):Int)]) v,λ_ _=>False,λ_ _=>False⟩ I ⟨rfl,rfl,λv H' z=>z⟩
  refine b9 main λfl s' z=>?_;cases fl with
  | next=>let⟨_,_,_,z⟩:=z;exact z.elim
  | brk=>let⟨_,_,_,z⟩:=z;exact z.elim
  | cont=>let⟨_,_,_,z⟩:=z;exact z.elim
  | ret u =>
   let⟨v,σ',H',J,r,z⟩:=z;exact⟨u,v,σ',H',rfl,J,r,z⟩
 ·cases h
def sD:∀ (names:List (Str×NameKind)) (n:Nat),(names.all λy=>!(y.2 == NameKind.cell))=true->cellsFrom n names []=[]
 | [],_,_=>rfl
 | (x,k)::r,n,h=>by
  rw[xR,zF] at h;unfold cellsFrom;rw[yM (by simpa using h.1)];exact sD r n h.2
def Nv(st:Stmt)(N:List Str)(S:Sg)(fx:XT)(ns:List Str):List Stmt->Option GS
 | [.Try body [.ExceptHandler (some (.Name e _)) (some n) [.Return (some (.Call (.Name r _) [.Name m _] [] _)) _] _] [] [] _] =>
  if (e == ("FlowError":Str)&&r == ("_law_refused":Str)&&m == n&&!(n == ("__debug__":Str))&&uF (aj st) "FlowError"&&uF (aj st) "_law_refused"&&decide ((aj st).names.lookup n=some .local)&&(aj st).names.all (λy=>!(y.2 == NameKind.cell))&&N.contains n)=true then
   (mD (qt (aj st) N (tr S 40 none (aj st) N) 40) body).map λgb=>uS gb ((rf (Hy [] fx (aj st) N (tr S 40 none (aj st) N) (qt (aj st) N (tr S 40 none (aj st) N) 40) 10) (qt (aj st) N (tr S 40 none (aj st) N) 40) body).getD iX) (lb ns)
  else none
 | _=>none
abbrev PV(st:Stmt)(N:List Str)(S:Sg)(fx:XT)(ns:List Str):Option GS:=Nv st N S fx ns (bq st)
def NV{st:Stmt}(D:yy K mg x st ps)(B:∀x∈cG,mg x=none)(M:tI K mg F cs)(hf:lj P w K mg base j S.fn)(hi:gN mg S.int)(hx:qy P w K mg base j fx)(R:∀c d,lb ns c=some d->A8 P w K mg base j "_law_refused" c d)(TM:(ns.all λc=>(cs.map Prod.fst).contains c)=true)(t:PV st N S fx ns=some g)(FS:bX N ps (aj st):=by exact Rf.O8):Dj P w K mg base (j+1) x ps.length (bh g N.length):=by
 let⟨f,fd,hm,Fu,hb⟩:=D.ex;refine⟨f,fd,ps,?_,hm,Fu.kp,hb⟩;let⟨oc,od,kV,doc,pm,an,R4,ct,TV,rfl,lk,Se⟩:=Fu.ex;refine DR lk Se FS (λvs H Q E ⟨HF,ds,d,h1,_,h2,h3,_⟩=>by rw[h2.length,h3]) λA outer s H vs Q E hr ⟨HF,ds,d,sm,tb,rr,hl,hd,q⟩=>?_;have key:∀X:Cx,X=(pR G0 P w K mg base N x (aj st) f R4 A outer s H E).Sf->Bk X N (aj st) j->∀RP H1,ym X RP H1 (bq st) g:=λX hX C RP H1=>by
  unfold PV at t;generalize bq st=bd at t;unfold Nv at t;split at t
  ·rename_i body e pe n r pr m pm' pc prt ph pt;split at t
   ·rename_i hh;simp?[zF,vQ,yO,zJ] at hh;obtain⟨⟨⟨⟨⟨⟨⟨⟨rfl,rfl⟩,rfl⟩,Tc⟩,hgF⟩,hgR⟩,UD⟩,VA⟩,hNn⟩:=hh;let⟨gb,Ym,rfl⟩:=ah t;let⟨i,S6,hiN⟩:=qP (List.contains_iff_mem.mp hNn);have XM:N[i]?=some m:=by rw[zK S6,hiN]
    subst hX;refine Bm (MD (i:=i) rfl rfl (C.gl hgF) M.fe (by decide) C.nd XM UD UD ?_ ?_ ?_ ?_)
    ·show List.lookup m (cellsFrom _ _ [])=none;rw[sD _ _ VA];rfl
    ·exact Rf.eI (λs g h=>pH C B (Bb (G:=S) 40 C ⟨hf,hi,B⟩ (yL j) λq z=>by cases z) 40 h) Ym
    ·intro pn xe E' hp;have C':Bk (fU (pR G0 P w K mg base N x (aj st) f R4 A outer s H E).Sf pn xe).Sf N (aj st) j:=⟨rfl,FS.nd,λy kd hy=>.inl hy,rfl,λ_ _=>rfl,hr,rfl,FS.kind⟩
     cases hq:rf (Hy [] fx (aj st) N (tr S 40 none (aj st) N) (qt (aj st) N (tr S 40 none (aj st) N) 40) 10) (qt (aj st) N (tr S 40 none (aj st) N) 40) body with
     | none=>exact JT
     | some xg=>exact Kq C' B hf hi hx hp (λc SJ=>by cases SJ) hq
    ·intro c d Se;have Ua:=Se;unfold lb at Ua;split at Ua
     ·rename_i hc;let⟨z,hz,rfl⟩:=List.mem_map.mp (List.contains_iff_mem.mp (List.all_eq_true.mp TM c (List.contains_iff_mem.mp hc)));refine⟨λC hC=>?_,⟨z.2,M.at_ z hz⟩,Co (R z.1 d Se) C.room (C.gl hgR) (by decide) XM UD UD Tc⟩;have:=M.at_ z hz;rw[show mg z.1=some (.ref C) from hC] at this;cases this;exact M.xm z hz
     ·cases Ua
   ·cases t
  ·cases t
 unfold bh at hd;let⟨o,ho,hd⟩:=ah hd;refine⟨_,(key _ rfl ⟨rfl,FS.nd,λy kd hy=>.inl hy,rfl,λ_ _=>rfl,hr,rfl,FS.kind⟩ HF H).Sf,HF,_,o,v7 sm tb rr,ho,?_⟩;cases o with
 | rt d'=>cases hd;exactλv H' RN G r=>q v H' RN G r
 | nx ρ'=>cases hd;exactλσ' H' RN S' _=>q .RK H' RN S'.gr (by simp[Rep])
end
end Ex
namespace Hd
open PySem L2 Dl PySem.Spec PyProof.Rows
section
variable {K:W.Frag}
def OG{st:Stmt}(hb:gL st ps)(a:W.nsIn K mainGlobals x=some (some (.ref f)))(l:K.lookup f=some (fo x st pm c))(d:W.codeIn K (.ref c) x=true)(k:W.keepIn K (.ref f)=true):gw K x st ps:=Oj hb a l d k
def Rh{st:Stmt}(hb:gL st ps)(a:W.nsIn K mainGlobals x=some (some (.ref f)))(l:K.lookup f=some (fo x st pm c))(d:W.codeIn K (.ref c) x=true)(k:W.keepIn K (.ref f)=true)(hh:W.codeHdIn K c (Io K c)=true):pQ K x st ps:=NM hb a l d k hh
end
section
variable {α:Type}{R:List α->Prop}
def zr(h:∀a,R [a])(us:List α)(e:us.length=1):R us:=by
 let⟨a,rfl⟩:=List.length_eq_one_iff.mp e;exact h a
def JG(us:List α)(e:us.length=n+1):∃a r,us=a::r/\r.length=n:=by
 cases us with
 | nil=>cases e
 | cons a r=>exact⟨a,r,rfl,by simpa using e⟩
def Ot(h:∀a b,R [a,b])(us:List α)(e:us.length=2):R us:=by
 let⟨a,r,rfl,e'⟩:=JG us e;exact zr (R:=λr=>R (a::r)) (h a) r e'
def MZ(h:∀a b c,R [a,b,c])(us:List α)(e:us.length=3):R us:=by
 let⟨a,r,rfl,e'⟩:=JG us e;exact Ot (R:=λr=>R (a::r)) (h a) r e'
def Ov(h:∀a b c d,R [a,b,c,d])(us:List α)(e:us.length=4):R us:=by
 let⟨a,r,rfl,e'⟩:=JG us e;exact MZ (R:=λr=>R (a::r)) (h a) r e'
def P4(h:∀a b c d f,R [a,b,c,d,f])(us:List α)(e:us.length=5):R us:=by
 let⟨a,r,rfl,e'⟩:=JG us e;exact Ov (R:=λr=>R (a::r)) (h a) r e'
end
section
variable {K:W.Frag}
def f1(f c:Addr)(pm:Value){st:Stmt}(hb:gL st ps:=by exactλ_ _ _ _ _ _ _ _ us hl=>zr (R:=λus=>bindArgs _ ⟨us,[]⟩=pure (List.zip _ us)) (λ_=>rfl) us hl)(a:W.nsIn K mainGlobals x=some (some (.ref f)):=by kernel_rfl)(l:K.lookup f=some (fo x st pm c):=by kernel_rfl)(d:W.codeIn K (.ref c) x=true:=by kernel_rfl)(k:W.keepIn K (.ref f)=true:=by kernel_rfl):gw K x st ps:=OG hb a l d k
def f2(f c:Addr)(pm:Value){st:Stmt}(hb:gL st ps:=by exactλ_ _ _ _ _ _ _ _ us hl=>Ot (R:=λus=>bindArgs _ ⟨us,[]⟩=pure (List.zip _ us)) (λ_ _=>rfl) us hl)(a:W.nsIn K mainGlobals x=some (some (.ref f)):=by kernel_rfl)(l:K.lookup f=some (fo x st pm c):=by kernel_rfl)(d:W.codeIn K (.ref c) x=true:=by kernel_rfl)(k:W.keepIn K (.ref f)=true:=by kernel_rfl):gw K x st ps:=OG hb a l d k
def f3(f c:Addr)(pm:Value){st:Stmt}(hb:gL st ps:=by exactλ_ _ _ _ _ _ _ _ us hl=>MZ (R:=λus=>bindArgs _ ⟨us,[]⟩=pure (List.zip _ us)) (λ_ _ _=>rfl) us hl)(a:W.nsIn K mainGlobals x=some (some (.ref f)):=by kernel_rfl)(l:K.lookup f=some (fo x st pm c):=by kernel_rfl)(d:W.codeIn K (.ref c) x=true:=by kernel_rfl)(k:W.keepIn K (.ref f)=true:=by kernel_rfl):gw K x st ps:=OG hb a l d k
def l3(f c:Addr)(pm:Value){st:Stmt}(hb:gL st ps:=by exactλ_ _ _ _ _ _ _ _ us hl=>MZ (R:=λus=>bindArgs _ ⟨us,[]⟩=pure (List.zip _ us)) (λ_ _ _=>rfl) us hl)(a:W.nsIn K mainGlobals x=some (some (.ref f)):=by kernel_rfl)(l:K.lookup f=some (fo x st pm c):=by kernel_rfl)(d:W.codeIn K (.ref c) x=true:=by kernel_rfl)(k:W.keepIn K (.ref f)=true:=by kernel_rfl)(hh:W.codeHdIn K c (Io K c)=true:=by kernel_rfl):pQ K x st ps:=Rh hb a l d k hh
def f4(f c:Addr)(pm:Value){st:Stmt}(hb:gL st ps:=by exactλ_ _ _ _ _ _ _ _ us hl=>Ov (R:=λus=>bindArgs _ ⟨us,[]⟩=pure (List.zip _ us)) (λ_ _ _ _=>rfl) us hl)(a:W.nsIn K mainGlobals x=some (some (.ref f)):=by kernel_rfl)(l:K.lookup f=some (fo x st pm c):=by kernel_rfl)(d:W.codeIn K (.ref c) x=true:=by kernel_rfl)(k:W.keepIn K (.ref f)=true:=by kernel_rfl):gw K x st ps:=OG hb a l d k
def f5(f c:Addr)(pm:Value){st:Stmt}(hb:gL st ps:=by exactλ_ _ _ _ _ _ _ _ us hl=>P4 (R:=λus=>bindArgs _ ⟨us,[]⟩=pure (List.zip _ us)) (λ_ _ _ _ _=>rfl) us hl)(a:W.nsIn K mainGlobals x=some (some (.ref f)):=by kernel_rfl)(l:K.lookup f=some (fo x st pm c):=by kernel_rfl)(d:W.codeIn K (.ref c) x=true:=by kernel_rfl)(k:W.keepIn K (.ref f)=true:=by kernel_rfl):gw K x st ps:=OG hb a l d k
end
end Hd
namespace Rg
open PySem L2 Dl Rf Ex PySem.Spec PyProof.Rows
abbrev FT:=List (Str×Nat×(List D->Option D))
def FK(st:Stmt):List Str:=((aj st).names.filter λy=>y.2 == .local || y.2 == .cell).map (·.1)
def L6{K:W.Frag}(F:Dj P w K mg base j y n' m):FH P w K mg base j y n (λ_=>none):=by
 let⟨f,fd,ps,ok,hm,hk,hb⟩:=F.ex;exact⟨f,fd,ps,⟨λ_ _ _ _ ⟨_,_,_,_,_,_,_,_,z,_⟩=>(by cases z),λ_ _ _ _ _ _ _ _ _ _ _ _ _ ⟨_,_,_,_,_,_,_,_,z,_⟩=>(by cases z)⟩,hm,hk,hb⟩
structure Ok(P:Program)(w:World)(K:W.Frag)(mg:Str->Option Value)(base:Heap)(is:List (Str×Int))(cl:List Str)(j:Nat)(l:FT)(fx:XT):Prop where
 of:lj P w K mg base j l
 ox:qy P w K mg base j fx
 oi:gN mg is
 ob:∀x∈cG,mg x=none
 oc:F9 K mg cl
 os:∃h:Heap,K.In h/\h.Ns mainGlobals mg
section
variable {K:W.Frag}{st:Stmt}{l:FT}
def up(h:Ok P w K mg base is cl j l fx)(e:j<=k):Ok P w K mg base is cl k l fx:=⟨λx n m z=>(h.of x n m z).mono e,λx n m z=>(h.ox x n m z).mono e,h.oi,h.ob,h.oc,h.os⟩
def LZ(h:Ok P w K mg base is cl j l fx)(F:Dj P w K mg base j x n m):Ok P w K mg base is cl j ((x,n,m)::l) fx:=⟨Ol F h.of,h.ox,h.oi,h.ob,h.oc,h.os⟩
def N7(h:Ok P w K mg base is cl j l fx)(F:FH P w K mg base j x n m):Ok P w K mg base is cl j l ((x,n,m)::fx):=⟨h.of,xm F h.ox (yL j),h.oi,h.ob,h.oc,h.os⟩
def Q0:List D->Option Str:=λ_=>none
def oz(y:Str)(h:Ok P w K mg base is cl j l fx)(e:(l.lookup y).isSome=true:=by decide +kernel):Ok P w K mg base is cl j l ((y,n,Q0)::fx):=by
 let⟨⟨n',m⟩,hl⟩:=Option.isSome_iff_exists.mp e;exact N7 h (L6 (h.of y n' m hl))
def Pw(h:Ok P w K mg base is cl j l fx)(D:gw K x st ps):yy K mg x st ps:=let ⟨_,a,b⟩:=h.os;D.mg a b
def Rw(h:Ok P w K mg base is cl j l fx)(D:pQ K x st ps):Mn K mg x st ps:=let ⟨_,a,b⟩:=h.os;D.mg a b
def fst(a:sc.kind=.function:=by kernel_rfl)(b:sc.isCoroutine=false:=by kernel_rfl)(c:sc.isGenerator=false:=by kernel_rfl)(d:N.Nodup:=by decide +kernel)(e:N.take P.length=P:=by kernel_rfl)(f:∀x∈P,sc.names.lookup x=some .local \/ sc.names.lookup x=some .cell:=by decide +kernel)(g:∀y∈sc.names,y.2≠.free:=by decide +kernel):bX N P sc:=⟨a,b,c,d,e,f,g⟩
abbrev Jr(st:Stmt)(n:Nat):List Str:=(FK st).take n
def on(st:Stmt)(D:gw K x st (Jr st n))(h:Ok P w K mg base is cl j l fx)(t:tW st (FK st) ⟨l,is⟩ none=some g:=by kernel_rfl)(F:bX (FK st) (Jr st n) (aj st):=by exact fst)(e:(Jr st n).length=n:=by kernel_rfl)(e':(FK st).length=k:=by kernel_rfl):Ok P w K mg base is cl (j+1) ((x,n,bh g k)::l) fx:=by
 have:=LZ (up h (Nat.le_succ j)) (Rv (Pw h D) F h.ob h.of h.oi t);rw[e,e'] at this;exact this
def ox(st:Stmt)(D:gw K x st (Jr st n))(h:Ok P w K mg base is cl j l fx)(t:tW st (FK st) ⟨l,is⟩ none=some g:=by kernel_rfl)(tx:QP st (FK st) ⟨l,is⟩ fx cl=some xg:=by kernel_rfl)(F:bX (FK st) (Jr st n) (aj st):=by exact fst)(e:(Jr st n).length=n:=by kernel_rfl)(e':(FK st).length=k:=by kernel_rfl):Ok P w K mg base is cl (j+1) ((x,n,bh g k)::l) ((x,n,oF xg k)::fx):=by
 have:=Po (Pw h D) h.ob h.of h.oi h.ox h.oc tx F;rw[e,e'] at this;exact N7 (on st D h t F e e') this
def ot(st:Stmt)(D:gw K x st (Jr st n))(M:tI K mg Fa cs)(R:{j:Nat}->∀c d,lb ns c=some d->A8 P w K mg base j "_law_refused" c d)(h:Ok P w K mg base is cl j l fx)(t:PV st (FK st) ⟨l,is⟩ fx ns=some g:=by kernel_rfl)(TM:(ns.all λc=>(cs.map Prod.fst).contains c)=true:=by decide +kernel)(F:bX (FK st) (Jr st n) (aj st):=by exact fst)(e:(Jr st n).length=n:=by kernel_rfl)(e':(FK st).length=k:=by kernel_rfl):Ok P w K mg base is cl (j+1) ((x,n,bh g k)::l) fx:=by
 have:=LZ (up h (Nat.le_succ j)) (NV (Pw h D) h.ob M h.of h.oi h.ox R TM t F);rw[e,e'] at this;exact this
def ol(st:Stmt)(N:List Str)(q:Str)(D:pQ K x st (N.take n))(h:Ok P w K mg base is cl j l fx)(t:tW st N ⟨l,is⟩ (some q)=some g:=by kernel_rfl)(F:bX N (N.take n) (aj st):=by exact fst)(hq:x∈jf/\x++".<locals>."++"<lambda>"=q:=by decide +kernel)(e:(N.take n).length=n:=by kernel_rfl)(e':N.length=k:=by kernel_rfl):Ok P w K mg base is cl (j+4) ((x,n,bh g k)::l) fx:=by
 have:=LZ (up h (jU j 4)) (Q8 (Rw h D) F h.ob h.of h.oi hq t);rw[e,e'] at this;exact this
end
end Rg
namespace Pg
open PySem L2 Dl PySem.Spec PyProof.Rows
def pM:ar->Option Out:=(au (dE (m5 (bx (fB (Ke "int" (ae 0)))) (fB (Ke "bool" (ae 0)))) (aE (fC (.bool false))) cP) (aE (jv B1 B1 (ae 1) (ae 0) (ae 2))))
def bc:List D->Option D:=bh pM 3
def oh:ar->Option Out:=(aE (ai 3 bc (aa (ae 0) (aa (fC (.int 0)) (aa (f2 Dl.dh (ae 1) (fC (.int 1))) af)))))
def cU:List D->Option D:=bh oh 2
def rZ:ar->Option Out:=(aE (k8 (Ke "tuple" (ae 0)) (jv B1 B1 (ae 1) (bz bg (aa (ae 0) af)) (ae 2))))
def bV:List D->Option D:=bh rZ 3
def nX:ar->Option Out:=(au (dE (bx (fB (Ke "tuple" (ae 0)))) (aE (fC (.bool false))) cP) (au (dE (bx (fB (bz mj (aa (cg (az 1 [1] (bJ (ae 0)) (fG 0) (λ_=>some true) (ai 2 cU (aa (ae 0) (aa (ae 1) af))))) af)))) (aE (fC (.bool false))) cP) (aE (f2 aY (f1 kg (ae 0)) (bz bg (aa (ae 0) af))))))
def gz:List D->Option D:=bh nX 2
def wb:ar->Option Out:=(aE (k8 (ai 3 bV (aa (ae 0) (aa (fC (.int 2)) (aa (fC (.int 2)) af)))) (k8 (ai 3 bc (aa (f2 aw (ae 0) (fC (.int 0))) (aa (fC (.int 0)) (aa (fC (.int 9)) af)))) (ai 2 gz (aa (f2 aw (ae 0) (fC (.int 1))) (aa (ae 1) af))))))
def fQ:List D->Option D:=bh wb 2
def xj:ar->Option Out:=(au (dE (bx (fB (ai 3 bV (aa (ae 0) (aa (fC (.int 3)) (aa (fC (.int 3)) af)))))) (aE (fC (.bool false))) cP) (aE (k8 (ai 2 cU (aa (f2 aw (ae 0) (fC (.int 0))) (aa (ae 1) af))) (k8 (ai 2 cU (aa (f2 aw (ae 0) (fC (.int 1))) (aa (ae 2) af))) (ai 3 bc (aa (f2 aw (ae 0) (fC (.int 2))) (aa (fC (.int 1)) (aa (fC (.int 9)) af))))))))
def j3:List D->Option D:=bh xj 3
def n9:ar->Option Out:=(au (dE (m5 (bx (fB (ai 3 bV (aa (ae 0) (aa (fC (.int 1)) (aa (fC (.int 4)) af)))))) (bx (fB (ai 3 bV (aa (ae 1) (aa (fC (.int 1)) (aa (fC (.int 4)) af))))))) (aE (fC (.bool false))) cP) (au (dE (bx (fB (bz mj (aa (cg (az 1 [1] (bJ (ae 0)) (fG 0) (λ_=>some true) (ai 2 fQ (aa (ae 0) (aa (bz bg (aa (ae 1) af)) af))))) af)))) (aE (fC (.bool false))) cP) (au (dE (bx (fB (bz mj (aa (cg (az 1 [0] (bJ (ae 1)) (fG 0) (λ_=>some true) (ai 2 fQ (aa (ae 0) (aa (bz bg (aa (ae 1) af)) af))))) af)))) (aE (fC (.bool false))) cP) (aE (k8 (Ke "tuple" (ae 2)) (bz mj (aa (cg (az 1 [0,1] (bJ (ae 2)) (fG 0) (λ_=>some true) (ai 3 j3 (aa (ae 0) (aa (bz bg (aa (ae 1) af)) (aa (bz bg (aa (ae 2) af)) af)))))) af)))))))
def gE:List D->Option D:=bh n9 3
def lz:ar->Option Out:=(au (br 1 [] (dg af)) (au (cN [0] (bD (aa (ae 0) af)) (eV 2 3) (va 1 [2,3] (az 1 [2] (bJ (f2 aw (ae 3) (fC (.int 1)))) (fG 0) (λ_=>some true) (ax (aa (ae 1) (aa (ae 0) af)))))) (aE (ae 1))))
def bK:List D->Option D:=bh lz 4
def iI:ar->Option Out:=(au (dE (m5 (bx (fB (ai 3 bV (aa (ae 0) (aa (fC (.int 3)) (aa (fC (.int 3)) af)))))) (bx (fB (ai 3 gE (aa (f2 aw (ae 0) (fC (.int 0))) (aa (f2 aw (ae 0) (fC (.int 1))) (aa (f2 aw (ae 0) (fC (.int 2))) af))))))) (aE (fC (.bool false))) cP) (au (br 1 [0] (az 1 [] (bJ (f2 aw (ae 0) (fC (.int 2)))) (fG 0) (λ_=>some true) (ax (aa (f2 aw (ae 0) (fC (.int 0))) (aa (f2 aw (ae 0) (fC (.int 1))) af))))) (au (br 2 [0] (lO gu (aa (ai 1 bK (aa (f2 aw (ae 0) (fC (.int 0))) af)) af))) (au (br 3 [0] (lO gu (aa (cg (az 2 [] (bJ (ai 1 bK (aa (f2 aw (ae 0) (fC (.int 1))) af))) (iP 0 1) (λ_=>some true) (ax (aa (ae 1) (aa (ae 0) af))))) af))) (aE (k8 (f2 aY (ae 1) (ae 2)) (f2 aY (ae 1) (ae 3))))))))
def bp:List D->Option D:=bh iI 4
def eK:ar->Option Out:=(dE (bx (fB (ai 1 bp (aa (ae 0) af)))) M5 cP)
def cJ:List D->Option D:=bh eK 1
def cI:ar->Option Out:=(dE (bx (fB (ai 3 bc (aa (ae 0) (aa (ae 1) (aa (ae 2) af)))))) M5 cP)
def dm:List D->Option D:=bh cI 3
def cn:ar->Option Out:=(fO (ai 3 dm (aa (ae 0) (aa (fC (.int 0)) (aa (f2 Dl.dh (ae 1) (fC (.int 1))) af)))))
def bj:List D->Option D:=bh cn 2
def fu:ar->Option Out:=(fO (ai 2 bj (aa (ae 0) (aa (fC (.int 2)) af))))
def mC:List D->Option D:=bh fu 1
def pS:ar->Option Out:=(aE (f2 aB (f2 aB (eA cw (ae 0) eX (nY (ae 1))) (ax (aa (ae 2) af))) (eA cw (ae 0) (nY (f2 aB (ae 1) (fC (.int 1)))) eX)))
def cW:List D->Option D:=bh pS 3
abbrev Cf:List Str:=["world","side","place","ways","likes","own"]
def mY:ar->Option Out:=(au (aI 3 [0] (f2 aw (ae 0) (fC (.int 2)))) (au (aI 4 [0,1,2] (f2 aw (f2 aw (f2 aw (ae 0) (ae 1)) (ae 2)) (fC (.int 1)))) (au (br 5 [1,2,3] (az 2 [1,2] (bD (aa (ae 3) af)) (iP 0 1) (fB (f2 aY (f2 aw (ae 1) (ae 2)) (ae 3))) (ae 0))) (aE (cg (nE [1,3,4] (ae 5) (f2 iF (ae 3) (f2 aw (f2 aw (ae 2) (ae 0)) (f2 Dl.dh (fC (.int 1)) (ae 1))))))))))
def fK:List D->Option D:=bh mY 6
def jg:ar->Option Out:=(au (dE (fB (f2 aY (ae 0) (cg (dg af)))) (aE (f2 cm (fC (.int 7)) (ae 1))) cP) (aE (f2 aB (f2 aw (ae 0) (f2 g9 (ae 1) (bz bg (aa (ae 0) af)))) (f2 cm (fC (.int 6553)) (f2 iW (ae 1) (bz bg (aa (ae 0) af)))))))
def eR:List D->Option D:=bh jg 2
def l8:ar->Option Out:=(au (aI 3 [0,1] (f2 g9 (f2 aB (f2 cm (f2 g9 (ai 2 eR (aa (ae 0) (aa (ae 1) af))) (fC (.int 2147483563))) (fC (.int 69069))) (f2 cm (fC (.int 104723)) (f2 aB (ae 1) (fC (.int 1))))) (fC (.int 2147483563)))) (au (aI 3 [3] (f2 g9 (f2 aB (f2 cm (ae 3) (ae 3)) (f2 iW (ae 3) (fC (.int 3)))) (fC (.int 2147483399)))) (aE (f2 g9 (f2 iW (f2 g9 (f2 aB (f2 cm (ae 3) (ae 3)) (f2 iW (ae 3) (fC (.int 7)))) (fC (.int 2147483647))) (fC (.int 11))) (ae 2)))))
def av:List D->Option D:=bh l8 4
def lx:ar->Option Out:=(au (br 3 [] (dg af)) (au (cN [2] (bD (aa (ae 2) af)) (eV 4 5) (au (br 6 [] (dg af)) (au (cN [5] (bD (aa (ae 5) af)) (eV 7 8) (DZ 6 [8] (ai 3 av (aa (ae 0) (aa (f2 aB (f2 aB (ae 1) (f2 cm (fC (.int 4)) (ae 4))) (ae 7)) (aa (f2 aB (bz bg (aa (ae 6) af)) (fC (.int 1))) af)))) (ae 8))) (k6 3 [6] (bz dD (aa (ae 6) af)))))) (aE (ae 3))))
def bZ:List D->Option D:=bh lx 9
def fy:ar->Option Out:=(au (dE (cH (fB (f2 nA (ae 2) (fC (.int 3)))) (fB (f2 aY (ai 3 av (aa (ae 0) (aa (f2 aB (ae 1) (fC (.int 64))) (aa (fC (.int 4)) af)))) (fC (.int 0))))) (au (aI 3 [0,1] (f2 aB (fC (.int 1)) (ai 3 av (aa (ae 0) (aa (f2 aB (ae 1) (fC (.int 65))) (aa (fC (.int 2)) af)))))) (au (aI 4 [3] (ax (aa (ax (aa (ae 3) (aa (ax (aa (fC (.int 1)) (aa (fC (.int 0)) af))) af))) (aa (ax (aa (ae 3) (aa (ax (aa (fC (.int 0)) (aa (fC (.int 1)) af))) af))) af)))) (aE (ax (aa (ax (aa (ax (aa (ae 3) (aa (ax (aa (fC (.int 0)) (aa (fC (.int 1)) af))) af))) (aa (ax (aa (ae 3) (aa (ax (aa (fC (.int 1)) (aa (fC (.int 0)) af))) af))) af))) (aa (ae 4) (aa (ax (aa (ax (aa (fC (.int 0)) (aa (fC (.int 0)) (aa (fC (.int 2)) af)))) (aa (ax (aa (fC (.int 0)) (aa (fC (.int 1)) (aa (fC (.int 2)) af)))) (aa (ax (aa (fC (.int 1)) (aa (fC (.int 0)) (aa (fC (.int 2)) af)))) (aa (ax (aa (fC (.int 1)) (aa (fC (.int 1)) (aa (fC (.int 2)) af)))) af))))) af))))))) cP) (au (aI 5 [0,1] (f2 aB (fC (.int 1)) (ai 3 av (aa (ae 0) (aa (ae 1) (aa (fC (.int 3)) af)))))) (au (aI 6 [0,1] (f2 aB (fC (.int 1)) (ai 3 av (aa (ae 0) (aa (f2 aB (ae 1) (fC (.int 1))) (aa (fC (.int 3)) af)))))) (au (br 7 [] (dg af)) (au (cN [5,6] (aS (aa (f2 cm (ae 5) (ae 6)) af)) (oE 8) (dE (cH (fB (f2 A1 (bz bg (aa (ae 7) af)) (ae 2))) (fB (f2 nA (ai 3 av (aa (ae 0) (aa (f2 aB (f2 aB (ae 1) (fC (.int 2))) (ae 8)) (aa (fC (.int 4)) af)))) (fC (.int 0))))) (k6 7 [0,1,6,8] (ax (aa (f2 iW (ae 8) (ae 6)) (aa (f2 g9 (ae 8) (ae 6)) (aa (f2 aB (fC (.int 1)) (ai 3 av (aa (ae 0) (aa (f2 aB (f2 aB (ae 1) (fC (.int 12))) (ae 8)) (aa (fC (.int 2)) af))))) af))))) cP)) (au (aI 9 [0,1,5,7] (ai 3 bZ (aa (ae 0) (aa (f2 aB (ae 1) (fC (.int 24))) (aa (cg (az 1 [7] (aS (aa (ae 5) af)) (fG 0) (λ_=>some true) (cg (az 1 [0] (bJ (ae 1)) (fG 0) (fB (f2 aY (f2 aw (ae 0) (fC (.int 0))) (ae 1))) (f2 aw (ae 0) (fC (.int 1))))))) af))))) (au (aI 10 [0,1,6,7] (ai 3 bZ (aa (ae 0) (aa (f2 aB (ae 1) (fC (.int 40))) (aa (cg (az 1 [7] (aS (aa (ae 6) af)) (fG 0) (λ_=>some true) (cg (az 1 [0] (bJ (ae 1)) (fG 0) (fB (f2 aY (f2 aw (ae 0) (fC (.int 1))) (ae 1))) (f2 aw (ae 0) (fC (.int 0))))))) af))))) (au (aI 11 [0,1,8,9] (bz dD (aa (cg (az 2 [0,1] (bD (aa (ae 9) af)) (iP 0 1) (λ_=>some true) (ax (aa (ai 3 av (aa (ae 2) (aa (f2 aB (f2 aB (ae 3) (fC (.int 56))) (ae 0)) (aa (fC (.int 4)) af)))) (aa (ae 1) af))))) af))) (au (aI 4 [0,1,8,10] (bz dD (aa (cg (az 2 [0,1] (bD (aa (ae 10) af)) (iP 0 1) (λ_=>some true) (ax (aa (ai 3 av (aa (ae 2) (aa (f2 aB (f2 aB (ae 3) (fC (.int 60))) (ae 0)) (aa (fC (.int 4)) af)))) (aa (ae 1) af))))) af))) (aE (ax (aa (ae 11) (aa (ae 4) (aa (bz dD (aa (ae 7) af)) af))))))))))))))
def cA:List D->Option D:=bh fy 12
def sC:ar->Option Out:=(aE (bz rh (aa (cg (az 2 [2,3] (f7 (aa (f2 aw (ae 0) (fC (.int 2))) (aa (ae 1) af))) (iP 0 1) (fB (f2 aY (f2 aw (ae 0) (ae 2)) (ae 3))) (ae 1))) af)))
def cK:List D->Option D:=bh sC 4
def iV:ar->Option Out:=(aE (bz mj (aa (cg (az 2 [0,1,2] (bD (aa (f2 aw (ae 0) (ae 2)) af)) (iP 0 1) (λ_=>some true) (f2 B1 (ai 4 cK (aa (ae 2) (aa (ae 3) (aa (ae 4) (aa (ae 0) af))))) (f2 aw (ae 1) (fC (.int 0)))))) af)))
def dw:List D->Option D:=bh iV 3
def ie:ar->Option Out:=(au (aI 2 [0] (f2 aw (ae 0) (fC (.int 2)))) (au (dE (bx (fB (ai 3 bV (aa (ae 1) (aa (bz bg (aa (ae 2) af)) (aa (bz bg (aa (ae 2) af)) af)))))) (aE (fC (.bool false))) cP) (au (dE (bx (fB (bz mj (aa (cg (az 2 [] (f7 (aa (ae 2) (aa (ae 1) af))) (iP 0 1) (λ_=>some true) (ai 3 bc (aa (ae 1) (aa (fC (.int 0)) (aa (f2 aw (ae 0) (fC (.int 2))) af)))))) af)))) (aE (fC (.bool false))) cP) (aE (k8 (ai 3 dw (aa (ae 0) (aa (ae 1) (aa (fC (.int 0)) af)))) (ai 3 dw (aa (ae 0) (aa (ae 1) (aa (fC (.int 1)) af)))))))))
def cY:List D->Option D:=bh ie 3
def fA:ar->Option Out:=(au (fO (ai 1 cJ (aa (ae 0) af))) (dE (bx (fB (ai 2 cY (aa (ae 0) (aa (ae 1) af))))) M5 cP))
def aW:List D->Option D:=bh fA 2
def il:ar->Option Out:=(au (aI 4 [0,2,3] (f2 aw (f2 aw (f2 aw (ae 0) (fC (.int 2))) (ae 3)) (ae 2))) (au (dE (fB (f2 A1 (ai 4 cK (aa (ae 0) (aa (ae 1) (aa (ae 2) (aa (ae 4) af))))) (f2 aw (f2 aw (f2 aw (ae 0) (ae 2)) (ae 4)) (fC (.int 0))))) (aE (fC (.bool true))) cP) (au (aI 5 [0,2,4] (ai 3 fK (aa (ae 0) (aa (ae 2) (aa (ae 4) af))))) (au (aI 6 [3,5] (eA cw (ae 5) (nY (f2 aB (f2 iF (ae 5) (ae 3)) (fC (.int 1)))) eX)) (aE (bz Rf.GO (aa (cg (az 1 [1] (bJ (ae 6)) (fG 0) (λ_=>some true) (f2 nA (f2 aw (ae 1) (ae 0)) (fC (.int 0))))) af)))))))
def dc:List D->Option D:=bh il 7
def lR:ar->Option Out:=(au (dE (fB (f2 aY (f2 aw (ae 1) (ae 2)) (f2 aw (f2 aw (f2 aw (ae 0) (fC (.int 2))) (ae 2)) (fC (.int 2))))) (aE (fC (.str "full"))) cP) (au (dE (bx (fB (ai 4 dc (aa (ae 0) (aa (ae 1) (aa (fC (.int 0)) (aa (ae 2) af))))))) (aE (fC (.str "giver"))) cP) (au (dE (bx (fB (ai 4 dc (aa (ae 0) (aa (ae 1) (aa (fC (.int 1)) (aa (ae 2) af))))))) (aE (fC (.str "taker"))) cP) (aE (fC .none)))))
def dB:List D->Option D:=bh lR 3
def fg:ar->Option Out:=(au (cN [1] (aS (aa (bz bg (aa (ae 1) af)) af)) (oE 2) (dE (fB (f2 k9 (ai 3 dB (aa (ae 0) (aa (ae 1) (aa (ae 2) af)))) (fC .none))) (aE (ae 2)) cP)) (aE (fC .none)))
def bb:List D->Option D:=bh fg 3
def lS:ar->Option Out:=(aE (f2 k9 (ai 2 bb (aa (ae 0) (aa (ae 1) af))) (fC .none)))
def iH:List D->Option D:=bh lS 2
def nM:ar->Option Out:=(au (fO (ai 2 aW (aa (ae 0) (aa (ae 1) af)))) (aE (cg (az 1 [0,1] (aS (aa (bz bg (aa (ae 1) af)) af)) (fG 0) (fB (f2 k9 (ai 3 dB (aa (ae 1) (aa (ae 2) (aa (ae 0) af)))) (fC .none))) (ae 0)))))
def hZ:List D->Option D:=bh nM 2
def oa:ar->Option Out:=(aE (bz rh (aa (cg (az 2 [2,3] (f7 (aa (ae 1) (aa (f2 aw (ae 0) (fC (.int 2))) af))) (iP 0 1) (fB (f2 aY (f2 aw (ae 1) (ae 2)) (ae 3))) (ae 0))) af)))
def bE:List D->Option D:=bh oa 4
def j7:ar->Option Out:=(au (cN [] (aS (aa (fC (.int 2)) af)) (oE 2) (cN [0,2] (bD (aa (f2 aw (ae 0) (ae 2)) af)) (eV 3 4) (dE (fB (f2 nA (ai 4 bE (aa (ae 0) (aa (ae 1) (aa (ae 2) (aa (ae 3) af))))) (f2 aw (ae 4) (fC (.int 0))))) (aE (fC (.bool false))) cP))) (aE (fC (.bool true))))
def dQ:List D->Option D:=bh j7 5
def jb:ar->Option Out:=(au (aI 3 [] (ax af)) (au (cN [2] (bD (aa (f2 aw (ae 2) (fC (.int 2))) af)) (eV 4 5) (au (aI 6 [0,1,3,4,5] (f2 aB (ae 3) (ax (aa (ai 3 av (aa (ae 0) (aa (f2 aB (ae 1) (ae 4)) (aa (f2 aB (f2 aw (ae 5) (fC (.int 2))) (fC (.int 1))) af)))) af)))) (au (aI 7 [2,6] (ai 2 dQ (aa (ae 2) (aa (f2 aB (ae 6) (f2 cm (ax (aa (fC (.int 0)) af)) (f2 Dl.dh (bz bg (aa (f2 aw (ae 2) (fC (.int 2))) af)) (bz bg (aa (ae 6) af))))) af)))) (aI 3 [3,6,7] (uL (fB (ae 7)) (ae 6) (f2 aB (ae 3) (ax (aa (fC (.int 0)) af)))))))) (aE (ae 3))))
def dM:List D->Option D:=bh jb 8
open PySem L2 Dl PySem.Spec PyProof.Rows Ex
def qp:XS:=(F1 (bx (fB (ai 1 bp (aa (ae 0) af)))) (Nb "NoWorld") iX)
def eN:List D->Option Str:=oF qp 1
def qx:XS:=(fX (jq (qv 1 eN (aa (ae 0) af))) (fO (ai 1 cJ (aa (ae 0) af))) (F1 (bx (fB (ai 2 cY (aa (ae 0) (aa (ae 1) af))))) (Nb "NoPlan") iX))
def bA:List D->Option Str:=oF qx 2
def iN:ar->Option Out:=(au (dE (fB (f2 A1 (ai 4 bE (aa (ae 0) (aa (ae 1) (aa (ae 2) (aa (ae 3) af))))) (f2 aw (f2 aw (f2 aw (ae 0) (ae 2)) (ae 3)) (fC (.int 0))))) (aE (fC (.bool true))) cP) (au (aI 5 [0,2,3] (f2 aw (f2 aw (f2 aw (ae 0) (ae 2)) (ae 3)) (fC (.int 1)))) (au (cN [0,1] (f7 (aa (ae 1) (aa (f2 aw (ae 0) (fC (.int 2))) af))) (eV 6 7) (dE (cH (fB (f2 aY (f2 aw (ae 7) (ae 2)) (ae 3))) (cH (fB (f2 nA (ae 6) (fC (.int 0)))) (fB (f2 nA (f2 iF (ae 5) (f2 aw (ae 7) (f2 Dl.dh (fC (.int 1)) (ae 2)))) (f2 iF (ae 5) (ae 4)))))) (aE (fC (.bool true))) cP)) (aE (fC (.bool false))))))
def cX:List D->Option D:=bh iN 8
def lL:ar->Option Out:=(au (ju 3 4 5 [0,2] (f2 aw (f2 aw (ae 0) (fC (.int 2))) (ae 2))) (au (dE (fB (f2 aY (f2 aw (ae 1) (ae 2)) (ae 5))) (aE (fC (.str "full"))) cP) (au (dE (bx (fB (ai 5 cX (aa (ae 0) (aa (ae 1) (aa (fC (.int 0)) (aa (ae 3) (aa (ae 4) af)))))))) (aE (fC (.str "giver"))) cP) (aE (uL (fB (ai 5 cX (aa (ae 0) (aa (ae 1) (aa (fC (.int 1)) (aa (ae 4) (aa (ae 3) af))))))) (fC .none) (fC (.str "taker")))))))
def ee:List D->Option D:=bh lL 6
def iA:ar->Option Out:=(aE (f2 aY (cg (az 1 [0,1] (aS (aa (bz bg (aa (ae 1) af)) af)) (fG 0) (fB (f2 k9 (ai 3 ee (aa (ae 1) (aa (ae 2) (aa (ae 0) af)))) (fC .none))) (ae 0))) (cg (dg af))))
def fH:List D->Option D:=bh iA 2
def qo:XS:=(F1 (bx (fB (ai 3 bc (aa (ae 0) (aa (ae 1) (aa (ae 2) af)))))) (Nb "NoPlace") iX)
def eM:List D->Option Str:=oF qo 3
def oC:XS:=(jq (qv 3 eM (aa (ae 0) (aa (fC (.int 0)) (aa (f2 Dl.dh (ae 1) (fC (.int 1))) af)))))
def bO:List D->Option Str:=oF oC 2
def rD:XS:=(jq (qv 2 bO (aa (ae 0) (aa (fC (.int 2)) af))))
def sV:List D->Option Str:=oF rD 1
def AD:XS:=(jq (qv 2 bA (aa (ae 0) (aa (ae 1) af))))
def Di:List D->Option Str:=oF AD 2
def dC:ar->Option Out:=(aE (f2 aw (cg (az 1 [1] (bJ (ai 3 fK (aa (ae 0) (aa (ae 2) (aa (ae 3) af))))) (fG 0) (fB (f2 nA (f2 aw (ae 1) (ae 0)) (fC (.int 0)))) (ae 0))) (f1 eQ (fC (.int 1)))))
def cD:List D->Option D:=bh dC 4
def uQ:ar->Option Out:=(au (aI 3 [1,2] (ai 3 cW (aa (ae 1) (aa (ae 2) (aa (f2 aB (f2 aw (ae 1) (ae 2)) (fC (.int 1))) af))))) (au (cN [] (bJ (ax (aa (fC (.int 0)) (aa (fC (.int 1)) af)))) (oE 4) (au (aI 5 [0,2,4] (f2 aw (f2 aw (f2 aw (ae 0) (fC (.int 2))) (ae 2)) (ae 4))) (dE (fB (f2 aY (ai 4 cK (aa (ae 0) (aa (ae 1) (aa (ae 4) (aa (ae 5) af))))) (f2 aw (f2 aw (f2 aw (ae 0) (ae 4)) (ae 5)) (fC (.int 0))))) (au (aI 6 [0,1,4,5] (ai 4 cD (aa (ae 0) (aa (ae 1) (aa (ae 4) (aa (ae 5) af)))))) (aI 3 [3,6] (ai 3 cW (aa (ae 3) (aa (ae 6) (aa (f2 Dl.dh (f2 aw (ae 3) (ae 6)) (fC (.int 1))) af)))))) cP))) (aE (ae 3))))
def cQ:List D->Option D:=bh uQ 7
def pP:ar->Option Out:=(au (fO (ai 2 aW (aa (ae 0) (aa (ae 1) af)))) (au (fO (ai 2 bj (aa (ae 2) (aa (bz bg (aa (ae 1) af)) af)))) (au (dE (fB (f2 xt (ae 2) (ai 2 hZ (aa (ae 0) (aa (ae 1) af))))) M5 cP) (aE (ai 3 cQ (aa (ae 0) (aa (ae 1) (aa (ae 2) af))))))))
def dZ:List D->Option D:=bh pP 3
def Cp:XS:=(fX (jq (qv 2 bA (aa (ae 0) (aa (ae 1) af)))) (fO (ai 2 aW (aa (ae 0) (aa (ae 1) af)))) (fX (jq (qv 2 bO (aa (ae 2) (aa (bz bg (aa (ae 1) af)) af)))) (fO (ai 2 bj (aa (ae 2) (aa (bz bg (aa (ae 1) af)) af)))) (F1 (fB (f2 xt (ae 2) (ai 2 hZ (aa (ae 0) (aa (ae 1) af))))) (Nb "NoPlace") iX)))
def gW:List D->Option Str:=oF Cp 3
def K6:ar->Option Out:=(au (fO (ai 2 aW (aa (ae 0) (aa (ae 1) af)))) (au (br 2 [1] (dg (aa (ae 1) af))) (au (sE 3 1 (fC (.bool true))) (au (aI 4 [0,1] (ai 2 bb (aa (ae 0) (aa (ae 1) af)))) (au (BC (fB (f2 i8 (ae 4) (fC .none))) (au (aI 5 [0,2,4] (ai 3 cQ (aa (ae 0) (aa (f2 aw (ae 2) (f1 eQ (fC (.int 1)))) (aa (ae 4) af))))) (au (rQ 5 3 (aE (ae 2)) cP) (au (k6 2 [5] (ae 5)) (au (rL 3 5 (fC (.bool true))) (aI 4 [0,5] (ai 2 bb (aa (ae 0) (aa (ae 5) af)))))))) Rf.turns) (aE (ae 2)))))))
def fP:List D->Option D:=bh K6 6
def Hx:XS:=(jq (qv 2 bA (aa (ae 0) (aa (ae 1) af))))
def lI:List D->Option Str:=oF Hx 6
def e8:ar->Option Out:=(aE (ai 2 iH (aa (ae 0) (aa (f2 aw (ai 2 fP (aa (ae 0) (aa (ae 1) af))) (f1 eQ (fC (.int 1)))) af))))
def bU:List D->Option D:=bh e8 2
def mZ:XS:=(jq (Pt (ae 0) (qv 2 lI (aa (ae 0) (aa (ae 1) af)))))
def du:List D->Option Str:=oF mZ 2
def j6:ar->Option Out:=(aE (cg (az 1 [0,1] (aS (aa (bz bg (aa (ae 1) af)) af)) (fG 0) (fB (f2 k9 (ai 3 ee (aa (ae 1) (aa (ae 2) (aa (ae 0) af)))) (fC .none))) (ae 0))))
def bf:List D->Option D:=bh j6 2
def u0:ar->Option Out:=(au (dE (fB (f2 A1 (ai 4 bE (aa (ae 0) (aa (ae 1) (aa (ae 2) (aa (ae 3) af))))) (f2 aw (f2 aw (f2 aw (ae 0) (ae 2)) (ae 3)) (fC (.int 0))))) (aE (ae 1)) cP) (au (cN [0,2,3] (bJ (f1 Dv (f2 aw (f2 aw (f2 aw (ae 0) (ae 2)) (ae 3)) (fC (.int 1))))) (oE 4) (cN [0] (bD (aa (f2 aw (ae 0) (fC (.int 2))) af)) (eV 5 6) (dE (cH (fB (f2 aY (f2 aw (ae 6) (ae 2)) (ae 3))) (cH (fB (f2 aY (f2 aw (ae 6) (f2 Dl.dh (fC (.int 1)) (ae 2))) (ae 4))) (fB (f2 nA (f2 aw (ae 1) (ae 5)) (fC (.int 0)))))) (aE (f2 aB (f2 aB (eA cw (ae 1) eX (nY (ae 5))) (ax (aa (f2 Dl.dh (f2 aw (ae 1) (ae 5)) (fC (.int 1))) af))) (eA cw (ae 1) (nY (f2 aB (ae 5) (fC (.int 1)))) eX))) cP))) (aE (ae 1))))
def cx:List D->Option D:=bh u0 7
def vg:ar->Option Out:=(au (ju 3 4 5 [0,2] (f2 aw (f2 aw (ae 0) (fC (.int 2))) (ae 2))) (au (aI 6 [0,1,3,4] (ai 4 cx (aa (ae 0) (aa (ai 4 cx (aa (ae 0) (aa (ae 1) (aa (fC (.int 0)) (aa (ae 3) af))))) (aa (fC (.int 1)) (aa (ae 4) af)))))) (aE (f2 aB (f2 aB (eA cw (ae 6) eX (nY (ae 2))) (ax (aa (f2 aB (f2 aw (ae 6) (ae 2)) (fC (.int 1))) af))) (eA cw (ae 6) (nY (f2 aB (ae 2) (fC (.int 1)))) eX)))))
def bL:List D->Option D:=bh vg 7
def rF:ar->Option Out:=(au (br 2 [1] (dg (aa (ae 1) af))) (au (BC (fB (f2 cR (ai 2 bf (aa (ae 0) (aa (f2 aw (ae 2) (f1 eQ (fC (.int 1)))) af))) (cg (dg af)))) (au (aI 3 [0,2] (ai 3 bL (aa (ae 0) (aa (f2 aw (ae 2) (f1 eQ (fC (.int 1)))) (aa (f2 aw (ai 2 bf (aa (ae 0) (aa (f2 aw (ae 2) (f1 eQ (fC (.int 1)))) af))) (fC (.int 0))) af))))) (au (dE (fB (f2 k7 (ae 3) (ae 2))) (aE (ae 2)) cP) (k6 2 [3] (ae 3)))) Rf.turns) (aE (ae 2))))
def b8:List D->Option D:=bh rF 4
def oD:ar->Option Out:=(uS (au (dE (fB (f2 aY (ae 0) (fC (.int 0)))) (aE (ai 3 dZ (aa (ae 1) (aa (ae 2) (aa (ae 3) af))))) cP) (aE (uL (fB (f2 aY (ae 0) (fC (.int 1)))) (ai 2 fP (aa (ae 1) (aa (ae 2) af))) (ai 2 bU (aa (ae 1) (aa (ae 2) af)))))) (fX (F1 (fB (f2 aY (ae 0) (fC (.int 0)))) (jq (qv 3 gW (aa (ae 1) (aa (ae 2) (aa (ae 3) af))))) iX) (dE (fB (f2 aY (ae 0) (fC (.int 0)))) (aE (ai 3 dZ (aa (ae 1) (aa (ae 2) (aa (ae 3) af))))) cP) (jq (Au (fB (f2 aY (ae 0) (fC (.int 1)))) (qv 2 lI (aa (ae 1) (aa (ae 2) af))) (qv 2 du (aa (ae 1) (aa (ae 2) af)))))) (lb ["NoWorld","NoPlan","NoPlace"]))
def ao:List D->Option D:=bh oD 5
abbrev rG:List Str:=["_law_script","_law_world_here","_law_k","_law_plan_here","_law_some","_law_way","_law_due","_law_rows","_law_bad","_law_givers","_law_takers","_law_turning"]
def sO:ar->Option Out:=(au (aI 1 [0] (ai 3 cA (aa (ae 0) (aa (fC (.int 0)) (aa (fC (.int 9)) af))))) (au (cN [] (aS (aa (fC (.int 3)) af)) (oE 2) (au (aI 3 [0,1,2] (ai 3 dM (aa (ae 0) (aa (f2 aB (fC (.int 70)) (f2 cm (fC (.int 10)) (ae 2))) (aa (ae 1) af))))) (au (aI 4 [1,3] (ai 2 bf (aa (ae 1) (aa (ae 3) af)))) (au (cN [3] (aS (aa (bz bg (aa (ae 3) af)) af)) (oE 5) (au (aI 6 [1,3,4,5] (uL (fB (f2 k7 (ae 5) (ae 4))) (ai 3 bL (aa (ae 1) (aa (ae 3) (aa (ae 5) af)))) (ax (aa (fC (.str "refused")) (aa (fC (.int 2)) af))))) (dE (fB (f2 cR (ai 4 ao (aa (fC (.int 0)) (aa (ae 1) (aa (ae 3) (aa (ae 5) af))))) (ae 6))) (aE (fC (.bool false))) cP))) (au (aI 7 [1,3] (ai 2 b8 (aa (ae 1) (aa (ae 3) af)))) (au (dE (fB (f2 cR (ai 4 ao (aa (fC (.int 1)) (aa (ae 1) (aa (ae 3) (aa (fC .none) af))))) (ae 7))) (aE (fC (.bool false))) cP) (au (dE (fB (f2 cR (ai 4 ao (aa (fC (.int 2)) (aa (ae 1) (aa (ae 3) (aa (fC .none) af))))) (ai 2 fH (aa (ae 1) (aa (f2 aw (ae 7) (f1 eQ (fC (.int 1)))) af))))) (aE (fC (.bool false))) cP) (au (cN [3] (bJ (ax (aa (f1 eQ (fC (.int 1))) (aa (bz bg (aa (ae 3) af)) (aa (fC .none) (aa (fC (.bool true)) (aa (fC (.bool false)) (aa (fC (.str "0")) (aa (ax af) af))))))))) (oE 8) (dE (fB (f2 cR (ai 4 ao (aa (fC (.int 0)) (aa (ae 1) (aa (ae 3) (aa (ae 8) af))))) (ax (aa (fC (.str "refused")) (aa (fC (.int 2)) af))))) (aE (fC (.bool false))) cP)) (cN [3] (bJ (ax (aa (fC .none) (aa (f2 aB (ae 3) (ax (aa (fC (.int 0)) af))) (aa (cg (lO cy (aa (ae 3) af))) (aa (f2 cm (ax (aa (fC (.int 9)) af)) (f2 aB (bz bg (aa (ae 3) af)) (fC (.int 2)))) af)))))) (oE 8) (dE (fB (f2 cR (cg (az 1 [1,8] (aS (aa (fC (.int 3)) af)) (fG 0) (λ_=>some true) (ai 4 ao (aa (ae 0) (aa (ae 1) (aa (ae 2) (aa (fC (.bool true)) af))))))) (cg (nW (dg (aa (ax (aa (fC (.str "refused")) (aa (fC (.int 1)) af))) af)) (fC (.int 3)))))) (aE (fC (.bool false))) cP)))))))))) (au (aI 9 [] (ax (aa (ax (aa (fC (.int 1)) (aa (ax (aa (fC (.int 0)) (aa (fC (.int 2)) (aa (fC (.int 1)) af)))) af))) (aa (ax (aa (fC (.int 1)) (aa (ax (aa (fC (.int 1)) (aa (fC (.int 0)) (aa (fC (.int 2)) af)))) af))) (aa (ax (aa (fC (.int 1)) (aa (ax (aa (fC (.int 0)) (aa (fC (.int 2)) (aa (fC (.int 1)) af)))) af))) af))))) (au (aI 10 [] (ax (aa (ax (aa (fC (.int 1)) (aa (ax (aa (fC (.int 1)) (aa (fC (.int 0)) (aa (fC (.int 2)) af)))) af))) (aa (ax (aa (fC (.int 1)) (aa (ax (aa (fC (.int 0)) (aa (fC (.int 2)) (aa (fC (.int 1)) af)))) af))) (aa (ax (aa (fC (.int 1)) (aa (ax (aa (fC (.int 2)) (aa (fC (.int 1)) (aa (fC (.int 0)) af)))) af))) af))))) (au (aI 11 [9,10] (ax (aa (ae 9) (aa (ae 10) (aa (bz dD (aa (cg (az 1 [] (aS (aa (fC (.int 9)) af)) (fG 0) (λ_=>some true) (ax (aa (f2 iW (ae 0) (fC (.int 3))) (aa (f2 g9 (ae 0) (fC (.int 3))) (aa (fC (.int 1)) af)))))) af)) af))))) (au (aI 7 [11] (ai 4 ao (aa (fC (.int 1)) (aa (ae 11) (aa (f2 cm (ax (aa (fC (.int 0)) af)) (fC (.int 9))) (aa (fC .none) af)))))) (au (dE (m5 (fB (f2 cR (ae 7) (ai 2 b8 (aa (ae 11) (aa (f2 cm (ax (aa (fC (.int 0)) af)) (fC (.int 9))) af))))) (m5 (fB (f2 cR (bz bg (aa (ae 7) af)) (fC (.int 9)))) (fB (f2 i8 (ai 4 ao (aa (fC (.int 2)) (aa (ae 11) (aa (f2 cm (ax (aa (fC (.int 0)) af)) (fC (.int 9))) (aa (fC .none) af))))) (fC (.bool false)))))) (aE (fC (.bool false))) cP) (aE (f2 aY (cg (az 1 [1] (aS (aa (fC (.int 3)) af)) (fG 0) (λ_=>some true) (ai 4 ao (aa (ae 0) (aa (eA cw (ae 1) eX (nY (fC (.int 2)))) (aa (fC .none) (aa (fC (.bool true)) af))))))) (cg (nW (dg (aa (ax (aa (fC (.str "refused")) (aa (fC (.int 0)) af))) af)) (fC (.int 3)))))))))))))
def gR:List D->Option D:=bh sO 12
end Pg
namespace K43
open PySem L2 Dl PySem.Spec PyProof.Rows
open Pg Ex Rg
abbrev RB:List Str:=["NoWorld","NoPlan","NoPlace"]
abbrev Q9:List Str:=["NoPlace","NoPlan","NoWorld"]
abbrev gi:List (Str×Int):=[("MOST_PLACES",4),("MOST",9)]
abbrev Ls:FT:=("_law_told",4,ao)::("_law_walked",2,b8)::("_law_push",3,bL)::("_law_less",4,cx)::("_law_gone",2,bf)::("_law_rests",2,fH)::("_law_why",3,ee)::("_law_wants",5,cX)::("_law_plan",3,dM)::("_law_fits",2,dQ)::("_law_used",4,bE)::("_law_world",3,cA)::("_law_orders",3,bZ)::("_law_drawn",3,av)::("_law_cell",2,eR)::("comes_to_rest",2,bU)::("walk",2,fP)::("pushed",3,dZ)::("pushed_on",3,cQ)::("least_liked_used",4,cD)::("leaving",2,hZ)::("is_still",2,iH)::("first_leaving",2,bb)::("why_kept",3,dB)::("wants_more",4,dc)::("ways_of",3,fK)::("replaced",3,cW)::("check_number",2,bj)::("check_whole",3,dm)::("check_plan",2,aW)::("check_world",1,cJ)::("is_plan",2,cY)::("keeps_amounts",3,dw)::("through",4,cK)::("is_world",1,bp)::("liked_pairs",1,bK)::("are_parts",3,gE)::("is_way",3,j3)::("is_end",2,fQ)::("are_likes",2,gz)::("is_long",3,bV)::("is_number",2,cU)::("is_whole",3,bc)::[]
abbrev Xs:XT:=("comes_to_rest",2,du)::("walk",2,lI)::("pushed",3,gW)::("leaving",2,Di)::("is_still",2,Q0)::("check_number",2,bO)::("check_whole",3,eM)::("check_plan",2,bA)::("check_world",1,eN)::[]
def Nn:Rf.tW (top 55) rG ⟨Ls,gi⟩ none=some sO:=by kernel_rfl
structure L9(K:W.Frag)(mg:Str->Option Value):Prop where
 o:∀P w base,Ok P w K mg base gi Q9 46 Ls Xs
 c:yy K mg "law" (top 55) ["_law_script"]
def MW{P:Program}{w:World}{K:W.Frag}{mg:Str->Option Value}{fa:Addr}(D:L9 K mg)(ZM:mg "law"=some (.ref fa)):∃fd:FuncData,(∀ (s:Shared) (v:Value),BindsTo s fd ⟨[v],[]⟩ [("_law_script",v)])/\∀base:Heap,K.In base->base.Ns mainGlobals mg->oA P w K mg base G0 47 fa fd ["_law_script"] (OH K 1 gR):=by
 let⟨f,fd,hm,F,hb⟩:=D.c.ex;rw[ZM] at hm;cases hm;refine⟨fd,λs v=>?_,λbase _ _=>JX F (Rf.O8 (N:=rG)) λX hP hw hK S7 Th C _ _ HF H=>by subst hP;subst hw;subst hK;subst S7;subst Th;have o:=D.o X.prog X.w X.base;exact Rf.JZ C o.ob o.of o.oi Nn⟩;let⟨oc,od,kV,doc,pm,an,R4,ct,TV,rfl,lk,Se⟩:=F.ex;exact .of_eq rfl
def walk{l:W.OpenLaw}{q:Program}{loose:List Str}{XP:(Str->Option Value)->Heap->Prop}{YP:World->Heap->Prop}{d:DefRec}{K:Params->W.Frag}{ts:List Addr}(hn:l.most=some 63)(WY:d.params.defaults=[])(XN:d.name="law")
  (hY:∀ (w:World) (h:Heap),YP w h->(K w.params).In h/\∀P∈ts,h.get? P=some (W.tabObj #[])) (ht:∀w:World,mM (K w.params) ts=true) (hI:∀ (w:World) {h:Heap}{mg:Str->Option Value},(K w.params).In h->h.Ns mainGlobals mg->L9 (K w.params) mg) (main:∀ns:List Int,ns.length<=63->gR [.list (ns.map PyData.int)]=some (.bool true)) :
  W.WalkO q loose XP YP l.row.toRowW d [] (λf vs=>PySem.call f vs) :=
 FM (n:=63) (k:=47) (x:="_law_script") (CX:=λ_=>G0) (sp:=λw=>OH (K w.params) 1 gR) hn (by decide) WY ⟨rfl,by decide,by decide⟩ hY ht (λw mg fa h KX G WZ=>MW (hI w KX G) (by rw[<- XN];exact WZ)) (λ_ _ a ns hl hT hS=>zp hS hT (main ns hl)) λ_ _ _ _ _ z=>z
end K43
namespace Dl
open PySem L2 PySem.Spec PyProof.Rows
def uX:D->Prop|.none=>True|.bool _=>True|.int _=>True|.str x=>PyData.canLay0 (.str x)=true|_=>False
def gP(b:Nat):Nat->D->Prop
 | 0,d=>uX d
 | k+1,d=>uX d\/(∃xs,(d=.list xs\/d=.tuple xs)/\xs.length<=b/\∀x∈xs,gP b k x)
def gP.leaf(h:uX d):gP b k d:=by
 cases k with
 | zero=>exact h
 | succ k=>exact .inl h
def gP.tup(hb:xs.length<=b)(h:∀x∈xs,gP b k x):gP b (k+1) (.tuple xs):=.inr ⟨xs,.inr rfl,hb,h⟩
def gP.lst(hb:xs.length<=b)(h:∀x∈xs,gP b k x):gP b (k+1) (.list xs):=.inr ⟨xs,.inl rfl,hb,h⟩
def gP.Sl(h:gP b k (.tuple xs)):∃j,k=j+1/\xs.length<=b/\∀x∈xs,gP b j x:=by
 cases k with
 | zero=>cases h
 | succ k =>
  rcases h with h|⟨ys,h|h,h1,h2⟩
  ·cases h
  ·cases h
  ·cases h;exact⟨k,rfl,h1,h2⟩
def gP.mono(hb:b<=b'):∀ {k k':Nat}{d:D},k<=k'->gP b k d->gP b' k' d
 | 0,k',d,_,h=>.leaf h
 | k+1,0,d,hk,h=>by lia
 | k+1,k'+1,d,hk,h=>by
  rcases h with h|⟨xs,h,h1,h2⟩
  ·exact .inl h
  ·exact .inr ⟨xs,h,yD h1 hb,λx hx=>(h2 x hx).mono hb (by lia)⟩
def BM{b:Nat}:∀ {xs:List D},(∀x∈xs,PyData.canLay0 x=true/\x.depth<=k)->PyData.canLayAll0 xs=true/\PyData.depthAll xs<=k
 | [],_=>⟨by simp[PyData.canLayAll0],by simp[PyData.depthAll]⟩
 | x::xs,h=>by
  let⟨a,c⟩:=BM (b:=b) (xs:=xs) λy hy=>h y (zC _ hy);let⟨a',c'⟩:=h x zE;exact⟨by simp[PyData.canLayAll0,a,a'],by simp[PyData.depthAll];lia⟩
def gP.lay:∀ {k:Nat}{d:D},gP b k d->PyData.canLay0 d=true/\d.depth<=k:=by
 have lf:∀ {k:Nat}{d:D},uX d->PyData.canLay0 d=true/\d.depth<=k:=λ{k d} h=>by
  cases d<;>simp?[uX] at h<;>first|exact⟨h,by simp[PyData.depth]⟩|exact⟨by simp[PyData.canLay0],by simp[PyData.depth]⟩
 intro k
 induction k with
 | zero=>exactλh=>lf h
 | succ k ih =>
  intro d h;rcases h with h|⟨xs,h,h1,h2⟩
  ·exact lf h
  ·let⟨a,c⟩:=BM (b:=b) (xs:=xs) λy hy=>ih (h2 y hy);rcases h with rfl|rfl
   ·exact⟨by simp[PyData.canLay0,a],by simp[PyData.depth];lia⟩
   ·exact⟨by simp[PyData.canLay0,a],by simp[PyData.depth];lia⟩
def gP.shaped(h:gP b k d)(hk:k<=64):SeqAt.shaped d=true:=by
 let⟨a,c⟩:=h.lay;simp[SeqAt.shaped,a];lia
def gP.noDict(h:gP b k d):∀kv,d≠.dict kv:=by
 rintro kv rfl;have:=h.lay.1;simp[PyData.canLay0] at this
def gy:D->Bool|.dict _=>false|_=>true
def gP.nd(h:gP b k d):gy d=true:=by
 cases d<;>first|rfl|exact absurd rfl (h.noDict _)
def QT:D->Bool|.int _=>true|.bool _=>true|_=>false
def QF:D->Bool|.bool _=>true|_=>false
def Kx:D->Bool|.tuple _=>true|_=>false
def kI(h:gy d=true):tM (gK d) "int"=some (QT d):=by cases d<;>first|cases h;done|exact JB _ (by simp[gK])
def kB(h:gy d=true):tM (gK d) "bool"=some (QF d):=by cases d<;>first|cases h;done|exact GN _ (by simp[gK])
def kT(h:gy d=true):tM (gK d) "tuple"=some (Kx d):=by cases d<;>first|cases h;done|exact kit_tuple _ (by simp[gK])
def whole(a b:Int):D->Bool|.int i=>decide (a<=i)&&decide (i<=b)|_=>false
def sF:∀ {ds:List D},(∀d∈ds,∃ρ',tgt ρ d=some ρ'/\te ρ'=some (h d))->d0 tgt (λ_=>some true) te ρ ds=some (ds.map h)
 | [],_=>rfl
 | d::ds,hh=>by
  let⟨ρ',h1,h2⟩:=hh d zE;have ih:=sF (ds:=ds) λy hy=>hh y (zC _ hy);unfold d0;rw[h1];simp[h2,ih]
def lY:∀ {ds:List D},(∀d∈ds,∃ρ',tgt ρ d=some ρ'/\tt ρ'=some (p d)/\(p d=true->te ρ'=some (h d)))->d0 tgt tt te ρ ds=some ((ds.filter p).map h)
 | [],_=>rfl
 | d::ds,hh=>by
  let⟨ρ',h1,h2,h3⟩:=hh d zE;have ih:=lY (ds:=ds) λy hy=>hh y (zC _ hy);unfold d0;rw[h1];simp?[zA,h2];cases hp:p d with
  | true=>rw[yK rfl,h3 hp];simp[ih,jW,hp]
  | false=>simp[ih,jW,hp]
def nU:∀ds:List D,boolsOf (ds.map λd=>.bool (p d))=some (ds.map p)
 | []=>rfl
 | d::ds=>by simp[boolsOf,nU ds]
def mh(ds:List D):mj [.list (ds.map λd=>.bool (p d))]=some (.bool (ds.all p)):=by
 simp?[mj,oneOf,zA,nU,zB,List.all_map];rfl
def bY(h:ds.length<=4000):small ds=some ds:=yK (yD h (by decide))
def ma{ds:List D}{i:Nat}(h:i < ds.length):rq ds (i:Nat)=some (ds.getD i .none):=by
 have:=uk (xs:=ds) (j:=i) (v:=ds[i]) (List.getElem?_eq_some_iff.mpr ⟨h,rfl⟩);rw[this];simp[List.getD,h]
def Bt{ds:List D}(h:0 < ds.length):rq ds 0=some (ds.getD 0 .none):=ma (i:=0) h
def vy{ds:List D}(h:1 < ds.length):rq ds 1=some (ds.getD 1 .none):=ma (i:=1) h
def JY{ds:List D}(h:2 < ds.length):rq ds 2=some (ds.getD 2 .none):=ma (i:=2) h
end Dl
namespace Wm
open PySem L2 Dl PySem.Spec PyProof.Rows Pg
def xk(ha:fa ρ=some (.int a))(hb:fb ρ=some (.int i))(hc:fc ρ=some (.int b)):jv B1 B1 fa fb fc ρ=some (.bool (decide (a<=i)&&decide (i<=b))):=by
 simp?[jv,ha,hb,hc,zA,B1,sT,xG];by_cases h:a<=i<;>simp[h]
def oX(i j:Int):Dl.dh (.int i) (.int j)=some (.int (i - j)):=rfl
def dk(i j:Int):Dl.aB (.int i) (.int j)=some (.int (i+j)):=rfl
def tK(d:D):Slot.all (.val d)=some d:=rfl
def uK(ds:List D):Slot.all (.own ds)=some (.list ds):=rfl
def BL:Slot.all .RK=none:=rfl
def AL(d:D):Slot.Sy (.val d)=some d:=rfl
def Be(ds:List D):Slot.Sy (.own ds)=none:=rfl
def BO:Slot.Sy .RK=none:=rfl
local macro_rules|`(tactic| simp! [$ts,*])=>`(tactic| simp only[bh,au,dE,aE,cP,m5,cH,bx,fB,gB,Ke,ae,fC,k8,Qb,P5,Oe,f1,f2,oX,dk,aa,af,ai,bz,lO,bg,cy,oneOf,fR,aJ,tK,uK,BL,AL,Be,BO,bJ,cg,dD,ax,dg,aw,  zI,yT,xE,xN,zL,xJ,List.replicate,xP,yX,qF,kO,zA,Option.bind_none,zB,Option.map_none,Nat.reduceAdd,Nat.reduceSub,jC,Nat.sub_self,xG,reduceIte,$ts,*])
def dG(h:gy d=true)(a b:Int):bc [d,.int a,.int b]=some (.bool (whole a b d)):=by
 simp! [bc,pM,kI h,kB h];cases d<;>simp[QT,QF,whole];rw[xk rfl rfl rfl]
def jd(h:gy d=true)(n:Int):cU [d,.int n]=some (.bool (whole 0 (n - 1) d)):=by
 simp! [cU,oh,dG h]
def long(a b:Int):D->Bool|.tuple ds=>decide (a<=(ds.length:Int))&&decide ((ds.length:Int)<=b)|_=>false
def dI(h:gy d=true)(a b:Int):bV [d,.int a,.int b]=some (.bool (long a b d)):=by
 simp! [bV,rZ,kT h];cases d<;>simp[Kx,long];rw[xk rfl (i:=_) rfl rfl]
def kj:D->Int|.int i=>i|_=>0
def fJ(h:whole a b d=true):d=.int (kj d)/\a<=kj d/\kj d<=b:=by
 cases d<;>simp[whole] at h;exact⟨rfl,h⟩
def lM:∀ {ls:List D},ls.all (whole a b)=true->ls=(ls.map kj).map PyData.int
 | [],_=>rfl
 | d::ls,h=>by
  rw[xR,zF] at h;rw[zI,zI,<- (fJ h.1).1,<- lM h.2]
def ik(n:Int):D->Bool|.tuple ls=>ls.all (whole 0 (n - 1))&&decide ((ls.map kj).Nodup)|_=>false
def bP(i j:Int):aY (.int i) (.int j)=some (.bool (decide (i=j))):=by
 simp[aY,Kb,SeqAt.shaped,PyData.canLay0,PyData.depth,PyData.eqv];rfl
def GK(i j:Int):cR (.int i) (.int j)=some (.bool (!decide (i=j))):=by
 simp[cR,GW,SeqAt.shaped,PyData.canLay0,PyData.depth,PyData.eqv];rfl
def Du(h:ls.all (whole a b)=true)(hl:ls.length<=100):f2 aY (f1 kg (λ_=>some (.tuple ls))) (bz bg (aa (λ_=>some (.tuple ls)) af)) []=some (.bool (decide ((ls.map kj).Nodup))):=by
 have e:=lM h;have e1:kg (.tuple ls)=some (.int (many (ls.map kj))):=by
  simp?[kg,kl]
  conv=>lhs;rw[e]
  rw[bH,zA,yK];rw[zD];exact qY (Nat.add_le_add_right hl 1) (by decide)
 simp! [e1,bP];have:=AI (ls.map kj);rw[zD] at this;simp?[<- this,Int.ofNat_inj,yJ,PyData.bool.injEq]
def Nj(r:Dl.Env)(d:D):fG 0 (none::r) d=some (some d::r):=by simp[fG,isFree]
def cZ{cs:List Nat}(Tj:fi ρ=some ds)(hl:ds.length<=4000)(hh:∀d∈ds,te (some d::cs.map λj=>(ρ[j]?).getD none)=some (h d)):az 1 cs fi (fG 0) (λ_=>some true) te ρ=some (ds.map h):=by
 simp?[az,Tj,zA,gg,List.replicate,xE,xN];rw[sF (h:=h) λd hd=>⟨_,Nj _ d,hh d hd⟩,zA,bY (by rw[zD];exact hl)]
def lX{cs:List Nat}(Tj:fi ρ=some ds)(hl:ds.length<=4000)
  (hp:∀d∈ds,tt (some d::cs.map λj=>(ρ[j]?).getD none)=some (p d)) (hh:∀d∈ds,p d=true->te (some d::cs.map λj=>(ρ[j]?).getD none)=some (h d)):az 1 cs fi (fG 0) tt te ρ=some ((ds.filter p).map h):=by
 simp?[az,Tj,zA,gg,List.replicate,xE,xN];rw[lY (p:=p) (h:=h) λd hd=>⟨_,Nj _ d,hp d hd,hh d hd⟩,zA,bY (by rw[zD];exact yD (xO _ _) hl)]
def yc(h:gP b k d)(hb:b<=100)(n:Int):gz [d,.int n]=some (.bool (ik n d)):=by
 simp! [gz,nX,kT h.nd];cases d<;>try (simp[Kx,ik];done)
 rename_i ls;let⟨j,rfl,hl,hf⟩:=h.Sl;have c:=cZ (cs:=[1]) (fi:=bJ (ae 0)) (te:=(ai 2 cU (aa (ae 0) (aa (ae 1) af)))) (h:=λx=>.bool (whole 0 (n - 1) x)) (ρ:=[some (.tuple ls),some (.int n)]) rfl (by lia) λx hx=>by simp! [jd (hf x hx).nd]
 simp! [Kx,xX,yN,c,mh];cases e:ls.all (whole 0 (n - 1)) with
 | false=>simp[ik,e]
 | true =>
  have:=Du e (yD hl hb);simp?[f2,f1,bz,aa,af,zA,zB] at this;simp! [ik,e,xX,yN,jK];simp?[bg,cy,oneOf,zA,fR,zB] at this;simp! [this]
def placeOk(n:Int):D->Bool|.tuple ds=>decide (ds.length=2)&&(whole 0 9 (ds.getD 0 .none)&&ik n (ds.getD 1 .none))|_=>false
def iQ(g t:Int):D->Bool|.tuple ds=>decide (ds.length=3)&&(whole 0 (g - 1) (ds.getD 0 .none)&&(whole 0 (t - 1) (ds.getD 1 .none)&&whole 1 9 (ds.getD 2 .none)))|_=>false
def pd(n:Nat)(ds:List D):long (n:Int) (n:Int) (.tuple ds)=decide (ds.length=n):=by
 simp?[long];by_cases h:ds.length=n
 ·simp[h]
 ·rw[zZ h,Bool.and_eq_false_iff,xA,xA];lia
def getD_mem{ds:List D}{i:Nat}(h:i < ds.length):ds.getD i .none∈ds:=by simp[List.getD,h]
def vf{b:Nat}(h:gP b k d)(hb:b<=100)(n:Int):fQ [d,.int n]=some (.bool (placeOk n d)):=by
 simp! [fQ,wb,dI h.nd];cases d<;>try (simp[long,placeOk];done)
 rename_i ds;let⟨j,rfl,hl,hf⟩:=h.Sl;rw[show long 2 2 (.tuple ds)=decide (ds.length=2) from pd 2 ds];by_cases e:ds.length=2
 ·have f0:=hf _ (getD_mem (i:=0) (by lia));have f1:=hf _ (getD_mem (i:=1) (by lia));simp! [e,jP,Bt (show 0 < ds.length by lia),vy (show 1 < ds.length by lia),dG f0.nd,yc f1 hb,placeOk];cases whole 0 9 (ds.getD 0 .none)<;>simp
 ·simp[e,placeOk]
def Ee{b:Nat}(h:gP b k d)(hb:b<=100)(g t:Int):j3 [d,.int g,.int t]=some (.bool (iQ g t d)):=by
 simp! [j3,xj,dI h.nd];cases d<;>try (simp[long,iQ];done)
 rename_i ds;let⟨j,rfl,hl,hf⟩:=h.Sl;rw[show long 3 3 (.tuple ds)=decide (ds.length=3) from pd 3 ds];by_cases e:ds.length=3
 ·have f0:=hf _ (getD_mem (i:=0) (by lia));have f1:=hf _ (getD_mem (i:=1) (by lia));have TY:=hf _ (getD_mem (i:=2) (by lia));simp! [e,jP,xX,yN,Bt (show 0 < ds.length by lia),vy (show 1 < ds.length by lia),JY (show 2 < ds.length by lia),dG TY.nd,jd f0.nd,jd f1.nd,iQ];cases whole 0 (g - 1) (ds.getD 0 .none)<;>cases whole 0 (t - 1) (ds.getD 1 .none)<;>simp
 ·simp[e,iQ]
def cT:D->List D|.tuple ds=>ds|_=>[]
def nh(d:D):Bool:=long 1 4 d
def iK(g t w:D):Bool:=nh g&&(nh t&&((cT g).all (placeOk (cT t).length)&&((cT t).all (placeOk (cT g).length)&&(Kx w&&(cT w).all (iQ (cT g).length (cT t).length)))))
def js(h:long a b d=true):d=.tuple (cT d):=by cases d<;>first|rfl|cases h
def n6(hg:gP b k g)(ht:gP b k t)(hw:gP b k w)(hb:b<=100):gE [g,t,w]=some (.bool (iK g t w)):=by
 simp! [gE,n9,dI hg.nd,dI ht.nd,kT hw.nd];unfold iK nh;cases e1:long 1 4 g with
 | false=>simp
 | true =>
  cases e2:long 1 4 t with
  | false=>simp
  | true =>
   obtain⟨gs,rfl⟩:∃gs,g=.tuple gs:=⟨_,js e1⟩
   obtain⟨ts,rfl⟩:∃ts,t=.tuple ts:=⟨_,js e2⟩
   let⟨j,rfl,hgl,hgf⟩:=hg.Sl;let⟨j',hj,htl,htf⟩:=ht.Sl;have c1:=cZ (cs:=[1]) (fi:=bJ (ae 0)) (te:=(ai 2 fQ (aa (ae 0) (aa (bz bg (aa (ae 1) af)) af)))) (h:=λx=>.bool (placeOk ts.length x)) (ρ:=[some (.tuple gs),some (.tuple ts),some w]) rfl (by lia) λx hx=>by simp! [vf (hgf x hx) hb]
   have c2:=cZ (cs:=[0]) (fi:=bJ (ae 1)) (te:=(ai 2 fQ (aa (ae 0) (aa (bz bg (aa (ae 1) af)) af)))) (h:=λx=>.bool (placeOk gs.length x)) (ρ:=[some (.tuple gs),some (.tuple ts),some w]) rfl (by lia) λx hx=>by simp! [vf (htf x hx) hb]
   simp! [xX,yN,c1,mh,cT,jK];cases e3:gs.all (placeOk ts.length) with
   | false=>simp
   | true =>
    simp! [xX,yN,c2,mh,jK];cases e4:ts.all (placeOk gs.length) with
    | false=>simp
    | true =>
     cases hT:Kx w with
     | false=>simp! [xX,yN,kT hw.nd,hT,wG,vB]
     | true =>
     obtain⟨ws,rfl⟩:∃ws,w=.tuple ws:=by cases w<;>first|exact⟨_,rfl⟩|cases hT
     let⟨j2,hj2,UT,hwf⟩:=hw.Sl;have c3:=cZ (cs:=[0,1]) (fi:=bJ (ae 2)) (te:=(ai 3 j3 (aa (ae 0) (aa (bz bg (aa (ae 1) af)) (aa (bz bg (aa (ae 2) af)) af))))) (h:=λx=>.bool (iQ gs.length ts.length x)) (ρ:=[some (.tuple gs),some (.tuple ts),some (.tuple ws)]) rfl (by lia) λx hx=>by simp! [Ee (hwf x hx) hb]
     simp! [xX,yN,c3,mh,jK,kT hw.nd,Kx]
def mR:∀ (a b:List Int),PyData.eqvAll (a.map PyData.int) (b.map PyData.int)=decide (a=b)
 | [],[]=>by simp[PyData.eqvAll]
 | [],_::_=>by simp[PyData.eqvAll]
 | _::_,[]=>by simp[PyData.eqvAll]
 | i::a,j::b=>by
  rw[zI,zI,PyData.eqvAll,mR a b];by_cases h:i=j
  ·subst h;simp[PyData.eqv]
  ·simp[PyData.eqv,h]
def qr:∀ (a b:List (List Int)),PyData.eqvAll (a.map ag) (b.map ag)=decide (a=b)
 | [],[]=>by simp[PyData.eqvAll]
 | [],_::_=>by simp[PyData.eqvAll]
 | _::_,[]=>by simp[PyData.eqvAll]
 | x::a,y::b=>by
  rw[zI,zI,PyData.eqvAll,qr a b,ag,ag,PyData.eqv,mR];by_cases h:x=y
  ·subst h;simp
  ·simp[h]
def gx(i:Int):gP b k (.int i):=.leaf trivial
def tE(h:r.length<=b):gP b (k+1) (ag r):=.tup (by rw[zD];exact h) λx hx=>by
 let⟨i,_,rfl⟩:=List.mem_map.mp hx;exact gx i
def F6{b k:Nat}{a:List (List Int)}(h:a.length<=b)(hr:∀r∈a,r.length<=b):gP b (k+2) (.list (a.map ag)):=.lst (by rw[zD];exact h) λx hx=>by
 let⟨r,TC,rfl⟩:=List.mem_map.mp hx;exact tE (hr r TC)
def CD(a:List (List Int)):∃b,a.length<=b/\∀r∈a,r.length<=b:=by
 induction a with
 | nil=>exact⟨0,yL _,λr h=>by cases h⟩
 | cons x a ih =>
  let⟨b,h1,h2⟩:=ih;refine⟨b+1+x.length,by rw[zL];lia,λr hr=>?_⟩;rcases List.mem_cons.mp hr with rfl|hr
  ·lia
  ·have:=h2 r hr;lia
def ja(a:List (List Int)):SeqAt.shaped (.list (a.map ag))=true:=by
 let⟨b,h1,h2⟩:=CD a;exact (F6 (b:=b) (k:=0) h1 h2).shaped (by decide)
def CY(a b:List (List Int)):aY (.list (a.map ag)) (.list (b.map ag))=some (.bool (decide (a=b))):=by
 simp?[aY,Kb,ja,jO,xG,PyData.eqv,qr,zB]
def jw(d:D):List Int:=(cT ((cT d).getD 1 .none)).map kj
def iG(h:placeOk n d=true):∃a ds,d=.tuple ds/\ds.length=2/\ds.getD 0 .none=.int a/\0<=a/\a<=9/\ds.getD 1 .none=.tuple ((jw d).map PyData.int)/\(jw d).Nodup/\∀j∈jw d,0<=j/\j<=n - 1:=by
 cases d<;>simp?[placeOk] at h<;>try cases h
 rename_i ds;simp?[zF,zJ] at h;let⟨h1,h2,h3⟩:=h;have e:jw (.tuple ds)=(cT (ds.getD 1 .none)).map kj:=rfl;rw[e];generalize hl:ds.getD 1 .none=l at h3;cases l<;>simp?[ik] at h3<;>try cases h3
 rename_i ls;simp?[zF,zJ] at h3;let⟨w1,w2,w3⟩:=fJ h2;refine⟨_,ds,rfl,h1,w1,w2,w3,?_,h3.2,λj hj=>?_⟩
 ·rw[show cT (.tuple ls)=ls from rfl,<- lM h3.1];exact hl
 ·let⟨x,hx,rfl⟩:=List.mem_map.mp hj;exact (fJ (List.all_eq_true.mp h3.1 x hx)).2
def lV(k:Nat):List D->List (List Int)|[]=>[]|p::ps=>(jw p).map (λj=>[((k:Nat):Int),j])++lV (k+1) ps
def pN:∀ (n:Nat) {l:List Int},l.Nodup->(∀j∈l,0<=j/\j<=(n:Int) - 1)->l.length<=n:=by
 intro n l hn h;have hs:l.map Int.toNat ⊆ List.range n:=λx hx=>by
  let⟨j,hj,rfl⟩:=List.mem_map.mp hx;have:=h j hj;exact List.mem_range.mpr (by lia)
 have Tc:(l.map Int.toNat).Nodup:=by
  refine List.pairwise_map.mpr (hn.imp_of_mem λ{x y} hx hy So e=>So ?_);have:=h x hx;have:=h y hy;lia
 have:=List.Nodup.length_le_of_subset Tc hs;simpa using this
def tU{n:Nat}:∀ {ps:List D}{k:Nat},(∀p∈ps,placeOk n p=true)->(lV k ps).length<=ps.length * n
 | [],k,_=>xU _
 | p::ps,k,h=>by
  let⟨_,_,_,_,_,_,_,_,hn,hr⟩:=iG (h p zE);have h1:=pN n hn hr;have h2:=tU (ps:=ps) (k:=k+1) λq hq=>h q (zC _ hq);rw[lV,zN,zD,zL,Nat.succ_mul];lia
def pB:ar->Option Out:=va 1 [2,3] (az 1 [2] (bJ (f2 aw (ae 3) (fC (.int 1)))) (fG 0) (λ_=>some true) (ax (aa (ae 1) (aa (ae 0) af))))
def LV{n:Nat}{p:D}{acc:List D}(hp:placeOk n p=true)(hn:n<=100)(ha:acc.length<=1000):pB [.val x,.own acc,.val (.int (k:Nat)),.val p]=some (.nx [.val x,.own (acc++((jw p).map λj=>ag [((k:Nat):Int),j])),.val (.int (k:Nat)),.val p]):=by
 let⟨a,ds,rfl,hl,_,_,_,h1,Tc,hr⟩:=iG hp;have hb:=pN n Tc hr;generalize jw (.tuple ds)=ls at *;have c:=cZ (cs:=[2]) (fi:=bJ (f2 aw (ae 3) (fC (.int 1)))) (te:=ax (aa (ae 1) (aa (ae 0) af))) (h:=λy=>.tuple [.int (k:Nat),y]) (ρ:=[some x,none,some (.int (k:Nat)),some (.tuple ds)]) (ds:=ls.map PyData.int)
  (by simp! [vy (show 1 < ds.length by lia),h1]) (by rw[zD];lia) λy hy=>by
   simp! [bY (show [PyData.int (k:Nat),y].length<=4000 by simp)]
 have hh:hand [2,3] 0 [Slot.val x,.own acc,.val (.int (k:Nat)),.val (.tuple ds)]=[Slot.val x,.own acc,.val (.int (k:Nat)),.val (.tuple ds)]:=rfl;simp?[pB,va,hh,bN,zI,yT,Slot.Sy,c,zA,mO,yX,xP];rw[yK]
 ·simp?[zB,yV,yU,zM];rfl
 ·simp?[zD];exact yD (show acc.length+ls.length<=1100 by lia) (by decide)
def sR{n:Nat}(hn:n<=100):∀ {ps:List D}{k:Nat}{acc:List D}{s2 s3:Slot},(∀p∈ps,placeOk n p=true)->acc.length+ps.length * n<=1000 ->
  ∃t2 t3,d9 (eV 2 3) pB (bG k ps) [.val x,.own acc,s2,s3]=some (.nx [.val x,.own (acc++(lV k ps).map ag),t2,t3])
 | [],k,acc,s2,s3,_,_=>⟨s2,s3,by simp[bG,d9,lV]⟩
 | p::ps,k,acc,s2,s3,h,hl=>by
  have hp:=h p zE;let⟨_,_,_,_,_,_,_,_,Tc,hr⟩:=iG hp;have hb:=pN n Tc hr;rw[zL,Nat.succ_mul] at hl;let⟨t2,t3,e⟩:=sR hn (x:=x) (ps:=ps) (k:=k+1) (acc:=acc++((jw p).map λj=>ag [((k:Nat):Int),j])) (s2:=.val (.int (k:Nat))) (s3:=.val p) (λq hq=>h q (zC _ hq)) (by rw[zN,zD];lia);refine⟨t2,t3,?_⟩;have hs:eV 2 3 [.val x,.own acc,s2,s3] (.tuple [.int (k:Nat),p])=some [.val x,.own acc,.val (.int (k:Nat)),.val p]:=rfl;simp?[bG,d9,hs,zA,LV hp hn (show acc.length<=1000 by lia)];rw[e];simp[lV,zM,Zf]
def AN{n:Nat}{ps:List D}(h:∀p∈ps,placeOk n p=true)(hn:n<=100)(hl:ps.length * n<=1000):bK [.tuple ps]=some (.list ((lV 0 ps).map ag)):=by
 let⟨t2,t3,e⟩:=sR hn (x:=.tuple ps) (k:=0) (acc:=[]) (s2:=.RK) (s3:=.RK) h (by simpa using hl);have hs:br 1 [] (dg af) [Slot.val (.tuple ps),.RK,.RK,.RK]=some (.nx [.val (.tuple ps),.own [],.RK,.RK]):=rfl;have hh:hand [0] 0 [Slot.val (.tuple ps),.own [],.RK,.RK]=[Slot.val (.tuple ps),.own [],.RK,.RK]:=rfl;have hf:bD (aa (ae 0) af) (bN [Slot.val (.tuple ps),.own [],.RK,.RK])=some (bG 0 ps):=rfl;simp! [bK,lz,hs,cN,hh,hf];rw[show va 1 [2,3] (az 1 [2] (bJ (f2 aw (ae 3) (fC (.int 1)))) (fG 0) (λ_=>some true) (ax (aa (ae 1) (aa (ae 0) af))))=pB from rfl,e];simp! []
def fq(d:D):List Int:=[kj ((cT d).getD 0 .none),kj ((cT d).getD 1 .none)]
def zy(h:iQ g t d=true):∃ds c,d=.tuple ds/\ds.length=3/\ds.getD 0 .none=.int (kj (ds.getD 0 .none))/\ds.getD 1 .none=.int (kj (ds.getD 1 .none))/\ds.getD 2 .none=.int c/\1<=c/\c<=9 /\
  0<=kj (ds.getD 0 .none)/\kj (ds.getD 0 .none)<=g - 1/\0<=kj (ds.getD 1 .none)/\kj (ds.getD 1 .none)<=t - 1:=by
 cases d<;>simp?[iQ] at h<;>try cases h
 rename_i ds;simp?[zF,zJ] at h;let⟨h1,h2,h3,h4⟩:=h;have a:=fJ h2;have b:=fJ h3;have c:=fJ h4;exact⟨ds,_,rfl,h1,a.1,b.1,c.1,c.2.1,c.2.2,a.2.1,a.2.2,b.2.1,b.2.2⟩
def yt(g t w:D):Bool:=decide ((cT w).map fq=qu (lV 0 (cT g)))&&decide ((cT w).map fq=qu ((lV 0 (cT t)).map List.reverse))
def Pa(d:D):Bool:=long 3 3 d&&(iK ((cT d).getD 0 .none) ((cT d).getD 1 .none) ((cT d).getD 2 .none)&&yt ((cT d).getD 0 .none) ((cT d).getD 1 .none) ((cT d).getD 2 .none))
def kn:∀ {ps:List D}{k:Nat},∀r∈lV k ps,∃i j,r=[i,j]
 | [],k,r,h=>by cases h
 | p::ps,k,r,h=>by
  rcases List.mem_append.mp h with h|h
  ·let⟨j,_,rfl⟩:=List.mem_map.mp h;exact⟨_,_,rfl⟩
  ·exact kn r h
def mn(h:∀r∈a,∃i j,r=[i,j])(hl:a.length < 64):gu [.list (a.map ag)]=some ((qu a).map ag):=by
 have:∀ns∈a,ns≠[]:=λns hn=>by let⟨i,j,rfl⟩:=h ns hn;exact List.cons_ne_nil _ _
 simp?[gu,oneOf,zA,oV this,yK hl]
def rT:∀ {a:List (List Int)},(∀r∈a,∃i j,r=[i,j])->d0 (iP 0 1) (λ_=>some true) (ax (aa (ae 1) (aa (ae 0) af))) [none,none] (a.map ag)=some ((a.map List.reverse).map ag)
 | [],_=>rfl
 | r::a,h=>by
  let⟨i,j,rfl⟩:=h r zE;have ih:=rT (a:=a) λq hq=>h q (zC _ hq);have e:iP 0 1 [none,none] (ag [i,j])=some [some (.int i),some (.int j)]:=rfl;rw[zI,d0,e,zA,zA,yK rfl,ih];simp! [bY (show [PyData.int j,.int i].length<=4000 by simp)];rfl
def Dm{a:List (List Int)}(Tj:fi ρ=some (a.map ag))(hl:a.length<=4000)(h:∀r∈a,∃i j,r=[i,j]):az 2 [] fi (iP 0 1) (λ_=>some true) (ax (aa (ae 1) (aa (ae 0) af))) ρ=some ((a.map List.reverse).map ag):=by
 simp?[az,Tj,zA,gg,List.replicate,xE,xN,yT];rw[rT h,zA,bY (by rw[zD,zD];exact hl)]
def yd(h:iK g t w=true):∃gs ts ws,g=.tuple gs/\t=.tuple ts/\w=.tuple ws/\1<=gs.length/\gs.length<=4/\1<=ts.length/\ts.length<=4/\(∀p∈gs,placeOk ts.length p=true)/\(∀p∈ts,placeOk gs.length p=true)/\∀x∈ws,iQ gs.length ts.length x=true:=by
 simp?[iK,nh,zF] at h;let⟨h1,h2,h3,h4,h5,h6⟩:=h;cases w<;>try cases h5
 rename_i ws;have e1:=js h1;have e2:=js h2;generalize cT g=gs at *;generalize cT t=ts at *;subst e1 e2;simp?[long,zF,zJ] at h1 h2;exact⟨gs,ts,ws,rfl,rfl,rfl,by lia,by lia,by lia,by lia,List.all_eq_true.mp h3,List.all_eq_true.mp h4,List.all_eq_true.mp h6⟩
def lK{b:Nat}(h:gP b k d)(hb:b<=100):bp [d]=some (.bool (Pa d)):=by
 unfold Pa;cases e1:long 3 3 d with
 | false=>simp! [bp,iI,dI h.nd,e1,Bool.not_false,wG]
 | true =>
  obtain⟨ds,rfl⟩:∃ds,d=.tuple ds:=⟨_,js e1⟩
  let⟨j,rfl,hl,hf⟩:=h.Sl;rw[show long 3 3 (.tuple ds)=decide (ds.length=3) from pd 3 ds,zJ] at e1;have f0:=hf _ (getD_mem (i:=0) (by lia));have f1:=hf _ (getD_mem (i:=1) (by lia));have TY:=hf _ (getD_mem (i:=2) (by lia));have i0:=Bt (show 0 < ds.length by lia);have i1:=vy (show 1 < ds.length by lia);have i2:=JY (show 2 < ds.length by lia);have el:bV [.tuple ds,.int 3,.int 3]=some (.bool true):=by rw[dI rfl,show long 3 3 (.tuple ds)=decide (ds.length=3) from pd 3 ds,yA e1]
  rw[show cT (.tuple ds)=ds from rfl,jK];generalize hg:ds.getD 0 .none=g at *;generalize ht:ds.getD 1 .none=t at *;generalize hw:ds.getD 2 .none=w at *;cases e2:iK g t w with
  | false=>simp! [bp,iI,el,i0,i1,i2,n6 f0 f1 TY hb,e2,Bool.not_false,xX,wG]
  | true =>
   let⟨gs,ts,ws,rfl,rfl,rfl,g1,g4,t1,t4,hG,hT,hW⟩:=yd e2;have hfw:=TY.Sl;let⟨j2,_,UT,_⟩:=hfw;have q1:=tU (k:=0) hG;have q2:=tU (k:=0) hT;have m1:gs.length * ts.length<=16:=wF g4 t4;have m2:ts.length * gs.length<=16:=wF t4 g4;have l1:=AN hG (by lia) (by lia);have l2:=AN hT (by lia) (by lia);have s1:=mn (a:=lV 0 gs) kn (by lia);have s2:=mn (a:=(lV 0 ts).map List.reverse) (λr hr=>by
    let⟨q,hq,rfl⟩:=List.mem_map.mp hr;let⟨i,j,rfl⟩:=kn q hq;exact⟨j,i,rfl⟩) (by rw[zD];lia)
   have c1:az 1 [] (bJ (f2 aw (ae 0) (fC (.int 2)))) (fG 0) (λ_=>some true) (ax (aa (f2 aw (ae 0) (fC (.int 0))) (aa (f2 aw (ae 0) (fC (.int 1))) af))) [some (.tuple ds),none,none,none]=some ((ws.map fq).map ag):=by
    rw[cZ (ds:=ws) (h:=λx=>ag (fq x)) (by simp! [i2]) (by lia) λx hx=>?_,zM]
    ·rfl
    ·let⟨vs,c,rfl,v3,v0,v1,_⟩:=zy (hW x hx);simp! [Bt (show 0 < vs.length by lia),vy (show 1 < vs.length by lia),bY (show [vs.getD 0 PyData.none,vs.getD 1 .none].length<=4000 by simp),ag,fq,cT];rw[<- v0,<- v1]
   have c2:∀x y z,az 2 [] (bJ (ai 1 bK (aa (f2 aw (ae 0) (fC (.int 1))) af))) (iP 0 1) (λ_=>some true) (ax (aa (ae 1) (aa (ae 0) af))) [some (.tuple ds),x,y,z]=some (((lV 0 ts).map List.reverse).map ag):=λx y z =>
    Dm (by simp! [i1,l2]) (by lia) kn
   have Vb:br 1 [0] (az 1 [] (bJ (f2 aw (ae 0) (fC (.int 2)))) (fG 0) (λ_=>some true) (ax (aa (f2 aw (ae 0) (fC (.int 0))) (aa (f2 aw (ae 0) (fC (.int 1))) af)))) [Slot.val (.tuple ds),.RK,.RK,.RK]=some (.nx [.val (.tuple ds),.own ((ws.map fq).map ag),.RK,.RK]):=by
    have hh:hand [0] 0 [Slot.val (.tuple ds),.RK,.RK,.RK]=[Slot.val (.tuple ds),.RK,.RK,.RK]:=rfl;simp?[br,hh,bN,zI,yT,Slot.Sy,c1,zB,yV,yU]
   have U5:br 2 [0] (lO gu (aa (ai 1 bK (aa (f2 aw (ae 0) (fC (.int 0))) af)) af)) [Slot.val (.tuple ds),.own ((ws.map fq).map ag),.RK,.RK]=some (.nx [.val (.tuple ds),.own ((ws.map fq).map ag),.own ((qu (lV 0 gs)).map ag),.RK]):=by
    have hh:hand [0] 0 [Slot.val (.tuple ds),.own ((ws.map fq).map ag),.RK,.RK]=[Slot.val (.tuple ds),.own ((ws.map fq).map ag),.RK,.RK]:=rfl;simp?[br,hh,bN,zI,yT,Slot.Sy];simp! [i0,l1,s1,yV,yU]
   have VV:br 3 [0] (lO gu (aa (cg (az 2 [] (bJ (ai 1 bK (aa (f2 aw (ae 0) (fC (.int 1))) af))) (iP 0 1) (λ_=>some true) (ax (aa (ae 1) (aa (ae 0) af))))) af)) [Slot.val (.tuple ds),.own ((ws.map fq).map ag),.own ((qu (lV 0 gs)).map ag),.RK]
      =some (.nx [.val (.tuple ds),.own ((ws.map fq).map ag),.own ((qu (lV 0 gs)).map ag),.own ((qu ((lV 0 ts).map List.reverse)).map ag)]):=by
    have hh:hand [0] 0 [Slot.val (.tuple ds),.own ((ws.map fq).map ag),.own ((qu (lV 0 gs)).map ag),.RK]=[Slot.val (.tuple ds),.own ((ws.map fq).map ag),.own ((qu (lV 0 gs)).map ag),.RK]:=rfl;simp?[br,hh,bN,zI,yT,Slot.Sy];simp! [c2,s2,yV,yU]
   simp! [bp,iI,el,i0,i1,i2,n6 f0 f1 TY hb,e2,xX,yN,Vb,U5,VV,CY,yt,cT,jK];by_cases hq:List.map fq ws=qu (lV 0 gs)<;>simp[hq]
def lT(xs:List D):PyData.eqvAll xs []=xs.isEmpty:=by cases xs<;>simp[PyData.eqvAll]
def Az:SeqAt.shaped (.list [])=true:=by simp[SeqAt.shaped,PyData.canLay0,PyData.canLayAll0,PyData.depth,PyData.depthAll]
def FA(h:∀x∈xs,gP b k x)(hk:k<=60):aY (.list xs) (.list [])=some (.bool xs.isEmpty):=by
 have hs:SeqAt.shaped (.list xs)=true:=(gP.lst (b:=max b xs.length) (k:=k) (Nat.le_max_right _ _) λx hx=>(h x hx).mono (Nat.le_max_left _ _) (yL _)).shaped (by lia);simp?[aY,Kb,hs,Az,jO,xG,PyData.eqv,lT,zB]
def hU:small []=some []:=rfl
def DD(xs:List α)(k:Nat):cut xs none (some (k:Int))=xs.take k:=by
 simp?[cut,HT.vv,HT.Bs,List.drop_zero,Nat.sub_zero];rw[List.take_eq_take_iff];lia
def xy(xs:List α)(k:Nat):cut xs (some (k:Int)) none=xs.drop k:=by
 simp?[cut,HT.vv,HT.Bs];rw[kL (by rw[qG];lia)];by_cases h:k<=xs.length
 ·rw[Nat.min_eq_left h]
 ·rw[Nat.min_eq_right (by lia),List.drop_of_length_le (yL _),List.drop_of_length_le (by lia)]
def gD(b:Bool):gB (.bool b)=some b:=rfl
def He(a b:List Int):PyData.eqv (ag a) (ag b)=decide (a=b):=by rw[ag,ag,PyData.eqv,mR]
def Hu(P:List (List Int))(a:List Int):((P.map ag).any λz=>PyData.eqv z (ag a))=decide (a∈P):=by
 rw[Zc]
 induction P with
 | nil=>simp
 | cons r P ih =>
  rw[vI,ih,Function.comp_apply,He];by_cases h:r=a
  ·subst h;simp
  ·simp[h,jM h]
def EF(P:List (List Int))(a:List Int):k7 (ag a) (.list (P.map ag))=some (.bool (decide (a∈P))):=by
 have hs:SeqAt.shaped (ag a)=true:=(tE (b:=a.length) (k:=0) (yL _)).shaped (by decide);simp?[k7,On,hs,ja,jO,xG,Hu,zB]
def As(a b:D):small [a,b]=some [a,b]:=rfl
def mz:∀ (ρ:ar) (k:Nat),hand [] k ρ=ρ
 | [],k=>rfl
 | s::r,k=>by simp[hand,mz r]
def oU:∀ {ps:List D}{k:Nat}{i j:Int},[i,j]∈lV k ps↔∃m p,ps[m]?=some p/\i=((k+m:Nat):Int)/\j∈jw p
 | [],k,i,j=>by simp[lV]
 | p::ps,k,i,j=>by
  rw[lV,List.mem_append,oU (ps:=ps)];constructor
  ·rintro (h|⟨m,q,h1,h2,h3⟩)
   ·let⟨y,hy,e⟩:=List.mem_map.mp h;injection e with e1 e2
    injection e2 with e2 _
    exact⟨0,p,rfl,by simpa using e1.symm,e2 ▸ hy⟩
   ·exact⟨m+1,q,by simpa using h1,by rw[h2];congr 1;lia,h3⟩
  ·rintro⟨m,q,h1,h2,h3⟩;cases m with
   | zero =>
    simp at h1;subst h1;exact .inl (List.mem_map.mpr ⟨j,h3,by rw[h2];rfl⟩)
   | succ m=>exact .inr ⟨m,q,by simpa using h1,by rw[h2];congr 1;lia,h3⟩
def rR:∀ {ps:List D}{k:Nat},(∀p∈ps,(jw p).Nodup)->(lV k ps).Nodup
 | [],k,_=>List.nodup_nil
 | p::ps,k,h=>by
  rw[lV,Ze];refine⟨List.pairwise_map.mpr ((h p zE).imp λSo e=>So ?_),rR λq hq=>h q (zC _ hq),?_⟩;rotate_left
  ·injection e with _ e2
   injection e2
  ·rintro a ha b hb rfl;let⟨y,hy,rfl⟩:=List.mem_map.mp ha;let⟨m,q,h1,h2,h3⟩:=oU.mp hb;lia
def N5(h:Dl.lexLt a b=true):lexLe a b=true:=by
 unfold lexLe;cases e:Dl.lexLt b a with
 | false=>rfl
 | true=>have:=eH h e;rw[fV] at this;cases this
def dX(h:pY i j):Dl.cm (.int i) (.int j)=some (.int (i * j)):=by
 simp?[Dl.cm,sT,yK h,Option.some_or]
def gY(h:0 < j):Dl.g9 (.int i) (.int j)=some (.int (i % j)):=yK h
def je(h:0 < j/\j < 1073741824):Dl.iW (.int i) (.int j)=some (.int (i / j)):=yK h
def dy(i j:Int):Dl.nA (.int i) (.int j)=some (.bool (decide (j < i))):=rfl
def kh(i j:Int):Dl.A1 (.int i) (.int j)=some (.bool (decide (i < j))):=rfl
def jc(h:-(2 ^ 64) < i/\i < 2 ^ 64):pY i j:=.inl h
def LL(h:-(2 ^ 64) < j/\j < 2 ^ 64):pY i j:=.inr h
def ya(i:Int):Dl.jm (.int i)=true:=rfl
def ye(i:List D):Dl.jm (.tuple i)=false:=rfl
def cE(ns:List Int):D:=.list (ns.map PyData.int)
def MC(k:Int)(hl:ns.length<=63):∃c,eR [cE ns,.int k]=some (.int c):=by
 have heq:aY (.list (ns.map PyData.int)) (.list [])=some (.bool ns.isEmpty):=by
  have:=FA (b:=0) (k:=0) (xs:=ns.map PyData.int) (λx hx=>by let⟨i,_,rfl⟩:=List.mem_map.mp hx;exact gx i) (by decide);rw[this];cases ns<;>rfl
 by_cases hn:ns=[]
 ·subst hn;refine⟨7 * k,?_⟩;rw[yT,List.isEmpty_nil] at heq;simp! [eR,jg,cE,hU,heq,List.isEmpty_nil,dX (jc (i:=7) (j:=k) (by decide))]
 ·have TL:(0:Int) < (ns.length:Int):=by have:=List.length_pos_iff.mpr hn;lia
  have he:ns.isEmpty=false:=by cases ns<;>first|rfl|exact absurd rfl hn
  let⟨j,hj⟩:=vO (vZ k (show (ns.length:Int)≠0 by lia));have R6:=vD k TL;have hx:rq (ns.map PyData.int) (k % (ns.length:Int))=some (.int (ns.getD j 0)):=by
   rw[hj];have:j < (ns.map PyData.int).length:=by rw[zD];lia
   rw[ma this,zG,zO,zG];rw[zK (by lia)];rfl
  refine⟨ns.getD j 0+6553 * (k / (ns.length:Int)),?_⟩;simp! [eR,jg,cE,hU,heq,he,yN,zD,gY TL,hx,je (i:=k) (j:=(ns.length:Int)) ⟨TL,by lia⟩,dX (jc (i:=6553) (j:=k / (ns.length:Int)) (by decide))]
def HA(k many:Int)(hl:ns.length<=63)(hm:0 < many):∃r,av [cE ns,.int k,.int many]=some (.int r)/\0<=r/\r < many:=by
 let⟨c,hc⟩:=MC k hl;have m1:∀i:Int,Dl.g9 (.int i) (.int 2147483563)=some (.int (i % 2147483563)):=λi=>gY (by decide);have m2:∀i:Int,Dl.g9 (.int i) (.int 2147483399)=some (.int (i % 2147483399)):=λi=>gY (by decide);have m3:∀i:Int,Dl.g9 (.int i) (.int 2147483647)=some (.int (i % 2147483647)):=λi=>gY (by decide);have d1:∀i:Int,Dl.iW (.int i) (.int 3)=some (.int (i / 3)):=λi=>je (by decide);have d2:∀i:Int,Dl.iW (.int i) (.int 7)=some (.int (i / 7)):=λi=>je (by decide);have d3:∀i:Int,Dl.iW (.int i) (.int 11)=some (.int (i / 11)):=λi=>je (by decide);have u1:∀i:Int,Dl.cm (.int i) (.int 69069)=some (.int (i * 69069)):=λi=>dX (LL (by decide));have u2:∀i:Int,Dl.cm (.int 104723) (.int i)=some (.int (104723 * i)):=λi=>dX (jc (by decide));have b1:∀x:Int,Dl.cm (.int (x % 2147483563)) (.int (x % 2147483563))=some (.int (x % 2147483563 * (x % 2147483563))):=λx=>dX (jc (by
  have:=vZ x (show (2147483563:Int)≠0 by decide);have:=vD x (show (0:Int) < 2147483563 by decide);lia))
 have b2:∀x:Int,Dl.cm (.int (x % 2147483399)) (.int (x % 2147483399))=some (.int (x % 2147483399 * (x % 2147483399))):=λx=>dX (jc (by
  have:=vZ x (show (2147483399:Int)≠0 by decide);have:=vD x (show (0:Int) < 2147483399 by decide);lia))
 suffices h:∃x,av [cE ns,.int k,.int many]=some (.int (x % many)) by
  let⟨x,hx⟩:=h;exact⟨_,hx,vZ x (show many≠0 by lia),vD x hm⟩
 ·refine⟨(((((c % 2147483563 * 69069+104723 * (k+1)) % 2147483563) * ((c % 2147483563 * 69069+104723 * (k+1)) % 2147483563)+((c % 2147483563 * 69069+104723 * (k+1)) % 2147483563) / 3) % 2147483399) * ((((c % 2147483563 * 69069+104723 * (k+1)) % 2147483563) * ((c % 2147483563 * 69069+104723 * (k+1)) % 2147483563)+((c % 2147483563 * 69069+104723 * (k+1)) % 2147483563) / 3) % 2147483399)+((((c % 2147483563 * 69069+104723 * (k+1)) % 2147483563) * ((c % 2147483563 * 69069+104723 * (k+1)) % 2147483563)+((c % 2147483563 * 69069+104723 * (k+1)) % 2147483563) / 3) % 2147483399) / 7) % 2147483647 / 11,?_⟩;simp! [av,l8,hc,m1,u1,u2,Dl.aI,ya,yV,yU,b1,d1,m2,b2,d2,m3,d3,gY (j:=many) hm]
def dr(ns:List Int)(k many:Int):Int:=kj ((av [cE ns,.int k,.int many]).getD .none)
def fZ(k many:Int)(hl:ns.length<=63)(hm:0 < many):av [cE ns,.int k,.int many]=some (.int (dr ns k many))/\0<=dr ns k many/\dr ns k many < many:=by
 let⟨r,h1,h2⟩:=HA k many hl hm;have:dr ns k many=r:=by simp?[dr,h1,qF,kj]
 rw[this];exact⟨h1,h2⟩
def sx(k many:Int)(hl:ns.length<=63)(hm:0 < many):av [cE ns,.int k,.int many]=some (.int (dr ns k many)):=(fZ k many hl hm).1
def Ks(k many:Int)(hl:ns.length<=63)(hm:0 < many):0<=dr ns k many:=(fZ k many hl hm).2.1
def Kw(k many:Int)(hl:ns.length<=63)(hm:0 < many):dr ns k many < many:=(fZ k many hl hm).2.2
def cq(r:List Int):D:=.list (r.map PyData.int)
def insI(ds:List Int)(k:Int)(d:Int):List Int:=let j:=if k < 0 then (k+(ds.length:Int)).toNat else min k.toNat ds.length;ds.take j++d::ds.drop j
def Cu(ds:List Int)(k d:Int):BR (ds.map PyData.int) k (.int d)=(insI ds k d).map PyData.int:=by
 simp?[BR,insI,zD,qZ,zI,List.map_take,List.map_drop]
def insI_perm(ds:List Int)(k d:Int):(insI ds k d).Perm (d::ds):=by
 simp?[insI];refine List.perm_middle.trans ?_;rw[List.take_append_drop]
def oB:ar->Option Out:=(DZ 6 [8] (ai 3 av (aa (ae 0) (aa (f2 aB (f2 aB (ae 1) (f2 cm (fC (.int 4)) (ae 4))) (ae 7)) (aa (f2 aB (bz bg (aa (ae 6) af)) (fC (.int 1))) af)))) (ae 8))
def zw{s3:Slot}(hl:ns.length<=63)(ho:order.length<=1000) :
  oB [.val (cE ns),.val (.int a),s2,s3,.val (.int k),s5,.own (order.map PyData.int),.val (.int j),.val (.int x)] =
   some (.nx [.val (cE ns),.val (.int a),s2,s3,.val (.int k),s5,.own ((insI order (dr ns (a+4 * k+j) ((order.length:Int)+1)) x).map PyData.int),.val (.int j),.val (.int x)]):=by
 have h4:Dl.cm (.int 4) (.int k)=some (.int (4 * k)):=dX (jc (by decide));have hd:=fZ (ns:=ns) (a+4 * k+j) ((order.length:Int)+1) hl (by lia);have hr:uN (dr ns (a+4 * k+j) ((order.length:Int)+1))=true:=by
  simp?[uN,zF,zJ];lia
 have hz:(order.map PyData.int).length < sizeLine:=by rw[zD];exact qY ho (by decide)
 simp! [oB,DZ,md,ya,mO,zD,h4,hd.1];rw[zD] at hz;simp?[hr,hz,jO,xG,zB,Cu,yV,yU]
def Ea{s3:Slot}(hl:ns.length<=63):∀ {row order:List Int}{j:Nat}{s7 s8:Slot},order.length+row.length<=1000 ->
  ∃ (o:List Int) (t7 t8:Slot),d9 (eV 7 8) oB (bG j (row.map PyData.int)) [.val (cE ns),.val (.int a),s2,s3,.val (.int k),s5,.own (order.map PyData.int),s7,s8] =
   some (.nx [.val (cE ns),.val (.int a),s2,s3,.val (.int k),s5,.own (o.map PyData.int),t7,t8])/\o.Perm (row++order)
 | [],order,j,s7,s8,_=>⟨order,s7,s8,by simp[bG,d9],by simp⟩
 | x::row,order,j,s7,s8,h=>by
  rw[zL] at h;have hp:=insI_perm order (dr ns (a+4 * k+((j:Nat):Int)) ((order.length:Int)+1)) x;have hlen:=hp.length_eq;rw[zL] at hlen;let⟨o,t7,t8,e,p⟩:=Ea (s2:=s2) (s3:=s3) (s5:=s5) (a:=a) (k:=k) hl (row:=row) (order:=insI order (dr ns (a+4 * k+((j:Nat):Int)) ((order.length:Int)+1)) x) (j:=j+1) (s7:=.val (.int (j:Nat))) (s8:=.val (.int x)) (by lia);refine⟨o,t7,t8,?_,p.trans ?_⟩
  ·have hs:eV 7 8 [.val (cE ns),.val (.int a),s2,s3,.val (.int k),s5,.own (order.map PyData.int),s7,s8] (.tuple [.int (j:Nat),.int x])=some [.val (cE ns),.val (.int a),s2,s3,.val (.int k),s5,.own (order.map PyData.int),.val (.int (j:Nat)),.val (.int x)]:=rfl;simp?[zI,bG,d9,hs,zA,zw hl (show order.length<=1000 by lia),e]
  ·refine (hp.append_left row).trans ?_;rw[xE];exact List.perm_middle
def qq:List (List Int)->List (List Int)->Prop|[],[]=>True|a::l,b::m=>a.Perm b/\qq l m|_,_=>False
def rB:ar->Option Out:=(au (br 6 [] (dg af)) (au (cN [5] (bD (aa (ae 5) af)) (eV 7 8) oB) (k6 3 [6] (bz dD (aa (ae 6) af)))))
def Mx(hl:ns.length<=63)(hr:row.length<=1000)(hf:found.length<=1000) :
  ∃ (o:List Int) (t7 t8:Slot),rB [.val (cE ns),.val (.int a),.val rows,.own found,.val (.int k),.val (cq row),s6,s7,s8]=some (.nx [.val (cE ns),.val (.int a),.val rows,.own (found++[ag o]),.val (.int k),.val (cq row),.val (cq o),t7,t8])/\o.Perm row:=by
 let⟨o,t7,t8,e,p⟩:=Ea (s2:=.val rows) (s3:=.own found) (s5:=.val (cq row)) (a:=a) (k:=k) hl (row:=row) (order:=[]) (j:=0) (s7:=s7) (s8:=s8) (by simpa using hr);rw[qE] at p;refine⟨o,t7,t8,?_,p⟩;have h1:br 6 [] (dg af) [.val (cE ns),.val (.int a),.val rows,.own found,.val (.int k),.val (cq row),s6,s7,s8]=some (.nx [.val (cE ns),.val (.int a),.val rows,.own found,.val (.int k),.val (cq row),.own [],s7,s8]):=by
  simp?[br,mz,dg,af,zA,hU,zB,yV,yU]
 have h2:cN [5] (bD (aa (ae 5) af)) (eV 7 8) oB [.val (cE ns),.val (.int a),.val rows,.own found,.val (.int k),.val (cq row),.own [],s7,s8]=some (.nx [.val (cE ns),.val (.int a),.val rows,.own found,.val (.int k),.val (cq row),.own (o.map PyData.int),t7,t8]):=by
  have hh:hand [5] 0 [Slot.val (cE ns),.val (.int a),.val rows,.own found,.val (.int k),.val (cq row),.own [],s7,s8]=[Slot.val (cE ns),.val (.int a),.val rows,.own found,.val (.int k),.val (cq row),.own [],s7,s8]:=rfl;have hq:bD (aa (ae 5) af) (bN [Slot.val (cE ns),.val (.int a),.val rows,.own found,.val (.int k),.val (cq row),.own [],s7,s8])=some (bG 0 (row.map PyData.int)):=by
   simp?[bN,zI,yT];simp! [bD,cq]
  simp?[cN,hh,hq,zA];exact e
 have h3:k6 3 [6] (bz dD (aa (ae 6) af)) [.val (cE ns),.val (.int a),.val rows,.own found,.val (.int k),.val (cq row),.own (o.map PyData.int),t7,t8]=some (.nx [.val (cE ns),.val (.int a),.val rows,.own (found++[ag o]),.val (.int k),.val (cq row),.val (cq o),t7,t8]):=by
  have hz:found.length < sizeLine:=qY hf (by decide);have hh:hand [6] 0 [Slot.val (cE ns),.val (.int a),.val rows,.own found,.val (.int k),.val (cq row),.own (o.map PyData.int),t7,t8]=[Slot.val (cE ns),.val (.int a),.val rows,.own found,.val (.int k),.val (cq row),.val (cq o),t7,t8]:=rfl;simp?[k6,md,hh,bN,zI,yT];simp! [ye,yN,mO,hz,yV,yU,cq,ag]
 simp?[rB,au,h1,h2,h3,zA]
def Ef{rws:D}(hl:ns.length<=63):∀ {rows:List (List Int)}{found:List D}{k:Nat}{s4 s5 s6 s7 s8:Slot},(∀r∈rows,r.length<=1000)->found.length+rows.length<=1000 ->
  ∃ (os:List (List Int)) (t4 t5 t6 t7 t8:Slot),d9 (eV 4 5) rB (bG k (rows.map cq)) [.val (cE ns),.val (.int a),.val rws,.own found,s4,s5,s6,s7,s8]=some (.nx [.val (cE ns),.val (.int a),.val rws,.own (found++os.map ag),t4,t5,t6,t7,t8])/\qq os rows
 | [],found,k,s4,s5,s6,s7,s8,_,_=>⟨[],s4,s5,s6,s7,s8,by simp[bG,d9],trivial⟩
 | r::rows,found,k,s4,s5,s6,s7,s8,h,hf=>by
  rw[zL] at hf;let⟨o,u7,u8,e1,p1⟩:=Mx (rows:=rws) (a:=a) (k:=((k:Nat):Int)) (s6:=s6) (s7:=s7) (s8:=s8) hl (h r zE) (show found.length<=1000 by lia);let⟨os,t4,t5,t6,t7,t8,e,p⟩:=Ef hl (rws:=rws) (a:=a) (rows:=rows) (found:=found++[ag o]) (k:=k+1) (s4:=.val (.int (k:Nat))) (s5:=.val (cq r)) (s6:=.val (cq o)) (s7:=u7) (s8:=u8) (λr' TC=>h r' (zC _ TC)) (by rw[zN,xB];lia);refine⟨o::os,t4,t5,t6,t7,t8,?_,p1,p⟩;have hs:eV 4 5 [.val (cE ns),.val (.int a),.val rws,.own found,s4,s5,s6,s7,s8] (.tuple [.int (k:Nat),cq r])=some [.val (cE ns),.val (.int a),.val rws,.own found,.val (.int (k:Nat)),.val (cq r),s6,s7,s8]:=rfl;simp?[zI,bG,d9,hs,zA,e1];rw[e,List.append_assoc];rfl
def xx(hl:ns.length<=63)(hr:∀r∈rows,r.length<=1000)(hn:rows.length<=1000):∃os:List (List Int),bZ [cE ns,.int a,.list (rows.map cq)]=some (.list (os.map ag))/\qq os rows:=by
 let⟨os,t4,t5,t6,t7,t8,e,p⟩:=Ef hl (rws:=.list (rows.map cq)) (a:=a) (rows:=rows) (found:=[]) (k:=0) (s4:=.RK) (s5:=.RK) (s6:=.RK) (s7:=.RK) (s8:=.RK) hr (by simpa using hn);refine⟨os,?_,p⟩;rw[xN] at e;have h1:br 3 [] (dg af) [.val (cE ns),.val (.int a),.val (.list (rows.map cq)),.RK,.RK,.RK,.RK,.RK,.RK]=some (.nx [.val (cE ns),.val (.int a),.val (.list (rows.map cq)),.own [],.RK,.RK,.RK,.RK,.RK]):=by
  simp?[br,mz,dg,af,zA,hU,zB,yV,yU]
 have h2:cN [2] (bD (aa (ae 2) af)) (eV 4 5) rB [.val (cE ns),.val (.int a),.val (.list (rows.map cq)),.own [],.RK,.RK,.RK,.RK,.RK]=some (.nx [.val (cE ns),.val (.int a),.val (.list (rows.map cq)),.own (os.map ag),t4,t5,t6,t7,t8]):=by
  have hh:hand [2] 0 [Slot.val (cE ns),.val (.int a),.val (.list (rows.map cq)),.own [],.RK,.RK,.RK,.RK,.RK]=[Slot.val (cE ns),.val (.int a),.val (.list (rows.map cq)),.own [],.RK,.RK,.RK,.RK,.RK]:=rfl;have hq:bD (aa (ae 2) af) (bN [Slot.val (cE ns),.val (.int a),.val (.list (rows.map cq)),.own [],.RK,.RK,.RK,.RK,.RK])=some (bG 0 (rows.map cq)):=by
   simp?[bN,zI,yT];simp! [bD]
  simp?[cN,hh,hq,zA];exact e
 unfold rB oB at h2;simp! [bZ,lx,h1,h2]
abbrev Pl:=Int×List Int
abbrev Wy:=Int×Int×Int
def ba(p:Pl):D:=.tuple [.int p.1,ag p.2]
def aA(w:Wy):D:=.tuple [.int w.1,.int w.2.1,.int w.2.2]
def aH(G T:List Pl)(W:List Wy):D:=.tuple [.tuple (G.map ba),.tuple (T.map ba),.tuple (W.map aA)]
def wg(W:List Wy)(i:Int):List Int:=(W.filter λw=>decide (w.1=i)).map λw=>w.2.1
def ofT(W:List Wy)(j:Int):List Int:=(W.filter λw=>decide (w.2.1=j)).map λw=>w.1
abbrev D5(W:List Wy):Prop:=W.Pairwise λa b=>a.1 < b.1\/(a.1=b.1/\a.2.1 < b.2.1)
structure Wd(G T:List Pl)(W:List Wy):Prop where
 g1:1<=G.length
 g4:G.length<=4
 t1:1<=T.length
 t4:T.length<=4
 ga:∀p∈G,0<=p.1/\p.1<=9
 ta:∀p∈T,0<=p.1/\p.1<=9
 gl:∀ (i:Nat) (p:Pl),G[i]?=some p->p.2.Perm (wg W i)
 tl:∀ (j:Nat) (p:Pl),T[j]?=some p->p.2.Perm (ofT W j)
 wr:∀w∈W,(0<=w.1/\w.1 < G.length)/\(0<=w.2.1/\w.2.1 < T.length)/\1<=w.2.2/\w.2.2<=9
 wp:D5 W
 wl:W.length<=16
def ua:j∈wg W i↔[i,j]∈W.map λw=>[w.1,w.2.1]:=by
 simp?[wg,List.mem_map,List.mem_filter,zJ,kZ,and_true];constructor
 ·rintro⟨w,⟨h1,h2⟩,h3⟩;exact⟨w,h1,h2,h3⟩
 ·rintro⟨w,h1,h2,h3⟩;exact⟨w,⟨h1,h2⟩,h3⟩
def ug:i∈ofT W j↔[i,j]∈W.map λw=>[w.1,w.2.1]:=by
 simp?[ofT,List.mem_map,List.mem_filter,zJ,kZ,and_true];constructor
 ·rintro⟨w,⟨h1,h2⟩,h3⟩;exact⟨w,h1,h3,h2⟩
 ·rintro⟨w,h1,h2,h3⟩;exact⟨w,⟨h1,h3⟩,h2⟩
def mW(h:D5 W)(i:Int):(wg W i).Nodup:=by
 unfold wg List.Nodup;rw[jD,List.pairwise_filter];refine h.imp λSY ha hb=>?_;rw[zJ] at ha hb;lia
def nR(h:D5 W)(i:Int):(ofT W i).Nodup:=by
 unfold ofT List.Nodup;rw[jD,List.pairwise_filter];refine h.imp λSY ha hb=>?_;rw[zJ] at ha hb;lia
def fI(p:Pl):jw (ba p)=p.2:=by
 show ((p.2.map PyData.int).map kj)=p.2;rw[zM];exact List.map_id _
def nV(ha:0<=p.1/\p.1<=9)(hn:p.2.Nodup)(hr:∀j∈p.2,0<=j/\j < n):placeOk n (ba p)=true:=by
 have e:(p.2.map PyData.int).map kj=p.2:=fI p;have e2:(p.2.map PyData.int).all (whole 0 (n - 1))=true:=by
  rw[xF];intro x hx;let⟨j,hj,rfl⟩:=List.mem_map.mp hx;have:=hr j hj;simp?[whole,zF,zJ];lia
 simp?[placeOk,ba,ag,zL,xJ,wK,wL,ik,whole,e,e2,ha.1,ha.2,hn,jP,Bool.and_self]
def Cq(h:(0<=w.1/\w.1 < g)/\(0<=w.2.1/\w.2.1 < t)/\1<=w.2.2/\w.2.2<=9):iQ g t (aA w)=true:=by
 let⟨⟨a,b⟩,⟨c,d⟩,e,f⟩:=h;have b':w.1<=g - 1:=by lia
 have d':w.2.1<=t - 1:=by lia
 simp?[iQ,aA,zL,xJ,wK,wL,whole,a,b',c,d',e,f,jP,Bool.and_self]
def Qz(h:a < c\/(a=c/\b < d)):Dl.lexLt [a,b] [c,d]=true:=by
 show HT.lexLt [a,b] [c,d]=true;rw[HT.et];by_cases e:a=c
 ·rw[yK e,HT.et,yM (by lia)];simp?[zJ];lia
 ·rw[yM e];simp?[zJ];lia
def Wd.VP(h:Wd G T W)(hp:p∈G):∃i:Nat,i < G.length/\p.2.Perm (wg W i):=by
 let⟨i,hi,e⟩:=qP hp;exact⟨i,hi,h.gl i p (by rw[zK hi,e])⟩
def Wd.VQ(h:Wd G T W)(hp:p∈T):∃i:Nat,i < T.length/\p.2.Perm (ofT W i):=by
 let⟨i,hi,e⟩:=qP hp;exact⟨i,hi,h.tl i p (by rw[zK hi,e])⟩
def Wd.gok(h:Wd G T W):(G.map ba).all (placeOk T.length)=true:=by
 rw[xF];intro x hx;let⟨p,hp,rfl⟩:=List.mem_map.mp hx;let⟨i,hi,q⟩:=h.VP hp;refine nV (h.ga p hp) (q.nodup_iff.mpr (mW h.wp _)) λj hj=>?_;let⟨w,hw,e⟩:=List.mem_map.mp (ua.mp (q.mem_iff.mp hj));injection e with e1 e2
 injection e2 with e2 _
 have:=(h.wr w hw).2.1;rw[e2] at this;exact this
def Wd.tok(h:Wd G T W):(T.map ba).all (placeOk G.length)=true:=by
 rw[xF];intro x hx;let⟨p,hp,rfl⟩:=List.mem_map.mp hx;let⟨i,hi,q⟩:=h.VQ hp;refine nV (h.ta p hp) (q.nodup_iff.mpr (nR h.wp _)) λj hj=>?_;let⟨w,hw,e⟩:=List.mem_map.mp (ug.mp (q.mem_iff.mp hj));injection e with e1 e2
 have:=(h.wr w hw).1;rw[e1] at this;exact this
def pA{W:List Wy}{p:Wy->Bool}(h:W.length<=16):(W.filter p).length<=16:=yD (xO _ _) h
def AX(h:p.2.length<=16):gP 16 2 (ba p):=.tup (by simp?[zL,xJ];lia) λx hx=>by
 rcases List.mem_cons.mp hx with rfl|hx
 ·exact gx _
 ·rw[yI] at hx;subst hx;exact tE h
def IC(w:Wy):gP 16 1 (aA w):=.tup (by simp?[zL,xJ];lia) λx hx=>by
 simp?[zQ,yF,xS] at hx;rcases hx with rfl|rfl|rfl<;>exact gx _
def Wd.fit(h:Wd G T W):gP 16 4 (aH G T W):=by
 refine .tup (by simp?[zL,xJ];lia) λx hx=>?_;simp?[zQ,yF,xS] at hx;have h4:=h.g4;have h5:=h.t4;have h6:=h.wl;rcases hx with rfl|rfl|rfl
 ·refine .tup (by rw[zD];lia) λx hx=>?_;let⟨p,hp,rfl⟩:=List.mem_map.mp hx;let⟨i,hi,q⟩:=h.VP hp;exact AX (by rw[q.length_eq,wg,zD];exact pA h.wl)
 ·refine .tup (by rw[zD];lia) λx hx=>?_;let⟨p,hp,rfl⟩:=List.mem_map.mp hx;let⟨i,hi,q⟩:=h.VQ hp;exact AX (by rw[q.length_eq,ofT,zD];exact pA h.wl)
 ·refine .tup (by rw[zD];lia) λx hx=>?_;let⟨p,hp,rfl⟩:=List.mem_map.mp hx;exact (IC p).mono (yL _) (by decide)
def Cn(h0:0<=c)(h9:c<=9):Wd [(c,[0,1]),(c,[1,0])] [(c,[1,0]),(c,[0,1])] [(0,0,2),(0,1,2),(1,0,2),(1,1,2)] where
 g1:=by simp?[zL,xJ];lia
 g4:=by simp?[zL,xJ];lia
 t1:=by simp?[zL,xJ];lia
 t4:=by simp?[zL,xJ];lia
 ga:=by intro p hp;simp?[zQ,yF,xS] at hp;rcases hp with rfl|rfl<;>exact⟨h0,h9⟩
 ta:=by intro p hp;simp?[zQ,yF,xS] at hp;rcases hp with rfl|rfl<;>exact⟨h0,h9⟩
 gl:=by
  intro i p hp
  match i,hp with
  | 0,hp=>injection hp with hp;subst hp;exact (show List.Perm ([0,1]:List Int) (wg [(0,0,2),(0,1,2),(1,0,2),(1,1,2)] ((0:Nat):Int)) by decide)
  | 1,hp=>injection hp with hp;subst hp;exact (show List.Perm ([1,0]:List Int) (wg [(0,0,2),(0,1,2),(1,0,2),(1,1,2)] ((1:Nat):Int)) by decide)
 tl:=by
  intro i p hp
  match i,hp with
  | 0,hp=>injection hp with hp;subst hp;exact (show List.Perm ([1,0]:List Int) (ofT [(0,0,2),(0,1,2),(1,0,2),(1,1,2)] ((0:Nat):Int)) by decide)
  | 1,hp=>injection hp with hp;subst hp;exact (show List.Perm ([0,1]:List Int) (ofT [(0,0,2),(0,1,2),(1,0,2),(1,1,2)] ((1:Nat):Int)) by decide)
 wr:=show ∀w∈([(0,0,2),(0,1,2),(1,0,2),(1,1,2)]:List Wy),(0<=w.1/\w.1 < ((2:Nat):Int))/\(0<=w.2.1/\w.2.1 < ((2:Nat):Int))/\1<=w.2.2/\w.2.2<=9 by decide
 wp:=by decide
 wl:=by decide
def iY(f:Nat->Int):Nat->List (List Int)->List Pl|_,[]=>[]|k,r::rs=>(f k,r)::iY f (k+1) rs
def g8(f:Nat->Int):∀ (rs:List (List Int)) (k:Nat),(iY f k rs).length=rs.length
 | [],k=>rfl
 | r::rs,k=>by rw[iY,zL,zL,g8 f rs]
def gQ(f:Nat->Int):∀ {rs:List (List Int)}{k i:Nat}{p:Pl},(iY f k rs)[i]?=some p->∃r,rs[i]?=some r/\p=(f (k+i),r)
 | [],k,i,p,h=>by simp[iY] at h
 | r::rs,k,0,p,h=>by simp[iY] at h;exact⟨r,rfl,h.symm⟩
 | r::rs,k,i+1,p,h=>by
  simp?[iY,yX] at h;let⟨y,h1,h2⟩:=gQ f h;exact⟨y,by simpa using h1,by rw[h2];congr 2;lia⟩
def eC:∀ {a b:List (List Int)},qq a b->a.length=b.length
 | [],[],_=>rfl
 | x::a,y::b,h=>by rw[zL,zL,eC h.2]
 | [],_::_,h=>h.elim
 | _::_,[],h=>h.elim
def m8:∀ {a b:List (List Int)}{i:Nat}{r:List Int},qq a b->a[i]?=some r->∃s,b[i]?=some s/\r.Perm s
 | [],[],i,r,_,h=>by simp at h
 | x::a,y::b,0,r,h,e=>by
  simp?[xP,yJ] at e;subst e;exact⟨y,rfl,h.1⟩
 | x::a,y::b,i+1,r,h,e=>by
  simp?[yX] at e;let⟨s,h1,h2⟩:=m8 h.2 e;exact⟨s,by simpa using h1,h2⟩
 | [],_::_,i,r,h,_=>h.elim
 | _::_,[],i,r,h,_=>h.elim
def lh(W:List Wy)(m:Nat):List (List Int):=(List.range m).map λi=>wg W ((i:Nat):Int)
def iR(W:List Wy)(m:Nat):List (List Int):=(List.range m).map λi=>ofT W ((i:Nat):Int)
def Ia(m1:1<=m)(m4:m<=4)(s1:1<=s)(s4:s<=4)(hf:∀k,0<=f k/\f k<=9)(hg:∀k,0<=g k/\g k<=9)
  (hm:qq RX (lh W m)) (hy:qq Sa (iR W s)) (wr:∀w∈W,(0<=w.1/\w.1 < m)/\(0<=w.2.1/\w.2.1 < s)/\1<=w.2.2/\w.2.2<=9) (wp:D5 W) (wl:W.length<=16):Wd (iY f 0 RX) (iY g 0 Sa) W:=by
 have lm:(iY f 0 RX).length=m:=by rw[g8,eC hm,lh,zD,zR]
 have ly:(iY g 0 Sa).length=s:=by rw[g8,eC hy,iR,zD,zR]
 have am:∀ {h:Nat->Int}{rs:List (List Int)},(∀k,0<=h k/\h k<=9)->∀p∈iY h 0 rs,0<=p.1/\p.1<=9:=λ{h rs} hh p hp=>by
  let⟨i,hi⟩:=List.mem_iff_getElem?.mp hp;let⟨r,_,rfl⟩:=gQ h hi;exact hh _
 refine⟨by lia,by lia,by lia,by lia,am hf,am hg,λi p hp=>?_,λi p hp=>?_,by rw[lm,ly];exact wr,wp,wl⟩
 ·let⟨r,h1,rfl⟩:=gQ f hp;let⟨t,h2,h3⟩:=m8 hm h1;rw[lh,zO] at h2;let⟨k,hk,rfl⟩:=Option.map_eq_some_iff.mp h2;have:k=i:=by
   rw[zT] at hk;let⟨h,e⟩:=hk;rw[List.getElem_range] at e;exact e.symm
  subst this;exact h3
 ·let⟨r,h1,rfl⟩:=gQ g hp;let⟨t,h2,h3⟩:=m8 hy h1;rw[iR,zO] at h2;let⟨k,hk,rfl⟩:=Option.map_eq_some_iff.mp h2;have:k=i:=by
   rw[zT] at hk;let⟨h,e⟩:=hk;rw[List.getElem_range] at e;exact e.symm
  subst this;exact h3
def dJ{i:Nat}{fz:List Nat}{f:Dl.Env->Option D}{ρ ρ':ar}{d:D}(hf:f (aJ ρ)=some d)(hs:Dl.jm d=false)(hh:hand fz 0 ρ=ρ')(hv:bN ρ'=aJ ρ)(hr:gq d=false\/ρ'=ρ:=by first|exact .inr rfl|exact .inl rfl):Dl.aI i fz f ρ=some (.nx (ρ'.set i (.val d))):=by
 rcases hr with hr|hr
 ·simp?[Dl.aI,hf,zA,hs,yN,qN,hh,hv,zB,hr]
 ·subst hr;simp?[Dl.aI,hf,zA,hs,yN,qN,hh,hv,zB,ite_self]
def dN{i:Nat}{fz:List Nat}{f:Dl.Env->Option D}{ρ:ar}{d:D}(hf:f (aJ ρ)=some d)(hs:Dl.jm d=true):Dl.aI i fz f ρ=some (.nx (ρ.set i (.val d))):=by
 simp?[Dl.aI,hf,zA,hs,xG]
def Kc(w:Wy):aw (aA w) (.int 0)=some (.int w.1):=rfl
def JR(w:Wy):aw (aA w) (.int 1)=some (.int w.2.1):=rfl
def Af(a b c:D):small [a,b,c]=some [a,b,c]:=rfl
def Oz{a b s:Int}(hs:s=1\/s=2\/s=3)(h:a < b):a / s < b / s\/(a / s=b / s/\a % s < b % s):=by rcases hs with rfl|rfl|rfl<;>lia
def M4{k m s:Int}(hs:s=1\/s=2\/s=3)(hm:m=1\/m=2\/m=3)(h0:0<=k)(h:k < m * s):(0<=k / s/\k / s < m)/\0<=k % s/\k % s < s:=by
 rcases hs with rfl|rfl|rfl<;>rcases hm with rfl|rfl|rfl<;>lia
def lB:ar->Option Out:=(dE (cH (fB (f2 A1 (bz bg (aa (ae 7) af)) (ae 2))) (fB (f2 nA (ai 3 av (aa (ae 0) (aa (f2 aB (f2 aB (ae 1) (fC (.int 2))) (ae 8)) (aa (fC (.int 4)) af)))) (fC (.int 0))))) (k6 7 [0,1,6,8] (ax (aa (f2 iW (ae 8) (ae 6)) (aa (f2 g9 (ae 8) (ae 6)) (aa (f2 aB (fC (.int 1)) (ai 3 av (aa (ae 0) (aa (f2 aB (f2 aB (ae 1) (fC (.int 12))) (ae 8)) (aa (fC (.int 2)) af))))) af))))) cP)
abbrev st(ns:List Int)(a mo m s:Int)(x4 x7 x8 x9 x10 x11:Slot):ar:=[.val (cE ns),.val (.int a),.val (.int mo),.RK,x4,.val (.int m),.val (.int s),x7,x8,x9,x10,x11]
def Jm(ns:List Int)(a mo s k:Int)(W:List Wy):List Wy:=if (W.length:Int) < mo/\0 < dr ns (a+2+k) 4 then W++[(k / s,k % s,1+dr ns (a+12+k) 2)] else W
def KZ{ns:List Int}{a mo m s k:Int}{W:List Wy}(hl:ns.length<=63)(hs:s=1\/s=2\/s=3)(hw:W.length<=9) :
  lB (st ns a mo m s .RK (.own (W.map aA)) (.val (.int k)) .RK .RK .RK)=some (.nx (st ns a mo m s .RK (.own ((Jm ns a mo s k W).map aA)) (.val (.int k)) .RK .RK .RK)):=by
 have hs0:0 < s:=by lia
 have hz:W.length < sizeLine:=qY hw (by decide);have hd:Dl.iW (.int k) (.int s)=some (.int (k / s)):=je ⟨hs0,by lia⟩;have hm:Dl.g9 (.int k) (.int s)=some (.int (k % s)):=gY hs0;have e4:=sx (ns:=ns) (a+2+k) 4 hl (by decide);have e2:=sx (ns:=ns) (a+12+k) 2 hl (by decide);have hh:hand [0,1,6,8] 0 (st ns a mo m s .RK (.own (W.map aA)) (.val (.int k)) .RK .RK .RK)=st ns a mo m s .RK (.own (W.map aA)) (.val (.int k)) .RK .RK .RK:=rfl;have ha:k6 7 [0,1,6,8] (ax (aa (f2 iW (ae 8) (ae 6)) (aa (f2 g9 (ae 8) (ae 6)) (aa (f2 aB (fC (.int 1)) (ai 3 av (aa (ae 0) (aa (f2 aB (f2 aB (ae 1) (fC (.int 12))) (ae 8)) (aa (fC (.int 2)) af))))) af)))) (st ns a mo m s .RK (.own (W.map aA)) (.val (.int k)) .RK .RK .RK)=some (.nx (st ns a mo m s .RK (.own ((W++[(k / s,k % s,1+dr ns (a+12+k) 2)]).map aA)) (.val (.int k)) .RK .RK .RK)):=by
  simp?[k6,md,hh,bN,zI,yT];simp! [ye,yN,mO,hd,hm,e2,Af,zD,hz,yV,yU,qZ];rfl
 by_cases c1:(W.length:Int) < mo
 ·by_cases c2:0 < dr ns (a+2+k) 4
  ·rw[show Jm ns a mo s k W=W++[(k / s,k % s,1+dr ns (a+12+k) 2)] from yK ⟨c1,c2⟩,<- ha];simp! [lB,kh,dy,zD,c1,c2,jP,gD,e4]
  ·rw[show Jm ns a mo s k W=W from yM λh=>c2 h.2];simp! [lB,kh,dy,zD,c1,c2,jP,wZ,gD,e4,yN]
 ·rw[show Jm ns a mo s k W=W from yM λh=>c1 h.1];simp! [lB,kh,dy,zD,c1,wZ,gD,yN]
structure C4(mo s k:Int)(W:List Wy):Prop where
 mem:∀w∈W,∃j:Int,0<=j/\j < k/\w.1=j / s/\w.2.1=j % s/\1<=w.2.2/\w.2.2<=2
 ZQ:D5 W
 len:(W.length:Int)<=k
 lem:(W.length:Int)<=mo
def C4.next{ns:List Int}{a mo s k:Int}{W:List Wy}(hl:ns.length<=63)(hs:s=1\/s=2\/s=3)(hk:0<=k)(h:C4 mo s k W):C4 mo s (k+1) (Jm ns a mo s k W):=by
 have old:∀w∈W,∃j:Int,0<=j/\j < k+1/\w.1=j / s/\w.2.1=j % s/\1<=w.2.2/\w.2.2<=2:=λw hw=>by
  let⟨j,a,b,c⟩:=h.mem w hw;exact⟨j,a,by lia,c⟩
 by_cases c:(W.length:Int) < mo/\0 < dr ns (a+2+k) 4
 ·rw[show Jm ns a mo s k W=W++[(k / s,k % s,1+dr ns (a+12+k) 2)] from yK c];have g1:=Ks (ns:=ns) (a+12+k) 2 hl (by decide);have g2:=Kw (ns:=ns) (a+12+k) 2 hl (by decide);refine⟨λw hw=>?_,?_,?_,?_⟩
  ·rcases List.mem_append.mp hw with hw|hw
   ·exact old w hw
   ·rw[yI] at hw;subst hw;exact⟨k,hk,by lia,rfl,rfl,by simp only;lia,by simp only;lia⟩
  ·refine List.pairwise_append.mpr ⟨h.ZQ,vN _ _,λa ha b hb=>?_⟩;rw[yI] at hb;subst hb;let⟨j,_,b,c1,c2,_⟩:=h.mem a ha;rw[c1,c2];exact Oz hs b
  ·have:=h.len;rw[zN,xB];lia
  ·have:=c.1;rw[zN,xB];lia
 ·rw[show Jm ns a mo s k W=W from yM c];exact⟨old,h.ZQ,by have:=h.len;lia,h.lem⟩
def Em{ns:List Int}{a mo m s:Int}(hl:ns.length<=63)(hs:s=1\/s=2\/s=3):∀ (n k:Nat) {W:List Wy}{x8:Slot},k+n<=9->C4 mo s k W ->
  ∃W' t8,d9 (oE 8) lB ((List.range' k n).map λi=>PyData.int ((i:Nat):Int)) (st ns a mo m s .RK (.own (W.map aA)) x8 .RK .RK .RK)=some (.nx (st ns a mo m s .RK (.own (W'.map aA)) t8 .RK .RK .RK))/\(n=0/\t8=x8\/∃d,t8=.val d)/\C4 mo s ((k+n:Nat):Int) W'
 | 0,k,W,x8,hk,h=>⟨W,x8,rfl,.inl ⟨rfl,rfl⟩,h⟩
 | n+1,k,W,x8,hk,h=>by
  have h':C4 mo s ((k+1:Nat):Int) (Jm ns a mo s k W):=by
   have:=h.next (ns:=ns) (a:=a) hl hs (by lia)
   rwa [show ((k:Int)+1)=((k+1:Nat):Int) by lia] at this
  let⟨W',t8,e,q,b⟩:=Em hl hs n (k+1) (W:=Jm ns a mo s k W) (x8:=.val (.int (k:Nat))) (by lia) h';refine⟨W',t8,?_,.inr (q.elim (λz=>⟨_,z.2⟩) id),by rw[show k+(n+1)=k+1+n by lia];exact b⟩;have hsg:∀d,oE 8 (st ns a mo m s .RK (.own (W.map aA)) x8 .RK .RK .RK) d=some (st ns a mo m s .RK (.own (W.map aA)) (.val d) .RK .RK .RK):=λd=>rfl;rw[vL,zI,d9,hsg,zA,KZ hl hs (by have:=h.len;lia)];exact e
def Rb(W:List Wy)(i:Int)(hw:W.length<=20):az 1 [0] (bJ (ae 1)) (fG 0) (fB (f2 aY (f2 aw (ae 0) (fC (.int 0))) (ae 1))) (f2 aw (ae 0) (fC (.int 1))) [some (.int i),some (.list (W.map aA))]=some ((wg W i).map PyData.int):=by
 rw[lX (ds:=W.map aA) (p:=λd=>decide (kj ((cT d).getD 0 .none)=i)) (h:=λd=>(cT d).getD 1 .none) rfl (by rw[zD];lia) (λd hd=>?_) λd hd _=>?_]
 ·rw[kF,zM,wg,zM];rfl
 ·let⟨w,_,rfl⟩:=List.mem_map.mp hd;simp! [Kc,bP,gD];rfl
 ·let⟨w,_,rfl⟩:=List.mem_map.mp hd;simp! [JR];rfl
def Rz(W:List Wy)(i:Int)(hw:W.length<=20):az 1 [0] (bJ (ae 1)) (fG 0) (fB (f2 aY (f2 aw (ae 0) (fC (.int 1))) (ae 1))) (f2 aw (ae 0) (fC (.int 0))) [some (.int i),some (.list (W.map aA))]=some ((ofT W i).map PyData.int):=by
 rw[lX (ds:=W.map aA) (p:=λd=>decide (kj ((cT d).getD 1 .none)=i)) (h:=λd=>(cT d).getD 0 .none) rfl (by rw[zD];lia) (λd hd=>?_) λd hd _=>?_]
 ·rw[kF,zM,ofT,zM];rfl
 ·let⟨w,_,rfl⟩:=List.mem_map.mp hd;simp! [JR,bP,gD];rfl
 ·let⟨w,_,rfl⟩:=List.mem_map.mp hd;simp! [Kc];rfl
def mH{m:Nat}(hm:m<=1000):uN ((m:Nat):Int)=true:=by
 unfold uN;rw[zF,zJ,zJ];have h1:(0:Int)<=(m:Int):=Int.natCast_nonneg m;have h2:(m:Int)<=1000:=by lia
 exact⟨jT (by decide) h1,Int.lt_of_le_of_lt h2 (by decide)⟩
def uZ{j:Int}(h:uN j=true):lF [.int j]=some ((List.range j.toNat).map λi=>PyData.int ((i:Nat):Int)):=by
 rw[lF,yK h]
def uo{fi:Dl.Env->Option D}{ρ:Dl.Env}(m:Nat)(hm:m<=1000)(h:fi ρ=some (.int (m:Nat))):aS (aa fi af) ρ=some ((List.range m).map λi=>PyData.int ((i:Nat):Int)):=by
 have e:aa fi af ρ=some [.int ((m:Nat):Int)]:=by simp?[aa,af,h,zA,zB]
 have e2:aS (aa fi af) ρ=(aa fi af ρ).bind lF:=rfl;rw[e2,e,zA,uZ (mH hm),yG]
def IS{W:List Wy}{m:Nat}{i7 i5:Nat}{ρ:Dl.Env}(hw:W.length<=20)(hm:m<=1000)(h5:ae i5 ρ=some (.int (m:Nat)))(h7:(ρ[i7]?).getD none=some (.list (W.map aA))) :
  az 1 [i7] (aS (aa (ae i5) af)) (fG 0) (λ_=>some true) (cg (az 1 [0] (bJ (ae 1)) (fG 0) (fB (f2 aY (f2 aw (ae 0) (fC (.int 0))) (ae 1))) (f2 aw (ae 0) (fC (.int 1))))) ρ=some ((lh W m).map cq):=by
 rw[cZ (h:=λd=>cq (wg W (kj d))) (uo m hm h5) (by rw[zD,zR];lia) λd hd=>?_]
 ·rw[lh,zM,zM];rfl
 ·let⟨i,_,rfl⟩:=List.mem_map.mp hd;simp?[zI,yT,h7,cg,Rb W _ hw,zB,cq,kj]
def Jf{W:List Wy}{m:Nat}{i7 i5:Nat}{ρ:Dl.Env}(hw:W.length<=20)(hm:m<=1000)(h5:ae i5 ρ=some (.int (m:Nat)))(h7:(ρ[i7]?).getD none=some (.list (W.map aA))) :
  az 1 [i7] (aS (aa (ae i5) af)) (fG 0) (λ_=>some true) (cg (az 1 [0] (bJ (ae 1)) (fG 0) (fB (f2 aY (f2 aw (ae 0) (fC (.int 1))) (ae 1))) (f2 aw (ae 0) (fC (.int 0))))) ρ=some ((iR W m).map cq):=by
 rw[cZ (h:=λd=>cq (ofT W (kj d))) (uo m hm h5) (by rw[zD,zR];lia) λd hd=>?_]
 ·rw[iR,zM,zM];rfl
 ·let⟨i,_,rfl⟩:=List.mem_map.mp hd;simp?[zI,yT,h7,cg,Rz W _ hw,zB,cq,kj]
def Kn(c:Int):Dl.Env->Option D:=(ax (aa (ai 3 av (aa (ae 2) (aa (f2 aB (f2 aB (ae 3) (fC (.int c))) (ae 0)) (aa (fC (.int 4)) af)))) (aa (ae 1) af)))
def Nl{ns:List Int}{a:Int}(c:Int)(hl:ns.length<=63):∀ (RX:List (List Int)) (k:Nat),d0 (iP 0 1) (λ_=>some true) (Kn c) [none,none,some (cE ns),some (.int a)] (bG k (RX.map ag))=some ((iY (λk=>dr ns (a+c+((k:Nat):Int)) 4) k RX).map ba)
 | [],k=>rfl
 | r::RX,k=>by
  have hg:iP 0 1 [none,none,some (cE ns),some (.int a)] (.tuple [.int ((k:Nat):Int),ag r])=some [some (.int ((k:Nat):Int)),some (ag r),some (cE ns),some (.int a)]:=rfl;have he:Kn c [some (.int ((k:Nat):Int)),some (ag r),some (cE ns),some (.int a)]=some (ba (dr ns (a+c+((k:Nat):Int)) 4,r)):=by
   simp! [Kn,sx (ns:=ns) (a+c+((k:Nat):Int)) 4 hl (by decide),As,ba]
  have ih:=Nl (a:=a) c hl RX (k+1);rw[zI,bG,d0,hg];simp?[zA,xG,he,ih,zB,iY,zI]
def kb:∀ (ds:List D) (k:Nat),(bG k ds).length=ds.length
 | [],k=>rfl
 | d::ds,k=>by rw[bG,zL,zL,kb ds]
def vo{ns:List Int}{a c:Int}{i9:Nat}{ρ:Dl.Env}{RX:List (List Int)}(hl:ns.length<=63)(hm:RX.length<=1000)(h9:ae i9 ρ=some (.list (RX.map ag)))(h0:(ρ[0]?).getD none=some (cE ns))(h1:(ρ[1]?).getD none=some (.int a)) :
  bz dD (aa (cg (az 2 [0,1] (bD (aa (ae i9) af)) (iP 0 1) (λ_=>some true) (Kn c))) af) ρ=some (.tuple ((iY (λk=>dr ns (a+c+((k:Nat):Int)) 4) 0 RX).map ba)):=by
 have hi:bD (aa (ae i9) af) ρ=some (bG 0 (RX.map ag)):=by
  simp?[bD,aa,af,h9,zA,zB,cy,oneOf,fR]
 have hc:az 2 [0,1] (bD (aa (ae i9) af)) (iP 0 1) (λ_=>some true) (Kn c) ρ=some ((iY (λk=>dr ns (a+c+((k:Nat):Int)) 4) 0 RX).map ba):=by
  simp?[az,hi,zA,gg,zI,yT,h0,h1,List.replicate,xE,xN,Nl c hl];exact bY (by rw[zD,g8];lia)
 simp?[bz,aa,af,cg,hc,zB,zA,dD,cy,oneOf,fR]
def ak{g1 g2:ar->Option Out}{ρ ρ':ar}(h:g1 ρ=some (.nx ρ')):au g1 g2 ρ=g2 ρ':=by
 simp?[au,h,zA]
def oO{g1 g2:ar->Option Out}{ρ:ar}{d:D}(h:g1 ρ=some (.rt d)):au g1 g2 ρ=some (.rt d):=by
 simp?[au,h,zA]
def aO{g:ar->Option Out}{n:Nat}{args:List D}{d:D}(h:g (args.map Slot.val++List.replicate (n - args.length) .RK)=some (.rt d)):bh g n args=some d:=by
 simp?[bh,h,zB]
def hJ{g:D->D->Option D}{fa fb:Dl.Env->Option D}{ρ:Dl.Env}{a b:D}(ha:fa ρ=some a)(hb:fb ρ=some b):f2 g fa fb ρ=g a b:=by
 simp?[f2,ha,hb,zA]
def KO{ns:List Int}{a mo:Int}{m s:Nat}(m1:m<=3)(s1:s<=3):f2 cm (ae 5) (ae 6) (bN (st ns a mo m s .RK (.own []) .RK .RK .RK .RK))=some (.int ((m * s:Nat):Int)):=by
 have h:Dl.cm (.int (m:Int)) (.int (s:Int))=some (.int ((m:Int) * (s:Int))):=dX (jc (by lia));rw[hJ (a:=.int (m:Int)) (b:=.int (s:Int)) rfl rfl,h,Int.natCast_mul]
def MR{ns:List Int}{a mo:Int}{m s:Nat}(m1:m<=3)(s1:s<=3)(hms:m * s<=9){W:List Wy}{t8:Slot}(e: d9 (oE 8) lB ((List.range' 0 (m * s)).map λi=>PyData.int ((i:Nat):Int)) (st ns a mo m s .RK (.own (([]:List Wy).map aA)) .RK .RK .RK .RK)=some (.nx (st ns a mo m s .RK (.own (W.map aA)) t8 .RK .RK .RK))):cN [5,6] (aS (aa (f2 cm (ae 5) (ae 6)) af)) (oE 8) lB (st ns a mo m s .RK (.own []) .RK .RK .RK .RK)=some (.nx (st ns a mo m s .RK (.own (W.map aA)) t8 .RK .RK .RK)):=by
 have hh:hand [5,6] 0 (st ns a mo m s .RK (.own []) .RK .RK .RK .RK)=st ns a mo m s .RK (.own []) .RK .RK .RK .RK:=rfl;have hr:=uo (fi:=f2 cm (ae 5) (ae 6)) (ρ:=bN (st ns a mo m s .RK (.own []) .RK .RK .RK .RK)) (m * s) (by lia) (KO m1 s1);rw[List.range_eq_range'] at hr;rw[yT] at e;simp?[cN,hh,hr,zA];exact e
structure PN(mo:Int)(G T:List Pl)(W:List Wy):Prop where
 g3:G.length<=3
 t3:T.length<=3
 w2:∀w∈W,w.2.2<=2
 ga:∀p∈G,p.1<=3
 ta:∀p∈T,p.1<=3
 wm:(W.length:Int)<=mo
def uw{ns:List Int}{a mo:Int}(hl:ns.length<=63)(hmo:3 < mo)(c:dr ns (a+64) 4=0):∃G T W,cA [cE ns,.int a,.int mo]=some (aH G T W)/\Wd G T W/\PN mo G T W:=by
 have ZR:=sx (ns:=ns) (a+64) 4 hl (by decide);have e65:=fZ (ns:=ns) (a+65) 2 hl (by decide);refine⟨_,_,_,?_,Cn (c:=1+dr ns (a+65) 2) (by lia) (by lia),⟨by simp,by simp,by decide,λp hp=>?_,λp hp=>?_,by simp;lia⟩⟩;rotate_left
 ·simp?[zQ,yF,xS] at hp;rcases hp with rfl|rfl<;>(simp only;lia)
 ·simp?[zQ,yF,xS] at hp;rcases hp with rfl|rfl<;>(simp only;lia)
 have s1:Dl.aI 3 [0,1] (f2 aB (fC (.int 1)) (ai 3 av (aa (ae 0) (aa (f2 aB (ae 1) (fC (.int 65))) (aa (fC (.int 2)) af))))) [.val (cE ns),.val (.int a),.val (.int mo),.RK,.RK,.RK,.RK,.RK,.RK,.RK,.RK,.RK]=some (.nx [.val (cE ns),.val (.int a),.val (.int mo),.val (.int (1+dr ns (a+65) 2)),.RK,.RK,.RK,.RK,.RK,.RK,.RK,.RK]) :=
  dN (d:=.int (1+dr ns (a+65) 2)) (by simp! [e65.1]) rfl
 generalize 1+dr ns (a+65) 2=x at *;have s2:Dl.aI 4 [3] (ax (aa (ax (aa (ae 3) (aa (ax (aa (fC (.int 1)) (aa (fC (.int 0)) af))) af))) (aa (ax (aa (ae 3) (aa (ax (aa (fC (.int 0)) (aa (fC (.int 1)) af))) af))) af))) [.val (cE ns),.val (.int a),.val (.int mo),.val (.int x),.RK,.RK,.RK,.RK,.RK,.RK,.RK,.RK]=some (.nx [.val (cE ns),.val (.int a),.val (.int mo),.val (.int x),.val (.tuple [ba (x,[1,0]),ba (x,[0,1])]),.RK,.RK,.RK,.RK,.RK,.RK,.RK]) :=
  dJ (d:=.tuple [ba (x,[1,0]),ba (x,[0,1])]) (by simp! [As];rfl) rfl rfl rfl
 simp! [cA,fy,dy,ZR,c,bP,jP,gD,show decide ((3:Int) < mo)=true from yA hmo,s1,s2,As,Af,show ∀a b c d:D,small [a,b,c,d]=some [a,b,c,d] fromλ_ _ _ _=>rfl];rfl
def ux{ns:List Int}{a mo:Int}(hl:ns.length<=63)(ZT:0<=mo)(c:¬ (3 < mo/\dr ns (a+64) 4=0)):∃G T W,cA [cE ns,.int a,.int mo]=some (aH G T W)/\Wd G T W/\PN mo G T W:=by
 have ZR:=sx (ns:=ns) (a+64) 4 hl (by decide);have em:=fZ (ns:=ns) a 3 hl (by decide);have es:=fZ (ns:=ns) (a+1) 3 hl (by decide);let⟨m,hm⟩:=vO (show 0<=1+dr ns a 3 by lia);let⟨s,hs⟩:=vO (show 0<=1+dr ns (a+1) 3 by lia);have m1:1<=m/\m<=3:=by lia
 have s1:1<=s/\s<=3:=by lia
 have Tg:(s:Int)=1\/(s:Int)=2\/(s:Int)=3:=by lia
 have S7:(m:Int)=1\/(m:Int)=2\/(m:Int)=3:=by lia
 have t5:Dl.aI 5 [0,1] (f2 aB (fC (.int 1)) (ai 3 av (aa (ae 0) (aa (ae 1) (aa (fC (.int 3)) af))))) [.val (cE ns),.val (.int a),.val (.int mo),.RK,.RK,.RK,.RK,.RK,.RK,.RK,.RK,.RK]=some (.nx [.val (cE ns),.val (.int a),.val (.int mo),.RK,.RK,.val (.int (m:Nat)),.RK,.RK,.RK,.RK,.RK,.RK]) :=
  dN (d:=.int (m:Nat)) (by simp! [em.1,hm]) rfl
 have t6:Dl.aI 6 [0,1] (f2 aB (fC (.int 1)) (ai 3 av (aa (ae 0) (aa (f2 aB (ae 1) (fC (.int 1))) (aa (fC (.int 3)) af))))) [.val (cE ns),.val (.int a),.val (.int mo),.RK,.RK,.val (.int (m:Nat)),.RK,.RK,.RK,.RK,.RK,.RK]=some (.nx (st ns a mo m s .RK .RK .RK .RK .RK .RK)) :=
  dN (d:=.int (s:Nat)) (by simp! [es.1,hs]) rfl
 have t7:br 7 [] (dg af) (st ns a mo m s .RK .RK .RK .RK .RK .RK)=some (.nx (st ns a mo m s .RK (.own []) .RK .RK .RK .RK)):=by
  simp?[br,mz,dg,af,zA,hU,zB,yV,yU]
 have hms:m * s<=9:=wF m1.2 s1.2;have acS:1<=m * s:=wF m1.1 s1.1;let⟨W,t8,e,h8,I⟩:=Em (ns:=ns) (a:=a) (m:=m) (s:=s) hl Tg (m * s) 0 (W:=[]) (x8:=.RK) (by lia) (mo:=mo) ⟨λw hw=>(by cases hw),List.Pairwise.nil,by decide,ZT⟩;rw[jC] at I;obtain⟨d8,rfl⟩:∃d,t8=.val d:=h8.elim (λz=>by lia) id;have aaQ:W.length<=9:=by have:=I.len;lia
 have tf:=MR m1.2 s1.2 hms e;unfold lB at tf;have UT:W.length<=20:=by lia
 have wr:∀w∈W,(0<=w.1/\w.1 < m)/\(0<=w.2.1/\w.2.1 < s)/\1<=w.2.2/\w.2.2<=9:=λw hw=>by
  let⟨j,j0,jk,ea,b,c1,c2⟩:=I.mem w hw;have:=M4 Tg S7 j0 (by rw[<- Int.natCast_mul];exact jk);rw[ea,b];exact⟨this.1,this.2,c1,by lia⟩
 have ZU:∀r∈lh W m,r.length<=1000:=λr hr=>by
  let⟨i,_,rfl⟩:=List.mem_map.mp hr;rw[wg,zD];exact yD (xO _ _) (by lia)
 have ZV:∀r∈iR W s,r.length<=1000:=λr hr=>by
  let⟨i,_,rfl⟩:=List.mem_map.mp hr;rw[ofT,zD];exact yD (xO _ _) (by lia)
 let⟨RX,om,pm⟩:=xx (ns:=ns) (a:=a+24) (rows:=lh W m) hl ZU (by rw[lh,zD,zR];lia);let⟨Sa,oy,py⟩:=xx (ns:=ns) (a:=a+40) (rows:=iR W s) hl ZV (by rw[iR,zD,zR];lia);have lm:RX.length<=1000:=by rw[eC pm,lh,zD,zR];lia
 have ly:Sa.length<=1000:=by rw[eC py,iR,zD,zR];lia
 have t9:Dl.aI 9 [0,1,5,7] (ai 3 bZ (aa (ae 0) (aa (f2 aB (ae 1) (fC (.int 24))) (aa (cg (az 1 [7] (aS (aa (ae 5) af)) (fG 0) (λ_=>some true) (cg (az 1 [0] (bJ (ae 1)) (fG 0) (fB (f2 aY (f2 aw (ae 0) (fC (.int 0))) (ae 1))) (f2 aw (ae 0) (fC (.int 1))))))) af)))) (st ns a mo m s .RK (.own (W.map aA)) (.val d8) .RK .RK .RK)=some (.nx (st ns a mo m s .RK (.val (.list (W.map aA))) (.val d8) (.val (.list (RX.map ag))) .RK .RK)):=by
  refine (dJ (ρ':=st ns a mo m s .RK (.val (.list (W.map aA))) (.val d8) .RK .RK .RK) (d:=.list (RX.map ag)) ?_ rfl rfl ?_).trans rfl
  ·have q:=IS (ρ:=aJ (st ns a mo m s .RK (.own (W.map aA)) (.val d8) .RK .RK .RK)) (i5:=5) (i7:=7) UT (show m<=1000 by lia) rfl rfl;simp?[ai,aa,af,cg,q,zB,zA];simp! [om]
  ·simp?[st,bN,aJ,zI,yT];rfl
 have t10:Dl.aI 10 [0,1,6,7] (ai 3 bZ (aa (ae 0) (aa (f2 aB (ae 1) (fC (.int 40))) (aa (cg (az 1 [7] (aS (aa (ae 6) af)) (fG 0) (λ_=>some true) (cg (az 1 [0] (bJ (ae 1)) (fG 0) (fB (f2 aY (f2 aw (ae 0) (fC (.int 1))) (ae 1))) (f2 aw (ae 0) (fC (.int 0))))))) af)))) (st ns a mo m s .RK (.val (.list (W.map aA))) (.val d8) (.val (.list (RX.map ag))) .RK .RK)=some (.nx (st ns a mo m s .RK (.val (.list (W.map aA))) (.val d8) (.val (.list (RX.map ag))) (.val (.list (Sa.map ag))) .RK)):=by
  refine (dJ (ρ':=st ns a mo m s .RK (.val (.list (W.map aA))) (.val d8) (.val (.list (RX.map ag))) .RK .RK) (d:=.list (Sa.map ag)) ?_ rfl ?_ ?_).trans rfl
  ·have q:=Jf (ρ:=aJ (st ns a mo m s .RK (.val (.list (W.map aA))) (.val d8) (.val (.list (RX.map ag))) .RK .RK)) (i5:=6) (i7:=7) UT (show s<=1000 by lia) rfl rfl;simp?[ai,aa,af,cg,q,zB,zA];simp! [oy]
  ·rfl
  ·simp?[st,bN,aJ,zI,yT];rfl
 have t11:Dl.aI 11 [0,1,8,9] (bz dD (aa (cg (az 2 [0,1] (bD (aa (ae 9) af)) (iP 0 1) (λ_=>some true) (Kn 56))) af)) (st ns a mo m s .RK (.val (.list (W.map aA))) (.val d8) (.val (.list (RX.map ag))) (.val (.list (Sa.map ag))) .RK)=some (.nx (st ns a mo m s .RK (.val (.list (W.map aA))) (.val d8) (.val (.list (RX.map ag))) (.val (.list (Sa.map ag))) (.val (.tuple ((iY (λk=>dr ns (a+56+((k:Nat):Int)) 4) 0 RX).map ba))))):=by
  refine (dJ (ρ':=st ns a mo m s .RK (.val (.list (W.map aA))) (.val d8) (.val (.list (RX.map ag))) (.val (.list (Sa.map ag))) .RK) (vo hl lm rfl rfl rfl) rfl rfl ?_).trans rfl;simp?[st,bN,aJ,zI,yT];rfl
 have t4:∀G:D,Dl.aI 4 [0,1,8,10] (bz dD (aa (cg (az 2 [0,1] (bD (aa (ae 10) af)) (iP 0 1) (λ_=>some true) (Kn 60))) af)) (st ns a mo m s .RK (.val (.list (W.map aA))) (.val d8) (.val (.list (RX.map ag))) (.val (.list (Sa.map ag))) (.val G))=some (.nx (st ns a mo m s (.val (.tuple ((iY (λk=>dr ns (a+60+((k:Nat):Int)) 4) 0 Sa).map ba))) (.val (.list (W.map aA))) (.val d8) (.val (.list (RX.map ag))) (.val (.list (Sa.map ag))) (.val G))):=λG=>by
  refine (dJ (ρ':=st ns a mo m s .RK (.val (.list (W.map aA))) (.val d8) (.val (.list (RX.map ag))) (.val (.list (Sa.map ag))) (.val G)) (vo hl ly rfl rfl rfl) rfl rfl ?_).trans rfl;simp?[st,bN,aJ,zI,yT];rfl
 refine⟨_,_,W,?_,Ia (f:=λk=>dr ns (a+56+((k:Nat):Int)) 4) (g:=λk=>dr ns (a+60+((k:Nat):Int)) 4) m1.1 (by lia) s1.1 (by lia) (λk=>?_) (λk=>?_) pm py wr I.ZQ (by lia),⟨by rw[g8,eC pm,lh,zD,zR];lia,by rw[g8,eC py,iR,zD,zR];lia,λw hw=>(by let⟨j,_,_,_,_,_,z⟩:=I.mem w hw;exact z),λp hp=>?_,λp hp=>?_,I.lem⟩⟩
 ·unfold Kn at t11 t4;have tA:∀g,dE (cH (fB (f2 nA (ae 2) (fC (.int 3)))) (fB (f2 aY (ai 3 av (aa (ae 0) (aa (f2 aB (ae 1) (fC (.int 64))) (aa (fC (.int 4)) af)))) (fC (.int 0))))) g cP [.val (cE ns),.val (.int a),.val (.int mo),.RK,.RK,.RK,.RK,.RK,.RK,.RK,.RK,.RK]=some (.nx [.val (cE ns),.val (.int a),.val (.int mo),.RK,.RK,.RK,.RK,.RK,.RK,.RK,.RK,.RK]):=λg=>by
   by_cases c1:3 < mo
   ·have c2:¬ dr ns (a+64) 4=0:=λz=>c ⟨c1,z⟩;simp! [dy,ZR,c1,c2,bP,wZ,jP,gD,yN]
   ·simp! [dy,c1,wZ,gD,yN]
  refine aO ?_;show fy [.val (cE ns),.val (.int a),.val (.int mo),.RK,.RK,.RK,.RK,.RK,.RK,.RK,.RK,.RK]=_;unfold fy;rw[ak (tA _),ak t5,ak t6,ak t7,ak tf,ak t9,ak t10,ak t11,ak (t4 _)];simp! [Af,aH]
 ·have q:=fZ (ns:=ns) (a+56+((k:Nat):Int)) 4 hl (by decide);exact⟨q.2.1,by lia⟩
 ·have q:=fZ (ns:=ns) (a+60+((k:Nat):Int)) 4 hl (by decide);exact⟨q.2.1,by lia⟩
 ·let⟨i,hi⟩:=List.getElem?_of_mem hp;let⟨r,_,rfl⟩:=gQ _ hi;have q:=fZ (ns:=ns) (a+56+((0+i:Nat):Int)) 4 hl (by decide);simp only;lia
 ·let⟨i,hi⟩:=List.getElem?_of_mem hp;let⟨r,_,rfl⟩:=gQ _ hi;have q:=fZ (ns:=ns) (a+60+((0+i:Nat):Int)) 4 hl (by decide);simp only;lia
def wt{ns:List Int}{a mo:Int}(hl:ns.length<=63)(ZT:0<=mo):∃G T W,cA [cE ns,.int a,.int mo]=some (aH G T W)/\Wd G T W/\PN mo G T W:=by
 by_cases c:3 < mo/\dr ns (a+64) 4=0
 ·exact uw hl c.1 c.2
 ·exact ux hl ZT c
def Km(h:D5 W):(W.map λw=>[w.1,w.2.1]).Pairwise λa b=>Dl.lexLt a b=true:=List.pairwise_map.mpr (h.imp λSY=>Qz SY)
def FQ(h:D5 W):(W.map λw=>[w.1,w.2.1]).Nodup:=(Km h).imp λ{a b} SY e=>by
 rw[e,fV] at SY;cases SY
def FR(h:D5 W)(hn:m.Nodup)(hm:∀r,r∈W.map (λw=>[w.1,w.2.1])↔r∈m):W.map (λw=>[w.1,w.2.1])=qu m :=
 Fy ((List.perm_ext_iff_of_nodup (FQ h) hn).mpr hm) ((Km h).imp λSY=>N5 SY)
def Wd.wok(h:Wd G T W):Pa (aH G T W)=true:=by
 have hP:(W.map aA).map fq=W.map λw=>[w.1,w.2.1]:=by rw[zM];rfl
 have hpg:∀i j:Int,[i,j]∈W.map (λw=>[w.1,w.2.1])↔[i,j]∈lV 0 (G.map ba):=λi j=>by
  rw[oU];constructor
  ·intro hm;let⟨w,hw,e⟩:=List.mem_map.mp hm;simp?[kZ,and_true] at e;have hr:=(h.wr w hw).1;obtain⟨p,hp⟩:∃p,G[i.toNat]?=some p:=⟨G[i.toNat]'(by lia),zK (by lia)⟩
   refine⟨i.toNat,ba p,by rw[zO,hp];rfl,by lia,?_⟩;rw[fI,(h.gl _ p hp).mem_iff,ua,show ((i.toNat:Nat):Int)=i by lia];exact hm
  ·rintro⟨m,p,hp,rfl,hj⟩;rw[zO] at hp;let⟨p',Vp,rfl⟩:=Option.map_eq_some_iff.mp hp;rw[fI,(h.gl m p' Vp).mem_iff,ua] at hj
   rwa [jC]
 have hpt:∀i j:Int,[i,j]∈W.map (λw=>[w.1,w.2.1])↔[j,i]∈lV 0 (T.map ba):=λi j=>by
  rw[oU];constructor
  ·intro hm;let⟨w,hw,e⟩:=List.mem_map.mp hm;simp?[kZ,and_true] at e;have hr:=(h.wr w hw).2.1;obtain⟨p,hp⟩:∃p,T[j.toNat]?=some p:=⟨T[j.toNat]'(by lia),zK (by lia)⟩
   refine⟨j.toNat,ba p,by rw[zO,hp];rfl,by lia,?_⟩;rw[fI,(h.tl _ p hp).mem_iff,ug,show ((j.toNat:Nat):Int)=j by lia];exact hm
  ·rintro⟨m,p,hp,rfl,hj⟩;rw[zO] at hp;let⟨p',Vp,rfl⟩:=Option.map_eq_some_iff.mp hp;rw[fI,(h.tl m p' Vp).mem_iff,ug] at hj
   rwa [jC]
 have two:∀ {r:List Int},r∈W.map (λw=>[w.1,w.2.1])->∃i j,r=[i,j]:=λhr=>by
  let⟨w,_,rfl⟩:=List.mem_map.mp hr;exact⟨_,_,rfl⟩
 have ng:∀ (L:List Pl),(∀p∈L,p.2.Nodup)->(lV 0 (L.map ba)).Nodup:=λL hL=>rR λp hp=>by
  let⟨p',Vp,rfl⟩:=List.mem_map.mp hp;rw[fI];exact hL p' Vp
 have e1:W.map (λw=>[w.1,w.2.1])=qu (lV 0 (G.map ba)):=FR h.wp (ng G λp hp=>by
   let⟨i,hi,e⟩:=qP hp;exact (h.gl i p (by rw[zK hi,e])).nodup_iff.mpr (mW h.wp i)) λr=>⟨λhr=>by
   let⟨i,j,rfl⟩:=two hr;exact (hpg i j).mp hr,λhr=>by
   let⟨i,j,rfl⟩:=kn r hr;exact (hpg i j).mpr hr⟩
 have e2:W.map (λw=>[w.1,w.2.1])=qu ((lV 0 (T.map ba)).map List.reverse):=FR h.wp (by
   exact List.pairwise_map.mpr (List.Pairwise.imp (λ{a b} So e=>So (List.reverse_inj.mp e)) (ng T λp hp=>by
    let⟨i,hi,e⟩:=qP hp;exact (h.tl i p (by rw[zK hi,e])).nodup_iff.mpr (nR h.wp i)))) λr=>⟨λhr=>by
   let⟨i,j,rfl⟩:=two hr;exact List.mem_map.mpr ⟨[j,i],(hpt i j).mp hr,rfl⟩,λhr=>by
   let⟨r',TC,rfl⟩:=List.mem_map.mp hr;let⟨i,j,rfl⟩:=kn r' TC;exact (hpt j i).mpr TC⟩
 have hw:(W.map aA).all (iQ G.length T.length)=true:=by
  rw[xF];intro x hx;let⟨w,hw,rfl⟩:=List.mem_map.mp hx;exact Cq (h.wr w hw)
 have hs:∀ {L:List Pl},1<=L.length->L.length<=4->nh (.tuple (L.map ba))=true:=λ{L} a b=>by
  simp?[nh,long,zD,zF,zJ];lia
 have h3:long 3 3 (aH G T W)=true:=rfl;have hg:=h.gok;have ht:=h.tok;unfold Pa yt;rw[h3,jK];simp?[aH,cT,wK,wL,hP,<- e1,<- e2,jP,Bool.and_true,iK,hs h.g1 h.g4,hs h.t1 h.t4,zD,hg,ht,hw,Kx]
def sI(b:Bool):Int:=if b then 1 else 0
def aU(b:Bool)(w:Wy):Int:=if b then w.2.1 else w.1
def bF(b:Bool)(w:Wy):Int:=aU (!b) w
def bu(b:Bool)(G T:List Pl):List Pl:=if b then T else G
def ka(b:Bool)(G T:List Pl)(W:List Wy):aw (aH G T W) (.int (sI b))=some (.tuple ((bu b G T).map ba)):=by cases b<;>rfl
def j8(G T:List Pl)(W:List Wy):aw (aH G T W) (.int 2)=some (.tuple (W.map aA)):=rfl
def iC(b:Bool)(w:Wy):aw (aA w) (.int (sI b))=some (.int (aU b w)):=by cases b<;>rfl
def B5(b:Bool)(w:Wy):aw (aA w) (.int (1 - sI b))=some (.int (bF b w)):=by cases b<;>rfl
def uC(w:Wy):aw (aA w) (.int 2)=some (.int w.2.2):=rfl
def IG(p:Pl):aw (ba p) (.int 1)=some (ag p.2):=rfl
def Ad(h:ds[i]?=some d):aw (.tuple ds) (.int ((i:Nat):Int))=some d:=by
 show rq ds (i:Nat)=_;exact uk h
def Lp(h:ds[i]?=some d):aw (.list ds) (.int ((i:Nat):Int))=some d:=by
 show rq ds (i:Nat)=_;exact uk h
def gJ{l:List α}(h:l[i]?=some x):aw (.tuple (l.map f)) (.int ((i:Nat):Int))=some (f x):=Ad (by rw[zO,h];rfl)
def AJ{l:List α}(h:l[i]?=some x):aw (.list (l.map f)) (.int ((i:Nat):Int))=some (f x):=Lp (by rw[zO,h];rfl)
def OS(b:Bool)(W:List Wy)(p:Int):List Int:=(W.filter λw=>decide (aU b w=p)).map (bF b)
def Wd.WM{G T:List Pl}{W:List Wy}(h:Wd G T W){b:Bool}{i:Nat}{p:Pl}(e:(bu b G T)[i]?=some p):p.2.Perm (OS b W i):=by
 cases b
 ·exact h.gl i p e
 ·exact h.tl i p e
def Wd.nod(h:Wd G T W)(b:Bool)(i:Int):(OS b W i).Nodup:=by
 cases b
 ·exact mW h.wp i
 ·exact nR h.wp i
def p8{tt:Dl.Env->Option Bool}{te:Dl.Env->Option D}{r:List (Option D)}{p:Nat->D->Bool}{h:Nat->D->D}:∀ {ds:List D}{k:Nat},
  (∀i d,ds[i]?=some d->tt (some (.int ((k+i:Nat):Int))::some d::r)=some (p (k+i) d)/\(p (k+i) d=true->te (some (.int ((k+i:Nat):Int))::some d::r)=some (h (k+i) d))) ->
  d0 (iP 0 1) tt te (none::none::r) (bG k ds)=some (((ds.zipIdx k).filter λq=>p q.2 q.1).map λq=>h q.2 q.1)
 | [],k,_=>rfl
 | d::ds,k,hh=>by
  let⟨h1,h2⟩:=hh 0 d rfl;have ih:=p8 (ds:=ds) (k:=k+1) λi x hx=>by
   have:=hh (i+1) x (by simpa using hx);rw[show k+1+i=k+(i+1) by lia];exact this
  have hg:iP 0 1 (none::none::r) (.tuple [.int ((k:Nat):Int),d])=some (some (.int ((k:Nat):Int))::some d::r):=by
   simp?[iP,isFree,xP,yX,qF,Option.isNone_none,jO,xG,yU,yV]
  rw[bG,d0,hg,List.zipIdx_cons];simp?[Nat.add_zero] at h1 h2;simp?[zA,h1];cases hp:p k d with
  | true=>simp[h2 hp,ih,hp]
  | false=>simp[ih,hp]
def De{cs:List Nat}{fi:Dl.Env->Option (List D)}{tt:Dl.Env->Option Bool}{te:Dl.Env->Option D}{ρ:Dl.Env}{ds:List D}{p:Nat->D->Bool}{h:Nat->D->D}(Tj:fi ρ=some (bG 0 ds))(hl:ds.length<=1000)
  (hh:∀i d,ds[i]?=some d->tt (some (.int ((i:Nat):Int))::some d::cs.map λj=>(ρ[j]?).getD none)=some (p i d)/\(p i d=true->te (some (.int ((i:Nat):Int))::some d::cs.map λj=>(ρ[j]?).getD none)=some (h i d))) :
  az 2 cs fi (iP 0 1) tt te ρ=some ((ds.zipIdx.filter λq=>p q.2 q.1).map λq=>h q.2 q.1):=by
 have:=p8 (tt:=tt) (te:=te) (r:=cs.map λj=>(ρ[j]?).getD none) (p:=p) (h:=h) (ds:=ds) (k:=0) (by simpa using hh);simp?[az,Tj,zA,gg,List.replicate,xE,xN,this];refine bY ?_;rw[zD];refine yD (xO _ _) ?_;rw[List.length_zipIdx];lia
def lu(f:α->Int):∀ {l m:List α},l.Perm m->(l.Pairwise λa b=>f a<=f b)->(m.Pairwise λa b=>f a < f b)->l=m
 | l,[],hp,_,_=>hp.eq_nil
 | [],x::m,hp,_,_=>absurd hp.symm.eq_nil (by simp)
 | y::l,x::m,hp,h1,h2=>by
  rw[List.pairwise_cons] at h1 h2;have e:y=x:=by
   have hx:x∈y::l:=hp.mem_iff.mpr zE;rcases List.mem_cons.mp hx with z|hx
   ·exact z.symm
   ·have hy:y∈x::m:=hp.mem_iff.mp zE;rcases List.mem_cons.mp hy with z|hy
    ·exact z
    ·have:=h1.1 x hx;have:=h2.1 y hy;lia
  subst e;rw[lu f ((List.perm_cons y).mp hp) h1.2 h2.2]
def Ap(z:Nat->Int)(l:List α)(d:α)(f:α->Int)(h:∀i,i < l.length->z i=f (l.getD i d)):(uO z l d).Pairwise λa b=>f a<=f b:=by
 unfold uO;split
 ·rename_i hl
  match l,hl with
  | [],_=>exact List.Pairwise.nil
  | [a],_=>exact vN _ _
 ·rename_i hl;let⟨hp,hs⟩:=SP.iE (z:=z) (n:=l.length) (by lia);rw[jD] at hs ⊢;refine hs.imp_of_mem λ{i j} hi hj RS=>?_;have S6:i < l.length:=by have:=hp.mem_iff.mp hi;simpa using this
  have VC:j < l.length:=by have:=hp.mem_iff.mp hj;simpa using this
  rw[<- h i S6,<- h j VC];exact RS
def aF(W:List Wy)(i:Nat):Wy:=W.getD i (0,0,0)
def lN(hk:k < W.length):W[k]=aF W k:=by simp[aF,hk]
def oP(hk:k < W.length):W[k]?=some (aF W k):=by rw[zK hk,lN hk]
def own(b:Bool)(W:List Wy)(p:Int):List Nat:=(List.range W.length).filter λi=>decide (aU b (aF W i)=p)
def ig(b:Bool)(W:List Wy)(p o:Int):Nat:=W.findIdx λw=>decide (aU b w=p)&&decide (bF b w=o)
def iZ(b:Bool)(W:List Wy)(p:Int)(L:List Int):List Nat:=L.map (ig b W p)
def eL:i∈own b W p↔i < W.length/\aU b (aF W i)=p:=by simp[own]
def map_range(d:α)(f:α->β)(l:List α):(List.range l.length).map (λi=>f (l.getD i d))=l.map f:=by
 apply jG
 ·simp
 ·intro i h1 h2;have:i < l.length:=by simpa using h2
  simp[this]
def um(d:α)(q:α->Bool):∀ (l:List α),((List.range l.length).filter λi=>q (l.getD i d)).map (λi=>l.getD i d)=l.filter q:=by
 intro l;have e:l=(List.range l.length).map λi=>l.getD i d:=by
  have:=map_range d (λx=>x) l;simp at this;simpa using this.symm
 conv=>rhs;rw[e]
 rw[kF];rfl
def oK(b:Bool)(W:List Wy)(p:Int):(own b W p).map (λi=>bF b (aF W i))=OS b W p:=by
 unfold own OS aF;rw[<- um (0,0,0) (λw=>decide (aU b w=p)) W,zM];rfl
def AQ(h:D5 W)(hi:i < W.length)(hj:j < W.length)(h1:(aF W i).1=(aF W j).1)(h2:(aF W i).2.1=(aF W j).2.1):i=j:=by
 have e:∀k,k < W.length->W[k]?=some (aF W k):=λk hk=>by simp[aF,hk]
 rcases Nat.lt_trichotomy i j with z|z|z
 ·have:=List.pairwise_iff_getElem.mp h i j hi hj z;have a:=e i hi;have b:=e j hj;rw[zK hi] at a;rw[zK hj] at b;rw[xC a,xC b] at this;rcases this with z|z<;>lia
 ·exact z
 ·have:=List.pairwise_iff_getElem.mp h j i hj hi z;have a:=e i hi;have b:=e j hj;rw[zK hi] at a;rw[zK hj] at b;rw[xC a,xC b] at this;rcases this with z|z<;>lia
def qf(h:D5 W)(hi:i < W.length)(hj:j < W.length)(h1:aU b (aF W i)=aU b (aF W j))(h2:bF b (aF W i)=bF b (aF W j)):i=j:=by
 cases b
 ·exact AQ h hi hj h1 h2
 ·exact AQ h hi hj h2 h1
def sS(h:D5 W)(hi:i∈own b W p):ig b W p (bF b (aF W i))=i:=by
 let⟨hl,he⟩:=eL.mp hi;have hw:W[i]=aF W i:=by simp[aF,hl]
 unfold ig;have R6:W.findIdx (λw=>decide (aU b w=p)&&decide (bF b w=bF b (aF W i))) < W.length:=by
  apply kN;exact⟨W[i],xZ _,by rw[hw];simp[he]⟩
 have hq:=wJ (w:=R6);rw[zF,zJ,zJ] at hq;rw[lN R6] at hq;exact qf h R6 hl (by rw[hq.1,he]) hq.2
def fY{G T:List Pl}{W:List Wy}(h:Wd G T W){b:Bool}{i:Nat}(e:(bu b G T)[i]?=some p):(iZ b W i p.2).Perm (own b W i):=by
 have h1:=(h.WM e).map (ig b W i);rw[<- oK b W i,zM] at h1;have e2:(own b W i).map (ig b W i ∘ λj=>bF b (aF W j))=own b W i:=by
  conv=>rhs;rw[<- List.map_id (own b W i)]
  exact yH λj hj=>sS h.wp hj
 rw[e2] at h1;exact h1
def iB{G T:List Pl}{W:List Wy}(h:Wd G T W){b:Bool}{i:Nat}{p:Pl}(e:(bu b G T)[i]?=some p){o:Int}(ho:o∈p.2):ig b W i o < W.length/\aU b (aF W (ig b W i o))=i/\bF b (aF W (ig b W i o))=o:=by
 have hm:=(h.WM e).mem_iff.mp ho;rw[<- oK b W i] at hm;let⟨j,hj,rfl⟩:=List.mem_map.mp hm;rw[sS h.wp hj];let⟨h1,h2⟩:=eL.mp hj;exact⟨h1,h2,rfl⟩
def kD(b:Bool)(W:List Wy)(L:List Int)(d:D):Int:=(L.findIdx λo=>decide (o=bF b (aF W (kj d).toNat)):Nat)
def kq:∀ {L:List Int}{x:Int},x∈L->vn x L=some (L.findIdx λo=>decide (o=x))
 | [],x,h=>by cases h
 | o::L,x,h=>by
  unfold vn;by_cases e:o=x
  ·simp[e,vG]
  ·rw[yM e];have hx:x∈L:=(List.mem_cons.mp h).resolve_left λz=>e z.symm;rw[kq hx];simp[vG,e]
def GV{G T:List Pl}{W:List Wy}(h:Wd G T W){b:Bool}{i:Nat}{p:Pl}(e:(bu b G T)[i]?=some p)(z:Nat->Int)(hz:∀j,j < (own b W i).length->z j=kD b W p.2 (((own b W i).map λn=>PyData.int ((n:Nat):Int)).getD j .none)) :
  uO z ((own b W i).map λn=>PyData.int ((n:Nat):Int)) .none=(iZ b W i p.2).map λn=>PyData.int ((n:Nat):Int):=by
 refine lu (kD b W p.2) ((lW _ _ _).trans ((fY h e).symm.map _)) (Ap z _ _ _ λj hj=>hz j (by simpa using hj)) ?_;have hn:p.2.Nodup:=(h.WM e).nodup_iff.mpr (h.nod b i);unfold iZ;rw[zM,jD];have key:∀k (hk:k < p.2.length),kD b W p.2 (PyData.int ((ig b W i p.2[k]:Nat):Int))=(k:Nat):=λk hk=>by
  let⟨_,_,e3⟩:=iB h e (xZ hk);unfold kD;simp?[kj,yG,e3]
  congr 1
  rw[List.findIdx_eq (by exact hk)];refine⟨by simp,λj hj=>?_⟩;have:=List.pairwise_iff_getElem.mp hn j k (by lia) hk hj;simpa using this
 refine List.pairwise_iff_getElem.mpr λj k hj hk UK=>?_;show kD b W p.2 (PyData.int ((ig b W i p.2[j]:Nat):Int)) < kD b W p.2 (PyData.int ((ig b W i p.2[k]:Nat):Int));rw[key j hj,key k hk];lia
abbrev nD(n:Nat):D:=.int ((n:Nat):Int)
def rV:∀ {ds:List D},(∀d∈ds,te (ρ.set 0 (some d))=some (h d))->lC te ρ ds=some (ds.map h)
 | [],_=>rfl
 | d::ds,hh=>by
  unfold lC;rw[hh d zE,zA,rV λx hx=>hh x (zC _ hx)];rfl
def tJ(b:Bool)(W:List Wy)(p:Int):(own b W p).length<=W.length:=by
 unfold own;refine yD (xO _ _) ?_;rw[zR];exact yL _
def Aq(b:Bool)(W:List Wy)(p:Int):(((W.map aA).zipIdx.filter λq=>decide (aU b (aF W q.2)=p)).map λq=>nD q.2)=(own b W p).map nD:=by
 have e:(W.map aA).zipIdx=(List.range W.length).map λi=>(aA (aF W i),i):=by
  apply jG
  ·simp
  ·intro i h1 h2;have:i < W.length:=by simpa using h2
   simp[lN this]
 rw[e,kF,zM];rfl
def sd(h:Wd G T W)(e:(bu b G T)[i]?=some p):fK [aH G T W,.int (sI b),nD i]=some (.list ((iZ b W i p.2).map nD)):=by
 have hw:=h.wl;have ep:aw (.tuple ((bu b G T).map ba)) (nD i)=some (ba p):=gJ e;have hl:=tJ b W i;have t3:Dl.aI 3 [0] (f2 aw (ae 0) (fC (.int 2))) [.val (aH G T W),.val (.int (sI b)),.val (nD i),.RK,.RK,.RK]=some (.nx [.val (aH G T W),.val (.int (sI b)),.val (nD i),.val (.tuple (W.map aA)),.RK,.RK]) :=
  dJ (d:=.tuple (W.map aA)) rfl rfl rfl rfl
 have t4:Dl.aI 4 [0,1,2] (f2 aw (f2 aw (f2 aw (ae 0) (ae 1)) (ae 2)) (fC (.int 1))) [.val (aH G T W),.val (.int (sI b)),.val (nD i),.val (.tuple (W.map aA)),.RK,.RK]=some (.nx [.val (aH G T W),.val (.int (sI b)),.val (nD i),.val (.tuple (W.map aA)),.val (ag p.2),.RK]):=by
  refine dJ (d:=ag p.2) ?_ rfl rfl rfl;rw[hJ (a:=ba p) (b:=.int 1) ?_ rfl,IG];rw[hJ (a:=.tuple ((bu b G T).map ba)) (b:=nD i) ?_ rfl,ep];rw[hJ (a:=aH G T W) (b:=.int (sI b)) rfl rfl,ka]
 have c5:az 2 [1,2] (bD (aa (ae 3) af)) (iP 0 1) (fB (f2 aY (f2 aw (ae 1) (ae 2)) (ae 3))) (ae 0) [some (aH G T W),some (.int (sI b)),some (nD i),some (.tuple (W.map aA)),some (ag p.2),none]=some ((own b W i).map nD):=by
  rw[De (ds:=W.map aA) (p:=λj _=>decide (aU b (aF W j)=i)) (h:=λj _=>nD j) rfl (by rw[zD];lia) λj d hd=>?_,Aq];rw[zO] at hd;let⟨w,ZW,rfl⟩:=Dl.ah hd;have hj:j < W.length:=(List.getElem?_eq_some_iff.mp ZW).1;rw[oP hj] at ZW;cases ZW;refine⟨?_,λ_=>rfl⟩;show fB (f2 aY (f2 aw (ae 1) (ae 2)) (ae 3)) [some (nD j),some (aA (aF W j)),some (.int (sI b)),some (nD i)]=_;simp?[fB];rw[hJ (a:=.int (aU b (aF W j))) (b:=nD i) (by rw[hJ (a:=aA (aF W j)) (b:=.int (sI b)) rfl rfl,iC]) rfl,bP];rfl
 have t5:br 5 [1,2,3] (az 2 [1,2] (bD (aa (ae 3) af)) (iP 0 1) (fB (f2 aY (f2 aw (ae 1) (ae 2)) (ae 3))) (ae 0)) [.val (aH G T W),.val (.int (sI b)),.val (nD i),.val (.tuple (W.map aA)),.val (ag p.2),.RK]=some (.nx [.val (aH G T W),.val (.int (sI b)),.val (nD i),.val (.tuple (W.map aA)),.val (ag p.2),.own ((own b W i).map nD)]):=by
  have hh:hand [1,2,3] 0 [Slot.val (aH G T W),.val (.int (sI b)),.val (nD i),.val (.tuple (W.map aA)),.val (ag p.2),.RK]=[Slot.val (aH G T W),.val (.int (sI b)),.val (nD i),.val (.tuple (W.map aA)),.val (ag p.2),.RK]:=rfl;simp?[br,hh,bN,zI,yT,Slot.Sy,c5,zB,yV,yU]
 have hk:lC (f2 iF (ae 3) (f2 aw (f2 aw (ae 2) (ae 0)) (f2 Dl.dh (fC (.int 1)) (ae 1)))) [none,some (.int (sI b)),some (.tuple (W.map aA)),some (ag p.2)] ((own b W i).map nD)=some (((own b W i).map nD).map λd=>.int (kD b W p.2 d)):=by
  refine rV λd hd=>?_;let⟨j,hj,rfl⟩:=List.mem_map.mp hd;let⟨hjl,hje⟩:=eL.mp hj;show f2 iF (ae 3) (f2 aw (f2 aw (ae 2) (ae 0)) (f2 Dl.dh (fC (.int 1)) (ae 1))) [some (nD j),some (.int (sI b)),some (.tuple (W.map aA)),some (ag p.2)]=_;have ew:aw (.tuple (W.map aA)) (nD j)=some (aA (aF W j)):=gJ (oP hjl);rw[hJ (a:=ag p.2) (b:=.int (bF b (aF W j))) rfl ?_]
  ·have hm:bF b (aF W j)∈p.2:=(h.WM e).mem_iff.mpr (by rw[<- oK];exact List.mem_map.mpr ⟨j,hj,rfl⟩);simp?[iF,ag,bH,zA,kq hm,zB,kD,kj,yG]
   all_goals first|rfl|(congr 3;funext o;congr)
  ·rw[hJ (a:=aA (aF W j)) (b:=.int (1 - sI b)) ?_ ?_,B5]
   ·rw[hJ (a:=.tuple (W.map aA)) (b:=nD j) rfl rfl,ew]
   ·rw[hJ (a:=.int 1) (b:=.int (sI b)) rfl rfl,oX]
 have hi:intsOf (((own b W i).map nD).map λd=>PyData.int (kD b W p.2 d))=some (((own b W i).map nD).map (kD b W p.2)):=by
  rw[show (((own b W i).map nD).map λd=>PyData.int (kD b W p.2 d))=(((own b W i).map nD).map (kD b W p.2)).map PyData.int by simp?[zM];rfl,bH]
 have t6:aE (cg (nE [1,3,4] (ae 5) (f2 iF (ae 3) (f2 aw (f2 aw (ae 2) (ae 0)) (f2 Dl.dh (fC (.int 1)) (ae 1)))))) [.val (aH G T W),.val (.int (sI b)),.val (nD i),.val (.tuple (W.map aA)),.val (ag p.2),.own ((own b W i).map nD)]=some (.rt (.list ((iZ b W i p.2).map nD))):=by
  have es:nE [1,3,4] (ae 5) (f2 iF (ae 3) (f2 aw (f2 aw (ae 2) (ae 0)) (f2 Dl.dh (fC (.int 1)) (ae 1)))) [some (aH G T W),some (.int (sI b)),some (nD i),some (.tuple (W.map aA)),some (ag p.2),some (.list ((own b W i).map nD))]=some ((iZ b W i p.2).map nD):=by
   unfold nE;show (lC _ [none,some (.int (sI b)),some (.tuple (W.map aA)),some (ag p.2)] ((own b W i).map nD)).bind _=_;rw[hk,zA,hi,zA,yK (by rw[zD];lia),GV h e _ λj hj=>?_];simp[hj]
  simp?[aE,aJ,zI,yT,tK,uK,cg,es,zB]
 refine aO ?_;show mY [.val (aH G T W),.val (.int (sI b)),.val (nD i),.RK,.RK,.RK]=_;unfold mY;rw[ak t3,ak t4,ak t5,t6]
local macro_rules|`(tactic| dsimp! [$ts,*])=>`(tactic| simp only[ae,fC,f1,f2,aa,af,ai,bz,lO,bJ,fR,cg,fB,gB,bx,cH,m5,bD,aJ,bN,tK,uK,BL,AL,Be,BO,zI,yT,xP,yX,zA,zB,qF,zL,xJ,Nat.reduceAdd,jC,reduceIte,yV,yU,$ts,*])
def dA(R:ar->Prop)(f:α->D)(q:α->Bool)(out:α->D):∀ {l:List α}{ρ:ar},
  (∀ρ x,x∈l->R ρ->∃ρ1,tgt ρ (f x)=some ρ1/\(q x=true->gb ρ1=some (.rt (out x)))/\(q x=false->∃Tp,gb ρ1=some (.nx Tp)/\R Tp))->R ρ ->
  (∀x,l.find? q=some x->d9 tgt gb (l.map f) ρ=some (.rt (out x)))/\(l.find? q=none->∃ρ',d9 tgt gb (l.map f) ρ=some (.nx ρ')/\R ρ')
 | [],ρ,_,h=>⟨λx hx=>(by cases hx),λ_=>⟨ρ,rfl,h⟩⟩
 | x::l,ρ,hh,h=>by
  let⟨ρ1,e1,e2,e3⟩:=hh ρ x zE h;rw[zI,d9,e1,zA];cases hq:q x with
  | true =>
   rw[vV (by simpa using hq),e2 hq];exact⟨λy hy=>(by cases hy;rfl),λhn=>(by cases hn)⟩
  | false =>
   let⟨Tp,e4,h2⟩:=e3 hq;rw[kM (by simp[hq]),e4];exact dA R f q out (λρ x hx=>hh ρ x (zC _ hx)) h2
def bQ(h:d9 tgt gb ds ρ1=o)(hi:fi (bN ρ1)=some ds)(hh:hand fz 0 ρ=ρ1):cN fz fi tgt gb ρ=o:=by
 simp?[cN,hh,hi,zA,h]
def IJ(hh:hand fz 0 ρ=ρ')(hf:f (bN ρ')=some ds):br i fz f ρ=some (.nx (ρ'.set i (.own ds))):=by
 simp?[br,hh,hf,zB]
def rY(hf:f (bN ρ)=some ds)(hh:hand fz 0 ρ=ρ):br i fz f ρ=some (.nx (ρ.set i (.own ds))):=IJ hh hf
def fT(hh:hand fz 0 ρ=ρ')(hA:f (aJ ρ)=some d)(hF:f (bN ρ')=some d)(hs:Dl.jm d=false)(hr:gq d=false\/ρ'=ρ:=by first|exact .inr rfl|exact .inl rfl):Dl.aI i fz f ρ=some (.nx (ρ'.set i (.val d))):=by
 rcases hr with hr|hr
 ·simp?[Dl.aI,hA,zA,hs,yN,qN,hh,hF,zB,hr]
 ·subst hr;simp?[Dl.aI,hA,zA,hs,yN,qN,hh,hF,zB,ite_self]
def call_of(h:m ds=some d)(hf:fs ρ=some ds)(hn:ds.length=n):ai n m fs ρ=some d:=by
 unfold ai;rw[hf,zA,yK hn,h]
def cons_of(h:f ρ=some d)(hs:fs ρ=some ds):aa f fs ρ=some (d::ds):=by
 unfold aa;rw[h,hs];rfl
def aK(hf:f (aJ ρ)=some d):aE f ρ=some (.rt d):=by
 simp?[aE,hf,zB]
def nJ(hf:f (aJ ρ)=some d):fO f ρ=some (.nx ρ):=by
 simp?[fO,hf,zB]
def aX(h:t (aJ ρ)=some false):dE t g cP ρ=some (.nx ρ):=by
 simp[dE,h,cP]
def bw(h:t (aJ ρ)=some true):dE t g g2 ρ=g ρ:=by
 simp[dE,h]
def dW(h:g1 ρ=some (.rt d)):au g1 g2 ρ=some (.rt d):=by
 simp?[au,h,zA]
def CN(hf:f (aJ ρ)=some d)(hs:Dl.jm d=true)(hk:fk (aJ ρ)=some (nD k))(ho:ρ[i]?=some (.own ds))(hl:k < ds.length):FU i fz fk f ρ=some (.nx (ρ.set i (.own (ds.set k d)))):=by
 have hx:E2 ds.length ((k:Nat):Int)=some k:=by
  unfold E2;rw[yK (Int.natCast_nonneg k),yK (by lia)];simp
 simp?[FU,md,hf,zA,hs,xG,hk,mO,ho,hx,zB]
def lp(cont:S->Bool)(st:S->S):Nat->S->S
 | 0,s=>s
 | n+1,s=>if cont s=true then lp cont st n (st s) else s
def gF{off:List Int}(h:i < off.length):aw (ag off) (nD i)=some (.int (off.getD i 0)):=gJ (f:=PyData.int) (l:=off) (by simp[h])
def LS{off:List Int}(h:i < off.length):aw (.list (off.map PyData.int)) (nD i)=some (.int (off.getD i 0)):=AJ (f:=PyData.int) (l:=off) (by simp[h])
def tZ(h:i < W.length):aw (.tuple (W.map aA)) (nD i)=some (aA (aF W i)):=gJ (oP h)
def Pi(a b c:Int):CZ [.int a,.int b,.int c]=some (.int (min (min a b) c)):=rfl
def IL(l:List Int)(k:Nat)(v:Int):(l.map PyData.int).set k (.int v)=(l.set k v).map PyData.int:=by rw[List.map_set]
def JA(l:List D):bg [.tuple l]=some (nD l.length):=rfl
def ui(l:List Int):bg [ag l]=some (nD l.length):=by
 show some (PyData.int ((l.map PyData.int).length:Nat))=_;rw[zD]
def CL(h:n<=1000):lF [nD n]=some ((List.range n).map nD):=by
 rw[uZ (mH h),yG]
def fW(h:fs ρ=some [nD n])(hn:n<=1000):aS fs ρ=some ((List.range n).map nD):=by
 unfold aS;rw[h,zA,CL hn]
def sub_int(i j:Int):Dl.dh (.int i) (.int j)=some (.int (i - j)):=oX i j
def Fz(h1:uN k=true)(h2:ds.length * k.toNat<=sizeLine):BQ ds (.int k)=some (List.replicate k.toNat ds).flatten:=by
 simp?[BQ];rw[yK (And.intro h1 h2)]
def J3:∀n,(List.replicate n [PyData.int 0]).flatten=(List.replicate n (0:Int)).map PyData.int
 | 0=>rfl
 | n+1=>by rw[xD,qL,J3 n,xD];rfl
def cV(W:List Wy)(off:List Int)(left:Int)(i:Nat):Int:=min (min (off.getD i 0) (aF W i).2.2) left
def NR(W:List Wy)(off:List Int)(s:Int×List Int)(i:Nat):Int×List Int:=(s.1 - cV W off s.1 i,s.2.set i (cV W off s.1 i))
def RH(W:List Wy)(off:List Int)(SR:Int)(is:List Nat):List Int:=(is.foldl (NR W off) (SR,List.replicate W.length 0)).2
def Gb{off:List Int}(hi:i < W.length)(ho:off.length=W.length)(hs:s.2.length=W.length) :
  (au (FU 4 [0,3,5,6] (ae 6) (bz CZ (aa (f2 aw (ae 3) (ae 6)) (aa (f2 aw (f2 aw (f2 aw (ae 0) (fC (.int 2))) (ae 6)) (fC (.int 2))) (aa (ae 5) af))))) (Dl.aI 5 [4,5,6] (f2 Dl.dh (ae 5) (f2 aw (ae 4) (ae 6))))) [.val (aH G T W),.val d1,.val d2,.val (ag off),.own (s.2.map PyData.int),.val (.int s.1),.val (nD i)]=some (.nx [.val (aH G T W),.val d1,.val d2,.val (ag off),.own ((NR W off s i).2.map PyData.int),.val (.int (NR W off s i).1),.val (nD i)]):=by
 have hv:(bz CZ (aa (f2 aw (ae 3) (ae 6)) (aa (f2 aw (f2 aw (f2 aw (ae 0) (fC (.int 2))) (ae 6)) (fC (.int 2))) (aa (ae 5) af)))) (aJ [.val (aH G T W),.val d1,.val d2,.val (ag off),.own (s.2.map PyData.int),.val (.int s.1),.val (nD i)])=some (.int (cV W off s.1 i)):=by
  dsimp! [gF (show i < off.length by lia),j8,tZ hi,uC,Pi,cV]
 have t1:=CN (i:=4) (fz:=[0,3,5,6]) (fk:=ae 6) (k:=i) (ds:=s.2.map PyData.int) hv rfl rfl rfl (by rw[zD];lia);rw[IL] at t1;rw[ak t1];have hl:i < (s.2.set i (cV W off s.1 i)).length:=by rw[yC];lia
 have hg:(s.2.set i (cV W off s.1 i)).getD i 0=cV W off s.1 i:=by
  have:i < s.2.length:=by lia
  simp[this]
 have hv2:(f2 Dl.dh (ae 5) (f2 aw (ae 4) (ae 6))) (aJ ([.val (aH G T W),.val d1,.val d2,.val (ag off),.own (s.2.map PyData.int),.val (.int s.1),.val (nD i)].set 4 (.own ((s.2.set i (cV W off s.1 i)).map PyData.int))))=some (.int (NR W off s i).1):=by
  dsimp! [LS hl,sub_int,hg,NR]
 rw[dN hv2 rfl];rfl
def dv(b:Bool)(G T:List Pl)(i:Nat):Pl:=(bu b G T).getD i (0,[])
def Rn(b:Bool)(G T:List Pl)(W:List Wy)(off s:List Int)(i:Nat):List Int:=List.zipWith (·+·) s (RH W off (dv b G T i).1 (iZ b W i (dv b G T i).2))
def LX(b:Bool)(G T:List Pl)(W:List Wy)(off:List Int):List Int:=(List.range (bu b G T).length).foldl (Rn b G T W off) (List.replicate W.length 0)
def m6(h:i < (bu b G T).length):(bu b G T)[i]?=some (dv b G T i):=by simp[dv,h]
def Wd.pl(h:Wd G T W)(b:Bool):(bu b G T).length<=4:=by
 cases b
 ·exact h.g4
 ·exact h.t4
def l6(h:(xs++ys).length<=4000):Dl.aB (.tuple xs) (.tuple ys)=some (.tuple (xs++ys)):=by
 simp?[Dl.aB,sT,Jw,bY h,zB,Option.none_or,Option.some_or]
def uB(h:f ρ=some d):ax (aa f af) ρ=some (.tuple [d]):=by
 simp?[ax,aa,af,h,zA,zB];rw[bY (by simp),zB]
def aq(h:g a b=some c)(ha:fa ρ=some a)(hb:fb ρ=some b):f2 g fa fb ρ=some c:=by rw[hJ ha hb,h]
def EO(h:f ρ=some (.tuple ds))(h2:g ρ=some (nD k)):eA cw f eX (nY g) ρ=some (.tuple (ds.take k)):=by
 simp?[eA,h,eX,nY,h2,zA,gI,zB,cw,DD]
def F5(h:f ρ=some (.tuple ds))(h2:g ρ=some (nD k)):eA cw f (nY g) eX ρ=some (.tuple (ds.drop k)):=by
 simp?[eA,h,eX,nY,h2,zA,gI,zB,cw,xy]
def oH(c:List Int)(i:Nat)(v:Int)(h:i < c.length):((c.map PyData.int).take i++[PyData.int v])++(c.map PyData.int).drop (i+1)=(c.set i v).map PyData.int:=by
 rw[List.set_eq_take_append_cons_drop,yK h];simp
def Ra(i:Nat):Dl.aB (nD i) (.int 1)=some (nD (i+1)):=by
 rw[dk];rfl
def pw(h:i < c.length)(hl:c.length<=1000):cW [ag c,nD i,.int v]=some (ag (c.set i v)):=by
 refine aO ?_;show pS [.val (ag c),.val (nD i),.val (.int v)]=_;refine aK ?_;refine aq (a:=.tuple ((c.map PyData.int).take i++[PyData.int v])) (b:=.tuple ((c.map PyData.int).drop (i+1))) ?_ (aq (a:=.tuple ((c.map PyData.int).take i)) (b:=.tuple [.int v]) (l6 ?_) (EO rfl rfl) (uB rfl)) (F5 rfl (aq (Ra i) rfl rfl))
 ·rw[l6,oH c i v h]
  ·rfl
  ·rw[oH c i v h];simp;lia
 ·simp;lia
def MA(W:List Wy):List Int:=W.map λw=>w.2.2
def QQ(G T:List Pl)(W:List Wy)(c:List Int):List Int:=LX true G T W (LX false G T W c)
def qR(G T:List Pl)(W:List Wy)(c:List Int)(k:Nat):Bool:=decide ((QQ G T W c).getD k 0 < (LX false G T W c).getD k 0)
def QN(G T:List Pl)(W:List Wy)(c:List Int):Option (Nat×Int):=((List.range W.length).find? (qR G T W c)).map λk=>(k,(QQ G T W c).getD k 0)
def enum_zip:∀ (ds:List D) (k:Nat),bG k ds=(ds.zipIdx k).map λq=>.tuple [nD q.2,q.1]
 | [],k=>rfl
 | d::ds,k=>by rw[bG,enum_zip ds (k+1),List.zipIdx_cons];rfl
def we(l:List Int)(k:Nat)(v:Int)(i:Nat):(l.set k v).getD i 0=if k=i/\i < l.length then v else l.getD i 0:=by
 simp?[zG,xH];by_cases h:k=i
 ·subst h;by_cases h2:k < l.length
  ·simp[h2]
  ·simp[h2]
 ·simp[h]
def Off(off:List Int):Prop:=∀i,0<=off.getD i 0
def QK(W:List Wy):Prop:=∀i,0<=(aF W i).2.2
def Wd.lim{G T:List Pl}{W:List Wy}(h:Wd G T W):QK W:=λi=>by
 by_cases hi:i < W.length
 ·have:=h.wr (aF W i) (by rw[<- lN hi];exact xZ hi);lia
 ·simp?[aF,zG];rw[jL (by lia)];simp
def Wd.SR{G T:List Pl}{W:List Wy}(h:Wd G T W)(b:Bool)(i:Nat):0<=(dv b G T i).1:=by
 unfold dv;rw[zG];cases e:(bu b G T)[i]? with
 | none=>simp
 | some p =>
  have hm:=qA e;cases b
  ·exact (h.ga p hm).1
  ·exact (h.ta p hm).1
def Gn{l:List Int}{i:Nat}(h:l.length<=i):l.getD i 0=0:=by simp[zG,h]
def QM(c:List Int):Nat:=(c.map Int.toNat).sum
def zv(a:List Int):SeqAt.shaped (ag a)=true :=
 (gP.tup (b:=a.length) (k:=0) (by simp) λx hx=>by let⟨i,_,rfl⟩:=List.mem_map.mp hx;exact gx _).shaped (by decide)
def p5(a b:List Int):PyData.eqv (ag a) (ag b)=decide (a=b):=by
 rw[ag,ag,PyData.eqv,mR]
def aQ(h:f ρ=some (.bool b)):fB f ρ=some b:=by
 simp?[fB,h,zA,gB]
def cf(h:t ρ=some b):bx t ρ=some (!b):=by
 simp?[bx,h,zB]
def Ew(a b:List Int):cR (ag a) (ag b)=some (.bool (!decide (a=b))):=by
 simp?[cR,GW,zv,jO,xG,p5,zB]
def Dw(a:List Int):cR (ag a) (ag a)=some (.bool false):=by rw[Ew];simp
def sJ(a b:List (List Int)):cR (.list (a.map ag)) (.list (b.map ag))=some (.bool (!decide (a=b))):=by
 simp?[cR,GW,ja,jO,xG,PyData.eqv,qr,zB]
def bo(hA:f (aJ ρ)=some d)(hF:f (bN ρ)=some d)(hh:hand fz 0 ρ=ρ):Dl.aI i fz f ρ=some (.nx (ρ.set i (.val d))):=by
 cases hs:Dl.jm d with
 | true=>exact dN hA hs
 | false=>exact fT hh hA hF hs (.inr rfl)
def lr(h:Wd G T W):cJ [aH G T W]=some .none:=by
 have hw:bp [aH G T W]=some (.bool true):=by rw[lK h.fit (by decide),h.wok]
 have hc:(bx (fB (ai 1 bp (aa (ae 0) af)))) (aJ [.val (aH G T W)])=some false:=cf (aQ (call_of hw rfl rfl));have:eK [.val (aH G T W)]=some (.nx [.val (aH G T W)]):=by
  unfold eK;rw[aX hc]
 show (eK [.val (aH G T W)]).map _=_;rw[this];rfl
def rg(h1:a<=i)(h2:i<=b):dm [.int i,.int a,.int b]=some .none:=by
 have hw:bc [.int i,.int a,.int b]=some (.bool true):=by rw[dG rfl];simp[whole,h1,h2]
 have hc:(bx (fB (ai 3 bc (aa (ae 0) (aa (ae 1) (aa (ae 2) af)))))) (aJ [.val (.int i),.val (.int a),.val (.int b)])=some false:=cf (aQ (call_of hw rfl rfl));have:cI [.val (.int i),.val (.int a),.val (.int b)]=some (.nx [.val (.int i),.val (.int a),.val (.int b)]):=by
  unfold cI;rw[aX hc]
 show (cI [.val (.int i),.val (.int a),.val (.int b)]).map _=_;rw[this];rfl
def pI(h1:0<=i)(h2:i<=n - 1):bj [.int i,.int n]=some .none:=by
 have:cn [.val (.int i),.val (.int n)]=some (.nx [.val (.int i),.val (.int n)]):=by
  unfold cn;exact nJ (call_of (rg h1 h2) (cons_of rfl (cons_of rfl (cons_of (aq (sub_int n 1) rfl rfl) rfl))) rfl)
 show (cn [.val (.int i),.val (.int n)]).map _=_;rw[this];rfl
def ue(b:Bool):mC [.int (sI b)]=some .none:=by
 have:fu [.val (.int (sI b))]=some (.nx [.val (.int (sI b))]):=by
  unfold fu;exact nJ (call_of (pI (n:=2) (i:=sI b) (by cases b<;>decide) (by cases b<;>decide)) rfl rfl)
 show (fu [.val (.int (sI b))]).map _=_;rw[this];rfl
abbrev Sp:=List (Nat×Int)×List Int
def Rx(G T:List Pl)(W:List Wy)(s:Sp):Bool:=(QN G T W s.2).isSome
def spS(G T:List Pl)(W:List Wy)(s:Sp):Sp:=match QN G T W s.2 with|some p=>(s.1++[p],s.2.set p.1 p.2)|none=>s
def low(c:List Int)(p:Nat×Int):List Int:=c.set p.1 p.2
structure RJ(W:List Wy)(s:Sp):Prop where
 len:s.2.length=W.length
 off:Off s.2
 eq:s.2=s.1.foldl low (MA W)
 bd:s.1.length+QM s.2<=QM (MA W)
 mem:∀p∈s.1,p.1 < W.length
def fin(G T:List Pl)(W:List Wy):Sp:=lp (Rx G T W) (spS G T W) Rf.turns ([],MA W)
structure Ord(W:List Wy)(π:List Nat):Prop where
 perm:π.Perm (List.range W.length)
 up:π.Pairwise λi j=>(aF W i).2.1 < (aF W j).2.1\/((aF W i).2.1=(aF W j).2.1/\(aF W i).1 < (aF W j).1)
def gS(b:Bool)(W:List Wy)(P:List Int)(p:Int):Int:=((own b W p).map λi=>P.getD i 0).sum
def lg(L:List Int)(x:Int):Nat:=L.findIdx λo=>decide (o=x)
def p7(b:Bool)(G T:List Pl)(W:List Wy)(P:List Int)(k:Nat):Bool :=
 decide (gS b W P (aU b (aF W k)) < (dv b G T (aU b (aF W k)).toNat).1) ||
 ((dv b G T (aU b (aF W k)).toNat).2.drop (lg (dv b G T (aU b (aF W k)).toNat).2 (bF b (aF W k))+1)).any λo=>decide (0 < P.getD (ig b W (aU b (aF W k)) o) 0)
def dR(G T:List Pl)(W:List Wy)(P:List Int)(k:Nat):Nat :=
 if P.getD k 0=(aF W k).2.2 then 0 else if p7 false G T W P k=false then 1 else if p7 true G T W P k=false then 2 else 3
def fj(G T:List Pl)(W:List Wy)(P:List Int):List Nat:=(List.range W.length).filter λk=>decide (dR G T W P k=3)
def Wd.R8(h:Wd G T W)(b:Bool)(hk:k < W.length):0<=aU b (aF W k)/\(aU b (aF W k)).toNat < (bu b G T).length/\((aU b (aF W k)).toNat:Int)=aU b (aF W k):=by
 have:=h.wr (aF W k) (by rw[<- lN hk];exact xZ _);cases b
 ·simp?[aU,bu,yN,qN];lia
 ·simp?[aU,bu,xG];lia
structure Pn(G T:List Pl)(W:List Wy)(P:List Int):Prop where
 len:P.length=W.length
 bd:∀k,k < W.length->0<=P.getD k 0/\P.getD k 0<=(aF W k).2.2
 am:∀ (b:Bool) (i:Nat),i < (bu b G T).length->gS b W P i<=(dv b G T i).1
section
variable {off:List Int}
def rO(h:∀k,k < W.length->P.getD k 0=Q.getD k 0):gS b W P p=gS b W Q p:=by
 unfold gS
 congr 1
 exact yH λk hk=>h k (eL.mp hk).1
end
def rz(G T:List Pl)(W:List Wy)(P:List Int):Bool :=
 ((List.range G.length).all λi=>decide (gS false W P i<=(dv false G T i).1))&&((List.range T.length).all λi=>decide (gS true W P i<=(dv true G T i).1))
def zs(n:Nat):List Int:=List.replicate n 0
def lU(d:Nat->Int)(G T:List Pl)(W:List Wy):Nat->List Int
 | 0=>[]
 | k+1=>if rz G T W ((lU d G T W k++[d k])++zs (W.length - (lU d G T W k++[d k]).length))=true then lU d G T W k++[d k] else lU d G T W k++[0]
section
variable {W:List Wy}{G T:List Pl}{d:Nat->Int}
def gV:rz G T W P=true↔∀ (b:Bool) (i:Nat),i < (bu b G T).length->gS b W P i<=(dv b G T i).1:=by
 unfold rz;rw[zF,xF,xF];constructor
 ·rintro⟨h1,h2⟩ b i hi;cases b
  ·exact yP (h1 i (by simpa [bu] using hi))
  ·exact yP (h2 i (by simpa [bu] using hi))
 ·intro h;exact⟨λi hi=>yA (h false i (by simpa [bu] using hi)),λi hi=>yA (h true i (by simpa [bu] using hi))⟩
def l9:∀k,(lU d G T W k).length=k
 | 0=>rfl
 | k+1=>by
  unfold lU;split<;>simp[l9 k]
def E6(h:∀k,P.getD k 0=0):gS b W P p=0:=by
 unfold gS;have:((own b W p).map λi=>P.getD i 0)=(own b W p).map λ_=>(0:Int):=yH λk _=>h k;rw[this];generalize own b W p=l
 induction l with
 | nil=>rfl
 | cons a l ih=>simp[ih]
def J4(n k:Nat):(zs n).getD k 0=0:=by
 simp?[zs,zG,yW];split<;>rfl
def Ey(l:List Int)(n k:Nat):(l++zs n).getD k 0=l.getD k 0:=by
 by_cases h:k < l.length
 ·simp[zG,yR h]
 ·have h':l.length<=k:=by lia
  have:=J4 n (k - l.length);simp?[zG] at this ⊢;rw[yS h',this];simp[h']
def Qu(l:List Int)(k:Nat):(l++[0]).getD k 0=l.getD k 0:=Ey l 1 k
def AO(h:Wd G T W):∀k,rz G T W (lU d G T W k)=true
 | 0=>gV.mpr λb i hi=>by
  rw[E6 λk=>by simp[lU]];exact h.SR b i
 | k+1=>by
  unfold lU;split
  ·rename_i e;refine gV.mpr λb i hi=>?_;have:=gV.mp e b i hi;rw[rO (Q:=lU d G T W k++[d k]) λj _=>Ey _ _ _] at this;exact this
  ·refine gV.mpr λb i hi=>?_;rw[rO (Q:=lU d G T W k) λj _=>Qu _ _];exact gV.mp (AO h k) b i hi
def AH(hd:∀k,k < W.length->0<=d k/\d k<=(aF W k).2.2)(hl:QK W):∀k,k<=W.length->∀j,j < k->0<=(lU d G T W k).getD j 0/\(lU d G T W k).getD j 0<=(aF W j).2.2
 | 0,_,j,hj=>by lia
 | k+1,hk,j,hj=>by
  have ih:=AH hd hl k (by lia) j;have len:(lU d G T W k).length=k:=l9 k;have key:∀x,(0<=x/\x<=(aF W k).2.2)->0<=(lU d G T W k++[x]).getD j 0/\(lU d G T W k++[x]).getD j 0<=(aF W j).2.2:=λx hx=>by
   by_cases UK:j < k
   ·rw[zG,yR (by lia),<- zG];exact ih UK
   ·have:j=k:=by lia
    subst this;rw[zG,yS (by lia),len];simpa using hx
  unfold lU;split
  ·exact key _ (hd k (by lia))
  ·exact key _ ⟨by lia,hl k⟩
def LM(h:Wd G T W)(hd:∀k,k < W.length->0<=d k/\d k<=(aF W k).2.2):Pn G T W (lU d G T W W.length) where
 len:=l9 _
 bd:=AH hd h.lim W.length (yL _)
 am:=gV.mp (AO h _)
end
def rS{tt:Dl.Env->Option Bool}{te:Dl.Env->Option D}{r:List (Option D)}{x y h:Nat->D}{p:Nat->Bool}:∀ (is:List Nat),
  (∀i∈is,tt (some (x i)::some (y i)::r)=some (p i)/\(p i=true->te (some (x i)::some (y i)::r)=some (h i))) ->
  d0 (iP 0 1) tt te (none::none::r) (is.map λi=>.tuple [x i,y i])=some ((is.filter p).map h)
 | [],_=>rfl
 | i::is,hh=>by
  let⟨h1,h2⟩:=hh i zE;have ih:=rS is λj hj=>hh j (zC _ hj);have hg:iP 0 1 (none::none::r) (.tuple [x i,y i])=some (some (x i)::some (y i)::r):=by
   simp?[iP,isFree,xP,yX,qF,Option.isNone_none,jO,xG,yU,yV]
  rw[zI,d0,hg];simp?[zA,h1];cases hp:p i with
  | true=>simp[h2 hp,ih,hp]
  | false=>simp[ih,hp]
def mG{cs:List Nat}{fi:Dl.Env->Option (List D)}{tt:Dl.Env->Option Bool}{te:Dl.Env->Option D}{ρ:Dl.Env}{n:Nat}{x y h:Nat->D}{p:Nat->Bool}(Tj:fi ρ=some ((List.range n).map λi=>.tuple [x i,y i]))(hl:n<=1000)
  (hh:∀i,i < n->tt (some (x i)::some (y i)::cs.map λj=>(ρ[j]?).getD none)=some (p i)/\(p i=true->te (some (x i)::some (y i)::cs.map λj=>(ρ[j]?).getD none)=some (h i))) :
  az 2 cs fi (iP 0 1) tt te ρ=some (((List.range n).filter p).map h):=by
 have:=rS (tt:=tt) (te:=te) (r:=cs.map λj=>(ρ[j]?).getD none) (p:=p) (h:=h) (List.range n) λi hi=>hh i (by simpa using hi);simp?[az,Tj,zA,gg,List.replicate,xE,xN,this];refine bY ?_;rw[zD];refine yD (xO _ _) ?_;rw[zR];lia
def sk{W:List Wy}{P:List Int}(h:P.length=W.length):ji (W.map aA) (P.map PyData.int)=(List.range W.length).map λi=>.tuple [aA (aF W i),.int (P.getD i 0)]:=by
 apply List.ext_getElem?;intro i;by_cases hi:i < W.length
 ·have hz:i < (ji (W.map aA) (P.map PyData.int)).length:=by rw[mL];simp[h];exact hi
  rw[zK hz];let⟨x,y,e1,e2,e3⟩:=pF (zK hz);rw[zO,oP hi] at e1;rw[zO,zK (by lia)] at e2;cases e1;have e2:PyData.int P[i]=y:=by simpa using e2
  rw[e3,<- e2];have:i < P.length:=by lia
  simp[hi,this,zG]
 ·rw[jL (by rw[mL];simp;lia),jL (by simp;lia)]
def Sm(P:List Int):Prop:=∀k,-1000000<=P.getD k 0/\P.getD k 0<=1000000
def Bw(hs:Sm P)(hw:W.length<=16)(b:Bool)(p:Int):Ka ((own b W p).map λi=>P.getD i 0)=true:=by
 unfold Ka;rw[zF,zJ,xF];refine⟨?_,λx hx=>?_⟩
 ·have:=tJ b W p;rw[zD];lia
 ·let⟨i,_,rfl⟩:=List.mem_map.mp hx;rw[zF,zJ,zJ];exact hs i
def nL(h:Wd G T W)(hp:P.length=W.length)(hs:Sm P)(b:Bool)(p:Int):cK [aH G T W,ag P,.int (sI b),.int p]=some (.int (gS b W P p)):=by
 have hw:=h.wl;refine aO ?_;show sC [.val (aH G T W),.val (ag P),.val (.int (sI b)),.val (.int p)]=_;have hz:f7 (aa (f2 aw (ae 0) (fC (.int 2))) (aa (ae 1) af)) [some (aH G T W),some (ag P),some (.int (sI b)),some (.int p)]=some ((List.range W.length).map λi=>.tuple [aA (aF W i),.int (P.getD i 0)]):=by
  rw[<- sk hp];rfl
 have c:az 2 [2,3] (f7 (aa (f2 aw (ae 0) (fC (.int 2))) (aa (ae 1) af))) (iP 0 1) (fB (f2 aY (f2 aw (ae 0) (ae 2)) (ae 3))) (ae 1) [some (aH G T W),some (ag P),some (.int (sI b)),some (.int p)]=some ((own b W p).map λi=>.int (P.getD i 0)):=by
  rw[mG (p:=λi=>decide (aU b (aF W i)=p)) (h:=λi=>.int (P.getD i 0)) hz (by lia) λi hi=>⟨?_,λ_=>rfl⟩]
  ·rfl
  ·show fB (f2 aY (f2 aw (ae 0) (ae 2)) (ae 3)) [some (aA (aF W i)),some (.int (P.getD i 0)),some (.int (sI b)),some (.int p)]=_;exact aQ (by rw[hJ (a:=.int (aU b (aF W i))) (b:=.int p) (aq (iC b _) rfl rfl) rfl,bP])
 refine aK ?_;have e:((own b W p).map λi=>PyData.int (P.getD i 0))=((own b W p).map λi=>P.getD i 0).map PyData.int:=by rw[zM];rfl
 show bz rh (aa (cg (az 2 [2,3] (f7 (aa (f2 aw (ae 0) (fC (.int 2))) (aa (ae 1) af))) (iP 0 1) (fB (f2 aY (f2 aw (ae 0) (ae 2)) (ae 3))) (ae 1))) af) [some (aH G T W),some (ag P),some (.int (sI b)),some (.int p)]=_;rw[e] at c;simp?[bz,aa,af,cg,c,zB,zA];show rh [.list (((own b W p).map λi=>P.getD i 0).map PyData.int)]=_;simp?[rh,cy,oneOf,fR,zA,bH,Bw hs hw b p,xG];rfl
def pV(L:List Pl):bG 0 (L.map ba)=(List.range L.length).map λi=>.tuple [nD i,ba (L.getD i (0,[]))]:=by
 rw[enum_zip];apply jG
 ·simp
 ·intro i h1 h2;have:i < L.length:=by simpa using h2
  simp[this,zG]
def sf(is:List Nat):mj [.list (is.map λi=>.bool (p i))]=some (.bool (is.all p)):=by
 have:∀is:List Nat,boolsOf (is.map λi=>PyData.bool (p i))=some (is.map p):=λis=>by
  induction is with
  | nil=>rfl
  | cons i is ih=>simp[boolsOf,ih]
 simp?[mj,oneOf,zA,this,zB,List.all_map];rfl
def BB(h:Wd G T W)(hp:P.length=W.length)(hs:Sm P)(b:Bool):dw [aH G T W,ag P,.int (sI b)]=some (.bool ((List.range (bu b G T).length).all λi=>decide (gS b W P i<=(dv b G T i).1))):=by
 have hl:=h.pl b;refine aO ?_;show iV [.val (aH G T W),.val (ag P),.val (.int (sI b))]=_;have he:bD (aa (f2 aw (ae 0) (ae 2)) af) [some (aH G T W),some (ag P),some (.int (sI b))]=some ((List.range (bu b G T).length).map λi=>.tuple [nD i,ba (dv b G T i)]):=by
  have:=pV (bu b G T);unfold dv;rw[<- this];cases b<;>rfl
 have c:=mG (cs:=[0,1,2]) (tt:=λ_=>some true) (te:=f2 B1 (ai 4 cK (aa (ae 2) (aa (ae 3) (aa (ae 4) (aa (ae 0) af))))) (f2 aw (ae 1) (fC (.int 0)))) (p:=λ_=>true) (h:=λi=>.bool (decide (gS b W P i<=(dv b G T i).1))) he (by lia) λi hi=>⟨rfl,λ_=>aq (a:=.int (gS b W P i)) (b:=.int (dv b G T i).1) rfl (call_of (nL h hp hs b i) rfl rfl) rfl⟩
 refine aK ?_;show bz mj (aa (cg (az 2 [0,1,2] (bD (aa (f2 aw (ae 0) (ae 2)) af)) (iP 0 1) (λ_=>some true) (f2 B1 (ai 4 cK (aa (ae 2) (aa (ae 3) (aa (ae 4) (aa (ae 0) af))))) (f2 aw (ae 1) (fC (.int 0)))))) af) [some (aH G T W),some (ag P),some (.int (sI b))]=_;simp?[bz,aa,af,cg,c,zB,zA];rw[show (List.range (bu b G T).length).filter (λ_=>true)=List.range (bu b G T).length by simp,sf]
def GC(ha:fa ρ=some (.bool true))(hb:fb ρ=some d):k8 fa fb ρ=some d:=by
 simp?[k8,ha,zA,hb]
def IW(ha:fa ρ=some (.bool false)):k8 fa fb ρ=some (.bool false):=by
 simp?[k8,ha,zA]
def Ie(ha:fa ρ=some (.bool a))(hb:fb ρ=some (.bool b)):k8 fa fb ρ=some (.bool (a&&b)):=by
 cases a
 ·exact IW ha
 ·exact GC ha hb
def nK(h:f ρ=some d):bz g (aa f af) ρ=g [d]:=by
 simp?[bz,aa,af,h,zB,zA]
def tG{l:List α}(h:f ρ=some (.tuple (l.map k))):bz bg (aa f af) ρ=some (nD l.length):=by
 rw[nK h,JA,zD]
def OX(W:List Wy)(P:List Int):Bool:=(List.range W.length).all λk=>decide (0<=P.getD k 0)&&decide (P.getD k 0<=(aF W k).2.2)
def AU(b:Bool)(G T:List Pl)(W:List Wy)(P:List Int):Bool:=(List.range (bu b G T).length).all λi=>decide (gS b W P i<=(dv b G T i).1)
def Oo(G T:List Pl)(W:List Wy)(P:List Int):Bool:=OX W P&&(AU false G T W P&&AU true G T W P)
def HE(hp:P.length=W.length):Oo G T W P=true↔Pn G T W P:=by
 simp?[Oo,OX,AU,zF,xF,zS,zJ];constructor
 ·rintro⟨h1,h2,h3⟩;exact⟨hp,h1,λb=>by cases b<;>assumption⟩
 ·intro p;exact⟨p.bd,p.am false,p.am true⟩
def LU(P:List Int):gy (ag P)=true:=rfl
def Dt(h:Wd G T W)(hp:P.length=W.length)(hs:Sm P):cY [aH G T W,ag P]=some (.bool (Oo G T W P)):=by
 have hw:=h.wl;have hlen:(P.map PyData.int).length=W.length:=by rw[zD,hp]
 refine aO ?_;show ie [.val (aH G T W),.val (ag P),.RK]=_;unfold ie;have t1:Dl.aI 2 [0] (f2 aw (ae 0) (fC (.int 2))) [.val (aH G T W),.val (ag P),.RK]=some (.nx [.val (aH G T W),.val (ag P),.val (.tuple (W.map aA))]):=dJ (d:=.tuple (W.map aA)) rfl rfl rfl rfl;rw[ak t1];have el:bV [ag P,nD W.length,nD W.length]=some (.bool true):=by
  rw[show nD W.length=.int ((W.length:Nat):Int) from rfl,dI (LU P)];simp[long,ag,hp]
 have hl:∀ρ:Dl.Env,ae 2 ρ=some (.tuple (W.map aA))->bz bg (aa (ae 2) af) ρ=some (nD W.length):=λρ hr=>tG hr;have c1:(bx (fB (ai 3 bV (aa (ae 1) (aa (bz bg (aa (ae 2) af)) (aa (bz bg (aa (ae 2) af)) af)))))) (aJ [.val (aH G T W),.val (ag P),.val (.tuple (W.map aA))])=some false :=
  cf (aQ (call_of el (cons_of rfl (cons_of (hl _ rfl) (cons_of (hl _ rfl) rfl))) rfl))
 rw[ak (aX c1)];have hz:f7 (aa (ae 2) (aa (ae 1) af)) [some (aH G T W),some (ag P),some (.tuple (W.map aA))]=some ((List.range W.length).map λi=>.tuple [aA (aF W i),.int (P.getD i 0)]):=by
  rw[<- sk hp];rfl
 have c2:=mG (cs:=[]) (tt:=λ_=>some true) (te:=ai 3 bc (aa (ae 1) (aa (fC (.int 0)) (aa (f2 aw (ae 0) (fC (.int 2))) af)))) (p:=λ_=>true) (h:=λk=>.bool (decide (0<=P.getD k 0)&&decide (P.getD k 0<=(aF W k).2.2))) hz (by lia)
  λi hi=>⟨rfl,λ_=>call_of (dG (d:=.int (P.getD i 0)) rfl 0 (aF W i).2.2) rfl rfl⟩
 have Tw:(fB (bz mj (aa (cg (az 2 [] (f7 (aa (ae 2) (aa (ae 1) af))) (iP 0 1) (λ_=>some true) (ai 3 bc (aa (ae 1) (aa (fC (.int 0)) (aa (f2 aw (ae 0) (fC (.int 2))) af)))))) af))) [some (aH G T W),some (ag P),some (.tuple (W.map aA))]=some (OX W P):=by
  refine aQ ?_;simp?[bz,aa,af,cg,c2,zB,zA];rw[show (List.range W.length).filter (λ_=>true)=List.range W.length by simp,sf];rfl
 have k0:=BB h hp hs false;have k1:=BB h hp hs true;cases hb:OX W P with
 | false =>
  rw[hb] at Tw;refine dW ((bw (cf Tw)).trans ?_);rw[Oo,hb];exact aK rfl
 | true =>
  rw[hb] at Tw;rw[ak (aX (cf Tw)),Oo,hb,jK];exact aK (Ie (call_of k0 rfl rfl) (call_of k1 rfl rfl))
def qj(hk:k < W.length):aF W k∈W:=lN hk ▸ xZ hk
def Pn.Vc(h:Wd G T W)(p:Pn G T W P):Sm P:=λk=>by
 by_cases hk:k < W.length
 ·have:=p.bd k hk;have:=(h.wr _ (qj hk)).2.2.2;lia
 ·rw[zG,jL (by rw[p.len];lia)];simp
def ll(h:Wd G T W)(p:Pn G T W P):cY [aH G T W,ag P]=some (.bool true):=by
 rw[Dt h p.len (p.Vc h),(HE p.len).mpr p]
def ij(h:Wd G T W)(p:Pn G T W P):aW [aH G T W,ag P]=some .none:=by
 have:fA [.val (aH G T W),.val (ag P)]=some (.nx [.val (aH G T W),.val (ag P)]):=by
  unfold fA;refine (ak (nJ (call_of (lr h) rfl rfl))).trans ?_;exact aX (cf (aQ (call_of (ll h p) rfl rfl)))
 show (fA [.val (aH G T W),.val (ag P)]).map _=_;rw[this];rfl
def tup_is(h:fs ρ=some ds)(hl:ds.length<=1000):ax fs ρ=some (.tuple ds):=by
 simp?[ax,h,zA,bY (show ds.length<=4000 by lia),zB]
def kr{cs:List Nat}{fi:Dl.Env->Option (List D)}{te:Dl.Env->Option D}{ρ:Dl.Env}{is:List Nat}{f:Nat->D}(Tj:fi ρ=some (is.map nD))(hl:is.length<=1000)(hh:∀i∈is,te (some (nD i)::cs.map λj=>(ρ[j]?).getD none)=some (f i)):az 1 cs fi (fG 0) (λ_=>some true) te ρ=some (is.map f):=by
 rw[cZ (h:=λd=>f (kj d).toNat) Tj (by rw[zD];lia) λd hd=>?_]
 ·rw[zM];refine jB some (yH λi _=>?_);simp[kj]
 ·let⟨i,hi,rfl⟩:=List.mem_map.mp hd;rw[hh i hi];simp[kj]
def HW(h:f ρ=some (.list ds))(h2:g ρ=some (nD k)):eA cw f (nY g) eX ρ=some (.list (ds.drop k)):=by
 have:=xy ds k;simp?[eA,h,nY,h2,eX,gI,cw,zA,zB,this]
def CT(is:List Nat):Rf.GO [.list (is.map λi=>.bool (p i))]=some (.bool (is.any p)):=by
 have:∀is:List Nat,boolsOf (is.map λi=>PyData.bool (p i))=some (is.map p):=λis=>by
  induction is with
  | nil=>rfl
  | cons i is ih=>simp[boolsOf,ih]
 simp?[Rf.GO,oneOf,zA,this,zB,Zc];rfl
def lZ(f:α->β)(p:β->Bool)(q:α->Bool):∀ (l:List α),(∀x∈l,p (f x)=q x)->(l.map f).findIdx p=l.findIdx q
 | [],_=>rfl
 | x::l,h=>by
  rw[zI,vG,vG,h x zE,lZ f p q l λy hy=>h y (zC _ hy)]
def Mq(h:Wd G T W){b:Bool}{i:Nat}(e:(bu b G T)[i]?=some p){k:Nat}(hk:k < W.length)(he:aU b (aF W k)=i):iF (.list ((iZ b W i p.2).map nD)) (nD k)=some (nD (lg p.2 (bF b (aF W k)))):=by
 have ko:k∈own b W i:=eL.mpr ⟨hk,he⟩;have km:k∈iZ b W i p.2:=(fY h e).mem_iff.mpr ko;have e1:(iZ b W i p.2).map nD=((iZ b W i p.2).map λj=>((j:Nat):Int)).map PyData.int:=by rw[zM];rfl
 have m1:((k:Nat):Int)∈(iZ b W i p.2).map λj=>((j:Nat):Int):=List.mem_map.mpr ⟨k,km,rfl⟩;rw[e1];show (intsOf _).bind _=_;rw[bH,zA,kq m1,zB];have e2:((iZ b W i p.2).map λj=>((j:Nat):Int)).findIdx (λo=>decide (o=((k:Nat):Int)))=lg p.2 (bF b (aF W k)):=by
  unfold iZ lg;rw[zM];refine lZ _ _ _ _ λx hx=>?_;let⟨hl,h1,h2⟩:=iB h e hx;show decide (((ig b W i x:Nat):Int)=(k:Int))=decide (x=bF b (aF W k));rw[decide_eq_decide];constructor
  ·intro z;have z:ig b W i x=k:=by lia
   rw[<- z,h2]
  ·intro z;rw[z,sS h.wp ko]
 rw[e2]
def mQ(h:Wd G T W)(hp:P.length=W.length)(hs:Sm P)(b:Bool){k:Nat}(hk:k < W.length):dc [aH G T W,ag P,.int (sI b),nD k]=some (.bool (p7 b G T W P k)):=by
 have hw:=h.wl;let⟨z1,z2,z3⟩:=h.R8 b hk;have hx:(bu b G T)[(aU b (aF W k)).toNat]?=some (dv b G T (aU b (aF W k)).toNat):=by
  rw[zK z2];simp[dv,z2]
 have hL:∀x∈(dv b G T (aU b (aF W k)).toNat).2,_:=λx U9=>iB h hx U9;have hb:(dv b G T (aU b (aF W k)).toNat).2.length<=16:=by
  have:=(fY h hx).length_eq;have h2:=tJ b W ((aU b (aF W k)).toNat:Int);unfold iZ at this;rw[zD] at this;lia
 have ei:=Mq h hx hk z3.symm;have ew:=sd h hx;generalize Sv:dv b G T (aU b (aF W k)).toNat=pl at *;generalize hj:(aU b (aF W k)).toNat=j at *;have ez:PyData.int (aU b (aF W k))=nD j:=by rw[<- z3]
 refine aO ?_;show il [.val (aH G T W),.val (ag P),.val (.int (sI b)),.val (nD k),.RK,.RK,.RK]=_;unfold il;have t4:Dl.aI 4 [0,2,3] (f2 aw (f2 aw (f2 aw (ae 0) (fC (.int 2))) (ae 3)) (ae 2)) [.val (aH G T W),.val (ag P),.val (.int (sI b)),.val (nD k),.RK,.RK,.RK]=some (.nx [.val (aH G T W),.val (ag P),.val (.int (sI b)),.val (nD k),.val (nD j),.RK,.RK]):=by
  rw[<- ez];exact dN (d:=.int (aU b (aF W k))) (aq (iC b _) (aq (tZ hk) rfl rfl) rfl) rfl
 rw[ak t4];have ep:aw (.tuple ((bu b G T).map ba)) (nD j)=some (ba pl):=gJ hx;have ct:(fB (f2 A1 (ai 4 cK (aa (ae 0) (aa (ae 1) (aa (ae 2) (aa (ae 4) af))))) (f2 aw (f2 aw (f2 aw (ae 0) (ae 2)) (ae 4)) (fC (.int 0))))) (aJ [.val (aH G T W),.val (ag P),.val (.int (sI b)),.val (nD k),.val (nD j),.RK,.RK])=some (decide (gS b W P j < pl.1)):=by
  refine aQ (aq (kh _ _) (call_of (nL h hp hs b j) rfl rfl) ?_);refine aq (a:=ba pl) (b:=.int 0) rfl (aq ep (aq (ka b G T W) rfl rfl) rfl) rfl
 have hm:p7 b G T W P k=(decide (gS b W P j < pl.1)||(pl.2.drop (lg pl.2 (bF b (aF W k))+1)).any λo=>decide (0 < P.getD (ig b W j o) 0)):=by
  unfold p7;rw[hj,Sv,z3]
 rw[hm];cases hc:decide (gS b W P j < pl.1) with
 | true =>
  rw[hc] at ct;exact dW ((bw ct).trans (aK rfl))
 | false =>
  rw[hc] at ct;rw[ak (aX ct),Bool.false_or];have t5:Dl.aI 5 [0,2,4] (ai 3 fK (aa (ae 0) (aa (ae 2) (aa (ae 4) af)))) [.val (aH G T W),.val (ag P),.val (.int (sI b)),.val (nD k),.val (nD j),.RK,.RK]=some (.nx [.val (aH G T W),.val (ag P),.val (.int (sI b)),.val (nD k),.val (nD j),.val (.list ((iZ b W j pl.2).map nD)),.RK]) :=
   bo (call_of ew rfl rfl) (call_of ew rfl rfl) rfl
  rw[ak t5];have cu:∀ρ:Dl.Env,ae 5 ρ=some (.list ((iZ b W j pl.2).map nD))->ae 3 ρ=some (nD k)->(eA cw (ae 5) (nY (f2 aB (f2 iF (ae 5) (ae 3)) (fC (.int 1)))) eX) ρ=some (.list (((iZ b W j pl.2).map nD).drop (lg pl.2 (bF b (aF W k))+1))):=λρ a c =>
   HW a (aq (dk _ _) (aq ei a c) rfl)
  have t6:Dl.aI 6 [3,5] (eA cw (ae 5) (nY (f2 aB (f2 iF (ae 5) (ae 3)) (fC (.int 1)))) eX) [.val (aH G T W),.val (ag P),.val (.int (sI b)),.val (nD k),.val (nD j),.val (.list ((iZ b W j pl.2).map nD)),.RK]=some (.nx [.val (aH G T W),.val (ag P),.val (.int (sI b)),.val (nD k),.val (nD j),.val (.list ((iZ b W j pl.2).map nD)),.val (.list (((iZ b W j pl.2).drop (lg pl.2 (bF b (aF W k))+1)).map nD))]):=by
   rw[List.map_drop];exact bo (cu _ rfl rfl) (cu _ rfl rfl) rfl
  rw[ak t6];have c:az 1 [1] (bJ (ae 6)) (fG 0) (λ_=>some true) (f2 nA (f2 aw (ae 1) (ae 0)) (fC (.int 0))) [some (aH G T W),some (ag P),some (.int (sI b)),some (nD k),some (nD j),some (.list ((iZ b W j pl.2).map nD)),some (.list (((iZ b W j pl.2).drop (lg pl.2 (bF b (aF W k))+1)).map nD))]=some (((iZ b W j pl.2).drop (lg pl.2 (bF b (aF W k))+1)).map λi=>.bool (decide (0 < P.getD i 0))):=by
   refine kr rfl ?_ λi hi=>?_
   ·rw[qG,iZ,zD];lia
   ·have S6:=List.mem_of_mem_drop hi;unfold iZ at S6;let⟨x,U9,rfl⟩:=List.mem_map.mp S6;exact aq (dy _ _) (aq (gF (by rw[hp];exact (hL x U9).1)) rfl rfl) rfl
  refine aK ?_;show bz Rf.GO (aa (cg (az 1 [1] (bJ (ae 6)) (fG 0) (λ_=>some true) (f2 nA (f2 aw (ae 1) (ae 0)) (fC (.int 0))))) af) [some (aH G T W),some (ag P),some (.int (sI b)),some (nD k),some (nD j),some (.list ((iZ b W j pl.2).map nD)),some (.list (((iZ b W j pl.2).drop (lg pl.2 (bF b (aF W k))+1)).map nD))]=_;simp?[bz,aa,af,cg,c,zB,zA,CT];unfold iZ;rw[<- List.map_drop,Zc];rfl
def KM:Nat->D|0=>.str "full" | 1=>.str "giver" | 2=>.str "taker" | _=>.none
def oZ(h:Wd G T W)(hp:P.length=W.length)(hs:Sm P)(hk:k < W.length):dB [aH G T W,ag P,nD k]=some (KM (dR G T W P k)):=by
 refine aO ?_;show lR [.val (aH G T W),.val (ag P),.val (nD k)]=_;unfold lR dR;have c1:(fB (f2 aY (f2 aw (ae 1) (ae 2)) (f2 aw (f2 aw (f2 aw (ae 0) (fC (.int 2))) (ae 2)) (fC (.int 2))))) (aJ [.val (aH G T W),.val (ag P),.val (nD k)])=some (decide (P.getD k 0=(aF W k).2.2)) :=
  aQ (aq (bP _ _) (aq (gF (by rw[hp];exact hk)) rfl rfl) (aq (a:=aA (aF W k)) (b:=.int 2) rfl (aq (tZ hk) rfl rfl) rfl))
 have w0:=mQ h hp hs false hk;have w1:=mQ h hp hs true hk;have c2:(bx (fB (ai 4 dc (aa (ae 0) (aa (ae 1) (aa (fC (.int 0)) (aa (ae 2) af))))))) (aJ [.val (aH G T W),.val (ag P),.val (nD k)])=some (!(p7 false G T W P k)):=cf (aQ (call_of w0 rfl rfl));have c3:(bx (fB (ai 4 dc (aa (ae 0) (aa (ae 1) (aa (fC (.int 1)) (aa (ae 2) af))))))) (aJ [.val (aH G T W),.val (ag P),.val (nD k)])=some (!(p7 true G T W P k)):=cf (aQ (call_of w1 rfl rfl));by_cases e1:P.getD k 0=(aF W k).2.2
 ·rw[yA e1] at c1;rw[yK e1];exact dW ((bw c1).trans (aK rfl))
 ·rw[zZ e1] at c1;rw[yM e1,ak (aX c1)];cases e2:p7 false G T W P k with
  | false =>
   rw[e2] at c2;rw[yK rfl];exact dW ((bw c2).trans (aK rfl))
  | true =>
   rw[e2] at c2;rw[yM (by simp),ak (aX c2)];cases e3:p7 true G T W P k with
   | false =>
    rw[e3] at c3;rw[yK rfl];exact dW ((bw c3).trans (aK rfl))
   | true =>
    rw[e3] at c3;rw[yM (by simp),ak (aX c3)];exact aK rfl
def uu(G T:List Pl)(W:List Wy)(P:List Int)(k:Nat):dR G T W P k<=3:=by
 unfold dR;split
 ·lia
 ·split
  ·lia
  ·split<;>lia
def oG(n:Nat)(h:n<=3):k9 (KM n) .none=some (.bool (decide (n=3))):=by
 match n,h with
 | 0,_=>rfl
 | 1,_=>rfl
 | 2,_=>rfl
 | 3,_=>rfl
def eY{W:List Wy}{P:List Int}(hp:P.length=W.length)(hf:f ρ=some (ag P)):(aa (bz bg (aa f af)) af) ρ=some [nD W.length]:=by
 have:=ui P;rw[hp] at this;refine cons_of ?_ rfl;rw[nK hf,this]
def iS(h:Wd G T W)(hp:P.length=W.length)(hs:Sm P):bb [aH G T W,ag P]=some (match (List.range W.length).find? λk=>decide (dR G T W P k=3) with|some k=>nD k|none=>.none):=by
 have hw:=h.wl;refine aO ?_;show fg [.val (aH G T W),.val (ag P),.RK]=_;unfold fg;let⟨f1,TY⟩:=dA (tgt:=oE 2) (gb:=dE (fB (f2 k9 (ai 3 dB (aa (ae 0) (aa (ae 1) (aa (ae 2) af)))) (fC .none))) (aE (ae 2)) cP) (λρ=>∃x,ρ=[.val (aH G T W),.val (ag P),x]) nD (λk=>decide (dR G T W P k=3)) nD
  (l:=List.range W.length) (ρ:=[.val (aH G T W),.val (ag P),.RK])
  (λρ k hk S9=>by
   let⟨x,rfl⟩:=S9;have Uw:k < W.length:=by simpa using hk
   have c:(fB (f2 k9 (ai 3 dB (aa (ae 0) (aa (ae 1) (aa (ae 2) af)))) (fC .none))) (aJ [.val (aH G T W),.val (ag P),.val (nD k)])=some (decide (dR G T W P k=3)) :=
    aQ (aq (oG _ (uu G T W P k)) (call_of (oZ h hp hs Uw) rfl rfl) rfl)
   refine⟨_,rfl,λhq=>?_,λhq=>?_⟩
   ·show dE _ _ _ [.val (aH G T W),.val (ag P),.val (nD k)]=_;rw[hq] at c;exact (bw c).trans (aK rfl)
   ·rw[hq] at c;exact⟨_,aX c,_,rfl⟩) ⟨_,rfl⟩
 have hr:aS (aa (bz bg (aa (ae 1) af)) af) [some (aH G T W),some (ag P),none]=some ((List.range W.length).map nD):=fW (eY hp rfl) (by lia);cases e:(List.range W.length).find? λk=>decide (dR G T W P k=3) with
 | some k=>exact dW (bQ (f1 k e) hr rfl)
 | none =>
  let⟨ρ',e',x,rfl⟩:=TY e;exact (ak (bQ e' hr rfl)).trans (aK rfl)
def yx(h:Wd G T W)(hp:P.length=W.length)(hs:Sm P):iH [aH G T W,ag P]=some (.bool (decide (fj G T W P=[]))):=by
 refine aO ?_;show lS [.val (aH G T W),.val (ag P)]=_;unfold lS;refine aK (aq ?_ (call_of (iS h hp hs) rfl rfl) rfl);cases e:(List.range W.length).find? λk=>decide (dR G T W P k=3) with
 | some k =>
  have:fj G T W P≠[]:=λz=>by
   have hm:=jX e;have hq:=List.find?_some e;have:k∈fj G T W P:=List.mem_filter.mpr ⟨hm,hq⟩;rw[z] at this;cases this
  rw[zZ this];rfl
 | none =>
  have:fj G T W P=[]:=by
   rw[wU] at e;exact List.filter_eq_nil_iff.mpr e
  rw[yA this];rfl
def oo:∀ (is:List Nat),(∀i∈is,tt (some (nD i)::r)=some (q i)/\(q i=true->te (some (nD i)::r)=some (f i)))->d0 (fG 0) tt te (none::r) (is.map nD)=some ((is.filter q).map f)
 | [],_=>rfl
 | i::is,h=>by
  have ih:=oo (tt:=tt) (te:=te) (r:=r) (f:=f) (q:=q) is λj hj=>h j (zC _ hj);let⟨h1,h2⟩:=h i zE;have hg:fG 0 (none::r) (nD i)=some (some (nD i)::r):=rfl;rw[zI,d0,hg,zA,h1,zA,jW];cases e:q i with
  | true =>
   rw[yK rfl,yK rfl,h2 e,zA,ih];rfl
  | false =>
   rw[yM (by simp),yM (by simp),ih]
def iD{cs:List Nat}{fi:Dl.Env->Option (List D)}{tt:Dl.Env->Option Bool}{te:Dl.Env->Option D}{ρ:Dl.Env}{is:List Nat}{f:Nat->D}{q:Nat->Bool}(Tj:fi ρ=some (is.map nD))(hl:is.length<=1000)(hh:∀i∈is,tt (some (nD i)::cs.map λj=>(ρ[j]?).getD none)=some (q i)/\(q i=true->te (some (nD i)::cs.map λj=>(ρ[j]?).getD none)=some (f i))):az 1 cs fi (fG 0) tt te ρ=some ((is.filter q).map f):=by
 have:=oo is hh;simp?[az,Tj,zA,gg,List.replicate,xE,xN,this];refine bY ?_;rw[zD];refine yD (xO _ _) ?_;lia
def Ds(h:Wd G T W)(p:Pn G T W P):hZ [aH G T W,ag P]=some (.list ((fj G T W P).map nD)):=by
 have hw:=h.wl;have hp:=p.len;refine aO ?_;show nM [.val (aH G T W),.val (ag P)]=_;unfold nM;refine (ak (nJ (call_of (ij h p) rfl rfl))).trans ?_;have c:az 1 [0,1] (aS (aa (bz bg (aa (ae 1) af)) af)) (fG 0) (fB (f2 k9 (ai 3 dB (aa (ae 1) (aa (ae 2) (aa (ae 0) af)))) (fC .none))) (ae 0) [some (aH G T W),some (ag P)]=some ((fj G T W P).map nD) :=
  iD (fW (eY hp rfl) (by lia)) (by rw[zR];lia) λk hk=>⟨aQ (aq (oG _ (uu G T W P k)) (call_of (oZ h hp (p.Vc h) (by simpa using hk)) rfl rfl) rfl),λ_=>rfl⟩
 refine aK ?_;show cg _ [some (aH G T W),some (ag P)]=_;simp?[cg,c,zB]
def AR(f:Nat->D)(R:Nat->ar->Prop):∀ (n k:Nat) (ρ:ar),
  (∀j ρ,k<=j->j < k+n->R j ρ->∃ρ1 Tp,tgt ρ (f j)=some ρ1/\gb ρ1=some (.nx Tp)/\R (j+1) Tp)->R k ρ->∃ρ',d9 tgt gb ((List.range' k n).map f) ρ=some (.nx ρ')/\R (k+n) ρ'
 | 0,k,ρ,_,h=>⟨ρ,rfl,h⟩
 | n+1,k,ρ,hh,h=>by
  let⟨ρ1,Tp,e1,e2,h2⟩:=hh k ρ (yL _) (by lia) h;let⟨ρ',e3,h3⟩:=AR f R n (k+1) Tp (λj ρ a b=>hh j ρ (by lia) (by lia)) h2;refine⟨ρ',?_,by rw[show k+(n+1)=k+1+n by lia];exact h3⟩;rw[vL,zI,d9,e1,zA,e2];exact e3
def Ki(hl:n<=1000):Dl.cm (.tuple [.int 0]) (nD n)=some (ag (zs n)):=by
 have e:pZ (.tuple [.int 0]) (nD n)=some (ag (zs n)):=by
  show (if uN ((n:Nat):Int)=true/\[PyData.int 0].length * ((n:Nat):Int).toNat<=sizeLine then some (PyData.tuple (List.replicate ((n:Nat):Int).toNat [PyData.int 0]).flatten) else none)=_;have hz:[PyData.int 0].length * n<=sizeLine:=by
   rw[xB,Nat.one_mul];exact yD hl (by decide)
  rw[yG,yK ⟨mH hl,hz⟩,J3];rfl
 show ((sT pY λi j=>PyData.int (i * j)) (.tuple [.int 0]) (nD n)).or (pZ (.tuple [.int 0]) (nD n))=_;rw[e];rfl
def o7{W:List Wy}{P:List Int}(h:P.length=W.length):ji (P.map PyData.int) (W.map aA)=(List.range W.length).map λi=>.tuple [.int (P.getD i 0),aA (aF W i)]:=by
 have:∀ (a:List Int) (l:List Wy),a.length=l.length->ji (a.map PyData.int) (l.map aA)=(List.range l.length).map λi=>.tuple [.int (a.getD i 0),aA (aF l i)]:=by
  intro a
  induction a with
  | nil=>intro l e;cases l with|nil=>rfl|cons _ _=>simp at e
  | cons x a ih =>
   intro l e;cases l with
   | nil=>simp at e
   | cons w l =>
    rw[zI,zI,ji,ih l (by simpa using e),zL,vT,zI,zM];rfl
 exact this P W h
def lE(h:Wd G T W)(hp:P.length=W.length)(hs:Sm P)(b:Bool)(p:Int):bE [aH G T W,ag P,.int (sI b),.int p]=some (.int (gS b W P p)):=by
 have hw:=h.wl;refine aO ?_;show oa [.val (aH G T W),.val (ag P),.val (.int (sI b)),.val (.int p)]=_;have hz:f7 (aa (ae 1) (aa (f2 aw (ae 0) (fC (.int 2))) af)) [some (aH G T W),some (ag P),some (.int (sI b)),some (.int p)]=some ((List.range W.length).map λi=>.tuple [.int (P.getD i 0),aA (aF W i)]):=by
  rw[<- o7 hp];rfl
 have c:az 2 [2,3] (f7 (aa (ae 1) (aa (f2 aw (ae 0) (fC (.int 2))) af))) (iP 0 1) (fB (f2 aY (f2 aw (ae 1) (ae 2)) (ae 3))) (ae 0) [some (aH G T W),some (ag P),some (.int (sI b)),some (.int p)]=some ((own b W p).map λi=>.int (P.getD i 0)):=by
  rw[mG (p:=λi=>decide (aU b (aF W i)=p)) (h:=λi=>.int (P.getD i 0)) hz (by lia) λi hi=>⟨?_,λ_=>rfl⟩]
  ·rfl
  ·show fB (f2 aY (f2 aw (ae 1) (ae 2)) (ae 3)) [some (.int (P.getD i 0)),some (aA (aF W i)),some (.int (sI b)),some (.int p)]=_;exact aQ (by rw[hJ (a:=.int (aU b (aF W i))) (b:=.int p) (aq (iC b _) rfl rfl) rfl,bP])
 refine aK ?_;have e:((own b W p).map λi=>PyData.int (P.getD i 0))=((own b W p).map λi=>P.getD i 0).map PyData.int:=by rw[zM];rfl
 show bz rh (aa (cg (az 2 [2,3] (f7 (aa (ae 1) (aa (f2 aw (ae 0) (fC (.int 2))) af))) (iP 0 1) (fB (f2 aY (f2 aw (ae 1) (ae 2)) (ae 3))) (ae 0))) af) [some (aH G T W),some (ag P),some (.int (sI b)),some (.int p)]=_;rw[e] at c;simp?[bz,aa,af,cg,c,zB,zA];show rh [.list (((own b W p).map λi=>P.getD i 0).map PyData.int)]=_;simp?[rh,cy,oneOf,fR,zA,bH,Bw hs hw b p,xG];rfl
def Qp:ar->Option Out:=(cN [0,2] (bD (aa (f2 aw (ae 0) (ae 2)) af)) (eV 3 4) (dE (fB (f2 nA (ai 4 bE (aa (ae 0) (aa (ae 1) (aa (ae 2) (aa (ae 3) af))))) (f2 aw (ae 4) (fC (.int 0))))) (aE (fC (.bool false))) cP))
def Jg(h:Wd G T W)(hp:P.length=W.length)(hs:Sm P)(b:Bool)(x y:Slot):(AU b G T W P=false->Qp [.val (aH G T W),.val (ag P),.val (.int (sI b)),x,y]=some (.rt (.bool false)))/\(AU b G T W P=true->∃x' y',Qp [.val (aH G T W),.val (ag P),.val (.int (sI b)),x,y]=some (.nx [.val (aH G T W),.val (ag P),.val (.int (sI b)),x',y'])):=by
 have hl:=h.pl b;let⟨f1,TY⟩:=dA (tgt:=eV 3 4) (gb:=dE (fB (f2 nA (ai 4 bE (aa (ae 0) (aa (ae 1) (aa (ae 2) (aa (ae 3) af))))) (f2 aw (ae 4) (fC (.int 0))))) (aE (fC (.bool false))) cP)
  (λρ=>∃x y,ρ=[.val (aH G T W),.val (ag P),.val (.int (sI b)),x,y]) (λi:Nat=>.tuple [nD i,ba (dv b G T i)]) (λi=>decide ((dv b G T i).1 < gS b W P i)) (λ_=>.bool false)
  (l:=List.range (bu b G T).length) (ρ:=[.val (aH G T W),.val (ag P),.val (.int (sI b)),x,y])
  (λρ i hi S9=>by
   let⟨x,y,rfl⟩:=S9;have c:(fB (f2 nA (ai 4 bE (aa (ae 0) (aa (ae 1) (aa (ae 2) (aa (ae 3) af))))) (f2 aw (ae 4) (fC (.int 0))))) (aJ [.val (aH G T W),.val (ag P),.val (.int (sI b)),.val (nD i),.val (ba (dv b G T i))])=some (decide ((dv b G T i).1 < gS b W P i)) :=
    aQ (aq (dy _ _) (call_of (lE h hp hs b i) rfl rfl) (aq (a:=ba (dv b G T i)) (b:=.int 0) rfl rfl rfl))
   refine⟨_,rfl,λhq=>?_,λhq=>?_⟩
   ·rw[hq] at c;exact (bw c).trans (aK rfl)
   ·rw[hq] at c;exact⟨_,aX c,_,_,rfl⟩) ⟨_,_,rfl⟩
 have he:bD (aa (f2 aw (ae 0) (ae 2)) af) (bN [.val (aH G T W),.val (ag P),.val (.int (sI b)),x,y])=some ((List.range (bu b G T).length).map λi=>.tuple [nD i,ba (dv b G T i)]):=by
  have:=pV (bu b G T);unfold dv;rw[<- this];cases b<;>rfl
 have hh:hand [0,2] 0 [Slot.val (aH G T W),.val (ag P),.val (.int (sI b)),x,y]=[Slot.val (aH G T W),.val (ag P),.val (.int (sI b)),x,y]:=rfl;unfold AU;constructor
 ·intro hk;cases e:(List.range (bu b G T).length).find? λi=>decide ((dv b G T i).1 < gS b W P i) with
  | some i=>exact bQ (f1 i e) he hh
  | none =>
   rw[wU] at e;rw[List.all_eq_false] at hk;let⟨i,hi,hn⟩:=hk;have:=e i hi;simp?[zJ] at this hn;lia
 ·intro hk;have e:(List.range (bu b G T).length).find? (λi=>decide ((dv b G T i).1 < gS b W P i))=none:=by
   rw[wU];intro i hi;have:=List.all_eq_true.mp hk i hi;simp?[zJ] at this ⊢;lia
  let⟨ρ',e',x',y',rfl⟩:=TY e;exact⟨x',y',bQ e' he hh⟩
def L8:rz G T W P=(AU false G T W P&&AU true G T W P):=rfl
def yw(h:Wd G T W)(hp:P.length=W.length)(hs:Sm P):dQ [aH G T W,ag P]=some (.bool (rz G T W P)):=by
 let⟨f1,TY⟩:=dA (tgt:=oE 2) (gb:=Qp)
  (λρ=>∃x y z,ρ=[.val (aH G T W),.val (ag P),x,y,z]) (λb:Bool=>.int (sI b)) (λb=>!(AU b G T W P)) (λ_=>.bool false)
  (l:=[false,true]) (ρ:=[.val (aH G T W),.val (ag P),.RK,.RK,.RK])
  (λρ b _ S9=>by
   let⟨x,y,z,rfl⟩:=S9;let⟨r1,r2⟩:=Jg h hp hs b y z;refine⟨_,rfl,λhq=>?_,λhq=>?_⟩
   ·exact r1 (by simpa using hq)
   ·let⟨x',y',e⟩:=r2 (by simpa using hq);exact⟨_,e,_,_,_,rfl⟩) ⟨_,_,_,rfl⟩
 have hr:aS (aa (fC (.int 2)) af) (bN [.val (aH G T W),.val (ag P),.RK,.RK,.RK])=some ([false,true].map λb=>.int (sI b)):=fW (n:=2) rfl (by lia);refine aO ?_;show j7 [.val (aH G T W),.val (ag P),.RK,.RK,.RK]=_;unfold j7;rw[L8];cases e0:AU false G T W P with
 | false =>
  have e:[false,true].find? (λb=>!(AU b G T W P))=some false:=by rw[vV (by simp[e0])]
  exact dW (bQ (f1 _ e) hr rfl)
 | true =>
  cases e1:AU true G T W P with
  | false =>
   have e:[false,true].find? (λb=>!(AU b G T W P))=some true:=by rw[kM (by simp[e0]),vV (by simp[e1])]
   exact dW (bQ (f1 _ e) hr rfl)
  | true =>
   have e:[false,true].find? (λb=>!(AU b G T W P))=none:=by rw[kM (by simp[e0]),kM (by simp[e1])];rfl
   let⟨ρ',e',x,y,z,rfl⟩:=TY e;exact (ak (bQ e' hr rfl)).trans (aK rfl)
def Sm.app(ha:Sm a)(hb:Sm b):Sm (a++b):=λk=>by
 by_cases hk:k < a.length
 ·have:=ha k
  rwa [show (a++b).getD k 0=a.getD k 0 by simp[yR hk]]
 ·have:=hb (k - a.length)
  rwa [show (a++b).getD k 0=b.getD (k - a.length) 0 by simp[yS (by lia:a.length<=k)]]
def MB(h1:-1000000<=x)(h2:x<=1000000):Sm [x]:=λk=>by
 cases k with
 | zero=>exact⟨h1,h2⟩
 | succ k=>simp
def NY(n:Nat):Sm (zs n):=λk=>by rw[J4];lia
def rC(ns:List Int)(at':Int)(W:List Wy)(k:Nat):Int:=dr ns (at'+(k:Nat)) ((aF W k).2.2+1)
def AF(hl:ns.length<=63)(h:Wd G T W)(hk:k < W.length):0<=rC ns at' W k/\rC ns at' W k<=(aF W k).2.2:=by
 have:=(h.wr _ (qj hk)).2.2;have h1:=Ks (ns:=ns) (at'+(k:Nat)) ((aF W k).2.2+1) hl (by lia);have h2:=Kw (ns:=ns) (at'+(k:Nat)) ((aF W k).2.2+1) hl (by lia);unfold rC;lia
def QB:ar->Option Out:=(au (aI 6 [0,1,3,4,5] (f2 aB (ae 3) (ax (aa (ai 3 av (aa (ae 0) (aa (f2 aB (ae 1) (ae 4)) (aa (f2 aB (f2 aw (ae 5) (fC (.int 2))) (fC (.int 1))) af)))) af)))) (au (aI 7 [2,6] (ai 2 dQ (aa (ae 2) (aa (f2 aB (ae 6) (f2 cm (ax (aa (fC (.int 0)) af)) (f2 Dl.dh (bz bg (aa (f2 aw (ae 2) (fC (.int 2))) af)) (bz bg (aa (ae 6) af))))) af)))) (aI 3 [3,6,7] (uL (fB (ae 7)) (ae 6) (f2 aB (ae 3) (ax (aa (fC (.int 0)) af)))))))
def mi(h:a.length+b.length<=1000):Dl.aB (ag a) (ag b)=some (ag (a++b)):=by
 unfold ag;rw[l6 (by simp;lia),qZ]
def mF(h:tc ρ=some true)(ha:fa ρ=some d):uL tc fa fb ρ=some d:=by
 simp?[uL,h,zA,ha]
def qg(h:tc ρ=some false)(ha:fb ρ=some d):uL tc fa fb ρ=some d:=by
 simp?[uL,h,zA,ha]
def L3(hl:ns.length<=63)(h:Wd G T W)(hk:k<=W.length):Sm (lU (rC ns at' W) G T W k):=λj=>by
 by_cases hj:j < k
 ·have:=AH (d:=rC ns at' W) (G:=G) (T:=T) (W:=W) (λk hk=>AF hl h hk) h.lim k hk j hj;have:=(h.wr _ (qj (show j < W.length by lia))).2.2;lia
 ·rw[zG,jL (by rw[l9];lia)];simp
def HB(hl:ns.length<=63)(h:Wd G T W)(hk:k < W.length)(x y:Slot):∃x' y',QB [.val (cE ns),.val (.int at'),.val (aH G T W),.val (ag (lU (rC ns at' W) G T W k)),.val (nD k),.val (aA (aF W k)),x,y]=some (.nx [.val (cE ns),.val (.int at'),.val (aH G T W),.val (ag (lU (rC ns at' W) G T W (k+1))),.val (nD k),.val (aA (aF W k)),x',y']):=by
 have hw:=h.wl;have hr:=(h.wr _ (qj hk)).2.2;have Wt:=L3 (at':=at') hl h (jS hk);have SG:=l9 (d:=rC ns at' W) (G:=G) (T:=T) (W:=W) k;have Si:=AF (at':=at') hl h hk;have e2:lU (rC ns at' W) G T W (k+1)=if rz G T W ((lU (rC ns at' W) G T W k++[rC ns at' W k])++zs (W.length - (lU (rC ns at' W) G T W k++[rC ns at' W k]).length))=true then lU (rC ns at' W) G T W k++[rC ns at' W k] else lU (rC ns at' W) G T W k++[0]:=rfl
 rw[e2];clear e2;generalize hf:lU (rC ns at' W) G T W k=f at Wt SG ⊢;generalize hd:rC ns at' W k=d at Si ⊢;have ed:∀ρ:Dl.Env,ae 0 ρ=some (cE ns)->ae 1 ρ=some (.int at')->ae 4 ρ=some (nD k)->ae 5 ρ=some (aA (aF W k))->(ai 3 av (aa (ae 0) (aa (f2 aB (ae 1) (ae 4)) (aa (f2 aB (f2 aw (ae 5) (fC (.int 2))) (fC (.int 1))) af)))) ρ=some (.int d):=λρ a b c e=>by
  rw[<- hd];exact call_of (sx (at'+((k:Nat):Int)) ((aF W k).2.2+1) hl (by lia)) (cons_of a (cons_of (aq (dk at' k) b c) (cons_of (aq (dk (aF W k).2.2 1) (aq (uC _) e rfl) rfl) rfl))) rfl
 have em:∀ρ:Dl.Env,ae 0 ρ=some (cE ns)->ae 1 ρ=some (.int at')->ae 3 ρ=some (ag f)->ae 4 ρ=some (nD k)->ae 5 ρ=some (aA (aF W k))->(f2 aB (ae 3) (ax (aa (ai 3 av (aa (ae 0) (aa (f2 aB (ae 1) (ae 4)) (aa (f2 aB (f2 aw (ae 5) (fC (.int 2))) (fC (.int 1))) af)))) af))) ρ=some (ag (f++[d])):=λρ a b z c e =>
  aq (mi (a:=f) (b:=[d]) (by simp;lia)) z (uB (ed ρ a b c e))
 have t6:Dl.aI 6 [0,1,3,4,5] (f2 aB (ae 3) (ax (aa (ai 3 av (aa (ae 0) (aa (f2 aB (ae 1) (ae 4)) (aa (f2 aB (f2 aw (ae 5) (fC (.int 2))) (fC (.int 1))) af)))) af))) [.val (cE ns),.val (.int at'),.val (aH G T W),.val (ag f),.val (nD k),.val (aA (aF W k)),x,y]=some (.nx [.val (cE ns),.val (.int at'),.val (aH G T W),.val (ag f),.val (nD k),.val (aA (aF W k)),.val (ag (f++[d])),y]) :=
  bo (em _ rfl rfl rfl rfl rfl) (em _ rfl rfl rfl rfl rfl) rfl
 have hlen:(f++[d]).length=k+1:=by simp[SG]
 have T5:((W.length:Nat):Int) - (((f++[d]).length:Nat):Int)=((W.length - (f++[d]).length:Nat):Int):=by lia
 have UT:((f++[d])++zs (W.length - (f++[d]).length)).length=W.length:=by simp[zs,SG];lia
 have T3:Sm ((f++[d])++zs (W.length - (f++[d]).length)):=(Wt.app (MB (by lia) (by lia))).app (NY _);have ef:∀ρ:Dl.Env,ae 2 ρ=some (aH G T W)->ae 6 ρ=some (ag (f++[d]))->(ai 2 dQ (aa (ae 2) (aa (f2 aB (ae 6) (f2 cm (ax (aa (fC (.int 0)) af)) (f2 Dl.dh (bz bg (aa (f2 aw (ae 2) (fC (.int 2))) af)) (bz bg (aa (ae 6) af))))) af))) ρ=some (.bool (rz G T W ((f++[d])++zs (W.length - (f++[d]).length)))):=λρ a b=>by
  refine call_of (yw h UT T3) (cons_of a (cons_of (aq (mi ?_) b (aq (Ki (n:=W.length - (f++[d]).length) (by lia)) (uB rfl) ?_)) rfl)) rfl
  ·rw[<- zN,UT];lia
  ·rw[show nD (W.length - (f++[d]).length)=.int (((W.length:Nat):Int) - (((f++[d]).length:Nat):Int)) by rw[T5]];exact aq (sub_int _ _) (tG (l:=W) (k:=aA) (aq (j8 G T W) a rfl)) (tG (l:=f++[d]) (k:=PyData.int) b)
 have t7:Dl.aI 7 [2,6] (ai 2 dQ (aa (ae 2) (aa (f2 aB (ae 6) (f2 cm (ax (aa (fC (.int 0)) af)) (f2 Dl.dh (bz bg (aa (f2 aw (ae 2) (fC (.int 2))) af)) (bz bg (aa (ae 6) af))))) af))) [.val (cE ns),.val (.int at'),.val (aH G T W),.val (ag f),.val (nD k),.val (aA (aF W k)),.val (ag (f++[d])),y]=some (.nx [.val (cE ns),.val (.int at'),.val (aH G T W),.val (ag f),.val (nD k),.val (aA (aF W k)),.val (ag (f++[d])),.val (.bool (rz G T W ((f++[d])++zs (W.length - (f++[d]).length))))]) :=
  bo (ef _ rfl rfl) (ef _ rfl rfl) rfl
 unfold QB;rw[ak t6,ak t7];have h0:∀ρ:Dl.Env,ae 3 ρ=some (ag f)->(f2 aB (ae 3) (ax (aa (fC (.int 0)) af))) ρ=some (ag (f++[0])):=λρ z=>aq (mi (a:=f) (b:=[0]) (by simp;lia)) z (uB rfl);generalize rz G T W ((f++[d])++zs (W.length - (f++[d]).length))=fb;cases fb with
 | true =>
  rw[yK rfl];exact⟨_,_,bo (mF (aQ rfl) rfl) (mF (aQ rfl) rfl) rfl⟩
 | false =>
  rw[yM (by simp)];exact⟨_,_,bo (qg (aQ rfl) (h0 _ rfl)) (qg (aQ rfl) (h0 _ rfl)) rfl⟩
def sH(W:List Wy):bG 0 (W.map aA)=(List.range' 0 W.length).map λi=>.tuple [nD i,aA (aF W i)]:=by
 rw[<- List.range_eq_range',enum_zip];apply jG
 ·simp
 ·intro i h1 h2;have:i < W.length:=by simpa using h2
  simp[lN this]
def yr(hl:ns.length<=63)(h:Wd G T W):dM [cE ns,.int at',aH G T W]=some (ag (lU (rC ns at' W) G T W W.length)):=by
 have hw:=h.wl;let⟨ρ',e,x4,x5,x6,x7,rfl⟩:=AR (tgt:=eV 4 5) (gb:=QB) (λi=>.tuple [nD i,aA (aF W i)]) (λk ρ=>∃x4 x5 x6 x7,ρ=[.val (cE ns),.val (.int at'),.val (aH G T W),.val (ag (lU (rC ns at' W) G T W k)),x4,x5,x6,x7]) W.length 0 [.val (cE ns),.val (.int at'),.val (aH G T W),.val (ag []),.RK,.RK,.RK,.RK]
  (λj ρ _ hj S9=>by
   let⟨x4,x5,x6,x7,rfl⟩:=S9;let⟨x',y',e⟩:=HB (at':=at') hl h (show j < W.length by lia) x6 x7;exact⟨_,_,rfl,e,_,_,_,_,rfl⟩) ⟨_,_,_,_,rfl⟩
 refine aO ?_;show jb [.val (cE ns),.val (.int at'),.val (aH G T W),.RK,.RK,.RK,.RK,.RK]=_;unfold jb;have t3:Dl.aI 3 [] (ax af) [.val (cE ns),.val (.int at'),.val (aH G T W),.RK,.RK,.RK,.RK,.RK]=some (.nx [.val (cE ns),.val (.int at'),.val (aH G T W),.val (ag []),.RK,.RK,.RK,.RK]) :=
  bo (tup_is (ds:=[]) rfl (by simp)) (tup_is (ds:=[]) rfl (by simp)) rfl
 rw[ak t3];have he:bD (aa (f2 aw (ae 2) (fC (.int 2))) af) (bN [.val (cE ns),.val (.int at'),.val (aH G T W),.val (ag []),.RK,.RK,.RK,.RK])=some ((List.range' 0 W.length).map λi=>.tuple [nD i,aA (aF W i)]):=by
  rw[<- sH];rfl
 rw[jC] at e;exact (ak (bQ e he rfl)).trans (aK rfl)
def Hg(hl:ns.length<=63)(h:Wd G T W):Pn G T W (lU (rC ns at' W) G T W W.length):=LM h λk hk=>AF hl h hk
def jh:∀ {l:List D},(∀d∈l,PyData.eqv d d=true)->PyData.eqvAll l l=true
 | [],_=>by simp[PyData.eqvAll]
 | d::l,h=>by
  rw[PyData.eqvAll,h d zE,jh λx hx=>h x (zC _ hx)];rfl
def HU(h:∀d∈l,PyData.eqv d d=true):PyData.eqv (.tuple l) (.tuple l)=true:=by
 rw[PyData.eqv,jh h]
def MF(a:List Int):PyData.eqv (ag a) (ag a)=true:=by rw[p5];simp
def K3(a:Int):PyData.eqv (.int a) (.int a)=true:=by
 have:=MF [a];rw[ag,PyData.eqv,zI,yT,PyData.eqvAll] at this;simp?[zF] at this;exact this.1
def Cr(a:Bool):cR (.bool a) (.bool a)=some (.bool false):=by cases a<;>simp[cR,GW,SeqAt.shaped,PyData.canLay0,PyData.depth,PyData.eqv]
def qd(h:Wd G T W):bp [aH G T W]=some (.bool true):=by rw[lK h.fit (by decide),h.wok]
section
variable {P off:List Int}
def GE:∀ (xs:List Nat),(∀i∈xs,0<=off.getD i 0)->0<=(xs.map λi=>off.getD i 0).sum
 | [],_=>by simp
 | i::xs,h=>by
  have:=GE xs λj hj=>h j (zC _ hj);have:=h i zE;rw[zI,List.sum_cons];lia
def Bp:∀ (xs:List Nat),(∀i∈xs,0<=P.getD i 0)->(0 < (xs.map λi=>P.getD i 0).sum↔(xs.any λi=>decide (0 < P.getD i 0))=true)
 | [],_=>by simp
 | i::xs,h=>by
  have ih:=Bp xs λj hj=>h j (zC _ hj);have h0:=GE (off:=P) xs λj hj=>h j (zC _ hj);have hi:=h i zE;rw[zI,List.sum_cons,vI,jA,zJ,<- ih];lia
def Ir(h:Wd G T W){b:Bool}(hk:k < W.length) :
  let i:=(aU b (aF W k)).toNat;let L:=(dv b G T i).2
  iZ b W i L=(L.take (lg L (bF b (aF W k)))).map (ig b W i)++k::(L.drop (lg L (bF b (aF W k))+1)).map (ig b W i):=by
 intro i L;let⟨h1,h2,h3⟩:=h.R8 b hk;have e:=m6 h2;have hm:bF b (aF W k)∈L:=by
  rw[(h.WM e).mem_iff,<- oK];exact List.mem_map.mpr ⟨k,eL.mpr ⟨hk,h3.symm⟩,rfl⟩
 have R6:lg L (bF b (aF W k)) < L.length:=by
  unfold lg;exact kN ⟨_,hm,by simp⟩
 have hg:L[lg L (bF b (aF W k))]=bF b (aF W k):=by
  have:=wJ (w:=R6);exact yP this
 have hx:ig b W i (bF b (aF W k))=k:=sS h.wp (eL.mpr ⟨hk,h3.symm⟩);unfold iZ
 conv=>lhs;rw[<- List.take_append_drop (lg L (bF b (aF W k))) L,vE R6,hg,qZ,zI,hx]
end
def sm(l:List Nat)(f:Nat->Int):Int:=(l.map f).sum
def bI(q:Nat)(l:List Nat)(f:Nat->Int):sm (q::l) f=f q+sm l f:=by simp[sm]
def Gu(l r:List Nat)(f:Nat->Int):sm (l++r) f=sm l f+sm r f:=by simp[sm]
def u6:∀ {l:List Nat}{f g:Nat->Int},(∀q∈l,f q=g q)->sm l f=sm l g
 | [],_,_,_=>rfl
 | q::l,f,g,h=>by rw[bI,bI,h q zE,u6 λx hx=>h x (zC _ hx)]
def Bf:∀ {l:List Nat}{f g:Nat->Int},(∀q∈l,f q<=g q)->sm l f<=sm l g
 | [],_,_,_=>xY _
 | q::l,f,g,h=>by
  have h1:=h q zE;have h2:=Bf (l:=l) λx hx=>h x (zC _ hx);rw[bI,bI];lia
def JU(h:∀q∈l,0<=f q):0<=sm l f:=by
 have:sm l (λ_=>0)=0:=by induction l with
  | nil=>rfl
  | cons q l ih=>rw[bI,ih λx hx=>h x (zC _ hx)];rfl
 rw[<- this];exact Bf h
def JJ(p:l.Perm r)(f:Nat->Int):sm l f=sm r f:=by
 induction p with
 | nil=>rfl
 | cons x _ ih=>rw[bI,bI,ih]
 | swap x y l=>rw[bI,bI,bI,bI];lia
 | trans _ _ h1 h2=>rw[h1,h2]
def ch(m:Nat->Int):Int->List Nat->Nat->Int
 | _,[],_=>0
 | a,q::r,k=>if k=q then min (m q) a else ch m (a - min (m q) a) r k
def up:List Nat->Nat->List Nat
 | [],_=>[]
 | q::r,k=>if k=q then [q] else q::up r k
def Bj(q:Nat)(r:List Nat):up (q::r) q=[q]:=by simp[up]
def Br(h:k≠q):up (q::r) k=q::up r k:=by simp[up,h]
def B3:∀ {l:List Nat}{k:Nat},k∈l->k∈up l k
 | x::l,k,h=>by
  by_cases e:k=x
  ·subst e;rw[Bj];exact zE
  ·rw[Br e];rcases List.mem_cons.mp h with z|z
   ·exact absurd z e
   ·exact zC _ (B3 z)
def tY:∀ {xs ys:List Nat}{k:Nat},k∉xs->up (xs++k::ys) k=xs++[k]
 | [],ys,k,_=>Bj _ _
 | x::xs,ys,k,h=>by
  rw[zQ,not_or] at h;rw[xE,Br h.1,tY h.2];rfl
def BE(hn:l.Nodup)(hk:k∈l):∃ys,l=up l k++ys/\(∀q∈ys,q∉up l k):=by
 let⟨xs,ys,rfl⟩:=List.append_of_mem hk;have hx:k∉xs:=λz=>by
  rw[Ze] at hn;exact hn.2.2 k z k zE rfl
 refine⟨ys,by rw[tY hx];simp,λq hq TJ=>?_⟩;rw[tY hx] at TJ;rw[show xs++k::ys=(xs++[k])++ys by simp,Ze] at hn;exact hn.2.2 q TJ q hq rfl
def bT(b:Bool)(W:List Wy)(k:Nat):Nat:=(aU b (aF W k)).toNat
def lst(b:Bool)(G T:List Pl)(W:List Wy)(i:Nat):List Nat:=iZ b W i (dv b G T i).2
def SR(b:Bool)(G T:List Pl)(i:Nat):Int:=(dv b G T i).1
def vl(P:List Int)(q:Nat):Int:=P.getD q 0
section
variable {G T:List Pl}{W:List Wy}{P X c off:List Int}{b:Bool}{i k q:Nat}
def jt(h:Wd G T W)(b:Bool)(hk:k < W.length):bT b W k < (bu b G T).length:=(h.R8 b hk).2.1
def mv(h:Wd G T W)(hi:i < (bu b G T).length):(lst b G T W i).Perm (own b W i):=fY h (m6 hi)
def ki(h:Wd G T W)(hi:i < (bu b G T).length):(lst b G T W i).Nodup:=(mv h hi).nodup_iff.mpr (List.nodup_range.filter _)
def iM(h:Wd G T W)(hi:i < (bu b G T).length):q∈lst b G T W i↔q < W.length/\bT b W q=i:=by
 rw[(mv h hi).mem_iff,eL];constructor
 ·rintro⟨h1,h2⟩;exact⟨h1,by unfold bT;rw[h2];simp⟩
 ·rintro⟨h1,h2⟩;have:=(h.R8 b h1).2.2;unfold bT at h2;rw[h2] at this;exact⟨h1,this.symm⟩
def uV(h:Wd G T W)(b:Bool)(hk:k < W.length):k∈lst b G T W (bT b W k):=(iM h (jt h b hk)).mpr ⟨hk,rfl⟩
def iz(h:Wd G T W)(hi:i < (bu b G T).length):gS b W P i=sm (lst b G T W i) (vl P):=by
 unfold gS;rw[JJ (mv h hi)];rfl
def Fl(b:Bool)(G T:List Pl)(W:List Wy)(P:List Int)(k:Nat):Prop:=sm (up (lst b G T W (bT b W k)) k) (vl P)=SR b G T (bT b W k)
def Pn.nn(p:Pn G T W P)(q:Nat):0<=vl P q:=by
 by_cases hq:q < W.length
 ·exact (p.bd q hq).1
 ·unfold vl;rw[Gn (by rw[p.len];lia)];lia
def Pn.XO(h:Wd G T W)(p:Pn G T W P)(hi:i < (bu b G T).length):sm (lst b G T W i) (vl P)<=SR b G T i:=by
 rw[<- iz h hi];exact p.am b i hi
def Ny(h:Wd G T W)(p:Pn G T W P)(b:Bool)(hk:k < W.length):p7 b G T W P k=false↔Fl b G T W P k:=by
 let⟨z1,z2,z3⟩:=h.R8 b hk;have hc:lst b G T W (bT b W k)=((dv b G T (bT b W k)).2.take (lg (dv b G T (bT b W k)).2 (bF b (aF W k)))).map (ig b W (bT b W k))++k::((dv b G T (bT b W k)).2.drop (lg (dv b G T (bT b W k)).2 (bF b (aF W k))+1)).map (ig b W (bT b W k)):=Ir h hk;have hn:=ki (b:=b) h z2;change (lst b G T W (bT b W k)).Nodup at hn;have hle:=p.XO h z2;change sm (lst b G T W (bT b W k)) (vl P)<=SR b G T (bT b W k) at hle;have hth:=iz (P:=P) h z2;have hy:p7 b G T W P k=(decide (gS b W P ((bT b W k:Nat):Int) < SR b G T (bT b W k))||(((dv b G T (bT b W k)).2.drop (lg (dv b G T (bT b W k)).2 (bF b (aF W k))+1)).map (ig b W (bT b W k))).any λq=>decide (0 < vl P q)):=by
  unfold p7;rw[Zc];unfold bT SR;rw[z3];rfl
 change gS b W P ((bT b W k:Nat):Int)=sm (lst b G T W (bT b W k)) (vl P) at hth;unfold Fl;rw[hy,hth];revert hc;generalize ((dv b G T (bT b W k)).2.take (lg (dv b G T (bT b W k)).2 (bF b (aF W k)))).map (ig b W (bT b W k))=xs;generalize ((dv b G T (bT b W k)).2.drop (lg (dv b G T (bT b W k)).2 (bF b (aF W k))+1)).map (ig b W (bT b W k))=ys;intro hc;have hx:k∉xs:=λz=>by
  rw[hc,Ze] at hn;exact hn.2.2 k z k zE rfl
 rw[hc,tY hx];rw[hc] at hle;have e:sm (xs++k::ys) (vl P)=sm (xs++[k]) (vl P)+sm ys (vl P):=by
  rw[<- Gu];simp
 have hnn:=JU (l:=ys) λq _=>p.nn q;have TL:=Bp (P:=P) ys λq _=>p.nn q;change (0 < sm ys (vl P)↔(ys.any λq=>decide (0 < vl P q))=true) at TL;rw[e] at hle ⊢;rw[Bool.or_eq_false_iff,xA];constructor
 ·rintro⟨h1,h2⟩;have:¬ 0 < sm ys (vl P):=λz=>by rw[TL.mp z] at h2;cases h2
  lia
 ·intro h1;refine⟨by lia,?_⟩;cases hh:(ys.any λq=>decide (0 < vl P q)) with
  | false=>rfl
  | true=>have:=TL.mpr hh;lia
end
section
variable {P X c off:List Int}
end
section
variable {P X c off:List Int}
end
section
variable {P X c off:List Int}
def Ij(h:P.length=X.length)(e:∀k,k < P.length->P.getD k 0=X.getD k 0):P=X:=by
 apply jG h;intro k h1 h2;have:=e k h1;simpa [h1,h2] using this
end
def nO(h:f ρ=some ds):cg f ρ=some (.list ds):=by
 simp?[cg,h,zB]
def tH(h:f ρ=some (.tuple ds)):bJ f ρ=some ds:=by
 simp?[bJ,h,zA,fR]
def Hv(h:f ρ=some (.list ds)):bJ f ρ=some ds:=by
 simp?[bJ,h,zA,fR]
def Fw(h:fs ρ=some ds)(hl:ds.length<=1000):dg fs ρ=some ds:=by
 simp?[dg,h,zA,bY (show ds.length<=4000 by lia)]
def nil_of(ρ:Dl.Env):cg (dg af) ρ=some (.list []):=nO (Fw (ds:=[]) rfl (by simp))
def tT(h:t ρ=some false):cH t u ρ=some false:=by
 simp?[cH,h,zA]
def pU(h:t ρ=some true)(h2:u ρ=some b):cH t u ρ=some b:=by
 simp?[cH,h,zA,h2]
def dO{l:List Nat}:SeqAt.shaped (.list (l.map nD))=true :=
 (gP.lst (b:=l.length) (k:=0) (by simp) λx hx=>by let⟨i,_,rfl⟩:=List.mem_map.mp hx;exact gx _).shaped (by decide)
def Do(l:List Nat):aY (.list (l.map nD)) (.list [])=some (.bool (decide (l=[]))):=by
 have h0:SeqAt.shaped (.list [])=true:=dO (l:=[]);have e:(l.map nD).isEmpty=decide (l=[]):=by cases l<;>rfl
 simp?[aY,Kb,dO,h0,jO,xG,PyData.eqv,lT,e,zB]
structure Wk(G T G' T':List Pl):Prop where
 len:∀b,(bu b G' T').length=(bu b G T).length
 WM:∀b i,(dv b G' T' i).2=(dv b G T i).2
 gv:∀i,SR false G' T' i<=SR false G T i
 tk:∀i,SR true G T i<=SR true G' T' i
section
variable {P X off:List Int}
end
def wB:ar->Option Out:=(va 3 [2,4] (az 1 [4] (aS (aa (f2 Dl.aB (f2 aw (ae 2) (fC (.int 2))) (fC (.int 1))) af)) (fG 0) (λ_=>some true) (f2 Dl.aB (ae 1) (ax (aa (ae 0) af)))))
def ext(l:Int)(r:List Int):List (List Int):=(List.range (l+1).toNat).map λm=>r++[((m:Nat):Int)]
def Eg{acc:List (List Int)}(hl:0<=w.2.2/\w.2.2<=9)(hr:r.length<=100)(ha:acc.length<=7000):wB [.val d,x1,.val (aA w),.own (acc.map ag),.val (ag r)]=some (.nx [.val d,x1,.val (aA w),.own ((acc++ext w.2.2 r).map ag),.val (ag r)]):=by
 have c:az 1 [4] (aS (aa (f2 Dl.aB (f2 aw (ae 2) (fC (.int 2))) (fC (.int 1))) af)) (fG 0) (λ_=>some true) (f2 Dl.aB (ae 1) (ax (aa (ae 0) af))) (bN [.val d,x1,.val (aA w),.own (acc.map ag),.val (ag r)])=some ((List.range (w.2.2+1).toNat).map λm=>ag (r++[((m:Nat):Int)])):=by
  refine kr (fW (n:=(w.2.2+1).toNat) (cons_of ?_ rfl) (by lia)) (by rw[zR];lia) λm _=>aq (mi (a:=r) (b:=[((m:Nat):Int)]) (by simp;lia)) rfl (uB rfl);rw[show nD (w.2.2+1).toNat=.int (w.2.2+1) by show PyData.int _=_;congr 1;lia];exact aq (dk w.2.2 1) (aq (uC w) rfl rfl) rfl
 have hh:hand [2,4] 0 [Slot.val d,x1,.val (aA w),.own (acc.map ag),.val (ag r)]=[Slot.val d,x1,.val (aA w),.own (acc.map ag),.val (ag r)]:=rfl;have hz:(acc.map ag).length+((List.range (w.2.2+1).toNat).map λm=>ag (r++[((m:Nat):Int)])).length<=sizeLine:=by
  rw[zD,zD,zR];exact yD (show acc.length+(w.2.2+1).toNat<=8000 by lia) (by decide)
 have e:(acc++ext w.2.2 r).map ag=acc.map ag++(List.range (w.2.2+1).toNat).map λm=>ag (r++[((m:Nat):Int)]):=by
  rw[qZ,ext,zM];rfl
 unfold wB va;rw[hh,c,zA,e];simp?[mO,yX,xP,hz,xG,zB,zA];rfl
def vb(l:List Nat)(k:Int):((l.map nD).any λz=>PyData.eqv z (.int k))=decide (∃i∈l,((i:Nat):Int)=k):=by
 induction l with
 | nil=>simp
 | cons i l ih =>
  have e:PyData.eqv (nD i) (.int k)=decide (((i:Nat):Int)=k):=by
   have:=p5 [((i:Nat):Int)] [k];rw[ag,ag,PyData.eqv] at this;simpa [PyData.eqvAll] using this
  rw[zI,vI,ih,e];simp
def CK(l:List Nat)(k:Int):k7 (.int k) (.list (l.map nD))=some (.bool (decide (∃i∈l,((i:Nat):Int)=k))):=by
 have hs:SeqAt.shaped (.int k)=true:=(gx (b:=1) (k:=0) k).shaped (by decide);simp?[k7,On,hs,dO,jO,xG,vb,zB]
def CG(l:List Nat)(k:Int):xt (.int k) (.list (l.map nD))=some (.bool (!decide (∃i∈l,((i:Nat):Int)=k))):=by
 have hs:SeqAt.shaped (.int k)=true:=(gx (b:=1) (k:=0) k).shaped (by decide);simp?[xt,OT,hs,dO,jO,xG,vb,zB]
def sr(l:List (List Int))(a:List Int):k7 (ag a) (.list (l.map ag))=some (.bool (decide (a∈l))):=EF l a
def BG(h:x∈L):iF (ag L) (.int x)=some (nD (lg L x)):=by
 show (intsOf (L.map PyData.int)).bind _=_;rw[bH,zA,kq h];rfl
def Fq(h:x∈L):lg L x < L.length:=kN ⟨x,h,by simp⟩
def D2(h:x∈L):L[lg L x]?=some x:=by
 have hl:=Fq h;have:=wJ (xs:=L) (p:=λo=>decide (o=x)) (w:=hl);rw[zK hl];exact jB some (yP this)
def A2(hn:L.Nodup):x∈L.drop n↔x∈L/\n<=lg L x:=by
 constructor
 ·intro h;have hm:=List.mem_of_mem_drop h;refine⟨hm,?_⟩;let⟨m,Yk,hm2⟩:=qP h;rw[List.getElem_drop] at hm2;have h1:L[n+m]?=some x:=by rw[zK (by rw[qG] at Yk;lia),hm2]
  have h2:=D2 hm;have:n+m=lg L x:=by
   have hl:=Fq hm;exact (List.getElem?_inj (by rw[qG] at Yk;lia) hn).mp (h1.trans h2.symm)
  lia
 ·rintro⟨hm,hle⟩;have h2:=D2 hm;have:(L.drop n)[lg L x - n]?=some x:=by rw[List.getElem?_drop,show n+(lg L x - n)=lg L x by lia];exact h2
  exact qA this
def Ja(b:Bool)(W:List Wy)(P L:List Int)(j:Int)(o:Int)(i:Nat):Bool:=decide (aU b (aF W i)=j)&&(decide (0 < P.getD i 0)&&decide (lg L o < lg L (bF b (aF W i))))
def LG(h:Wd G T W){b:Bool}{j:Nat}{pl:Pl}(e:(bu b G T)[j]?=some pl)(o:Int):(List.range W.length).any (Ja b W P pl.2 j o)=(pl.2.drop (lg pl.2 o+1)).any λo=>decide (0 < P.getD (ig b W j o) 0):=by
 have hn:pl.2.Nodup:=by
  have:=(fY h e).nodup_iff.mpr (List.nodup_range.filter _);unfold iZ at this;exact List.Pairwise.of_map _ (λa b SY e=>SY (jB _ e)) this
 rw[vA,List.any_eq_true,List.any_eq_true];constructor
 ·rintro⟨i,hi,hq⟩;unfold Ja at hq;simp?[zF,zJ] at hq;let⟨h1,h2,h3⟩:=hq;have S6:i < W.length:=by simpa using hi
  have io:i∈own b W j:=eL.mpr ⟨S6,h1⟩;have ip:=(fY h e).mem_iff.mpr io;unfold iZ at ip;let⟨y,hy,Yn⟩:=List.mem_map.mp ip;have XQ:=(iB h e hy).2.2;rw[Yn] at XQ;refine⟨y,(A2 hn).mpr ⟨hy,by rw[<- XQ];lia⟩,?_⟩;rw[Yn];simpa using h2
 ·rintro⟨y,hy,hq⟩;let⟨hm,hle⟩:=(A2 hn).mp hy;let⟨h1,h2,h3⟩:=iB h e hm;refine⟨ig b W j y,by simpa using h1,?_⟩;unfold Ja;rw[h3];simp?[zF,zJ] at hq ⊢;exact⟨h2,hq,by lia⟩
abbrev sW(G T:List Pl)(W:List Wy)(P:List Int)(b:Bool)(j:Nat)(o:Int)(x y z:Slot):ar:=[.val (aH G T W),.val (ag P),.val (.int (sI b)),.val (nD j),.val (.int o),x,y,z]
abbrev sY(G T:List Pl)(W:List Wy)(P:List Int)(k:Nat):ar:=[.val (aH G T W),.val (ag P),.val (nD k),.val (.int (aF W k).1),.val (.int (aF W k).2.1),.val (.int (aF W k).2.2)]
def RD:ar->Option Out:=(dE (cH (fB (f2 aY (f2 aw (ae 7) (ae 2)) (ae 3))) (cH (fB (f2 nA (ae 6) (fC (.int 0)))) (fB (f2 nA (f2 iF (ae 5) (f2 aw (ae 7) (f2 Dl.dh (fC (.int 1)) (ae 2)))) (f2 iF (ae 5) (ae 4)))))) (aE (fC (.bool true))) cP)
def n5(h:Wd G T W)(hp:P.length=W.length)(hs:Sm P)(b:Bool){k:Nat}(hk:k < W.length):cX [aH G T W,ag P,.int (sI b),.int (aU b (aF W k)),.int (bF b (aF W k))]=some (.bool (p7 b G T W P k)):=by
 have hw:=h.wl;let⟨z1,z2,z3⟩:=h.R8 b hk;have hx:(bu b G T)[(aU b (aF W k)).toNat]?=some (dv b G T (aU b (aF W k)).toNat):=by
  rw[zK z2];simp[dv,z2]
 have UZ:∀i,i < W.length->aU b (aF W i)=((aU b (aF W k)).toNat:Int)->bF b (aF W i)∈(dv b G T (aU b (aF W k)).toNat).2:=λi hi he=>by
  have io:i∈own b W ((aU b (aF W k)).toNat:Int):=eL.mpr ⟨hi,he⟩;have ip:=(fY h hx).mem_iff.mpr io;unfold iZ at ip;let⟨y,hy,Yn⟩:=List.mem_map.mp ip;have XQ:=(iB h hx hy).2.2;rw[Yn] at XQ;rw[XQ];exact hy
 have hko:=UZ k hk z3.symm;have XR:=LG (P:=P) h hx (bF b (aF W k));have hm:p7 b G T W P k=(decide (gS b W P ((aU b (aF W k)).toNat:Int) < (dv b G T (aU b (aF W k)).toNat).1)||((dv b G T (aU b (aF W k)).toNat).2.drop (lg (dv b G T (aU b (aF W k)).toNat).2 (bF b (aF W k))+1)).any λo=>decide (0 < P.getD (ig b W ((aU b (aF W k)).toNat:Int) o) 0)):=by
  unfold p7;rw[z3]
 rw[hm,<- XR];have ez:PyData.int (aU b (aF W k))=nD (aU b (aF W k)).toNat:=by show _=PyData.int _;rw[z3]
 rw[ez];generalize Sv:dv b G T (aU b (aF W k)).toNat=pl at *;generalize hj:(aU b (aF W k)).toNat=j at *;generalize ho:bF b (aF W k)=o at *;clear hm XR ez;have ep:aw (.tuple ((bu b G T).map ba)) (nD j)=some (ba pl):=gJ hx;refine aO ?_;show iN (sW G T W P b j o .RK .RK .RK)=_;unfold iN;have ct:(fB (f2 A1 (ai 4 bE (aa (ae 0) (aa (ae 1) (aa (ae 2) (aa (ae 3) af))))) (f2 aw (f2 aw (f2 aw (ae 0) (ae 2)) (ae 3)) (fC (.int 0))))) (aJ (sW G T W P b j o .RK .RK .RK))=some (decide (gS b W P j < pl.1)):=by
  refine aQ (aq (kh _ _) (call_of (lE h hp hs b j) rfl rfl) ?_);exact aq (a:=ba pl) (b:=.int 0) rfl (aq ep (aq (ka b G T W) rfl rfl) rfl) rfl
 cases hc:decide (gS b W P j < pl.1) with
 | true =>
  rw[hc] at ct;exact dW ((bw ct).trans (aK rfl))
 | false =>
  rw[hc] at ct;rw[ak (aX ct),Bool.false_or];have er:∀ρ:Dl.Env,ae 0 ρ=some (aH G T W)->ae 2 ρ=some (.int (sI b))->ae 3 ρ=some (nD j)->(f2 aw (f2 aw (f2 aw (ae 0) (ae 2)) (ae 3)) (fC (.int 1))) ρ=some (ag pl.2):=λρ h0 h2 h3=>aq (a:=ba pl) (b:=.int 1) rfl (aq ep (aq (ka b G T W) h0 h2) h3) rfl;rw[ak (bo (er _ rfl rfl rfl) (er _ rfl rfl rfl) rfl)];let⟨f1,TY⟩:=dA (tgt:=eV 6 7) (gb:=RD) (λρ=>∃x y,ρ=(sW G T W P b j o (.val (ag pl.2)) x y)) (λi:Nat=>.tuple [.int (P.getD i 0),aA (aF W i)]) (Ja b W P pl.2 j o) (λ_=>.bool true)
   (l:=List.range W.length) (ρ:=(sW G T W P b j o (.val (ag pl.2)) .RK .RK))
   (λρ i hi S9=>by
    let⟨x,y,rfl⟩:=S9;have S6:i < W.length:=by simpa using hi
    have c:(cH (fB (f2 aY (f2 aw (ae 7) (ae 2)) (ae 3))) (cH (fB (f2 nA (ae 6) (fC (.int 0)))) (fB (f2 nA (f2 iF (ae 5) (f2 aw (ae 7) (f2 Dl.dh (fC (.int 1)) (ae 2)))) (f2 iF (ae 5) (ae 4)))))) (aJ (sW G T W P b j o (.val (ag pl.2)) (.val (.int (P.getD i 0))) (.val (aA (aF W i)))))=some (Ja b W P pl.2 j o i):=by
     have c1:(fB (f2 aY (f2 aw (ae 7) (ae 2)) (ae 3))) (aJ (sW G T W P b j o (.val (ag pl.2)) (.val (.int (P.getD i 0))) (.val (aA (aF W i)))))=some (decide (aU b (aF W i)=((j:Nat):Int))):=aQ (aq (bP _ _) (aq (iC b _) rfl rfl) rfl);unfold Ja;cases e1:decide (aU b (aF W i)=((j:Nat):Int)) with
     | false=>rw[e1] at c1;exact tT c1
     | true =>
      rw[e1] at c1;refine pU c1 ?_;have c2:(fB (f2 nA (ae 6) (fC (.int 0)))) (aJ (sW G T W P b j o (.val (ag pl.2)) (.val (.int (P.getD i 0))) (.val (aA (aF W i)))))=some (decide (0 < P.getD i 0)):=aQ (aq (dy _ _) rfl rfl);cases e2:decide (0 < P.getD i 0) with
      | false=>rw[e2] at c2;exact tT c2
      | true =>
       rw[e2] at c2;refine pU c2 ?_;have hio:=UZ i S6 (by simpa using e1);have ZX:aw (aA (aF W i)) (.int (1 - sI b))=some (.int (bF b (aF W i))):=by cases b<;>rfl
       refine (aQ (aq (dy _ _) (aq (BG hio) rfl (aq ZX rfl (aq (sub_int 1 (sI b)) rfl rfl))) (aq (BG hko) rfl rfl))).trans ?_
       congr 1
       exact decide_eq_decide.mpr (by lia)
    refine⟨_,rfl,λhq=>?_,λhq=>?_⟩
    ·rw[hq] at c;exact (bw c).trans (aK rfl)
    ·rw[hq] at c;exact⟨_,aX c,_,_,rfl⟩) ⟨_,_,rfl⟩
  have hz:f7 (aa (ae 1) (aa (f2 aw (ae 0) (fC (.int 2))) af)) (bN (sW G T W P b j o (.val (ag pl.2)) .RK .RK))=some ((List.range W.length).map λi=>.tuple [.int (P.getD i 0),aA (aF W i)]):=by
   rw[<- o7 hp];rfl
  cases ef:(List.range W.length).find? (Ja b W P pl.2 j o) with
  | some i =>
   have:(List.range W.length).any (Ja b W P pl.2 j o)=true:=List.any_eq_true.mpr ⟨i,jX ef,List.find?_some ef⟩;rw[this];exact dW (bQ (f1 i ef) hz rfl)
  | none =>
   have:(List.range W.length).any (Ja b W P pl.2 j o)=false:=by
    rw[List.any_eq_false];exact List.find?_eq_none.mp ef
   rw[this];let⟨ρ',e',x',y',rfl⟩:=TY ef;exact (ak (bQ e' hz rfl)).trans (aK rfl)
def yb(hf:f (bN ρ)=some (.tuple [x,y,z]))(hh:hand fz 0 ρ=ρ):ju i j l fz f ρ=some (.nx (((ρ.set i (.val x)).set j (.val y)).set l (.val z))):=by
 unfold ju;rw[hh,hf,zA];show some (Out.nx ((((if _ then ρ else ρ).set i _).set j _).set l _))=_;rw[ite_self]
def r8(h:Wd G T W)(hp:P.length=W.length)(hs:Sm P)(hk:k < W.length):ee [aH G T W,ag P,nD k]=some (KM (dR G T W P k)):=by
 refine aO ?_;show lL [.val (aH G T W),.val (ag P),.val (nD k),.RK,.RK,.RK]=_;unfold lL dR;have hw:(f2 aw (f2 aw (ae 0) (fC (.int 2))) (ae 2)) (bN [.val (aH G T W),.val (ag P),.val (nD k),.RK,.RK,.RK])=some (.tuple [.int (aF W k).1,.int (aF W k).2.1,.int (aF W k).2.2]):=aq (tZ hk) rfl rfl;refine (ak (yb hw rfl)).trans ?_;have c1:(fB (f2 aY (f2 aw (ae 1) (ae 2)) (ae 5))) (aJ (sY G T W P k))=some (decide (P.getD k 0=(aF W k).2.2)):=aQ (aq (bP _ _) (aq (gF (by rw[hp];exact hk)) rfl rfl) rfl);have w0:=n5 h hp hs false hk;have w1:=n5 h hp hs true hk;have c2:(bx (fB (ai 5 cX (aa (ae 0) (aa (ae 1) (aa (fC (.int 0)) (aa (ae 3) (aa (ae 4) af)))))))) (aJ (sY G T W P k))=some (!(p7 false G T W P k)):=cf (aQ (call_of w0 rfl rfl));have c3:(fB (ai 5 cX (aa (ae 0) (aa (ae 1) (aa (fC (.int 1)) (aa (ae 4) (aa (ae 3) af))))))) (aJ (sY G T W P k))=some (p7 true G T W P k):=aQ (call_of w1 rfl rfl);by_cases e1:P.getD k 0=(aF W k).2.2
 ·rw[yA e1] at c1;rw[yK e1];exact dW ((bw c1).trans (aK rfl))
 ·rw[zZ e1] at c1;rw[yM e1];refine (ak (aX c1)).trans ?_;cases e2:p7 false G T W P k with
  | false =>
   rw[e2] at c2;rw[yK rfl];exact dW ((bw c2).trans (aK rfl))
  | true =>
   rw[e2] at c2;rw[yM (by simp)];refine (ak (aX c2)).trans ?_;cases e3:p7 true G T W P k with
   | false =>
    rw[e3] at c3;rw[yK rfl];exact aK (qg c3 rfl)
   | true =>
    rw[e3] at c3;rw[yM (by simp)];exact aK (mF c3 rfl)
def xc(h:Wd G T W)(hp:P.length=W.length)(hs:Sm P):fH [aH G T W,ag P]=some (.bool (decide (fj G T W P=[]))):=by
 have hw:=h.wl;refine aO ?_;show iA [.val (aH G T W),.val (ag P)]=_;unfold iA;have c:az 1 [0,1] (aS (aa (bz bg (aa (ae 1) af)) af)) (fG 0) (fB (f2 k9 (ai 3 ee (aa (ae 1) (aa (ae 2) (aa (ae 0) af)))) (fC .none))) (ae 0) [some (aH G T W),some (ag P)]=some ((fj G T W P).map nD) :=
  iD (fW (eY hp rfl) (by lia)) (by rw[zR];lia) λk hk=>⟨aQ (aq (oG _ (uu G T W P k)) (call_of (r8 h hp hs (by simpa using hk)) rfl rfl) rfl),λ_=>rfl⟩
 exact aK (aq (Do (fj G T W P)) (nO c) (nil_of _))
def sh(k q:Nat):Nat:=if q < k then q else q+1
def nk(k:Nat):Nat->Bool:=λq=>!decide (q=k)
section
variable {G T:List Pl}{W:List Wy}{P X:List Int}{b:Bool}{i k q:Nat}
def of_map(b:Bool)(i:Int):∀ {W V:List Wy},W.map (λw=>(w.1,w.2.1))=V.map (λw=>(w.1,w.2.1))->(W.filter λw=>decide (aU b w=i)).map (bF b)=(V.filter λw=>decide (aU b w=i)).map (bF b)
 | [],[],_=>rfl
 | [],_::_,e=>by cases e
 | _::_,[],e=>by cases e
 | w::W,v::V,e=>by
  simp?[zI,kZ,Prod.mk.injEq] at e;have e1:aU b w=aU b v:=by cases b<;>simp[aU,e.1]
  have e2:bF b w=bF b v:=by cases b<;>simp[bF,aU,e.1]
  have ih:=of_map b i (W:=W) (V:=V) e.2;rw[jW,jW,e1];split
  ·rw[zI,zI,ih,e2]
  ·exact ih
end
def gU{a c:List Int}(h:lexLt a c=false)(h2:lexLt c a=false):a=c:=p6 (by unfold lexLe;rw[h2];rfl) (by unfold lexLe;rw[h];rfl)
section
open Ex
abbrev OR:Str:="NoWorld"
abbrev OU:Str:="NoPlan"
abbrev MX:Str:="NoPlace"
structure qw(m:List D->Option D)(x:List D->Option Str)(ds:List D)(c:Str):Prop where
 n:m ds=none
 x:x ds=some c
structure Ha(m:List D->Option D)(x:List D->Option Str)(ds:List D):Prop where
 n:m ds=some .none
 x:x ds=none
section
variable {m:List D->Option D}{x:List D->Option Str}{ds:List D}{c:Str}{n:Nat}{fs:Dl.Env->Option (List D)}{ρ:ar}
def xi(h:m ds=none){ρ:Dl.Env}(hf:fs ρ=some ds):ai n m fs ρ=none:=by
 unfold ai;rw[hf,zA,h];simp
def NZ(h:x ds=some c){ρ:Dl.Env}(hf:fs ρ=some ds)(hn:ds.length=n):qv n x fs ρ=some c:=by
 unfold qv;rw[hf,zA,yK hn,h]
def Rt(h:x ds=none){ρ:Dl.Env}(hf:fs ρ=some ds):qv n x fs ρ=none:=by
 unfold qv;rw[hf,zA,h];simp
def Qi(h:f (aJ ρ)=none):fO f ρ=none:=by
 unfold fO;rw[h];rfl
def qw.one(B:qw m x ds c)(hf:fs (aJ ρ)=some ds)(hn:ds.length=n):fO (ai n m fs) ρ=none/\jq (qv n x fs) ρ=some c:=⟨Qi (xi B.n hf),NZ B.x hf hn⟩
def Ha.one(B:Ha m x ds)(hf:fs (aJ ρ)=some ds)(hn:ds.length=n):fO (ai n m fs) ρ=some (.nx ρ)/\jq (qv n x fs) ρ=none:=⟨nJ (call_of B.n hf hn),Rt B.x hf⟩
def qw.head(B:qw m x ds c)(hf:fs (aJ ρ)=some ds)(hn:ds.length=n):au (fO (ai n m fs)) g ρ=none/\fX (jq (qv n x fs)) (fO (ai n m fs)) xr ρ=some c:=by
 let⟨a,b⟩:=B.one hf hn;constructor
 ·unfold au;rw[a];rfl
 ·unfold fX;rw[b]
def Ha.tail(B:Ha m x ds)(hf:fs (aJ ρ)=some ds)(hn:ds.length=n):au (fO (ai n m fs)) g ρ=g ρ/\fX (jq (qv n x fs)) (fO (ai n m fs)) xr ρ=xr ρ:=by
 let⟨a,b⟩:=B.one hf hn;constructor
 ·exact ak a
 ·unfold fX E7;rw[b,a];rfl
def runN(h:g (ds.map Slot.val++List.replicate (n - ds.length) .RK)=none):bh g n ds=none:=by
 unfold bh;rw[h];rfl
def Nf(h:t (aJ ρ)=some true):F1 t xa xb ρ=xa ρ:=by
 unfold F1;rw[h,zA,yK rfl]
def EJ(h:t (aJ ρ)=some false):F1 t xa xb ρ=xb ρ:=by
 unfold F1;rw[h,zA,yM (by simp)]
end
section
variable {G T:List Pl}{W:List Wy}{P X:List Int}{b:Bool}{i:Nat}
def Pk(h:bp [d]=some (.bool false)):qw cJ eN [d] OR:=by
 have c:(bx (fB (ai 1 bp (aa (ae 0) af)))) (aJ [.val d])=some true:=cf (b:=false) (aQ (call_of h rfl rfl));exact⟨runN (bw c),Nf c⟩
def Qk(h:Wd G T W):Ha cJ eN [aH G T W]:=⟨lr h,EJ (cf (b:=true) (aQ (call_of (qd h) rfl rfl)))⟩
def KN(h:bp [d]=some (.bool false)):qw aW bA [d,p] OR :=
 let z:=(Pk h).head (ρ:=[.val d,.val p]) (fs:=aa (ae 0) af) rfl rfl
 ⟨runN z.1,z.2⟩
def PX(h:Wd G T W)(hp:cY [aH G T W,p]=some (.bool false)):qw aW bA [aH G T W,p] OU:=by
 have c:(bx (fB (ai 2 cY (aa (ae 0) (aa (ae 1) af))))) (aJ [.val (aH G T W),.val p])=some true:=cf (b:=false) (aQ (call_of hp rfl rfl));exact⟨runN (((Qk h).tail (ρ:=[.val (aH G T W),.val p]) (fs:=aa (ae 0) af) rfl rfl (xr:=iX)).1.trans (bw c)),((Qk h).tail (ρ:=[.val (aH G T W),.val p]) (fs:=aa (ae 0) af) rfl rfl (g:=cP)).2.trans (Nf c)⟩
def Pj(h:Wd G T W)(p:Pn G T W P):Ha aW bA [aH G T W,ag P] :=
 ⟨ij h p,((Qk h).tail (ρ:=[.val (aH G T W),.val (ag P)]) (fs:=aa (ae 0) af) rfl rfl (g:=cP)).2.trans (EJ (cf (b:=true) (aQ (call_of (ll h p) rfl rfl))))⟩
def P1(hd:gy d=true)(h:whole a e d=false):qw dm eM [d,.int a,.int e] MX:=by
 have c:(bx (fB (ai 3 bc (aa (ae 0) (aa (ae 1) (aa (ae 2) af)))))) (aJ [.val d,.val (.int a),.val (.int e)])=some true:=cf (b:=false) (aQ (call_of ((dG hd a e).trans (by rw[h])) rfl rfl));exact⟨runN (bw c),Nf c⟩
def RF(hd:gy d=true)(h:whole a e d=true):Ha dm eM [d,.int a,.int e]:=by
 have c:(bx (fB (ai 3 bc (aa (ae 0) (aa (ae 1) (aa (ae 2) af)))))) (aJ [.val d,.val (.int a),.val (.int e)])=some false:=cf (b:=true) (aQ (call_of ((dG hd a e).trans (by rw[h])) rfl rfl));refine⟨?_,EJ c⟩;show (cI [.val d,.val (.int a),.val (.int e)]).map _=_;rw[show cI [.val d,.val (.int a),.val (.int e)]=some (.nx [.val d,.val (.int a),.val (.int e)]) from aX c];rfl
def Ph(hd:gy d=true)(h:whole 0 (n - 1) d=false):qw bj bO [d,.int n] MX :=
 let z:=(P1 hd h).one (ρ:=[.val d,.val (.int n)]) (fs:=aa (ae 0) (aa (fC (.int 0)) (aa (f2 Dl.dh (ae 1) (fC (.int 1))) af))) (n:=3) rfl rfl
 ⟨runN z.1,z.2⟩
def okN(hd:gy d=true)(h:whole 0 (n - 1) d=true):Ha bj bO [d,.int n]:=by
 have z:=(RF hd h).one (ρ:=[.val d,.val (.int n)]) (fs:=aa (ae 0) (aa (fC (.int 0)) (aa (f2 Dl.dh (ae 1) (fC (.int 1))) af))) (n:=3) rfl rfl;refine⟨?_,z.2⟩;show (cn [.val d,.val (.int n)]).map _=_;rw[show cn [.val d,.val (.int n)]=_ from z.1];rfl
def Ka(b:Bool):Ha mC sV [.int (sI b)]:=by
 have hb:whole 0 (2 - 1) (.int (sI b))=true:=by cases b<;>rfl
 exact⟨ue b,((okN (n:=2) rfl hb).one (ρ:=[.val (.int (sI b))]) (fs:=aa (ae 0) (aa (fC (.int 2)) af)) (n:=2) rfl rfl).2⟩
def oM(h:Wd G T W)(hd:gy d=true)(hl:long W.length W.length d=false):cY [aH G T W,d]=some (.bool false):=by
 refine aO ?_;show ie [.val (aH G T W),.val d,.RK]=_;unfold ie;have ew:∀ρ:Dl.Env,ae 0 ρ=some (aH G T W)->f2 aw (ae 0) (fC (.int 2)) ρ=some (.tuple (W.map aA)):=λρ a=>aq (j8 G T W) a rfl;refine (ak (bo (ew _ rfl) (ew _ rfl) rfl)).trans ?_;have el:∀ρ:Dl.Env,ae 2 ρ=some (.tuple (W.map aA))->bz bg (aa (ae 2) af) ρ=some (nD W.length):=λρ a=>tG a;refine dW ((bw (cf (b:=false) (aQ (call_of ((dI hd W.length W.length).trans (by rw[hl])) (cons_of rfl (cons_of (el _ rfl) (cons_of (el _ rfl) rfl))) rfl)))).trans (aK rfl))
def wc{ds:List D}(h:ds.length≠n):long (n:Int) n (.tuple ds)=false:=by
 rw[pd];exact zZ h
def GL{fin:Str->Option D}(h:gb ρ=some (.rt d)):uS gb xg fin ρ=some (.rt d):=by
 unfold uS;rw[h]
def An{fin:Str->Option D}(h:gb ρ=none)(h2:xg ρ=some c)(h3:fin c=some d):uS gb xg fin ρ=some (.rt d):=by
 unfold uS;rw[h,h2];simp?[zA,h3,zB]
def cC(j:Int):D:=.tuple [.str "refused",.int j]
def LQ(b:Bool):PyData.eqv (.bool b) (.bool true)=b:=by cases b<;>simp[PyData.eqv]
def BN(j:Int):PyData.eqv (cC j) (cC j)=true:=HU λd hd=>by
 simp?[zQ,yF,xS] at hd;rcases hd with rfl|rfl
 ·simp[PyData.eqv]
 ·exact K3 j
def jj(j:Int):∀n:Nat,SeqAt.shaped (.list (List.replicate n (cC j)))=true:=λn=>by
 have h:∀n:Nat,PyData.canLayAll0 (List.replicate n (cC j))=true/\PyData.depthAll (List.replicate n (cC j))<=2:=λn=>by
  have hs:PyData.canLay0 (cC j)=true:=by simp[cC,PyData.canLay0,PyData.canLayAll0];decide +kernel
  have hd:PyData.depth (cC j)<=2:=by simp[cC,PyData.depth,PyData.depthAll]
  induction n with
  | zero=>exact⟨by simp[PyData.canLayAll0],by simp[PyData.depthAll]⟩
  | succ n ih=>exact⟨by simp[xD,PyData.canLayAll0,hs,ih.1],by simp?[xD,PyData.depthAll];lia⟩
 have:=h n;unfold SeqAt.shaped;rw[zF];exact⟨by simp[PyData.canLay0,this.1],by simp[PyData.depth];lia⟩
def xn(j:Int)(n:Nat):PyData.eqv (.list (List.replicate n (cC j))) (.list (List.replicate n (cC j)))=true:=by
 rw[PyData.eqv];exact jh λd hd=>by rw[List.eq_of_mem_replicate hd];exact BN j
def Dh(j:Int)(n:Nat):aY (.list (List.replicate n (cC j))) (.list (List.replicate n (cC j)))=some (.bool true):=by simp?[aY,Kb,jj,jO,xG,xn,zB]
def Dg(j:Int)(n:Nat):cR (.list (List.replicate n (cC j))) (.list (List.replicate n (cC j)))=some (.bool false):=by simp?[cR,GW,jj,jO,xG,xn,zB];rfl
def mX(a:α):∀n:Nat,(List.replicate n [a]).flatten=List.replicate n a
 | 0=>rfl
 | n+1=>by rw[xD,qL,mX a n,xD];rfl
def xl(j:Int){n:Nat}(hn:n<=10)(ρ:Dl.Env):cg (nW (dg (aa (ax (aa (fC (.str "refused")) (aa (fC (.int j)) af))) af)) (fC (.int n))) ρ=some (.list (List.replicate n (cC j))):=by
 refine nO ?_;have hr:dg (aa (ax (aa (fC (.str "refused")) (aa (fC (.int j)) af))) af) ρ=some [cC j]:=Fw (cons_of (tup_is rfl (by simp)) rfl) (by simp);have hg:BQ [cC j] (.int ((n:Nat):Int))=some (List.replicate n [cC j]).flatten:=by
  have:=Fz (ds:=[cC j]) (k:=((n:Nat):Int)) (mH (by lia)) (by rw[xB,Nat.one_mul,yG];exact yD hn (by decide));rw[yG] at this;exact this
 have hc:(fC (.int ((n:Nat):Int)):Dl.Env->Option D) ρ=some (.int ((n:Nat):Int)):=rfl;unfold nW;rw[hr,zA,hc,zA,hg,mX]
def sy{cs:List Nat}{ρ:Dl.Env}{is:List Nat}(Tj:fi ρ=some (is.map nD))(hl:is.length<=1000)(hh:∀i∈is,te (some (nD i)::cs.map λj=>(ρ[j]?).getD none)=some (cC j)):cg (az 1 cs fi (fG 0) (λ_=>some true) te) ρ=some (.list (List.replicate is.length (cC j))):=by
 rw[nO (kr (f:=λ_=>cC j) Tj hl hh),List.map_const']
end
end
def Hi(h:f (aJ ρ)=none):aE f ρ=none:=by
 unfold aE;rw[h];rfl
def Oi(h:xh ρ=some c):Ex.fX xh g xr ρ=some c:=by
 unfold Ex.fX;rw[h]
def J9(h:xh ρ=none)(hg:g ρ=some (.nx ρ)):Ex.fX xh g xr ρ=xr ρ:=by
 unfold Ex.fX Ex.E7;rw[h,hg];rfl
def Ob(h:g1 ρ=none):au g1 g2 ρ=none:=by
 unfold au;rw[h];rfl
def Ku(h:t ρ=some false)(h2:u ρ=r):m5 t u ρ=r:=by
 unfold m5;rw[h];exact h2
def IB(h:Wd G T W):bp [.tuple [.tuple (G.map ba),.tuple (T.map ba)]]=some (.bool false):=by
 have hf:∀x∈[PyData.tuple (G.map ba),.tuple (T.map ba),.tuple (W.map aA)],gP 16 3 x:=by
  rcases h.fit with z|⟨xs,z,_,z2⟩
  ·exact z.elim
  ·rcases z with z|z
   ·cases z
   ·cases z;exact z2
 have TX:gP 16 4 (.tuple [.tuple (G.map ba),.tuple (T.map ba)]):=.tup (by simp) λx hx=>hf x (by simp?[zQ,yF,xS] at hx ⊢;rcases hx with rfl|rfl<;>simp);rw[lK TX (by decide)];rfl
def Ay(j:Int):SeqAt.shaped (cC j)=true:=by
 have:=jj j 1;simp[SeqAt.shaped,cC,PyData.canLay0,PyData.canLayAll0,PyData.depth,PyData.depthAll];decide +kernel
def vq(j:Int):cR (cC j) (cC j)=some (.bool false):=by simp?[cR,GW,Ay,jO,xG,BN,zB];rfl
def NI(h:f ρ=some d):f1 g f ρ=g d:=by unfold f1;rw[h];rfl
def nu(h1:tgt ρ d=some ρ1)(h2:gb ρ1=some (.nx Tp)):d9 tgt gb (d::ds) ρ=d9 tgt gb ds Tp:=by
 rw[d9,h1,zA,h2];rfl
def Ez{r:List α}(h:f ρ=some (.list (r.map g))):bz bg (aa f af) ρ=some (nD r.length):=by
 rw[nK h];show some (PyData.int ((r.map g).length:Nat))=_;rw[zD]
def yo(b:Bool)(G T:List Pl)(W:List Wy)(P:List Int)(i:Nat):Option Nat:=((lst b G T W i).filter λq=>decide (0 < vl P q)).getLast?
def mU(b:Bool)(G T:List Pl)(W:List Wy)(P:List Int)(i:Nat):Option Nat:=if gS b W P i < SR b G T i then none else yo b G T W P i
def dec(o:Option Nat)(P:List Int):List Int:=match o with
 | none=>P
 | some g=>P.set g (P.getD g 0 - 1)
def gG(G T:List Pl)(W:List Wy)(P:List Int)(k:Nat):List Int:=dec (mU true G T W P (bT true W k)) (dec (mU false G T W P (bT false W k)) (P.set k (P.getD k 0+1)))
section
variable {G T:List Pl}{W:List Wy}{P:List Int}{b:Bool}{i k q g:Nat}{o:Option Nat}
def ND:∀l:List Nat,sm l (λ_=>0)=0
 | []=>rfl
 | q::l=>by rw[bI,ND l];rfl
def cL:(dec o P).length=P.length:=by cases o<;>simp[dec]
def nq:(dec o P).getD q 0=P.getD q 0 - (if o=some q/\q < P.length then 1 else 0):=by
 cases o with
 | none=>simp[dec]
 | some g =>
  show (P.set g _).getD q 0=_;rw[we];by_cases e:g=q
  ·subst e;by_cases hl:g < P.length
   ·rw[yK ⟨rfl,hl⟩,yK ⟨rfl,hl⟩]
   ·rw[yM (λz=>hl z.2),yM (λz=>hl z.2)];lia
  ·rw[yM (λz=>e z.1),yM (λz=>e (xC z.1))];lia
def Fk:(P.set k (P.getD k 0+1)).getD q 0=P.getD q 0+(if k=q/\q < P.length then 1 else 0):=by
 rw[we];by_cases e:k=q/\q < P.length
 ·rw[yK e,yK e,e.1]
 ·rw[yM e,yM e];lia
def v5(h:yo b G T W P i=some g):g∈lst b G T W i/\0 < vl P g:=by
 have:=List.mem_of_getLast? h;rw[List.mem_filter,zJ] at this;exact this
def Gh(h:yo b G T W P i=none):∀q∈lst b G T W i,vl P q<=0:=λq hq=>by
 unfold yo at h;rw[List.getLast?_eq_none_iff,List.filter_eq_nil_iff] at h;have:=h q hq;rw[zJ] at this;lia
def Ft(h:Wd G T W)(hi:i < (bu b G T).length)(e:yo b G T W P i=some g)(hq:q∈lst b G T W i)(hp:0 < vl P q):q∈up (lst b G T W i) g:=by
 have hn:=ki (b:=b) h hi;unfold yo at e;let⟨ys,ZN⟩:=List.getLast?_eq_some_iff.mp e;refine Classical.byContradiction λz=>?_;have hg:=(v5 (b:=b) (G:=G) (T:=T) (W:=W) (P:=P) (i:=i) e).1;let⟨zs,e1,e2⟩:=BE hn hg;have hqz:q∈zs:=by
  rw[e1] at hq;rcases List.mem_append.mp hq with w|w
  ·exact absurd w z
  ·exact w
 have T5:(up (lst b G T W i) g).filter (λq=>decide (0 < vl P q))++zs.filter (λq=>decide (0 < vl P q))=ys++[g]:=by
  rw[<- List.filter_append,<- e1];exact ZN
 have So:zs.filter (λq=>decide (0 < vl P q))≠[]:=λw=>by
  have:q∈zs.filter (λq=>decide (0 < vl P q)):=List.mem_filter.mpr ⟨hqz,yA hp⟩;rw[w] at this;cases this
 let⟨us,u,hu⟩:=List.eq_nil_or_concat (zs.filter λq=>decide (0 < vl P q)) |>.resolve_left So |> λ⟨a,c,e⟩=>(⟨a,c,by simpa using e⟩:∃us u,zs.filter (λq=>decide (0 < vl P q))=us++[u])
 rw[hu,<- List.append_assoc] at T5;have hug:u=g:=by
  have:=jB List.getLast? T5;simpa using this
 subst hug;have:u∈zs:=(List.mem_filter.mp (show u∈zs.filter (λq=>decide (0 < vl P q)) by rw[hu];simp)).1;exact e2 u this (B3 hg)
def yv(h:Wd G T W)(p:Pn G T W P)(hk:k < W.length)(e:p7 b G T W P k=true) :
  (gS b W P (bT b W k) < SR b G T (bT b W k)/\mU b G T W P (bT b W k)=none)\/(gS b W P (bT b W k)=SR b G T (bT b W k)/\∃g,mU b G T W P (bT b W k)=some g/\g∈lst b G T W (bT b W k)/\0 < vl P g/\g≠k):=by
 have hi:=jt h b hk;have hle:=p.am b _ hi;by_cases c:gS b W P (bT b W k) < SR b G T (bT b W k)
 ·exact .inl ⟨c,by unfold mU;rw[yK c]⟩
 ·refine .inr ⟨?_,?_⟩
  ·have:gS b W P (bT b W k)<=SR b G T (bT b W k):=hle;lia
  ·have nf:¬ Fl b G T W P k:=λz=>by rw[(Ny h p b hk).mpr z] at e;cases e
   have heq:sm (lst b G T W (bT b W k)) (vl P)=SR b G T (bT b W k):=by
    rw[<- iz h hi];have:gS b W P (bT b W k)<=SR b G T (bT b W k):=hle;lia
   have hn:=ki (b:=b) h hi;let⟨ys,e1,e2⟩:=BE hn (uV h b hk);have hs:sm (lst b G T W (bT b W k)) (vl P)=sm (up (lst b G T W (bT b W k)) k) (vl P)+sm ys (vl P):=by
    rw[<- Gu,<- e1]
   have hy:0 < sm ys (vl P):=by
    have h1:=JU (l:=ys) λq _=>p.nn q;refine Classical.byContradiction λz=>nf ?_;unfold Fl;lia
   obtain⟨q,hq,hp⟩:∃q∈ys,0 < vl P q:=Classical.byContradiction λz=>by
    have:=Bf (l:=ys) (f:=vl P) (g:=λ_=>0) λq hq=>Classical.byContradiction λw=>z ⟨q,hq,by lia⟩;have e0:=ND ys;lia
   have hql:q∈lst b G T W (bT b W k):=by rw[e1];exact yE _ hq
   cases hg:yo b G T W P (bT b W k) with
   | none=>have:=Gh hg q hql;lia
   | some g =>
    let⟨g1,g2⟩:=v5 hg;refine⟨g,by unfold mU;rw[yM c,hg],g1,g2,λz=>?_⟩;subst z;exact e2 q hq (Ft h hi hg hql hp)
def pL(h:Wd G T W)(p:Pn G T W P)(hk:k < W.length)(e:dR G T W P k=3):P.getD k 0 < (aF W k).2.2/\∀b,p7 b G T W P k=true:=by
 have hb:=(p.bd k hk).2;unfold dR at e;by_cases e1:P.getD k 0=(aF W k).2.2
 ·rw[yK e1] at e;cases e
 ·rw[yM e1] at e;by_cases e2:p7 false G T W P k=false
  ·rw[yK e2] at e;cases e
  ·rw[yM e2] at e;by_cases e3:p7 true G T W P k=false
   ·rw[yK e3] at e;cases e
   ·exact⟨by lia,λb=>by
    cases b
    ·exact Bool.not_eq_false _ |>.mp e2
    ·exact Bool.not_eq_false _ |>.mp e3⟩
def oI(o:Option Nat)(q:Nat):Int:=if o=some q then 1 else 0
def FL(hn:l.Nodup):sm l (oI o)=match o with|some g=>if g∈l then 1 else 0|none=>0:=by
 induction l with
 | nil=>cases o<;>rfl
 | cons x l ih =>
  rw[List.nodup_cons] at hn;rw[bI,ih hn.2];cases o with
  | none=>rfl
  | some g =>
   show (if some g=some x then (1:Int) else 0)+(if g∈l then 1 else 0)=if g∈x::l then 1 else 0
   by_cases e:g=x
   ·subst e;rw[yK rfl,yM hn.1,yK zE];rfl
   ·rw[yM (λz=>e (xC z))];by_cases e2:g∈l
    ·rw[yK e2,yK (zC _ e2)];rfl
    ·rw[yM e2,yM (by rw[zQ,not_or];exact⟨e,e2⟩)];rfl
def Ml(l:List Nat)(f g:Nat->Int):sm l (λq=>f q+g q)=sm l f+sm l g:=by
 induction l with
 | nil=>rfl
 | cons x l ih=>rw[bI,bI,bI,ih];lia
def Mc(l:List Nat)(f g:Nat->Int):sm l (λq=>f q - g q)=sm l f - sm l g:=by
 induction l with
 | nil=>rfl
 | cons x l ih=>rw[bI,bI,bI,ih];lia
abbrev g0(b:Bool)(G T:List Pl)(W:List Wy)(P:List Int)(k:Nat):Option Nat:=mU b G T W P (bT b W k)
def A3:(gG G T W P k).length=P.length:=by unfold gG;rw[cL,cL,yC]
def F3(hq:q < P.length):(gG G T W P k).getD q 0=P.getD q 0+oI (some k) q - oI (g0 false G T W P k) q - oI (g0 true G T W P k) q:=by
 unfold gG oI;rw[nq,nq,Fk,cL,yC];simp?[hq,and_true,yJ]
def pX:0<=oI o q:=by unfold oI;split<;>lia
def K4:oI o q<=1:=by unfold oI;split<;>lia
def mT(h:Wd G T W)(p:Pn G T W P)(hk:k < W.length)(e:dR G T W P k=3)(b:Bool){g:Nat}(hg:g0 b G T W P k=some g):g < W.length/\bT b W g=bT b W k/\0 < vl P g/\g≠k:=by
 rcases yv h p hk ((pL h p hk e).2 b) with ⟨_,z⟩|⟨_,g',z,h1,h2,h3⟩
 ·rw[show mU b G T W P (bT b W k)=some g from hg] at z;cases z
 ·rw[show mU b G T W P (bT b W k)=some g from hg] at z;cases z;let⟨a1,a2⟩:=(iM h (jt h b hk)).mp h1;exact⟨a1,a2,h2,h3⟩
def Jt(h:Wd G T W)(hk:k < W.length)(hg:g < W.length)(b:Bool)(e1:bT b W g=bT b W k)(e2:bT (!b) W g=bT (!b) W k):g=k:=by
 have z:∀c,aU c (aF W g)=aU c (aF W k)↔bT c W g=bT c W k:=λc=>by
  have h1:=(h.R8 c hg).2.2;have h2:=(h.R8 c hk).2.2;unfold bT;lia
 refine qf (b:=b) h.wp hg hk ((z b).mpr e1) ?_;have:=(z (!b)).mpr e2;cases b<;>exact this
def Kz(h:Wd G T W)(p:Pn G T W P)(hk:k < W.length)(e:dR G T W P k=3)(hg:g0 b G T W P k=some g):bT (!b) W g≠bT (!b) W k:=λz=>by
 let⟨a1,a2,_,a4⟩:=mT h p hk e b hg;exact a4 (Jt h hk a1 b a2 z)
def FZ(h:Wd G T W)(p:Pn G T W P)(hk:k < W.length)(e:dR G T W P k=3):Pn G T W (gG G T W P k):=by
 let⟨f1,f2⟩:=pL h p hk e;have at':∀q,q < W.length->(gG G T W P k).getD q 0=P.getD q 0+oI (some k) q - oI (g0 false G T W P k) q - oI (g0 true G T W P k) q:=λq hq=>F3 (by rw[p.len];exact hq);refine⟨by rw[A3,p.len],λq hq=>?_,λb i hi=>?_⟩
 ·rw[at' q hq];have hb:=p.bd q hq;have n0:=pX (o:=g0 false G T W P k) (q:=q);have n1:=pX (o:=g0 true G T W P k) (q:=q);have n2:=pX (o:=some k) (q:=q);constructor
  ·have one:∀b,g0 b G T W P k=some q->g0 (!b) G T W P k≠some q:=λb z1 z2=>by
    have:=Kz h p hk e z1;exact this (mT h p hk e (!b) z2).2.1
   unfold oI at n0 n1 ⊢;by_cases c0:g0 false G T W P k=some q
   ·have:=(mT h p hk e false c0).2.2.1;rw[yK c0,yM (show ¬ g0 true G T W P k=some q from one false c0)];have:0 < P.getD q 0:=this;split<;>lia
   ·rw[yM c0];by_cases c1:g0 true G T W P k=some q
    ·have:=(mT h p hk e true c1).2.2.1;have:0 < P.getD q 0:=this;rw[yK c1];split<;>lia
    ·rw[yM c1];split<;>lia
  ·by_cases c:k=q
   ·subst c;have:=K4 (o:=some k) (q:=k);lia
   ·have:oI (some k) q=0:=by unfold oI;rw[yM (λz=>c (xC z))]
    lia
 ·have hn:=ki (b:=b) h hi;rw[iz h hi];have hle:sm (lst b G T W i) (vl (gG G T W P k))<=sm (lst b G T W i) (λq=>vl P q+oI (some k) q - oI (g0 b G T W P k) q):=Bf λq hq=>by
   have Yo:=((iM h hi).mp hq).1;show (gG G T W P k).getD q 0<=_;rw[at' q Yo];have n0:=pX (o:=g0 false G T W P k) (q:=q);have n1:=pX (o:=g0 true G T W P k) (q:=q);show _<=P.getD q 0+oI (some k) q - oI (g0 b G T W P k) q;cases b<;>lia
  have e1:sm (lst b G T W i) (λq=>vl P q+oI (some k) q - oI (g0 b G T W P k) q)=sm (lst b G T W i) (vl P)+sm (lst b G T W i) (oI (some k)) - sm (lst b G T W i) (oI (g0 b G T W P k)):=by
   rw[Mc,Ml]
  rw[e1,FL hn,FL hn] at hle;have ha:=p.am b i hi;rw[iz h hi] at ha;have hA:(dv b G T i).1=SR b G T i:=rfl;by_cases c:bT b W k=i
  ·subst c;have Xz:=uV h b hk;rcases yv h p hk (f2 b) with ⟨z1,z2⟩|⟨z1,g,z2,z3,_,_⟩
   ·rw[show g0 b G T W P k=none from z2] at hle;rw[iz h hi] at z1;simp?[Xz,xG] at hle;lia
   ·rw[show g0 b G T W P k=some g from z2] at hle;rw[iz h hi] at z1;simp?[Xz,z3,xG] at hle;lia
  ·have Xz:¬ k∈lst b G T W i:=λz=>c ((iM h hi).mp z).2;simp?[Xz,qN] at hle;have:0<=(match g0 b G T W P k with|some g=>if g∈lst b G T W i then (1:Int) else 0|none=>0):=by
    split
    ·split<;>lia
    ·lia
   lia
def GD(G T:List Pl)(W:List Wy)(P:List Int)(k:Nat):List Int :=
 let l1:=dec (mU false G T W P (bT false W k)) P;let l2:=dec (mU true G T W l1 (bT true W k)) l1
 l2.set k (l2.getD k 0+1)
def Cd(h:Wd G T W)(hi:i < (bu b G T).length){X:List Int}(e:∀q∈lst b G T W i,vl X q=vl P q):mU b G T W X i=mU b G T W P i:=by
 have e1:gS b W X i=gS b W P i:=by rw[iz h hi,iz h hi];exact u6 e
 have e2:yo b G T W X i=yo b G T W P i:=by
  unfold yo;rw[List.filter_congr λq hq=>by rw[e q hq]]
 unfold mU;rw[e1,e2]
def IP(h:Wd G T W)(p:Pn G T W P)(hk:k < W.length)(e:dR G T W P k=3):GD G T W P k=gG G T W P k:=by
 have hg:mU true G T W (dec (mU false G T W P (bT false W k)) P) (bT true W k)=mU true G T W P (bT true W k):=Cd h (jt h true hk) λq hq=>by
  show (dec _ P).getD q 0=P.getD q 0;rw[nq];by_cases c:mU false G T W P (bT false W k)=some q/\q < P.length
  ·exact absurd ((iM h (jt h true hk)).mp hq).2 (Kz (b:=false) h p hk e c.1)
  ·rw[yM c];lia
 refine Ij ?_ λq hq=>?_
 ·rw[A3];unfold GD;simp?[yC,cL]
 ·have hq:q < P.length:=by unfold GD at hq;simpa only[yC,cL] using hq
  rw[F3 hq];unfold GD oI;simp?[hg];rw[Fk,nq,nq];simp?[cL,hq,and_true,yJ];have sw:∀a b c d:Int,a - b - c+d=a+d - b - c:=by intros;lia
  exact sw _ _ _ _
end
section
variable {G T:List Pl}{W:List Wy}{P c:List Int}{b:Bool}{i k g:Nat}
def QZ{l:List D}{x:D}(h:l.getLast?=some x):aw (.list l) (.int (-1))=some x:=by
 have hn:0 < l.length:=by
  cases l with
  | nil=>cases h
  | cons _ _=>simp
 show rq l (-1)=_;unfold rq E2;rw[yM (by lia),yK (by lia),zA,show ((-1:Int)+(l.length:Int)).toNat=l.length - 1 by lia,<- List.getLast?_eq_getElem?];exact h
def Hf(h:Wd G T W)(hi:i < (bu b G T).length):(lst b G T W i).length<=16:=by
 have hw:=h.wl;rw[(mv h hi).length_eq];refine yD (xO _ _) ?_;rw[zR];exact hw
def Jz(h:Wd G T W)(hp:P.length=W.length)(hi:i < (bu b G T).length)(hg:yo b G T W P i=some g):cD [aH G T W,ag P,.int (sI b),nD i]=some (nD g):=by
 have hll:=Hf h hi;refine aO ?_;show dC [.val (aH G T W),.val (ag P),.val (.int (sI b)),.val (nD i)]=_;unfold dC;have c:az 1 [1] (bJ (ai 3 fK (aa (ae 0) (aa (ae 2) (aa (ae 3) af))))) (fG 0) (fB (f2 Dl.nA (f2 aw (ae 1) (ae 0)) (fC (.int 0)))) (ae 0) [some (aH G T W),some (ag P),some (.int (sI b)),some (nD i)]=some (((lst b G T W i).filter λq=>decide (0 < vl P q)).map nD) :=
  iD (Hv (call_of (sd h (m6 hi)) rfl rfl)) (by show (lst b G T W i).length<=1000;lia) λq hq=>⟨aQ (aq (dy _ _) (aq (gF (by rw[hp];exact ((iM h hi).mp hq).1)) rfl rfl) rfl),λ_=>rfl⟩
 refine aK (aq (a:=.list (((lst b G T W i).filter λq=>decide (0 < vl P q)).map nD)) (b:=.int (-1)) (QZ ?_) ?_ rfl)
 ·rw[List.getLast?_map];unfold yo at hg;rw[hg];rfl
 ·show cg _ [some (aH G T W),some (ag P),some (.int (sI b)),some (nD i)]=_;simp?[cg,c,zB]
def HV(h:Wd G T W)(hk:k < W.length)(b:Bool):aw (aA (aF W k)) (.int (sI b))=some (nD (bT b W k)):=by
 rw[iC,<- (h.R8 b hk).2.2];rfl
def Fb(h:Wd G T W)(hi:i < (bu b G T).length){fw fb fi:Dl.Env->Option D}{ρ:Dl.Env}(hw:fw ρ=some (aH G T W))(hb:fb ρ=some (.int (sI b)))(hf:fi ρ=some (nD i)):f2 aw (f2 aw (f2 aw fw fb) fi) (fC (.int 0)) ρ=some (.int (SR b G T i)) :=
 aq (a:=ba (dv b G T i)) (b:=.int 0) rfl (aq (gJ (f:=ba) (l:=bu b G T) (m6 hi)) (aq (ka b G T W) hw hb) hf) rfl
def QA:ar->Option Out:=(au (Dl.aI 5 [0,2,4] (f2 aw (f2 aw (f2 aw (ae 0) (fC (.int 2))) (ae 2)) (ae 4))) (dE (fB (f2 aY (ai 4 cK (aa (ae 0) (aa (ae 1) (aa (ae 4) (aa (ae 5) af))))) (f2 aw (f2 aw (f2 aw (ae 0) (ae 4)) (ae 5)) (fC (.int 0))))) (au (Dl.aI 6 [0,1,4,5] (ai 4 cD (aa (ae 0) (aa (ae 1) (aa (ae 4) (aa (ae 5) af)))))) (Dl.aI 3 [3,6] (ai 3 cW (aa (ae 3) (aa (ae 6) (aa (f2 Dl.dh (f2 aw (ae 3) (ae 6)) (fC (.int 1))) af)))))) cP))
abbrev MH(G T:List Pl)(W:List Wy)(P:List Int)(k:Nat)(c:List Int)(x4 x5 x6:Slot):ar:=[.val (aH G T W),.val (ag P),.val (nD k),.val (ag c),x4,x5,x6]
def Bo(h:Wd G T W)(p:Pn G T W P)(hk:k < W.length)(e:dR G T W P k=3)(b:Bool)(hc:c.length=W.length){x5 x6:Slot}:∃y5 y6,QA (MH G T W P k c (.val (.int (sI b))) x5 x6)=some (.nx (MH G T W P k (dec (g0 b G T W P k) c) (.val (.int (sI b))) y5 y6)):=by
 have hw:=h.wl;have hi:=jt h b hk;have hs:=p.Vc h;unfold QA;have s1:∀ρ:Dl.Env,ae 0 ρ=some (aH G T W)->ae 2 ρ=some (nD k)->ae 4 ρ=some (.int (sI b))->f2 aw (f2 aw (f2 aw (ae 0) (fC (.int 2))) (ae 2)) (ae 4) ρ=some (nD (bT b W k)):=λρ a0 a2 a4 =>
  aq (HV h hk b) (aq (gJ (f:=aA) (l:=W) (by simp[aF,hk])) (aq (j8 G T W) a0 rfl) a2) a4
 have t:∀ρ:Dl.Env,ae 0 ρ=some (aH G T W)->ae 1 ρ=some (ag P)->ae 4 ρ=some (.int (sI b))->ae 5 ρ=some (nD (bT b W k))->fB (f2 aY (ai 4 cK (aa (ae 0) (aa (ae 1) (aa (ae 4) (aa (ae 5) af))))) (f2 aw (f2 aw (f2 aw (ae 0) (ae 4)) (ae 5)) (fC (.int 0)))) ρ=some (decide (gS b W P (bT b W k)=SR b G T (bT b W k))):=λρ a0 a1 a4 a5 =>
  aQ (aq (bP _ _) (call_of (nL h p.len hs b _) (cons_of a0 (cons_of a1 (cons_of a4 (cons_of a5 rfl)))) rfl) (Fb h hi a0 a4 a5))
 rcases yv h p hk ((pL h p hk e).2 b) with ⟨z1,z2⟩|⟨z1,g,z2,z3,_,_⟩
 ·refine⟨.val (nD (bT b W k)),x6,(ak (bo (s1 _ rfl rfl rfl) (s1 _ rfl rfl rfl) rfl)).trans ?_⟩;refine (aX ((t _ rfl rfl rfl rfl).trans (by rw[zZ (by lia)]))).trans ?_;show _=some (Out.nx (MH G T W P k (dec (mU b G T W P (bT b W k)) c) _ _ x6));rw[z2];rfl
 ·refine⟨.val (nD (bT b W k)),.val (nD g),(ak (bo (s1 _ rfl rfl rfl) (s1 _ rfl rfl rfl) rfl)).trans ?_⟩;refine (bw ((t _ rfl rfl rfl rfl).trans (by rw[yA z1]))).trans ?_;have hg:yo b G T W P (bT b W k)=some g:=by
   unfold mU at z2;rw[yM (by lia)] at z2;exact z2
  have hgW:=((iM h hi).mp z3).1;have e6:=Jz h p.len hi hg;refine (ak (bo (call_of e6 rfl rfl) (call_of e6 rfl rfl) rfl)).trans ?_;have e3:∀ρ:Dl.Env,ae 3 ρ=some (ag c)->ae 6 ρ=some (nD g)->ai 3 cW (aa (ae 3) (aa (ae 6) (aa (f2 Dl.dh (f2 aw (ae 3) (ae 6)) (fC (.int 1))) af))) ρ=some (ag (c.set g (c.getD g 0 - 1))):=λρ a3 a6 =>
   call_of (pw (by lia) (by lia)) (cons_of a3 (cons_of a6 (cons_of (aq (sub_int _ _) (aq (gF (by lia)) a3 a6) rfl) rfl))) rfl
  refine (bo (e3 _ rfl rfl) (e3 _ rfl rfl) rfl).trans ?_;show _=some (Out.nx (MH G T W P k (dec (mU b G T W P (bT b W k)) c) _ _ (.val (nD g))));rw[z2];rfl
def n8(h:Wd G T W)(p:Pn G T W P)(hk:k < W.length)(e:dR G T W P k=3):cQ [aH G T W,ag P,nD k]=some (ag (gG G T W P k)):=by
 have hw:=h.wl;have hp:=p.len;refine aO ?_;show (au (Dl.aI 3 [1,2] (ai 3 cW (aa (ae 1) (aa (ae 2) (aa (f2 Dl.aB (f2 aw (ae 1) (ae 2)) (fC (.int 1))) af))))) (au (cN [] (bJ (ax (aa (fC (.int 0)) (aa (fC (.int 1)) af)))) (oE 4) QA) (aE (ae 3)))) (MH G T W P k P .RK .RK .RK |>.set 3 .RK)=_;have e0:∀ρ:Dl.Env,ae 1 ρ=some (ag P)->ae 2 ρ=some (nD k)->ai 3 cW (aa (ae 1) (aa (ae 2) (aa (f2 Dl.aB (f2 aw (ae 1) (ae 2)) (fC (.int 1))) af))) ρ=some (ag (P.set k (P.getD k 0+1))):=λρ a1 a2 =>
  call_of (pw (by lia) (by lia)) (cons_of a1 (cons_of a2 (cons_of (aq (a:=.int (P.getD k 0)) (b:=.int 1) rfl (aq (gF (by lia)) a1 a2) rfl) rfl))) rfl
 refine (ak (bo (e0 _ rfl rfl) (e0 _ rfl rfl) rfl)).trans ?_;let⟨y5,y6,q1⟩:=Bo (c:=P.set k (P.getD k 0+1)) (x5:=.RK) (x6:=.RK) h p hk e false (by rw[yC];exact hp);let⟨z5,z6,q2⟩:=Bo (c:=dec (g0 false G T W P k) (P.set k (P.getD k 0+1))) (x5:=y5) (x6:=y6) h p hk e true (by rw[cL,yC];exact hp);refine (ak (bQ (ds:=[.int 0,.int 1]) ((nu (ρ1:=MH G T W P k (P.set k (P.getD k 0+1)) (.val (.int (sI false))) .RK .RK) rfl q1).trans ((nu (ρ1:=MH G T W P k (dec (g0 false G T W P k) (P.set k (P.getD k 0+1))) (.val (.int (sI true))) y5 y6) rfl q2).trans rfl)) rfl rfl)).trans ?_;exact aK rfl
def ED(h:Wd G T W)(hp:P.length=W.length)(hs:Sm P):bf [aH G T W,ag P]=some (.list ((fj G T W P).map nD)):=by
 have hw:=h.wl;refine aO ?_;show j6 [.val (aH G T W),.val (ag P)]=_;unfold j6;have c:az 1 [0,1] (aS (aa (bz bg (aa (ae 1) af)) af)) (fG 0) (fB (f2 k9 (ai 3 ee (aa (ae 1) (aa (ae 2) (aa (ae 0) af)))) (fC .none))) (ae 0) [some (aH G T W),some (ag P)]=some ((fj G T W P).map nD) :=
  iD (fW (eY hp rfl) (by lia)) (by rw[zR];lia) λk hk=>⟨aQ (aq (oG _ (uu G T W P k)) (call_of (r8 h hp hs (by simpa using hk)) rfl rfl) rfl),λ_=>rfl⟩
 refine aK ?_;show cg _ [some (aH G T W),some (ag P)]=_;simp?[cg,c,zB]
def M6:ar->Option Out:=(dE (cH (fB (f2 aY (f2 aw (ae 6) (ae 2)) (ae 3))) (cH (fB (f2 aY (f2 aw (ae 6) (f2 Dl.dh (fC (.int 1)) (ae 2))) (ae 4))) (fB (f2 Dl.nA (f2 aw (ae 1) (ae 5)) (fC (.int 0)))))) (aE (f2 Dl.aB (f2 Dl.aB (eA cw (ae 1) eX (nY (ae 5))) (ax (aa (f2 Dl.dh (f2 aw (ae 1) (ae 5)) (fC (.int 1))) af))) (eA cw (ae 1) (nY (f2 Dl.aB (ae 5) (fC (.int 1)))) eX))) cP)
def M7:ar->Option Out:=(cN [0] (bD (aa (f2 aw (ae 0) (fC (.int 2))) af)) (eV 5 6) M6)
abbrev uP(G T:List Pl)(W:List Wy)(P:List Int)(b:Bool)(i:Nat)(x4 x5 x6:Slot):ar:=[.val (aH G T W),.val (ag P),.val (.int (sI b)),.val (nD i),x4,x5,x6]
def Bc{fv fi fx:Dl.Env->Option D}{ρ:Dl.Env}{v:Int}(hg:g < P.length)(hl:P.length<=1000)(h1:fv ρ=some (ag P))(h2:fi ρ=some (nD g))(h3:fx ρ=some (.int v)):f2 Dl.aB (f2 Dl.aB (eA cw fv eX (nY fi)) (ax (aa fx af))) (eA cw fv (nY (f2 Dl.aB fi (fC (.int 1)))) eX) ρ=some (ag (P.set g v)):=by
 refine aq (a:=.tuple ((P.map PyData.int).take g++[PyData.int v])) (b:=.tuple ((P.map PyData.int).drop (g+1))) ?_ (aq (a:=.tuple ((P.map PyData.int).take g)) (b:=.tuple [.int v]) (l6 ?_) (EO h1 h2) (uB h3)) (F5 h1 (aq (dk _ _) h2 rfl))
 ·rw[l6,oH P g _ hg]
  ·rfl
  ·rw[oH P g _ hg];simp;lia
 ·simp;lia
def A5{t u:Dl.Env->Option Bool}{ρ:Dl.Env}{x y:Bool}(h:t ρ=some x)(h2:u ρ=some y):cH t u ρ=some (x&&y):=by
 cases x
 ·exact tT h
 ·rw[jK];exact pU h h2
def IT(h:Wd G T W)(hp:P.length=W.length){o:Int}{j:Nat}(hj:j < W.length):
  let q:=(decide (aU b (aF W j)=((i:Nat):Int))&&(decide (bF b (aF W j)=o)&&decide (0 < P.getD j 0)))
  (q=true->M6 (uP G T W P b i (.val (.int o)) (.val (nD j)) (.val (aA (aF W j))))=some (.rt (ag (P.set j (P.getD j 0 - 1)))))/\(q=false->M6 (uP G T W P b i (.val (.int o)) (.val (nD j)) (.val (aA (aF W j))))=some (.nx (uP G T W P b i (.val (.int o)) (.val (nD j)) (.val (aA (aF W j)))))):=by
 have hw:=h.wl;intro q;have t:cH (fB (f2 aY (f2 aw (ae 6) (ae 2)) (ae 3))) (cH (fB (f2 aY (f2 aw (ae 6) (f2 Dl.dh (fC (.int 1)) (ae 2))) (ae 4))) (fB (f2 Dl.nA (f2 aw (ae 1) (ae 5)) (fC (.int 0))))) (aJ (uP G T W P b i (.val (.int o)) (.val (nD j)) (.val (aA (aF W j)))))=some q:=by
  refine A5 (aQ (aq (bP _ _) (aq (iC b _) rfl rfl) rfl)) (A5 (aQ (aq (bP _ _) (aq (B5 b _) rfl (aq (sub_int _ _) rfl rfl)) rfl)) (aQ (aq (dy _ _) (aq (gF (by lia)) rfl rfl) rfl)))
 unfold M6;refine⟨λhq=>(bw (t.trans (by rw[hq]))).trans (aK ?_),λhq=>(aX (t.trans (by rw[hq]))).trans rfl⟩;exact Bc (by lia) (by lia) rfl rfl (aq (sub_int _ _) (aq (gF (by lia)) rfl rfl) rfl)
def Jx(h:Wd G T W)(hp:P.length=W.length)(hi:i < (bu b G T).length){o:Int}(ho:o∈(dv b G T i).2){x5 x6:Slot} :
  (decide (0 < P.getD (ig b W i o) 0)=true->M7 (uP G T W P b i (.val (.int o)) x5 x6)=some (.rt (ag (P.set (ig b W i o) (P.getD (ig b W i o) 0 - 1)))))/\(decide (0 < P.getD (ig b W i o) 0)=false->∃y5 y6,M7 (uP G T W P b i (.val (.int o)) x5 x6)=some (.nx (uP G T W P b i (.val (.int o)) y5 y6))):=by
 let⟨a1,a2,a3⟩:=iB h (m6 hi) ho;have uq:∀j,j < W.length->aU b (aF W j)=((i:Nat):Int)->bF b (aF W j)=o->j=ig b W i o:=λj hj e1 e2=>qf h.wp hj a1 (by rw[e1,a2]) (by rw[e2,a3]);let q:Nat->Bool:=λj=>decide (aU b (aF W j)=((i:Nat):Int))&&(decide (bF b (aF W j)=o)&&decide (0 < P.getD j 0));have key:=dA (tgt:=eV 5 6) (gb:=M6) (λρ=>∃y5 y6,ρ=uP G T W P b i (.val (.int o)) y5 y6) (λj=>.tuple [nD j,aA (aF W j)]) q (λj=>ag (P.set j (P.getD j 0 - 1))) (l:=List.range' 0 W.length) (ρ:=uP G T W P b i (.val (.int o)) x5 x6)
  (λρ j hj S9=>by
   let⟨y5,y6,rfl⟩:=S9;have hj:j < W.length:=by simpa using hj
   let⟨r1,r2⟩:=IT (b:=b) (i:=i) (o:=o) h hp hj;exact⟨uP G T W P b i (.val (.int o)) (.val (nD j)) (.val (aA (aF W j))),rfl,r1,λhq=>⟨_,r2 hq,_,_,rfl⟩⟩) ⟨x5,x6,rfl⟩
 have ZY:M7 (uP G T W P b i (.val (.int o)) x5 x6)=d9 (eV 5 6) M6 ((List.range' 0 W.length).map λj=>.tuple [nD j,aA (aF W j)]) (uP G T W P b i (.val (.int o)) x5 x6):=by
  unfold M7;refine bQ rfl ?_ rfl;rw[<- sH];show ((aa _ af) _).bind (λds=>(cy ds).map (bG 0))=_;rw[cons_of (aq (j8 G T W) rfl rfl) rfl];rfl
 rw[ZY];constructor
 ·intro Yp;refine key.1 (ig b W i o) ?_;rw[List.find?_eq_some_iff_append];refine⟨by show q _=true;simp?[q,a2,a3,Yp,jP,jK],?_⟩;let⟨xs,ys,e⟩:=List.append_of_mem (show ig b W i o∈List.range' 0 W.length by simpa using a1);refine⟨xs,ys,e,λz hz=>?_⟩;have hn:(List.range' 0 W.length).Nodup:=List.nodup_range';rw[e,Ze] at hn;have ZZ:z < W.length:=by
   have:z∈List.range' 0 W.length:=by rw[e];exact qH _ hz
   simpa using this
  have So:z≠ig b W i o:=λw=>hn.2.2 z hz _ zE w;show (!q z)=true;rw[yO];refine Bool.eq_false_iff.mpr λw=>So ?_;simp?[q,zF,zJ] at w;exact uq z ZZ w.1 w.2.1
 ·intro Yp;let⟨ρ',e1,y5,y6,rfl⟩:=key.2 (by
   rw[wU];intro z hz w;have ZZ:z < W.length:=by simpa using hz
   have w:q z=true:=w;simp?[q,zF,zJ] at w;have:=uq z ZZ w.1 w.2.1;subst this;rw[yA w.2.2] at Yp;cases Yp)
  exact⟨y5,y6,e1⟩
def Gd(b:Bool)(G T:List Pl)(W:List Wy)(P:List Int)(i:Nat):yo b G T W P i=((dv b G T i).2.reverse.find? λo=>decide (0 < P.getD (ig b W i o) 0)).map (ig b W i):=by
 unfold yo lst iZ;rw[kF,List.getLast?_map,List.getLast?_eq_head?_reverse,<- List.filter_reverse,List.head?_filter];rfl
def qk(h:Wd G T W)(hp:P.length=W.length)(hs:Sm P)(hi:i < (bu b G T).length):cx [aH G T W,ag P,.int (sI b),nD i]=some (ag (dec (mU b G T W P i) P)):=by
 refine aO ?_;show (au (dE (fB (f2 Dl.A1 (ai 4 bE (aa (ae 0) (aa (ae 1) (aa (ae 2) (aa (ae 3) af))))) (f2 aw (f2 aw (f2 aw (ae 0) (ae 2)) (ae 3)) (fC (.int 0))))) (aE (ae 1)) cP) (au (cN [0,2,3] (bJ (f1 Dv (f2 aw (f2 aw (f2 aw (ae 0) (ae 2)) (ae 3)) (fC (.int 1))))) (oE 4) M7) (aE (ae 1)))) (uP G T W P b i .RK .RK .RK)=_;have t:fB (f2 Dl.A1 (ai 4 bE (aa (ae 0) (aa (ae 1) (aa (ae 2) (aa (ae 3) af))))) (f2 aw (f2 aw (f2 aw (ae 0) (ae 2)) (ae 3)) (fC (.int 0)))) (aJ (uP G T W P b i .RK .RK .RK))=some (decide (gS b W P i < SR b G T i)):=aQ (aq (kh _ _) (call_of (lE h hp hs b _) rfl rfl) (Fb h hi rfl rfl rfl));by_cases c:gS b W P i < SR b G T i
 ·rw[oO ((bw (t.trans (by rw[yA c]))).trans (aK rfl))];unfold mU;rw[yK c];rfl
 ·refine (ak ((aX (t.trans (by rw[zZ c]))).trans rfl)).trans ?_;have hg:mU b G T W P i=yo b G T W P i:=by unfold mU;rw[yM c]
  rw[hg,Gd];have key:=dA (tgt:=oE 4) (gb:=M7) (λρ=>∃y4 y5 y6,ρ=uP G T W P b i y4 y5 y6) PyData.int (λo=>decide (0 < P.getD (ig b W i o) 0)) (λo=>ag (P.set (ig b W i o) (P.getD (ig b W i o) 0 - 1))) (l:=(dv b G T i).2.reverse) (ρ:=uP G T W P b i .RK .RK .RK)
   (λρ o ho S9=>by
    let⟨y4,y5,y6,rfl⟩:=S9;let⟨r1,r2⟩:=Jx (o:=o) (x5:=y5) (x6:=y6) h hp hi (List.mem_reverse.mp ho);refine⟨uP G T W P b i (.val (.int o)) y5 y6,rfl,r1,λhq=>?_⟩;let⟨z5,z6,e⟩:=r2 hq;exact⟨_,e,_,_,_,rfl⟩) ⟨_,_,_,rfl⟩
  have Uj:bJ (f1 Dv (f2 aw (f2 aw (f2 aw (ae 0) (ae 2)) (ae 3)) (fC (.int 1)))) (bN (uP G T W P b i .RK .RK .RK))=some ((dv b G T i).2.reverse.map PyData.int):=by
   refine tH (NI (aq (a:=ba (dv b G T i)) (b:=.int 1) rfl (aq (gJ (f:=ba) (l:=bu b G T) (m6 hi)) (aq (ka b G T W) rfl rfl) rfl) rfl) |>.trans ?_);show Dv (ag (dv b G T i).2)=_;rw[List.map_reverse];rfl
  cases hf:(dv b G T i).2.reverse.find? (λo=>decide (0 < P.getD (ig b W i o) 0)) with
  | some o=>exact oO (bQ (key.1 o hf) Uj rfl)
  | none =>
   let⟨ρ',e1,y4,y5,y6,rfl⟩:=key.2 hf;exact (ak (bQ e1 Uj rfl)).trans (aK rfl)
end
section
variable {G T:List Pl}{W:List Wy}{P c:List Int}{b:Bool}{i k g:Nat}
def MT(h:Wd G T W)(p:Pn G T W P)(o:Option Nat):Sm (dec o P):=λq=>by
 have h1:=p.Vc h q;have h2:0<=P.getD q 0:=p.nn q;rw[nq];split<;>lia
def o6(h:Wd G T W)(p:Pn G T W P)(hk:k < W.length)(e:dR G T W P k=3):bL [aH G T W,ag P,nD k]=some (ag (gG G T W P k)):=by
 have hw:=h.wl;have hp:=p.len;have hs:=p.Vc h;rw[<- IP h p hk e];refine aO ?_;show (au (ju 3 4 5 [0,2] (f2 aw (f2 aw (ae 0) (fC (.int 2))) (ae 2))) (au (Dl.aI 6 [0,1,3,4] (ai 4 cx (aa (ae 0) (aa (ai 4 cx (aa (ae 0) (aa (ae 1) (aa (fC (.int 0)) (aa (ae 3) af))))) (aa (fC (.int 1)) (aa (ae 4) af)))))) (aE (f2 Dl.aB (f2 Dl.aB (eA cw (ae 6) eX (nY (ae 2))) (ax (aa (f2 Dl.aB (f2 aw (ae 6) (ae 2)) (fC (.int 1))) af))) (eA cw (ae 6) (nY (f2 Dl.aB (ae 2) (fC (.int 1)))) eX))))) [.val (aH G T W),.val (ag P),.val (nD k),.RK,.RK,.RK,.RK]=_;have eg:∀b,PyData.int (aU b (aF W k))=nD (bT b W k):=λb=>by
  rw[<- (h.R8 b hk).2.2];rfl
 have ew:f2 aw (f2 aw (ae 0) (fC (.int 2))) (ae 2) (bN [.val (aH G T W),.val (ag P),.val (nD k),.RK,.RK,.RK,.RK])=some (.tuple [nD (bT false W k),nD (bT true W k),.int (aF W k).2.2]):=by
  refine aq (a:=.tuple (W.map aA)) (b:=nD k) ((gJ (f:=aA) (l:=W) (x:=aF W k) (by simp[aF,hk])).trans ?_) (aq (j8 G T W) rfl rfl) rfl;rw[<- eg false,<- eg true];rfl
 refine (ak (yb ew rfl)).trans ?_;have e6:∀ρ:Dl.Env,ae 0 ρ=some (aH G T W)->ae 1 ρ=some (ag P)->ae 3 ρ=some (nD (bT false W k))->ae 4 ρ=some (nD (bT true W k))->ai 4 cx (aa (ae 0) (aa (ai 4 cx (aa (ae 0) (aa (ae 1) (aa (fC (.int 0)) (aa (ae 3) af))))) (aa (fC (.int 1)) (aa (ae 4) af)))) ρ=some (ag (dec (mU true G T W (dec (mU false G T W P (bT false W k)) P) (bT true W k)) (dec (mU false G T W P (bT false W k)) P))):=λρ a0 a1 a3 a4 =>
  call_of (qk (b:=true) h (by rw[cL];exact hp) (MT h p _) (jt h true hk)) (cons_of a0 (cons_of (call_of (qk (b:=false) h hp hs (jt h false hk)) (cons_of a0 (cons_of a1 (cons_of rfl (cons_of a3 rfl)))) rfl) (cons_of rfl (cons_of a4 rfl)))) rfl
 refine (ak (bo (e6 _ rfl rfl rfl rfl) (e6 _ rfl rfl rfl rfl) rfl)).trans ?_;unfold GD;exact aK (Bc (by rw[cL,cL];lia) (by rw[cL,cL];lia) rfl rfl (aq (dk _ _) (aq (gF (by rw[cL,cL];lia)) rfl rfl) rfl))
def G1(G T:List Pl)(W:List Wy)(s:List (List Int)):Option (List (List Int)):=match s.getLast? with
 | none=>none
 | some P=>match (fj G T W P).head? with
  | none=>none
  | some k=>if gG G T W P k∈s then none else some (s++[gG G T W P k])
def G6(G T:List Pl)(W:List Wy):Nat->List (List Int)->List (List Int)
 | 0,s=>s
 | n+1,s=>match G1 G T W s with
  | none=>s
  | some s'=>G6 G T W n s'
abbrev eS(G T:List Pl)(W:List Wy)(P:List Int):List (List Int):=G6 G T W Rf.turns [P]
def lH{S:Type}{t:Dl.Env->Option Bool}{gb:ar->Option Out}{f:Dl.Env->Option D}(Rel:S->ar->Prop)(nx:S->Option S)(wl:Nat->S->S)(fin:S->D)(μ:S->Nat)(w0:∀s n,nx s=none->wl (n+1) s=s)(w1:∀s n s',nx s=some s'->wl (n+1) s=wl n s')
  (hA:∀s ρ,Rel s ρ->nx s=none->(t (aJ ρ)=some false/\f (aJ ρ)=some (fin s))\/(t (aJ ρ)=some true/\gb ρ=some (.rt (fin s))))
  (hB:∀s ρ s',Rel s ρ->nx s=some s'->t (aJ ρ)=some true/\(∃ρ',gb ρ=some (.nx ρ')/\Rel s' ρ')/\μ s' < μ s) :
  ∀ (n:Nat) (s:S) (ρ:ar),Rel s ρ->μ s < n->au (BC t gb n) (aE f) ρ=some (.rt (fin (wl n s)))
 | 0,_,_,_,h=>absurd h (vX _)
 | n+1,s,ρ,hr,hm=>by
  cases e:nx s with
  | none =>
   rw[w0 s n e];rcases hA s ρ hr e with ⟨h1,h2⟩|⟨h1,h2⟩
   ·unfold au;rw[BC,h1,zA,yM (by simp),zA];exact aK h2
   ·unfold au;rw[BC,h1,zA,yK rfl,h2];rfl
  | some s' =>
   let⟨h1,⟨ρ',h2,h3⟩,h4⟩:=hB s ρ s' hr e;rw[w1 s n s' e,<- lH Rel nx wl fin μ w0 w1 hA hB n s' ρ' h3 (by lia)];unfold au;rw[BC,h1,zA,yK rfl,h2];rfl
def Gy{s:List (List Int)}{n:Nat}(h:G1 G T W s=none):G6 G T W (n+1) s=s:=by rw[G6,h]
def Eb{s s':List (List Int)}{n:Nat}(h:G1 G T W s=some s'):G6 G T W (n+1) s=G6 G T W n s':=by rw[G6,h]
def xw:∀ {L l:List (List Int)},l.Nodup->(∀x∈l,x∈L)->l.length<=L.length
 | _,[],_,_=>xU _
 | L,x::l,hn,h=>by
  rw[List.nodup_cons] at hn;have hx:=h x zE;have:=xw (L:=L.erase x) (l:=l) hn.2 λy hy=>(List.mem_erase_of_ne (show y≠x fromλz=>hn.1 (z ▸ hy))).mpr (h y (zC _ hy));rw[List.length_erase_of_mem hx] at this;have:0 < L.length:=List.length_pos_of_mem hx;rw[zL];lia
def Nd:Nat->List (List Int)
 | 0=>[[]]
 | n+1=>(Nd n).flatMap λr=>[0::r,1::r,2::r]
def A7:∀n,(Nd n).length=3 ^ n
 | 0=>rfl
 | n+1=>by
  rw[Nd,List.length_flatMap];simp?[zL,xJ];rw[List.map_const',List.sum_replicate_nat,A7 n,Nat.pow_succ]
def BK:∀ {r:List Int},(∀x∈r,0<=x/\x<=2)->r∈Nd r.length
 | [],_=>List.mem_singleton.mpr rfl
 | x::r,h=>by
  have ih:=BK (r:=r) λy hy=>h y (zC _ hy);have hx:=h x zE;rw[zL,Nd,List.mem_flatMap];refine⟨r,ih,?_⟩;simp?[zQ,kZ,and_true,yF,xS];lia
structure Dz(G T:List Pl)(W:List Wy)(s:List (List Int)):Prop where
 ne:s≠[]
 pn:∀P∈s,Pn G T W P
 nd:s.Nodup
def Dz.few(f:Dz G T W s)(h2:∀w∈W,w.2.2<=2)(hw:W.length<=9):s.length<=19683:=by
 have:=xw (L:=Nd W.length) f.nd λP hP=>by
  have p:=f.pn P hP;rw[<- p.len];refine BK λx hx=>?_;let⟨q,hq,rfl⟩:=qP hx;have Yo:q < W.length:=by rw[<- p.len];exact hq
  have hb:=p.bd q Yo;have hl:=h2 _ (qj Yo);rw[zG,zK hq,qF] at hb;lia
 rw[A7] at this;refine yD this ?_;exact Nat.pow_le_pow_right (by lia) hw
def oJ(e:(fj G T W P).head?=some k):k < W.length/\dR G T W P k=3:=by
 have:=List.mem_of_mem_head? e;unfold fj at this;rw[List.mem_filter,zS,zJ] at this;exact this
def tj(h:Wd G T W)(f:Dz G T W s)(e:G1 G T W s=some s'):∃P k,s.getLast?=some P/\Pn G T W P/\(fj G T W P).head?=some k/\¬ gG G T W P k∈s/\s'=s++[gG G T W P k]/\Dz G T W s':=by
 unfold G1 at e;cases e1:s.getLast? with
 | none=>rw[e1] at e;cases e
 | some P =>
  rw[e1] at e;have p:=f.pn P (List.mem_of_getLast? e1);simp only at e;cases e2:(fj G T W P).head? with
  | none=>rw[e2] at e;cases e
  | some k =>
   rw[e2] at e;simp only at e;by_cases c:gG G T W P k∈s
   ·rw[yK c] at e;cases e
   ·rw[yM c] at e;cases e;let⟨hk,hy⟩:=oJ e2;refine⟨P,k,rfl,p,e2,c,rfl,by simp,λX hX=>?_,?_⟩
    ·rcases List.mem_append.mp hX with z|z
     ·exact f.pn X z
     ·rw[List.mem_singleton.mp z];exact FZ h p hk hy
    ·rw[Ze];exact⟨f.nd,by simp,λa ha b hb z=>c (by rw[List.mem_singleton.mp hb] at z;exact z ▸ ha)⟩
def AY(f:Dz G T W s)(e:G1 G T W s=none):∃P,s.getLast?=some P/\Pn G T W P/\((fj G T W P).head?=none\/∃k,(fj G T W P).head?=some k/\gG G T W P k∈s):=by
 unfold G1 at e;cases e1:s.getLast? with
 | none=>exact absurd (List.getLast?_eq_none_iff.mp e1) f.ne
 | some P =>
  rw[e1] at e;have p:=f.pn P (List.mem_of_getLast? e1);refine⟨P,rfl,p,?_⟩;simp only at e;cases e2:(fj G T W P).head? with
  | none=>exact .inl rfl
  | some k =>
   rw[e2] at e;simp only at e;by_cases c:gG G T W P k∈s
   ·exact .inr ⟨k,rfl,c⟩
   ·rw[yM c] at e;cases e
def D8(h:Wd G T W):∀ (n:Nat) {s:List (List Int)},Dz G T W s->Dz G T W (G6 G T W n s)
 | 0,s,f=>f
 | n+1,s,f=>by
  cases e:G1 G T W s with
  | none=>rw[Gy e];exact f
  | some s' =>
   let⟨_,_,_,_,_,_,_,f'⟩:=tj h f e;rw[Eb e];exact D8 h n f'
def LD(o:Option Nat):D:=match o with
 | some k=>nD k
 | none=>.none
def Iz(h:Wd G T W)(p:Pn G T W P):bb [aH G T W,ag P]=some (LD (fj G T W P).head?):=by
 rw[iS h p.len (p.Vc h)];unfold fj;rw[List.head?_filter];rfl
def BV(o:Option Nat):i8 (LD o) .none=some (.bool o.isSome):=by cases o<;>rfl
def jr{l:List (List Int)}{P:List Int}(h:l.getLast?=some P):aw (.list (l.map ag)) (.int (-1))=some (ag P):=QZ (by rw[List.getLast?_map,h];rfl)
def l5{i:Nat}{fz:List Nat}{f:Dl.Env->Option D}{ρ:ar}{l:List Int}(hA:f (aJ ρ)=some (ag l))(hF:f (bN (hand fz 0 ρ))=some (ag l)):Dl.aI i fz f ρ=some (.nx (ρ.set i (.val (ag l)))):=by
 have hn:gq (ag l)=true:=by
  show ni (l.map PyData.int)=true;clear hA hF
  induction l with
  | nil=>rfl
  | cons x l ih=>exact ih
 simp?[Dl.aI,hA,zA,show Dl.jm (ag l)=false from rfl,yN,qN,hF,zB,hn,xG]
end
section
variable {G T:List Pl}{W:List Wy}{P c:List Int}{b:Bool}{i k g:Nat}{s:List (List Int)}
def A6{i:Nat}{fz:List Nat}{f:Dl.Env->Option D}{ρ:ar}{d:D}{ds:List D}(hA:f (aJ ρ)=some d)(hF:f (bN (hand fz 0 ρ))=some d)(hh:hand fz 0 ρ=ρ)(ho:ρ[i]?=some (.own ds))(hl:ds.length < sizeLine):k6 i fz f ρ=some (.nx (ρ.set i (.own (ds++[d])))):=by
 rw[hh] at hF;unfold k6 md;rw[hA,zA];split
 ·simp?[zA,mO,ho,yK hl,zB]
 ·simp?[hh,hF,zB,zA,mO,ho,yK hl]
def BZ{i j:Nat}{g1 g2:ar->Option Out}{ρ:ar}{r:List Int}{ks:List (List Int)}(h1:ρ[i]?=some (.val (ag r)))(h2:ρ[j]?=some (.tab ks)):rQ i j g1 g2 ρ=if ks.contains r=true then g1 ρ else g2 ρ:=by
 unfold rQ;rw[h1,h2,show zm (some (.val (ag r)))=some r from bH r,show tabS (some (.tab ks))=some ks from rfl];rfl
def IY{j i:Nat}{f:Dl.Env->Option D}{ρ:ar}{r:List Int}{ks:List (List Int)}{d:D}(h1:ρ[i]?=some (.val (ag r)))(h2:ρ[j]?=some (.tab ks))(hf:f (aJ ρ)=some d)(hs:Dl.jm d=true)(hl:ks.length < sizeLine)(hn:ks.contains r=false):rL j i f ρ=some (.nx (ρ.set j (.tab (ks++[r])))):=by
 unfold rL;rw[h1,h2,show zm (some (.val (ag r)))=some r from bH r,show tabS (some (.tab ks))=some ks from rfl,zA,zA,hf,zA,hs,yA hl,hn];rfl
def Bq(o:Option Nat):Dl.jm (LD o)=true:=by cases o<;>rfl
def gZ{l:List (List Int)}{r:List Int}(h:¬ r∈l):l.contains r=false:=by
 rw[Bool.eq_false_iff];exactλz=>h (List.contains_iff_mem.mp z)
def GY(G T:List Pl)(W:List Wy)(s:List (List Int)):Option Nat:=s.getLast?.bind λP=>(fj G T W P).head?
def Qd:ar->Option Out:=(au (Dl.aI 5 [0,2,4] (ai 3 cQ (aa (ae 0) (aa (f2 aw (ae 2) (f1 eQ (fC (.int 1)))) (aa (ae 4) af))))) (au (rQ 5 3 (aE (ae 2)) cP) (au (k6 2 [5] (ae 5)) (au (rL 3 5 (fC (.bool true))) (Dl.aI 4 [0,5] (ai 2 bb (aa (ae 0) (aa (ae 5) af))))))))
abbrev Oy(G T:List Pl)(W:List Wy)(P:List Int)(s:List (List Int))(x4 x5:Slot):ar:=[.val (aH G T W),.val (ag P),.own (s.map ag),.tab s,x4,x5]
def vi:19683 < sizeLine:=by rw[qT];decide
def AZ(h:Wd G T W){X:List Int}(p:Pn G T W X)(e1:s.getLast?=some X)(e2:(fj G T W X).head?=some k){x5:Slot}:Dl.aI 5 [0,2,4] (ai 3 cQ (aa (ae 0) (aa (f2 aw (ae 2) (f1 eQ (fC (.int 1)))) (aa (ae 4) af)))) (Oy G T W P s (.val (nD k)) x5)=some (.nx (Oy G T W P s (.val (nD k)) (.val (ag (gG G T W X k))))):=by
 let⟨hk,hy⟩:=oJ e2;have hc:∀ρ:Dl.Env,ae 0 ρ=some (aH G T W)->ae 2 ρ=some (.list (s.map ag))->ae 4 ρ=some (nD k)->ai 3 cQ (aa (ae 0) (aa (f2 aw (ae 2) (f1 eQ (fC (.int 1)))) (aa (ae 4) af))) ρ=some (ag (gG G T W X k)):=λρ a0 a2 a4 =>
  call_of (n8 h p hk hy) (cons_of a0 (cons_of (aq (b:=.int (-1)) (jr e1) a2 rfl) (cons_of a4 rfl))) rfl
 exact l5 (hc _ rfl rfl rfl) (hc _ rfl rfl rfl)
def zk(h:Wd G T W)(p:Pn G T W P)(h2:∀w∈W,w.2.2<=2)(hw:W.length<=9):fP [aH G T W,ag P]=some (.list ((eS G T W P).map ag)):=by
 refine aO ?_;show (au (fO (ai 2 aW (aa (ae 0) (aa (ae 1) af)))) (au (br 2 [1] (dg (aa (ae 1) af))) (au (sE 3 1 (fC (.bool true))) (au (Dl.aI 4 [0,1] (ai 2 bb (aa (ae 0) (aa (ae 1) af)))) (au (BC (fB (f2 i8 (ae 4) (fC .none))) Qd Rf.turns) (aE (ae 2))))))) [.val (aH G T W),.val (ag P),.RK,.RK,.RK,.RK]=_;refine (ak (nJ (call_of (ij h p) rfl rfl))).trans ?_;refine (ak (rY (ds:=[ag P]) rfl rfl)).trans ?_;have e3:sE 3 1 (fC (.bool true)) [.val (aH G T W),.val (ag P),.own [ag P],.RK,.RK,.RK]=some (.nx [.val (aH G T W),.val (ag P),.own [ag P],.tab [P],.RK,.RK]):=by
  unfold sE;rw[show zm ([Slot.val (aH G T W),Slot.val (ag P),Slot.own [ag P],Slot.RK,Slot.RK,Slot.RK][1]?)=some P from bH P];rfl
 refine (ak e3).trans ?_;have e4:∀X,Pn G T W X->∀ρ:Dl.Env,∀f:Dl.Env->Option D,ae 0 ρ=some (aH G T W)->f ρ=some (ag X)->ai 2 bb (aa (ae 0) (aa f af)) ρ=some (LD (fj G T W X).head?):=λX hX ρ f a0 a1=>call_of (Iz h hX) (cons_of a0 (cons_of a1 rfl)) rfl;refine (ak (dN (e4 P p _ _ rfl rfl) (Bq _))).trans ?_;have f0:Dz G T W [P]:=⟨by simp,λX hX=>by rw[List.mem_singleton.mp hX];exact p,by simp⟩
 refine lH (S:=List (List Int)) (λs ρ=>Dz G T W s/\∃x5,ρ=Oy G T W P s (.val (LD (GY G T W s))) x5) (G1 G T W) (G6 G T W) (λs=>.list (s.map ag)) (λs=>19684 - s.length) (λs n=>Gy) (λs n s'=>Eb) ?_ ?_ Rf.turns [P] _ ⟨f0,.RK,rfl⟩ (by show 19684 - 1 < 1000000;lia)
 ·rintro s ρ ⟨f,x5,rfl⟩ e;let⟨X,e1,hX,e2⟩:=AY f e;have hd:GY G T W s=(fj G T W X).head?:=by unfold GY;rw[e1];rfl
  have t:∀x5,(fB (f2 i8 (ae 4) (fC .none))) (aJ (Oy G T W P s (.val (LD (GY G T W s))) x5))=some (GY G T W s).isSome:=λx5=>aQ (aq (BV _) rfl rfl);rcases e2 with e2|⟨k,e2,hm⟩
  ·exact .inl ⟨(t x5).trans (by rw[hd,e2];rfl),rfl⟩
  ·refine .inr ⟨(t x5).trans (by rw[hd,e2];rfl),?_⟩;rw[hd,e2];unfold Qd;refine (ak (AZ h hX e1 e2)).trans (oO ?_);rw[BZ (r:=gG G T W X k) (ks:=s) rfl rfl,yK (List.contains_iff_mem.mpr hm)];exact aK rfl
 ·rintro s ρ s' ⟨f,x5,rfl⟩ e;let⟨X,k,e1,hX,e2,hm,rfl,f'⟩:=tj h f e;have hd:GY G T W s=some k:=by unfold GY;rw[e1];exact e2
  have hl:=f'.few h2 hw;rw[zN,xB] at hl;have hb:=vi;let⟨hk,hy⟩:=oJ e2;refine⟨(aQ (aq (BV _) rfl rfl)).trans (by rw[hd];rfl),⟨Oy G T W P (s++[gG G T W X k]) (.val (LD (GY G T W (s++[gG G T W X k])))) (.val (ag (gG G T W X k))),?_,f',_,rfl⟩,by rw[zN,xB];lia⟩;rw[hd];unfold Qd;refine (ak (AZ h hX e1 e2)).trans ?_;refine (ak ((BZ (r:=gG G T W X k) (ks:=s) rfl rfl).trans (by rw[yM (by rw[gZ hm];simp)];rfl))).trans ?_;refine (ak (A6 (ds:=s.map ag) (d:=ag (gG G T W X k)) rfl rfl rfl rfl (by rw[zD];lia))).trans ?_;refine (ak (IY (r:=gG G T W X k) (ks:=s) (d:=.bool true) rfl rfl rfl rfl (by lia) (gZ hm))).trans ?_;refine (dN (e4 _ (FZ h hX hk hy) _ _ rfl rfl) (Bq _)).trans ?_;have e5:GY G T W (s++[gG G T W X k])=(fj G T W (gG G T W X k)).head?:=by unfold GY;rw[List.getLast?_concat];rfl
  rw[e5];show some (Out.nx [_,_,Slot.own (s.map ag++[ag (gG G T W X k)]),_,_,_])=some (Out.nx [_,_,Slot.own ((s++[gG G T W X k]).map ag),_,_,_]);rw[qZ];rfl
def OM(l:List Nat):cR (.list (l.map nD)) (.list [])=some (.bool (!decide (l=[]))):=by
 have h0:SeqAt.shaped (.list [])=true:=dO (l:=[]);have e:(l.map nD).isEmpty=decide (l=[]):=by cases l<;>rfl
 simp?[cR,GW,dO,h0,jO,xG,PyData.eqv,lT,e,zB]
def Lq:ar->Option Out:=(au (Dl.aI 3 [0,2] (ai 3 bL (aa (ae 0) (aa (f2 aw (ae 2) (f1 eQ (fC (.int 1)))) (aa (f2 aw (ai 2 bf (aa (ae 0) (aa (f2 aw (ae 2) (f1 eQ (fC (.int 1)))) af))) (fC (.int 0))) af))))) (au (dE (fB (f2 k7 (ae 3) (ae 2))) (aE (ae 2)) cP) (k6 2 [3] (ae 3))))
abbrev N9(G T:List Pl)(W:List Wy)(P:List Int)(s:List (List Int))(x3:Slot):ar:=[.val (aH G T W),.val (ag P),.own (s.map ag),x3]
def me(h:Wd G T W)(p:Pn G T W P)(h2:∀w∈W,w.2.2<=2)(hw:W.length<=9):b8 [aH G T W,ag P]=some (.list ((eS G T W P).map ag)):=by
 refine aO ?_;show (au (br 2 [1] (dg (aa (ae 1) af))) (au (BC (fB (f2 cR (ai 2 bf (aa (ae 0) (aa (f2 aw (ae 2) (f1 eQ (fC (.int 1)))) af))) (cg (dg af)))) Lq Rf.turns) (aE (ae 2)))) [.val (aH G T W),.val (ag P),.RK,.RK]=_;refine (ak (rY (ds:=[ag P]) rfl rfl)).trans ?_;have f0:Dz G T W [P]:=⟨by simp,λX hX=>by rw[List.mem_singleton.mp hX];exact p,by simp⟩
 have gn:∀ {s:List (List Int)}{X:List Int},s.getLast?=some X->Pn G T W X->∀ρ:Dl.Env,ae 0 ρ=some (aH G T W)->ae 2 ρ=some (.list (s.map ag))->ai 2 bf (aa (ae 0) (aa (f2 aw (ae 2) (f1 eQ (fC (.int 1)))) af)) ρ=some (.list ((fj G T W X).map nD)):=λe1 hX ρ a0 a2 =>
  call_of (ED h hX.len (hX.Vc h)) (cons_of a0 (cons_of (aq (b:=.int (-1)) (jr e1) a2 rfl) rfl)) rfl
 have t:∀ {s:List (List Int)}{X:List Int},s.getLast?=some X->Pn G T W X->∀x3,fB (f2 cR (ai 2 bf (aa (ae 0) (aa (f2 aw (ae 2) (f1 eQ (fC (.int 1)))) af))) (cg (dg af))) (aJ (N9 G T W P s x3))=some (!decide (fj G T W X=[])):=λe1 hX x3=>aQ (aq (OM _) (gn e1 hX _ rfl rfl) rfl);have pu:∀ {s:List (List Int)}{X:List Int}{k:Nat},s.getLast?=some X->Pn G T W X->(fj G T W X).head?=some k->∀x3,Dl.aI 3 [0,2] (ai 3 bL (aa (ae 0) (aa (f2 aw (ae 2) (f1 eQ (fC (.int 1)))) (aa (f2 aw (ai 2 bf (aa (ae 0) (aa (f2 aw (ae 2) (f1 eQ (fC (.int 1)))) af))) (fC (.int 0))) af)))) (N9 G T W P s x3)=some (.nx (N9 G T W P s (.val (ag (gG G T W X k))))):=λ{s X k} e1 hX e2 x3=>by
  let⟨hk,hy⟩:=oJ e2;have hc:∀ρ:Dl.Env,ae 0 ρ=some (aH G T W)->ae 2 ρ=some (.list (s.map ag))->ai 3 bL (aa (ae 0) (aa (f2 aw (ae 2) (f1 eQ (fC (.int 1)))) (aa (f2 aw (ai 2 bf (aa (ae 0) (aa (f2 aw (ae 2) (f1 eQ (fC (.int 1)))) af))) (fC (.int 0))) af))) ρ=some (ag (gG G T W X k)):=λρ a0 a2 =>
   call_of (o6 h hX hk hy) (cons_of a0 (cons_of (aq (b:=.int (-1)) (jr e1) a2 rfl) (cons_of (aq (a:=.list ((fj G T W X).map nD)) (b:=.int 0) (AJ (i:=0) (x:=k) (by rw[<- List.head?_eq_getElem?];exact e2)) (gn e1 hX ρ a0 a2) rfl) rfl))) rfl
  exact l5 (hc _ rfl rfl) (hc _ rfl rfl)
 refine lH (S:=List (List Int)) (λs ρ=>Dz G T W s/\∃x3,ρ=N9 G T W P s x3) (G1 G T W) (G6 G T W) (λs=>.list (s.map ag)) (λs=>19684 - s.length) (λs n=>Gy) (λs n s'=>Eb) ?_ ?_ Rf.turns [P] _ ⟨f0,.RK,rfl⟩ (by show 19684 - 1 < 1000000;lia)
 ·rintro s ρ ⟨f,x3,rfl⟩ e;let⟨X,e1,hX,e2⟩:=AY f e;rcases e2 with e2|⟨k,e2,hm⟩
  ·exact .inl ⟨(t e1 hX x3).trans (by rw[List.head?_eq_none_iff.mp e2];rfl),rfl⟩
  ·refine .inr ⟨(t e1 hX x3).trans (by rw[zZ (λz=>by rw[z] at e2;cases e2)];rfl),?_⟩;unfold Lq;refine (ak (pu e1 hX e2 x3)).trans (oO ?_);exact (bw (aQ (aq ((sr s (gG G T W X k)).trans (by rw[yA hm])) rfl rfl))).trans (aK rfl)
 ·rintro s ρ s' ⟨f,x3,rfl⟩ e;let⟨X,k,e1,hX,e2,hm,rfl,f'⟩:=tj h f e;have hl:=f'.few h2 hw;rw[zN,xB] at hl;have hb:=vi;refine⟨(t e1 hX x3).trans (by rw[zZ (λz=>by rw[z] at e2;cases e2)];rfl),⟨N9 G T W P (s++[gG G T W X k]) (.val (ag (gG G T W X k))),?_,f',_,rfl⟩,by rw[zN,xB];lia⟩;unfold Lq;refine (ak (pu e1 hX e2 x3)).trans ?_;refine (ak ((aX (aQ (aq ((sr s (gG G T W X k)).trans (by rw[zZ hm])) rfl rfl))).trans rfl)).trans ?_;refine (A6 (ds:=s.map ag) (d:=ag (gG G T W X k)) rfl rfl rfl rfl (by rw[zD];lia)).trans ?_;show some (Out.nx [_,_,Slot.own (s.map ag++[ag (gG G T W X k)]),_])=some (Out.nx [_,_,Slot.own ((s++[gG G T W X k]).map ag),_]);rw[qZ];rfl
def xq(G T:List Pl)(W:List Wy)(P:List Int):List Int:=(eS G T W P).getLast?.getD []
def F8(h:Wd G T W)(p:Pn G T W P):(eS G T W P).getLast?=some (xq G T W P)/\Pn G T W (xq G T W P):=by
 have f:Dz G T W (eS G T W P):=D8 h _ ⟨by simp,λX hX=>by rw[List.mem_singleton.mp hX];exact p,by simp⟩;unfold xq;cases e:(eS G T W P).getLast? with
 | none=>exact absurd (List.getLast?_eq_none_iff.mp e) f.ne
 | some X=>exact⟨rfl,f.pn X (List.mem_of_getLast? e)⟩
def BS(h:Wd G T W)(p:Pn G T W P)(h2:∀w∈W,w.2.2<=2)(hw:W.length<=9):bU [aH G T W,ag P]=some (.bool (decide (fj G T W (xq G T W P)=[]))):=by
 let⟨e1,q⟩:=F8 h p;refine aO ?_;show e8 [.val (aH G T W),.val (ag P)]=_;unfold e8;exact aK (call_of (yx h q.len (q.Vc h)) (cons_of rfl (cons_of (aq (b:=.int (-1)) (jr e1) (call_of (zk h p h2 hw) rfl rfl) rfl) rfl)) rfl)
end
namespace K43M
section
variable {G T:List Pl}{W:List Wy}{P:List Int}{k n:Nat}{w p l d:D}{c:Str}
abbrev CV:List Str:=["NoWorld","NoPlan","NoPlace"]
def uJ{j:Nat}(h:CV.contains c=true)(hj:rm (.bool true) (CV.map λn=>.bool (c == n))=some j):Ex.lb CV c=some (cC j):=by
 unfold Ex.lb;rw[yK h,hj];rfl
def Rc:Ex.lb CV OR=some (cC 0):=uJ (by decide +kernel) (by simp?[CV,zI,rm,LQ,show (OR == ("NoWorld":Str))=true by decide +kernel,xG])
def RI:Ex.lb CV OU=some (cC 1):=uJ (by decide +kernel) (by simp?[CV,zI,rm,LQ,show (OU == ("NoWorld":Str))=false by decide +kernel,show (OU == ("NoPlan":Str))=true by decide +kernel,xG,yN,qN,zB])
def QG:Ex.lb CV MX=some (cC 2):=uJ (by decide +kernel) (by simp?[CV,zI,rm,LQ,show (MX == ("NoWorld":Str))=false by decide +kernel,show (MX == ("NoPlan":Str))=false by decide +kernel,show (MX == ("NoPlace":Str))=true by decide +kernel,xG,yN,qN,zB])
abbrev env(k:Int)(w p l:D):ar:=[.val (.int k),.val w,.val p,.val l,.RK]
def Qv{t:Dl.Env->Option Bool}{xa xb:Ex.XE}{ρ:Dl.Env}(h:t ρ=some true):Ex.Au t xa xb ρ=xa ρ:=by
 unfold Ex.Au;rw[h,zA,yK rfl]
def Pz{t:Dl.Env->Option Bool}{xa xb:Ex.XE}{ρ:Dl.Env}(h:t ρ=some false):Ex.Au t xa xb ρ=xb ρ:=by
 unfold Ex.Au;rw[h,zA,yM (by simp)]
def Qj{t:Dl.Env->Option Bool}{fa fb:Dl.Env->Option D}{ρ:Dl.Env}(h:t ρ=some true)(ha:fa ρ=none):uL t fa fb ρ=none:=by
 unfold uL;rw[h,zA];exact ha
def OO{t:Dl.Env->Option Bool}{fa fb:Dl.Env->Option D}{ρ:Dl.Env}(h:t ρ=some false)(ha:fb ρ=none):uL t fa fb ρ=none:=by
 unfold uL;rw[h,zA];exact ha
def Ti(k j:Int):(fB (f2 aY (ae 0) (fC (.int j)))) (aJ (env k w p l))=some (decide (k=j)):=aQ (aq (bP k j) rfl rfl)
def NO(h:dZ [w,p,l]=some d):ao [.int 0,w,p,l]=some d :=
 aO (GL (ρ:=env 0 w p l) (dW ((bw (Ti 0 0)).trans (aK (call_of h rfl rfl)))))
def JW(h:fP [w,p]=some d):ao [.int 1,w,p,l]=some d :=
 aO (GL (ρ:=env 1 w p l) ((ak (aX (Ti 1 0))).trans (aK (mF (Ti 1 1) (call_of h rfl rfl)))))
def Kj(h:bU [w,p]=some d):ao [.int 2,w,p,l]=some d :=
 aO (GL (ρ:=env 2 w p l) ((ak (aX (Ti 2 0))).trans (aK (qg (Ti 2 1) (call_of h rfl rfl)))))
def MP(B:qw dZ gW [w,p,l] c)(hf:Ex.lb CV c=some d):ao [.int 0,w,p,l]=some d :=
 aO (An (ρ:=env 0 w p l) (Ob ((bw (Ti 0 0)).trans (Hi (xi B.n rfl)))) (Oi ((Nf (Ti 0 0)).trans (NZ B.x rfl rfl))) hf)
def Qm(B:qw fP lI [w,p] c)(hf:Ex.lb CV c=some d):ao [.int 1,w,p,l]=some d :=
 aO (An (ρ:=env 1 w p l) ((ak (aX (Ti 1 0))).trans (Hi (Qj (Ti 1 1) (xi B.n rfl)))) ((J9 (EJ (Ti 1 0)) (aX (Ti 1 0))).trans ((Qv (Ti 1 1)).trans (NZ B.x rfl rfl))) hf)
def PY(B:qw bU du [w,p] c)(hf:Ex.lb CV c=some d):ao [.int 2,w,p,l]=some d :=
 aO (An (ρ:=env 2 w p l) ((ak (aX (Ti 2 0))).trans (Hi (OO (Ti 2 1) (xi B.n rfl)))) ((J9 (EJ (Ti 2 0)) (aX (Ti 2 0))).trans ((Pz (Ti 2 1)).trans (NZ B.x rfl rfl))) hf)
abbrev aP:Dl.Env->Option (List D):=aa (ae 0) (aa (ae 1) af)
def Ox(B:qw aW bA [w,p] c):qw dZ gW [w,p,l] c :=
 let z:=B.head (ρ:=[.val w,.val p,.val l]) (fs:=aP) rfl rfl
 ⟨runN z.1,z.2⟩
def Kk(B:qw aW bA [w,p] c):qw fP lI [w,p] c :=
 let z:=B.head (ρ:=[.val w,.val p,.RK,.RK,.RK,.RK]) (fs:=aP) rfl rfl (xr:=Ex.iX);let z2:=B.one (ρ:=[.val w,.val p,.RK,.RK,.RK,.RK]) (fs:=aP) (n:=2) rfl rfl
 ⟨runN z.1,z2.2⟩
def Mt(B:qw fP lI [w,p] c):qw bU du [w,p] c:=by
 have h0:ai 2 fP aP [some w,some p]=none:=xi B.n rfl;have h1:aa (ae 0) (aa (f2 aw (ai 2 fP aP) (f1 eQ (fC (.int 1)))) af) [some w,some p]=none:=by
  unfold aa f2;rw[h0];rfl
 refine⟨runN (Hi ?_),?_⟩
 ·show ai 2 iH (aa (ae 0) (aa (f2 aw (ai 2 fP aP) (f1 eQ (fC (.int 1)))) af)) [some w,some p]=none;unfold ai at h1 ⊢;rw[h1];rfl
 ·show Ex.qv 2 lI aP [some w,some p]=some c;exact NZ B.x rfl rfl
abbrev aN:Dl.Env->Option (List D):=aa (ae 2) (aa (bz bg (aa (ae 1) af)) af)
def Ou(h:Wd G T W)(q:Pn G T W P)(B:qw bj bO [l,nD W.length] c):qw dZ gW [aH G T W,ag P,l] c :=
 let z:=λg xr=>(Pj h q).tail (ρ:=[.val (aH G T W),.val (ag P),.val l]) (fs:=aP) (n:=2) rfl rfl (g:=g) (xr:=xr);let z2:=λg xr=>B.head (ρ:=[.val (aH G T W),.val (ag P),.val l]) (fs:=aN) (n:=2) (cons_of rfl (eY q.len rfl)) rfl (g:=g) (xr:=xr)
 ⟨runN ((z _ Ex.iX).1.trans (z2 _ Ex.iX).1),(z cP _).2.trans (z2 cP _).2⟩
def QS(hk:k < n):Ha bj bO [nD k,nD n]:=okN (n:=((n:Nat):Int)) rfl (by
 show (decide ((0:Int)<=((k:Nat):Int))&&decide (((k:Nat):Int)<=((n:Nat):Int) - 1))=true;rw[yA (by lia),yA (by lia)];rfl)
def JV(hk:k < W.length):(∃i∈fj G T W P,((i:Nat):Int)=((k:Nat):Int))↔dR G T W P k=3:=by
 constructor
 ·rintro⟨i,hi,e⟩;obtain rfl:i=k:=by lia
  unfold fj at hi;rw[List.mem_filter,zJ] at hi;exact hi.2
 ·exactλe=>⟨k,by unfold fj;rw[List.mem_filter,zS,zJ];exact⟨hk,e⟩,rfl⟩
def NJ(h:Wd G T W)(q:Pn G T W P)(hk:k < W.length):(fB (f2 xt (ae 2) (ai 2 hZ aP))) [some (aH G T W),some (ag P),some (nD k)]=some (!decide (dR G T W P k=3)):=by
 refine aQ (aq (a:=nD k) (b:=.list ((fj G T W P).map nD)) ((CG _ _).trans ?_) rfl (call_of (Ds h q) rfl rfl));rw[decide_eq_decide.mpr (JV (G:=G) (T:=T) (P:=P) hk)]
def EA(h:Wd G T W)(q:Pn G T W P)(hk:k < W.length)(e:dR G T W P k=3):dZ [aH G T W,ag P,nD k]=some (ag (gG G T W P k)):=by
 refine aO ?_;show pP [.val (aH G T W),.val (ag P),.val (nD k)]=_;unfold pP;refine ((Pj h q).tail (fs:=aP) (n:=2) rfl rfl (xr:=Ex.iX)).1.trans ?_;refine ((QS hk).tail (fs:=aN) (n:=2) (cons_of rfl (eY q.len rfl)) rfl (xr:=Ex.iX)).1.trans ?_;refine (ak (aX ((NJ h q hk).trans (by rw[yA e];rfl)))).trans ?_;exact aK (call_of (n8 h q hk e) rfl rfl)
def OA(h:Wd G T W)(q:Pn G T W P)(hk:k < W.length)(e:¬ dR G T W P k=3):qw dZ gW [aH G T W,ag P,nD k] MX:=by
 have t:=(NJ h q hk).trans (by rw[zZ e];rfl:some (!decide (dR G T W P k=3))=some true);have z:=λg xr=>(Pj h q).tail (ρ:=[.val (aH G T W),.val (ag P),.val (nD k)]) (fs:=aP) (n:=2) rfl rfl (g:=g) (xr:=xr);have z2:=λg xr=>(QS hk).tail (ρ:=[.val (aH G T W),.val (ag P),.val (nD k)]) (fs:=aN) (n:=2) (cons_of rfl (eY q.len rfl)) rfl (g:=g) (xr:=xr);refine⟨runN ((z _ Ex.iX).1.trans ((z2 _ Ex.iX).1.trans (Ob ((bw t).trans rfl)))),(z cP _).2.trans ((z2 cP _).2.trans ((Nf t).trans rfl))⟩
def Gg(n:Nat):List D:=[.int (-1),nD n,.none,.bool true,.bool false,.str "0",.tuple []]
def MN{n:Nat}:∀d∈Gg n,gy d=true/\whole 0 (((n:Nat):Int) - 1) d=false:=λd hd=>by
 simp?[Gg,zQ,yF,xS] at hd;rcases hd with rfl|rfl|rfl|rfl|rfl|rfl|rfl
 ·exact⟨rfl,rfl⟩
 ·refine⟨rfl,?_⟩;show (decide ((0:Int)<=((n:Nat):Int))&&decide (((n:Nat):Int)<=((n:Nat):Int) - 1))=false;rw[zZ (show ¬ ((n:Nat):Int)<=((n:Nat):Int) - 1 by lia),vB]
 all_goals exact⟨rfl,rfl⟩
def Ej(P:List Int):List D:=[.none,ag (P++[0]),.list (P.map PyData.int),.tuple (List.replicate (P.length+2) (.int 9))]
def KL(h:Wd G T W)(hp:P.length=W.length):∀d∈Ej P,cY [aH G T W,d]=some (.bool false):=λd hd=>by
 simp?[Ej,zQ,yF,xS] at hd;rcases hd with rfl|rfl|rfl|rfl
 ·exact oM h rfl rfl
 ·exact oM h rfl (wc (by rw[zD,zN,xB];lia))
 ·exact oM h rfl rfl
 ·exact oM h rfl (wc (by rw[xK];lia))
def Ih{j:Int}{w p:D}(h0:ao [.int 0,w,p,.bool true]=some (cC j))(h1:ao [.int 1,w,p,.bool true]=some (cC j))(h2:ao [.int 2,w,p,.bool true]=some (cC j)):∀i∈List.range 3,ao [nD i,w,p,.bool true]=some (cC j):=λi hi=>by
 rw[zS] at hi;rcases i with _|_|_|i
 ·exact h0
 ·exact h1
 ·exact h2
 ·lia
def Fo(B:qw aW bA [w,p] c){j:Int}(hf:Ex.lb CV c=some (cC j)):∀i∈List.range 3,ao [nD i,w,p,.bool true]=some (cC j) :=
 Ih (MP (Ox B) hf) (Qm (Kk B) hf) (PY (Mt (Kk B)) hf)
def jy{i:Nat}{gb:ar->Option Out}(R:ar->Prop):∀ {ds:List D}{ρ:ar},(∀d∈ds,∀ρ,R ρ->∃ρ',gb (ρ.set i (.val d))=some (.nx ρ')/\R ρ')->R ρ->∃ρ',d9 (oE i) gb ds ρ=some (.nx ρ')/\R ρ'
 | [],ρ,_,h=>⟨ρ,rfl,h⟩
 | d::ds,ρ,hh,h=>by
  let⟨ρ1,e1,h1⟩:=hh d zE ρ h;let⟨Tp,e2,h2⟩:=jy R (λd hd=>hh d (zC _ hd)) h1;exact⟨Tp,(nu rfl e1).trans e2,h2⟩
abbrev st(ns:List Int)(G T:List Pl)(W:List Wy)(x2 x3 x4 x5 x6 x7 x8:Slot):ar:=[.val (cE ns),.val (aH G T W),x2,x3,x4,x5,x6,x7,x8,.RK,.RK,.RK]
def wB:ar->Option Out:=(au (Dl.aI 6 [1,3,4,5] (uL (fB (f2 k7 (ae 5) (ae 4))) (ai 3 bL (aa (ae 1) (aa (ae 3) (aa (ae 5) af)))) (ax (aa (fC (.str "refused")) (aa (fC (.int 2)) af))))) (dE (fB (f2 cR (ai 4 ao (aa (fC (.int 0)) (aa (ae 1) (aa (ae 3) (aa (ae 5) af))))) (ae 6))) (aE (fC (.bool false))) cP))
def Hj(hk:k < W.length):k7 (nD k) (.list ((fj G T W P).map nD))=some (.bool (decide (dR G T W P k=3))):=(CK _ _).trans (by rw[decide_eq_decide.mpr (JV (G:=G) (T:=T) (P:=P) hk)])
def Eg(ns:List Int)(h:Wd G T W)(q:Pn G T W P)(hk:k < W.length){x2 x6 x7 x8:Slot}:∃y6,wB (st ns G T W x2 (.val (ag P)) (.val (.list ((fj G T W P).map nD))) (.val (nD k)) x6 x7 x8)=some (.nx (st ns G T W x2 (.val (ag P)) (.val (.list ((fj G T W P).map nD))) (.val (nD k)) y6 x7 x8)):=by
 unfold wB;have t:∀ρ:Dl.Env,ae 5 ρ=some (nD k)->ae 4 ρ=some (.list ((fj G T W P).map nD))->(fB (f2 k7 (ae 5) (ae 4))) ρ=some (decide (dR G T W P k=3)):=λρ a5 a4=>aQ (aq (Hj hk) a5 a4);by_cases e:dR G T W P k=3
 ·refine⟨.val (ag (gG G T W P k)),?_⟩;have e6:∀ρ:Dl.Env,ae 1 ρ=some (aH G T W)->ae 3 ρ=some (ag P)->ae 5 ρ=some (nD k)->ae 4 ρ=some (.list ((fj G T W P).map nD))->uL (fB (f2 k7 (ae 5) (ae 4))) (ai 3 bL (aa (ae 1) (aa (ae 3) (aa (ae 5) af)))) (ax (aa (fC (.str "refused")) (aa (fC (.int 2)) af))) ρ=some (ag (gG G T W P k)):=λρ a1 a3 a5 a4=>mF ((t ρ a5 a4).trans (by rw[yA e])) (call_of (o6 h q hk e) (cons_of a1 (cons_of a3 (cons_of a5 rfl))) rfl);refine (ak (l5 (e6 _ rfl rfl rfl rfl) (e6 _ rfl rfl rfl rfl))).trans ?_;exact aX (aQ (aq (Dw _) (call_of (NO (EA h q hk e)) rfl rfl) rfl))
 ·refine⟨.val (cC 2),?_⟩;have e6:∀ρ:Dl.Env,ae 5 ρ=some (nD k)->ae 4 ρ=some (.list ((fj G T W P).map nD))->uL (fB (f2 k7 (ae 5) (ae 4))) (ai 3 bL (aa (ae 1) (aa (ae 3) (aa (ae 5) af)))) (ax (aa (fC (.str "refused")) (aa (fC (.int 2)) af))) ρ=some (cC 2):=λρ a5 a4=>qg ((t ρ a5 a4).trans (by rw[zZ e])) (tup_is rfl (by simp));refine (ak (fT rfl (e6 _ rfl rfl) (e6 _ rfl rfl) rfl)).trans ?_;exact aX (aQ (aq (vq 2) (call_of (MP (OA h q hk e) QG) rfl rfl) rfl))
def bB:ar->Option Out:=(dE (fB (f2 cR (ai 4 ao (aa (fC (.int 0)) (aa (ae 1) (aa (ae 3) (aa (ae 8) af))))) (ax (aa (fC (.str "refused")) (aa (fC (.int 2)) af))))) (aE (fC (.bool false))) cP)
def KQ(ns:List Int)(h:Wd G T W)(q:Pn G T W P)(hd:d∈Gg W.length){x2 x4 x5 x6 x7:Slot}:bB (st ns G T W x2 (.val (ag P)) x4 x5 x6 x7 (.val d))=some (.nx (st ns G T W x2 (.val (ag P)) x4 x5 x6 x7 (.val d))):=by
 let⟨z1,z2⟩:=MN d hd;unfold bB;exact aX (aQ (aq (vq 2) (call_of (MP (Ou h q (Ph (n:=((W.length:Nat):Int)) z1 z2)) QG) rfl rfl) (tup_is rfl (by simp))))
def cB:ar->Option Out:=(dE (fB (f2 cR (cg (az 1 [1,8] (aS (aa (fC (.int 3)) af)) (fG 0) (λ_=>some true) (ai 4 ao (aa (ae 0) (aa (ae 1) (aa (ae 2) (aa (fC (.bool true)) af))))))) (cg (nW (dg (aa (ax (aa (fC (.str "refused")) (aa (fC (.int 1)) af))) af)) (fC (.int 3)))))) (aE (fC (.bool false))) cP)
def Gb(ns:List Int)(h:Wd G T W)(q:Pn G T W P)(hd:d∈Ej P){x2 x4 x5 x6 x7:Slot}:cB (st ns G T W x2 (.val (ag P)) x4 x5 x6 x7 (.val d))=some (.nx (st ns G T W x2 (.val (ag P)) x4 x5 x6 x7 (.val d))):=by
 have B:=Fo (PX h (KL h q.len d hd)) (j:=1) RI;unfold cB;refine aX (aQ (aq (Dg 1 3) (sy (is:=List.range 3) (fW (n:=3) rfl (by lia)) (by simp) λi hi=>call_of (B i hi) rfl rfl) (xl 1 (n:=3) (by lia) _)))
def Nz{n:Nat}(hl:n<=1000):Dl.cm (.tuple [.int 9]) (nD n)=some (.tuple (List.replicate n (.int 9))):=by
 have e:pZ (.tuple [.int 9]) (nD n)=some (.tuple (List.replicate n (.int 9))):=by
  show (if uN ((n:Nat):Int)=true/\[PyData.int 9].length * ((n:Nat):Int).toNat<=sizeLine then some (PyData.tuple (List.replicate ((n:Nat):Int).toNat [PyData.int 9]).flatten) else none)=_;have hz:[PyData.int 9].length * n<=sizeLine:=by
   rw[xB,Nat.one_mul];exact yD hl (by decide)
  rw[yG,yK ⟨mH hl,hz⟩,mX]
 show ((sT pY λi j=>PyData.int (i * j)) (.tuple [.int 9]) (nD n)).or (pZ (.tuple [.int 9]) (nD n))=_;rw[e];rfl
def oB:ar->Option Out:=(au (Dl.aI 3 [0,1,2] (ai 3 dM (aa (ae 0) (aa (f2 Dl.aB (fC (.int 70)) (f2 Dl.cm (fC (.int 10)) (ae 2))) (aa (ae 1) af))))) (au (Dl.aI 4 [1,3] (ai 2 bf (aa (ae 1) (aa (ae 3) af)))) (au (cN [3] (aS (aa (bz bg (aa (ae 3) af)) af)) (oE 5) wB) (au (Dl.aI 7 [1,3] (ai 2 b8 (aa (ae 1) (aa (ae 3) af)))) (au (dE (fB (f2 cR (ai 4 ao (aa (fC (.int 1)) (aa (ae 1) (aa (ae 3) (aa (fC .none) af))))) (ae 7))) (aE (fC (.bool false))) cP) (au (dE (fB (f2 cR (ai 4 ao (aa (fC (.int 2)) (aa (ae 1) (aa (ae 3) (aa (fC .none) af))))) (ai 2 fH (aa (ae 1) (aa (f2 aw (ae 7) (f1 eQ (fC (.int 1)))) af))))) (aE (fC (.bool false))) cP) (au (cN [3] (bJ (ax (aa (f1 eQ (fC (.int 1))) (aa (bz bg (aa (ae 3) af)) (aa (fC .none) (aa (fC (.bool true)) (aa (fC (.bool false)) (aa (fC (.str "0")) (aa (ax af) af))))))))) (oE 8) bB) (cN [3] (bJ (ax (aa (fC .none) (aa (f2 Dl.aB (ae 3) (ax (aa (fC (.int 0)) af))) (aa (cg (lO cy (aa (ae 3) af))) (aa (f2 Dl.cm (ax (aa (fC (.int 9)) af)) (f2 Dl.aB (bz bg (aa (ae 3) af)) (fC (.int 2)))) af)))))) (oE 8) cB))))))))
def zw{ns:List Int}(hl:ns.length<=63)(h:Wd G T W)(h2:∀w∈W,w.2.2<=2)(hw:W.length<=9)(j:Nat){x3 x4 x5 x6 x7 x8:Slot}:∃y3 y4 y5 y6 y7 y8,oB (st ns G T W (.val (nD j)) x3 x4 x5 x6 x7 x8)=some (.nx (st ns G T W (.val (nD j)) y3 y4 y5 y6 y7 y8)):=by
 obtain⟨P,eP,q⟩:∃P,dM [cE ns,.int (70+10 * ((j:Nat):Int)),aH G T W]=some (ag P)/\Pn G T W P:=⟨_,yr hl h,Hg hl h⟩
 have hL:∀ρ:Dl.Env,ae 3 ρ=some (ag P)->bz bg (aa (ae 3) af) ρ=some (nD W.length):=λρ a=>by
  rw[<- q.len];exact (nK a).trans (ui P)
 have hp:=q.len;have e3:∀ρ:Dl.Env,ae 0 ρ=some (cE ns)->ae 1 ρ=some (aH G T W)->ae 2 ρ=some (nD j)->ai 3 dM (aa (ae 0) (aa (f2 Dl.aB (fC (.int 70)) (f2 Dl.cm (fC (.int 10)) (ae 2))) (aa (ae 1) af))) ρ=some (ag P):=λρ a0 a1 a2=>call_of eP (cons_of a0 (cons_of (aq (dk 70 (10 * ((j:Nat):Int))) rfl (aq (dX (jc (by decide))) rfl a2)) (cons_of a1 rfl))) rfl;have e4:∀ρ:Dl.Env,ae 1 ρ=some (aH G T W)->ae 3 ρ=some (ag P)->ai 2 bf (aa (ae 1) (aa (ae 3) af)) ρ=some (.list ((fj G T W P).map nD)):=λρ a1 a3=>call_of (ED h hp (q.Vc h)) (cons_of a1 (cons_of a3 rfl)) rfl;have e7:∀ρ:Dl.Env,ae 1 ρ=some (aH G T W)->ae 3 ρ=some (ag P)->ai 2 b8 (aa (ae 1) (aa (ae 3) af)) ρ=some (.list ((eS G T W P).map ag)):=λρ a1 a3=>call_of (me h q h2 hw) (cons_of a1 (cons_of a3 rfl)) rfl;let⟨ρ5,f5,y5,y6,rfl⟩:=jy (i:=5) (gb:=wB) (λρ=>∃y5 y6,ρ=st ns G T W (.val (nD j)) (.val (ag P)) (.val (.list ((fj G T W P).map nD))) y5 y6 x7 x8) (ds:=(List.range W.length).map nD) (ρ:=st ns G T W (.val (nD j)) (.val (ag P)) (.val (.list ((fj G T W P).map nD))) x5 x6 x7 x8)
  (λd hd ρ S9=>by
   let⟨y5,y6,rfl⟩:=S9;let⟨k,hk,rfl⟩:=List.mem_map.mp hd;let⟨z6,e⟩:=Eg (k:=k) (x2:=.val (nD j)) (x6:=y6) (x7:=x7) (x8:=x8) ns h q (by simpa using hk);exact⟨_,e,_,_,rfl⟩) ⟨_,_,rfl⟩
 let⟨ρ8,f8,y8,rfl⟩:=jy (i:=8) (gb:=bB) (λρ=>∃y8,ρ=st ns G T W (.val (nD j)) (.val (ag P)) (.val (.list ((fj G T W P).map nD))) y5 y6 (.val (.list ((eS G T W P).map ag))) y8) (ds:=Gg W.length) (ρ:=st ns G T W (.val (nD j)) (.val (ag P)) (.val (.list ((fj G T W P).map nD))) y5 y6 (.val (.list ((eS G T W P).map ag))) x8)
  (λd hd ρ S9=>by
   let⟨y8,rfl⟩:=S9;exact⟨_,KQ ns h q hd,_,rfl⟩) ⟨_,rfl⟩
 let⟨ρ9,f9,y9,rfl⟩:=jy (i:=8) (gb:=cB) (λρ=>∃y8,ρ=st ns G T W (.val (nD j)) (.val (ag P)) (.val (.list ((fj G T W P).map nD))) y5 y6 (.val (.list ((eS G T W P).map ag))) y8) (ds:=Ej P) (ρ:=st ns G T W (.val (nD j)) (.val (ag P)) (.val (.list ((fj G T W P).map nD))) y5 y6 (.val (.list ((eS G T W P).map ag))) y8)
  (λd hd ρ S9=>by
   let⟨y8,rfl⟩:=S9;exact⟨_,Gb ns h q hd,_,rfl⟩) ⟨_,rfl⟩
 let⟨w1,wp⟩:=F8 h q;refine⟨.val (ag P),.val (.list ((fj G T W P).map nD)),y5,y6,.val (.list ((eS G T W P).map ag)),y9,?_⟩;unfold oB;refine (ak (l5 (e3 _ rfl rfl rfl) (e3 _ rfl rfl rfl))).trans ?_;refine (ak (fT rfl (e4 _ rfl rfl) (e4 _ rfl rfl) rfl)).trans ?_;refine (ak (bQ f5 (fW (eY hp rfl) (by lia)) rfl)).trans ?_;refine (ak (fT rfl (e7 _ rfl rfl) (e7 _ rfl rfl) rfl)).trans ?_;refine (ak (aX (aQ (aq ((sJ (eS G T W P) _).trans (by rw[yA rfl];rfl)) (call_of (JW (zk h q h2 hw)) rfl rfl) rfl)))).trans ?_;refine (ak (aX (aQ (aq (Cr _) (call_of (Kj (BS h q h2 hw)) rfl rfl) (call_of (xc h wp.len (wp.Vc h)) (cons_of rfl (cons_of (aq (b:=.int (-1)) (jr w1) rfl rfl) rfl)) rfl))))).trans ?_;refine (ak (bQ f8 (tH (tup_is (cons_of rfl (cons_of (hL _ rfl) rfl)) (by simp[Gg]))) rfl)).trans ?_;exact bQ f9 (tH (tup_is (cons_of rfl (cons_of (aq (mi (a:=P) (b:=[0]) (by simp;lia)) rfl (uB rfl)) (cons_of (nO rfl) (cons_of (aq (Nz (n:=P.length+2) (by lia)) (uB rfl) (aq (dk ((P.length:Nat):Int) 2) ((nK rfl).trans (ui P)) rfl)) rfl)))) (by simp[Ej]))) rfl
abbrev G9:List Pl:=[(1,[0,2,1]),(1,[1,0,2]),(1,[0,2,1])]
abbrev T9:List Pl:=[(1,[1,0,2]),(1,[0,2,1]),(1,[2,1,0])]
abbrev W9:List Wy:=[(0,0,1),(0,1,1),(0,2,1),(1,0,1),(1,1,1),(1,2,1),(2,0,1),(2,1,1),(2,2,1)]
abbrev Z9:List Int:=[0,0,0,0,0,0,0,0,0]
def Qw:Wd G9 T9 W9 where
 g1:=by decide
 g4:=by decide
 t1:=by decide
 t4:=by decide
 ga:=by decide
 ta:=by decide
 gl:=by
  intro i p hp
  match i,hp with
  | 0,hp=>injection hp with hp;subst hp;exact (show List.Perm ([0,2,1]:List Int) (wg W9 ((0:Nat):Int)) by decide)
  | 1,hp=>injection hp with hp;subst hp;exact (show List.Perm ([1,0,2]:List Int) (wg W9 ((1:Nat):Int)) by decide)
  | 2,hp=>injection hp with hp;subst hp;exact (show List.Perm ([0,2,1]:List Int) (wg W9 ((2:Nat):Int)) by decide)
 tl:=by
  intro i p hp
  match i,hp with
  | 0,hp=>injection hp with hp;subst hp;exact (show List.Perm ([1,0,2]:List Int) (ofT W9 ((0:Nat):Int)) by decide)
  | 1,hp=>injection hp with hp;subst hp;exact (show List.Perm ([0,2,1]:List Int) (ofT W9 ((1:Nat):Int)) by decide)
  | 2,hp=>injection hp with hp;subst hp;exact (show List.Perm ([2,1,0]:List Int) (ofT W9 ((2:Nat):Int)) by decide)
 wr:=by decide
 wp:=by decide
 wl:=by decide
def PF:Pn G9 T9 W9 Z9 where
 len:=rfl
 bd:=by decide
 am:=λb i hi=>by
  have hi:i < 3:=by cases b<;>exact hi
  rcases (by lia:i=0\/i=1\/i=2) with rfl|rfl|rfl<;>cases b<;>decide
def Nx:(eS G9 T9 W9 Z9).length=9/\decide (fj G9 T9 W9 (xq G9 T9 W9 Z9)=[])=false:=by
 constructor<;>kernel_rfl
def Nk:(List.range 9).map (λi=>PyData.tuple [.int (((i:Nat):Int) / 3),.int (((i:Nat):Int) % 3),.int 1])=W9.map aA:=by kernel_rfl
def Qe(ρ:Dl.Env):f2 Dl.cm (ax (aa (fC (.int 0)) af)) (fC (.int 9)) ρ=some (ag Z9):=aq (Ki (n:=9) (by lia)) (uB rfl) rfl
def main(ns:List Int)(hl:ns.length<=63):gR [.list (ns.map PyData.int)]=some (.bool true):=by
 let⟨G,T,W,ew,h,f⟩:=wt (ns:=ns) (a:=0) (mo:=9) hl (by decide);have hw:W.length<=9:=by have:=f.wm;lia
 let⟨w1,w2⟩:=Nx;refine aO ?_;show (au (Dl.aI 1 [0] (ai 3 cA (aa (ae 0) (aa (fC (.int 0)) (aa (fC (.int 9)) af))))) (au (cN [] (aS (aa (fC (.int 3)) af)) (oE 2) oB) (au (Dl.aI 9 [] (ax (aa (ax (aa (fC (.int 1)) (aa (ax (aa (fC (.int 0)) (aa (fC (.int 2)) (aa (fC (.int 1)) af)))) af))) (aa (ax (aa (fC (.int 1)) (aa (ax (aa (fC (.int 1)) (aa (fC (.int 0)) (aa (fC (.int 2)) af)))) af))) (aa (ax (aa (fC (.int 1)) (aa (ax (aa (fC (.int 0)) (aa (fC (.int 2)) (aa (fC (.int 1)) af)))) af))) af))))) (au (Dl.aI 10 [] (ax (aa (ax (aa (fC (.int 1)) (aa (ax (aa (fC (.int 1)) (aa (fC (.int 0)) (aa (fC (.int 2)) af)))) af))) (aa (ax (aa (fC (.int 1)) (aa (ax (aa (fC (.int 0)) (aa (fC (.int 2)) (aa (fC (.int 1)) af)))) af))) (aa (ax (aa (fC (.int 1)) (aa (ax (aa (fC (.int 2)) (aa (fC (.int 1)) (aa (fC (.int 0)) af)))) af))) af))))) (au (Dl.aI 11 [9,10] (ax (aa (ae 9) (aa (ae 10) (aa (bz dD (aa (cg (az 1 [] (aS (aa (fC (.int 9)) af)) (fG 0) (λ_=>some true) (ax (aa (f2 Dl.iW (ae 0) (fC (.int 3))) (aa (f2 Dl.g9 (ae 0) (fC (.int 3))) (aa (fC (.int 1)) af)))))) af)) af))))) (au (Dl.aI 7 [11] (ai 4 ao (aa (fC (.int 1)) (aa (ae 11) (aa (f2 Dl.cm (ax (aa (fC (.int 0)) af)) (fC (.int 9))) (aa (fC .none) af)))))) (au (dE (m5 (fB (f2 cR (ae 7) (ai 2 b8 (aa (ae 11) (aa (f2 Dl.cm (ax (aa (fC (.int 0)) af)) (fC (.int 9))) af))))) (m5 (fB (f2 cR (bz bg (aa (ae 7) af)) (fC (.int 9)))) (fB (f2 i8 (ai 4 ao (aa (fC (.int 2)) (aa (ae 11) (aa (f2 Dl.cm (ax (aa (fC (.int 0)) af)) (fC (.int 9))) (aa (fC .none) af))))) (fC (.bool false)))))) (aE (fC (.bool false))) cP) (aE (f2 aY (cg (az 1 [1] (aS (aa (fC (.int 3)) af)) (fG 0) (λ_=>some true) (ai 4 ao (aa (ae 0) (aa (eA cw (ae 1) eX (nY (fC (.int 2)))) (aa (fC .none) (aa (fC (.bool true)) af))))))) (cg (nW (dg (aa (ax (aa (fC (.str "refused")) (aa (fC (.int 0)) af))) af)) (fC (.int 3))))))))))))) [.val (cE ns),.RK,.RK,.RK,.RK,.RK,.RK,.RK,.RK,.RK,.RK,.RK]=_;refine (ak (bo (call_of ew rfl rfl) (call_of ew rfl rfl) rfl)).trans ?_;let⟨ρ,fo,x2,x3,x4,x5,x6,x7,x8,rfl⟩:=jy (i:=2) (gb:=oB) (λρ=>∃x2 x3 x4 x5 x6 x7 x8,ρ=st ns G T W x2 x3 x4 x5 x6 x7 x8) (ds:=(List.range 3).map nD) (ρ:=st ns G T W .RK .RK .RK .RK .RK .RK .RK)
  (λd hd ρ S9=>by
   let⟨x2,x3,x4,x5,x6,x7,x8,rfl⟩:=S9;let⟨j,hj,rfl⟩:=List.mem_map.mp hd;let⟨y3,y4,y5,y6,y7,y8,e⟩:=zw (ns:=ns) (x3:=x3) (x4:=x4) (x5:=x5) (x6:=x6) (x7:=x7) (x8:=x8) hl h f.w2 hw j;exact⟨_,e,_,_,_,_,_,_,_,rfl⟩) ⟨_,_,_,_,_,_,_,rfl⟩
 refine (ak (bQ fo (fW (n:=3) rfl (by lia)) rfl)).trans ?_;refine (ak (bo (d:=.tuple (G9.map ba)) rfl rfl rfl)).trans ?_;refine (ak (bo (d:=.tuple (T9.map ba)) rfl rfl rfl)).trans ?_;have eW:∀ρ:Dl.Env,ae 9 ρ=some (.tuple (G9.map ba))->ae 10 ρ=some (.tuple (T9.map ba))->ax (aa (ae 9) (aa (ae 10) (aa (bz dD (aa (cg (az 1 [] (aS (aa (fC (.int 9)) af)) (fG 0) (λ_=>some true) (ax (aa (f2 Dl.iW (ae 0) (fC (.int 3))) (aa (f2 Dl.g9 (ae 0) (fC (.int 3))) (aa (fC (.int 1)) af)))))) af)) af))) ρ=some (aH G9 T9 W9):=λρ a9 a10=>by
  have c:=kr (cs:=[]) (ρ:=ρ) (fi:=aS (aa (fC (.int 9)) af)) (te:=(ax (aa (f2 Dl.iW (ae 0) (fC (.int 3))) (aa (f2 Dl.g9 (ae 0) (fC (.int 3))) (aa (fC (.int 1)) af))))) (is:=List.range 9) (f:=λi=>PyData.tuple [.int (((i:Nat):Int) / 3),.int (((i:Nat):Int) % 3),.int 1]) (fW (n:=9) rfl (by lia)) (by simp) λi hi=>by
   have hi:i < 9:=by simpa using hi
   rcases (by lia:i=0\/i=1\/i=2\/i=3\/i=4\/i=5\/i=6\/i=7\/i=8) with rfl|rfl|rfl|rfl|rfl|rfl|rfl|rfl|rfl<;>rfl
  rw[Nk] at c;exact tup_is (cons_of a9 (cons_of a10 (cons_of ((nK (nO c)).trans rfl) rfl))) (by simp)
 refine (ak (bo (eW _ rfl rfl) (eW _ rfl rfl) rfl)).trans ?_;have e1:=zk Qw PF (by decide) (by decide);have e7:∀ρ:Dl.Env,ae 11 ρ=some (aH G9 T9 W9)->ai 4 ao (aa (fC (.int 1)) (aa (ae 11) (aa (f2 Dl.cm (ax (aa (fC (.int 0)) af)) (fC (.int 9))) (aa (fC .none) af)))) ρ=some (.list ((eS G9 T9 W9 Z9).map ag)):=λρ a=>call_of (JW e1) (cons_of rfl (cons_of a (cons_of (Qe ρ) rfl))) rfl;refine (ak (fT rfl (e7 _ rfl) (e7 _ rfl) rfl)).trans ?_;refine (ak (aX ?_)).trans ?_
 ·refine Ku (aQ (aq ((sJ (eS G9 T9 W9 Z9) _).trans (by rw[yA rfl];rfl)) rfl (call_of (me Qw PF (by decide) (by decide)) (cons_of rfl (cons_of (Qe _) rfl)) rfl))) (Ku (aQ (aq ((GK _ 9).trans ?_) (Ez (r:=eS G9 T9 W9 Z9) (g:=ag) rfl) rfl)) (aQ (aq (a:=.bool false) (b:=.bool false) rfl (call_of ((Kj (BS Qw PF (by decide) (by decide))).trans (by rw[w2])) (cons_of rfl (cons_of rfl (cons_of (Qe _) rfl))) rfl) rfl)));rw[w1];rfl
 have Z0:∀ρ:Dl.Env,ae 1 ρ=some (aH G T W)->eA cw (ae 1) eX (nY (fC (.int 2))) ρ=some (.tuple [.tuple (G.map ba),.tuple (T.map ba)]):=λρ h1=>by
  unfold eA;rw[h1];rfl
 have B:=Fo (w:=.tuple [.tuple (G.map ba),.tuple (T.map ba)]) (p:=.none) (KN (IB h)) (j:=0) Rc;exact aK (aq (Dh 0 3) (sy (is:=List.range 3) (j:=0) (fW (n:=3) rfl (by lia)) (by simp) λi hi=>call_of (B i hi) (cons_of rfl (cons_of (Z0 _ rfl) rfl)) rfl) (xl 0 (n:=3) (by lia) _))
end
end K43M
end Wm
namespace K43
open PySem L2 Dl PySem.Spec PyProof.Rows Pg Hd PySem.W Rg
def main(ns:List Int)(h:ns.length<=63):gR [.list (ns.map PyData.int)]=some (.bool true):=Wm.K43M.main ns h
def ins(P:Params){h:Heap}{mg:Str->Option Value}(X:(Kf P).In h)(G:h.Ns mainGlobals mg):L9 (Kf P) mg:=⟨λ_ _ _=>by
 have B:∀x∈cG,mg x=none:=λx hx=>mg_none_of X G (Dl.Lo (by kernel_rfl) x hx);have M:Ex.tI (Kf P) mg RC Q6:=Ex.HK X G (by kernel_rfl);refine ot (top 54) (f4 341 340 kc) M (ns:=RB) (Ex.Og (st:=top 53) ((f1 334 333 kc).mg X G) M B rfl Rf.O8 rfl rfl rfl rfl (by decide +kernel) (by decide +kernel) (by decide) rfl rfl) ?_;refine on (top 52) (f2 327 326 kc) ?_;refine on (top 51) (f3 320 319 kc) ?_;refine on (top 50) (f4 313 312 kc) ?_;refine on (top 49) (f2 306 305 kc) ?_;refine on (top 48) (f2 301 300 kc) ?_;refine on (top 47) (f3 296 295 kc) ?_;refine on (top 46) (f5 289 288 kc) ?_;refine on (top 45) (f3 282 281 kc) ?_;refine on (top 44) (f2 275 274 kc) ?_;refine on (top 43) (f4 268 267 kc) ?_;refine on (top 42) (f3 263 262 kc) ?_;refine on (top 41) (f3 258 257 kc) ?_;refine on (top 40) (f3 251 250 kc) ?_;refine on (top 39) (f2 244 243 kc) ?_;refine ox (top 37) (f2 237 236 G8) ?_;refine ox (top 36) (f2 230 229 G8) ?_;refine ox (top 35) (f3 223 222 G8) ?_;refine on (top 34) (f3 216 215 G8) ?_;refine on (top 33) (f4 209 208 G8) ?_;refine ox (top 31) (f2 204 203 Dx) ?_;refine oz "is_still" ?_;refine on (top 30) (f2 199 198 Dx) ?_;refine on (top 29) (f2 192 191 Dx) ?_;refine on (top 28) (f3 185 184 Dx) ?_;refine on (top 27) (f4 178 177 Dx) ?_;refine ol (top 26) Cf "ways_of.<locals>.<lambda>" (l3 173 172 Dx) ?_;refine on (top 24) (f3 168 167 kf) ?_;refine ox (top 23) (f2 161 160 kf) ?_;refine ox (top 22) (f3 154 153 kf) ?_;refine ox (top 21) (f2 147 146 kf) ?_;refine ox (top 20) (f1 140 139 kf) ?_;refine on (top 19) (f2 133 132 kf) ?_;refine on (top 18) (f3 128 127 kf) ?_;refine on (top 17) (f4 123 122 kf) ?_;refine on (top 16) (f1 118 117 kf) ?_;refine on (top 15) (f1 113 112 kf) ?_;refine on (top 14) (f3 108 107 kf) ?_;refine on (top 13) (f3 103 102 kf) ?_;refine on (top 12) (f2 96 95 kf) ?_;refine on (top 11) (f2 89 88 kf) ?_;refine on (top 10) (f3 84 83 kf) ?_;refine on (top 9) (f2 77 76 kf) ?_;refine on (top 8) (f3 70 69 kf) ?_;exact⟨Rf.Px,Ex.PQ,(Rf.J0 ⟨257,mg_of X G (by kernel_rfl)⟩ (Rf.J0 ⟨259,mg_of X G (by kernel_rfl)⟩ Rf.P8)),B,M.ok (by decide +kernel),⟨_,X,G⟩⟩,gw.mg (f1 346 345 kc) X G⟩
def OY(w:World):mM (Kf w.params) [170]=true:=by kernel_rfl
end K43
open PySem PySem.W PyProof.Rows
theorem PySem.Challenge.cw_stillflow_k43_walks_holds : PySem.Challenge.rw_stillflow_k43_walks.Holds := by
 refine holds_law K43.Pv λk1=>?_
 refine holds_open (XP:=XL K43.vw []) (YP:=K43.hk.says) K43.left K43.hk.of K43.hk.keeps (λs e=>xl_of s (Bool.and_eq_true_iff.mp e).1) XL.keeps (by rfl) (by rfl) (by rfl) (λs e=>recFacts_of (Bool.and_eq_true_iff.mp e).2) (by rfl) k1 (by decide +kernel) ⟨rfl,rfl,rfl,rfl,rfl,by decide +kernel⟩ ?hw ?hc
 case hw=>w_witness2
 case hc=>exact K43.walk (l:=PySem.Challenge.rw_stillflow_k43_walks) (K:=K43.Kf) (ts:=[170]) rfl rfl rfl (λw h Y=>⟨Y.1,Y.2⟩) K43.OY (λw=>K43.ins w.params) K43.main
